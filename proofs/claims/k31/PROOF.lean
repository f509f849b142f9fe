import PyProof.Rows.All
import Wide.All
import OpenK.AllK
import Wide.FinOn
import Lean
import PyProof.EqAt
import PyProof.EqKinds
import PyProof.TupleCall
import PyProof.EnumMake
import PyProof.EnumFor
import PyProof.Draws
import PyProof.DictWalks
import PyProof.ListRange
import PyProof.ZipIter
import PyProof.Rows.SortWalk
import PyProof.Rows.SumAny
import PyProof.TupleIter
import PyProof.MeetsStr2
import PyProof.StrWalks
import Wide.Txt
import PyProof.Rows.SortRuns
import PyProof.Rows.MinMaxN
import PyProof.ExcClass2
import PyProof.NsDelKeeps
import PyProof.ExcArgsOwn
import PyProof.ExcAttrAll.ValueError
import PyProof.ExcBaseAll.ValueError
import PySem.Challenge.RW_tanglehouse_k31_opened_crossings
set_option Elab.async false
set_option linter.all false
set_option maxRecDepth 100000
namespace L2
open PySem PySem.Spec PyProof.Rows
abbrev Key:=Sum Int Str
def Qez:Key->Value->Bool
 | .inl k,v=>Value.isInt k v
 | .inr x,v=>Value.isStrOf x v
def keyH (w:World):Key->Int
 | .inl k=>hashInt k
 | .inr x=>hashStr w x
theorem Jj:∀{k:Key} {v:Value},Qez k v=true->(∃i t,k=Sum.inl i/\v=Value.int i t)\/(∃x t,k=Sum.inr x/\v=Value.str x t)
 | .inl i,v,h=>by
  obtain ⟨t,e⟩:=Value.isInt_shape (k:=i) (v:=v) h
  exact .inl ⟨i,t,rfl,e⟩
 | .inr x,v,h=>by
  obtain ⟨t,e⟩:=Value.isStrOf_shape (x:=x) (v:=v) h
  exact .inr ⟨x,t,rfl,e⟩
theorem Qg2 (i:Int) (t:Tok):Qez (.inl i) (.int i t)=true:=by simp [Qez,Value.isInt]
theorem Qg1 (x:Str) (t:Tok):Qez (.inr x) (.str x t)=true:=by simp [Qez,Value.isStrOf]
theorem Qrg (a b:Int):decide ((Sum.inl a:Key)=Sum.inl b)=(a == b):=by
 by_cases e:a=b
 ·subst e;simp
 ·have h:¬(Sum.inl a:Key)=Sum.inl b:=λq=>e (Sum.inl.inj q)
  rw [decide_eq_false h]
  exact (beq_eq_false_iff_ne.mpr e).symm
theorem Qrd (a b:Str):decide ((Sum.inr a:Key)=Sum.inr b)=decide (a=b):=by
 by_cases e:a=b
 ·subst e;simp
 ·have h:¬(Sum.inr a:Key)=Sum.inr b:=λq=>e (Sum.inr.inj q)
  rw [decide_eq_false h,decide_eq_false e]
theorem Qrf (a:Int) (b:Str):decide ((Sum.inl a:Key)=Sum.inr b)=false:=decide_eq_false (λq=>nomatch q)
theorem Qre (a:Str) (b:Int):decide ((Sum.inr a:Key)=Sum.inl b)=false:=decide_eq_false (λq=>nomatch q)
def Q4 (prog:Program) (w:World):PySem.KeyKind prog w Key where
 is:=Qez
 hash:=keyH w
 inj:=λv a b ha hb=>by
  rcases Jj ha with ⟨i,t,rfl,rfl⟩ | ⟨x,t,rfl,rfl⟩
  ·rcases Jj hb with ⟨j,u,rfl,e⟩ | ⟨y,u,rfl,e⟩
   ·injection e with e1 _;rw [e1]
   ·exact nomatch e
  ·rcases Jj hb with ⟨j,u,rfl,e⟩ | ⟨y,u,rfl,e⟩
   ·exact nomatch e
   ·injection e with e1 _;rw [e1]
 byValue:=λk v h=>by
  rcases Jj h with ⟨i,t,rfl,rfl⟩ | ⟨x,t,rfl,rfl⟩ <;> rfl
 pyHash:=λhv h=>by
  rcases Jj hv with ⟨i,t,rfl,rfl⟩ | ⟨x,t,rfl,rfl⟩
  ·exact wpAny_pyHash_int h
  ·exact wpAny_pyHash_str h
 eqBool:=λhu hv h=>by
  rcases Jj hu with ⟨i,t,rfl,rfl⟩ | ⟨x,t,rfl,rfl⟩
  ·rcases Jj hv with ⟨j,u,rfl,rfl⟩ | ⟨y,u,rfl,rfl⟩
   ·rw [Qrg] at h;exact wpAny_eqBool_int h
   ·rw [Qrf] at h;exact SeqAt.EqAt.int_str i t y u _ _ _ _ h
  ·rcases Jj hv with ⟨j,u,rfl,rfl⟩ | ⟨y,u,rfl,rfl⟩
   ·rw [Qre] at h;exact SeqAt.EqAt.str_int x t j u _ _ _ _ h
   ·rw [Qrd] at h;exact wpAny_eqBool_str h
 «strs»:=λk x t v h=>by
  rcases Jj h with ⟨i,u,rfl,e⟩ | ⟨y,u,rfl,e⟩
  ·exact nomatch e
  ·injection e with e1 _
   subst e1
   cases v <;> rfl
theorem Qcv (prog:Program) (w:World) (i:Int) (t:Tok):(Q4 prog w).is (.inl i) (.int i t)=true:=Qg2 i t
theorem Qcu (prog:Program) (w:World) (x:Str) (t:Tok):(Q4 prog w).is (.inr x) (.str x t)=true:=Qg1 x t
end L2
namespace L2
open PySem PySem.Spec PyProof.Rows
inductive V where
 | non | bl (b:Bool) | int (i:Int) | str (x:Str) | byt (b:Array UInt8) | flt (b:UInt64) | ref (a:Addr) | ty (n:String)
 deriving DecidableEq
def RelV:V->Value->Prop
 | .non,u=>u=Value.none
 | .bl b,u=>u=Value.bool b
 | .int i,u=>∃t,u=Value.int i t
 | .str x,u=>∃t,u=Value.str x t
 | .byt b,u=>∃t,u=Value.bytes b t
 | .flt b,u=>∃t,u=Value.float b t
 | .ref a,u=>u=Value.ref a
 | .ty n,u=>u=Value.type n
abbrev Vals:List V->List Value->Prop:=Paired RelV
theorem Vals.length {xs:List V} {us:List Value} (r:Vals xs us):xs.length=us.length:=Paired.length r
theorem Vals.get:∀{xs:List V} {us:List Value} {i:Nat} {x:V},Vals xs us->xs[i]? = some x->∃u,us[i]? = some u/\RelV x u
 | _,_,_,_,.nil,e=>by simp at e
 | _,_,0,_,.cons r _,e=>by simp at e;subst e;exact ⟨_,rfl,r⟩
 | _,_,i+1,x,.cons _ t,e=>by
  obtain ⟨u,h1,h2⟩:=Vals.get (i:=i) (x:=x) t (by simpa using e)
  exact ⟨u,by simpa using h1,h2⟩
theorem Vals.set {x:V} {u:Value} (r:RelV x u):∀{xs:List V} {us:List Value} (i:Nat),Vals xs us->Vals (xs.set i x) (us.set i u)
 | _,_,_,.nil=>.nil
 | _,_,0,.cons _ t=>.cons r t
 | _,_,i+1,.cons q t=>.cons q (Vals.set r i t)
theorem Vals.append:∀{xs ys:List V} {us ws:List Value},Vals xs us->Vals ys ws->Vals (xs++ys) (us++ws)
 | _,_,_,_,.nil,s=>s
 | _,_,_,_,.cons r t,s=>.cons r (Vals.append t s)
theorem Vals.take:∀{xs:List V} {us:List Value} (n:Nat),Vals xs us->Vals (xs.take n) (us.take n)
 | _,_,0,_=>.nil
 | _,_,_+1,.nil=>.nil
 | _,_,n+1,.cons r t=>.cons r (Vals.take n t)
theorem Vals.drop:∀{xs:List V} {us:List Value} (n:Nat),Vals xs us->Vals (xs.drop n) (us.drop n)
 | _,_,0,r=>r
 | _,_,_+1,.nil=>.nil
 | _,_,n+1,.cons _ t=>Vals.drop n t
def RelO:Option V->Option Value->Prop
 | some v,some u=>RelV v u
 | none,none=>True
 | _,_=>False
def KV {κ:Type}:List (κ × V)->List (κ × Value)->Prop:=Paired λ(p:κ × V) (q:κ × Value)=>p.1=q.1/\RelV p.2 q.2
def kV:Key->V
 | .inl i=>.int i
 | .inr x=>.str x
inductive HO where
 | lst (xs:List V)
 | tup (xs:List V)
 | dK (kvs:List (Key × V)) | dT (kvs:List (List Key × V))
 | set (S:Int->Bool) (n:Nat)
 | ins (C dx:Addr) (fs:List (Str × V))
 | own (x:Addr)
 | xd (fs:List (Str × V))
 | met (f x:Addr)
 | rng (lo hi:Int)
 | frz (o:Obj) (u:HO)
 | tbl (ps:Array Value)
 | ext (φ:Heap->Prop)
abbrev Hp:=Addr->Option HO
def upd (H:Hp) (a:Addr) (o:HO):Hp:=λb=>if b=a then some o else H b
theorem Qi {H:Hp} {a:Addr} {o:HO}:upd H a o a=some o:=by unfold upd;rw [if_pos rfl]
theorem Ql {H:Hp} {a b:Addr} {o:HO} (h:b≠a):upd H a o b=H b:=by unfold upd;rw [if_neg h]
theorem Qtd {H:Hp} {a b:Addr} {o u:HO} (h:H a=some o) (h':H b=some u) (d:o≠u):a≠b:=by
 intro e;subst e;rw [h] at h';exact d (Option.some.inj h')
theorem Qx {H:Hp} {a b:Addr} {o:HO} (h:H a=some o) (h':H b=none):a≠b:=by
 intro e;subst e;rw [h] at h';cases h'
section
variable (P:Program) (w:World)
def Jh (H:Hp) (h:Heap) (a:Addr):HO->Prop
 | .lst xs=>xs.length<=sizeLine/\∃(its:List Value) (n:Nat),Vals xs its/\h.get? a=some { cls:=.type "list",data:=.seq its.toArray n }
 | .tup xs=>xs.length<=sizeLine/\∃its:List Value,Vals xs its/\IsTup h a its.toArray
 | .dK kvs=>kvs.length<=sizeLine/\(a == sysModules)=false/\∃vs,KV kvs vs/\h.DictOf (Q4 P w) a vs
 | .dT kvs=>kvs.length<=sizeLine/\(a == sysModules)=false/\∃xs:List (List Key × Addr × Value),
   Paired (λ(p:List Key × V) (q:List Key × Addr × Value)=>p.1=q.1/\H q.2.1=some (.tup (p.1.map kV))/\RelV p.2 q.2.2) kvs xs /\
   ∃o es ep,h.get? a=some o/\o.ExactDict/\o.data=.dict es ep/\es.toList=xs.map (entryOfKey (tupleKind (Q4 P w)))/\(xs.map (·.1)).Nodup
 | .set S n=>h.SetOf (intKind P w) a S n
 | .ins C dx fs=>H dx=some (.own a)/\fs.length<=1000/\dx≠a/\h.get? a=some (PySem.W.instObj C dx) /\
   ∃mA,h.Ns1 dx mA/\(∀f,RelO (fs.lookup f) (mA f))/\PySem.Within mA (fs.map (·.1))
 | .own _=>∃o,h.get? a=some o
 | .xd fs=>∃mA,h.Ns1 a mA/\∀f,RelO (fs.lookup f) (mA f)
 | .rng lo hi=>∃t u v,h.get? a=some { cls:=.type "range",data:=.fields #[.int lo t,.int hi u,.int 1 v] }
 | .frz o u=>h.get? a=some o/\Jh H h a u
 | .tbl ps=>∃ts:Array Value,h.get? a=some { cls:=.none,data:=.fields ts }/\(ts = #[]\/∃(b:Addr) (oc:Obj) (u:HO) (vs:Array Value) (t:Tok) (q:Str) (t':Tok),ts = #[ps.getD 0 .none,ps.getD 1 .none,.ref b]/\H b=some (.frz oc u)/\oc.data=.fields vs/\ps.getD 2 .none=.str q t'/\vs[1]? = some (.str q t))
 | .met f x=>h.get? a=some (PySem.W.methodObj (.ref f) (.ref x))
 | .ext φ=>φ h/\(∃o,h.get? a=some o)/\∀h1 h2:Heap,φ h1->(∀o,h1.get? a=some o->h2.get? a=some o)->φ h2
def HOk (H:Hp) (h:Heap):Prop:=∀a o,H a=some o->Jh P w H h a o
end
section
variable {P:Program} {w:World} {H H':Hp} {h h':Heap} {a:Addr} {o:HO}
theorem Jh.lt (x:Jh P w H h a o):a<h.objs.size:=by
 cases o with
 | lst xs=>obtain ⟨_,_,_,_,e⟩:=x;exact Heap.lt_size e
 | tup xs=>obtain ⟨_,_,_,p⟩:=x;exact p.lt
 | dK kvs=>obtain ⟨_,_,_,_,o,_,_,e,_⟩:=x;exact Heap.lt_size e
 | dT kvs=>obtain ⟨_,_,_,_,o,_,_,e,_⟩:=x;exact Heap.lt_size e
 | set S n=>obtain ⟨o,_,_,_,e,_⟩:=x;exact Heap.lt_size e
 | ins C dx fs=>obtain ⟨_,_,_,e,_⟩:=x;exact Heap.lt_size e
 | own y=>obtain ⟨_,e⟩:=x;exact Heap.lt_size e
 | xd fs=>obtain ⟨_,⟨_,_,_,e,_⟩,_⟩:=x;exact Heap.lt_size e
 | rng lo hi=>obtain ⟨_,_,_,e⟩:=x;exact Heap.lt_size e
 | frz ob u=>obtain ⟨e,_⟩:=x;exact Heap.lt_size e
 | tbl ps=>obtain ⟨_,e,_⟩:=x;exact Heap.lt_size e
 | met f y=>exact Heap.lt_size (show h.get? a=some _ from x)
 | ext φ=>obtain ⟨_,⟨_,e⟩,_⟩:=x;exact Heap.lt_size e
theorem Paired.mapP {α β:Type} {F G:α->β->Prop}:∀{l₁:List α} {l₂:List β},Paired F l₁ l₂->(∀a b,F a b->G a b)->Paired G l₁ l₂
 | _,_,.nil,_=>.nil
 | _,_,.cons r t,f=>.cons (f _ _ r) (Paired.mapP t f)
theorem Jh.stay (x:Jh P w H h a o) (k:∀b u,(b=a\/H b=some (.own a))->h.get? b=some u->h'.get? b=some u)
  (ho:∀b,H b=some (.own a)->H' b=some (.own a)) (ht:∀b xs,H b=some (.tup xs)->H' b=some (.tup xs)) (hf:∀b u v vs,H b=some (.frz u v)->u.data=.fields vs->H' b=some (.frz u v):=by exact λ_ _ _ _ q _=>q):Jh P w H' h' a o:=by
 induction o with
 | lst xs=>obtain ⟨z,its,n,r,e⟩:=x;exact ⟨z,its,n,r,k _ _ (.inl rfl) e⟩
 | tup xs=>obtain ⟨z,its,r,ob,e,c⟩:=x;exact ⟨z,its,r,ob,k _ _ (.inl rfl) e,c⟩
 | dK kvs=>obtain ⟨z,y,vs,r,ob,es,ep,e,c⟩:=x;exact ⟨z,y,vs,r,ob,es,ep,k _ _ (.inl rfl) e,c⟩
 | dT kvs =>
  obtain ⟨z,y,xs,r,ob,es,ep,e,c⟩:=x
  exact ⟨z,y,xs,Paired.mapP r λp q z=>⟨z.1,ht _ _ z.2.1,z.2.2⟩,ob,es,ep,k _ _ (.inl rfl) e,c⟩
 | set S n=>obtain ⟨ob,es,ep,t,e,c⟩:=x;exact ⟨ob,es,ep,t,k _ _ (.inl rfl) e,c⟩
 | ins C dx fs =>
  obtain ⟨d,z,ne,e,mA,⟨od,es,ep,e2,c⟩,r⟩:=x
  exact ⟨ho _ d,z,ne,k _ _ (.inl rfl) e,mA,⟨od,es,ep,k _ _ (.inr d) e2,c⟩,r⟩
 | own y=>obtain ⟨ob,e⟩:=x;exact ⟨ob,k _ _ (.inl rfl) e⟩
 | xd fs=>obtain ⟨mA,⟨od,es,ep,e,c⟩,r⟩:=x;exact ⟨mA,⟨od,es,ep,k _ _ (.inl rfl) e,c⟩,r⟩
 | rng lo hi=>obtain ⟨t,u,v,e⟩:=x;exact ⟨t,u,v,k _ _ (.inl rfl) e⟩
 | frz ob u ih=>obtain ⟨e,q⟩:=x;exact ⟨k _ _ (.inl rfl) e,ih q⟩
 | tbl ps =>
  obtain ⟨ts,e,r⟩:=x
  exact ⟨ts,k _ _ (.inl rfl) e,r.imp id λ⟨b,oc,u,vs,t,q,t',z1,z2,z3⟩=>⟨b,oc,u,vs,t,q,t',z1,hf _ _ _ _ z2 z3.1,z3⟩⟩
 | met f y =>
  have e:h.get? a=some (PySem.W.methodObj (.ref f) (.ref y)):=x
  show h'.get? a=some (PySem.W.methodObj (.ref f) (.ref y))
  exact k a _ (.inl rfl) e
 | ext φ=>obtain ⟨p,⟨o,e⟩,st⟩:=x;exact ⟨st _ _ p λo q=>k _ _ (.inl rfl) q,⟨o,k _ _ (.inl rfl) e⟩,st⟩
theorem HOk.lt (x:HOk P w H h) (e:H a=some o):a<h.objs.size:=(x a o e).lt
theorem HOk.fresh (x:HOk P w H h) (e:h.objs.size<=a):H a=none:=by
 cases q:H a with
 | none=>rfl
 | some u=>exact absurd (Nat.lt_of_lt_of_le (x.lt q) e) (Nat.lt_irrefl _)
theorem HOk.kept (x:HOk P w H h) (k:∀b u,h.get? b=some u->h'.get? b=some u):HOk P w H h':=λa o e =>
 (x a o e).stay (λb u _ q=>k b u q) (λ_ q=>q) λ_ _ q=>q
theorem HOk.laid (x:HOk P w H h) (k:∀b u,h.get? b=some u->h'.get? b=some u) (hp:h.objs.size<=a) (new:Jh P w (upd H a o) h' a o):HOk P w (upd H a o) h':=λb u e=>by
 have hn:=x.fresh hp
 by_cases hb:b=a
 ·subst hb;rw [Qi] at e;cases e;exact new
 ·rw [Ql hb] at e
  exact (x b u e).stay (λc v _ q=>k c v q) (λc q=>by rw [Ql (Qx q hn)];exact q) (λc xs q=>by rw [Ql (Qx q hn)];exact q) λc _ _ _ q _=>by rw [Ql (Qx q hn)];exact q
end
def Rd (H:Hp) (a:Addr) (u:HO):Prop:=H a=some u\/∃o,H a=some (.frz o u)
theorem Rd.of {H:Hp} {a:Addr} {u:HO} (h:H a=some u):Rd H a u:=.inl h
theorem Rd.ok {P:Program} {w:World} {H:Hp} {h:Heap} {a:Addr} {u:HO} (r:Rd H a u) (x:HOk P w H h):Jh P w H h a u:=by
 rcases r with r | ⟨o,r⟩
 ·exact x a u r
 ·obtain ⟨_,q⟩:=x a _ r
  exact q
def Mut:Option HO->Prop
 | some (.lst _)=>True
 | some (.dK _)=>True
 | some (.dT _)=>True
 | some (.set _ _)=>True
 | some (.ins _ _ _)=>True
 | some (.ext _)=>True
 | _=>False
section
variable {P:Program} {w:World} {H:Hp} {h h':Heap} {x e:Addr} {o':HO}
theorem HOk.write (ok:HOk P w H h) (mu:Mut (H x)) (he:e=x\/H e=some (.own x)) (k:∀b u,b≠e->h.get? b=some u->h'.get? b=some u) (heo:∃u,h'.get? e=some u)
  (new:Jh P w (upd H x o') h' x o'):HOk P w (upd H x o') h':=λb u q=>by
 have nown:∀c y,H c=some (.own y)->c≠x:=λc y r z=>by subst z;rw [r] at mu;exact mu
 have ntup:∀c xs,H c=some (.tup xs)->c≠x:=λc xs r z=>by subst z;rw [r] at mu;exact mu
 have nfrz:∀c o v,H c=some (.frz o v)->c≠x:=λc o v r z=>by subst z;rw [r] at mu;exact mu
 by_cases hb:b=x
 ·subst hb;rw [Qi] at q;cases q;exact new
 ·rw [Ql hb] at q
  by_cases hbe:b=e
  ·have q':H b=some (.own x):=by
    rcases he with z | z
    ·exact absurd (hbe.trans z) hb
    ·rw [hbe];exact z
   rw [q] at q';cases q'
   obtain ⟨v,hv⟩:=heo
   exact ⟨v,by rw [hbe];exact hv⟩
  ·refine (ok b u q).stay (λc v hc r=>k c v ?_ r) (λc r=>by rw [Ql (nown c b r)];exact r) (λc xs r=>by rw [Ql (ntup c xs r)];exact r) λc o v _ r _=>by rw [Ql (nfrz c o v r)];exact r
   rcases hc with rfl | hc
   ·exact hbe
   ·rintro rfl
    rcases he with z | z
    ·exact nown c b hc z
    ·rw [hc] at z;cases z;exact hb rfl
end
structure Un (fs ex:List Addr) (H H':Hp) (h h':Heap):Prop where
 keep:∀b o,h.get? b=some o->H b=none->b∉fs->b∉ex->h'.get? b=some o
 slot:∀b o,h.get? b=some o->H b=none->b∈fs->b∉ex->∃sl,h'.get? b=some { o with slots:=sl }
 free:∀b o,h.get? b=some o->H b=none->b∉ex->H' b=none
 there:∀b o,h.get? b=some o->b∉ex->∃o',h'.get? b=some o'
 tups:∀b xs,H b=some (.tup xs)->H' b=some (.tup xs)
 frzs:∀b o u,H b=some (.frz o u)->H' b=some (.frz o u)
 tbls:∀b ps,H b=some (.tbl ps)->∃more,H' b=some (.tbl (ps++more))
section
variable {fs fs' ex ex':List Addr} {H H1 H2:Hp} {h h1 h2 h':Heap} {a x e:Addr} {o:HO}
theorem Un.any (u:Un fs ex H H1 h h1) {b:Addr} {ob:Obj} (q:h.get? b=some ob) (n:H b=none) (hx:b∉ex):∃sl,h1.get? b=some { ob with slots:=sl }:=by
 by_cases hb:b∈fs
 ·exact u.slot b ob q n hb hx
 ·exact ⟨ob.slots,u.keep b ob q n hb hx⟩
theorem Un.kept (k:∀b u,h.get? b=some u->h'.get? b=some u):Un fs ex H H h h' :=
 ⟨λb ob q _ _ _=>k b ob q,λb ob q _ _ _=>⟨ob.slots,k b ob q⟩,λ_ _ _ n _=>n,λb ob q _=>⟨ob,k b ob q⟩,λ_ _ q=>q,λ_ _ _ q=>q,λ_ ps q=>⟨#[],by rw [q];simp⟩⟩
theorem Un.refl:Un fs ex H H h h:=Un.kept λ_ _ q=>q
theorem Un.laid (k:∀b u,h.get? b=some u->h'.get? b=some u) (hp:h.objs.size<=a) (hn:H a=none):Un fs ex H (upd H a o) h h' where
 keep:=λb u q _ _ _=>k b u q
 slot:=λb u q _ _ _=>⟨u.slots,k b u q⟩
 free:=λb u q n _=>by rw [Ql (Nat.ne_of_lt (Nat.lt_of_lt_of_le (Heap.lt_size q) hp))];exact n
 there:=λb u q _=>⟨u,k b u q⟩
 tups:=λb xs q=>by rw [Ql (Qx q hn)];exact q
 frzs:=λb u xs q=>by rw [Ql (Qx q hn)];exact q
 tbls:=λb ps q=>⟨#[],by rw [Ql (Qx q hn),q];simp⟩
theorem Un.write (mu:Mut (H x)) (he:e=x\/H e=some (.own x)) (k:∀b u,b≠e->h.get? b=some u->h'.get? b=some u) (heo:∃u,h'.get? e=some u):Un fs ex H (upd H x o) h h':=by
 have hx:∀b,H b=none->b≠x:=λb n z=>by subst z;rw [n] at mu;exact mu
 have hb:∀b,H b=none->b≠e:=λb n z=>by
  subst z
  rcases he with r | r
  ·exact hx b n r
  ·rw [n] at r;cases r
 have hm:∀b u,H b=some u->¬Mut (some u)->b≠x:=λb u q nm z=>by subst z;rw [q] at mu;exact nm mu
 refine ⟨λb u q n _ _=>k b u (hb b n) q,λb u q n _ _=>⟨u.slots,k b u (hb b n) q⟩,λb u q n _=>by rw [Ql (hx b n)];exact n,λb u q _=>?_,
  λb xs q=>by rw [Ql (hm b _ q λz=>z)];exact q,λb u xs q=>by rw [Ql (hm b _ q λz=>z)];exact q,λb ps q=>⟨#[],by rw [Ql (hm b _ q λz=>z),q];simp⟩⟩
 by_cases hbe:b=e
 ·subst hbe;exact heo
 ·exact ⟨u,k b u hbe q⟩
end
def trk (h:Heap) (H:Hp):List Addr:=(List.range h.objs.size).filter λa=>(H a).isSome
def hidT (h:Heap) (H:Hp):Heap:=PySem.W.hideAll h (trk h H)
theorem Qhb (h:Heap) (H:Hp):(hidT h H).objs.size=h.objs.size:=PySem.W.hideAll_size _ _
theorem Qjn {h:Heap} {H:Hp} {b:Addr} {o:Obj} (e:h.get? b=some o) (n:H b=none):(hidT h H).get? b=some o :=
 PySem.W.hideAll_get _ e λhm=>by
  have q:(H b).isSome=true:=(List.mem_filter.mp hm).2
  rw [n] at q;simp at q
theorem Qnq {h:Heap} {H:Hp} {b:Addr} {o:Obj} (e:(hidT h H).get? b=some o):h.get? b=some o/\H b=none:=by
 have e':h.get? b=some o:=PySem.W.of_hideAll (trk h H) e
 refine ⟨e',?_⟩
 cases q:H b with
 | none=>rfl
 | some x =>
  have hm:b∈trk h H:=List.mem_filter.mpr ⟨List.mem_range.mpr (Heap.lt_size e'),by simp [q]⟩
  have z:(hidT h H).get? b=none:=PySem.W.hideAll_none (trk h H) hm
  rw [z] at e;cases e
def G6 (g h:Heap) (L:Addr):List (Addr × Obj):=(List.range h.objs.size).filterMap λa=>if a=L\/(g.get? a).isSome=true then none else (h.get? a).map λo=>(a,o)
theorem Vg {g h:Heap} {L a:Addr} {o:Obj} (h1:a≠L) (h2:g.get? a=none) (h3:h.get? a=some o):(a,o)∈G6 g h L :=
 List.mem_filterMap.mpr ⟨a,List.mem_range.mpr (Heap.lt_size h3),by simp [h1,h2,h3]⟩
theorem Xc {g h:Heap} {L:Addr} {p:Addr × Obj} (hp:p∈G6 g h L):p.1≠L/\g.get? p.1=none/\h.get? p.1=some p.2:=by
 obtain ⟨b,_,e⟩:=List.mem_filterMap.mp hp
 split at e
 ·cases e
 ·rename_i hn
  cases q:h.get? b with
  | none=>rw [q] at e;simp at e
  | some u =>
   rw [q] at e
   simp only [Option.map_some,Option.some.injEq] at e
   subst e
   refine ⟨λz=>hn (.inl z),?_,q⟩
   show g.get? b=none
   cases r:g.get? b with
   | none=>rfl
   | some v=>exact (hn (.inr (by simp [r]))).elim
theorem Qjg {g h:Heap} {L:Addr}:News g L h (G6 g h L):=λp hp=>let ⟨a,b,c⟩:=Xc hp;⟨c,a,b⟩
end L2
namespace L2
open PySem PySem.Spec PyProof.Rows
structure Mod (K:PySem.W.Frag) (mg:Str->Option Value) (base:Heap):Prop where
 kin:K.In base
 glob:base.Ns mainGlobals mg
 blt:∃mb,base.Ns builtinsNs mb/\∀x:Str,x ≠ "__name__" -> mb x=bootBuiltins x
 nolimit:base.NoLimit
structure Cx where
 prog:Program
 w:World
 K:PySem.W.Frag
 mg:Str->Option Value
 base:Heap
 A:Around
 N:List Str
 s₀:Shared
 H₀:Hp
 env:Env
 outer:List Env
 stack:List Env
 ex:List Addr
 fn:Str->Bool
 calm:Bool
 pn:List (Addr × Obj)
 xe:Value->Shared->Prop
def frs (l:List Env):List Addr:=l.filterMap (·.frame)
abbrev Cx.fs (X:Cx):List Addr:=frs X.outer
def Vis (sc:Scope) (x:Str):Prop:=sc.names.lookup x=some .local\/sc.names.lookup x=some .cell\/sc.names.lookup x=some .free
def Loc (sc:Scope) (x:Str):Prop:=sc.names.lookup x=some .local\/sc.names.lookup x=some .cell
def Look (env:Env) (h:Heap) (m:Str->Option Value) (x:Str) (u:Value):Prop :=
 (env.kindOf x=some .local/\m x=some u)\/((env.kindOf x=some .cell\/env.kindOf x=some .free)/\∃c,env.cells.lookup x=some c/\h.IsCell c (some u))
structure Cx.Ok (X:Cx):Prop where
 mod:Mod X.K X.mg X.base
 kind:X.env.scope.kind=.function
 glob:X.env.globals=mainGlobals
 blt:X.env.builtins=builtinsNs
 above:X.s₀.heap.objs.size<=X.env.locals
 inj:∀x y c,X.env.cells.lookup x=some c->X.env.cells.lookup y=some c->x=y
 has:∀x,(X.env.kindOf x=some .cell\/X.env.kindOf x=some .free)->∃c,X.env.cells.lookup x=some c
 cab:∀x c,X.fn x=true->X.env.cells.lookup x=some c->X.s₀.heap.objs.size<=c
 hd:X.calm=true->X.A.handled=none
 frames:X.A.frames=some X.stack
 stk:X.stack=X.outer\/(X.stack=X.env::X.outer/\X.env.frame=some X.env.locals)
 exf:∀b∈X.ex,b≠X.env.locals/\∀x c,X.env.cells.lookup x=some c->c≠b
 bs:∀b o,X.base.get? b=some o->X.s₀.heap.get? b=some o/\X.H₀ b=none
 bsz:X.base.objs.size<=X.s₀.heap.objs.size
 noex:∀b o,X.base.get? b=some o->b∉X.ex
 exfs:∀b∈X.ex,b∉X.fs
 funs:X.s₀.heap.FunFrames X.base X.outer
 frf:∀b∈X.fs,X.H₀ b=none
structure Inv (X:Cx) (pins:List (Addr × Obj)) (σ:List (Option V)) (H:Hp) (s:Shared):Prop where
 ok:X.Ok
 os:s.os=X.s₀.os
 bare:AllBare s.gens
 base:Un X.fs X.ex X.H₀ H X.s₀.heap s.heap
 loc:∃m,s.heap.Ns X.env.locals m/\∀(i:Nat) (x:Str) (v:V),X.N[i]? = some x->σ[i]? = some (some v)->Vis X.env.scope x->∃u,RelV v u/\Look X.env s.heap m x u
 cell:∀x c,X.env.cells.lookup x=some c->∃v,s.heap.IsCell c v
 free:H X.env.locals=none
 freeC:∀x c,X.env.cells.lookup x=some c->H c=none
 pin:∀p∈X.pn++pins,s.heap.get? p.1=some p.2/\H p.1=none/\p.1≠X.env.locals/\p.1∉X.fs/\∀v,p.2.data ≠ .cell v
 hok:HOk X.prog X.w H s.heap
 len:σ.length=X.N.length
section
variable {X:Cx} {pins:List (Addr × Obj)} {σ:List (Option V)} {H H':Hp} {s:Shared} {h':Heap}
theorem Cx.Ok.nofr (ok:X.Ok) {b:Addr} {o:Obj} (e:X.base.get? b=some o):b∉X.fs:=λhb=>by
 have:=(ok.funs.mem hb).1
 rw [e] at this;cases this
theorem Inv.bs (I:Inv X pins σ H s):∀b o,X.base.get? b=some o->s.heap.get? b=some o/\H b=none:=λb o e =>
 ⟨I.base.keep b o (I.ok.bs b o e).1 (I.ok.bs b o e).2 (I.ok.nofr e) (I.ok.noex b o e),I.base.free b o (I.ok.bs b o e).1 (I.ok.bs b o e).2 (I.ok.noex b o e)⟩
theorem Inv.bk (I:Inv X pins σ H s):∀b o,X.base.get? b=some o->s.heap.get? b=some o:=λb o e=>(I.bs b o e).1
theorem Inv.mod (I:Inv X pins σ H s):Mod X.K X.mg X.base:=I.ok.mod
theorem Inv.kIn (I:Inv X pins σ H s):X.K.In s.heap:=I.ok.mod.kin.keeps I.bk
theorem Inv.fr (I:Inv X pins σ H s):∃m,Fr X.base X.env.locals s.heap m :=
 let ⟨m,hn,_⟩:=I.loc
 ⟨m,hn,I.bk,Nat.le_trans I.ok.bsz I.ok.above⟩
theorem Inv.lt (I:Inv X pins σ H s):X.env.locals<s.heap.objs.size:=let ⟨_,hn,_⟩:=I.loc;hn.lt
theorem Inv.sz (I:Inv X pins σ H s):X.s₀.heap.objs.size<=s.heap.objs.size:=Nat.le_trans I.ok.above (Nat.le_of_lt I.lt)
theorem Inv.nofs (I:Inv X pins σ H s) {a:Addr} (h:s.heap.objs.size<=a):a∉X.fs:=λhb=>by
 obtain ⟨_,o,ho,_⟩:=I.ok.funs.mem hb
 exact absurd (Nat.lt_of_lt_of_le (Heap.lt_size ho) (Nat.le_trans I.sz h)) (Nat.lt_irrefl _)
theorem Inv.cne (I:Inv X pins σ H s):∀x c,X.env.cells.lookup x=some c->c≠X.env.locals:=λx c e z=>by
 obtain ⟨v,o,ho,hd⟩:=I.cell x c e
 obtain ⟨m,⟨o',es,ep,ho',hd',_⟩,_⟩:=I.loc
 rw [z,ho'] at ho;cases ho;rw [hd'] at hd;cases hd
theorem Inv.funs (I:Inv X pins σ H s):s.heap.FunFrames X.base X.outer:=by
 have all:∀(l:List Env),(∀b∈frs l,b∈X.fs)->X.s₀.heap.FunFrames X.base l->s.heap.FunFrames X.base l:=by
  intro l
  induction l with
  | nil=>intro _ _;trivial
  | cons env r ih =>
   intro hs hl
   obtain ⟨hk,⟨L,o,hf,hn,ho,hd⟩,hr⟩:=hl
   have hL:L∈X.fs:=hs L (by unfold frs;rw [List.filterMap_cons,hf];exact List.mem_cons_self)
   obtain ⟨sl,e⟩:=I.base.slot L o ho (I.ok.frf L hL) hL λz=>I.ok.exfs L z hL
   exact ⟨hk,⟨L,_,hf,hn,e,hd⟩,ih (λb hb=>hs b (by unfold frs;rw [List.filterMap_cons,hf];exact List.mem_cons_of_mem _ hb)) hr⟩
 exact all X.outer (λ_ hb=>hb) I.ok.funs
theorem Inv.stack (I:Inv X pins σ H s):s.heap.FunFrames X.base X.stack:=by
 rcases I.ok.stk with e | ⟨e,hf⟩
 ·rw [e];exact I.funs
 ·rw [e]
  obtain ⟨m,hn,_⟩:=I.loc
  refine .cons (by rw [I.ok.kind];decide) hf hn ?_ I.funs
  exact Heap.get?_none_of_le (Nat.le_trans I.ok.bsz I.ok.above)
theorem Inv.stkSub (I:Inv X pins σ H s):∀b∈frs X.stack,b∈X.env.locals::X.fs:=λb hb=>by
 rcases I.ok.stk with e | ⟨e,hf⟩
 ·rw [e] at hb;exact List.mem_cons_of_mem _ hb
 ·rw [e] at hb
  unfold frs at hb
  rw [List.filterMap_cons,hf] at hb
  exact hb
theorem Inv.stkFree (I:Inv X pins σ H s):∀b∈frs X.stack,H b=none:=λb hb=>by
 rcases List.mem_cons.mp (I.stkSub b hb) with e | hb
 ·rw [e];exact I.free
 ·obtain ⟨_,o,ho,_⟩:=I.ok.funs.mem hb
  exact I.base.free b o ho (I.ok.frf b hb) λz=>I.ok.exfs b z hb
theorem Inv.step {g':Array GenState} {t':Nat} {d':Drawn} {ch:List Addr} (I:Inv X pins σ H s)
  (hch:∀b∈ch,(b∈X.ex\/X.s₀.heap.objs.size<=b)/\b≠X.env.locals/\(∀x c,X.env.cells.lookup x=some c->c≠b)/\∀p∈X.pn++pins,p.1≠b)
  (keep:∀b o,b≠X.env.locals->b∉X.fs->b∉ch->s.heap.get? b=some o->H b=none->h'.get? b=some o)
  (slot:∀b o,b≠X.env.locals->b∈X.fs->b∉ch->s.heap.get? b=some o->H b=none->∃sl,h'.get? b=some { o with slots:=sl }) (free:∀b o,b∉ch->s.heap.get? b=some o->H b=none->H' b=none)
  (there:∀b o,b∉ch->s.heap.get? b=some o->∃o',h'.get? b=some o')
  (tups:∀b xs,H b=some (.tup xs)->H' b=some (.tup xs)) (frzs:∀b o u,H b=some (.frz o u)->H' b=some (.frz o u)) (tbls:∀b ps,H b=some (.tbl ps)->∃more,H' b=some (.tbl (ps++more)))
  (ns:∀m,s.heap.Ns X.env.locals m->h'.Ns X.env.locals m) (hok:HOk X.prog X.w H' h') (hg:AllBare g') :
  Inv X pins σ H' { s with heap:=h',gens:=g',drawn:=d',toks:=t' }:=by
 have neL:∀b o,X.s₀.heap.get? b=some o->b≠X.env.locals:=λb o e=>Nat.ne_of_lt (Nat.lt_of_lt_of_le (Heap.lt_size e) I.ok.above)
 have neC:∀b o,X.s₀.heap.get? b=some o->b∉X.ex->b∉ch:=λb o e hx hb=>by
  rcases (hch b hb).1 with z | z
  ·exact hx z
  ·exact absurd (Nat.lt_of_lt_of_le (Heap.lt_size e) z) (Nat.lt_irrefl _)
 have cellK:∀x c,X.env.cells.lookup x=some c->∀v,s.heap.IsCell c v->h'.IsCell c v:=λx c e v ⟨o,ho,hd⟩=>by
  have nch:c∉ch:=λz=>(hch c z).2.2.1 x c e rfl
  by_cases hc:c∈X.fs
  ·obtain ⟨sl,q⟩:=slot c o (I.cne x c e) hc nch ho (I.freeC x c e)
   exact ⟨_,q,hd⟩
  ·exact ⟨o,keep c o (I.cne x c e) hc nch ho (I.freeC x c e),hd⟩
 refine ⟨I.ok,I.os,hg,⟨λb o e n hb hx=>?_,λb o e n hb hx=>?_,λb o e n hx=>?_,λb o e hx=>?_,λb xs e=>tups b xs (I.base.tups b xs e),λb o xs e=>frzs b o xs (I.base.frzs b o xs e),λb ps e=>?_⟩,?_,λx c e=>?_,?_,λx c e=>?_,λp hp=>?_,hok,I.len⟩
 ·exact keep b o (neL b o e) hb (neC b o e hx) (I.base.keep b o e n hb hx) (I.base.free b o e n hx)
 ·obtain ⟨sl,e1⟩:=I.base.slot b o e n hb hx
  obtain ⟨sl',e2⟩:=slot b _ (neL b o e) hb (neC b o e hx) e1 (I.base.free b o e n hx)
  exact ⟨sl',e2⟩
 ·obtain ⟨o',e1⟩:=I.base.there b o e hx
  exact free b o' (neC b o e hx) e1 (I.base.free b o e n hx)
 ·obtain ⟨o',e1⟩:=I.base.there b o e hx
  exact there b o' (neC b o e hx) e1
 ·obtain ⟨m1,e1⟩:=I.base.tbls b ps e
  obtain ⟨m2,e2⟩:=tbls b _ e1
  exact ⟨m1++m2,by rw [e2,Array.append_assoc]⟩
 ·obtain ⟨m,hn,hl⟩:=I.loc
  refine ⟨m,ns m hn,λi x v e1 e2 e3=>?_⟩
  obtain ⟨u,r,l⟩:=hl i x v e1 e2 e3
  refine ⟨u,r,?_⟩
  rcases l with l | ⟨k,c,e,z⟩
  ·exact .inl l
  ·exact .inr ⟨k,c,e,cellK x c e _ z⟩
 ·obtain ⟨v,z⟩:=I.cell x c e
  exact ⟨v,cellK x c e v z⟩
 ·obtain ⟨m,⟨o,_,_,ho,_⟩,_⟩:=I.loc
  exact free _ o (λz=>(hch _ z).2.1 rfl) ho I.free
 ·obtain ⟨v,o,ho,hd⟩:=I.cell x c e
  exact free c o (λz=>(hch c z).2.2.1 x c e rfl) ho (I.freeC x c e)
 ·obtain ⟨e,n,ne,nf,d⟩:=I.pin p hp
  have nch:p.1∉ch:=λz=>(hch p.1 z).2.2.2 p hp rfl
  exact ⟨keep p.1 p.2 ne nf nch e n,free p.1 p.2 nch e n,ne,nf,d⟩
theorem Inv.un {t':Nat} (I:Inv X pins σ H s) (u:Un X.fs [] H H' s.heap h') (hok:HOk X.prog X.w H' h'):Inv X pins σ H' { s with heap:=h',toks:=t' }:=by
 obtain ⟨m,⟨o,es,ep,ho,r⟩,_⟩:=id I.loc
 obtain ⟨sl,hL⟩:=u.any ho I.free (by simp)
 exact I.step (g':=s.gens) (d':=s.drawn) (ch:=[]) (λ_ z=>nomatch z) (λb o _ hb _ e n=>u.keep b o e n hb (by simp)) (λb o _ hb _ e n=>u.slot b o e n hb (by simp)) (λb o _ e n=>u.free b o e n (by simp)) (λb o _ e=>u.there b o e (by simp)) u.tups u.frzs u.tbls (λm' hm=>by
  obtain ⟨o',es',ep',ho',r'⟩:=hm
  rw [ho] at ho';cases ho'
  exact ⟨_,es',ep',hL,r'⟩) hok I.bare
theorem Inv.call {g':Array GenState} {t':Nat} {d':Drawn} {ch:List Addr} (I:Inv X pins σ H s) (u:Un (frs X.stack) ch H H' s.heap h') (hok:HOk X.prog X.w H' h') (hg:AllBare g')
  (hch:∀b∈ch,(b∈X.ex\/X.s₀.heap.objs.size<=b)/\b≠X.env.locals/\(∀x c,X.env.cells.lookup x=some c->c≠b)/\∀p∈X.pn++pins,p.1≠b) :
  Inv X pins σ H' { s with heap:=h',gens:=g',drawn:=d',toks:=t' }:=by
 obtain ⟨m,⟨o,es,ep,ho,r⟩,_⟩:=id I.loc
 obtain ⟨sl,hL⟩:=u.any ho I.free λz=>(hch _ z).2.1 rfl
 exact I.step (ch:=ch) hch (λb o hL hb hc e n=>u.keep b o e n (λz=>(List.mem_cons.mp (I.stkSub b z)).elim hL hb) hc) (λb o _ _ hc e n=>u.any e n hc) (λb o hc e n=>u.free b o e n hc) (λb o hc e=>u.there b o e hc) u.tups u.frzs u.tbls (λm' hm=>by
  obtain ⟨o',es',ep',ho',r'⟩:=hm
  rw [ho] at ho';cases ho'
  exact ⟨_,es',ep',hL,r'⟩) hok hg
theorem Inv.turned {t':Nat} {it:Addr} (I:Inv X pins σ H s) (k:∀b o,b≠it->s.heap.get? b=some o->h'.get? b=some o) (hn:H it=none) (hL:it≠X.env.locals)
  (h1:it∈X.ex\/X.s₀.heap.objs.size<=it) (h2:∀x c,X.env.cells.lookup x=some c->c≠it) (h3:∀p∈X.pn++pins,p.1≠it):Inv X pins σ H { s with heap:=h',toks:=t' }:=by
 have nit:∀b u,H b=some u->b≠it:=λb u e z=>by rw [z,hn] at e;cases e
 refine I.step (g':=s.gens) (d':=s.drawn) (ch:=[it]) (λb hb=>?_) (λb o _ _ hc e _=>k b o (λz=>hc (by simp [z])) e) (λb o _ _ hc e _=>⟨o.slots,k b o (λz=>hc (by simp [z])) e⟩) (λ_ _ _ _ n=>n)
  (λb o hc e=>⟨o,k b o (λz=>hc (by simp [z])) e⟩) (λ_ _ e=>e) (λ_ _ _ e=>e) (λb ps e=>⟨#[],by rw [e];simp⟩) (λm hm=>?_) (λb u e=>?_) I.bare
 ·have e:b=it:=by simpa using hb
  subst e
  exact ⟨h1,hL,h2,h3⟩
 ·obtain ⟨o,es,ep,ho,r⟩:=hm
  exact ⟨o,es,ep,k _ o (Ne.symm hL) ho,r⟩
 ·refine (I.hok b u e).stay (λc v hc q=>k c v ?_ q) (λ_ q=>q) λ_ _ q=>q
  rcases hc with z | z
  ·rw [z];exact nit b u e
  ·exact nit c _ z
theorem Inv.tok (I:Inv X pins σ H s) (t:Nat):Inv X pins σ H { s with toks:=t }:=I.un (h':=s.heap) (t':=t) Un.refl I.hok
theorem Inv.kept {t':Nat} (I:Inv X pins σ H s) (k:∀b u,s.heap.get? b=some u->h'.get? b=some u):Inv X pins σ H { s with heap:=h',toks:=t' }:=I.un (Un.kept k) (I.hok.kept k)
theorem Inv.laid {a:Addr} {o:HO} {t':Nat} (I:Inv X pins σ H s) (k:∀b u,s.heap.get? b=some u->h'.get? b=some u) (hp:s.heap.objs.size<=a) (new:Jh X.prog X.w (upd H a o) h' a o) :
  Inv X pins σ (upd H a o) { s with heap:=h',toks:=t' }:=I.un (Un.laid k hp (I.hok.fresh hp)) (I.hok.laid k hp new)
theorem Inv.write {x e:Addr} {o:HO} {t':Nat} (I:Inv X pins σ H s) (mu:Mut (H x)) (he:e=x\/H e=some (.own x)) (k:∀b u,b≠e->s.heap.get? b=some u->h'.get? b=some u) (heo:∃u,h'.get? e=some u)
  (new:Jh X.prog X.w (upd H x o) h' x o):Inv X pins σ (upd H x o) { s with heap:=h',toks:=t' }:=I.un (Un.write mu he k heo) (I.hok.write mu he k heo new)
theorem Inv.pins_of {pins':List (Addr × Obj)} (I:Inv X pins σ H s) (h:∀p∈pins',s.heap.get? p.1=some p.2/\H p.1=none/\p.1≠X.env.locals/\p.1∉X.fs/\∀v,p.2.data ≠ .cell v):Inv X pins' σ H s :=
 ⟨I.ok,I.os,I.bare,I.base,I.loc,I.cell,I.free,I.freeC,λp hp=>(List.mem_append.mp hp).elim (λz=>I.pin p (List.mem_append_left _ z)) (h p),I.hok,I.len⟩
theorem Qd4 {N:List Str} (hN:N.Nodup) {i j:Nat} {x:Str} (a:N[i]? = some x) (b:N[j]? = some x):i=j:=by
 obtain ⟨h1,e1⟩:=List.getElem?_eq_some_iff.mp a
 obtain ⟨h2,e2⟩:=List.getElem?_eq_some_iff.mp b
 exact (List.getElem_inj hN).mp (e1.trans e2.symm)
theorem Qa8 {M:Model} {A:Around} {E:Value->Shared->Prop} {i:Nat} {x:Str} {v:V} {u:Value} {Q:Unit->Shared->Prop} (I:Inv X pins σ H s) (hN:X.N.Nodup) (hi:X.N[i]? = some x) (hx:Loc X.env.scope x) (r:RelV v u)
  (h:∀s',Inv X pins (σ.set i (some v)) H s'->(∃a,Heap.SameBut a s.heap s'.heap/\(a=X.env.locals\/X.env.cells.lookup x=some a))->Q () s') (hf:X.fn x=true\/X.env.scope.names.lookup x=some .local:=by first | exact .inl rfl | exact .inr rfl | assumption):wpAny M A (storeName X.env x u) Q E s:=by
 obtain ⟨m,hn,hl⟩:=id I.loc
 have hcls:(X.env.scope.kind == .class || (X.env.scope.kind == .module && X.env.locals != X.env.globals))=false:=by rw [I.ok.kind];rfl
 have hiσ:i<σ.length:=by rw [I.len];exact (List.getElem?_eq_some_iff.mp hi).1
 have cne:=I.cne
 have tracked:∀{a:Addr} {h':Heap},(∃o,s.heap.get? a=some o/\H a=none)->Heap.SameBut a s.heap h'->HOk X.prog X.w H h':=λ{a h'} ha hs b ob e=>by
  obtain ⟨_,_,hfree⟩:=ha
  refine (I.hok b ob e).stay (λc w' hc q=>(hs.2 c ?_).trans q) (λ_ q=>q) λ_ _ q=>q
  rintro rfl
  rcases hc with rfl | hc
  ·rw [hfree] at e;cases e
  ·rw [hfree] at hc;cases hc
 rcases hx with hk | hk
 ·refine wpAny_storeName_local hk hn (λh' hn' hs=>?_) hcls
  obtain ⟨oL,_,_,hoL,_⟩:=id hn
  refine h _ ⟨I.ok,I.os,I.bare,⟨λb o e n hb hx=>?_,λb o e n hb hx=>?_,I.base.free,λb o e hx=>?_,I.base.tups,I.base.frzs,I.base.tbls⟩,⟨_,hn',λj y v' e1 e2 e3=>?_⟩,λy c e=>?_,I.free,I.freeC,λp hp=>?_,tracked ⟨oL,hoL,I.free⟩ hs,by simpa using I.len⟩ ⟨_,hs,.inl rfl⟩
  ·exact (hs.2 b (Nat.ne_of_lt (Nat.lt_of_lt_of_le (Heap.lt_size e) I.ok.above))).trans (I.base.keep b o e n hb hx)
  ·obtain ⟨sl,e1⟩:=I.base.slot b o e n hb hx
   exact ⟨sl,(hs.2 b (Nat.ne_of_lt (Nat.lt_of_lt_of_le (Heap.lt_size e) I.ok.above))).trans e1⟩
  ·obtain ⟨o',e1⟩:=I.base.there b o e hx
   exact ⟨o',(hs.2 b (Nat.ne_of_lt (Nat.lt_of_lt_of_le (Heap.lt_size e) I.ok.above))).trans e1⟩
  ·by_cases hj:j=i
   ·subst hj
    rw [hi] at e1;cases e1
    rw [List.getElem?_set_self hiσ] at e2
    cases e2
    exact ⟨u,r,.inl ⟨hk,by simp⟩⟩
   ·rw [List.getElem?_set_ne (Ne.symm hj)] at e2
    obtain ⟨u',r',q⟩:=hl j y v' e1 e2 e3
    refine ⟨u',r',?_⟩
    rcases q with ⟨k,e⟩ | ⟨k,c,e,z⟩
    ·refine .inl ⟨k,?_⟩
     have:y≠x:=λe=>hj (Qd4 hN e1 (e ▸ hi))
     simp [this,e]
    ·exact .inr ⟨k,c,e,z.sameBut hs (cne y c e)⟩
  ·obtain ⟨w',z⟩:=I.cell y c e
   exact ⟨w',z.sameBut hs (cne y c e)⟩
  ·obtain ⟨e,n,ne,nf,d⟩:=I.pin p hp
   exact ⟨(hs.2 p.1 ne).trans e,n,ne,nf,d⟩
 ·have hfn:X.fn x=true:=by
   rcases hf with z | z
   ·exact z
   ·rw [z] at hk;cases hk
  obtain ⟨c,hc⟩:=I.ok.has x (.inl hk)
  obtain ⟨w',z⟩:=I.cell x c hc
  refine wpAny_storeName_cell I.ok.kind hk hc z (λh' hc' hs=>?_)
  obtain ⟨oc,hoc,hocd⟩:=id z
  refine h { s with heap:=h' } ⟨I.ok,I.os,I.bare,⟨λb o e n hb hx=>?_,λb o e n hb hx=>?_,I.base.free,λb o e hx=>?_,I.base.tups,I.base.frzs,I.base.tbls⟩,⟨m,hn.sameBut hs (Ne.symm (cne x c hc)),λj y v' e1 e2 e3=>?_⟩,λy c' e=>?_,I.free,I.freeC,λp hp=>?_,tracked ⟨oc,hoc,I.freeC x c hc⟩ hs,by simpa using I.len⟩ ⟨c,hs,.inr hc⟩
  ·exact (hs.2 b (Nat.ne_of_lt (Nat.lt_of_lt_of_le (Heap.lt_size e) (I.ok.cab x c hfn hc)))).trans (I.base.keep b o e n hb hx)
  ·obtain ⟨sl,e1⟩:=I.base.slot b o e n hb hx
   exact ⟨sl,(hs.2 b (Nat.ne_of_lt (Nat.lt_of_lt_of_le (Heap.lt_size e) (I.ok.cab x c hfn hc)))).trans e1⟩
  ·obtain ⟨o',e1⟩:=I.base.there b o e hx
   exact ⟨o',(hs.2 b (Nat.ne_of_lt (Nat.lt_of_lt_of_le (Heap.lt_size e) (I.ok.cab x c hfn hc)))).trans e1⟩
  ·by_cases hj:j=i
   ·subst hj
    rw [hi] at e1;cases e1
    rw [List.getElem?_set_self hiσ] at e2
    cases e2
    exact ⟨u,r,.inr ⟨.inl hk,c,hc,hc'⟩⟩
   ·rw [List.getElem?_set_ne (Ne.symm hj)] at e2
    obtain ⟨u',r',q⟩:=hl j y v' e1 e2 e3
    refine ⟨u',r',?_⟩
    rcases q with q | ⟨k,c',e,z'⟩
    ·exact .inl q
    ·refine .inr ⟨k,c',e,z'.sameBut hs ?_⟩
     rintro rfl
     exact hj (Qd4 hN e1 (I.ok.inj _ _ _ e hc ▸ hi))
  ·by_cases hcc:c'=c
   ·subst hcc;exact ⟨_,hc'⟩
   ·obtain ⟨w2,z2⟩:=I.cell y c' e
    exact ⟨w2,z2.sameBut hs hcc⟩
  ·obtain ⟨e,n,ne,nf,d⟩:=I.pin p hp
   refine ⟨(hs.2 p.1 ?_).trans e,n,ne,nf,d⟩
   intro q
   rw [q,hoc] at e
   have q':oc=p.2:=Option.some.inj e
   exact d w' (by rw [← q'];exact hocd)
theorem X5 {M:Model} {A:Around} {E:Value->Shared->Prop} {i:Nat} {x:Str} {v:V} {u:Value} {Q:Unit->Shared->Prop} (I:Inv X pins σ H s) (hN:X.N.Nodup) (hi:X.N[i]? = some x) (hx:Loc X.env.scope x) (r:RelV v u)
  (h:∀s',Inv X pins (σ.set i (some v)) H s'->Q () s') (hf:X.fn x=true\/X.env.scope.names.lookup x=some .local:=by first | exact .inl rfl | exact .inr rfl | assumption):wpAny M A (storeName X.env x u) Q E s :=
 Qa8 I hN hi hx r (λs' I' _=>h s' I') hf
theorem Inv.call' {s':Shared} {ch:List Addr} (I:Inv X pins σ H s) (ho:s'.os=s.os) (u:Un (frs X.stack) ch H H' s.heap s'.heap) (hok:HOk X.prog X.w H' s'.heap) (hg:AllBare s'.gens)
  (hch:∀b∈ch,(b∈X.ex\/X.s₀.heap.objs.size<=b)/\b≠X.env.locals/\(∀x c,X.env.cells.lookup x=some c->c≠b)/\∀p∈X.pn++pins,p.1≠b):Inv X pins σ H' s':=by
 obtain ⟨h',g',d',t',o'⟩:=s'
 have e:o'=s.os:=ho
 subst e
 exact I.call (g':=g') (t':=t') (d':=d') u hok hg hch
end
abbrev XK:=Value->Option Addr->Hp->Prop
abbrev St:=List (Option V)
abbrev VK:=V->Hp->Prop
abbrev TE:=St->Hp->VK->Prop
abbrev TT:=St->Hp->(Bool->Hp->Prop)->Prop
abbrev TA:=St->Hp->(List V->Hp->Prop)->Prop
structure Ends where
 nx:St->Hp->Prop
 rt:VK
 bk:St->Hp->Prop:=λ_ _=>False
 ct:St->Hp->Prop:=λ_ _=>False
abbrev TS:=Ends->St->Hp->Prop
def EP (X:Cx) (pins:List (Addr × Obj)) (σ:St) (Q:VK) (u:Value) (s':Shared):Prop:=∃v H',Inv X pins σ H' s'/\RelV v u/\Q v H'
def TP (X:Cx) (pins:List (Addr × Obj)) (σ:St) (Q:Bool->Hp->Prop) (b:Bool) (s':Shared):Prop:=∃H',Inv X pins σ H' s'/\Q b H'
def AP (X:Cx) (pins:List (Addr × Obj)) (σ:St) (Q:List V->Hp->Prop) (us:List Value) (s':Shared):Prop:=∃vs H',Inv X pins σ H' s'/\Vals vs us/\Q vs H'
def SP (X:Cx) (pins:List (Addr × Obj)) (D:Ends) (f:Flow) (s':Shared):Prop :=
 match f with
 | .next=>∃σ' H',Inv X pins σ' H' s'/\D.nx σ' H'
 | .brk=>∃σ' H',Inv X pins σ' H' s'/\D.bk σ' H'
 | .cont=>∃σ' H',Inv X pins σ' H' s'/\D.ct σ' H'
 | .ret u=>∃v σ' H',Inv X pins σ' H' s'/\RelV v u/\D.rt v H'
def PE (X:Cx) (e:Expr) (t:TE):Prop :=
 ∀(pins:List (Addr × Obj)) (s:Shared) (σ:St) (H:Hp) (Q:VK),Inv X pins σ H s->t σ H Q->wpAny (model X.prog X.w) X.A (eval e X.env) (EP X pins σ Q) X.xe s
def PT (X:Cx) (e:Expr) (t:TT):Prop :=
 ∀(pins:List (Addr × Obj)) (s:Shared) (σ:St) (H:Hp) (Q:Bool->Hp->Prop),Inv X pins σ H s->t σ H Q->wpAny (model X.prog X.w) X.A (isTrue e X.env (eval e X.env)) (TP X pins σ Q) X.xe s
def PW (X:Cx) (e:Expr) (t:TT):Prop :=
 ∀(whole:Sem Value) (pins:List (Addr × Obj)) (s:Shared) (σ:St) (H:Hp) (Q:Bool->Hp->Prop),Inv X pins σ H s->t σ H Q->wpAny (model X.prog X.w) X.A (isTrue e X.env whole) (TP X pins σ Q) X.xe s
theorem PW.pt {X:Cx} {e:Expr} {t:TT} (h:PW X e t):PT X e t:=h _
def PA (X:Cx) (es:List Expr) (t:TA):Prop :=
 ∀(pos:Pos) (pins:List (Addr × Obj)) (s:Shared) (σ:St) (H:Hp) (Q:List V->Hp->Prop),Inv X pins σ H s->t σ H Q->wpAny (model X.prog X.w) X.A (spliced (backTo pos (starEach es X.env))) (AP X pins σ Q) X.xe s
def PS (X:Cx) (st:Stmt) (t:TS):Prop :=
 ∀(pins:List (Addr × Obj)) (s:Shared) (σ:St) (H:Hp) (D:Ends),Inv X pins σ H s->t D σ H->wpAny (model X.prog X.w) X.A (exec st X.env) (SP X pins D) X.xe s
def PSs (X:Cx) (st:List Stmt) (t:TS):Prop :=
 ∀(pins:List (Addr × Obj)) (s:Shared) (σ:St) (H:Hp) (D:Ends),Inv X pins σ H s->t D σ H->wpAny (model X.prog X.w) X.A (execs st X.env) (SP X pins D) X.xe s
theorem thn {α:Type} {t:Sem α} {Q Q':α->Shared->Prop} {M:Model} {A:Around} {E:Value->Shared->Prop} {s:Shared} (h:wpAny M A t Q E s) (hQ:∀a s,Q a s->Q' a s):wpAny M A t Q' E s:=wpAny_mono h hQ λ_ _ x=>x
end L2
namespace L2
open PySem PySem.Spec PyProof.Rows
section
variable {X:Cx}
theorem bin {a b:Expr} {ta tb:TE} (ha:PE X a ta) (hb:PE X b tb) {pins:List (Addr × Obj)} {s:Shared} {σ:St} {H:Hp} {R:V->V->Hp->Prop} (I:Inv X pins σ H s) (h:ta σ H λx H1=>tb σ H1 λy H2=>R x y H2)
  {α:Type} {Q:α->Shared->Prop} {f:Value->Value->Sem α}
  (hf:∀v u s2 x y H2,Inv X pins σ H2 s2->RelV x v->RelV y u->R x y H2->wpAny (model X.prog X.w) X.A (f v u) Q X.xe s2) :
  wpAny (model X.prog X.w) X.A (eval a X.env) (λv s₁=>wpAny (model X.prog X.w) X.A (eval b X.env) (λu s₂=>wpAny (model X.prog X.w) X.A (f v u) Q X.xe s₂) X.xe s₁) X.xe s:=by
 refine thn (ha pins s σ H _ I h) λv s1 ⟨x,H1,I1,r1,q1⟩=>?_
 refine thn (hb pins s1 σ H1 _ I1 q1) λu s2 ⟨y,H2,I2,r2,q2⟩=>?_
 exact hf v u s2 x y H2 I2 r1 r2 q2
def tVar (i:Nat):TE:=λσ H Q=>∃v,σ[i]? = some (some v)/\Q v H
def tC (v:V):TE:=λ_ H Q=>Q v H
theorem Vy {i:Nat} {x:Str} {pos:Pos} (hN:X.N[i]? = some x) (hv:Vis X.env.scope x) (hd:(x == ("__debug__" : Str))=false:=by decide) (hcd:(x == ("__classdict__" : Str))=false:=by decide):PE X (.Name x pos) (tVar i):=by
 intro pins s σ H Q I h
 obtain ⟨v,e,h⟩:=h
 obtain ⟨m,hn,hl⟩:=I.loc
 obtain ⟨u,r,l⟩:=hl i x v hN e hv
 have fin:EP X pins σ Q u s:=⟨v,H,I,r,h⟩
 rcases l with ⟨hk,hm⟩ | ⟨hk,c,hc,hcell⟩
 ·exact wpAny_Name (wpAny_loadName_local I.ok.kind hk hn hm fin) hd
 ·rcases hk with hk | hk
  ·exact wpAny_Name (wpAny_loadName_cell I.ok.kind hk hc hcell fin) hd
  ·exact wpAny_Name (wpAny_loadName_free I.ok.kind hk hc hcell fin hcd) hd
theorem Qqg {i j pos}:PE X (.Constant (.int i) j pos) (tC (.int i)):=λ_ _ _ H _ I h=>wpAny_Constant_int ⟨.int i,H,I.tok _,⟨_,rfl⟩,h⟩
theorem Qs7 {b j pos}:PE X (.Constant (.bool b) j pos) (tC (.bl b)):=λ_ _ _ H _ I h=>Constant_bool ⟨.bl b,H,I,rfl,h⟩
theorem Qqe {j pos}:PE X (.Constant .none j pos) (tC .non):=λ_ _ _ H _ I h=>Constant_none ⟨.non,H,I,rfl,h⟩
def Gl (X:Cx) (x:Str):Prop:=X.env.kindOf x=some .globalImplicit
theorem Qgz {E:Value->Shared->Prop} {pins:List (Addr × Obj)} {s:Shared} {σ:St} {H:Hp} {x:Str} {u:Value} {pos:Pos} {Q:Value->Shared->Prop} (I:Inv X pins σ H s) (hg:Gl X x) (hm:X.mg x=some u) (h:Q u s)
  (hd:(x == ("__debug__" : Str))=false:=by decide):wpAny (model X.prog X.w) X.A (eval (.Name x pos) X.env) Q E s :=
 Calls.Name_function_global I.ok.kind hg (Calls.loadGlobal_global (by rw [I.ok.glob];exact I.mod.glob.keeps I.bk) hm h) hd
theorem Go {E:Value->Shared->Prop} {pins:List (Addr × Obj)} {s:Shared} {σ:St} {H:Hp} {x:Str} {u:Value} {pos:Pos} {Q:Value->Shared->Prop} (I:Inv X pins σ H s) (hg:Gl X x) (hm:X.mg x=none) (hv:bootBuiltins x=some u) (h:Q u s)
  (hn:x ≠ "__name__":=by decide) (hd:(x == ("__debug__" : Str))=false:=by decide):wpAny (model X.prog X.w) X.A (eval (.Name x pos) X.env) Q E s:=by
 obtain ⟨mb,h1,h2⟩:=I.mod.blt
 exact Calls.Name_function_global I.ok.kind hg (Calls.loadGlobal_builtin (by rw [I.ok.glob];exact I.mod.glob.keeps I.bk) hm (by rw [I.ok.blt];exact h1.keeps I.bk) ((h2 x hn).trans hv) h) hd
theorem Qgf {x:Str} {v:V} {u:Value} {pos:Pos} (hg:Gl X x) (hm:X.mg x=some u) (r:RelV v u) (hd:(x == ("__debug__" : Str))=false:=by decide):PE X (.Name x pos) (tC v) :=
 λ_ _ _ H _ I h=>Qgz I hg hm ⟨v,H,I,r,h⟩ hd
theorem Qni {x:Str} {v:V} {u:Value} {pos:Pos} (hg:Gl X x) (hm:X.mg x=none) (hv:bootBuiltins x=some u) (r:RelV v u) (hn:x ≠ "__name__":=by decide) (hd:(x == ("__debug__" : Str))=false:=by decide):PE X (.Name x pos) (tC v) :=
 λ_ _ _ H _ I h=>Go I hg hm hv ⟨v,H,I,r,h⟩ hn hd
variable {a b:Expr} {ta tb:TE} {pos:Pos}
variable {tA tB':TT} {rest:List Expr}
def tOr (t u:TT):TT:=λσ H Q=>t σ H λc H1=>if c=true then Q true H1 else u σ H1 Q
def tNot (t:TT):TT:=λσ H Q=>t σ H λc H1=>Q (!c) H1
theorem Qp5 (ha:PT X a tA):PW X (.BoolOp .Or [a] pos) tA:=by
 intro wh pins s σ H Q I h
 refine isTrue_or (thn (ha pins s σ H Q I h) λc s1 e=>?_)
 cases c with
 | false=>exact isTrue_or_nil e
 | true=>exact e
theorem Qsz (ha:PT X a tA) (hb:PW X (.BoolOp .Or (b::rest) pos) tB'):PW X (.BoolOp .Or (a::b::rest) pos) (tOr tA tB'):=by
 intro wh pins s σ H Q I h
 refine isTrue_or (thn (ha pins s σ H _ I h) λc s1 ⟨H1,I1,q1⟩=>?_)
 cases c with
 | true=>exact ⟨H1,I1,q1⟩
 | false=>exact hb wh pins s1 σ H1 Q I1 q1
theorem Qp7 (ha:PT X a tA):PT X (.UnaryOp .Not a pos) (tNot tA):=by
 intro pins s σ H Q I h
 exact isTrue_not (ha pins s σ H (λc H1=>Q (!c) H1) I h)
def Qsl (ta tb:TE):TE:=λσ H Q=>ta σ H λx H1=>∃c,x=.bl c/\if c=true then tb σ H1 Q else Q (.bl false) H1
def Qsf (ta:TE):TE:=λσ H Q=>ta σ H λx H1=>∃c,x=.bl c/\Q (.bl (!c)) H1
theorem Qqc {op} {t:TE} (h:PE X a t):PE X (.BoolOp op [a] pos) t:=λpins s σ H Q I hw=>BoolOp_one (h pins s σ H Q I hw)
theorem Qqi (ha:PE X a ta) (hb:PE X (.BoolOp .And (b::rest) pos) tb):PE X (.BoolOp .And (a::b::rest) pos) (Qsl ta tb):=by
 intro pins s σ H Q I h
 refine BoolOp_and (thn (ha pins s σ H _ I h) λv s1 ⟨x,H1,I1,r1,q1⟩=>?_)
 obtain ⟨c,rfl,q1⟩:=q1
 cases r1
 refine wpAny_truthy_bool ?_
 cases c with
 | true=>exact hb pins s1 σ H1 Q I1 q1
 | false=>exact ⟨.bl false,H1,I1,rfl,q1⟩
theorem Qqd (ha:PE X a ta):PE X (.UnaryOp .Not a pos) (Qsf ta):=by
 intro pins s σ H Q I h
 refine UnaryOp_ (thn (ha pins s σ H _ I h) λv s1 ⟨x,H1,I1,r1,q1⟩=>?_)
 obtain ⟨c,rfl,q1⟩:=q1
 cases r1
 exact not_of (wpAny_truthy_bool ⟨.bl (!c),H1,I1,rfl,q1⟩)
end
end L2
namespace L2
open PySem PySem.Spec PyProof.Rows
def SqL (K:PySem.W.Frag) (H:Hp) (a:Addr) (xs:List V):Prop :=
 Rd H a (.lst xs) \/
  ∃(o:Obj) (its:Array Value) (n:Nat),K.lookup a=some o/\o.cls=.type "list" /\ o.dict=none/\o.data=.seq its n/\its.size<=sizeLine/\Vals xs its.toList
def SqT (K:PySem.W.Frag) (H:Hp) (a:Addr) (xs:List V):Prop :=
 Rd H a (.tup xs) \/
  ∃(o:Obj) (its:Array Value) (n:Nat),K.lookup a=some o/\o.cls=.type "tuple" /\ o.data=.seq its n/\its.size<=sizeLine/\Vals xs its.toList
def absV:Value->Option V
 | .none=>some .non
 | .bool b=>some (.bl b)
 | .int i _=>some (.int i)
 | .str x _=>some (.str x)
 | .bytes b _=>some (.byt b)
 | .float b _=>some (.flt b)
 | .ref a=>some (.ref a)
 | .type n=>some (.ty n)
 | _=>none
theorem RelV.abs {x:V} {u:Value} (r:RelV x u):absV u=some x:=by
 cases x with
 | non=>cases r;rfl
 | bl _=>cases r;rfl
 | int _=>obtain ⟨t,rfl⟩:=r;rfl
 | str _=>obtain ⟨t,rfl⟩:=r;rfl
 | byt _=>obtain ⟨t,rfl⟩:=r;rfl
 | flt _=>obtain ⟨t,rfl⟩:=r;rfl
 | ref _=>cases r;rfl
 | ty _=>cases r;rfl
theorem RelV.inj {x y:V} {u:Value} (r:RelV x u) (q:RelV y u):x=y:=Option.some.inj (r.abs.symm.trans q.abs)
theorem Vals.inj:∀{xs ys:List V} {us:List Value},Vals xs us->Vals ys us->xs=ys
 | _,_,_,.nil,.nil=>rfl
 | _,_,_,.cons r t,.cons r' t'=>by rw [r.inj r',Vals.inj t t']
section
variable {X:Cx} {pins:List (Addr × Obj)} {σ:St} {H:Hp} {s:Shared} {a:Addr} {xs ys:List V}
theorem SqL.of {K:PySem.W.Frag} (h:H a=some (.lst xs)):SqL K H a xs:=.inl (.inl h)
theorem SqT.of {K:PySem.W.Frag} (h:H a=some (.tup xs)):SqT K H a xs:=.inl (.inl h)
theorem Inv.list (I:Inv X pins σ H s) (h:SqL X.K H a xs):∃its:List Value,Vals xs its/\PlainL s.heap a its.toArray/\xs.length<=sizeLine:=by
 rcases h with h | ⟨o,its,n,hk,hc,hd,hs,hz,r⟩
 ·obtain ⟨z,its,n,r,e⟩:=h.ok I.hok
  exact ⟨its,r,⟨_,n,e,rfl,rfl,rfl⟩,z⟩
 ·refine ⟨its.toList,r,⟨o,n,I.kIn a o hk,hc,hd,by simpa using hs⟩,?_⟩
  have e:=r.length
  simp only [Array.length_toList] at e
  omega
theorem Inv.tuple (I:Inv X pins σ H s) (h:SqT X.K H a xs):∃its:List Value,Vals xs its/\IsTup s.heap a its.toArray/\xs.length<=sizeLine:=by
 rcases h with h | ⟨o,its,n,hk,hc,hs,hz,r⟩
 ·obtain ⟨z,its,r,p⟩:=h.ok I.hok
  exact ⟨its,r,p,z⟩
 ·refine ⟨its.toList,r,⟨o,I.kIn a o hk,hc,n,by simpa using hs⟩,?_⟩
  have e:=r.length
  simp only [Array.length_toList] at e
  omega
theorem Inv.list_inj (I:Inv X pins σ H s) (h:SqL X.K H a xs) (h':SqL X.K H a ys):xs=ys:=by
 obtain ⟨its,r,⟨o,n,e,_,_,d⟩,_⟩:=I.list h
 obtain ⟨its',r',⟨o',n',e',_,_,d'⟩,_⟩:=I.list h'
 rw [e] at e';cases e'
 rw [d] at d'
 injection d' with d1 _
 have:its=its':=by simpa using congrArg Array.toList d1
 subst this
 exact r.inj r'
theorem Inv.tuple_inj (I:Inv X pins σ H s) (h:SqT X.K H a xs) (h':SqT X.K H a ys):xs=ys:=by
 obtain ⟨its,r,⟨o,e,_,n,d⟩,_⟩:=I.tuple h
 obtain ⟨its',r',⟨o',e',_,n',d'⟩,_⟩:=I.tuple h'
 rw [e] at e';cases e'
 rw [d] at d'
 injection d' with d1 _
 have:its=its':=by simpa using congrArg Array.toList d1
 subst this
 exact r.inj r'
end
abbrev Cx.wish (X:Cx) (E:Value->Shared->Prop):Cx:={ X with xe:=E }
abbrev Cx.nox (X:Cx):Cx:=X.wish λ_ _=>False
theorem Cx.Ok.wish {X:Cx} (ok:X.Ok) (E:Value->Shared->Prop):(X.wish E).Ok :=
 ⟨ok.mod,ok.kind,ok.glob,ok.blt,ok.above,ok.inj,ok.has,ok.cab,ok.hd,ok.frames,ok.stk,ok.exf,ok.bs,ok.bsz,ok.noex,ok.exfs,ok.funs,ok.frf⟩
theorem Cx.Ok.unwish {X:Cx} {E:Value->Shared->Prop} (ok:(X.wish E).Ok):X.Ok :=
 ⟨ok.mod,ok.kind,ok.glob,ok.blt,ok.above,ok.inj,ok.has,ok.cab,ok.hd,ok.frames,ok.stk,ok.exf,ok.bs,ok.bsz,ok.noex,ok.exfs,ok.funs,ok.frf⟩
section
variable {X:Cx} {pins:List (Addr × Obj)} {σ:St} {H:Hp} {s:Shared} {E:Value->Shared->Prop}
theorem Inv.wish (I:Inv X pins σ H s) (E:Value->Shared->Prop):Inv (X.wish E) pins σ H s:=⟨I.ok.wish E,I.os,I.bare,I.base,I.loc,I.cell,I.free,I.freeC,I.pin,I.hok,I.len⟩
theorem Inv.unwish (I:Inv (X.wish E) pins σ H s):Inv X pins σ H s:=⟨I.ok.unwish,I.os,I.bare,I.base,I.loc,I.cell,I.free,I.freeC,I.pin,I.hok,I.len⟩
theorem SP.unwish {D:Ends} {f:Flow} {s':Shared} (h:SP (X.wish E) pins D f s'):SP X pins D f s':=by
 cases f with
 | next=>obtain ⟨σ',H',I,q⟩:=h;exact ⟨σ',H',I.unwish,q⟩
 | brk=>obtain ⟨σ',H',I,q⟩:=h;exact ⟨σ',H',I.unwish,q⟩
 | cont=>obtain ⟨σ',H',I,q⟩:=h;exact ⟨σ',H',I.unwish,q⟩
 | ret u=>obtain ⟨v,σ',H',I,r,q⟩:=h;exact ⟨v,σ',H',I.unwish,r,q⟩
theorem PSs.nox {st:List Stmt} {t:TS} (h:PSs X.nox st t):PSs X st t:=λpins s σ H D I hw =>
 wpAny_mono (h pins s σ H D (I.wish _) hw) (λ_ _ q=>q.unwish) λ_ _ z=>False.elim z
end
section
variable {X:Cx} {st:Stmt} {rest:List Stmt} {t u:TS} {e:Expr} {te:TE} {pos:Pos}
def Qsg:TS:=λD σ H=>D.nx σ H
def tSeq (t u:TS):TS:=λD σ H=>t { D with nx:=u D } σ H
theorem Qm7:PSs X [] Qsg:=λ_ _ σ H _ I h=>wpAny_execs_nil ⟨σ,H,I,h⟩
theorem Qi0 (h1:PS X st t) (h2:PSs X rest u):PSs X (st::rest) (tSeq t u):=by
 intro pins s σ H D I h
 refine wpAny_execs_cons (thn (h1 pins s σ H { D with nx:=u D } I h) λf s1 q=>?_)
 cases f with
 | next =>
  obtain ⟨σ',H',I',q⟩:=q
  exact h2 pins s1 σ' H' D I' q
 | ret v=>exact q
 | brk=>exact q
 | cont=>exact q
theorem Qm6 (h1:PS X st t):PSs X [st] t:=by
 intro pins s σ H D I h
 refine wpAny_execs_cons (thn (h1 pins s σ H D I h) λf s1 q=>?_)
 cases f with
 | next=>exact wpAny_execs_nil q
 | ret v=>exact q
 | brk=>exact q
 | cont=>exact q
theorem Inv.quiet {pins:List (Addr × Obj)} {σ:St} {H:Hp} {s:Shared} (I:Inv X pins σ H s):interactive X.env=false:=by simp [interactive,I.ok.kind]
def Qsi (te:TE):TS:=λD σ H=>te σ H λ_ H1=>D.nx σ H1
theorem Qm9 (he:PE X e te) (hs:swapsWith e none pos.line X.env=pure false:=by rfl):PS X (.Expr e pos) (Qsi te):=by
 intro pins s σ H D I h
 exact wpAny_Expr_any (thn (he pins s σ H _ I h) λv s1 ⟨x,H1,I1,r1,q1⟩=>⟨σ,H1,I1,q1⟩) I.quiet hs
def tRet (te:TE):TS:=λD σ H=>te σ H D.rt
theorem Qk6 (he:PE X e te):PS X (.Return (some e) pos) (tRet te):=by
 intro pins s σ H D I h
 exact wpAny_Return_some (thn (he pins s σ H _ I h) λv s1 ⟨x,H1,I1,r1,q1⟩=>⟨x,σ,H1,I1,r1,q1⟩)
def Qsd:TS:=λD _ H=>D.rt .non H
theorem Qm8:PS X (.Return none pos) Qsd:=λ_ _ σ H _ I h=>wpAny_Return_none ⟨.non,σ,H,I,rfl,h⟩
def tIfS (c:TT) (t u:TS):TS:=λD σ H=>c σ H λb H1=>if b=true then t D σ H1 else u D σ H1
theorem Qs0 {c:Expr} {a b:List Stmt} {tc:TT} (hc:PT X c tc) (ha:PSs X a t) (hb:PSs X b u):PS X (.If c a b pos) (tIfS tc t u):=by
 intro pins s σ H D I h
 refine wpAny_If (thn (hc pins s σ H _ I h) λd s1 ⟨H1,I1,q1⟩=>?_)
 cases d with
 | true=>exact ha pins s1 σ H1 D I1 q1
 | false=>exact hb pins s1 σ H1 D I1 q1
end
abbrev TG:=V->St->Hp->(St->Hp->Prop)->Prop
abbrev TGs:=List V->St->Hp->(St->Hp->Prop)->Prop
def PG (X:Cx) (target:Expr) (t:TG):Prop :=
 ∀(pins:List (Addr × Obj)) (s:Shared) (σ:St) (H:Hp) (v:V) (u:Value) (Q:St->Hp->Prop),Inv X pins σ H s->RelV v u->t v σ H Q ->
  wpAny (model X.prog X.w) X.A (assign target X.env u) (λ_ s'=>∃σ' H',Inv X pins σ' H' s'/\Q σ' H') X.xe s
def PGs (X:Cx) (ts:List Expr) (t:TGs):Prop :=
 ∀(pins:List (Addr × Obj)) (s:Shared) (σ:St) (H:Hp) (vs:List V) (us:List Value) (Q:St->Hp->Prop),Inv X pins σ H s->Vals vs us->t vs σ H Q ->
  wpAny (model X.prog X.w) X.A (assignInOrder ((assignEach ts X.env).map (·.2)) us) (λ_ s'=>∃σ' H',Inv X pins σ' H' s'/\Q σ' H') X.xe s
abbrev TSet:=V->V->V->Hp->(Hp->Prop)->Prop
def PSet (X:Cx) (t:TSet):Prop :=
 ∀(pins:List (Addr × Obj)) (s:Shared) (σ:St) (H:Hp) (o i v:V) (ov iv u:Value) (Q:Hp->Prop),Inv X pins σ H s->RelV o ov->RelV i iv->RelV v u->t o i v H Q ->
  wpAny (model X.prog X.w) X.A (setItem ov iv u) (λ_ s'=>∃H',Inv X pins σ H' s'/\Q H') X.xe s
section
variable {X:Cx} {pos:Pos}
def Qc0 (i:Nat):TG:=λv σ H Q=>Q (σ.set i (some v)) H
theorem Qcp {i:Nat} {x:Str} (hN:X.N.Nodup) (hi:X.N[i]? = some x) (hx:Loc X.env.scope x) (hf:X.fn x=true\/X.env.scope.names.lookup x=some .local:=by first | exact .inl rfl | exact .inr rfl | assumption):PG X (.Name x pos) (Qc0 i):=by
 intro pins s σ H v u Q I r h
 exact wpAny_assign_Name (X5 I hN hi hx r (λs' I'=>⟨_,H,I',h⟩) hf)
def gNil:TGs:=λvs σ H Q=>vs=[]/\Q σ H
def Qod (t:TG) (u:TGs):TGs:=λvs σ H Q=>∃v r,vs=v::r/\t v σ H λσ' H'=>u r σ' H' Q
theorem Qgd:PGs X [] gNil:=by
 intro pins s σ H vs us Q I r h
 obtain ⟨e,h⟩:=h
 subst e
 cases r
 exact assignInOrder_nil ⟨σ,H,I,h⟩
theorem Qac {e:Expr} {es:List Expr} {t:TG} {u:TGs} (h1:PG X e t) (h2:PGs X es u)
  (hs:(assignEach (e::es) X.env).map (·.2)=assign e X.env::(assignEach es X.env).map (·.2):=by rfl):PGs X (e::es) (Qod t u):=by
 intro pins s σ H vs us Q I r h
 obtain ⟨v,vr,e1,h⟩:=h
 subst e1
 cases r with
 | cons r rr =>
  rw [hs]
  refine assignInOrder_cons (thn (h1 pins s σ H _ _ _ I r h) λ_ s1 ⟨σ1,H1,I1,q1⟩=>?_)
  exact h2 pins s1 σ1 H1 _ _ Q I1 rr q1
def gTup (K:PySem.W.Frag) (n:Nat) (t:TGs):TG:=λv σ H Q=>∃a xs,v=.ref a/\SqT K H a xs/\xs.length=n/\t xs σ H Q
theorem Qla {es:List Expr} {k:Nat} {t:TGs} {n:Nat} (hc:X.calm=true) (h:PGs X es t)
  (hn:(assignEach es X.env).length=n:=by rfl) (hst:(assignEach es X.env).findIdx? (·.1)=none:=by rfl):PG X (.Tuple es k pos) (gTup X.K n t):=by
 intro pins s σ H v u Q I r hw
 obtain ⟨a,xs,e1,hq,hl,hw⟩:=hw
 subst e1
 cases r
 obtain ⟨its,rv,ht,hz⟩:=I.tuple hq
 refine assign_Tuple_tuple (I.ok.hd hc) ht (by simp [hn,← hl,rv.length]) hst λh' hx=>?_
 have I1:Inv X pins σ H { s with heap:=h' }:=I.kept (t':=s.toks) λb o e=>hx b o (Nat.ne_of_lt (Heap.lt_size e)) e
 exact h pins _ σ H xs _ Q I1 (by simpa using rv) hw
def gSub (to ti:TE) (t:TSet):TG:=λv σ H Q=>to σ H λo H1=>ti σ H1 λi H2=>t o i v H2 λH3=>Q σ H3
theorem Qlb {o i:Expr} {to ti:TE} {t:TSet} (ho:PE X o to) (hi:PE X i ti) (hs:PSet X t)
  (ha:∀v,assign (.Subscript o i pos) X.env v=(do
   let ov ← holding [v] (eval o X.env)
   let iv ← holding [v,ov] (eval i X.env)
   standAt pos
   holding [v,ov,iv] (setItem ov iv v)
   release [v,ov,iv] []):=by intro _;rfl):PG X (.Subscript o i pos) (gSub to ti t):=by
 intro pins s σ H v u Q I r h
 rw [ha]
 refine wpAny_bind (wpAny_holding (thn (ho pins s σ H _ I h) λov s1 ⟨x,H1,I1,r1,q1⟩=>?_))
 refine wpAny_bind (wpAny_holding (thn (hi pins s1 σ H1 _ I1 q1) λiv s2 ⟨y,H2,I2,r2,q2⟩=>?_))
 refine wpAny_bind (wpAny_standAt (wpAny_bind (wpAny_holding (thn (hs pins s2 σ H2 x y v ov iv u _ I2 r1 r2 r q2) λ_ s3 ⟨H3,I3,q3⟩=>?_))))
 exact wpAny_release ⟨σ,H3,I3,q3⟩
def tAsg (te:TE) (g:TG):TS:=λD σ H=>te σ H λx H1=>g x σ H1 D.nx
theorem Qk7 {tg e:Expr} {te:TE} {g:TG} (he:PE X e te) (hg:PG X tg g) (hs:swapsWithSole [tg] e pos.line X.env=pure false:=by rfl) (hw:swappedStores [tg] e X.env=pure none:=by rfl)
  (h1:(assignEach [tg] X.env).map (·.2)=[assign tg X.env]:=by rfl):PS X (.Assign [tg] e pos) (tAsg te g):=by
 intro pins s σ H D I h
 refine wpAny_Assign_stores (thn (he pins s σ H _ I h) λv s1 ⟨x,H1,I1,r1,q1⟩=>?_) hs hw
 rw [h1]
 exact thn (hg pins s1 σ H1 x v _ I1 r1 q1) λ_ s2 q=>q
theorem Qp8 {i:Nat} {x:Str} {e:Expr} {te:TE} {pos':Pos} (hN:X.N.Nodup) (hi:X.N[i]? = some x) (hx:Loc X.env.scope x) (he:PE X e te) (hs:swapsWith e (some (.Name x pos')) pos.line X.env=pure false:=by rfl) (hf:X.fn x=true\/X.env.scope.names.lookup x=some .local:=by first | exact .inl rfl | exact .inr rfl | assumption) :
  PS X (.Assign [.Name x pos'] e pos) (tAsg te (Qc0 i)):=by
 intro pins s σ H D I h
 refine wpAny_Assign_Name (thn (he pins s σ H _ I h) λv s1 ⟨y,H1,I1,r1,q1⟩=>?_) hs
 exact X5 I1 hN hi hx r1 (λs2 I2=>⟨_,H1,I2,q1⟩) hf
end
section
variable {X:Cx} {pos:Pos}
def Qo9 (c:TT) (tb:TS):TS:=λD σ H=>∃W:Nat->St->Hp->Prop,(∃m,W m σ H)/\∀m σ H,W m σ H ->
 c σ H λb H1=>if b=true then ∃N:St->Hp->Prop,(∀σ' H',N σ' H'->∃m',m' < m/\W m' σ' H')/\tb { D with nx:=N,ct:=N,bk:=D.nx } σ H1 else D.nx σ H1
theorem Qi1 {c:Expr} {body:List Stmt} {tc:TT} {tb:TS} (hp:PassesOwn (model X.prog X.w) X.A X.env X.xe) (hc:PT X c tc) (hb:PSs X body tb):PS X (.While c body [] pos) (Qo9 tc tb):=by
 intro pins s σ H D I h
 obtain ⟨W,⟨m0,w0⟩,turn⟩:=h
 refine wpAny_While (codeAny_whileLoop (λn s'=>∃σ' H',Inv X pins σ' H' s'/\W n σ' H') ?_ m0 ⟨σ,H,I,w0⟩)
 rintro n s1 ⟨σ1,H1,I1,w1⟩
 refine wpAny_passesOwn hp (thn (hc pins s1 σ1 H1 _ I1 (turn n σ1 H1 w1)) λb s2 ⟨H2,I2,q2⟩=>?_)
 cases b with
 | true =>
  obtain ⟨N,hN,q2⟩:=q2
  rw [if_pos rfl]
  refine wpAny_passesOwn hp (thn (hb pins s2 σ1 H2 _ I2 q2) λf s3 q3=>?_)
  cases f with
  | next =>
   obtain ⟨σ3,H3,I3,n3⟩:=q3
   obtain ⟨m',hm,w3⟩:=hN σ3 H3 n3
   exact ⟨m',hm,σ3,H3,I3,w3⟩
  | cont =>
   obtain ⟨σ3,H3,I3,n3⟩:=q3
   obtain ⟨m',hm,w3⟩:=hN σ3 H3 n3
   exact ⟨m',hm,σ3,H3,I3,w3⟩
  | brk=>exact q3
  | ret v=>exact q3
 | false =>
  rw [if_neg Bool.false_ne_true]
  exact wpAny_execs_nil ⟨σ1,H2,I2,q2⟩
end
structure It where
 go:Nat->Hp->Prop
 yld:Nat->Hp->V->Hp->Prop
 stop:Nat->Hp->Prop
def FpOk (X:Cx) (pins:List (Addr × Obj)) (H:Hp) (b:Addr):Prop :=
 H b=none/\b≠X.env.locals/\b∉X.fs/\(b∈X.ex\/X.s₀.heap.objs.size<=b)/\(∀x c,X.env.cells.lookup x=some c->c≠b)/\∀p∈X.pn++pins,p.1≠b
theorem Inv.fpOk {X:Cx} {pins:List (Addr × Obj)} {σ:St} {H H':Hp} {s:Shared} {b:Addr} (I:Inv X pins σ H s) (hb:s.heap.objs.size<=b) (hn:H' b=none):FpOk X pins H' b:=by
 refine ⟨hn,Nat.ne_of_gt (Nat.lt_of_lt_of_le I.lt hb),I.nofs hb,.inr (Nat.le_trans I.sz hb),λx c e z=>?_,λp hp z=>?_⟩
 ·obtain ⟨v,q⟩:=I.cell x c e
  exact absurd (Nat.lt_of_lt_of_le q.lt (by rw [z];exact hb)) (Nat.lt_irrefl _)
 ·exact absurd (Nat.lt_of_lt_of_le (Heap.lt_size (I.pin p hp).1) (by rw [z];exact hb)) (Nat.lt_irrefl _)
structure Turn (P:Program) (w:World) (K:PySem.W.Frag) (tg:Expr) (J:It) (fp:List Addr) (it:Addr) (tn:Nat->Heap->Prop):Prop where
 mem:it∈fp
 obj:∀i h,tn i h->∀b∈fp,∃o,h.get? b=some o/\∀v,o.data ≠ .cell v
 keep:∀i h h',tn i h->(∀b∈fp,∀o,h.get? b=some o->h'.get? b=some o)->tn i h'
 item:∀(X:Cx),X.prog=P->X.w=w->X.K=K->X.calm=true->∀(i:Nat) (pins:List (Addr × Obj)) (s:Shared) (σ:St) (H:Hp) (E:Value->Shared->Prop),Inv X pins σ H s->(∀b∈fp,FpOk X pins H b)->tn i s.heap->J.go i H ->
  wpAny (model P w) X.A (pyNext (.ref it)) (λr s1=>∃u,r=some u /\
   wpAny (model P w) X.A (letOwnedTupleGo tg (.ref it) u) (λ_ s2=>∃x H',Inv X pins σ H' s2/\RelV x u/\J.yld i H x H'/\tn (i+1) s2.heap/\∀b∈fp,H' b=none) E s1) E s
 done:∀(X:Cx),X.prog=P->X.w=w->X.K=K->X.calm=true->∀(i:Nat) (pins:List (Addr × Obj)) (s:Shared) (σ:St) (H:Hp) (E:Value->Shared->Prop),Inv X pins σ H s->(∀b∈fp,FpOk X pins H b)->tn i s.heap->J.stop i H ->
  wpAny (model P w) X.A (pyNext (.ref it)) (λr s1=>r=none/\Inv X pins σ H s1) E s
 self:∀(A:Around) (i:Nat) (s:Shared) (Q:Value->Shared->Prop) (E:Value->Shared->Prop),tn i s.heap->Q (.ref it) s->wpAny (model P w) A (pyIter (.ref it)) Q E s
abbrev TI:=St->Hp->(It->Hp->Prop)->Prop
def PIE (X:Cx) (pins:List (Addr × Obj)) (σ:St) (tg:Expr) (R:It->Hp->Prop) (itv:Value) (s2:Shared):Prop :=
 ∃(it:Addr) (fp:List Addr) (tn:Nat->Heap->Prop) (J:It) (H':Hp),itv=.ref it/\Inv X pins σ H' s2/\Turn X.prog X.w X.K tg J fp it tn/\tn 0 s2.heap/\(∀b∈fp,FpOk X pins H' b)/\R J H'
def PI (X:Cx) (tg iter:Expr) (wi:TI):Prop :=
 ∀(pins:List (Addr × Obj)) (s:Shared) (σ:St) (H:Hp) (R:It->Hp->Prop),Inv X pins σ H s->wi σ H R ->
  wpAny (model X.prog X.w) X.A (eval iter X.env) (λv s1=>wpAny (model X.prog X.w) X.A (pyIter v) (PIE X pins σ tg R) X.xe s1) X.xe s
theorem Qob {M:Model} {A:Around} {E:Value->Shared->Prop} {s:Shared} {tg:Expr} {it:Addr} {u:Value} {o:Obj} {n:String} {vs:Array Value} {Q:Unit->Shared->Prop} (ho:s.heap.get? it=some o) (hc:o.cls=.type n) (hd:o.data=.fields vs)
    (hn:["enumerate","zip","dict_itemiterator","dict_reverseitemiterator","odict_iterator","itertools.zip_longest","itertools.pairwise"].contains n=false) (hQ:Q () s):wpAny M A (letOwnedTupleGo tg (.ref it) u) Q E s:=by
  unfold letOwnedTupleGo
  cases tg <;> first
    | exact wpAny_pure hQ
    | (cases u <;> first
        | exact wpAny_pure hQ
        | (refine wpAny_bind (wpAny_load ho ?_)
           rw [hc,hd]
           show wpAny M A (if (["enumerate","zip","dict_itemiterator","dict_reverseitemiterator","odict_iterator","itertools.zip_longest","itertools.pairwise"].contains n && vs[0]? == some (rawInt _))=true then _ else _) Q E s
           rw [if_neg (by intro h;rw [hn,Bool.false_and] at h;cases h)]
           exact wpAny_pure hQ))
def Itl (K:PySem.W.Frag) (a:Addr):It :=
 ⟨λi H=>∃xs x,SqL K H a xs/\xs[i]? = some x,λi H x H'=>H'=H/\∀xs,SqL K H a xs->xs[i]? = some x,λi H=>∃xs,SqL K H a xs/\xs.length<=i⟩
def Itt (K:PySem.W.Frag) (a:Addr):It :=
 ⟨λi H=>∃xs x,SqT K H a xs/\xs[i]? = some x,λi H x H'=>H'=H/\∀xs,SqT K H a xs->xs[i]? = some x,λi H=>∃xs,SqT K H a xs/\xs.length<=i⟩
def Itr (lo:Int) (n:Nat):It:=⟨λi _=>i<n,λi H x H'=>H'=H/\x=.int (lo+i),λi _=>n<=i⟩
theorem Qfl {P:Program} {w:World} {K:PySem.W.Frag} {tg:Expr} (a it:Addr):Turn P w K tg (Itl K a) [it] it (λi h=>h.IsListIter it a i) where
 mem:=by simp
 obj:=λi h st b hb=>by
  have e:b=it:=by simpa using hb
  subst e
  obtain ⟨o,e,c,d⟩:=st
  exact ⟨o,e,λv z=>by rw [d] at z;cases z⟩
 keep:=λi h h' st k=>st.at λo e=>k it (by simp) o e
 item:=by
  intro X hP hw hK hc i pins s σ H E I hf st hg
  subst hP hw hK
  obtain ⟨xs,x,hq,hx⟩:=hg
  obtain ⟨its,rv,p,hz⟩:=I.list hq
  obtain ⟨u,hu,ru⟩:=rv.get hx
  obtain ⟨f0,f1,f2,f3,f4,f5⟩:=hf it (by simp)
  refine wpAny_pyNext_list_item st p.isList (x:=u) (by simpa using hu) λh' st' sb=>?_
  have I1:Inv X pins σ H { s with heap:=h' }:=I.turned (t':=s.toks) (λb o hb e=>(sb.2 b hb).trans e) f0 f1 f3 f4 f5
  obtain ⟨o,e,c,d⟩:=id st'
  exact ⟨u,rfl,Qob (s:={ s with heap:=h' }) e c d (by decide) ⟨x,H,I1,ru,⟨rfl,λys hy=>by rw [I.list_inj hy hq];exact hx⟩,st',λb hb=>(hf b hb).1⟩⟩
 done:=by
  intro X hP hw hK hc i pins s σ H E I hf st hg
  subst hP hw hK
  obtain ⟨xs,hq,hx⟩:=hg
  obtain ⟨its,rv,p,hz⟩:=I.list hq
  obtain ⟨f0,f1,f2,f3,f4,f5⟩:=hf it (by simp)
  have hl:=rv.length
  exact wpAny_pyNext_list_end (I.ok.hd hc) st p.isList (by simp;omega) λh' eb=>⟨rfl,I.turned (t':=s.toks) (λb o hb e=>eb b o hb e) f0 f1 f3 f4 f5⟩
 self:=λ_ _ _ _ _ st h=>wpAny_pyIter_listiter st h
theorem Qes {P:Program} {w:World} {K:PySem.W.Frag} {tg:Expr} (a it:Addr):Turn P w K tg (Itt K a) [it] it (λi h=>h.IsTupleIter it a i) where
 mem:=by simp
 obj:=λi h st b hb=>by
  have e:b=it:=by simpa using hb
  subst e
  obtain ⟨o,e,c,d⟩:=st
  exact ⟨o,e,λv z=>by rw [d] at z;cases z⟩
 keep:=λi h h' st k=>st.at λo e=>k it (by simp) o e
 item:=by
  intro X hP hw hK hc i pins s σ H E I hf st hg
  subst hP hw hK
  obtain ⟨xs,x,hq,hx⟩:=hg
  obtain ⟨its,rv,p,hz⟩:=I.tuple hq
  obtain ⟨u,hu,ru⟩:=rv.get hx
  obtain ⟨f0,f1,f2,f3,f4,f5⟩:=hf it (by simp)
  refine wpAny_pyNext_tuple_item st (show s.heap.IsTuple a its.toArray from p) (x:=u) (by simpa using hu) λh' st' sb=>?_
  have I1:Inv X pins σ H { s with heap:=h' }:=I.turned (t':=s.toks) (λb o hb e=>(sb.2 b hb).trans e) f0 f1 f3 f4 f5
  obtain ⟨o,e,c,d⟩:=id st'
  exact ⟨u,rfl,Qob (s:={ s with heap:=h' }) e c d (by decide) ⟨x,H,I1,ru,⟨rfl,λys hy=>by rw [I.tuple_inj hy hq];exact hx⟩,st',λb hb=>(hf b hb).1⟩⟩
 done:=by
  intro X hP hw hK hc i pins s σ H E I hf st hg
  subst hP hw hK
  obtain ⟨xs,hq,hx⟩:=hg
  obtain ⟨its,rv,p,hz⟩:=I.tuple hq
  obtain ⟨f0,f1,f2,f3,f4,f5⟩:=hf it (by simp)
  have hl:=rv.length
  exact wpAny_pyNext_tuple_end (I.ok.hd hc) st (show s.heap.IsTuple a its.toArray from p) (by simp;omega) λh' eb=>⟨rfl,I.turned (t':=s.toks) (λb o hb e=>eb b o hb e) f0 f1 f3 f4 f5⟩
 self:=λ_ _ _ _ _ st h=>wpAny_pyIter_tupleiter st h
theorem Qet {P:Program} {w:World} {K:PySem.W.Frag} {tg:Expr} (it:Addr) (lo:Int) (n:Nat):Turn P w K tg (Itr lo n) [it] it (λi h=>IsRangeIter h it (lo+(i:Nat)*1) ((n:Int)-(i:Nat)) 1) where
 mem:=by simp
 obj:=λi h st b hb=>by
  have e:b=it:=by simpa using hb
  subst e
  exact ⟨_,st,λv z=>by
   have z':Data.fields _=Data.cell v:=z
   cases z'⟩
 keep:=λi h h' st k=>k it (by simp) _ st
 item:=by
  intro X hP hw hK hc i pins s σ H E I hf st hg
  subst hP hw hK
  obtain ⟨f0,f1,f2,f3,f4,f5⟩:=hf it (by simp)
  have W:=Walks.range (prog:=X.prog) (w:=X.w) (I.ok.hd hc) it lo 1 n
  refine W.item i s _ _ hg st λv h' tk hv st' kk=>?_
  obtain ⟨t,rfl⟩:=hv
  have I1:Inv X pins σ H { s with heap:=h',toks:=tk }:=I.turned (λb o hb e=>kk b o (by simpa using hb) e) f0 f1 f3 f4 f5
  refine ⟨_,rfl,Qob (s:={ s with heap:=h',toks:=tk }) (n:="range_iterator") st' rfl rfl (by decide) ⟨.int (lo+i),H,I1,⟨t,?_⟩,⟨rfl,rfl⟩,st',λb hb=>(hf b hb).1⟩⟩
  rw [Int.mul_one]
 done:=by
  intro X hP hw hK hc i pins s σ H E I hf st hg
  subst hP hw hK
  obtain ⟨f0,f1,f2,f3,f4,f5⟩:=hf it (by simp)
  exact wpAny_pyNext_range_end (I.ok.hd hc) st (by have:n<=i:=hg;omega) λh' eb=>⟨rfl,I.turned (t':=s.toks) (λb o hb e=>eb b o hb e) f0 f1 f3 f4 f5⟩
 self:=λ_ _ _ _ _ st h=>wpAny_pyIter_rangeiter st h
end L2
namespace L2
open PySem PySem.Spec PyProof.Rows
section
variable {X:Cx} {tg:Expr}
theorem Qiv {pins:List (Addr × Obj)} {σ:St} {H:Hp} {s:Shared} {R:It->Hp->Prop} {E:Value->Shared->Prop} {lo hi:Int} {t u v:Tok} {tk:Nat} (I:Inv X pins σ H s) (h1:-(2 ^ 62)<=lo) (h2:lo<2 ^ 62) (h3:-(2 ^ 62)<=hi) (h4:hi<2 ^ 62)
  (q:R (Itr lo (hi-lo).toNat) H):wpAny (model X.prog X.w) X.A (pyIter (.ref s.heap.objs.size)) (PIE X pins σ tg R) E { s with heap:=s.heap.push { cls:=.type "range",data:=.fields #[.int lo t,.int hi u,.int 1 v] },toks:=tk }:=by
 refine wpAny_pyIter_range (IsRange.new ..) (small_one h1 h2 h3 h4) ?_
 have I1:Inv X pins σ H { s with heap:=s.heap.push { cls:=.type "range",data:=.fields #[.int lo t,.int hi u,.int 1 v] },toks:=tk }:=I.kept λb o e=>Heap.get?_push_of_some _ e
 refine ⟨(s.heap.push { cls:=.type "range",data:=.fields #[.int lo t,.int hi u,.int 1 v] }).objs.size,[(s.heap.push { cls:=.type "range",data:=.fields #[.int lo t,.int hi u,.int 1 v] }).objs.size],_,_,H,rfl,
  I1.kept (t':=tk) λb o e=>Heap.get?_push_of_some _ e,Qet _ lo (hi-lo).toNat,?_,λb hb=>?_,q⟩
 ·have e1:lo+((0:Nat):Int)*1=lo:=by simp
  have e2:(((hi-lo).toNat:Nat):Int)-((0:Nat):Int)=Builtin.Range.rangeSize lo hi 1:=by rw [rangeSize_one];split <;> omega
  show IsRangeIter _ _ (lo+((0:Nat):Int)*1) ((((hi-lo).toNat:Nat):Int)-((0:Nat):Int)) 1
  rw [e1,e2]
  exact Heap.get?_push_size _ rfl
 ·have e:b=(s.heap.push { cls:=.type "range",data:=.fields #[.int lo t,.int hi u,.int 1 v] }).objs.size:=by simpa using hb
  subst e
  exact I1.fpOk (Nat.le_refl _) (I1.hok.fresh (Nat.le_refl _))
def Qtm (ta:TA):TI:=λσ H R=>ta σ H λvs H1=>∃j:Int,vs=[.int j] /\ -(2 ^ 62)<=j/\j<2 ^ 62/\R (Itr 0 j.toNat) H1
theorem Qgb {a:Expr} {ta:TA} {p pos:Pos} (hg:Gl X "range") (hm:X.mg "range" = none) (ha:PA X [a] ta) (hs:starEach [a] X.env=[(false,eval a X.env)]:=by rfl):PI X tg (.Call (.Name "range" p) [a] [] pos) (Qtm ta):=by
 intro pins s σ H R I h
 refine Call_ (Go I hg hm boot_range (PyProof.Rows.callWith_type1 (thn (ha pos pins s σ H _ I h) λus s1 ⟨vs,H1,I1,r1,q1⟩=>?_) hs rfl))
 obtain ⟨j,e,q1,q2,q⟩:=q1
 subst e
 cases r1 with
 | cons r rr =>
  cases rr
  obtain ⟨t,rfl⟩:=r
  exact call_range_1 (Qiv I1 (by omega) (by omega) q1 q2 (by simpa using q))
def tFor (wi:TI) (g:TG) (tb:TS):TS:=λD σ H=>wi σ H λJ H1=>∃W:Nat->Nat->St->Hp->Prop,(∃m,W 0 m σ H1)/\∀i m σ H,W i m σ H ->
 (J.stop i H/\D.nx σ H)\/(J.go i H/\∃N:St->Hp->Prop,(∀σ' H',N σ' H'->∃m',m' < m/\W (i+1) m' σ' H')/\∀x H',J.yld i H x H'->g x σ H' λσ2 H2=>tb { D with nx:=N,ct:=N,bk:=D.nx } σ2 H2)
def Gj (fp:List Addr) (h:Heap):List (Addr × Obj):=fp.filterMap λb=>(h.get? b).map λo=>(b,o)
theorem Yp {fp:List Addr} {h:Heap} {b:Addr} {o:Obj} (hb:b∈fp) (e:h.get? b=some o):(b,o)∈Gj fp h:=List.mem_filterMap.mpr ⟨b,hb,by rw [e];rfl⟩
theorem Qgm {fp:List Addr} {h:Heap} {p:Addr × Obj} (hp:p∈Gj fp h):p.1∈fp/\h.get? p.1=some p.2:=by
 obtain ⟨b,hb,e⟩:=List.mem_filterMap.mp hp
 cases q:h.get? b with
 | none=>rw [q] at e;cases e
 | some o =>
  rw [q] at e
  have e':(b,o)=p:=Option.some.inj e
  subst e'
  exact ⟨hb,q⟩
theorem Inv.pinned {pins:List (Addr × Obj)} {σ:St} {H:Hp} {s:Shared} {fp:List Addr} (I:Inv X pins σ H s) (hf:∀b∈fp,FpOk X pins H b) (ho:∀b∈fp,∃o,s.heap.get? b=some o/\∀v,o.data ≠ .cell v):Inv X (pins++Gj fp s.heap) σ H s :=
 I.pins_of λp hp=>(List.mem_append.mp hp).elim (λz=>I.pin p (List.mem_append_right _ z)) λz=>by
  obtain ⟨hb,e⟩:=Qgm z
  obtain ⟨f0,f1,f2,_⟩:=hf p.1 hb
  obtain ⟨o,e',d⟩:=ho p.1 hb
  rw [e] at e';cases e'
  exact ⟨e,f0,f1,f2,d⟩
theorem Inv.unpinned {pins pl:List (Addr × Obj)} {σ:St} {H:Hp} {s:Shared} (I:Inv X (pins++pl) σ H s):Inv X pins σ H s:=I.pins_of λp hp=>I.pin p (List.mem_append_right _ (List.mem_append_left _ hp))
theorem Qp9 {iter:Expr} {body:List Stmt} {wi:TI} {g:TG} {tb:TS} {pos:Pos} (hp:PassesOwn (model X.prog X.w) X.A X.env X.xe) (hc:X.calm=true) (hi:PI X tg iter wi) (hg:PG X tg g) (hb:PSs X body tb)
  (hs:∀x,foldedSetIterable iter X.env x=pure x:=by intro _;rfl):PS X (.For tg iter body [] pos) (tFor wi g tb):=by
 intro pins s σ H D I h
 refine wpAny_For (thn (hi pins s σ H _ I h) λv s1 h1=>thn h1 λitv s2 h2=>?_) hs
 obtain ⟨it,fp,tn,J,H2,e,I2,T,st2,f2,W,⟨m0,w0⟩,turn⟩:=h2
 subst e
 -- what stays true of the iterator's objects through the loop
 have stat:∀{H':Hp},(∀b∈fp,H' b=none)->∀b∈fp,FpOk X pins H' b:=λhn b hb=>⟨hn b hb,(f2 b hb).2⟩
 refine codeAny_forLoop_any (λn s'=>∃i σ' H',Inv X pins σ' H' s'/\tn i s'.heap/\(∀b∈fp,H' b=none)/\W i n σ' H') ?_ m0 ⟨0,σ,H2,I2,st2,λb hb=>(f2 b hb).1,w0⟩
 rintro n s3 ⟨i,σ3,H3,I3,st3,fr3,w3⟩
 rcases turn i n σ3 H3 w3 with ⟨stop,qn⟩ | ⟨go,N,hN,step⟩
 ·refine wpAny_passesOwn hp (thn (T.done X rfl rfl rfl hc i pins s3 σ3 H3 X.xe I3 (stat fr3) st3 stop) λr s4 ⟨hr,I4⟩=>?_)
  subst hr
  exact wpAny_execs_nil ⟨σ3,H3,I4,qn⟩
 ·refine wpAny_passesOwn hp (thn (T.item X rfl rfl rfl hc i pins s3 σ3 H3 X.xe I3 (stat fr3) st3 go) λr s4 ⟨u,hr,h4⟩=>?_)
  subst hr
  refine wpAny_passesOwn hp (thn h4 λ_ s5 ⟨x,H5,I5,r5,y5,st5,fr5⟩=>?_)
  have I5':=I5.pinned (stat fr5) (T.obj _ _ st5)
  refine wpAny_passesOwn hp (thn (hg _ s5 σ3 H5 x u _ I5' r5 (step x H5 y5)) λ_ s6 ⟨σ6,H6,I6,q6⟩=>?_)
  refine wpAny_passesOwn hp (thn (hb _ s6 σ6 H6 _ I6 q6) λf s7 q7=>?_)
  have again:∀{σ7:St} {H7:Hp},Inv X (pins++Gj fp s5.heap) σ7 H7 s7->N σ7 H7->∃m,m<n/\∃i σ' H',Inv X pins σ' H' s7/\tn i s7.heap/\(∀b∈fp,H' b=none)/\W i m σ' H':=λ{σ7 H7} I7 n7=>by
   obtain ⟨m',hm,w7⟩:=hN σ7 H7 n7
   refine ⟨m',hm,i+1,σ7,H7,I7.unpinned,T.keep _ _ _ st5 λb hb o e=>(I7.pin (b,o) (List.mem_append_right _ (List.mem_append_right _ (Yp hb e)))).1,λb hb=>?_,w7⟩
   obtain ⟨o,e,d⟩:=T.obj _ _ st5 b hb
   exact (I7.pin (b,o) (List.mem_append_right _ (List.mem_append_right _ (Yp hb e)))).2.1
  cases f with
  | next=>obtain ⟨σ7,H7,I7,n7⟩:=q7;exact again I7 n7
  | cont=>obtain ⟨σ7,H7,I7,n7⟩:=q7;exact again I7 n7
  | brk=>obtain ⟨σ7,H7,I7,q7⟩:=q7;exact ⟨σ7,H7,I7.unpinned,q7⟩
  | ret v=>obtain ⟨x7,σ7,H7,I7,r7,q7⟩:=q7;exact ⟨x7,σ7,H7,I7.unpinned,r7,q7⟩
end
end L2
namespace L2
open PySem PySem.Spec PyProof.Rows
abbrev R2:=V->V->Hp->VK->Prop
def OpR (X:Cx) (f:Value->Value->Sem Value) (r:R2):Prop :=
 ∀(pins:List (Addr × Obj)) (s:Shared) (σ:St) (H:Hp) (x y:V) (v u:Value) (Q:VK),Inv X pins σ H s->RelV x v->RelV y u->r x y H Q ->
  wpAny (model X.prog X.w) X.A (f v u) (EP X pins σ Q) X.xe s
def UnR (X:Cx) (f:Value->Sem Value) (r:V->Hp->VK->Prop):Prop :=
 ∀(pins:List (Addr × Obj)) (s:Shared) (σ:St) (H:Hp) (x:V) (v:Value) (Q:VK),Inv X pins σ H s->RelV x v->r x H Q ->
  wpAny (model X.prog X.w) X.A (f v) (EP X pins σ Q) X.xe s
def Vo (X:Cx) (f:Value) (r:List V->Hp->VK->Prop):Prop :=
 ∀(pins:List (Addr × Obj)) (s:Shared) (σ:St) (H:Hp) (xs:List V) (us:List Value) (Q:VK),Inv X pins σ H s->Vals xs us->r xs H Q ->
  wpAny (model X.prog X.w) X.A (call f us) (EP X pins σ Q) X.xe s
def TruR (X:Cx) (r:V->Hp->(Bool->Hp->Prop)->Prop):Prop :=
 ∀(pins:List (Addr × Obj)) (s:Shared) (σ:St) (H:Hp) (x:V) (v:Value) (Q:Bool->Hp->Prop),Inv X pins σ H s->RelV x v->r x H Q ->
  wpAny (model X.prog X.w) X.A (truthy v) (TP X pins σ Q) X.xe s
def tOp (r:R2) (ta tb:TE):TE:=λσ H Q=>ta σ H λx H1=>tb σ H1 λy H2=>r x y H2 Q
def tUn (r:V->Hp->VK->Prop) (ta:TE):TE:=λσ H Q=>ta σ H λx H1=>r x H1 Q
def rI (C:Int->Int->Prop) (g:Int->Int->V):R2:=λx y H Q=>∃i j,x=.int i/\y=.int j/\C i j/\Q (g i j) H
def rI0 (g:Int->Int->V):R2:=λx y H Q=>∃i j,x=.int i/\y=.int j/\Q (g i j) H
def rU (g:Int->V):V->Hp->VK->Prop:=λx H Q=>∃i,x=.int i/\Q (g i) H
section
variable {X:Cx} {a b c:Expr} {ta tb tc:TE} {pos:Pos}
theorem binT (ha:PE X a ta) (hb:PE X b tb) {pins:List (Addr × Obj)} {s:Shared} {σ:St} {H:Hp} {R:V->V->Hp->Prop} (I:Inv X pins σ H s)
  (h:ta σ H λx H1=>tb σ H1 λy H2=>R x y H2) {Q:Value->Shared->Prop} {f:Value->Value->Sem Value}
  (hf:∀v u s2 x y H2,Inv X pins σ H2 s2->RelV x v->RelV y u->R x y H2->wpAny (model X.prog X.w) X.A (f v u) Q X.xe s2) :
  wpAny (model X.prog X.w) X.A (eval a X.env) (λv s₁=>wpAny (model X.prog X.w) X.A (eval b X.env) (λu s₂=>wpAny (model X.prog X.w) X.A (f v u) Q X.xe s₂) X.xe s₁) X.xe s:=by
 refine thn (ha pins s σ H _ I h) λv s1 ⟨x,H1,I1,r1,q1⟩=>?_
 refine thn (hb pins s1 σ H1 _ I1 q1) λu s2 ⟨y,H2,I2,r2,q2⟩=>?_
 exact hf v u s2 x y H2 I2 r1 r2 q2
theorem Qs4 {op:Operator} {r:R2} (ho:OpR X (binaryOp op) r) (ha:PE X a ta) (hb:PE X b tb):PE X (.BinOp a op b pos) (tOp r ta tb):=by
 intro pins s σ H Q I h
 exact wpAny_BinOp (binT ha hb I h λv u s2 x y H2 I2 rx ry q=>ho pins s2 σ H2 x y v u Q I2 rx ry q)
theorem Qs3 {op:UnaryOp} {r:V->Hp->VK->Prop} (ho:UnR X (unaryOp op) r) (ha:PE X a ta):PE X (.UnaryOp op a pos) (tUn r ta):=by
 intro pins s σ H Q I h
 exact UnaryOp_ (thn (ha pins s σ H _ I h) λv s1 ⟨x,H1,I1,r1,q1⟩=>ho pins s1 σ H1 x v Q I1 r1 q1)
theorem opI {f:Value->Value->Sem Value} {C:Int->Int->Prop} {g:Int->Int->Int}
  (rule:∀(i j:Int) (t u:Tok) (s:Shared) (Q:Value->Shared->Prop) (E:Value->Shared->Prop),C i j->Q (.int (g i j) s.toks) { s with toks:=s.toks+1 }->wpAny (model X.prog X.w) X.A (f (.int i t) (.int j u)) Q E s) :
  OpR X f (rI C λi j=>.int (g i j)):=by
 intro pins s σ H x y v u Q I rx ry h
 obtain ⟨i,j,rfl,rfl,hc,q⟩:=h
 obtain ⟨t,rfl⟩:=rx
 obtain ⟨t',rfl⟩:=ry
 exact rule i j t t' s _ _ hc ⟨.int (g i j),H,I.tok _,⟨_,rfl⟩,q⟩
theorem opI0 {f:Value->Value->Sem Value} {g:Int->Int->Int}
  (rule:∀(i j:Int) (t u:Tok) (s:Shared) (Q:Value->Shared->Prop) (E:Value->Shared->Prop),Q (.int (g i j) s.toks) { s with toks:=s.toks+1 }->wpAny (model X.prog X.w) X.A (f (.int i t) (.int j u)) Q E s) :
  OpR X f (rI0 λi j=>.int (g i j)):=by
 intro pins s σ H x y v u Q I rx ry h
 obtain ⟨i,j,rfl,rfl,q⟩:=h
 obtain ⟨t,rfl⟩:=rx
 obtain ⟨t',rfl⟩:=ry
 exact rule i j t t' s _ _ ⟨.int (g i j),H,I.tok _,⟨_,rfl⟩,q⟩
theorem opB0 {f:Value->Value->Sem Value} {g:Int->Int->Bool}
  (rule:∀(i j:Int) (t u:Tok) (s:Shared) (Q:Value->Shared->Prop) (E:Value->Shared->Prop),Q (.bool (g i j)) s->wpAny (model X.prog X.w) X.A (f (.int i t) (.int j u)) Q E s) :
  OpR X f (rI0 λi j=>.bl (g i j)):=by
 intro pins s σ H x y v u Q I rx ry h
 obtain ⟨i,j,rfl,rfl,q⟩:=h
 obtain ⟨t,rfl⟩:=rx
 obtain ⟨t',rfl⟩:=ry
 exact rule i j t t' s _ _ ⟨.bl (g i j),H,I,rfl,q⟩
def CDiv (i j:Int):Prop:=0<j/\j<1073741824
def Qt1 (i j:Int):Prop:=j≠0/\j.natAbs<1073741824
def CPow (i j:Int):Prop:=0<=j/\j<=1000000/\i.natAbs<2 ^ 64
def CMul (i j:Int):Prop:=(-(2 ^ 64)<i/\i<2 ^ 64)\/(-(2 ^ 64)<j/\j<2 ^ 64)
theorem CMul.ok {i j:Int} (h:CMul i j):IntMulOk i j:=by
 rcases h with ⟨h1,h2⟩ | ⟨h1,h2⟩
 ·exact .of_left (intBits_le_64 h1 h2)
 ·exact .of_right (intBits_le_64 h1 h2)
theorem Qqs:OpR X (binaryOp .Add) (rI0 λi j=>.int (i+j)):=opI0 λ_ _ _ _ _ _ _ q=>add_int q
theorem Qqj:OpR X (binaryOp .Sub) (rI0 λi j=>.int (i-j)):=opI0 λ_ _ _ _ _ _ _ q=>sub_int q
theorem Qqn:OpR X (binaryOp .Mult) (rI CMul λi j=>.int (i*j)):=opI λ_ _ _ _ _ _ _ hc q=>mul_int q hc.ok
theorem Qnl:OpR X (binaryOp .FloorDiv) (rI CDiv λi j=>.int (i / j)):=opI λi j _ _ _ _ _ hc q=>by
 have h1:(0:Int)<j:=hc.1
 have h2:j<1073741824:=hc.2
 exact floordiv_int (by omega) (by rw [Int.fdiv_eq_ediv_of_nonneg i (by omega)];exact q) (.inl (PyProof.noPylong_small (by omega)))
theorem Qje:OpR X (binaryOp .FloorDiv) (rI Qt1 λi j=>.int (i.fdiv j)):=opI λ_ _ _ _ _ _ _ hc q=>floordiv_int hc.1 q (.inl (PyProof.noPylong_small hc.2))
theorem Qqo:OpR X (binaryOp .Mod) (rI (λ_ j=>0<j) λi j=>.int (i % j)):=opI λi j _ _ _ _ _ hc q=>by
 have h1:(0:Int)<j:=hc
 exact mod_int' (by omega) (by rw [Int.fmod_eq_emod_of_nonneg i (by omega)];exact q)
theorem Qnk:OpR X (binaryOp .Mod) (rI (λ_ j=>j≠0) λi j=>.int (i.fmod j)):=opI λ_ _ _ _ _ _ _ hc q=>mod_int' hc q
theorem Qql:OpR X (binaryOp .Pow) (rI CPow λi j=>.int (i ^ j.toNat)):=opI λ_ _ _ _ _ _ _ hc q=>pow_int_small hc.1 hc.2.1 hc.2.2 q
theorem unI {f:Value->Sem Value} {g:Int->Int}
  (rule:∀(i:Int) (t:Tok) (s:Shared) (Q:Value->Shared->Prop) (E:Value->Shared->Prop),Q (.int (g i) s.toks) { s with toks:=s.toks+1 }->wpAny (model X.prog X.w) X.A (f (.int i t)) Q E s) :
  UnR X f (rU λi=>.int (g i)):=by
 intro pins s σ H x v Q I rx h
 obtain ⟨i,rfl,q⟩:=h
 obtain ⟨t,rfl⟩:=rx
 exact rule i t s _ _ ⟨.int (g i),H,I.tok _,⟨_,rfl⟩,q⟩
theorem Qo2:UnR X (unaryOp .USub) (rU λi=>.int (-i)):=unI λ_ _ _ _ _ q=>neg_int q
end
def scal:V->V->Bool
 | .non,.non=>true | .non,.int _=>true | .int _,.non=>true | .non,.bl _=>true | .bl _,.non=>true | .non,.str _=>true | .str _,.non=>true
 | .int _,.int _=>true | .bl _,.bl _=>true | .str _,.str _=>true | .byt _,.byt _=>true
 | .int _,.str _=>true | .str _,.int _=>true | .bl _,.str _=>true | .str _,.bl _=>true
 | _,_=>false
def rEq:R2:=λx y H Q=>scal x y=true/\Q (.bl (decide (x=y))) H
def rNe:R2:=λx y H Q=>scal x y=true/\Q (.bl (!decide (x=y))) H
theorem Qhp {i j:Int}:decide (V.int i=V.int j)=(i == j):=by
 rw [Bool.eq_iff_iff]
 simp
theorem Qej {i j:Bool}:decide (V.bl i=V.bl j)=(i == j):=by
 rw [Bool.eq_iff_iff]
 simp
theorem Qho {i j:Str}:decide (V.str i=V.str j)=(i == j):=by
 rw [Bool.eq_iff_iff]
 simp
theorem Qhq {i j:Array UInt8}:decide (V.byt i=V.byt j)=(i.toList == j.toList):=by
 rw [Bool.eq_iff_iff]
 cases i
 cases j
 simp
section
variable {X:Cx} {a b c:Expr} {ta tb tc:TE} {pos:Pos}
theorem Q8 {pins:List (Addr × Obj)} {σ:St} {H:Hp} {s:Shared} {Q:VK} {k k':Bool} (I:Inv X pins σ H s) (q:Q (.bl k) H) (e:k=k'):EP X pins σ Q (.bool k') s:=by
 subst e
 exact ⟨.bl k,H,I,rfl,q⟩
theorem Qtb:OpR X (compareOp .Eq) rEq:=by
 intro pins s σ H x y v u Q I rx ry h
 obtain ⟨hs,q⟩:=h
 cases x with
 | non =>
  cases rx
  cases y with
  | non=>cases ry;exact PySem.EqNone.eq_none_none (Q8 I q (by simp))
  | bl j=>cases ry;exact PySem.EqNone.eq_none_bool (Q8 I q (by simp))
  | int j=>obtain ⟨t',rfl⟩:=ry;exact PySem.EqNone.eq_none_int (Q8 I q (by simp))
  | str j=>obtain ⟨t',rfl⟩:=ry;exact PySem.EqNone.eq_none_str (Q8 I q (by simp))
  | _=>exact absurd (show false=true from hs) Bool.false_ne_true
 | bl i =>
  cases rx
  cases y with
  | non=>cases ry;exact PySem.EqNone.eq_bool_none (Q8 I q (by simp))
  | bl j=>cases ry;exact eq_bool (Q8 I q Qej)
  | str j=>obtain ⟨t',rfl⟩:=ry;exact PySem.EqMixed.eq_bool_str (Q8 I q (by simp))
  | _=>exact absurd (show false=true from hs) Bool.false_ne_true
 | int i =>
  obtain ⟨t,rfl⟩:=rx
  cases y with
  | non=>cases ry;exact PySem.EqNone.eq_int_none (Q8 I q (by simp))
  | int j=>obtain ⟨t',rfl⟩:=ry;exact eq_int (Q8 I q Qhp)
  | str j=>obtain ⟨t',rfl⟩:=ry;exact PySem.EqMixed.eq_int_str (Q8 I q (by simp))
  | _=>exact absurd (show false=true from hs) Bool.false_ne_true
 | str i =>
  obtain ⟨t,rfl⟩:=rx
  cases y with
  | non=>cases ry;exact PySem.EqNone.eq_str_none (Q8 I q (by simp))
  | bl j=>cases ry;exact PySem.EqMixed.eq_str_bool (Q8 I q (by simp))
  | int j=>obtain ⟨t',rfl⟩:=ry;exact PySem.EqMixed.eq_str_int (Q8 I q (by simp))
  | str j=>obtain ⟨t',rfl⟩:=ry;exact eq_str (Q8 I q Qho)
  | _=>exact absurd (show false=true from hs) Bool.false_ne_true
 | byt i =>
  obtain ⟨t,rfl⟩:=rx
  cases y with
  | byt j=>obtain ⟨t',rfl⟩:=ry;exact PySem.W.eq_bytes (Q8 I q Qhq)
  | _=>exact absurd (show false=true from hs) Bool.false_ne_true
 | _=>cases y <;> exact absurd (show false=true from hs) Bool.false_ne_true
theorem Qs8:OpR X (compareOp .NotEq) rNe:=by
 intro pins s σ H x y v u Q I rx ry h
 obtain ⟨hs,q⟩:=h
 cases x with
 | non =>
  cases rx
  cases y with
  | non=>cases ry;exact PySem.EqNone.ne_none_none (Q8 I q (by simp))
  | bl j=>cases ry;exact PySem.EqNone.ne_none_bool (Q8 I q (by simp))
  | int j=>obtain ⟨t',rfl⟩:=ry;exact PySem.EqNone.ne_none_int (Q8 I q (by simp))
  | str j=>obtain ⟨t',rfl⟩:=ry;exact PySem.EqNone.ne_none_str (Q8 I q (by simp))
  | _=>exact absurd (show false=true from hs) Bool.false_ne_true
 | bl i =>
  cases rx
  cases y with
  | non=>cases ry;exact PySem.EqNone.ne_bool_none (Q8 I q (by simp))
  | bl j=>cases ry;exact ne_bool (Q8 I q (congrArg not Qej))
  | str j=>obtain ⟨t',rfl⟩:=ry;exact PySem.EqMixed.ne_bool_str (Q8 I q (by simp))
  | _=>exact absurd (show false=true from hs) Bool.false_ne_true
 | int i =>
  obtain ⟨t,rfl⟩:=rx
  cases y with
  | non=>cases ry;exact PySem.EqNone.ne_int_none (Q8 I q (by simp))
  | int j=>obtain ⟨t',rfl⟩:=ry;exact ne_int (Q8 I q (congrArg not Qhp))
  | str j=>obtain ⟨t',rfl⟩:=ry;exact PySem.EqMixed.ne_int_str (Q8 I q (by simp))
  | _=>exact absurd (show false=true from hs) Bool.false_ne_true
 | str i =>
  obtain ⟨t,rfl⟩:=rx
  cases y with
  | non=>cases ry;exact PySem.EqNone.ne_str_none (Q8 I q (by simp))
  | bl j=>cases ry;exact PySem.EqMixed.ne_str_bool (Q8 I q (by simp))
  | int j=>obtain ⟨t',rfl⟩:=ry;exact PySem.EqMixed.ne_str_int (Q8 I q (by simp))
  | str j=>obtain ⟨t',rfl⟩:=ry;exact ne_str (Q8 I q (congrArg not Qho))
  | _=>exact absurd (show false=true from hs) Bool.false_ne_true
 | byt i =>
  obtain ⟨t,rfl⟩:=rx
  cases y with
  | byt j=>obtain ⟨t',rfl⟩:=ry;exact PySem.W.ne_bytes (Q8 I q (congrArg not Qhq))
  | _=>exact absurd (show false=true from hs) Bool.false_ne_true
 | _=>cases y <;> exact absurd (show false=true from hs) Bool.false_ne_true
theorem Qs9:OpR X (compareOp .Lt) (rI0 λi j=>.bl (decide (i<j))):=opB0 λ_ _ _ _ _ _ _ q=>lt_int q
theorem Qta:OpR X (compareOp .Gt) (rI0 λi j=>.bl (decide (j<i))):=opB0 λ_ _ _ _ _ _ _ q=>gt_int q
theorem Qgi:OpR X (compareOp .In) (λx y H Q=>∃i j,x=.str i/\y=.str j/\Q (.bl (!(Builtin.Str.occurrences j i 0 j.length 1).isEmpty)) H):=by
 intro pins s σ H x y v u Q I rx ry h
 obtain ⟨i,j,rfl,rfl,q⟩:=h
 obtain ⟨t,rfl⟩:=rx
 obtain ⟨t',rfl⟩:=ry
 exact in_str (Q8 I q rfl)
theorem OpR.or {f:Value->Value->Sem Value} {r r':R2} (h:OpR X f r) (h':OpR X f r'):OpR X f (λx y H Q=>r x y H Q\/r' x y H Q):=by
 intro pins s σ H x y v u Q I rx ry q
 rcases q with q | q
 ·exact h pins s σ H x y v u Q I rx ry q
 ·exact h' pins s σ H x y v u Q I rx ry q
theorem Qld (b:Expr) {op:CmpOp} (h:op ≠ .In:=by decide) (h2:op ≠ .NotIn:=by decide):behindInMarks op b=false:=by
 have e1:(op == CmpOp.In)=false:=by cases op <;> first | rfl | exact absurd rfl h
 have e2:(op == CmpOp.NotIn)=false:=by cases op <;> first | rfl | exact absurd rfl h2
 cases b <;> simp [behindInMarks,e1,e2]
theorem Qnh {op:CmpOp} {r:R2} (ho:OpR X (compareOp op) r) (ha:PE X a ta) (hb:PE X b tb) (hm:behindInMarks op b=false):PE X (.Compare a [op] [b] pos) (tOp r ta tb):=by
 intro pins s σ H Q I h
 exact wpAny_Compare1 (binT ha hb I h λv u s2 x y H2 I2 rx ry q=>ho pins s2 σ H2 x y v u Q I2 rx ry q) hm
def Qsc (t:TE):TT:=λσ H Q=>t σ H λx H'=>∃k,x=.bl k/\Q k H'
theorem Qm5 {op:CmpOp} {r:R2} (ho:OpR X (compareOp op) r) (ha:PE X a ta) (hb:PE X b tb) (hm:behindInMarks op b=false):PT X (.Compare a [op] [b] pos) (Qsc (tOp r ta tb)):=by
 intro pins s σ H Q I h
 refine wpAny_isTrue_Compare1 (thn (ha pins s σ H _ I h) λv s1 ⟨x,H1,I1,r1,q1⟩=>thn (hb pins s1 σ H1 _ I1 q1) λu s2 ⟨y,H2,I2,r2,q2⟩ =>
  thn (ho pins s2 σ H2 x y v u _ I2 r1 r2 q2) λc s3 ⟨z,H3,I3,r3,k,e,q3⟩=>?_) hm
 subst e
 cases r3
 exact wpAny_truthy_bool ⟨H3,I3,q3⟩
def TruV (K:PySem.W.Frag) (x:V) (H:Hp) (k:Bool):Prop :=
 match x with
 | .non=>k=false
 | .bl b=>k=b
 | .int i=>k=(i != 0)
 | .str y=>y.length<=sizeLine/\k=((y.length:Int) != 0)
 | .byt y=>y.size<=sizeLine/\k=((y.size:Int) != 0)
 | .ref p=>(∃xs,SqL K H p xs/\k = !xs.isEmpty)\/(∃xs,SqT K H p xs/\k = !xs.isEmpty)\/∃kvs,H p=some (.dK kvs)/\k = !kvs.isEmpty
 | _=>False
theorem Qe4 {κ:Type} {kvs:List (κ × V)} {vs:List (κ × Value)} (r:KV kvs vs):(!vs.isEmpty) = !kvs.isEmpty:=by
 cases r <;> rfl
theorem Xu {xs:List V} {its:List Value} (r:Vals xs its):(!its.toArray.isEmpty) = !xs.isEmpty:=by
 cases r <;> simp
theorem Xr:(sizeLine:Nat)<2 ^ 63:=by rw [sizeLine_eq];decide
theorem Qo5:TruR X (λx H Q=>∃k,TruV X.K x H k/\Q k H):=by
 intro pins s σ H x v Q I rx h
 obtain ⟨k,e,q⟩:=h
 have hl:=Xr
 have hs:sizeLine=16777216:=sizeLine_eq
 cases x with
 | non =>
  cases rx
  have e':k=false:=e
  subst e'
  exact truthy_none ⟨H,I,q⟩
 | bl b =>
  cases rx
  have e':k=b:=e
  subst e'
  exact wpAny_truthy_bool ⟨H,I,q⟩
 | int i =>
  obtain ⟨t,rfl⟩:=rx
  have e':k=(i != 0):=e
  subst e'
  exact PySem.P.truthy_int ⟨H,I,q⟩
 | str y =>
  obtain ⟨t,rfl⟩:=rx
  obtain ⟨hy,e'⟩:y.length<=sizeLine/\k=((y.length:Int) != 0):=e
  subst e'
  exact PySem.P.truthy_str (by omega) ⟨H,I.tok _,q⟩
 | byt y =>
  obtain ⟨t,rfl⟩:=rx
  obtain ⟨hy,e'⟩:y.size<=sizeLine/\k=((y.size:Int) != 0):=e
  subst e'
  exact PySem.W.truthy_bytes (by omega) ⟨H,I.tok _,q⟩
 | ref p =>
  cases rx
  have e':(∃xs,SqL X.K H p xs/\k = !xs.isEmpty)\/(∃xs,SqT X.K H p xs/\k = !xs.isEmpty)\/∃kvs,H p=some (.dK kvs)/\k = !kvs.isEmpty:=e
  rcases e' with ⟨xs,hx,e'⟩ | ⟨xs,hx,e'⟩ | ⟨kvs,hx,e'⟩
  ·subst e'
   obtain ⟨its,r,pl,hz⟩:=I.list hx
   have hlen:=r.length
   exact wpAny_truthy_list pl.isList (by simp only [List.size_toArray];omega) ⟨H,I.tok _,by rw [Xu r];exact q⟩
  ·subst e'
   obtain ⟨its,r,pl,hz⟩:=I.tuple hx
   have hlen:=r.length
   exact truthy_tuple pl (by simp only [List.size_toArray];omega) ⟨H,I.tok _,by rw [Xu r];exact q⟩
  ·subst e'
   obtain ⟨hz,hS,vs,r,m⟩:kvs.length<=sizeLine/\(p == sysModules)=false/\∃vs,KV kvs vs/\s.heap.DictOf (Q4 X.prog X.w) p vs:=I.hok p _ hx
   have hlen:kvs.length=vs.length:=Paired.length r
   exact wpAny_truthy_dict hS m (by omega) ⟨H,I.tok _,by rw [Qe4 r];exact q⟩
 | _=>exact (show False from e).elim
theorem Qiz (ha:PE X a ta) (he:∀whole,isTrue a X.env whole=(do let v ← whole;standAt a.pos;holding [v] (truthy v))) :
  PT X a (λσ H Q=>ta σ H λx H'=>∃k,TruV X.K x H' k/\Q k H'):=by
 intro pins s σ H Q I h
 exact isTrue_plain (thn (ha pins s σ H _ I h) λv s1 ⟨x,H1,I1,r1,q1⟩=>Qo5 pins s1 σ H1 x v Q I1 r1 q1) (he _)
theorem Qew:OpR X (binaryOp .Add) (λx y H Q=>∃i j,x=.str i/\y=.str j/\i.length+j.length<=sizeLine/\Q (.str (i++j)) H):=by
 intro pins s σ H x y v u Q I rx ry h
 obtain ⟨i,j,rfl,rfl,hz,q⟩:=h
 obtain ⟨t,rfl⟩:=rx
 obtain ⟨t',rfl⟩:=ry
 exact add_str (λt' tk=>⟨.str (i++j),H,I.tok _,⟨_,rfl⟩,q⟩) hz
theorem X2 {x:V} {us:List Value} (r:Vals [x] us):∃u,us=[u]/\RelV x u:=by
 cases r with
 | cons r1 r2=>cases r2;exact ⟨_,rfl,r1⟩
theorem Qo1 {x y:V} {us:List Value} (r:Vals [x,y] us):∃u w',us=[u,w']/\RelV x u/\RelV y w':=by
 cases r with
 | cons r1 r2 =>
  cases r2 with
  | cons r3 r4=>cases r4;exact ⟨_,_,rfl,r1,r3⟩
theorem Qh5:Vo X (.type "int") (λxs H Q=>(∃i,xs=[.int i]/\Q (.int i) H)\/∃k,xs=[.bl k]/\Q (.int (if k then 1 else 0)) H):=by
 intro pins s σ H xs us Q I r h
 rcases h with ⟨i,rfl,q⟩ | ⟨k,rfl,q⟩
 ·obtain ⟨u,rfl,t,rfl⟩:=X2 r
  exact call_int_int ⟨.int i,H,I,⟨_,rfl⟩,q⟩
 ·obtain ⟨u,rfl,r1⟩:=X2 r
  cases r1
  exact call_int_bool ⟨.int (if k then 1 else 0),H,I.tok _,⟨_,rfl⟩,q⟩
def LenV (K:PySem.W.Frag) (x:V) (H:Hp) (n:Nat):Prop :=
 match x with
 | .str y=>y.length<=sizeLine/\n=y.length
 | .byt y=>y.size<=sizeLine/\n=y.size
 | .ref p=>(∃xs,SqL K H p xs/\n=xs.length)\/∃xs,SqT K H p xs/\n=xs.length
 | _=>False
theorem Qen:Vo X (.builtin "len") (λxs H Q=>∃x n,xs=[x]/\LenV X.K x H n/\Q (.int n) H):=by
 intro pins s σ H xs us Q I r h
 obtain ⟨x,n,rfl,e,q⟩:=h
 obtain ⟨u,rfl,rx⟩:=X2 r
 have hl:=Xr
 have hs:sizeLine=16777216:=sizeLine_eq
 cases x with
 | str y =>
  obtain ⟨t,rfl⟩:=rx
  obtain ⟨hy,e'⟩:y.length<=sizeLine/\n=y.length:=e
  subst e'
  exact len_str (by omega) ⟨.int _,H,I.tok _,⟨_,rfl⟩,q⟩
 | byt y =>
  obtain ⟨t,rfl⟩:=rx
  obtain ⟨hy,e'⟩:y.size<=sizeLine/\n=y.size:=e
  subst e'
  exact PySem.W.len_bytes (by omega) ⟨.int _,H,I.tok _,⟨_,rfl⟩,q⟩
 | ref p =>
  cases rx
  have e':(∃xs,SqL X.K H p xs/\n=xs.length)\/∃xs,SqT X.K H p xs/\n=xs.length:=e
  rcases e' with ⟨xs,hx,e'⟩ | ⟨xs,hx,e'⟩
  ·subst e'
   obtain ⟨its,r',pl,hz⟩:=I.list hx
   have hlen:=r'.length
   exact Calls.call_len_list pl.isList (by simp only [List.size_toArray];omega) ⟨.int xs.length,H,I.tok _,⟨_,by simp only [List.size_toArray];rw [hlen]⟩,q⟩
  ·subst e'
   obtain ⟨its,r',pl,hz⟩:=I.tuple hx
   have hlen:=r'.length
   exact len_tuple pl (by simp only [List.size_toArray];omega) ⟨.int xs.length,H,I.tok _,⟨_,by simp only [List.size_toArray];rw [hlen]⟩,q⟩
 | _=>exact (show False from e).elim
end
end L2
namespace L2
open PySem PySem.Spec PyProof.Rows
structure ObjM (h:Heap) (x dx C:Addr) (mA:Str->Option Value):Prop where
 obj:h.get? x=some (PySem.W.instObj C dx)
 ns:h.Ns1 dx mA
 ne:dx≠x
theorem Qgx {h:Heap} {dx:Addr} {mA:Str->Option Value} (n:h.Ns1 dx mA):∃od,h.get? dx=some od/\∀name,PySem.W.lookIn name od=some (mA name):=by
 obtain ⟨o,es,ep,ho,hd,hk,_,hm⟩:=n
 refine ⟨o,ho,λname=>?_⟩
 have e:=hm name
 unfold nsFind findBy at e
 rw [← Array.find?_toList] at e
 unfold PySem.W.lookIn
 rw [hd]
 dsimp only
 split
 ·rename_i y q
  rw [q] at e
  exact congrArg some e
 ·rename_i q
  rw [q] at e
  have a:es.toList.any (·.refKey)=false:=by
   rw [List.any_eq_false]
   intro y hy
   obtain ⟨z,t,hkey⟩:=hk y (Array.mem_toList_iff.mp hy)
   simp [DictEntry.refKey,hkey]
  have a':¬es.toList.any (·.refKey)=true:=by rw [a];exact Bool.false_ne_true
  rw [if_neg a']
  exact congrArg some e
theorem ObjM.look {h:Heap} {x dx C:Addr} {mA:Str->Option Value} (I:ObjM h x dx C mA):∃od,PySem.W.InstAt h x (PySem.W.instObj C dx) C (some od)/\∀name,PySem.W.lookIn name od=some (mA name) :=
 let ⟨od,ho,hl⟩:=Qgx I.ns
 ⟨od,⟨I.obj,rfl,rfl,ho⟩,hl⟩
section
variable {prog:Program} {w:World} {A:Around} {E:Value->Shared->Prop} {s:Shared} {K:PySem.W.Frag} {x dx C f:Addr} {mA:Str->Option Value} {name:Str} {v:Value}
end
theorem RelO.some_of {v:V} {o:Option Value} (r:RelO (some v) o):∃u,o=some u/\RelV v u:=by
 cases o with
 | none=>exact (show False from r).elim
 | some u=>exact ⟨u,rfl,r⟩
section
variable {P:Program} {w:World} {H H':Hp} {h h':Heap} {a C dx:Addr} {fs fs':List (Str × V)}
theorem Qn7 (hok:HOk P w H h) (e:H a=some (.ins C dx fs)):∃mA,ObjM h a dx C mA/\(∀f,RelO (fs.lookup f) (mA f))/\PySem.Within mA (fs.map (·.1))/\fs.length<=1000/\H dx=some (.own a):=by
 obtain ⟨d,z,ne,ob,mA,n,r,q⟩:=(show Jh P w H h a (.ins C dx fs) from hok a _ e)
 exact ⟨mA,⟨ob,n,ne⟩,r,q,z,d⟩
end
structure Cls (K:PySem.W.Frag) (C:Addr):Prop where
 pg:PySem.W.plainGet K C Str.empty=true
 hd:PySem.W.hasDictIn K C=true
 po:PySem.W.plainOver K C=true
 sa:PySem.W.findIn K (.ref C) "__setattr__" = some (some (.builtin "object.__setattr__"))
theorem Cls.get {K:PySem.W.Frag} {C:Addr} (c:Cls K C) (f:Str):PySem.W.plainGet K C f=true:=c.pg
section
variable {X:Cx} {pins:List (Addr × Obj)} {σ:St} {H:Hp} {s:Shared} {a C dx:Addr} {fs:List (Str × V)} {f:Str} {v:V} {A:Around} {E:Value->Shared->Prop}
end
section
variable {X:Cx} {o e value:Expr} {f:Str} {pos pos' tpos:Pos} {ta tv:TE}
end
section
variable {X:Cx} {pins:List (Addr × Obj)} {σ:St} {H:Hp} {s:Shared} {A:Around} {E:Value->Shared->Prop} {Q:Value->Shared->Prop} {c:Value} {b:Bool}
inductive TyOf (K:PySem.W.Frag) (H:Hp):V->Value->Prop where
 | non:TyOf K H .non (.type "NoneType")
 | bl (x:Bool):TyOf K H (.bl x) (.type "bool")
 | int (i:Int):TyOf K H (.int i) (.type "int")
 | str (x:Str):TyOf K H (.str x) (.type "str")
 | flt (x:UInt64):TyOf K H (.flt x) (.type "float")
 | lst {a:Addr} {xs:List V} (e:H a=some (.lst xs)):TyOf K H (.ref a) (.type "list")
 | frz {a:Addr} {o:Obj} {xs:List V} (e:H a=some (.frz o (.lst xs))):TyOf K H (.ref a) (.type "list")
 | tup {a:Addr} {xs:List V} (e:H a=some (.tup xs)):TyOf K H (.ref a) (.type "tuple")
 | dK {a:Addr} {kvs:List (Key × V)} (e:H a=some (.dK kvs)):TyOf K H (.ref a) (.type "dict")
 | dT {a:Addr} {kvs:List (List Key × V)} (e:H a=some (.dT kvs)):TyOf K H (.ref a) (.type "dict")
 | ins {a C dx:Addr} {fs:List (Str × V)} (e:H a=some (.ins C dx fs)) (cl:Cls K C) (ha:PySem.W.findIn K (.ref C) "__class__" = some (some (.builtin "object.__class__")))
   (hn:PySem.W.specialIn K (.builtin "object.__class__") "__get__" = some (some (.builtin "getset_descriptor.__get__"))) (htk:PySem.W.takesIn K (.builtin "object.__class__")=some true)
   (hm:PySem.W.mroIn K C (.type "object")=some true):TyOf K H (.ref a) (.ref C)
theorem Qg7 {x:V} {u t:Value} (I:Inv X pins σ H s) (rx:RelV x u) (ty:TyOf X.K H x t) (e:PySem.W.kitOne X.K t c=some b) (h:∀tk,Q (.bool b) { s with toks:=tk }) :
  wpAny (model X.prog X.w) A (call (.builtin "isinstance") [u,c]) Q E s:=by
 cases ty with
 | non=>cases (show u=Value.none from rx);exact PySem.W.kia_one PySem.W.kitx_none I.kIn True.intro e (λz=>nomatch z) h
 | bl y=>cases (show u=Value.bool y from rx);exact PySem.W.kia_one PySem.W.kitx_bool I.kIn True.intro e (λz=>nomatch z) h
 | int i=>obtain ⟨t,q⟩:=(show ∃t,u=Value.int i t from rx);cases q;exact PySem.W.kia_one PySem.W.kitx_int I.kIn True.intro e (λz=>nomatch z) h
 | str y=>obtain ⟨t,q⟩:=(show ∃t,u=Value.str y t from rx);cases q;exact PySem.W.kia_one PySem.W.kitx_str I.kIn True.intro e (λz=>nomatch z) h
 | flt y=>obtain ⟨t,q⟩:=(show ∃t,u=Value.float y t from rx);cases q;exact PySem.W.kia_one PySem.W.kitx_float I.kIn True.intro e (λz=>nomatch z) h
 | @lst a xs ea =>
  cases (show u=Value.ref a from rx)
  obtain ⟨_,_,n,_,h1⟩:=(show Jh X.prog X.w H s.heap a (.lst xs) from I.hok a _ ea)
  exact PySem.W.kia_one PySem.W.kitx_list I.kIn ⟨_,h1,rfl⟩ e (λz=>nomatch z) h
 | @frz a ob xs ea =>
  cases (show u=Value.ref a from rx)
  obtain ⟨_,_,_,n,_,h1⟩:=(show Jh X.prog X.w H s.heap a (.frz ob (.lst xs)) from I.hok a _ ea)
  exact PySem.W.kia_one PySem.W.kitx_list I.kIn ⟨_,h1,rfl⟩ e (λz=>nomatch z) h
 | @tup a xs ea =>
  cases (show u=Value.ref a from rx)
  obtain ⟨_,_,_,p⟩:=(show Jh X.prog X.w H s.heap a (.tup xs) from I.hok a _ ea)
  obtain ⟨o,h1,h2,_⟩:=p
  exact PySem.W.kia_one PySem.W.kitx_tuple I.kIn ⟨o,h1,h2⟩ e (λz=>nomatch z) h
 | @dK a kvs ea =>
  cases (show u=Value.ref a from rx)
  obtain ⟨_,_,vs,_,p⟩:=(show Jh X.prog X.w H s.heap a (.dK kvs) from I.hok a _ ea)
  obtain ⟨o,es,ep,h1,h2,_⟩:=p
  exact PySem.W.kia_one PySem.W.kitx_dict I.kIn ⟨o,h1,h2.1⟩ e (λz=>nomatch z) h
 | @dT a kvs ea =>
  cases (show u=Value.ref a from rx)
  obtain ⟨_,_,xs,_,o,es,ep,h1,h2,_⟩:=(show Jh X.prog X.w H s.heap a (.dT kvs) from I.hok a _ ea)
  exact PySem.W.kia_one PySem.W.kitx_dict I.kIn ⟨o,h1,h2.1⟩ e (λz=>nomatch z) h
 | @ins a C dx fs ea cl ha hn htk hm =>
  cases (show u=Value.ref a from rx)
  obtain ⟨mA,O,_⟩:=Qn7 I.hok ea
  obtain ⟨od,J,_⟩:=O.look
  exact PySem.W.kia_one (PySem.W.kitx_own (cl.get _) cl.hd ha hn htk hm) I.kIn J e (λz=>nomatch z) h
end
end L2
namespace L2
open PySem PySem.Spec PyProof.Rows
structure Room (k:Nat) (A:Around):Prop where
 hd:A.handled=none
 dp:A.depth+3*k+5<recursionLimit
 un:A.units+16*k+200<cLine
theorem Room.mono {j k:Nat} {A:Around} (r:Room k A) (h:j<=k):Room j A:=⟨r.hd,by have:=r.dp;omega,by have:=r.un;omega⟩
theorem Room.deeper {k:Nat} {A:Around} (r:Room (k+1) A) (env:Env):Room k (A.deeper env) :=
 ⟨r.hd,by have:=r.dp;show A.depth+1+3*k+5<_;omega,by have:=r.un;show A.units+3+16*k+200<_;omega⟩
theorem Room.depth {k:Nat} {A:Around} (r:Room k A):A.depth<recursionLimit:=by have:=r.dp;omega
theorem Room.units {k:Nat} {A:Around} (r:Room k A):A.units+64<cLine:=by have:=r.un;omega
def tNil:TA:=λ_ H Q=>Q [] H
def Qsj (ta:TE) (tr:TA):TA:=λσ H Q=>ta σ H λx H1=>tr σ H1 λxs H2=>Q (x::xs) H2
section
variable {X:Cx} {e:Expr} {es:List Expr} {te:TE} {t:TA} {pos:Pos}
theorem Qgg:PA X [] tNil:=λ_ _ _ _ H Q I h=>Calls.spliced_nil ⟨[],H,I,.nil,h⟩
theorem Ve (ha:PE X e te) (hr:PA X es t) (hs:starEach (e::es) X.env=(false,eval e X.env)::starEach es X.env:=by rfl):PA X (e::es) (Qsj te t):=by
 intro pos pins s σ H Q I h
 rw [hs]
 show wpAny _ _ (spliced ((false,eval e X.env)::backTo pos (starEach es X.env))) _ _ s
 refine Calls.spliced_cons (thn (ha pins s σ H _ I h) λu s1 ⟨x,H1,I1,r1,q1⟩=>?_)
 exact thn (hr pos pins s1 σ H1 _ I1 q1) λus s2 ⟨xs,H2,I2,r2,q2⟩=>⟨x::xs,H2,I2,.cons r1 r2,q2⟩
def tTup (t:TA):TE:=λσ H Q=>t σ H λxs H1=>xs.length<=sizeLine/\∀p,H1 p=none->Q (.ref p) (upd H1 p (.tup xs))
def tLst (t:TA):TE:=λσ H Q=>t σ H λxs H1=>xs.length<=sizeLine/\∀p,H1 p=none->Q (.ref p) (upd H1 p (.lst xs))
theorem Qqb {x1} (h:PA X es t):PE X (.Tuple es x1 pos) (tTup t):=by
 intro pins s σ H Q I hq
 refine wpAny_Tuple_spliced (thn (h pos pins s σ H _ I hq) λus s1 ⟨xs,H1,I1,r,z,q⟩=>⟨by rw [← r.length];exact z,?_⟩)
 have hf:H1 s1.heap.objs.size=none:=I1.hok.fresh (Nat.le_refl _)
 refine ⟨.ref s1.heap.objs.size,upd H1 s1.heap.objs.size (.tup xs),I1.laid (t':=s1.toks) (λb u e=>Heap.get?_push_of_some _ e) (Nat.le_refl _) ?_,rfl,q _ hf⟩
 exact ⟨z,us,r,⟨_,Heap.get?_push_size _ rfl,rfl,_,rfl⟩⟩
theorem Qqf (h:PA X es t):PE X (.List es pos) (tLst t):=by
 intro pins s σ H Q I hq
 refine wpAny_List_spliced (thn (h pos pins s σ H _ I hq) λus s1 ⟨xs,H1,I1,r,z,q⟩=>⟨by rw [← r.length];exact z,?_⟩)
 have hf:H1 s1.heap.objs.size=none:=I1.hok.fresh (Nat.le_refl _)
 refine ⟨.ref s1.heap.objs.size,upd H1 s1.heap.objs.size (.lst xs),I1.laid (t':=s1.toks) (λb u e=>Heap.get?_push_of_some _ e) (Nat.le_refl _) ?_,rfl,q _ hf⟩
 exact ⟨z,us,0,r,Heap.get?_push_size _ rfl⟩
end
abbrev Sp:=List V->Hp->VK->XK->Prop
abbrev CXT:=List Env->Hp->Shared->XK->Value->Shared->Prop
structure Env0 (P:Program) (w:World) (K:PySem.W.Frag) (mg:Str->Option Value) (base:Heap) (A:Around) (outer:List Env) (s:Shared) (H:Hp):Prop where
 frames:A.frames=some outer
 mod:Mod K mg base
 bs:∀b o,base.get? b=some o->s.heap.get? b=some o/\H b=none
 bsz:base.objs.size<=s.heap.objs.size
 funs:s.heap.FunFrames base outer
 frf:∀b∈frs outer,H b=none
 hok:HOk P w H s.heap
 bare:AllBare s.gens
def CE (outer:List Env) (P:Program) (w:World) (H:Hp) (s:Shared) (Q:VK) (u:Value) (s':Shared):Prop :=
 ∃v H',s'.os=s.os/\AllBare s'.gens/\Un (frs outer) [] H H' s.heap s'.heap/\HOk P w H' s'.heap/\RelV v u/\Q v H'
def CR (CX:CXT) (outer:List Env) (P:Program) (w:World) (H:Hp) (s:Shared) (Q:VK) (E:XK) (r:Result) (s':Shared):Prop :=
 match r with
 | .ok (.ret u)=>CE outer P w H s Q u s'
 | .ok _=>False
 | .error e=>CX outer H s E e s'
structure FnOk (P:Program) (w:World) (K:PySem.W.Frag) (mg:Str->Option Value) (base:Heap) (CX:CXT) (k:Nat) (f:Addr) (fd:FuncData) (ps:List Str) (sp:Sp):Prop where
 len:∀vs H Q E,sp vs H Q E->vs.length=ps.length
 run:∀(A:Around) (outer:List Env) (s:Shared) (H:Hp) (args:Args) (us:List Value) (vs:List V) (Q:VK) (E:XK),Room k A->Env0 P w K mg base A outer s H->BindsTo s fd args (ps.zip us)->Vals vs us->sp vs H Q E ->
  codeAny (model P w) A (.call (.ref f) args) (CR CX outer P w H s Q E) s
section
variable {X:Cx} {pins:List (Addr × Obj)} {σ:St} {H:Hp} {s s':Shared}
theorem Inv.env0 (I:Inv X pins σ H s):Env0 X.prog X.w X.K X.mg X.base X.A X.stack s H :=
 ⟨I.ok.frames,I.ok.mod,I.bs,Nat.le_trans I.ok.bsz I.sz,I.stack,I.stkFree,I.hok,I.bare⟩
theorem Inv.after {Q:VK} {u:Value} (I:Inv X pins σ H s) (h:CE X.stack X.prog X.w H s Q u s'):EP X pins σ Q u s':=by
 obtain ⟨v,H',os,bare,un,hok,r,q⟩:=h
 obtain ⟨hh,g,d,t,os'⟩:=s'
 obtain rfl:os'=s.os:=os
 exact ⟨v,H',I.call (h':=hh) (g':=g) (d':=d) (t':=t) (ch:=[]) un hok bare (λb z=>absurd z (by simp)),r,q⟩
end
def Qsk (sp:Sp) (dvs:List V) (E:XK) (t:TA):TE:=λσ H Q=>t σ H λvs H1=>sp (vs++dvs) H1 Q E
def Qcg (K:PySem.W.Frag) (fd:FuncData) (ps:List Str) (ds:List Value):Prop :=
 ∀(s:Shared) (us:List Value),K.In s.heap->(us++ds).length=ps.length->BindsTo s fd ⟨us,[]⟩ (ps.zip (us++ds))
theorem Qcg.all {K:PySem.W.Frag} {fd:FuncData} {ps:List Str} (h:∀us:List Value,us.length=ps.length->bindArgs fd ⟨us,[]⟩=pure (ps.zip us)):Qcg K fd ps []:=λs us _ hl=>by
 rw [List.append_nil] at hl ⊢
 exact .of_eq (h us hl)
def Qif (CX:CXT) (X:Cx) (E:XK):Prop:=∀(pins:List (Addr × Obj)) (σ:St) (H:Hp) (s:Shared) (e:Value) (s':Shared),Inv X pins σ H s->CX X.stack H s E e s'->X.xe e s'
section
variable {X:Cx} {CX:CXT} {k:Nat} {f C:Addr} {fd:FuncData} {ps:List Str} {sp:Sp} {dvs:List V} {ds:List Value} {E:XK} {x m:Str} {p pos apos:Pos} {e o:Expr} {es:List Expr} {ta:TE} {t:TA}
theorem Qpg {pins:List (Addr × Obj)} {σ:St} {H:Hp} {s:Shared} {Q:VK} {us:List Value} {vs:List V} (F:FnOk X.prog X.w X.K X.mg X.base CX k f fd ps sp) (hr:Room k X.A) (hb:Qcg X.K fd ps ds) (hd:Vals dvs ds) (hx:Qif CX X E)
  (I:Inv X pins σ H s) (r:Vals vs us) (h:sp (vs++dvs) H Q E):wpAny (model X.prog X.w) X.A (call (.ref f) us) (EP X pins σ Q) X.xe s:=by
 have r2:Vals (vs++dvs) (us++ds):=r.append hd
 have hl:(us++ds).length=ps.length:=by rw [← r2.length];exact F.len _ _ _ _ h
 refine wpAny_call (codeAny_mono (F.run X.A X.stack s H ⟨us,[]⟩ (us++ds) (vs++dvs) Q E hr I.env0 (hb s us I.kIn hl) r2 h) λr s' hq=>?_)
 cases r with
 | error e=>exact hx pins σ H s e s' I hq
 | ok fl =>
  cases fl with
  | ret u=>exact I.after hq
  | next=>exact False.elim hq
  | brk=>exact False.elim hq
  | cont=>exact False.elim hq
theorem Qcq (F:FnOk X.prog X.w X.K X.mg X.base CX k f fd ps sp) (hr:Room k X.A) (hg:Gl X x) (hm:X.mg x=some (.ref f)) (hk:PySem.W.keepIn X.K (.ref f)=true) (hb:Qcg X.K fd ps ds) (hd:Vals dvs ds) (hx:Qif CX X E)
  (ha:PA X (e::es) t) (hdb:(x == ("__debug__" : Str))=false:=by decide) (he:starEach (e::es) X.env=(false,eval e X.env)::starEach es X.env:=by rfl) (hpl:(backTo pos (starEach es X.env)).any (·.1)=false:=by rfl) :
  PE X (.Call (.Name x p) (e::es) [] pos) (Qsk sp dvs E t):=by
 intro pins s σ H Q I h
 refine wpAny_Call_Name_kw (Qgz I hg hm ?_ hdb)
 refine PySem.W.callWith_K (h₀:=X.base) I.ok.mod.kin hk (thn (ha pos pins s σ H _ I h) λus s1 ⟨vs,H1,I1,r,q⟩=>⟨I1.kIn,?_⟩) he hpl
 exact Qpg F hr hb hd hx I1 r q
end
section
variable {X:Cx} {CX:CXT} {k:Nat} {f C:Addr} {fd:FuncData} {ps ks:List Str} {sp:Sp} {E:XK} {x m:Str} {p pos apos kpos:Pos} {e o:Expr} {es:List Expr} {kws:List Keyword} {te ta:TE} {t tk:TA} {nm:Option Str}
variable {g:List Value->List Value->List Value} {gV:List V->List V->List V}
end
structure FnScope (N P:List Str) (sc:Scope):Prop where
 kind:sc.kind=.function
 co:sc.isCoroutine=false
 gen:sc.isGenerator=false
 nd:N.Nodup
 pre:N.take P.length=P
 par:∀x∈P,sc.names.lookup x=some .local\/sc.names.lookup x=some .cell
 nofree:∀y∈sc.names,y.2 ≠ .free
theorem Qb5 {kindOf:Str->Option NameKind} {x:Str}:∀{binds:List (Str × Value)} {m:Str->Option Value},(∀v,(x,v)∉binds)->bindL kindOf binds m x=m x
 | [],_,_=>rfl
 | (n,v)::r,m,h=>by
  unfold bindL
  rw [Qb5 λw hw=>h w (List.mem_cons_of_mem _ hw)]
  split
  ·have:x≠n:=by rintro rfl;exact h v List.mem_cons_self
   simp [this]
  ·rfl
theorem Qb7 {kindOf:Str->Option NameKind} {x:Str}:∀{binds:List (Str × Value)} {m:Str->Option Value},(∀v,(x,v)∉binds)->bindC kindOf binds m x=m x
 | [],_,_=>rfl
 | (n,v)::r,m,h=>by
  unfold bindC
  rw [Qb7 λw hw=>h w (List.mem_cons_of_mem _ hw)]
  split
  ·rfl
  ·have:x≠n:=by rintro rfl;exact h v List.mem_cons_self
   simp [this]
theorem Qb6 {kindOf:Str->Option NameKind} {x:Str} {v:Value}:∀{P:List Str} {vs:List Value} {i:Nat} {m:Str->Option Value},P.Nodup->P[i]? = some x->vs[i]? = some v->kindOf x=some .local ->
  bindL kindOf (P.zip vs) m x=some v
 | [],_,_,_,_,h,_,_=>by simp at h
 | _::_,[],_,_,_,_,h,_=>by simp at h
 | p::P,w::vs,0,m,nd,h1,h2,hk=>by
  simp at h1 h2;subst h1;subst h2
  show bindL kindOf ((p,w)::P.zip vs) m p=_
  unfold bindL
  rw [Qb5 λv hv=>(List.nodup_cons.mp nd).1 (List.of_mem_zip hv).1,if_pos hk]
  simp
 | p::P,w::vs,i+1,m,nd,h1,h2,hk=>by
  show bindL kindOf ((p,w)::P.zip vs) m x=_
  unfold bindL
  exact Qb6 (i:=i) (List.nodup_cons.mp nd).2 (by simpa using h1) (by simpa using h2) hk
theorem Qb8 {kindOf:Str->Option NameKind} {x:Str} {v:Value}:∀{P:List Str} {vs:List Value} {i:Nat} {m:Str->Option Value},P.Nodup->P[i]? = some x->vs[i]? = some v->kindOf x≠some .local ->
  bindC kindOf (P.zip vs) m x=some v
 | [],_,_,_,_,h,_,_=>by simp at h
 | _::_,[],_,_,_,_,h,_=>by simp at h
 | p::P,w::vs,0,m,nd,h1,h2,hk=>by
  simp at h1 h2;subst h1;subst h2
  show bindC kindOf ((p,w)::P.zip vs) m p=_
  unfold bindC
  rw [Qb7 λv hv=>(List.nodup_cons.mp nd).1 (List.of_mem_zip hv).1,if_neg hk]
  simp
 | p::P,w::vs,i+1,m,nd,h1,h2,hk=>by
  show bindC kindOf ((p,w)::P.zip vs) m x=_
  unfold bindC
  exact Qb8 (i:=i) (List.nodup_cons.mp nd).2 (by simpa using h1) (by simpa using h2) hk
def start (N:List Str) (vs:List V):St:=vs.map some++List.replicate (N.length-vs.length) none
def cxOf (CX:CXT) (P:Program) (w:World) (K:PySem.W.Frag) (mg:Str->Option Value) (base:Heap) (N:List Str) (qual:Str) (scope:Scope) (f:Addr) (cd:Value) (A:Around) (outer:List Env) (s:Shared) (H:Hp) (E:XK):Cx where
 prog:=P
 w:=w
 K:=K
 mg:=mg
 base:=base
 A:=A.deeper (envOfC qual scope s.heap.objs.size f cd)
 N:=N
 s₀:=s
 H₀:=H
 env:=envOfC qual scope s.heap.objs.size f cd
 outer:=outer
 stack:=envOfC qual scope s.heap.objs.size f cd::outer
 ex:=[]
 calm:=true
 fn:=λ_=>true
 pn:=[]
 xe:=λe s'=>wpAny (model P w) (A.deeper (envOfC qual scope s.heap.objs.size f cd)) (leaving (envOfC qual scope s.heap.objs.size f cd) e) (λ_ s''=>CX outer H s E e s'') (λe' s''=>CX outer H s E e' s'') s'
theorem Qem {sc:Scope} {n:Nat} {x:Str} (h:sc.names.lookup x=some .cell):∃c,(cellsFrom n sc.names []).lookup x=some c:=by
 have q:=PySem.W.cellsFrom_some sc.names n [] (.inl h)
 exact Option.isSome_iff_exists.mp q
theorem Qg8 {CX:CXT} {P:Program} {w:World} {K:PySem.W.Frag} {mg:Str->Option Value} {base:Heap} {N ps:List Str} {qual:Str} {scope:Scope} {f:Addr} {cd:Value} {A:Around} {outer:List Env} {s s1:Shared} {H:Hp} {E:XK} {us:List Value} {vs:List V}
  (S:FnScope N ps scope) (hd:A.handled=none) (e0:Env0 P w K mg base A outer s H) (hl:vs.length=ps.length) (r:Vals vs us)
  (x:InCallC s s.heap.objs.size (bindL (envOfC qual scope s.heap.objs.size f cd).kindOf (ps.zip us) λ_=>none) (cellsFrom (s.heap.objs.size+1) scope.names []) (bindC (envOfC qual scope s.heap.objs.size f cd).kindOf (ps.zip us) λ_=>none) s1) :
  Inv (cxOf CX P w K mg base N qual scope f cd A outer s H E) [] (start N vs) H s1:=by
 have hpl:ps.length<=N.length:=by have:=congrArg List.length S.pre;rw [List.length_take] at this;omega
 obtain ⟨h1,tk,rfl,hk⟩:=x.done
 have noA:∀b:Addr,b∉(cxOf CX P w K mg base N qual scope f cd A outer s H E).ex:=λb z=>absurd (show b∈([]:List Addr) from z) (by simp)
 refine ⟨⟨e0.mod,S.kind,rfl,rfl,Nat.le_refl _,λy z c h1 h2=>?_,λy hy=>?_,λy c _ h=>?_,λ_=>hd,Around.frames_deeper e0.frames,.inr ⟨rfl,rfl⟩,λb z=>absurd z (noA b),e0.bs,e0.bsz,λb _ _=>noA b,λb z=>absurd z (noA b),e0.funs,e0.frf⟩,
  rfl,e0.bare,Un.kept hk,⟨_,x.toInCall.ns,λi y v h1 h2 h3=>?_⟩,λy c h=>⟨_,x.cell y c h⟩,e0.hok.fresh (Nat.le_refl _),λy c h=>?_,λp hp=>absurd (show p∈([]:List (Addr × Obj)) from hp) (by simp),e0.hok.kept hk,?_⟩
 ·exact name_of_addr x.apart (PySem.mem_of_lookup h1) (PySem.mem_of_lookup h2)
 ·have hy:scope.names.lookup y=some .cell\/scope.names.lookup y=some .free:=hy
  rcases hy with hy | hy
  ·exact Qem hy
  ·exact absurd rfl (S.nofree _ (PySem.mem_of_lookup hy))
 ·exact Nat.le_of_lt (x.above y c (PySem.mem_of_lookup h))
 ·have hi:i<vs.length:=by
   unfold start at h2
   by_cases hi:i<vs.length
   ·exact hi
   ·rw [List.getElem?_append_right (by simpa using hi)] at h2
    rw [List.getElem?_replicate] at h2
    split at h2 <;> cases h2
  have ha:vs[i]? = some v:=by
   unfold start at h2
   rw [List.getElem?_append_left (by simpa using hi),List.getElem?_map] at h2
   cases e:vs[i]? with
   | none=>rw [e] at h2;cases h2
   | some a=>rw [e] at h2;cases h2;rfl
  obtain ⟨u,hu,rv⟩:=r.get ha
  have hp:ps[i]? = some y:=by
   rw [← S.pre,List.getElem?_take_of_lt (by omega)];exact h1
  have ndP:ps.Nodup:=by rw [← S.pre];exact S.nd.sublist (List.take_sublist _ _)
  refine ⟨u,rv,?_⟩
  rcases S.par y (List.mem_of_getElem? hp) with k | k
  ·exact .inl ⟨k,Qb6 ndP hp hu k⟩
  ·obtain ⟨c,e⟩:=Qem (n:=s.heap.objs.size+1) k
   refine .inr ⟨.inl k,c,e,?_⟩
   have q:=x.cell y c e
   rw [Qb8 ndP hp hu (by show scope.names.lookup y≠_;rw [k];decide)] at q
   exact q
 ·exact e0.hok.fresh (Nat.le_of_lt (x.above y c (PySem.mem_of_lookup h)))
 ·unfold start
  show _=N.length
  rw [List.length_append,List.length_map,List.length_replicate]
  omega
theorem Qto {CX:CXT} {P:Program} {w:World} {K:PySem.W.Frag} {mg:Str->Option Value} {base:Heap} {k:Nat} {f:Addr} {name qual:Str} {params:Arguments} {body:List Stmt} {scope:Scope} {dV kV doc pm cdv ct oc:Value} {an od:Option Addr}
  {osl:Array (Option Value)} {N ps:List Str} {sp:Sp} (lk:K.lookup f=some ⟨oc,od,.func (PySem.W.fnOf name qual params body scope dV kV doc pm an cdv ct),osl⟩) (hcd:PySem.W.codeIn K cdv qual=true) (S:FnScope N ps scope)
  (len:∀vs H Q E,sp vs H Q E->vs.length=ps.length)
  (hbody:∀(A:Around) (outer:List Env) (s:Shared) (H:Hp) (vs:List V) (Q:VK) (E:XK),Room k (A.deeper (envOfC qual scope s.heap.objs.size f cdv))->sp vs H Q E ->
   ∃t,PSs (cxOf CX P w K mg base N qual scope f cdv A outer s H E) body t/\t { nx:=λ_ H'=>Q .non H',rt:=Q } (start N vs) H) :
  FnOk P w K mg base CX (k+1) f (PySem.W.fnOf name qual params body scope dV kV doc pm an cdv ct) ps sp:=by
 refine ⟨len,λA outer s H args us vs Q E hr e0 hb r hsp=>?_⟩
 have hl:=len _ _ _ _ hsp
 have KX:K.In s.heap:=e0.mod.kin.keeps λb o e=>(e0.bs b o e).1
 have lim:s.heap.NoLimit:=e0.mod.nolimit.keeps λb o e=>(e0.bs b o e).1
 have hkind:∀y∈ps.zip us,scope.names.lookup y.1=some .local\/(scope.names.lookup y.1=some .cell/\((cellsFrom (s.heap.objs.size+1) scope.names []).lookup y.1).isSome=true):=λ⟨n,v⟩ hy=>by
  rcases S.par n (List.of_mem_zip hy).1 with q | q
  ·exact .inl q
  ·exact .inr ⟨q,PySem.W.cellsFrom_some _ _ _ (.inl q)⟩
 refine codeAny_call_function hr.depth (KX _ _ lk) rfl S.co S.gen rfl (PySem.W.codeRec_of KX hcd) (hb _ _ _ _ ?_)
 refine wpAny_newFunctionEnv_cells S.kind hkind λenv he s1 x=>?_
 subst he
 refine ⟨lim.keeps x.toInCall.keep,codeAny_func ?_⟩
 obtain ⟨t,ht,hq⟩:=hbody A outer s H vs Q E (hr.deeper _) hsp
 have I:Inv (cxOf CX P w K mg base N qual scope f cdv A outer s H E) [] (start N vs) H s1:=Qg8 S hr.hd e0 hl r x
 refine wpAny_mono (ht [] s1 (start N vs) H _ I hq) (λfl s' hs=>?_) λe s' hs=>hs
 have fin:∀{σ':St} {H':Hp} {v:V} {u:Value},Inv (cxOf CX P w K mg base N qual scope f cdv A outer s H E) [] σ' H' s'->RelV v u->Q v H'->CE outer P w H s Q u s' :=
  λ{σ' H' v u} J rv q=>⟨v,H',J.os,J.bare,J.base,J.hok,rv,q⟩
 cases fl with
 | ret u =>
  obtain ⟨v,σ',H',J,rv,q⟩:=hs
  exact fin J rv q
 | next =>
  obtain ⟨σ',H',J,q⟩:=hs
  exact fin (v:=V.non) (u:=Value.none) J rfl q
 | brk =>
  obtain ⟨_,_,_,q⟩:=hs
  exact False.elim q
 | cont =>
  obtain ⟨_,_,_,q⟩:=hs
  exact False.elim q
end L2
namespace L2
open PySem PySem.Spec PyProof.Rows
section
variable {X:Cx} {x:Str} {p pos:Pos} {e:Expr} {es:List Expr} {t:TA} {id T:String} {r:List V->Hp->VK->Prop}
def tCB (r:List V->Hp->VK->Prop) (t:TA):TE:=λσ H Q=>t σ H λvs H1=>r vs H1 Q
theorem Qjb (hc:Vo X (.builtin id) r) (hg:Gl X x) (hm:X.mg x=none) (hv:bootBuiltins x=some (.builtin id)) (ha:PA X (e::es) t) (hn:x ≠ "__name__":=by decide) (hdb:(x == ("__debug__" : Str))=false:=by decide)
  (he:starEach (e::es) X.env=(false,eval e X.env)::starEach es X.env:=by rfl) (hpl:(backTo pos (starEach es X.env)).any (·.1)=false:=by rfl):PE X (.Call (.Name x p) (e::es) [] pos) (tCB r t):=by
 intro pins s σ H Q I h
 refine wpAny_Call_Name_kw (Go I hg hm hv ?_ hn hdb)
 exact PyProof.Rows.callWith_builtin1 (thn (ha pos pins s σ H _ I h) λus s1 ⟨vs,H1,I1,r1,q1⟩=>hc pins s1 σ H1 vs us Q I1 r1 q1) he hpl
theorem Qbg (hc:Vo X (.type T) r) (hg:Gl X x) (hm:X.mg x=none) (hv:bootBuiltins x=some (.type T)) (ha:PA X (e::es) t) (hn:x ≠ "__name__":=by decide) (hdb:(x == ("__debug__" : Str))=false:=by decide)
  (he:starEach (e::es) X.env=(false,eval e X.env)::starEach es X.env:=by rfl) (hpl:(backTo pos (starEach es X.env)).any (·.1)=false:=by rfl):PE X (.Call (.Name x p) (e::es) [] pos) (tCB r t):=by
 intro pins s σ H Q I h
 refine wpAny_Call_Name_kw (Go I hg hm hv ?_ hn hdb)
 exact PyProof.Rows.callWith_type1 (thn (ha pos pins s σ H _ I h) λus s1 ⟨vs,H1,I1,r1,q1⟩=>hc pins s1 σ H1 vs us Q I1 r1 q1) he hpl
end
end L2
namespace HT
open PySem PyProof.Rows
def Y5:List Int->List Int->Bool
 | [],[]=>false
 | [],_::_=>true
 | _::_,[]=>false
 | x::xs,y::ys=>if x=y then Y5 xs ys else decide (x<y)
theorem Qey (x y:Int) (xs ys:List Int):Y5 (x::xs) (y::ys)=if x=y then Y5 xs ys else decide (x<y):=rfl
theorem Qaj:Y5 [] []=false:=rfl
theorem Xd (y:Int) (ys:List Int):Y5 [] (y::ys)=true:=rfl
theorem Xe (x:Int) (xs:List Int):Y5 (x::xs) []=false:=rfl
theorem Qjv (A:Around) (s:Shared) (a:Int) (t:Tok) (c:Int) (u:Tok):∃e,SeqAt.EqAt A s (.int a t) (.int c u) e/\(e=true↔a=c) :=
 ⟨(a == c),SeqAt.EqAt.int_int a t c u,by simp⟩
theorem Qiu (A:Around) (s:Shared) (a:Int) (t:Tok) (c:Int) (u:Tok) (prog:Program) (w:World) (E:Value->Shared->Prop) (Q:Value->Shared->Prop) (h:Q (.bool (decide (a<c))) s) :
  wpAny (model prog w) A (richCompare .Lt (.int a t) (.int c u)) Q E s :=
 (PyProof.Rows.lt_int h:wpAny (model prog w) A (compareOp .Lt (.int a t) (.int c u)) Q E s)
section
open PySem.SeqAt
open PySem.AutoSeq1 (wpAny_loadPart')
open PySem.MeetsSeq PySem.MeetsSeq2 PySem.MeetsSeq3
theorem X4 (l b:Addr) (items items2:Array Value) (n n2:Nat) (dd dd2:Option Addr) (sl sl2:Array (Option Value)) (ns ms:List Int) (hi:IntsAre items.toList ns) (hj:IntsAre items2.toList ms) :
  Meets (Builtin.«tuple.__lt__» ⟨[.ref l,.ref b],[]⟩)
   (λ_ R s=>s.heap.get? l=some { cls:=.type "tuple",dict:=dd,data:=.seq items n,slots:=sl }/\s.heap.get? b=some { cls:=.type "tuple",dict:=dd2,data:=.seq items2 n2,slots:=sl2 } /\
    R (.ok (.ret (.bool (Y5 ns ms)))) s) :=
 .of_wp λprog w A R s h=>by
  obtain ⟨hp,g,d,tk,os⟩:=s;obtain ⟨hl,hb,h⟩:=h
  have f2:=AutoSeq1.sub_tuple_tuple
  have z1:items.size=ns.length:=by rw [← hi.length];simp
  have z2:items2.size=ms.length:=by rw [← hj.length];simp
  wp_walk using wpAny_loadPart' hl,wpAny_loadPart' hb,wpAny_forIn_list _ (λrest b s'=>b.1=none/\s'=⟨hp,g,d,tk,os⟩/\∃(vs ws:List Value) (ns' ms':List Int),rest=vs.zip ws /\
   IntsAre vs ns'/\IntsAre ws ms'/\ns'.length+items2.size=ms'.length+items.size/\R (.ok (.ret (.bool (Y5 ns' ms')))) ⟨hp,g,d,tk,os⟩) _
  case turn =>
   rintro ⟨y,x⟩ rest b s' ⟨hb',rfl,vs,ws,ns',ms',hz,hvi,hwi,hlen,hR⟩
   cases hvi with
   | nil=>rw [List.zip_nil_left] at hz;cases hz
   | cons a t hvi' =>
    cases hwi with
    | nil=>rw [List.zip_nil_right] at hz;cases hz
    | cons c u hwi' =>
     rw [List.zip_cons_cons] at hz
     injection hz with hyx hrest
     injection hyx with hy hx
     subst hy hx
     rw [Qey] at hR
     simp only [List.length_cons] at hlen
     obtain ⟨e,he,hiff⟩:=Qjv A.in1 ⟨hp,g,d,tk,os⟩ a t c u
     refine wpAny_bind (he prog w _ _ ?_)
     cases e with
     | true =>
      rw [if_pos (hiff.mp rfl)] at hR
      wp_walk
      exact ⟨rfl,rfl,_,_,_,_,hrest,hvi',hwi',by omega,hR⟩
     | false =>
      rw [if_neg (λq=>absurd (hiff.mpr q) Bool.false_ne_true)] at hR
      have hri:=Qiu A.in1 ⟨hp,g,d,tk,os⟩ a t c u prog w
      wp_walk using hri
      exact ⟨_,rfl,by simpa using hR⟩
  case fin =>
   rintro ⟨b1,b2⟩ s' ⟨hb',rfl,vs,ws,ns',ms',hz,hvi,hwi,hlen,hR⟩
   simp only at hb'
   subst hb'
   have hv:Y5 ns' ms'=decide (items.size<items2.size):=by
    cases hvi with
    | nil =>
     cases hwi with
     | nil =>
      simp only [List.length_nil] at hlen
      rw [Qaj]
      exact (decide_eq_false (by omega)).symm
     | cons c u hw =>
      simp only [List.length_nil,List.length_cons] at hlen
      rw [Xd]
      exact (decide_eq_true (by omega)).symm
    | cons a t hv =>
     cases hwi with
     | nil =>
      simp only [List.length_nil,List.length_cons] at hlen
      rw [Xe]
      exact (decide_eq_false (by omega)).symm
     | cons c u hw =>
      rw [List.zip_cons_cons] at hz
      cases hz
   rw [hv] at hR
   wp_walk
   exact ⟨_,rfl,by simpa [Builtin.Tuple.tupleCompareSizes] using hR⟩
  case h =>
   exact ⟨rfl,rfl,items.toList,items2.toList,ns,ms,rfl,hi,hj,by omega,h⟩
end
section
variable {prog:Program} {w:World} {A:Around} {E:Value->Shared->Prop} {s:Shared}
theorem Xq {l b:Addr} {items items2:Array Value} {ns ms:List Int} {Q:Value->Shared->Prop} (hl:IsTup s.heap l items) (hb:IsTup s.heap b items2) (hi:IntsAre items.toList ns) (hj:IntsAre items2.toList ms)
  (hu:A.units<cLine) (h:Q (.bool (Y5 ns ms)) s):wpAny (model prog w) A (compareOp .Lt (.ref l) (.ref b)) Q E s:=by
 obtain ⟨⟨cls,dd,data,sl⟩,ho,hc,n,hd⟩:=id hl
 obtain ⟨⟨cls2,dd2,data2,sl2⟩,ho2,hc2,n2,hd2⟩:=id hb
 simp only at hc hd hc2 hd2
 subst hc hd hc2 hd2
 exact richCompare_meets_room (op:=.Lt) ⟨_,ho,rfl⟩ ⟨_,ho2,rfl⟩ PySem.F.slot_tuple_lt PySem.F.entry_tuple_lt (PySem.F.args_tuple_lt_2 _ _) (X4 l b items items2 n n2 dd dd2 sl sl2 ns ms hi hj)
  ⟨ho,ho2,show Value.bool (Y5 ns ms)≠Value.notImplemented/\Q (.bool (Y5 ns ms)) s from ⟨(λx=>nomatch x),h⟩⟩ hu
theorem Qor {t b:Addr} {vs ws:List Value} {Q:Value->Shared->Prop} (ht:IsTup s.heap t vs.toArray) (hb:IsTup s.heap b ws.toArray) (hv:vs≠[])
  (h1:ws=[]->Q (.ref t) s) (h2:ws≠[]->Q (.ref s.heap.objs.size) { s with heap:=s.heap.push { cls:=.type "tuple",data:=.seq (vs++ws).toArray } })
  (hsz:vs.length+ws.length<=sizeLine):wpAny (model prog w) A (binaryOp .Add (.ref t) (.ref b)) Q E s:=by
 obtain ⟨⟨cls,dd,data,sl⟩,ho,hc,n,hd⟩:=id ht
 obtain ⟨⟨cls2,dd2,data2,sl2⟩,ho2,hc2,n2,hd2⟩:=id hb
 simp only at hc hd hc2 hd2
 subst hc hd hc2 hd2
 have e:vs.toArray++ws.toArray=(vs++ws).toArray:=by simp
 by_cases hw:ws=[]
 ·exact concat_meets ⟨_,ho,rfl⟩ ⟨_,ho2,rfl⟩ noFill_tuple_add seq_tuple_add PySem.F.slot_tuple_add PySem.F.entry_tuple_add (PySem.F.args_tuple_add_2 _ _)
   (tuple_addW1 t b vs.toArray ws.toArray n n2 dd dd2 sl sl2 (by simpa using hv) (by simp [hw])) ⟨ho,ho2,h1 hw⟩
 ·refine concat_meets ⟨_,ho,rfl⟩ ⟨_,ho2,rfl⟩ noFill_tuple_add seq_tuple_add PySem.F.slot_tuple_add PySem.F.entry_tuple_add (PySem.F.args_tuple_add_2 _ _)
   (tuple_addW2 t b vs.toArray ws.toArray n n2 dd dd2 sl sl2 (by simpa using hv) (by simpa using hw) (by rw [List.size_toArray,List.size_toArray];exact hsz)) ⟨ho,ho2,?_⟩
  rw [e]
  exact h2 hw
def sIx (n d:Nat):Option Int->Nat
 | none=>d
 | some v=>if v<0 then (v+(n:Int)).toNat else min v.toNat n
theorem Qdq (n d:Nat):sIx n d none=d:=rfl
theorem Qaa (n d k:Nat):sIx n d (some (k:Int))=min k n:=by
 show (if (k:Int)<0 then ((k:Int)+(n:Int)).toNat else min (k:Int).toNat n)=min k n
 rw [if_neg (by omega),Int.toNat_natCast]
theorem Qpf (n d:Nat) (hd:d<=n) (o:Option Int):sIx n d o<=n:=by
 cases o with
 | none=>exact hd
 | some v =>
  show (if v<0 then (v+(n:Int)).toNat else min v.toNat n)<=n
  by_cases hv:v<0
  ·rw [if_pos hv];omega
  ·rw [if_neg hv];exact Nat.min_le_right _ _
theorem Qh1 (v:Int) (n d:Nat):(if v<0 then max (v+(n:Int)) 0 else min v (n:Int))=((sIx n d (some v):Nat):Int):=by
 show (if v<0 then max (v+(n:Int)) 0 else min v (n:Int))=(((if v<0 then (v+(n:Int)).toNat else min v.toNat n):Nat):Int)
 by_cases hv:v<0
 ·simp only [if_pos hv];omega
 ·simp only [if_neg hv];omega
theorem Qff (lo hi:Option Int) (n:Nat):Builtin.Slice.sliceAdjust lo hi 1 (n:Int)=(((sIx n 0 lo:Nat):Int),((sIx n n hi:Nat):Int)):=by
 have h1:¬((1:Int)<0):=by omega
 unfold Builtin.Slice.sliceAdjust
 simp only [h1,if_false]
 refine Prod.ext ?_ ?_
 ·cases lo with
  | none=>rfl
  | some v=>exact Qh1 v n 0
 ·cases hi with
  | none=>rfl
  | some v=>exact Qh1 v n n
theorem Qev (i j:Nat):Builtin.Slice.slicePlaces (i:Int) (j:Int) 1=j-i:=by
 unfold Builtin.Slice.slicePlaces
 have h1:(1:Int) > 0:=by omega
 simp only [h1,if_true,Int.ediv_one]
 split <;> omega
theorem Xl {v:Value} {o:Option Int} {Q:Option Int->Shared->Prop} (p:IsPart v o) (h:Q o s):wpAny (model prog w) A (Builtin.Slice.slicePartIndex v) Q E s:=by
 cases p with
 | none=>exact slicePart_none h
 | int i t=>exact slicePart_int h
theorem Zm {sl:Addr} {vl vu:Value} {lo hi:Option Int} {n:Nat} {Q:Int × Int × Nat->Shared->Prop} (hs:s.heap.IsSliceOf sl vl vu .none) (pl:IsPart vl lo) (pu:IsPart vu hi)
  (h:Q (((sIx n 0 lo:Nat):Int),1,sIx n n hi-sIx n 0 lo) s):wpAny (model prog w) A (Builtin.Slice.sliceApplied (.ref sl) (pure (n:Int))) Q E s:=by
 obtain ⟨os,hos,hcs,hds⟩:=id hs
 unfold Builtin.Slice.sliceApplied Builtin.Slice.sliceFields
 refine wpAny_bind (wpAny_bind (wpAny_field hos hds (x:=vl) rfl (wpAny_bind (wpAny_field hos hds (x:=vu) rfl (wpAny_bind (wpAny_field hos hds (x:=.none) rfl (wpAny_pure ?_)))))))
 refine wpAny_bind (slicePart_none ?_)
 show wpAny _ _ (if ((1:Int) == 0)=true then _ else _) _ _ s
 rw [if_neg (by decide)]
 refine wpAny_bind (Xl pl (wpAny_bind (Xl pu (wpAny_bind (wpAny_pure ?_)))))
 show wpAny _ _ (match Builtin.Slice.sliceAdjust lo hi 1 (n:Int) with | (lo,hi)=>pure (lo,(1:Int),Builtin.Slice.slicePlaces lo hi 1)) _ _ s
 rw [Qff lo hi n]
 show wpAny _ _ (pure (((sIx n 0 lo:Nat):Int),(1:Int),Builtin.Slice.slicePlaces ((sIx n 0 lo:Nat):Int) ((sIx n n hi:Nat):Int) 1)) _ _ s
 rw [Qev]
 exact wpAny_pure h
theorem Qi4 (xs:Array Value) (i k:Nat):((List.range k).filterMap λ(m:Nat)=>xs[((i:Int)+(m:Int)*1).toNat]?).toArray=((xs.toList.drop i).take k).toArray:=by
 have e:(λ(m:Nat)=>xs[((i:Int)+(m:Int)*1).toNat]?)=λm=>xs[i+m]?:=by
  funext m
  have:((i:Int)+(m:Int)*1).toNat=i+m:=by omega
  rw [this]
 rw [e]
 have:=pick_run xs i k
 rw [List.filterMap_map] at this
 have e2:((λx=>xs[x]?) ∘ λx=>i+x)=λm=>xs[i+m]?:=rfl
 rw [e2] at this
 rw [this]
theorem Uf {t sl:Addr} {items:Array Value} {vl vu:Value} {lo hi:Option Int} {Q:Value->Shared->Prop} (ht:IsTup s.heap t items) (hs:s.heap.IsSliceOf sl vl vu .none) (pl:IsPart vl lo) (pu:IsPart vu hi)
  (hw:¬(sIx items.size 0 lo=0/\sIx items.size items.size hi=items.size))
  (h:Q (.ref s.heap.objs.size) { s with heap:=s.heap.push { cls:=.type "tuple",data:=.seq ((items.toList.drop (sIx items.size 0 lo)).take (sIx items.size items.size hi-sIx items.size 0 lo)).toArray } })
  (hsz:items.size<=sizeLine):wpAny (model prog w) A (getItem (.ref t) (.ref sl)) Q E s:=by
 have htake:sizeOk (.seq ((items.toList.drop (sIx items.size 0 lo)).take (sIx items.size items.size hi-sIx items.size 0 lo)).toArray):=by
  show ((items.toList.drop (sIx items.size 0 lo)).take (sIx items.size items.size hi-sIx items.size 0 lo)).toArray.size<=sizeLine
  rw [List.size_toArray,List.length_take,List.length_drop,Array.length_toList]
  omega
 have hj:sIx items.size items.size hi<=items.size:=Qpf _ _ (Nat.le_refl _) hi
 obtain ⟨os,hos,hcs,hds⟩:=id hs
 have hTs:s.TypeIs (.ref sl) "slice":=⟨os,hos,hcs⟩
 unfold getItem
 try with_reducible refine wpAny_holding ?_
 first | refine wpAny_bind (wpAny_pure ?_) | skip
 refine wpAny_bind (wpAny_sequenceKey ht.typeIs (by decide) ?_)
 refine wpAny_bind (wpAny_callSpecial?_slot (name:=Str.ofString "__getitem__") ht.typeIs PyProof.Rows.slot_tuple_getitem
  (wpAny_call_entry PyProof.Rows.slot_tuple_getitem ht.typeIs entry_tuple_getitem ?_ (args_tuple_getitem _ _)))
 show wpAny _ _ (Builtin.Tuple.tupleItemsOf (.ref t) >>= _) _ _ s
 refine wpAny_bind (tupleItemsOf_ ht ?_)
 refine wpAny_bind (wpAny_typeOf hTs ?_)
 rw [if_pos (by decide)]
 refine wpAny_bind (Zm hs pl pu ?_)
 have hno:¬((((sIx items.size 0 lo:Nat):Int) == 0 && (1:Int) == 1 && (sIx items.size items.size hi-sIx items.size 0 lo) == items.size)=true):=by
  intro q
  rw [Bool.and_eq_true,Bool.and_eq_true] at q
  have q1:((sIx items.size 0 lo:Nat):Int)=0:=eq_of_beq q.1.1
  have q2:sIx items.size items.size hi-sIx items.size 0 lo=items.size:=eq_of_beq q.2
  exact hw ⟨by omega,by omega⟩
 show wpAny _ _ (if (((sIx items.size 0 lo:Nat):Int) == 0 && (1:Int) == 1 && (sIx items.size items.size hi-sIx items.size 0 lo) == items.size)=true then _ else _) _ _ s
 rw [if_neg hno,Qi4]
 first
  | exact wpAny_bind (m:=Builtin.Tuple.tupleExact _) (wpAny_newObj_type (wpAny_pure ⟨_,rfl,wpAny_pure h⟩) htake)
  | exact wpAny_bind (m:=Builtin.Tuple.tupleExact _) (wpAny_newObj_type (wpAny_bind (wpAny_pure (wpAny_pure ⟨_,rfl,wpAny_pure h⟩))) htake)
  | exact wpAny_bind (wpAny_bind (m:=Builtin.Tuple.tupleExact _) (wpAny_newObj_type (wpAny_pure (wpAny_pure ⟨_,rfl,wpAny_pure h⟩)) htake))
  | exact wpAny_bind (wpAny_bind (m:=Builtin.Tuple.tupleExact _) (wpAny_newObj_type (wpAny_pure ⟨_,rfl,wpAny_pure h⟩) htake))
end
end HT
namespace L2
open PySem PySem.Spec PyProof.Rows
abbrev TO:=St->Hp->(Option Int->Hp->Prop)->Prop
def PO (X:Cx) (e:Option Expr) (t:TO):Prop :=
 ∀(pins:List (Addr × Obj)) (s:Shared) (σ:St) (H:Hp) (Q:Option Int->Hp->Prop),Inv X pins σ H s->t σ H Q ->
  wpAny (model X.prog X.w) X.A (evalPart e X.env) (λu s'=>∃o H',Inv X pins σ H' s'/\IsPart u o/\Q o H') X.xe s
def Qmc:TO:=λ_ H Q=>Q none H
def Qse (t:TE):TO:=λσ H Q=>t σ H λx H1=>∃i,x=.int i/\Q (some i) H1
theorem Z4 {ns:List Int}:∀{us:List Value},Vals (ns.map V.int) us->IntsAre us ns:=by
 induction ns with
 | nil=>intro us r;rw [List.map_nil] at r;cases r;exact .nil
 | cons n ns ih =>
  intro us r
  rw [List.map_cons] at r
  cases r with
  | cons r1 r2 =>
   obtain ⟨t,e⟩:=r1
   subst e
   exact .cons n t (ih r2)
section
variable {X:Cx} {e:Expr} {te:TE} {lo hi:Option Expr} {tl th:TO} {pos p2:Pos}
theorem Qnc:PO X none Qmc:=by
 intro pins s σ H Q I h
 rw [evalPart_none]
 exact wpAny_pure ⟨none,H,I,.none,h⟩
theorem Qnb (h:PE X e te):PO X (some e) (Qse te):=by
 intro pins s σ H Q I hw
 rw [evalPart_some]
 refine thn (h pins s σ H _ I hw) λu s1 ⟨x,H1,I1,r1,q1⟩=>?_
 obtain ⟨i,rfl,q⟩:=q1
 obtain ⟨t,rfl⟩:=r1
 exact ⟨some i,H1,I1,.int i t,q⟩
def SlR (X:Cx) (r:V->Option Int->Option Int->Hp->VK->Prop):Prop :=
 ∀(pins:List (Addr × Obj)) (s:Shared) (σ:St) (H:Hp) (x:V) (v vl vu:Value) (lo hi:Option Int) (sl:Addr) (Q:VK),Inv X pins σ H s->RelV x v->s.heap.IsSliceOf sl vl vu .none->IsPart vl lo->IsPart vu hi->r x lo hi H Q ->
  ∃T id,typeLookup (.type T) "__getitem__" = pure (some (.builtin id))/\s.TypeIs v T/\wpAny (model X.prog X.w) X.A (getItem v (.ref sl)) (EP X pins σ Q) X.xe s
theorem SlR.or {r r':V->Option Int->Option Int->Hp->VK->Prop} (h:SlR X r) (h':SlR X r'):SlR X (λx lo hi H Q=>r x lo hi H Q\/r' x lo hi H Q):=by
 intro pins s σ H x v vl vu lo hi sl Q I rx hs pl pu q
 rcases q with q | q
 ·exact h pins s σ H x v vl vu lo hi sl Q I rx hs pl pu q
 ·exact h' pins s σ H x v vl vu lo hi sl Q I rx hs pl pu q
def tSl (r:V->Option Int->Option Int->Hp->VK->Prop) (te:TE) (tl th:TO):TE:=λσ H Q=>te σ H λx H1=>tl σ H1 λl H2=>th σ H2 λu H3=>r x l u H3 Q
theorem Qi5 {r:V->Option Int->Option Int->Hp->VK->Prop} (hr:SlR X r) (he:PE X e te) (hl:PO X lo tl) (hu:PO X hi th):PE X (.Subscript e (.Slice lo hi none p2) pos) (tSl r te tl th):=by
 intro pins s σ H Q I h
 refine Subscript_ (thn (he pins s σ H _ I h) λv s1 ⟨x,H1,I1,r1,q1⟩=>?_)
 refine wpAny_Slice (thn (hl pins s1 σ H1 _ I1 q1) λvl s2 ⟨l,H2,I2,pl,q2⟩=>thn (hu pins s2 σ H2 _ I2 q2) λvu s3 ⟨u,H3,I3,pu,q3⟩=>?_)
 rw [evalPart_none]
 refine wpAny_pure ?_
 have I4:Inv X pins σ H3 { s3 with heap:=s3.heap.push { cls:=.type "slice",data:=.fields #[vl,vu,.none] } }:=I3.kept (t':=s3.toks) λb ob q=>Heap.get?_push_of_some _ q
 obtain ⟨T,id,hT,ht,hg⟩:=hr pins { s3 with heap:=s3.heap.push { cls:=.type "slice",data:=.fields #[vl,vu,.none] } } σ H3 x v vl vu l u s3.heap.objs.size Q I4 r1 (Heap.IsSliceOf.new ..) pl pu q3
 show wpAny (model X.prog X.w) X.A (subscriptTail e (.Slice lo hi none p2) v (.ref s3.heap.objs.size)) (EP X pins σ Q) X.xe { s3 with heap:=s3.heap.push { cls:=.type "slice",data:=.fields #[vl,vu,.none] } }
 exact tail_any (ops:=[.ref s3.heap.objs.size,v]) ht hT hg (by with_unfolding_all rfl)
def cutV (xs:List V) (lo hi:Option Int):List V:=(xs.drop (HT.sIx xs.length 0 lo)).take (HT.sIx xs.length xs.length hi-HT.sIx xs.length 0 lo)
theorem Gz (xs:List V) (lo hi:Option Int):(cutV xs lo hi).length<=xs.length:=by
 unfold cutV
 rw [List.length_take,List.length_drop]
 omega
def rSlT (K:PySem.W.Frag):V->Option Int->Option Int->Hp->VK->Prop:=λx lo hi H Q=>∃a xs,x=.ref a/\SqT K H a xs /\
 ¬(HT.sIx xs.length 0 lo=0/\HT.sIx xs.length xs.length hi=xs.length)/\∀p,H p=none->Q (.ref p) (upd H p (.tup (cutV xs lo hi)))
theorem Qpd:SlR X (rSlT X.K):=by
 intro pins s σ H x v vl vu lo hi sl Q I rx hs pl pu h
 obtain ⟨a,xs,rfl,hx,hw,q⟩:=h
 cases rx
 obtain ⟨its,r,ht,hz⟩:=I.tuple hx
 have hlen:its.toArray.size=xs.length:=by rw [List.size_toArray];exact r.length.symm
 refine ⟨"tuple",_,PyProof.Rows.slot_tuple_getitem.lookup,ht.typeIs,?_⟩
 refine HT.Uf ht hs pl pu (by rw [hlen];exact hw) ?_ (by rw [hlen];exact hz)
 rw [hlen]
 refine ⟨.ref s.heap.objs.size,_,I.laid (t':=s.toks) (o:=.tup (cutV xs lo hi)) (λb ob q=>Heap.get?_push_of_some _ q) (Nat.le_refl _) ?_,rfl,q _ (I.hok.fresh (Nat.le_refl _))⟩
 exact ⟨Nat.le_trans (Gz xs lo hi) hz,_,(r.drop (HT.sIx xs.length 0 lo)).take (HT.sIx xs.length xs.length hi-HT.sIx xs.length 0 lo),IsTup.new _ _⟩
def rLtT (K:PySem.W.Frag):R2:=λx y H Q=>∃a b ns ms,x=.ref a/\y=.ref b/\SqT K H a (ns.map V.int)/\SqT K H b (ms.map V.int)/\Q (.bl (HT.Y5 ns ms)) H
theorem Qqp (hu:X.A.units<cLine):OpR X (compareOp .Lt) (rLtT X.K):=by
 intro pins s σ H x y v u Q I rx ry h
 obtain ⟨a,b,ns,ms,rfl,rfl,ha,hb,q⟩:=h
 cases rx
 cases ry
 obtain ⟨its,r1,p1,_⟩:=I.tuple ha
 obtain ⟨its2,r2,p2,_⟩:=I.tuple hb
 have i1:IntsAre its.toArray.toList ns:=Z4 r1
 have i2:IntsAre its2.toArray.toList ms:=Z4 r2
 exact HT.Xq p1 p2 i1 i2 hu ⟨.bl (HT.Y5 ns ms),H,I,rfl,q⟩
def Qsw (K:PySem.W.Frag):R2:=λx y H Q=>∃a b xs ys,x=.ref a/\y=.ref b/\SqT K H a xs/\SqT K H b ys/\xs≠[]/\xs.length+ys.length<=sizeLine /\
 (ys=[]->Q (.ref a) H)/\(ys≠[]->∀p,H p=none->Q (.ref p) (upd H p (.tup (xs++ys))))
theorem Vals.nil_iff {xs:List V} {us:List Value} (r:Vals xs us):us=[]↔xs=[]:=by
 cases r with
 | nil=>simp
 | cons _ _=>simp
theorem Qnn:OpR X (binaryOp .Add) (Qsw X.K):=by
 intro pins s σ H x y v u Q I rx ry h
 obtain ⟨a,b,xs,ys,rfl,rfl,ha,hb,hx,hz,q1,q2⟩:=h
 cases rx
 cases ry
 obtain ⟨its,r1,p1,_⟩:=I.tuple ha
 obtain ⟨its2,r2,p2,_⟩:=I.tuple hb
 refine HT.Qor p1 p2 (λz=>hx (r1.nil_iff.mp z)) (λz=>⟨.ref a,H,I,rfl,q1 (r2.nil_iff.mp z)⟩) (λz=>?_) (by rw [← r1.length,← r2.length];exact hz)
 refine ⟨.ref s.heap.objs.size,_,I.laid (t':=s.toks) (o:=.tup (xs++ys)) (λb ob q=>Heap.get?_push_of_some _ q) (Nat.le_refl _) ?_,rfl,q2 (λw=>z (r2.nil_iff.mpr w)) _ (I.hok.fresh (Nat.le_refl _))⟩
 exact ⟨by rw [List.length_append];exact hz,_,r1.append r2,IsTup.new _ _⟩
end
end L2
namespace L2
open PySem PySem.Spec PyProof.Rows
def ixN (n:Nat) (i:Int):Option Nat:=if 0<=i then (if i<n then some i.toNat else none) else if -(n:Int)<=i then some (i+n).toNat else none
def atI {α:Type} (xs:List α) (i:Int):Option α:=(ixN xs.length i).bind λj=>xs[j]?
theorem Qal {n:Nat} {i:Int} {j:Nat} (h:ixN n i=some j):seqIndex? i n=some j/\j<n /\ -(n:Int)<=i/\i<n:=by
 unfold ixN at h
 by_cases h0:0<=i
 ·rw [if_pos h0] at h
  by_cases h1:i<n
  ·rw [if_pos h1] at h
   have e:i.toNat=j:=Option.some.inj h
   exact ⟨by rw [seqIndex_of h0 h1,e],by omega,by omega,h1⟩
  ·rw [if_neg h1] at h;cases h
 ·rw [if_neg h0] at h
  by_cases h1:-(n:Int)<=i
  ·rw [if_pos h1] at h
   have e:(i+n).toNat=j:=Option.some.inj h
   exact ⟨by rw [seqIndex_neg (by omega) h1,e],by omega,h1,by omega⟩
  ·rw [if_neg h1] at h;cases h
theorem Qdd {α:Type} {xs:List α} {i:Int} {v:α} (h:atI xs i=some v):∃j,seqIndex? i xs.length=some j/\xs[j]? = some v/\j<xs.length /\ -(xs.length:Int)<=i/\i<xs.length:=by
 unfold atI at h
 cases e:ixN xs.length i with
 | none=>rw [e] at h;cases h
 | some j =>
  rw [e] at h
  obtain ⟨h1,h2,h3,h4⟩:=Qal e
  exact ⟨j,h1,h,h2,h3,h4⟩
def Qie (b:Expr):Prop:=∀o i,subscripted b false o i=operate [o,i] (getItem o i)
def IxR (X:Cx) (r:R2):Prop :=
 ∀(value slice:Expr) (pins:List (Addr × Obj)) (s:Shared) (σ:St) (H:Hp) (x y:V) (v u:Value) (Q:VK),Inv X pins σ H s->RelV x v->RelV y u->r x y H Q ->
  subscripted slice false v u=operate [v,u] (getItem v u)->wpAny (model X.prog X.w) X.A (subscriptTail value slice v u) (EP X pins σ Q) X.xe s
def MtR (X:Cx) (id:String) (r:V->List V->Hp->VK->Prop):Prop :=
 ∀(pins:List (Addr × Obj)) (s:Shared) (σ:St) (H:Hp) (x:V) (xs:List V) (v:Value) (us:List Value) (Q:VK),Inv X pins σ H s->RelV x v->Vals xs us->r x xs H Q ->
  wpAny (model X.prog X.w) X.A (call (.builtin id) (v::us)) (EP X pins σ Q) X.xe s
section
variable {X:Cx} {a b:Expr} {ta tb:TE} {pos:Pos}
theorem IxR.or {r r':R2} (h:IxR X r) (h':IxR X r'):IxR X (λx y H Q=>r x y H Q\/r' x y H Q):=by
 intro value slice pins s σ H x y v u Q I rx ry q hs
 rcases q with q | q
 ·exact h value slice pins s σ H x y v u Q I rx ry q hs
 ·exact h' value slice pins s σ H x y v u Q I rx ry q hs
theorem Qs5 {r:R2} (hr:IxR X r) (ha:PE X a ta) (hb:PE X b tb) (hs:Qie b):PE X (.Subscript a b pos) (tOp r ta tb):=by
 intro pins s σ H Q I h
 exact Subscript_ (binT ha hb I h λv u s2 x y H2 I2 rx ry q=>hr a b pins s2 σ H2 x y v u Q I2 rx ry q (hs _ _))
def rIxL (K:PySem.W.Frag):R2:=λx y H Q=>∃p xs i v,x=.ref p/\y=.int i/\SqL K H p xs/\atI xs i=some v/\Q v H
def rIxT (K:PySem.W.Frag):R2:=λx y H Q=>∃p xs i v,x=.ref p/\y=.int i/\SqT K H p xs/\atI xs i=some v/\Q v H
def rIxS:R2:=λx y H Q=>∃z i c,x=.str z/\y=.int i/\z.length<=sizeLine/\atI z.cps.toList i=some c/\Q (.str ⟨#[c]⟩) H
theorem Qn3:IxR X (rIxL X.K):=by
 intro value slice pins s σ H x y v u Q I rx ry h hs
 obtain ⟨p,xs,i,z,rfl,rfl,hq,he,q⟩:=h
 cases rx
 obtain ⟨t,rfl⟩:=ry
 obtain ⟨its,r,pl,hz⟩:=I.list hq
 obtain ⟨j,h1,h2,h3,h4,h5⟩:=Qdd he
 obtain ⟨w,ew,rw'⟩:=r.get h2
 have hl:=r.length
 have hn:=Xr
 have fin:EP X pins σ Q w s:=⟨z,H,I,rw',q⟩
 by_cases h0:0<=i
 ·have hj:i.toNat=j:=by
   rw [seqIndex_of h0 h5] at h1
   exact Option.some.inj h1
  exact item_listR pl.isList h0 (by omega) (by rw [hj];simpa using ew) fin hs
 ·have hj:(i+(its.toArray.size:Int)).toNat=j:=by
   rw [seqIndex_neg (by omega) h4] at h1
   rw [List.size_toArray,← hl]
   exact Option.some.inj h1
  exact subscriptTail_builtinR (x:=w) pl.isList.typeIs slot_list_getitem.lookup
   (wpAny_getItem_list_neg (Q:=λr s'=>r=w/\EP X pins σ Q r s') pl.isList (by omega) (by rw [List.size_toArray] <;> omega) (by omega) (by rw [hj];simpa using ew) ⟨rfl,fin⟩) hs
theorem Qrh:IxR X (rIxT X.K):=by
 intro value slice pins s σ H x y v u Q I rx ry h hs
 obtain ⟨p,xs,i,z,rfl,rfl,hq,he,q⟩:=h
 cases rx
 obtain ⟨t,rfl⟩:=ry
 obtain ⟨its,r,pl,hz⟩:=I.tuple hq
 obtain ⟨j,h1,h2,h3,h4,h5⟩:=Qdd he
 obtain ⟨w,ew,rw'⟩:=r.get h2
 have hl:=r.length
 have hn:=Xr
 have fin:EP X pins σ Q w s:=⟨z,H,I,rw',q⟩
 exact subscriptTail_builtinR (x:=w) pl.typeIs slot_tuple_getitem.lookup
  (getItem_tuple (j:=j) (Q:=λr s'=>r=w/\EP X pins σ Q r s') pl (by omega) (by omega) (by rw [List.size_toArray,← hl];exact h1) (by simpa using ew) ⟨rfl,fin⟩) hs
theorem Qri:IxR X rIxS:=by
 intro value slice pins s σ H x y v u Q I rx ry h hs
 obtain ⟨z,i,c,rfl,rfl,hz,he,q⟩:=h
 obtain ⟨t,rfl⟩:=rx
 obtain ⟨t',rfl⟩:=ry
 obtain ⟨j,h1,h2,h3,h4,h5⟩:=Qdd he
 have hl:z.cps.toList.length=z.length:=by simp [Str.length]
 rw [hl] at h1 h4 h5
 have hn:=Xr
 exact tail_any (typeIs_str s z t) slot_str_getitem.lookup (getItem_str (c:=c) (by
  have e1:decide (i < -(2 ^ 63:Int))=false:=decide_eq_false (by omega)
  have e2:decide (i ≥ 2 ^ 63)=false:=decide_eq_false (by omega)
  rw [e1,e2,Bool.or_false]) (by rw [h1];simpa using h2) ⟨.str ⟨#[c]⟩,H,I.tok _,⟨_,rfl⟩,q⟩) hs
def rIx (K:PySem.W.Frag):R2:=λx y H Q=>rIxL K x y H Q\/rIxT K x y H Q\/rIxS x y H Q
theorem Qlg:IxR X (rIx X.K):=Qn3.or (Qrh.or Qri)
theorem Qex (its:List Value) (n j:Nat) (u:Value):Obj.mapSeq (·.setIfInBounds j u) { cls:=.type "list",data:=.seq its.toArray n }={ cls:=.type "list",data:=.seq (its.set j u).toArray n }:=by
 simp [Obj.mapSeq]
theorem Inv.lst {pins:List (Addr × Obj)} {σ:St} {H:Hp} {s:Shared} {p:Addr} {xs:List V} (I:Inv X pins σ H s) (h:H p=some (.lst xs)) :
  ∃(its:List Value) (n:Nat),Vals xs its/\s.heap.get? p=some { cls:=.type "list",data:=.seq its.toArray n }/\xs.length<=sizeLine:=by
 obtain ⟨z,its,n,r,e⟩:=I.hok p _ h
 exact ⟨its,n,r,e,z⟩
theorem Inv.lstUpd {pins:List (Addr × Obj)} {σ:St} {H:Hp} {s:Shared} {p:Addr} {xs ys:List V} {its its':List Value} {n n':Nat} {f:Obj->Obj} (I:Inv X pins σ H s) (h:H p=some (.lst xs))
  (ho:s.heap.get? p=some { cls:=.type "list",data:=.seq its.toArray n }) (hf:f { cls:=.type "list",data:=.seq its.toArray n }={ cls:=.type "list",data:=.seq its'.toArray n' }) (r:Vals ys its') (hz:ys.length<=sizeLine) (t:Nat) :
  Inv X pins σ (upd H p (.lst ys)) { s with heap:=s.heap.update p f,toks:=t }:=by
 have e:(s.heap.update p f).get? p=some { cls:=.type "list",data:=.seq its'.toArray n' }:=by
  rw [Heap.get?_update_self f ho (by rw [hf] <;> rfl),hf]
 refine I.write (x:=p) (e:=p) (by rw [h];trivial) (.inl rfl) (λb u hb q=>(Heap.get?_update_other _ _ (Ne.symm hb)).trans q) ⟨_,e⟩ ?_
 exact ⟨hz,its',n',r,e⟩
def Qst:V->V->V->Hp->(Hp->Prop)->Prop:=λo i v H Q=>∃p xs k j,o=.ref p/\i=.int k/\H p=some (.lst xs)/\ixN xs.length k=some j/\Q (upd H p (.lst (xs.set j v)))
theorem Qir:PSet X Qst:=by
 intro pins s σ H o i v ov iv u Q I ro ri rv h
 obtain ⟨p,xs,k,j,rfl,rfl,hp,hj,q⟩:=h
 cases ro
 obtain ⟨t,rfl⟩:=ri
 obtain ⟨its,n,r,ho,hz⟩:=I.lst hp
 obtain ⟨h1,h2,h3,h4⟩:=Qal hj
 have hl:=r.length
 have hn:=Xr
 have I':Inv X pins σ (upd H p (.lst (xs.set j v))) { s with heap:=s.heap.update p (Obj.mapSeq (·.setIfInBounds j u)) } :=
  I.lstUpd hp ho (Qex its n j u) (r.set rv j) (by rw [List.length_set];exact hz) s.toks
 by_cases h0:0<=k
 ·have hk:k.toNat=j:=by
   rw [seqIndex_of h0 h4] at h1
   exact Option.some.inj h1
  exact PySem.W.ki_setAt ho h0 (by omega) (by rw [List.size_toArray,← hl];exact h4) (by rw [hk];exact ⟨_,I',q⟩)
 ·have hk:(k+(its.toArray.size:Int)).toNat=j:=by
   rw [seqIndex_neg (by omega) h3] at h1
   rw [List.size_toArray,← hl]
   exact Option.some.inj h1
  exact PySem.W.ki_setBack ho (by omega) (by rw [List.size_toArray,← hl];exact h3) (by omega) (by rw [hk];exact ⟨_,I',q⟩)
theorem Qbb (lo hi:Option Int) (n:Nat):(sliceBounds lo hi none n).1=((HT.sIx n 0 lo:Nat):Int)/\(sliceBounds lo hi none n).2.1=((HT.sIx n n hi:Nat):Int)/\(sliceBounds lo hi none n).2.2=1:=by
 refine ⟨?_,?_,rfl⟩
 ·cases lo with
  | none=>simp [sliceBounds,HT.sIx]
  | some i =>
   simp only [sliceBounds,HT.sIx,Option.getD_none,show (1:Int) > 0 by decide,if_true]
   by_cases h:i<0
   ·simp only [h,if_true] <;> omega
   ·simp only [h,if_false] <;> omega
 ·cases hi with
  | none=>simp [sliceBounds,HT.sIx]
  | some i =>
   simp only [sliceBounds,HT.sIx,Option.getD_none,show (1:Int) > 0 by decide,if_true]
   by_cases h:i<0
   ·simp only [h,if_true] <;> omega
   ·simp only [h,if_false] <;> omega
theorem X6 (its:List Value) (lo hi:Option Int):slicePick its.toArray lo hi none=((its.drop (HT.sIx its.length 0 lo)).take (HT.sIx its.length its.length hi-HT.sIx its.length 0 lo)).toArray:=by
 obtain ⟨h1,h2,h3⟩:=Qbb lo hi its.toArray.size
 unfold slicePick
 rw [h1,h2,h3]
 simp only [sliceRange_one,pick_run,List.size_toArray] <;> rfl
def rSlL (K:PySem.W.Frag):V->Option Int->Option Int->Hp->VK->Prop:=λx lo hi H Q=>∃a xs,x=.ref a/\SqL K H a xs/\∀p,H p=none->Q (.ref p) (upd H p (.lst (cutV xs lo hi)))
theorem Qmm:SlR X (rSlL X.K):=by
 intro pins s σ H x v vl vu lo hi sl Q I rx hs pl pu h
 obtain ⟨a,xs,rfl,hx,q⟩:=h
 cases rx
 obtain ⟨its,r,ht,hz⟩:=I.list hx
 have hlen:=r.length
 refine ⟨"list",_,slot_list_getitem.lookup,ht.isList.typeIs,?_⟩
 refine wpAny_getItem_list_slice ht.isList hs pl pu .none (by simp) ?_ (by rw [List.size_toArray] <;> omega)
 rw [X6,← hlen]
 refine ⟨.ref s.heap.objs.size,_,I.laid (t':=s.toks) (o:=.lst (cutV xs lo hi)) (λb ob q=>Heap.get?_push_of_some _ q) (Nat.le_refl _) ?_,rfl,q _ (I.hok.fresh (Nat.le_refl _))⟩
 exact ⟨Nat.le_trans (Gz xs lo hi) hz,_,0,(r.drop (HT.sIx xs.length 0 lo)).take (HT.sIx xs.length xs.length hi-HT.sIx xs.length 0 lo),Heap.get?_push_size _ rfl⟩
def Xf:V->Bool
 | .non=>true
 | .bl _=>true
 | .int _=>true
 | .str _=>true
 | _=>false
def eqV:V->V->Bool
 | .non,.non=>true
 | .bl a,.bl b=>a == b
 | .bl a,.int b=>(if a then 1 else 0) == b
 | .int a,.bl b=>a == (if b then 1 else 0)
 | .int a,.int b=>a == b
 | .str a,.str b=>a == b
 | _,_=>false
theorem Qrv {A:Around} {s:Shared} {y x:V} {u v:Value} (ry:RelV y u) (rx:RelV x v) (fy:Xf y=true) (fx:Xf x=true):SeqAt.EqAt A s u v (eqV y x):=by
 cases y with
 | non =>
  cases ry
  cases x with
  | non=>cases rx;exact SeqAt.EqAt.same _
  | bl b=>cases rx;exact SeqAt.EqAt.none_bool b
  | int b=>obtain ⟨t,rfl⟩:=rx;exact SeqAt.EqAt.none_int b t
  | str b=>obtain ⟨t,rfl⟩:=rx;exact SeqAt.EqAt.none_str b t
  | _=>exact absurd (show false=true from fx) Bool.false_ne_true
 | bl a =>
  cases ry
  cases x with
  | non=>cases rx;exact SeqAt.EqAt.bool_none a
  | bl b=>cases rx;exact SeqAt.EqAt.bool_bool a b
  | int b=>obtain ⟨t,rfl⟩:=rx;exact SeqAt.EqAt.bool_int a b t
  | str b=>obtain ⟨t,rfl⟩:=rx;exact SeqAt.EqAt.bool_str a b t
  | _=>exact absurd (show false=true from fx) Bool.false_ne_true
 | int a =>
  obtain ⟨t',rfl⟩:=ry
  cases x with
  | non=>cases rx;exact SeqAt.EqAt.int_none a t'
  | bl b=>cases rx;exact SeqAt.EqAt.int_bool a t' b
  | int b=>obtain ⟨t,rfl⟩:=rx;exact SeqAt.EqAt.int_int a t' b t
  | str b=>obtain ⟨t,rfl⟩:=rx;exact SeqAt.EqAt.int_str a t' b t
  | _=>exact absurd (show false=true from fx) Bool.false_ne_true
 | str a =>
  obtain ⟨t',rfl⟩:=ry
  cases x with
  | non=>cases rx;exact SeqAt.EqAt.str_none a t'
  | bl b=>cases rx;exact SeqAt.EqAt.str_bool a t' b
  | int b=>obtain ⟨t,rfl⟩:=rx;exact SeqAt.EqAt.str_int a t' b t
  | str b=>obtain ⟨t,rfl⟩:=rx;exact SeqAt.EqAt.str_str a t' b t
  | _=>exact absurd (show false=true from fx) Bool.false_ne_true
 | _=>exact absurd (show false=true from fy) Bool.false_ne_true
def eqU (x:V) (u:Value):Bool:=match u with
 | .none=>eqV .non x
 | .bool b=>eqV (.bl b) x
 | .int i _=>eqV (.int i) x
 | .str z _=>eqV (.str z) x
 | _=>false
theorem Qll {x y:V} {u:Value} (r:RelV y u) (f:Xf y=true):eqU x u=eqV y x:=by
 cases y with
 | non=>cases r;rfl
 | bl b=>cases r;rfl
 | int i=>obtain ⟨t,rfl⟩:=r;rfl
 | str z=>obtain ⟨t,rfl⟩:=r;rfl
 | _=>exact absurd (show false=true from f) Bool.false_ne_true
theorem G5 {x:V}:∀{xs:List V} {us:List Value},Vals xs us->xs.all Xf=true->us.any (eqU x)=xs.any λy=>eqV y x
 | _,_,.nil,_=>rfl
 | y::xs,u::us,.cons r t,f=>by
  rw [List.all_cons,Bool.and_eq_true] at f
  rw [List.any_cons,List.any_cons,Qll r f.1,G5 t f.2]
theorem V1 {A:Around} {s:Shared} {x:V} {v:Value} (rx:RelV x v) (fx:Xf x=true):∀{xs:List V} {us:List Value},Vals xs us->xs.all Xf=true->∀u∈us,SeqAt.EqAt A s u v (eqU x u)
 | _,_,.nil,_=>λu hu=>by cases hu
 | y::xs,u::us,.cons r t,f=>λu' hu=>by
  rw [List.all_cons,Bool.and_eq_true] at f
  rcases List.mem_cons.mp hu with rfl | hu
  ·rw [Qll r f.1];exact Qrv r rx f.1 fx
  ·exact V1 rx fx t f.2 u' hu
def inV (x:V) (xs:List V):Bool:=xs.any λy=>eqV y x
def rIn (K:PySem.W.Frag) (neg:Bool):R2:=λx y H Q=>∃p xs,y=.ref p/\(SqL K H p xs\/SqT K H p xs)/\Xf x=true/\xs.all Xf=true/\Q (.bl (if neg then !inV x xs else inV x xs)) H
theorem Qgj:OpR X (compareOp .In) (rIn X.K false):=by
 intro pins s σ H x y v u Q I rx ry h
 obtain ⟨p,xs,rfl,hq,fx,fs,q⟩:=h
 cases ry
 rcases hq with hq | hq
 ·obtain ⟨its,r,pl,hz⟩:=I.list hq
  refine SeqAt.in_listAt (eqU x) pl.isList (λw hw=>V1 rx fx r fs w (by simpa using hw)) ⟨.bl _,H,I,rfl,?_⟩
  rw [show its.toArray.any (eqU x)=its.any (eqU x) by simp,G5 r fs]
  exact q
 ·obtain ⟨its,r,pl,hz⟩:=I.tuple hq
  refine SeqAt.in_tupleAt (eqU x) pl (λw hw=>V1 rx fx r fs w (by simpa using hw)) ⟨.bl _,H,I,rfl,?_⟩
  rw [show its.toArray.any (eqU x)=its.any (eqU x) by simp,G5 r fs]
  exact q
theorem Qbi:OpR X (compareOp .NotIn) (rIn X.K true):=by
 intro pins s σ H x y v u Q I rx ry h
 obtain ⟨p,xs,rfl,hq,fx,fs,q⟩:=h
 cases ry
 rcases hq with hq | hq
 ·obtain ⟨its,r,pl,hz⟩:=I.list hq
  refine SeqAt.notIn_listAt (eqU x) pl.isList (λw hw=>V1 rx fx r fs w (by simpa using hw)) ⟨.bl _,H,I,rfl,?_⟩
  rw [show its.toArray.any (eqU x)=its.any (eqU x) by simp,G5 r fs]
  exact q
 ·obtain ⟨its,r,pl,hz⟩:=I.tuple hq
  refine SeqAt.notIn_tupleAt (eqU x) pl (λw hw=>V1 rx fx r fs w (by simpa using hw)) ⟨.bl _,H,I,rfl,?_⟩
  rw [show its.toArray.any (eqU x)=its.any (eqU x) by simp,G5 r fs]
  exact q
theorem Qbh:OpR X (compareOp .NotIn) (λx y H Q=>∃i j,x=.str i/\y=.str j/\Q (.bl (!(!(Builtin.Str.occurrences j i 0 j.length 1).isEmpty))) H):=by
 intro pins s σ H x y v u Q I rx ry h
 obtain ⟨i,j,rfl,rfl,q⟩:=h
 obtain ⟨t,rfl⟩:=rx
 obtain ⟨t',rfl⟩:=ry
 exact notIn_str ⟨.bl _,H,I,rfl,q⟩
theorem Vo.or {f:Value} {r r':List V->Hp->VK->Prop} (h:Vo X f r) (h':Vo X f r'):Vo X f (λxs H Q=>r xs H Q\/r' xs H Q):=by
 intro pins s σ H xs us Q I rs q
 rcases q with q | q
 ·exact h pins s σ H xs us Q I rs q
 ·exact h' pins s σ H xs us Q I rs q
theorem Qaq:Vo X (.type "tuple") (λxs H Q=>∃p ys,xs=[.ref p]/\((SqL X.K H p ys/\∀l,H l=none->Q (.ref l) (upd H l (.tup ys)))\/(SqT X.K H p ys/\Q (.ref p) H))):=by
 intro pins s σ H xs us Q I r h
 obtain ⟨p,ys,rfl,h⟩:=h
 obtain ⟨u,rfl,rx⟩:=X2 r
 cases rx
 rcases h with ⟨hq,q⟩ | ⟨hq,q⟩
 ·obtain ⟨its,r',pl,hz⟩:=I.list hq
  have hlen:=r'.length
  refine call_tuple_list pl.isList (λh' kp=>?_) (by simp only [List.size_toArray] <;> omega)
  have I1:Inv X pins σ H { s with heap:=h' }:=I.kept (t':=s.toks) kp
  have I2:Inv X pins σ (upd H h'.objs.size (.tup ys)) { s with heap:=h'.push { cls:=.type "tuple",data:=.seq its.toArray } } :=
   I1.laid (t':=s.toks) (λb o e=>Heap.get?_push_of_some _ e) (Nat.le_refl _) (show Jh X.prog X.w _ _ _ (.tup ys) from ⟨hz,its,r',IsTup.new _ _⟩)
  exact ⟨.ref h'.objs.size,_,I2,rfl,q _ (I1.hok.fresh (Nat.le_refl _))⟩
 ·obtain ⟨its,r',pl,hz⟩:=I.tuple hq
  exact call_tuple_same pl ⟨.ref p,H,I,rfl,q⟩
def tyV (K:PySem.W.Frag) (T:String) (x:V) (H:Hp):Prop:=match x with
 | .str _=>T = "str"
 | .int _=>T = "int"
 | .ref p=>(T = "list" /\ ∃xs,SqL K H p xs)\/(T = "tuple" /\ ∃o,K.lookup p=some o/\o.cls=.type "tuple" /\ o.dict=none) \/
   (T = "dict" /\ ((∃kvs,H p=some (.dK kvs))\/∃kvs,H p=some (.dT kvs)))\/(T = "set" /\ ∃S n,H p=some (.set S n))\/∃φ,H p=some (.ext φ)/\∀h,φ h->∃o,h.get? p=some o/\o.cls=.type T/\o.dict=none
 | _=>False
theorem Qkp {pins:List (Addr × Obj)} {σ:St} {H:Hp} {s:Shared} {T:String} {x:V} {v:Value} (I:Inv X pins σ H s) (r:RelV x v) (ty:tyV X.K T x H) :
  s.TypeIs v T/\∀a,v=.ref a->∃ob,s.heap.get? a=some ob/\ob.dict=none:=by
 cases x with
 | str z =>
  obtain ⟨t,rfl⟩:=r
  cases (show T = "str" from ty)
  exact ⟨typeIs_str s z t,λ_ e=>nomatch e⟩
 | int i =>
  obtain ⟨t,rfl⟩:=r
  cases (show T = "int" from ty)
  exact ⟨typeIs_int s i t,λ_ e=>nomatch e⟩
 | ref p =>
  cases r
  rcases ty with ⟨rfl,xs,hq⟩ | ⟨rfl,o,hk,hc,hd⟩ | ⟨rfl,hk⟩ | ⟨rfl,S,n,hk⟩ | ⟨φ,hk,hf⟩
  ·obtain ⟨its,_,pl,_⟩:=I.list hq
   refine ⟨pl.isList.typeIs,λa e=>?_⟩
   cases e
   obtain ⟨o,n,e,c,hd,_⟩:=pl
   exact ⟨o,e,hd⟩
  ·refine ⟨⟨o,I.kIn p o hk,hc⟩,λa e=>?_⟩
   cases e
   exact ⟨o,I.kIn _ o hk,hd⟩
  ·have z:∃o,s.heap.get? p=some o/\o.ExactDict:=by
    rcases hk with ⟨kvs,hk⟩ | ⟨kvs,hk⟩
    ·obtain ⟨_,_,_,_,o,_,_,e,ex,_⟩:=I.hok p _ hk
     exact ⟨o,e,ex⟩
    ·obtain ⟨_,_,_,_,o,_,_,e,ex,_⟩:=I.hok p _ hk
     exact ⟨o,e,ex⟩
   obtain ⟨o,e,ex⟩:=z
   refine ⟨⟨o,e,ex.1⟩,λa e2=>?_⟩
   cases e2
   exact ⟨o,e,ex.2.1⟩
  ·obtain ⟨o,_,_,_,e,ex,_⟩:=I.hok p _ hk
   refine ⟨⟨o,e,ex.1⟩,λa e2=>?_⟩
   cases e2
   exact ⟨o,e,ex.2.1⟩
  ·obtain ⟨h1,_⟩:=I.hok p _ hk
   obtain ⟨o,e,c,d⟩:=hf _ h1
   refine ⟨⟨o,e,c⟩,λa e2=>?_⟩
   cases e2
   exact ⟨o,e,d⟩
 | _=>exact False.elim ty
def tBM (K:PySem.W.Frag) (T:String) (r:V->List V->Hp->VK->Prop) (to:TE) (t:TA):TE:=λσ H Q=>to σ H λx H1=>tyV K T x H1/\t σ H1 λxs H2=>r x xs H2 Q
variable {o e:Expr} {es:List Expr} {to:TE} {t:TA} {name:Str} {apos cpos:Pos} {T id:String} {r:V->List V->Hp->VK->Prop}
theorem Qs6 (pa:PlainAttrs T) (slot:Slot T name id) (hty:typeOf (.builtin id)=pure (.type "method_descriptor")) (hm:MtR X id r) (ho:PE X o to) (ha:PA X (e::es) t)
  (hbase:attributeBase o name X.env (eval o X.env)=eval o X.env:=by rfl)
  (hfew:((backTo cpos (starEach (e::es) X.env)).all (λx=>!x.1) && (backToKw cpos (keywordEach [] X.env)).all (λx=>x.1.isSome)
   && decide ((e::es).length+([]:List Keyword).length+(if ([]:List Keyword).isEmpty then 0 else 1)<30))=true:=by rfl)
  (hline:(apos.endLine == cpos.line)=true:=by rfl) (hs:starEach (e::es) X.env=(false,eval e X.env)::starEach es X.env:=by rfl) (hplain:(backTo cpos (starEach es X.env)).any (·.1)=false:=by rfl) :
  PE X (.Call (.Attribute o name apos) (e::es) [] cpos) (tBM X.K T r to t):=by
 intro pins s σ H Q I h
 refine wpAny_Call_method_late hbase hfew hline rfl (thn (ho pins s σ H _ I h) λv s1 ⟨x,H1,I1,r1,ty,q1⟩=>?_)
 obtain ⟨h1,h2⟩:=Qkp I1 r1 ty
 refine ⟨T,id,pa,slot,hty,h1,h2,?_⟩
 have hA:=ha cpos pins s1 σ H1 _ I1 q1
 rw [hs] at hA ⊢
 refine Calls.callWith_builtin (by show (false || (backTo cpos (starEach es X.env)).any (·.1))=false;rw [hplain] <;> rfl) (Calls.evalArgs_plain ?_)
 exact thn hA λus s2 ⟨vs,H2,I2,r2,q2⟩=>hm pins s2 σ H2 x vs v us Q I2 r1 r2 q2
end
end L2
namespace L2
open PySem PySem.Spec PyProof.Rows
def MtM (X:Cx) (id:String) (r:V->List V->Hp->VK->Prop):Prop :=
 ∀(pins:List (Addr × Obj)) (s:Shared) (σ:St) (H:Hp) (x:V) (xs:List V) (v:Value) (us:List Value) (Q:VK),Inv X pins σ H s->RelV x v->Vals xs us->r x xs H Q ->
  wpAny (model X.prog X.w) X.A (call (.builtin id) (v::us)) (EP X pins σ Q) X.xe s
theorem Vals.one:∀{x:V} {us:List Value},Vals [x] us->∃u,us=[u]/\RelV x u
 | _,_,.cons r .nil=>⟨_,rfl,r⟩
theorem Vals.eraseIdx:∀{xs:List V} {us:List Value} (i:Nat),Vals xs us->Vals (xs.eraseIdx i) (us.eraseIdx i)
 | _,_,_,.nil=>.nil
 | _,_,0,.cons _ t=>t
 | _,_,i+1,.cons r t=>.cons r (Vals.eraseIdx i t)
theorem Vals.rep {xs:List V} {us:List Value} (h:Vals xs us):∀k:Nat,Vals (List.replicate k xs).flatten (List.replicate k us).flatten
 | 0=>.nil
 | k+1=>by
  rw [List.replicate_succ,List.replicate_succ,List.flatten_cons,List.flatten_cons]
  exact Vals.append h (Vals.rep h k)
theorem Qbo {α:Type}:∀(l:List α) (i:Nat),(l.eraseIdx i).length<=l.length
 | [],_=>Nat.le_refl _
 | _::_,0=>Nat.le_succ _
 | _::r,i+1=>Nat.succ_le_succ (Qbo r i)
theorem Qbu (its:List Value):∀(k:Nat) (acc:List Value),
  List.foldl (λx1 x2=>x1++x2) acc.toArray (List.replicate k its.toArray)=(acc++(List.replicate k its).flatten).toArray
 | 0,acc=>by simp
 | k+1,acc=>by
  have e:acc.toArray++its.toArray=(acc++its).toArray:=by simp
  have e2:(acc++its)++(List.replicate k its).flatten=acc++(List.replicate (k+1) its).flatten:=by
   rw [List.replicate_succ,List.flatten_cons,List.append_assoc]
  rw [← e2,← Qbu its k (acc++its),← e,List.replicate_succ,List.foldl_cons]
section
variable {X:Cx} {pins:List (Addr × Obj)} {σ:St} {H:Hp} {s:Shared} {l b:Addr} {xs ys zs:List V}
theorem Inv.lset {its its':List Value} {n:Nat} {f:Array Value->Array Value} {t':Nat} (I:Inv X pins σ H s) (hH:H l=some (.lst xs))
  (e:s.heap.get? l=some { cls:=.type "list",data:=.seq its.toArray n }) (hf:f its.toArray=its'.toArray) (hv:Vals ys its') (hz:ys.length<=sizeLine) :
  Inv X pins σ (upd H l (.lst ys)) { s with heap:=s.heap.update l (Obj.mapSeq f),toks:=t' }:=by
 have q:=PySem.IsL.update e f
 rw [hf] at q
 refine I.write (x:=l) (e:=l) (by rw [hH];exact trivial) (.inl rfl) (λb' u hb hu=>(Heap.get?_update_other s.heap (Obj.mapSeq f) (Ne.symm hb)).trans hu) ⟨_,q⟩ ?_
 exact ⟨hz,its',_,hv,q⟩
theorem Inv.lnew {its:List Value} {t':Nat} (I:Inv X pins σ H s) (hv:Vals ys its) (hz:ys.length<=sizeLine) :
  Inv X pins σ (upd H s.heap.objs.size (.lst ys)) { s with heap:=s.heap.push { cls:=.type "list",data:=.seq its.toArray },toks:=t' } :=
 I.laid (λ_ _ q=>Heap.get?_push_of_some _ q) (Nat.le_refl _) ⟨hz,its,0,hv,Heap.get?_push_size _ rfl⟩
theorem Inv.fresh (I:Inv X pins σ H s):H s.heap.objs.size=none:=I.hok.fresh (Nat.le_refl _)
theorem Inv.lstM (I:Inv X pins σ H s) (hH:H l=some (.lst xs)):xs.length<=sizeLine/\∃(its:List Value) (n:Nat),Vals xs its/\xs.length=its.length/\s.heap.get? l=some { cls:=.type "list",data:=.seq its.toArray n }:=by
 obtain ⟨z,its,n,r,e⟩:=I.hok l _ hH
 exact ⟨z,its,n,r,r.length,e⟩
theorem Qd3 {n:Nat} (h:n<=sizeLine):Builtin.List.listTooLong n=false:=by
 unfold Builtin.List.listTooLong
 exact decide_eq_false (by omega)
end
section
variable {X:Cx}
def Qm2:V->List V->Hp->VK->Prop:=λx vs H Q=>∃l xs y,x=.ref l/\vs=[y]/\H l=some (.lst xs)/\xs.length<sizeLine/\Q .non (upd H l (.lst (xs++[y])))
theorem Qgt:MtM X "list.append" Qm2:=by
 intro pins s σ H x vs v us Q I rx rv h
 obtain ⟨l,xs,y,rfl,rfl,hH,hz,q⟩:=h
 cases rx
 obtain ⟨u,rfl,ru⟩:=rv.one
 obtain ⟨z,its,n,r,hl,e⟩:=I.lstM hH
 refine call_meets F.slot_list_append ⟨_,e,rfl⟩ F.entry_list_append (F.args_list_append_2 _ _) (PySem.list_append l its.toArray n u (by rw [List.size_toArray];omega)) ⟨e,?_⟩
 refine ⟨.non,_,I.lset (its':=its++[u]) hH e (by simp) (r.append (.cons ru .nil)) ?_,rfl,q⟩
 rw [List.length_append,List.length_singleton]
 omega
def Qm1:V->List V->Hp->VK->Prop:=λx vs H Q=>∃l b xs zs,x=.ref l/\vs=[.ref b]/\H l=some (.lst xs)/\H b=some (.lst zs)/\xs.length+zs.length<=sizeLine/\Q .non (upd H l (.lst (xs++zs)))
theorem Qq0:MtM X "list.extend" Qm1:=by
 intro pins s σ H x vs v us Q I rx rv h
 obtain ⟨l,b,xs,zs,rfl,rfl,hH,hB,hz,q⟩:=h
 cases rx
 obtain ⟨u,rfl,ru⟩:=rv.one
 cases ru
 obtain ⟨z,its,n,r,hl,e⟩:=I.lstM hH
 obtain ⟨z2,its2,n2,r2,hl2,e2⟩:=I.lstM hB
 have hsz:its.toArray.size+its2.toArray.size<=sizeLine:=by rw [List.size_toArray,List.size_toArray];omega
 have hlong:¬(!its.toArray.isEmpty && Builtin.List.listTooLong (its.toArray.size+its2.toArray.size))=true:=by
  rw [Qd3 hsz,Bool.and_false]
  exact Bool.false_ne_true
 refine call_meets F.slot_list_extend ⟨_,e,rfl⟩ F.entry_list_extend (F.args_list_extend_2 _ _)
  (AutoSeq1.list_extend_list_list_0 l its.toArray n b its2.toArray n2 hlong (by rw [List.size_toArray];omega) (by omega)) ⟨e,e2,?_⟩
 refine ⟨.non,_,I.lset (its':=its++its2) hH e (by simp) (r.append r2) ?_,rfl,q⟩
 rw [List.length_append]
 omega
def Qp2:V->List V->Hp->VK->Prop:=λx vs H Q=>∃l xs i k y,x=.ref l/\vs=[.int i]/\H l=some (.lst xs) /\ -(2 ^ 63)<=i/\i<2 ^ 63/\seqIndex? i xs.length=some k/\xs[k]? = some y/\Q y (upd H l (.lst (xs.eraseIdx k)))
theorem Qjh:MtM X "list.pop" Qp2:=by
 intro pins s σ H x vs v us Q I rx rv h
 obtain ⟨l,xs,i,k,y,rfl,rfl,hH,h1,h2,hk,hy,q⟩:=h
 cases rx
 obtain ⟨u,rfl,ru⟩:=rv.one
 obtain ⟨t,rfl⟩:=ru
 obtain ⟨z,its,n,r,hl,e⟩:=I.lstM hH
 obtain ⟨w,hw,rw'⟩:=r.get hy
 refine call_meets F.slot_list_pop ⟨_,e,rfl⟩ F.entry_list_pop (F.args_list_pop_2 _ _)
  (MeetsSeq.list_pop_at l its.toArray n i t k w (fitsIndex_both h1 h2) (by rw [List.size_toArray,← hl];exact hk) (by rw [← Array.getElem?_toList];exact hw) (by rw [List.size_toArray];omega)) ⟨e,?_⟩
 refine ⟨y,_,I.lset (its':=its.eraseIdx k) hH e ?_ (r.eraseIdx k) ?_,rw',q⟩
 ·show its.toArray.eraseIdxIfInBounds k=(its.eraseIdx k).toArray
  rw [List.eraseIdxIfInBounds_toArray]
 ·have:=Qbo xs k
  omega
def rCat:R2:=λx y H Q=>∃l b xs zs,x=.ref l/\y=.ref b/\H l=some (.lst xs)/\H b=some (.lst zs)/\xs.length+zs.length<=sizeLine/\∀p,H p=none->Q (.ref p) (upd H p (.lst (xs++zs)))
theorem Qqr:OpR X (binaryOp .Add) rCat:=by
 intro pins s σ H x y v u Q I rx ry h
 obtain ⟨l,b,xs,zs,rfl,rfl,hH,hB,hz,q⟩:=h
 cases rx
 cases ry
 obtain ⟨z,its,n,r,hl,e⟩:=I.lstM hH
 obtain ⟨z2,its2,n2,r2,hl2,e2⟩:=I.lstM hB
 refine PySem.P.add_list e e2 ?_ (by rw [List.size_toArray,List.size_toArray];omega)
 have ea:its.toArray++its2.toArray=(its++its2).toArray:=by simp
 rw [ea]
 exact ⟨.ref _,_,I.lnew (t':=s.toks) (r.append r2) (by rw [List.length_append];omega),rfl,q _ I.fresh⟩
def rRep:R2:=λx y H Q=>∃l k xs,x=.ref l/\y=.int k/\H l=some (.lst xs) /\ -(2 ^ 63)<=k/\k<2 ^ 63/\xs.length*k.toNat<=sizeLine /\
 ∀p,H p=none->Q (.ref p) (upd H p (.lst (List.replicate k.toNat xs).flatten))
theorem Qn0 {α:Type} (xs:List α) (k:Nat):(List.replicate k xs).flatten.length=k*xs.length:=by
 induction k with
 | zero=>simp
 | succ k ih=>rw [List.replicate_succ,List.flatten_cons,List.length_append,ih,Nat.succ_mul,Nat.add_comm]
theorem Qqk:OpR X (binaryOp .Mult) rRep:=by
 intro pins s σ H x y v u Q I rx ry h
 obtain ⟨l,k,xs,rfl,rfl,hH,h1,h2,hz,q⟩:=h
 cases rx
 obtain ⟨t,rfl⟩:=ry
 obtain ⟨z,its,n,r,hl,e⟩:=I.lstM hH
 have hlen:its.toArray.size*k.toNat<=sizeLine:=by rw [List.size_toArray,← hl];exact hz
 have hcap:¬its.toArray.size*k.toNat > (2 ^ 63-1) / 8:=by
  have:(sizeLine:Nat)<=(2 ^ 63-1) / 8:=by decide
  omega
 have hfit:¬(!Builtin.List.listFitsIndex k)=true:=by
  rw [fitsIndex_both h1 h2]
  exact Bool.false_ne_true
 have hlong:¬Builtin.List.listTooLong (its.toArray.size*k.toNat)=true:=by
  rw [Qd3 hlen]
  exact Bool.false_ne_true
 have hnew:List.foldl (λx1 x2=>x1++x2) #[] (List.replicate (if its.toArray.isEmpty=true then 0 else k.toNat) its.toArray)=(List.replicate k.toNat its).flatten.toArray:=by
  have f0:∀m:Nat,List.foldl (λx1 x2=>x1++x2) #[] (List.replicate m its.toArray)=(List.replicate m its).flatten.toArray:=λm=>by
   have:=Qbu its m []
   rw [List.nil_append] at this
   exact this
  rw [f0]
  cases its with
  | nil=>simp
  | cons a r'=>rw [if_neg (by simp)]
 refine wpAny_binaryOp_repeat_ref (T:="list") (U:="int") (by decide) ⟨_,e,rfl⟩ (λs'=>typeIs_int s' k t) noFill_list_mul F.fills_int_mul F.slot_int_rmul repeat_list F.slot_int_index.lookup
  (call_meets F.slot_int_rmul (typeIs_int s k t) F.entry_int_rmul (F.args_int_rmul_2 _ _) (int___rmul___int_list k t l its.toArray n)
   ⟨e,rfl,⟨_,e,rfl⟩,call_meets F.slot_list_mul ⟨_,e,rfl⟩ F.entry_list_mul (F.args_list_mul_2 _ _) (AutoListH.list___mul___list_int_3 l its.toArray n k t hfit hcap hlong) ⟨e,?_⟩⟩)
 rw [hnew]
 exact ⟨.ref _,_,I.lnew (t':=s.toks) (r.rep k.toNat) (by rw [Qn0,Nat.mul_comm];exact hz),rfl,q _ I.fresh⟩
end
section
variable {prog:Program} {w:World} {A:Around} {E:Value->Shared->Prop} {s:Shared}
end
section
variable {X:Cx}
end
end L2
namespace L2
open PySem PySem.Spec PyProof.Rows
section
variable {κ:Type} [DecidableEq κ]
def valV (kvs:List (κ × V)) (k:κ):Option V:=(kvs.find? λkv=>decide (kv.1=k)).map (·.2)
def putK (kvs:List (κ × V)) (k:κ) (v:V):List (κ × V) :=
 if (kvs.any λkv=>decide (kv.1=k))=true then kvs.map (λkv=>if kv.1=k then (kv.1,v) else kv) else kvs++[(k,v)]
theorem Vq {p:κ × V} {r:List (κ × V)} {k:κ} (e:p.1=k):valV (p::r) k=some p.2:=by simp [valV,List.find?_cons,e]
theorem Vr {p:κ × V} {r:List (κ × V)} {k:κ} (e:¬p.1=k):valV (p::r) k=valV r k:=by simp [valV,List.find?_cons,e]
theorem Qdj (k:κ):∀kvs:List (κ × V),(kvs.any λkv=>decide (kv.1=k))=(valV kvs k).isSome
 | []=>rfl
 | p::r=>by
  rw [List.any_cons]
  by_cases e:p.1=k
  ·simp only [Vq e,decide_eq_true e,Bool.true_or,Option.isSome_some]
  ·rw [Vr e,decide_eq_false e,Bool.false_or];exact Qdj k r
theorem Gn (kvs:List (κ × V)) (k:κ) (v:V):(putK kvs k v).length<=kvs.length+1:=by
 unfold putK
 split
 ·rw [List.length_map];omega
 ·rw [List.length_append,List.length_cons,List.length_nil];omega
theorem RelO.isSome_eq {o:Option V} {u:Option Value} (r:RelO o u):o.isSome=u.isSome:=by
 cases o with
 | none=>cases u with
  | none=>rfl
  | some _=>exact (show False from r).elim
 | some _=>cases u with
  | none=>exact (show False from r).elim
  | some _=>rfl
theorem RelO.getD {o:Option V} {u:Option Value} {d:V} {d':Value} (r:RelO o u) (rd:RelV d d'):RelV (o.getD d) (u.getD d'):=by
 cases o with
 | none=>cases u with
  | none=>exact rd
  | some _=>exact (show False from r).elim
 | some _=>cases u with
  | none=>exact (show False from r).elim
  | some _=>exact r
theorem KV.val {kvs:List (κ × V)} {vs:List (κ × Value)} (r:KV kvs vs) (k:κ):RelO (valV kvs k) (valueAt vs k):=by
 unfold KV at r
 induction r with
 | nil=>exact True.intro
 | @cons p q ps qs h t ih =>
  obtain ⟨h1,h2⟩:=h
  by_cases e:p.1=k
  ·have e':q.1=k:=h1.symm.trans e
   have b:valueAt (q::qs) k=some q.2:=by simp [valueAt,List.find?_cons,e']
   rw [Vq e,b];exact h2
  ·have e':¬q.1=k:=λz=>e (h1.trans z)
   have b:valueAt (q::qs) k=valueAt qs k:=by simp [valueAt,List.find?_cons,e']
   rw [Vr e,b];exact ih
theorem KV.any {kvs:List (κ × V)} {vs:List (κ × Value)} (r:KV kvs vs) (k:κ):(kvs.any λkv=>decide (kv.1=k))=vs.any λkv=>decide (kv.1=k):=by
 unfold KV at r
 induction r with
 | nil=>rfl
 | cons h t ih=>rw [List.any_cons,List.any_cons,ih,h.1]
theorem KV.repl {kvs:List (κ × V)} {vs:List (κ × Value)} (r:KV kvs vs) (k:κ) {y:V} {u:Value} (ry:RelV y u) :
  KV (kvs.map λkv=>if kv.1=k then (kv.1,y) else kv) (vs.map λkv=>if kv.1=k then (kv.1,u) else kv):=by
 unfold KV at r ⊢
 induction r with
 | nil=>exact .nil
 | @cons p q ps qs h t ih =>
  rw [List.map_cons,List.map_cons]
  refine .cons ?_ ih
  obtain ⟨h1,h2⟩:=h
  by_cases e:p.1=k
  ·rw [if_pos e,if_pos (h1.symm.trans e)];exact ⟨h1,ry⟩
  ·rw [if_neg e,if_neg (λz=>e (h1.trans z))];exact ⟨h1,h2⟩
theorem KV.put {kvs:List (κ × V)} {vs:List (κ × Value)} (r:KV kvs vs) (k:κ) {y:V} {u:Value} (ry:RelV y u):KV (putK kvs k y) (stored vs k u):=by
 unfold putK stored
 rw [r.any k]
 by_cases e:(vs.any λkv=>decide (kv.1=k))=true
 ·rw [if_pos e,if_pos e];exact r.repl k ry
 ·rw [if_neg e,if_neg e];exact Paired.snoc r ⟨rfl,ry⟩
theorem KV.length {kvs:List (κ × V)} {vs:List (κ × Value)} (r:KV kvs vs):kvs.length=vs.length:=Paired.length r
end
theorem Qe1 {P:Program} {w:World} {k:Key} {u:Value} (r:RelV (kV k) u):(Q4 P w).is k u=true:=by
 cases k with
 | inl i=>obtain ⟨t,e⟩:=(show ∃t,u=Value.int i t from r);subst e;exact Qcv P w i t
 | inr x=>obtain ⟨t,e⟩:=(show ∃t,u=Value.str x t from r);subst e;exact Qcu P w x t
theorem Qbq {P:Program} {w:World}:∀{ks:List Key} {us:List Value},Vals (ks.map kV) us->ItemsAre (Q4 P w) ks us
 | [],_,r=>by rw [List.map_nil] at r;cases r;exact .nil
 | k::ks,_,r=>by
  rw [List.map_cons] at r
  cases r with
  | cons h t=>exact .cons (Qe1 h) (Qbq t)
abbrev KT (H:Hp):List (List Key × V)->List (List Key × Addr × Value)->Prop:=Paired λp q=>p.1=q.1/\H q.2.1=some (.tup (p.1.map kV))/\RelV p.2 q.2.2
theorem KT.val {H:Hp} {kvs:List (List Key × V)} {xs:List (List Key × Addr × Value)} (r:KT H kvs xs) (k:List Key):RelO (valV kvs k) ((atKey xs k).map (·.2)):=by
 induction r with
 | nil=>exact True.intro
 | @cons p q ps qs h t ih =>
  obtain ⟨h1,_,h2⟩:=h
  by_cases e:p.1=k
  ·have e':q.1=k:=h1.symm.trans e
   have b:atKey (q::qs) k=some q.2:=by simp [atKey,List.find?_cons,e']
   rw [Vq e,b];exact h2
  ·have e':¬q.1=k:=λz=>e (h1.trans z)
   have b:atKey (q::qs) k=atKey qs k:=by simp [atKey,List.find?_cons,e']
   rw [Vr e,b];exact ih
theorem KT.repl {H:Hp} {kvs:List (List Key × V)} {xs:List (List Key × Addr × Value)} (r:KT H kvs xs) (k:List Key) {y:V} {u:Value} (ry:RelV y u) :
  KT H (kvs.map λkv=>if kv.1=k then (kv.1,y) else kv) (xs.map (putAt k u)):=by
 induction r with
 | nil=>exact .nil
 | @cons p q ps qs h t ih =>
  rw [List.map_cons,List.map_cons]
  refine .cons ?_ ih
  obtain ⟨h1,h2,h3⟩:=h
  unfold putAt
  by_cases e:p.1=k
  ·rw [if_pos e,if_pos (h1.symm.trans e)];exact ⟨h1,h2,ry⟩
  ·rw [if_neg e,if_neg (λz=>e (h1.trans z))];exact ⟨h1,h2,h3⟩
theorem KT.put {H:Hp} {kvs:List (List Key × V)} {xs:List (List Key × Addr × Value)} (r:KT H kvs xs) (k:List Key) {b:Addr} {y:V} {u:Value} (hb:H b=some (.tup (k.map kV))) (ry:RelV y u) :
  KT H (putK kvs k y) (storedH xs k b u):=by
 have e:(kvs.any λkv=>decide (kv.1=k))=(atKey xs k).isSome:=by
  rw [Qdj,(r.val k).isSome_eq,Option.isSome_map]
 unfold putK storedH
 rw [e]
 by_cases q:(atKey xs k).isSome=true
 ·rw [if_pos q,if_pos q];exact r.repl k ry
 ·rw [if_neg q,if_neg q];exact Paired.snoc r ⟨rfl,hb,ry⟩
theorem KT.keeps {H H':Hp} {kvs:List (List Key × V)} {xs:List (List Key × Addr × Value)} (r:KT H kvs xs) (ht:∀b ys,H b=some (.tup ys)->H' b=some (.tup ys)):KT H' kvs xs :=
 Paired.mapP r λ_ _ z=>⟨z.1,ht _ _ z.2.1,z.2.2⟩
section
variable {P:Program} {w:World} {H:Hp} {h:Heap} {a:Addr}
theorem Qpl {u:HO} (ok:HOk P w H h) (e:Rd H a u):Jh P w H h a u:=e.ok ok
theorem Qb1 {kvs:List (Key × V)} (ok:HOk P w H h) (e:Rd H a (.dK kvs)):kvs.length<=sizeLine/\(a == sysModules)=false/\∃vs,KV kvs vs/\h.DictOf (Q4 P w) a vs :=
 show Jh P w H h a (.dK kvs) from Qpl ok e
theorem Qtv {kvs:List (Key × V)} (ok:HOk P w H h) (e:H a=some (.dK kvs)):kvs.length<=sizeLine/\(a == sysModules)=false/\∃vs,KV kvs vs/\h.DictOf (Q4 P w) a vs:=Qb1 ok (.inl e)
theorem V4 {ks:List Key} (ok:HOk P w H h) (e:H a=some (.tup (ks.map kV))):(tupleKind (Q4 P w)).is h ks a:=by
 obtain ⟨_,its,r,o,h1,h2,n,h3⟩:=(show Jh P w H h a (.tup (ks.map kV)) from ok a _ e)
 exact ⟨o,its.toArray,n,h1,h2,h3,by simpa using Qbq r⟩
theorem Qc3 {kvs:List (List Key × V)} (ok:HOk P w H h) (e:Rd H a (.dT kvs)):kvs.length<=sizeLine/\(a == sysModules)=false /\
  ∃xs,KT H kvs xs/\h.DictOfH (tupleKind (Q4 P w)) a xs:=by
 obtain ⟨z,y,xs,r,o,es,ep,h1,h2,h3,h4,h5⟩:=(show Jh P w H h a (.dT kvs) from Qpl ok e)
 refine ⟨z,y,xs,r,o,es,ep,h1,h2,h3,h4,λx hx=>?_,h5⟩
 have all:∀{l:List (List Key × V)} {m:List (List Key × Addr × Value)},KT H l m->∀x∈m,(tupleKind (Q4 P w)).is h x.1 x.2.1:=by
  intro l m q
  induction q with
  | nil=>intro x hx;exact nomatch hx
  | @cons p q ps qs hq t ih =>
   intro x hx
   rcases List.mem_cons.mp hx with e | hx
   ·subst e
    exact V4 ok (by rw [← hq.1];exact hq.2.1)
   ·exact ih x hx
 exact all r x hx
theorem Qtu {kvs:List (List Key × V)} (ok:HOk P w H h) (e:H a=some (.dT kvs)):kvs.length<=sizeLine/\(a == sysModules)=false /\
  ∃xs,KT H kvs xs/\h.DictOfH (tupleKind (Q4 P w)) a xs:=Qc3 ok (.inl e)
end
def DGet (H:Hp) (a:Addr) (y:V) (r:Option V):Prop :=
 (∃kvs k,Rd H a (.dK kvs)/\y=kV k/\r=valV kvs k)\/∃kvs k b,Rd H a (.dT kvs)/\y=.ref b/\H b=some (.tup (k.map kV))/\r=valV kvs k
def DPut (H:Hp) (a:Addr) (y v:V) (H':Hp):Prop :=
 (∃kvs k,H a=some (.dK kvs)/\y=kV k/\kvs.length<sizeLine/\H'=upd H a (.dK (putK kvs k v))) \/
 ∃kvs k b,H a=some (.dT kvs)/\y=.ref b/\H b=some (.tup (k.map kV))/\kvs.length<sizeLine/\H'=upd H a (.dT (putK kvs k v))
theorem DGet.k {H:Hp} {a:Addr} {kvs:List (Key × V)} {k:Key} (e:H a=some (.dK kvs)):DGet H a (kV k) (valV kvs k):=.inl ⟨kvs,k,.inl e,rfl,rfl⟩
theorem DGet.t {H:Hp} {a b:Addr} {kvs:List (List Key × V)} {k:List Key} (e:H a=some (.dT kvs)) (eb:H b=some (.tup (k.map kV))):DGet H a (.ref b) (valV kvs k):=.inr ⟨kvs,k,b,.inl e,rfl,eb,rfl⟩
theorem DPut.k {H:Hp} {a:Addr} {kvs:List (Key × V)} {k:Key} {v:V} (e:H a=some (.dK kvs)) (hl:kvs.length<sizeLine):DPut H a (kV k) v (upd H a (.dK (putK kvs k v))):=.inl ⟨kvs,k,e,rfl,hl,rfl⟩
theorem DPut.t {H:Hp} {a b:Addr} {kvs:List (List Key × V)} {k:List Key} {v:V} (e:H a=some (.dT kvs)) (eb:H b=some (.tup (k.map kV))) (hl:kvs.length<sizeLine) :
  DPut H a (.ref b) v (upd H a (.dT (putK kvs k v))):=.inr ⟨kvs,k,b,e,rfl,eb,hl,rfl⟩
section
variable {X:Cx} {pins:List (Addr × Obj)} {σ:St} {H:Hp} {s:Shared} {a:Addr} {y v:V} {u r:Value} {o:Option V} {A:Around} {E:Value->Shared->Prop}
theorem Inv.big (I:Inv X pins σ H s):sysModules<s.heap.objs.size:=by
 have h:mainGlobals<s.heap.objs.size:=(I.mod.glob.keeps I.bk).lt
 exact Nat.lt_trans (by decide) h
theorem Qht {Q:Value->Shared->Prop} (hu:A.units+1<cLine) (I:Inv X pins σ H s) (g:DGet H a y (some v)) (ry:RelV y u) (h:∀w' s',Inv X pins σ H s'->RelV v w'->Q w' s') :
  wpAny (model X.prog X.w) A (getItem (.ref a) u) Q E s:=by
 rcases g with ⟨kvs,k,e,ey,l⟩ | ⟨kvs,k,b,e,ey,eb,l⟩
 ·subst ey
  obtain ⟨z,hd,vs,rel,dd⟩:=Qb1 I.hok e
  obtain ⟨w',hw,rw'⟩:=RelO.some_of (v:=v) (o:=valueAt vs k) (by rw [l];exact rel.val k)
  exact wpAny_getItem_of (Qe1 ry) dd.mapOf hw (h w' _ (I.tok _) rw')
 ·subst ey
  cases (show u=Value.ref b from ry)
  obtain ⟨z,hd,xs,rel,dd⟩:=Qc3 I.hok e
  obtain ⟨w',hw,rw'⟩:=RelO.some_of (v:=v) (o:=(atKey xs k).map (·.2)) (by rw [l];exact rel.val k)
  obtain ⟨p,hp,hp2⟩:=Option.map_eq_some_iff.mp hw
  refine wpAny_getItem_heap (tupleKind_room_in1 hu) (V4 I.hok eb) dd hp ?_
  rw [hp2]
  exact h w' _ (I.tok _) rw'
theorem d_in {Q:Value->Shared->Prop} (hu:A.units+1<cLine) (I:Inv X pins σ H s) (g:DGet H a y o) (ry:RelV y u) (h:∀s',Inv X pins σ H s'->Q (.bool o.isSome) s') :
  wpAny (model X.prog X.w) A (compareOp .In u (.ref a)) Q E s:=by
 rcases g with ⟨kvs,k,e,ey,l⟩ | ⟨kvs,k,b,e,ey,eb,l⟩
 ·subst ey
  obtain ⟨z,hd,vs,rel,dd⟩:=Qb1 I.hok e
  refine wpAny_in_of (Qe1 ry) hd dd.mapOf ?_
  rw [← (rel.val k).isSome_eq,← l]
  exact h _ (I.tok _)
 ·subst ey
  cases (show u=Value.ref b from ry)
  obtain ⟨z,hd,xs,rel,dd⟩:=Qc3 I.hok e
  refine wpAny_in_heap (tupleKind_room_in1 hu) (V4 I.hok eb) hd dd ?_
  have q:=(rel.val k).isSome_eq
  rw [Option.isSome_map] at q
  rw [← q,← l]
  exact h _ (I.tok _)
theorem Qok {Q:Value->Shared->Prop} (hu:A.units+1<cLine) (I:Inv X pins σ H s) (g:DGet H a y o) (ry:RelV y u) (h:∀s',Inv X pins σ H s'->Q (.bool (!o.isSome)) s') :
  wpAny (model X.prog X.w) A (compareOp .NotIn u (.ref a)) Q E s:=by
 rcases g with ⟨kvs,k,e,ey,l⟩ | ⟨kvs,k,b,e,ey,eb,l⟩
 ·subst ey
  obtain ⟨z,hd,vs,rel,dd⟩:=Qb1 I.hok e
  refine wpAny_notIn_of (Qe1 ry) hd dd.mapOf ?_
  rw [← (rel.val k).isSome_eq,← l]
  exact h _ (I.tok _)
 ·subst ey
  cases (show u=Value.ref b from ry)
  obtain ⟨z,hd,xs,rel,dd⟩:=Qc3 I.hok e
  refine wpAny_notIn_heap (tupleKind_room_in1 hu) (V4 I.hok eb) hd dd ?_
  have q:=(rel.val k).isSome_eq
  rw [Option.isSome_map] at q
  rw [← q,← l]
  exact h _ (I.tok _)
theorem Qap {h':Heap} {t':Nat} {ob:HO} (I:Inv X pins σ H s) (mu:Mut (H a)) (hs:Heap.SameBut a s.heap h') (he:∃q,h'.get? a=some q) (new:Jh X.prog X.w (upd H a ob) h' a ob) :
  Inv X pins σ (upd H a ob) { s with heap:=h',toks:=t' } :=
 I.write (x:=a) (e:=a) mu (.inl rfl) (λb q hb z=>(hs.2 b hb).trans z) he new
theorem Qrw {P:Program} {w:World} {H':Hp} {h':Heap} {kvs:List (Key × V)} {vs:List (Key × Value)} (z:kvs.length<=sizeLine) (hd:(a == sysModules)=false) (rel:KV kvs vs) (dd:h'.DictOf (Q4 P w) a vs) :
  Jh P w H' h' a (.dK kvs):=⟨z,hd,vs,rel,dd⟩
theorem Qhs {H':Hp} {Q:Unit->Shared->Prop} (hu:A.units+1<cLine) (I:Inv X pins σ H s) (g:DPut H a y v H') (ry:RelV y u) (rv:RelV v r) (h:∀s',Inv X pins σ H' s'->Q () s') :
  wpAny (model X.prog X.w) A (setItem (.ref a) u r) Q E s:=by
 rcases g with ⟨kvs,k,e,ey,l,eH⟩ | ⟨kvs,k,b,e,ey,eb,l,eH⟩
 ·subst ey eH
  obtain ⟨z,hd,vs,rel,dd⟩:=Qtv I.hok e
  have hz:vs.length<=sizeLine:=by rw [← rel.length];exact z
  have hl:(putK kvs k v).length<=sizeLine:=by have:=Gn kvs k v;omega
  refine wpAny_setItem_pairs (hsz:=hz) (Qe1 ry) dd λh' dd' hs=>h _ ?_
  have he:∃q,h'.get? a=some q:=let ⟨q,_,_,hq,_⟩:=dd';⟨q,hq⟩
  exact Qap I (by rw [e];exact True.intro) hs he (Qrw hl hd (rel.put k rv) dd')
 ·subst ey eH
  cases (show u=Value.ref b from ry)
  obtain ⟨z,hd,xs,rel,dd⟩:=Qtu I.hok e
  have hz:xs.length<=sizeLine:=by rw [← Paired.length rel];exact z
  have hl:(putK kvs k v).length<=sizeLine:=by have:=Gn kvs k v;omega
  refine wpAny_setItem_heap (hsz:=hz) (tupleKind_room_in1 hu) (V4 I.hok eb) dd λh' dd' hs=>h _ ?_
  obtain ⟨q,es,ep,hq,h2,h3,h4,_,h5⟩:=dd'
  refine Qap I (by rw [e];exact True.intro) hs ⟨q,hq⟩ ⟨hl,hd,_,(rel.put k eb rv).keeps λc ys ec=>?_,q,es,ep,hq,h2,h3,h4,h5⟩
  rw [Ql (Qtd ec e (λz=>nomatch z))]
  exact ec
end
section
variable {X:Cx} {pins:List (Addr × Obj)} {σ:St} {H:Hp} {s:Shared} {a:Addr} {kvs:List (Key × V)} {k:Key} {u:Value} {A:Around} {E:Value->Shared->Prop}
theorem Qtw {Q:Value->Shared->Prop} (I:Inv X pins σ H s) (e:Rd H a (.dK kvs)) (h:∀t s',Inv X pins σ H s'->Q (.int kvs.length t) s'):wpAny (model X.prog X.w) A (call (.builtin "len") [.ref a]) Q E s:=by
 obtain ⟨z,hd,vs,rel,dd⟩:=Qb1 I.hok e
 refine call_len_dict hd dd (by rw [← rel.length];rw [sizeLine_eq] at z;omega) ?_
 rw [← rel.length]
 exact h _ _ (I.tok _)
end
theorem Qc5 {X:Cx} {pins:List (Addr × Obj)} {σ:St} {H:Hp} {s:Shared} {a:Addr} {y:V} {o:Option V} (I:Inv X pins σ H s) (g:DGet H a y o):s.TypeIs (.ref a) "dict":=by
 rcases g with ⟨kvs,k,e,_,_⟩ | ⟨kvs,k,b,e,_,_,_⟩
 ·obtain ⟨_,_,vs,_,dd⟩:=Qb1 I.hok e
  exact dd.typeIs
 ·obtain ⟨_,_,xs,_,dd⟩:=Qc3 I.hok e
  exact dd.typeIs
section
variable {X:Cx} {o i e value:Expr} {pos pos' tpos:Pos} {td ty tv:TE}
end
theorem Qj0 {P:Program} {w:World} {H:Hp} (h:Heap) (hb:sysModules<h.objs.size):Jh P w H (h.push { cls:=.type "dict",data:=.dict #[] }) h.objs.size (.dK []) :=
 ⟨Nat.zero_le _,beq_eq_false_iff_ne.mpr (Ne.symm (Nat.ne_of_lt hb)),[],.nil,Heap.DictOf.new h⟩
theorem Qjx {P:Program} {w:World} {H:Hp} (h:Heap) (hb:sysModules<h.objs.size):Jh P w H (h.push { cls:=.type "dict",data:=.dict #[] }) h.objs.size (.dT []) :=
 ⟨Nat.zero_le _,beq_eq_false_iff_ne.mpr (Ne.symm (Nat.ne_of_lt hb)),[],.nil,_,#[],0,Heap.get?_push_size _ rfl,⟨rfl,rfl,rfl⟩,rfl,rfl,List.nodup_nil⟩
def Qpb:TE:=λ_ H Q=>∀p,H p=none->Q (.ref p) (upd H p (.dK []))
def Qpa:TE:=λ_ H Q=>∀p,H p=none->Q (.ref p) (upd H p (.dT []))
section
variable {X:Cx} {pos:Pos}
theorem Qi8:PE X (.Dict [] [] pos) Qpb:=λpins s σ H Q I h =>
 wpAny_Dict_empty ⟨.ref s.heap.objs.size,_,I.laid (a:=s.heap.objs.size) (o:=.dK []) (t':=s.toks) (λ_ _ q=>Heap.get?_push_of_some _ q) (Nat.le_refl _) (Qj0 s.heap I.big),rfl,h _ (I.hok.fresh (Nat.le_refl _))⟩
theorem Qi6:PE X (.Dict [] [] pos) Qpa:=λpins s σ H Q I h =>
 wpAny_Dict_empty ⟨.ref s.heap.objs.size,_,I.laid (a:=s.heap.objs.size) (o:=.dT []) (t':=s.toks) (λ_ _ q=>Heap.get?_push_of_some _ q) (Nat.le_refl _) (Qjx s.heap I.big),rfl,h _ (I.hok.fresh (Nat.le_refl _))⟩
end
structure M2 (X:Cx) (o:Expr) (m:Str) (apos:Pos) (e f:Expr) (cpos:Pos):Prop where
 base:attributeBase o m X.env (eval o X.env)=eval o X.env
 few:((backTo cpos (starEach [e,f] X.env)).all (λx=>!x.1) && (backToKw cpos (keywordEach [] X.env)).all (λx=>x.1.isSome)
  && decide (([e,f]:List Expr).length+([]:List Keyword).length+(if ([]:List Keyword).isEmpty then 0 else 1)<30))=true
 line:(apos.endLine == cpos.line)=true
 trees:backTo cpos (starEach [e,f] X.env)=[(false,eval e X.env),(false,eval f X.env)]
def IsD (H:Hp) (a:Addr):Prop:=(∃kvs,Rd H a (.dK kvs))\/∃kvs,Rd H a (.dT kvs)
theorem Qrk {X:Cx} {pins:List (Addr × Obj)} {σ:St} {H:Hp} {s:Shared} {a:Addr} (I:Inv X pins σ H s) (d:IsD H a) :
  s.TypeIs (.ref a) "dict" /\ (∀b,Value.ref a=.ref b->∃ob,s.heap.get? b=some ob/\ob.dict=none)/\(a == sysModules)=false:=by
 rcases d with ⟨kvs,e⟩ | ⟨kvs,e⟩
 ·obtain ⟨_,hd,vs,_,dd⟩:=Qb1 I.hok e
  refine ⟨dd.typeIs,λb q=>?_,hd⟩
  cases q
  obtain ⟨ob,_,_,h1,h2,_⟩:=dd
  exact ⟨ob,h1,h2.2.1⟩
 ·obtain ⟨_,hd,xs,_,dd⟩:=Qc3 I.hok e
  refine ⟨dd.typeIs,λb q=>?_,hd⟩
  cases q
  obtain ⟨ob,_,_,h1,h2,_⟩:=dd
  exact ⟨ob,h1,h2.2.1⟩
section
variable {X:Cx} {pins:List (Addr × Obj)} {σ:St} {H:Hp} {s:Shared} {a:Addr} {y d:V} {u r:Value} {o:Option V} {A:Around} {E:Value->Shared->Prop}
theorem Qrx {Q:Value->Shared->Prop} (hu:A.units+1<cLine) (I:Inv X pins σ H s) (g:DGet H a y o) (ry:RelV y u) (rd:RelV d r) (h:∀w' s',Inv X pins σ H s'->RelV (o.getD d) w'->Q w' s') :
  wpAny (model X.prog X.w) A (call (.builtin "dict.get") [.ref a,u,r]) Q E s:=by
 rcases g with ⟨kvs,k,e,ey,l⟩ | ⟨kvs,k,b,e,ey,eb,l⟩
 ·subst ey
  obtain ⟨z,hd,vs,rel,dd⟩:=Qb1 I.hok e
  refine call_meetsIn PySem.F.slot_dict_get dd.typeIs PySem.F.entry_dict_get (PySem.F.args_dict_get_3 _ _ _) (meets_dict_get_default (Q4 X.prog X.w) a (Qe1 ry) hd r) ⟨_,dd.mapOf,h _ _ (I.tok _) ?_⟩
  rw [l]
  exact (rel.val k).getD rd
 ·subst ey
  cases (show u=Value.ref b from ry)
  obtain ⟨z,hd,xs,rel,dd⟩:=Qc3 I.hok e
  refine call_meetsIn PySem.F.slot_dict_get dd.typeIs PySem.F.entry_dict_get (PySem.F.args_dict_get_3 _ _ _) (meetsH_dict_get_default (tupleKind (Q4 X.prog X.w)) a b hd r) ⟨tupleKind_room_in1 hu,k,xs,V4 I.hok eb,dd,h _ _ (I.tok _) ?_⟩
  rw [l]
  exact (rel.val k).getD rd
end
def Qpc (td ty tx:TE):TE:=λσ H Q=>td σ H λx H1=>∃a,x=.ref a/\IsD H1 a/\ty σ H1 λy H2=>tx σ H2 λz H3=>∃o,DGet H3 a y o/\Q (o.getD z) H3
section
variable {X:Cx} {o e f:Expr} {apos cpos:Pos} {td ty tx:TE}
theorem Qi9 (hu:X.A.units+1<cLine) (ho:PE X o td) (he:PE X e ty) (hf:PE X f tx) (m:M2 X o "get" apos e f cpos):PE X (.Call (.Attribute o "get" apos) [e,f] [] cpos) (Qpc td ty tx):=by
 intro pins s σ H Q I h
 refine wpAny_Call_method m.base m.few m.line PySem.F.plainAttrs_dict PySem.F.slot_dict_get PySem.F.type_dict_get (thn (ho pins s σ H _ I h) λu s1 ⟨x,H1,I1,rx,a,ex,d,q1⟩=>?_)
 subst ex
 obtain rfl:u=Value.ref a:=rx
 obtain ⟨t1,t2,_⟩:=Qrk I1 d
 refine ⟨t1,t2,?_⟩
 rw [m.trees]
 refine Calls.callWith_builtin rfl (Calls.evalArgs_plain (Calls.spliced_cons (thn (he pins s1 σ H1 _ I1 q1) λiv s2 ⟨y,H2,I2,ry,q2⟩ =>
  Calls.spliced_cons (thn (hf pins s2 σ H2 _ I2 q2) λfv s3 ⟨z,H3,I3,rz,ov,g,q3⟩=>Calls.spliced_nil ?_))))
 exact Qrx hu I3 g ry rz λw' s4 I4 rw'=>⟨_,H3,I4,rw',q3⟩
end
section
variable {X:Cx} {pins:List (Addr × Obj)} {σ:St} {H:Hp} {s:Shared} {a:Addr} {kvs:List (Key × V)} {A:Around} {E:Value->Shared->Prop}
end
section
variable {X:Cx} {pins:List (Addr × Obj)} {σ:St} {H:Hp} {s:Shared} {a:Addr} {y:V} {u:Value} {A:Around} {E:Value->Shared->Prop}
end
end L2
namespace Att
open PySem PySem.W PySem.Calls PyProof.Rows
theorem Gr {P:Params} {h:Heap}:∀(ns:List Int) (vs:List Value),WellAll P h vs (ns.map WData.int)->IntsAre vs ns:=by
 intro ns
 induction ns with
 | nil =>
  intro vs w
  rw [List.map_nil] at w
  cases w
  exact .nil
 | cons n ns ih =>
  intro vs w
  rw [List.map_cons] at w
  cases w with
  | cons a b =>
   cases a
   exact .cons _ _ (ih _ b)
theorem Qfq {l:OpenLaw} {n:Nat} (hn:l.most=some n) {P:Params} {h:Heap} {args:List WData} {vals:List Value}
  (hpre:l.row.toRowW.claim.pre args=true) (hwl:WellAll P h vals args) :
  ∃a vs ns,vals=[Value.ref a]/\args=[WData.list (ns.map WData.int)]/\h.get? a=some { cls:=.type "list",data:=.seq vs.toArray }/\IntsAre vs ns/\ns.length<=n:=by
 have hsh:WShape.hasAll [] args [.list .int]=true:=(pre_splitW hpre).1
 have hc:l.pre.holds [] { args:=args }=true:=(pre_splitW hpre).2
 obtain ⟨d,r,rfl,h1,h2⟩:=hasAllW_cons hsh
 obtain rfl:=hasAllW_nil h2
 obtain ⟨xs,rfl,h3⟩:=hasW_list h1
 obtain ⟨ns,rfl⟩:=items_int h3
 have hlen:ns.length<=n:=by
  unfold OpenLaw.pre at hc
  have h4:(WTm.not (.lt (.lit (.int (n:Int))) (.len (.arg 0)))).holds [] { args:=[.list (ns.map .int)] }=true:=by
   have h4:=(holds_andW hc).1
   rw [hn] at h4
   exact h4
  have h5:=condW_of h4 (w_not (w_lt w_lit (w_len_list (w_arg rfl))))
  rw [List.length_map] at h5
  refine Nat.le_of_not_lt λq=>?_
  have q':(n:Int)<((ns.length:Nat):Int):=by omega
  first
   | (rw [decide_eq_true q'] at h5;exact absurd h5 (by decide))
   | (simp at h5;omega)
 cases hwl with
 | cons w1 w2 =>
  cases w2
  cases w1 with
  | list ho hall=>exact ⟨_,_,ns,rfl,rfl,ho,Gr ns _ hall,hlen⟩
theorem Qf9 (l:OpenLaw) (args:List WData):l.row.toRowW.claim.post args (.bool true) args=true :=
 postW_of (r:=l.row.toRowW) (X:=(true == true))
  (show WShape.has [] (.bool true) .bool=true by first | rfl | decide | simp [WShape.has,WShape.arms,WShape.armsAll])
  (show (WTm.eq .res (.lit (.bool true))).value [] { args:=args,res:=some (.bool true),after:=args }=some (.bool (true == true)) from w_eq_bool (w_res rfl) w_lit) rfl
theorem Qdc {l:OpenLaw} {n:Nat} {q:Program} {loose:List Str} {XP:(Str->Option Value)->Heap->Prop} {YP:World->Heap->Prop} {d:DefRec}
  (hn:l.most=some n) (hdf:d.params.defaults=[])
  (call:∀(w:World) (s₀ s₁:Shared) (mg mb:Str->Option Value) (fa:Addr) (o:Obj) (pm cd doc:Value) (a:Addr) (vs:List Value) (ns:List Int),
   Ground q loose [] XP w s₀ mg mb s₁.heap->YP w s₁.heap ->
   s₁.heap.get? fa=some o->o.data=.func (docDef d.name d.params d.body d.scope pm cd doc)->s₁.heap.CodeRec cd d.name->mg d.name=some (.ref fa) ->
   s₁.heap.get? a=some { cls:=.type "list",data:=.seq vs.toArray }->IntsAre vs ns->ns.length<=n->s₁.gens = #[] ->
   codeAny (model l.prog w) callerA (.call (.ref fa) ⟨[.ref a],[]⟩) (λr s'=>r=.ok (.ret (.bool true))/\OldK s₁.heap s'.heap/\s'.os=s₁.os/\AllBare s'.gens) s₁) :
  WalkO q loose XP YP l.row.toRowW d [] (λf vs=>PySem.call f vs):=by
 intro w s₀ s₁ mg mb G Y fa o pm cd doc dV kV ho hd hcd hD hmg hg args vals as hpre hlay hrd hwl hlo
 obtain rfl:dV=.none:=Dflts.none hD hdf
 obtain rfl:kV=.none:=Dflts.noKw hD
 obtain ⟨a,vs,ns,rfl,rfl,hobj,hints,hlen⟩:=Qfq hn hpre hwl
 refine enter_call (codeAny_mono (call w s₀ s₁ mg mb fa o pm cd doc a vs ns G Y ho (fd_plain hd) hcd hmg hobj hints hlen hg) λr s' hq=>?_)
 obtain ⟨rfl,h2,h3,h4⟩:=hq
 exact ⟨.inl ⟨.bool true,.bool true,[],rfl,λ_=>rfl,.bool true,Qf9 l _,λ_=>⟨List.Pairwise.nil,λ_ hm=>(nomatch hm)⟩⟩,h2,h3,h4⟩
section
variable {prog:Program} {w:World} {A:Around} {E:Value->Shared->Prop} {s:Shared} {K:Frag}
end
end Att
namespace L2
open PySem PySem.Spec PyProof.Rows
theorem Qa2:∀{vs:List Value} {ns:List Int},IntsAre vs ns->Vals (ns.map V.int) vs
 | _,_,.nil=>.nil
 | _,_,.cons n t h=>.cons ⟨t,rfl⟩ (Qa2 h)
def Only (H:Hp):Prop:=∀b,H b=none\/∃o xs,H b=some (.frz o (.lst xs))
theorem Qjj {P:Program} {w:World} {K:PySem.W.Frag} {mg mb:Str->Option Value} {CX:CXT} {k:Nat} {fa a:Addr} {fd:FuncData} {x:Str} {sp:Sp} {s₁:Shared} {vs:List Value} {ns:List Int}
  (KX:K.In s₁.heap) (hns:s₁.heap.Ns mainGlobals mg) (hb:s₁.heap.Ns builtinsNs mb) (hbb:∀x:Str,x ≠ "__name__" -> mb x=bootBuiltins x) (hlim:s₁.heap.NoLimit) (hg:s₁.gens = #[])
  (ha:s₁.heap.get? a=some { cls:=.type "list",data:=.seq vs.toArray }) (hi:IntsAre vs ns) (hl:ns.length<=sizeLine) (hr:Room k callerA)
  (F:∀base:Heap,K.In base->base.Ns mainGlobals mg->FnOk P w K mg base CX k fa fd [x] sp) (hbind:∀(s:Shared) (u:Value),BindsTo s fd ⟨[u],[]⟩ [(x,u)])
  (hsp:∀H:Hp,Only H->SqL K H a (ns.map V.int)->sp [.ref a] H (λv _=>v=.bl true) λ_ _ _=>False)
  (hCX:∀H e s',CX [] H s₁ (λ_ _ _=>False) e s'->False) :
  codeAny (model P w) callerA (.call (.ref fa) ⟨[.ref a],[]⟩) (λr s'=>r=.ok (.ret (.bool true))/\OldK s₁.heap s'.heap/\s'.os=s₁.os/\AllBare s'.gens) s₁:=by
 have rv:=Qa2 hi
 have lenV:=hi.length
 -- from an abstract heap in which nothing but the script may be tracked
 have core:∀H:Hp,Only H->SqL K H a (ns.map V.int)->HOk P w H s₁.heap->(∀b,H b≠none->b=a)->(H a≠none->K.lookup a=none) ->
   codeAny (model P w) callerA (.call (.ref fa) ⟨[.ref a],[]⟩) (λr s'=>r=.ok (.ret (.bool true))/\OldK s₁.heap s'.heap/\s'.os=s₁.os/\AllBare s'.gens) s₁:=by
  intro H hO hS hok hA hK
  have base_of:∀{b:Addr} {o:Obj},s₁.heap.get? b=some o->H b=none->(hidT s₁.heap H).get? b=some o:=λe n=>Qjn e n
  have noA:∀{b:Addr} {o:Obj} {es:Array DictEntry} {ep:Nat},s₁.heap.get? b=some o->o.data=.dict es ep->H b=none:=λ{b o es ep} e d=>by
   cases q:H b with
   | none=>rfl
   | some u =>
    have e':b=a:=hA b (by rw [q];simp)
    subst e'
    rw [ha] at e;cases e
    have d':Data.seq vs.toArray _=Data.dict es ep:=d
    cases d'
  have nsK:∀{b:Addr} {m:Str->Option Value},s₁.heap.Ns b m->(hidT s₁.heap H).Ns b m:=λ{b m} ⟨o,es,ep,e,d,r⟩=>⟨o,es,ep,base_of e (noA e d),d,r⟩
  have hKb:K.In (hidT s₁.heap H):=λb o e=>base_of (KX b o e) (by
   cases q:H b with
   | none=>rfl
   | some u =>
    have e':b=a:=hA b (by rw [q];simp)
    subst e'
    rw [hK (by rw [q];simp)] at e;cases e)
  have hM:Mod K mg (hidT s₁.heap H):=⟨hKb,nsK hns,⟨mb,nsK hb,hbb⟩,let ⟨mc,h1,h2⟩:=hlim;⟨mc,nsK h1,h2⟩⟩
  have e0:Env0 P w K mg (hidT s₁.heap H) callerA [] s₁ H:=⟨rfl,hM,λb o e=>Qnq e,Nat.le_of_eq (Qhb _ _),trivial,λb hb=>absurd (show b∈([]:List Addr) from hb) (by simp),hok,.of_eq hg⟩
  refine codeAny_mono ((F _ hKb (nsK hns)).run callerA [] s₁ H ⟨[.ref a],[]⟩ [.ref a] [.ref a] _ _ hr e0 (hbind s₁ (.ref a)) (.cons rfl .nil) (hsp H hO hS)) λr s' h=>?_
  cases r with
  | error e=>exact (hCX H e s' h).elim
  | ok fl =>
   cases fl with
   | next=>exact False.elim h
   | brk=>exact False.elim h
   | cont=>exact False.elim h
   | ret u =>
    obtain ⟨v,H',os,bare,un,hok',r',q⟩:=h
    have q':v=.bl true:=q
    subst q'
    obtain rfl:u=Value.bool true:=r'
    refine ⟨rfl,OldK.of_keep λb o e=>?_,os,bare⟩
    cases q:H b with
    | none=>exact un.keep b o e q (by intro z;exact absurd (show b∈([]:List Addr) from z) (by simp)) (by simp)
    | some u =>
     rcases hO b with z | ⟨ob,xs,z⟩
     ·rw [q] at z;cases z
     ·have z2:=un.frzs b ob _ z
      obtain ⟨e1,_⟩:=hok b _ z
      obtain ⟨e2,_⟩:=hok' b _ z2
      rw [e] at e1;cases e1
      exact e2
 cases hk:K.lookup a with
 | some o =>
  -- the script is one of the module's own objects
  have e:=KX a o hk
  rw [ha] at e
  cases e
  refine core (λ_=>none) (λ_=>.inl rfl) (.inr ⟨_,vs.toArray,_,hk,rfl,rfl,rfl,by rw [List.size_toArray,lenV];exact hl,by simpa using rv⟩) (λb u z=>by have z':(none:Option HO)=some u:=z;cases z') (λb z=>absurd rfl z) λz=>absurd rfl z
 | none =>
  refine core (λb=>if b=a then some (.frz { cls:=.type "list",data:=.seq vs.toArray } (.lst (ns.map V.int))) else none) (λb=>?_) (.inl (.inr ⟨{ cls:=.type "list",data:=.seq vs.toArray },if_pos rfl⟩)) (λb u z=>?_) (λb z=>?_) λ_=>hk
  ·by_cases hb:b=a
   ·exact .inr ⟨_,_,if_pos hb⟩
   ·exact .inl (if_neg hb)
  ·by_cases hb:b=a
   ·have z':=(if_pos hb).symm.trans z
    cases z'
    subst hb
    exact ⟨ha,by rw [List.length_map];exact hl,vs,_,rv,ha⟩
   ·have z':=(if_neg hb).symm.trans z
    cases z'
  ·by_cases hb:b=a
   ·exact hb
   ·exact absurd (if_neg hb) z
end L2
namespace L2
open PySem PySem.Spec PyProof.Rows
theorem Qlz {l:PySem.W.OpenLaw} {n k:Nat} {q:Program} {loose:List Str} {XP:(Str->Option Value)->Heap->Prop} {YP:World->Heap->Prop} {d:DefRec} {K:Params->PySem.W.Frag} {CX:World->CXT} {sp:World->Sp} {x:Str}
  (hn:l.most=some n) (hn2:n<=sizeLine) (hdf:d.params.defaults=[]) (hr:Room k callerA)
  (hY:∀(w:World) (h:Heap),YP w h->(K w.params).In h)
  (F:∀(w:World) (mg:Str->Option Value) (fa:Addr) (h:Heap),(K w.params).In h->h.Ns mainGlobals mg->mg d.name=some (.ref fa) ->
   ∃fd:FuncData,(∀(s:Shared) (u:Value),BindsTo s fd ⟨[u],[]⟩ [(x,u)]) /\
    ∀base:Heap,(K w.params).In base->base.Ns mainGlobals mg->FnOk l.prog w (K w.params) mg base (CX w) k fa fd [x] (sp w))
  (hsp:∀(w:World) (H:Hp) (a:Addr) (ns:List Int),ns.length<=n->Only H->SqL (K w.params) H a (ns.map V.int)->sp w [.ref a] H (λv _=>v=.bl true) λ_ _ _=>False)
  (hCX:∀(w:World) (H:Hp) (s:Shared) (e:Value) (s':Shared),CX w [] H s (λ_ _ _=>False) e s'->False) :
  PySem.W.WalkO q loose XP YP l.row.toRowW d [] (λf vs=>PySem.call f vs):=by
 refine Att.Qdc hn hdf λw s₀ s₁ mg mb fa o pm cd doc a vs ns G Y ho hd hcd hmg hobj hints hlen hg=>?_
 have KX:=hY w _ Y
 obtain ⟨fd,hb,hF⟩:=F w mg fa _ KX G.T.g hmg
 exact Qjj KX G.T.g G.T.b G.T.builtins G.T.nolimit hg hobj hints (Nat.le_trans hlen hn2) hr hF hb (λH hO hS=>hsp w H a ns hlen hO hS) λH e s'=>hCX w H s₁ e s'
end L2
namespace L2
open PySem PySem.Spec PyProof.Rows
def Jk (s:Stmt):Arguments:=match s with
 | .FunctionDef _ a _ _ _ _ _ _ _ _=>a
 | _=>{ posonlyargs:=[],args:=[],vararg:=none,kwonlyargs:=[],kw_defaults:=[],kwarg:=none,defaults:=[] }
def Qq (s:Stmt):List Stmt:=match s with
 | .FunctionDef _ _ b _ _ _ _ _ _ _=>b
 | _=>[]
def Qc (s:Stmt):Scope:=match s with
 | .FunctionDef _ _ _ _ _ _ sc _ _ _=>sc
 | _=>{ kind:=.function,names:=[],isGenerator:=false,isCoroutine:=false }
abbrev CX0:CXT:=λ_ _ _ _ _ _=>False
abbrev E0:XK:=λ_ _ _=>False
theorem Qnj {X:Cx}:Qif CX0 X E0:=λ_ _ _ _ _ _ _ h=>h.elim
structure Fun (K:PySem.W.Frag) (x qual:Str) (st:Stmt) (f:Addr) (fd:FuncData):Prop where
 ex:∃(oc:Value) (od:Option Addr) (kV doc pm:Value) (an:Option Addr) (cdv ct:Value) (osl:Array (Option Value)),
  fd=PySem.W.fnOf x qual (Jk st) (Qq st) (Qc st) .none kV doc pm an cdv ct/\K.lookup f=some ⟨oc,od,.func fd,osl⟩/\PySem.W.codeIn K cdv qual=true
 kp:PySem.W.keepIn K (.ref f)=true
section
variable {P:Program} {w:World} {K:PySem.W.Frag} {mg:Str->Option Value} {base:Heap}
theorem Fun.ok {x qual:Str} {st:Stmt} {f:Addr} {fd:FuncData} {N ps:List Str} {k:Nat} {sp:Sp} (F:Fun K x qual st f fd) (S:FnScope N ps (Qc st)) (len:∀vs H Q E,sp vs H Q E->vs.length=ps.length)
  (hbody:∀(cdv:Value) (A:Around) (outer:List Env) (s:Shared) (H:Hp) (vs:List V) (Q:VK) (E:XK),Room k (A.deeper (envOfC qual (Qc st) s.heap.objs.size f cdv))->sp vs H Q E ->
   ∃t,PSs (cxOf CX0 P w K mg base N qual (Qc st) f cdv A outer s H E).nox (Qq st) t/\t { nx:=λ_ H'=>Q .non H',rt:=Q } (start N vs) H):FnOk P w K mg base CX0 (k+1) f fd ps sp:=by
 obtain ⟨oc,od,kV,doc,pm,an,cdv,ct,osl,rfl,lk,hcd⟩:=F.ex
 refine Qto lk hcd S len λA outer s H vs Q E hr hsp=>?_
 obtain ⟨t,h,q⟩:=hbody cdv A outer s H vs Q E hr hsp
 exact ⟨t,h.nox,q⟩
theorem Fun.binds {x qual:Str} {st:Stmt} {f:Addr} {fd:FuncData} {ps:List Str} (F:Fun K x qual st f fd)
  (h:∀(kV doc pm:Value) (an:Option Addr) (cdv ct:Value) (us:List Value),us.length=ps.length->bindArgs (PySem.W.fnOf x qual (Jk st) (Qq st) (Qc st) .none kV doc pm an cdv ct) ⟨us,[]⟩=pure (ps.zip us)):Qcg K fd ps []:=by
 obtain ⟨oc,od,kV,doc,pm,an,cdv,ct,osl,rfl,lk,hcd⟩:=F.ex
 exact .all (h kV doc pm an cdv ct)
theorem Y4 {x qual:Str} {st:Stmt} {f:Addr} {oc:Value} {od an:Option Addr} {osl:Array (Option Value)} {kV doc pm cdv ct:Value} (l:K.lookup f=some ⟨oc,od,.func (PySem.W.fnOf x qual (Jk st) (Qq st) (Qc st) .none kV doc pm an cdv ct),osl⟩)
  (c:PySem.W.codeIn K cdv qual=true) (k:PySem.W.keepIn K (.ref f)=true):Fun K x qual st f (PySem.W.fnOf x qual (Jk st) (Qq st) (Qc st) .none kV doc pm an cdv ct):=⟨⟨oc,od,kV,doc,pm,an,cdv,ct,osl,rfl,l,c⟩,k⟩
end
theorem Qo {A:Around} {k:Nat} (hr:Room k A):A.units+1<cLine:=Nat.lt_of_le_of_lt (Nat.add_le_add_left (by decide:1<=64) _) hr.units
theorem Jo {n:Nat} (h:n<=1000):n<sizeLine:=Nat.lt_of_le_of_lt h (by decide)
section
variable {X:Cx}
theorem Qh4:Vo X (.builtin "len") (λxs H Q=>∃a kvs,xs=[V.ref a]/\H a=some (.dK kvs)/\Q (.int kvs.length) H):=by
 intro pins s σ H xs us Q I r h
 obtain ⟨a,kvs,rfl,ha,q⟩:=h
 obtain ⟨u,rfl,ru⟩:=X2 r
 cases ru
 exact Qtw I (.inl ha) λt s' I'=>⟨.int kvs.length,H,I',⟨t,rfl⟩,q⟩
end
def Same (H H':Hp):Prop:=∀b o,H b=some o->H' b=some o
theorem Same.refl (H:Hp):Same H H:=λ_ _ h=>h
theorem Same.trans {H H1 H2:Hp} (a:Same H H1) (b:Same H1 H2):Same H H2:=λc o h=>b c o (a c o h)
theorem Same.free {H H':Hp} (e:Same H H') {l:Addr} (h:H' l=Option.none):H l=Option.none:=by
 cases q:H l with
 | none=>rfl
 | some o =>
  rw [e l o q] at h
  cases h
section
variable {κ:Type} [DecidableEq κ]
end
end L2
set_option maxHeartbeats 4000000
namespace L2
open PySem PySem.Spec PyProof.Rows
theorem Vk {env:Env}:∀(names:List (Str × NameKind)) (acc:List (Str × Addr)),
  (∀x∈names,x.2=.free->∃c,env.cells.lookup x.1=some c)->(∀y c,acc.lookup y=some c->env.cells.lookup y=some c) ->
  ∃cl:List (Str × Addr),(forIn names acc (λ(x:Str × NameKind) (cs:List (Str × Addr)) =>
    if (x.2 == NameKind.free)=true then do
     let c ← cellOf env x.1
     pure (ForInStep.yield ((x.1,c)::cs))
    else pure (ForInStep.yield cs)):Sem (List (Str × Addr)))=pure cl /\
   (∀y c,cl.lookup y=some c->env.cells.lookup y=some c)/\(∀y,(acc.lookup y).isSome=true->(cl.lookup y).isSome=true) /\
   ∀x∈names,x.2=.free->(cl.lookup x.1).isSome=true
 | [],acc,_,ha=>⟨acc,by rw [List.forIn_nil],ha,λ_ h=>h,λ_ h=>nomatch h⟩
 | (n,k)::r,acc,hn,ha=>by
  rw [List.forIn_cons]
  by_cases hk:k=.free
  ·subst hk
   obtain ⟨c,hc⟩:=hn (n,.free) List.mem_cons_self rfl
   have hc':env.cells.lookup n=some c:=hc
   obtain ⟨cl,e,h1,h2,h3⟩:=Vk r ((n,c)::acc) (λx hx=>hn x (List.mem_cons_of_mem _ hx)) (λy c' h=>by
    rw [List.lookup_cons] at h
    cases q:y == n with
    | true=>rw [q] at h;cases h;rw [beq_iff_eq.mp q];exact hc'
    | false=>rw [q] at h;exact ha y c' h)
   refine ⟨cl,?_,h1,λy hy=>h2 y ?_,λx hx hf=>?_⟩
   ·have e0:cellOf env n=pure c:=by unfold cellOf;rw [hc']
    show ((if ((NameKind.free == NameKind.free)=true) then (cellOf env n >>= λc=>pure (ForInStep.yield ((n,c)::acc))) else pure (ForInStep.yield acc)) >>= _)=_
    rw [if_pos (by decide),e0]
    exact e
   ·rw [List.lookup_cons]
    cases q:y == n with
    | true=>rfl
    | false=>exact hy
   ·rcases List.mem_cons.mp hx with rfl | hx
    ·exact h2 n (by simp [List.lookup_cons])
    ·exact h3 x hx hf
  ·obtain ⟨cl,e,h1,h2,h3⟩:=Vk r acc (λx hx=>hn x (List.mem_cons_of_mem _ hx)) ha
   refine ⟨cl,?_,h1,h2,λx hx hf=>?_⟩
   ·show ((if ((k == NameKind.free)=true) then (cellOf env n >>= λc=>pure (ForInStep.yield ((n,c)::acc))) else pure (ForInStep.yield acc)) >>= _)=_
    rw [if_neg (by simpa using hk)]
    exact e
   ·rcases List.mem_cons.mp hx with rfl | hx
    ·exact absurd hf hk
    ·exact h3 x hx hf
theorem Vl {env:Env} {scope:Scope} (h:∀x∈scope.names,x.2=.free->∃c,env.cells.lookup x.1=some c) :
  ∃cl,closureFor scope env=pure cl/\(∀y c,cl.lookup y=some c->env.cells.lookup y=some c)/\∀x∈scope.names,x.2=.free->∃c,cl.lookup x.1=some c:=by
 obtain ⟨cl,e,h1,_,h3⟩:=Vk scope.names [] h (λy c q=>by simp at q)
 refine ⟨cl,?_,h1,λx hx hf=>Option.isSome_iff_exists.mp (h3 x hx hf)⟩
 simp only [closureFor]
 show (forIn scope.names [] _ >>= λr=>pure r)=_
 rw [e]
 rfl
theorem J0 {env:Env} {x:Str}:∀{names:List (Str × NameKind)},names.lookup x=some .free ->
  (names.map λ(n,k)=>if (k == NameKind.free && env.scope.kind == .function && env.kindOf n == some .cell) then (n,NameKind.cell) else (n,k)).lookup x=some .cell \/
  (names.map λ(n,k)=>if (k == NameKind.free && env.scope.kind == .function && env.kindOf n == some .cell) then (n,NameKind.cell) else (n,k)).lookup x=some .free
 | [],h=>by simp at h
 | (n,k)::r,h=>by
  have ih:=@J0 env x r
  show List.lookup x ((if (k == NameKind.free && env.scope.kind == .function && env.kindOf n == some .cell)=true then (n,NameKind.cell) else (n,k))::_)=_\/List.lookup x ((if (k == NameKind.free && env.scope.kind == .function && env.kindOf n == some .cell)=true then (n,NameKind.cell) else (n,k))::_)=_
  cases hx:x == n with
  | true =>
   simp only [List.lookup_cons,hx] at h
   cases h
   by_cases hc:(NameKind.free == NameKind.free && env.scope.kind == .function && env.kindOf n == some .cell)=true
   ·rw [if_pos hc];left;simp only [List.lookup_cons,hx]
   ·rw [if_neg hc];right;simp only [List.lookup_cons,hx]
  | false =>
   simp only [List.lookup_cons,hx] at h
   by_cases hc:(k == NameKind.free && env.scope.kind == .function && env.kindOf n == some .cell)=true
   ·rw [if_pos hc];simp only [List.lookup_cons,hx];exact ih h
   ·rw [if_neg hc];simp only [List.lookup_cons,hx];exact ih h
theorem Y3 {env:Env} {x:Str} {q:NameKind}:∀{names:List (Str × NameKind)},(∀y∈names,y.2 ≠ .cell)->q=.cell\/q=.free ->
  (names.map λ(n,k)=>if (k == NameKind.free && env.scope.kind == .function && env.kindOf n == some .cell) then (n,NameKind.cell) else (n,k)).lookup x=some q->(x,NameKind.free)∈names
 | [],_,_,h=>by simp at h
 | (n,k)::r,hn,hq,h=>by
  have h:List.lookup x ((if (k == NameKind.free && env.scope.kind == .function && env.kindOf n == some .cell)=true then (n,NameKind.cell) else (n,k))::(r.map λ(n,k)=>if (k == NameKind.free && env.scope.kind == .function && env.kindOf n == some .cell) then (n,NameKind.cell) else (n,k)))=some q:=h
  by_cases hc:(k == NameKind.free && env.scope.kind == .function && env.kindOf n == some .cell)=true
  ·rw [if_pos hc] at h
   cases hx:x == n with
   | true =>
    have hk:k=.free:=by
     cases k <;> first | rfl | (simp at hc)
    rw [beq_iff_eq.mp hx,hk]
    exact List.mem_cons_self
   | false =>
    simp only [List.lookup_cons,hx] at h
    exact List.mem_cons_of_mem _ (Y3 (λy hy=>hn y (List.mem_cons_of_mem _ hy)) hq h)
  ·rw [if_neg hc] at h
   cases hx:x == n with
   | true =>
    simp only [List.lookup_cons,hx] at h
    have hk:k=q:=Option.some.inj h
    have hk2:k=.free:=by
     rcases hq with rfl | rfl
     ·exact absurd hk (hn (n,k) List.mem_cons_self)
     ·exact hk
    rw [beq_iff_eq.mp hx,hk2]
    exact List.mem_cons_self
   | false =>
    simp only [List.lookup_cons,hx] at h
    exact List.mem_cons_of_mem _ (Y3 (λy hy=>hn y (List.mem_cons_of_mem _ hy)) hq h)
def J8 (X:Cx) (scope:Scope) (cl:List (Str × Addr)) (C:Addr) (N:List Str) (s₀:Shared) (H₀:Hp) (fp:List Addr):Cx :=
 { X with N:=N,s₀:=s₀,H₀:=H₀,env:=compEnvC scope cl C X.env,outer:=X.stack,stack:=X.stack,ex:=fp,fn:=λ_=>false,pn:=[],xe:=λ_ _=>False }
structure BlkScope (env:Env) (scope:Scope) (x:Str):Prop where
 kind:scope.kind=.function
 cells:∀y∈scope.names,y.2 ≠ .cell
 names:∀y∈scope.names,y.2=.local->scope.names.lookup y.1=some .local
 lx:scope.names.lookup x=some .local
 free:∀y∈scope.names,y.2=.free->env.kindOf y.1=some .cell\/env.kindOf y.1=some .free
def bN (N:List Str) (x:Str) (ix:List Nat):List Str:=x::ix.map λi=>N.getD i Str.empty
def bS (σ:St) (o:Option V) (ix:List Nat):St:=o::ix.map λi=>(σ[i]?).getD none
def PIfs (X:Cx) (ifs:List Expr) (tt:TT):Prop :=
 ∀(pins:List (Addr × Obj)) (s:Shared) (σ:St) (H:Hp) (Q:Bool->Hp->Prop),Inv X pins σ H s->tt σ H Q ->
  wpAny (model X.prog X.w) X.A (forIn ifs true λc r=>if r=true then do let ok ← isTrue c X.env (eval c X.env);pure (ForInStep.yield ok) else pure (ForInStep.yield r)) (TP X pins σ Q) X.xe s
def tAll:TT:=λ_ H Q=>Q true H
theorem Qd1 {X:Cx}:PIfs X [] tAll:=by
 intro pins s σ H Q I h
 rw [List.forIn_nil]
 exact wpAny_pure ⟨H,I,h⟩
theorem Qi3 {X:Cx} {c:Expr} {tt:TT} (h:PT X c tt):PIfs X [c] tt:=by
 intro pins s σ H Q I hw
 rw [List.forIn_cons]
 refine wpAny_bind ?_
 rw [if_pos rfl]
 refine wpAny_bind (thn (h pins s σ H _ I hw) λok s1 q=>wpAny_pure ?_)
 show wpAny _ _ (forIn [] ok _) _ _ s1
 rw [List.forIn_nil]
 exact wpAny_pure q
section
variable {X:Cx}
theorem Qls {pins:List (Addr × Obj)} {σ:St} {H:Hp} {s:Shared} {scope:Scope} {cl:List (Str × Addr)} {C:Addr} {N:List Str} {fp:List Addr} {x:Str} (I:Inv X pins σ H s) (B:BlkScope X.env scope x)
  (h1:∀y c,cl.lookup y=some c->X.env.cells.lookup y=some c) (h3:∀y∈scope.names,y.2=.free->∃c,cl.lookup y.1=some c) (hC:s.heap.objs.size<=C) (hf:∀b∈fp,FpOk X pins H b) (hl:∀b∈fp,b<s.heap.objs.size) :
  (J8 X scope cl C N s H fp).Ok where
 mod:=I.ok.mod
 kind:=by show (relabel scope X.env).kind=_;exact B.kind
 glob:=I.ok.glob
 blt:=I.ok.blt
 above:=hC
 inj:=λy z c q r=>I.ok.inj y z c (h1 y c q) (h1 z c r)
 has:=λy hy=>by
  have hy:(relabel scope X.env).names.lookup y=some .cell\/(relabel scope X.env).names.lookup y=some .free:=hy
  have m:(y,NameKind.free)∈scope.names:=by
   rcases hy with q | q
   ·exact Y3 B.cells (.inl rfl) q
   ·exact Y3 B.cells (.inr rfl) q
  exact h3 _ m rfl
 cab:=λy c q=>by cases (show false=true from q)
 hd:=I.ok.hd
 frames:=I.ok.frames
 stk:=.inl rfl
 exf:=λb hb=>⟨Nat.ne_of_lt (Nat.lt_of_lt_of_le (hl b hb) hC),λy c q=>(hf b hb).2.2.2.2.1 y c (h1 y c q)⟩
 bs:=I.bs
 bsz:=Nat.le_trans I.ok.bsz I.sz
 noex:=λb o e hb=>by
  rcases (hf b hb).2.2.2.1 with z | z
  ·exact I.ok.noex b o e z
  ·exact absurd (Nat.lt_of_lt_of_le (Heap.lt_size e) (Nat.le_trans I.ok.bsz z)) (Nat.lt_irrefl _)
 exfs:=λb hb z=>by
  have z':=I.stkSub b z
  rcases List.mem_cons.mp z' with q | q
  ·exact (hf b hb).2.1 q
  ·exact (hf b hb).2.2.1 q
 funs:=I.stack
 frf:=I.stkFree
theorem HOk.add {P:Program} {w:World} {H:Hp} {h:Heap} {a:Addr} {o:HO} (x:HOk P w H h) (hn:H a=none) (new:Jh P w (upd H a o) h a o):HOk P w (upd H a o) h:=λb u e=>by
 by_cases hb:b=a
 ·subst hb;rw [Qi] at e;cases e;exact new
 ·rw [Ql hb] at e
  exact (x b u e).stay (λc v _ q=>q) (λc q=>by rw [Ql (Qx q hn)];exact q) (λc xs q=>by rw [Ql (Qx q hn)];exact q) λc _ _ _ q _=>by rw [Ql (Qx q hn)];exact q
theorem Un.add {fs ex:List Addr} {H H':Hp} {h h':Heap} {a:Addr} {o:HO} (u:Un fs ex H H' h h') (hn:h.get? a=none) (hH:H a=none):Un fs ex H (upd H' a o) h h' where
 keep:=u.keep
 slot:=u.slot
 free:=λb ob e n hx=>by
  have:b≠a:=λz=>by rw [z,hn] at e;cases e
  rw [Ql this];exact u.free b ob e n hx
 there:=u.there
 tups:=λb xs e=>by rw [Ql (Qx e hH)];exact u.tups b xs e
 frzs:=λb ob w e=>by rw [Ql (Qx e hH)];exact u.frzs b ob w e
 tbls:=λb ps e=>by rw [Ql (Qx e hH)];exact u.tbls b ps e
end
end L2
namespace L2
open PySem PySem.Spec PyProof.Rows
section
variable {X:Cx}
theorem Qel {elt iter:Expr} {x:Str} {px pos:Pos} {scope:Scope} {te:TE} {tt:TT} {ifs:List Expr} {ix:List Nat} {pins:List (Addr × Obj)} {s:Shared} {σ:St} {H:Hp} {cl:List (Str × Addr)}
  {J:It} {fp:List Addr} {it:Addr} {tn:Nat->Heap->Prop} {E:Value->Shared->Prop} {RR:Value->Addr->Result->Shared->Prop} {G:List V->Hp->Prop}
  (I:Inv X pins σ H s) (hc:X.calm=true) (B:BlkScope X.env scope x) (h1:∀y c,cl.lookup y=some c->X.env.cells.lookup y=some c) (h3:∀y∈scope.names,y.2=.free->∃c,cl.lookup y.1=some c)
  (hix:∀i∈ix,∃y,X.N[i]? = some y/\scope.names.lookup y=some .free) (hN:(bN X.N x ix).Nodup)
  (T:Turn X.prog X.w X.K (.Name x px) J fp it tn) (st:tn 0 s.heap) (hf:∀b∈fp,FpOk X pins H b)
  (he:∀cl C s₀ H₀ fp,PE (J8 X scope cl C (bN X.N x ix) s₀ H₀ fp) elt te)
  (hi:∀cl C s₀ H₀ fp,PIfs (J8 X scope cl C (bN X.N x ix) s₀ H₀ fp) ifs tt)
  (W:Nat->Nat->List V->Hp->Prop) (m₀:Nat) (w0:W 0 m₀ [] H)
  (turn:∀i m ys H,W i m ys H->(J.stop i H/\ys.length<=sizeLine/\G ys H)\/(J.go i H/\ys.length<sizeLine/\∀v H',J.yld i H v H' ->
    tt (bS σ (some v) ix) H' λb H1=>if b=true then te (bS σ (some v) ix) H1 λy H2=>∃m',m' < m/\W (i+1) m' (ys++[y]) H2 else ∃m',m' < m/\W (i+1) m' ys H1))
  (hRR:∀D C s' ys H',Inv X pins σ (upd H' D (.lst ys)) s'->H' D=none->H' C=none->(∃m,s'.heap.Ns C m)->s.heap.objs.size<=C->D≠C->G ys H'->RR (.ref D) C (.ok .next) s') :
  wpAny (model X.prog X.w) X.A (newList []) (λacc s₃=>wpAny (model X.prog X.w) X.A (newFunctionEnv scope X.env.globals cl [] X.env.qual none .none (some X.env)) (λcenv s₄ =>
   codeAny (model X.prog X.w) X.A (.compStart (.ListComp elt [⟨.Name x px,iter,ifs,0⟩] scope pos) 0 (.ref it) acc { cenv with scope:=relabel scope X.env }) (RR acc cenv.locals) s₄) E s₃) E s:=by
 have hl:∀b∈fp,b<s.heap.objs.size:=λb hb=>by obtain ⟨o,e,_⟩:=T.obj 0 _ st b hb;exact Heap.lt_size e
 refine wpAny_newObj_type (wpAny_newFunctionEnv B.cells (by intro y hy;simp at hy) (λh₁ hns₁ hsb₁=>?_) B.kind)
 dsimp only at hns₁ hsb₁ ⊢
 generalize hH2:s.heap.push { cls:=.type "list",dict:=none,data:=.seq ([]:List Value).toArray }=H2 at hns₁ hsb₁ ⊢
 have hC:H2.objs.size=s.heap.objs.size+1:=by rw [← hH2,Heap.size_push]
 generalize hD:s.heap.objs.size=D at hC hl hRR ⊢
 generalize hCC:H2.objs.size=C at hC hns₁ hsb₁ ⊢
 have hDC:D≠C:=by omega
 have old:∀b o,s.heap.get? b=some o->h₁.get? b=some o:=λb o e=>hsb₁.extBut b o (Nat.ne_of_lt (by have z:=Heap.lt_size e;rw [hD] at z;exact Nat.lt_of_lt_of_le z (by rw [hC];exact Nat.le_succ _))) (Heap.get?_push_of_some _ (hH2 ▸ Heap.get?_push_of_some _ e))
 have hacc:h₁.get? D=some { cls:=.type "list",data:=.seq ([]:List Value).toArray 0 }:=hsb₁.extBut _ _ hDC (Heap.get?_push_of_some _ (hH2 ▸ (by rw [← hD];exact Heap.get?_push_size _ rfl)))
 have hfr:∀a,D<=a->s.heap.get? a=none:=λa ha=>by
  cases e:s.heap.get? a with
  | none=>rfl
  | some o=>exact absurd (Heap.lt_size e) (by rw [hD];exact Nat.not_lt.mpr ha)
 have hHn:∀a,D<=a->H a=none:=λa ha=>I.hok.fresh (by omega)
 have ok:(J8 X scope cl C (bN X.N x ix) s H fp).Ok:=Qls I B h1 h3 (by omega) hf (by rw [hD];exact hl)
 generalize hK:J8 X scope cl C (bN X.N x ix) s H fp=K at ok
 have kp:K.prog=X.prog:=by rw [← hK];rfl
 have kw:K.w=X.w:=by rw [← hK];rfl
 have kK:K.K=X.K:=by rw [← hK];rfl
 have kA:K.A=X.A:=by rw [← hK];rfl
 have kc:K.calm=true:=by rw [← hK];exact hc
 have kN:K.N=bN X.N x ix:=by rw [← hK];rfl
 have kenv:K.env=compEnvC scope cl C X.env:=by rw [← hK];rfl
 have kloc:K.env.locals=C:=by rw [← hK];rfl
 have kfs:K.fs=frs X.stack:=by rw [← hK];rfl
 have kex:K.ex=fp:=by rw [← hK];rfl
 have kpn:K.pn=[]:=by rw [← hK];rfl
 have ks:K.s₀=s:=by rw [← hK];rfl
 have kH:K.H₀=H:=by rw [← hK];rfl
 have kx:K.xe=λ_ _=>False:=by rw [← hK];rfl
 have kcl:K.env.cells=cl:=by rw [← hK];rfl
 have cellLt:∀y c,cl.lookup y=some c->c<D:=λy c q=>by obtain ⟨v,z⟩:=I.cell y c (h1 y c q);rw [← hD];exact z.lt
 have stkLt:∀b∈frs X.stack,b<D:=λb hb=>by
  rcases List.mem_cons.mp (I.stkSub b hb) with q | q
  ·rw [q,← hD];exact I.lt
  ·rcases Nat.lt_or_ge b D with z | z
   ·exact z
   ·exact absurd q (I.nofs (by omega))
 -- the state at the block's begin
 have I0:∀tk,Inv K [(D,{ cls:=.type "list",data:=.seq ([]:List Value).toArray 0 })] (bS σ none ix) H { s with heap:=h₁,toks:=tk }:=λtk=>by
  refine ⟨ok,by rw [ks],I.bare,by rw [ks,kH];exact Un.kept old,?_,?_,?_,?_,?_,by rw [kp,kw];exact I.hok.kept old,?_⟩
  ·refine ⟨_,by rw [kloc];exact hns₁,λi y v e1 e2 e3=>?_⟩
   rw [kN] at e1
   cases i with
   | zero =>
    have:(none:Option V)=some v:=by simpa [bS] using e2
    cases this
   | succ i =>
    have e1':(ix.map λi=>X.N.getD i Str.empty)[i]? = some y:=by simpa [bN] using e1
    have e2':(ix.map λi=>(σ[i]?).getD none)[i]? = some (some v):=by simpa [bS] using e2
    rw [List.getElem?_map] at e1' e2'
    cases q:ix[i]? with
    | none=>rw [q] at e1';cases e1'
    | some j =>
     rw [q] at e1' e2'
     obtain ⟨y',a1,a2⟩:=hix j (List.mem_of_getElem? q)
     have a3:X.N.getD j Str.empty=y':=by simp [List.getD,a1]
     have ey:y'=y:=by rw [← a3];exact Option.some.inj e1'
     subst ey
     have es:σ[j]? = some (some v):=by
      have z:(σ[j]?).getD none=some v:=Option.some.inj e2'
      cases w:σ[j]? with
      | none=>rw [w] at z;cases z
      | some o=>rw [w] at z;have z':o=some v:=z;rw [z']
     obtain ⟨m,hn,hlk⟩:=I.loc
     have hk:=B.free (y',.free) (PySem.mem_of_lookup a2) rfl
     have hk:X.env.kindOf y'=some .cell\/X.env.kindOf y'=some .free:=hk
     have vis:Vis X.env.scope y':=hk.elim (λz=>.inr (.inl z)) λz=>.inr (.inr z)
     obtain ⟨u,ru,lk⟩:=hlk j y' v a1 es vis
     refine ⟨u,ru,?_⟩
     rcases lk with ⟨k,_⟩ | ⟨_,c,ec,ce⟩
     ·rcases hk with z | z <;> (rw [k] at z;cases z)
     ·obtain ⟨c',ec'⟩:=h3 (y',.free) (PySem.mem_of_lookup a2) rfl
      have ec':cl.lookup y'=some c':=ec'
      have:c'=c:=Option.some.inj ((h1 y' c' ec').symm.trans ec)
      subst this
      refine .inr ⟨?_,c',by rw [kcl];exact ec',?_⟩
      ·show K.env.scope.names.lookup y'=_\/K.env.scope.names.lookup y'=_
       rw [kenv]
       exact J0 a2
      ·obtain ⟨oc,hoc,r⟩:=ce
       exact ⟨oc,old _ _ hoc,r⟩
  ·intro y c q
   rw [kcl] at q
   obtain ⟨v,oc,hoc,r⟩:=I.cell y c (h1 y c q)
   exact ⟨v,oc,old _ _ hoc,r⟩
  ·rw [kloc];exact hHn _ (by omega)
  ·intro y c q
   rw [kcl] at q
   exact I.freeC y c (h1 y c q)
  ·intro p hp
   rw [kpn] at hp
   have e:p=(D,{ cls:=.type "list",data:=.seq ([]:List Value).toArray 0 }):=by simpa using hp
   subst e
   refine ⟨hacc,hHn _ (Nat.le_refl _),by rw [kloc];exact hDC,?_,λv z=>?_⟩
   ·rw [kfs];intro z;exact absurd (stkLt D z) (Nat.lt_irrefl _)
   ·have z':Data.seq _ _=Data.cell v:=z
    cases z'
  ·rw [kN];simp [bS,bN]
 have stat:∀{H':Hp} {ob:Obj},(∀b∈fp,H' b=none)->∀b∈fp,FpOk K [(D,ob)] H' b:=λ{H' ob} hn b hb=>by
  refine ⟨hn b hb,?_,?_,.inl (by rw [kex];exact hb),?_,?_⟩
  ·rw [kloc];exact Nat.ne_of_lt (Nat.lt_of_lt_of_le (hl b hb) (by rw [hC];exact Nat.le_succ _))
  ·rw [kfs];intro z
   rcases List.mem_cons.mp (I.stkSub b z) with q | q
   ·exact (hf b hb).2.1 q
   ·exact (hf b hb).2.2.1 q
  ·intro y c q;rw [kcl] at q;exact (hf b hb).2.2.2.2.1 y c (h1 y c q)
  ·intro p hp;rw [kpn] at hp
   have e:p=(D,ob):=by simpa using hp
   subst e
   exact Nat.ne_of_gt (hl b hb)
 have st₁:tn 0 h₁:=T.keep _ _ _ st λb hb o e=>old b o e
 have loop:∀tk,codeAny (model X.prog X.w) X.A (.compLoop (.ListComp elt [⟨.Name x px,iter,ifs,0⟩] scope pos) 0 (.ref it) (.ref D) (compEnvC scope cl C X.env)) (RR (.ref D) C) { s with heap:=h₁,toks:=tk }:=by
  intro tk
  refine codeAny_compLoop_tests (λn s'=>∃i o H' ys its c,Inv K [(D,{ cls:=.type "list",data:=.seq (its:List Value).toArray c })] (bS σ o ix) H' s'/\Vals ys its/\tn i s'.heap/\(∀b∈fp,H' b=none)/\W i n ys H') ?_ m₀
   ⟨0,none,H,[],[],0,I0 tk,.nil,st₁,λb hb=>(hf b hb).1,w0⟩
  rintro n s1 ⟨i,o,H1,ys,its,c,I1,rv,t1,f1,w1⟩
  rcases turn i n ys H1 w1 with ⟨stop,hz,g⟩ | ⟨go,hz,step⟩
  ·have dn:=T.done K kp kw kK kc i _ s1 _ H1 (notedBy (model X.prog X.w) X.A (compEnvC scope cl C X.env) λe s'=>RR (.ref D) C (.error e) s') I1 (stat f1) t1 stop
   rw [kA] at dn
   refine thn dn λr s2 ⟨hr,I2⟩=>?_
   subst hr
   obtain ⟨p1,p2,p3,p4,p5⟩:=I2.pin (D,{ cls:=.type "list",data:=.seq its.toArray c }) (List.mem_append_right _ (List.mem_singleton.mpr rfl))
   have u2:=I2.base
   rw [kfs,kex,kH,ks] at u2
   refine hRR D C s2 ys H1 ?_ p2 (by rw [← kloc];exact I2.free) (by obtain ⟨m,hm,_⟩:=I2.loc;rw [kloc] at hm;exact ⟨m,hm⟩) (by omega) hDC g
   have hk2:HOk X.prog X.w H1 s2.heap:=by have:=I2.hok;rw [kp,kw] at this;exact this
   refine I.call' (ch:=fp) (by have:=I2.os;rw [ks] at this;exact this) (u2.add (hfr D (Nat.le_refl _)) (hHn D (Nat.le_refl _))) (hk2.add p2 ⟨hz,its,c,rv,p1⟩) I2.bare λb hb=>?_
   exact ⟨(hf b hb).2.2.2.1,(hf b hb).2.1,(hf b hb).2.2.2.2.1,(hf b hb).2.2.2.2.2⟩
  ·have im:=T.item K kp kw kK kc i _ s1 _ H1 (notedBy (model X.prog X.w) X.A (compEnvC scope cl C X.env) λe s'=>RR (.ref D) C (.error e) s') I1 (stat f1) t1 go
   rw [kA] at im
   refine thn im λr s2 ⟨u,hr,h2⟩=>?_
   subst hr
   show wpAny _ _ (assign (.Name x px) (compEnvC scope cl C X.env) u) _ _ s2
   have h2':wpAny (model X.prog X.w) X.A (pure ():Sem Unit) _ _ s2:=h2
   suffices q:wpAny (model X.prog X.w) X.A ((pure ():Sem Unit) >>= λ_=>assign (.Name x px) (compEnvC scope cl C X.env) u) _ _ s2 from q
   refine wpAny_bind (thn h2' λ_ s3 ⟨v,H3,I3,r3,y3,t3,f3⟩=>?_)
   have q3:=step v H3 y3
   have I3':=I3.pinned (stat f3) (T.obj _ _ t3)
   rw [← kenv]
   refine wpAny_assign_Name (X5 I3' (i:=0) (x:=x) (by rw [kN];exact hN) (by rw [kN];rfl) (.inl (by rw [kenv];exact lookup_relabel_local B.lx)) r3 (λs4 I4=>?_) (.inr (by rw [kenv];exact lookup_relabel_local B.lx)))
   have I4:Inv K ([(D,{ cls:=.type "list",data:=.seq its.toArray c })]++Gj fp s3.heap) (bS σ (some v) ix) H3 s4:=I4
   have hi':=hi cl C s H fp
   rw [hK] at hi'
   have hiv:=hi' _ s4 _ H3 _ I4 q3
   rw [kx,kp,kw,kA] at hiv
   refine wpAny_mono hiv (λok s5 ⟨H5,I5,q5⟩=>?_) λ_ _ z=>z.elim
   have back:∀{H7:Hp} {s7:Shared} {o7:Option V},Inv K ([(D,{ cls:=.type "list",data:=.seq its.toArray c })]++Gj fp s3.heap) (bS σ o7 ix) H7 s7->tn (i+1) s7.heap/\∀b∈fp,H7 b=none:=λ{H7 s7 o7} I7=>by
    refine ⟨T.keep _ _ _ t3 λb hb o e=>(I7.pin (b,o) (List.mem_append_right _ (List.mem_append_right _ (Yp hb e)))).1,λb hb=>?_⟩
    obtain ⟨ob,e,d⟩:=T.obj _ _ t3 b hb
    exact (I7.pin (b,ob) (List.mem_append_right _ (List.mem_append_right _ (Yp hb e)))).2.1
   cases ok with
   | false =>
    rw [if_neg Bool.false_ne_true]
    have q5:∃m',m' < n/\W (i+1) m' ys H5:=q5
    obtain ⟨m',hm,w5⟩:=q5
    obtain ⟨b1,b2⟩:=back I5
    exact ⟨m',hm,i+1,some v,H5,ys,its,c,I5.unpinned,rv,b1,b2,w5⟩
   | true =>
    rw [if_pos rfl]
    have q5:te (bS σ (some v) ix) H5 λy H2=>∃m',m' < n/\W (i+1) m' (ys++[y]) H2:=q5
    have he':=he cl C s H fp
    rw [hK] at he'
    have hev:=he' _ s5 _ H5 _ I5 q5
    rw [kx,kp,kw,kA] at hev
    refine wpAny_mono hev (λy s6 ⟨yv,H6,I6,r6,m',hm,w6⟩=>?_) λ_ _ z=>z.elim
    obtain ⟨b1,b2⟩:=back I6
    have I6':=I6.unpinned
    obtain ⟨p1,p2,p3,p4,p5⟩:=I6'.pin (D,{ cls:=.type "list",data:=.seq its.toArray c }) (List.mem_append_right _ (List.mem_singleton.mpr rfl))
    have hlen:=rv.length
    refine call_meets F.slot_list_append ⟨_,p1,rfl⟩ F.entry_list_append (F.args_list_append_2 _ _) (PySem.list_append D its.toArray c y (by rw [List.size_toArray];omega)) ⟨p1,?_⟩
    have ea:its.toArray.push y=(its++[y]).toArray:=by simp
    obtain ⟨c',q⟩:∃c',(s6.heap.update D (Obj.mapSeq (·.push y))).get? D=some { cls:=.type "list",data:=.seq (its++[y]).toArray c' }:=⟨_,by rw [← ea];exact PySem.IsL.update p1 (·.push y)⟩
    refine ⟨m',hm,i+1,some v,H6,ys++[yv],its++[y],c',?_,rv.append (.cons r6 .nil),T.keep _ _ _ b1 λb hb o e=>?_,b2,w6⟩
    ·have Id:Inv K [] (bS σ (some v) ix) H6 s6:=I6'.pins_of λp hp=>by simp at hp
     have It:Inv K [] (bS σ (some v) ix) H6 { s6 with heap:=s6.heap.update D (Obj.mapSeq (·.push y)) }:=Id.turned (t':=s6.toks) (it:=D) (λb o hb e=>(Heap.get?_update_other _ _ (Ne.symm hb)).trans e) p2 p3
      (.inr (by rw [ks];omega)) (λy' c' e=>by rw [kcl] at e;exact Nat.ne_of_lt (cellLt y' c' e)) (λp hp=>by rw [kpn] at hp;simp at hp)
     refine It.pins_of λp hp=>?_
     obtain rfl:p=(D,{ cls:=.type "list",data:=.seq (its++[y]).toArray c' }):=by simpa using hp
     refine ⟨q,p2,p3,p4,λv z=>?_⟩
     have z':Data.seq _ _=Data.cell v:=z
     cases z'
    ·exact (Heap.get?_update_other _ _ (Nat.ne_of_gt (hl b hb))).trans e
 have selfs:wpAny (model X.prog X.w) X.A (pyIter (.ref it)) (λit' s'=>codeAny (model X.prog X.w) X.A (.compLoop (.ListComp elt [⟨.Name x px,iter,ifs,0⟩] scope pos) 0 it' (.ref D) (compEnvC scope cl C X.env)) (RR (.ref D) C) s')
   (notedBy (model X.prog X.w) X.A (compEnvC scope cl C X.env) λe s'=>RR (.ref D) C (.error e) s') { s with heap:=h₁,toks:=s.toks+([]:List (Str × Value)).length }:=T.self X.A 0 _ _ _ st₁ (loop _)
 exact codeAny_compStart_list (loop _) selfs
def Qmd (wi:TI) (tt:TT) (te:TE) (ix:List Nat):TE:=λσ H Q=>wi σ H λJ H1=>∃(W:Nat->Nat->List V->Hp->Prop) (m₀:Nat),W 0 m₀ [] H1 /\
 ∀i m ys H,W i m ys H->(J.stop i H/\ys.length<=sizeLine/\∀l,H l=none->Q (.ref l) (upd H l (.lst ys)))\/(J.go i H/\ys.length<sizeLine/\∀v H',J.yld i H v H' ->
  tt (bS σ (some v) ix) H' λb H1=>if b=true then te (bS σ (some v) ix) H1 λy H2=>∃m',m' < m/\W (i+1) m' (ys++[y]) H2 else ∃m',m' < m/\W (i+1) m' ys H1)
theorem Qas {scope:Scope} {x:Str} {pins:List (Addr × Obj)} {σ:St} {H:Hp} {s:Shared} (I:Inv X pins σ H s) (B:BlkScope X.env scope x):∀y∈scope.names,y.2=.free->∃c,X.env.cells.lookup y.1=some c :=
 λy hy hf=>I.ok.has y.1 (B.free y hy hf)
theorem Inv.blkGone {pins:List (Addr × Obj)} {σ:St} {H:Hp} {s s₀:Shared} {H₀:Hp} {C:Addr} {h':Heap} {σ₀:St} (I₀:Inv X pins σ₀ H₀ s₀) (I:Inv X pins σ H s) (hC:s₀.heap.objs.size<=C) (hn:H C=none) (hs:Heap.SameBut C s.heap h'):Inv X pins σ H { s with heap:=h' } :=
 I.turned (t':=s.toks) (it:=C) (λb o hb e=>(hs.2 b hb).trans e) hn (Nat.ne_of_gt (Nat.lt_of_lt_of_le I₀.lt hC)) (.inr (Nat.le_trans I₀.sz hC))
  (λx c e=>by obtain ⟨v,z⟩:=I₀.cell x c e;exact Nat.ne_of_lt (Nat.lt_of_lt_of_le z.lt hC)) (λp hp=>Nat.ne_of_lt (Nat.lt_of_lt_of_le (Heap.lt_size (I₀.pin p hp).1) hC))
theorem Qng {elt iter:Expr} {x:Str} {px pos:Pos} {scope:Scope} {te:TE} {tt:TT} {wi:TI} {ifs:List Expr} (ix:List Nat) (hc:X.calm=true) (B:BlkScope X.env scope x)
  (hix:∀i∈ix,∃y,X.N[i]? = some y/\scope.names.lookup y=some .free) (hN:(bN X.N x ix).Nodup) (hi:PI X (.Name x px) iter wi)
  (ht:∀cl C s₀ H₀ fp,PIfs (J8 X scope cl C (bN X.N x ix) s₀ H₀ fp) ifs tt)
  (he:∀cl C s₀ H₀ fp,PE (J8 X scope cl C (bN X.N x ix) s₀ H₀ fp) elt te)
  (hs:∀x,foldedSetIterable iter X.env x=pure x:=by intro _;rfl) :
  PE X (.ListComp elt [⟨.Name x px,iter,ifs,0⟩] scope pos) (Qmd wi tt te ix):=by
 intro pins s σ H Q I h
 obtain ⟨cl,hcl,h1,h3⟩:=Vl (Qas I B)
 rw [eval_ListComp]
 refine wpAny_comprehension_free (use:=none) rfl hs hcl B.kind B.names (thn (hi pins s σ H _ I h) λv s1 h1'=>thn h1' λitv s2 h2=>?_)
 obtain ⟨it,fp,tn,J,H2,e,I2,T,st2,f2,W,m0,w0,turn⟩:=h2
 subst e
 refine Qel (G:=λys H'=>∀l,H' l=none->Q (.ref l) (upd H' l (.lst ys))) I2 hc B h1 h3 hix hN T st2 f2 he ht W m0 w0 turn λD C s' ys H' I' hD hC hm hCs hDC g=>?_
 obtain ⟨m,hm⟩:=hm
 refine ⟨m,hm,λh' hsb=>⟨.ref D,upd H' D (.lst ys),I2.blkGone I' hCs (by rw [Ql (Ne.symm hDC)];exact hC) hsb,rfl,g D hD⟩⟩
theorem Qna {elt iter:Expr} {x y:Str} {px py pos spos:Pos} {scope:Scope} {te:TE} {tt:TT} {wi:TI} {ifs:List Expr} {j:Nat} (ix:List Nat) (hc:X.calm=true) (B:BlkScope X.env scope x)
  (hNd:X.N.Nodup) (hj:X.N[j]? = some y) (hy:Loc X.env.scope y)
  (hsw:swapsWith (.ListComp elt [⟨.Name x px,iter,ifs,0⟩] scope pos) (some (.Name y py)) spos.line X.env=pure true)
  (hix:∀i∈ix,∃y,X.N[i]? = some y/\scope.names.lookup y=some .free) (hN:(bN X.N x ix).Nodup) (hi:PI X (.Name x px) iter wi)
  (ht:∀cl C s₀ H₀ fp,PIfs (J8 X scope cl C (bN X.N x ix) s₀ H₀ fp) ifs tt)
  (he:∀cl C s₀ H₀ fp,PE (J8 X scope cl C (bN X.N x ix) s₀ H₀ fp) elt te)
  (hf:X.fn y=true\/X.env.scope.names.lookup y=some .local:=by first | exact .inl rfl | exact .inr rfl | assumption)
  (hs:∀x,foldedSetIterable iter X.env x=pure x:=by intro _;rfl) :
  PS X (.Assign [.Name y py] (.ListComp elt [⟨.Name x px,iter,ifs,0⟩] scope pos) spos) (tAsg (Qmd wi tt te ix) (Qc0 j)):=by
 intro pins s σ H D0 I h
 obtain ⟨cl,hcl,h1,h3⟩:=Vl (Qas I B)
 rw [exec_Assign_Name_used _ _ _ _ hsw]
 refine wpAny_bind (wpAny_standAt (wpAny_bind ?_))
 show wpAny _ X.A (do let _ ← comprehension (.ListComp elt [⟨.Name x px,iter,ifs,0⟩] scope pos) scope X.env _ (newList []) false (eval iter X.env) (some (assign (.Name y py) X.env))) _ _ s
 refine wpAny_bind (wpAny_mono (wpAny_comprehension_free (use:=some (assign (.Name y py) X.env)) (Q:=λ_ s'=>SP X pins D0 .next s') rfl hs hcl B.kind B.names
  (thn (hi pins s σ H _ I h) λv s1 h1'=>thn h1' λitv s2 h2=>?_)) (λ_ s' hq=>wpAny_pure (wpAny_pure hq)) λ_ _ e=>e)
 obtain ⟨it,fp,tn,J,H2,e,I2,T,st2,f2,W,m0,w0,turn⟩:=h2
 subst e
 refine Qel (G:=λys H'=>∀l,H' l=none->Qc0 j (.ref l) σ (upd H' l (.lst ys)) D0.nx) I2 hc B h1 h3 hix hN T st2 f2 he ht W m0 w0 turn λD C s' ys H' I' hD hC hm hCs hDC g=>?_
 obtain ⟨m,hm⟩:=hm
 have hCn:upd H' D (.lst ys) C=none:=by rw [Ql (Ne.symm hDC)];exact hC
 show wpAny _ _ (assign (.Name y py) X.env (.ref D)) _ _ s'
 refine wpAny_assign_Name (Qa8 I' hNd hj hy (show RelV (.ref D) (.ref D) from rfl) (λs3 I3 ⟨a,hsa,ha⟩=>?_) hf)
 have hCa:C≠a:=by
  rcases ha with z | z
  ·rw [z];exact Nat.ne_of_gt (Nat.lt_of_lt_of_le I2.lt hCs)
  ·obtain ⟨v,q⟩:=I2.cell y a z;exact Nat.ne_of_gt (Nat.lt_of_lt_of_le q.lt hCs)
 exact ⟨m,hm.sameBut hsa hCa,λh' hsb=>⟨_,_,I2.blkGone I3 hCs hCn hsb,g D hD⟩⟩
end
end L2
namespace L2
open PySem PySem.Spec PyProof.Rows
section
variable {X:Cx}
theorem Inv.turnNew {pins:List (Addr × Obj)} {σ:St} {H:Hp} {s:Shared} {ch:List Addr} {T:Addr} {o:HO} {h':Heap} {t':Nat} (I:Inv X pins σ H s) (hT:s.heap.objs.size<=T)
  (k:∀b u,b∉ch->s.heap.get? b=some u->h'.get? b=some u) (hch:∀b∈ch,FpOk X pins H b) (new:Jh X.prog X.w (upd H T o) h' T o):Inv X pins σ (upd H T o) { s with heap:=h',toks:=t' }:=by
 have hn:H T=none:=I.hok.fresh hT
 have hg:s.heap.get? T=none:=by
  cases e:s.heap.get? T with
  | none=>rfl
  | some u=>exact absurd (Heap.lt_size e) (Nat.not_lt.mpr hT)
 have u:Un (frs X.stack) ch H H s.heap h':=⟨λb q e _ _ hx=>k b q hx e,λb q e _ _ hx=>⟨q.slots,k b q hx e⟩,λb q e n _=>n,λb q e hx=>⟨q,k b q hx e⟩,λ_ _ e=>e,λ_ _ _ e=>e,λb ps e=>⟨#[],by rw [Array.append_empty];exact e⟩⟩
 have hok:HOk X.prog X.w H h':=λb q e=>(I.hok b q e).stay (λc v hc z=>k c v (λm=>by
  have q1:=(hch c m).1
  rcases hc with rfl | hc
  ·rw [q1] at e;cases e
  ·rw [q1] at hc;cases hc) z) (λ_ z=>z) λ_ _ z=>z
 exact I.call' (s':={ s with heap:=h',toks:=t' }) rfl (u.add hg hn) (hok.add hn new) I.bare λb hb=>⟨(hch b hb).2.2.2.1,(hch b hb).2.1,(hch b hb).2.2.2.2.1,(hch b hb).2.2.2.2.2⟩
theorem Inv.turnAll {pins:List (Addr × Obj)} {σ:St} {H:Hp} {s:Shared} {ch:List Addr} {h':Heap} {t':Nat} (I:Inv X pins σ H s)
  (k:∀b u,b∉ch->s.heap.get? b=some u->h'.get? b=some u) (hch:∀b∈ch,FpOk X pins H b):Inv X pins σ H { s with heap:=h',toks:=t' }:=by
 have u:Un (frs X.stack) ch H H s.heap h':=⟨λb q e _ _ hx=>k b q hx e,λb q e _ _ hx=>⟨q.slots,k b q hx e⟩,λb q e n _=>n,λb q e hx=>⟨q,k b q hx e⟩,λ_ _ e=>e,λ_ _ _ e=>e,λb ps e=>⟨#[],by rw [Array.append_empty];exact e⟩⟩
 have hok:HOk X.prog X.w H h':=λb q e=>(I.hok b q e).stay (λc v hc z=>k c v (λm=>by
  have q1:=(hch c m).1
  rcases hc with rfl | hc
  ·rw [q1] at e;cases e
  ·rw [q1] at hc;cases hc) z) (λ_ z=>z) λ_ _ z=>z
 exact I.call' (s':={ s with heap:=h',toks:=t' }) rfl u hok I.bare λb hb=>⟨(hch b hb).2.2.2.1,(hch b hb).2.1,(hch b hb).2.2.2.2.1,(hch b hb).2.2.2.2.2⟩
end
section
variable {prog:Program} {w:World} {A:Around} {E:Value->Shared->Prop} {s:Shared}
theorem Ql7 {it t:Addr} {i:Nat} {items:Array Value} {x:Value} {Q:Value->Shared->Prop} (hit:s.heap.IsTupleIter it t i) (ht:s.heap.IsTuple t items) (hx:items[i]? = some x)
  (hQ:∀h',h'.IsTupleIter it t (i+1)->Heap.SameBut it s.heap h'->Q x { s with heap:=h' }):wpAny (model prog w) A (Builtin.SmallTypes.nextOf (.ref it)) Q E s:=by
 obtain ⟨o,ho,hc,hd⟩:=id hit
 obtain ⟨ol,hol,_,nl,hdl⟩:=ht
 unfold Builtin.SmallTypes.nextOf
 refine wpAny_bind (wpAny_callSpecial?_slot (name:=Str.ofString "__next__") hit.typeIs F.slot_tuple_iterator_next (wpAny_call_entry F.slot_tuple_iterator_next hit.typeIs F.entry_tuple_iterator_next ?_ (F.args_tuple_iterator_next_1 _)))
 show wpAny _ _ (field (.ref it) 0 >>= _) _ _ s;refine wpAny_bind (wpAny_field ho hd (x:=.ref t) rfl ?_)
 show wpAny _ _ (if (Value.ref t == Value.none)=true then _ else _) _ _ s;rw [if_neg (show ¬((Value.ref t == Value.none)=true) from Bool.false_ne_true)]
 show wpAny _ _ (field (.ref it) 1 >>= _) _ _ s;refine wpAny_bind (wpAny_field ho hd (x:=.int i 0) rfl ?_)
 show wpAny _ _ (seqItems? (.ref t) >>= _) _ _ s;refine wpAny_bind (wpAny_seqItems hol hdl ?_)
 simp only [Int.toNat_natCast,hx]
 refine wpAny_bind (wpAny_setField ho hd (by simp) (wpAny_pure ⟨x,rfl,wpAny_pure (hQ _ ⟨_,Heap.get?_update_self _ ho (Obj.isFreed_of_fields (Obj.data_mapFields hd _)),(Obj.cls_mapFields ..).trans hc,by rw [Obj.data_mapFields hd];simp [rawInt]⟩ (Heap.SameBut.update ..))⟩))
theorem Qkq {it t:Addr} {i:Nat} {items:Array Value} {Q:Value->Shared->Prop} (hh:A.handled=none) (hit:s.heap.IsTupleIter it t i) (ht:s.heap.IsTuple t items) (hx:items[i]? = none)
  (hE:∀h' e,Heap.ExtBut it s.heap h'->(∃o,h'.get? e=some o/\o.cls=.type "StopIteration")->E (.ref e) { s with heap:=h' }):wpAny (model prog w) A (Builtin.SmallTypes.nextOf (.ref it)) Q E s:=by
 obtain ⟨o,ho,hc,hd⟩:=id hit
 obtain ⟨ol,hol,_,nl,hdl⟩:=ht
 unfold Builtin.SmallTypes.nextOf
 refine wpAny_bind (wpAny_callSpecial?_slot (name:=Str.ofString "__next__") hit.typeIs F.slot_tuple_iterator_next (wpAny_call_entry F.slot_tuple_iterator_next hit.typeIs F.entry_tuple_iterator_next ?_ (F.args_tuple_iterator_next_1 _)))
 show wpAny _ _ (field (.ref it) 0 >>= _) _ _ s;refine wpAny_bind (wpAny_field ho hd (x:=.ref t) rfl ?_)
 show wpAny _ _ (if (Value.ref t == Value.none)=true then _ else _) _ _ s;rw [if_neg (show ¬((Value.ref t == Value.none)=true) from Bool.false_ne_true)]
 show wpAny _ _ (field (.ref it) 1 >>= _) _ _ s;refine wpAny_bind (wpAny_field ho hd (x:=.int i 0) rfl ?_)
 show wpAny _ _ (seqItems? (.ref t) >>= _) _ _ s;refine wpAny_bind (wpAny_seqItems hol hdl ?_)
 simp only [Int.toNat_natCast,hx]
 refine wpAny_bind (wpAny_rule (wpAny_bind (wpAny_setField ho hd (by simp) ?_)))
 show wpAny _ _ (newExc (.type "StopIteration") [] >>= _) _ _ _;refine wpAny_bind ?_
 simp only [newExc,newTuple]
 refine wpAny_bind (wpAny_newObj_type ?_ (by size_fits));refine wpAny_bind (m:=firstArgMember _ _) (wpAny_of_eq (a:=Value.none) (by first | rfl | (simp only [firstArgMember];rfl)) ?_)
 refine wpAny_newObj_type ?_ (by size_fits);simp only [raiseNew]
 refine wpAny_bind (wpAny_handled ?_)
 first | rw [show A.in1.handled=none from hh] | rw [hh]
 refine wpAny_bind (wpAny_pure (wpAny_throw (hE _ _ (((Heap.SameBut.update ..).extBut.push _).push _) ⟨_,Heap.get?_push_size _ rfl,rfl⟩)))
theorem Qjy (hh:A.handled=none) (it t:Addr) (hne:t≠it) (items:Array Value) :
  Draws prog w A it [it,t] items.size (λi v=>items[i]? = some v) (λi h=>h.IsTupleIter it t i/\h.IsTuple t items) where
 live:=λ_ _ st=>let ⟨o,ho,_⟩:=st.1;⟨o,ho⟩
 frame:=λ_ _ _ st hk=>⟨st.1.at λo e=>hk it (by simp) o e,let ⟨o,ho,r⟩:=st.2;⟨o,hk t (by simp) o ho,r⟩⟩
 item:=λi s Q E hi st hQ=>Ql7 st.1 st.2 (x:=items[i]) (by simp [hi]) λh' hit' hs'=>hQ _ h' s.toks (by simp [hi]) ⟨hit',st.2.extBut hs'.extBut hne⟩ hs'
 done:=λs Q E st hE=>Qkq hh st.1 st.2 (by simp) hE
open AutoSeq1 (wpAny_loadPart') in
theorem Qjw (l:Addr) (items:Array Value) (n:Nat) (dct:Option Addr) (sl:Array (Option Value)) :
  Meets (Builtin.«enumerate.__new__» ⟨[.type "enumerate",.ref l],[]⟩) (λ_ R s=>s.heap.get? l=some { cls:=.type "tuple",dict:=dct,data:=.seq items n,slots:=sl } /\
   R (.ok (.ret (.ref (s.heap.push { cls:=.type "tuple_iterator",data:=.fields #[.ref l,.int 0 0] }).objs.size)))
    { s with heap:=(s.heap.push { cls:=.type "tuple_iterator",data:=.fields #[.ref l,.int 0 0] }).push { cls:=.type "enumerate",data:=.fields #[.none,.bool false,.ref s.heap.objs.size,rawInt 0,.none,.none] } }) :=
 .of_wp λprog w A R s h=>by
  obtain ⟨hp,g,d,tk,os⟩:=s;obtain ⟨hl,h⟩:=h
  have hsub:=sub_enumerate
  have hL:Heap.IsTuple (Shared.heap ⟨hp,g,d,tk,os⟩) l items:=⟨_,hl,rfl,n,rfl⟩
  wp_walk using wpAny_loadPart' hl
  refine wpAny_stack_any λst=>wpAny_pure ?_
  split
  ·rename_i c _ _ _ _ _
   cases (c == Value.type "enumerate")
   ·wp_walk using wpAny_loadPart' hl,wpAny_pyIter_tuple hL
    exact ⟨_,rfl,h⟩
   ·wp_walk using wpAny_loadPart' hl,wpAny_pyIter_tuple hL
    exact ⟨_,rfl,h⟩
  ·wp_walk using wpAny_loadPart' hl,wpAny_pyIter_tuple hL
   exact ⟨_,rfl,h⟩
theorem Qh6 {l:Addr} {items:Array Value} {Q:Value->Shared->Prop} (hL:s.heap.IsTuple l items)
  (h:∀h',IsEnum h' (s.heap.objs.size+1) s.heap.objs.size 0 .none->h'.IsTupleIter s.heap.objs.size l 0->h'.objs.size=s.heap.objs.size+2->(∀b o,s.heap.get? b=some o->h'.get? b=some o)->Q (.ref (s.heap.objs.size+1)) { s with heap:=h' }) :
  wpAny (model prog w) A (call (.type "enumerate") [.ref l]) Q E s:=by
 obtain ⟨⟨c,dct,dt,sl⟩,hl,hc,n,hd⟩:=hL
 obtain rfl:c=.type "tuple":=hc
 obtain rfl:dt=.seq items n:=hd
 refine callType_new F.called_enumerate (by decide) (F.typeCall_enumerate_1 _) (F.newCall_enumerate_1 _) (λobj=>F.args_object_init_2 obj _) F.entry_enumerate_new (Qjw l items n dct sl) ⟨hl,?_⟩
 have hz:(s.heap.push { cls:=.type "tuple_iterator",data:=.fields #[.ref l,.int 0 0] }).objs.size=s.heap.objs.size+1:=Heap.size_push ..
 show _/\_
 rw [hz]
 have he:IsEnum ((s.heap.push { cls:=.type "tuple_iterator",data:=.fields #[.ref l,.int 0 0] }).push
   { cls:=.type "enumerate",data:=.fields #[.none,.bool false,.ref s.heap.objs.size,rawInt 0,.none,.none] }) (s.heap.objs.size+1) s.heap.objs.size 0 .none:=by
  have q:=Heap.get?_push_size (s.heap.push { cls:=.type "tuple_iterator",data:=.fields #[.ref l,.int 0 0] }) (o:={ cls:=.type "enumerate",data:=.fields #[.none,.bool false,.ref s.heap.objs.size,rawInt 0,.none,.none] }) rfl
  rw [hz] at q;exact q
 exact ⟨⟨_,he,rfl⟩,h _ he ⟨_,Heap.get?_push_of_some _ (Heap.get?_push_size _ rfl),rfl,rfl⟩ (by rw [Heap.size_push,hz]) λb o x=>Heap.get?_push_of_some _ (Heap.get?_push_of_some _ x)⟩
end
def Ite (K:PySem.W.Frag) (a:Addr):It :=
 ⟨λi H=>∃xs x,SqT K H a xs/\xs[i]? = some x,λi H v H'=>∀xs,SqT K H a xs->∃x p,xs[i]? = some x/\v=.ref p/\H p=none/\H'=upd H p (.tup [.int i,x]),λi H=>∃xs,SqT K H a xs/\xs.length<=i⟩
theorem Qfm {P:Program} {w:World} {K:PySem.W.Frag} {es:List Expr} {kt:Nat} {pt:Pos} (a e it:Addr) (hei:e≠it):Turn P w K (.Tuple es kt pt) (Ite K a) [e,it] e (λi h=>(∃old,IsEnum h e it i old)/\h.IsTupleIter it a i) where
 mem:=by simp
 obj:=λi h st b hb=>by
  obtain ⟨⟨old,h1⟩,o,h2,c,d⟩:=st
  rcases List.mem_cons.mp hb with z | z
  ·subst z;exact ⟨_,h1,λv z=>by have z':Data.fields _=Data.cell v:=z;cases z'⟩
  ·have z':b=it:=by simpa using z
   subst z';exact ⟨o,h2,λv z=>by rw [d] at z;cases z⟩
 keep:=λi h h' st k=>⟨let ⟨old,h1⟩:=st.1;⟨old,k e (by simp) _ h1⟩,st.2.at λo q=>k it (by simp) o q⟩
 item:=by
  intro X hP hw hK hc i pins s σ H E I hf st hg
  subst hP hw hK
  obtain ⟨⟨old,he⟩,hit⟩:=st
  obtain ⟨xs,x,hq,hx⟩:=hg
  obtain ⟨its,rv,p,hz⟩:=I.tuple hq
  have hlen:=rv.length
  have hi:i<its.toArray.size:=by rw [List.size_toArray,← hlen];exact (List.getElem?_eq_some_iff.mp hx).1
  have hai:a≠it:=λz=>by
   obtain ⟨o,h1,h2,_⟩:=p
   obtain ⟨o',h1',h2',_⟩:=hit
   rw [z,h1'] at h1;cases h1;rw [h2'] at h2;exact absurd h2 (by decide)
  have hae:e∉[it,a]:=λz=>by
   rcases List.mem_cons.mp z with q | q
   ·exact hei q
   ·have q':e=a:=by simpa using q
    obtain ⟨o,h1,h2,_⟩:=p
    rw [← q',he] at h1;cases h1;exact absurd h2 (by show ¬(Value.type "enumerate" = Value.type "tuple");decide)
  refine wpAny_pyNext_enum_itemD (Qjy (A:=X.A.in1) (I.ok.hd hc) it a hai its.toArray) he ⟨hit,show s.heap.IsTuple a its.toArray from p⟩ hi hei hae λu h' tk hu ho hst' hT hsz hk=>?_
  refine ⟨_,rfl,wpAny_letOwnedTupleGo_enum ho λh2 he2 hs2=>?_⟩
  obtain ⟨u',hu',ru⟩:=rv.get hx
  have euu:u'=u:=by
   have z:its.toArray[i]? = some u:=hu
   have z2:its[i]? = some u:=by simpa using z
   rw [hu'] at z2;exact Option.some.inj z2
  subst euu
  have hTe:s.heap.objs.size≠e:=Nat.ne_of_gt (Heap.lt_size he)
  have hT2:h2.get? s.heap.objs.size=some { cls:=.type "tuple",data:=.seq #[.int i tk,u'] }:=(hs2.2 _ hTe).trans hT
  have hn:H s.heap.objs.size=none:=I.hok.fresh (Nat.le_refl _)
  refine ⟨.ref s.heap.objs.size,upd H s.heap.objs.size (.tup [.int i,x]),I.turnNew (ch:=[e,it]) (t':=tk+1) (Nat.le_refl _) (λb o hb q=>?_) hf ?_,rfl,λys hy=>?_,⟨⟨_,he2⟩,hst'.1.at λo q=>?_⟩,λb hb=>?_⟩
  ·have h1:b≠e:=λz=>hb (by simp [z])
   have h2':b≠it:=λz=>hb (by simp [z])
   exact (hs2.2 b h1).trans (hk b o h1 h2' q)
  ·exact ⟨by show 2<=sizeLine;decide,[.int i tk,u'],.cons ⟨_,rfl⟩ (.cons ru .nil),⟨_,hT2,rfl,_,rfl⟩⟩
  ·rw [I.tuple_inj hy hq]
   exact ⟨x,_,hx,rfl,hn,rfl⟩
  ·exact (hs2.2 it (Ne.symm hei)).trans q
  ·obtain ⟨o,q,_⟩:∃o,s.heap.get? b=some o/\True:=by
    rcases List.mem_cons.mp hb with z | z
    ·exact ⟨_,z ▸ he,trivial⟩
    ·have z':b=it:=by simpa using z
     obtain ⟨o,q,_⟩:=hit
     exact ⟨o,z' ▸ q,trivial⟩
   rw [Ql (Nat.ne_of_lt (Heap.lt_size q))]
   exact (hf b hb).1
 done:=by
  intro X hP hw hK hc i pins s σ H E I hf st hg
  subst hP hw hK
  obtain ⟨⟨old,he⟩,hit⟩:=st
  obtain ⟨xs,hq,hx⟩:=hg
  obtain ⟨its,rv,p,hz⟩:=I.tuple hq
  have hlen:=rv.length
  have hT:s.TypeIs (.ref e) "enumerate":=⟨_,he,rfl⟩
  unfold pyNext
  refine wpAny_bind (wpAny_attempt (wpAny_callSpecial?_slot (name:=Str.ofString "__next__") hT F.slot_enumerate_next (wpAny_call_entry F.slot_enumerate_next hT F.entry_enumerate_next ?_ (F.args_enumerate_next_1 _))))
  show wpAny _ _ (field (.ref e) 2 >>= _) _ _ _;refine wpAny_bind (wpAny_field he rfl (x:=.ref it) rfl ?_)
  refine wpAny_bind (Qkq (I.ok.hd hc) hit (show s.heap.IsTuple a its.toArray from p) (by simp;omega) λh' x he' hx'=>?_)
  obtain ⟨o,ho,hc⟩:=hx'
  refine wpAny_bind (wpAny_isInstance (T:="StopIteration") (b:=true) ⟨o,ho,hc⟩ isSubtype_stop ?_)
  exact wpAny_pure ⟨rfl,I.turnAll (ch:=[e,it]) (t':=s.toks) (λb u hb q=>he' b u (λz=>hb (by simp [z])) q) hf⟩
 self:=λ_ _ _ _ _ st h=>by
  obtain ⟨⟨old,q⟩,_⟩:=st
  exact wpAny_pyIter_enum q h
section
variable {X:Cx}
def Qtn (K:PySem.W.Frag) (ta:TA):TI:=λσ H R=>ta σ H λvs H1=>∃a,vs=[.ref a]/\(∃xs,SqT K H1 a xs)/\R (Ite K a) H1
theorem Qne {a:Expr} {ta:TA} {p pos:Pos} {es:List Expr} {kt:Nat} {pt:Pos} (hg:Gl X "enumerate") (hm:X.mg "enumerate" = none) (ha:PA X [a] ta) (hs:starEach [a] X.env=[(false,eval a X.env)]:=by rfl) :
  PI X (.Tuple es kt pt) (.Call (.Name "enumerate" p) [a] [] pos) (Qtn X.K ta):=by
 intro pins s σ H R I h
 refine Call_ (Go I hg hm boot_enumerate (PyProof.Rows.callWith_type1 (thn (ha pos pins s σ H _ I h) λus s1 ⟨vs,H1,I1,r1,q1⟩=>?_) hs rfl))
 obtain ⟨x,e,⟨xs,hq⟩,q⟩:=q1
 subst e
 obtain ⟨u,rfl,ru⟩:=X2 r1
 cases ru
 obtain ⟨its,rv,pl,hz⟩:=I1.tuple hq
 refine Qh6 (show s1.heap.IsTuple x its.toArray from pl) λh' he hit hz kp=>?_
 have I2:Inv X pins σ H1 { s1 with heap:=h' }:=I1.kept (t':=s1.toks) kp
 refine wpAny_pyIter_enum he ⟨s1.heap.objs.size+1,[s1.heap.objs.size+1,s1.heap.objs.size],_,_,H1,rfl,I2,Qfm x _ _ (Nat.ne_of_gt (Nat.lt_succ_self _)),⟨⟨_,he⟩,hit⟩,λb hb=>?_,q⟩
 have hb':s1.heap.objs.size<=b:=by
  rcases List.mem_cons.mp hb with z | z
  ·rw [z];exact Nat.le_succ _
  ·have z':b=s1.heap.objs.size:=by simpa using z
   rw [z'];exact Nat.le_refl _
 exact I1.fpOk hb' (I1.hok.fresh hb')
end
end L2
namespace L2
open PySem PySem.Spec PyProof.Rows
section
variable {X:Cx}
end
theorem Qd2 {α β:Type} {F:α->β->Prop}:∀{l₁:List α} {l₂:List β} {i:Nat} {a:α} {b:β},Paired F l₁ l₂->l₁[i]? = some a->l₂[i]? = some b->F a b
 | _,_,_,_,_,.nil,e,_=>by simp at e
 | _,_,0,_,_,.cons r _,e,e'=>by simp at e e';subst e;subst e';exact r
 | _,_,i+1,_,_,.cons _ t,e,e'=>Qd2 (i:=i) t (by simpa using e) (by simpa using e')
theorem Qmk {n:Nat} (h:n<=1000):n<=2 ^ 24:=Nat.le_trans h (by decide)
section
variable {X:Cx}
theorem Qge {a:Expr} {ta:TA} {p pos:Pos} (hg:Gl X "range") (hm:X.mg "range" = none) (ha:PA X [a] ta) (hs:starEach [a] X.env=[(false,eval a X.env)]:=by rfl) :
  PE X (.Call (.Name "range" p) [a] [] pos) (λσ H Q=>ta σ H λvs H1=>∃j:Int,vs=[.int j]/\∀r,H1 r=none->Q (.ref r) (upd H1 r (.rng 0 j))):=by
 intro pins s σ H Q I h
 refine Call_ (Go I hg hm boot_range (PyProof.Rows.callWith_type1 (thn (ha pos pins s σ H _ I h) λus s1 ⟨vs,H1,I1,r1,q1⟩=>?_) hs rfl))
 obtain ⟨j,e,q⟩:=q1
 subst e
 obtain ⟨u,rfl,ru⟩:=X2 r1
 obtain ⟨t,rfl⟩:=ru
 refine call_range_1 ?_
 refine ⟨.ref s1.heap.objs.size,_,I1.laid (o:=.rng 0 j) (λb u e=>Heap.get?_push_of_some _ e) (Nat.le_refl _) ?_,rfl,q _ (I1.hok.fresh (Nat.le_refl _))⟩
 exact ⟨_,_,_,Heap.get?_push_size _ rfl⟩
theorem Qar (hc:X.calm=true):Vo X (.type "list") (λxs H Q=>∃r j,xs=[.ref r]/\H r=some (.rng 0 j)/\0<=j/\j<=1000/\∀l,H l=none->Q (.ref l) (upd H l (.lst ((List.range j.toNat).map λi=>.int (i:Nat))))):=by
 intro pins s σ H xs us Q I r h
 obtain ⟨a,j,rfl,ha,h0,h1,q⟩:=h
 obtain ⟨u,rfl,ru⟩:=X2 r
 cases ru
 obtain ⟨t,u,v,e⟩:=I.hok a _ ha
 refine call_list_range (n:=j.toNat) (I.ok.hd hc) (show IsRange s.heap a 0 j 1 t u v from e) (small_one (by omega) (by omega) (by omega) (by omega)) (by rw [rangeSize_one];split <;> omega) (Qmk (by omega)) λh' tk acc c' kp hl hacc=>?_
 obtain ⟨hsz,hit⟩:=hacc
 have rv:Vals ((List.range j.toNat).map λi=>V.int (i:Nat)) acc.toList:=by
  have gen:∀(n:Nat) (l:List Value),l.length=n->(∀(j:Nat) v,l[j]? = some v->∃t,v=.int (0+(j:Int)*1) t)->Vals ((List.range n).map λi=>V.int (i:Nat)) l:=by
   intro n
   induction n with
   | zero=>intro l hl _;cases l with | nil=>exact .nil | cons=>simp at hl
   | succ n ih =>
    intro l hl hj
    have hne:l≠[]:=by intro z;rw [z] at hl;simp at hl
    have el:l=l.dropLast++[l.getLast hne]:=(List.dropLast_concat_getLast hne).symm
    rw [List.range_succ,List.map_append,el]
    refine Vals.append (ih _ (by rw [List.length_dropLast,hl];rfl) λj v e=>hj j v ?_) (.cons ?_ .nil)
    ·rw [List.getElem?_dropLast] at e
     split at e
     ·exact e
     ·cases e
    ·obtain ⟨t,e⟩:=hj n (l.getLast hne) (by rw [List.getLast_eq_getElem,List.getElem?_eq_getElem (by omega)];congr 1;simp [hl])
     exact ⟨t,by rw [e];congr 1;omega⟩
  refine gen _ _ (by rw [Array.length_toList];exact hsz) λj v e=>hit j v (by simpa using e)
 have hlen:((List.range j.toNat).map λi=>V.int (i:Nat)).length<=sizeLine:=by rw [List.length_map,List.length_range];have:=(by decide:1000<sizeLine);omega
 refine ⟨.ref s.heap.objs.size,_,I.laid (o:=.lst ((List.range j.toNat).map λi=>V.int (i:Nat))) (t':=tk) kp (Nat.le_refl _) ?_,rfl,q _ (I.hok.fresh (Nat.le_refl _))⟩
 exact ⟨hlen,acc.toList,c',rv,by rw [Array.toArray_toList];exact hl⟩
end
end L2
namespace L2
open PySem PySem.Spec PyProof.Rows
open PySem.W (Dat kqdP kqdPs kqdOk)
mutual
inductive DV (H:Hp):V->Dat->Prop
 | non:DV H .non .none
 | int (i:Int):DV H (.int i) (.int i)
 | str (x:Str):DV H (.str x) (.str x)
 | tup {a:Addr} {xs:List V} {ds:List Dat} (e:H a=some (.tup xs)) (r:DVs H xs ds):DV H (.ref a) (.tuple ds)
 | lst {a:Addr} {xs:List V} {ds:List Dat} (e:H a=some (.lst xs)) (r:DVs H xs ds):DV H (.ref a) (.list ds)
inductive DVs (H:Hp):List V->List Dat->Prop
 | nil:DVs H [] []
 | cons {x:V} {d:Dat} {xs:List V} {ds:List Dat} (h:DV H x d) (r:DVs H xs ds):DVs H (x::xs) (d::ds)
end
mutual
theorem DV.reads {P:Program} {w:World} {H:Hp} {h:Heap} (ok:HOk P w H h):∀{x:V} {d:Dat} {u:Value},DV H x d->RelV x u->∃as,Reads h u (kqdP d) as
 | _,_,_,.non,r=>by cases r;exact ⟨_,by rw [kqdP];exact Reads.none⟩
 | _,_,_,.int i,r=>by obtain ⟨t,rfl⟩:=r;exact ⟨_,by rw [kqdP];exact Reads.int i t⟩
 | _,_,_,.str x,r=>by obtain ⟨t,rfl⟩:=r;exact ⟨_,by rw [kqdP];exact Reads.str x t⟩
 | _,_,_,.tup (a:=a) e q,r=>by
  cases r
  obtain ⟨_,its,rv,o,h1,h2,n,h3⟩:=ok a _ e
  obtain ⟨as,z⟩:=DVs.reads ok q rv
  rw [kqdP]
  exact ⟨as,reads_tuple_at h1 h2 h3 (by simpa using z)⟩
 | _,_,_,.lst (a:=a) e q,r=>by
  cases r
  obtain ⟨_,its,n,rv,h1⟩:=ok a _ e
  obtain ⟨as,z⟩:=DVs.reads ok q rv
  rw [kqdP]
  exact ⟨_,reads_list_at h1 rfl rfl (by simpa using z)⟩
theorem DVs.reads {P:Program} {w:World} {H:Hp} {h:Heap} (ok:HOk P w H h):∀{xs:List V} {ds:List Dat} {us:List Value},DVs H xs ds->Vals xs us->∃as,ReadsAll h us (kqdPs ds) as
 | _,_,_,.nil,r=>by cases r;exact ⟨_,by rw [kqdPs];exact ReadsAll.nil⟩
 | _,_,_,.cons p q,r=>by
  cases r with
  | cons r1 r2 =>
   obtain ⟨as,z⟩:=DV.reads ok p r1
   obtain ⟨bs,y⟩:=DVs.reads ok q r2
   rw [kqdPs]
   exact ⟨_,ReadsAll.cons z y⟩
end
theorem Z8 {n:Nat} {d:Dat} (h:kqdOk n d=true) (hn:n<=9):SeqAt.shaped (kqdP d)=true:=by
 have l:=PySem.W.kqd_lay n d h
 unfold SeqAt.shaped
 rw [l.1,Bool.true_and]
 exact decide_eq_true (Nat.le_trans l.2 (Nat.le_trans hn (by decide)))
open Classical in
theorem Qhr {n k:Nat} {d e:Dat} (h:kqdOk n d=true) (h':kqdOk k e=true):PyData.eqv (kqdP d) (kqdP e)=decide (d=e):=by
 have q:=PySem.W.kqd_eqv n d e k h h'
 by_cases hq:d=e
 ·rw [decide_eq_true hq];exact q.mpr hq
 ·rw [decide_eq_false hq];exact Bool.eq_false_iff.mpr λx=>hq (q.mp x)
section
variable {X:Cx}
def rDat (neg:Bool):R2:=λx y H Q=>∃d e n,DV H x d/\DV H y e/\kqdOk n d=true/\kqdOk n e=true/\n<=9/\((d=e->Q (.bl (!neg)) H)/\(d≠e->Q (.bl neg) H))
theorem Qqq (hu:X.A.units+64<cLine):OpR X (compareOp .Eq) (rDat false):=by
 classical
 intro pins s σ H x y v u Q I rx ry h
 obtain ⟨d,e,n,dx,dy,hd,he,hn,q1,q2⟩:=h
 obtain ⟨as,ra⟩:=dx.reads I.hok rx
 obtain ⟨bs,rb⟩:=dy.reads I.hok ry
 refine eq_dataH ra rb (Z8 hd hn) (Z8 he hn) hu ?_
 rw [Qhr hd he]
 by_cases hq:d=e
 ·rw [decide_eq_true hq];exact ⟨.bl true,H,I,rfl,q1 hq⟩
 ·rw [decide_eq_false hq];exact ⟨.bl false,H,I,rfl,q2 hq⟩
theorem Qqm (hu:X.A.units+64<cLine):OpR X (compareOp .NotEq) (rDat true):=by
 classical
 intro pins s σ H x y v u Q I rx ry h
 obtain ⟨d,e,n,dx,dy,hd,he,hn,q1,q2⟩:=h
 obtain ⟨as,ra⟩:=dx.reads I.hok rx
 obtain ⟨bs,rb⟩:=dy.reads I.hok ry
 refine ne_dataH ra rb (Z8 hd hn) (Z8 he hn) hu ?_
 rw [Qhr hd he]
 by_cases hq:d=e
 ·rw [decide_eq_true hq];exact ⟨.bl false,H,I,rfl,q1 hq⟩
 ·rw [decide_eq_false hq];exact ⟨.bl true,H,I,rfl,q2 hq⟩
theorem Qc8:Vo X (.builtin "isinstance") (λxs H Q=>∃x T t b,xs=[x,.ty T]/\TyOf X.K H x (.type t)/\PySem.W.kitOne X.K (.type t) (.type T)=some b/\Q (.bl b) H):=by
 intro pins s σ H xs us Q I r h
 obtain ⟨x,T,t,b,rfl,ty,e,q⟩:=h
 obtain ⟨u,c,rfl,ru,rc⟩:=Qo1 r
 cases (show c=Value.type T from rc)
 exact Qg7 I ru ty e λtk=>⟨.bl b,H,I.tok _,rfl,q⟩
end
end L2
namespace SortT
open PySem PySem.W PyProof.Rows
def runT {α:Type} (f:Nat->Nat->Bool):KasT α->α
 | .ret a=>a
 | .ask i j k=>runT f (k (f i j))
theorem Z1 {α β:Type} (f:Nat->Nat->Bool) (g:α->KasT β):∀t:KasT α,runT f (t.bind g)=runT f (g (runT f t))
 | .ret a=>rfl
 | .ask i j k=>Z1 f g (k (f i j))
structure Ord (f:Nat->Nat->Bool):Prop where
 asym:∀i j,f i j=true->f j i=false
 tr:∀i j k,f j i=false->f k j=false->f k i=false
section
variable {f:Nat->Nat->Bool} (O:Ord f)
def Le (f:Nat->Nat->Bool) (i j:Nat):Prop:=f j i=false
include O in
theorem le_refl (i:Nat):Le f i i:=by
 unfold Le
 cases h:f i i with
 | false=>rfl
 | true=>have:=O.asym i i h;rw [h] at this;cases this
theorem Le.trans {i j k:Nat} (O:Ord f) (h:Le f i j) (h':Le f j k):Le f i k:=O.tr i j k h h'
theorem Le.of {i j:Nat} (O:Ord f) (h:f i j=true):Le f i j:=O.asym i j h
abbrev at_ (p:Array Nat) (i:Nat):Nat:=p.getD i 0
def Up (f:Nat->Nat->Bool) (p:Array Nat) (k:Nat):Prop:=∀a b,a<=b->b<k->Le f (at_ p a) (at_ p b)
def Dn (f:Nat->Nat->Bool) (p:Array Nat) (k:Nat):Prop:=∀a b,a<=b->b<k->Le f (at_ p b) (at_ p a)
theorem Qia {p q:Array Nat} {i j:Nat} (h:p[i]? = q[j]?):at_ p i=at_ q j:=by
 show p.getD i 0=q.getD j 0
 rw [Array.getD_eq_getD_getElem?,Array.getD_eq_getD_getElem?,h]
theorem Xy {p:Array Nat} {i j:Nat} (hj:j<=p.size) (k:Nat):at_ (kas_rev p i j) k=if i<=k/\k<j then at_ p (i+j-1-k) else at_ p k:=by
 have h:=getElem?_mirror_all (xs:=p) (i:=i) hj k
 by_cases hc:i<=k/\k<j
 ·rw [if_pos hc] at h ⊢;exact Qia h
 ·rw [if_neg hc] at h ⊢;exact Qia h
theorem Qlt {p:Array Nat} {src d:Nat} (hs:src<p.size) (hd:d<=src) (k:Nat):at_ (bubble p src d) k=if k=src-d then at_ p src else if src-d<k/\k<=src then at_ p (k-1) else at_ p k:=by
 have h:=getElem?_bubble hs d hd k
 by_cases h1:k=src-d
 ·rw [if_pos h1] at h ⊢;exact Qia h
 ·rw [if_neg h1] at h ⊢
  by_cases h2:src-d<k/\k<=src
  ·rw [if_pos h2] at h ⊢;exact Qia h
  ·rw [if_neg h2] at h ⊢;exact Qia h
theorem Yn (p:Array Nat) (i j:Nat):(kas_rev p i j).Perm p:=mirror_perm _ _ _ _
theorem Qab (p:Array Nat) (i j:Nat):(kas_rev p i j).size=p.size:=mirror_size _ _ _ _
theorem Qlu (O:Ord f) (p:Array Nat):∀(fu n:Nat),1<=n->Up f p n->n<=runT f (kas_asc p fu n)/\runT f (kas_asc p fu n)<=n+fu/\Up f p (runT f (kas_asc p fu n)) /\
  (runT f (kas_asc p fu n)=n+fu\/f (at_ p (runT f (kas_asc p fu n))) (at_ p (runT f (kas_asc p fu n)-1))=true):=by
 intro fu
 induction fu with
 | zero=>intro n h1 hu;exact ⟨Nat.le_refl _,Nat.le_refl _,hu,.inl rfl⟩
 | succ fu ih =>
  intro n h1 hu
  show n<=runT f (if f (at_ p n) (at_ p (n-1))=true then KasT.ret n else kas_asc p fu (n+1))/\runT f (if f (at_ p n) (at_ p (n-1))=true then KasT.ret n else kas_asc p fu (n+1))<=n+(fu+1)/\Up f p (runT f (if f (at_ p n) (at_ p (n-1))=true then KasT.ret n else kas_asc p fu (n+1))) /\
   (runT f (if f (at_ p n) (at_ p (n-1))=true then KasT.ret n else kas_asc p fu (n+1))=n+(fu+1)\/f (at_ p (runT f (if f (at_ p n) (at_ p (n-1))=true then KasT.ret n else kas_asc p fu (n+1)))) (at_ p (runT f (if f (at_ p n) (at_ p (n-1))=true then KasT.ret n else kas_asc p fu (n+1))-1))=true)
  by_cases hc:f (at_ p n) (at_ p (n-1))=true
  ·rw [if_pos hc]
   exact ⟨Nat.le_refl _,Nat.le_add_right _ _,hu,.inr hc⟩
  ·rw [if_neg hc]
   have hc':f (at_ p n) (at_ p (n-1))=false:=by simpa using hc
   have hu':Up f p (n+1):=λa b hab hb=>by
    by_cases hbn:b<n
    ·exact hu a b hab hbn
    ·have eb:b=n:=by omega
     subst eb
     by_cases han:a=b
     ·subst han;exact le_refl O _
     ·exact (hu a (b-1) (by omega) (by omega)).trans O hc'
   obtain ⟨a1,a2,a3,a4⟩:=ih (n+1) (by omega) hu'
   exact ⟨by omega,by omega,a3,by rcases a4 with z | z;exact .inl (by omega);exact .inr z⟩
def Blk (f:Nat->Nat->Bool) (p:Array Nat) (n q:Nat):Prop:=∀a,n-(q+1)<=a->a<n->Le f (at_ p a) (at_ p (n-1))
theorem Qft (O:Ord f) {p:Array Nat} {n q:Nat} (hz:n<=p.size) (hq:q+1<=n) (hd:Dn f p n) (hb:Blk f p n q):Dn f (kas_rev p (n-(q+1)) n) n:=by
 intro a b hab hbn
 rw [Xy hz,Xy hz]
 by_cases h1:n-(q+1)<=b/\b<n
 ·rw [if_pos h1]
  by_cases h2:n-(q+1)<=a/\a<n
  ·rw [if_pos h2]
   exact (hb _ (by omega) (by omega)).trans O (hd _ _ (by omega) (by omega))
  ·rw [if_neg h2]
   exact hd _ _ (by omega) (by omega)
 ·rw [if_neg h1,if_neg (by omega)]
  exact hd _ _ hab hbn
theorem Qfs {p:Array Nat} {n i:Nat} (hz:n<=p.size) {k:Nat} (hk:n<=k):at_ (kas_rev p i n) k=at_ p k:=by rw [Xy hz,if_neg (by omega)]
theorem Qdr (O:Ord f) {p:Array Nat} {n q:Nat} (hz:n<=p.size) (hq:q+1<=n) (hd:Dn f p n) (hb:Blk f p n q):Le f (at_ p (n-1)) (at_ (kas_rev p (n-(q+1)) n) (n-1))/\Le f (at_ (kas_rev p (n-(q+1)) n) (n-1)) (at_ p (n-1)):=by
 rw [Xy hz,if_pos (by omega)]
 exact ⟨hd _ _ (by omega) (by omega),hb _ (by omega) (by omega)⟩
theorem Gw (O:Ord f) {p:Array Nat} {n:Nat} (h1:1<=n) (hd:Dn f p n) (hc:Le f (at_ p n) (at_ p (n-1))):Dn f p (n+1):=λa b hab hb=>by
 by_cases hbn:b<n
 ·exact hd a b hab hbn
 ·have eb:b=n:=by omega
  subst eb
  by_cases han:a=b
  ·subst han;exact le_refl O _
  ·exact hc.trans O (hd a (b-1) (by omega) (by omega))
theorem Qoj (O:Ord f):∀(fu:Nat) (p:Array Nat) (n q:Nat),q+1<=n->n+fu<=p.size->Dn f p n->Blk f p n q ->
  let r:=runT f (kas_desc fu p n q)
  n<=r.2.1/\r.2.1<=n+fu/\r.2.2+1<=r.2.1/\r.1.Perm p/\Dn f r.1 r.2.1/\Blk f r.1 r.2.1 r.2.2:=by
 intro fu
 induction fu with
 | zero=>intro p n q hq hz hd hb;exact ⟨Nat.le_refl _,Nat.le_refl _,hq,.refl _,hd,hb⟩
 | succ fu ih =>
  intro p n q hq hz hd hb
  have e0:runT f (kas_desc (fu+1) p n q)=runT f (if f (at_ p n) (at_ p (n-1))=true then (if q > 0 then kas_desc fu (kas_rev p (n-(q+1)) n) (n+1) 0 else kas_desc fu p (n+1) 0)
   else KasT.ask (at_ p (n-1)) (at_ p n) λd=>if d=true then KasT.ret (p,n,q) else kas_desc fu p (n+1) (q+1)):=rfl
  rw [e0]
  by_cases hc:f (at_ p n) (at_ p (n-1))=true
  ·rw [if_pos hc]
   by_cases hq0:q > 0
   ·rw [if_pos hq0]
    have hd1:=Qft O (by omega) hq hd hb
    have hl:=Qdr O (by omega) hq hd hb
    have hd2:Dn f (kas_rev p (n-(q+1)) n) (n+1):=Gw O (by omega) hd1 (by rw [Qfs (by omega) (Nat.le_refl _)];exact (Le.of O hc).trans O hl.1)
    obtain ⟨a1,a2,a3,a4,a5,a6⟩:=ih (kas_rev p (n-(q+1)) n) (n+1) 0 (by omega) (by rw [Qab];omega) hd2 (λa h1 h2=>by
     have:a=n:=by omega
     subst this;exact le_refl O _)
    exact ⟨by omega,by omega,a3,a4.trans (Yn _ _ _),a5,a6⟩
   ·rw [if_neg hq0]
    obtain ⟨a1,a2,a3,a4,a5,a6⟩:=ih p (n+1) 0 (by omega) (by omega) (Gw O (by omega) hd (Le.of O hc)) (λa h1 h2=>by
     have:a=n:=by omega
     subst this;exact le_refl O _)
    exact ⟨by omega,by omega,a3,a4,a5,a6⟩
  ·rw [if_neg hc]
   have e1:runT f (KasT.ask (at_ p (n-1)) (at_ p n) λd=>if d=true then KasT.ret (p,n,q) else kas_desc fu p (n+1) (q+1))=runT f (if f (at_ p (n-1)) (at_ p n)=true then KasT.ret (p,n,q) else kas_desc fu p (n+1) (q+1)):=rfl
   rw [e1]
   have hc':f (at_ p n) (at_ p (n-1))=false:=by simpa using hc
   by_cases hd0:f (at_ p (n-1)) (at_ p n)=true
   ·rw [if_pos hd0]
    exact ⟨Nat.le_refl _,by show n<=n+(fu+1);omega,hq,.refl _,hd,hb⟩
   ·rw [if_neg hd0]
    have hd':f (at_ p (n-1)) (at_ p n)=false:=by simpa using hd0
    obtain ⟨a1,a2,a3,a4,a5,a6⟩:=ih p (n+1) (q+1) (by omega) (by omega) (Gw O (by omega) hd hd') (λa h1 h2=>by
     by_cases han:a=n
     ·subst han;exact le_refl O _
     ·exact (hb a (by omega) (by omega)).trans O hc')
    exact ⟨by omega,by omega,a3,a4,a5,a6⟩
theorem Qpj {p:Array Nat} {n:Nat} (hz:n<=p.size) (hd:Dn f p n):Up f (kas_rev p 0 n) n:=λa b hab hb=>by
 rw [Xy hz,Xy hz,if_pos (by omega),if_pos (by omega)]
 exact hd _ _ (by omega) (by omega)
theorem Qdm (O:Ord f) {p:Array Nat} {n nrem:Nat} (h1:1<=n) (hn:n<=nrem) (hz:nrem<=p.size) (hd:Dn f p n) :
  let r:=runT f (kas_tail3 n nrem p)
  n<=r.1/\r.1<=nrem/\r.2.Perm p/\Up f r.2 r.1:=by
 have e:runT f (kas_tail3 n nrem p)=(runT f (kas_asc (kas_rev p 0 n) (nrem-n) n),kas_rev p 0 n):=by unfold kas_tail3;rw [Z1];rfl
 rw [e]
 obtain ⟨a1,a2,a3,_⟩:=Qlu O (kas_rev p 0 n) (nrem-n) n h1 (Qpj (by omega) hd)
 exact ⟨a1,by show runT f (kas_asc (kas_rev p 0 n) (nrem-n) n)<=nrem;omega,Yn _ _ _,a3⟩
theorem Gy (O:Ord f) {p:Array Nat} {n nrem:Nat} (h1:1<=n) (hn:n+1<=nrem) (hz:nrem<=p.size) (hd:Dn f p (n+1)) :
  let r:=runT f (kas_descPart n nrem p)
  1<=r.1/\r.1<=nrem/\r.2.Perm p/\Up f r.2 r.1:=by
 unfold kas_descPart
 rw [Z1]
 obtain ⟨a1,a2,a3,a4,a5,a6⟩:=Qoj O (nrem-(n+1)) p (n+1) 0 (by omega) (by omega) hd (λa h1 h2=>by
  have:a=n:=by omega
  subst this;exact le_refl O _)
 generalize runT f (kas_desc (nrem-(n+1)) p (n+1) 0)=r at a1 a2 a3 a4 a5 a6
 obtain ⟨p',m,q⟩:=r
 dsimp only at a1 a2 a3 a4 a5 a6 ⊢
 have hsz:p'.size=p.size:=a4.size_eq
 by_cases hq:q > 0
 ·rw [if_pos hq]
  obtain ⟨b1,b2,b3,b4⟩:=Qdm O (p:=kas_rev p' (m-(q+1)) m) (n:=m) (nrem:=nrem) (by omega) (by omega) (by rw [Qab];omega) (Qft O (by omega) a3 a5 a6)
  exact ⟨by omega,b2,(b3.trans (Yn _ _ _)).trans a4,b4⟩
 ·rw [if_neg hq]
  obtain ⟨b1,b2,b3,b4⟩:=Qdm O (p:=p') (n:=m) (nrem:=nrem) (by omega) (by omega) (by omega) a5
  exact ⟨by omega,b2,b3.trans a4,b4⟩
theorem Qj6 (O:Ord f) {p:Array Nat} {nrem:Nat} (h1:1<=nrem) (hz:nrem<=p.size) :
  let r:=runT f (kas_count nrem p)
  1<=r.1/\r.1<=nrem/\r.2.Perm p/\Up f r.2 r.1:=by
 unfold kas_count
 rw [Z1]
 obtain ⟨a1,a2,a3,a4⟩:=Qlu O p (nrem-1) 1 (Nat.le_refl _) (λa b hab hb=>by
  have ea:a=0:=by omega
  have eb:b=0:=by omega
  rw [ea,eb];exact le_refl O _)
 generalize runT f (kas_asc p (nrem-1) 1)=n at a1 a2 a3 a4
 by_cases e1:(n == nrem)=true
 ·rw [if_pos e1];exact ⟨a1,by show n<=nrem;omega,.refl _,a3⟩
 ·rw [if_neg e1]
  have hne:n≠nrem:=λq=>e1 (by rw [q];exact beq_self_eq_true _)
  have hlt:f (at_ p n) (at_ p (n-1))=true:=by rcases a4 with z | z;omega;exact z
  by_cases e2:n > 1
  ·rw [if_pos e2]
   rw [show runT f (KasT.ask (p.getD 0 0) (p.getD (n-1) 0) λc=>if c=true then KasT.ret (n,p) else kas_descPart n nrem (kas_rev p 0 n))=runT f (if f (at_ p 0) (at_ p (n-1))=true then KasT.ret (n,p) else kas_descPart n nrem (kas_rev p 0 n)) from rfl]
   by_cases hc:f (at_ p 0) (at_ p (n-1))=true
   ·rw [if_pos hc];exact ⟨a1,by show n<=nrem;omega,.refl _,a3⟩
   ·rw [if_neg hc]
    have hc':Le f (at_ p (n-1)) (at_ p 0):=by unfold Le;exact Bool.eq_false_iff.mpr hc
    have hall:Dn f p n:=λa b hab hb=>((a3 b (n-1) (by omega) (by omega)).trans O hc').trans O (a3 0 a (by omega) (by omega))
    have hblk:Blk f p n (n-1):=λa _ h2=>a3 a (n-1) (by omega) (by omega)
    have hd1:Dn f (kas_rev p 0 n) n:=by have:=Qft O (q:=n-1) (by omega) (by omega) hall hblk;rwa [show n-(n-1+1)=0 by omega] at this
    have hl:=Qdr O (q:=n-1) (p:=p) (n:=n) (by omega) (by omega) hall hblk
    rw [show n-(n-1+1)=0 by omega] at hl
    obtain ⟨b1,b2,b3,b4⟩:=Gy O (p:=kas_rev p 0 n) (n:=n) (nrem:=nrem) (by omega) (by omega) (by rw [Qab];omega) (Gw O (by omega) hd1 (by rw [Qfs (by omega) (Nat.le_refl _)];exact (Le.of O hlt).trans O hl.1))
    exact ⟨b1,b2,b3.trans (Yn _ _ _),b4⟩
  ·rw [if_neg e2]
   have en:n=1:=by omega
   subst en
   exact Gy O (by omega) (by omega) hz (Gw O (by omega) (λa b hab hb=>by
    have ea:a=0:=by omega
    have eb:b=0:=by omega
    rw [ea,eb];exact le_refl O _) (Le.of O hlt))
theorem Qi2 (O:Ord f) {p:Array Nat} {k:Nat} (hu:Up f p k):∀(fu l r:Nat),l<=r->r<=k->r-l<=fu->(∀a,a<l->Le f (at_ p a) (at_ p k))->(∀a,r<=a->a<k->Le f (at_ p k) (at_ p a)) ->
  let m:=runT f (kas_place p k fu l r)
  m<=k/\(∀a,a<m->Le f (at_ p a) (at_ p k))/\∀a,m<=a->a<k->Le f (at_ p k) (at_ p a):=by
 intro fu
 induction fu with
 | zero=>intro l r h1 h2 h3 h4 h5;exact ⟨by show l<=k;omega,h4,λa ha=>h5 a (by have:l<=a:=ha;omega)⟩
 | succ fu ih =>
  intro l r h1 h2 h3 h4 h5
  by_cases hlr:l ≥ r
  ·have e:runT f (kas_place p k (fu+1) l r)=l:=by unfold kas_place;rw [if_pos hlr];rfl
   rw [e]
   exact ⟨by omega,h4,λa ha=>h5 a (by omega)⟩
  ·have e:runT f (kas_place p k (fu+1) l r)=runT f (if f (at_ p k) (at_ p ((l+r) / 2))=true then kas_place p k fu l ((l+r) / 2) else kas_place p k fu ((l+r) / 2+1) r):=by
    rw [show kas_place p k (fu+1) l r=if l ≥ r then KasT.ret l else KasT.ask (p.getD k 0) (p.getD ((l+r) / 2) 0) λc=>if c=true then kas_place p k fu l ((l+r) / 2) else kas_place p k fu ((l+r) / 2+1) r from rfl,if_neg hlr]
    rfl
   rw [e]
   by_cases hc:f (at_ p k) (at_ p ((l+r) / 2))=true
   ·rw [if_pos hc]
    exact ih l ((l+r) / 2) (by omega) (by omega) (by omega) h4 λa h6 h7=>(Le.of O hc).trans O (hu _ _ h6 h7)
   ·rw [if_neg hc]
    have hc':Le f (at_ p ((l+r) / 2)) (at_ p k):=by unfold Le;exact Bool.eq_false_iff.mpr hc
    exact ih ((l+r) / 2+1) r (by omega) h2 (by omega) (λa h6=>(hu a ((l+r) / 2) (by omega) (by omega)).trans O hc') h5
theorem Qr2 (O:Ord f):∀(fu:Nat) (p:Array Nat) (k:Nat),k+fu<=p.size->Up f p k ->
  (runT f (kas_bin fu p k)).Perm p/\Up f (runT f (kas_bin fu p k)) (k+fu):=by
 intro fu
 induction fu with
 | zero=>intro p k _ hu;exact ⟨.refl _,hu⟩
 | succ fu ih =>
  intro p k hz hu
  have e:runT f (kas_bin (fu+1) p k)=runT f (kas_bin fu (bubble p k (k-runT f (kas_place p k k 0 k))) (k+1)):=by
   show runT f ((kas_place p k k 0 k).bind λl=>kas_bin fu (bubble p k (k-l)) (k+1))=_
   rw [Z1]
  rw [e]
  obtain ⟨b1,b2,b3⟩:=Qi2 O hu k 0 k (Nat.zero_le _) (Nat.le_refl _) (by omega) (λa h=>absurd h (Nat.not_lt_zero _)) (λa h h'=>absurd h' (Nat.not_lt.mpr h))
  generalize runT f (kas_place p k k 0 k)=m at b1 b2 b3
  have hks:k<p.size:=by omega
  have hu':Up f (bubble p k (k-m)) (k+1):=λa b hab hb=>by
   rw [Qlt hks (by omega),Qlt hks (by omega)]
   have em:k-(k-m)=m:=by omega
   rw [em]
   by_cases ha:a=m
   ·rw [if_pos ha]
    by_cases hb':b=m
    ·rw [if_pos hb'];exact le_refl O _
    ·rw [if_neg hb',if_pos (by omega)]
     exact b3 _ (by omega) (by omega)
   ·rw [if_neg ha]
    by_cases ha2:m<a/\a<=k
    ·rw [if_pos ha2,if_neg (by omega),if_pos (by omega)]
     exact hu _ _ (by omega) (by omega)
    ·rw [if_neg ha2]
     by_cases hb':b=m
     ·rw [if_pos hb'];exact b2 _ (by omega)
     ·rw [if_neg hb']
      by_cases hb2:m<b/\b<=k
      ·rw [if_pos hb2];exact hu _ _ (by omega) (by omega)
      ·rw [if_neg hb2];exact hu _ _ hab (by omega)
  obtain ⟨c1,c2⟩:=ih (bubble p k (k-m)) (k+1) (by rw [bubble_size];omega) hu'
  exact ⟨c1.trans (bubble_perm _ _ _),by rw [show k+(fu+1)=k+1+fu by omega];exact c2⟩
theorem Qmi (O:Ord f) {n:Nat} (h1:1<=n):(runT f (kas_sort n)).toList.Perm (List.range n)/\Up f (runT f (kas_sort n)) n:=by
 unfold kas_sort
 rw [Z1]
 have hsz:(List.toArray (List.range n)).size=n:=by simp
 obtain ⟨a1,a2,a3,a4⟩:=Qj6 O (p:=List.toArray (List.range n)) h1 (by omega)
 generalize runT f (kas_count n (List.toArray (List.range n)))=r at a1 a2 a3 a4
 obtain ⟨m,p⟩:=r
 dsimp only at a1 a2 a3 a4 ⊢
 have hps:p.size=n:=a3.size_eq.trans hsz
 have pl:∀{q:Array Nat},q.Perm p->q.toList.Perm (List.range n):=λh=>by
  have:=Array.perm_iff_toList_perm.mp (h.trans a3)
  simpa using this
 by_cases hm:m<n
 ·rw [if_pos hm]
  obtain ⟨b1,b2⟩:=Qr2 O (n-max m 1) p (max m 1) (by omega) (by rw [show max m 1=m by omega];exact a4)
  exact ⟨pl b1,by rw [show max m 1+(n-max m 1)=n by omega] at b2;exact b2⟩
 ·rw [if_neg hm]
  have hmn:m=n:=by omega
  exact ⟨pl (.refl _),by rw [hmn] at a4;exact a4⟩
end
end SortT
namespace SortT
open PySem PySem.W PyProof.Rows
def AllT {α:Type} (P:Nat->Nat->Prop) (R:α->Prop):KasT α->Prop
 | .ret a=>R a
 | .ask i j k=>P i j/\∀b,AllT P R (k b)
theorem AllT.bind {α β:Type} {P:Nat->Nat->Prop} {R:α->Prop} {S:β->Prop} {g:α->KasT β}:∀{t:KasT α},AllT P R t->(∀a,R a->AllT P S (g a))->AllT P S (t.bind g)
 | .ret a,h,hg=>hg a h
 | .ask i j k,h,hg=>⟨h.1,λb=>AllT.bind (h.2 b) hg⟩
theorem Qfi {α:Type} {f:Nat->Nat->Bool} {cmp:Nat->Nat->(Bool->Shared->Prop)->Shared->Prop} {s:Shared} {P:Nat->Nat->Prop} {R:α->Prop} (hc:∀i j C,P i j->C (f i j) s->cmp i j C s) {Q:α->Shared->Prop} :
  ∀t:KasT α,AllT P R t->Q (runT f t) s->t.kasWp cmp Q s
 | .ret a,_,h=>h
 | .ask i j k,hp,h=>hc i j _ hp.1 (Qfi hc (k (f i j)) (hp.2 _) h)
section
variable {N:Nat}
def Bd (N:Nat) (p:Array Nat):Prop:=0<N/\∀x∈p.toList,x<N
theorem Bd.at {p:Array Nat} (h:Bd N p) (i:Nat):p.getD i 0<N:=by
 rw [Array.getD_eq_getD_getElem?]
 cases e:p[i]? with
 | none=>exact h.1
 | some x=>exact h.2 x (by rw [← Array.getElem?_toList] at e;exact List.mem_of_getElem? e)
theorem Bd.perm {p q:Array Nat} (h:Bd N p) (hp:q.Perm p):Bd N q:=⟨h.1,λx hx=>h.2 x ((Array.perm_iff_toList_perm.mp hp).mem_iff.mp hx)⟩
abbrev LtN (N:Nat):Nat->Nat->Prop:=λi j=>i<N/\j<N
theorem Qib {p:Array Nat} (h:Bd N p):∀fu n,AllT (LtN N) (λ_=>True) (kas_asc p fu n):=by
 intro fu
 induction fu with
 | zero=>intro n;exact trivial
 | succ fu ih =>
  intro n
  refine ⟨⟨h.at _,h.at _⟩,λb=>?_⟩
  cases b with
  | true=>exact trivial
  | false=>exact ih (n+1)
theorem Qj1:∀(fu:Nat) (p:Array Nat) (n q:Nat),Bd N p->AllT (LtN N) (λr=>Bd N r.1) (kas_desc fu p n q):=by
 intro fu
 induction fu with
 | zero=>intro p n q h;exact h
 | succ fu ih =>
  intro p n q h
  refine ⟨⟨h.at _,h.at _⟩,λb=>?_⟩
  cases b with
  | true =>
   show AllT _ _ (if q > 0 then kas_desc fu (kas_rev p (n-(q+1)) n) (n+1) 0 else kas_desc fu p (n+1) 0)
   by_cases hq:q > 0
   ·rw [if_pos hq];exact ih _ _ _ (h.perm (Yn _ _ _))
   ·rw [if_neg hq];exact ih _ _ _ h
  | false =>
   refine ⟨⟨h.at _,h.at _⟩,λd=>?_⟩
   cases d with
   | true=>exact h
   | false=>exact ih _ _ _ h
theorem Qa7 {p:Array Nat} (n nrem:Nat) (h:Bd N p):AllT (LtN N) (λr=>Bd N r.2) (kas_tail3 n nrem p):=by
 unfold kas_tail3
 exact AllT.bind (Qib (h.perm (Yn _ _ _)) _ _) λa _=>h.perm (Yn _ _ _)
theorem Ux {p:Array Nat} (n nrem:Nat) (h:Bd N p):AllT (LtN N) (λr=>Bd N r.2) (kas_descPart n nrem p):=by
 unfold kas_descPart
 refine AllT.bind (Qj1 _ _ _ _ h) λr hr=>?_
 by_cases hq:r.2.2 > 0
 ·rw [if_pos hq];exact Qa7 _ _ (hr.perm (Yn _ _ _))
 ·rw [if_neg hq];exact Qa7 _ _ hr
theorem Qhz {p:Array Nat} (nrem:Nat) (h:Bd N p):AllT (LtN N) (λr=>Bd N r.2) (kas_count nrem p):=by
 unfold kas_count
 refine AllT.bind (Qib h _ _) λn _=>?_
 by_cases e1:(n == nrem)=true
 ·rw [if_pos e1];exact h
 ·rw [if_neg e1]
  by_cases e2:n > 1
  ·rw [if_pos e2]
   refine ⟨⟨h.at _,h.at _⟩,λb=>?_⟩
   cases b with
   | true=>exact h
   | false=>exact Ux _ _ (h.perm (Yn _ _ _))
  ·rw [if_neg e2];exact Ux _ _ h
theorem Qga {p:Array Nat} {k:Nat} (h:Bd N p):∀fu l r,AllT (LtN N) (λ_=>True) (kas_place p k fu l r):=by
 intro fu
 induction fu with
 | zero=>intro l r;exact trivial
 | succ fu ih =>
  intro l r
  rw [show kas_place p k (fu+1) l r=if l ≥ r then KasT.ret l else KasT.ask (p.getD k 0) (p.getD ((l+r) / 2) 0) λc=>if c=true then kas_place p k fu l ((l+r) / 2) else kas_place p k fu ((l+r) / 2+1) r from rfl]
  by_cases hlr:l ≥ r
  ·rw [if_pos hlr];exact trivial
  ·rw [if_neg hlr]
   refine ⟨⟨h.at _,h.at _⟩,λb=>?_⟩
   cases b with
   | true=>exact ih _ _
   | false=>exact ih _ _
theorem Qot:∀(fu:Nat) (p:Array Nat) (k:Nat),Bd N p->AllT (LtN N) (λ_=>True) (kas_bin fu p k):=by
 intro fu
 induction fu with
 | zero=>intro p k h;exact trivial
 | succ fu ih=>intro p k h;exact AllT.bind (Qga h _ _ _) λl _=>ih _ _ (h.perm (bubble_perm _ _ _))
theorem Qiq {n:Nat} (h1:1<=n):AllT (LtN n) (λ_=>True) (kas_sort n):=by
 unfold kas_sort
 refine AllT.bind (Qhz n ⟨h1,λx hx=>by simpa using hx⟩) λr hr=>?_
 by_cases hm:r.1<n
 ·rw [if_pos hm];exact Qot _ _ _ hr
 ·rw [if_neg hm];exact trivial
end
section
variable {prog:Program} {w:World} {A:Around} {E:Value->Shared->Prop} {s:Shared}
end
end SortT
namespace L2
open PySem PySem.Spec PyProof.Rows
theorem Jh.there {P:Program} {w:World} {H:Hp} {h:Heap} {a:Addr} {o:HO} (x:Jh P w H h a o):∃ob,h.get? a=some ob:=by
 cases o with
 | lst xs=>obtain ⟨_,_,_,_,e⟩:=x;exact ⟨_,e⟩
 | tup xs=>obtain ⟨_,_,_,o,e,_⟩:=x;exact ⟨_,e⟩
 | dK kvs=>obtain ⟨_,_,_,_,o,_,_,e,_⟩:=x;exact ⟨_,e⟩
 | dT kvs=>obtain ⟨_,_,_,_,o,_,_,e,_⟩:=x;exact ⟨_,e⟩
 | set S n=>obtain ⟨o,_,_,_,e,_⟩:=x;exact ⟨_,e⟩
 | ins C dx fs=>obtain ⟨_,_,_,e,_⟩:=x;exact ⟨_,e⟩
 | own y=>exact x
 | xd fs=>obtain ⟨_,⟨_,_,_,e,_⟩,_⟩:=x;exact ⟨_,e⟩
 | rng lo hi=>obtain ⟨_,_,_,e⟩:=x;exact ⟨_,e⟩
 | frz ob u=>obtain ⟨e,_⟩:=x;exact ⟨_,e⟩
 | tbl ps=>obtain ⟨_,e,_⟩:=x;exact ⟨_,e⟩
 | met f y=>exact ⟨_,(show h.get? a=some _ from x)⟩
 | ext φ=>obtain ⟨_,e,_⟩:=x;exact e
theorem Qnv {h:Heap} {L:Addr} {m m':Str->Option Value} (a:h.Ns L m) (b:h.Ns L m'):m=m':=by
 obtain ⟨o,es,ep,e,d,_,q⟩:=a
 obtain ⟨o',es',ep',e',d',_,q'⟩:=b
 rw [e] at e';cases e'
 rw [d] at d';cases d'
 funext x
 rw [← q x,← q' x]
section
variable {X:Cx}
theorem Inv.ledgerNew {pins:List (Addr × Obj)} {σ:St} {H:Hp} {s s':Shared} {D:Addr} {o:HO} {m:Str->Option Value} (I:Inv X pins σ H s) (hos:s'.os=s.os) (hg:s'.gens=s.gens) (F:Fr X.base X.env.locals s.heap m) (F':Fr X.base X.env.locals s'.heap m)
  (hk:∀p∈G6 X.base s.heap X.env.locals,s'.heap.get? p.1=some p.2) (hD:s.heap.get? D=none) (new:Jh X.prog X.w (upd H D o) s'.heap D o):Inv X pins σ (upd H D o) s':=by
 have hn:H D=none:=by
  cases e:H D with
  | none=>rfl
  | some u=>obtain ⟨ob,q⟩:=(I.hok D u e).there;rw [hD] at q;cases q
 have kp:∀b u,b≠X.env.locals->s.heap.get? b=some u->s'.heap.get? b=some u:=λb u hb e=>by
  cases q:X.base.get? b with
  | some v=>have:=F.keep b v q;rw [e] at this;cases this;exact F'.keep b _ q
  | none=>exact hk (b,u) (Vg hb q e)
 have hbD:∀b u,s.heap.get? b=some u->b≠D:=λb u e z=>by rw [z,hD] at e;cases e
 have hok:HOk X.prog X.w H s'.heap:=λb q e=>(I.hok b q e).stay (λc v hc z=>kp c v (λy=>by
  rcases hc with rfl | hc
  ·rw [y,I.free] at e;cases e
  ·rw [y,I.free] at hc;cases hc) z) (λ_ z=>z) λ_ _ z=>z
 obtain ⟨h',g',d',t',o'⟩:=s'
 obtain rfl:o'=s.os:=hos
 refine I.step (g':=g') (d':=d') (t':=t') (ch:=[]) (λb hb=>by simp at hb) (λb u hb _ _ e _=>kp b u hb e) (λb u hb _ _ e _=>⟨u.slots,kp b u hb e⟩) (λb u _ e n=>by rw [Ql (hbD b u e)];exact n) (λb u _ e=>?_)
  (λb xs e=>by rw [Ql (Qx e hn)];exact e) (λb ob u e=>by rw [Ql (Qx e hn)];exact e) (λb ps e=>⟨#[],by rw [Ql (Qx e hn),Array.append_empty];exact e⟩) (λm' hm'=>?_) (hok.add hn new) ?_
 ·by_cases hb:b=X.env.locals
  ·obtain ⟨ob,_,_,q,_⟩:=F'.ns;exact ⟨ob,by rw [hb];exact q⟩
  ·exact ⟨u,kp b u hb e⟩
 ·rw [Qnv hm' F.ns];exact F'.ns
 ·have e:g'=s.gens:=hg
  rw [e];exact I.bare
end
end L2
namespace L2
open PySem PySem.Spec PyProof.Rows
end L2
namespace L2
open PySem PySem.Spec PyProof.Rows
section
variable {X:Cx}
end
end L2
namespace HT
open PySem PySem.Spec PyProof.Rows L2
section
variable {prog:Program} {w:World} {A:Around} {E:Value->Shared->Prop} {s:Shared}
theorem Qj9 {t b:Addr} {ws:List Value} {Q:Value->Shared->Prop} (ht:IsTup s.heap t ([]:List Value).toArray) (hb:IsTup s.heap b ws.toArray) (h1:Q (.ref b) s):wpAny (model prog w) A (binaryOp .Add (.ref t) (.ref b)) Q E s:=by
 obtain ⟨⟨cls,dd,data,sl⟩,ho,hc,n,hd⟩:=id ht
 obtain ⟨⟨cls2,dd2,data2,sl2⟩,ho2,hc2,n2,hd2⟩:=id hb
 simp only at hc hd hc2 hd2
 subst hc hd hc2 hd2
 exact concat_meets ⟨_,ho,rfl⟩ ⟨_,ho2,rfl⟩ noFill_tuple_add seq_tuple_add PySem.F.slot_tuple_add PySem.F.entry_tuple_add (PySem.F.args_tuple_add_2 _ _)
   (tuple_addW0 t b ([]:List Value).toArray ws.toArray n n2 dd dd2 sl sl2 rfl) ⟨ho,ho2,h1⟩
theorem Vj {t sl:Addr} {items:Array Value} {vl vu:Value} {lo hi:Option Int} {Q:Value->Shared->Prop} (ht:IsTup s.heap t items) (hs:s.heap.IsSliceOf sl vl vu .none) (pl:IsPart vl lo) (pu:IsPart vu hi)
  (hw:sIx items.size 0 lo=0/\sIx items.size items.size hi=items.size)
  (h:Q (.ref t) s):wpAny (model prog w) A (getItem (.ref t) (.ref sl)) Q E s:=by
 obtain ⟨os,hos,hcs,hds⟩:=id hs
 have hTs:s.TypeIs (.ref sl) "slice":=⟨os,hos,hcs⟩
 unfold getItem
 try with_reducible refine wpAny_holding ?_
 first | refine wpAny_bind (wpAny_pure ?_) | skip
 refine wpAny_bind (wpAny_sequenceKey ht.typeIs (by decide) ?_)
 refine wpAny_bind (wpAny_callSpecial?_slot (name:=Str.ofString "__getitem__") ht.typeIs PyProof.Rows.slot_tuple_getitem
  (wpAny_call_entry PyProof.Rows.slot_tuple_getitem ht.typeIs entry_tuple_getitem ?_ (args_tuple_getitem _ _)))
 show wpAny _ _ (Builtin.Tuple.tupleItemsOf (.ref t) >>= _) _ _ s
 refine wpAny_bind (tupleItemsOf_ ht ?_)
 refine wpAny_bind (wpAny_typeOf hTs ?_)
 rw [if_pos (by decide)]
 refine wpAny_bind (Zm hs pl pu ?_)
 have hyes:(((sIx items.size 0 lo:Nat):Int) == 0 && (1:Int) == 1 && (sIx items.size items.size hi-sIx items.size 0 lo) == items.size)=true:=by
  rw [hw.1,hw.2];simp
 show wpAny _ _ (if (((sIx items.size 0 lo:Nat):Int) == 0 && (1:Int) == 1 && (sIx items.size items.size hi-sIx items.size 0 lo) == items.size)=true then _ else _) _ _ s
 rw [if_pos hyes]
 refine wpAny_bind (wpAny_bind (wpAny_typeOf ht.typeIs (wpAny_pure ?_)))
 rw [if_pos (by decide)]
 refine wpAny_bind (wpAny_rule ?_)
 first
  | exact wpAny_bind (wpAny_pure (wpAny_pure ⟨_,rfl,wpAny_pure h⟩))
  | exact wpAny_pure ⟨_,rfl,wpAny_pure h⟩
  | exact wpAny_bind (wpAny_pure ⟨_,rfl,wpAny_pure h⟩)
end
end HT
namespace L2
open PySem PySem.Spec PyProof.Rows
section
variable {X:Cx}
def Qsy (K:PySem.W.Frag):R2:=λx y H Q=>∃a b ys,x=.ref a/\y=.ref b/\SqT K H a []/\SqT K H b ys/\Q (.ref b) H
theorem Qnp:OpR X (binaryOp .Add) (Qsy X.K):=by
 intro pins s σ H x y v u Q I rx ry h
 obtain ⟨a,b,ys,rfl,rfl,ha,hb,q⟩:=h
 cases rx
 cases ry
 obtain ⟨its,r1,p1,_⟩:=I.tuple ha
 obtain ⟨its2,r2,p2,_⟩:=I.tuple hb
 have:its=[]:=by cases r1;rfl
 subst this
 exact HT.Qj9 p1 p2 ⟨.ref b,H,I,rfl,q⟩
def rSlW (K:PySem.W.Frag):V->Option Int->Option Int->Hp->VK->Prop:=λx lo hi H Q=>∃a xs,x=.ref a/\SqT K H a xs /\
 (HT.sIx xs.length 0 lo=0/\HT.sIx xs.length xs.length hi=xs.length)/\Q (.ref a) H
theorem Qml:SlR X (rSlW X.K):=by
 intro pins s σ H x v vl vu lo hi sl Q I rx hs pl pu h
 obtain ⟨a,xs,rfl,hx,hw,q⟩:=h
 cases rx
 obtain ⟨its,r,ht,hz⟩:=I.tuple hx
 have hlen:its.toArray.size=xs.length:=by rw [List.size_toArray];exact r.length.symm
 refine ⟨"tuple",_,PyProof.Rows.slot_tuple_getitem.lookup,ht.typeIs,?_⟩
 exact HT.Vj ht hs pl pu (by rw [hlen];exact hw) ⟨.ref a,H,I,rfl,q⟩
end
end L2
namespace HT
open PySem PySem.Spec PyProof.Rows L2
section
variable {prog:Program} {w:World} {K:Type} [DecidableEq K] {knd:KeyKind prog w K} {A:Around} {E:Value->Shared->Prop} {s:Shared}
end
section
variable {prog:Program} {w:World} {A:Around} {E:Value->Shared->Prop} {s:Shared}
end
section
variable {prog:Program} {w:World} {K:Type} [DecidableEq K] {knd:KeyKind prog w K} {A:Around} {E:Value->Shared->Prop} {s:Shared}
end
end HT
namespace L2
open PySem PySem.Spec PyProof.Rows
theorem Qkb:bootBuiltins "zip" = some (.type "zip"):=by decide +kernel
section
variable {X:Cx}
end
end L2
namespace L2
open PySem PySem.Spec PyProof.Rows
section
variable {X:Cx}
variable {o e:Expr} {es:List Expr} {to:TE} {t:TA} {name:Str} {apos cpos:Pos} {T id:String} {r:V->List V->Hp->VK->Prop}
def isN (n:Int):Value->Bool
 | .int m _=>m == n
 | _=>false
end
end L2
namespace L2
open PySem PySem.Spec PyProof.Rows
section
variable {prog:Program} {w:World} {A:Around} {R:Result->Shared->Prop} {s:Shared}
theorem Xg {elt target iter:Expr} {ifs:List Expr} {scope:Scope} {pos:Pos} {it acc:Value} {env:Env} (I:Nat->Shared->Prop)
  (turn:∀n s,I n s->wpAny (model prog w) A (pyNext it) (λr s₁=>match r with
   | none=>R (.ok .next) s₁
   | some v=>wpAny (model prog w) A (letOwnedTupleGo target it v) (λ_ s₀=>wpAny (model prog w) A (assign target env v) (λ_ s₂ =>
     wpAny (model prog w) A (forIn ifs true λc r=>if r=true then do let ok ← isTrue c env (eval c env);pure (ForInStep.yield ok) else pure (ForInStep.yield r)) (λok s₃ =>
      if ok=true then wpAny (model prog w) A (eval elt env) (λx s₄ =>
       wpAny (model prog w) A (call (.builtin "list.append") [acc,x]) (λ_ s₅=>∃m,m<n/\I m s₅) (notedBy (model prog w) A env λe s'=>R (.error e) s') s₄) (notedBy (model prog w) A env λe s'=>R (.error e) s') s₃
      else ∃m,m<n/\I m s₃) (notedBy (model prog w) A env λe s'=>R (.error e) s') s₂) (notedBy (model prog w) A env λe s'=>R (.error e) s') s₀) (notedBy (model prog w) A env λe s'=>R (.error e) s') s₁) (notedBy (model prog w) A env λe s'=>R (.error e) s') s)
  (n:Nat) (h:I n s):codeAny (model prog w) A (.compLoop (.ListComp elt [⟨target,iter,ifs,0⟩] scope pos) 0 it acc env) R s:=by
 refine codeAny_loop rfl I (λn s hI=>?_) n h
 show wpAny _ A ((compTurn (.ListComp elt [⟨target,iter,ifs,0⟩] scope pos) 0 it acc env).onRaise (λx=>do noteFrame x env;theTreesLotGoes x)) _ _ s
 refine wpAny_noted ?_
 rw [compTurn_list]
 refine wpAny_bind (wpAny_standAt (wpAny_bind (wpAny_mono (turn n s hI) (λr s₁ h₁=>?_) λ_ _ h'=>h')))
 cases r with
 | none=>exact wpAny_pure h₁
 | some v =>
  refine wpAny_bind (wpAny_mono h₁ (λ_ s₀ h₀=>?_) λ_ _ h'=>h')
  refine wpAny_bind (wpAny_mono h₀ (λ_ s₂ h₂=>wpAny_bind (wpAny_mono h₂ (λok s₃ h₃=>?_) λ_ _ h'=>h')) λ_ _ h'=>h')
  cases ok with
  | false=>exact wpAny_pure ⟨rfl,h₃⟩
  | true =>
   exact wpAny_bind (wpAny_bind (wpAny_mono h₃ (λx s₄ h₄=>wpAny_bind (wpAny_mono h₄ (λ_ s₅ h₅=>wpAny_pure (wpAny_pure ⟨rfl,h₅⟩)) λ_ _ h'=>h')) λ_ _ h'=>h'))
end
def bN2 (N:List Str) (ts:List Str) (ix:List Nat):List Str:=ts++ix.map λi=>N.getD i Str.empty
def bS2 (σ:St) (o:List (Option V)) (ix:List Nat):St:=o++ix.map λi=>(σ[i]?).getD none
section
variable {X:Cx}
theorem Qh0 {elt iter:Expr} {x:Str} {ts:List Str} {tg:Expr} {gt:TG} {pos:Pos} {scope:Scope} {te:TE} {tt:TT} {ifs:List Expr} {ix:List Nat} {pins:List (Addr × Obj)} {s:Shared} {σ:St} {H:Hp} {cl:List (Str × Addr)}
  {J:It} {fp:List Addr} {it:Addr} {tn:Nat->Heap->Prop} {E:Value->Shared->Prop} {RR:Value->Addr->Result->Shared->Prop} {G:List V->Hp->Prop}
  (I:Inv X pins σ H s) (hc:X.calm=true) (B:BlkScope X.env scope x) (h1:∀y c,cl.lookup y=some c->X.env.cells.lookup y=some c) (h3:∀y∈scope.names,y.2=.free->∃c,cl.lookup y.1=some c)
  (hix:∀i∈ix,∃y,X.N[i]? = some y/\scope.names.lookup y=some .free) (hN:(bN2 X.N ts ix).Nodup)
  (T:Turn X.prog X.w X.K tg J fp it tn) (st:tn 0 s.heap) (hf:∀b∈fp,FpOk X pins H b)
  (hg:∀cl C s₀ H₀ fp,PG (J8 X scope cl C (bN2 X.N ts ix) s₀ H₀ fp) tg gt)
  (he:∀cl C s₀ H₀ fp,PE (J8 X scope cl C (bN2 X.N ts ix) s₀ H₀ fp) elt te)
  (hi:∀cl C s₀ H₀ fp,PIfs (J8 X scope cl C (bN2 X.N ts ix) s₀ H₀ fp) ifs tt)
  (W:Nat->Nat->List V->Hp->Prop) (m₀:Nat) (w0:W 0 m₀ [] H)
  (turn:∀i m ys H,W i m ys H->(J.stop i H/\ys.length<=sizeLine/\G ys H)\/(J.go i H/\ys.length<sizeLine/\∀v H',J.yld i H v H'->∀o:List (Option V),o.length=ts.length->gt v (bS2 σ o ix) H' λσ2 H2=>∃o2:List (Option V),σ2=bS2 σ o2 ix/\o2.length=ts.length /\
    tt σ2 H2 λb H1=>if b=true then te σ2 H1 λy H2=>∃m',m' < m/\W (i+1) m' (ys++[y]) H2 else ∃m',m' < m/\W (i+1) m' ys H1))
  (hRR:∀D C s' ys H',Inv X pins σ (upd H' D (.lst ys)) s'->H' D=none->H' C=none->(∃m,s'.heap.Ns C m)->s.heap.objs.size<=C->D≠C->G ys H'->RR (.ref D) C (.ok .next) s') :
  wpAny (model X.prog X.w) X.A (newList []) (λacc s₃=>wpAny (model X.prog X.w) X.A (newFunctionEnv scope X.env.globals cl [] X.env.qual none .none (some X.env)) (λcenv s₄ =>
   codeAny (model X.prog X.w) X.A (.compStart (.ListComp elt [⟨tg,iter,ifs,0⟩] scope pos) 0 (.ref it) acc { cenv with scope:=relabel scope X.env }) (RR acc cenv.locals) s₄) E s₃) E s:=by
 have hl:∀b∈fp,b<s.heap.objs.size:=λb hb=>by obtain ⟨o,e,_⟩:=T.obj 0 _ st b hb;exact Heap.lt_size e
 refine wpAny_newObj_type (wpAny_newFunctionEnv B.cells (by intro y hy;simp at hy) (λh₁ hns₁ hsb₁=>?_) B.kind)
 dsimp only at hns₁ hsb₁ ⊢
 generalize hH2:s.heap.push { cls:=.type "list",dict:=none,data:=.seq ([]:List Value).toArray }=H2 at hns₁ hsb₁ ⊢
 have hC:H2.objs.size=s.heap.objs.size+1:=by rw [← hH2,Heap.size_push]
 generalize hD:s.heap.objs.size=D at hC hl hRR ⊢
 generalize hCC:H2.objs.size=C at hC hns₁ hsb₁ ⊢
 have hDC:D≠C:=by omega
 have old:∀b o,s.heap.get? b=some o->h₁.get? b=some o:=λb o e=>hsb₁.extBut b o (Nat.ne_of_lt (by have z:=Heap.lt_size e;rw [hD] at z;exact Nat.lt_of_lt_of_le z (by rw [hC];exact Nat.le_succ _))) (Heap.get?_push_of_some _ (hH2 ▸ Heap.get?_push_of_some _ e))
 have hacc:h₁.get? D=some { cls:=.type "list",data:=.seq ([]:List Value).toArray 0 }:=hsb₁.extBut _ _ hDC (Heap.get?_push_of_some _ (hH2 ▸ (by rw [← hD];exact Heap.get?_push_size _ rfl)))
 have hfr:∀a,D<=a->s.heap.get? a=none:=λa ha=>by
  cases e:s.heap.get? a with
  | none=>rfl
  | some o=>exact absurd (Heap.lt_size e) (by rw [hD];exact Nat.not_lt.mpr ha)
 have hHn:∀a,D<=a->H a=none:=λa ha=>I.hok.fresh (by omega)
 have ok:(J8 X scope cl C (bN2 X.N ts ix) s H fp).Ok:=Qls I B h1 h3 (by omega) hf (by rw [hD];exact hl)
 generalize hK:J8 X scope cl C (bN2 X.N ts ix) s H fp=K at ok
 have kp:K.prog=X.prog:=by rw [← hK];rfl
 have kw:K.w=X.w:=by rw [← hK];rfl
 have kK:K.K=X.K:=by rw [← hK];rfl
 have kA:K.A=X.A:=by rw [← hK];rfl
 have kc:K.calm=true:=by rw [← hK];exact hc
 have kN:K.N=bN2 X.N ts ix:=by rw [← hK];rfl
 have kenv:K.env=compEnvC scope cl C X.env:=by rw [← hK];rfl
 have kloc:K.env.locals=C:=by rw [← hK];rfl
 have kfs:K.fs=frs X.stack:=by rw [← hK];rfl
 have kex:K.ex=fp:=by rw [← hK];rfl
 have kpn:K.pn=[]:=by rw [← hK];rfl
 have ks:K.s₀=s:=by rw [← hK];rfl
 have kH:K.H₀=H:=by rw [← hK];rfl
 have kx:K.xe=λ_ _=>False:=by rw [← hK];rfl
 have kcl:K.env.cells=cl:=by rw [← hK];rfl
 have cellLt:∀y c,cl.lookup y=some c->c<D:=λy c q=>by obtain ⟨v,z⟩:=I.cell y c (h1 y c q);rw [← hD];exact z.lt
 have stkLt:∀b∈frs X.stack,b<D:=λb hb=>by
  rcases List.mem_cons.mp (I.stkSub b hb) with q | q
  ·rw [q,← hD];exact I.lt
  ·rcases Nat.lt_or_ge b D with z | z
   ·exact z
   ·exact absurd q (I.nofs (by omega))
 -- the state at the block's begin
 have I0:∀tk,Inv K [(D,{ cls:=.type "list",data:=.seq ([]:List Value).toArray 0 })] (bS2 σ (ts.map λ_=>none) ix) H { s with heap:=h₁,toks:=tk }:=λtk=>by
  refine ⟨ok,by rw [ks],I.bare,by rw [ks,kH];exact Un.kept old,?_,?_,?_,?_,?_,by rw [kp,kw];exact I.hok.kept old,?_⟩
  ·refine ⟨_,by rw [kloc];exact hns₁,λi y v e1 e2 e3=>?_⟩
   rw [kN] at e1
   by_cases hlt:i<ts.length
   ·unfold bS2 at e2
    rw [List.getElem?_append_left (by simpa using hlt),List.getElem?_map] at e2
    cases hts:ts[i]? with
    | none=>rw [hts] at e2;cases e2
    | some y'=>rw [hts] at e2;have e2:(some (none:Option V))=some (some v):=e2;cases e2
   ·obtain ⟨i,rfl⟩:∃i',i=ts.length+i':=⟨i-ts.length,by omega⟩
    have e1':(ix.map λi=>X.N.getD i Str.empty)[i]? = some y:=by
     unfold bN2 at e1
     rw [List.getElem?_append_right (by omega),show ts.length+i-ts.length=i by omega] at e1
     exact e1
    have e2':(ix.map λi=>(σ[i]?).getD none)[i]? = some (some v):=by
     unfold bS2 at e2
     rw [List.getElem?_append_right (by rw [List.length_map];omega),List.length_map,show ts.length+i-ts.length=i by omega] at e2
     exact e2
    rw [List.getElem?_map] at e1' e2'
    cases q:ix[i]? with
    | none=>rw [q] at e1';cases e1'
    | some j =>
     rw [q] at e1' e2'
     obtain ⟨y',a1,a2⟩:=hix j (List.mem_of_getElem? q)
     have a3:X.N.getD j Str.empty=y':=by simp [List.getD,a1]
     have ey:y'=y:=by rw [← a3];exact Option.some.inj e1'
     subst ey
     have es:σ[j]? = some (some v):=by
      have z:(σ[j]?).getD none=some v:=Option.some.inj e2'
      cases w:σ[j]? with
      | none=>rw [w] at z;cases z
      | some o=>rw [w] at z;have z':o=some v:=z;rw [z']
     obtain ⟨m,hn,hlk⟩:=I.loc
     have hk:=B.free (y',.free) (PySem.mem_of_lookup a2) rfl
     have hk:X.env.kindOf y'=some .cell\/X.env.kindOf y'=some .free:=hk
     have vis:Vis X.env.scope y':=hk.elim (λz=>.inr (.inl z)) λz=>.inr (.inr z)
     obtain ⟨u,ru,lk⟩:=hlk j y' v a1 es vis
     refine ⟨u,ru,?_⟩
     rcases lk with ⟨k,_⟩ | ⟨_,c,ec,ce⟩
     ·rcases hk with z | z <;> (rw [k] at z;cases z)
     ·obtain ⟨c',ec'⟩:=h3 (y',.free) (PySem.mem_of_lookup a2) rfl
      have ec':cl.lookup y'=some c':=ec'
      have:c'=c:=Option.some.inj ((h1 y' c' ec').symm.trans ec)
      subst this
      refine .inr ⟨?_,c',by rw [kcl];exact ec',?_⟩
      ·show K.env.scope.names.lookup y'=_\/K.env.scope.names.lookup y'=_
       rw [kenv]
       exact J0 a2
      ·obtain ⟨oc,hoc,r⟩:=ce
       exact ⟨oc,old _ _ hoc,r⟩
  ·intro y c q
   rw [kcl] at q
   obtain ⟨v,oc,hoc,r⟩:=I.cell y c (h1 y c q)
   exact ⟨v,oc,old _ _ hoc,r⟩
  ·rw [kloc];exact hHn _ (by omega)
  ·intro y c q
   rw [kcl] at q
   exact I.freeC y c (h1 y c q)
  ·intro p hp
   rw [kpn] at hp
   have e:p=(D,{ cls:=.type "list",data:=.seq ([]:List Value).toArray 0 }):=by simpa using hp
   subst e
   refine ⟨hacc,hHn _ (Nat.le_refl _),by rw [kloc];exact hDC,?_,λv z=>?_⟩
   ·rw [kfs];intro z;exact absurd (stkLt D z) (Nat.lt_irrefl _)
   ·have z':Data.seq _ _=Data.cell v:=z
    cases z'
  ·rw [kN];simp [bS2,bN2]
 have stat:∀{H':Hp} {ob:Obj},(∀b∈fp,H' b=none)->∀b∈fp,FpOk K [(D,ob)] H' b:=λ{H' ob} hn b hb=>by
  refine ⟨hn b hb,?_,?_,.inl (by rw [kex];exact hb),?_,?_⟩
  ·rw [kloc];exact Nat.ne_of_lt (Nat.lt_of_lt_of_le (hl b hb) (by rw [hC];exact Nat.le_succ _))
  ·rw [kfs];intro z
   rcases List.mem_cons.mp (I.stkSub b z) with q | q
   ·exact (hf b hb).2.1 q
   ·exact (hf b hb).2.2.1 q
  ·intro y c q;rw [kcl] at q;exact (hf b hb).2.2.2.2.1 y c (h1 y c q)
  ·intro p hp;rw [kpn] at hp
   have e:p=(D,ob):=by simpa using hp
   subst e
   exact Nat.ne_of_gt (hl b hb)
 have st₁:tn 0 h₁:=T.keep _ _ _ st λb hb o e=>old b o e
 have loop:∀tk,codeAny (model X.prog X.w) X.A (.compLoop (.ListComp elt [⟨tg,iter,ifs,0⟩] scope pos) 0 (.ref it) (.ref D) (compEnvC scope cl C X.env)) (RR (.ref D) C) { s with heap:=h₁,toks:=tk }:=by
  intro tk
  refine Xg (λn s'=>∃i o H' ys its c,o.length=ts.length/\Inv K [(D,{ cls:=.type "list",data:=.seq (its:List Value).toArray c })] (bS2 σ o ix) H' s'/\Vals ys its/\tn i s'.heap/\(∀b∈fp,H' b=none)/\W i n ys H') ?_ m₀
   ⟨0,ts.map (λ_=>none),H,[],[],0,by simp,I0 tk,.nil,st₁,λb hb=>(hf b hb).1,w0⟩
  rintro n s1 ⟨i,o,H1,ys,its,c,ol,I1,rv,t1,f1,w1⟩
  rcases turn i n ys H1 w1 with ⟨stop,hz,g⟩ | ⟨go,hz,step⟩
  ·have dn:=T.done K kp kw kK kc i _ s1 _ H1 (notedBy (model X.prog X.w) X.A (compEnvC scope cl C X.env) λe s'=>RR (.ref D) C (.error e) s') I1 (stat f1) t1 stop
   rw [kA] at dn
   refine thn dn λr s2 ⟨hr,I2⟩=>?_
   subst hr
   obtain ⟨p1,p2,p3,p4,p5⟩:=I2.pin (D,{ cls:=.type "list",data:=.seq its.toArray c }) (List.mem_append_right _ (List.mem_singleton.mpr rfl))
   have u2:=I2.base
   rw [kfs,kex,kH,ks] at u2
   refine hRR D C s2 ys H1 ?_ p2 (by rw [← kloc];exact I2.free) (by obtain ⟨m,hm,_⟩:=I2.loc;rw [kloc] at hm;exact ⟨m,hm⟩) (by omega) hDC g
   have hk2:HOk X.prog X.w H1 s2.heap:=by have:=I2.hok;rw [kp,kw] at this;exact this
   refine I.call' (ch:=fp) (by have:=I2.os;rw [ks] at this;exact this) (u2.add (hfr D (Nat.le_refl _)) (hHn D (Nat.le_refl _))) (hk2.add p2 ⟨hz,its,c,rv,p1⟩) I2.bare λb hb=>?_
   exact ⟨(hf b hb).2.2.2.1,(hf b hb).2.1,(hf b hb).2.2.2.2.1,(hf b hb).2.2.2.2.2⟩
  ·have im:=T.item K kp kw kK kc i _ s1 _ H1 (notedBy (model X.prog X.w) X.A (compEnvC scope cl C X.env) λe s'=>RR (.ref D) C (.error e) s') I1 (stat f1) t1 go
   rw [kA] at im
   refine thn im λr s2 ⟨u,hr,h2⟩=>?_
   subst hr
   refine thn h2 λ_ s3 ⟨v,H3,I3,r3,y3,t3,f3⟩=>?_
   have q3:=step v H3 y3 o ol
   have I3':=I3.pinned (stat f3) (T.obj _ _ t3)
   have hg':=hg cl C s H fp
   rw [hK] at hg'
   have hgv:=hg' _ s3 _ H3 v u _ I3' r3 q3
   rw [kx,kp,kw,kA,kenv] at hgv
   refine wpAny_mono hgv (λ_ s4 ⟨σ4,H4,I4,o4,e4,l4,q4⟩=>?_) λ_ _ z=>z.elim
   subst e4
   have hi':=hi cl C s H fp
   rw [hK] at hi'
   have hiv:=hi' _ s4 _ H4 _ I4 q4
   rw [kx,kp,kw,kA,kenv] at hiv
   refine wpAny_mono hiv (λok s5 ⟨H5,I5,q5⟩=>?_) λ_ _ z=>z.elim
   have back:∀{H7:Hp} {s7:Shared} {o7:List (Option V)},Inv K ([(D,{ cls:=.type "list",data:=.seq its.toArray c })]++Gj fp s3.heap) (bS2 σ o7 ix) H7 s7->tn (i+1) s7.heap/\∀b∈fp,H7 b=none:=λ{H7 s7 o7} I7=>by
    refine ⟨T.keep _ _ _ t3 λb hb o e=>(I7.pin (b,o) (List.mem_append_right _ (List.mem_append_right _ (Yp hb e)))).1,λb hb=>?_⟩
    obtain ⟨ob,e,d⟩:=T.obj _ _ t3 b hb
    exact (I7.pin (b,ob) (List.mem_append_right _ (List.mem_append_right _ (Yp hb e)))).2.1
   cases ok with
   | false =>
    rw [if_neg Bool.false_ne_true]
    have q5:∃m',m' < n/\W (i+1) m' ys H5:=q5
    obtain ⟨m',hm,w5⟩:=q5
    obtain ⟨b1,b2⟩:=back I5
    exact ⟨m',hm,i+1,o4,H5,ys,its,c,l4,I5.unpinned,rv,b1,b2,w5⟩
   | true =>
    rw [if_pos rfl]
    have q5:te (bS2 σ o4 ix) H5 λy H2=>∃m',m' < n/\W (i+1) m' (ys++[y]) H2:=q5
    have he':=he cl C s H fp
    rw [hK] at he'
    have hev:=he' _ s5 _ H5 _ I5 q5
    rw [kx,kp,kw,kA,kenv] at hev
    refine wpAny_mono hev (λy s6 ⟨yv,H6,I6,r6,m',hm,w6⟩=>?_) λ_ _ z=>z.elim
    obtain ⟨b1,b2⟩:=back I6
    have I6':=I6.unpinned
    obtain ⟨p1,p2,p3,p4,p5⟩:=I6'.pin (D,{ cls:=.type "list",data:=.seq its.toArray c }) (List.mem_append_right _ (List.mem_singleton.mpr rfl))
    have hlen:=rv.length
    refine call_meets F.slot_list_append ⟨_,p1,rfl⟩ F.entry_list_append (F.args_list_append_2 _ _) (PySem.list_append D its.toArray c y (by rw [List.size_toArray];omega)) ⟨p1,?_⟩
    have ea:its.toArray.push y=(its++[y]).toArray:=by simp
    obtain ⟨c',q⟩:∃c',(s6.heap.update D (Obj.mapSeq (·.push y))).get? D=some { cls:=.type "list",data:=.seq (its++[y]).toArray c' }:=⟨_,by rw [← ea];exact PySem.IsL.update p1 (·.push y)⟩
    refine ⟨m',hm,i+1,o4,H6,ys++[yv],its++[y],c',l4,?_,rv.append (.cons r6 .nil),T.keep _ _ _ b1 λb hb o e=>?_,b2,w6⟩
    ·have Id:Inv K [] (bS2 σ o4 ix) H6 s6:=I6'.pins_of λp hp=>by simp at hp
     have It:Inv K [] (bS2 σ o4 ix) H6 { s6 with heap:=s6.heap.update D (Obj.mapSeq (·.push y)) }:=Id.turned (t':=s6.toks) (it:=D) (λb o hb e=>(Heap.get?_update_other _ _ (Ne.symm hb)).trans e) p2 p3
      (.inr (by rw [ks];omega)) (λy' c' e=>by rw [kcl] at e;exact Nat.ne_of_lt (cellLt y' c' e)) (λp hp=>by rw [kpn] at hp;simp at hp)
     refine It.pins_of λp hp=>?_
     obtain rfl:p=(D,{ cls:=.type "list",data:=.seq (its++[y]).toArray c' }):=by simpa using hp
     refine ⟨q,p2,p3,p4,λv z=>?_⟩
     have z':Data.seq _ _=Data.cell v:=z
     cases z'
    ·exact (Heap.get?_update_other _ _ (Nat.ne_of_gt (hl b hb))).trans e
 have selfs:wpAny (model X.prog X.w) X.A (pyIter (.ref it)) (λit' s'=>codeAny (model X.prog X.w) X.A (.compLoop (.ListComp elt [⟨tg,iter,ifs,0⟩] scope pos) 0 it' (.ref D) (compEnvC scope cl C X.env)) (RR (.ref D) C) s')
   (notedBy (model X.prog X.w) X.A (compEnvC scope cl C X.env) λe s'=>RR (.ref D) C (.error e) s') { s with heap:=h₁,toks:=s.toks+([]:List (Str × Value)).length }:=T.self X.A 0 _ _ _ st₁ (loop _)
 exact codeAny_compStart_list (loop _) selfs
def Qkr (ts:List Str) (wi:TI) (gt:TG) (tt:TT) (te:TE) (ix:List Nat):TE:=λσ H Q=>wi σ H λJ H1=>∃(W:Nat->Nat->List V->Hp->Prop) (m₀:Nat),W 0 m₀ [] H1 /\
 ∀i m ys H,W i m ys H->(J.stop i H/\ys.length<=sizeLine/\∀l,H l=none->Q (.ref l) (upd H l (.lst ys)))\/(J.go i H/\ys.length<sizeLine/\∀v H',J.yld i H v H'->∀o:List (Option V),o.length=ts.length->gt v (bS2 σ o ix) H' λσ2 H2=>∃o2:List (Option V),σ2=bS2 σ o2 ix/\o2.length=ts.length /\
  tt σ2 H2 λb H1=>if b=true then te σ2 H1 λy H2=>∃m',m' < m/\W (i+1) m' (ys++[y]) H2 else ∃m',m' < m/\W (i+1) m' ys H1)
theorem Qja {elt iter:Expr} {x:Str} {ts:List Str} {tg:Expr} {gt:TG} {pos:Pos} {scope:Scope} {te:TE} {tt:TT} {wi:TI} {ifs:List Expr} (ix:List Nat) (hc:X.calm=true) (B:BlkScope X.env scope x)
  (hix:∀i∈ix,∃y,X.N[i]? = some y/\scope.names.lookup y=some .free) (hN:(bN2 X.N ts ix).Nodup) (hi:PI X tg iter wi)
  (hg:∀cl C s₀ H₀ fp,PG (J8 X scope cl C (bN2 X.N ts ix) s₀ H₀ fp) tg gt)
  (ht:∀cl C s₀ H₀ fp,PIfs (J8 X scope cl C (bN2 X.N ts ix) s₀ H₀ fp) ifs tt)
  (he:∀cl C s₀ H₀ fp,PE (J8 X scope cl C (bN2 X.N ts ix) s₀ H₀ fp) elt te)
  (hs:∀x,foldedSetIterable iter X.env x=pure x:=by intro _;rfl) :
  PE X (.ListComp elt [⟨tg,iter,ifs,0⟩] scope pos) (Qkr ts wi gt tt te ix):=by
 intro pins s σ H Q I h
 obtain ⟨cl,hcl,h1,h3⟩:=Vl (Qas I B)
 rw [eval_ListComp]
 refine wpAny_comprehension_free (use:=none) rfl hs hcl B.kind B.names (thn (hi pins s σ H _ I h) λv s1 h1'=>thn h1' λitv s2 h2=>?_)
 obtain ⟨it,fp,tn,J,H2,e,I2,T,st2,f2,W,m0,w0,turn⟩:=h2
 subst e
 refine Qh0 (G:=λys H'=>∀l,H' l=none->Q (.ref l) (upd H' l (.lst ys))) I2 hc B h1 h3 hix hN T st2 f2 hg he ht W m0 w0 turn λD C s' ys H' I' hD hC hm hCs hDC g=>?_
 obtain ⟨m,hm⟩:=hm
 refine ⟨m,hm,λh' hsb=>⟨.ref D,upd H' D (.lst ys),I2.blkGone I' hCs (by rw [Ql (Ne.symm hDC)];exact hC) hsb,rfl,g D hD⟩⟩
end
end L2
namespace HT
open PySem PySem.Spec PyProof.Rows L2
theorem Xs {h h':Heap} {a t:Addr} {i:Nat} (x:h.IsTupleIter a t i) (k:∀o,h.get? a=some o->h'.get? a=some o):h'.IsTupleIter a t i:=let ⟨o,ho,r⟩:=x;⟨o,k o ho,r⟩
section
variable {prog:Program} {w:World} {A:Around} {E:Value->Shared->Prop} {s:Shared}
theorem Ue {it t:Addr} {i:Nat} {items:Array Value} {x:Value} {Q:Value->Shared->Prop} (hit:s.heap.IsTupleIter it t i)
  (hl:s.heap.IsTuple t items) (hx:items[i]? = some x)
  (hQ:∀h',h'.IsTupleIter it t (i+1)->Heap.SameBut it s.heap h'->Q x { s with heap:=h' }) :
  wpAny (model prog w) A (Builtin.SmallTypes.nextOf (.ref it)) Q E s:=by
 obtain ⟨o,ho,hc,hd⟩:=id hit
 obtain ⟨ol,hol,_,nl,hdl⟩:=hl
 unfold Builtin.SmallTypes.nextOf
 refine wpAny_bind (wpAny_callSpecial?_slot (name:=Str.ofString "__next__") hit.typeIs F.slot_tuple_iterator_next
  (wpAny_call_entry F.slot_tuple_iterator_next hit.typeIs F.entry_tuple_iterator_next ?_ (F.args_tuple_iterator_next_1 _)))
 show wpAny _ _ (field (.ref it) 0 >>= _) _ _ s
 refine wpAny_bind (wpAny_field ho hd (x:=.ref t) rfl ?_)
 show wpAny _ _ (if (Value.ref t == Value.none)=true then _ else _) _ _ s
 rw [if_neg (show ¬((Value.ref t == Value.none)=true) from Bool.false_ne_true)]
 show wpAny _ _ (field (.ref it) 1 >>= _) _ _ s
 refine wpAny_bind (wpAny_field ho hd (x:=.int i 0) rfl ?_)
 show wpAny _ _ (seqItems? (.ref t) >>= _) _ _ s
 refine wpAny_bind (wpAny_seqItems hol hdl ?_)
 simp only [Int.toNat_natCast,hx]
 refine wpAny_bind (wpAny_setField ho hd (by simp) (wpAny_pure ⟨x,rfl,wpAny_pure (hQ _ ?_ (Heap.SameBut.update ..))⟩))
 exact ⟨_,Heap.get?_update_self _ ho (Obj.isFreed_of_fields (Obj.data_mapFields hd _)),(Obj.cls_mapFields ..).trans hc,by
  rw [Obj.data_mapFields hd];simp [rawInt]⟩
theorem V0 {it t:Addr} {i:Nat} {items:Array Value} {Q:Value->Shared->Prop} (hh:A.handled=none)
  (hit:s.heap.IsTupleIter it t i) (hl:s.heap.IsTuple t items) (hx:items[i]? = none)
  (hE:∀h' e,Heap.ExtBut it s.heap h'->(∃o,h'.get? e=some o/\o.cls=.type "StopIteration")->E (.ref e) { s with heap:=h' }) :
  wpAny (model prog w) A (Builtin.SmallTypes.nextOf (.ref it)) Q E s:=by
 obtain ⟨o,ho,hc,hd⟩:=id hit
 obtain ⟨ol,hol,_,nl,hdl⟩:=hl
 unfold Builtin.SmallTypes.nextOf
 refine wpAny_bind (wpAny_callSpecial?_slot (name:=Str.ofString "__next__") hit.typeIs F.slot_tuple_iterator_next
  (wpAny_call_entry F.slot_tuple_iterator_next hit.typeIs F.entry_tuple_iterator_next ?_ (F.args_tuple_iterator_next_1 _)))
 show wpAny _ _ (field (.ref it) 0 >>= _) _ _ s
 refine wpAny_bind (wpAny_field ho hd (x:=.ref t) rfl ?_)
 show wpAny _ _ (if (Value.ref t == Value.none)=true then _ else _) _ _ s
 rw [if_neg (show ¬((Value.ref t == Value.none)=true) from Bool.false_ne_true)]
 show wpAny _ _ (field (.ref it) 1 >>= _) _ _ s
 refine wpAny_bind (wpAny_field ho hd (x:=.int i 0) rfl ?_)
 show wpAny _ _ (seqItems? (.ref t) >>= _) _ _ s
 refine wpAny_bind (wpAny_seqItems hol hdl ?_)
 simp only [Int.toNat_natCast,hx]
 refine wpAny_bind (wpAny_rule (wpAny_bind (wpAny_setField ho hd (by simp) ?_)))
 show wpAny _ _ (newExc (.type "StopIteration") [] >>= _) _ _ _
 refine wpAny_bind ?_
 simp only [newExc,newTuple]
 refine wpAny_bind (wpAny_newObj_type ?_ (by size_fits))
 refine wpAny_bind (m:=firstArgMember _ _) (wpAny_of_eq (a:=Value.none) (by first | rfl | (simp only [firstArgMember];rfl)) ?_)
 refine wpAny_newObj_type ?_ (by size_fits)
 simp only [raiseNew]
 refine wpAny_bind (wpAny_handled ?_)
 first | rw [show A.in1.handled=none from hh] | rw [hh]
 refine wpAny_bind (wpAny_pure (wpAny_throw ?_))
 exact hE _ _ (((Heap.SameBut.update ..).extBut.push _).push _) ⟨_,Heap.get?_push_size _ rfl,rfl⟩
structure ZipT (h:Heap) (n d l:Nat) (i:Nat):Prop where
 z:IsZip h (n+4) (n+2) (n+3) .none
 ti:IsPair h (n+2) (.ref n) (.ref (n+1))
 to:∃a b,IsPair h (n+3) a b
 k:h.IsTupleIter n d i
 l:h.IsTupleIter (n+1) l i
theorem Qfg {n d l:Nat} {i:Nat} {xs ys:Array Value} {x y:Value} {Q:Value->Shared->Prop} (hd:d<n) (hl:l<n)
  (Z:ZipT s.heap n d l i) (hm:s.heap.IsTuple d xs) (hl2:s.heap.IsTuple l ys) (hx:xs[i]? = some x) (hy:ys[i]? = some y)
  (hQ:∀h',IsZip h' (n+4) (n+2) (n+3) (rawInt s.heap.objs.size)->IsPair h' (n+3) x y->h'.IsTupleIter n d (i+1)->h'.IsTupleIter (n+1) l (i+1)->IsPair h' s.heap.objs.size x y ->
   (∀c o,c≠n+4->c≠n+3->c≠n->c≠n+1->s.heap.get? c=some o->h'.get? c=some o)->Q (.ref s.heap.objs.size) { s with heap:=h' }) :
  wpAny (model prog w) A (Builtin.«zip.__next__» ⟨[.ref (n+4)],[]⟩) (λfin s'=>∃v,fin=.done (.ret v)/\Q v s') E s:=by
 obtain ⟨hz,hTI,⟨a,b,hTO⟩,h1,h2⟩:=Z
 show wpAny _ _ (field (.ref (n+4)) 2 >>= _) _ _ _
 refine wpAny_bind (wpAny_field hz rfl (x:=.bool false) rfl ?_)
 show wpAny _ _ (field (.ref (n+4)) 3 >>= _) _ _ _
 refine wpAny_bind (wpAny_field hz rfl (x:=.ref (n+2)) rfl ?_)
 refine wpAny_bind (wpAny_seqItems hTI rfl ?_)
 show wpAny _ _ (Builtin.SmallTypes.ownedTupleIsFree (.ref (n+4)) >>= _) _ _ _
 refine wpAny_bind ?_
 unfold Builtin.SmallTypes.ownedTupleIsFree
 refine wpAny_bind (wpAny_field hz rfl (x:=.none) rfl (wpAny_pure ?_))
 simp only [if_true]
 refine wpAny_bind (wpAny_rule ?_)
 refine wpAny_bind (wpAny_field hz rfl (x:=.ref (n+3)) rfl ?_)
 refine wpAny_bind (wpAny_setField_rec hz (by simp) λh₁ hz₁ hs₁=>?_)
 replace hz₁:IsZip h₁ (n+4) (n+2) (n+3) .ellipsis:=hz₁
 refine wpAny_bind ?_
 simp only [List.zipIdx_cons,List.zipIdx_nil,List.forIn_cons,List.forIn_nil]
 refine wpAny_bind (wpAny_bind (wpAny_onRaise ?_))
 show wpAny _ _ (Builtin.SmallTypes.nextOf (.ref n) >>= _) _ _ _
 refine wpAny_bind (Ue (h1.extBut hs₁.extBut (by show @Ne Nat _ _;omega)) (hm.extBut hs₁.extBut (by show @Ne Nat _ _;omega)) hx λh₂ h1₂ hs₂=>wpAny_pure ?_)
 have hTO₂:IsPair h₂ (n+3) a b:=hs₂.extBut _ _ (by show @Ne Nat _ _;omega) (hs₁.extBut _ _ (by show @Ne Nat _ _;omega) hTO)
 refine wpAny_bind (wpAny_seqItems hTO₂ rfl ?_)
 refine wpAny_bind (wpAny_updateSeq_pair hTO₂ λh₃ hTO₃ hs₃=>?_)
 replace hTO₃:IsPair h₃ (n+3) x b:=hTO₃
 refine wpAny_bind (wpAny_letGo (wpAny_pure ?_))
 refine wpAny_bind (wpAny_bind (wpAny_onRaise ?_))
 show wpAny _ _ (Builtin.SmallTypes.nextOf (.ref (n+1)) >>= _) _ _ _
 refine wpAny_bind (Ue (((h2.extBut hs₁.extBut (by show @Ne Nat _ _;omega)).extBut hs₂.extBut (by show @Ne Nat _ _;omega)).extBut hs₃.extBut (by show @Ne Nat _ _;omega))
  (((hl2.extBut hs₁.extBut (by show @Ne Nat _ _;omega)).extBut hs₂.extBut (by show @Ne Nat _ _;omega)).extBut hs₃.extBut (by show @Ne Nat _ _;omega)) hy λh₄ h2₄ hs₄=>wpAny_pure ?_)
 have hTO₄:IsPair h₄ (n+3) x b:=hs₄.extBut _ _ (by show @Ne Nat _ _;omega) hTO₃
 refine wpAny_bind (wpAny_seqItems hTO₄ rfl ?_)
 refine wpAny_bind (wpAny_updateSeq_pair hTO₄ λh₅ hTO₅ hs₅=>?_)
 replace hTO₅:IsPair h₅ (n+3) x y:=hTO₅
 refine wpAny_bind (wpAny_letGo (wpAny_pure (wpAny_pure ?_)))
 refine wpAny_bind (wpAny_seqItems hTO₅ rfl ?_)
 refine wpAny_bind (wpAny_newTuple ?_)
 have hsz:h₅.objs.size=s.heap.objs.size:=by rw [hs₅.1,hs₄.1,hs₃.1,hs₂.1,hs₁.1]
 have hz₅:IsZip h₅ (n+4) (n+2) (n+3) .ellipsis:=hs₅.extBut _ _ (by show @Ne Nat _ _;omega) (hs₄.extBut _ _ (by show @Ne Nat _ _;omega) (hs₃.extBut _ _ (by show @Ne Nat _ _;omega) (hs₂.extBut _ _ (by show @Ne Nat _ _;omega) hz₁)))
 have hk₅:∀c o,c≠n+4->c≠n+3->c≠n->c≠n+1->s.heap.get? c=some o->h₅.get? c=some o:=λc o c1 c2 c3 c4 e =>
  hs₅.extBut _ _ c2 (hs₄.extBut _ _ c4 (hs₃.extBut _ _ c2 (hs₂.extBut _ _ c3 (hs₁.extBut _ _ c1 e))))
 have h1₅:h₅.IsTupleIter n d (i+1):=((h1₂.extBut hs₃.extBut (by show @Ne Nat _ _;omega)).extBut hs₄.extBut (by show @Ne Nat _ _;omega)).extBut hs₅.extBut (by show @Ne Nat _ _;omega)
 have h2₅:h₅.IsTupleIter (n+1) l (i+1):=h2₄.extBut hs₅.extBut (by show @Ne Nat _ _;omega)
 have hzlt:n+4<h₅.objs.size:=Heap.lt_size hz₅
 show wpAny _ _ (Builtin.SmallTypes.ownedTupleHandOut (.ref (n+4)) (.ref h₅.objs.size) >>= _) _ _ _
 refine wpAny_bind ?_
 unfold Builtin.SmallTypes.ownedTupleHandOut
 have hz₆:IsZip (h₅.push { cls:=.type "tuple",data:=.seq #[x,y] }) (n+4) (n+2) (n+3) .ellipsis:=Heap.get?_push_of_some _ hz₅
 refine wpAny_bind (wpAny_setField_rec hz₆ (by simp) λh₇ hz₇ hs₇=>?_)
 replace hz₇:IsZip h₇ (n+4) (n+2) (n+3) (rawInt h₅.objs.size):=hz₇
 refine wpAny_setField_rec hz₇ (by simp) λh₈ hz₈ hs₈=>?_
 replace hz₈:IsZip h₈ (n+4) (n+2) (n+3) (rawInt h₅.objs.size):=hz₈
 have up:∀c o,c≠n+4->h₅.get? c=some o->h₈.get? c=some o:=λc o c1 e=>hs₈.extBut _ _ c1 (hs₇.extBut _ _ c1 (Heap.get?_push_of_some _ e))
 have hT₈:IsPair h₈ h₅.objs.size x y:=hs₈.extBut _ _ (Nat.ne_of_gt hzlt) (hs₇.extBut _ _ (Nat.ne_of_gt hzlt) (Heap.get?_push_size _ rfl))
 rw [hsz] at hz₈ hT₈
 refine wpAny_pure ⟨_,rfl,?_⟩
 show Q (.ref h₅.objs.size) _
 rw [hsz]
 exact hQ h₈ hz₈ (up _ _ (by show @Ne Nat _ _;omega) hTO₅) (Xs h1₅ λo e=>up _ o (by show @Ne Nat _ _;omega) e) (Xs h2₅ λo e=>up _ o (by show @Ne Nat _ _;omega) e) hT₈ λc o c1 c2 c3 c4 e=>up c o c1 (hk₅ c o c1 c2 c3 c4 e)
theorem Qii {n d l:Nat} {i:Nat} {xs ys:Array Value} {Q:Fin->Shared->Prop} (hh:A.handled=none) (hd:d<n) (hl:l<n)
  (Z:ZipT s.heap n d l i) (hm:s.heap.IsTuple d xs) (hl2:s.heap.IsTuple l ys) (hend:xs[i]? = none\/ys[i]? = none)
  (hE:∀h' e,(∀c o,c≠n+4->c≠n+3->c≠n->c≠n+1->s.heap.get? c=some o->h'.get? c=some o)->(∃o,h'.get? e=some o/\o.cls=.type "StopIteration")->E (.ref e) { s with heap:=h' }) :
  wpAny (model prog w) A (Builtin.«zip.__next__» ⟨[.ref (n+4)],[]⟩) Q E s:=by
 obtain ⟨hz,hTI,⟨a,b,hTO⟩,h1,h2⟩:=Z
 show wpAny _ _ (field (.ref (n+4)) 2 >>= _) _ _ _
 refine wpAny_bind (wpAny_field hz rfl (x:=.bool false) rfl ?_)
 show wpAny _ _ (field (.ref (n+4)) 3 >>= _) _ _ _
 refine wpAny_bind (wpAny_field hz rfl (x:=.ref (n+2)) rfl ?_)
 refine wpAny_bind (wpAny_seqItems hTI rfl ?_)
 show wpAny _ _ (Builtin.SmallTypes.ownedTupleIsFree (.ref (n+4)) >>= _) _ _ _
 refine wpAny_bind ?_
 unfold Builtin.SmallTypes.ownedTupleIsFree
 refine wpAny_bind (wpAny_field hz rfl (x:=.none) rfl (wpAny_pure ?_))
 simp only [if_true]
 refine wpAny_bind (wpAny_rule ?_)
 refine wpAny_bind (wpAny_field hz rfl (x:=.ref (n+3)) rfl ?_)
 refine wpAny_bind (wpAny_setField_rec hz (by simp) λh₁ hz₁ hs₁=>?_)
 replace hz₁:IsZip h₁ (n+4) (n+2) (n+3) .ellipsis:=hz₁
 refine wpAny_bind ?_
 simp only [List.zipIdx_cons,List.zipIdx_nil,List.forIn_cons,List.forIn_nil]
 refine wpAny_bind (wpAny_bind (wpAny_onRaise ?_))
 show wpAny _ _ (Builtin.SmallTypes.nextOf (.ref n) >>= _) _ _ _
 cases hx:xs[i]? with
 | none =>
  refine wpAny_bind (V0 hh (h1.extBut hs₁.extBut (by show @Ne Nat _ _;omega)) (hm.extBut hs₁.extBut (by show @Ne Nat _ _;omega)) hx λh₂ e hs₂ he=>?_)
  obtain ⟨oe,hoe,hce⟩:=he
  have hz₂:IsZip h₂ (n+4) (n+2) (n+3) .ellipsis:=hs₂ _ _ (by show @Ne Nat _ _;omega) hz₁
  have hez:e≠n+4:=λx=>by subst x;rw [hz₂] at hoe;cases hoe;simp at hce
  refine wpAny_setField_rec hz₂ (by simp) λh₃ _ hs₃=>hE h₃ e (λc o c1 _ c3 _ x=>hs₃.extBut _ _ c1 (hs₂ _ _ c3 (hs₁.extBut _ _ c1 x))) ⟨oe,hs₃.extBut _ _ hez hoe,hce⟩
 | some x =>
  have hy:ys[i]? = none:=by rcases hend with h | h;rw [hx] at h;cases h;exact h
  refine wpAny_bind (Ue (h1.extBut hs₁.extBut (by show @Ne Nat _ _;omega)) (hm.extBut hs₁.extBut (by show @Ne Nat _ _;omega)) hx λh₂ h1₂ hs₂=>wpAny_pure ?_)
  have hTO₂:IsPair h₂ (n+3) a b:=hs₂.extBut _ _ (by show @Ne Nat _ _;omega) (hs₁.extBut _ _ (by show @Ne Nat _ _;omega) hTO)
  refine wpAny_bind (wpAny_seqItems hTO₂ rfl ?_)
  refine wpAny_bind (wpAny_updateSeq_pair hTO₂ λh₃ hTO₃ hs₃=>?_)
  refine wpAny_bind (wpAny_letGo (wpAny_pure ?_))
  refine wpAny_bind (wpAny_bind (wpAny_onRaise ?_))
  show wpAny _ _ (Builtin.SmallTypes.nextOf (.ref (n+1)) >>= _) _ _ _
  refine wpAny_bind (V0 hh (((h2.extBut hs₁.extBut (by show @Ne Nat _ _;omega)).extBut hs₂.extBut (by show @Ne Nat _ _;omega)).extBut hs₃.extBut (by show @Ne Nat _ _;omega))
   (((hl2.extBut hs₁.extBut (by show @Ne Nat _ _;omega)).extBut hs₂.extBut (by show @Ne Nat _ _;omega)).extBut hs₃.extBut (by show @Ne Nat _ _;omega)) hy λh₄ e hs₄ he=>?_)
  obtain ⟨oe,hoe,hce⟩:=he
  have hz₄:IsZip h₄ (n+4) (n+2) (n+3) .ellipsis:=hs₄ _ _ (by show @Ne Nat _ _;omega) (hs₃.extBut _ _ (by show @Ne Nat _ _;omega) (hs₂.extBut _ _ (by show @Ne Nat _ _;omega) hz₁))
  have hez:e≠n+4:=λx=>by subst x;rw [hz₄] at hoe;cases hoe;simp at hce
  refine wpAny_setField_rec hz₄ (by simp) λh₅ _ hs₅=>hE h₅ e (λc o c1 c2 c3 c4 x=>hs₅.extBut _ _ c1 (hs₄ _ _ c4 (hs₃.extBut _ _ c2 (hs₂.extBut _ _ c3 (hs₁.extBut _ _ c1 x))))) ⟨oe,hs₅.extBut _ _ hez hoe,hce⟩
end
abbrev zt1 (h:Heap) (d:Nat):Heap:=h.push { cls:=.type "tuple_iterator",data:=.fields #[.ref d,.int 0 0] }
abbrev zt2 (h:Heap) (d l:Nat):Heap:=(zt1 h d).push { cls:=.type "tuple_iterator",data:=.fields #[.ref l,.int 0 0] }
abbrev zt3 (h:Heap) (d l:Nat):Heap:=(zt2 h d l).push { cls:=.type "tuple",data:=.seq #[.ref h.objs.size,.ref (zt1 h d).objs.size] }
abbrev zt4 (h:Heap) (d l:Nat):Heap:=(zt3 h d l).push { cls:=.type "tuple",data:=.seq #[.none,.none] }
abbrev zt5 (h:Heap) (d l:Nat):Heap:=(zt4 h d l).push { cls:=.type "zip",data:=.fields #[.none,.bool false,.bool false,.ref (zt2 h d l).objs.size,.ref (zt3 h d l).objs.size] }
theorem Qih {d l:Nat} {xs ys:Array Value} :
  Meets (Builtin.«zip.__new__» ⟨[.type "zip",.ref d,.ref l],[]⟩) (λ_ R s=>s.heap.IsTuple d xs/\s.heap.IsTuple l ys /\
   R (.ok (.ret (.ref (zt4 s.heap d l).objs.size))) { s with heap:=zt5 s.heap d l }) :=
 .of_wp λprog w A R s h=>by
  obtain ⟨hp,g,dr,tk,os⟩:=s;obtain ⟨hm,hl2,h⟩:=h
  have hsub:=sub_zip
  have hL1:Heap.IsTuple (Shared.heap ⟨hp,g,dr,tk,os⟩) d xs:=hm
  have hL2:Heap.IsTuple (Shared.heap ⟨hp.push { cls:=.type "tuple_iterator",data:=.fields #[.ref d,.int 0 0] },g,dr,tk,os⟩) l ys:=Heap.IsTuple.push hl2 _
  wp_walk using wpAny_pyIter_tuple hL1,wpAny_pyIter_tuple hL2
  exact ⟨_,rfl,h⟩
section
variable {prog:Program} {w:World} {A:Around} {E:Value->Shared->Prop} {s:Shared}
theorem Qh3 {d l:Nat} {xs ys:Array Value} {Q:Value->Shared->Prop} (hm:s.heap.IsTuple d xs) (hl2:s.heap.IsTuple l ys)
  (h:∀h',ZipT h' s.heap.objs.size d l 0->(∀c o,s.heap.get? c=some o->h'.get? c=some o)->Q (.ref (s.heap.objs.size+4)) { s with heap:=h' }) :
  wpAny (model prog w) A (call (.type "zip") [.ref d,.ref l]) Q E s:=by
 refine callType_new F.called_zip (by decide) (F.typeCall_zip_2 _ _) (F.newCall_zip_2 _ _) (λobj=>F.args_object_init_3 obj _ _) F.entry_zip_new
  (Qih (xs:=xs) (ys:=ys)) ⟨hm,hl2,?_⟩
 have z1:(zt1 s.heap d).objs.size=s.heap.objs.size+1:=Heap.size_push ..
 have z2:(zt2 s.heap d l).objs.size=s.heap.objs.size+2:=by rw [Heap.size_push,z1]
 have z3:(zt3 s.heap d l).objs.size=s.heap.objs.size+3:=by rw [Heap.size_push,z2]
 have z4:(zt4 s.heap d l).objs.size=s.heap.objs.size+4:=by rw [Heap.size_push,z3]
 have g5:(zt5 s.heap d l).get? (zt4 s.heap d l).objs.size=some _:=Heap.get?_push_size _ rfl
 have g4:(zt5 s.heap d l).get? (zt3 s.heap d l).objs.size=some _:=Heap.get?_push_of_some _ (Heap.get?_push_size _ rfl)
 have g3:(zt5 s.heap d l).get? (zt2 s.heap d l).objs.size=some _:=Heap.get?_push_of_some _ (Heap.get?_push_of_some _ (Heap.get?_push_size _ rfl))
 have g2:(zt5 s.heap d l).get? (zt1 s.heap d).objs.size=some _:=Heap.get?_push_of_some _ (Heap.get?_push_of_some _ (Heap.get?_push_of_some _ (Heap.get?_push_size _ rfl)))
 have g1:(zt5 s.heap d l).get? s.heap.objs.size=some _:=Heap.get?_push_of_some _ (Heap.get?_push_of_some _ (Heap.get?_push_of_some _ (Heap.get?_push_of_some _ (Heap.get?_push_size _ rfl))))
 show _/\_
 rw [z2,z3,z4] at g5
 rw [z1,z2] at g3
 rw [z3] at g4
 rw [z1] at g2
 rw [z4]
 exact ⟨⟨_,g5,rfl⟩,h _ ⟨g5,g3,⟨_,_,g4⟩,⟨_,g1,rfl,rfl⟩,⟨_,g2,rfl,rfl⟩⟩ λc o x =>
  Heap.get?_push_of_some _ (Heap.get?_push_of_some _ (Heap.get?_push_of_some _ (Heap.get?_push_of_some _ (Heap.get?_push_of_some _ x))))⟩
end
end HT
namespace L2
open PySem PySem.Spec PyProof.Rows
def Itzt (K:PySem.W.Frag) (d l:Addr):It :=
  ⟨λi H=>∃xs ys x y,SqT K H d xs/\SqT K H l ys/\xs[i]? = some x/\ys[i]? = some y,
   λi H v H'=>∀xs ys,SqT K H d xs->SqT K H l ys->∃x y p,xs[i]? = some x/\ys[i]? = some y/\v=.ref p/\H p=none/\H'=upd H p (.tup [x,y]),
   λi H=>∃xs ys,SqT K H d xs/\SqT K H l ys/\(xs.length<=i\/ys.length<=i)⟩
theorem Qfk {P:Program} {w:World} {K:PySem.W.Frag} {es:List Expr} {kt:Nat} {pt:Pos} (n d l:Nat) (hdn:d<n) (hln:l<n) :
  Turn P w K (.Tuple es kt pt) (Itzt K d l) [n+4,n+2,n+3,n,n+1] (n+4) (λi h=>HT.ZipT h n d l i) where
 mem:=by simp
 obj:=λi h st b hb=>by
  obtain ⟨hz,hTI,⟨a,b',hTO⟩,⟨o1,e1,c1,d1⟩,⟨o2,e2,c2,d2⟩⟩:=st
  simp only [List.mem_cons,List.mem_nil_iff,or_false] at hb
  rcases hb with rfl | rfl | rfl | rfl | rfl
  ·exact ⟨_,hz,λv z=>by have z':Data.fields _=Data.cell v:=z;cases z'⟩
  ·exact ⟨_,hTI,λv z=>by have z':Data.seq _ _=Data.cell v:=z;cases z'⟩
  ·exact ⟨_,hTO,λv z=>by have z':Data.seq _ _=Data.cell v:=z;cases z'⟩
  ·exact ⟨o1,e1,λv z=>by rw [d1] at z;cases z⟩
  ·exact ⟨o2,e2,λv z=>by rw [d2] at z;cases z⟩
 keep:=λi h h' st k=>by
  obtain ⟨hz,hTI,⟨a,b,hTO⟩,h1,h2⟩:=st
  exact ⟨k _ (by simp) _ hz,k _ (by simp) _ hTI,⟨a,b,k _ (by simp) _ hTO⟩,HT.Xs h1 λo e=>k _ (by simp) o e,HT.Xs h2 λo e=>k _ (by simp) o e⟩
 item:=by
  intro X hP hw hK hc i pins s σ H E I hf st hg
  subst hP hw hK
  obtain ⟨xs,ys,x,y,hq1,hq2,hx,hy⟩:=hg
  obtain ⟨its,rv,p,hz⟩:=I.tuple hq1
  obtain ⟨its2,rv2,p2,hz2'⟩:=I.tuple hq2
  obtain ⟨u,hu,ru⟩:=rv.get hx
  obtain ⟨u',hu',ru'⟩:=rv2.get hy
  have hT:s.TypeIs (.ref (n+4)) "zip":=⟨_,st.z,rfl⟩
  have hlt4:n+4<s.heap.objs.size:=Heap.lt_size st.z
  unfold pyNext
  refine wpAny_bind (wpAny_attempt (wpAny_callSpecial?_slot (name:=Str.ofString "__next__") hT F.slot_zip_next
   (wpAny_call_entry F.slot_zip_next hT F.entry_zip_next (HT.Qfg hdn hln st (show s.heap.IsTuple d its.toArray from p) (show s.heap.IsTuple l its2.toArray from p2) (by simpa using hu) (by simpa using hu') λh' z1 z2 z3 z4 z5 z6=>wpAny_pure ?_) (F.args_zip_next_1 _))))
  refine ⟨_,rfl,wpAny_letOwnedTupleGo_zip z1 λh2 hz2 hs2=>?_⟩
  have hn:H s.heap.objs.size=none:=I.hok.fresh (Nat.le_refl _)
  have hT2:IsPair h2 s.heap.objs.size u u':=hs2.extBut _ _ (Nat.ne_of_gt hlt4) z5
  refine ⟨.ref s.heap.objs.size,upd H s.heap.objs.size (.tup [x,y]),I.turnNew (ch:=[n+4,n+2,n+3,n,n+1]) (t':=s.toks) (Nat.le_refl _) (λb o hb q=>?_) hf ?_,rfl,λxs2 ys2 hy1 hy2=>?_,⟨hz2,?_,⟨u,u',?_⟩,HT.Xs z3 λo q=>?_,HT.Xs z4 λo q=>?_⟩,λb hb=>?_⟩
  ·simp only [List.mem_cons,List.mem_nil_iff,or_false,not_or] at hb
   exact hs2.extBut _ _ hb.1 (z6 b o hb.1 hb.2.2.1 hb.2.2.2.1 hb.2.2.2.2 q)
  ·exact ⟨by show 2<=sizeLine;decide,[u,u'],.cons ru (.cons ru' .nil),⟨_,hT2,rfl,_,rfl⟩⟩
  ·rw [I.tuple_inj hy1 hq1,I.tuple_inj hy2 hq2]
   exact ⟨x,y,_,hx,hy,rfl,hn,rfl⟩
  ·exact hs2.extBut _ _ (by show @Ne Nat _ _;omega) (z6 _ _ (by show @Ne Nat _ _;omega) (by show @Ne Nat _ _;omega) (by show @Ne Nat _ _;omega) (by show @Ne Nat _ _;omega) st.ti)
  ·exact hs2.extBut _ _ (by show @Ne Nat _ _;omega) z2
  ·exact hs2.extBut _ _ (by show @Ne Nat _ _;omega) q
  ·exact hs2.extBut _ _ (by show @Ne Nat _ _;omega) q
  ·have hb':b<s.heap.objs.size:=by
    simp only [List.mem_cons,List.mem_nil_iff,or_false] at hb
    have:(b:Nat)<=n+4:=by
     rcases hb with h | h | h | h | h <;> (rw [h];show (_:Nat)<=n+4;omega)
    exact Nat.lt_of_le_of_lt this hlt4
   rw [Ql (Nat.ne_of_lt hb')]
   exact (hf b hb).1
 done:=by
  intro X hP hw hK hc i pins s σ H E I hf st hg
  subst hP hw hK
  obtain ⟨xs,ys,hq1,hq2,hx⟩:=hg
  obtain ⟨its,rv,p,hz⟩:=I.tuple hq1
  obtain ⟨its2,rv2,p2,hz2'⟩:=I.tuple hq2
  have hlen:=rv.length
  have hlen2:=rv2.length
  have hT:s.TypeIs (.ref (n+4)) "zip":=⟨_,st.z,rfl⟩
  unfold pyNext
  refine wpAny_bind (wpAny_attempt (wpAny_callSpecial?_slot (name:=Str.ofString "__next__") hT F.slot_zip_next
   (wpAny_call_entry F.slot_zip_next hT F.entry_zip_next (HT.Qii (I.ok.hd hc) hdn hln st (show s.heap.IsTuple d its.toArray from p) (show s.heap.IsTuple l its2.toArray from p2) ?_ λh' e kp he=>?_) (F.args_zip_next_1 _))))
  ·rcases hx with h | h
   ·exact .inl (by simp;omega)
   ·exact .inr (by simp;omega)
  ·obtain ⟨o,ho,hc⟩:=he
   refine wpAny_bind (wpAny_isInstance (T:="StopIteration") (b:=true) ⟨o,ho,hc⟩ isSubtype_stop ?_)
   refine wpAny_pure ⟨rfl,I.turnAll (ch:=[n+4,n+2,n+3,n,n+1]) (t':=s.toks) (λb u hb q=>?_) hf⟩
   simp only [List.mem_cons,List.mem_nil_iff,or_false,not_or] at hb
   exact kp b u hb.1 hb.2.2.1 hb.2.2.2.1 hb.2.2.2.2 q
 self:=λ_ _ _ _ _ st h=>wpAny_pyIter_zip st.z h
section
variable {X:Cx}
def Qtl (K:PySem.W.Frag) (ta:TA):TI:=λσ H R=>ta σ H λvs H1=>∃d l xs ys,vs=[.ref d,.ref l]/\SqT K H1 d xs/\SqT K H1 l ys/\R (Itzt K d l) H1
theorem Qnd {a b:Expr} {ta:TA} {p pos:Pos} {es:List Expr} {kt:Nat} {pt:Pos} (hg:Gl X "zip") (hm:X.mg "zip" = none) (ha:PA X [a,b] ta) (hs:starEach [a,b] X.env=[(false,eval a X.env),(false,eval b X.env)]:=by rfl) (hs2:starEach [b] X.env=[(false,eval b X.env)]:=by rfl) :
  PI X (.Tuple es kt pt) (.Call (.Name "zip" p) [a,b] [] pos) (Qtl X.K ta):=by
 intro pins s σ H R I h
 refine Call_ (Go I hg hm Qkb (PyProof.Rows.callWith_type1 (thn (ha pos pins s σ H _ I h) λus s1 ⟨vs,H1,I1,r1,q1⟩=>?_) (by rw [hs,hs2]) (by rw [hs2];rfl)))
 obtain ⟨d,l,xs,ys,e,hd,hl,q⟩:=q1
 subst e
 obtain ⟨u,u2,rfl,ru,ru2⟩:=Qo1 r1
 cases ru
 cases ru2
 obtain ⟨its,rv,pd,hz⟩:=I1.tuple hd
 obtain ⟨its2,rv2,pl,hz2⟩:=I1.tuple hl
 refine HT.Qh3 (show s1.heap.IsTuple d its.toArray from pd) (show s1.heap.IsTuple l its2.toArray from pl) λh' Z kp=>?_
 have I2:Inv X pins σ H1 { s1 with heap:=h' }:=I1.kept (t':=s1.toks) kp
 have hdlt:d<s1.heap.objs.size:=by obtain ⟨o,e,_⟩:=pd;exact Heap.lt_size e
 have hllt:l<s1.heap.objs.size:=by obtain ⟨o,e,_⟩:=pl;exact Heap.lt_size e
 refine wpAny_pyIter_zip Z.z ⟨s1.heap.objs.size+4,[s1.heap.objs.size+4,s1.heap.objs.size+2,s1.heap.objs.size+3,s1.heap.objs.size,s1.heap.objs.size+1],_,_,_,rfl,I2,Qfk s1.heap.objs.size d l hdlt hllt,Z,λb hb=>?_,q⟩
 have hb':s1.heap.objs.size<=b:=by
  simp only [List.mem_cons,List.mem_nil_iff,or_false] at hb
  rcases hb with rfl | rfl | rfl | rfl | rfl
  ·exact Nat.le_add_right _ _
  ·exact Nat.le_add_right _ _
  ·exact Nat.le_add_right _ _
  ·exact Nat.le_refl _
  ·exact Nat.le_add_right _ _
 exact I1.fpOk hb' (I1.hok.fresh hb')
end
end L2
namespace L2
open PySem PySem.Spec PyProof.Rows
open Builtin.Str (glued partsBetween occurrences tooLong strSub)
section
variable {X:Cx}
end
end L2
namespace L2
open PySem PySem.Spec PyProof.Rows
section
variable {X:Cx}
end
end L2
namespace HT
open PySem PySem.Spec PyProof.Rows L2
section
variable {prog:Program} {w:World} {A:Around} {E:Value->Shared->Prop} {s:Shared}
end
section
variable {prog:Program} {w:World} {A:Around} {E:Value->Shared->Prop} {s:Shared}
end
end HT
namespace L2
open PySem PySem.Spec PyProof.Rows
section
variable {X:Cx}
end
end L2
namespace L2
open PySem PySem.Spec PyProof.Rows
open Builtin.Str (occurrences strSub subAt)
section
variable {X:Cx} {e:Expr} {te:TE} {lo hi st:Option Expr} {tl th ts:TO} {p2 pos:Pos}
end
end L2
namespace Srt
open PySem PyProof.Rows
class KN where
 nk:Keyed->Int
 isN:Keyed->Prop
 kind:SortKind
open KN (nk isN kind)
class KL [KN] (prog:Program) (w:World) (A:Around) (E:Value->Shared->Prop) (s:Shared):Prop where
 lt:∀{st:SortSt} {x y:Keyed} {Q:Option Bool->SortSt->Prop},kindOf st=kind->isN x->isN y->Q (some (decide (nk x<nk y))) st->wpS (model prog w) A E s (lt' x y) Q st
variable [KN]
def K (xs:Array Keyed) (i:Nat):Int:=match xs[i]? with
 | some p=>nk p
 | none=>0
section
variable {prog:Program} {w:World} {A:Around} {E:Value->Shared->Prop} {s:Shared} [KL prog w A E s]
variable {st:SortSt} {left:Bool} {key:Keyed} {xs:Array Keyed} {b n hint:Nat}
end
end Srt
namespace Srt
open PySem PyProof.Rows
open KN (nk isN kind)
variable [KN]
section
variable {prog:Program} {w:World} {A:Around} {E:Value->Shared->Prop} {s:Shared} [KL prog w A E s] {st:SortSt} {x y:Array Keyed}
abbrev R1:=Option (Array Keyed) × Array Keyed × Nat × Nat × Nat × Nat
end
end Srt
namespace Srt
open PySem PyProof.Rows
open KN (nk isN kind)
variable [KN]
section
variable {prog:Program} {w:World} {A:Around} {E:Value->Shared->Prop} {s:Shared} [KL prog w A E s] {st:SortSt} {x y:Array Keyed}
end
end Srt
namespace Srt
open PySem PyProof.Rows
open KN (nk isN kind)
variable [KN]
section
variable {prog:Program} {w:World} {A:Around} {E:Value->Shared->Prop} {s:Shared} [KL prog w A E s] {st:SortSt}
structure Ok (st:SortSt):Prop where
 k:kindOf st=kind
 n:∀p∈(arrOf st).toList,isN p
 f:failedOf st=none
end
end Srt
namespace Srt
open PySem PyProof.Rows
open KN (nk isN kind)
variable [KN]
section
variable {prog:Program} {w:World} {A:Around} {E:Value->Shared->Prop} {s:Shared} [KL prog w A E s] {st st0:SortSt} {lo:Nat}
end
end Srt
namespace Srt
open PySem PyProof.Rows
open KN (nk isN kind)
variable [KN]
section
variable {prog:Program} {w:World} {A:Around} {E:Value->Shared->Prop} {s:Shared} [KL prog w A E s] {st st0:SortSt} {lo:Nat}
end
end Srt
namespace Srt
open PySem PyProof.Rows
open KN (nk isN kind)
variable [KN]
section
variable {prog:Program} {w:World} {A:Around} {E:Value->Shared->Prop} {s:Shared} [KL prog w A E s] {st:SortSt} {a₀:Array Keyed} {runs:List (List Keyed)} {T:List Keyed}
end
end Srt
namespace Srt
open PySem PyProof.Rows
section
variable {prog:Program} {w:World} {A:Around} {E:Value->Shared->Prop} {s:Shared}
end
end Srt
namespace Srt
open PySem PyProof.Rows
section
variable {prog:Program} {w:World} {A:Around} {E:Value->Shared->Prop} {s:Shared}
end
end Srt
namespace Srt
open PySem PyProof.Rows
open PySem.SeqAt
open PySem.AutoSeq1 (wpAny_loadPart')
open PySem.MeetsSeq PySem.MeetsSeq2 PySem.MeetsSeq3
section
variable {prog:Program} {w:World} {A:Around} {E:Value->Shared->Prop} {s:Shared}
end
end Srt
namespace L2
open PySem PySem.Spec PyProof.Rows
section
variable {X:Cx}
end
end L2
namespace RV
open PySem PySem.Spec
section
variable {prog:Program} {w:World} {A:Around} {E:Value->Shared->Prop} {s:Shared}
end
end RV
namespace L2
open PySem PySem.Spec PyProof.Rows
section
variable {X:Cx} {tg:Expr}
end
end L2
namespace PT
open PySem PySem.Spec
section
variable {prog:Program} {w:World} {K:Type} [DecidableEq K] {knd:HeapKind prog w K} {A:Around} {E:Value->Shared->Prop} {s:Shared}
theorem Qby {α β:Type} {f:α->β}:∀{l:List α} {i:Nat},(l.map f).eraseIdx i=(l.eraseIdx i).map f
 | [],_=>rfl
 | _::_,0=>rfl
 | x::l,i+1=>by rw [List.map_cons,List.eraseIdx_cons_succ,List.eraseIdx_cons_succ,List.map_cons,Qby]
theorem Qgy {d:Addr} (hd:(d == sysModules)=false):MeetsIn prog w (Builtin.«dict.__len__» ⟨[.ref d],[]⟩) (λ_ R s=>∃xs,s.heap.DictOfH knd d xs/\R (.ok (.ret (.int xs.length s.toks))) { s with toks:=s.toks+1 }) :=
 .of_wp λA R s ⟨xs,hm,h⟩=>by
  obtain ⟨o,es,ep,ho,hc,hdat,he,his,hn⟩:=hm
  show wpAny _ _ (dictSize d >>= _) _ _ s
  unfold dictSize
  refine wpAny_bind (wpAny_bind (wpAny_dictEntries ho hdat (wpAny_pure ?_)))
  show wpAny _ _ (Builtin.Dict.pendingCount d >>= _) _ _ s
  refine wpAny_bind (wpAny_pendingCount_other hd ?_)
  refine wpAny_ret_mkInt ?_
  have:es.size=xs.length:=size_of_entries he
  rw [Nat.add_zero,this];exact h
theorem Qen {d:Addr} {xs:List (K × Addr × Value)} {Q:Value->Shared->Prop} (hd:(d == sysModules)=false) (hm:s.heap.DictOfH knd d xs) (hfit:(xs.length:Int)<2 ^ 63)
  (h:Q (.int xs.length (s.toks+1)) { s with toks:=s.toks+1+1 }):wpAny (model prog w) A (call (.builtin "len") [.ref d]) Q E s:=by
 refine Calls.call_function_entry kind_len plain_len entry_len (args_len1 _) ?_
 unfold Builtin.«len»
 refine wpAny_bind (m:=oneArg "len" _) (wpAny_pure ?_)
 refine wpAny_bind (m:=callSpecial? (.ref d) (Str.ofString "__len__")) (wpAny_callSpecial?_slot (name:=Str.ofString "__len__") hm.typeIs F.slot_dict_len
  (call_meetsIn F.slot_dict_len hm.typeIs F.entry_dict_len (F.args_dict_len_1 _) (Qgy (knd:=knd) hd) ⟨xs,hm,?_⟩))
 show wpAny _ _ _ _ _ { s with toks:=s.toks+1 }
 refine wpAny_bind (wpAny_holding (wpAny_pure ?_))
 refine wpAny_bind (wpAny_letGo ?_)
 show wpAny _ _ (if ((xs.length:Nat):Int)<0 then _ else _) _ _ _
 rw [if_neg (by omega)]
 show wpAny _ _ (if ((xs.length:Nat):Int) ≥ 2 ^ 63 then _ else _) _ _ _
 rw [if_neg (by omega)]
 exact wpAny_bind (wpAny_mkInt (wpAny_pure ⟨_,rfl,h⟩))
end
end PT
namespace L2
open PySem PySem.Spec PyProof.Rows
section
variable {X:Cx} {pins:List (Addr × Obj)} {σ:St} {H:Hp} {s:Shared} {a b:Addr} {kvs:List (List Key × V)} {k:List Key} {A:Around} {E:Value->Shared->Prop}
end
end L2
namespace Mx
open PySem PySem.Spec L2
abbrev MK:=Int ⊕ List Key
section
variable (P:Program) (w:World)
def is (h:Heap):MK->Value->Prop
 | .inl i,u=>∃t,u=.int i t
 | .inr ks,u=>∃b,u=.ref b/\(tupleKind (Q4 P w)).is h ks b
def hash:MK->Int
 | .inl i=>hashInt i
 | .inr ks=>(tupleKind (Q4 P w)).hash ks
def Vb:MK->Nat
 | .inl _=>1
 | .inr ks=>ks.length+1
end
section
variable {P:Program} {w:World} {A:Around} {E:Value->Shared->Prop} {s:Shared} {x y k:MK} {u v:Value} {h h':Heap}
theorem Qrj (hx:is P w h x u) (hy:is P w h y u):x=y:=by
 cases x with
 | inl i =>
  obtain ⟨t,rfl⟩:=hx
  cases y with
  | inl j=>obtain ⟨t',e⟩:=hy;cases e;rfl
  | inr ks=>obtain ⟨b,e,_⟩:=hy;cases e
 | inr ks =>
  obtain ⟨b,rfl,hb⟩:=hx
  cases y with
  | inl j=>obtain ⟨t',e⟩:=hy;cases e
  | inr ls =>
   obtain ⟨b',e,hb'⟩:=hy
   cases e
   rw [(tupleKind (Q4 P w)).inj hb hb']
theorem V5 {d:Addr} {o:Obj} {es ep} (hx:is P w h x u) (ho:h.get? d=some o) (hd:o.data=.dict es ep) (hs:Heap.SameBut d h h'):is P w h' x u:=by
 cases x with
 | inl i=>exact hx
 | inr ks =>
  obtain ⟨b,e,hb⟩:=hx
  exact ⟨b,e,(tupleKind (Q4 P w)).keeps hb ho hd hs⟩
theorem Qcz {Q:Int->Shared->Prop} (hu:A.units<cLine) (hx:is P w s.heap k u) (q:Q (hash P w k) { s with toks:=s.toks+Vb k }):wpAny (model P w) A (pyHash u) Q E s:=by
 cases k with
 | inl i=>obtain ⟨t,rfl⟩:=hx;exact wpAny_pyHash_int q
 | inr ks=>obtain ⟨b,rfl,hb⟩:=hx;exact (tupleKind (Q4 P w)).pyHash hu hb q
theorem Qli {ks:List Key} {b:Addr} (hb:(tupleKind (Q4 P w)).is h ks b):∃its,h.IsTuple b its:=by
 obtain ⟨o,items,n,ho,hc,hd,_⟩:=hb
 exact ⟨items,o,ho,hc,n,hd⟩
theorem Qn6 {Q:Bool->Shared->Prop} (hu:A.units<cLine) (hx:is P w s.heap x u) (hy:is P w s.heap y v) (q:Q (decide (x=y)) s):wpAny (model P w) A (eqBool u v) Q E s:=by
 cases x with
 | inl i =>
  obtain ⟨t,rfl⟩:=hx
  cases y with
  | inl j =>
   obtain ⟨t',rfl⟩:=hy
   refine wpAny_eqBool_int ?_
   have e:decide ((Sum.inl i:MK)=.inl j)=decide (i=j):=by simp
   rw [e] at q
   exact q
  | inr ks =>
   obtain ⟨b,rfl,hb⟩:=hy
   obtain ⟨its,ht⟩:=Qli hb
   have e:decide ((Sum.inl i:MK)=.inr ks)=false:=by simp
   rw [e] at q
   exact SeqAt.EqAt.int_tuple i t ht hu _ _ _ _ q
 | inr ks =>
  obtain ⟨b,rfl,hb⟩:=hx
  obtain ⟨its,ht⟩:=Qli hb
  cases y with
  | inl j =>
   obtain ⟨t',rfl⟩:=hy
   have e:decide ((Sum.inr ks:MK)=.inl j)=false:=by simp
   rw [e] at q
   exact SeqAt.EqAt.tuple_int j t' ht hu _ _ _ _ q
  | inr ls =>
   obtain ⟨b',rfl,hb'⟩:=hy
   have e:decide ((Sum.inr ks:MK)=.inr ls)=decide (ks=ls):=by simp
   rw [e] at q
   exact (tupleKind (Q4 P w)).eqBool hu hb hb' q
theorem Qed {Q:Bool->Shared->Prop} (hx:is P w s.heap k u) (q:Q true s):wpAny (model P w) A (eqIsQuiet 8 u) Q E s:=by
 cases k with
 | inl i =>
  obtain ⟨t,rfl⟩:=hx
  rw [eqIsQuiet_byValue 8 (v:=.int i t) rfl]
  exact wpAny_pure q
 | inr ks =>
  obtain ⟨b,rfl,hb⟩:=hx
  exact (tupleKind (Q4 P w)).quiet hb q
end
end Mx
namespace Mx
open PySem PySem.Spec L2
section
variable (P:Program) (w:World)
def ent (x:MK × Value × Value):DictEntry:={ hash:=hash P w x.1,key:=x.2.1,val:=x.2.2 }
end
section
variable {P:Program} {w:World} {A:Around} {E:Value->Shared->Prop} {s:Shared} {k:MK} {u:Value} {xs:List (MK × Value × Value)} {es:Array DictEntry}
theorem Gv (he:es.toList=xs.map (ent P w)) (j:Nat):es[j]? = (xs[j]?).map (ent P w):=by
 rw [← Array.getElem?_toList,he,List.getElem?_map]
theorem U2 (he:es.toList=xs.map (ent P w)):es.size=xs.length:=by rw [← Array.length_toList,he,List.length_map]
abbrev pl (P:Program) (w:World) (es:Array DictEntry) (k:MK):List Nat:=placesWithHash es.size (λi=>es[i]?.map (·.hash)) (hash P w k)
theorem Gi (he:es.toList=xs.map (ent P w)) {i:Nat}:i∈pl P w es k↔∃x,xs[i]? = some x/\hash P w x.1=hash P w k:=by
 show i∈(List.range es.size).filter _↔_
 rw [List.mem_filter,List.mem_range]
 show i<es.size/\((es[i]?.map (·.hash)) == some (hash P w k))=true↔_
 rw [Gv he,U2 he]
 constructor
 ·rintro ⟨hi,hh⟩
  refine ⟨xs[i],List.getElem?_eq_getElem hi,?_⟩
  rw [List.getElem?_eq_getElem hi] at hh
  simpa [ent] using hh
 ·rintro ⟨x,hx,hh⟩
  exact ⟨(List.getElem?_eq_some_iff.mp hx).1,by rw [hx];simpa [ent] using hh⟩
theorem Qd0:(pl P w es k).Nodup:=List.Pairwise.filter _ List.nodup_range
theorem Qg0 (hn:(xs.map (·.1)).Nodup) {i j:Nat} {p q:Value × Value} (hi:xs[i]? = some (k,p)) (hj:xs[j]? = some (k,q)):i=j:=by
 have h1:(xs.map (·.1))[i]? = some k:=by rw [List.getElem?_map,hi];rfl
 have h2:(xs.map (·.1))[j]? = some k:=by rw [List.getElem?_map,hj];rfl
 exact (List.getElem?_inj (List.getElem?_eq_some_iff.mp h1).1 hn).mp (h1.trans h2.symm)
theorem Qeq {d:Addr} {o:Obj} {ep:Nat} {Q:Option Nat->Shared->Prop} (hu:A.units<cLine) (hk:is P w s.heap k u) (ho:s.heap.get? d=some o) (hd:o.data=.dict es ep) (he:es.toList=xs.map (ent P w)) (his:∀x∈xs,is P w s.heap x.1 x.2.1)
  (hnone:(∀(j:Nat) (p:Value × Value),xs[j]? ≠ some (k,p))->Q none s) (hsome:∀(j:Nat) (p:Value × Value),xs[j]? = some (k,p)->Q (some j) s):wpAny (model P w) A (dictWalkPlain d u (hash P w k) es (pl P w es k)) Q E s:=by
 unfold dictWalkPlain
 refine wpAny_bind ?_
 refine wpAny_forIn_list _ (λrest b s'=>s'=s/\b=(none,())/\∃done,done++rest=pl P w es k/\∀j∈done,∀p,xs[j]? ≠ some (k,p)) _ ?_ ?_ _ _ ⟨rfl,rfl,[],rfl,λj hj=>nomatch hj⟩
 ·rintro i rest b s' ⟨rfl,rfl,done,hdn,hno⟩
  have hin:i∈pl P w es k:=by rw [← hdn];simp
  obtain ⟨x,hx,hh⟩:=(Gi he).mp hin
  rw [Gv he,hx]
  show wpAny _ _ (if (hash P w x.1 == hash P w k)=true then _ else _) _ _ _
  rw [if_pos (by simpa using hh)]
  refine wpAny_bind (wpAny_dictEpoch ho hd (wpAny_bind (Qn6 (x:=x.1) (y:=k) hu (his x (List.mem_of_getElem? hx)) hk (wpAny_bind (wpAny_dictEpoch ho hd ?_)))))
  show wpAny _ _ (if (ep != ep)=true then _ else _) _ _ _
  rw [if_neg (by simp)]
  by_cases hkk:x.1=k
  ·rw [decide_eq_true hkk]
   exact wpAny_bind (wpAny_rule (wpAny_pure (wpAny_pure (hsome i x.2 (by rw [hx,← hkk])))))
  ·rw [decide_eq_false hkk]
   refine wpAny_bind (wpAny_rule (wpAny_pure ⟨rfl,rfl,done++[i],by rw [List.append_assoc];exact hdn,λj hj p hp=>?_⟩))
   rcases List.mem_append.mp hj with hj | hj
   ·exact hno j hj p hp
   ·rw [List.mem_singleton.mp hj,hx] at hp
    cases hp
    exact hkk rfl
 ·rintro b s' ⟨rfl,rfl,done,hdn,hno⟩
  rw [List.append_nil] at hdn
  exact wpAny_pure (hnone λj p hj=>hno j (by rw [hdn];exact (Gi he).mpr ⟨_,hj,rfl⟩) p hj)
theorem Qa6 {st:List Value} {Q:Bool->Shared->Prop} (hk:is P w s.heap k u) (hst:∀v∈st,∃x,is P w s.heap x v) (q:Q false s):wpAny (model P w) A (tableMayTell u st) Q E s:=by
 unfold tableMayTell
 split
 ·exact wpAny_pure q
 ·refine wpAny_bind (Qed hk ?_)
  simp only [Bool.not_true,Bool.false_eq_true,if_false]
  refine wpAny_bind (wpAny_forIn_list _ (λrest r s'=>r=(none,())/\s'=s/\∀v∈rest,∃x,is P w s.heap x v) _ ?_ ?_ _ _ ⟨rfl,rfl,hst⟩)
  ·rintro v rest r s' ⟨rfl,rfl,hr⟩
   obtain ⟨x,hx⟩:=hr v List.mem_cons_self
   refine wpAny_bind (Qed hx ?_)
   simp only [Bool.not_true,Bool.false_eq_true,if_false]
   exact wpAny_pure ⟨rfl,rfl,λz hz=>hr z (List.mem_cons_of_mem _ hz)⟩
  ·rintro r s' ⟨rfl,rfl,_⟩
   exact wpAny_pure q
theorem find {d:Addr} {o:Obj} {ep:Nat} {Q:Option Nat->Shared->Prop} (hu:A.units<cLine) (hk:is P w s.heap k u) (ho:s.heap.get? d=some o) (hd:o.data=.dict es ep) (he:es.toList=xs.map (ent P w)) (his:∀x∈xs,is P w s.heap x.1 x.2.1) (hn:(xs.map (·.1)).Nodup)
  (hnone:(∀(j:Nat) (p:Value × Value),xs[j]? ≠ some (k,p))->Q none s) (hsome:∀(j:Nat) (p:Value × Value),xs[j]? = some (k,p)->Q (some j) s):wpAny (model P w) A (dictFind d u (hash P w k)) Q E s:=by
 have hst:∀v∈(pl P w es k).filterMap (λi=>es[i]?.map (·.key)),∃x,is P w s.heap x v:=λv hv=>by
  obtain ⟨i,hi,hv⟩:=List.mem_filterMap.mp hv
  obtain ⟨x,hx,_⟩:=(Gi he).mp hi
  rw [Gv he,hx] at hv
  cases hv
  exact ⟨x.1,his x (List.mem_of_getElem? hx)⟩
 have hany:¬(es.any λe=>e.key == u && e.hash != hash P w k)=true:=by
  rw [← Array.any_toList,List.any_eq_true]
  rintro ⟨e,hin,hc⟩
  rw [he] at hin
  obtain ⟨x,hx,rfl⟩:=List.mem_map.mp hin
  rw [Bool.and_eq_true] at hc
  have e1:x.2.1=u:=by have:=hc.1;simpa [ent] using this
  have e2:hash P w x.1≠hash P w k:=by have:=hc.2;simpa [ent] using this
  have h1:=his x hx
  rw [e1] at h1
  exact e2 (by rw [Qrj h1 hk])
 unfold dictFind
 try with_reducible refine wpAny_holding ?_
 refine wpAny_bind (wpAny_dictEntries ho hd ?_)
 have plain:=Qeq (E:=E) hu hk ho hd he his hnone hsome
 cases k with
 | inl i =>
  obtain ⟨t,rfl⟩:=id hk
  dsimp only
  by_cases ha:((Value.int i t::(pl P w es (.inl i)).filterMap (λi=>es[i]?.map (·.key))).all carriedByValue)=true
  ·rw [if_pos ha]
   exact plain
  rw [if_neg ha]
  by_cases hone:(((pl P w es (.inl i)).filterMap (λi=>es[i]?.map (·.key))) == [Value.int i t])=true <;>
  (first | rw [if_pos hone] | rw [if_neg hone]) <;> (first | refine wpAny_bind (wpAny_pure ?_) | refine wpAny_bind (Qa6 hk hst ?_)) <;> (
   rw [if_neg (by simp)]
   refine wpAny_bind (wpAny_forIn_list _ (λrest b s'=>s'=s/\∃hit done,b=(none,hit)/\done++rest=pl P w es (.inl i) /\
    ((hit=none/\∀j∈done,∀p,xs[j]? ≠ some ((.inl i),p))\/∃j p,hit=some j/\j∈done/\xs[j]? = some ((.inl i),p))) _ ?_ ?_ _ _ ⟨rfl,none,[],rfl,rfl,.inl ⟨rfl,λj hj=>nomatch hj⟩⟩)
   ·rintro i0 rest b0 s' ⟨rfl,hit,done,rfl,hdn,hH⟩
    have hin:i0∈pl P w es (.inl i):=by rw [← hdn];simp
    obtain ⟨x,hx,hh⟩:=(Gi he).mp hin
    rw [Gv he,hx]
    show wpAny _ _ (if (hash P w x.1 == hash P w (.inl i))=true then _ else _) _ _ _
    rw [if_pos (by simpa using hh)]
    refine wpAny_bind (wpAny_dictEpoch ho hd (wpAny_bind (Qn6 (x:=x.1) (y:=(.inl i)) hu (his x (List.mem_of_getElem? hx)) hk (wpAny_bind (wpAny_dictEpoch ho hd ?_)))))
    show wpAny _ _ (if (ep != ep)=true then _ else _) _ _ _
    rw [if_neg (by simp)]
    by_cases hkk:x.1=(.inl i)
    ·rw [decide_eq_true hkk]
     have hx':xs[i0]? = some ((.inl i),x.2):=by rw [hx,← hkk]
     rcases hH with ⟨rfl,_⟩ | ⟨j,p,_,hj,hj2⟩
     ·simp only [Option.isSome_none,Bool.false_eq_true,if_false,if_true,reduceIte]
      refine wpAny_bind (wpAny_rule ?_)
      split
      ·exact wpAny_pure (wpAny_pure (hsome i0 _ hx'))
      ·exact wpAny_pure ⟨rfl,some i0,done++[i0],rfl,by rw [List.append_assoc];exact hdn,.inr ⟨i0,_,rfl,by simp,hx'⟩⟩
     ·have:=Qg0 hn hj2 hx'
      subst this
      have nd:(done++j::rest).Nodup:=by rw [hdn];exact Qd0
      exact absurd rfl ((List.nodup_append.mp nd).2.2 j hj j List.mem_cons_self)
    ·rw [decide_eq_false hkk]
     simp only [Bool.false_eq_true,if_false,reduceIte,Bool.false_and,Bool.and_false]
     refine wpAny_bind (wpAny_rule (wpAny_pure ⟨rfl,hit,done++[i0],rfl,by rw [List.append_assoc];exact hdn,?_⟩))
     rcases hH with ⟨h0,hno⟩ | ⟨j,p,h1,hj,hj2⟩
     ·refine .inl ⟨h0,λj hj p hp=>?_⟩
      rcases List.mem_append.mp hj with hj | hj
      ·exact hno j hj p hp
      ·rw [List.mem_singleton.mp hj,hx] at hp
       cases hp
       exact hkk rfl
     ·exact .inr ⟨j,p,h1,by simp [hj],hj2⟩
   ·rintro b0 s' ⟨rfl,hit,done,rfl,hdn,hH⟩
    rw [List.append_nil] at hdn
    rcases hH with ⟨rfl,hno⟩ | ⟨j,p,rfl,hj,hj2⟩
    ·exact wpAny_pure (hnone λj p hj=>hno j (by rw [hdn];exact (Gi he).mpr ⟨_,hj,rfl⟩) p hj)
    ·exact wpAny_pure (hsome j p hj2))
 | inr ks =>
  obtain ⟨b,rfl,hb⟩:=id hk
  dsimp only
  rw [if_neg (by simp [carriedByValue]),if_neg hany]
  by_cases hone:(((pl P w es (.inr ks)).filterMap (λi=>es[i]?.map (·.key))) == [Value.ref b])=true <;>
  (first | rw [if_pos hone] | rw [if_neg hone]) <;> (first | refine wpAny_bind (wpAny_pure ?_) | refine wpAny_bind (Qa6 hk hst ?_)) <;> (
   rw [if_neg (by simp)]
   refine wpAny_bind (wpAny_forIn_list _ (λrest b s'=>s'=s/\∃hit done,b=(none,hit)/\done++rest=pl P w es (.inr ks) /\
    ((hit=none/\∀j∈done,∀p,xs[j]? ≠ some ((.inr ks),p))\/∃j p,hit=some j/\j∈done/\xs[j]? = some ((.inr ks),p))) _ ?_ ?_ _ _ ⟨rfl,none,[],rfl,rfl,.inl ⟨rfl,λj hj=>nomatch hj⟩⟩)
   ·rintro i0 rest b0 s' ⟨rfl,hit,done,rfl,hdn,hH⟩
    have hin:i0∈pl P w es (.inr ks):=by rw [← hdn];simp
    obtain ⟨x,hx,hh⟩:=(Gi he).mp hin
    rw [Gv he,hx]
    show wpAny _ _ (if (hash P w x.1 == hash P w (.inr ks))=true then _ else _) _ _ _
    rw [if_pos (by simpa using hh)]
    refine wpAny_bind (wpAny_dictEpoch ho hd (wpAny_bind (Qn6 (x:=x.1) (y:=(.inr ks)) hu (his x (List.mem_of_getElem? hx)) hk (wpAny_bind (wpAny_dictEpoch ho hd ?_)))))
    show wpAny _ _ (if (ep != ep)=true then _ else _) _ _ _
    rw [if_neg (by simp)]
    by_cases hkk:x.1=(.inr ks)
    ·rw [decide_eq_true hkk]
     have hx':xs[i0]? = some ((.inr ks),x.2):=by rw [hx,← hkk]
     rcases hH with ⟨rfl,_⟩ | ⟨j,p,_,hj,hj2⟩
     ·simp only [Option.isSome_none,Bool.false_eq_true,if_false,if_true,reduceIte]
      refine wpAny_bind (wpAny_rule ?_)
      split
      ·exact wpAny_pure (wpAny_pure (hsome i0 _ hx'))
      ·exact wpAny_pure ⟨rfl,some i0,done++[i0],rfl,by rw [List.append_assoc];exact hdn,.inr ⟨i0,_,rfl,by simp,hx'⟩⟩
     ·have:=Qg0 hn hj2 hx'
      subst this
      have nd:(done++j::rest).Nodup:=by rw [hdn];exact Qd0
      exact absurd rfl ((List.nodup_append.mp nd).2.2 j hj j List.mem_cons_self)
    ·rw [decide_eq_false hkk]
     simp only [Bool.false_eq_true,if_false,reduceIte,Bool.false_and,Bool.and_false]
     refine wpAny_bind (wpAny_rule (wpAny_pure ⟨rfl,hit,done++[i0],rfl,by rw [List.append_assoc];exact hdn,?_⟩))
     rcases hH with ⟨h0,hno⟩ | ⟨j,p,h1,hj,hj2⟩
     ·refine .inl ⟨h0,λj hj p hp=>?_⟩
      rcases List.mem_append.mp hj with hj | hj
      ·exact hno j hj p hp
      ·rw [List.mem_singleton.mp hj,hx] at hp
       cases hp
       exact hkk rfl
     ·exact .inr ⟨j,p,h1,by simp [hj],hj2⟩
   ·rintro b0 s' ⟨rfl,hit,done,rfl,hdn,hH⟩
    rw [List.append_nil] at hdn
    rcases hH with ⟨rfl,hno⟩ | ⟨j,p,rfl,hj,hj2⟩
    ·exact wpAny_pure (hnone λj p hj=>hno j (by rw [hdn];exact (Gi he).mpr ⟨_,hj,rfl⟩) p hj)
    ·exact wpAny_pure (hsome j p hj2))
end
end Mx
namespace Mx
open PySem PySem.Spec L2
abbrev XS:=List (MK × Value × Value)
def atM (xs:XS) (k:MK):Option (Value × Value):=(xs.find? λx=>decide (x.1=k)).map (·.2)
def putM (xs:XS) (k:MK) (u v:Value):XS:=if (atM xs k).isSome=true then xs.map (λx=>if x.1=k then (x.1,x.2.1,v) else x) else xs++[(k,u,v)]
def Qb0 (xs:XS) (k:MK):XS:=xs.filter λx=>decide (x.1≠k)
theorem Qav:∀{xs:XS} {j:Nat} {k:MK} {p:Value × Value},(xs.map (·.1)).Nodup->xs[j]? = some (k,p)->atM xs k=some p
 | x::xs,0,k,p,_,h=>by
  cases h
  unfold atM
  rw [List.find?_cons_of_pos (by simp)]
  rfl
 | x::xs,j+1,k,p,hn,h=>by
  obtain ⟨h1,h2⟩:=List.nodup_cons.mp hn
  have h':xs[j]? = some (k,p):=by simpa using h
  have hx:x.1≠k:=λe=>h1 (by show x.1∈_;rw [e];exact List.mem_map.mpr ⟨_,List.mem_of_getElem? h',rfl⟩)
  have:=Qav h2 h'
  unfold atM at this ⊢
  rw [List.find?_cons_of_neg (by simpa using hx)]
  exact this
theorem Qau {xs:XS} {k:MK} (h:∀(j:Nat) (p:Value × Value),xs[j]? ≠ some (k,p)):atM xs k=none:=by
 unfold atM
 rw [List.find?_eq_none.mpr ?_]
 ·rfl
 ·intro x hx hk
  obtain ⟨j,hj⟩:=List.mem_iff_getElem?.mp hx
  have e:x.1=k:=of_decide_eq_true hk
  exact h j x.2 (by rw [hj,← e])
section
variable (P:Program) (w:World)
def Vn (h:Heap) (d:Addr) (xs:XS):Prop:=∃o es ep,h.get? d=some o/\o.ExactDict/\o.data=.dict es ep/\es.toList=xs.map (ent P w)/\(∀x∈xs,is P w h x.1 x.2.1)/\(xs.map (·.1)).Nodup
end
section
variable {P:Program} {w:World} {A:Around} {E:Value->Shared->Prop} {s:Shared} {k:MK} {u v:Value} {xs:XS} {d:Addr}
theorem Vn.ty (m:Vn P w s.heap d xs):s.TypeIs (.ref d) "dict":=by
 obtain ⟨o,_,_,ho,hc,_⟩:=m
 exact ⟨o,ho,hc.1⟩
theorem get {Q:Option Value->Shared->Prop} (hu:A.units<cLine) (hk:is P w s.heap k u) (m:Vn P w s.heap d xs) (q:Q ((atM xs k).map (·.2)) { s with toks:=s.toks+Vb k }):wpAny (model P w) A (dictGet d u) Q E s:=by
 obtain ⟨o,es,ep,ho,_,hd,he,his,hn⟩:=m
 unfold dictGet
 try with_reducible refine wpAny_holding ?_
 refine wpAny_bind (Qcz hu hk (wpAny_bind (find (s:={ s with toks:=s.toks+Vb k }) hu hk ho hd he his hn (λhno=>?_) λj p hj=>?_)))
 ·rw [Qau hno] at q
  exact wpAny_pure q
 ·rw [Qav hn hj] at q
  refine wpAny_bind (wpAny_dictEntries (s:={ s with toks:=s.toks+Vb k }) ho hd ?_)
  rw [Gv he j,hj]
  exact wpAny_pure q
theorem Qji {xs:XS} {k:MK} {v:Value} (h:k∉xs.map (·.1)):(xs.map λx=>if x.1=k then (x.1,x.2.1,v) else x)=xs:=by
 have:(xs.map λx=>if x.1=k then (x.1,x.2.1,v) else x)=xs.map id:=List.map_congr_left λx hx=>if_neg λe=>h (by rw [← e];exact List.mem_map.mpr ⟨x,hx,rfl⟩)
 rw [this,List.map_id]
theorem Qgu {k:MK} {v:Value}:∀{xs:XS} {j:Nat} {p:Value × Value},(xs.map (·.1)).Nodup->xs[j]? = some (k,p)->(xs.map (ent P w)).modify j (λe=>{ e with val:=v })=(xs.map λx=>if x.1=k then (x.1,x.2.1,v) else x).map (ent P w)
 | x::xs,0,p,hn,h=>by
  cases h
  obtain ⟨h1,_⟩:=List.nodup_cons.mp hn
  rw [List.map_cons,List.map_cons,Qji h1,if_pos rfl]
  rfl
 | x::xs,j+1,p,hn,h=>by
  obtain ⟨h1,h2⟩:=List.nodup_cons.mp hn
  have h':xs[j]? = some (k,p):=by simpa using h
  have hx:x.1≠k:=λe=>h1 (by show x.1∈_;rw [e];exact List.mem_map.mpr ⟨_,List.mem_of_getElem? h',rfl⟩)
  rw [List.map_cons,List.map_cons,if_neg hx,List.map_cons,← Qgu h2 h']
  rfl
theorem set {Q:Unit->Shared->Prop} (hu:A.units<cLine) (hk:is P w s.heap k u) (m:Vn P w s.heap d xs) (hz:xs.length<=sizeLine)
  (q:∀h',Vn P w h' d (putM xs k u v)->Heap.SameBut d s.heap h'->Q () { s with heap:=h',toks:=s.toks+Vb k }):wpAny (model P w) A (dictSet d u v) Q E s:=by
 obtain ⟨o,es,ep,ho,hc,hd,he,his,hn⟩:=m
 unfold dictSet
 try with_reducible refine wpAny_holding ?_
 refine wpAny_bind (Qcz hu hk ?_)
 unfold dictSetHashed
 try with_reducible refine wpAny_holding ?_
 refine wpAny_bind (find (s:={ s with toks:=s.toks+Vb k }) hu hk ho hd he his hn (λhno=>?_) λj p hj=>?_)
 ·have ek:putM xs k u v=xs++[(k,u,v)]:=by unfold putM;rw [Qau hno];rfl
  have hnot:k∉xs.map (·.1):=λhm=>by
   obtain ⟨x,hx,rfl⟩:=List.mem_map.mp hm
   obtain ⟨j,hj⟩:=List.mem_iff_getElem?.mp hx
   exact hno j x.2 hj
  refine wpAny_bind (wpAny_rule (wpAny_updateDictKeys (hz:=by have e:=U2 he;omega) (s:={ s with toks:=s.toks+Vb k }) ho hd (q _ ⟨_,_,ep+1,Heap.get?_update_self _ ho (Obj.isFreed_of_dict (Obj.data_mapDictKeys hd _)),
   hc.mapDictKeys _,Obj.data_mapDictKeys hd _,?_,?_,?_⟩ (Heap.SameBut.update ..))))
  ·rw [ek];simp [he,ent]
  ·rw [ek]
   intro x hx
   rcases List.mem_append.mp hx with hx | hx
   ·exact V5 (his x hx) ho hd (Heap.SameBut.update ..)
   ·rw [List.mem_singleton.mp hx]
    exact V5 hk ho hd (Heap.SameBut.update ..)
  ·rw [ek,List.map_append]
   refine List.nodup_append.mpr ⟨hn,by simp,λa ha b hb=>?_⟩
   rw [List.map_cons,List.map_nil,List.mem_singleton] at hb
   subst hb
   exact λe=>hnot (e ▸ ha)
 ·have ek:putM xs k u v=xs.map (λx=>if x.1=k then (x.1,x.2.1,v) else x):=by unfold putM;rw [Qav hn hj];rfl
  refine wpAny_bind (wpAny_rule (wpAny_bind (wpAny_updateDict (s:={ s with toks:=s.toks+Vb k }) ho hd (wpAny_point (q _ ⟨_,_,ep,Heap.get?_update_self _ ho (Obj.isFreed_of_dict (Obj.data_mapDict hd _)),
   hc.mapDict _,Obj.data_mapDict hd _,?_,?_,?_⟩ (Heap.SameBut.update ..))))))
  ·rw [ek,← Qgu hn hj,← he]
   obtain ⟨l⟩:=es
   simp
  ·rw [ek]
   intro x hx
   obtain ⟨y,hy,rfl⟩:=List.mem_map.mp hx
   split
   ·exact V5 (his y hy) ho hd (Heap.SameBut.update ..)
   ·exact V5 (his y hy) ho hd (Heap.SameBut.update ..)
  ·rw [ek,List.map_map]
   have:((λx:MK × Value × Value=>x.1) ∘ λx:MK × Value × Value=>if x.1=k then (x.1,x.2.1,v) else x)=λx=>x.1:=by
    funext x
    show (if x.1=k then (x.1,x.2.1,v) else x).1=x.1
    split <;> rfl
   rw [this];exact hn
end
end Mx
namespace Mx
open PySem PySem.Spec L2
theorem Qhn {k:MK}:∀{xs:XS} {j:Nat} {p:Value × Value},(xs.map (·.1)).Nodup->xs[j]? = some (k,p)->xs.eraseIdx j=Qb0 xs k
 | x::xs,0,p,hn,h=>by
  cases h
  obtain ⟨h1,_⟩:=List.nodup_cons.mp hn
  unfold Qb0
  rw [List.eraseIdx_cons_zero,List.filter_cons_of_neg (by simp)]
  refine (List.filter_eq_self.mpr λy hy=>?_).symm
  exact decide_eq_true λe=>h1 (by show k∈_;rw [← e];exact List.mem_map.mpr ⟨y,hy,rfl⟩)
 | x::xs,j+1,p,hn,h=>by
  obtain ⟨h1,h2⟩:=List.nodup_cons.mp hn
  have h':xs[j]? = some (k,p):=by simpa using h
  have hx:x.1≠k:=λe=>h1 (by show x.1∈_;rw [e];exact List.mem_map.mpr ⟨_,List.mem_of_getElem? h',rfl⟩)
  rw [List.eraseIdx_cons_succ,Qhn h2 h']
  unfold Qb0
  rw [List.filter_cons_of_pos (by simpa using hx)]
section
variable {P:Program} {w:World} {A:Around} {E:Value->Shared->Prop} {s:Shared} {k:MK} {u v:Value} {xs:XS} {d:Addr}
theorem take {Q:Option DictEntry->Shared->Prop} (hu:A.units<cLine) (hk:is P w s.heap k u) (m:Vn P w s.heap d xs) (hz:xs.length<=sizeLine)
  (q0:atM xs k=none->Q none { s with toks:=s.toks+Vb k })
  (q:∀p e h',atM xs k=some p->e.val=p.2->Vn P w h' d (Qb0 xs k)->Heap.SameBut d s.heap h'->Q (some e) { s with heap:=h',toks:=s.toks+Vb k }):wpAny (model P w) A (Builtin.Dict.takeOut d u) Q E s:=by
 obtain ⟨o,es,ep,ho,hc,hd,he,his,hn⟩:=m
 unfold Builtin.Dict.takeOut
 try with_reducible refine wpAny_holding ?_
 refine wpAny_bind (Qcz hu hk (wpAny_bind (find (s:={ s with toks:=s.toks+Vb k }) hu hk ho hd he his hn (λhno=>?_) λj p hj=>?_)))
 ·exact wpAny_pure (q0 (Qau hno))
 ·refine wpAny_bind (wpAny_dictEntries (s:={ s with toks:=s.toks+Vb k }) ho hd ?_)
  rw [Gv he j,hj]
  refine wpAny_bind (wpAny_updateDictKeys (hz:=by have e:=U2 he;omega) (s:={ s with toks:=s.toks+Vb k }) ho hd (wpAny_pure (q p _ _ (Qav hn hj) rfl ⟨_,_,ep+1,Heap.get?_update_self _ ho (Obj.isFreed_of_dict (Obj.data_mapDictKeys hd _)),
   hc.mapDictKeys _,Obj.data_mapDictKeys hd _,?_,?_,?_⟩ (Heap.SameBut.update ..))))
  ·rw [← Qhn hn hj]
   obtain ⟨l⟩:=es
   have:l=xs.map (ent P w):=he
   subst this
   simp [PT.Qby]
  ·intro x hx
   exact V5 (his x (List.mem_filter.mp hx).1) ho hd (Heap.SameBut.update ..)
  ·exact hn.sublist (List.filter_sublist.map _)
theorem get3 {dflt:Value} (hd:(d == sysModules)=false):MeetsIn P w (Builtin.«dict.get» ⟨[.ref d,u,dflt],[]⟩) (λA R s=>A.in1.units<cLine/\∃k xs,is P w s.heap k u/\Vn P w s.heap d xs /\
   R (.ok (.ret (((atM xs k).map (·.2)).getD dflt))) { s with toks:=s.toks+Vb k }) :=
 .of_wp λA R s ⟨hu,k,xs,hk,m,q⟩=>by
  show wpAny _ _ (dictGet d u >>= _) _ _ s
  refine wpAny_bind (get hu hk m ?_)
  cases hf:(atM xs k).map (·.2) with
  | some v =>
   rw [hf] at q
   exact wpAny_pure ⟨v,rfl,q⟩
  | none =>
   rw [hf] at q
   show wpAny _ _ (Builtin.Dict.missed d u >>= _) _ _ _
   exact wpAny_bind (wpAny_missed_other hd (wpAny_pure ⟨dflt,rfl,q⟩))
theorem pop3 {dflt:Value} (hd:(d == sysModules)=false):MeetsIn P w (Builtin.«dict.pop» ⟨[.ref d,u,dflt],[]⟩) (λA R s=>A.in1.units<cLine/\∃k xs,is P w s.heap k u/\Vn P w s.heap d xs/\xs.length<=sizeLine /\
   (atM xs k=none->∀t,R (.ok (.ret dflt)) { s with toks:=t })/\∀p h',atM xs k=some p->Vn P w h' d (Qb0 xs k)->Heap.SameBut d s.heap h'->R (.ok (.ret p.2)) { s with heap:=h',toks:=s.toks+Vb k }) :=
 .of_wp λA R s ⟨hu,k,xs,hk,m,hz,q0,q⟩=>by
  unfold Builtin.«dict.pop»
  refine wpAny_bind ?_
  unfold Builtin.Dict.keyAndDefault
  refine wpAny_bind (wpAny_notOrdered_dict m.ty ?_)
  show wpAny _ _ (pure (d,u,some dflt)) _ _ s
  refine wpAny_pure ?_
  have miss:atM xs k=none->∀t,wpAny (model P w) A.in1 (if (none:Option DictEntry).isNone=true then (do
     let __r ← Builtin.Dict.missedRemoval d u
     (do rule "dict.pop.default";ret dflt)) else (do rule "dict.pop.default";ret dflt)) (λfin s'=>∃v,fin=PySem.Fin.done (.ret v)/\R (.ok (.ret v)) s') (λe s'=>R (.error e) s') { s with toks:=t }:=λh t=>by
   rw [if_pos (show (none:Option DictEntry).isNone=true from rfl)]
   exact wpAny_bind (wpAny_missedRemoval_other hd (wpAny_bind (wpAny_rule (wpAny_pure ⟨dflt,rfl,q0 h t⟩))))
  have hit:∀p e h',atM xs k=some p->e.val=p.2->Vn P w h' d (Qb0 xs k)->Heap.SameBut d s.heap h'->wpAny (model P w) A.in1 (if (some e:Option DictEntry).isNone=true then (do
     let __r ← Builtin.Dict.missedRemoval d u
     (do letGo [e.key] [e.val];ret e.val)) else (do letGo [e.key] [e.val];ret e.val)) (λfin s'=>∃v,fin=PySem.Fin.done (.ret v)/\R (.ok (.ret v)) s') (λe s'=>R (.error e) s') { s with heap:=h',toks:=s.toks+Vb k }:=λp e h' h1 h2 h3 h4=>by
   rw [if_neg (by simp)]
   exact wpAny_bind (wpAny_letGo (wpAny_pure ⟨e.val,rfl,by rw [h2];exact q p h' h1 h3 h4⟩))
  cases k with
  | inl i =>
   obtain ⟨t,rfl⟩:=id hk
   show wpAny _ _ (if (keyPart (Value.int i t)).isSome=true then _ else _) _ _ _
   rw [if_pos (show (keyPart (Value.int i t)).isSome=true from rfl)]
   refine wpAny_bind (wpAny_pure ?_)
   show wpAny _ _ (if false=true then _ else _) _ _ _
   rw [if_neg (by decide)]
   exact wpAny_bind (take hu hk m hz (λh=>miss h _) λp e h' h1 h2 h3 h4=>hit p e h' h1 h2 h3 h4)
  | inr ks =>
   obtain ⟨b,rfl,hb⟩:=id hk
   show wpAny _ _ (if (keyPart (Value.ref b)).isSome=true then _ else _) _ _ _
   rw [if_neg (by simp [keyPart])]
   obtain ⟨o,es,ep,ho,hc,hdt,he,his,hn⟩:=id m
   refine wpAny_bind (m:=dictEntries d none) (wpAny_dictEntries ho hdt ?_)
   refine wpAny_bind (wpAny_pure ?_)
   by_cases hem:es.isEmpty=true
   ·show wpAny _ _ (if es.isEmpty=true then _ else _) _ _ _
    rw [if_pos hem]
    have hx:xs=[]:=by
     have:=U2 he
     rw [Array.isEmpty_iff_size_eq_zero.mp hem] at this
     exact List.eq_nil_of_length_eq_zero this.symm
    exact wpAny_bind (wpAny_rule (wpAny_bind (wpAny_pure (miss (by rw [hx];rfl) s.toks))))
   ·show wpAny _ _ (if es.isEmpty=true then _ else _) _ _ _
    rw [if_neg hem]
    exact wpAny_bind (take hu hk m hz (λh=>miss h _) λp e h' h1 h2 h3 h4=>hit p e h' h1 h2 h3 h4)
end
end Mx
namespace Mx
open PySem PySem.Spec L2
abbrev MI:=Int ⊕ List Int
def kM:MI->MK
 | .inl i=>.inl i
 | .inr l=>.inr (l.map .inl)
def Qoa:MI->Int
 | .inl i=>hashInt i
 | .inr l=>reduceHash (Builtin.Tuple.tupleHashOf (l.map hashInt))
theorem Qn9 {P:Program} {w:World}:∀k:MI,hash P w (kM k)=Qoa k
 | .inl i=>rfl
 | .inr l=>by
  show reduceHash (Builtin.Tuple.tupleHashOf ((l.map Sum.inl).map (keyH w)))=_
  rw [List.map_map]
  rfl
theorem Qea:∀{j k:MI},kM j=kM k->j=k
 | .inl i,.inl j,h=>by
  have h:(Sum.inl i:MK)=.inl j:=h
  rw [Sum.inl.inj h]
 | .inl i,.inr l,h=>nomatch (show (Sum.inl i:MK)=.inr _ from h)
 | .inr l,.inl i,h=>nomatch (show (Sum.inr _:MK)=.inl i from h)
 | .inr l,.inr m,h=>by
  have h:(l.map Sum.inl:List Key)=m.map Sum.inl:=Sum.inr.inj h
  rw [(List.map_inj_right λ_ _ z=>Sum.inl.inj z).mp h]
abbrev KVM:=List (MI × V × V)
abbrev VM:=List (MI × Value × Value)
def RelE (p:MI × V × V) (q:MI × Value × Value):Prop:=p.1=q.1/\RelV p.2.1 q.2.1/\RelV p.2.2 q.2.2
def entI (q:MI × Value × Value):DictEntry:={ hash:=Qoa q.1,key:=q.2.1,val:=q.2.2 }
def up (q:MI × Value × Value):MK × Value × Value:=(kM q.1,q.2.1,q.2.2)
theorem Qln {P:Program} {w:World} {q:MI × Value × Value}:ent P w (up q)=entI q:=by
 show (⟨hash P w (kM q.1),q.2.1,q.2.2⟩:DictEntry)=⟨Qoa q.1,q.2.1,q.2.2⟩
 rw [Qn9]
def phi (a:Addr) (kvs:KVM) (h:Heap):Prop:=(a == sysModules)=false/\kvs.length<=sizeLine/\(kvs.map (·.1)).Nodup/\∃vs:VM,Paired RelE kvs vs/\∃o es ep,h.get? a=some o/\o.ExactDict/\o.data=.dict es ep/\es.toList=vs.map entI
def mixO (a:Addr) (kvs:KVM):HO:=.ext (phi a kvs)
def G7 (H:Hp):MI->V->Prop
 | .inl i,y=>y=.int i
 | .inr l,y=>∃b,y=.ref b/\H b=some (.tup (l.map V.int))
def Keys (H:Hp) (kvs:KVM):Prop:=∀p∈kvs,G7 H p.1 p.2.1
def valM (kvs:KVM) (k:MI):Option V:=(kvs.find? λp=>decide (p.1=k)).map (·.2.2)
def putV (kvs:KVM) (k:MI) (y v:V):KVM:=if (valM kvs k).isSome=true then kvs.map (λp=>if p.1=k then (p.1,p.2.1,v) else p) else kvs++[(k,y,v)]
def Qc4 (kvs:KVM) (k:MI):KVM:=kvs.filter λp=>decide (p.1≠k)
theorem Qbf {P:Program} {w:World} {H:Hp} {h:Heap} {a:Addr} {kvs:KVM} (p:phi a kvs h):Jh P w H h a (mixO a kvs):=by
 refine ⟨p,?_,λh1 h2 p1 k=>?_⟩
 ·obtain ⟨_,_,_,vs,_,o,es,ep,ho,_⟩:=p
  exact ⟨o,ho⟩
 ·obtain ⟨z1,z2,z3,vs,r,o,es,ep,ho,z⟩:=p1
  exact ⟨z1,z2,z3,vs,r,o,es,ep,k o ho,z⟩
section
variable {P:Program} {w:World} {H:Hp} {h:Heap} {a:Addr} {kvs:KVM} {vs:VM} {k:MI} {y v:V} {u r:Value}
theorem Qjm (ok:HOk P w H h) (e:G7 H k y) (ry:RelV y u):is P w h (kM k) u:=by
 cases k with
 | inl i =>
  have e:y=.int i:=e
  subst e
  obtain ⟨t,rfl⟩:=(show ∃t,u=Value.int i t from ry)
  exact ⟨t,rfl⟩
 | inr l =>
  obtain ⟨b,rfl,eb⟩:=(show ∃b,y=.ref b/\H b=some (.tup (l.map V.int)) from e)
  have ru:u=Value.ref b:=ry
  subst ru
  refine ⟨b,rfl,V4 ok ?_⟩
  rw [List.map_map]
  exact eb
theorem Qcw:∀{kvs:KVM} {vs:VM},Paired RelE kvs vs->kvs.map (·.1)=vs.map (·.1)
 | _,_,.nil=>rfl
 | _,_,.cons r t=>by rw [List.map_cons,List.map_cons,Qcw t,r.1]
theorem Qlw (ok:HOk P w H h):∀{kvs:KVM} {vs:VM},Paired RelE kvs vs->Keys H kvs->∀x∈vs.map up,is P w h x.1 x.2.1
 | _,_,.nil,_,x,hx=>nomatch hx
 | _,_,.cons r t,hk,x,hx=>by
  rcases List.mem_cons.mp hx with rfl | hx
  ·have:=Qjm ok (hk _ List.mem_cons_self) r.2.1
   rw [r.1] at this
   exact this
  ·exact Qlw ok t (λp hp=>hk p (List.mem_cons_of_mem _ hp)) x hx
theorem Qoi (ok:HOk P w H h) (e:H a=some (mixO a kvs)) (hk:Keys H kvs):(a == sysModules)=false/\kvs.length<=sizeLine/\∃vs,Paired RelE kvs vs/\Vn P w h a (vs.map up):=by
 obtain ⟨⟨z1,z2,z3,vs,r,o,es,ep,ho,hc,hd,he⟩,_⟩:=(show Jh P w H h a (mixO a kvs) from ok a _ e)
 refine ⟨z1,z2,vs,r,o,es,ep,ho,hc,hd,?_,Qlw ok r hk,?_⟩
 ·rw [he,List.map_map]
  exact List.map_congr_left λq _=>Qln.symm
 ·have e2:(vs.map up).map (·.1)=(vs.map (·.1)).map kM:=by rw [List.map_map,List.map_map];rfl
  rw [e2,← Qcw r]
  exact List.Pairwise.map _ (λ_ _ n z=>n (Qea z)) z3
theorem X3:∀{kvs:KVM} {vs:VM},Paired RelE kvs vs->RelO (valM kvs k) ((atM (vs.map up) (kM k)).map (·.2))
 | _,_,.nil=>trivial
 | _,_,@Paired.cons _ _ _ p q ps qs r t=>by
  unfold valM atM
  rw [List.map_cons]
  by_cases e:p.1=k
  ·rw [List.find?_cons_of_pos (by simpa using e),List.find?_cons_of_pos (by show decide (kM q.1=kM k)=true;rw [← r.1,e];simp)]
   exact r.2.2
  ·rw [List.find?_cons_of_neg (by simpa using e),List.find?_cons_of_neg (by show ¬decide (kM q.1=kM k)=true;rw [← r.1];simpa using λz=>e (Qea z))]
   exact X3 t
end
end Mx
namespace Mx
open PySem PySem.Spec L2
theorem Zg {k:MI}:∀{kvs:KVM} {vs:VM},Paired RelE kvs vs->Paired RelE (Qc4 kvs k) (vs.filter λq=>decide (q.1≠k))
 | _,_,.nil=>.nil
 | _,_,@Paired.cons _ _ _ p q ps qs r t=>by
  unfold Qc4
  by_cases e:p.1=k
  ·rw [List.filter_cons_of_neg (by simpa using e),List.filter_cons_of_neg (by rw [← r.1];simpa using e)]
   exact Zg t
  ·rw [List.filter_cons_of_pos (by simpa using e),List.filter_cons_of_pos (by rw [← r.1];simpa using e)]
   exact .cons r (Zg t)
theorem Qhl {k:MI}:∀{vs:VM},Qb0 (vs.map up) (kM k)=(vs.filter λq=>decide (q.1≠k)).map up
 | []=>rfl
 | q::vs=>by
  have ih:=Qhl (k:=k) (vs:=vs)
  unfold Qb0 at ih ⊢
  rw [List.map_cons]
  by_cases e:q.1=k
  ·rw [List.filter_cons_of_neg (by show ¬decide (kM q.1≠kM k)=true;simp [e]),List.filter_cons_of_neg (by simpa using e),ih]
  ·rw [List.filter_cons_of_pos (by show decide (kM q.1≠kM k)=true;simpa using λz=>e (Qea z)),List.filter_cons_of_pos (by simpa using e),List.map_cons,ih]
theorem Xo {k:MI} {v:V} {r:Value} (rv:RelV v r):∀{kvs:KVM} {vs:VM},Paired RelE kvs vs->Paired RelE (kvs.map λp=>if p.1=k then (p.1,p.2.1,v) else p) (vs.map λq=>if q.1=k then (q.1,q.2.1,r) else q)
 | _,_,.nil=>.nil
 | _,_,@Paired.cons _ _ _ p q ps qs h t=>by
  rw [List.map_cons,List.map_cons]
  refine .cons ?_ (Xo rv t)
  by_cases e:p.1=k
  ·rw [if_pos e,if_pos (h.1 ▸ e)]
   exact ⟨h.1,h.2.1,rv⟩
  ·rw [if_neg e,if_neg (h.1 ▸ e)]
   exact h
theorem Xp {α β:Type} {F:α->β->Prop} {a:α} {b:β} (h:F a b):∀{l:List α} {m:List β},Paired F l m->Paired F (l++[a]) (m++[b])
 | _,_,.nil=>.cons h .nil
 | _,_,.cons r t=>.cons r (Xp h t)
theorem Qp6 {k:MI} {u r:Value} {kvs:KVM} {vs:VM} {y v:V} (rel:Paired RelE kvs vs) (ry:RelV y u) (rv:RelV v r):∃vs',Paired RelE (putV kvs k y v) vs'/\putM (vs.map up) (kM k) u r=vs'.map up:=by
 have hv:=X3 (k:=k) rel
 unfold putV putM
 cases h1:valM kvs k with
 | none =>
  rw [h1] at hv
  cases h2:atM (vs.map up) (kM k) with
  | some p=>rw [h2] at hv;exact hv.elim
  | none =>
   refine ⟨vs++[(k,u,r)],Xp ⟨rfl,ry,rv⟩ rel,?_⟩
   rw [List.map_append]
   rfl
 | some v0 =>
  rw [h1] at hv
  cases h2:atM (vs.map up) (kM k) with
  | none=>rw [h2] at hv;exact hv.elim
  | some p =>
   refine ⟨_,Xo (k:=k) rv rel,?_⟩
   show (vs.map up).map _=_
   rw [List.map_map,List.map_map]
   refine List.map_congr_left λq _=>?_
   show (if kM q.1=kM k then (kM q.1,q.2.1,r) else up q)=up (if q.1=k then (q.1,q.2.1,r) else q)
   by_cases e:q.1=k
   ·rw [if_pos (show kM q.1=kM k by rw [e]),if_pos e];rfl
   ·rw [if_neg (λz=>e (Qea z)),if_neg e]
theorem Qiy {kvs:KVM} {k:MI} {y v:V}:(putV kvs k y v).length<=kvs.length+1:=by
 unfold putV
 split
 ·rw [List.length_map];omega
 ·rw [List.length_append];simp
section
variable {X:Cx} {pins:List (Addr × Obj)} {σ:St} {H:Hp} {s:Shared} {a:Addr} {kvs:KVM} {k:MI} {y v dv:V} {u r:Value} {A:Around} {E:Value->Shared->Prop}
theorem Qtg {Q:Value->Shared->Prop} (hu:A.units+1<cLine) (I:Inv X pins σ H s) (e:H a=some (mixO a kvs)) (hk:Keys H kvs) (ky:G7 H k y) (ry:RelV y u) (rd:RelV dv r) (h:∀w' s',Inv X pins σ H s'->RelV ((valM kvs k).getD dv) w'->Q w' s') :
  wpAny (model X.prog X.w) A (call (.builtin "dict.get") [.ref a,u,r]) Q E s:=by
 obtain ⟨hd,hz,vs,rel,dd⟩:=Qoi I.hok e hk
 exact call_meetsIn PySem.F.slot_dict_get dd.ty PySem.F.entry_dict_get (PySem.F.args_dict_get_3 _ _ _) (get3 hd) ⟨hu,kM k,_,Qjm I.hok ky ry,dd,h _ _ (I.tok _) ((X3 rel).getD rd)⟩
theorem Qk9 {P:Program} {w:World} {h':Heap} {vs:VM} (hd:(a == sysModules)=false) (hz:kvs.length<=sizeLine) (rel:Paired RelE kvs vs) (dd:Vn P w h' a (vs.map up)):phi a kvs h':=by
 obtain ⟨o,es,ep,ho,hc,hdt,he,_,hn⟩:=dd
 refine ⟨hd,hz,?_,vs,rel,o,es,ep,ho,hc,hdt,?_⟩
 ·rw [Qcw rel]
  have e2:(vs.map up).map (·.1)=(vs.map (·.1)).map kM:=by rw [List.map_map,List.map_map];rfl
  rw [e2] at hn
  exact (List.pairwise_map.mp hn).imp λn z=>n (by rw [z])
 ·rw [he,List.map_map]
  exact List.map_congr_left λq _=>Qln
theorem Vn.there {P:Program} {w:World} {h':Heap} {xs:XS} (dd:Vn P w h' a xs):∃q,h'.get? a=some q:=by
 obtain ⟨o,_,_,ho,_⟩:=dd
 exact ⟨o,ho⟩
theorem Qtf {Q:Value->Shared->Prop} (hu:A.units+1<cLine) (I:Inv X pins σ H s) (e:H a=some (mixO a kvs)) (hk:Keys H kvs) (ky:G7 H k y) (ry:RelV y u)
  (h0:valM kvs k=none->∀s',Inv X pins σ H s'->Q r s') (h1:∀v w' s',valM kvs k=some v->Inv X pins σ (upd H a (mixO a (Qc4 kvs k))) s'->RelV v w'->Q w' s') :
  wpAny (model X.prog X.w) A (call (.builtin "dict.pop") [.ref a,u,r]) Q E s:=by
 obtain ⟨hd,hz,vs,rel,dd⟩:=Qoi I.hok e hk
 have hv:=X3 (k:=k) rel
 refine call_meetsIn PySem.F.slot_dict_pop dd.ty PySem.F.entry_dict_pop (PySem.F.args_dict_pop_3 _ _ _) (pop3 hd) ⟨hu,kM k,_,Qjm I.hok ky ry,dd,by rw [List.length_map,← Paired.length rel];exact hz,λhn t=>?_,λp h' hp dd' hs=>?_⟩
 ·rw [hn] at hv
  cases hv1:valM kvs k with
  | none=>exact h0 hv1 _ (I.tok _)
  | some v=>rw [hv1] at hv;exact hv.elim
 ·rw [hp] at hv
  cases hv1:valM kvs k with
  | none=>rw [hv1] at hv;exact hv.elim
  | some v =>
   rw [hv1] at hv
   rw [Qhl] at dd'
   exact h1 v _ _ hv1 (Qap I (by rw [e];exact True.intro) hs dd'.there (Qbf (Qk9 hd (Nat.le_trans (List.length_filter_le _ _) hz) (Zg rel) dd'))) hv
theorem Qte {Q:Unit->Shared->Prop} (hu:A.units+1<cLine) (I:Inv X pins σ H s) (e:H a=some (mixO a kvs)) (hk:Keys H kvs) (ky:G7 H k y) (ry:RelV y u) (rv:RelV v r) (hl:kvs.length<sizeLine) (h:∀s',Inv X pins σ (upd H a (mixO a (putV kvs k y v))) s'->Q () s') :
  wpAny (model X.prog X.w) A (setItem (.ref a) u r) Q E s:=by
 obtain ⟨hd,hz,vs,rel,dd⟩:=Qoi I.hok e hk
 obtain ⟨vs',rel',ep⟩:=Qp6 (k:=k) rel ry rv
 have inner:∀{E':Value->Shared->Prop},wpAny (model X.prog X.w) A.in1 (dictSet a u r) (λ_ s'=>Q () s') E' s:=set hu (Qjm I.hok ky ry) dd (by rw [List.length_map,← Paired.length rel];exact hz) λh' dd' hs=>by
  rw [ep] at dd'
  exact h _ (Qap I (by rw [e];exact True.intro) hs dd'.there (Qbf (Qk9 hd (Nat.le_trans Qiy hl) rel' dd')))
 have sd:=slot_dict_setitem
 unfold setItem
 try with_reducible refine wpAny_holding ?_
 refine wpAny_bind (wpAny_sequenceKey dd.ty rfl ?_)
 refine wpAny_bind <| wpAny_callSpecial?_slot (name:=Str.ofString "__setitem__") dd.ty sd <|
  wpAny_call_entry sd dd.ty entry_dict_setitem ?_ <| args_dict_setitem _ _ _
 show wpAny _ _ (Builtin.Dict.notOrdered _ ⟨[.ref a,u,r],[]⟩ >>= _) _ _ s
 refine wpAny_bind (wpAny_notOrdered_dict dd.ty ?_)
 show wpAny _ _ (dictSet a u r >>= _) _ _ s
 exact wpAny_bind (wpAny_mono inner (λ_ s' q=>wpAny_pure ⟨.none,rfl,wpAny_pure q⟩) λ_ _ z=>z)
end
end Mx
namespace Srt
open PySem PyProof.Rows
theorem Qkk:∀vs:List Value,(vs.zip vs).map (·.2)=vs
 | []=>rfl
 | v::vs=>congrArg (v :: ·) (Qkk vs)
theorem Qmj {prog:Program} {w:World} {A:Around} {E:Value->Shared->Prop} {s:Shared} {a:Addr} {vs:List Value} {n:Nat} {P:Fin->Shared->Prop} (ho:s.heap.get? a=some (seqObj "list" vs.toArray n)) (h2:vs.length<2) (h:P (.done (.ret .none)) { s with heap:=sortedHeap s.heap a vs vs.toArray }):wpAny (model prog w) A (Builtin.«list.sort» ⟨[.ref a],[]⟩) P E s:=by
 rw [list_sort_plain]
 have hbig:2<=sizeLine:=by decide
 have ha:a<s.heap.objs.size:=Heap.lt_size ho
 refine wpAny_bind (listItems_at ho rfl ?_)
 refine wpAny_bind (listUpdate_at ho rfl ?_)
 obtain ⟨e1,ho1⟩:∃e1,(s.heap.update a (Obj.mapSeq λ_=>#[])).get? a=some (seqObj "list" #[] e1):=⟨_,get?_update_seq ho (λ_=>#[])⟩
 refine wpAny_bind (seqEpoch_at ho1 rfl ?_)
 refine wpAny_bind (wpAny_newTuple ?_ (by simp;omega))
 refine wpAny_bind (wpAny_newList ?_)
 refine wpAny_holding ?_
 have ho6:(((s.heap.update a (Obj.mapSeq λ_=>#[])).push (seqObj "tuple" vs.toArray 0)).push (seqObj "list" #[] 0)).get? a=some (seqObj "list" #[] e1):=by
  rw [Heap.get?_push_ne _ _ _ (by rw [size_push',Heap.size_update];exact Nat.ne_of_lt (Nat.lt_succ_of_lt ha)),Heap.get?_push_ne _ _ _ (by rw [Heap.size_update];exact Nat.ne_of_lt ha)]
  exact ho1
 show wpAny (model prog w) A _ P E { s with heap:=((s.heap.update a (Obj.mapSeq λ_=>#[])).push (seqObj "tuple" vs.toArray 0)).push (seqObj "list" #[] 0) }
 dsimp only
 have hsz:vs.toArray.size=vs.length:=by simp
 rw [if_pos (by omega),if_pos (by omega)]
 refine wpAny_bind (wpAny_pure ?_)
 rw [StateT.run_pure]
 refine wpAny_bind (wpAny_pure ?_)
 dsimp only
 refine wpAny_bind (seqEpoch_at ho6 rfl ?_)
 have e:((vs.toArray.zip vs.toArray).map (·.2))=vs.toArray:=by
  rw [List.zip_toArray,List.map_toArray]
  exact congrArg _ (Qkk vs)
 refine wpAny_bind (listUpdate_at ho6 rfl ?_ (hsz2:=by show ((vs.toArray.zip vs.toArray).map (·.2)).size<=_;rw [e];omega))
 simp only [bne_self_eq_false,Bool.false_eq_true,if_false]
 show wpAny (model prog w) A _ P E { s with heap:=sortedHeap s.heap a vs ((vs.toArray.zip vs.toArray).map (·.2)) }
 rw [e]
 exact wpAny_pure h
end Srt
namespace L2
open PySem PySem.Spec PyProof.Rows
section
variable {X:Cx}
theorem Qnu (num:Nat->Int):SortT.Ord λi j=>decide (num i<num j) :=
 ⟨λi j h=>decide_eq_false (by have:=of_decide_eq_true h;omega),λi j k h1 h2=>decide_eq_false (by have:=of_decide_eq_false h1;have:=of_decide_eq_false h2;omega)⟩
structure PT2 (H:Hp) (a:Addr) (f g:List Int):Prop where
 at_:∃b c,H a=some (.tup [.ref b,.ref c])/\H b=some (.tup (f.map V.int))/\H c=some (.tup (g.map V.int))
def Qm0:List V->Hp->VK->Prop:=λxs H Q=>∃(l:Addr) (as:List Addr) (f g:Nat->List Int) (num:Nat->Int),xs=[.ref l]/\H l=some (.lst (as.map V.ref))/\as.length<64 /\
 (∀(i:Nat) a,as[i]? = some a->PT2 H a (f i) (g i))/\(∀i j,i<as.length->j<as.length->f i=f j->i=j)/\(∀i j,i<as.length->j<as.length->HT.Y5 (f i) (f j)=decide (num i<num j)) /\
 ∀(p:List Nat) (D:Addr),p.Perm (List.range as.length)->(∀(i j x y:Nat),i<=j->p[i]? = some x->p[j]? = some y->num x<=num y)->H D=none->Q (.ref D) (upd H D (.lst (p.map λi=>.ref (as.getD i 0))))
theorem Qk8 {P:Program} {w:World} {H:Hp} {h:Heap} (ok:HOk P w H h):∀(as:List Addr) (f g:Nat->List Int),(∀(i:Nat) a,as[i]? = some a->PT2 H a (f i) (g i)) ->
  ∃fs:List Value,PySem.W.KatTups h (as.map Value.ref) fs/\fs.length=as.length/\∀v∈fs,∃(b:Addr) (o:Obj),v=Value.ref b/\h.get? b=some o/\o.cls=.type "tuple"
 | [],_,_,_=>⟨[],PySem.W.KatTups.nil,rfl,λ_ h=>nomatch h⟩
 | a::as,f,g,hk=>by
  obtain ⟨fs,h1,h2,h3⟩:=Qk8 ok as (λi=>f (i+1)) (λi=>g (i+1)) λi b e=>hk (i+1) b (by simpa using e)
  obtain ⟨b,c,ha,hb,hc⟩:=hk 0 a rfl
  obtain ⟨_,its,rv,o,e1,e2,n,e3⟩:=ok a _ ha
  obtain ⟨_,_,_,ob,eb,cb,_⟩:=ok b _ hb
  cases rv with
  | cons r rs =>
   cases r
   refine ⟨Value.ref b::fs,PySem.W.KatTups.cons e1 e2 e3 (by simp) h1,by simp [h2],λv hv=>?_⟩
   rcases List.mem_cons.mp hv with rfl | hv
   ·exact ⟨b,ob,rfl,eb,cb⟩
   ·exact h3 v hv
theorem Qc7 (hu:X.A.units+66<cLine):Vo X (.builtin "sorted") Qm0:=by
 intro pins s σ H xs us Q I r h
 obtain ⟨l,as,f,g,num,rfl,hl,h64,hk,hinj,hlex,q⟩:=h
 obtain ⟨u,rfl,ru⟩:=X2 r
 cases ru
 obtain ⟨z,its,n,rv,e⟩:=I.hok l _ hl
 have eits:its=as.map Value.ref:=by
  have gen:∀(as:List Addr) (its:List Value),Vals (as.map V.ref) its->its=as.map Value.ref:=by
   intro as
   induction as with
   | nil=>intro its r;cases r;rfl
   | cons a as ih=>intro its r;cases r with | cons r1 r2=>cases r1;rw [ih _ r2];rfl
  exact gen as its rv
 subst eits
 obtain ⟨m,F⟩:=I.fr
 have hlist:s.heap.IsList l (as.map Value.ref).toArray:=⟨_,e,rfl,n,rfl⟩
 have hlen:(as.map Value.ref).length=as.length:=List.length_map _
 by_cases h2:2<=as.length
 ·refine PySem.W.kat_sorted (vs:=as.map Value.ref) F Qjg hlist (by rw [hlen];exact h2) (by rw [hlen];exact h64) λD e1 h' F' N' hlt=>?_
  have hk':∀p∈G6 X.base s.heap X.env.locals,h'.get? p.1=some p.2:=λp hp=>(N' p (List.mem_cons_of_mem _ hp)).1
  have kp:∀b u,b≠X.env.locals->s.heap.get? b=some u->h'.get? b=some u:=λb u hb e=>by
   cases q:X.base.get? b with
   | some v=>have:=F.keep b v q;rw [e] at this;cases this;exact F'.keep b _ q
   | none=>exact hk' (b,u) (Vg hb q e)
  have hok:HOk X.prog X.w H h':=λb q e=>(I.hok b q e).stay (λc v hc z=>kp c v (λy=>by
   rcases hc with rfl | hc
   ·rw [y,I.free] at e;cases e
   ·rw [y,I.free] at hc;cases hc) z) (λ_ z=>z) λ_ _ z=>z
  have hDn:s.heap.get? D=none:=by
   cases q:s.heap.get? D with
   | none=>rfl
   | some o =>
    have nD:=N' (D,_) List.mem_cons_self
    have:=hlt (D,o) (Vg nD.2.1 nD.2.2 q)
    exact absurd this (Nat.lt_irrefl _)
  obtain ⟨fs,k1,k2,k3⟩:=Qk8 hok as f g hk
  refine PySem.W.kat_kind (s:={ s with heap:=h' }) (T:=.type "tuple") k1 (by omega) (λv hv=>by
   obtain ⟨b,o,rfl,gb,cb⟩:=k3 v hv
   have L:PySem.W.Looks (model X.prog X.w) h' (typeOf (.ref b)) o.cls:=(PySem.W.Looks.ld gb).andThen .now
   rw [cb] at L
   exact L) (by decide) ?_
  show (PySem.W.kas_sort (as.map Value.ref).length).kasWp (PySem.W.kas_ask X.prog X.w X.A.in1.in1 (tuples' false) (as.map Value.ref)) _ { s with heap:=h' }
  rw [hlen]
  refine SortT.Qfi (f:=λi j=>decide (num i<num j)) (P:=SortT.LtN as.length) (λi j C hij hC=>?_) _ (SortT.Qiq (by omega)) ?_
  ·obtain ⟨hi,hj⟩:=hij
   have ai:as[i]? = some as[i]:=by simp [hi]
   have aj:as[j]? = some as[j]:=by simp [hj]
   obtain ⟨bi,ci',ti,tbi,tci⟩:=(hk i _ ai).at_
   obtain ⟨bj,cj',tj,tbj,tcj⟩:=(hk j _ aj).at_
   obtain ⟨_,us,ri,oi,gi,ci,ni,di⟩:=hok _ _ ti
   obtain ⟨_,vs,rj,oj,gj,cj,nj,dj⟩:=hok _ _ tj
   unfold PySem.W.kas_ask
   rw [show (as.map Value.ref).getD i Value.none=.ref as[i] by simp [hi],show (as.map Value.ref).getD j Value.none=.ref as[j] by simp [hj]]
   cases ri with
   | cons ri1 ri=>cases ri with
    | cons ri2 ri=>cases ri;cases rj with
     | cons rj1 rj=>cases rj with
      | cons rj2 rj =>
       cases rj
       cases ri1;cases ri2;cases rj1;cases rj2
       have eqs:∀{b c:Addr} {x y:List Int} {R:Bool->Shared->Prop},H b=some (.tup (x.map V.int))->H c=some (.tup (y.map V.int))->R (decide (x=y)) { s with heap:=h' }->wpAny (model X.prog X.w) X.A.in1.in1 (eqBool (.ref b) (.ref c)) R (λ_ _=>False) { s with heap:=h' }:=λ{b c x y R} hb hc hR=>by
        have kb:=V4 (P:=X.prog) (w:=X.w) (ks:=x.map Sum.inl) hok (by rw [List.map_map];exact hb)
        have kc:=V4 (P:=X.prog) (w:=X.w) (ks:=y.map Sum.inl) hok (by rw [List.map_map];exact hc)
        refine (tupleKind (Q4 X.prog X.w)).eqBool (s:={ s with heap:=h' }) (by show X.A.units+1+1<cLine;omega) kb kc ?_
        have ee:decide ((x.map Sum.inl:List Key)=y.map Sum.inl)=decide (x=y):=by
         apply decide_eq_decide.mpr
         exact List.map_inj_right λ_ _ z=>Sum.inl.inj z
        rw [ee];exact hR
       refine PySem.W.kat_lt (s:={ s with heap:=h' }) gi di gj dj ?_
       show PySem.W.KatLex X.prog X.w X.A.in1.in1 false (decide (2<2)) C [(.ref bi,.ref bj),(.ref ci',.ref cj')] 0 { s with heap:=h' }
       refine PySem.W.kat_cons (eqs tbi tbj (PySem.W.kat_go (λey=>?_) λen=>?_))
       ·have hij:i=j:=hinj i j hi hj (of_decide_eq_true ey)
        subst hij
        have eg:ci'=cj':=by rw [ti] at tj;cases tj;rfl
        subst eg
        refine PySem.W.kat_yes (PySem.W.kat_cons (eqs tci tci (PySem.W.kat_go (λ_=>PySem.W.kat_yes (PySem.W.kat_nil ?_)) λen=>absurd en (by simp))))
        have:decide (num i<num i)=false:=by simp
        rw [this] at hC
        exact hC
       ·refine PySem.W.kat_no (PySem.W.kat_one _ _ ?_)
        obtain ⟨_,ub,rb,ob,gb,cb,nb,db⟩:=hok _ _ tbi
        obtain ⟨_,uc,rc,oc,gc,cc,nc,dc⟩:=hok _ _ tbj
        rw [← hlex i j hi hj] at hC
        exact HT.Xq (s:={ s with heap:=h' }) ⟨ob,gb,cb,nb,db⟩ ⟨oc,gc,cc,nc,dc⟩ (Z4 rb) (Z4 rc) (by show X.A.units+1+1<cLine;omega) hC
  ·obtain ⟨s1,s2⟩:=SortT.Qmi (Qnu num) (n:=as.length) (by omega)
   generalize SortT.runT (λi j=>decide (num i<num j)) (PySem.W.kas_sort as.length)=p at s1 s2
   have hplen:p.toList.length=as.length:=by rw [s1.length_eq,List.length_range]
   refine PySem.W.KasFin.intro F' N' (.head λq hq=>Nat.ne_of_lt (hlt q hq)) λh2 c F2 N2=>?_
   have hD2:h2.get? D=some (PySem.W.listOf (List.toArray (p.toList.map λi=>(as.map Value.ref).getD i Value.none)) c):=(N2 (D,_) List.mem_cons_self).1
   have rvo:Vals (p.toList.map λi=>V.ref (as.getD i 0)) (p.toList.map λi=>(as.map Value.ref).getD i Value.none):=by
    have gen:∀q:List Nat,(∀x∈q,x<as.length)->Vals (q.map λi=>V.ref (as.getD i 0)) (q.map λi=>(as.map Value.ref).getD i Value.none):=by
     intro q
     induction q with
     | nil=>intro _;exact .nil
     | cons x q ih =>
      intro hx
      have hx0:=hx x List.mem_cons_self
      refine .cons ?_ (ih λy hy=>hx y (List.mem_cons_of_mem _ hy))
      show (as.map Value.ref).getD x Value.none=Value.ref (as.getD x 0)
      simp [hx0]
    exact gen _ λx hx=>by simpa using s1.mem_iff.mp hx
   refine ⟨.ref D,_,I.ledgerNew (D:=D) (o:=.lst (p.toList.map λi=>V.ref (as.getD i 0))) (s':={ s with heap:=h2 }) rfl rfl F F2 (λq hq=>(N2 q (List.mem_cons_of_mem _ hq)).1) hDn ⟨?_,_,c,rvo,hD2⟩,rfl,q p.toList D s1 (λi j x y hij hx hy=>?_) ?_⟩
   ·rw [List.length_map,hplen];have:=(by decide:64<sizeLine);omega
   ·have ex:SortT.at_ p i=x:=by show p.getD i 0=x;rw [Array.getD_eq_getD_getElem?,← Array.getElem?_toList,hx];rfl
    have ey:SortT.at_ p j=y:=by show p.getD j 0=y;rw [Array.getD_eq_getD_getElem?,← Array.getElem?_toList,hy];rfl
    have hj:j<as.length:=by rw [← hplen];exact (List.getElem?_eq_some_iff.mp hy).1
    have:=s2 i j hij hj
    rw [ex,ey] at this
    have:=of_decide_eq_false this
    omega
   ·cases e:H D with
    | none=>rfl
    | some u=>obtain ⟨ob,q⟩:=(I.hok D u e).there;rw [hDn] at q;cases q
 ·have h2:(as.map Value.ref).length<2:=by rw [hlen];omega
  have gk:∀b (u:Obj),s.heap.get? b=some u->((s.heap.push (seqObj "list" #[] 0)).update s.heap.objs.size (Obj.mapSeq (· ++ (as.map Value.ref).toArray))).get? b=some u:=λb u e=>by
   have hlt:b<s.heap.objs.size:=Heap.lt_size e
   rw [Heap.get?_update_ne _ _ _ _ (Nat.ne_of_lt hlt),Heap.get?_push_ne _ _ _ (Nat.ne_of_lt hlt)]
   exact e
  have hus:(as.map Value.ref).length<=sizeLine:=Nat.le_trans (Nat.le_of_lt h2) (by decide)
  refine Calls.call_function_entry kind_sorted plain_sorted entry_sorted (args_sorted1 _) ?_
  unfold Builtin.«sorted»
  refine wpAny_bind (m:=checkCount "sorted" 1 1 _) (wpAny_pure ?_)
  refine wpAny_bind (collect_list hlist ?_ hus)
  refine wpAny_bind (wpAny_newList ?_ hus)
  generalize hg:(s.heap.push (seqObj "list" #[] 0)).update s.heap.objs.size (Obj.mapSeq (· ++ (as.map Value.ref).toArray))=gh at gk
  have hoL:(gh.push (seqObj "list" (as.map Value.ref).toArray 0)).get? gh.objs.size=some (seqObj "list" (as.map Value.ref).toArray 0):=Heap.get?_push_size _ rfl
  refine wpAny_bind (wpAny_holding (wpAny_call_entry slot_list_sort ⟨_,hoL,rfl⟩ entry_list_sort (Srt.Qmj hoL h2 ⟨_,rfl,?_⟩) (args_list_sort _)))
  refine wpAny_pure ⟨_,rfl,?_⟩
  obtain ⟨e,he⟩:=sortedHeap_at (out:=(as.map Value.ref).toArray) hoL
  have I1:Inv X pins σ H { s with heap:=gh,toks:=s.toks }:=I.kept (t':=s.toks) gk
  have I2:Inv X pins σ (upd H gh.objs.size (.lst (as.map V.ref))) { s with heap:=sortedHeap (gh.push (seqObj "list" (as.map Value.ref).toArray 0)) gh.objs.size (as.map Value.ref) (as.map Value.ref).toArray,toks:=s.toks }:=by
   refine I1.laid (t':=s.toks) (λb o eb=>?_) (Nat.le_refl _) ⟨?_,as.map Value.ref,e,rv,he⟩
   ·have hb:=Heap.lt_size eb
    rw [sortedHeap_old (Nat.ne_of_lt hb) (by rw [size_push'];exact Nat.lt_succ_of_lt hb)]
    exact Heap.get?_push_of_some _ eb
   ·rw [List.length_map];rw [List.length_map] at hus;exact hus
  have:=q (List.range as.length) gh.objs.size (.refl _) (λi j x y hij hx hy=>?_) (I1.hok.fresh (Nat.le_refl _))
  ·have e9:((List.range as.length).map λi=>V.ref (as.getD i 0))=as.map V.ref:=by
    apply List.ext_getElem?
    intro i
    rw [List.getElem?_map,List.getElem?_map]
    by_cases hi:i<as.length
    ·rw [List.getElem?_range hi];simp [hi]
    ·rw [List.getElem?_eq_none (by simpa using hi),List.getElem?_eq_none (by simpa using hi)];rfl
   rw [e9] at this
   exact ⟨.ref gh.objs.size,_,I2,rfl,this⟩
  ·have h1:i<1:=by have:=(List.getElem?_eq_some_iff.mp hx).1;rw [List.length_range] at this;rw [hlen] at h2;omega
   have h3:j<1:=by have:=(List.getElem?_eq_some_iff.mp hy).1;rw [List.length_range] at this;rw [hlen] at h2;omega
   have:i=j:=by omega
   subst this
   rw [hx] at hy
   cases hy
   exact Int.le_refl _
end
end L2
namespace L2
open PySem PySem.Spec PyProof.Rows
section
variable {M:Model} {A:Around} {E:Value->Shared->Prop} {s:Shared}
end
section
variable {X:Cx}
end
end L2
namespace L2
open PySem PySem.Spec PyProof.Rows
section
variable {prog:Program} {w:World} {A:Around} {E:Value->Shared->Prop} {s:Shared}
end
section
variable {X:Cx}
end
end L2
namespace Mx
open PySem PySem.Spec L2
section
variable {prog:Program} {w:World} {A:Around} {E:Value->Shared->Prop} {s:Shared} {d it:Addr} {i ep:Nat} {od:Obj} {es:Array DictEntry} {ok ov:Value}
theorem Qcy (hd:(d == sysModules)=false):MeetsIn prog w (Builtin.«dict.items» ⟨[.ref d],[]⟩) (λ_ R s=>(∃o,s.heap.get? d=some o/\o.ExactDict) /\
   R (.ok (.ret (.ref s.heap.objs.size))) { s with heap:=s.heap.push { cls:=.type "dict_items",data:=.fields #[.ref d] } }) :=
 .of_wp λA R s ⟨⟨o,ho,hc⟩,h⟩=>by
  unfold Builtin.«dict.items» Builtin.Dict.noArgs Builtin.Dict.showsAll
  refine wpAny_bind (wpAny_bind (wpAny_notOrdered_dict ⟨o,ho,hc.1⟩ ?_))
  show wpAny _ _ (pure d) _ _ s
  refine wpAny_pure ?_
  show wpAny _ _ ((if (d == sysModules)=true then _ else _) >>= _) _ _ s
  rw [if_neg (by rw [hd];exact Bool.false_ne_true)]
  exact wpAny_bind (wpAny_pure (wpAny_bind (wpAny_newObj_type (wpAny_pure ⟨_,rfl,h⟩))))
theorem Qe3 {v:Addr} {Q:Value->Shared->Prop} (hv:s.heap.IsItemsView v d) (ho:s.heap.get? d=some od) (hdat:od.data=.dict es ep)
  (hQ:Q (.ref s.heap.objs.size) { s with heap:=s.heap.push { cls:=.type "dict_itemiterator",data:=.fields #[.none,.bool false,.ref d,.int 0 0,.int es.size 0,.int ep 0,.none,.none] } }) :
  wpAny (model prog w) A (pyIter (.ref v)) Q E s:=by
 obtain ⟨o',hov,hcv,hdv⟩:=id hv
 refine wpAny_pyIter_slot hv.typeIs F.slot_dict_items_iter (wpAny_call_entry F.slot_dict_items_iter hv.typeIs F.entry_dict_items_iter ?_ (F.args_dict_items_iter_1 _))
 unfold Builtin.«dict_items.__iter__» Builtin.Dict_items.dictOf
 refine wpAny_bind (wpAny_pure (wpAny_bind (wpAny_bind (wpAny_field hov hdv (x:=.ref d) rfl (wpAny_pure (wpAny_bind ?_))))))
 unfold Builtin.Dict_items.newIterator
 refine wpAny_bind (wpAny_dictEntries ho hdat (wpAny_bind (wpAny_dictEpoch ho hdat ?_)))
 simp only [show Builtin.Dict_items.ownsTuple "dict_itemiterator" = true by decide,if_true]
 refine wpAny_newObj_type (wpAny_pure ⟨_,rfl,"dict_itemiterator",_,⟨_,Heap.get?_push_size _ rfl,rfl⟩,F.slot_dict_itemiterator_next.lookup,?_⟩)
  (by simp only [sizeOk,Builtin.Dict_items.ownedTupleFields,List.size_toArray,List.length_append,List.length_cons,List.length_nil,sizeLine_eq];omega)
 simpa [rawInt,Builtin.Dict_items.ownedTupleFields] using hQ
theorem Qe2 {e:DictEntry} {Q:Option Value->Shared->Prop} (hit:IsItemIter s.heap it d i es.size ep ok ov) (hod:s.heap.get? d=some od) (hdd:od.data=.dict es ep) (hx:es[i]? = some e)
  (hQ:∀h',IsItemIterOut h' it d (i+1) es.size ep e.key e.val s.heap.objs.size->h'.get? s.heap.objs.size=some { cls:=.type "tuple",data:=.seq #[e.key,e.val] } ->
   (∀b o,b≠it->s.heap.get? b=some o->h'.get? b=some o)->Q (some (.ref s.heap.objs.size)) { s with heap:=h' }):wpAny (model prog w) A (pyNext (.ref it)) Q E s:=by
 obtain ⟨hp,g,dr,tk,os⟩:=s
 have hT:Shared.TypeIs ⟨hp,g,dr,tk,os⟩ (.ref it) "dict_itemiterator":=⟨_,hit,rfl⟩
 unfold pyNext
 refine wpAny_bind (wpAny_attempt (wpAny_callSpecial?_slot (name:=Str.ofString "__next__") hT F.slot_dict_itemiterator_next
  (wpAny_call_entry F.slot_dict_itemiterator_next hT F.entry_dict_itemiterator_next ?_ (F.args_dict_itemiterator_next_1 _))))
 refine wpAny_bind (wpAny_pure (wpAny_bind (wpAny_bind ?_)))
 first | refine wpAny_bind (wpAny_typeNameOfWhole_itemiter hT (wpAny_pure ?_)) | refine wpAny_bind (wpAny_typeNameOf_itemiter hT (wpAny_pure ?_))
 refine wpAny_bind (wpAny_fieldsOf hit rfl ?_)
 simp only [show Builtin.Dict_items.ownsTuple "dict_itemiterator" = true by decide,if_true]
 show wpAny _ _ (if (Value.ref d == Value.none)=true then _ else _) _ _ _
 rw [if_neg (show ¬((Value.ref d == Value.none)=true) from Bool.false_ne_true)]
 refine wpAny_bind (wpAny_pure (wpAny_bind (wpAny_dictEntries hod hdd ?_)))
 rw [if_neg (by simp)]
 refine wpAny_bind (wpAny_pure (wpAny_bind (wpAny_dictEpoch hod hdd ?_)))
 rw [if_neg (by simp)]
 refine wpAny_pure ?_
 simp only [show ¬((i:Int)<0) from by omega,if_false,Int.toNat_natCast,hx]
 refine wpAny_bind ?_
 first | refine wpAny_bind (wpAny_typeNameOfWhole_itemiter hT (wpAny_pure ?_)) | refine wpAny_bind (wpAny_typeNameOf_itemiter hT (wpAny_pure ?_))
 refine wpAny_bind (wpAny_isOneOf_itemiter hT ?_)
 show wpAny _ _ (setField (.ref it) 3 (rawInt ((i:Int)+1)) >>= _) _ _ ⟨hp,g,dr,tk,os⟩
 refine wpAny_bind (wpAny_setField_rec hit (by simp) λh1 e1 s1=>?_)
 replace s1:Heap.SameBut it hp h1:=s1
 replace e1:IsItemIter h1 it d (i+1) es.size ep ok ov:=by
  have z:((i+1:Nat):Int)=(i:Int)+1:=by omega
  unfold IsItemIter;rw [z];simpa [rawInt] using e1
 have hT1:Shared.TypeIs ⟨h1,g,dr,tk,os⟩ (.ref it) "dict_itemiterator":=⟨_,e1,rfl⟩
 refine wpAny_bind (wpAny_holding (wpAny_bind (wpAny_isOneOf_itemiter hT1 (wpAny_bind (wpAny_isOneOf_itemiter hT1 ?_)))))
 show wpAny _ _ (Builtin.Dict_items.pairFromOwner (.ref it) 6 e.key e.val) _ _ ⟨h1,g,dr,tk,os⟩
 unfold Builtin.Dict_items.pairFromOwner
 refine wpAny_bind (wpAny_newTuple ?_)
 have e2:IsItemIter (h1.push { cls:=.type "tuple",data:=.seq #[e.key,e.val] }) it d (i+1) es.size ep ok ov:=Heap.get?_push_of_some _ e1
 generalize hh2:h1.push { cls:=.type "tuple",data:=.seq #[e.key,e.val] }=h2 at e2
 have z1:h1.objs.size=hp.objs.size:=s1.1
 have hil:it<hp.objs.size:=Heap.lt_size hit
 have t2:h2.get? hp.objs.size=some { cls:=.type "tuple",data:=.seq #[e.key,e.val] }:=by rw [← hh2,← z1];exact Heap.get?_push_size _ rfl
 have k2:∀b o,b≠it->hp.get? b=some o->h2.get? b=some o:=λb o hb q=>by rw [← hh2];exact Heap.get?_push_of_some _ (s1.extBut b o hb q)
 show wpAny _ _ (Builtin.Dict_items.ownedTupleIsFree (.ref it) >>= _) _ _ ⟨h2,g,dr,tk,os⟩
 rw [z1]
 clear hh2 e1 s1 hT1 z1 h1
 unfold Builtin.Dict_items.ownedTupleIsFree
 refine wpAny_bind (wpAny_bind (wpAny_field e2 rfl (x:=.none) rfl (wpAny_pure ?_)))
 simp only [if_true]
 refine wpAny_bind (wpAny_field e2 rfl (x:=ok) rfl (wpAny_bind (wpAny_field e2 rfl (x:=ov) rfl ?_)))
 refine wpAny_bind (wpAny_setField_rec e2 (by simp) λh3 e3 s3=>?_)
 replace s3:Heap.SameBut it h2 h3:=s3
 replace e3:IsItemIter h3 it d (i+1) es.size ep e.key ov:=e3
 refine wpAny_bind (wpAny_setField_rec e3 (by simp) λh4 e4 s4=>?_)
 replace s4:Heap.SameBut it h3 h4:=s4
 replace e4:IsItemIter h4 it d (i+1) es.size ep e.key e.val:=e4
 refine wpAny_bind (wpAny_setField_rec e4 (by simp) λh5 e5 s5=>?_)
 replace s5:Heap.SameBut it h4 h5:=s5
 replace e5:IsItemIterOut h5 it d (i+1) es.size ep e.key e.val hp.objs.size:=e5
 refine wpAny_bind (wpAny_setField_rec e5 (by simp) λh6 e6 s6=>?_)
 replace s6:Heap.SameBut it h5 h6:=s6
 replace e6:IsItemIterOut h6 it d (i+1) es.size ep e.key e.val hp.objs.size:=e6
 have all:∀b o,b≠it->h2.get? b=some o->h6.get? b=some o:=λb o hb q=>s6.extBut b o hb (s5.extBut b o hb (s4.extBut b o hb (s3.extBut b o hb q)))
 exact wpAny_bind (wpAny_letGo (wpAny_pure (wpAny_pure ⟨_,rfl,wpAny_pure (hQ h6 e6 (all _ _ (Nat.ne_of_gt hil) t2) λb o hb q=>all b o hb (k2 b o hb q))⟩)))
theorem Qg6 {Q:Option Value->Shared->Prop} (hh:A.handled=none) (hit:IsItemIter s.heap it d i es.size ep ok ov) (hod:s.heap.get? d=some od) (hdd:od.data=.dict es ep) (hx:es.size<=i)
  (hQ:∀h',Heap.ExtBut it s.heap h'->Q none { s with heap:=h' }):wpAny (model prog w) A (pyNext (.ref it)) Q E s:=by
 have hT:s.TypeIs (.ref it) "dict_itemiterator":=⟨_,hit,rfl⟩
 unfold pyNext
 refine wpAny_bind (wpAny_attempt (wpAny_callSpecial?_slot (name:=Str.ofString "__next__") hT F.slot_dict_itemiterator_next
  (wpAny_call_entry F.slot_dict_itemiterator_next hT F.entry_dict_itemiterator_next ?_ (F.args_dict_itemiterator_next_1 _))))
 refine wpAny_bind (wpAny_pure (wpAny_bind (wpAny_bind ?_)))
 first | refine wpAny_bind (wpAny_typeNameOfWhole_itemiter hT (wpAny_pure ?_)) | refine wpAny_bind (wpAny_typeNameOf_itemiter hT (wpAny_pure ?_))
 refine wpAny_bind (wpAny_fieldsOf hit rfl ?_)
 simp only [show Builtin.Dict_items.ownsTuple "dict_itemiterator" = true by decide,if_true]
 show wpAny _ _ (if (Value.ref d == Value.none)=true then _ else _) _ _ s
 rw [if_neg (show ¬((Value.ref d == Value.none)=true) from Bool.false_ne_true)]
 refine wpAny_bind (wpAny_pure (wpAny_bind (wpAny_dictEntries hod hdd ?_)))
 rw [if_neg (by simp)]
 refine wpAny_bind (wpAny_pure (wpAny_bind (wpAny_dictEpoch hod hdd ?_)))
 rw [if_neg (by simp)]
 refine wpAny_pure ?_
 simp only [show ¬((i:Int)<0) from by omega,if_false,Int.toNat_natCast,Array.getElem?_eq_none hx]
 refine wpAny_bind ?_
 first | refine wpAny_bind (wpAny_typeNameOfWhole_itemiter hT (wpAny_pure ?_)) | refine wpAny_bind (wpAny_typeNameOf_itemiter hT (wpAny_pure ?_))
 show wpAny _ _ (setField (.ref it) 2 .none >>= _) _ _ s
 refine wpAny_bind (wpAny_setField hit rfl (by simp) ?_)
 show wpAny _ _ (newExc (.type "StopIteration") [] >>= _) _ _ _
 simp only [newExc,newTuple]
 refine wpAny_bind (wpAny_bind (wpAny_newObj_type ?_ (by size_fits)))
 refine wpAny_bind (m:=firstArgMember _ _) (wpAny_of_eq (a:=Value.none) (by first | rfl | (simp only [firstArgMember];rfl)) ?_)
 refine wpAny_newObj_type ?_ (by size_fits)
 simp only [raiseNew]
 refine wpAny_bind (wpAny_handled ?_)
 rw [show A.in1.handled=none from hh]
 refine wpAny_bind (wpAny_pure (wpAny_throw ?_))
 refine wpAny_bind (wpAny_isInstance (T:="StopIteration") (b:=true) ⟨_,Heap.get?_push_size _ rfl,rfl⟩ isSubtype_stop ?_)
 exact wpAny_pure (hQ _ (((Heap.SameBut.update ..).extBut.push _).push _))
end
def ItM (d:Addr) (o:Obj) (kvs:KVM):It :=
 ⟨λi H=>H d=some (.frz o (mixO d kvs))/\i<kvs.length,λi H x H'=>∃k y v p,kvs[i]? = some (k,y,v)/\x=.ref p/\H p=none/\H'=upd H p (.tup [y,v]),λi H=>H d=some (.frz o (mixO d kvs))/\kvs.length<=i⟩
theorem Qoh {vs:VM} {es:Array DictEntry} (he:es.toList=vs.map entI) (j:Nat):es[j]? = (vs[j]?).map entI:=by
 rw [← Array.getElem?_toList,he,List.getElem?_map]
theorem Qo4 {P:Program} {w:World} {K:PySem.W.Frag} {ts:List Expr} {kt:Nat} {pt:Pos} (d it:Addr) (ob:Obj) (kvs:KVM) (vs:VM) (es:Array DictEntry) (ep:Nat) (rel:Paired RelE kvs vs) (hdi:d≠it) (hdat:ob.data=.dict es ep) (he:es.toList=vs.map entI) :
  Turn P w K (.Tuple ts kt pt) (ItM d ob kvs) [it] it (λi h=>∃ok ov,IsItemIter h it d i es.size ep ok ov) where
 mem:=by simp
 obj:=λi h st b hb=>by
  have e:b=it:=by simpa using hb
  subst e
  obtain ⟨ok,ov,st⟩:=st
  exact ⟨_,st,λv z=>by have z':Data.fields _=Data.cell v:=z;cases z'⟩
 keep:=λi h h' st k=>by
  obtain ⟨ok,ov,st⟩:=st
  exact ⟨ok,ov,k it (by simp) _ st⟩
 item:=by
  intro X hP hw hK hc i pins s σ H E I hf st hg
  subst hP hw hK
  obtain ⟨ok,ov,st⟩:=st
  obtain ⟨hH,hlt⟩:=hg
  obtain ⟨e1,_⟩:=I.hok d _ hH
  obtain ⟨⟨k,y,v⟩,hk⟩:∃p,kvs[i]? = some p:=⟨kvs[i],by simp [hlt]⟩
  have hlen:kvs.length=vs.length:=Paired.length rel
  obtain ⟨⟨k',u,r⟩,hu⟩:∃p,vs[i]? = some p:=⟨vs[i]'(by omega),by simp [show i<vs.length by omega]⟩
  obtain ⟨-,ry,rv⟩:=Qd2 rel hk hu
  have hlti:it<s.heap.objs.size:=Heap.lt_size st
  have hx:es[i]? = some (entI (k',u,r)):=by rw [Qoh he,hu];rfl
  refine Qe2 st e1 hdat hx λh' ho hT kp=>⟨_,rfl,wpAny_letOwnedTupleGo_items ho λh2 he2 hs2=>?_⟩
  have hn:H s.heap.objs.size=none:=I.hok.fresh (Nat.le_refl _)
  have hT2:=hs2.extBut _ _ (Nat.ne_of_gt hlti) hT
  refine ⟨.ref s.heap.objs.size,upd H s.heap.objs.size (.tup [y,v]),I.turnNew (ch:=[it]) (t':=s.toks) (Nat.le_refl _) (λb o hb q=>?_) hf ?_,rfl,⟨k,y,v,_,hk,rfl,hn,rfl⟩,⟨_,_,he2⟩,λb hb=>?_⟩
  ·have hb':b≠it:=λz=>hb (by simp [z])
   exact hs2.extBut _ _ hb' (kp b o hb' q)
  ·exact ⟨by show 2<=sizeLine;decide,[u,r],.cons ry (.cons rv .nil),⟨_,hT2,rfl,_,rfl⟩⟩
  ·have e:b=it:=by simpa using hb
   subst e
   rw [Ql (Nat.ne_of_lt hlti)]
   exact (hf b hb).1
 done:=by
  intro X hP hw hK hc i pins s σ H E I hf st hg
  subst hP hw hK
  obtain ⟨ok,ov,st⟩:=st
  obtain ⟨hH,hge⟩:=hg
  obtain ⟨e1,_⟩:=I.hok d _ hH
  have hlen:kvs.length=vs.length:=Paired.length rel
  have hsz:es.size=vs.length:=by rw [← Array.length_toList,he,List.length_map]
  obtain ⟨f0,f1,f2,f3,f4,f5⟩:=hf it (by simp)
  exact Qg6 (I.ok.hd hc) st e1 hdat (by omega) λh' eb=>⟨rfl,I.turned (t':=s.toks) (λb o hb e=>eb b o hb e) f0 f1 f3 f4 f5⟩
 self:=λA i s Q E st h=>by
  obtain ⟨ok,ov,st⟩:=st
  have hT:s.TypeIs (.ref it) "dict_itemiterator":=⟨_,st,rfl⟩
  refine wpAny_pyIter_slot hT PySem.F.slot_dict_itemiterator_iter (wpAny_call_entry PySem.F.slot_dict_itemiterator_iter hT PySem.W.kcp_entry ?_ (PySem.F.args_dict_itemiterator_iter_1 _))
  show wpAny _ _ (ret (.ref it)) _ _ s
  exact wpAny_pure ⟨_,rfl,"dict_itemiterator",_,hT,PySem.F.slot_dict_itemiterator_next.lookup,h⟩
section
variable {X:Cx}
def Qn8 (to:TE):TI:=λσ H R=>to σ H λx H1=>∃d kvs,x=.ref d/\H1 d=some (mixO d kvs)/\∀o,R (ItM d o kvs) (upd H1 d (.frz o (mixO d kvs)))
theorem Qgc {es:List Expr} {kt:Nat} {pt:Pos} {o:Expr} {to:TE} {apos cpos:Pos} (ho:PE X o to) (hbase:attributeBase o "items" X.env (eval o X.env)=eval o X.env:=by rfl) (hline:(apos.endLine == cpos.line)=true:=by rfl) :
  PI X (.Tuple es kt pt) (.Call (.Attribute o "items" apos) [] [] cpos) (Qn8 to):=by
 intro pins s σ H R I h
 refine wpAny_Call_method0_late hbase hline (thn (ho pins s σ H _ I h) λv s1 ⟨x,H1,I1,r1,d,kvs,e,hd,q⟩=>?_)
 subst e
 cases r1
 obtain ⟨⟨hs,hz,hnd,vs,rel,ob,es',ep,hob,hc,hdat,he⟩,-,-⟩:=(show Jh X.prog X.w H1 s1.heap d (mixO d kvs) from I1.hok d _ hd)
 obtain ⟨h1,h2⟩:=Qkp (T:="dict") I1 (show RelV (.ref d) (.ref d) from rfl) (.inr (.inr (.inr (.inr ⟨_,hd,λh ⟨_,_,_,_,_,o,_,_,e,c,_⟩=>⟨o,e,c.1,c.2.1⟩⟩))))
 refine ⟨"dict",_,PySem.F.plainAttrs_dict,PySem.F.slot_dict_items,PySem.F.type_dict_items,h1,h2,Calls.callWith_builtin rfl (PySem.evalArgs_none ?_)⟩
 refine call_meetsIn PySem.F.slot_dict_items h1 PySem.F.entry_dict_items (PySem.F.args_dict_items_1 _) (Qcy hs) ⟨⟨ob,hob,hc⟩,?_⟩
 have I2:Inv X pins σ H1 { s1 with heap:=s1.heap.push { cls:=.type "dict_items",data:=.fields #[.ref d] } }:=I1.kept (t':=s1.toks) λb u e=>Heap.get?_push_of_some _ e
 have hob2:(s1.heap.push { cls:=.type "dict_items",data:=.fields #[.ref d] }).get? d=some ob:=Heap.get?_push_of_some _ hob
 refine Qe3 (d:=d) ⟨_,Heap.get?_push_size _ rfl,rfl,rfl⟩ hob2 hdat ?_
 have I3:=I2.kept (h':=(s1.heap.push { cls:=.type "dict_items",data:=.fields #[.ref d] }).push { cls:=.type "dict_itemiterator",data:=.fields #[.none,.bool false,.ref d,.int 0 0,.int es'.size 0,.int ep 0,.none,.none] }) (t':=s1.toks) λb u e=>Heap.get?_push_of_some _ e
 have hob3:=Heap.get?_push_of_some (h:=s1.heap.push { cls:=.type "dict_items",data:=.fields #[.ref d] }) { cls:=.type "dict_itemiterator",data:=.fields #[.none,.bool false,.ref d,.int 0 0,.int es'.size 0,.int ep 0,.none,.none] } hob2
 have I4:=I3.write (x:=d) (e:=d) (o:=.frz ob (mixO d kvs)) (t':=s1.toks) (by rw [hd];trivial) (.inl rfl) (λb u _ q=>q) ⟨_,hob3⟩
  (show Jh X.prog X.w _ _ d (.frz ob (mixO d kvs)) from ⟨hob3,Qbf ⟨hs,hz,hnd,vs,rel,ob,es',ep,hob3,hc,hdat,he⟩⟩)
 have hlt:d<(s1.heap.push { cls:=.type "dict_items",data:=.fields #[.ref d] }).objs.size:=Heap.lt_size hob2
 refine ⟨(s1.heap.push { cls:=.type "dict_items",data:=.fields #[.ref d] }).objs.size,[(s1.heap.push { cls:=.type "dict_items",data:=.fields #[.ref d] }).objs.size],_,_,_,rfl,I4,
  Qo4 d _ ob kvs vs es' ep rel (Nat.ne_of_lt hlt) hdat he,⟨_,_,Heap.get?_push_size _ rfl⟩,λb hb=>?_,q ob⟩
 have e:b=(s1.heap.push { cls:=.type "dict_items",data:=.fields #[.ref d] }).objs.size:=by simpa using hb
 subst e
 exact I2.fpOk (Nat.le_refl _) (by rw [Ql (Nat.ne_of_gt hlt)];exact I2.hok.fresh (Nat.le_refl _))
end
end Mx
namespace LR
open PySem PySem.Spec PyProof.Rows
section
variable {prog:Program} {w:World} {A:Around} {E:Value->Shared->Prop} {s:Shared}
end
end LR
namespace L2
open PySem PySem.Spec PyProof.Rows
section
variable {X:Cx}
end
end L2
namespace L2
open PySem PySem.Spec PyProof.Rows
section
variable {X:Cx}
end
end L2
namespace L2
open PySem PySem.Spec PyProof.Rows
open PySem.W (hideAll of_hideAll hideAll_get hideAll_none funFrames_hide)
section
variable {P:Program} {w:World} {base B:Heap} {l:List PySem.Env} {H H':Hp} {s s':Shared} {C ea t:Addr} {h'':Heap}
end
section
variable {X:Cx} {pins:List (Addr × Obj)} {σ:St} {H H':Hp} {s s':Shared} {C ea t:Addr} {h'' B:Heap}
end
end L2
namespace L2
open PySem PySem.Spec PyProof.Rows
section
variable {X:Cx} {pins:List (Addr × Obj)} {σ:St} {H:Hp} {s:Shared} {x:Str} {np cpos pos p:Pos} {e₀:Expr} {es:List Expr} {ta:TA}
end
end L2
namespace L2
open PySem PySem.Spec PyProof.Rows
section
variable {X:Cx} {pins:List (Addr × Obj)} {σ:St} {H H':Hp} {s s':Shared} {C ea t:Addr} {B h'':Heap}
variable {cx n:Str} {np pos hpos:Pos} {b₀:Stmt} {suite body:List Stmt} {j:Nat} {C0:Addr} {th:TS}
end
end L2
namespace L2
open PySem PySem.Spec PyProof.Rows
open PySem.W (findIn subIn mroIn clsIn Looks looks_findIn looks_subIn InstAt KitX)
section
variable {prog:Program} {w:World} {A:Around} {E:Value->Shared->Prop} {h:Heap} {g:Array GenState} {d:Drawn} {t:Nat} {os:OsState} {a C:Addr} {o:Obj} {K:PySem.W.Frag} {Bx:String} {bmB:List Value}
end
section
variable {X:Cx}
end
end L2
namespace L2
open PySem PySem.Spec PyProof.Rows
section
variable {X:Cx} {pins:List (Addr × Obj)} {σ:St} {H H':Hp} {s s':Shared} {C ea t:Addr} {B h'':Heap}
variable {cx:Str} {np pos hpos:Pos} {b₀:Stmt} {suite body:List Stmt} {C0:Addr} {th:TS}
end
end L2
namespace L2
open PySem PySem.Spec PyProof.Rows
section
variable {prog:Program} {w:World}
end
section
variable {X:Cx}
end
end L2
namespace L2
open PySem PySem.Spec PyProof.Rows
open PySem.W (Dat kqdP kqdPs kqdOk)
open AutoSeq1 (wpAny_loadPart')
open MeetsSeq (plain_remove_loop entry_remove_loop size_erased)
section
variable {X:Cx}
end
end L2
namespace L2
open PySem PySem.Spec PyProof.Rows
section
variable {X:Cx}
end
end L2
namespace M
def sp (m i:Nat):Int × Int:=if i<4*m then (((i / 4:Nat):Int),((i % 4:Nat):Int)) else (-1,((i-4*m:Nat):Int))
theorem Qba {m k j:Nat} (hk:k<m) (hj:j<4):sp m (4*k+j)=((k:Int),(j:Int)):=by
 unfold sp
 rw [if_pos (by omega)]
 congr 1 <;> omega
theorem Qa9 (m j:Nat):sp m (4*m+j)=(-1,(j:Int)):=by
 unfold sp
 rw [if_neg (by omega)]
 congr 1;omega
theorem Qks {m i j:Nat} (h:sp m i=sp m j):i=j:=by
 unfold sp at h
 by_cases hi:i<4*m
 ·rw [if_pos hi] at h
  by_cases hj:j<4*m
  ·rw [if_pos hj] at h
   have h1:=congrArg Prod.fst h
   have h2:=congrArg Prod.snd h
   dsimp only at h1 h2
   omega
  ·rw [if_neg hj] at h
   have h1:=congrArg Prod.fst h
   dsimp only at h1
   omega
 ·rw [if_neg hi] at h
  by_cases hj:j<4*m
  ·rw [if_pos hj] at h
   have h1:=congrArg Prod.fst h
   dsimp only at h1
   omega
  ·rw [if_neg hj] at h
   have h2:=congrArg Prod.snd h
   dsimp only at h2
   omega
structure Tw (n:Nat) (A:Nat->Int) (g:Nat->Nat):Prop where
 lt:∀i,i<n->g i<n
 ne:∀i,i<n->g i≠i
 eq:∀i,i<n->A (g i)=A i
 only:∀i k,i<n->k<n->A k=A i->k=i\/k=g i
theorem Tw.inv {n:Nat} {A:Nat->Int} {g:Nat->Nat} (T:Tw n A g) {i:Nat} (h:i<n):g (g i)=i:=by
 rcases T.only (g i) i (T.lt i h) h (T.eq i h).symm with z | z
 ·exact absurd z.symm (T.ne i h)
 ·exact z.symm
end M
namespace L2
open PySem PySem.Spec PyProof.Rows
structure Lam where
 qual:Str
 args:Arguments
 body:Expr
 scope:Scope
 names:List Str
abbrev anyO:HO:=.ext λ_=>True
abbrev Lam.obj (L:Lam) (cl:List (Str × Addr)) (pm:Value) (c':Addr) (ctv:Value):Obj:=PySem.W.kla_obj "<lambda>" L.qual L.args L.body L.scope cl pm c' ctv
def Qep (H:Hp) (L:Lam) (a:Addr) (cl:List (Str × Addr)):Prop :=
 ∃(c':Addr) (oc:Obj) (vs:Array Value) (t:Tok) (pm ctv:Value) (u:HO),H a=some (.frz (L.obj cl pm c' ctv) anyO)/\H c'=some (.frz oc u)/\oc.data=.fields vs/\vs[1]? = some (.str L.qual t)
def Uj (H:Hp):List (Str × Addr)->List V->Prop
 | [],[]=>True
 | p::cl,x::xs=>(∃oo v,H p.2=some (.frz oo anyO)/\oo.data=.cell (some v)/\RelV x v)/\Uj H cl xs
 | _,_=>False
def Qkh (H:Hp) (L:Lam) (a:Addr) (xs:List V):Prop :=
 ∃cl:List (Str × Addr),Qep H L a cl/\cl.map (·.1)=L.names/\(cl.map (·.2)).Nodup/\Uj H cl xs
section
variable {H H':Hp} {L:Lam} {a:Addr} {cl:List (Str × Addr)} {xs:List V}
theorem Qep.keeps (hi:∀b o u,H b=some (.frz o u)->H' b=some (.frz o u)) (x:Qep H L a cl):Qep H' L a cl:=by
 obtain ⟨c',oc,vs,t,pm,ctv,u,h1,h2,r⟩:=x
 exact ⟨c',oc,vs,t,pm,ctv,u,hi _ _ _ h1,hi _ _ _ h2,r⟩
theorem Uj.keeps (hi:∀b o u,H b=some (.frz o u)->H' b=some (.frz o u)):∀{cl:List (Str × Addr)} {xs:List V},Uj H cl xs->Uj H' cl xs
 | [],[],_=>trivial
 | p::cl,x::xs,⟨⟨oo,v,h1,r⟩,q⟩=>⟨⟨oo,v,hi _ _ _ h1,r⟩,Uj.keeps hi q⟩
 | [],_::_,h=>h.elim
 | _::_,[],h=>h.elim
theorem Qkh.keeps (hi:∀b o u,H b=some (.frz o u)->H' b=some (.frz o u)) (x:Qkh H L a xs):Qkh H' L a xs:=by
 obtain ⟨cl,h1,h2,h3,h4⟩:=x
 exact ⟨cl,h1.keeps hi,h2,h3,h4.keeps hi⟩
end
section
variable {P:Program} {w:World} {K:PySem.W.Frag} {mg:Str->Option Value} {base:Heap} {A:Around} {outer:List Env} {s s':Shared} {H H2:Hp} {cs:List Addr} {h:Heap}
end
section
variable {P:Program} {w:World} {K:PySem.W.Frag} {mg:Str->Option Value} {base:Heap} {A:Around} {outer:List Env} {s s':Shared} {H H2:Hp} {cs:List Addr}
end
end L2
namespace L2
open PySem PySem.Spec PyProof.Rows
open PySem.W (kla_obj kla_fn envX CodeHd codeHd_of_K codeHdIn tabObj)
section
variable {X:Cx}
end
section
variable {X:Cx} {k:Nat}
end
end L2
namespace PV
open PySem PySem.Spec L2
inductive Ty where
 | int | bool | str | tuple | list | dict
 deriving DecidableEq
def Ty.nm:Ty->String
 | .int=>"int" | .bool=>"bool" | .str=>"str" | .tuple=>"tuple" | .list=>"list" | .dict=>"dict"
inductive KC where
 | any (a:Addr)
 | fn (x:Str)
 | int (i:Int)
 | tup (ks:List KC)
mutual
inductive IsKC (K:PySem.W.Frag):KC->V->Prop
 | any (a:Addr):IsKC K (.any a) (.ref a)
 | fn {x:Str} {f:Addr} (h:PySem.W.nsIn K mainGlobals x=some (some (.ref f))):IsKC K (.fn x) (.ref f)
 | int (i:Int):IsKC K (.int i) (.int i)
 | tup {a:Addr} {xs:List V} {ks:List KC} {o:Obj} {its:Array Value} {n:Nat} (h1:K.lookup a=some o) (h2:o.cls=.type "tuple") (h3:o.data=.seq its n) (h4:its.size<=sizeLine) (h5:Vals xs its.toList) (r:AreKC K ks xs):IsKC K (.tup ks) (.ref a)
inductive AreKC (K:PySem.W.Frag):List KC->List V->Prop
 | nil:AreKC K [] []
 | cons {c:KC} {v:V} {cs:List KC} {vs:List V} (h:IsKC K c v) (r:AreKC K cs vs):AreKC K (c::cs) (v::vs)
end
inductive D where
 | non
 | bl (b:Bool)
 | int (i:Int)
 | str (x:Str)
 | tup (xs:List D)
 | lst (xs:List D)
 | dik (kvs:List (Key × D))
 | dit (kvs:List (List Key × D))
 | kls (xs:List D)
 | ty (t:Ty)
 | fdk (kvs:List (Key × D))
 | ftp (xs:List D)
 | fls (xs:List D)
 | fdt (kvs:List (List Key × D))
 | obj (x:Str) (fs:List (Str × Int))
 | clo (L:Lam) (ds:List D)
 | kc (c:KC)
 | dmx (kvs:List (Mx.MI × D))
 | fmx (kvs:List (Mx.MI × D))
def imm:HO->Bool
 | .tup _=>true
 | .frz _ _=>true
 | _=>false
def FzL (K:PySem.W.Frag) (H:Hp) (a:Addr) (xs:List V):Prop :=
 (∃o,H a=some (.frz o (.lst xs))) \/
  ∃(o:Obj) (its:Array Value) (n:Nat),K.lookup a=some o/\o.cls=.type "list" /\ o.dict=none/\o.data=.seq its n/\its.size<=sizeLine/\Vals xs its.toList
theorem FzL.sq {K:PySem.W.Frag} {H:Hp} {a:Addr} {xs:List V} (h:FzL K H a xs):SqL K H a xs:=by
 rcases h with h | h
 ·exact .inl (.inr h)
 ·exact .inr h
mutual
inductive Rep (K:PySem.W.Frag) (H:Hp):D->V->List Addr->Prop
 | non:Rep K H .non .non []
 | bl (b:Bool):Rep K H (.bl b) (.bl b) []
 | int (i:Int):Rep K H (.int i) (.int i) []
 | str (x:Str):Rep K H (.str x) (.str x) []
 | tup {a:Addr} {xs:List V} {ds:List D} {F:List Addr} (e:H a=some (.tup xs)) (r:Reps K H ds xs F):Rep K H (.tup ds) (.ref a) F
 | lst {a:Addr} {xs:List V} {ds:List D} {F:List Addr} (e:H a=some (.lst xs)) (r:Reps K H ds xs F):Rep K H (.lst ds) (.ref a) (a::F)
 | dik {a:Addr} {kvs:List (Key × V)} {ds:List (Key × D)} {F:List Addr} (e:H a=some (.dK kvs)) (r:RepK K H ds kvs F):Rep K H (.dik ds) (.ref a) (a::F)
 | dit {a:Addr} {kvs:List (List Key × V)} {ds:List (List Key × D)} {F:List Addr} (e:H a=some (.dT kvs)) (r:RepT K H ds kvs F):Rep K H (.dit ds) (.ref a) (a::F)
 | kls {a:Addr} {xs:List V} {ds:List D} (e:FzL K H a xs) (r:Reps K H ds xs []):Rep K H (.kls ds) (.ref a) []
 | ty (t:Ty):Rep K H (.ty t) (.ty t.nm) []
 | fdk {a:Addr} {o:Obj} {kvs:List (Key × V)} {ds:List (Key × D)} {F:List Addr} (e:H a=some (.frz o (.dK kvs))) (r:RepK K H ds kvs F):Rep K H (.fdk ds) (.ref a) F
 | ftp {a:Addr} {o:Obj} {xs:List V} {ds:List D} (e:H a=some (.frz o (.tup xs))) (hd:o.dict=none) (r:Reps K H ds xs []):Rep K H (.ftp ds) (.ref a) []
 | fls {a:Addr} {o:Obj} {xs:List V} {ds:List D} (e:H a=some (.frz o (.lst xs))) (r:Reps K H ds xs []):Rep K H (.fls ds) (.ref a) []
 | fdt {a:Addr} {o:Obj} {kvs:List (List Key × V)} {ds:List (List Key × D)} {F:List Addr} (e:H a=some (.frz o (.dT kvs))) (r:RepT K H ds kvs F):Rep K H (.fdt ds) (.ref a) F
 | obj {a:Addr} {x:Str} {o:Obj} {φ:Heap->Prop} {fs:List (Str × Int)} (e:H a=some (.frz o (.ext φ))) (hc:∃C,o.cls=.ref C/\PySem.W.nsIn K mainGlobals x=some (some (.ref C))) (hf:fs=[]\/∃dx od,o.dict=some dx/\H dx=some (.frz od (.xd (fs.map λp=>(p.1,V.int p.2))))):Rep K H (.obj x fs) (.ref a) []
 | clo {a:Addr} {L:Lam} {xs:List V} {ds:List D} {F:List Addr} (e:Qkh H L a xs) (r:Reps K H ds xs F):Rep K H (.clo L ds) (.ref a) F
 | kc {c:KC} {v:V} (h:IsKC K c v):Rep K H (.kc c) v []
 | dmx {a:Addr} {kvs:Mx.KVM} {ds:List (Mx.MI × D)} (e:H a=some (Mx.mixO a kvs)) (hk:Mx.Keys H kvs) (hm:kvs.map (·.1)=ds.map (·.1)) (r:Reps K H (ds.map (·.2)) (kvs.map (·.2.2)) []):Rep K H (.dmx ds) (.ref a) [a]
 | fmx {a:Addr} {o:Obj} {kvs:Mx.KVM} {ds:List (Mx.MI × D)} (e:H a=some (.frz o (Mx.mixO a kvs))) (hk:Mx.Keys H kvs) (hm:kvs.map (·.1)=ds.map (·.1)) (r:Reps K H (ds.map (·.2)) (kvs.map (·.2.2)) []):Rep K H (.fmx ds) (.ref a) []
inductive Reps (K:PySem.W.Frag) (H:Hp):List D->List V->List Addr->Prop
 | nil:Reps K H [] [] []
 | cons {d:D} {v:V} {ds:List D} {vs:List V} {F G:List Addr} (h:Rep K H d v F) (r:Reps K H ds vs G):Reps K H (d::ds) (v::vs) (F++G)
inductive RepK (K:PySem.W.Frag) (H:Hp):List (Key × D)->List (Key × V)->List Addr->Prop
 | nil:RepK K H [] [] []
 | cons {k:Key} {d:D} {v:V} {ds:List (Key × D)} {vs:List (Key × V)} {F G:List Addr} (h:Rep K H d v F) (r:RepK K H ds vs G):RepK K H ((k,d)::ds) ((k,v)::vs) (F++G)
inductive RepT (K:PySem.W.Frag) (H:Hp):List (List Key × D)->List (List Key × V)->List Addr->Prop
 | nil:RepT K H [] [] []
 | cons {k:List Key} {d:D} {v:V} {ds:List (List Key × D)} {vs:List (List Key × V)} {F G:List Addr} (h:Rep K H d v F) (r:RepT K H ds vs G):RepT K H ((k,d)::ds) ((k,v)::vs) (F++G)
end
def ImmK (H H':Hp):Prop:=∀b ob,H b=some ob->imm ob=true->H' b=some ob
theorem ImmK.fzL {K:PySem.W.Frag} {H H':Hp} (hi:ImmK H H') {a:Addr} {xs:List V} (e:FzL K H a xs):FzL K H' a xs:=by
 rcases e with ⟨o,e⟩ | e
 ·exact .inl ⟨o,hi _ _ e rfl⟩
 ·exact .inr e
theorem ImmK.keys {H H':Hp} (hi:ImmK H H') {kvs:Mx.KVM} (h:Mx.Keys H kvs):Mx.Keys H' kvs:=λp hp=>by
 have:=h p hp
 revert this
 cases p.1 with
 | inl i=>exact id
 | inr l=>exact λ⟨b,e1,e2⟩=>⟨b,e1,hi _ _ e2 rfl⟩
theorem Rep.frame {K:PySem.W.Frag} {H H':Hp} (hi:ImmK H H') {d:D} {v:V} {F:List Addr} (r:Rep K H d v F):(∀a∈F,H' a=H a)->Rep K H' d v F:=by
 refine Rep.rec (motive_1:=λd v F _=>(∀a∈F,H' a=H a)->Rep K H' d v F) (motive_2:=λd v F _=>(∀a∈F,H' a=H a)->Reps K H' d v F) (motive_3:=λd v F _=>(∀a∈F,H' a=H a)->RepK K H' d v F) (motive_4:=λd v F _=>(∀a∈F,H' a=H a)->RepT K H' d v F) ?_ ?_ ?_ ?_ ?_ ?_ ?_ ?_ ?_ ?_ ?_ ?_ ?_ ?_ ?_ ?_ ?_ ?_ ?_ ?_ ?_ ?_ ?_ ?_ ?_ r
 ·exact λ_=>.non
 ·exact λb _=>.bl b
 ·exact λb _=>.int b
 ·exact λb _=>.str b
 ·exact λe _ ih k=>.tup (hi _ _ e rfl) (ih k)
 ·exact λe _ ih k=>.lst ((k _ (List.mem_cons_self)).trans e) (ih λa h=>k a (List.mem_cons_of_mem _ h))
 ·exact λe _ ih k=>.dik ((k _ (List.mem_cons_self)).trans e) (ih λa h=>k a (List.mem_cons_of_mem _ h))
 ·exact λe _ ih k=>.dit ((k _ (List.mem_cons_self)).trans e) (ih λa h=>k a (List.mem_cons_of_mem _ h))
 ·exact λe _ ih k=>.kls (hi.fzL e) (ih k)
 ·exact λt _=>.ty t
 ·exact λe _ ih k=>.fdk (hi _ _ e rfl) (ih k)
 ·exact λe hd _ ih k=>.ftp (hi _ _ e rfl) hd (ih k)
 ·exact λe _ ih k=>.fls (hi _ _ e rfl) (ih k)
 ·exact λe _ ih k=>.fdt (hi _ _ e rfl) (ih k)
 ·exact λe hc hf _=>.obj (hi _ _ e rfl) hc (hf.imp id λ⟨dx,od,h1,h2⟩=>⟨dx,od,h1,hi _ _ h2 rfl⟩)
 ·exact λe _ ih k=>.clo (e.keeps λ_ _ _ q=>hi _ _ q rfl) (ih k)
 ·exact λh _=>.kc h
 ·exact λe hk hm _ ih k=>.dmx ((k _ (List.mem_cons_self)).trans e) (hi.keys hk) hm (ih λa h=>nomatch h)
 ·exact λe hk hm _ ih k=>.fmx (hi _ _ e rfl) (hi.keys hk) hm (ih λa h=>nomatch h)
 ·exact λ_=>.nil
 ·exact λ_ _ ih1 ih2 k=>.cons (ih1 λa q=>k a (List.mem_append.mpr (.inl q))) (ih2 λa q=>k a (List.mem_append.mpr (.inr q)))
 ·exact λ_=>.nil
 ·exact λ_ _ ih1 ih2 k=>.cons (ih1 λa q=>k a (List.mem_append.mpr (.inl q))) (ih2 λa q=>k a (List.mem_append.mpr (.inr q)))
 ·exact λ_=>.nil
 ·exact λ_ _ ih1 ih2 k=>.cons (ih1 λa q=>k a (List.mem_append.mpr (.inl q))) (ih2 λa q=>k a (List.mem_append.mpr (.inr q)))
theorem Reps.frame {K:PySem.W.Frag} {H H':Hp} (hi:ImmK H H') {d:List D} {v:List V} {F:List Addr} (r:Reps K H d v F) (k:∀a∈F,H' a=H a):Reps K H' d v F:=by
 induction d generalizing v F with
 | nil=>cases r;exact .nil
 | cons d ds ih=>cases r with | cons h r=>exact .cons (Rep.frame hi h λa q=>k a (List.mem_append.mpr (.inl q))) (ih r λa q=>k a (List.mem_append.mpr (.inr q)))
theorem RepK.frame {K:PySem.W.Frag} {H H':Hp} (hi:ImmK H H') {d:List (Key × D)} {v:List (Key × V)} {F:List Addr} (r:RepK K H d v F) (k:∀a∈F,H' a=H a):RepK K H' d v F:=by
 induction d generalizing v F with
 | nil=>cases r;exact .nil
 | cons d ds ih=>cases r with | cons h r=>exact .cons (Rep.frame hi h λa q=>k a (List.mem_append.mpr (.inl q))) (ih r λa q=>k a (List.mem_append.mpr (.inr q)))
theorem RepT.frame {K:PySem.W.Frag} {H H':Hp} (hi:ImmK H H') {d:List (List Key × D)} {v:List (List Key × V)} {F:List Addr} (r:RepT K H d v F) (k:∀a∈F,H' a=H a):RepT K H' d v F:=by
 induction d generalizing v F with
 | nil=>cases r;exact .nil
 | cons d ds ih=>cases r with | cons h r=>exact .cons (Rep.frame hi h λa q=>k a (List.mem_append.mpr (.inl q))) (ih r λa q=>k a (List.mem_append.mpr (.inr q)))
theorem Rep.dom {K:PySem.W.Frag} {H:Hp} {d:D} {v:V} {F:List Addr} (r:Rep K H d v F):∀a∈F,∃ob,H a=some ob/\imm ob=false:=by
 have cn:∀{b:Addr} {F:List Addr} {ob:HO},H b=some ob->imm ob=false->(∀a∈F,∃ob,H a=some ob/\imm ob=false)->∀a∈b::F,∃ob,H a=some ob/\imm ob=false:=λe hb ih a m=>(List.mem_cons.mp m).elim (λz=>z ▸ ⟨_,e,hb⟩) (ih a)
 have ap:∀{F G:List Addr},(∀a∈F,∃ob,H a=some ob/\imm ob=false)->(∀a∈G,∃ob,H a=some ob/\imm ob=false)->∀a∈F++G,∃ob,H a=some ob/\imm ob=false:=λih1 ih2 a m=>(List.mem_append.mp m).elim (ih1 a) (ih2 a)
 have no:∀a∈([]:List Addr),∃ob,H a=some ob/\imm ob=false:=λ_ m=>nomatch m
 refine Rep.rec (motive_1:=λ_ _ F _=>∀a∈F,∃ob,H a=some ob/\imm ob=false) (motive_2:=λ_ _ F _=>∀a∈F,∃ob,H a=some ob/\imm ob=false) (motive_3:=λ_ _ F _=>∀a∈F,∃ob,H a=some ob/\imm ob=false) (motive_4:=λ_ _ F _=>∀a∈F,∃ob,H a=some ob/\imm ob=false) no (λ_=>no) (λ_=>no) (λ_=>no) (λ_ _ ih=>ih) (λe _ ih=>cn e rfl ih) (λe _ ih=>cn e rfl ih) (λe _ ih=>cn e rfl ih) (λ_ _ _=>no) (λ_=>no) (λ_ _ ih=>ih) (λ_ _ _ _=>no) (λ_ _ _=>no) (λ_ _ ih=>ih) (λ_ _ _=>no) (λ_ _ ih=>ih) (λ_=>no) (λe _ _ _ _=>cn e rfl no) (λ_ _ _ _ _=>no) no (λ_ _=>ap) no (λ_ _=>ap) no (λ_ _=>ap) r
theorem Reps.dom {K:PySem.W.Frag} {H:Hp} {d:List D} {v:List V} {F:List Addr} (r:Reps K H d v F):∀a∈F,∃ob,H a=some ob/\imm ob=false:=by
 induction d generalizing v F with
 | nil=>cases r;exact λ_ m=>nomatch m
 | cons d ds ih=>cases r with | cons h r=>exact λa m=>(List.mem_append.mp m).elim (Rep.dom h a) (ih r a)
mutual
def D.pure:D->Bool
 | .tup xs=>Qj xs
 | .lst _=>false
 | .dik _=>false
 | .dit _=>false
 | .kls _=>true
 | .non=>true
 | .bl _=>true
 | .int _=>true
 | .str _=>true
 | .ty _=>true
 | .fdk _=>false
 | .ftp _=>true
 | .fls _=>true
 | .fdt _=>false
 | .obj _ _=>true
 | .clo _ _=>false
 | .kc _=>true
 | .dmx _=>false
 | .fmx _=>false
def Qj:List D->Bool
 | []=>true
 | d::r=>d.pure && Qj r
end
theorem Zt {xs:List D}:Qj xs=true↔∀x∈xs,x.pure=true:=by
 induction xs with
 | nil=>simp [Qj]
 | cons d r ih=>simp only [Qj,Bool.and_eq_true,ih,List.mem_cons,forall_eq_or_imp]
theorem Rep.pure {K:PySem.W.Frag} {H:Hp} {d:D} {v:V} {F:List Addr} (r:Rep K H d v F):d.pure=true->F=[]/\Rep K H d v []:=by
 have no:∀{P:Prop} {b:Bool},b=false->b=true->P:=λh h'=>absurd (h.symm.trans h') (by simp)
 refine Rep.rec (motive_1:=λd v F _=>d.pure=true->F=[]/\Rep K H d v []) (motive_2:=λd v F _=>Qj d=true->F=[]/\Reps K H d v []) (motive_3:=λ_ _ _ _=>True) (motive_4:=λ_ _ _ _=>True) ?_ ?_ ?_ ?_ ?_ ?_ ?_ ?_ ?_ ?_ ?_ ?_ ?_ ?_ ?_ ?_ ?_ ?_ ?_ ?_ ?_ trivial (λ_ _ _ _=>trivial) trivial (λ_ _ _ _=>trivial) r
 ·exact λ_=>⟨rfl,.non⟩
 ·exact λb _=>⟨rfl,.bl b⟩
 ·exact λb _=>⟨rfl,.int b⟩
 ·exact λb _=>⟨rfl,.str b⟩
 ·exact λe _ ih p=>⟨(ih (by rw [D.pure] at p;exact p)).1,.tup e (ih (by rw [D.pure] at p;exact p)).2⟩
 ·exact λ_ _ _=>no (by rw [D.pure])
 ·exact λ_ _ _=>no (by rw [D.pure])
 ·exact λ_ _ _=>no (by rw [D.pure])
 ·exact λe r _ _=>⟨rfl,.kls e r⟩
 ·exact λb _=>⟨rfl,.ty b⟩
 ·exact λ_ _ _=>no (by rw [D.pure])
 ·exact λe hd r _ _=>⟨rfl,.ftp e hd r⟩
 ·exact λe r _ _=>⟨rfl,.fls e r⟩
 ·exact λ_ _ _=>no (by rw [D.pure])
 ·exact λe hc hf _=>⟨rfl,.obj e hc hf⟩
 ·exact λ_ _ _=>no (by rw [D.pure])
 ·exact λh _=>⟨rfl,.kc h⟩
 ·exact λ_ _ _ _ _=>no (by rw [D.pure])
 ·exact λ_ _ _ _ _=>no (by rw [D.pure])
 ·exact λ_=>⟨rfl,.nil⟩
 ·intro _ _ _ _ _ _ _ _ ih1 ih2 p
  rw [Qj,Bool.and_eq_true] at p
  obtain ⟨e1,r1⟩:=ih1 p.1
  obtain ⟨e2,r2⟩:=ih2 p.2
  subst e1 e2
  exact ⟨rfl,.cons (F:=[]) (G:=[]) r1 r2⟩
theorem Reps.pure {K:PySem.W.Frag} {H:Hp} {d:List D} {v:List V} {F:List Addr} (r:Reps K H d v F) (p:Qj d=true):F=[]/\Reps K H d v []:=by
 induction d generalizing v F with
 | nil=>cases r;exact ⟨rfl,.nil⟩
 | cons d ds ih =>
  cases r with
  | cons h r =>
   rw [Qj,Bool.and_eq_true] at p
   obtain ⟨e1,r1⟩:=h.pure p.1
   obtain ⟨e2,r2⟩:=ih r p.2
   subst e1 e2
   exact ⟨rfl,.cons (F:=[]) (G:=[]) r1 r2⟩
section
variable {K:PySem.W.Frag} {H:Hp}
theorem Reps.length {ds:List D} {xs:List V} {F:List Addr} (r:Reps K H ds xs F):xs.length=ds.length:=by
 induction ds generalizing xs F with
 | nil=>cases r;rfl
 | cons d ds ih=>cases r with | cons h r=>simp [ih r]
theorem Reps.append {ds es:List D} {xs ys:List V} {F G:List Addr} (r:Reps K H ds xs F) (q:Reps K H es ys G):Reps K H (ds++es) (xs++ys) (F++G):=by
 induction ds generalizing xs F with
 | nil=>cases r;exact q
 | cons d ds ih=>cases r with | cons h r=>rw [List.append_assoc];exact .cons h (ih r)
theorem Reps.one {d:D} {x:V} {F:List Addr} (h:Rep K H d x F):Reps K H [d] [x] F:=by
 have:=Reps.cons h (Reps.nil (K:=K) (H:=H))
 rwa [List.append_nil] at this
theorem Reps.snoc {ds:List D} {xs:List V} {d:D} {x:V} {F G:List Addr} (r:Reps K H ds xs F) (h:Rep K H d x G):Reps K H (ds++[d]) (xs++[x]) (F++G):=r.append (.one h)
theorem Reps.split {ds:List D} {xs:List V} {F:List Addr} {i:Nat} {d:D} (r:Reps K H ds xs F) (h:ds[i]? = some d) :
  ∃x A B C,xs[i]? = some x/\F=A++B++C/\Rep K H d x B/\Reps K H (ds.take i) (xs.take i) A/\Reps K H (ds.drop (i+1)) (xs.drop (i+1)) C:=by
 induction ds generalizing xs F i with
 | nil=>simp at h
 | cons e ds ih =>
  cases r with
  | @cons _ v _ vs F G p r =>
   cases i with
   | zero =>
    simp at h
    subst h
    exact ⟨v,[],F,G,rfl,by simp,p,.nil,by simpa using r⟩
   | succ i =>
    obtain ⟨x,A,B,C,h1,h2,h3,h4,h5⟩:=ih r (i:=i) (by simpa using h)
    exact ⟨x,F++A,B,C,by simpa using h1,by rw [h2];simp,h3,by simpa using Reps.cons p h4,by simpa using h5⟩
theorem Reps.get {ds:List D} {xs:List V} {F:List Addr} {i:Nat} {d:D} (r:Reps K H ds xs F) (h:ds[i]? = some d):∃x B,xs[i]? = some x/\Rep K H d x B/\B.Sublist F:=by
 obtain ⟨x,A,B,C,h1,h2,h3,_⟩:=r.split h
 exact ⟨x,B,h1,h3,h2 ▸ (List.sublist_append_right A B).trans (List.sublist_append_left _ C)⟩
theorem Vt {α:Type} {l:List α} {i:Nat} {a:α} (h:i<l.length):l.set i a=l.take i++a::l.drop (i+1):=by
 rw [List.set_eq_take_append_cons_drop,if_pos h]
theorem Qei {α:Type} (l:List α) (i:Nat):l.eraseIdx i=l.take i++l.drop (i+1):=List.eraseIdx_eq_take_drop_succ l i
theorem Reps.take {ds:List D} {xs:List V} {F:List Addr} (i:Nat) (r:Reps K H ds xs F):∃G,Reps K H (ds.take i) (xs.take i) G/\G.Sublist F:=by
 induction ds generalizing xs F i with
 | nil=>cases r;exact ⟨[],by simpa using Reps.nil,List.Sublist.slnil⟩
 | cons d ds ih =>
  cases r with
  | @cons _ v _ vs F G p r =>
   cases i with
   | zero=>exact ⟨[],by simpa using Reps.nil,List.nil_sublist _⟩
   | succ i =>
    obtain ⟨G',q,s⟩:=ih i r
    exact ⟨F++G',by simpa using Reps.cons p q,List.Sublist.append (List.Sublist.refl _) s⟩
theorem Reps.drop {ds:List D} {xs:List V} {F:List Addr} (i:Nat) (r:Reps K H ds xs F):∃G,Reps K H (ds.drop i) (xs.drop i) G/\G.Sublist F:=by
 induction ds generalizing xs F i with
 | nil=>cases r;exact ⟨[],by simpa using Reps.nil,List.Sublist.slnil⟩
 | cons d ds ih =>
  cases i with
  | zero=>exact ⟨F,by simpa using r,List.Sublist.refl _⟩
  | succ i =>
   cases r with
   | @cons _ v _ vs F G p r =>
    obtain ⟨G',q,s⟩:=ih i r
    exact ⟨G',by simpa using q,s.trans (List.sublist_append_right _ _)⟩
theorem Reps.ints (ns:List Int):Reps K H (ns.map D.int) (ns.map V.int) []:=by
 induction ns with
 | nil=>exact .nil
 | cons n ns ih=>exact .cons (F:=[]) (G:=[]) (.int n) ih
theorem Reps.of_ints {ns:List Int} {xs:List V} {F:List Addr} (r:Reps K H (ns.map D.int) xs F):xs=ns.map V.int/\F=[]:=by
 induction ns generalizing xs F with
 | nil=>cases r;exact ⟨rfl,rfl⟩
 | cons n ns ih =>
  cases r with
  | cons h r =>
   cases h
   obtain ⟨e1,e2⟩:=ih r
   exact ⟨by rw [e1];rfl,by rw [e2];rfl⟩
end
def kcD:KC->D
 | .int i=>.int i
 | .any a=>.kc (.any a)
 | .fn x=>.kc (.fn x)
 | .tup ks=>.kc (.tup ks)
section
variable {K:PySem.W.Frag} {H:Hp}
theorem IsKC.rep {c:KC} {v:V} (h:IsKC K c v):Rep K H (kcD c) v []:=by
 cases h with
 | int i=>exact .int i
 | any a=>exact .kc (.any a)
 | fn h=>exact .kc (.fn h)
 | tup h1 h2 h3 h4 h5 r=>exact .kc (.tup h1 h2 h3 h4 h5 r)
theorem AreKC.reps {cs:List KC} {vs:List V} (h:AreKC K cs vs):Reps K H (cs.map kcD) vs []:=by
 induction cs generalizing vs with
 | nil=>cases h;exact .nil
 | cons c cs ih=>cases h with | cons h r=>exact .cons (F:=[]) (G:=[]) h.rep (ih r)
theorem IsKC.sqT {ks:List KC} {v:V} (h:IsKC K (.tup ks) v):∃a xs,v=.ref a/\(∀H,SqT K H a xs)/\AreKC K ks xs:=by
 cases h with
 | tup h1 h2 h3 h4 h5 r=>exact ⟨_,_,rfl,λH=>.inr ⟨_,_,_,h1,h2,h3,h4,h5⟩,r⟩
end
section
variable {K:PySem.W.Frag} {H:Hp} {v:V} {F:List Addr}
theorem Rep.iInt {i:Int} (r:Rep K H (.int i) v F):v=.int i:=by cases r;rfl
theorem Rep.iStr {i:Str} (r:Rep K H (.str i) v F):v=.str i:=by cases r;rfl
theorem Rep.iBl {i:Bool} (r:Rep K H (.bl i) v F):v=.bl i:=by cases r;rfl
theorem Rep.iTup {ds:List D} (r:Rep K H (.tup ds) v F):∃a xs,v=.ref a/\H a=some (.tup xs)/\Reps K H ds xs F:=by cases r with | tup e r=>exact ⟨_,_,rfl,e,r⟩
theorem Rep.iLst {ds:List D} (r:Rep K H (.lst ds) v F):∃a xs G,v=.ref a/\F=a::G/\H a=some (.lst xs)/\Reps K H ds xs G:=by cases r with | lst e r=>exact ⟨_,_,_,rfl,rfl,e,r⟩
theorem Rep.iDik {ds:List (Key × D)} (r:Rep K H (.dik ds) v F):∃a xs G,v=.ref a/\F=a::G/\H a=some (.dK xs)/\RepK K H ds xs G:=by cases r with | dik e r=>exact ⟨_,_,_,rfl,rfl,e,r⟩
theorem Rep.iDit {ds:List (List Key × D)} (r:Rep K H (.dit ds) v F):∃a xs G,v=.ref a/\F=a::G/\H a=some (.dT xs)/\RepT K H ds xs G:=by cases r with | dit e r=>exact ⟨_,_,_,rfl,rfl,e,r⟩
theorem Rep.iKls {ds:List D} (r:Rep K H (.kls ds) v F):∃a xs,v=.ref a/\F=[]/\FzL K H a xs/\Reps K H ds xs []:=by cases r with | kls e r=>exact ⟨_,_,rfl,rfl,e,r⟩
theorem Rep.iFdk {ds:List (Key × D)} (r:Rep K H (.fdk ds) v F):∃a o xs,v=.ref a/\H a=some (.frz o (.dK xs))/\RepK K H ds xs F:=by cases r with | fdk e r=>exact ⟨_,_,_,rfl,e,r⟩
end
section
variable {κ:Type} [DecidableEq κ]
def valD (kvs:List (κ × D)) (k:κ):Option D:=(kvs.find? λkv=>decide (kv.1=k)).map (·.2)
def putD (kvs:List (κ × D)) (k:κ) (v:D):List (κ × D) :=
 if (kvs.any λkv=>decide (kv.1=k))=true then kvs.map (λkv=>if kv.1=k then (kv.1,v) else kv) else kvs++[(k,v)]
def Yo (kvs:List (κ × D)) (k:κ):List (κ × D):=kvs.filter λkv=>decide (kv.1≠k)
theorem Uz {k:κ}:valD ([]:List (κ × D)) k=none:=rfl
theorem Jm {p:κ × D} {r:List (κ × D)} {k:κ}:valD (p::r) k=if p.1=k then some p.2 else valD r k:=by
 unfold valD
 by_cases h:p.1=k
 ·rw [List.find?_cons_of_pos (by simpa using h),if_pos h];rfl
 ·rw [List.find?_cons_of_neg (by simpa using h),if_neg h]
theorem Qaw (k:κ):∀kvs:List (κ × D),(kvs.any λkv=>decide (kv.1=k))=(valD kvs k).isSome
 | []=>rfl
 | p::r=>by
  rw [List.any_cons,Jm,Qaw k r]
  by_cases h:p.1=k <;> simp [h]
theorem Qdk (k j:κ) (y:D):∀kvs:List (κ × D),valD (kvs.map λkv=>if kv.1=k then (kv.1,y) else kv) j=(valD kvs j).map λx=>if j=k then y else x
 | []=>rfl
 | p::r=>by
  rw [List.map_cons,Jm,Jm,Qdk k j y r]
  by_cases h:p.1=k
  ·rw [if_pos h]
   by_cases h':p.1=j
   ·simp [h',← h]
   ·simp [h']
  ·rw [if_neg h]
   by_cases h':p.1=j
   ·subst h';simp [h]
   ·simp [h']
theorem Qa3 (k j:κ) (y:D):∀kvs:List (κ × D),valD (kvs++[(k,y)]) j=if (valD kvs j).isSome then valD kvs j else if k=j then some y else none
 | []=>by simp [Jm,Uz]
 | p::r=>by
  rw [List.cons_append,Jm,Jm,Qa3 k j y r]
  by_cases h:p.1=j <;> simp [h]
theorem Zz (kvs:List (κ × D)) (k j:κ) (y:D):valD (putD kvs k y) j=if j=k then some y else valD kvs j:=by
 unfold putD
 rw [Qaw]
 cases h:(valD kvs k).isSome with
 | true =>
  rw [if_pos rfl,Qdk]
  by_cases e:j=k
  ·subst e
   obtain ⟨x,hx⟩:=Option.isSome_iff_exists.mp h
   simp [hx]
  ·rw [if_neg e]
   cases valD kvs j <;> simp [e]
 | false =>
  rw [if_neg (by simp),Qa3]
  have hn:valD kvs k=none:=by simpa using h
  by_cases e:j=k
  ·subst e;simp [hn]
  ·have e':¬k=j:=λz=>e z.symm
   rw [if_neg e]
   cases valD kvs j <;> simp [e']
theorem J1 (kvs:List (κ × D)) (k:κ) (v:D):(putD kvs k v).length<=kvs.length+1:=by
 unfold putD
 split <;> simp
end
section
variable {K:PySem.W.Frag} {H:Hp}
theorem RepK.length {ds:List (Key × D)} {xs:List (Key × V)} {F:List Addr} (r:RepK K H ds xs F):xs.length=ds.length:=by
 induction ds generalizing xs F with
 | nil=>cases r;rfl
 | cons d ds ih=>cases r with | cons h r=>simp [ih r]
theorem RepK.keys {ds:List (Key × D)} {xs:List (Key × V)} {F:List Addr} (r:RepK K H ds xs F):xs.map (·.1)=ds.map (·.1):=by
 induction ds generalizing xs F with
 | nil=>cases r;rfl
 | cons d ds ih=>cases r with | cons h r=>simp [ih r]
theorem RepK.val {ds:List (Key × D)} {xs:List (Key × V)} {F:List Addr} (r:RepK K H ds xs F) (k:Key) :
  (valD ds k=none/\valV xs k=none)\/∃d v B,valD ds k=some d/\valV xs k=some v/\Rep K H d v B/\B.Sublist F:=by
 induction ds generalizing xs F with
 | nil=>cases r;exact .inl ⟨rfl,rfl⟩
 | cons d ds ih =>
  cases r with
  | @cons j d v _ vs F G h r =>
   rw [Jm]
   by_cases e:j=k
   ·rw [Vq e,if_pos e]
    exact .inr ⟨d,v,F,rfl,rfl,h,List.sublist_append_left _ _⟩
   ·rw [Vr e,if_neg e]
    rcases ih r with q | ⟨d',v',B,h1,h2,h3,h4⟩
    ·exact .inl q
    ·exact .inr ⟨d',v',B,h1,h2,h3,h4.trans (List.sublist_append_right _ _)⟩
theorem RepK.append {ds es:List (Key × D)} {xs ys:List (Key × V)} {F G:List Addr} (r:RepK K H ds xs F) (q:RepK K H es ys G):RepK K H (ds++es) (xs++ys) (F++G):=by
 induction ds generalizing xs F with
 | nil=>cases r;exact q
 | cons d ds ih=>cases r with | cons h r=>rw [List.append_assoc];exact .cons h (ih r)
theorem RepK.put {ds:List (Key × D)} {xs:List (Key × V)} {F:List Addr} {k:Key} {d:D} {v:V} (r:RepK K H ds xs F) (h:Rep K H d v []):∃G,RepK K H (putD ds k d) (putK xs k v) G/\G.Sublist F:=by
 have hk:(xs.any λkv=>decide (kv.1=k))=(ds.any λkv=>decide (kv.1=k)):=by
  have e:=r.keys
  rw [show (xs.any λkv=>decide (kv.1=k))=(xs.map (·.1)).any (λj=>decide (j=k)) by rw [List.any_map];rfl,e,List.any_map];rfl
 unfold putD putK
 rw [hk]
 split
 ·clear hk
  rename_i hc
  clear hc
  induction ds generalizing xs F with
  | nil=>cases r;exact ⟨[],.nil,List.Sublist.slnil⟩
  | cons e ds ih =>
   cases r with
   | @cons j e u _ us F G p r =>
    obtain ⟨G',q,s⟩:=ih r
    by_cases ej:j=k
    ·exact ⟨[]++G',by simpa [ej] using RepK.cons (k:=k) h q,s.trans (List.sublist_append_right _ _)⟩
    ·exact ⟨F++G',by simpa [ej] using RepK.cons (k:=j) p q,List.Sublist.append (List.Sublist.refl _) s⟩
 ·refine ⟨F++[],r.append ?_,by simp⟩
  exact RepK.cons (F:=[]) (G:=[]) h .nil
theorem RepT.length {ds:List (List Key × D)} {xs:List (List Key × V)} {F:List Addr} (r:RepT K H ds xs F):xs.length=ds.length:=by
 induction ds generalizing xs F with
 | nil=>cases r;rfl
 | cons d ds ih=>cases r with | cons h r=>simp [ih r]
theorem RepT.keys {ds:List (List Key × D)} {xs:List (List Key × V)} {F:List Addr} (r:RepT K H ds xs F):xs.map (·.1)=ds.map (·.1):=by
 induction ds generalizing xs F with
 | nil=>cases r;rfl
 | cons d ds ih=>cases r with | cons h r=>simp [ih r]
theorem RepT.val {ds:List (List Key × D)} {xs:List (List Key × V)} {F:List Addr} (r:RepT K H ds xs F) (k:List Key) :
  (valD ds k=none/\valV xs k=none)\/∃d v B,valD ds k=some d/\valV xs k=some v/\Rep K H d v B/\B.Sublist F:=by
 induction ds generalizing xs F with
 | nil=>cases r;exact .inl ⟨rfl,rfl⟩
 | cons d ds ih =>
  cases r with
  | @cons j d v _ vs F G h r =>
   rw [Jm]
   by_cases e:j=k
   ·rw [Vq e,if_pos e]
    exact .inr ⟨d,v,F,rfl,rfl,h,List.sublist_append_left _ _⟩
   ·rw [Vr e,if_neg e]
    rcases ih r with q | ⟨d',v',B,h1,h2,h3,h4⟩
    ·exact .inl q
    ·exact .inr ⟨d',v',B,h1,h2,h3,h4.trans (List.sublist_append_right _ _)⟩
theorem RepT.append {ds es:List (List Key × D)} {xs ys:List (List Key × V)} {F G:List Addr} (r:RepT K H ds xs F) (q:RepT K H es ys G):RepT K H (ds++es) (xs++ys) (F++G):=by
 induction ds generalizing xs F with
 | nil=>cases r;exact q
 | cons d ds ih=>cases r with | cons h r=>rw [List.append_assoc];exact .cons h (ih r)
theorem RepT.put {ds:List (List Key × D)} {xs:List (List Key × V)} {F:List Addr} {k:List Key} {d:D} {v:V} (r:RepT K H ds xs F) (h:Rep K H d v []):∃G,RepT K H (putD ds k d) (putK xs k v) G/\G.Sublist F:=by
 have hk:(xs.any λkv=>decide (kv.1=k))=(ds.any λkv=>decide (kv.1=k)):=by
  have e:=r.keys
  rw [show (xs.any λkv=>decide (kv.1=k))=(xs.map (·.1)).any (λj=>decide (j=k)) by rw [List.any_map];rfl,e,List.any_map];rfl
 unfold putD putK
 rw [hk]
 split
 ·clear hk
  rename_i hc
  clear hc
  induction ds generalizing xs F with
  | nil=>cases r;exact ⟨[],.nil,List.Sublist.slnil⟩
  | cons e ds ih =>
   cases r with
   | @cons j e u _ us F G p r =>
    obtain ⟨G',q,s⟩:=ih r
    by_cases ej:j=k
    ·exact ⟨[]++G',by simpa [ej] using RepT.cons (k:=k) h q,s.trans (List.sublist_append_right _ _)⟩
    ·exact ⟨F++G',by simpa [ej] using RepT.cons (k:=j) p q,List.Sublist.append (List.Sublist.refl _) s⟩
 ·refine ⟨F++[],r.append ?_,by simp⟩
  exact RepT.cons (F:=[]) (G:=[]) h .nil
end
end PV
namespace PV
open PySem PySem.Spec L2
abbrev Env:=List (Option D)
def look:Env->Nat->Option D
 | [],_=>none
 | a::_,0=>a
 | _::r,n+1=>look r n
theorem Qd8:∀{ρ:Env} {i:Nat} {d:D},look ρ i=some d->ρ[i]? = some (some d)
 | _::_,0,_,h=>by simpa [look] using h
 | _::r,n+1,_,h=>by simpa using Qd8 (ρ:=r) (i:=n) (by simpa [look] using h)
theorem Gm {ρ:Env} {i:Nat} {d:D} (h:look ρ i=some d):i<ρ.length:=by
 have:=Qd8 h
 exact (List.getElem?_eq_some_iff.mp this).1
theorem V2 {o:Option D}:∀{ρ:Env} {i j:Nat},look (ρ.set i o) j=if j=i/\i<ρ.length then o else look ρ j
 | [],i,j=>by simp [look]
 | a::r,0,0=>by simp [look]
 | a::r,0,j+1=>by simp [look]
 | a::r,i+1,0=>by simp [look]
 | a::r,i+1,j+1=>by
  have:=V2 (o:=o) (ρ:=r) (i:=i) (j:=j)
  simp only [List.set_cons_succ,look,this,List.length_cons,Nat.add_right_cancel_iff,Nat.add_lt_add_iff_right]
theorem Zh {o:Option D} {ρ:Env} {i:Nat} (h:i<ρ.length):look (ρ.set i o) i=o:=by rw [V2,if_pos ⟨rfl,h⟩]
theorem Qr {o:Option D} {ρ:Env} {i j:Nat} (h:j≠i):look (ρ.set i o) j=look ρ j:=by rw [V2,if_neg (λz=>h z.1)]
structure Tg where
 own:Nat->Bool
 io:List Nat
 xe:D->St->Hp->Prop:=λ_ _ _=>False
structure SR0 (K:PySem.W.Frag) (T:Tg) (z:Nat->V) (R:Addr->Prop) (H:Hp) (W:Addr->Prop) (σ:St) (ρ:Env) (fp:Nat->List Addr):Prop where
 len:ρ.length=σ.length
 wd:∀a,W a->∃ob,H a=some ob/\imm ob=false
 at_:∀i d,look ρ i=some d->∃v,σ[i]? = some (some v)/\Rep K H d v (fp i)
 own:∀i d,look ρ i=some d->T.own i=true->(fp i).Nodup/\∀a∈fp i,W a
 ro:∀i d,look ρ i=some d->T.own i=false->∀a∈fp i,R a
 wr:∀a,W a->¬R a
 rd:∀a,R a->∃ob,H a=some ob/\imm ob=false
 dis:∀i j d e,look ρ i=some d->look ρ j=some e->T.own i=true->T.own j=true->i≠j->∀a∈fp i,a∉fp j
 fix:∀i∈T.io,σ[i]? = some (some (z i))
def SR (K:PySem.W.Frag) (T:Tg) (z:Nat->V) (R:Addr->Prop) (H:Hp) (W:Addr->Prop) (σ:St) (ρ:Env):Prop:=∃fp,SR0 K T z R H W σ ρ fp
structure FrW (H:Hp) (W:Addr->Prop) (H':Hp) (W':Addr->Prop):Prop where
 keep:∀b ob,H b=some ob->¬W b->H' b=some ob
 dom:∀b,H' b=none->H b=none
 imm:ImmK H H'
 new:∀b,W' b->W b\/H b=none
theorem FrW.refl (H:Hp) (W:Addr->Prop):FrW H W H W:=⟨λ_ _ h _=>h,λ_ h=>h,λ_ _ h _=>h,λ_ h=>.inl h⟩
theorem FrW.trans {H H1 H2:Hp} {W W1 W2:Addr->Prop} (a:FrW H W H1 W1) (b:FrW H1 W1 H2 W2):FrW H W H2 W2 where
 keep:=λc ob h n=>b.keep c ob (a.keep c ob h n) λw=>by
  rcases a.new c w with w | w
  ·exact n w
  ·rw [w] at h;cases h
 dom:=λc h=>a.dom c (b.dom c h)
 imm:=λc ob h i=>b.imm c ob (a.imm c ob h i) i
 new:=λc h=>by
  rcases b.new c h with w | w
  ·exact a.new c w
  ·exact .inr (a.dom c w)
theorem Same.imm {H H':Hp} (s:Same H H'):ImmK H H':=λb ob h _=>s b ob h
theorem FrW.same {H H':Hp} (W:Addr->Prop) (s:Same H H'):FrW H W H' W:=⟨λb ob h _=>s b ob h,λb h=>s.free h,Same.imm s,λ_ h=>.inl h⟩
theorem Rep.same {K:PySem.W.Frag} {H H':Hp} {d:D} {v:V} {F:List Addr} (r:Rep K H d v F) (s:Same H H'):Rep K H' d v F :=
 r.frame (Same.imm s) λa m=>by
  obtain ⟨ob,h,_⟩:=r.dom a m
  rw [h];exact s _ _ h
theorem Reps.same {K:PySem.W.Frag} {H H':Hp} {d:List D} {v:List V} {F:List Addr} (r:Reps K H d v F) (s:Same H H'):Reps K H' d v F :=
 r.frame (Same.imm s) λa m=>by
  obtain ⟨ob,h,_⟩:=r.dom a m
  rw [h];exact s _ _ h
theorem Rep.keep {K:PySem.W.Frag} {H H':Hp} {W W':Addr->Prop} {d:D} {v:V} {F:List Addr} (r:Rep K H d v F) (f:FrW H W H' W') (n:∀a∈F,¬W a):Rep K H' d v F :=
 r.frame f.imm λa m=>by
  obtain ⟨ob,h,_⟩:=r.dom a m
  rw [h];exact f.keep _ _ h (n a m)
section
variable {K:PySem.W.Frag} {T:Tg} {z:Nat->V} {R:Addr->Prop} {H H':Hp} {W W':Addr->Prop} {σ:St} {ρ:Env}
theorem SR.same (s:SR K T z R H W σ ρ) (k:Same H H'):SR K T z R H' W σ ρ:=by
 obtain ⟨fp,r⟩:=s
 exact ⟨fp,r.len,λa h=>(r.wd a h).imp λob q=>⟨k _ _ q.1,q.2⟩,λi d h=>(r.at_ i d h).imp λv q=>⟨q.1,q.2.same k⟩,r.own,r.ro,r.wr,λa h=>(r.rd a h).imp λob q=>⟨k _ _ q.1,q.2⟩,r.dis,r.fix⟩
theorem SR.wd (s:SR K T z R H W σ ρ):∀a,W a->∃ob,H a=some ob/\imm ob=false:=by obtain ⟨fp,r⟩:=s;exact r.wd
theorem SR.rd (s:SR K T z R H W σ ρ):∀a,R a->∃ob,H a=some ob/\imm ob=false:=by obtain ⟨fp,r⟩:=s;exact r.rd
theorem SR.nr (s:SR K T z R H W σ ρ) {a:Addr} (h:H a=none):¬R a:=λw=>by
 obtain ⟨ob,q,_⟩:=s.rd a w
 rw [h] at q;cases q
theorem SR.nw (s:SR K T z R H W σ ρ) {a:Addr} (h:H a=none):¬W a:=λw=>by
 obtain ⟨ob,q,_⟩:=s.wd a w
 rw [h] at q;cases q
end
abbrev WE:=Env->(D->Env->Prop)->Prop
structure Post (K:PySem.W.Frag) (T:Tg) (z:Nat->V) (R:Addr->Prop) (m o:Bool) (H:Hp) (W:Addr->Prop) (σ:St) (ρ:Env) (H':Hp) (W':Addr->Prop) (ρ':Env) (d:D) (v:V) (F:List Addr):Prop where
 sr:SR K T z R H' W' σ ρ'
 fr:FrW H W H' W'
 calm:m=false->Same H H'/\W'=W/\ρ'=ρ
 rep:Rep K H' d v F
 own:o=true->F.Nodup/\∀a∈F,H a=none/\¬W' a
def EV (X:Cx) (T:Tg) (m o:Bool) (e:Expr) (w:WE):Prop :=
 ∃te,PE X e te/\∀(z:Nat->V) (R:Addr->Prop) (σ:St) (H:Hp) (W:Addr->Prop) (ρ:Env) (Q:D->Env->Prop) (Q':VK),SR X.K T z R H W σ ρ->w ρ Q ->
  (∀v H' W' d ρ' F,Post X.K T z R m o H W σ ρ H' W' ρ' d v F->Q d ρ'->Q' v H')->te σ H Q'
section
variable {K:PySem.W.Frag} {T:Tg} {z:Nat->V} {R:Addr->Prop} {H H1 H2:Hp} {W W1 W2:Addr->Prop} {σ:St} {ρ ρ1 ρ2:Env} {m1 m2 o1 o2:Bool} {d1 d2:D} {v1 v2:V} {F1 F2:List Addr}
theorem Post.first (p:Post K T z R m1 o1 H W σ ρ H1 W1 ρ1 d1 v1 F1) (q:Post K T z R m2 o2 H1 W1 σ ρ1 H2 W2 ρ2 d2 v2 F2) (hc:o1=true\/m2=false):Rep K H2 d1 v1 F1:=by
 rcases hc with hc | hc
 ·exact p.rep.keep q.fr λa h=>((p.own hc).2 a h).2
 ·exact p.rep.same (q.calm hc).1
theorem Post.firstOwn (p:Post K T z R m1 o1 H W σ ρ H1 W1 ρ1 d1 v1 F1) (q:Post K T z R m2 o2 H1 W1 σ ρ1 H2 W2 ρ2 d2 v2 F2) (h:o1=true):F1.Nodup/\∀a∈F1,H a=none/\¬W2 a:=by
 obtain ⟨h1,h2⟩:=p.own h
 refine ⟨h1,λa m=>⟨(h2 a m).1,λw=>?_⟩⟩
 rcases q.fr.new a w with w | w
 ·exact (h2 a m).2 w
 ·obtain ⟨ob,e,_⟩:=p.rep.dom a m
  rw [e] at w;cases w
theorem Post.lastOwn (p:Post K T z R m1 o1 H W σ ρ H1 W1 ρ1 d1 v1 F1) (q:Post K T z R m2 o2 H1 W1 σ ρ1 H2 W2 ρ2 d2 v2 F2) (h:o2=true):F2.Nodup/\∀a∈F2,H a=none/\¬W2 a:=by
 obtain ⟨h1,h2⟩:=q.own h
 exact ⟨h1,λa m=>⟨p.fr.dom a (h2 a m).1,(h2 a m).2⟩⟩
theorem Post.calm2 (p:Post K T z R m1 o1 H W σ ρ H1 W1 ρ1 d1 v1 F1) (q:Post K T z R m2 o2 H1 W1 σ ρ1 H2 W2 ρ2 d2 v2 F2) (h:(m1 || m2)=false):Same H H2/\W2=W/\ρ2=ρ:=by
 rw [Bool.or_eq_false_iff] at h
 obtain ⟨a1,a2,a3⟩:=p.calm h.1
 obtain ⟨b1,b2,b3⟩:=q.calm h.2
 exact ⟨a1.trans b1,b2.trans a2,b3.trans a3⟩
theorem Post.fin {m:Bool} {d:D} {v:V} {F:List Addr} (s:SR K T z R H1 W1 σ ρ1) (f:FrW H W H1 W1) (c:m=false->Same H H1/\W1=W/\ρ1=ρ) (k:Same H1 H2) (r:Rep K H2 d v F) (nd:F.Nodup) (nw:∀a∈F,H1 a=none) :
  Post K T z R m true H W σ ρ H2 W1 ρ1 d v F where
 sr:=s.same k
 fr:=f.trans (FrW.same W1 k)
 calm:=λh=>⟨(c h).1.trans k,(c h).2⟩
 rep:=r
 own:=λ_=>⟨nd,λa m=>⟨f.dom a (nw a m),s.nw (nw a m)⟩⟩
theorem Post.flat {m:Bool} {d:D} {v:V} (s:SR K T z R H1 W1 σ ρ1) (f:FrW H W H1 W1) (c:m=false->Same H H1/\W1=W/\ρ1=ρ) (r:Rep K H1 d v []):Post K T z R m true H W σ ρ H1 W1 ρ1 d v [] where
 sr:=s
 fr:=f
 calm:=c
 rep:=r
 own:=λ_=>⟨List.nodup_nil,λa m=>nomatch m⟩
end
section
variable {X:Cx} {T:Tg} {m o m1 m2 o1 o2:Bool} {e a b:Expr} {w wa wb:WE} {pos:Pos}
theorem EV.lift (h:EV X T m o e w):EV X T m true e (λρ Q=>w ρ λd ρ'=>d.pure=true/\Q d ρ'):=by
 obtain ⟨te,p,g⟩:=h
 refine ⟨te,p,λz R σ H W ρ Q Q' s hw k=>g z R σ H W ρ _ Q' s hw λv H' W' d ρ' F q ⟨hp,hq⟩=>?_⟩
 obtain ⟨e,r⟩:=q.rep.pure hp
 exact k v H' W' d ρ' [] ⟨q.sr,q.fr,q.calm,r,λ_=>⟨List.nodup_nil,λa m=>nomatch m⟩⟩ hq
theorem EV.ro (h:EV X T m o e w):EV X T m false e w:=by
 obtain ⟨te,p,g⟩:=h
 exact ⟨te,p,λz R σ H W ρ Q Q' s hw k=>g z R σ H W ρ _ Q' s hw λv H' W' d ρ' F q hq=>k v H' W' d ρ' F ⟨q.sr,q.fr,q.calm,q.rep,λh=>nomatch h⟩ hq⟩
def wVar (i:Nat):WE:=λρ Q=>match look ρ i with
 | some d=>Q d ρ
 | none=>False
def wC (d:D):WE:=λρ Q=>Q d ρ
theorem Qtp (i:Nat) (h:PE X e (tVar i)):EV X T false false e (wVar i):=by
 refine ⟨_,h,λz R σ H W ρ Q Q' s hw k=>?_⟩
 unfold wVar at hw
 cases hl:look ρ i with
 | none=>rw [hl] at hw;exact hw.elim
 | some d =>
  rw [hl] at hw
  obtain ⟨fp,r⟩:=s
  obtain ⟨v,h1,h2⟩:=r.at_ i d hl
  exact ⟨v,h1,k v H W d ρ (fp i) ⟨⟨fp,r⟩,FrW.refl H W,λ_=>⟨Same.refl H,rfl,rfl⟩,h2,λh=>nomatch h⟩ hw⟩
theorem Qb (i:Nat) {x:Str} (hN:X.N[i]? = some x:=by rfl) (hv:Vis X.env.scope x:=by first | exact Or.inl rfl | exact Or.inr (Or.inl rfl) | exact Or.inr (Or.inr rfl)) (hd:(x == ("__debug__" : Str))=false:=by decide)
  (hcd:(x == ("__classdict__" : Str))=false:=by decide):EV X T false false (.Name x pos) (wVar i):=Qtp i (Vy hN hv hd hcd)
theorem Z6 {d:D} {v:V} (h:PE X e (tC v)) (r:∀H,Rep X.K H d v []):EV X T false true e (wC d) :=
 ⟨_,h,λz R σ H W ρ Q Q' s hw k=>k v H W d ρ [] (Post.flat s (FrW.refl H W) (λ_=>⟨Same.refl H,rfl,rfl⟩) (r H)) hw⟩
theorem Qe {i:Int} {j pos}:EV X T false true (.Constant (.int i) j pos) (wC (.int i)):=Z6 Qqg λ_=>.int i
theorem Qc2 {i:Bool} {j pos}:EV X T false true (.Constant (.bool i) j pos) (wC (.bl i)):=Z6 Qs7 λ_=>.bl i
theorem Qhg {j pos}:EV X T false true (.Constant .none j pos) (wC .non):=Z6 Qqe λ_=>.non
theorem Qoe {x:Str} {i:Int} {t:Tok} (hm:X.mg x=some (.int i t)) (hg:Gl X x:=by rfl) (hd:(x == ("__debug__" : Str))=false:=by decide):EV X T false true (.Name x pos) (wC (.int i)) :=
 Z6 (Qgf hg hm (v:=.int i) ⟨t,rfl⟩ hd) λ_=>.int i
abbrev G2:=D->D->(D->Prop)->Prop
structure Fin (K:PySem.W.Frag) (H H':Hp) (d:D) (v:V) (F:List Addr):Prop where
 same:Same H H'
 rep:Rep K H' d v F
 nd:F.Nodup
 new:∀a∈F,H a=none
theorem Fin.flat {K:PySem.W.Frag} {H:Hp} {d:D} {v:V} (r:Rep K H d v []):Fin K H H d v []:=⟨Same.refl H,r,List.nodup_nil,λ_ m=>nomatch m⟩
theorem Qh {H:Hp} {p:Addr} {ob:HO} (h:H p=none):Same H (upd H p ob):=λb u e=>by rw [Ql (Qx e h)];exact e
def OpD (X:Cx) (f:Value->Value->Sem Value) (g:G2):Prop :=
 ∃r,OpR X f r/\∀(H:Hp) (a b:D) (x y:V) (F1 F2:List Addr) (k:D->Prop) (Q:VK),Rep X.K H a x F1->Rep X.K H b y F2->g a b k ->
  (∀v H' d F,Fin X.K H H' d v F->k d->Q v H')->r x y H Q
def wBin (g:G2) (wa wb:WE):WE:=λρ Q=>wa ρ λx ρ1=>wb ρ1 λy ρ2=>g x y λd=>Q d ρ2
theorem two {ta tb:TE} {z:Nat->V} {R:Addr->Prop} {σ:St} {H:Hp} {W:Addr->Prop} {ρ:Env} {RR:V->V->Hp->Prop} {Q2:D->D->Env->Prop}
  (ga:∀(z:Nat->V) (R:Addr->Prop) (σ:St) (H:Hp) (W:Addr->Prop) (ρ:Env) (Q:D->Env->Prop) (Q':VK),SR X.K T z R H W σ ρ->wa ρ Q->(∀v H' W' d ρ' F,Post X.K T z R m1 o1 H W σ ρ H' W' ρ' d v F->Q d ρ'->Q' v H')->ta σ H Q')
  (gb:∀(z:Nat->V) (R:Addr->Prop) (σ:St) (H:Hp) (W:Addr->Prop) (ρ:Env) (Q:D->Env->Prop) (Q':VK),SR X.K T z R H W σ ρ->wb ρ Q->(∀v H' W' d ρ' F,Post X.K T z R m2 o2 H W σ ρ H' W' ρ' d v F->Q d ρ'->Q' v H')->tb σ H Q')
  (hc:o1=true\/m2=false) (s:SR X.K T z R H W σ ρ) (hw:wa ρ λx ρ1=>wb ρ1 λy ρ2=>Q2 x y ρ2)
  (k:∀x y H2 W2 d1 d2 ρ2 F1 F2,SR X.K T z R H2 W2 σ ρ2->FrW H W H2 W2->((m1 || m2)=false->Same H H2/\W2=W/\ρ2=ρ)->Rep X.K H2 d1 x F1->Rep X.K H2 d2 y F2 ->
   (o1=true->F1.Nodup/\∀a∈F1,H a=none/\¬W2 a)->(o2=true->F2.Nodup/\∀a∈F2,H a=none/\¬W2 a)->(o2=true->∀a∈F1,a∉F2)->Q2 d1 d2 ρ2->RR x y H2) :
  ta σ H λx H1=>tb σ H1 λy H2=>RR x y H2:=by
 refine ga z R σ H W ρ _ _ s hw λv1 H1 W1 d1 ρ1 F1 p q1=>?_
 refine gb z R σ H1 W1 ρ1 _ _ p.sr q1 λv2 H2 W2 d2 ρ2 F2 q q2=>?_
 refine k v1 v2 H2 W2 d1 d2 ρ2 F1 F2 q.sr (p.fr.trans q.fr) (p.calm2 q) (p.first q hc) q.rep (p.firstOwn q) (p.lastOwn q) (λh a m1 m2=>?_) q2
 obtain ⟨ob,e,_⟩:=p.rep.dom a m1
 rw [((q.own h).2 a m2).1] at e
 cases e
theorem Q9 {op:Operator} {g:G2} (ho:OpD X (binaryOp op) g) (ha:EV X T m1 o1 a wa) (hb:EV X T m2 o2 b wb) (hc:o1=true\/m2=false:=by first | exact .inl rfl | exact .inr rfl) :
  EV X T (m1 || m2) true (.BinOp a op b pos) (wBin g wa wb):=by
 obtain ⟨r,ro,gr⟩:=ho
 obtain ⟨ta,pa,ga⟩:=ha
 obtain ⟨tb,pb,gb⟩:=hb
 refine ⟨_,Qs4 ro pa pb,λz R σ H W ρ Q Q' s hw k=>?_⟩
 refine two ga gb hc s hw λx y H2 W2 d1 d2 ρ2 F1 F2 s2 f2 c2 r1 r2 _ _ _ q2=>?_
 exact gr H2 d1 d2 x y F1 F2 _ Q' r1 r2 q2 λv H' d F fi hk=>k v H' W2 d ρ2 F (Post.fin s2 f2 c2 fi.same fi.rep fi.nd fi.new) hk
theorem Qlk {op:CmpOp} {g:G2} (ho:OpD X (compareOp op) g) (ha:EV X T m1 o1 a wa) (hb:EV X T m2 o2 b wb) (hc:o1=true\/m2=false:=by first | exact .inl rfl | exact .inr rfl)
  (hm:behindInMarks op b=false:=by first | exact Qld _ | with_unfolding_all rfl):EV X T (m1 || m2) true (.Compare a [op] [b] pos) (wBin g wa wb):=by
 obtain ⟨r,ro,gr⟩:=ho
 obtain ⟨ta,pa,ga⟩:=ha
 obtain ⟨tb,pb,gb⟩:=hb
 refine ⟨_,Qnh ro pa pb hm,λz R σ H W ρ Q Q' s hw k=>?_⟩
 refine two ga gb hc s hw λx y H2 W2 d1 d2 ρ2 F1 F2 s2 f2 c2 r1 r2 _ _ _ q2=>?_
 exact gr H2 d1 d2 x y F1 F2 _ Q' r1 r2 q2 λv H' d F fi hk=>k v H' W2 d ρ2 F (Post.fin s2 f2 c2 fi.same fi.rep fi.nd fi.new) hk
def UnD (X:Cx) (f:Value->Sem Value) (g:D->(D->Prop)->Prop):Prop :=
 ∃r,UnR X f r/\∀(H:Hp) (a:D) (x:V) (F1:List Addr) (k:D->Prop) (Q:VK),Rep X.K H a x F1->g a k->(∀v H' d F,Fin X.K H H' d v F->k d->Q v H')->r x H Q
def wUn (g:D->(D->Prop)->Prop) (wa:WE):WE:=λρ Q=>wa ρ λx ρ1=>g x λd=>Q d ρ1
theorem Qrq {op:UnaryOp} {g:D->(D->Prop)->Prop} (ho:UnD X (unaryOp op) g) (ha:EV X T m o a wa):EV X T m true (.UnaryOp op a pos) (wUn g wa):=by
 obtain ⟨r,ro,gr⟩:=ho
 obtain ⟨ta,pa,ga⟩:=ha
 refine ⟨_,Qs3 ro pa,λz R σ H W ρ Q Q' s hw k=>?_⟩
 refine ga z R σ H W ρ _ _ s hw λv1 H1 W1 d1 ρ1 F1 p q1=>?_
 exact gr H1 d1 v1 F1 _ Q' p.rep q1 λv H' d F fi hk=>k v H' W1 d ρ1 F (Post.fin p.sr p.fr p.calm fi.same fi.rep fi.nd fi.new) hk
abbrev WT:=Env->(Bool->Env->Prop)->Prop
structure PostT (K:PySem.W.Frag) (T:Tg) (z:Nat->V) (R:Addr->Prop) (m:Bool) (H:Hp) (W:Addr->Prop) (σ:St) (ρ:Env) (H':Hp) (W':Addr->Prop) (ρ':Env):Prop where
 sr:SR K T z R H' W' σ ρ'
 fr:FrW H W H' W'
 calm:m=false->Same H H'/\W'=W/\ρ'=ρ
def TV (X:Cx) (T:Tg) (m:Bool) (e:Expr) (w:WT):Prop :=
 ∃tt,PT X e tt/\∀(z:Nat->V) (R:Addr->Prop) (σ:St) (H:Hp) (W:Addr->Prop) (ρ:Env) (Q:Bool->Env->Prop) (Q':Bool->Hp->Prop),SR X.K T z R H W σ ρ->w ρ Q ->
  (∀b H' W' ρ',PostT X.K T z R m H W σ ρ H' W' ρ'->Q b ρ'->Q' b H')->tt σ H Q'
def truD:D->Option Bool
 | .non=>some false
 | .bl b=>some b
 | .int i=>some (i != 0)
 | .str y=>if y.length<=sizeLine then some ((y.length:Int) != 0) else none
 | .lst xs=>some (!xs.isEmpty)
 | .tup xs=>some (!xs.isEmpty)
 | .dik kvs=>some (!kvs.isEmpty)
 | .kls xs=>some (!xs.isEmpty)
 | .dit _=>none
 | .ty _=>none
 | .fdk _=>none
 | .ftp _=>none
 | .fls _=>none
 | .fdt _=>none
 | .obj _ _=>none
 | .clo _ _=>none
 | .kc _=>none
 | .dmx _=>none
 | .fmx _=>none
def wTru (wa:WE):WT:=λρ Q=>wa ρ λd ρ'=>match truD d with
 | some b=>Q b ρ'
 | none=>False
theorem Reps.emp {K:PySem.W.Frag} {H:Hp} {ds:List D} {xs:List V} {F:List Addr} (r:Reps K H ds xs F):ds.isEmpty=xs.isEmpty:=by
 have:=r.length
 cases ds <;> cases xs <;> simp at this <;> rfl
theorem RepK.emp {K:PySem.W.Frag} {H:Hp} {ds:List (Key × D)} {xs:List (Key × V)} {F:List Addr} (r:RepK K H ds xs F):ds.isEmpty=xs.isEmpty:=by
 have:=r.length
 cases ds <;> cases xs <;> simp at this <;> rfl
theorem Ql8 {K:PySem.W.Frag} {H:Hp} {d:D} {x:V} {F:List Addr} {b:Bool} (r:Rep K H d x F) (h:truD d=some b):TruV K x H b:=by
 cases r with
 | non=>exact (Option.some.inj h).symm
 | bl c=>exact (Option.some.inj h).symm
 | int c=>exact (Option.some.inj h).symm
 | str y =>
  have h:(if y.length<=sizeLine then some ((y.length:Int) != 0) else none)=some b:=h
  split at h
  ·rename_i hl;exact ⟨hl,(Option.some.inj h).symm⟩
  ·cases h
 | tup e r =>
  refine .inr (.inl ⟨_,.of e,?_⟩)
  rw [← Option.some.inj h,r.emp]
 | lst e r =>
  refine .inl ⟨_,.of e,?_⟩
  rw [← Option.some.inj h,r.emp]
 | kls e r =>
  refine .inl ⟨_,e.sq,?_⟩
  rw [← Option.some.inj h,r.emp]
 | dik e r =>
  refine .inr (.inr ⟨_,e,?_⟩)
  rw [← Option.some.inj h,r.emp]
 | dit e r=>cases h
 | ty t=>cases h
 | fdk e r=>cases h
 | ftp e hd r=>cases h
 | fls e r=>cases h
 | fdt e r=>cases h
 | obj e hc hf=>cases h
 | clo e r=>cases h
 | kc a=>cases h
 | dmx e hk hm r=>cases h
 | fmx e hk hm r=>cases h
theorem Xi (ha:EV X T m o a wa) (he:∀whole,isTrue a X.env whole=(do let v ← whole;standAt a.pos;holding [v] (truthy v)):=by intro _;rfl):TV X T m a (wTru wa):=by
 obtain ⟨ta,pa,ga⟩:=ha
 refine ⟨_,Qiz pa he,λz R σ H W ρ Q Q' s hw k=>?_⟩
 refine ga z R σ H W ρ _ _ s hw λv1 H1 W1 d1 ρ1 F1 p q1=>?_
 cases ht:truD d1 with
 | none=>rw [ht] at q1;exact q1.elim
 | some b =>
  rw [ht] at q1
  exact ⟨b,Ql8 p.rep ht,k b H1 W1 ρ1 ⟨p.sr,p.fr,p.calm⟩ q1⟩
def wBl (wa:WE):WT:=λρ Q=>wa ρ λd ρ'=>match d with
 | .bl b=>Q b ρ'
 | _=>False
theorem Qds {K:PySem.W.Frag} {H:Hp} {b:Bool} {x:V} {F:List Addr} (r:Rep K H (.bl b) x F):x=.bl b:=by cases r;rfl
theorem Zk {op:CmpOp} {g:G2} (ho:OpD X (compareOp op) g) (ha:EV X T m1 o1 a wa) (hb:EV X T m2 o2 b wb) (hc:o1=true\/m2=false:=by first | exact .inl rfl | exact .inr rfl)
  (hm:behindInMarks op b=false:=by first | exact Qld _ | with_unfolding_all rfl):TV X T (m1 || m2) (.Compare a [op] [b] pos) (wBl (wBin g wa wb)):=by
 obtain ⟨r,ro,gr⟩:=ho
 obtain ⟨ta,pa,ga⟩:=ha
 obtain ⟨tb,pb,gb⟩:=hb
 refine ⟨_,Qm5 ro pa pb hm,λz R σ H W ρ Q Q' s hw k=>?_⟩
 refine two ga gb hc s hw λx y H2 W2 d1 d2 ρ2 F1 F2 s2 f2 c2 r1 r2 _ _ _ q2=>?_
 refine gr H2 d1 d2 x y F1 F2 _ _ r1 r2 q2 λv H' d F fi hk=>?_
 cases d with
 | bl b=>exact ⟨b,Qds fi.rep,k b H' W2 ρ2 ⟨s2.same fi.same,f2.trans (FrW.same W2 fi.same),λh=>⟨(c2 h).1.trans fi.same,(c2 h).2⟩⟩ hk⟩
 | _=>exact hk.elim
variable {wt wu:WT} {rest:List Expr}
def wNot (wt:WT):WT:=λρ Q=>wt ρ λb ρ'=>Q (!b) ρ'
def wOr (wt wu:WT):WT:=λρ Q=>wt ρ λb ρ'=>if b=true then Q true ρ' else wu ρ' Q
theorem Qa4 (ha:TV X T m a wt):TV X T m (.UnaryOp .Not a pos) (wNot wt):=by
 obtain ⟨ta,pa,ga⟩:=ha
 exact ⟨_,Qp7 pa,λz R σ H W ρ Q Q' s hw k=>ga z R σ H W ρ _ _ s hw λb H1 W1 ρ1 p q1=>k (!b) H1 W1 ρ1 p q1⟩
def BV (X:Cx) (T:Tg) (m:Bool) (e:Expr) (w:WT):Prop :=
 ∃tt,PW X e tt/\∀(z:Nat->V) (R:Addr->Prop) (σ:St) (H:Hp) (W:Addr->Prop) (ρ:Env) (Q:Bool->Env->Prop) (Q':Bool->Hp->Prop),SR X.K T z R H W σ ρ->w ρ Q ->
  (∀b H' W' ρ',PostT X.K T z R m H W σ ρ H' W' ρ'->Q b ρ'->Q' b H')->tt σ H Q'
theorem PostT.seq {K:PySem.W.Frag} {z:Nat->V} {R:Addr->Prop} {H H1 H2:Hp} {W W1 W2:Addr->Prop} {σ:St} {ρ ρ1 ρ2:Env} (p:PostT K T z R m1 H W σ ρ H1 W1 ρ1) (q:PostT K T z R m2 H1 W1 σ ρ1 H2 W2 ρ2):PostT K T z R (m1 || m2) H W σ ρ H2 W2 ρ2 where
 sr:=q.sr
 fr:=p.fr.trans q.fr
 calm:=λh=>by
  rw [Bool.or_eq_false_iff] at h
  obtain ⟨a1,a2,a3⟩:=p.calm h.1
  obtain ⟨b1,b2,b3⟩:=q.calm h.2
  exact ⟨a1.trans b1,b2.trans a2,b3.trans a3⟩
theorem PostT.left {K:PySem.W.Frag} {z:Nat->V} {R:Addr->Prop} {H H1:Hp} {W W1:Addr->Prop} {σ:St} {ρ ρ1:Env} (p:PostT K T z R m1 H W σ ρ H1 W1 ρ1):PostT K T z R (m1 || m2) H W σ ρ H1 W1 ρ1 :=
 ⟨p.sr,p.fr,λh=>p.calm (Bool.or_eq_false_iff.mp h).1⟩
theorem Qh7 (ha:TV X T m a wt):BV X T m (.BoolOp .Or [a] pos) wt:=by
 obtain ⟨ta,pa,ga⟩:=ha
 exact ⟨_,Qp5 pa,ga⟩
theorem Qka (ha:TV X T m1 a wt) (hb:BV X T m2 (.BoolOp .Or (b::rest) pos) wu):BV X T (m1 || m2) (.BoolOp .Or (a::b::rest) pos) (wOr wt wu):=by
 obtain ⟨ta,pa,ga⟩:=ha
 obtain ⟨tb,pb,gb⟩:=hb
 refine ⟨_,Qsz pa pb,λz R σ H W ρ Q Q' s hw k=>ga z R σ H W ρ _ _ s hw λc H1 W1 ρ1 p q1=>?_⟩
 cases c with
 | false=>exact gb z R σ H1 W1 ρ1 Q Q' p.sr q1 λb H2 W2 ρ2 q q2=>k b H2 W2 ρ2 (p.seq q) q2
 | true=>exact k true H1 W1 ρ1 p.left q1
theorem Qck (h:BV X T m e wt):TV X T m e wt:=by
 obtain ⟨ta,pa,ga⟩:=h
 exact ⟨_,pa.pt,ga⟩
end
end PV
namespace PV
open PySem PySem.Spec L2
open PySem.W (Dat kqdP kqdPs kqdOk)
mutual
def Ye:D->Dat
 | .non=>.none
 | .bl b=>.bool b
 | .int i=>.int i
 | .str x=>.str x
 | .tup xs=>.tuple (Yz xs)
 | .lst xs=>.list (Yz xs)
 | .dik _=>.none
 | .dit _=>.none
 | .kls _=>.none
 | .ty _=>.none
 | .fdk _=>.none
 | .ftp _=>.none
 | .fls _=>.none
 | .fdt _=>.none
 | .obj _ _=>.none
 | .clo _ _=>.none
 | .kc _=>.none
 | .dmx _=>.none
 | .fmx _=>.none
def Yz:List D->List Dat
 | []=>[]
 | d::r=>Ye d::Yz r
end
mutual
def eqOk:Nat->D->Bool
 | _,.non=>true
 | _,.int _=>true
 | _,.str x=>PyData.strOk x
 | n+1,.tup xs=>Va n xs
 | n+1,.lst xs=>Va n xs
 | _,_=>false
def Va:Nat->List D->Bool
 | _,[]=>true
 | n,d::r=>eqOk n d && Va n r
end
theorem Qbz {n:Nat} {xs:List D}:Va n xs=true↔∀x∈xs,eqOk n x=true:=by
 induction xs with
 | nil=>simp [Va]
 | cons d r ih=>simp only [Va,Bool.and_eq_true,ih,List.mem_cons,forall_eq_or_imp]
mutual
theorem Qan:∀(n:Nat) (d:D),eqOk n d=true->kqdOk n (Ye d)=true
 | _,.non,_=>by simp [Ye,kqdOk]
 | _,.bl _,h=>by cases ‹Nat› <;> simp [eqOk] at h
 | _,.int _,_=>by simp [Ye,kqdOk]
 | _,.str x,h=>by
  cases ‹Nat› <;> (simp only [eqOk] at h;simpa [Ye,kqdOk] using h)
 | 0,.tup _,h=>by simp [eqOk] at h
 | 0,.lst _,h=>by simp [eqOk] at h
 | n+1,.tup xs,h=>by
  simp only [eqOk] at h
  rw [Ye];simp only [kqdOk]
  exact Gs n xs h
 | n+1,.lst xs,h=>by
  simp only [eqOk] at h
  rw [Ye];simp only [kqdOk]
  exact Gs n xs h
 | n,.dik _,h=>by cases n <;> simp [eqOk] at h
 | n,.dit _,h=>by cases n <;> simp [eqOk] at h
 | n,.kls _,h=>by cases n <;> simp [eqOk] at h
 | n,.ty _,h=>by cases n <;> simp [eqOk] at h
 | n,.fdk _,h=>by cases n <;> simp [eqOk] at h
 | n,.ftp _,h=>by cases n <;> simp [eqOk] at h
 | n,.fls _,h=>by cases n <;> simp [eqOk] at h
 | n,.fdt _,h=>by cases n <;> simp [eqOk] at h
 | n,.obj _ _,h=>by cases n <;> simp [eqOk] at h
 | n,.clo _ _,h=>by cases n <;> simp [eqOk] at h
 | n,.kc _,h=>by cases n <;> simp [eqOk] at h
theorem Gs:∀(n:Nat) (xs:List D),Va n xs=true->(Yz xs).all (kqdOk n)=true
 | _,[],_=>by simp [Yz]
 | n,d::r,h=>by
  simp only [Va,Bool.and_eq_true] at h
  rw [Yz,List.all_cons,Qan n d h.1,Gs n r h.2];rfl
end
mutual
theorem Qa5:∀(n k:Nat) (a b:D),eqOk n a=true->eqOk k b=true->Ye a=Ye b->a=b
 | n,k,a,b,ha,hb,h=>by
  cases a with
  | non=>cases b <;> first | rfl | (simp [Ye] at h;done) | (cases k <;> simp [eqOk] at hb)
  | bl x=>cases n <;> simp [eqOk] at ha
  | int x=>cases b <;> first | (simp [Ye] at h;rw [h]) | (simp [Ye] at h)
  | str x=>cases b <;> first | (simp [Ye] at h;rw [h]) | (simp [Ye] at h)
  | tup xs =>
   cases b with
   | tup ys =>
    cases n with
    | zero=>simp [eqOk] at ha
    | succ n =>
     cases k with
     | zero=>simp [eqOk] at hb
     | succ k =>
      simp only [eqOk] at ha hb
      simp only [Ye,Dat.tuple.injEq] at h
      rw [Ub n k xs ys ha hb h]
   | _=>simp [Ye] at h
  | lst xs =>
   cases b with
   | lst ys =>
    cases n with
    | zero=>simp [eqOk] at ha
    | succ n =>
     cases k with
     | zero=>simp [eqOk] at hb
     | succ k =>
      simp only [eqOk] at ha hb
      simp only [Ye,Dat.list.injEq] at h
      rw [Ub n k xs ys ha hb h]
   | _=>simp [Ye] at h
  | dik x=>cases n <;> simp [eqOk] at ha
  | dit x=>cases n <;> simp [eqOk] at ha
  | kls x=>cases n <;> simp [eqOk] at ha
  | ty x=>cases n <;> simp [eqOk] at ha
  | fdk x=>cases n <;> simp [eqOk] at ha
  | ftp x=>cases n <;> simp [eqOk] at ha
  | fls x=>cases n <;> simp [eqOk] at ha
  | fdt x=>cases n <;> simp [eqOk] at ha
  | obj x y=>cases n <;> simp [eqOk] at ha
  | clo x y=>cases n <;> simp [eqOk] at ha
  | kc x=>cases n <;> simp [eqOk] at ha
  | dmx x=>cases n <;> simp [eqOk] at ha
  | fmx x=>cases n <;> simp [eqOk] at ha
theorem Ub:∀(n k:Nat) (a b:List D),Va n a=true->Va k b=true->Yz a=Yz b->a=b
 | n,k,[],b,ha,hb,h=>by
  cases b with
  | nil=>rfl
  | cons=>simp [Yz] at h
 | n,k,x::a,b,ha,hb,h=>by
  cases b with
  | nil=>simp [Yz] at h
  | cons y b =>
   simp only [Yz,List.cons.injEq] at h
   simp only [Va,Bool.and_eq_true] at ha hb
   rw [Qa5 n k x y ha.1 hb.1 h.1,Ub n k a b ha.2 hb.2 h.2]
end
theorem Rep.dv {K:PySem.W.Frag} {H:Hp} {d:D} {v:V} {F:List Addr} (n:Nat) (r:Rep K H d v F):eqOk n d=true->DV H v (Ye d):=by
 have no:∀{P:Prop} {n:Nat} {d:D},(∀n,eqOk n d=false)->eqOk n d=true->P:=λh h'=>absurd ((h _).symm.trans h') (by simp)
 refine Rep.rec (motive_1:=λd v _ _=>∀n,eqOk n d=true->DV H v (Ye d)) (motive_2:=λd v _ _=>∀n,Va n d=true->DVs H v (Yz d)) (motive_3:=λ_ _ _ _=>True) (motive_4:=λ_ _ _ _=>True) ?_ ?_ ?_ ?_ ?_ ?_ ?_ ?_ ?_ ?_ ?_ ?_ ?_ ?_ ?_ ?_ ?_ ?_ ?_ ?_ ?_ trivial (λ_ _ _ _=>trivial) trivial (λ_ _ _ _=>trivial) r n
 ·exact λ_ _=>by rw [Ye];exact .non
 ·exact λb n=>no λn=>by cases n <;> rfl
 ·exact λi _ _=>by rw [Ye];exact .int i
 ·exact λi _ _=>by rw [Ye];exact .str i
 ·intro _ _ _ _ e _ ih n h
  cases n with
  | zero=>simp [eqOk] at h
  | succ n=>rw [eqOk] at h;rw [Ye];exact .tup e (ih n h)
 ·intro _ _ _ _ e _ ih n h
  cases n with
  | zero=>simp [eqOk] at h
  | succ n=>rw [eqOk] at h;rw [Ye];exact .lst e (ih n h)
 ·exact λ_ _ _ n=>no λn=>by cases n <;> rfl
 ·exact λ_ _ _ n=>no λn=>by cases n <;> rfl
 ·exact λ_ _ _ n=>no λn=>by cases n <;> rfl
 ·exact λ_ n=>no λn=>by cases n <;> rfl
 ·exact λ_ _ _ n=>no λn=>by cases n <;> rfl
 ·exact λ_ _ _ _ n=>no λn=>by cases n <;> rfl
 ·exact λ_ _ _ n=>no λn=>by cases n <;> rfl
 ·exact λ_ _ _ n=>no λn=>by cases n <;> rfl
 ·exact λ_ _ _ n=>no λn=>by cases n <;> rfl
 ·exact λ_ _ _ n=>no λn=>by cases n <;> rfl
 ·exact λ_ n=>no λn=>by cases n <;> rfl
 ·exact λ_ _ _ _ _ n=>no λn=>by cases n <;> rfl
 ·exact λ_ _ _ _ _ n=>no λn=>by cases n <;> rfl
 ·exact λ_ _=>by rw [Yz];exact .nil
 ·intro _ _ _ _ _ _ _ _ ih1 ih2 n q
  rw [Va,Bool.and_eq_true] at q
  rw [Yz];exact .cons (ih1 n q.1) (ih2 n q.2)
def dAdd:G2
 | .int i,.int j,k=>k (.int (i+j))
 | .str x,.str y,k=>x.length+y.length<=sizeLine/\k (.str (x++y))
 | .tup xs,.tup ys,k=>Qj xs=true/\Qj ys=true/\xs≠[]/\xs.length+ys.length<=sizeLine/\k (.tup (xs++ys))
 | .lst xs,.lst ys,k=>Qj xs=true/\Qj ys=true/\xs.length+ys.length<=sizeLine/\k (.lst (xs++ys))
 | _,_,_=>False
def dSub:G2
 | .int i,.int j,k=>k (.int (i-j))
 | _,_,_=>False
def dMul:G2
 | .int i,.int j,k=>CMul i j/\k (.int (i*j))
 | .lst xs,.int n,k=>Qj xs=true /\ -(2 ^ 63)<=n/\n<2 ^ 63/\xs.length*n.toNat<=sizeLine/\k (.lst (List.replicate n.toNat xs).flatten)
 | _,_,_=>False
def dDiv:G2
 | .int i,.int j,k=>(0<j/\j<1073741824/\k (.int (i / j)))\/(j<0/\j.natAbs<1073741824/\k (.int (i.fdiv j)))
 | _,_,_=>False
def dMod:G2
 | .int i,.int j,k=>(0<j/\k (.int (i % j)))\/(j<0/\k (.int (i.fmod j)))
 | _,_,_=>False
def dPow:G2
 | .int i,.int j,k=>CPow i j/\k (.int (i ^ j.toNat))
 | _,_,_=>False
def dEq:G2
 | .int i,.int j,k=>k (.bl (decide (i=j)))
 | .bl i,.bl j,k=>k (.bl (i == j))
 | .str i,.str j,k=>k (.bl (decide (i=j)))
 | a,b,k=>eqOk 9 a=true/\eqOk 9 b=true/\(a=b->k (.bl true))/\(a≠b->k (.bl false))
def dNe:G2
 | .int i,.int j,k=>k (.bl (!decide (i=j)))
 | .bl i,.bl j,k=>k (.bl (!(i == j)))
 | .str i,.str j,k=>k (.bl (!decide (i=j)))
 | a,b,k=>eqOk 9 a=true/\eqOk 9 b=true/\(a=b->k (.bl false))/\(a≠b->k (.bl true))
def dCmp (f:Int->Int->Bool):G2
 | .int i,.int j,k=>k (.bl (f i j))
 | _,_,_=>False
section
variable {X:Cx}
theorem Qfu {K:PySem.W.Frag} {H:Hp} {i:Int} {x:V} {F:List Addr} (r:Rep K H (.int i) x F):x=.int i:=by cases r;rfl
theorem Reps.flatten {K:PySem.W.Frag} {H:Hp} {ds:List D} {xs:List V} (r:Reps K H ds xs []):∀n:Nat,Reps K H (List.replicate n ds).flatten (List.replicate n xs).flatten []
 | 0=>.nil
 | n+1=>by
  have:=r.append (Reps.flatten r n)
  simpa [List.replicate_succ,List.flatten_cons] using this
theorem Qj3 {a b:D} {k:D->Prop} (g:dAdd a b k):(∃i j,a=.int i/\b=.int j)\/(∃i j,a=.str i/\b=.str j)\/(∃i j,a=.tup i/\b=.tup j)\/∃i j,a=.lst i/\b=.lst j:=by
 cases a with
 | int i=>cases b with
  | int j=>exact .inl ⟨i,j,rfl,rfl⟩
  | _=>exact (show False from g).elim
 | str i=>cases b with
  | str j=>exact .inr (.inl ⟨i,j,rfl,rfl⟩)
  | _=>exact (show False from g).elim
 | tup i=>cases b with
  | tup j=>exact .inr (.inr (.inl ⟨i,j,rfl,rfl⟩))
  | _=>exact (show False from g).elim
 | lst i=>cases b with
  | lst j=>exact .inr (.inr (.inr ⟨i,j,rfl,rfl⟩))
  | _=>exact (show False from g).elim
 | _=>exact (show False from g).elim
theorem Qqy:OpD X (binaryOp .Add) dAdd:=by
 refine ⟨_,OpR.or Qqs (OpR.or Qqr (OpR.or Qnn Qew)),λH a b x y F1 F2 k Q ra rb g q=>?_⟩
 rcases Qj3 g with ⟨i,j,rfl,rfl⟩ | ⟨i,j,rfl,rfl⟩ | ⟨ds,es,rfl,rfl⟩ | ⟨ds,es,rfl,rfl⟩
 ·exact .inl ⟨_,_,ra.iInt,rb.iInt,q _ _ _ _ (.flat (.int _)) g⟩
 ·exact .inr (.inr (.inr ⟨_,_,ra.iStr,rb.iStr,g.1,q _ _ _ _ (.flat (.str _)) g.2⟩))
 ·obtain ⟨a,xs,rfl,e1,r1⟩:=ra.iTup
  obtain ⟨b,ys,rfl,e2,r2⟩:=rb.iTup
  obtain ⟨p1,p2,hne,hz,g⟩:=g
  obtain ⟨-,r1⟩:=r1.pure p1
  obtain ⟨-,r2⟩:=r2.pure p2
  have l1:=r1.length
  have l2:=r2.length
  refine .inr (.inr (.inl ⟨a,b,xs,ys,rfl,rfl,.of e1,.of e2,λz=>hne (List.length_eq_zero_iff.mp (by rw [← l1,z];rfl)),by omega,λz=>?_,λz p hp=>?_⟩))
  ·have:es=[]:=List.length_eq_zero_iff.mp (by rw [← l2,z];rfl)
   subst this
   rw [List.append_nil] at g
   exact q _ _ _ _ (.flat (.tup e1 r1)) g
  ·refine q _ _ _ [] ⟨Qh hp,.tup Qi ?_,List.nodup_nil,λ_ m=>nomatch m⟩ g
   exact (r1.append r2).same (Qh hp)
 ·obtain ⟨a,xs,_,rfl,_,e1,r1⟩:=ra.iLst
  obtain ⟨b,ys,_,rfl,_,e2,r2⟩:=rb.iLst
  obtain ⟨p1,p2,hz,g⟩:=g
  obtain ⟨-,r1⟩:=r1.pure p1
  obtain ⟨-,r2⟩:=r2.pure p2
  have l1:=r1.length
  have l2:=r2.length
  refine .inr (.inl ⟨a,b,xs,ys,rfl,rfl,e1,e2,by omega,λp hp=>?_⟩)
  refine q _ _ _ [p] ⟨Qh hp,.lst Qi ((r1.append r2).same (Qh hp)),by simp,λc m=>by rw [List.mem_singleton.mp m];exact hp⟩ g
theorem Qlc:OpD X (binaryOp .Sub) dSub:=by
 refine ⟨_,Qqj,λH a b x y F1 F2 k Q ra rb g q=>?_⟩
 (cases ra <;> first | exact (show False from g).elim | skip) <;> (cases rb <;> first | exact (show False from g).elim | skip)
 exact ⟨_,_,rfl,rfl,q _ _ _ _ (.flat (.int _)) g⟩
theorem Qj2 {a b:D} {k:D->Prop} (g:dMul a b k):(∃i j,a=.int i/\b=.int j)\/∃i j,a=.lst i/\b=.int j:=by
 cases a with
 | int i=>cases b with
  | int j=>exact .inl ⟨i,j,rfl,rfl⟩
  | _=>exact (show False from g).elim
 | lst i=>cases b with
  | int j=>exact .inr ⟨i,j,rfl,rfl⟩
  | _=>exact (show False from g).elim
 | _=>exact (show False from g).elim
theorem Yt:OpD X (binaryOp .Mult) dMul:=by
 refine ⟨_,OpR.or Qqn Qqk,λH a b x y F1 F2 k Q ra rb g q=>?_⟩
 rcases Qj2 g with ⟨i,j,rfl,rfl⟩ | ⟨ds,n,rfl,rfl⟩
 ·exact .inl ⟨_,_,ra.iInt,rb.iInt,g.1,q _ _ _ _ (.flat (.int _)) g.2⟩
 ·obtain ⟨a,xs,_,rfl,_,e1,r1⟩:=ra.iLst
  obtain rfl:=rb.iInt
  obtain ⟨p1,h1,h2,hz,g⟩:=g
  obtain ⟨-,r1⟩:=r1.pure p1
  have l1:=r1.length
  refine .inr ⟨a,n,xs,rfl,rfl,e1,h1,h2,by rw [l1];exact hz,λp hp=>?_⟩
  refine q _ _ _ [p] ⟨Qh hp,.lst Qi ((r1.flatten _).same (Qh hp)),by simp,λc m=>by rw [List.mem_singleton.mp m];exact hp⟩ g
theorem Qgp:OpD X (binaryOp .FloorDiv) dDiv:=by
 refine ⟨_,OpR.or Qnl Qje,λH a b x y F1 F2 k Q ra rb g q=>?_⟩
 (cases ra <;> first | exact (show False from g).elim | skip) <;> (cases rb <;> first | exact (show False from g).elim | skip)
 rcases (show _\/_ from g) with ⟨h1,h2,g⟩ | ⟨h1,h2,g⟩
 ·exact .inl ⟨_,_,rfl,rfl,⟨h1,h2⟩,q _ _ _ _ (.flat (.int _)) g⟩
 ·exact .inr ⟨_,_,rfl,rfl,⟨by omega,h2⟩,q _ _ _ _ (.flat (.int _)) g⟩
theorem Qbm:OpD X (binaryOp .Mod) dMod:=by
 refine ⟨_,OpR.or Qqo Qnk,λH a b x y F1 F2 k Q ra rb g q=>?_⟩
 (cases ra <;> first | exact (show False from g).elim | skip) <;> (cases rb <;> first | exact (show False from g).elim | skip)
 rcases (show _\/_ from g) with ⟨h1,g⟩ | ⟨h1,g⟩
 ·exact .inl ⟨_,_,rfl,rfl,h1,q _ _ _ _ (.flat (.int _)) g⟩
 ·exact .inr ⟨_,_,rfl,rfl,by omega,q _ _ _ _ (.flat (.int _)) g⟩
theorem Qgn:OpD X (binaryOp .Pow) dPow:=by
 refine ⟨_,Qql,λH a b x y F1 F2 k Q ra rb g q=>?_⟩
 (cases ra <;> first | exact (show False from g).elim | skip) <;> (cases rb <;> first | exact (show False from g).elim | skip)
 exact ⟨_,_,rfl,rfl,g.1,q _ _ _ _ (.flat (.int _)) g.2⟩
theorem Qgq {op:CmpOp} {f:Int->Int->Bool} (h:OpR X (compareOp op) (rI0 λi j=>.bl (f i j))):OpD X (compareOp op) (dCmp f):=by
 refine ⟨_,h,λH a b x y F1 F2 k Q ra rb g q=>?_⟩
 (cases ra <;> first | exact (show False from g).elim | skip) <;> (cases rb <;> first | exact (show False from g).elim | skip)
 exact ⟨_,_,rfl,rfl,q _ _ _ _ (.flat (.bl _)) g⟩
theorem Qns:OpD X (compareOp .Lt) (dCmp λi j=>decide (i<j)):=Qgq Qs9
theorem Qtc:OpD X (compareOp .Gt) (dCmp λi j=>decide (j<i)):=Qgq Qta
theorem Qhi {H:Hp} {a b:D} {x y:V} {F1 F2:List Addr} {k:D->Prop} {Q:VK} {neg:Bool} (ra:Rep X.K H a x F1) (rb:Rep X.K H b y F2)
  (h1:eqOk 9 a=true) (h2:eqOk 9 b=true) (g1:a=b->k (.bl (!neg))) (g2:a≠b->k (.bl neg)) (q:∀v H' d F,Fin X.K H H' d v F->k d->Q v H'):rDat neg x y H Q:=by
 refine ⟨Ye a,Ye b,9,ra.dv 9 h1,rb.dv 9 h2,Qan _ _ h1,Qan _ _ h2,Nat.le_refl _,λe=>?_,λe=>?_⟩
 ·exact q _ _ _ _ (.flat (.bl _)) (g1 (Qa5 9 9 a b h1 h2 e))
 ·exact q _ _ _ _ (.flat (.bl _)) (g2 λz=>e (by rw [z]))
theorem Qoo {a b:D} {k:D->Prop} (g:dEq a b k):(∃i j,a=.int i/\b=.int j)\/(∃i j,a=.bl i/\b=.bl j)\/(∃i j,a=.str i/\b=.str j)\/(eqOk 9 a=true/\eqOk 9 b=true/\(a=b->k (.bl true))/\(a≠b->k (.bl false))):=by
 cases a with
 | int i=>cases b with
  | int j=>exact .inl ⟨i,j,rfl,rfl⟩
  | _=>exact .inr (.inr (.inr g))
 | bl i=>cases b with
  | bl j=>exact .inr (.inl ⟨i,j,rfl,rfl⟩)
  | _=>exact .inr (.inr (.inr g))
 | str i=>cases b with
  | str j=>exact .inr (.inr (.inl ⟨i,j,rfl,rfl⟩))
  | _=>exact .inr (.inr (.inr g))
 | _=>exact .inr (.inr (.inr g))
theorem Qgo (hu:X.A.units+64<cLine):OpD X (compareOp .Eq) dEq:=by
 refine ⟨_,OpR.or Qtb (Qqq hu),λH a b x y F1 F2 k Q ra rb g q=>?_⟩
 rcases Qoo g with ⟨i,j,rfl,rfl⟩ | ⟨i,j,rfl,rfl⟩ | ⟨i,j,rfl,rfl⟩ | ⟨h1,h2,g1,g2⟩
 ·obtain rfl:=ra.iInt
  obtain rfl:=rb.iInt
  refine .inl ⟨rfl,?_⟩
  have e:decide (V.int i=V.int j)=decide (i=j):=by simp
  rw [e]
  exact q _ _ _ _ (.flat (.bl _)) g
 ·obtain rfl:=ra.iBl
  obtain rfl:=rb.iBl
  refine .inl ⟨rfl,?_⟩
  rw [Qej]
  exact q _ _ _ _ (.flat (.bl _)) g
 ·obtain rfl:=ra.iStr
  obtain rfl:=rb.iStr
  refine .inl ⟨rfl,?_⟩
  have e:decide (V.str i=V.str j)=decide (i=j):=by simp
  rw [e]
  exact q _ _ _ _ (.flat (.bl _)) g
 ·exact .inr (Qhi ra rb h1 h2 g1 g2 q)
theorem Qol {a b:D} {k:D->Prop} (g:dNe a b k):(∃i j,a=.int i/\b=.int j)\/(∃i j,a=.bl i/\b=.bl j)\/(∃i j,a=.str i/\b=.str j)\/(eqOk 9 a=true/\eqOk 9 b=true/\(a=b->k (.bl false))/\(a≠b->k (.bl true))):=by
 cases a with
 | int i=>cases b with
  | int j=>exact .inl ⟨i,j,rfl,rfl⟩
  | _=>exact .inr (.inr (.inr g))
 | bl i=>cases b with
  | bl j=>exact .inr (.inl ⟨i,j,rfl,rfl⟩)
  | _=>exact .inr (.inr (.inr g))
 | str i=>cases b with
  | str j=>exact .inr (.inr (.inl ⟨i,j,rfl,rfl⟩))
  | _=>exact .inr (.inr (.inr g))
 | _=>exact .inr (.inr (.inr g))
theorem Qnr (hu:X.A.units+64<cLine):OpD X (compareOp .NotEq) dNe:=by
 refine ⟨_,OpR.or Qs8 (Qqm hu),λH a b x y F1 F2 k Q ra rb g q=>?_⟩
 rcases Qol g with ⟨i,j,rfl,rfl⟩ | ⟨i,j,rfl,rfl⟩ | ⟨i,j,rfl,rfl⟩ | ⟨h1,h2,g1,g2⟩
 ·obtain rfl:=ra.iInt
  obtain rfl:=rb.iInt
  refine .inl ⟨rfl,?_⟩
  have e:(!decide (V.int i=V.int j)) = !decide (i=j):=by simp
  rw [e]
  exact q _ _ _ _ (.flat (.bl _)) g
 ·obtain rfl:=ra.iBl
  obtain rfl:=rb.iBl
  refine .inl ⟨rfl,?_⟩
  rw [Qej]
  exact q _ _ _ _ (.flat (.bl _)) g
 ·obtain rfl:=ra.iStr
  obtain rfl:=rb.iStr
  refine .inl ⟨rfl,?_⟩
  have e:(!decide (V.str i=V.str j)) = !decide (i=j):=by simp
  rw [e]
  exact q _ _ _ _ (.flat (.bl _)) g
 ·exact .inr (Qhi (neg:=true) ra rb h1 h2 g1 g2 q)
def dNeg:D->(D->Prop)->Prop
 | .int i,k=>k (.int (-i))
 | _,_=>False
theorem Qko:UnD X (unaryOp .USub) dNeg:=by
 refine ⟨_,Qo2,λH a x F1 k Q ra g q=>?_⟩
 cases ra <;> try exact (show False from g).elim
 exact ⟨_,rfl,q _ _ _ _ (.flat (.int _)) g⟩
end
end PV
namespace PV
open PySem PySem.Spec L2
open PyProof.Rows (subscriptTail)
def Za:List D->Option (List Key)
 | []=>some []
 | .int i::r=>(Za r).map λl=>.inl i::l
 | .str x::r=>(Za r).map λl=>.inr x::l
 | _::_=>none
theorem Reps.keys {K:PySem.W.Frag} {H:Hp}:∀{ds:List D} {xs:List V} {F:List Addr} {l:List Key},Reps K H ds xs F->Za ds=some l->xs=l.map kV
 | [],_,_,_,r,h=>by
  cases r
  simp only [Za,Option.some.injEq] at h
  subst h
  rfl
 | d::ds,_,_,_,r,h=>by
  cases r with
  | cons p r =>
   cases d with
   | int i =>
    simp only [Za,Option.map_eq_some_iff] at h
    obtain ⟨l',h1,rfl⟩:=h
    cases p
    rw [Reps.keys r h1]
    rfl
   | str i =>
    simp only [Za,Option.map_eq_some_iff] at h
    obtain ⟨l',h1,rfl⟩:=h
    cases p
    rw [Reps.keys r h1]
    rfl
   | _=>simp [Za] at h
theorem Reps.atI {K:PySem.W.Frag} {H:Hp} {ds:List D} {xs:List V} {F:List Addr} {i:Int} {d:D} (r:Reps K H ds xs F) (h:L2.atI ds i=some d):∃x B,L2.atI xs i=some x/\Rep K H d x B/\B.Sublist F:=by
 unfold L2.atI at h
 cases hj:ixN ds.length i with
 | none=>rw [hj] at h;cases h
 | some j =>
  rw [hj] at h
  obtain ⟨x,B,h1,h2,h3⟩:=r.get (i:=j) h
  refine ⟨x,B,?_,h2,h3⟩
  unfold L2.atI
  rw [r.length,hj]
  exact h1
def oget {α:Type} (o:Option α) (k:α->Prop):Prop:=match o with
 | some d=>k d
 | none=>False
def onI (b:D) (k:Int->Prop):Prop:=match b with
 | .int i=>k i
 | _=>False
def onK (b:D) (k:Key->Prop):Prop:=match b with
 | .int i=>k (.inl i)
 | .str i=>k (.inr i)
 | _=>False
def onT (b:D) (k:List D->Prop):Prop:=match b with
 | .tup l=>k l
 | _=>False
theorem Vf {b:D} {k:Int->Prop} (h:onI b k):∃i,b=.int i/\k i:=by
 cases b with
 | int i=>exact ⟨i,rfl,h⟩
 | _=>exact (show False from h).elim
theorem Qgk {b:D} {k:List D->Prop} (h:onT b k):∃i,b=.tup i/\k i:=by
 cases b with
 | tup i=>exact ⟨i,rfl,h⟩
 | _=>exact (show False from h).elim
theorem Qcr {b:D} {k:Key->Prop} (h:onK b k):∃key,k key/\∀{K:PySem.W.Frag} {H:Hp} {v:V} {F:List Addr},Rep K H b v F->v=kV key:=by
 cases b with
 | int i=>exact ⟨.inl i,h,λr=>r.iInt⟩
 | str i=>exact ⟨.inr i,h,λr=>r.iStr⟩
 | _=>exact (show False from h).elim
def dIx:G2:=λa b k=>match a with
 | .lst xs=>onI b λi=>oget (L2.atI xs i) k
 | .tup xs=>onI b λi=>oget (L2.atI xs i) k
 | .kls xs=>onI b λi=>oget (L2.atI xs i) k
 | .str z=>onI b λi=>z.length<=sizeLine/\oget (L2.atI z.cps.toList i) λc=>k (.str ⟨#[c]⟩)
 | .dik kvs=>onK b λkey=>oget (valD kvs key) k
 | .dit kvs=>onT b λl=>oget (Za l) λks=>oget (valD kvs ks) k
 | .fdk kvs=>onK b λkey=>oget (valD kvs key) k
 | _=>False
theorem Qk {α:Type} {o:Option α} {k:α->Prop} (h:oget o k):∃d,o=some d/\k d:=by
 cases o with
 | none=>exact h.elim
 | some d=>exact ⟨d,rfl,h⟩
section
variable {X:Cx}
theorem Qfo {prog:Program} {w:World} {A:Around} {E:Value->Shared->Prop} {s₂:Shared} {value slice:Expr} {o i:Value} {T id:String} {Q:Value->Shared->Prop}
  (hl:typeLookup (.type T) "__getitem__" = pure (some (.builtin id))) (hs:subscripted slice false o i=operate [o,i] (getItem o i)) (hT:s₂.TypeIs o T) (h₂:wpAny (model prog w) A (getItem o i) Q E s₂) :
  wpAny (model prog w) A (subscriptTail value slice o i) Q E s₂:=by
 unfold subscriptTail
 refine wpAny_bind ?_
 rw [getitemInPython_of_ne hT.not_modules]
 refine wpAny_bind (wpAny_specialOf hT hl ?_)
 have fin:wpAny (model prog w) A (subscripted slice false o i) (λr s₃=>wpAny (model prog w) A (letTemporaryGo value o r >>= λ_=>pure r) Q E s₃) E s₂:=by
  rw [hs]
  exact wpAny_operating (wpAny_mono h₂ (λr s₃ h₃=>wpAny_bind (wpAny_letTemporaryGo (wpAny_pure h₃))) λ_ _ x=>x)
 first
  | exact wpAny_pure (wpAny_bind fin)
  | exact wpAny_bind (wpAny_pure (wpAny_bind fin))
  | exact wpAny_bind fin
theorem Qg4 (hu:X.A.units+1<cLine):IxR X (λx y H Q=>∃a v,x=.ref a/\DGet H a y (some v)/\Q v H):=by
 intro value slice pins s σ H x y v u Q I rx ry h hs
 obtain ⟨a,z,rfl,g,q⟩:=h
 cases rx
 exact Qfo PySem.F.slot_dict_getitem.lookup hs (Qc5 I g) (Qht hu I g ry λw' s3 I3 rw'=>⟨z,H,I3,rw',q⟩)
def IxD (X:Cx) (g:G2):Prop :=
 ∃r,IxR X r/\∀(H:Hp) (a b:D) (x y:V) (F1 F2:List Addr) (k:D->Prop) (Q:VK),Rep X.K H a x F1->Rep X.K H b y F2->g a b k ->
  (∀v d F,Rep X.K H d v F->F.Sublist F1->k d->Q v H)->r x y H Q
theorem Q3 (hu:X.A.units+1<cLine):IxD X dIx:=by
 refine ⟨_,IxR.or Qlg (Qg4 hu),λH a b x y F1 F2 k Q ra rb g q=>?_⟩
 cases a with
 | str z =>
  obtain ⟨i,rfl,hz,g⟩:=Vf g
  obtain ⟨c,e,g⟩:=Qk g
  exact .inl (.inr (.inr ⟨_,_,c,ra.iStr,rb.iInt,hz,e,q _ _ _ (.str _) (List.nil_sublist _) g⟩))
 | tup ds =>
  obtain ⟨i,rfl,g⟩:=Vf g
  obtain ⟨a,xs,rfl,e,r⟩:=ra.iTup
  obtain ⟨d,h,g⟩:=Qk g
  obtain ⟨v,B,h1,h2,h3⟩:=r.atI h
  exact .inl (.inr (.inl ⟨a,xs,i,v,rfl,rb.iInt,.of e,h1,q _ _ _ h2 h3 g⟩))
 | lst ds =>
  obtain ⟨i,rfl,g⟩:=Vf g
  obtain ⟨a,xs,G,rfl,rfl,e,r⟩:=ra.iLst
  obtain ⟨d,h,g⟩:=Qk g
  obtain ⟨v,B,h1,h2,h3⟩:=r.atI h
  exact .inl (.inl ⟨a,xs,i,v,rfl,rb.iInt,.of e,h1,q _ _ _ h2 (h3.trans (List.sublist_cons_self _ _)) g⟩)
 | dik ds =>
  obtain ⟨key,g,hy⟩:=Qcr (show onK b (λkey=>oget (valD ds key) k) from g)
  obtain ⟨a,kvs,G,rfl,rfl,e,r⟩:=ra.iDik
  obtain rfl:=hy rb
  obtain ⟨d,h,g⟩:=Qk g
  rcases r.val key with ⟨z,_⟩ | ⟨d',v,B,h1,h2,h3,h4⟩
  ·rw [h] at z;cases z
  ·rw [h] at h1;cases h1
   exact .inr ⟨a,v,rfl,h2 ▸ DGet.k (k:=key) e,q _ _ _ h3 (h4.trans (List.sublist_cons_self _ _)) g⟩
 | dit ds =>
  obtain ⟨l,rfl,g⟩:=Qgk g
  obtain ⟨a,kvs,G,rfl,rfl,e,r⟩:=ra.iDit
  obtain ⟨b,xs,rfl,e2,r2⟩:=rb.iTup
  obtain ⟨ks,hk,g⟩:=Qk g
  obtain ⟨d,h,g⟩:=Qk g
  have hx:=r2.keys hk
  subst hx
  rcases r.val ks with ⟨z,_⟩ | ⟨d',v,B,h1,h2,h3,h4⟩
  ·rw [h] at z;cases z
  ·rw [h] at h1;cases h1
   exact .inr ⟨a,v,rfl,h2 ▸ DGet.t (k:=ks) e e2,q _ _ _ h3 (h4.trans (List.sublist_cons_self _ _)) g⟩
 | kls ds =>
  obtain ⟨i,rfl,g⟩:=Vf g
  obtain ⟨a,xs,rfl,rfl,e,r⟩:=ra.iKls
  obtain ⟨d,h,g⟩:=Qk g
  obtain ⟨v,B,h1,h2,h3⟩:=r.atI h
  exact .inl (.inl ⟨a,xs,i,v,rfl,rb.iInt,e.sq,h1,q _ _ _ h2 h3 g⟩)
 | fdk ds =>
  obtain ⟨key,g,hy⟩:=Qcr (show onK b (λkey=>oget (valD ds key) k) from g)
  obtain ⟨a,ob,kvs,rfl,e,r⟩:=ra.iFdk
  obtain rfl:=hy rb
  obtain ⟨d,h,g⟩:=Qk g
  rcases r.val key with ⟨z,_⟩ | ⟨d',v,B,h1,h2,h3,h4⟩
  ·rw [h] at z;cases z
  ·rw [h] at h1;cases h1
   exact .inr ⟨a,v,rfl,.inl ⟨kvs,key,.inr ⟨ob,e⟩,rfl,h2.symm⟩,q _ _ _ h3 h4 g⟩
 | _=>exact (show False from g).elim
variable {T:Tg} {m o m1 m2 m3 o1 o2:Bool} {e a b:Expr} {w wa wb:WE} {pos p2:Pos}
theorem Qy {g:G2} (hg:IxD X g) (ha:EV X T m1 o1 a wa) (hb:EV X T m2 o2 b wb) (hc:o1=true\/m2=false:=by first | exact .inl rfl | exact .inr rfl) (hs:Qie b:=by intro _ _;rfl) :
  EV X T (m1 || m2) o1 (.Subscript a b pos) (wBin g wa wb):=by
 obtain ⟨r,ro,gr⟩:=hg
 obtain ⟨ta,pa,ga⟩:=ha
 obtain ⟨tb,pb,gb⟩:=hb
 refine ⟨_,Qs5 ro pa pb hs,λz R σ H W ρ Q Q' s hw k=>?_⟩
 refine two ga gb hc s hw λx y H2 W2 d1 d2 ρ2 F1 F2 s2 f2 c2 r1 r2 o1 _ _ q2=>?_
 exact gr H2 d1 d2 x y F1 F2 _ Q' r1 r2 q2 λv d F rd sub hk=>k v H2 W2 d ρ2 F ⟨s2,f2,c2,rd,λh=>⟨(o1 h).1.sublist sub,λa m=>(o1 h).2 a (sub.subset m)⟩⟩ hk
def inD:D->List D->Option Bool
 | .int i,[]=>some false
 | .int i,.int j::r=>(inD (.int i) r).map λb=>(j == i) || b
 | .str i,[]=>some false
 | .str i,.str j::r=>(inD (.str i) r).map λb=>(j == i) || b
 | _,_=>none
def dIn (neg:Bool):G2
 | .int i,.dik kvs,k=>k (.bl (xor neg (valD kvs (.inl i)).isSome))
 | .str i,.dik kvs,k=>k (.bl (xor neg (valD kvs (.inr i)).isSome))
 | .tup l,.dit kvs,k=>oget (Za l) λks=>k (.bl (xor neg (valD kvs ks).isSome))
 | .int i,.lst xs,k=>oget (inD (.int i) xs) λb=>k (.bl (xor neg b))
 | .int i,.tup xs,k=>oget (inD (.int i) xs) λb=>k (.bl (xor neg b))
 | .str i,.lst xs,k=>oget (inD (.str i) xs) λb=>k (.bl (xor neg b))
 | .str i,.tup xs,k=>oget (inD (.str i) xs) λb=>k (.bl (xor neg b))
 | .str i,.str j,k=>k (.bl (xor neg (!(Builtin.Str.occurrences j i 0 j.length 1).isEmpty)))
 | _,_,_=>False
theorem Qha {K:PySem.W.Frag} {H:Hp} {i:Int}:∀{ds:List D} {xs:List V} {F:List Addr} {b:Bool},Reps K H ds xs F->inD (.int i) ds=some b->xs.all Xf=true/\inV (.int i) xs=b
 | [],_,_,_,r,h=>by
  cases r
  simp only [inD,Option.some.injEq] at h
  subst h
  exact ⟨rfl,rfl⟩
 | d::ds,_,_,_,r,h=>by
  cases r with
  | cons p r =>
   cases d with
   | int j =>
    simp only [inD,Option.map_eq_some_iff] at h
    obtain ⟨b',h1,rfl⟩:=h
    cases p
    obtain ⟨e1,e2⟩:=Qha r h1
    refine ⟨by rw [List.all_cons,e1];rfl,?_⟩
    unfold inV at e2 ⊢
    rw [List.any_cons,e2]
    rfl
   | _=>simp [inD] at h
theorem Qg9 {K:PySem.W.Frag} {H:Hp} {i:Str}:∀{ds:List D} {xs:List V} {F:List Addr} {b:Bool},Reps K H ds xs F->inD (.str i) ds=some b->xs.all Xf=true/\inV (.str i) xs=b
 | [],_,_,_,r,h=>by
  cases r
  simp only [inD,Option.some.injEq] at h
  subst h
  exact ⟨rfl,rfl⟩
 | d::ds,_,_,_,r,h=>by
  cases r with
  | cons p r =>
   cases d with
   | str j =>
    simp only [inD,Option.map_eq_some_iff] at h
    obtain ⟨b',h1,rfl⟩:=h
    cases p
    obtain ⟨e1,e2⟩:=Qg9 r h1
    refine ⟨by rw [List.all_cons,e1];rfl,?_⟩
    unfold inV at e2 ⊢
    rw [List.any_cons,e2]
    rfl
   | _=>simp [inD] at h
theorem Qnm (neg:Bool) (hu:X.A.units+1<cLine):OpR X (compareOp (if neg then .NotIn else .In)) (λy x H Q=>∃a o,x=.ref a/\DGet H a y o/\Q (.bl (xor neg o.isSome)) H):=by
 intro pins s σ H y x u v Q I ry rx h
 obtain ⟨a,ov,rfl,g,q⟩:=h
 cases rx
 cases neg with
 | false=>exact d_in hu I g ry λs3 I3=>⟨.bl ov.isSome,H,I3,rfl,by simpa using q⟩
 | true=>exact Qok hu I g ry λs3 I3=>⟨.bl (!ov.isSome),H,I3,rfl,by simpa using q⟩
theorem Qjd (neg:Bool):OpR X (compareOp (if neg then .NotIn else .In)) (rIn X.K neg):=by
 cases neg with
 | false=>exact Qgj
 | true=>exact Qbi
theorem Qjc (neg:Bool):OpR X (compareOp (if neg then .NotIn else .In)) (λx y H Q=>∃i j,x=.str i/\y=.str j/\Q (.bl (xor neg (!(Builtin.Str.occurrences j i 0 j.length 1).isEmpty))) H):=by
 cases neg with
 | false=>simpa using Qgi (X:=X)
 | true=>simpa using Qbh (X:=X)
theorem Qbc {H:Hp} {a:Addr} {kvs:List (Key × V)} {ds:List (Key × D)} {F:List Addr} {k:Key} (e:H a=some (.dK kvs)) (r:RepK X.K H ds kvs F):∃o,DGet H a (kV k) o/\o.isSome=(valD ds k).isSome:=by
 refine ⟨_,DGet.k (k:=k) e,?_⟩
 rcases r.val k with ⟨h1,h2⟩ | ⟨d,v,B,h1,h2,_⟩ <;> simp [h1,h2]
theorem Qom {neg:Bool} {a b:D} {k:D->Prop} (g:dIn neg a b k):(∃i z,a=.int i/\b=.tup z)\/(∃i z,a=.int i/\b=.lst z)\/(∃i z,a=.int i/\b=.dik z)\/(∃i z,a=.str i/\b=.str z)\/(∃i z,a=.str i/\b=.tup z)\/(∃i z,a=.str i/\b=.lst z)\/(∃i z,a=.str i/\b=.dik z)\/∃i z,a=.tup i/\b=.dit z:=by
 cases a with
 | int i=>cases b with
  | tup z=>exact .inl ⟨i,z,rfl,rfl⟩
  | lst z=>exact .inr (.inl ⟨i,z,rfl,rfl⟩)
  | dik z=>exact .inr (.inr (.inl ⟨i,z,rfl,rfl⟩))
  | _=>exact (show False from g).elim
 | str i=>cases b with
  | str z=>exact .inr (.inr (.inr (.inl ⟨i,z,rfl,rfl⟩)))
  | tup z=>exact .inr (.inr (.inr (.inr (.inl ⟨i,z,rfl,rfl⟩))))
  | lst z=>exact .inr (.inr (.inr (.inr (.inr (.inl ⟨i,z,rfl,rfl⟩)))))
  | dik z=>exact .inr (.inr (.inr (.inr (.inr (.inr (.inl ⟨i,z,rfl,rfl⟩))))))
  | _=>exact (show False from g).elim
 | tup i=>cases b with
  | dit z=>exact .inr (.inr (.inr (.inr (.inr (.inr (.inr ⟨i,z,rfl,rfl⟩))))))
  | _=>exact (show False from g).elim
 | _=>exact (show False from g).elim
theorem Qqx (neg:Bool) (hu:X.A.units+1<cLine):OpD X (compareOp (if neg then .NotIn else .In)) (dIn neg):=by
 refine ⟨_,OpR.or (Qnm neg hu) (OpR.or (Qjd neg) (Qjc neg)),λH a b x y F1 F2 k Q ra rb g q=>?_⟩
 have seqI:∀{i:Int} {p:Addr} {ds:List D} {xs:List V} {F:List Addr},x=.int i->y=.ref p->Reps X.K H ds xs F->(SqL X.K H p xs\/SqT X.K H p xs)->oget (inD (.int i) ds) (λb=>k (.bl (xor neg b)))->rIn X.K neg x y H Q:=λ{i p ds xs F} ex ey r hs g=>by
  subst ex ey
  obtain ⟨b,h,g⟩:=Qk g
  obtain ⟨e1,e2⟩:=Qha r h
  refine ⟨p,xs,rfl,hs,rfl,e1,?_⟩
  rw [e2]
  have:=q _ _ _ _ (.flat (.bl _)) g
  cases neg <;> simpa using this
 have seqS:∀{i:Str} {p:Addr} {ds:List D} {xs:List V} {F:List Addr},x=.str i->y=.ref p->Reps X.K H ds xs F->(SqL X.K H p xs\/SqT X.K H p xs)->oget (inD (.str i) ds) (λb=>k (.bl (xor neg b)))->rIn X.K neg x y H Q:=λ{i p ds xs F} ex ey r hs g=>by
  subst ex ey
  obtain ⟨b,h,g⟩:=Qk g
  obtain ⟨e1,e2⟩:=Qg9 r h
  refine ⟨p,xs,rfl,hs,rfl,e1,?_⟩
  rw [e2]
  have:=q _ _ _ _ (.flat (.bl _)) g
  cases neg <;> simpa using this
 rcases Qom g with ⟨i,z,rfl,rfl⟩ | ⟨i,z,rfl,rfl⟩ | ⟨i,ds,rfl,rfl⟩ | ⟨i,z,rfl,rfl⟩ | ⟨i,z,rfl,rfl⟩ | ⟨i,z,rfl,rfl⟩ | ⟨i,ds,rfl,rfl⟩ | ⟨l,ds,rfl,rfl⟩
 ·obtain ⟨p,xs,ey,e,r⟩:=rb.iTup
  exact .inr (.inl (seqI ra.iInt ey r (.inr (.of e)) g))
 ·obtain ⟨p,xs,G,ey,_,e,r⟩:=rb.iLst
  exact .inr (.inl (seqI ra.iInt ey r (.inl (.of e)) g))
 ·obtain ⟨a,kvs,G,rfl,_,e,r⟩:=rb.iDik
  obtain rfl:=ra.iInt
  obtain ⟨o,h1,h2⟩:=Qbc (k:=.inl i) e r
  refine .inl ⟨a,o,rfl,h1,?_⟩
  rw [h2]
  exact q _ _ _ _ (.flat (.bl _)) g
 ·exact .inr (.inr ⟨_,_,ra.iStr,rb.iStr,q _ _ _ _ (.flat (.bl _)) g⟩)
 ·obtain ⟨p,xs,ey,e,r⟩:=rb.iTup
  exact .inr (.inl (seqS ra.iStr ey r (.inr (.of e)) g))
 ·obtain ⟨p,xs,G,ey,_,e,r⟩:=rb.iLst
  exact .inr (.inl (seqS ra.iStr ey r (.inl (.of e)) g))
 ·obtain ⟨a,kvs,G,rfl,_,e,r⟩:=rb.iDik
  obtain rfl:=ra.iStr
  obtain ⟨o,h1,h2⟩:=Qbc (k:=.inr i) e r
  refine .inl ⟨a,o,rfl,h1,?_⟩
  rw [h2]
  exact q _ _ _ _ (.flat (.bl _)) g
 ·obtain ⟨b,xs,rfl,e2,r2⟩:=ra.iTup
  obtain ⟨a,kvs,G,rfl,_,e,r⟩:=rb.iDit
  obtain ⟨ks,hk,g⟩:=Qk g
  have hx:=r2.keys hk
  subst hx
  refine .inl ⟨a,valV kvs ks,rfl,DGet.t (k:=ks) e e2,?_⟩
  have h2:(valV kvs ks).isSome=(valD ds ks).isSome:=by
   rcases r.val ks with ⟨h1,h2⟩ | ⟨d,v,B,h1,h2,_⟩ <;> simp [h1,h2]
  rw [h2]
  exact q _ _ _ _ (.flat (.bl _)) g
theorem Qqv (hu:X.A.units+1<cLine):OpD X (compareOp .NotIn) (dIn true):=Qqx true hu
abbrev WA:=Env->(List D->Env->Prop)->Prop
structure PostA (K:PySem.W.Frag) (T:Tg) (z:Nat->V) (R:Addr->Prop) (m o:Bool) (H:Hp) (W:Addr->Prop) (σ:St) (ρ:Env) (H':Hp) (W':Addr->Prop) (ρ':Env) (ds:List D) (vs:List V) (F:List Addr):Prop where
 sr:SR K T z R H' W' σ ρ'
 fr:FrW H W H' W'
 calm:m=false->Same H H'/\W'=W/\ρ'=ρ
 rep:Reps K H' ds vs F
 own:o=true->F.Nodup/\∀a∈F,H a=none/\¬W' a
def AV (X:Cx) (T:Tg) (m o:Bool) (es:List Expr) (w:WA):Prop :=
 ∃ta,PA X es ta/\∀(z:Nat->V) (R:Addr->Prop) (σ:St) (H:Hp) (W:Addr->Prop) (ρ:Env) (Q:List D->Env->Prop) (Q':List V->Hp->Prop),SR X.K T z R H W σ ρ->w ρ Q ->
  (∀vs H' W' ds ρ' F,PostA X.K T z R m o H W σ ρ H' W' ρ' ds vs F->Q ds ρ'->Q' vs H')->ta σ H Q'
variable {es:List Expr} {wr:WA}
def wNil:WA:=λρ Q=>Q [] ρ
def Qd (w:WE) (wr:WA):WA:=λρ Q=>w ρ λd ρ1=>wr ρ1 λds ρ2=>Q (d::ds) ρ2
theorem Qf:AV X T false true [] wNil:=⟨_,Qgg,λz R σ H W ρ Q Q' s hw k=>k [] H W [] ρ [] ⟨s,FrW.refl H W,λ_=>⟨Same.refl H,rfl,rfl⟩,.nil,λ_=>⟨List.nodup_nil,λa m=>nomatch m⟩⟩ hw⟩
theorem Qa (he:EV X T m1 o1 e w) (hr:AV X T m2 o2 es wr) (hc:o1=true\/m2=false:=by first | exact .inl rfl | exact .inr rfl) (hs:starEach (e::es) X.env=(false,eval e X.env)::starEach es X.env:=by rfl) :
  AV X T (m1 || m2) (o1 && o2) (e::es) (Qd w wr):=by
 obtain ⟨te,pe,ge⟩:=he
 obtain ⟨ta,pa,ga⟩:=hr
 refine ⟨_,Ve pe pa hs,λz R σ H W ρ Q Q' s hw k=>?_⟩
 refine ge z R σ H W ρ _ _ s hw λv1 H1 W1 d1 ρ1 F1 p q1=>?_
 refine ga z R σ H1 W1 ρ1 _ _ p.sr q1 λvs H2 W2 ds ρ2 F2 q q2=>?_
 have r1:Rep X.K H2 d1 v1 F1:=by
  rcases hc with hc | hc
  ·exact p.rep.keep q.fr λa h=>((p.own hc).2 a h).2
  ·exact p.rep.same (q.calm hc).1
 refine k (v1::vs) H2 W2 (d1::ds) ρ2 (F1++F2) ⟨q.sr,p.fr.trans q.fr,λh=>?_,.cons r1 q.rep,λh=>?_⟩ q2
 ·rw [Bool.or_eq_false_iff] at h
  obtain ⟨a1,a2,a3⟩:=p.calm h.1
  obtain ⟨b1,b2,b3⟩:=q.calm h.2
  exact ⟨a1.trans b1,b2.trans a2,b3.trans a3⟩
 ·rw [Bool.and_eq_true] at h
  obtain ⟨n1,k1⟩:=p.own h.1
  obtain ⟨n2,k2⟩:=q.own h.2
  refine ⟨List.nodup_append.mpr ⟨n1,n2,λa ma b mb e=>?_⟩,λa ma=>?_⟩
  ·subst e
   obtain ⟨ob,e,_⟩:=p.rep.dom a ma
   rw [(k2 a mb).1] at e;cases e
  ·rcases List.mem_append.mp ma with ma | ma
   ·refine ⟨(k1 a ma).1,λw=>?_⟩
    rcases q.fr.new a w with w | w
    ·exact (k1 a ma).2 w
    ·obtain ⟨ob,e,_⟩:=p.rep.dom a ma
     rw [w] at e;cases e
   ·exact ⟨p.fr.dom a (k2 a ma).1,(k2 a ma).2⟩
def wTup (wr:WA):WE:=λρ Q=>wr ρ λds ρ'=>ds.length<=sizeLine/\Q (.tup ds) ρ'
def wLst (wr:WA):WE:=λρ Q=>wr ρ λds ρ'=>ds.length<=sizeLine/\Q (.lst ds) ρ'
theorem Zd {x1} (h:AV X T m o es wr):EV X T m o (.Tuple es x1 pos) (wTup wr):=by
 obtain ⟨ta,pa,ga⟩:=h
 refine ⟨_,Qqb pa,λz R σ H W ρ Q Q' s hw k=>?_⟩
 refine ga z R σ H W ρ _ _ s hw λvs H1 W1 ds ρ1 F p q=>?_
 obtain ⟨hz,q⟩:=q
 refine ⟨by rw [p.rep.length];exact hz,λa ha=>k _ _ W1 (.tup ds) ρ1 F ⟨p.sr.same (Qh ha),p.fr.trans (FrW.same W1 (Qh ha)),λh=>⟨(p.calm h).1.trans (Qh ha),(p.calm h).2⟩,.tup Qi (p.rep.same (Qh ha)),p.own⟩ q⟩
theorem Yl (h:AV X T m o es wr):EV X T m o (.List es pos) (wLst wr):=by
 obtain ⟨ta,pa,ga⟩:=h
 refine ⟨_,Qqf pa,λz R σ H W ρ Q Q' s hw k=>?_⟩
 refine ga z R σ H W ρ _ _ s hw λvs H1 W1 ds ρ1 F p q=>?_
 obtain ⟨hz,q⟩:=q
 refine ⟨by rw [p.rep.length];exact hz,λa ha=>k _ _ W1 (.lst ds) ρ1 (a::F) ⟨p.sr.same (Qh ha),p.fr.trans (FrW.same W1 (Qh ha)),λh=>⟨(p.calm h).1.trans (Qh ha),(p.calm h).2⟩,.lst Qi (p.rep.same (Qh ha)),λh=>?_⟩ q⟩
 obtain ⟨n1,k1⟩:=p.own h
 refine ⟨List.nodup_cons.mpr ⟨λm=>?_,n1⟩,λb mb=>?_⟩
 ·obtain ⟨ob,e,_⟩:=p.rep.dom a m
  rw [ha] at e;cases e
 ·rcases List.mem_cons.mp mb with rfl | mb
  ·exact ⟨p.fr.dom _ ha,p.sr.nw ha⟩
  ·exact k1 b mb
theorem Qjt:EV X T false true (.Dict [] [] pos) (wC (.dik [])) :=
 ⟨_,Qi8,λz R σ H W ρ Q Q' s hw k a ha=>k _ _ W (.dik []) ρ [a] (Post.fin s (FrW.refl H W) (λ_=>⟨Same.refl H,rfl,rfl⟩) (Qh ha) (.dik Qi .nil) (by simp) (λb m=>by rw [List.mem_singleton.mp m];exact ha)) hw⟩
theorem Qjr:EV X T false true (.Dict [] [] pos) (wC (.dit [])) :=
 ⟨_,Qi6,λz R σ H W ρ Q Q' s hw k a ha=>k _ _ W (.dit []) ρ [a] (Post.fin s (FrW.refl H W) (λ_=>⟨Same.refl H,rfl,rfl⟩) (Qh ha) (.dit Qi .nil) (by simp) (λb m=>by rw [List.mem_singleton.mp m];exact ha)) hw⟩
abbrev GA:=List D->(D->Prop)->Prop
def Qdf (X:Cx) (f:Value) (g:GA):Prop :=
 ∃r,Vo X f r/\∀(H:Hp) (ds:List D) (xs:List V) (F:List Addr) (k:D->Prop) (Q:VK),Reps X.K H ds xs F->g ds k->(∀v H' d F',Fin X.K H H' d v F'->k d->Q v H')->r xs H Q
def Qv (g:GA) (wr:WA):WE:=λρ Q=>wr ρ λds ρ'=>g ds λd=>Q d ρ'
variable {x:Str} {id T':String} {p:Pos}
theorem Qeo {g:GA} {r:List V->Hp->VK->Prop} (gr:∀(H:Hp) (ds:List D) (xs:List V) (F:List Addr) (k:D->Prop) (Q:VK),Reps X.K H ds xs F->g ds k->(∀v H' d F',Fin X.K H H' d v F'->k d->Q v H')->r xs H Q)
  {ta:TA} (ga:∀(z:Nat->V) (R:Addr->Prop) (σ:St) (H:Hp) (W:Addr->Prop) (ρ:Env) (Q:List D->Env->Prop) (Q':List V->Hp->Prop),SR X.K T z R H W σ ρ->wr ρ Q ->
   (∀vs H' W' ds ρ' F,PostA X.K T z R m o H W σ ρ H' W' ρ' ds vs F->Q ds ρ'->Q' vs H')->ta σ H Q')
  {z:Nat->V} {R:Addr->Prop} {σ:St} {H:Hp} {W:Addr->Prop} {ρ:Env} {Q:D->Env->Prop} {Q':VK} (s:SR X.K T z R H W σ ρ) (hw:Qv g wr ρ Q)
  (k:∀v H' W' d ρ' F,Post X.K T z R m true H W σ ρ H' W' ρ' d v F->Q d ρ'->Q' v H'):ta σ H λvs H1=>r vs H1 Q':=by
 refine ga z R σ H W ρ _ _ s hw λvs H1 W1 ds ρ1 F p q=>?_
 exact gr H1 ds vs F _ Q' p.rep q λv H' d F' fi hk=>k v H' W1 d ρ1 F' (Post.fin p.sr p.fr p.calm fi.same fi.rep fi.nd fi.new) hk
theorem Ju {g:GA} (hc:Qdf X (.builtin id) g) (hm:X.mg x=none) (hv:bootBuiltins x=some (.builtin id)) (ha:AV X T m o (e::es) wr) (hg:Gl X x:=by rfl) (hn:x ≠ "__name__":=by decide) (hdb:(x == ("__debug__" : Str))=false:=by decide)
  (he:starEach (e::es) X.env=(false,eval e X.env)::starEach es X.env:=by rfl) (hpl:(backTo pos (starEach es X.env)).any (·.1)=false:=by rfl):EV X T m true (.Call (.Name x p) (e::es) [] pos) (Qv g wr):=by
 obtain ⟨r,rc,gr⟩:=hc
 obtain ⟨ta,pa,ga⟩:=ha
 exact ⟨_,Qjb rc hg hm hv pa hn hdb he hpl,λz R σ H W ρ Q Q' s hw k=>Qeo gr ga s hw k⟩
theorem J7 {g:GA} (hc:Qdf X (.type T') g) (hm:X.mg x=none) (hv:bootBuiltins x=some (.type T')) (ha:AV X T m o (e::es) wr) (hg:Gl X x:=by rfl) (hn:x ≠ "__name__":=by decide) (hdb:(x == ("__debug__" : Str))=false:=by decide)
  (he:starEach (e::es) X.env=(false,eval e X.env)::starEach es X.env:=by rfl) (hpl:(backTo pos (starEach es X.env)).any (·.1)=false:=by rfl):EV X T m true (.Call (.Name x p) (e::es) [] pos) (Qv g wr):=by
 obtain ⟨r,rc,gr⟩:=hc
 obtain ⟨ta,pa,ga⟩:=ha
 exact ⟨_,Qbg rc hg hm hv pa hn hdb he hpl,λz R σ H W ρ Q Q' s hw k=>Qeo gr ga s hw k⟩
theorem Qhe (t:Ty) (hm:X.mg x=none) (hv:bootBuiltins x=some (.type t.nm)) (hg:Gl X x:=by rfl) (hn:x ≠ "__name__":=by decide) (hdb:(x == ("__debug__" : Str))=false:=by decide):EV X T false true (.Name x pos) (wC (.ty t)) :=
 Z6 (Qni hg hm hv (v:=.ty t.nm) rfl hn hdb) λ_=>.ty t
theorem Reps.at1 {K:PySem.W.Frag} {H:Hp} {d:D} {xs:List V} {F:List Addr} (r:Reps K H [d] xs F):∃v,xs=[v]/\Rep K H d v F:=by
 cases r with
 | cons h r=>cases r;rw [List.append_nil];exact ⟨_,rfl,h⟩
theorem Reps.at2 {K:PySem.W.Frag} {H:Hp} {d e:D} {xs:List V} {F:List Addr} (r:Reps K H [d,e] xs F):∃v u F1 F2,xs=[v,u]/\Rep K H d v F1/\Rep K H e u F2:=by
 cases r with
 | cons h r =>
  obtain ⟨u,rfl,h2⟩:=r.at1
  exact ⟨_,_,_,_,rfl,h,h2⟩
def dLen:GA
 | [.lst xs],k=>k (.int xs.length)
 | [.tup xs],k=>k (.int xs.length)
 | [.kls xs],k=>k (.int xs.length)
 | [.dik xs],k=>k (.int xs.length)
 | [.str z],k=>z.length<=sizeLine/\k (.int z.length)
 | _,_=>False
theorem G0:Qdf X (.builtin "len") dLen:=by
 refine ⟨_,Vo.or Qen Qh4,λH ds xs F k Q r g q=>?_⟩
 cases ds with
 | nil=>exact (show False from g).elim
 | cons d ds =>
  cases ds with
  | cons _ _=>cases d <;> exact (show False from g).elim
  | nil =>
   cases d with
   | lst es =>
    obtain ⟨v,rfl,rd⟩:=r.at1
    clear r
    cases rd with
    | lst e r9=>exact .inl ⟨_,_,rfl,.inl ⟨_,.of e,rfl⟩,by rw [r9.length];exact q _ _ _ _ (.flat (.int _)) g⟩
   | tup es =>
    obtain ⟨v,rfl,rd⟩:=r.at1
    clear r
    cases rd with
    | tup e r9=>exact .inl ⟨_,_,rfl,.inr ⟨_,.of e,rfl⟩,by rw [r9.length];exact q _ _ _ _ (.flat (.int _)) g⟩
   | kls es =>
    obtain ⟨v,rfl,rd⟩:=r.at1
    clear r
    cases rd with
    | kls e r9=>exact .inl ⟨_,_,rfl,.inl ⟨_,e.sq,rfl⟩,by rw [r9.length];exact q _ _ _ _ (.flat (.int _)) g⟩
   | dik es =>
    obtain ⟨v,rfl,rd⟩:=r.at1
    clear r
    cases rd with
    | dik e r9=>exact .inr ⟨_,_,rfl,e,by rw [r9.length];exact q _ _ _ _ (.flat (.int _)) g⟩
   | str es =>
    obtain ⟨v,rfl,rd⟩:=r.at1
    clear r
    cases rd
    exact .inl ⟨_,_,rfl,⟨g.1,rfl⟩,q _ _ _ _ (.flat (.int _)) g.2⟩
   | _=>exact (show False from g).elim
def dInt:GA
 | [.int i],k=>k (.int i)
 | [.bl b],k=>k (.int (if b then 1 else 0))
 | _,_=>False
theorem Qlr:Qdf X (.type "int") dInt:=by
 refine ⟨_,Qh5,λH ds xs F k Q r g q=>?_⟩
 cases ds with
 | nil=>exact (show False from g).elim
 | cons d ds =>
  cases ds with
  | cons _ _=>cases d <;> exact (show False from g).elim
  | nil =>
   cases d with
   | int i =>
    obtain ⟨v,rfl,rd⟩:=r.at1
    cases rd
    exact .inl ⟨_,rfl,q _ _ _ _ (.flat (.int _)) g⟩
   | bl i =>
    obtain ⟨v,rfl,rd⟩:=r.at1
    cases rd
    exact .inr ⟨_,rfl,q _ _ _ _ (.flat (.int _)) g⟩
   | _=>exact (show False from g).elim
def dList:GA
 | [.lst xs],k=>Qj xs=true/\k (.lst xs)
 | [.tup xs],k=>Qj xs=true/\k (.lst xs)
 | [.kls xs],k=>Qj xs=true/\k (.lst xs)
 | _,_=>False
def Vc:GA
 | [.lst xs],k=>Qj xs=true/\k (.tup xs)
 | [.tup xs],k=>Qj xs=true/\k (.tup xs)
 | [.kls xs],k=>Qj xs=true/\k (.tup xs)
 | _,_=>False
theorem Zi:Qdf X (.type "tuple") Vc:=by
 refine ⟨_,Qaq,λH ds xs F k Q r g q=>?_⟩
 cases ds with
 | nil=>exact (show False from g).elim
 | cons d ds =>
  cases ds with
  | cons _ _=>cases d <;> exact (show False from g).elim
  | nil =>
   cases d with
   | lst es =>
    obtain ⟨v,rfl,rd⟩:=r.at1
    clear r
    cases rd with
    | lst e r9=>exact ⟨_,_,rfl,.inl ⟨.of e,λl hl=>q _ _ _ [] ⟨Qh hl,.tup Qi ((r9.pure g.1).2.same (Qh hl)),by simp,λb m=>nomatch m⟩ g.2⟩⟩
   | tup es =>
    obtain ⟨v,rfl,rd⟩:=r.at1
    clear r
    cases rd with
    | tup e r9=>exact ⟨_,_,rfl,.inr ⟨.of e,q _ _ _ _ (.flat (.tup e (r9.pure g.1).2)) g.2⟩⟩
   | kls es =>
    obtain ⟨v,rfl,rd⟩:=r.at1
    clear r
    cases rd with
    | kls e r9=>exact ⟨_,_,rfl,.inl ⟨e.sq,λl hl=>q _ _ _ [] ⟨Qh hl,.tup Qi ((r9.pure g.1).2.same (Qh hl)),by simp,λb m=>nomatch m⟩ g.2⟩⟩
   | _=>exact (show False from g).elim
end
end PV
namespace PV
open PySem PySem.Spec L2
section
variable {X:Cx} {T:Tg} {m o m1 m2 m3 o1 o2:Bool} {e a b:Expr} {w wa wb:WE} {pos p2 p:Pos} {es:List Expr} {wr:WA} {x:Str}
def isiD:D->Ty->Option Bool
 | .non,_=>some false
 | .bl _,t=>some (t == .bool || t == .int)
 | .int _,t=>some (t == .int)
 | .str _,t=>some (t == .str)
 | .tup _,t=>some (t == .tuple)
 | .lst _,t=>some (t == .list)
 | .dik _,t=>some (t == .dict)
 | .dit _,t=>some (t == .dict)
 | .kls _,_=>none
 | .ty _,_=>none
 | .fdk _,_=>none
 | .ftp _,_=>none
 | .fls _,t=>some (t == .list)
 | .fdt _,_=>none
 | .obj _ _,_=>none
 | .clo _ _,_=>none
 | .kc _,_=>none
 | .dmx _,_=>none
 | .fmx _,_=>none
def dIsi:GA
 | [d,.ty t],k=>oget (isiD d t) λb=>k (.bl b)
 | _,_=>False
theorem Qra {K:PySem.W.Frag} (t:Ty):PySem.W.kitOne K (.type "NoneType") (.type t.nm)=some false:=by
 cases t <;> (unfold PySem.W.kitOne;rw [if_neg (by decide)];rfl)
theorem Qrc {K:PySem.W.Frag} (t:Ty):PySem.W.kitOne K (.type "bool") (.type t.nm)=some (t == .bool || t == .int):=by
 cases t <;> first | (unfold PySem.W.kitOne;rw [if_pos (by decide)];rfl) | (unfold PySem.W.kitOne;rw [if_neg (by decide)];rfl)
theorem Qrb {K:PySem.W.Frag} (t:Ty):PySem.W.kitOne K (.type "int") (.type t.nm)=some (t == .int):=by
 cases t <;> first | (unfold PySem.W.kitOne;rw [if_pos (by decide)];rfl) | (unfold PySem.W.kitOne;rw [if_neg (by decide)];rfl)
theorem Qq9 {K:PySem.W.Frag} (t:Ty):PySem.W.kitOne K (.type "str") (.type t.nm)=some (t == .str):=by
 cases t <;> first | (unfold PySem.W.kitOne;rw [if_pos (by decide)];rfl) | (unfold PySem.W.kitOne;rw [if_neg (by decide)];rfl)
theorem Qq8 {K:PySem.W.Frag} (t:Ty):PySem.W.kitOne K (.type "tuple") (.type t.nm)=some (t == .tuple):=by
 cases t <;> first | (unfold PySem.W.kitOne;rw [if_pos (by decide)];rfl) | (unfold PySem.W.kitOne;rw [if_neg (by decide)];rfl)
theorem Qle {K:PySem.W.Frag} (t:Ty):PySem.W.kitOne K (.type "list") (.type t.nm)=some (t == .list):=by
 cases t <;> first | (unfold PySem.W.kitOne;rw [if_pos (by decide)];rfl) | (unfold PySem.W.kitOne;rw [if_neg (by decide)];rfl)
theorem Qlf {K:PySem.W.Frag} (t:Ty):PySem.W.kitOne K (.type "dict") (.type t.nm)=some (t == .dict):=by
 cases t <;> first | (unfold PySem.W.kitOne;rw [if_pos (by decide)];rfl) | (unfold PySem.W.kitOne;rw [if_neg (by decide)];rfl)
theorem Qb4:Qdf X (.builtin "isinstance") dIsi:=by
 refine ⟨_,Qc8,λH ds xs F k Q r g q=>?_⟩
 match ds,r,g with
 | [d,.ty t],r,g =>
  obtain ⟨v,u,F1,F2,rfl,r1,r2⟩:=r.at2
  obtain ⟨b,hb,g⟩:=Qk g
  cases r2
  have fin:=q _ _ _ _ (.flat (.bl b)) g
  cases r1 with
  | non=>exact ⟨_,_,_,_,rfl,.non,Qra t,by cases hb;exact fin⟩
  | bl c=>exact ⟨_,_,_,_,rfl,.bl c,Qrc t,by cases hb;exact fin⟩
  | int c=>exact ⟨_,_,_,_,rfl,.int c,Qrb t,by cases hb;exact fin⟩
  | str c=>exact ⟨_,_,_,_,rfl,.str c,Qq9 t,by cases hb;exact fin⟩
  | tup e _=>exact ⟨_,_,_,_,rfl,.tup e,Qq8 t,by cases hb;exact fin⟩
  | lst e _=>exact ⟨_,_,_,_,rfl,.lst e,Qle t,by cases hb;exact fin⟩
  | dik e _=>exact ⟨_,_,_,_,rfl,.dK e,Qlf t,by cases hb;exact fin⟩
  | dit e _=>exact ⟨_,_,_,_,rfl,.dT e,Qlf t,by cases hb;exact fin⟩
  | kls _ _=>cases hb
  | ty _=>cases hb
  | fdk _ _=>cases hb
  | ftp _ _ _=>cases hb
  | fls e _=>exact ⟨_,_,_,_,rfl,.frz e,Qle t,by cases hb;exact fin⟩
  | fdt _ _=>cases hb
  | obj _ _ _=>cases hb
  | clo _ _=>cases hb
  | kc _=>cases hb
  | dmx _ _ _ _=>cases hb
  | fmx _ _ _ _=>cases hb
theorem SR0.write {K:PySem.W.Frag} {z:Nat->V} {R:Addr->Prop} {H H':Hp} {W:Addr->Prop} {σ:St} {ρ:Env} {fp:Nat->List Addr} {i:Nat} {d d':D} {v:V} {l:Addr} {F':List Addr} (s:SR0 K T z R H W σ ρ fp)
  (hl:look ρ i=some d) (ht:T.own i=true) (hv:σ[i]? = some (some v)) (hm:l∈fp i) (hk:∀b u,H b=some u->b≠l->H' b=some u) (hnew:∃ob,H' l=some ob/\imm ob=false) (r:Rep K H' d' v F') (nd:F'.Nodup)
  (sub:∀a∈F',a∈fp i\/(¬W a/\¬R a)):SR K T z R H' (λa=>W a\/a∈F') σ (ρ.set i (some d')):=by
 have hW:W l:=(s.own i d hl ht).2 l hm
 have hi:ImmK H H':=λb ob' e im=>by
  obtain ⟨ol,e1,e2⟩:=s.wd l hW
  have:b≠l:=λz=>by rw [z,e1] at e;cases e;rw [e2] at im;cases im
  exact hk b _ e this
 refine ⟨λj=>if j=i then F' else fp j,?_,?_,?_,?_,?_,?_,?_,?_,s.fix⟩
 ·rw [List.length_set];exact s.len
 ·intro a ha
  by_cases e:a=l
  ·subst e;exact hnew
  ·rcases ha with ha | ha
   ·exact (s.wd a ha).imp λob q=>⟨hk a ob q.1 e,q.2⟩
   ·exact r.dom a ha
 ·intro j e hj
  by_cases hji:j=i
  ·subst hji
   rw [Zh (Gm hl)] at hj
   cases hj
   exact ⟨v,hv,by rw [if_pos rfl];exact r⟩
  ·rw [Qr hji] at hj
   obtain ⟨u,h1,h2⟩:=s.at_ j e hj
   refine ⟨u,h1,?_⟩
   rw [if_neg hji]
   refine h2.frame hi λa ha=>?_
   obtain ⟨oa,e1,_⟩:=h2.dom a ha
   rw [e1]
   refine hk a _ e1 λz=>?_
   subst z
   cases hto:T.own j with
   | true=>exact s.dis i j d e hl hj ht hto (λz=>hji z.symm) _ hm ha
   | false=>exact s.wr _ hW (s.ro j e hj hto _ ha)
 ·intro j e hj hto
  by_cases hji:j=i
  ·subst hji;simp only [if_pos];exact ⟨nd,λa h=>.inr h⟩
  ·rw [Qr hji] at hj
   simp only [if_neg hji]
   exact ⟨(s.own j e hj hto).1,λa h=>.inl ((s.own j e hj hto).2 a h)⟩
 ·intro j e hj hto
  have hji:j≠i:=λz=>by subst z;rw [ht] at hto;cases hto
  rw [Qr hji] at hj
  simp only [if_neg hji]
  exact s.ro j e hj hto
 ·intro a ha hr
  rcases ha with ha | ha
  ·exact s.wr a ha hr
  ·rcases sub a ha with h | h
   ·exact s.wr a ((s.own i d hl ht).2 a h) hr
   ·exact h.2 hr
 ·intro a hr
  have:a≠l:=λz=>by subst z;exact s.wr _ hW hr
  exact (s.rd a hr).imp λob q=>⟨hk a ob q.1 this,q.2⟩
 ·intro j k e e' hj hk tj tk hne a ha ha'
  by_cases hji:j=i
  ·subst hji
   have hkj:k≠j:=λz=>hne z.symm
   rw [Qr hkj] at hk
   simp only [if_pos,if_neg hkj] at ha ha'
   rcases sub a ha with h | h
   ·exact s.dis j k d e' hl hk ht tk hne a h ha'
   ·exact h.1 ((s.own k e' hk tk).2 a ha')
  ·rw [Qr hji] at hj
   simp only [if_neg hji] at ha
   by_cases hki:k=i
   ·subst hki
    simp only [if_pos] at ha'
    rcases sub a ha' with h | h
    ·exact s.dis j k e d hj hl tj ht hne a ha h
    ·exact h.1 ((s.own j e hj tj).2 a ha)
   ·rw [Qr hki] at hk
    simp only [if_neg hki] at ha'
    exact s.dis j k e e' hj hk tj tk hne a ha ha'
theorem FrW.write {H0 H H':Hp} {W0 W:Addr->Prop} {l:Addr} {F':List Addr} (f:FrW H0 W0 H W) (hl:W l) (hm:∃ol,H l=some ol/\PV.imm ol=false) (hk:∀b u,H b=some u->b≠l->H' b=some u) (hnew:∃ob,H' l=some ob/\PV.imm ob=false)
  (sub:∀a∈F',W a\/H0 a=none):FrW H0 W0 H' (λa=>W a\/a∈F') where
 keep:=λb ob' e n=>by
  have:b≠l:=λz=>by
   subst z
   rcases f.new _ hl with h | h
   ·exact n h
   ·rw [h] at e;cases e
  exact hk b _ (f.keep b ob' e n) this
 dom:=λb e=>by
  by_cases h:b=l
  ·subst h
   obtain ⟨ob,e1,_⟩:=hnew
   rw [e1] at e;cases e
  ·refine f.dom b ?_
   cases q:H b with
   | none=>rfl
   | some u=>rw [hk b u q h] at e;cases e
 imm:=λb ob' e im=>by
  have e':=f.imm b ob' e im
  obtain ⟨ol,e1,e2⟩:=hm
  have:b≠l:=λz=>by rw [z,e1] at e';cases e';rw [e2] at im;cases im
  exact hk b _ e' this
 new:=λb h=>by
  rcases h with h | h
  ·exact f.new b h
  ·rcases sub b h with h | h
   ·exact f.new b h
   ·exact .inr h
theorem Z0 {H:Hp} {l:Addr} {ob:HO}:∀b u,H b=some u->b≠l->upd H l ob b=some u:=λb u e n=>by rw [Ql n];exact e
abbrev GM:=D->List D->(D->D->Prop)->Prop
def MtD (X:Cx) (id:String) (g:GM):Prop :=
 ∃r,MtR X id r/\∀(H:Hp) (d:D) (ds:List D) (v:V) (xs:List V) (F G:List Addr) (k:D->D->Prop) (Q:VK),Rep X.K H d v F->F.Nodup->Reps X.K H ds xs G->G.Nodup->(∀a∈G,a∉F)->g d ds k ->
  (∀u l ob e d' F',l∈F->imm ob=false->Rep X.K (upd H l ob) d' v F'->F'.Nodup->(∀a∈F',a∈F\/a∈G)->Rep X.K (upd H l ob) e u []->k e d'->Q u (upd H l ob))->r v xs H Q
def tyD:Option D->String->Bool
 | some (.lst _),t=>t == "list"
 | some (.dik _),t=>t == "dict"
 | some (.dit _),t=>t == "dict"
 | some (.dmx _),t=>t == "dict"
 | _,_=>false
theorem Qo3 {K:PySem.W.Frag} {H:Hp} {d:D} {v:V} {F:List Addr} {t:String} (r:Rep K H d v F) (h:tyD (some d) t=true):tyV K t v H:=by
 cases r <;> try (simp [tyD] at h)
 ·subst h;exact .inl ⟨rfl,_,.of ‹_›⟩
 ·subst h;exact .inr (.inr (.inl ⟨rfl,.inl ⟨_,‹_›⟩⟩))
 ·subst h;exact .inr (.inr (.inl ⟨rfl,.inr ⟨_,‹_›⟩⟩))
 ·rename_i e hk hm r
  subst h
  refine .inr (.inr (.inr (.inr ⟨Mx.phi _ _,e,λh p=>?_⟩)))
  obtain ⟨_,_,_,_,_,o,_,_,e,x,_⟩:=p
  exact ⟨o,e,x.1,x.2.1⟩
def wMt (i:Nat) (t:String) (g:GM) (wr:WA):WE:=λρ Q=>tyD (look ρ i) t=true/\wr ρ λds ρ1=>oget (look ρ1 i) λd=>g d ds λe d'=>Q e (ρ1.set i (some d'))
theorem Qqz {i:Nat} {t:String} {g:GM} {r:V->List V->Hp->VK->Prop} (ht:T.own i=true)
  (gr:∀(H:Hp) (d:D) (ds:List D) (v:V) (xs:List V) (F G:List Addr) (k:D->D->Prop) (Q:VK),Rep X.K H d v F->F.Nodup->Reps X.K H ds xs G->G.Nodup->(∀a∈G,a∉F)->g d ds k ->
   (∀u l ob e d' F',l∈F->imm ob=false->Rep X.K (upd H l ob) d' v F'->F'.Nodup->(∀a∈F',a∈F\/a∈G)->Rep X.K (upd H l ob) e u []->k e d'->Q u (upd H l ob))->r v xs H Q)
  {ta:TA} (ga:∀(z:Nat->V) (R:Addr->Prop) (σ:St) (H:Hp) (W:Addr->Prop) (ρ:Env) (Q:List D->Env->Prop) (Q':List V->Hp->Prop),SR X.K T z R H W σ ρ->wr ρ Q ->
   (∀vs H' W' ds ρ' F,PostA X.K T z R m true H W σ ρ H' W' ρ' ds vs F->Q ds ρ'->Q' vs H')->ta σ H Q')
  {z:Nat->V} {R:Addr->Prop} {σ:St} {H:Hp} {W:Addr->Prop} {ρ:Env} {Q:D->Env->Prop} {Q':VK} (s:SR X.K T z R H W σ ρ) (hw:wMt i t g wr ρ Q)
  (k:∀v H' W' d ρ' F,Post X.K T z R true true H W σ ρ H' W' ρ' d v F->Q d ρ'->Q' v H'):tVar i σ H λx H1=>tyV X.K t x H1/\ta σ H1 λxs H2=>r x xs H2 Q':=by
 obtain ⟨hty,hw⟩:=hw
 obtain ⟨fp0,s0⟩:=id s
 cases hl:look ρ i with
 | none=>rw [hl] at hty;cases hty
 | some d0 =>
  obtain ⟨v,hv,r0⟩:=s0.at_ i d0 hl
  refine ⟨v,hv,Qo3 r0 (by rw [hl] at hty;exact hty),?_⟩
  refine ga z R σ H W ρ _ _ s hw λvs H1 W1 ds ρ1 G p q=>?_
  obtain ⟨d,hd,q⟩:=Qk q
  obtain ⟨fp,s1⟩:=id p.sr
  obtain ⟨v',hv',r1⟩:=s1.at_ i d hd
  have:v'=v:=by rw [hv] at hv';cases hv';rfl
  subst this
  obtain ⟨nd1,sw⟩:=s1.own i d hd ht
  obtain ⟨ndG,kG⟩:=p.own rfl
  refine gr H1 d ds v' vs (fp i) G _ Q' r1 nd1 p.rep ndG (λa ha hf=>(kG a ha).2 (sw a hf)) q λu l ob e d' F' hlF him rd' ndF sub re hk=>?_
  have hWl:=sw l hlF
  refine k u _ (λa=>W1 a\/a∈F') e _ [] ⟨s1.write hd ht hv' hlF Z0 ⟨ob,Qi,him⟩ rd' ndF (λa ha=>?_),p.fr.write hWl (s1.wd l hWl) Z0 ⟨ob,Qi,him⟩ (λa ha=>?_),(λh=>nomatch h),re,λ_=>⟨List.nodup_nil,λa m=>nomatch m⟩⟩ hk
  ·rcases sub a ha with h | h
   ·exact .inl h
   ·exact .inr ⟨(kG a h).2,s.nr (kG a h).1⟩
  ·rcases sub a ha with h | h
   ·exact .inl (sw a h)
   ·exact .inr (kG a h).1
variable {name:Str} {apos cpos:Pos} {T' id:String}
theorem Qbv {i:Nat} {g:GM} (hm:MtD X id g) (pa:PlainAttrs T') (slot:Slot T' name id) (hty:typeOf (.builtin id)=pure (.type "method_descriptor")) (ha:AV X T m true (e::es) wr)
  (ht:T.own i=true:=by rfl) (hN:X.N[i]? = some x:=by rfl) (hv:Vis X.env.scope x:=by first | exact Or.inl rfl | exact Or.inr (Or.inl rfl) | exact Or.inr (Or.inr rfl)) (hd:(x == ("__debug__" : Str))=false:=by decide)
  (hcd:(x == ("__classdict__" : Str))=false:=by decide)
  (hbase:attributeBase (.Name x p) name X.env (eval (.Name x p) X.env)=eval (.Name x p) X.env:=by rfl)
  (hfew:((backTo cpos (starEach (e::es) X.env)).all (λx=>!x.1) && (backToKw cpos (keywordEach [] X.env)).all (λx=>x.1.isSome)
   && decide ((e::es).length+([]:List Keyword).length+(if ([]:List Keyword).isEmpty then 0 else 1)<30))=true:=by rfl)
  (hline:(apos.endLine == cpos.line)=true:=by rfl) (hs:starEach (e::es) X.env=(false,eval e X.env)::starEach es X.env:=by rfl) (hplain:(backTo cpos (starEach es X.env)).any (·.1)=false:=by rfl) :
  EV X T true true (.Call (.Attribute (.Name x p) name apos) (e::es) [] cpos) (wMt i T' g wr):=by
 obtain ⟨r,mr,gr⟩:=hm
 obtain ⟨ta,pa',ga⟩:=ha
 exact ⟨_,Qs6 pa slot hty mr (Vy hN hv hd hcd) pa' hbase hfew hline hs hplain,λz R σ H W ρ Q Q' s hw k=>Qqz ht gr ga s hw k⟩
def Qc1:GM
 | .lst xs,[d],k=>xs.length<sizeLine/\k .non (.lst (xs++[d]))
 | _,_,_=>False
theorem Vz {α:Type} {F G:List α} (h:F.Nodup) (h':G.Nodup) (d:∀a∈G,a∉F):(F++G).Nodup :=
 List.nodup_append.mpr ⟨h,h',λa ha b hb e=>d b hb (e ▸ ha)⟩
theorem Vi {H:Hp} {l:Addr} {ob ob':HO} (h:H l=some ob) (hi:imm ob=false):ImmK H (upd H l ob'):=λb u e im=>by
 have:b≠l:=λz=>by rw [z,h] at e;cases e;rw [hi] at im;cases im
 rw [Ql this];exact e
theorem Reps.upd {K:PySem.W.Frag} {H:Hp} {ds:List D} {xs:List V} {F:List Addr} {l:Addr} {ob ob':HO} (r:Reps K H ds xs F) (h:H l=some ob) (hi:imm ob=false) (hn:l∉F):Reps K (L2.upd H l ob') ds xs F :=
 r.frame (Vi h hi) λa ha=>Ql λz=>hn (z ▸ ha)
theorem Rep.upd {K:PySem.W.Frag} {H:Hp} {d:D} {x:V} {F:List Addr} {l:Addr} {ob ob':HO} (r:Rep K H d x F) (h:H l=some ob) (hi:imm ob=false) (hn:l∉F):Rep K (L2.upd H l ob') d x F :=
 r.frame (Vi h hi) λa ha=>Ql λz=>hn (z ▸ ha)
theorem RepK.upd {K:PySem.W.Frag} {H:Hp} {ds:List (Key × D)} {xs:List (Key × V)} {F:List Addr} {l:Addr} {ob ob':HO} (r:RepK K H ds xs F) (h:H l=some ob) (hi:imm ob=false) (hn:l∉F):RepK K (L2.upd H l ob') ds xs F :=
 r.frame (Vi h hi) λa ha=>Ql λz=>hn (z ▸ ha)
theorem RepT.upd {K:PySem.W.Frag} {H:Hp} {ds:List (List Key × D)} {xs:List (List Key × V)} {F:List Addr} {l:Addr} {ob ob':HO} (r:RepT K H ds xs F) (h:H l=some ob) (hi:imm ob=false) (hn:l∉F):RepT K (L2.upd H l ob') ds xs F :=
 r.frame (Vi h hi) λa ha=>Ql λz=>hn (z ▸ ha)
theorem Qgw:MtD X "list.append" Qc1:=by
 refine ⟨_,Qgt,λH d ds v xs F G k Q r nd rs ndG dis g q=>?_⟩
 cases d with
 | lst es =>
  cases ds with
  | nil=>exact (show False from g).elim
  | cons d ds =>
   cases ds with
   | cons _ _=>exact (show False from g).elim
   | nil =>
    obtain ⟨u,rfl,rd⟩:=rs.at1
    cases r with
    | @lst l ys _ F e r9 =>
     obtain ⟨hz,g⟩:=g
     obtain ⟨nl,nd⟩:=List.nodup_cons.mp nd
     have hG:l∉G:=λh=>dis l h List.mem_cons_self
     refine ⟨l,ys,u,rfl,rfl,e,by rw [r9.length];exact hz,?_⟩
     refine q .non l _ .non _ (l::(F++G)) List.mem_cons_self rfl (.lst Qi ((r9.upd e rfl nl).snoc (rd.upd e rfl hG))) (List.nodup_cons.mpr ⟨λh=>(List.mem_append.mp h).elim nl hG,Vz nd ndG λa ha hf=>dis a ha (List.mem_cons_of_mem _ hf)⟩) (λa ha=>?_) .non g
     rcases List.mem_cons.mp ha with rfl | ha
     ·exact .inl List.mem_cons_self
     ·rcases List.mem_append.mp ha with ha | ha
      ·exact .inl (List.mem_cons_of_mem _ ha)
      ·exact .inr ha
 | _=>exact (show False from g).elim
def Qef:GM
 | .lst xs,[.int i],k=>-(2 ^ 63)<=i/\i<2 ^ 63/\oget (seqIndex? i xs.length) λj=>oget xs[j]? λd=>d.pure=true/\k d (.lst (xs.eraseIdx j))
 | _,_,_=>False
theorem sub3 {α:Type} {F A B C:List α} (h:F=A++B++C):(A++C).Sublist F:=by
 rw [h,List.append_assoc]
 exact List.Sublist.append (List.Sublist.refl _) (List.sublist_append_right _ _)
theorem Qd6:MtD X "list.pop" Qef:=by
 refine ⟨_,Qjh,λH d ds v xs F G k Q r nd rs ndG dis g q=>?_⟩
 cases d with
 | lst es =>
  cases ds with
  | nil=>exact (show False from g).elim
  | cons d ds =>
   cases ds with
   | cons _ _=>cases d <;> exact (show False from g).elim
   | nil =>
    cases d with
    | int i =>
     obtain ⟨u,rfl,rd⟩:=rs.at1
     cases rd
     cases r with
     | @lst l ys _ F e r9 =>
      obtain ⟨h1,h2,g⟩:=g
      obtain ⟨j,hj,g⟩:=Qk g
      obtain ⟨d,hd,hp,g⟩:=Qk g
      obtain ⟨nl,nd⟩:=List.nodup_cons.mp nd
      obtain ⟨y,A,B,C,hy,hF,rB,rA,rC⟩:=r9.split hd
      obtain ⟨hB,rB⟩:=rB.pure hp
      have sub:=sub3 hF
      have nAC:l∉A++C:=λh=>nl (sub.subset h)
      refine ⟨l,ys,i,j,y,rfl,rfl,e,h1,h2,by rw [r9.length];exact hj,hy,?_⟩
      refine q y l _ d _ (l::(A++C)) List.mem_cons_self rfl (.lst Qi ?_) (List.nodup_cons.mpr ⟨nAC,nd.sublist sub⟩) (λa ha=>?_) (rB.upd e rfl (λh=>nomatch h)) g
      ·rw [Qei,Qei]
       exact (rA.append rC).upd e rfl nAC
      ·rcases List.mem_cons.mp ha with rfl | ha
       ·exact .inl List.mem_cons_self
       ·exact .inl (List.mem_cons_of_mem _ (sub.subset ha))
    | _=>exact (show False from g).elim
 | _=>exact (show False from g).elim
end
end PV
namespace PV
open PySem PySem.Spec L2
def spR (K:PySem.W.Frag) (g:GA):Sp:=λvs H Q _=>∃(ds:List D) (F:List Addr) (k:D->Prop),Reps K H ds vs F/\g ds k/\∀v H' d F',Fin K H H' d v F'->k d->Q v H'
abbrev GI:=List D->(D->D->Prop)->Prop
def spI (K:PySem.W.Frag) (p:Nat) (g:GI):Sp:=λvs H Q _=>∃(ds:List D) (a:Addr) (k:D->D->Prop),Reps K H ds vs [a]/\vs[p]? = some (.ref a)/\g ds k /\
 ∀v H' d d' F',Rep K H' d' (.ref a) [a]->Rep K H' d v F'->F'.Nodup->(∀b∈F',H b=none)->(∀b o,H b=some o->b≠a->H' b=some o)->k d d'->Q v H'
def Yx:D->Bool
 | .lst xs=>Qj xs
 | .dik kvs=>kvs.all λkv=>kv.2.pure
 | .dit kvs=>kvs.all λkv=>kv.2.pure
 | .dmx _=>true
 | _=>false
theorem RepK.pure {K:PySem.W.Frag} {H:Hp}:∀{ds:List (Key × D)} {xs:List (Key × V)} {F:List Addr},RepK K H ds xs F->(ds.all λkv=>kv.2.pure)=true->F=[]
 | [],_,_,r,_=>by cases r;rfl
 | d::ds,_,_,r,h=>by
  rw [List.all_cons,Bool.and_eq_true] at h
  cases r with
  | cons p r=>rw [(p.pure h.1).1,RepK.pure r h.2];rfl
theorem RepT.pure {K:PySem.W.Frag} {H:Hp}:∀{ds:List (List Key × D)} {xs:List (List Key × V)} {F:List Addr},RepT K H ds xs F->(ds.all λkv=>kv.2.pure)=true->F=[]
 | [],_,_,r,_=>by cases r;rfl
 | d::ds,_,_,r,h=>by
  rw [List.all_cons,Bool.and_eq_true] at h
  cases r with
  | cons p r=>rw [(p.pure h.1).1,RepT.pure r h.2];rfl
theorem Rep.flat1 {K:PySem.W.Frag} {H:Hp} {d:D} {v:V} {F:List Addr} (r:Rep K H d v F) (h:Yx d=true):∃a,v=.ref a/\F=[a]:=by
 cases r with
 | lst e r=>exact ⟨_,rfl,by rw [(r.pure (by simpa [Yx] using h)).1]⟩
 | dik e r=>exact ⟨_,rfl,by rw [r.pure (by simpa [Yx] using h)]⟩
 | dit e r=>exact ⟨_,rfl,by rw [r.pure (by simpa [Yx] using h)]⟩
 | dmx e _ _ _=>exact ⟨_,rfl,rfl⟩
 | _=>simp [Yx] at h
section
variable {X:Cx} {T:Tg} {m o m0 m1 m2 m3 o1 o2:Bool} {e a b:Expr} {w wa wb:WE} {pos p2 p:Pos} {es:List Expr} {wr:WA} {x:Str} {k:Nat} {f:Addr} {fd:FuncData} {ps:List Str}
theorem Qog {g:GA} (F:FnOk X.prog X.w X.K X.mg X.base CX0 k f fd ps (spR X.K g)) (hr:Room k X.A) (hm:X.mg x=some (.ref f)) (hk:PySem.W.keepIn X.K (.ref f)=true) (hb:Qcg X.K fd ps []) (ha:AV X T m o (e::es) wr) (hg:Gl X x:=by rfl)
  (hdb:(x == ("__debug__" : Str))=false:=by decide) (he:starEach (e::es) X.env=(false,eval e X.env)::starEach es X.env:=by rfl) (hpl:(backTo pos (starEach es X.env)).any (·.1)=false:=by rfl) :
  EV X T m true (.Call (.Name x p) (e::es) [] pos) (Qv g wr):=by
 obtain ⟨ta,pa,ga⟩:=ha
 refine ⟨_,Qcq F hr hg hm hk hb .nil Qnj pa hdb he hpl,λz R σ H W ρ Q Q' s hw k=>?_⟩
 refine ga z R σ H W ρ _ _ s hw λvs H1 W1 ds ρ1 F p q=>?_
 refine ⟨ds,F,_,by rw [List.append_nil];exact p.rep,q,λv H' d F' fi hk=>k v H' W1 d ρ1 F' (Post.fin p.sr p.fr p.calm fi.same fi.rep fi.nd fi.new) hk⟩
abbrev WI:=Env->(List D->List D->Env->Prop)->Prop
def AI (X:Cx) (T:Tg) (m:Bool) (i p:Nat) (es:List Expr) (w:WI):Prop :=
 ∃ta,PA X es ta/\∀(z:Nat->V) (R:Addr->Prop) (σ:St) (H:Hp) (W:Addr->Prop) (ρ:Env) (Q:List D->List D->Env->Prop) (Q':List V->Hp->Prop),SR X.K T z R H W σ ρ->w ρ Q ->
  (∀v xs ys H' W' pre post ρ',PostT X.K T z R m H W σ ρ H' W' ρ'->σ[i]? = some (some v)->Reps X.K H' pre xs []->Reps X.K H' post ys []->pre.length=p->Q pre post ρ'->Q' (xs++v::ys) H')->ta σ H Q'
def Jg (i:Nat) (wr:WA):WI:=λρ Q=>(look ρ i).isSome=true/\wr ρ λds ρ'=>Qj ds=true/\Q [] ds ρ'
theorem Jl {i:Nat} (hr:AV X T m o es wr) (hN:X.N[i]? = some x:=by rfl) (hv:Vis X.env.scope x:=by first | exact Or.inl rfl | exact Or.inr (Or.inl rfl) | exact Or.inr (Or.inr rfl)) (hd:(x == ("__debug__" : Str))=false:=by decide)
  (hcd:(x == ("__classdict__" : Str))=false:=by decide) (hs:starEach (.Name x p::es) X.env=(false,eval (.Name x p) X.env)::starEach es X.env:=by rfl):AI X T m i 0 (.Name x p::es) (Jg i wr):=by
 obtain ⟨ta,pa,ga⟩:=hr
 refine ⟨_,Ve (Vy hN hv hd hcd) pa hs,λz R σ H W ρ Q Q' s hw k=>?_⟩
 obtain ⟨h1,hw⟩:=hw
 obtain ⟨d,hl⟩:=Option.isSome_iff_exists.mp h1
 obtain ⟨fp,s0⟩:=id s
 obtain ⟨v,hv',_⟩:=s0.at_ i d hl
 refine ⟨v,hv',ga z R σ H W ρ _ _ s hw λvs H1 W1 ds ρ1 F p q=>?_⟩
 exact k v [] vs H1 W1 [] ds ρ1 ⟨p.sr,p.fr,p.calm⟩ hv' .nil (p.rep.pure q.1).2 rfl q.2
def Qsa (w:WE) (wi:WI):WI:=λρ Q=>w ρ λd ρ1=>d.pure=true/\wi ρ1 λpre post ρ2=>Q (d::pre) post ρ2
theorem Qt0 {i q:Nat} {wi:WI} (he:EV X T m1 o e w) (hr:AI X T m2 i q es wi) (hs:starEach (e::es) X.env=(false,eval e X.env)::starEach es X.env:=by rfl):AI X T (m1 || m2) i (q+1) (e::es) (Qsa w wi):=by
 obtain ⟨te,pe,ge⟩:=he
 obtain ⟨ta,pa,ga⟩:=hr
 refine ⟨_,Ve pe pa hs,λz R σ H W ρ Q Q' s hw k=>?_⟩
 refine ge z R σ H W ρ _ _ s hw λv1 H1 W1 d1 ρ1 F1 p ⟨hp,q1⟩=>?_
 obtain ⟨_,r1⟩:=p.rep.pure hp
 refine ga z R σ H1 W1 ρ1 _ _ p.sr q1 λv xs ys H2 W2 pre post ρ2 q hv rp rq hl q2=>?_
 exact k v (v1::xs) ys H2 W2 (d1::pre) post ρ2 (PostT.seq ⟨p.sr,p.fr,p.calm⟩ q) hv (.cons (F:=[]) (G:=[]) (r1.keep q.fr λa m=>nomatch m) rp) rq (by rw [List.length_cons,hl]) q2
def Qw (i:Nat) (g:GI) (wi:WI):WE:=λρ Q=>wi ρ λpre post ρ1=>oget (look ρ1 i) λd0=>Yx d0=true/\g (pre++d0::post) λd d'=>Q d (ρ1.set i (some d'))
theorem Qju {i q:Nat} {g:GI} {wi:WI} (F:FnOk X.prog X.w X.K X.mg X.base CX0 k f fd ps (spI X.K q g)) (hr:Room k X.A) (hm:X.mg x=some (.ref f)) (hk:PySem.W.keepIn X.K (.ref f)=true) (hb:Qcg X.K fd ps []) (ha:AI X T m i q (e::es) wi)
  (ht:T.own i=true:=by rfl) (hg:Gl X x:=by rfl)
  (hdb:(x == ("__debug__" : Str))=false:=by decide) (he:starEach (e::es) X.env=(false,eval e X.env)::starEach es X.env:=by rfl) (hpl:(backTo pos (starEach es X.env)).any (·.1)=false:=by rfl) :
  EV X T true true (.Call (.Name x p) (e::es) [] pos) (Qw i g wi):=by
 obtain ⟨ta,pa,ga⟩:=ha
 refine ⟨_,Qcq F hr hg hm hk hb .nil Qnj pa hdb he hpl,λz R σ H W ρ Q Q' s hw k=>?_⟩
 refine ga z R σ H W ρ _ _ s hw λv xs ys H1 W1 pre post ρ1 p hv rp rq hl q=>?_
 obtain ⟨d0,hd,hf,q⟩:=Qk q
 obtain ⟨fp,s1⟩:=id p.sr
 obtain ⟨v',hv',r0⟩:=s1.at_ i d0 hd
 have:v'=v:=by rw [hv] at hv';cases hv';rfl
 subst this
 obtain ⟨a,rfl,hF⟩:=r0.flat1 hf
 rw [hF] at r0
 have sw:=(s1.own i d0 hd ht).2
 have hWa:W1 a:=sw a (by rw [hF];exact List.mem_singleton.mpr rfl)
 refine ⟨pre++d0::post,a,_,?_,?_,q,λv H' d d' F' rd' rd nd new kp hk=>?_⟩
 ·rw [List.append_nil]
  have:=rp.append (.cons r0 rq)
  simpa using this
 ·rw [List.append_nil]
  have hx:=rp.length
  rw [List.getElem?_append_right (by omega),show _-xs.length=0 by omega]
  rfl
 ·obtain ⟨oa,ea,ia⟩:=s1.wd a hWa
  have hnew:∃ob,H' a=some ob/\imm ob=false:=rd'.dom a (List.mem_singleton.mpr rfl)
  have nd1:([a]:List Addr).Nodup:=by simp
  have sN:=s1.write (H':=H') (d':=d') (F':=[a]) hd ht hv' (by rw [hF];exact List.mem_singleton.mpr rfl) (λb u e n=>kp b u e n) hnew rd' nd1 (λb hb=>.inl (by rw [hF];exact hb))
  have fN:=p.fr.write (H':=H') (F':=[a]) hWa ⟨oa,ea,ia⟩ (λb u e n=>kp b u e n) hnew (λb hb=>.inl (by rw [List.mem_singleton.mp hb];exact hWa))
  refine k v H' _ d _ F' ⟨sN,fN,(λh=>nomatch h),rd,λ_=>⟨nd,λb hb=>⟨p.fr.dom b (new b hb),λhw=>?_⟩⟩⟩ hk
  rcases hw with hw | hw
  ·exact p.sr.nw (new b hb) hw
  ·rw [List.mem_singleton.mp hw] at hb
   rw [new a hb] at ea;cases ea
abbrev WL:=Env->(List D->Env->Prop)->Prop
def JD (K:PySem.W.Frag) (J:It) (H:Hp) (W:Addr->Prop) (ds:List D):Prop :=
 ∀(i:Nat) (H1:Hp) (W1:Addr->Prop),FrW H W H1 W1->(ds.length<=i->J.stop i H1)/\∀d,ds[i]? = some d->J.go i H1/\∀v H2,J.yld i H1 v H2->Same H1 H2/\∃F,Rep K H2 d v F/\∀a∈F,¬W1 a
def wz (pr:Bool) (W:Addr->Prop):Addr->Prop:=λa=>pr=true/\W a
def IV (X:Cx) (T:Tg) (m pr:Bool) (tg iter:Expr) (w:WL):Prop :=
 ∃wi,PI X tg iter wi/\∀(z:Nat->V) (R:Addr->Prop) (σ:St) (H:Hp) (W:Addr->Prop) (ρ:Env) (Q:List D->Env->Prop) (RR:It->Hp->Prop),SR X.K T z R H W σ ρ->w ρ Q ->
  (∀J H' W' ds ρ',PostT X.K T z R m H W σ ρ H' W' ρ'->JD X.K J H' (wz pr W') ds->Q ds ρ'->RR J H')->wi σ H RR
variable {tg iter:Expr}
theorem Qqa {l:Expr} {tl:TE} (hl:PE X l tl):PI X tg l (λσ H R=>tl σ H λx H1=>∃a,x=.ref a/\(((∃xs,SqL X.K H1 a xs)/\R (Itl X.K a) H1)\/((∃xs,SqT X.K H1 a xs)/\R (Itt X.K a) H1))):=by
 intro pins s σ H R I h
 refine thn (hl pins s σ H _ I h) λv s1 ⟨x,H1,I1,r1,q1⟩=>?_
 obtain ⟨a,e,q⟩:=q1
 subst e
 cases r1
 rcases q with ⟨⟨xs,hq⟩,q⟩ | ⟨⟨xs,hq⟩,q⟩
 ·obtain ⟨its,rv,p,hz⟩:=I1.list hq
  refine wpAny_pyIter_list p.isList ?_
  refine ⟨s1.heap.objs.size,[s1.heap.objs.size],_,_,H1,rfl,I1.kept (t':=s1.toks) λb o e=>Heap.get?_push_of_some _ e,Qfl a _,⟨_,Heap.get?_push_size _ rfl,rfl,rfl⟩,λb hb=>?_,q⟩
  have e:b=s1.heap.objs.size:=by simpa using hb
  subst e
  exact I1.fpOk (Nat.le_refl _) (I1.hok.fresh (Nat.le_refl _))
 ·obtain ⟨its,rv,p,hz⟩:=I1.tuple hq
  refine wpAny_pyIter_tuple (show s1.heap.IsTuple a its.toArray from p) ?_
  refine ⟨s1.heap.objs.size,[s1.heap.objs.size],_,_,H1,rfl,I1.kept (t':=s1.toks) λb o e=>Heap.get?_push_of_some _ e,Qes a _,⟨_,Heap.get?_push_size _ rfl,rfl,rfl⟩,λb hb=>?_,q⟩
  have e:b=s1.heap.objs.size:=by simpa using hb
  subst e
  exact I1.fpOk (Nat.le_refl _) (I1.hok.fresh (Nat.le_refl _))
def Ua (w:WE):WL:=λρ Q=>w ρ λd ρ'=>match d with
 | .tup ds=>Qj ds=true/\Q ds ρ'
 | .lst ds=>Q ds ρ'
 | .kc (.tup ks)=>Q (ks.map kcD) ρ'
 | _=>False
theorem Qti {K:PySem.W.Frag} {H:Hp} {W:Addr->Prop} {a:Addr} {xs:List V} {ks:List KC} (hs:∀H,SqT K H a xs) (ar:AreKC K ks xs):JD K (Itt K a) H W (ks.map kcD):=by
 intro i H2 W2 f
 have r:Reps K H2 (ks.map kcD) xs []:=ar.reps
 refine ⟨λhi=>⟨xs,hs H2,by rw [r.length];exact hi⟩,λd hd=>?_⟩
 obtain ⟨x,B,hx,rx,sx⟩:=r.get hd
 refine ⟨⟨xs,x,hs H2,hx⟩,λv H3 y=>?_⟩
 obtain ⟨rfl,y⟩:=y
 have:=y xs (hs _)
 rw [hx] at this
 cases this
 exact ⟨Same.refl _,B,rx,λa ha=>nomatch sx.subset ha⟩
theorem Gq (h:EV X T m o e w):IV X T m o tg e (Ua w):=by
 obtain ⟨te,pe,ge⟩:=h
 refine ⟨_,Qqa pe,λz R σ H W ρ Q RR s hw k=>?_⟩
 refine ge z R σ H W ρ _ _ s hw λv H1 W1 d ρ1 F p q=>?_
 cases d with
 | tup ds =>
  obtain ⟨hp,q⟩:=q
  obtain ⟨hF,rp⟩:=p.rep.pure (by simpa [D.pure] using hp)
  cases rp with
  | @tup a xs _ _ e1 r =>
   refine ⟨a,rfl,.inr ⟨⟨xs,.of e1⟩,k _ H1 W1 ds ρ1 ⟨p.sr,p.fr,p.calm⟩ (λi H2 W2 f=>?_) q⟩⟩
   have e2:H2 a=some (.tup xs):=f.imm _ _ e1 rfl
   refine ⟨λhi=>⟨xs,.of e2,by rw [r.length];exact hi⟩,λd hd=>?_⟩
   obtain ⟨x,B,hx,rx,sx⟩:=r.get hd
   refine ⟨⟨xs,x,.of e2,hx⟩,λv H3 y=>?_⟩
   obtain ⟨rfl,y⟩:=y
   have:=y xs (.of e2)
   rw [hx] at this
   cases this
   exact ⟨Same.refl _,B,rx.keep f (λa ha=>(nomatch sx.subset ha)),(λa ha=>(nomatch sx.subset ha))⟩
 | lst ds =>
  obtain ⟨p1,p2,p3,p4,p5⟩:=p
  cases p4 with
  | @lst a xs _ F e1 r =>
   refine ⟨a,rfl,.inl ⟨⟨xs,.of e1⟩,k _ H1 W1 ds ρ1 ⟨p1,p2,p3⟩ (λi H2 W2 f=>?_) q⟩⟩
   have nW:∀b∈a::F,¬wz o W1 b:=λb hb hw=>by
    obtain ⟨h1,h2⟩:=hw
    exact ((p5 h1).2 b hb).2 h2
   have e2:H2 a=some (.lst xs):=f.keep _ _ e1 (nW a List.mem_cons_self)
   refine ⟨λhi=>⟨xs,.of e2,by rw [r.length];exact hi⟩,λd hd=>?_⟩
   obtain ⟨x,B,hx,rx,sx⟩:=r.get hd
   refine ⟨⟨xs,x,.of e2,hx⟩,λv H3 y=>?_⟩
   obtain ⟨rfl,y⟩:=y
   have:=y xs (.of e2)
   rw [hx] at this
   cases this
   refine ⟨Same.refl _,B,rx.keep f λb hb=>nW b (List.mem_cons_of_mem _ (sx.subset hb)),λb hb hw=>?_⟩
   have hb':b∈a::F:=List.mem_cons_of_mem _ (sx.subset hb)
   rcases f.new b hw with h | h
   ·exact nW b hb' h
   ·obtain ⟨ob,e3,_⟩:=rx.dom b hb
    rw [h] at e3;cases e3
 | kc c =>
  cases c with
  | tup ks =>
   obtain ⟨-,rp⟩:=p.rep.pure (by rw [D.pure])
   cases rp with
   | kc h =>
    obtain ⟨a,xs,rfl,hs,ar⟩:=h.sqT
    exact ⟨a,rfl,.inr ⟨⟨xs,hs H1⟩,k _ H1 W1 (ks.map kcD) ρ1 ⟨p.sr,p.fr,p.calm⟩ (Qti hs ar) q⟩⟩
  | _=>exact (show False from q).elim
 | _=>exact q.elim
def rngD (lo:Int) (n:Nat):List D:=(List.range n).map λ(i:Nat)=>.int (lo+(i:Int))
theorem Qjk {K:PySem.W.Frag} {H:Hp} {W:Addr->Prop} {lo:Int} {n:Nat}:JD K (Itr lo n) H W (rngD lo n):=by
 intro i H1 W1 f
 have hl:(rngD lo n).length=n:=by simp [rngD]
 refine ⟨λh=>by rw [hl] at h;exact h,λd hd=>?_⟩
 have hi:i<n:=by have:=(List.getElem?_eq_some_iff.mp hd).1;rwa [hl] at this
 have hd':d=.int (lo+(i:Int)):=by
  simp only [rngD,List.getElem?_map,List.getElem?_range hi,Option.map_some,Option.some.injEq] at hd
  exact hd.symm
 refine ⟨hi,λv H2 y=>?_⟩
 obtain ⟨rfl,rfl⟩:=y
 exact ⟨Same.refl _,[],by rw [hd'];exact .int _,λa m=>nomatch m⟩
def G8 (wr:WA):WL:=λρ Q=>wr ρ λds ρ'=>match ds with
 | [.int j]=>-(2 ^ 62)<=j/\j<2 ^ 62/\Q (rngD 0 j.toNat) ρ'
 | _=>False
theorem Yj (hm:X.mg "range" = none) (ha:AV X T m o [a] wr) (hg:Gl X "range":=by rfl) (hs:starEach [a] X.env=[(false,eval a X.env)]:=by rfl):IV X T m true tg (.Call (.Name "range" p) [a] [] pos) (G8 wr):=by
 obtain ⟨ta,pa,ga⟩:=ha
 refine ⟨_,Qgb hg hm pa hs,λz R σ H W ρ Q RR s hw k=>?_⟩
 refine ga z R σ H W ρ _ _ s hw λvs H1 W1 ds ρ1 F p q=>?_
 obtain ⟨j,rfl⟩:∃j,ds=[D.int j]:=by
  clear p
  cases ds with
  | nil=>exact (show False from q).elim
  | cons d0 r0 =>
   cases r0 with
   | nil =>
    cases d0 with
    | int j=>exact ⟨j,rfl⟩
    | _=>exact (show False from q).elim
   | cons _ _=>cases d0 <;> exact (show False from q).elim
 obtain ⟨v,rfl,rd⟩:=p.rep.at1
 cases rd
 exact ⟨j,rfl,q.1,q.2.1,k _ H1 W1 _ ρ1 ⟨p.sr,p.fr,p.calm⟩ Qjk q.2.2⟩
def V6:Nat->List D->List D
 | _,[]=>[]
 | n,d::r=>.tup [.int (n:Int),d]::V6 (n+1) r
theorem Gu:∀{ds:List D} {n i:Nat},(V6 n ds)[i]? = ds[i]?.map λd=>.tup [.int ((n+i:Nat):Int),d]
 | [],_,_=>by simp [V6]
 | d::r,n,0=>by simp [V6]
 | d::r,n,i+1=>by
  simp only [V6,List.getElem?_cons_succ]
  rw [Gu (ds:=r) (n:=n+1) (i:=i),show n+1+i=n+(i+1) by omega]
theorem Zw:∀{ds:List D} {n:Nat},(V6 n ds).length=ds.length
 | [],_=>rfl
 | d::r,n=>by simp [V6,Zw]
def Ql4 (wr:WA):WL:=λρ Q=>wr ρ λds ρ'=>match ds with
 | [.tup es]=>Qj es=true/\Q (V6 0 es) ρ'
 | _=>False
theorem Qn5 {ts:List Expr} {kt:Nat} {pt:Pos} (hm:X.mg "enumerate" = none) (ha:AV X T m o [a] wr) (hg:Gl X "enumerate":=by rfl) (hs:starEach [a] X.env=[(false,eval a X.env)]:=by rfl):IV X T m true (.Tuple ts kt pt) (.Call (.Name "enumerate" p) [a] [] pos) (Ql4 wr):=by
 obtain ⟨ta,pa,ga⟩:=ha
 refine ⟨_,Qne hg hm pa hs,λz R σ H W ρ Q RR s hw k=>?_⟩
 refine ga z R σ H W ρ _ _ s hw λvs H1 W1 ds ρ1 F p q=>?_
 obtain ⟨es,rfl⟩:∃es,ds=[D.tup es]:=by
  clear p
  cases ds with
  | nil=>exact (show False from q).elim
  | cons d0 r0 =>
   cases r0 with
   | nil =>
    cases d0 with
    | tup es=>exact ⟨es,rfl⟩
    | _=>exact (show False from q).elim
   | cons _ _=>cases d0 <;> exact (show False from q).elim
 obtain ⟨hp,q⟩:=q
 obtain ⟨v,rfl,rd⟩:=p.rep.at1
 obtain ⟨hF,rd⟩:=rd.pure (by simpa [D.pure] using hp)
 cases rd with
 | @tup a xs _ _ e1 r =>
  refine ⟨a,rfl,⟨xs,.of e1⟩,k _ H1 W1 _ ρ1 ⟨p.sr,p.fr,p.calm⟩ (λi H2 W2 f=>?_) q⟩
  have e2:H2 a=some (.tup xs):=f.imm _ _ e1 rfl
  refine ⟨λhi=>⟨xs,.of e2,by rw [r.length];rwa [Zw] at hi⟩,λd hd=>?_⟩
  rw [Gu] at hd
  cases hd':es[i]? with
  | none=>rw [hd'] at hd;cases hd
  | some d' =>
   rw [hd'] at hd
   obtain ⟨x,B,hx,rx,sx⟩:=r.get hd'
   refine ⟨⟨xs,x,.of e2,hx⟩,λv H3 y=>?_⟩
   obtain ⟨x',t,h1,rfl,h3,rfl⟩:=y xs (.of e2)
   rw [hx] at h1
   cases h1
   have hB:B=[]:=List.sublist_nil.mp sx
   subst hB
   refine ⟨Qh h3,[],?_,λa m=>nomatch m⟩
   cases hd
   rw [Nat.zero_add]
   exact .tup Qi (.cons (F:=[]) (G:=[]) (.int _) (Reps.one ((rx.keep f λa m=>nomatch m).same (Qh h3))))
end
end PV
namespace PV
open PySem PySem.Spec L2
structure EndsP where
 nx:Env->Prop
 rt:D->Env->Prop
 bk:Env->Prop:=λ_=>False
 ct:Env->Prop:=λ_=>False
 xc:D->Env->Prop:=λ_ _=>False
abbrev WS:=EndsP->Env->Prop
structure Lk (K:PySem.W.Frag) (T:Tg) (z:Nat->V) (H:Hp) (W:Addr->Prop) (P:EndsP) (E:Ends):Prop where
 nx:∀R σ' H' W' ρ',SR K T z R H' W' σ' ρ'->FrW H W H' W'->P.nx ρ'->E.nx σ' H'
 bk:∀R σ' H' W' ρ',SR K T z R H' W' σ' ρ'->FrW H W H' W'->P.bk ρ'->E.bk σ' H'
 ct:∀R σ' H' W' ρ',SR K T z R H' W' σ' ρ'->FrW H W H' W'->P.ct ρ'->E.ct σ' H'
 rt:∀R v σ' H' W' ρ' d F,SR K T z R H' W' σ' ρ'->FrW H W H' W'->Rep K H' d v F->F.Nodup->(∀a∈F,¬W' a/\(W a\/H a=none))->P.rt d ρ'->E.rt v H'
 xc:∀R σ' H' W' ρ' d,SR K T z R H' W' σ' ρ'->FrW H W H' W'->P.xc d ρ'->T.xe d σ' H'
theorem Lk.step {K:PySem.W.Frag} {T:Tg} {z:Nat->V} {H H1:Hp} {W W1:Addr->Prop} {P:EndsP} {E:Ends} (l:Lk K T z H W P E) (f:FrW H W H1 W1):Lk K T z H1 W1 P E where
 nx:=λR σ' H' W' ρ' s g q=>l.nx R σ' H' W' ρ' s (f.trans g) q
 bk:=λR σ' H' W' ρ' s g q=>l.bk R σ' H' W' ρ' s (f.trans g) q
 ct:=λR σ' H' W' ρ' s g q=>l.ct R σ' H' W' ρ' s (f.trans g) q
 rt:=λR v σ' H' W' ρ' d F s g r nd k q=>l.rt R v σ' H' W' ρ' d F s (f.trans g) r nd (λa ha=>⟨(k a ha).1,by
  rcases (k a ha).2 with h | h
  ·exact f.new a h
  ·exact .inr (f.dom a h)⟩) q
 xc:=λR σ' H' W' ρ' d s g q=>l.xc R σ' H' W' ρ' d s (f.trans g) q
def SV (X:Cx) (T:Tg) (st:Stmt) (w:WS):Prop :=
 ∃ts,PS X st ts/\∀(z:Nat->V) (R:Addr->Prop) (σ:St) (H:Hp) (W:Addr->Prop) (ρ:Env) (P:EndsP) (E:Ends),SR X.K T z R H W σ ρ->w P ρ->Lk X.K T z H W P E->ts E σ H
def SVs (X:Cx) (T:Tg) (st:List Stmt) (w:WS):Prop :=
 ∃ts,PSs X st ts/\∀(z:Nat->V) (R:Addr->Prop) (σ:St) (H:Hp) (W:Addr->Prop) (ρ:Env) (P:EndsP) (E:Ends),SR X.K T z R H W σ ρ->w P ρ->Lk X.K T z H W P E->ts E σ H
section
variable {X:Cx} {T:Tg} {m o m0 m1 m2 m3 o1 o2:Bool} {e a b:Expr} {w wa wb:WE} {pos p2 p:Pos} {es:List Expr} {wr:WA} {x:Str} {st:Stmt} {rest:List Stmt} {ws wu:WS} {wt:WT}
def Yd:WS:=λP ρ=>P.nx ρ
def wSeq (w u:WS):WS:=λP ρ=>w { P with nx:=u P } ρ
theorem Yr:SVs X T [] Yd:=⟨_,Qm7,λz R σ H W ρ P E s hw l=>l.nx R σ H W ρ s (FrW.refl H W) hw⟩
theorem Qp (h:SV X T st ws):SVs X T [st] ws:=by
 obtain ⟨t,pt,g⟩:=h
 exact ⟨_,Qm6 pt,g⟩
theorem Qg (h:SV X T st ws) (hr:SVs X T rest wu):SVs X T (st::rest) (wSeq ws wu):=by
 obtain ⟨t,pt,g⟩:=h
 obtain ⟨u,pu,gu⟩:=hr
 refine ⟨_,Qi0 pt pu,λz R σ H W ρ P E s hw l=>g z R σ H W ρ _ _ s hw ⟨λR' σ' H' W' ρ' s' f q=>gu z R' σ' H' W' ρ' P E s' q (l.step f),l.bk,l.ct,l.rt,l.xc⟩⟩
def Xa (w:WE):WS:=λP ρ=>w ρ λ_ ρ'=>P.nx ρ'
theorem Gc (he:EV X T m o e w) (hs:swapsWith e none pos.line X.env=pure false:=by rfl):SV X T (.Expr e pos) (Xa w):=by
 obtain ⟨te,pe,ge⟩:=he
 exact ⟨_,Qm9 pe hs,λz R σ H W ρ P E s hw l=>ge z R σ H W ρ _ _ s hw λv H1 W1 d ρ1 F p q=>l.nx R σ H1 W1 ρ1 p.sr p.fr q⟩
def wRet (w:WE):WS:=λP ρ=>w ρ λd ρ'=>P.rt d ρ'
theorem J2 (he:EV X T m true e w):SV X T (.Return (some e) pos) (wRet w):=by
 obtain ⟨te,pe,ge⟩:=he
 exact ⟨_,Qk6 pe,λz R σ H W ρ P E s hw l=>ge z R σ H W ρ _ _ s hw λv H1 W1 d ρ1 F p q=>l.rt R v σ H1 W1 ρ1 d F p.sr p.fr p.rep (p.own rfl).1 (λa ha=>⟨((p.own rfl).2 a ha).2,.inr ((p.own rfl).2 a ha).1⟩) q⟩
theorem Qsm:SV X T (.Return none pos) (λP ρ=>P.rt .non ρ) :=
 ⟨_,Qm8,λz R σ H W ρ P E s hw l=>l.rt R .non σ H W ρ .non [] s (FrW.refl H W) .non List.nodup_nil (λa m=>nomatch m) hw⟩
def Ql1 (i:Nat):WS:=λP ρ=>oget (look ρ i) λd=>P.rt d (ρ.set i none)
theorem Qmg {i:Nat} (ht:T.own i=true:=by rfl) (hN:X.N[i]? = some x:=by rfl) (hv:Vis X.env.scope x:=by first | exact Or.inl rfl | exact Or.inr (Or.inl rfl) | exact Or.inr (Or.inr rfl)) (hd:(x == ("__debug__" : Str))=false:=by decide)
  (hcd:(x == ("__classdict__" : Str))=false:=by decide):SV X T (.Return (some (.Name x p)) pos) (Ql1 i):=by
 refine ⟨_,Qk6 (Vy hN hv hd hcd),λz R σ H W ρ P E s hw l=>?_⟩
 obtain ⟨d,hl,q⟩:=Qk hw
 obtain ⟨fp,s0⟩:=s
 obtain ⟨v,h1,h2⟩:=s0.at_ i d hl
 have key:∀j e,look (ρ.set i none) j=some e->j≠i/\look ρ j=some e:=λj e h=>by
  rw [V2] at h
  split at h
  ·cases h
  ·refine ⟨λz=>?_,h⟩
   subst z
   rename_i hn
   exact hn ⟨rfl,Gm hl⟩
 refine ⟨v,h1,l.rt R v σ H (λa=>W a/\a∉fp i) (ρ.set i none) d (fp i) ⟨fp,?_⟩ ?_ h2 (s0.own i d hl ht).1 (λa ha=>⟨λh=>h.2 ha,.inl ((s0.own i d hl ht).2 a ha)⟩) q⟩
 ·refine ⟨by rw [List.length_set];exact s0.len,λa h=>s0.wd a h.1,λj e h=>s0.at_ j e (key j e h).2,λj e h t=>⟨(s0.own j e (key j e h).2 t).1,λa ha=>⟨(s0.own j e (key j e h).2 t).2 a ha,λha'=>s0.dis j i e d (key j e h).2 hl t ht (key j e h).1 a ha ha'⟩⟩,
   λj e h t=>s0.ro j e (key j e h).2 t,λa h=>s0.wr a h.1,s0.rd,λj k e e' h h' t t'=>s0.dis j k e e' (key j e h).2 (key k e' h').2 t t',s0.fix⟩
 ·exact ⟨λb ob e _=>e,λb e=>e,λb ob e _=>e,λb h=>.inl h.1⟩
theorem SR0.bindE {K:PySem.W.Frag} {z:Nat->V} {R:Addr->Prop} {H:Hp} {W:Addr->Prop} {σ:St} {ρ:Env} {fp:Nat->List Addr} {i:Nat} {d:D} {v:V} {F:List Addr} (s:SR0 K T z R H W σ ρ fp) (hio:i∉T.io) (r:Rep K H d v F) (nd:F.Nodup) (nw:∀a∈F,¬W a/\¬R a) :
  SR K T z (λa=>R a\/(T.own i=false/\a∈F)) H (λa=>W a\/(T.own i=true/\a∈F)) (σ.set i (some v)) (ρ.set i (some d)):=by
 refine ⟨λj=>if j=i then F else fp j,?_,?_,?_,?_,?_,?_,?_,?_,?_⟩
 ·rw [List.length_set,List.length_set];exact s.len
 ·intro a ha
  rcases ha with ha | ⟨_,ha⟩
  ·exact s.wd a ha
  ·exact r.dom a ha
 ·intro j e hj
  rw [V2] at hj
  split at hj
  ·rename_i h
   obtain ⟨rfl,hlt⟩:=h
   cases hj
   exact ⟨v,by rw [List.getElem?_set_self (by rw [← s.len];exact hlt)],by rw [if_pos rfl];exact r⟩
  ·rename_i h
   obtain ⟨u,h1,h2⟩:=s.at_ j e hj
   have hji:j≠i:=λz=>h ⟨z,by rw [← z];exact Gm hj⟩
   exact ⟨u,by rw [List.getElem?_set_ne (Ne.symm hji)];exact h1,by rw [if_neg hji];exact h2⟩
 ·intro j e hj hto
  by_cases hji:j=i
  ·subst hji;simp only [if_pos];exact ⟨nd,λa h=>.inr ⟨hto,h⟩⟩
  ·rw [Qr hji] at hj
   simp only [if_neg hji]
   exact ⟨(s.own j e hj hto).1,λa h=>.inl ((s.own j e hj hto).2 a h)⟩
 ·intro j e hj hto
  by_cases hji:j=i
  ·subst hji;simp only [if_pos];exact λa h=>.inr ⟨hto,h⟩
  ·rw [Qr hji] at hj
   simp only [if_neg hji]
   exact λa h=>.inl (s.ro j e hj hto a h)
 ·intro a ha hr
  rcases ha with ha | ⟨t,ha⟩
  ·rcases hr with hr | ⟨_,hr⟩
   ·exact s.wr a ha hr
   ·exact (nw a hr).1 ha
  ·rcases hr with hr | ⟨t',hr⟩
   ·exact (nw a ha).2 hr
   ·rw [t] at t';cases t'
 ·intro a hr
  rcases hr with hr | ⟨_,hr⟩
  ·exact s.rd a hr
  ·exact r.dom a hr
 ·intro j k e e' hj hk tj tk hne a ha ha'
  by_cases hji:j=i
  ·subst hji
   have hkj:k≠j:=λz=>hne z.symm
   rw [Qr hkj] at hk
   simp only [if_pos,if_neg hkj] at ha ha'
   exact (nw a ha).1 ((s.own k e' hk tk).2 a ha')
  ·rw [Qr hji] at hj
   simp only [if_neg hji] at ha
   by_cases hki:k=i
   ·subst hki
    simp only [if_pos] at ha'
    exact (nw a ha').1 ((s.own j e hj tj).2 a ha)
   ·rw [Qr hki] at hk
    simp only [if_neg hki] at ha'
    exact s.dis j k e e' hj hk tj tk hne a ha ha'
 ·intro j hj
  have hji:j≠i:=λz=>hio (z ▸ hj)
  rw [List.getElem?_set_ne (Ne.symm hji)]
  exact s.fix j hj
theorem SR0.bind {K:PySem.W.Frag} {z:Nat->V} {R:Addr->Prop} {H:Hp} {W:Addr->Prop} {σ:St} {ρ:Env} {fp:Nat->List Addr} {i:Nat} {d:D} {v:V} {F:List Addr} (s:SR0 K T z R H W σ ρ fp) (hio:i∉T.io) (r:Rep K H d v F) (nd:F.Nodup) (nw:∀a∈F,¬W a/\¬R a) :
  ∃R',SR K T z R' H (λa=>W a\/(T.own i=true/\a∈F)) (σ.set i (some v)) (ρ.set i (some d)):=⟨_,s.bindE hio r nd nw⟩
def wSet (i:Nat) (w:WE):WS:=λP ρ=>w ρ λd ρ'=>P.nx (ρ'.set i (some d))
theorem Qam {H H':Hp} {W W':Addr->Prop} {G:Addr->Prop} (f:FrW H W H' W') (n:∀a,G a->H a=none):FrW H W H' (λa=>W' a\/G a) :=
 ⟨f.keep,f.dom,f.imm,λb h=>h.elim (f.new b) λh=>.inr (n b h)⟩
theorem Q7 {i:Nat} {pos':Pos} (he:EV X T m true e w) (hN:X.N.Nodup) (hi:X.N[i]? = some x:=by rfl) (hio:i∉T.io:=by decide) (hx:Loc X.env.scope x:=by first | exact Or.inl rfl | exact Or.inr rfl) (hs:swapsWith e (some (.Name x pos')) pos.line X.env=pure false:=by rfl)
  (hf:X.fn x=true\/X.env.scope.names.lookup x=some .local:=by first | exact .inl rfl | exact .inr rfl | assumption):SV X T (.Assign [.Name x pos'] e pos) (wSet i w):=by
 obtain ⟨te,pe,ge⟩:=he
 refine ⟨_,Qp8 hN hi hx pe hs hf,λz R σ H W ρ P E s hw l=>ge z R σ H W ρ _ _ s hw λv H1 W1 d ρ1 F p q=>?_⟩
 obtain ⟨fp,s1⟩:=p.sr
 obtain ⟨nd,nw⟩:=p.own rfl
 obtain ⟨R',s2⟩:=s1.bind (i:=i) hio p.rep nd (λa ha=>⟨(nw a ha).2,s.nr (nw a ha).1⟩)
 exact l.nx R' _ H1 _ _ s2 (Qam p.fr λa h=>(nw a h.2).1) q
theorem Qmf {i:Nat} {pos':Pos} (he:∃te,PS X (.Assign [.Name x pos'] e pos) (tAsg te (Qc0 i))/\∀(z:Nat->V) (R:Addr->Prop) (σ:St) (H:Hp) (W:Addr->Prop) (ρ:Env) (Q:D->Env->Prop) (Q':VK),SR X.K T z R H W σ ρ->w ρ Q ->
  (∀v H' W' d ρ' F,Post X.K T z R m true H W σ ρ H' W' ρ' d v F->Q d ρ'->Q' v H')->te σ H Q') (hio:i∉T.io:=by decide):SV X T (.Assign [.Name x pos'] e pos) (wSet i w):=by
 obtain ⟨te,pe,ge⟩:=he
 refine ⟨_,pe,λz R σ H W ρ P E s hw l=>ge z R σ H W ρ _ _ s hw λv H1 W1 d ρ1 F p q=>?_⟩
 obtain ⟨fp,s1⟩:=p.sr
 obtain ⟨nd,nw⟩:=p.own rfl
 obtain ⟨R',s2⟩:=s1.bind (i:=i) hio p.rep nd (λa ha=>⟨(nw a ha).2,s.nr (nw a ha).1⟩)
 exact l.nx R' _ H1 _ _ s2 (Qam p.fr λa h=>(nw a h.2).1) q
abbrev WG:=D->Env->(Env->Prop)->Prop
def GV (X:Cx) (T:Tg) (tg:Expr) (wg:WG):Prop :=
 ∃t,PG X tg t/\∀(z:Nat->V) (R:Addr->Prop) (σ:St) (H:Hp) (W:Addr->Prop) (ρ:Env) (d:D) (v:V) (Q:Env->Prop) (Q':St->Hp->Prop),SR X.K T z R H W σ ρ->Rep X.K H d v []->d.pure=true->wg d ρ Q ->
  (∀R' W' σ' ρ',SR X.K T z R' H W' σ' ρ'->FrW H W H W'->Q ρ'->Q' σ' H)->t v σ H Q'
def GVs (X:Cx) (T:Tg) (tgs:List Expr) (wg:List D->Env->(Env->Prop)->Prop):Prop :=
 ∃t,PGs X tgs t/\∀(z:Nat->V) (R:Addr->Prop) (σ:St) (H:Hp) (W:Addr->Prop) (ρ:Env) (ds:List D) (vs:List V) (Q:Env->Prop) (Q':St->Hp->Prop),SR X.K T z R H W σ ρ->Reps X.K H ds vs []->Qj ds=true->wg ds ρ Q ->
  (∀R' W' σ' ρ',SR X.K T z R' H W' σ' ρ'->FrW H W H W'->Q ρ'->Q' σ' H)->t vs σ H Q'
def gN (i:Nat):WG:=λd ρ Q=>Q (ρ.set i (some d))
theorem J6 {i:Nat} (hN:X.N.Nodup) (hi:X.N[i]? = some x:=by rfl) (hio:i∉T.io:=by decide) (hx:Loc X.env.scope x:=by first | exact Or.inl rfl | exact Or.inr rfl) (hf:X.fn x=true\/X.env.scope.names.lookup x=some .local:=by first | exact .inl rfl | exact .inr rfl | assumption):GV X T (.Name x pos) (gN i):=by
 refine ⟨_,Qcp hN hi hx hf,λz R σ H W ρ d v Q Q' s r hp hw k=>?_⟩
 obtain ⟨fp,s1⟩:=s
 obtain ⟨R',s2⟩:=s1.bind (i:=i) hio r List.nodup_nil (λa ha=>nomatch ha)
 exact k R' _ _ _ s2 (Qam (FrW.refl H W) λa h=>nomatch h.2) hw
def Qjq:List D->Env->(Env->Prop)->Prop
 | [],ρ,Q=>Q ρ
 | _,_,_=>False
def Xv (wg:WG) (wgs:List D->Env->(Env->Prop)->Prop):List D->Env->(Env->Prop)->Prop
 | d::r,ρ,Q=>wg d ρ λρ'=>wgs r ρ' Q
 | _,_,_=>False
theorem Reps.inv {K:PySem.W.Frag} {H:Hp} {d:D} {ds:List D} {vs:List V} {F:List Addr} (r:Reps K H (d::ds) vs F):∃v us F1 F2,vs=v::us/\Rep K H d v F1/\Reps K H ds us F2:=by
 cases r with
 | cons h r=>exact ⟨_,_,_,_,rfl,h,r⟩
theorem Qhc:GVs X T [] Qjq:=by
 refine ⟨_,Qgd,λz R σ H W ρ ds vs Q Q' s r hp hw k=>?_⟩
 cases ds with
 | nil=>cases r;exact ⟨rfl,k R W σ ρ s (FrW.refl H W) hw⟩
 | cons=>exact hw.elim
theorem U1 {wg:WG} {wgs:List D->Env->(Env->Prop)->Prop} (h:GV X T e wg) (hr:GVs X T es wgs) (hs:(assignEach (e::es) X.env).map (·.2)=assign e X.env::(assignEach es X.env).map (·.2):=by rfl):GVs X T (e::es) (Xv wg wgs):=by
 obtain ⟨t,pt,g⟩:=h
 obtain ⟨u,pu,gu⟩:=hr
 refine ⟨_,Qac pt pu hs,λz R σ H W ρ ds vs Q Q' s r hp hw k=>?_⟩
 cases ds with
 | nil=>exact hw.elim
 | cons d ds =>
  obtain ⟨v,vs,F,G,rfl,r1,r2⟩:=r.inv
  simp only [Qj,Bool.and_eq_true] at hp
  obtain ⟨e1,r1⟩:=r1.pure hp.1
  obtain ⟨e2,r2⟩:=r2.pure hp.2
  refine ⟨v,vs,rfl,g z R σ H W ρ d v _ _ s r1 hp.1 hw λR' W' σ' ρ' s' f q=>?_⟩
  exact gu z R' σ' H W' ρ' ds vs Q Q' s' r2 hp.2 q λR2 W2 σ2 ρ2 s2 f2 q2=>k R2 W2 σ2 ρ2 s2 (f.trans f2) q2
def Qjp (n:Nat) (wgs:List D->Env->(Env->Prop)->Prop):WG:=λd ρ Q=>match d with
 | .tup ds=>ds.length=n/\wgs ds ρ Q
 | _=>False
theorem Qlj {kt:Nat} {n:Nat} {wgs:List D->Env->(Env->Prop)->Prop} (h:GVs X T es wgs) (hc:X.calm=true:=by rfl) (hn:(assignEach es X.env).length=n:=by rfl) (hst:(assignEach es X.env).findIdx? (·.1)=none:=by rfl):GV X T (.Tuple es kt pos) (Qjp n wgs):=by
 obtain ⟨t,pt,g⟩:=h
 refine ⟨_,Qla hc pt hn hst,λz R σ H W ρ d v Q Q' s r hp hw k=>?_⟩
 cases d with
 | tup ds =>
  cases r with
  | @tup a xs _ _ e1 r=>exact ⟨a,xs,rfl,.of e1,by rw [r.length];exact hw.1,g z R σ H W ρ ds xs Q Q' s r (by simpa [D.pure] using hp) hw.2 k⟩
 | _=>exact hw.elim
def dSet (s c d:D) (k:D->Prop):Prop:=match s with
 | .lst xs=>onI c λj=>oget (ixN xs.length j) λn=>k (.lst (xs.set n d))
 | .dik kvs=>onK c λkey=>kvs.length<sizeLine/\k (.dik (putD kvs key d))
 | .dit kvs=>onT c λl=>kvs.length<sizeLine/\oget (Za l) λks=>k (.dit (putD kvs ks d))
 | _=>False
theorem Qis (hu:X.A.units+1<cLine):PSet X (λo i v H Q=>∃a H',o=.ref a/\DPut H a i v H'/\Q H'):=by
 intro pins s σ H o i v ov iv u Q I ro ri rv h
 obtain ⟨a,H',rfl,g,q⟩:=h
 cases ro
 exact Qhs hu I g ri rv λs' I'=>⟨H',I',q⟩
theorem PSet.or {t u:TSet} (h:PSet X t) (h':PSet X u):PSet X (λo i v H Q=>t o i v H Q\/u o i v H Q):=by
 intro pins s σ H o i v ov iv u Q I ro ri rv q
 rcases q with q | q
 ·exact h pins s σ H o i v ov iv u Q I ro ri rv q
 ·exact h' pins s σ H o i v ov iv u Q I ro ri rv q
def Yy (i:Nat) (wv wi:WE):WS:=λP ρ=>wv ρ λd ρ1=>d.pure=true/\(look ρ1 i).isSome=true/\wi ρ1 λc ρ2=>oget (look ρ2 i) λs=>dSet s c d λs'=>P.nx (ρ2.set i (some s'))
theorem Y0 {i:Nat} {v ix:Expr} {wv wi:WE} {px ps':Pos} (hu:X.A.units+1<cLine) (hv:EV X T m1 o1 v wv) (hi:EV X T m2 o2 ix wi) (ht:T.own i=true:=by rfl) (hN:X.N[i]? = some x:=by rfl)
  (hvis:Vis X.env.scope x:=by first | exact Or.inl rfl | exact Or.inr (Or.inl rfl) | exact Or.inr (Or.inr rfl)) (hd:(x == ("__debug__" : Str))=false:=by decide) (hcd:(x == ("__classdict__" : Str))=false:=by decide)
  (ha:∀v,assign (.Subscript (.Name x px) ix ps') X.env v=(do
   let ov ← holding [v] (eval (.Name x px) X.env)
   let iv ← holding [v,ov] (eval ix X.env)
   standAt ps'
   holding [v,ov,iv] (setItem ov iv v)
   release [v,ov,iv] []):=by intro _;rfl) (hs:swapsWithSole [.Subscript (.Name x px) ix ps'] v pos.line X.env=pure false:=by rfl) (hw:swappedStores [.Subscript (.Name x px) ix ps'] v X.env=pure none:=by rfl)
  (h1:(assignEach [.Subscript (.Name x px) ix ps'] X.env).map (·.2)=[assign (.Subscript (.Name x px) ix ps') X.env]:=by rfl):SV X T (.Assign [.Subscript (.Name x px) ix ps'] v pos) (Yy i wv wi):=by
 obtain ⟨tv,pv,gv⟩:=hv
 obtain ⟨ti,pi,gi⟩:=hi
 refine ⟨_,Qk7 pv (Qlb (Vy hN hvis hd hcd) pi (PSet.or Qir (Qis hu)) ha) hs hw h1,λz R σ H W ρ P E s hw l=>?_⟩
 refine gv z R σ H W ρ _ _ s hw λv1 H1 W1 d ρ1 F1 p ⟨hp,hso,q⟩=>?_
 obtain ⟨-,rv⟩:=p.rep.pure hp
 obtain ⟨d0,hl0⟩:=Option.isSome_iff_exists.mp hso
 obtain ⟨fp0,s0⟩:=id p.sr
 obtain ⟨u,hu',_⟩:=s0.at_ i d0 hl0
 refine ⟨u,hu',gi z R σ H1 W1 ρ1 _ _ p.sr q λv2 H2 W2 c ρ2 F2 p2 q2=>?_⟩
 obtain ⟨d1,hl,q2⟩:=Qk q2
 obtain ⟨fp,s2⟩:=id p2.sr
 obtain ⟨u',hu2,ru⟩:=s2.at_ i d1 hl
 have:u'=u:=by rw [hu'] at hu2;cases hu2;rfl
 subst this
 have rv2:Rep X.K H2 d v1 []:=rv.keep p2.fr λa m=>nomatch m
 obtain ⟨nd,sw⟩:=s2.own i d1 hl ht
 have fin:∀(lad:Addr) (ob:HO) (d':D) (F':List Addr),lad∈fp i->imm ob=false->Rep X.K (upd H2 lad ob) d' u' F'->F'.Nodup->(∀a∈F',a∈fp i)->P.nx (ρ2.set i (some d'))->E.nx σ (upd H2 lad ob):=λlad ob d' F' hm him r' nd' sub hq=>by
  have hW:=sw lad hm
  exact l.nx R σ _ _ _ (s2.write hl ht hu2 hm Z0 ⟨ob,Qi,him⟩ r' nd' λa ha=>.inl (sub a ha)) ((p.fr.trans p2.fr).write hW (s2.wd lad hW) Z0 ⟨ob,Qi,him⟩ λa ha=>.inl (sw a (sub a ha))) hq
 have nilnot:∀a:Addr,a∉([]:List Addr):=λa h=>nomatch h
 generalize hF:fp i=F at *
 cases d1 with
 | lst ds =>
  obtain ⟨j,rfl,q2⟩:=Vf q2
  obtain ⟨a,xs,G,rfl,rfl,e,r⟩:=ru.iLst
  obtain ⟨n,hn,hq⟩:=Qk q2
  have rc:=p2.rep.iInt
  subst rc
  have hlt:=(Qal hn).2.1
  obtain ⟨dn,hdn⟩:∃dn,ds[n]? = some dn:=⟨ds[n],List.getElem?_eq_getElem hlt⟩
  obtain ⟨y,A,B,C,hy,hG,rB,rA,rC⟩:=r.split hdn
  obtain ⟨na,ndG⟩:=List.nodup_cons.mp nd
  have sub:=sub3 hG
  have nAC:a∉A++C:=λh=>na (sub.subset h)
  have hxl:n<xs.length:=by rw [r.length];exact hlt
  refine .inl ⟨a,xs,j,n,rfl,rfl,e,by rw [r.length];exact hn,?_⟩
  refine fin a _ _ (a::(A++C)) List.mem_cons_self rfl (.lst Qi ?_) (List.nodup_cons.mpr ⟨nAC,ndG.sublist sub⟩) (λb hb=>?_) hq
  ·rw [Vt hlt,Vt hxl]
   have:=(rA.upd (ob':=.lst (xs.take n++v1::xs.drop (n+1))) e rfl (λh=>nAC (List.mem_append.mpr (.inl h)))).append (.cons (rv2.upd e rfl (nilnot a)) (rC.upd e rfl λh=>nAC (List.mem_append.mpr (.inr h))))
   simpa using this
  ·rcases List.mem_cons.mp hb with rfl | hb
   ·exact List.mem_cons_self
   ·exact List.mem_cons_of_mem _ (sub.subset hb)
 | dik ds =>
  obtain ⟨key,⟨hz,hq⟩,hy⟩:=Qcr (show onK c (λkey=>ds.length<sizeLine/\P.nx (ρ2.set i (some (.dik (putD ds key d))))) from q2)
  obtain ⟨a,kvs,G,rfl,rfl,e,r⟩:=ru.iDik
  obtain rfl:=hy p2.rep
  obtain ⟨na,ndG⟩:=List.nodup_cons.mp nd
  obtain ⟨G',rp,sub⟩:=(r.upd (ob':=.dK (putK kvs key v1)) e rfl na).put (k:=key) (rv2.upd e rfl (nilnot a))
  refine .inr ⟨a,_,rfl,DPut.k (k:=key) e (by rw [r.length];exact hz),?_⟩
  refine fin a _ _ (a::G') List.mem_cons_self rfl (.dik Qi rp) (List.nodup_cons.mpr ⟨λh=>na (sub.subset h),ndG.sublist sub⟩) (λb hb=>?_) hq
  rcases List.mem_cons.mp hb with rfl | hb
  ·exact List.mem_cons_self
  ·exact List.mem_cons_of_mem _ (sub.subset hb)
 | dit ds =>
  obtain ⟨l',rfl,hz,q2⟩:=Qgk q2
  obtain ⟨a,kvs,G,rfl,rfl,e,r⟩:=ru.iDit
  obtain ⟨na,ndG⟩:=List.nodup_cons.mp nd
  obtain ⟨ks,hk,hq⟩:=Qk q2
  obtain ⟨b,ys,rfl,e2,r2⟩:=p2.rep.iTup
  have hx:=r2.keys hk
  subst hx
  obtain ⟨G',rp,sub⟩:=(r.upd (ob':=.dT (putK kvs ks v1)) e rfl na).put (k:=ks) (rv2.upd e rfl (nilnot a))
  refine .inr ⟨a,_,rfl,DPut.t (k:=ks) e e2 (by rw [r.length];exact hz),?_⟩
  refine fin a _ _ (a::G') List.mem_cons_self rfl (.dit Qi rp) (List.nodup_cons.mpr ⟨λh=>na (sub.subset h),ndG.sublist sub⟩) (λb hb=>?_) hq
  rcases List.mem_cons.mp hb with rfl | hb
  ·exact List.mem_cons_self
  ·exact List.mem_cons_of_mem _ (sub.subset hb)
 | _=>exact (show False from q2).elim
def wIf (wt:WT) (w u:WS):WS:=λP ρ=>wt ρ λb ρ'=>if b=true then w P ρ' else u P ρ'
theorem Gb {c:Expr} {sa sb:List Stmt} (hc:TV X T m c wt) (ha:SVs X T sa ws) (hb:SVs X T sb wu):SV X T (.If c sa sb pos) (wIf wt ws wu):=by
 obtain ⟨tc,pc,gc⟩:=hc
 obtain ⟨ta,pa,ga⟩:=ha
 obtain ⟨tb,pb,gb⟩:=hb
 refine ⟨_,Qs0 pc pa pb,λz R σ H W ρ P E s hw l=>gc z R σ H W ρ _ _ s hw λb H1 W1 ρ1 p q=>?_⟩
 cases b with
 | true=>exact ga z R σ H1 W1 ρ1 P E p.sr q (l.step p.fr)
 | false=>exact gb z R σ H1 W1 ρ1 P E p.sr q (l.step p.fr)
def Qkn (wt:WT) (wb:WS):WS:=λP ρ=>∃I:Nat->Env->Prop,(∃n,I n ρ)/\∀n ρ,I n ρ->wt ρ λb ρ1=>if b=true then wb { P with nx:=λρ'=>∃n',n' < n/\I n' ρ',ct:=λρ'=>∃n',n' < n/\I n' ρ',bk:=P.nx } ρ1 else P.nx ρ1
theorem Qip {c:Expr} {body:List Stmt} (hp:PassesOwn (model X.prog X.w) X.A X.env X.xe) (hc:TV X T m c wt) (hb:SVs X T body ws):SV X T (.While c body [] pos) (Qkn wt ws):=by
 obtain ⟨tc,pc,gc⟩:=hc
 obtain ⟨tb,pb,gb⟩:=hb
 refine ⟨_,Qi1 hp pc pb,λz R σ H W ρ P E s hw l=>?_⟩
 obtain ⟨I,⟨n,h0⟩,hI⟩:=hw
 refine ⟨λn σ' H'=>∃R' W' ρ',SR X.K T z R' H' W' σ' ρ'/\FrW H W H' W'/\I n ρ',⟨n,R,W,ρ,s,FrW.refl H W,h0⟩,?_⟩
 rintro n σ1 H1 ⟨R1,W1,ρ1,s1,f1,i1⟩
 refine gc z R1 σ1 H1 W1 ρ1 _ _ s1 (hI n ρ1 i1) λb H2 W2 ρ2 p q=>?_
 cases b with
 | true =>
  refine ⟨λσ' H'=>∃n',n' < n/\∃R' W' ρ',SR X.K T z R' H' W' σ' ρ'/\FrW H W H' W'/\I n' ρ',λσ' H' ⟨n',h,r⟩=>⟨n',h,r⟩,?_⟩
  refine gb z R1 σ1 H2 W2 ρ2 _ _ p.sr q ⟨?_,?_,?_,?_,?_⟩
  ·exact λR' σ' H' W' ρ' s' f' ⟨n',h,i'⟩=>⟨n',h,R',W',ρ',s',(f1.trans p.fr).trans f',i'⟩
  ·exact λR' σ' H' W' ρ' s' f' h=>l.nx R' σ' H' W' ρ' s' ((f1.trans p.fr).trans f') h
  ·exact λR' σ' H' W' ρ' s' f' ⟨n',h,i'⟩=>⟨n',h,R',W',ρ',s',(f1.trans p.fr).trans f',i'⟩
  ·exact ((l.step f1).step p.fr).rt
  ·exact ((l.step f1).step p.fr).xc
 | false=>exact l.nx R1 σ1 H2 W2 ρ2 p.sr (f1.trans p.fr) q
def wFor (wl:WL) (wg:WG) (wb:WS):WS:=λP ρ=>wl ρ λds ρ1=>Qj ds=true/\∃I:Nat->Env->Prop,I 0 ρ1 /\
 (∀i d ρ,ds[i]? = some d->I i ρ->wg d ρ λρ'=>wb { P with nx:=I (i+1),ct:=I (i+1),bk:=P.nx } ρ')/\∀ρ,I ds.length ρ->P.nx ρ
theorem Qch (W:Addr->Prop):wz true W=W:=by funext a;simp [wz]
theorem Zl {tg iter:Expr} {body:List Stmt} {wl:WL} {wg:WG} (hp:PassesOwn (model X.prog X.w) X.A X.env X.xe) (hi:IV X T m true tg iter wl) (hg:GV X T tg wg) (hb:SVs X T body ws) (hc:X.calm=true:=by rfl)
  (hs:∀x,foldedSetIterable iter X.env x=pure x:=by intro _;rfl):SV X T (.For tg iter body [] pos) (wFor wl wg ws):=by
 obtain ⟨ti,pi,gi⟩:=hi
 obtain ⟨tt,pt,gt⟩:=hg
 obtain ⟨tb,pb,gb⟩:=hb
 refine ⟨_,Qp9 hp hc pi pt pb hs,λz R σ H W ρ P E s hw l=>gi z R σ H W ρ _ _ s hw λJ H1 W1 ds ρ1 p jd q=>?_⟩
 rw [Qch] at jd
 obtain ⟨hpu,I,h0,hI,hd⟩:=q
 refine ⟨λi n σ' H'=>n=ds.length-i/\i<=ds.length/\∃R' W' ρ',SR X.K T z R' H' W' σ' ρ'/\FrW H1 W1 H' W'/\I i ρ',⟨ds.length,by simp,Nat.zero_le _,R,W1,ρ1,p.sr,FrW.refl _ _,h0⟩,?_⟩
 rintro i n σ2 H2 ⟨rfl,hi,R2,W2,ρ2,s2,f2,i2⟩
 obtain ⟨j1,j2⟩:=jd i H2 W2 f2
 by_cases hlt:i<ds.length
 ·have hdi:ds[i]? = some ds[i]:=List.getElem?_eq_getElem hlt
  obtain ⟨hgo,hy⟩:=j2 _ hdi
  have hpd:(ds[i]).pure=true:=Zt.mp hpu _ (List.getElem_mem hlt)
  refine .inr ⟨hgo,λσ' H'=>i+1<=ds.length/\∃R' W' ρ',SR X.K T z R' H' W' σ' ρ'/\FrW H1 W1 H' W'/\I (i+1) ρ',λσ' H' ⟨h1,h2⟩=>⟨ds.length-(i+1),by omega,rfl,h1,h2⟩,λv H3 yl=>?_⟩
  obtain ⟨sm,F,rv,_⟩:=hy v H3 yl
  obtain ⟨-,rv⟩:=rv.pure hpd
  have f3:FrW H1 W1 H3 W2:=f2.trans (FrW.same W2 sm)
  refine gt z R2 σ2 H3 W2 ρ2 _ v _ _ (s2.same sm) rv hpd (hI i _ ρ2 hdi i2) λR4 W4 σ4 ρ4 s4 f4 q4=>?_
  refine gb z R4 σ4 H3 W4 ρ4 _ _ s4 q4 ⟨?_,?_,?_,?_,?_⟩
  ·exact λR' σ' H' W' ρ' s' f' h=>⟨hlt,R',W',ρ',s',(f3.trans f4).trans f',h⟩
  ·exact λR' σ' H' W' ρ' s' f' h=>l.nx R' σ' H' W' ρ' s' (((p.fr.trans f3).trans f4).trans f') h
  ·exact λR' σ' H' W' ρ' s' f' h=>⟨hlt,R',W',ρ',s',(f3.trans f4).trans f',h⟩
  ·exact (((l.step p.fr).step f3).step f4).rt
  ·exact (((l.step p.fr).step f3).step f4).xc
 ·have e:i=ds.length:=by omega
  subst e
  exact .inl ⟨j1 (Nat.le_refl _),l.nx R2 σ2 H2 W2 ρ2 s2 (p.fr.trans f2) (hd ρ2 i2)⟩
end
end PV
namespace PV
open PySem PySem.Spec L2
open PyProof.Rows (envOfC)
def TR:Tg:={ own:=λ_=>false,io:=[] }
def Any (H:Hp):Addr->Prop:=λa=>∃ob,H a=some ob/\imm ob=false
theorem SR.readonly {K:PySem.W.Frag} {T:Tg} {z:Nat->V} {H:Hp} {σ:St} {ρ:Env} (hio:T.io=[]) (hlen:ρ.length=σ.length) (h:∀i d,look ρ i=some d->T.own i=false/\∃v F,σ[i]? = some (some v)/\Rep K H d v F) :
  SR K T z (Any H) H (λ_=>False) σ ρ:=by
 have ch:∀i,∃F,∀d,look ρ i=some d->∃v,σ[i]? = some (some v)/\Rep K H d v F:=λi=>by
  cases hl:look ρ i with
  | none=>exact ⟨[],λd e=>nomatch e⟩
  | some d =>
   obtain ⟨_,v,F,h1,h2⟩:=h i d hl
   exact ⟨F,λd' e=>by cases e;exact ⟨v,h1,h2⟩⟩
 refine ⟨λi=>Classical.choose (ch i),hlen,λa h=>h.elim,λi d hl=>Classical.choose_spec (ch i) d hl,λi d hl ht=>?_,λi d hl ht a ha=>?_,λa h=>h.elim,λa h=>h,λi j d e hl hl' ht=>?_,λi hi=>?_⟩
 ·rw [(h i d hl).1] at ht;cases ht
 ·obtain ⟨v,_,r⟩:=Classical.choose_spec (ch i) d hl
  exact r.dom a ha
 ·rw [(h i d hl).1] at ht;cases ht
 ·rw [hio] at hi;cases hi
theorem J3:∀{ds:List D} {n i:Nat},look (ds.map some++List.replicate n none) i=ds[i]?
 | [],0,i=>by simp [look]
 | [],n+1,0=>by simp [look,List.replicate_succ]
 | [],n+1,i+1=>by
  have:=J3 (ds:=[]) (n:=n) (i:=i)
  simpa [look,List.replicate_succ] using this
 | d::ds,n,0=>by simp [look]
 | d::ds,n,i+1=>by
  have:=J3 (ds:=ds) (n:=n) (i:=i)
  simpa [look] using this
theorem Jx {N:List Str} {vs:List V} {i:Nat} {v:V} (h:vs[i]? = some v):(L2.start N vs)[i]? = some (some v):=by
 have hi:=(List.getElem?_eq_some_iff.mp h).1
 unfold L2.start
 rw [List.getElem?_append_left (by simpa using hi),List.getElem?_map,h]
 rfl
section
variable {P:Program} {w:World} {K:PySem.W.Frag} {mg:Str->Option Value} {base:Heap} {x qual:Str} {st:Stmt} {f:Addr} {fd:FuncData} {N ps:List Str} {k:Nat} {T:Tg} {ww:WS}
def env0 (N:List Str) (ds:List D):Env:=ds.map some++List.replicate (N.length-ds.length) none
theorem Qe7 {g:GA} (F:Fun K x qual st f fd) (S:FnScope N ps (Qc st)) (hio:T.io=[]) (hown:∀i,i<ps.length->T.own i=false) (hg:∀ds kk,g ds kk->ds.length=ps.length)
  (hb:∀(cdv:Value) (A:Around) (outer:List PySem.Env) (s:Shared) (H:Hp) (E:XK),Room k (A.deeper (envOfC qual (Qc st) s.heap.objs.size f cdv))->SVs (cxOf CX0 P w K mg base N qual (Qc st) f cdv A outer s H E).nox T (Qq st) ww)
  (hr:∀ds kk,g ds kk->ww { nx:=λ_=>kk .non,rt:=λd _=>kk d } (env0 N ds)):FnOk P w K mg base CX0 (k+1) f fd ps (spR K g):=by
 refine F.ok S (λvs H Q E h=>?_) (λcdv A outer s H vs Q E hroom h=>?_)
 ·obtain ⟨ds,Fp,kk,rep,hgk,_⟩:=h
  rw [rep.length];exact hg ds kk hgk
 ·obtain ⟨ds,Fp,kk,rep,hgk,q⟩:=h
  obtain ⟨ts,pts,gts⟩:=hb cdv A outer s H E hroom
  have hl:=rep.length
  have hds:=hg ds kk hgk
  refine ⟨ts,pts,gts (λ_=>.non) (Any H) (L2.start N vs) H (λ_=>False) (env0 N ds) _ _ (SR.readonly hio ?_ λi d hli=>?_) (hr ds kk hgk) ⟨?_,?_,?_,?_,λ_ _ _ _ _ _ _ _ hk=>hk.elim⟩⟩
  ·unfold env0 L2.start;simp [hl]
  ·unfold env0 at hli
   rw [J3] at hli
   obtain ⟨v,B,h1,h2,_⟩:=rep.get hli
   exact ⟨hown i (by rw [← hds];exact (List.getElem?_eq_some_iff.mp hli).1),v,B,Jx h1,h2⟩
  ·intro R' σ' H' W' ρ' s' fr hk
   have sm:Same H H':=λb o e=>fr.keep b o e (λz=>z)
   exact q .non H' .non [] ⟨sm,.non,List.nodup_nil,λ_ m=>nomatch m⟩ hk
  ·exact λR' σ' H' W' ρ' s' fr hk=>hk.elim
  ·exact λR' σ' H' W' ρ' s' fr hk=>hk.elim
  ·intro R' v σ' H' W' ρ' d F' s' fr r nd nw hk
   have sm:Same H H':=λb o e=>fr.keep b o e (λz=>z)
   exact q v H' d F' ⟨sm,r,nd,λa ha=>(nw a ha).2.resolve_left id⟩ hk
theorem Qe8 {p:Nat} {g:GI} (F:Fun K x qual st f fd) (S:FnScope N ps (Qc st)) (hio:T.io=[p]) (hown:T.own p=true) (hg:∀ds kk,g ds kk->ds.length=ps.length/\∃d0,ds[p]? = some d0/\Yx d0=true)
  (hb:∀(cdv:Value) (A:Around) (outer:List PySem.Env) (s:Shared) (H:Hp) (E:XK),Room k (A.deeper (envOfC qual (Qc st) s.heap.objs.size f cdv))->SVs (cxOf CX0 P w K mg base N qual (Qc st) f cdv A outer s H E).nox T (Qq st) ww)
  (hr:∀ds kk,g ds kk->ww { nx:=λρ=>oget (look ρ p) λd'=>Yx d'=true/\kk .non d',rt:=λd ρ=>oget (look ρ p) λd'=>Yx d'=true/\kk d d' } (env0 N ds)):FnOk P w K mg base CX0 (k+1) f fd ps (spI K p g):=by
 refine F.ok S (λvs H Q E h=>?_) (λcdv A outer s H vs Q E hroom h=>?_)
 ·obtain ⟨ds,a,kk,rep,hp,hgk,_⟩:=h
  rw [rep.length];exact (hg ds kk hgk).1
 ·obtain ⟨ds,a,kk,rep,hp,hgk,q⟩:=h
  obtain ⟨ts,pts,gts⟩:=hb cdv A outer s H E hroom
  have hl:=rep.length
  obtain ⟨hds,d0,hd0,hf0⟩:=hg ds kk hgk
  obtain ⟨v0,A',B,C,h1,h2,r0,rA,rC⟩:=rep.split hd0
  rw [hp] at h1;cases h1
  obtain ⟨a',e1,e2⟩:=r0.flat1 hf0
  cases e1
  subst e2
  have hA:A'=[]:=by
   cases A' with
   | nil=>rfl
   | cons y A'=>simp at h2
  subst hA
  have hC:C=[]:=by
   cases C with
   | nil=>rfl
   | cons y C=>simp at h2
  subst hC
  have oth:∀i d,i≠p->ds[i]? = some d->∃v,vs[i]? = some v/\Rep K H d v []:=λi d hne hd=>by
   rcases Nat.lt_or_gt_of_ne hne with h | h
   ·obtain ⟨v,B,h1,h2,h3⟩:=rA.get (i:=i) (by rw [List.getElem?_take_of_lt h];exact hd)
    rw [List.getElem?_take_of_lt h] at h1
    have:=List.sublist_nil.mp h3
    subst this
    exact ⟨v,h1,h2⟩
   ·obtain ⟨v,B,h1,h2,h3⟩:=rC.get (i:=i-(p+1)) (by rw [List.getElem?_drop,show p+1+(i-(p+1))=i by omega];exact hd)
    rw [List.getElem?_drop,show p+1+(i-(p+1))=i by omega] at h1
    have:=List.sublist_nil.mp h3
    subst this
    exact ⟨v,h1,h2⟩
  obtain ⟨oa,ea,ia⟩:=r0.dom a (List.mem_singleton.mpr rfl)
  have fin:∀R' v σ' H' W' ρ' d F',SR K T (λ_=>.ref a) R' H' W' σ' ρ'->FrW H (λb=>b=a) H' W'->Rep K H' d v F'->F'.Nodup->(∀b∈F',¬W' b/\(b=a\/H b=none))->(oget (look ρ' p) λd'=>Yx d'=true/\kk d d')->Q v H':=λR' v σ' H' W' ρ' d F' s' fr r nd nw hk=>by
   obtain ⟨d',hl',hf',hk⟩:=Qk hk
   obtain ⟨fp,s0⟩:=s'
   obtain ⟨u,hu,ru⟩:=s0.at_ p d' hl'
   have hfx:=s0.fix p (by rw [hio];exact List.mem_singleton.mpr rfl)
   rw [hu] at hfx
   cases hfx
   obtain ⟨a'',e1,e2⟩:=ru.flat1 hf'
   cases e1
   rw [e2] at ru
   have hWa:W' a:=(s0.own p d' hl' hown).2 a (by rw [e2];exact List.mem_singleton.mpr rfl)
   refine q v H' d d' F' ru r nd (λb hb=>?_) (λb o e hne=>fr.keep b o e hne) hk
   rcases (nw b hb).2 with h | h
   ·exact absurd hWa (by rw [← h];exact (nw b hb).1)
   ·exact h
  refine ⟨ts,pts,gts (λ_=>.ref a) (λb=>b≠a/\Any H b) (L2.start N vs) H (λb=>b=a) (env0 N ds) _ _ ⟨λi=>if i=p then [a] else [],?_,?_,?_,?_,?_,?_,?_,?_,?_⟩ (hr ds kk hgk) ⟨?_,?_,?_,?_,λ_ _ _ _ _ _ _ _ hk=>hk.elim⟩⟩
  ·unfold env0 L2.start;simp [hl]
  ·rintro b rfl;exact ⟨oa,ea,ia⟩
  ·intro i d hli
   unfold env0 at hli
   rw [J3] at hli
   by_cases hip:i=p
   ·subst hip
    rw [hd0] at hli;cases hli
    exact ⟨.ref a,Jx hp,by rw [if_pos rfl];exact r0⟩
   ·obtain ⟨v,h1,h2⟩:=oth i d hip hli
    exact ⟨v,Jx h1,by rw [if_neg hip];exact h2⟩
  ·intro i d _ _
   by_cases hip:i=p
   ·rw [if_pos hip];exact ⟨by simp,λb hb=>List.mem_singleton.mp hb⟩
   ·rw [if_neg hip];exact ⟨by simp,λb hb=>nomatch hb⟩
  ·intro i d _ ht b hb
   have hip:i≠p:=λz=>by subst z;rw [hown] at ht;cases ht
   rw [if_neg hip] at hb;cases hb
  ·rintro b rfl ⟨h,_⟩;exact h rfl
  ·exact λb h=>h.2
  ·intro i j d e _ _ _ _ hne b hb hb'
   by_cases hip:i=p
   ·have hjp:j≠p:=λz=>hne (hip.trans z.symm)
    rw [if_neg hjp] at hb';cases hb'
   ·rw [if_neg hip] at hb;cases hb
  ·intro i hi
   rw [hio] at hi
   rw [List.mem_singleton.mp hi]
   exact Jx hp
  ·exact λR' σ' H' W' ρ' s' fr hk=>fin R' .non σ' H' W' ρ' .non [] s' fr .non List.nodup_nil (λb hb=>nomatch hb) hk
  ·exact λR' σ' H' W' ρ' s' fr hk=>hk.elim
  ·exact λR' σ' H' W' ρ' s' fr hk=>hk.elim
  ·exact λR' v σ' H' W' ρ' d F' s' fr r nd nw hk=>fin R' v σ' H' W' ρ' d F' s' fr r nd nw hk
end
section
variable {X:Cx} {T:Tg} {m o m0 m1 m2 m3 o1 o2:Bool} {e a b:Expr} {w wa wb we:WE} {pos p2 p:Pos} {es:List Expr} {wr:WA} {x:Str} {wt:WT}
def CV (X:Cx) (ifs:List Expr) (w:WT):Prop :=
 ∃tt,PIfs X ifs tt/\∀(z:Nat->V) (R:Addr->Prop) (σ:St) (H:Hp) (W:Addr->Prop) (ρ:Env) (Q:Bool->Env->Prop) (Q':Bool->Hp->Prop),SR X.K TR z R H W σ ρ->w ρ Q ->
  (∀b H' W' ρ',PostT X.K TR z R false H W σ ρ H' W' ρ'->Q b ρ'->Q' b H')->tt σ H Q'
def wAll:WT:=λρ Q=>Q true ρ
theorem Qhw:CV X [] wAll:=⟨_,Qd1,λz R σ H W ρ Q Q' s hw k=>k true H W ρ ⟨s,FrW.refl H W,λ_=>⟨Same.refl H,rfl,rfl⟩⟩ hw⟩
theorem Qlo {c:Expr} (h:TV X TR false c wt):CV X [c] wt:=by
 obtain ⟨tt,pt,g⟩:=h
 exact ⟨_,Qi3 pt,g⟩
def blkE (ρ:Env) (d:D) (ix:List Nat):Env:=some d::ix.map (look ρ)
theorem V3 {f:Nat->Option D}:∀{ix:List Nat} {j:Nat},look (ix.map f) j=ix[j]?.bind f
 | [],_=>by simp [look]
 | i::r,0=>by simp [look]
 | i::r,j+1=>by simpa [look] using V3 (f:=f) (ix:=r) (j:=j)
def Qa0 (wl:WL) (wt:WT) (we:WE) (ix:List Nat):WE:=λρ Q=>wl ρ λds ρ1=>∃I:Nat->List D->Prop,I 0 [] /\
 (∀i d ys,ds[i]? = some d->I i ys->ys.length<sizeLine/\wt (blkE ρ1 d ix) λb _=>if b=true then we (blkE ρ1 d ix) (λy _=>I (i+1) (ys++[y])) else I (i+1) ys) /\
 ∀ys,I ds.length ys->ys.length<=sizeLine/\Q (.lst ys) ρ1
def X1 (X:Cx) (T:Tg) (m:Bool) (elt iter:Expr) (x:Str) (px:Pos) (scope:Scope) (ifs:List Expr) (ix:List Nat) (w:WE):Prop :=
 ∃(wi:TI) (tt:TT) (te:TE),PI X (.Name x px) iter wi/\(∀cl C s₀ H₀ fp,PIfs (J8 X scope cl C (bN X.N x ix) s₀ H₀ fp) ifs tt)/\(∀cl C s₀ H₀ fp,PE (J8 X scope cl C (bN X.N x ix) s₀ H₀ fp) elt te) /\
  ∀(z:Nat->V) (R:Addr->Prop) (σ:St) (H:Hp) (W:Addr->Prop) (ρ:Env) (Q:D->Env->Prop) (Q':VK),SR X.K T z R H W σ ρ->w ρ Q ->
   (∀v H' W' d ρ' F,Post X.K T z R m true H W σ ρ H' W' ρ' d v F->Q d ρ'->Q' v H')->Qmd wi tt te ix σ H Q'
theorem Qc6 {elt iter:Expr} {px:Pos} {scope:Scope} {ifs:List Expr} {wl:WL} {pr:Bool} (ix:List Nat) (hi:IV X T m pr (.Name x px) iter wl)
  (ht:∀cl C s₀ H₀ fp,CV (J8 X scope cl C (bN X.N x ix) s₀ H₀ fp) ifs wt) (he:∀cl C s₀ H₀ fp,EV (J8 X scope cl C (bN X.N x ix) s₀ H₀ fp) TR false true elt we) :
  X1 X T m elt iter x px scope ifs ix (Qa0 wl wt we ix):=by
 obtain ⟨wi,pi,gi⟩:=hi
 refine ⟨wi,λσ H Q=>∀cl C s₀ H₀ fp,Classical.choose (ht cl C s₀ H₀ fp) σ H Q,λσ H Q=>∀cl C s₀ H₀ fp,Classical.choose (he cl C s₀ H₀ fp) σ H Q,pi,
  λcl C s₀ H₀ fp pins s σ H Q I h=>(Classical.choose_spec (ht cl C s₀ H₀ fp)).1 pins s σ H Q I (h cl C s₀ H₀ fp),λcl C s₀ H₀ fp pins s σ H Q I h=>(Classical.choose_spec (he cl C s₀ H₀ fp)).1 pins s σ H Q I (h cl C s₀ H₀ fp),?_⟩
 intro z R σ H W ρ Q Q' s hw k
 refine gi z R σ H W ρ _ _ s hw λJ H1 W1 ds ρ1 p jd q=>?_
 obtain ⟨I,h0,hI,hd⟩:=q
 refine ⟨λi n ys H2=>n=ds.length-i/\i<=ds.length/\Same H1 H2/\∃es F,Reps X.K H2 es ys F/\F.Nodup/\(∀a∈F,H1 a=none)/\I i es,ds.length,⟨by simp,Nat.zero_le _,Same.refl _,[],[],.nil,List.nodup_nil,(λa m=>(nomatch m)),h0⟩,?_⟩
 rintro i n ys H2 ⟨rfl,hi,sm,es,F,re,nd,nw,i2⟩
 obtain ⟨j1,j2⟩:=jd i H2 (wz pr W1) (FrW.same _ sm)
 by_cases hlt:i<ds.length
 ·have hdi:ds[i]? = some ds[i]:=List.getElem?_eq_getElem hlt
  obtain ⟨hgo,hy⟩:=j2 _ hdi
  obtain ⟨hz,q1⟩:=hI i _ es hdi i2
  refine .inr ⟨hgo,by rw [re.length];exact hz,λv H3 yl=>?_⟩
  obtain ⟨sm3,Fv,rv,_⟩:=hy v H3 yl
  have srB:∀z',SR X.K TR z' (Any H3) H3 (λ_=>False) (bS σ (some v) ix) (blkE ρ1 ds[i] ix):=λz'=>by
   refine SR.readonly rfl (by simp [bS,blkE]) λj d hj=>⟨rfl,?_⟩
   cases j with
   | zero =>
    simp only [blkE,look,Option.some.injEq] at hj
    subst hj
    exact ⟨v,Fv,rfl,rv⟩
   | succ j =>
    have hj':look (ix.map (look ρ1)) j=some d:=hj
    rw [V3] at hj'
    cases hx:ix[j]? with
    | none=>rw [hx] at hj';cases hj'
    | some q =>
     rw [hx] at hj'
     obtain ⟨fp,s1⟩:=(p.sr.same sm).same sm3
     obtain ⟨u,hu,ru⟩:=s1.at_ q d hj'
     refine ⟨u,fp q,?_,ru⟩
     show (ix.map λi=>(σ[i]?).getD none)[j]? = some (some u)
     rw [List.getElem?_map,hx]
     simp [hu]
  intro cl C s₀ H₀ fp
  refine (Classical.choose_spec (ht cl C s₀ H₀ fp)).2 (λ_=>.non) (Any H3) (bS σ (some v) ix) H3 (λ_=>False) (blkE ρ1 ds[i] ix) _ _ (srB _) q1 λbb H4 W4 ρ4 p4 q4=>?_
  obtain ⟨sm4,hW4,hρ4⟩:=p4.calm rfl
  have re4:=((re.same sm3).same sm4)
  cases bb with
  | false=>exact ⟨ds.length-(i+1),by omega,rfl,hlt,(sm.trans sm3).trans sm4,es,F,re4,nd,nw,q4⟩
  | true =>
   show if true=true then _ else _
   rw [if_pos rfl]
   intro cl C s₀ H₀ fp
   refine (Classical.choose_spec (he cl C s₀ H₀ fp)).2 (λ_=>.non) (Any H3) (bS σ (some v) ix) H4 W4 (blkE ρ1 ds[i] ix) _ _ (hρ4 ▸ p4.sr) (by simpa using q4) λu H5 W5 y ρ5 Fy p5 q5=>?_
   obtain ⟨sm5,_,_⟩:=p5.calm rfl
   obtain ⟨ny,ky⟩:=p5.own rfl
   have sm15:Same H1 H5:=((sm.trans sm3).trans sm4).trans sm5
   refine ⟨ds.length-(i+1),by omega,rfl,hlt,sm15,es++[y],F++Fy,(re4.same sm5).snoc p5.rep,Vz nd ny λa ha hf=>?_,λa ha=>?_,q5⟩
   ·obtain ⟨ob,e1,_⟩:=re4.dom a hf
    rw [(ky a ha).1] at e1;cases e1
   ·rcases List.mem_append.mp ha with ha | ha
    ·exact nw a ha
    ·exact ((sm.trans sm3).trans sm4).free (ky a ha).1
 ·have e:i=ds.length:=by omega
  subst e
  obtain ⟨hz,q1⟩:=hd es i2
  refine .inl ⟨j1 (Nat.le_refl _),by rw [re.length];exact hz,λl hl=>?_⟩
  have hl1:H1 l=none:=sm.free hl
  refine k _ _ W1 (.lst es) ρ1 (l::F) ⟨(p.sr.same sm).same (Qh hl),(p.fr.trans (FrW.same W1 sm)).trans (FrW.same W1 (Qh hl)),λh=>⟨((p.calm h).1.trans sm).trans (Qh hl),(p.calm h).2⟩,.lst Qi (re.same (Qh hl)),λ_=>⟨List.nodup_cons.mpr ⟨λh=>?_,nd⟩,λb hb=>?_⟩⟩ q1
  ·obtain ⟨ob,e1,_⟩:=re.dom l h
   rw [hl] at e1;cases e1
  ·rcases List.mem_cons.mp hb with rfl | hb
   ·exact ⟨p.fr.dom _ hl1,p.sr.nw hl1⟩
   ·exact ⟨p.fr.dom _ (nw b hb),p.sr.nw (nw b hb)⟩
theorem Qof {elt iter:Expr} {px:Pos} {scope:Scope} {ifs:List Expr} {ix:List Nat} (h:X1 X T m elt iter x px scope ifs ix w) (B:BlkScope X.env scope x)
  (hix:∀i∈ix,∃y,X.N[i]? = some y/\scope.names.lookup y=some .free) (hN:(bN X.N x ix).Nodup) (hc:X.calm=true:=by rfl)
  (hs:∀x,foldedSetIterable iter X.env x=pure x:=by intro _;rfl):EV X T m true (.ListComp elt [⟨.Name x px,iter,ifs,0⟩] scope pos) w:=by
 obtain ⟨wi,tt,te,h1,h2,h3,h4⟩:=h
 exact ⟨_,Qng ix hc B hix hN h1 h2 h3 hs,h4⟩
theorem Qmh {elt iter:Expr} {y:Str} {px py spos:Pos} {scope:Scope} {ifs:List Expr} {ix:List Nat} {j:Nat} (h:X1 X T m elt iter x px scope ifs ix w) (B:BlkScope X.env scope x) (hNd:X.N.Nodup)
  (hix:∀i∈ix,∃y,X.N[i]? = some y/\scope.names.lookup y=some .free) (hN:(bN X.N x ix).Nodup) (hj:X.N[j]? = some y:=by rfl) (hy:Loc X.env.scope y:=by first | exact Or.inl rfl | exact Or.inr rfl) (hio:j∉T.io:=by decide)
  (hsw:swapsWith (.ListComp elt [⟨.Name x px,iter,ifs,0⟩] scope pos) (some (.Name y py)) spos.line X.env=pure true:=by rfl)
  (hf:X.fn y=true\/X.env.scope.names.lookup y=some .local:=by first | exact .inl rfl | exact .inr rfl | assumption) (hc:X.calm=true:=by rfl)
  (hs:∀x,foldedSetIterable iter X.env x=pure x:=by intro _;rfl):SV X T (.Assign [.Name y py] (.ListComp elt [⟨.Name x px,iter,ifs,0⟩] scope pos) spos) (wSet j w):=by
 obtain ⟨wi,tt,te,h1,h2,h3,h4⟩:=h
 exact Qmf ⟨_,Qna ix hc B hNd hj hy hsw hix hN h1 h2 h3 hf hs,h4⟩ hio
end
end PV
namespace PV
open PySem PySem.Spec L2
section
variable {X:Cx} {T:Tg} {m o m0 m1 m2 m3 o1 o2:Bool} {e a b:Expr} {w wa wb we:WE} {pos p2 p:Pos} {es:List Expr} {wr:WA} {x:Str} {wt:WT}
abbrev WO:=Env->(Option Int->Env->Prop)->Prop
def OV (X:Cx) (T:Tg) (m:Bool) (e:Option Expr) (w:WO):Prop :=
 ∃t,PO X e t/\∀(z:Nat->V) (R:Addr->Prop) (σ:St) (H:Hp) (W:Addr->Prop) (ρ:Env) (Q:Option Int->Env->Prop) (Q':Option Int->Hp->Prop),SR X.K T z R H W σ ρ->w ρ Q ->
  (∀b H' W' ρ',PostT X.K T z R m H W σ ρ H' W' ρ'->Q b ρ'->Q' b H')->t σ H Q'
def Qer:WO:=λρ Q=>Q none ρ
def Qci (w:WE):WO:=λρ Q=>w ρ λd ρ'=>match d with
 | .int i=>Q (some i) ρ'
 | _=>False
theorem Qgh:OV X T false none Qer:=⟨_,Qnc,λz R σ H W ρ Q Q' s hw k=>k none H W ρ ⟨s,FrW.refl H W,λ_=>⟨Same.refl H,rfl,rfl⟩⟩ hw⟩
theorem Qad (h:EV X T m o e w):OV X T m (some e) (Qci w):=by
 obtain ⟨t,pt,g⟩:=h
 refine ⟨_,Qnb pt,λz R σ H W ρ Q Q' s hw k=>g z R σ H W ρ _ _ s hw λv H1 W1 d ρ1 F p q=>?_⟩
 cases d with
 | int i=>exact ⟨i,Qfu p.rep,k (some i) H1 W1 ρ1 ⟨p.sr,p.fr,p.calm⟩ q⟩
 | _=>exact q.elim
def cutD (xs:List D) (lo hi:Option Int):List D:=(xs.drop (HT.sIx xs.length 0 lo)).take (HT.sIx xs.length xs.length hi-HT.sIx xs.length 0 lo)
theorem Reps.cut {K:PySem.W.Frag} {H:Hp} {ds:List D} {xs:List V} {lo hi:Option Int} (r:Reps K H ds xs []):Reps K H (cutD ds lo hi) (cutV xs lo hi) []:=by
 unfold cutD cutV
 rw [r.length]
 obtain ⟨G,r1,s1⟩:=r.drop (HT.sIx ds.length 0 lo)
 obtain ⟨G',r2,s2⟩:=r1.take (HT.sIx ds.length ds.length hi-HT.sIx ds.length 0 lo)
 have:=List.sublist_nil.mp s1
 subst this
 have:=List.sublist_nil.mp s2
 subst this
 exact r2
theorem Qpe:SlR X (λx lo hi H Q=>rSlL X.K x lo hi H Q\/rSlT X.K x lo hi H Q):=SlR.or Qmm Qpd
def Qhv:GA
 | [.int j],k=>0<=j/\j<=1000/\k (.lst (rngD 0 j.toNat))
 | _,_=>False
theorem Qbw {p3 p4 pos2:Pos} (hm:X.mg "range" = none) (hm2:X.mg "list" = none) (ha:AV X T m o [a] wr) (hg:Gl X "range":=by rfl) (hg2:Gl X "list":=by rfl) (hc:X.calm=true:=by rfl) (hs:starEach [a] X.env=[(false,eval a X.env)]:=by rfl)
  (hs2:starEach [.Call (.Name "range" p4) [a] [] pos2] X.env=(false,eval (.Call (.Name "range" p4) [a] [] pos2) X.env)::starEach [] X.env:=by rfl) :
  EV X T m true (.Call (.Name "list" p3) [.Call (.Name "range" p4) [a] [] pos2] [] pos) (Qv Qhv wr):=by
 obtain ⟨ta,pa,ga⟩:=ha
 refine ⟨_,Qbg (Qar hc) hg2 hm2 (by rfl) (Ve (Qge hg hm pa hs) Qgg hs2),λz R σ H W ρ Q Q' s hw k=>?_⟩
 refine ga z R σ H W ρ _ _ s hw λvs H1 W1 ds ρ1 F p q=>?_
 obtain ⟨j,rfl⟩:∃j,ds=[D.int j]:=by
  clear p
  cases ds with
  | nil=>exact (show False from q).elim
  | cons d0 r0 =>
   cases r0 with
   | nil =>
    cases d0 with
    | int j=>exact ⟨j,rfl⟩
    | _=>exact (show False from q).elim
   | cons _ _=>cases d0 <;> exact (show False from q).elim
 obtain ⟨v,rfl,rd⟩:=p.rep.at1
 cases rd
 refine ⟨j,rfl,λr hr=>⟨r,j,rfl,Qi,q.1,q.2.1,λl hl=>?_⟩⟩
 have s12:Same H1 (upd (upd H1 r (.rng 0 j)) l (.lst ((List.range j.toNat).map λi=>.int (i:Nat)))):=(Qh hr).trans (Qh hl)
 refine k _ _ W1 (.lst (rngD 0 j.toNat)) ρ1 [l] (Post.fin p.sr p.fr p.calm s12 (.lst Qi ?_) (by simp) λb mb=>by rw [List.mem_singleton.mp mb];exact (Qh hr).free hl) q.2.2
 have e1:rngD 0 j.toNat=((List.range j.toNat).map λ(i:Nat)=>(i:Int)).map D.int:=by simp [rngD]
 have e2:((List.range j.toNat).map λ(i:Nat)=>V.int (i:Nat))=((List.range j.toNat).map λ(i:Nat)=>(i:Int)).map V.int:=by simp
 rw [e1,e2]
 exact Reps.ints _
def Qon:D->D->D->(D->Prop)->Prop
 | .dik kvs,.int i,d,k=>k ((valD kvs (.inl i)).getD d)
 | .dik kvs,.str i,d,k=>k ((valD kvs (.inr i)).getD d)
 | .dit kvs,.tup l,d,k=>oget (Za l) λks=>k ((valD kvs ks).getD d)
 | _,_,_,_=>False
end
end PV
namespace PV
open PySem PySem.Spec L2
section
variable {κ:Type} [DecidableEq κ]
end
section
variable {K:PySem.W.Frag} {H:Hp}
end
section
variable {X:Cx} {T:Tg} {m o m0 m1 m2 m3 o1 o2:Bool} {e a b:Expr} {w wa wb we:WE} {pos p2 p:Pos} {es:List Expr} {wr:WA} {x:Str} {wt:WT}
end
end PV
namespace PV
open PySem PySem.Spec L2
section
variable {X:Cx} {T:Tg} {m o m0 m1 m2 m3 o1 o2:Bool} {e a b:Expr} {w wa wb we:WE} {pos p2 p:Pos} {es:List Expr} {wr:WA} {x:Str} {wt:WT}
abbrev tupI (k:List Int):D:=.tup (k.map .int)
def Up (out:List (List Int)):Prop:=∀(i j:Nat) x y,i<=j->out[i]? = some x->out[j]? = some y->HT.Y5 y x=false
theorem Qe5 {α:Type} {d:α}:∀{l:List α},(List.range l.length).map (λi=>l.getD i d)=l:=by
 intro l
 apply List.ext_getElem?
 intro i
 rw [List.getElem?_map]
 by_cases h:i<l.length
 ·rw [List.getElem?_range h];simp [List.getD_eq_getElem?_getD,h]
 ·rw [List.getElem?_eq_none (by simpa using h),List.getElem?_eq_none (by simpa using h)];rfl
def Ql5 (wa wb:WE):WE:=λρ Q=>wa ρ λd ρ1=>match d with
 | .bl c=>if c=true then wb ρ1 Q else Q (.bl false) ρ1
 | _=>False
variable {rest:List Expr}
theorem Post.after {K:PySem.W.Frag} {z:Nat->V} {R:Addr->Prop} {H H1 H2:Hp} {W W1 W2:Addr->Prop} {σ:St} {ρ ρ1 ρ2:Env} {d1 d2:D} {v1 v2:V} {F1 F2:List Addr} (p:Post K T z R m1 o1 H W σ ρ H1 W1 ρ1 d1 v1 F1) (q:Post K T z R m2 o2 H1 W1 σ ρ1 H2 W2 ρ2 d2 v2 F2) :
  Post K T z R (m1 || m2) o2 H W σ ρ H2 W2 ρ2 d2 v2 F2:=⟨q.sr,p.fr.trans q.fr,p.calm2 q,q.rep,p.lastOwn q⟩
theorem Qrr {op} (h:EV X T m o a w):EV X T m o (.BoolOp op [a] pos) w:=by
 obtain ⟨t,pt,g⟩:=h
 exact ⟨t,Qqc pt,g⟩
theorem Qru (ha:EV X T m1 o1 a wa) (hb:EV X T m2 true (.BoolOp .And (b::rest) pos) wb):EV X T (m1 || m2) true (.BoolOp .And (a::b::rest) pos) (Ql5 wa wb):=by
 obtain ⟨ta,pa,ga⟩:=ha
 obtain ⟨tb,pb,gb⟩:=hb
 refine ⟨_,Qqi pa pb,λz R σ H W ρ Q Q' s hw k=>ga z R σ H W ρ _ _ s hw λv H1 W1 d ρ1 F p q=>?_⟩
 cases d with
 | bl c =>
  refine ⟨c,Qds p.rep,?_⟩
  cases c with
  | true=>exact gb z R σ H1 W1 ρ1 Q Q' p.sr q λv2 H2 W2 d2 ρ2 F2 q2 hq=>k v2 H2 W2 d2 ρ2 F2 (p.after q2) hq
  | false=>exact k _ H1 W1 (.bl false) ρ1 [] ⟨p.sr,p.fr,λh=>p.calm (Bool.or_eq_false_iff.mp h).1,.bl false,λ_=>⟨List.nodup_nil,λa m=>nomatch m⟩⟩ q
 | _=>exact q.elim
def Ql2 (wa:WE):WE:=λρ Q=>wa ρ λd ρ1=>match d with
 | .bl c=>Q (.bl (!c)) ρ1
 | _=>False
theorem Qrs (ha:EV X T m o a wa):EV X T m true (.UnaryOp .Not a pos) (Ql2 wa):=by
 obtain ⟨ta,pa,ga⟩:=ha
 refine ⟨_,Qqd pa,λz R σ H W ρ Q Q' s hw k=>ga z R σ H W ρ _ _ s hw λv H1 W1 d ρ1 F p q=>?_⟩
 cases d with
 | bl c=>exact ⟨c,Qds p.rep,k _ H1 W1 (.bl (!c)) ρ1 [] (Post.flat p.sr p.fr p.calm (.bl _)) q⟩
 | _=>exact q.elim
end
end PV
namespace PV
open PySem PySem.Spec L2
theorem Qh8:bootBuiltins "sorted" = some (.builtin "sorted"):=by decide +kernel
theorem J9:bootBuiltins "isinstance" = some (.builtin "isinstance"):=by decide +kernel
theorem G3:bootBuiltins "len" = some (.builtin "len"):=by decide +kernel
theorem Qh9:bootBuiltins "int" = some (.type "int"):=by decide +kernel
theorem Qos:bootBuiltins "bool" = some (.type "bool"):=by decide +kernel
theorem Yh:bootBuiltins "tuple" = some (.type "tuple"):=by decide +kernel
def Qu (w:WE):WE:=λρ Q=>w ρ λd ρ'=>d.pure=true/\Q d ρ'
def Cal (P:Program) (w:World) (K:PySem.W.Frag) (mg:Str->Option Value) (base:Heap) (x:Str) (k:Nat) (ps:List Str) (sp:Sp):Prop :=
 ∃f fd,FnOk P w K mg base CX0 k f fd ps sp/\mg x=some (.ref f)/\PySem.W.keepIn K (.ref f)=true/\Qcg K fd ps []
section
variable {X:Cx} {T:Tg} {m o m0 m1 m2 m3 o1 o2:Bool} {e a b:Expr} {w wa wb we:WE} {pos p2 p:Pos} {es:List Expr} {wr:WA} {x:Str} {wt:WT} {k j:Nat} {ps:List Str}
theorem Qt (h:EV X T m o e w):EV X T m true e (Qu w):=h.lift
theorem Z7 {g:GA} (C:Cal X.prog X.w X.K X.mg X.base x k ps (spR X.K g)) (hr:Room k X.A) (ha:AV X T m o (e::es) wr) (hg:Gl X x:=by rfl)
  (hdb:(x == ("__debug__" : Str))=false:=by decide) (he:starEach (e::es) X.env=(false,eval e X.env)::starEach es X.env:=by rfl) (hpl:(backTo pos (starEach es X.env)).any (·.1)=false:=by rfl) :
  EV X T m true (.Call (.Name x p) (e::es) [] pos) (Qv g wr):=by
 obtain ⟨f,fd,F,h1,h2,h3⟩:=C
 exact Qog F hr h1 h2 h3 ha hg hdb he hpl
theorem Q1 {i q:Nat} {g:GI} {wi:WI} (C:Cal X.prog X.w X.K X.mg X.base x k ps (spI X.K q g)) (hr:Room k X.A) (ha:AI X T m i q (e::es) wi) (ht:T.own i=true:=by rfl) (hg:Gl X x:=by rfl)
  (hdb:(x == ("__debug__" : Str))=false:=by decide) (he:starEach (e::es) X.env=(false,eval e X.env)::starEach es X.env:=by rfl) (hpl:(backTo pos (starEach es X.env)).any (·.1)=false:=by rfl) :
  EV X T true true (.Call (.Name x p) (e::es) [] pos) (Qw i g wi):=by
 obtain ⟨f,fd,F,h1,h2,h3⟩:=C
 exact Qju F hr h1 h2 h3 ha ht hg hdb he hpl
def Qj8 (sc scope:Scope) (N:List Str) (x:Str) (ix:List Nat):Bool :=
 (scope.kind == .function) && scope.names.all (λy=>y.2 != .cell) && scope.names.all (λy=>y.2 != .local || scope.names.lookup y.1 == some .local) && (scope.names.lookup x == some .local) &&
  scope.names.all (λy=>y.2 != .free || (sc.names.lookup y.1 == some .cell || sc.names.lookup y.1 == some .free)) &&
  ix.all (λi=>match N[i]? with | some y=>scope.names.lookup y == some .free | none=>false) && decide (bN N x ix).Nodup
structure CompB (X:Cx) (scope:Scope) (x:Str) (ix:List Nat):Prop where
 B:BlkScope X.env scope x
 hix:∀i∈ix,∃y,X.N[i]? = some y/\scope.names.lookup y=some .free
 hN:(bN X.N x ix).Nodup
theorem Z9 {scope:Scope} {ix:List Nat} (sc:Scope) (N:List Str) (h:Qj8 sc scope N x ix=true) (h1:X.env.scope=sc:=by rfl) (h2:X.N=N:=by rfl):CompB X scope x ix:=by
 subst h1 h2
 simp only [Qj8,Bool.and_eq_true,List.all_eq_true,Bool.or_eq_true,decide_eq_true_eq,beq_iff_eq,bne_iff_ne] at h
 obtain ⟨⟨⟨⟨⟨⟨a1,a2⟩,a3⟩,a4⟩,a5⟩,a6⟩,a7⟩:=h
 refine ⟨⟨a1,a2,λy hy e=>(a3 y hy).resolve_left (λz=>z e),a4,λy hy e=>(a5 y hy).resolve_left (λz=>z e)⟩,λi hi=>?_,a7⟩
 have:=a6 i hi
 cases q:X.N[i]? with
 | none=>rw [q] at this;cases this
 | some y =>
  rw [q] at this
  exact ⟨y,rfl,by simpa using this⟩
theorem Qeg {elt iter:Expr} {px:Pos} {scope:Scope} {ifs:List Expr} {ix:List Nat} (h:X1 X T m elt iter x px scope ifs ix w) (B:CompB X scope x ix) (hc:X.calm=true:=by rfl)
  (hs:∀x,foldedSetIterable iter X.env x=pure x:=by intro _;rfl):EV X T m true (.ListComp elt [⟨.Name x px,iter,ifs,0⟩] scope pos) w:=Qof h B.B B.hix B.hN hc hs
theorem Qdo {elt iter:Expr} {y:Str} {px py spos:Pos} {scope:Scope} {ifs:List Expr} {ix:List Nat} {j:Nat} (h:X1 X T m elt iter x px scope ifs ix w) (B:CompB X scope x ix) (hNd:X.N.Nodup)
  (hj:X.N[j]? = some y:=by rfl) (hy:Loc X.env.scope y:=by first | exact Or.inl rfl | exact Or.inr rfl) (hio:j∉T.io:=by decide)
  (hsw:swapsWith (.ListComp elt [⟨.Name x px,iter,ifs,0⟩] scope pos) (some (.Name y py)) spos.line X.env=pure true:=by rfl)
  (hf:X.fn y=true\/X.env.scope.names.lookup y=some .local:=by first | exact .inl rfl | exact .inr rfl | assumption) (hc:X.calm=true:=by rfl)
  (hs:∀x,foldedSetIterable iter X.env x=pure x:=by intro _;rfl):SV X T (.Assign [.Name y py] (.ListComp elt [⟨.Name x px,iter,ifs,0⟩] scope pos) spos) (wSet j w):=Qmh h B.B hNd B.hix B.hN hj hy hio hsw hf hc hs
end
end PV
namespace PV
open PySem PySem.Spec L2
section
variable {X:Cx} {T:Tg} {m o m0 m1 m2 m3 o1 o2:Bool} {e a b:Expr} {w wa wb we:WE} {pos p2 p:Pos} {es:List Expr} {wr:WA} {x y:Str} {wt:WT} {ws:WS}
def Ql3 (wd wk wx:WE):WE:=λρ Q=>wd ρ λd ρ1=>noDct d=false/\wk ρ1 λk ρ2=>wx ρ2 λx ρ3=>x.pure=true/\Qon d k x λr=>r.pure=true/\Q r ρ3
where noDct:D->Bool
 | .dik _=>false
 | .dit _=>false
 | _=>true
theorem Rep.isD {K:PySem.W.Frag} {H:Hp} {d:D} {v:V} {F:List Addr} (r:Rep K H d v F) (h:Ql3.noDct d=false):∃a,v=.ref a/\IsD H a:=by
 cases r with
 | dik e _=>exact ⟨_,rfl,.inl ⟨_,.of e⟩⟩
 | dit e _=>exact ⟨_,rfl,.inr ⟨_,.of e⟩⟩
 | _=>cases h
end
end PV
namespace PV
open PySem PySem.Spec L2
section
variable {X:Cx} {T:Tg} {m o m0 m1 m2 m3 o1 o2:Bool} {e a b:Expr} {w wa wb we:WE} {pos p2 p:Pos} {es:List Expr} {wr:WA} {x y:Str} {wt:WT} {ws:WS}
end
end PV
namespace PV
open PySem PySem.Spec L2
open PySem.W (Dat kqdP kqdPs kqdOk)
section
variable {X:Cx}
end
end PV
namespace PV
open PySem PySem.Spec L2
section
variable {X:Cx} {T:Tg} {m o m0 m1 m2 m3 o1 o2:Bool} {e a b:Expr} {w wa wb we:WE} {pos p2 p:Pos} {es:List Expr} {wr:WA} {x y:Str} {wt:WT} {ws:WS}
def Y6:G2
 | .int i,.int j,k=>k (.int (i+j))
 | .str x,.str y,k=>x.length+y.length<=sizeLine/\k (.str (x++y))
 | .tup xs,.tup ys,k=>Qj xs=true/\Qj ys=true/\xs.length+ys.length<=sizeLine/\k (.tup (xs++ys))
 | .lst xs,.lst ys,k=>Qj xs=true/\Qj ys=true/\xs.length+ys.length<=sizeLine/\k (.lst (xs++ys))
 | _,_,_=>False
theorem Qkf {a b:D} {k:D->Prop} (g:Y6 a b k):(∃i j,a=.int i/\b=.int j)\/(∃i j,a=.str i/\b=.str j)\/(∃i j,a=.lst i/\b=.lst j)\/∃i j,a=.tup i/\b=.tup j:=by
 cases a with
 | int i=>cases b with
  | int j=>exact .inl ⟨i,j,rfl,rfl⟩
  | _=>exact (show False from g).elim
 | str i=>cases b with
  | str j=>exact .inr (.inl ⟨i,j,rfl,rfl⟩)
  | _=>exact (show False from g).elim
 | lst i=>cases b with
  | lst j=>exact .inr (.inr (.inl ⟨i,j,rfl,rfl⟩))
  | _=>exact (show False from g).elim
 | tup i=>cases b with
  | tup j=>exact .inr (.inr (.inr ⟨i,j,rfl,rfl⟩))
  | _=>cases i <;> exact (show False from g).elim
 | _=>exact (show False from g).elim
theorem Jv:OpD X (binaryOp .Add) Y6:=by
 obtain ⟨r0,o0,g0⟩:=Qqy (X:=X)
 refine ⟨_,OpR.or Qnp o0,λH a b x y F1 F2 k Q ra rb g q=>?_⟩
 rcases Qkf g with ⟨i,j,rfl,rfl⟩ | ⟨i,j,rfl,rfl⟩ | ⟨i,j,rfl,rfl⟩ | ⟨i,ys,rfl,rfl⟩
 ·exact .inr (g0 H _ _ x y F1 F2 k Q ra rb g q)
 ·exact .inr (g0 H _ _ x y F1 F2 k Q ra rb g q)
 ·exact .inr (g0 H _ _ x y F1 F2 k Q ra rb g q)
 ·cases i with
  | nil =>
   cases ra with
   | @tup p _ _ _ e1 r1 =>
    cases r1
    cases rb with
    | @tup p' us _ _ e2 r2=>exact .inl ⟨p,p',us,rfl,rfl,.of e1,.of e2,q _ _ _ _ (.flat (.tup e2 (r2.pure g.2.1).2)) g.2.2.2⟩
  | cons d xs=>exact .inr (g0 H _ _ x y F1 F2 k Q ra rb ⟨g.1,g.2.1,by simp,g.2.2⟩ q)
def dSlT:D->Option Int->Option Int->(D->Prop)->Prop
 | .lst xs,lo,hi,k=>Qj xs=true/\k (.lst (cutD xs lo hi))
 | .kls xs,lo,hi,k=>Qj xs=true/\k (.lst (cutD xs lo hi))
 | .tup xs,lo,hi,k=>Qj xs=true/\k (.tup (cutD xs lo hi))
 | _,_,_,_=>False
theorem Qmo {d:D} {lo hi:Option Int} {k:D->Prop} (g:dSlT d lo hi k):(∃ds,d=.lst ds)\/(∃ds,d=.kls ds)\/∃ds,d=.tup ds:=by
 cases d with
 | lst ds=>exact .inl ⟨ds,rfl⟩
 | kls ds=>exact .inr (.inl ⟨ds,rfl⟩)
 | tup ds=>exact .inr (.inr ⟨ds,rfl⟩)
 | _=>exact (show False from g).elim
theorem Qmn:SlR X (λx lo hi H Q=>(rSlL X.K x lo hi H Q\/rSlT X.K x lo hi H Q)\/rSlW X.K x lo hi H Q):=SlR.or Qpe Qml
def wSlT (w:WE) (wl wh:WO):WE:=λρ Q=>w ρ λd ρ1=>wl ρ1 λlo ρ2=>wh ρ2 λhi ρ3=>dSlT d lo hi λd'=>Q d' ρ3
theorem Qhx {xs:List D} {lo hi:Option Int} (h:HT.sIx xs.length 0 lo=0/\HT.sIx xs.length xs.length hi=xs.length):cutD xs lo hi=xs:=by
 unfold cutD
 rw [h.1,h.2]
 simp
theorem Qhf {lo hi:Option Expr} {wl wh:WO} (he:EV X T m1 o1 e w) (hl:OV X T m2 lo wl) (hh:OV X T m3 hi wh) (hc:o1=true\/(m2 || m3)=false:=by first | exact .inl rfl | exact .inr rfl) :
  EV X T (m1 || (m2 || m3)) true (.Subscript e (.Slice lo hi none p2) pos) (wSlT w wl wh):=by
 obtain ⟨te,pe,ge⟩:=he
 obtain ⟨tl,pl,gl⟩:=hl
 obtain ⟨th,ph,gh⟩:=hh
 refine ⟨_,Qi5 Qmn pe pl ph,λz R σ H W ρ Q Q' s hw k=>?_⟩
 refine ge z R σ H W ρ _ _ s hw λv H1 W1 d ρ1 F p q=>?_
 refine gl z R σ H1 W1 ρ1 _ _ p.sr q λlo H2 W2 ρ2 p2 q2=>?_
 refine gh z R σ H2 W2 ρ2 _ _ p2.sr q2 λhi H3 W3 ρ3 p3 q3=>?_
 have pp:=p2.seq p3
 have r3:Rep X.K H3 d v F:=by
  rcases hc with hc | hc
  ·exact p.rep.keep pp.fr λa h=>((p.own hc).2 a h).2
  ·exact p.rep.same (pp.calm hc).1
 have fin:∀ad d' v' Fn,Fin X.K H3 ad d' v' Fn->Q d' ρ3->Q' v' ad:=λH' d' v' F' fi hq=>by
  refine k v' H' W3 d' ρ3 F' (Post.fin p3.sr (p.fr.trans pp.fr) (λh=>?_) fi.same fi.rep fi.nd fi.new) hq
  rw [Bool.or_eq_false_iff] at h
  obtain ⟨a1,a2,a3⟩:=p.calm h.1
  obtain ⟨b1,b2,b3⟩:=pp.calm h.2
  exact ⟨a1.trans b1,b2.trans a2,b3.trans a3⟩
 have q4:dSlT d lo hi λd'=>Q d' ρ3:=q3
 clear q3
 rcases Qmo q4 with ⟨ds,rfl⟩ | ⟨ds,rfl⟩ | ⟨ds,rfl⟩
 ·have q3:=q4
  cases r3 with
  | @lst a xs _ F e1 r9 =>
   obtain ⟨hp,hq⟩:=q3
   obtain ⟨_,r9⟩:=r9.pure hp
   exact .inl (.inl ⟨a,xs,rfl,.of e1,λl hl=>fin _ _ _ [l] ⟨Qh hl,.lst Qi (r9.cut.same (Qh hl)),by simp,λb m=>by rw [List.mem_singleton.mp m];exact hl⟩ hq⟩)
 ·have q3:=q4
  cases r3 with
  | @kls a xs _ e1 r9 =>
   obtain ⟨hp,hq⟩:=q3
   exact .inl (.inl ⟨a,xs,rfl,e1.sq,λl hl=>fin _ _ _ [l] ⟨Qh hl,.lst Qi (r9.cut.same (Qh hl)),by simp,λb m=>by rw [List.mem_singleton.mp m];exact hl⟩ hq⟩)
 ·have q3:=q4
  cases r3 with
  | @tup a xs _ F e1 r9 =>
   obtain ⟨hp,hq⟩:=q3
   obtain ⟨_,r9⟩:=r9.pure hp
   by_cases hn:HT.sIx ds.length 0 lo=0/\HT.sIx ds.length ds.length hi=ds.length
   ·rw [Qhx hn] at hq
    exact .inr ⟨a,xs,rfl,.of e1,by rw [r9.length];exact hn,fin _ _ _ [] (.flat (.tup e1 r9)) hq⟩
   ·exact .inl (.inr ⟨a,xs,rfl,.of e1,by rw [r9.length];exact hn,λl hl=>fin _ _ _ [] ⟨Qh hl,.tup Qi (r9.cut.same (Qh hl)),by simp,λb m=>nomatch m⟩ hq⟩)
def Qfj (wd wk wx:WE):WE:=λρ Q=>wd ρ λd ρ1=>Ql3.noDct d=false/\wk ρ1 λk ρ2=>wx ρ2 λx ρ3=>Qon d k x λr=>Q r ρ3
theorem Qhh {oe ek ex:Expr} {wd wk wx:WE} {apos cpos:Pos} (hu:X.A.units+1<cLine) (hd:EV X T false o1 oe wd) (hk:EV X T false o2 ek wk) (hx:EV X T false o ex wx)
  (m:M2 X oe "get" apos ek ex cpos:=by exact ⟨rfl,rfl,rfl,rfl⟩):EV X T false false (.Call (.Attribute oe "get" apos) [ek,ex] [] cpos) (Qfj wd wk wx):=by
 obtain ⟨td,pd,gd⟩:=hd
 obtain ⟨tk,pk,gk⟩:=hk
 obtain ⟨tx,px,gx⟩:=hx
 refine ⟨_,Qi9 hu pd pk px m,λz R σ H W ρ Q Q' s hw k=>?_⟩
 refine gd z R σ H W ρ _ _ s hw λv H1 W1 d ρ1 F p ⟨hn,q⟩=>?_
 obtain ⟨sm1,rfl,rfl⟩:=p.calm rfl
 obtain ⟨ad,rfl,isd⟩:=p.rep.isD hn
 refine ⟨ad,rfl,isd,gk z R σ H1 W1 ρ1 _ _ p.sr q λvk H2 W2 kd ρ2 F2 p2 q2=>?_⟩
 obtain ⟨sm2,rfl,rfl⟩:=p2.calm rfl
 refine gx z R σ H2 W2 ρ2 _ _ p2.sr q2 λvx H3 W3 xd ρ3 F3 p3 q=>?_
 obtain ⟨sm3,rfl,rfl⟩:=p3.calm rfl
 have rx:=p3.rep
 have rd:=(p.rep.same sm2).same sm3
 have rk:=p2.rep.same sm3
 have fin:∀(o':Option V) (od:Option D),((od=none/\o'=none)\/∃d v B,od=some d/\o'=some v/\Rep X.K H3 d v B)->Q (od.getD xd) ρ3->Q' (o'.getD vx) H3:=λo' od hh hq=>by
  have sm:Same H H3:=(sm1.trans sm2).trans sm3
  rcases hh with ⟨rfl,rfl⟩ | ⟨dd,v,B,rfl,rfl,r⟩
  ·exact k _ H3 W3 _ ρ3 _ ⟨p3.sr,FrW.same W3 sm,λ_=>⟨sm,rfl,rfl⟩,rx,λh=>nomatch h⟩ hq
  ·exact k _ H3 W3 _ ρ3 _ ⟨p3.sr,FrW.same W3 sm,λ_=>⟨sm,rfl,rfl⟩,r,λh=>nomatch h⟩ hq
 cases rd with
 | @dik a kvs ds G e r =>
  cases kd with
  | int i =>
   have:=Qfu rk;subst this
   refine ⟨valV kvs (.inl i),DGet.k (k:=.inl i) e,fin _ (valD ds (.inl i)) ?_ q⟩
   rcases r.val (.inl i) with h | ⟨d,v,B,h1,h2,h3,_⟩
   ·exact .inl h
   ·exact .inr ⟨d,v,B,h1,h2,h3⟩
  | str i =>
   have:vk=.str i:=by cases rk;rfl
   subst this
   refine ⟨valV kvs (.inr i),DGet.k (k:=.inr i) e,fin _ (valD ds (.inr i)) ?_ q⟩
   rcases r.val (.inr i) with h | ⟨d,v,B,h1,h2,h3,_⟩
   ·exact .inl h
   ·exact .inr ⟨d,v,B,h1,h2,h3⟩
  | _=>exact (show False from q).elim
 | @dit a kvs ds G e r =>
  cases kd with
  | tup l =>
   obtain ⟨ks,hks,q⟩:=Qk q
   cases rk with
   | @tup b xs _ _ eb rb =>
    have hx:=rb.keys hks
    subst hx
    refine ⟨valV kvs ks,DGet.t (k:=ks) e eb,fin _ (valD ds ks) ?_ q⟩
    rcases r.val ks with h | ⟨d,v,B,h1,h2,h3,_⟩
    ·exact .inl h
    ·exact .inr ⟨d,v,B,h1,h2,h3⟩
  | _=>exact (show False from q).elim
 | _=>cases hn
end
end PV
namespace PV
open PySem PySem.Spec L2
section
variable {κ:Type} [DecidableEq κ]
end
section
variable {K:PySem.W.Frag} {H:Hp}
end
section
variable {X:Cx} {T:Tg} {m o m0 m1 m2 m3 o1 o2:Bool} {e a b:Expr} {w wa wb we:WE} {pos p2 p:Pos} {es:List Expr} {wr:WA} {x y:Str} {wt:WT} {ws:WS}
end
end PV
namespace PV
open PySem PySem.Spec L2
section
variable {X:Cx} {T:Tg} {m o m0 m1 m2 m3 o1 o2:Bool} {e a b:Expr} {w wa wb we:WE} {pos p2 p:Pos} {es:List Expr} {wr:WA} {x y:Str} {wt:WT} {ws:WS}
end
end PV
namespace PV
open PySem PySem.Spec L2
section
variable {X:Cx} {T:Tg} {m o m0 m1 m2 m3 o1 o2:Bool} {e a b:Expr} {w wa wb we:WE} {pos p2 p:Pos} {es:List Expr} {wr:WA} {x y:Str} {wt:WT} {ws:WS}
end
end PV
namespace PV
open PySem PySem.Spec L2
section
variable {X:Cx} {T:Tg} {m o m0 m1 m2 m3 o1 o2:Bool} {e a b:Expr} {w wa wb we:WE} {pos p2 p:Pos} {es:List Expr} {wr:WA} {x y:Str} {wt:WT} {ws:WS}
end
end PV
namespace PV
open PySem PySem.Spec L2
section
variable {X:Cx} {T:Tg} {m o:Bool}
end
end PV
namespace PV
open PySem PySem.Spec L2
section
variable {X:Cx} {T:Tg} {m o m0 m1 m2 m3 o1 o2:Bool} {e a b:Expr} {w wa wb we:WE} {pos p2 p:Pos} {es:List Expr} {wr:WA} {x y:Str} {wt:WT} {ws:WS}
end
end PV
namespace PV
open PySem PySem.Spec L2
section
variable {X:Cx} {T:Tg} {m o m0 m1 m2 m3 me o1 o2:Bool} {e a b:Expr} {w wa wb we:WE} {pos p2 p:Pos} {es:List Expr} {wr:WA} {x y:Str} {wt:WT} {ws:WS}
def TB (q:Nat):Tg:={ own:=λi=>i == q,io:=[q] }
def Qdh (i j:Nat) (wl:WL) (we:WE) (ix:List Nat):WE:=λρ Q=>wl ρ λds ρ1=>Qj ds=true/\oget (look ρ1 i) λd0=>Yx d0=true/\∃I:Nat->List D->D->Prop,I 0 [] d0 /\
 (∀k d ys dd,ds[k]? = some d->I k ys dd->ys.length<sizeLine/\we (blkE (ρ1.set i (some dd)) d ix) (λy ρ'=>oget (look ρ' (j+1)) λdd'=>Yx dd'=true/\I (k+1) (ys++[y]) dd')) /\
 ∀ys dd,I ds.length ys dd->ys.length<=sizeLine/\Q (.lst ys) (ρ1.set i (some dd))
theorem Qme {σ:St} {H:Hp} {A B:Hp->Prop} (h:A H):tAll σ H λb H1=>if b=true then A H1 else B H1:=by
 show (if true=true then A H else B H)
 rw [if_pos rfl];exact h
theorem Qj7 {elt iter:Expr} {px:Pos} {scope:Scope} {wl:WL} (ix:List Nat) (i j:Nat) (hi:IV X T m true (.Name x px) iter wl)
  (he:∀cl C s₀ H₀ fp,EV (J8 X scope cl C (bN X.N x ix) s₀ H₀ fp) (TB (j+1)) me true elt we) (hj:ix[j]? = some i:=by rfl) (hnd:ix.Nodup:=by decide) (ht:T.own i=true:=by rfl) :
  X1 X T true elt iter x px scope [] ix (Qdh i j wl we ix):=by
 have hone:∀n,ix[n]? = some i->n=j:=λn hn=>by
  obtain ⟨l1,e1⟩:=List.getElem?_eq_some_iff.mp hn
  obtain ⟨l2,e2⟩:=List.getElem?_eq_some_iff.mp hj
  exact (List.getElem_inj hnd).mp (e1.trans e2.symm)
 obtain ⟨wi,pi,gi⟩:=hi
 refine ⟨wi,_,λσ H Q=>∀cl C s₀ H₀ fp,Classical.choose (he cl C s₀ H₀ fp) σ H Q,pi,λcl C s₀ H₀ fp=>Qd1,
  λcl C s₀ H₀ fp pins s σ H Q I h=>(Classical.choose_spec (he cl C s₀ H₀ fp)).1 pins s σ H Q I (h cl C s₀ H₀ fp),?_⟩
 intro z R σ H W ρ Q Q' s hw k
 refine gi z R σ H W ρ _ _ s hw λJ H1 W1 ds ρ1 p jd q=>?_
 obtain ⟨hpu,q⟩:=q
 obtain ⟨d0,hl0,hf0,I,h0,hI,hd⟩:=Qk q
 obtain ⟨fpp,s1⟩:=id p.sr
 obtain ⟨v0,hv0,r0⟩:=s1.at_ i d0 hl0
 obtain ⟨a,rfl,hF⟩:=r0.flat1 hf0
 rw [hF] at r0
 have hmem:a∈fpp i:=by rw [hF];exact List.mem_singleton.mpr rfl
 have hWa:W1 a:=(s1.own i d0 hl0 ht).2 a hmem
 have hRa:¬R a:=s1.wr a hWa
 obtain ⟨oa,ea,ia⟩:=s1.wd a hWa
 have notin:∀n d,look ρ1 n=some d->n≠i->a∉fpp n:=λn d hn hne ha=>by
  cases hto:T.own n with
  | true=>exact s1.dis i n _ d hl0 hn ht hto (λz=>hne z.symm) a hmem ha
  | false=>exact hRa (s1.ro n d hn hto a ha)
 refine ⟨λn c ys H2=>c=ds.length-n/\n<=ds.length/\(∀b u,H1 b=some u->b≠a->H2 b=some u)/\(∀b,H2 b=none->H1 b=none) /\
  ∃es F dd,Reps X.K H2 es ys F/\F.Nodup/\(∀c∈F,H1 c=none)/\Rep X.K H2 dd (.ref a) [a]/\Yx dd=true/\I n es dd,ds.length,
  ⟨by simp,Nat.zero_le _,λb u e _=>e,λb e=>e,[],[],d0,.nil,List.nodup_nil,(λa m=>(nomatch m)),r0,hf0,h0⟩,?_⟩
 rintro n c ys H2 ⟨rfl,hn,kp,dm,es,F,dd,re,nd,nw,rdd,hfd,i2⟩
 obtain ⟨o2,ea2,ia2⟩:=rdd.dom a (List.mem_singleton.mpr rfl)
 have im12:ImmK H1 H2:=λb ob eb im=>kp b ob eb λz=>by subst z;rw [ea] at eb;cases eb;rw [ia] at im;cases im
 have fr12:FrW H1 (wz true W1) H2 W1:=by
  rw [Qch]
  exact ⟨λb ob eb nb=>kp b ob eb λz=>nb (z ▸ hWa),dm,im12,λb h=>.inl h⟩
 obtain ⟨j1,j2⟩:=jd n H2 W1 fr12
 by_cases hlt:n<ds.length
 ·have hdi:ds[n]? = some ds[n]:=List.getElem?_eq_getElem hlt
  obtain ⟨hgo,hy⟩:=j2 _ hdi
  obtain ⟨hz,q1⟩:=hI n _ es dd hdi i2
  refine .inr ⟨hgo,by rw [re.length];exact hz,λv H3 yl=>?_⟩
  obtain ⟨sm3,Fv,rv,_⟩:=hy v H3 yl
  have hpd:(ds[n]).pure=true:=Zt.mp hpu _ (List.getElem_mem hlt)
  obtain ⟨-,rv⟩:=rv.pure hpd
  have ea3:H3 a=some o2:=sm3 a _ ea2
  have kp3:∀b u,H1 b=some u->b≠a->H3 b=some u:=λb u eb hb=>sm3 b u (kp b u eb hb)
  have im13:ImmK H1 H3:=λb ob eb im=>sm3 b ob (im12 b ob eb im)
  have rdd3:=rdd.same sm3
  refine Qme ?_
  intro cl C s₀ H₀ fp
  have srB:SR X.K (TB (j+1)) (λ_=>.ref a) (λb=>b≠a/\Any H3 b) H3 (λb=>b=a) (bS σ (some v) ix) (blkE (ρ1.set i (some dd)) ds[n] ix):=by
   have slot:∀n',n'≠j->∀q,ix[n']? = some q->q≠i:=λn' hne q hq z=>hne (hone n' (z ▸ hq))
   refine ⟨λn'=>if n'=j+1 then [a] else match n' with | 0=>[] | n''+1=>(ix[n'']?.map fpp).getD [],?_,?_,?_,?_,?_,?_,?_,?_,?_⟩
   ·simp [bS,blkE]
   ·rintro b rfl;exact ⟨o2,ea3,ia2⟩
   ·intro n' d hn'
    cases n' with
    | zero =>
     simp only [blkE,look,Option.some.injEq] at hn'
     subst hn'
     exact ⟨v,rfl,by simpa using rv⟩
    | succ n' =>
     have hn2:look (ix.map (look (ρ1.set i (some dd)))) n'=some d:=hn'
     rw [V3] at hn2
     cases hx:ix[n']? with
     | none=>rw [hx] at hn2;cases hn2
     | some q =>
      rw [hx] at hn2
      have hn2:look (ρ1.set i (some dd)) q=some d:=hn2
      by_cases hjn:n'=j
      ·subst hjn
       rw [hj] at hx
       cases hx
       rw [Zh (Gm hl0)] at hn2
       cases hn2
       refine ⟨.ref a,?_,by rw [if_pos rfl];exact rdd3⟩
       show (ix.map λi=>(σ[i]?).getD none)[n']? = some (some (.ref a))
       rw [List.getElem?_map,hj]
       simp [hv0]
      ·have hqi:=slot n' hjn q hx
       rw [Qr hqi] at hn2
       obtain ⟨u,hu,ru⟩:=s1.at_ q d hn2
       refine ⟨u,?_,?_⟩
       ·show (ix.map λi=>(σ[i]?).getD none)[n']? = some (some u)
        rw [List.getElem?_map,hx]
        simp [hu]
       ·rw [if_neg (by omega)]
        show Rep X.K H3 d u ((ix[n']?.map fpp).getD [])
        rw [hx]
        refine ru.frame im13 λb hb=>?_
        obtain ⟨ob,eb,_⟩:=ru.dom b hb
        rw [eb]
        exact kp3 b ob eb λz=>notin q d hn2 hqi (z ▸ hb)
   ·intro n' d hn' hto
    have:n'=j+1:=by simpa [TB] using hto
    subst this
    rw [if_pos rfl]
    exact ⟨by simp,λb hb=>List.mem_singleton.mp hb⟩
   ·intro n' d hn' hto b hb
    have hne:n'≠j+1:=by simpa [TB] using hto
    rw [if_neg hne] at hb
    cases n' with
    | zero=>cases hb
    | succ n' =>
     have hn2:look (ix.map (look (ρ1.set i (some dd)))) n'=some d:=hn'
     rw [V3] at hn2
     cases hx:ix[n']? with
     | none=>rw [hx] at hn2;cases hn2
     | some q =>
      rw [hx] at hn2
      have hn2:look (ρ1.set i (some dd)) q=some d:=hn2
      have hqi:=slot n' (by omega) q hx
      rw [Qr hqi] at hn2
      have hb:b∈fpp q:=by
       have hb':b∈(ix[n']?.map fpp).getD []:=hb
       rw [hx] at hb';exact hb'
      obtain ⟨u,hu,ru⟩:=s1.at_ q d hn2
      obtain ⟨ob,eb,ib⟩:=ru.dom b hb
      have hba:b≠a:=λz=>notin q d hn2 hqi (z ▸ hb)
      exact ⟨hba,ob,kp3 b ob eb hba,ib⟩
   ·rintro b rfl ⟨h,_⟩;exact h rfl
   ·exact λb h=>h.2
   ·intro n1 n2 d1 d2 _ _ t1 t2 hne
    have e1:n1=j+1:=by simpa [TB] using t1
    have e2:n2=j+1:=by simpa [TB] using t2
    exact absurd (e1.trans e2.symm) hne
   ·intro n' hn'
    have:n'=j+1:=by simpa [TB] using hn'
    subst this
    show (ix.map λi=>(σ[i]?).getD none)[j]? = some (some (.ref a))
    rw [List.getElem?_map,hj]
    simp [hv0]
  refine (Classical.choose_spec (he cl C s₀ H₀ fp)).2 _ _ _ _ _ _ _ _ srB q1 λu H5 W5 y ρ5 Fy p5 q5=>?_
  obtain ⟨dd',hl5,hf5,q5⟩:=Qk q5
  obtain ⟨ny,ky⟩:=p5.own rfl
  have kp5:∀b u,H3 b=some u->b≠a->H5 b=some u:=λb u eb hb=>p5.fr.keep b u eb hb
  obtain ⟨fp5,s5⟩:=p5.sr
  obtain ⟨u5,hu5,r5⟩:=s5.at_ (j+1) dd' hl5
  have hfx:=s5.fix (j+1) (by simp [TB])
  rw [hu5] at hfx
  cases hfx
  obtain ⟨a5,e5,hF5⟩:=r5.flat1 hf5
  cases e5
  rw [hF5] at r5
  have im25:ImmK H2 H5:=λb ob eb im=>by
   have hba:b≠a:=λz=>by subst z;rw [ea2] at eb;cases eb;rw [ia2] at im;cases im
   exact kp5 b ob (sm3 b ob eb) hba
  have re5:Reps X.K H5 es ys F:=re.frame im25 λc hc=>by
   obtain ⟨ob,ec,_⟩:=re.dom c hc
   have hca:c≠a:=λz=>by subst z;rw [nw c hc] at ea;cases ea
   rw [ec]
   exact kp5 c ob (sm3 c ob ec) hca
  have dm3:∀b,H3 b=none->H1 b=none:=λb eb=>dm b (sm3.free eb)
  refine ⟨ds.length-(n+1),by omega,rfl,hlt,λb ub eb hb=>kp5 b ub (kp3 b ub eb hb) hb,λb eb=>dm3 b (p5.fr.dom b eb),es++[y],F++Fy,dd',re5.snoc p5.rep,Vz nd ny λc hc hf=>?_,λc hc=>?_,r5,hf5,q5⟩
  ·obtain ⟨ob,e1,_⟩:=(re.same sm3).dom c hf
   rw [(ky c hc).1] at e1;cases e1
  ·rcases List.mem_append.mp hc with hc | hc
   ·exact nw c hc
   ·exact dm3 c (ky c hc).1
 ·have e:n=ds.length:=by omega
  subst e
  obtain ⟨hz,q1⟩:=hd es dd i2
  refine .inl ⟨j1 (Nat.le_refl _),by rw [re.length];exact hz,λl hl=>?_⟩
  have hl1:H1 l=none:=dm l hl
  have hla:l≠a:=λz=>by subst z;rw [hl1] at ea;cases ea
  have kpl:∀b u,H1 b=some u->b≠a->upd H2 l (.lst ys) b=some u:=λb u eb hb=>by
   rw [Ql (Qx eb hl1)];exact kp b u eb hb
  have rddl:Rep X.K (upd H2 l (.lst ys)) dd (.ref a) [a]:=rdd.same (Qh hl)
  have hnew:∃ob,upd H2 l (.lst ys) a=some ob/\imm ob=false:=⟨o2,by rw [Ql (Ne.symm hla)];exact ea2,ia2⟩
  have sN:=s1.write (H':=upd H2 l (.lst ys)) (d':=dd) (F':=[a]) hl0 ht hv0 hmem kpl hnew rddl (by simp) (λb hb=>.inl (by rw [hF];exact hb))
  have fN:=p.fr.write (H':=upd H2 l (.lst ys)) (F':=[a]) hWa ⟨oa,ea,ia⟩ kpl hnew (λb hb=>.inl (by rw [List.mem_singleton.mp hb];exact hWa))
  refine k _ _ _ (.lst es) _ (l::F) ⟨sN,fN,(λh=>nomatch h),.lst Qi (re.same (Qh hl)),λ_=>⟨List.nodup_cons.mpr ⟨λh=>?_,nd⟩,λb hb=>?_⟩⟩ q1
  ·obtain ⟨ob,e1,_⟩:=re.dom l h
   rw [hl] at e1;cases e1
  ·have hb1:H1 b=none:=by
    rcases List.mem_cons.mp hb with rfl | hb
    ·exact hl1
    ·exact nw b hb
   refine ⟨p.fr.dom _ hb1,λhw=>?_⟩
   rcases hw with hw | hw
   ·exact p.sr.nw hb1 hw
   ·rw [List.mem_singleton.mp hw] at hb1
    rw [hb1] at ea;cases ea
end
end PV
namespace PV
open PySem PySem.Spec L2
open PyProof.Rows (envOfC)
def spJ (K:PySem.W.Frag) (p:Nat) (g:GI):Sp:=λvs H Q _=>∃(pre post:List D) (d0:D) (xs ys:List V) (a:Addr) (A C:List Addr) (k:D->D->Prop),vs=xs ++ .ref a::ys/\xs.length=p /\
 Reps K H pre xs A/\Rep K H d0 (.ref a) [a]/\Yx d0=true/\Reps K H post ys C/\a∉A/\a∉C/\g (pre++d0::post) k /\
 ∀v H' d d' F',Rep K H' d' (.ref a) [a]->Rep K H' d v F'->F'.Nodup->(∀b∈F',H b=none)->(∀b o,H b=some o->b≠a->H' b=some o)->k d d'->Q v H'
section
variable {X:Cx} {T:Tg} {m o m0 m1 m2 m3 o1 o2:Bool} {e a b:Expr} {w wa wb we:WE} {pos p2 p:Pos} {es:List Expr} {wr:WA} {x y:Str} {wt:WT} {ws:WS} {k:Nat} {ps:List Str}
def Qcf (σ:St) (i:Nat) (C:List Addr):Prop:=∀a,σ[i]? = some (some (.ref a))->a∉C
def HasF (ρ:Env) (i:Nat):Prop:=∃d0,look ρ i=some d0/\Yx d0=true
def AN (X:Cx) (T:Tg) (i:Nat) (es:List Expr) (w:WA):Prop :=
 ∃ta,PA X es ta/\∀(z:Nat->V) (R:Addr->Prop) (σ:St) (H:Hp) (W:Addr->Prop) (ρ:Env) (Q:List D->Env->Prop) (Q':List V->Hp->Prop),SR X.K T z R H W σ ρ->HasF ρ i->w ρ Q ->
  (∀vs H' ds C,Same H H'->Reps X.K H' ds vs C->Qcf σ i C->Q ds ρ->Q' vs H')->ta σ H Q'
theorem Qlv {i:Nat}:AN X T i [] wNil:=⟨_,Qgg,λz R σ H W ρ Q Q' s hf hw k=>k [] H [] [] (Same.refl H) .nil (λa _ m=>nomatch m) hw⟩
theorem SR.varAt {K:PySem.W.Frag} {z:Nat->V} {R:Addr->Prop} {H:Hp} {W:Addr->Prop} {σ:St} {ρ:Env} {i n:Nat} {d:D} (s:SR K T z R H W σ ρ) (hf:HasF ρ i) (ti:T.own i=true) (hn:n≠i) (hl:look ρ n=some d) :
  ∃v C,σ[n]? = some (some v)/\Rep K H d v C/\Qcf σ i C:=by
 obtain ⟨fp,s0⟩:=s
 obtain ⟨v,h1,h2⟩:=s0.at_ n d hl
 refine ⟨v,fp n,h1,h2,λa ha hc=>?_⟩
 obtain ⟨d0,hl0,hf0⟩:=hf
 obtain ⟨v0,hv0,r0⟩:=s0.at_ i d0 hl0
 obtain ⟨a0,rfl,hF⟩:=r0.flat1 hf0
 rw [hv0] at ha
 cases ha
 have hm:a∈fp i:=by rw [hF];exact List.mem_singleton.mpr rfl
 cases hto:T.own n with
 | true=>exact s0.dis i n _ _ hl0 hl ti hto (λz=>hn z.symm) a hm hc
 | false=>exact s0.wr a ((s0.own i d0 hl0 ti).2 a hm) (s0.ro n d hl hto a hc)
theorem Qcf.app {σ:St} {i:Nat} {A C:List Addr} (h:Qcf σ i A) (h':Qcf σ i C):Qcf σ i (A++C):=λa e m=>(List.mem_append.mp m).elim (h a e) (h' a e)
def AJ (X:Cx) (T:Tg) (i p:Nat) (es:List Expr) (w:WI):Prop :=
 ∃ta,PA X es ta/\∀(z:Nat->V) (R:Addr->Prop) (σ:St) (H:Hp) (W:Addr->Prop) (ρ:Env) (Q:List D->List D->Env->Prop) (Q':List V->Hp->Prop),SR X.K T z R H W σ ρ->HasF ρ i->w ρ Q ->
  (∀v xs ys H' pre post A C,Same H H'->σ[i]? = some (some v)->Reps X.K H' pre xs A->Reps X.K H' post ys C->Qcf σ i A->Qcf σ i C->xs.length=p->Q pre post ρ->Q' (xs++v::ys) H')->ta σ H Q'
def Qay (wr:WA):WI:=λρ Q=>wr ρ λds ρ'=>Q [] ds ρ'
theorem Qid {i:Nat} (hr:AN X T i es wr) (hN:X.N[i]? = some x:=by rfl) (hv:Vis X.env.scope x:=by first | exact Or.inl rfl | exact Or.inr (Or.inl rfl) | exact Or.inr (Or.inr rfl)) (hd:(x == ("__debug__" : Str))=false:=by decide)
  (hcd:(x == ("__classdict__" : Str))=false:=by decide) (hs:starEach (.Name x p::es) X.env=(false,eval (.Name x p) X.env)::starEach es X.env:=by rfl):AJ X T i 0 (.Name x p::es) (Qay wr):=by
 obtain ⟨ta,pa,ga⟩:=hr
 refine ⟨_,Ve (Vy hN hv hd hcd) pa hs,λz R σ H W ρ Q Q' s hf hw k=>?_⟩
 obtain ⟨d,hl,_⟩:=id hf
 obtain ⟨fp,s0⟩:=id s
 obtain ⟨v,hv',_⟩:=s0.at_ i d hl
 refine ⟨v,hv',ga z R σ H W ρ _ _ s hf hw λvs H1 ds C sm rp na q=>?_⟩
 exact k v [] vs H1 [] ds [] C sm hv' .nil rp (λa _ m=>nomatch m) na rfl q
def Zj (w:WE) (wi:WI):WI:=λρ Q=>w ρ λd ρ1=>wi ρ1 λpre post ρ2=>Q (d::pre) post ρ2
theorem Xz {i q:Nat} {wi:WI} (n:Nat) (hr:AJ X T i q es wi) (ti:T.own i=true:=by rfl) (hni:n≠i:=by decide) (hN:X.N[n]? = some x:=by rfl) (hv:Vis X.env.scope x:=by first | exact Or.inl rfl | exact Or.inr (Or.inl rfl) | exact Or.inr (Or.inr rfl)) (hd:(x == ("__debug__" : Str))=false:=by decide)
  (hcd:(x == ("__classdict__" : Str))=false:=by decide) (hs:starEach (.Name x p::es) X.env=(false,eval (.Name x p) X.env)::starEach es X.env:=by rfl):AJ X T i (q+1) (.Name x p::es) (Zj (wVar n) wi):=by
 obtain ⟨ta,pa,ga⟩:=hr
 refine ⟨_,Ve (Vy hN hv hd hcd) pa hs,λz R σ H W ρ Q Q' s hf hw k=>?_⟩
 have hw:wVar n ρ λd ρ1=>wi ρ1 λpre post ρ2=>Q (d::pre) post ρ2:=hw
 unfold wVar at hw
 cases hl:look ρ n with
 | none=>rw [hl] at hw;exact hw.elim
 | some d =>
  rw [hl] at hw
  obtain ⟨v,C,h1,h2,h3⟩:=s.varAt hf ti hni hl
  refine ⟨v,h1,ga z R σ H W ρ _ _ s hf hw λv' xs ys H1 pre post A C' sm hv' rp rq na nc hl' q=>?_⟩
  exact k v' (v::xs) ys H1 (d::pre) post (C++A) C' sm hv' (.cons (h2.same sm) rp) rq (h3.app na) nc (by simp [hl']) q
theorem Qic {i q:Nat} {wi:WI} (he:EV X T false o e w) (hr:AJ X T i q es wi) (hs:starEach (e::es) X.env=(false,eval e X.env)::starEach es X.env:=by rfl):AJ X T i (q+1) (e::es) (Zj (Qu w) wi):=by
 obtain ⟨te,pe,ge⟩:=he
 obtain ⟨ta,pa,ga⟩:=hr
 refine ⟨_,Ve pe pa hs,λz R σ H W ρ Q Q' s hf hw k=>?_⟩
 refine ge z R σ H W ρ _ _ s hw λv1 H1 W1 d1 ρ1 F1 p q1=>?_
 obtain ⟨c1,rfl,rfl⟩:=p.calm rfl
 obtain ⟨hp,q1⟩:=q1
 obtain ⟨-,r1⟩:=p.rep.pure hp
 refine ga z R σ H1 _ _ _ _ p.sr hf q1 λv' xs ys H2 pre post A C sm hv' rp rq na nc hl' q=>?_
 exact k v' (v1::xs) ys H2 (d1::pre) post ([]++A) C (c1.trans sm) hv' (.cons (r1.same sm) rp) rq na nc (by simp [hl']) q
def Qa1 (i:Nat) (g:GI) (wi:WI):WE:=λρ Q=>oget (look ρ i) λd0=>Yx d0=true/\wi ρ λpre post ρ1=>g (pre++d0::post) λd d'=>Q d (ρ1.set i (some d'))
theorem Qbx {i q:Nat} {g:GI} {wi:WI} (C:Cal X.prog X.w X.K X.mg X.base x k ps (spJ X.K q g)) (hr:Room k X.A) (ha:AJ X T i q (e::es) wi) (ht:T.own i=true:=by rfl) (hg:Gl X x:=by rfl)
  (hdb:(x == ("__debug__" : Str))=false:=by decide) (he:starEach (e::es) X.env=(false,eval e X.env)::starEach es X.env:=by rfl) (hpl:(backTo pos (starEach es X.env)).any (·.1)=false:=by rfl) :
  EV X T true true (.Call (.Name x p) (e::es) [] pos) (Qa1 i g wi):=by
 obtain ⟨f,fd,F,hm,hk,hb⟩:=C
 obtain ⟨ta,pa,ga⟩:=ha
 refine ⟨_,Qcq F hr hg hm hk hb .nil Qnj pa hdb he hpl,λz R σ H W ρ Q Q' s hw k=>?_⟩
 obtain ⟨d0,hd,hf,hw⟩:=Qk hw
 refine ga z R σ H W ρ _ _ s ⟨d0,hd,hf⟩ hw λv xs ys H1 pre post A C sm hv rp rq na nc hl q=>?_
 obtain ⟨fp,s1⟩:=id (s.same sm)
 obtain ⟨v',hv',r0⟩:=s1.at_ i d0 hd
 have:v'=v:=by rw [hv] at hv';cases hv';rfl
 subst this
 obtain ⟨a,rfl,hF⟩:=r0.flat1 hf
 rw [hF] at r0
 have sw:=(s1.own i d0 hd ht).2
 have hWa:W a:=sw a (by rw [hF];exact List.mem_singleton.mpr rfl)
 refine ⟨pre,post,d0,xs,ys,a,A,C,_,by rw [List.append_nil],hl,rp,r0,hf,rq,na a hv,nc a hv,q,λv H' d d' F' rd' rd nd new kp hk=>?_⟩
 obtain ⟨oa,ea,ia⟩:=s1.wd a hWa
 have hnew:∃ob,H' a=some ob/\imm ob=false:=rd'.dom a (List.mem_singleton.mpr rfl)
 have nd1:([a]:List Addr).Nodup:=by simp
 have sN:=s1.write (H':=H') (d':=d') (F':=[a]) hd ht hv' (by rw [hF];exact List.mem_singleton.mpr rfl) (λb u e n=>kp b u e n) hnew rd' nd1 (λb hb=>.inl (by rw [hF];exact hb))
 have fN:=(FrW.same W sm).write (H':=H') (F':=[a]) hWa ⟨oa,ea,ia⟩ (λb u e n=>kp b u e n) hnew (λb hb=>.inl (by rw [List.mem_singleton.mp hb];exact hWa))
 refine k v H' _ d _ F' ⟨sN,fN,(λh=>nomatch h),rd,λ_=>⟨nd,λb hb=>⟨sm.free (new b hb),λhw=>?_⟩⟩⟩ hk
 rcases hw with hw | hw
 ·obtain ⟨ob,eb,_⟩:=s1.wd b hw
  rw [new b hb] at eb;cases eb
 ·rw [List.mem_singleton.mp hw] at hb
  rw [new a hb] at ea;cases ea
end
section
variable {K:PySem.W.Frag} {x:Str} {qual:Str} {st:Stmt} {f:Addr} {fd:FuncData} {N ps:List Str} {T:Tg} {P:Program} {w:World} {mg:Str->Option Value} {base:Heap} {k:Nat} {ww:WS}
theorem Qrp {p:Nat} {g:GI} (F:Fun K x qual st f fd) (S:FnScope N ps (Qc st)) (hio:T.io=[p]) (hown:∀i,i<ps.length->T.own i=(i == p)) (hg:∀ds kk,g ds kk->ds.length=ps.length)
  (hp:p<ps.length)
  (hb:∀(cdv:Value) (A:Around) (outer:List PySem.Env) (s:Shared) (H:Hp) (E:XK),Room k (A.deeper (envOfC qual (Qc st) s.heap.objs.size f cdv))->SVs (cxOf CX0 P w K mg base N qual (Qc st) f cdv A outer s H E).nox T (Qq st) ww)
  (hr:∀ds kk,g ds kk->ww { nx:=λρ=>oget (look ρ p) λd'=>Yx d'=true/\kk .non d',rt:=λd ρ=>oget (look ρ p) λd'=>Yx d'=true/\kk d d' } (env0 N ds)):FnOk P w K mg base CX0 (k+1) f fd ps (spJ K p g):=by
 refine F.ok S (λvs H Q E h=>?_) (λcdv A outer s H vs Q E hroom h=>?_)
 ·obtain ⟨pre,post,d0,xs,ys,a,A,C,kk,rfl,hxs,rp,r0,hf0,rq,na,nc,hgk,q⟩:=h
  have:=hg _ kk hgk
  have l1:=rp.length
  have l2:=rq.length
  simp only [List.length_append,List.length_cons] at this ⊢
  omega
 ·obtain ⟨pre,post,d0,xs,ys,a,A,C,kk,rfl,hxs,rp,r0,hf0,rq,na,nc,hgk,q⟩:=h
  obtain ⟨ts,pts,gts⟩:=hb cdv _ outer s H E hroom
  have hds:=hg _ kk hgk
  have l1:=rp.length
  have l2:=rq.length
  have hpl:pre.length=p:=by omega
  have hp0:(xs++V.ref a::ys)[p]? = some (.ref a):=by rw [List.getElem?_append_right (by omega),show p-xs.length=0 by omega];rfl
  have hd0:(pre++d0::post)[p]? = some d0:=by rw [List.getElem?_append_right (by omega),show p-pre.length=0 by omega];rfl
  have hown_p:T.own p=true:=by rw [hown p hp];simp
  have oth:∀i,∃B:List Addr,∀d,i≠p->(pre++d0::post)[i]? = some d->∃v,(xs++V.ref a::ys)[i]? = some v/\Rep K H d v B/\a∉B:=λi=>by
   cases hd:(pre++d0::post)[i]? with
   | none=>exact ⟨[],λd _ h=>nomatch h⟩
   | some d =>
    by_cases hne:i=p
    ·exact ⟨[],λd h _=>absurd hne h⟩
    ·rcases Nat.lt_or_gt_of_ne hne with h | h
     ·rw [List.getElem?_append_left (by omega)] at hd
      obtain ⟨v,B,h1,h2,h3⟩:=rp.get hd
      refine ⟨B,λd' _ hd'=>?_⟩
      cases hd'
      exact ⟨v,by rw [List.getElem?_append_left (by omega)];exact h1,h2,λm=>na (h3.subset m)⟩
     ·rw [List.getElem?_append_right (by omega),show i-pre.length=(i-pre.length-1)+1 by omega,List.getElem?_cons_succ] at hd
      obtain ⟨v,B,h1,h2,h3⟩:=rq.get hd
      refine ⟨B,λd' _ hd'=>?_⟩
      cases hd'
      exact ⟨v,by rw [List.getElem?_append_right (by omega),show i-xs.length=(i-pre.length-1)+1 by omega,List.getElem?_cons_succ];exact h1,h2,λm=>nc (h3.subset m)⟩
  obtain ⟨fpo,hfpo⟩:=Classical.skolem.mp oth
  obtain ⟨oa,ea,ia⟩:=r0.dom a (List.mem_singleton.mpr rfl)
  have fin:∀R' v σ' H' W' ρ' d F',SR K T (λ_=>.ref a) R' H' W' σ' ρ'->FrW H (λb=>b=a) H' W'->Rep K H' d v F'->F'.Nodup->(∀b∈F',¬W' b/\(b=a\/H b=none))->(oget (look ρ' p) λd'=>Yx d'=true/\kk d d')->Q v H':=λR' v σ' H' W' ρ' d F' s' fr r nd nw hk=>by
   obtain ⟨d',hl',hf',hk⟩:=Qk hk
   obtain ⟨fp,s0⟩:=s'
   obtain ⟨u,hu,ru⟩:=s0.at_ p d' hl'
   have hfx:=s0.fix p (by rw [hio];exact List.mem_singleton.mpr rfl)
   rw [hu] at hfx
   cases hfx
   obtain ⟨a'',e1,e2⟩:=ru.flat1 hf'
   cases e1
   rw [e2] at ru
   have hWa:W' a:=(s0.own p d' hl' hown_p).2 a (by rw [e2];exact List.mem_singleton.mpr rfl)
   refine q v H' d d' F' ru r nd (λb hb=>?_) (λb o e hne=>fr.keep b o e hne) hk
   rcases (nw b hb).2 with h | h
   ·exact absurd hWa (by rw [← h];exact (nw b hb).1)
   ·exact h
  have hlen:(xs++V.ref a::ys).length=ps.length:=by simp only [List.length_append,List.length_cons] at hds ⊢;omega
  have own_p:∀i d,look (env0 N (pre++d0::post)) i=some d->T.own i=true->i=p:=λi d hli ht=>by
   unfold env0 at hli
   rw [J3] at hli
   have hlt:=(List.getElem?_eq_some_iff.mp hli).1
   rw [hown i (by omega)] at ht
   simpa using ht
  refine ⟨ts,pts,gts (λ_=>.ref a) (λb=>b≠a/\Any H b) (L2.start N (xs++V.ref a::ys)) H (λb=>b=a) (env0 N (pre++d0::post)) _ _ ⟨λi=>if i=p then [a] else fpo i,?_,?_,?_,?_,?_,?_,?_,?_,?_⟩ (hr _ kk hgk) ⟨?_,?_,?_,?_,λ_ _ _ _ _ _ _ _ hk=>hk.elim⟩⟩
  ·unfold env0 L2.start;simp [l1,l2]
  ·rintro b rfl;exact ⟨oa,ea,ia⟩
  ·intro i d hli
   unfold env0 at hli
   rw [J3] at hli
   by_cases hip:i=p
   ·subst hip
    rw [hd0] at hli;cases hli
    exact ⟨.ref a,Jx hp0,by rw [if_pos rfl];exact r0⟩
   ·obtain ⟨v,h1,h2,_⟩:=hfpo i d hip hli
    exact ⟨v,Jx h1,by rw [if_neg hip];exact h2⟩
  ·intro i d hli ht
   have hip:=own_p i d hli ht
   rw [if_pos hip];exact ⟨by simp,λb hb=>List.mem_singleton.mp hb⟩
  ·intro i d hli ht b hb
   have hip:i≠p:=λz=>by subst z;rw [hown_p] at ht;cases ht
   rw [if_neg hip] at hb
   unfold env0 at hli
   rw [J3] at hli
   obtain ⟨v,h1,h2,h3⟩:=hfpo i d hip hli
   exact ⟨λz=>h3 (z ▸ hb),h2.dom b hb⟩
  ·rintro b rfl ⟨h,_⟩;exact h rfl
  ·exact λb h=>h.2
  ·intro i j d e hi hj ti tj hne
   exact absurd ((own_p i d hi ti).trans (own_p j e hj tj).symm) hne
  ·intro i hi
   rw [hio] at hi
   rw [List.mem_singleton.mp hi]
   exact Jx hp0
  ·exact λR' σ' H' W' ρ' s' fr hk=>fin R' .non σ' H' W' ρ' .non [] s' fr .non List.nodup_nil (λb hb=>nomatch hb) hk
  ·exact λR' σ' H' W' ρ' s' fr hk=>hk.elim
  ·exact λR' σ' H' W' ρ' s' fr hk=>hk.elim
  ·exact λR' v σ' H' W' ρ' d F' s' fr r nd nw hk=>fin R' v σ' H' W' ρ' d F' s' fr r nd nw hk
end
end PV
namespace L2
open PySem PySem.Spec PyProof.Rows
section
variable {X:Cx} {es:List Expr} {t:TA} {pos:Pos}
def Qsh (t:TA):TE:=λσ H Q=>t σ H λxs H1=>xs.length<=sizeLine/\∀p o,H1 p=none->Q (.ref p) (upd H1 p (.frz o (.lst xs)))
theorem Qnf (h:PA X es t):PE X (.List es pos) (Qsh t):=by
 intro pins s σ H Q I hq
 refine wpAny_List_spliced (thn (h pos pins s σ H _ I hq) λus s1 ⟨xs,H1,I1,r,z,q⟩=>⟨by rw [← r.length];exact z,?_⟩)
 have hf:H1 s1.heap.objs.size=none:=I1.hok.fresh (Nat.le_refl _)
 refine ⟨.ref s1.heap.objs.size,upd H1 s1.heap.objs.size (.frz { cls:=.type "list",data:=.seq us.toArray } (.lst xs)),I1.laid (t':=s1.toks) (λb u e=>Heap.get?_push_of_some _ e) (Nat.le_refl _) ?_,rfl,q _ _ hf⟩
 exact ⟨Heap.get?_push_size _ rfl,z,us,0,r,Heap.get?_push_size _ rfl⟩
end
end L2
namespace PV
open PySem PySem.Spec L2
section
variable {X:Cx} {T:Tg} {m o m0 m1 m2 m3 me o1 o2:Bool} {e a b:Expr} {w wa wb we:WE} {pos p2 p:Pos} {es:List Expr} {wr:WA} {x y:Str} {wt:WT} {ws:WS}
def dAll:GA
 | [.lst ds],k=>∃bs:List Bool,ds=bs.map D.bl/\k (.bl (bs.all id))
 | _,_=>False
def Qsb (wr:WA):WE:=λρ Q=>wr ρ λds ρ'=>Qj ds=true/\ds.length<=sizeLine/\Q (.fls ds) ρ'
theorem Qtq (h:AV X T m o es wr):EV X T m true (.List es pos) (Qsb wr):=by
 obtain ⟨ta,pa,ga⟩:=h
 refine ⟨_,Qnf pa,λz R σ H W ρ Q Q' s hw k=>?_⟩
 refine ga z R σ H W ρ _ _ s hw λvs H1 W1 ds ρ1 F p q=>?_
 obtain ⟨hp,hz,q⟩:=q
 obtain ⟨-,r⟩:=p.rep.pure hp
 exact ⟨by rw [p.rep.length];exact hz,λa ob ha=>k _ _ W1 (.fls ds) ρ1 [] (Post.fin p.sr p.fr p.calm (Qh ha) (.fls Qi (r.same (Qh ha))) List.nodup_nil (λb m=>nomatch m)) q⟩
def U4 (xs ys:List D):List D:=(xs.zip ys).map λp=>.tup [p.1,p.2]
def Qkj (ds:List D) (k:List D->Prop):Prop:=match ds with
 | [.tup xs,.tup ys]=>Qj xs=true/\Qj ys=true/\k (U4 xs ys)
 | _=>False
def Ql0 (wr:WA):WL:=λρ Q=>wr ρ λds ρ'=>Qkj ds λl=>Q l ρ'
theorem Qn4 {kt:Nat} {pt:Pos} {ts:List Expr} (hm:X.mg "zip" = none) (ha:AV X T m o [a,b] wr) (hg:Gl X "zip":=by rfl) (hs:starEach [a,b] X.env=[(false,eval a X.env),(false,eval b X.env)]:=by rfl)
  (hs2:starEach [b] X.env=[(false,eval b X.env)]:=by rfl):IV X T m true (.Tuple ts kt pt) (.Call (.Name "zip" p) [a,b] [] pos) (Ql0 wr):=by
 obtain ⟨ta,pa,ga⟩:=ha
 refine ⟨_,Qnd hg hm pa hs hs2,λz R σ H W ρ Q RR s hw k=>?_⟩
 refine ga z R σ H W ρ _ _ s hw λvs H1 W1 ds ρ1 F p q=>?_
 have rp:=p.rep
 match ds,rp,q with
 | [.tup xs,.tup ys],rp,q =>
  obtain ⟨hp1,hp2,q⟩:=q
  obtain ⟨v,u,F1,F2,rfl,r1,r2⟩:=rp.at2
  cases r1 with
  | @tup a1 us1 _ _ e1 q1 =>
   cases r2 with
   | @tup a2 us2 _ _ e2 q2 =>
    obtain ⟨-,q1⟩:=q1.pure hp1
    obtain ⟨-,q2⟩:=q2.pure hp2
    refine ⟨a1,a2,us1,us2,rfl,.of e1,.of e2,k _ H1 W1 (U4 xs ys) ρ1 ⟨p.sr,p.fr,p.calm⟩ (λi H2 W2 fr=>?_) q⟩
    have e1':H2 a1=some (.tup us1):=fr.imm a1 _ e1 rfl
    have e2':H2 a2=some (.tup us2):=fr.imm a2 _ e2 rfl
    have l1:=q1.length
    have l2:=q2.length
    have hlen:(U4 xs ys).length=min xs.length ys.length:=by simp [U4]
    refine ⟨λhi=>⟨us1,us2,.of e1',.of e2',by rw [hlen] at hi;omega⟩,λd hd=>?_⟩
    unfold U4 at hd
    rw [List.getElem?_map] at hd
    cases hq:(xs.zip ys)[i]? with
    | none=>rw [hq] at hd;cases hd
    | some pr =>
     rw [hq] at hd
     cases hd
     obtain ⟨hx,hy⟩:=List.getElem?_zip_eq_some.mp hq
     obtain ⟨v1,B1,g1,g2,g3⟩:=q1.get hx
     obtain ⟨v2,B2,f1,f2,f3⟩:=q2.get hy
     have:=List.sublist_nil.mp g3
     subst this
     have:=List.sublist_nil.mp f3
     subst this
     refine ⟨⟨us1,us2,v1,v2,.of e1',.of e2',g1,f1⟩,λv H3 yl=>?_⟩
     obtain ⟨x',y',pp,h1,h2,rfl,h3,rfl⟩:=yl us1 us2 (.of e1') (.of e2')
     rw [g1] at h1
     rw [f1] at h2
     cases h1
     cases h2
     refine ⟨Qh h3,[],.tup Qi ?_,λa m=>nomatch m⟩
     have rr1:Rep X.K (upd H2 pp (.tup [v1,v2])) pr.1 v1 []:=(g2.keep fr λa m=>nomatch m).same (Qh h3)
     have rr2:Rep X.K (upd H2 pp (.tup [v1,v2])) pr.2 v2 []:=(f2.keep fr λa m=>nomatch m).same (Qh h3)
     exact .cons (F:=[]) (G:=[]) rr1 (.cons (F:=[]) (G:=[]) rr2 .nil)
def Vm (ρ:Env) (d1 d2:D) (ix:List Nat):Env:=some d1::some d2::ix.map (look ρ)
def two2 (d:D) (k:D->D->Prop):Prop:=match d with
 | .tup [a,b]=>k a b
 | .kc (.tup [a,b])=>k (kcD a) (kcD b)
 | _=>False
theorem two2_rep {K:PySem.W.Frag} {H:Hp} {d:D} {v:V} {F:List Addr} {k:D->D->Prop} (r:Rep K H d v F) (q:two2 d k):∃av v1 v2 d1 d2 F1 F2,v=.ref av/\SqT K H av [v1,v2]/\Rep K H d1 v1 F1/\Rep K H d2 v2 F2/\k d1 d2:=by
 cases r with
 | @tup a xs ds F e r =>
  match ds,r,q with
  | [d1,d2],r,q =>
   obtain ⟨v1,v2,F1,F2,rfl,r1,r2⟩:=r.at2
   exact ⟨a,v1,v2,d1,d2,F1,F2,rfl,.of e,r1,r2,q⟩
 | @kc c v h =>
  match c,h,q with
  | .tup [d1,d2],h,q =>
   obtain ⟨a,xs,rfl,hs,ar⟩:=h.sqT
   have r:Reps K H [kcD d1,kcD d2] xs []:=ar.reps
   obtain ⟨v1,v2,F1,F2,rfl,r1,r2⟩:=r.at2
   exact ⟨a,v1,v2,kcD d1,kcD d2,F1,F2,rfl,hs H,r1,r2,q⟩
 | _=>exact (show False from q).elim
def Qlq (ds:List D) (wt:WT) (we:WE) (ρ1:Env) (ix:List Nat) (Q:D->Env->Prop):Prop:=∃I:Nat->List D->Prop,I 0 [] /\
 (∀i d ys,ds[i]? = some d->I i ys->ys.length<sizeLine/\two2 d λd1 d2=>wt (Vm ρ1 d1 d2 ix) λb _=>if b=true then we (Vm ρ1 d1 d2 ix) (λy _=>I (i+1) (ys++[y])) else I (i+1) ys) /\
 ∀ys,I ds.length ys->ys.length<=sizeLine/\Q (.lst ys) ρ1
def Qaz (wl:WL) (wt:WT) (we:WE) (ix:List Nat):WE:=λρ Q=>wl ρ λds ρ1=>Qlq ds wt we ρ1 ix Q
def Qig (X:Cx) (T:Tg) (m:Bool) (elt iter tg:Expr) (ts:List Str) (gt:TG) (scope:Scope) (ifs:List Expr) (ix:List Nat) (w:WE):Prop :=
 ∃(wi:TI) (tt:TT) (te:TE),PI X tg iter wi/\(∀cl C s₀ H₀ fp,PIfs (J8 X scope cl C (bN2 X.N ts ix) s₀ H₀ fp) ifs tt)/\(∀cl C s₀ H₀ fp,PE (J8 X scope cl C (bN2 X.N ts ix) s₀ H₀ fp) elt te) /\
  ∀(z:Nat->V) (R:Addr->Prop) (σ:St) (H:Hp) (W:Addr->Prop) (ρ:Env) (Q:D->Env->Prop) (Q':VK),SR X.K T z R H W σ ρ->w ρ Q ->
   (∀v H' W' d ρ' F,Post X.K T z R m true H W σ ρ H' W' ρ' d v F->Q d ρ'->Q' v H')->Qkr ts wi gt tt te ix σ H Q'
def g2 (K:PySem.W.Frag):TG:=gTup K 2 (Qod (Qc0 0) (Qod (Qc0 1) gNil))
theorem Qek {elt iter:Expr} {px py pt:Pos} {kt:Nat} {scope:Scope} {ifs:List Expr} {wl:WL} {pr:Bool} (ix:List Nat) (hi:IV X T m pr (.Tuple [.Name x px,.Name y py] kt pt) iter wl)
  (ht:∀cl C s₀ H₀ fp,CV (J8 X scope cl C (bN2 X.N [x,y] ix) s₀ H₀ fp) ifs wt) (he:∀cl C s₀ H₀ fp,EV (J8 X scope cl C (bN2 X.N [x,y] ix) s₀ H₀ fp) TR false true elt we) :
  Qig X T m elt iter (.Tuple [.Name x px,.Name y py] kt pt) [x,y] (g2 X.K) scope ifs ix (Qaz wl wt we ix):=by
 obtain ⟨wi,pi,gi⟩:=hi
 refine ⟨wi,λσ H Q=>∀cl C s₀ H₀ fp,Classical.choose (ht cl C s₀ H₀ fp) σ H Q,λσ H Q=>∀cl C s₀ H₀ fp,Classical.choose (he cl C s₀ H₀ fp) σ H Q,pi,
  λcl C s₀ H₀ fp pins s σ H Q I h=>(Classical.choose_spec (ht cl C s₀ H₀ fp)).1 pins s σ H Q I (h cl C s₀ H₀ fp),λcl C s₀ H₀ fp pins s σ H Q I h=>(Classical.choose_spec (he cl C s₀ H₀ fp)).1 pins s σ H Q I (h cl C s₀ H₀ fp),?_⟩
 intro z R σ H W ρ Q Q' s hw k
 refine gi z R σ H W ρ _ _ s hw λJ H1 W1 ds ρ1 p jd q=>?_
 obtain ⟨I,h0,hI,hd⟩:=q
 refine ⟨λi n ys H2=>n=ds.length-i/\i<=ds.length/\Same H1 H2/\∃es F,Reps X.K H2 es ys F/\F.Nodup/\(∀a∈F,H1 a=none)/\I i es,ds.length,⟨by simp,Nat.zero_le _,Same.refl _,[],[],.nil,List.nodup_nil,(λa m=>(nomatch m)),h0⟩,?_⟩
 rintro i n ys H2 ⟨rfl,hi,sm,es,F,re,nd,nw,i2⟩
 obtain ⟨j1,j2⟩:=jd i H2 (wz pr W1) (FrW.same _ sm)
 by_cases hlt:i<ds.length
 ·have hdi:ds[i]? = some ds[i]:=List.getElem?_eq_getElem hlt
  obtain ⟨hgo,hy⟩:=j2 _ hdi
  obtain ⟨hz,q1⟩:=hI i _ es hdi i2
  refine .inr ⟨hgo,by rw [re.length];exact hz,λv H3 yl o ol=>?_⟩
  obtain ⟨sm3,Fv,rv,_⟩:=hy v H3 yl
  generalize ds[i]=dd at q1 rv
  obtain ⟨av,v1,v2,d1,d2,F1,F2,rfl,ev,r1,r2,q1⟩:=two2_rep rv q1
  ··refine ⟨av,[v1,v2],rfl,ev,rfl,v1,[v2],rfl,v2,[],rfl,rfl,[some v1,some v2],?_,rfl,?_⟩
    ·match o,ol with
     | [o1,o2],_=>rfl
    have srB:∀z',SR X.K TR z' (Any H3) H3 (λ_=>False) (((bS2 σ o ix).set 0 (some v1)).set 1 (some v2)) (Vm ρ1 d1 d2 ix):=λz'=>by
     have eS:((bS2 σ o ix).set 0 (some v1)).set 1 (some v2)=bS2 σ [some v1,some v2] ix:=by
      match o,ol with
      | [o1,o2],_=>rfl
     rw [eS]
     refine SR.readonly rfl (by simp [bS2,Vm]) λj d hj=>⟨rfl,?_⟩
     match j with
     | 0 =>
      simp only [Vm,look,Option.some.injEq] at hj
      subst hj
      exact ⟨v1,F1,rfl,r1⟩
     | 1 =>
      simp only [Vm,look,Option.some.injEq] at hj
      subst hj
      exact ⟨v2,F2,rfl,r2⟩
     | j+2 =>
      have hj':look (ix.map (look ρ1)) j=some d:=hj
      rw [V3] at hj'
      cases hx:ix[j]? with
      | none=>rw [hx] at hj';cases hj'
      | some q =>
       rw [hx] at hj'
       obtain ⟨fp,s1⟩:=(p.sr.same sm).same sm3
       obtain ⟨u,hu,ru⟩:=s1.at_ q d hj'
       refine ⟨u,fp q,?_,ru⟩
       show (ix.map λi=>(σ[i]?).getD none)[j]? = some (some u)
       rw [List.getElem?_map,hx]
       simp [hu]
    intro cl C s₀ H₀ fp
    refine (Classical.choose_spec (ht cl C s₀ H₀ fp)).2 (λ_=>.non) (Any H3) _ H3 (λ_=>False) (Vm ρ1 d1 d2 ix) _ _ (srB _) q1 λbb H4 W4 ρ4 p4 q4=>?_
    obtain ⟨sm4,hW4,hρ4⟩:=p4.calm rfl
    have re4:=((re.same sm3).same sm4)
    cases bb with
    | false=>exact ⟨ds.length-(i+1),by omega,rfl,hlt,(sm.trans sm3).trans sm4,es,F,re4,nd,nw,q4⟩
    | true =>
     show if true=true then _ else _
     rw [if_pos rfl]
     intro cl C s₀ H₀ fp
     refine (Classical.choose_spec (he cl C s₀ H₀ fp)).2 (λ_=>.non) (Any H3) _ H4 W4 (Vm ρ1 d1 d2 ix) _ _ (hρ4 ▸ p4.sr) (by simpa using q4) λu H5 W5 y ρ5 Fy p5 q5=>?_
     obtain ⟨sm5,_,_⟩:=p5.calm rfl
     obtain ⟨ny,ky⟩:=p5.own rfl
     have sm15:Same H1 H5:=((sm.trans sm3).trans sm4).trans sm5
     refine ⟨ds.length-(i+1),by omega,rfl,hlt,sm15,es++[y],F++Fy,(re4.same sm5).snoc p5.rep,Vz nd ny λa ha hf=>?_,λa ha=>?_,q5⟩
     ·obtain ⟨ob,e1,_⟩:=re4.dom a hf
      rw [(ky a ha).1] at e1;cases e1
     ·rcases List.mem_append.mp ha with ha | ha
      ·exact nw a ha
      ·exact ((sm.trans sm3).trans sm4).free (ky a ha).1
 ·have e:i=ds.length:=by omega
  subst e
  obtain ⟨hz,q1⟩:=hd es i2
  refine .inl ⟨j1 (Nat.le_refl _),by rw [re.length];exact hz,λl hl=>?_⟩
  have hl1:H1 l=none:=sm.free hl
  refine k _ _ W1 (.lst es) ρ1 (l::F) ⟨(p.sr.same sm).same (Qh hl),(p.fr.trans (FrW.same W1 sm)).trans (FrW.same W1 (Qh hl)),λh=>⟨((p.calm h).1.trans sm).trans (Qh hl),(p.calm h).2⟩,.lst Qi (re.same (Qh hl)),λ_=>⟨List.nodup_cons.mpr ⟨λh=>?_,nd⟩,λb hb=>?_⟩⟩ q1
  ·obtain ⟨ob,e1,_⟩:=re.dom l h
   rw [hl] at e1;cases e1
  ·rcases List.mem_cons.mp hb with rfl | hb
   ·exact ⟨p.fr.dom _ hl1,p.sr.nw hl1⟩
   ·exact ⟨p.fr.dom _ (nw b hb),p.sr.nw (nw b hb)⟩
structure CompB2 (X:Cx) (scope:Scope) (x y:Str) (ix:List Nat):Prop where
 B1:CompB X scope x ix
 B2:CompB X scope y ix
 nd:(bN2 X.N [x,y] ix).Nodup
theorem Qb3 {scope:Scope} {ix:List Nat} (sc:Scope) (N:List Str) (h:(Qj8 sc scope N x ix && Qj8 sc scope N y ix && decide (bN2 N [x,y] ix).Nodup)=true) (h1:X.env.scope=sc:=by rfl) (h2:X.N=N:=by rfl):CompB2 X scope x y ix:=by
 simp only [Bool.and_eq_true,decide_eq_true_eq] at h
 exact ⟨Z9 sc N h.1.1 h1 h2,Z9 sc N h.1.2 h1 h2,by rw [h2];exact h.2⟩
theorem pg2 {scope:Scope} {ix:List Nat} {px py pt:Pos} {kt:Nat} (B:CompB2 X scope x y ix) (hc:X.calm=true) (cl:List (Str × Addr)) (C:Addr) (s₀:Shared) (H₀:Hp) (fp:List Addr) :
  PG (J8 X scope cl C (bN2 X.N [x,y] ix) s₀ H₀ fp) (.Tuple [.Name x px,.Name y py] kt pt) (g2 X.K):=by
 have l1:(J8 X scope cl C (bN2 X.N [x,y] ix) s₀ H₀ fp).env.scope.names.lookup x=some .local:=lookup_relabel_local B.B1.B.lx
 have l2:(J8 X scope cl C (bN2 X.N [x,y] ix) s₀ H₀ fp).env.scope.names.lookup y=some .local:=lookup_relabel_local B.B2.B.lx
 exact Qla hc (Qac (Qcp (i:=0) B.nd rfl (.inl l1) (.inr l1)) (Qac (Qcp (i:=1) B.nd rfl (.inl l2) (.inr l2)) Qgd))
theorem Qeh {elt iter:Expr} {px py pt:Pos} {kt:Nat} {scope:Scope} {ifs:List Expr} {ix:List Nat} (h:Qig X T m elt iter (.Tuple [.Name x px,.Name y py] kt pt) [x,y] (g2 X.K) scope ifs ix w) (B:CompB2 X scope x y ix) (hc:X.calm=true:=by rfl)
  (hs:∀x,foldedSetIterable iter X.env x=pure x:=by intro _;rfl):EV X T m true (.ListComp elt [⟨.Tuple [.Name x px,.Name y py] kt pt,iter,ifs,0⟩] scope pos) w:=by
 obtain ⟨wi,tt,te,h1,h2,h3,h4⟩:=h
 exact ⟨_,Qja ix hc B.B1.B B.B1.hix B.nd h1 (pg2 B hc) h2 h3 hs,h4⟩
end
end PV
namespace PV
open PySem PySem.Spec L2
open Builtin.Str (glued tooLong)
section
variable {X:Cx} {T:Tg} {m o m0 m1 m2 m3 me o1 o2:Bool} {e a b:Expr} {w wa wb we:WE} {pos p2 p:Pos} {es:List Expr} {wr:WA} {x y:Str} {wt:WT} {ws:WS}
end
end PV
namespace PV
open PySem PySem.Spec L2
open Builtin.Str (glued tooLong subAt)
section
variable {X:Cx} {T:Tg} {m o m0 m1 m2 m3 m4 me o1 o2:Bool} {e a b:Expr} {w wa wb we:WE} {pos p2 p:Pos} {es:List Expr} {wr:WA} {x y:Str} {wt:WT} {ws:WS}
end
end PV
namespace PV
open PySem PySem.Spec L2
section
variable {X:Cx} {T:Tg} {m o m0 m1 m2 m3 o1 o2:Bool} {e a b:Expr} {w wa wb we:WE} {pos p2 p:Pos} {es:List Expr} {wr:WA} {x y:Str}
end
end PV
namespace PV
open PySem PySem.Spec L2 PyProof.Rows
section
variable {X:Cx} {T:Tg} {m o m0 m1 m2 m3 me o1 o2:Bool} {e a b c:Expr} {w wa wb we:WE} {pos p2 p:Pos} {es:List Expr} {wr:WA} {x y:Str} {wt:WT} {ws:WS} {k:Nat} {ps:List Str} {tg:Expr}
end
section
variable {i j:Int} {k:D->Prop} {kk:D->D->Prop} {kvs:List (List Key × D)} {xs:List D}
theorem sz0:(0<=sizeLine)=True:=propext ⟨λ_=>trivial,λ_=>by decide⟩
theorem sz1:(1<=sizeLine)=True:=propext ⟨λ_=>trivial,λ_=>by decide⟩
theorem sz2:(2<=sizeLine)=True:=propext ⟨λ_=>trivial,λ_=>by decide⟩
theorem sz4:(4<=sizeLine)=True:=propext ⟨λ_=>trivial,λ_=>by decide⟩
end
end PV
namespace L2
open PySem PySem.Spec PyProof.Rows
section
variable {X:Cx} {e:Expr} {te:TE}
def tFrz (te:TE):TE:=λσ H Q=>te σ H λv H1=>∃a xs,v=.ref a/\H1 a=some (.lst xs)/\∀o,Q v (upd H1 a (.frz o (.lst xs)))
theorem Qqh (he:PE X e te):PE X e (tFrz te):=by
 intro pins s σ H Q I h
 refine thn (he pins s σ H _ I h) λv s1 ⟨x,H1,I1,r1,q⟩=>?_
 obtain ⟨a,xs,rfl,ha,q⟩:=q
 obtain ⟨z,its,n,rv,hob⟩:=(show Jh X.prog X.w H1 s1.heap a (.lst xs) from I1.hok a _ ha)
 exact ⟨.ref a,_,I1.write (x:=a) (e:=a) (o:=.frz _ (.lst xs)) (t':=s1.toks) (by rw [ha];trivial) (.inl rfl) (λb u _ q=>q) ⟨_,hob⟩ (show Jh X.prog X.w _ s1.heap a (.frz _ (.lst xs)) from ⟨hob,z,its,n,rv,hob⟩),r1,q _⟩
end
end L2
namespace PV
open PySem PySem.Spec L2 PyProof.Rows
section
variable {X:Cx} {T:Tg} {m o:Bool} {e:Expr} {w:WE} {tg:Expr}
def Qrn (d:D) (k:D->Prop):Prop:=match d with
 | .lst xs=>Qj xs=true/\k (.fls xs)
 | _=>False
def wFrz (w:WE):WE:=λρ Q=>w ρ λd ρ'=>Qrn d λd'=>Q d' ρ'
theorem Qrt (h:EV X T m true e w):EV X T m true e (wFrz w):=by
 obtain ⟨te,pe,ge⟩:=h
 refine ⟨_,Qqh pe,λz R σ H W ρ Q Q' s hw k=>?_⟩
 refine ge z R σ H W ρ _ _ s hw λv H1 W1 d ρ1 F p q=>?_
 cases d with
 | lst xs =>
  obtain ⟨hp,q⟩:=q
  obtain ⟨sr,fr,calm,rep,own⟩:=p
  obtain ⟨nd,own⟩:=own rfl
  cases rep with
  | @lst a ys _ G e1 r =>
   obtain ⟨hG,r⟩:=r.pure hp
   subst hG
   obtain ⟨ha,hW⟩:=own a List.mem_cons_self
   have hR:¬R a:=s.nr ha
   refine ⟨a,ys,rfl,e1,λob=>?_⟩
   have im:ImmK H1 (upd H1 a (.frz ob (.lst ys))):=Vi e1 rfl
   have ne:∀{b:Addr} {u:HO},H b=some u->b≠a:=λ{b u} hb z=>by rw [z,ha] at hb;cases hb
   have sr':SR X.K T z R (upd H1 a (.frz ob (.lst ys))) W1 σ ρ1:=by
    obtain ⟨fp,s0⟩:=sr
    have off:∀i d,look ρ1 i=some d->∀b∈fp i,b≠a:=λi d hl b hb hz=>by
     subst hz
     cases ht:T.own i with
     | true=>exact hW ((s0.own i d hl ht).2 b hb)
     | false=>exact hR (s0.ro i d hl ht b hb)
    refine ⟨fp,s0.len,λb hb=>?_,λi d hl=>?_,s0.own,s0.ro,s0.wr,λb hb=>?_,s0.dis,s0.fix⟩
    ·obtain ⟨u,h1,h2⟩:=s0.wd b hb
     exact ⟨u,by rw [Ql (show b≠a from λhz=>hW (by rw [← hz];exact hb))];exact h1,h2⟩
    ·obtain ⟨v,h1,h2⟩:=s0.at_ i d hl
     exact ⟨v,h1,h2.frame im λb hb=>Ql (off i d hl b hb)⟩
    ·obtain ⟨u,h1,h2⟩:=s0.rd b hb
     exact ⟨u,by rw [Ql (show b≠a from λhz=>hR (by rw [← hz];exact hb))];exact h1,h2⟩
   have fr':FrW H W (upd H1 a (.frz ob (.lst ys))) W1:=by
    refine ⟨λb u hb hn=>?_,λb hb=>?_,λb u hb hi=>?_,fr.new⟩
    ·rw [Ql (ne hb)];exact fr.keep b u hb hn
    ·by_cases hz:b=a
     ·rw [hz];exact ha
     ·rw [Ql hz] at hb;exact fr.dom b hb
    ·rw [Ql (ne hb)];exact fr.imm b u hb hi
   refine k _ _ W1 (.fls xs) ρ1 [] ⟨sr',fr',λhm=>?_,.fls Qi (r.frame im λb hb=>nomatch hb),λ_=>⟨List.nodup_nil,λb hb=>nomatch hb⟩⟩ q
   obtain ⟨c1,c2,c3⟩:=calm hm
   exact ⟨λb u hb=>by rw [Ql (ne hb)];exact c1 b u hb,c2,c3⟩
 | _=>exact (show False from q).elim
end
end PV
namespace PV
open PySem PySem.Spec L2
open PyProof.Rows (envOfC)
section
variable {X:Cx} {T:Tg} {m:Bool} {w:WE} {pos:Pos} {x:Str}
end
end PV
namespace PV
open PySem PySem.Spec L2
section
variable {X:Cx} {T:Tg} {m o m0 m1 m2 m3 o1 o2:Bool} {e a b:Expr} {w wa wb we:WE} {pos p2 p:Pos} {es:List Expr} {wr:WA} {x y:Str} {wt:WT} {ws:WS}
end
end PV
namespace PV
open PySem PySem.Spec L2
section
variable {X:Cx} {T:Tg} {m o:Bool} {a:Expr} {pos p2 p:Pos} {wr:WA} {x:Str}
end
end PV
namespace PV
open PySem PySem.Spec L2
theorem Ya {α:Type} (xs:List α) (j:Nat):L2.atI xs (j:Int)=xs[j]?:=by
 unfold L2.atI ixN
 rw [if_pos (by omega)]
 by_cases h:j<xs.length
 ·rw [if_pos (by omega)];simp
 ·rw [if_neg (by omega)];simp;omega
theorem V8 {α:Type} (xs:List α):L2.atI xs 0=xs[0]?:=Ya xs 0
theorem V7 {α:Type} (xs:List α):L2.atI xs 1=xs[1]?:=Ya xs 1
theorem Qou {α:Type} (xs:List α):L2.atI xs 2=xs[2]?:=Ya xs 2
theorem Qr3 {α:Type} (xs:List α):L2.atI xs 3=xs[3]?:=Ya xs 3
theorem Zu {n j:Nat} (h:j<n):ixN n (j:Int)=some j:=by
 unfold ixN
 rw [if_pos (by omega),if_pos (by omega)];simp
theorem Qtk {n:Nat} (h:0<n):ixN n 0=some 0:=Zu h
theorem Qtj {n:Nat} (h:1<n):ixN n 1=some 1:=Zu h
theorem Ge {n j:Nat} (h:j<n):seqIndex? (j:Int) n=some j:=(Qal (Zu h)).1
theorem Qmq {n:Nat} (h:0<n):seqIndex? 0 n=some 0:=Ge h
theorem Qn {α:Type} {d:α} {k:α->Prop}:oget (some d) k=k d:=rfl
theorem Ja {i:Nat} {ρ:Env} {Q:D->Env->Prop}:wVar i ρ Q=oget (look ρ i) λd=>Q d ρ:=by
 unfold wVar oget
 cases look ρ i <;> rfl
section
variable {i j:Int} {x y:Str} {xs ys:List D} {k:D->Prop} {b c:Bool} {d e:D} {kvs:List (Key × D)} {kts:List (List Key × D)}
theorem Qpp:dSub (.int i) (.int j) k=k (.int (i-j)):=rfl
theorem Qpu:dMul (.int i) (.int j) k=(CMul i j/\k (.int (i*j))):=rfl
theorem Qkx:dMul (.lst xs) (.int j) k=(Qj xs=true /\ -(2 ^ 63)<=j/\j<2 ^ 63/\xs.length*j.toNat<=sizeLine/\k (.lst (List.replicate j.toNat xs).flatten)):=rfl
theorem Qsr:dDiv (.int i) (.int j) k=((0<j/\j<1073741824/\k (.int (i / j)))\/(j<0/\j.natAbs<1073741824/\k (.int (i.fdiv j)))):=rfl
theorem Qsp:dMod (.int i) (.int j) k=((0<j/\k (.int (i % j)))\/(j<0/\k (.int (i.fmod j)))):=rfl
theorem Qsn:dPow (.int i) (.int j) k=(CPow i j/\k (.int (i ^ j.toNat))):=rfl
theorem Qps:dNeg (.int i) k=k (.int (-i)):=rfl
theorem Qpz:dEq (.int i) (.int j) k=k (.bl (decide (i=j))):=rfl
theorem Qsq:dEq (.tup xs) d k=(eqOk 9 (.tup xs)=true/\eqOk 9 d=true/\(.tup xs=d->k (.bl true))/\(.tup xs≠d->k (.bl false))):=by cases d <;> rfl
theorem Qso:dNe (.lst xs) d k=(eqOk 9 (.lst xs)=true/\eqOk 9 d=true/\(.lst xs=d->k (.bl false))/\(.lst xs≠d->k (.bl true))):=by cases d <;> rfl
theorem Qeu {f:Int->Int->Bool}:dCmp f (.int i) (.int j) k=k (.bl (f i j)):=rfl
theorem Qcn:dIx (.lst xs) (.int i) k=oget (L2.atI xs i) k:=rfl
theorem Vw:dIx (.tup xs) (.int i) k=oget (L2.atI xs i) k:=rfl
theorem Qmx:dIx (.kls xs) (.int i) k=oget (L2.atI xs i) k:=rfl
theorem Qpx:dIx (.dik kvs) (.int i) k=oget (valD kvs (.inl i)) k:=rfl
theorem Qpv:dLen [.lst xs] k=k (.int xs.length):=rfl
theorem Qdv:dLen [.tup xs] k=k (.int xs.length):=rfl
theorem Qf2:dInt [.bl b] k=k (.int (if b then 1 else 0)):=rfl
theorem Xm:Vc [.lst xs] k=(Qj xs=true/\k (.tup xs)):=rfl
theorem Qmw:Qhv [.int i] k=(0<=i/\i<=1000/\k (.lst (rngD 0 i.toNat))):=rfl
theorem Qmy {t:Ty}:dIsi [d,.ty t] k=oget (isiD d t) λb=>k (.bl b):=rfl
theorem Qfy:dSet (.lst xs) (.int i) d k=oget (ixN xs.length i) λn=>k (.lst (xs.set n d)):=rfl
theorem Qfz:dSet (.dik kvs) (.int i) d k=(kvs.length<sizeLine/\k (.dik (putD kvs (.inl i) d))):=rfl
theorem Qpy {n:Bool}:dIn n (.tup xs) (.dit kts) k=oget (Za xs) λks=>k (.bl (xor n (valD kts ks).isSome)):=rfl
variable {kk:D->D->Prop}
theorem Qss:Qc1 (.lst xs) [d] kk=(xs.length<sizeLine/\kk .non (.lst (xs++[d]))):=rfl
theorem Qf0:Qef (.lst xs) [.int i] kk=(-(2 ^ 63)<=i/\i<2 ^ 63/\oget (seqIndex? i xs.length) λj=>oget xs[j]? λd=>d.pure=true/\kk d (.lst (xs.eraseIdx j))):=rfl
variable {ρ:Env} {w:WE} {QE:D->Env->Prop} {QL:List D->Env->Prop} {QB:Bool->Env->Prop}
end
section
variable {i j:Int} {k:D->Prop}
theorem Qf5 (h:0<j) (h2:j<1073741824):dDiv (.int i) (.int j) k=k (.int (i / j)):=by
 rw [Qsr]
 apply propext
 exact ⟨λq=>q.elim (λz=>z.2.2) (λz=>absurd z.1 (by omega)),λq=>.inl ⟨h,h2,q⟩⟩
theorem Qf1 (h:0<j):dMod (.int i) (.int j) k=k (.int (i % j)):=by
 rw [Qsp]
 apply propext
 exact ⟨λq=>q.elim (λz=>z.2) (λz=>absurd z.1 (by omega)),λq=>.inl ⟨h,q⟩⟩
theorem Gf (h:-18446744073709551616<i) (h2:i<18446744073709551616):dMul (.int i) (.int j) k=k (.int (i*j)):=by
 rw [Qpu]
 exact propext ⟨λq=>q.2,λq=>⟨.inl ⟨by omega,by omega⟩,q⟩⟩
theorem Qpt (h:-18446744073709551616<j) (h2:j<18446744073709551616):dMul (.int i) (.int j) k=k (.int (i*j)):=by
 rw [Qpu]
 exact propext ⟨λq=>q.2,λq=>⟨.inr ⟨by omega,by omega⟩,q⟩⟩
theorem Qpq (h:0<=j) (h2:j<=1000000) (h3:-18446744073709551616<i) (h4:i<18446744073709551616):dPow (.int i) (.int j) k=k (.int (i ^ j.toNat)):=by
 rw [Qsn]
 exact propext ⟨λq=>q.2,λq=>⟨⟨h,h2,by omega⟩,q⟩⟩
end
def blOf (d:D) (k:Bool->Prop):Prop:=match d with
 | .bl b=>k b
 | _=>False
theorem r_bl {w:WE} {ρ:Env} {Q:Bool->Env->Prop}:wBl w ρ Q=w ρ λd ρ'=>blOf d λb=>Q b ρ':=by
 show (w ρ λd ρ'=>match d with | .bl b=>Q b ρ' | _=>False)=_
 rfl
theorem Y8 {b:Bool} {k:Bool->Prop}:blOf (.bl b) k=k b:=rfl
def Ql9 (d:D) (k:Bool->Prop):Prop:=oget (truD d) k
theorem Qfv {w:WE} {ρ:Env} {Q:Bool->Env->Prop}:wTru w ρ Q=w ρ λd ρ'=>Ql9 d λb=>Q b ρ':=by
 unfold wTru
 congr 1
 funext d ρ'
 unfold Ql9 oget
 cases truD d <;> rfl
theorem Qdt {b:Bool} {k:Bool->Prop}:Ql9 (.bl b) k=k b:=rfl
def Qit (d:D) (k:List D->Prop):Prop:=match d with
 | .tup ds=>Qj ds=true/\k ds
 | .lst ds=>k ds
 | .kc (.tup ks)=>k (ks.map kcD)
 | _=>False
theorem Qbd {w:WE} {ρ:Env} {Q:List D->Env->Prop}:Ua w ρ Q=w ρ λd ρ'=>Qit d λds=>Q ds ρ':=by
 show (w ρ λd ρ'=>match d with | .tup ds=>Qj ds=true/\Q ds ρ' | .lst ds=>Q ds ρ' | .kc (.tup ks)=>Q (ks.map kcD) ρ' | _=>False)=_
 rfl
theorem Qdu {xs:List D} {k:List D->Prop}:Qit (.tup xs) k=(Qj xs=true/\k xs):=rfl
theorem Qkw {xs:List D} {k:List D->Prop}:Qit (.lst xs) k=k xs:=rfl
def Qrl (d:D) (k:Option Int->Prop):Prop:=match d with
 | .int i=>k (some i)
 | _=>False
theorem Qfw {w:WE} {ρ:Env} {Q:Option Int->Env->Prop}:Qci w ρ Q=w ρ λd ρ'=>Qrl d λi=>Q i ρ':=by
 show (w ρ λd ρ'=>match d with | .int i=>Q (some i) ρ' | _=>False)=_
 rfl
theorem Qco {i:Int} {k:Option Int->Prop}:Qrl (.int i) k=k (some i):=rfl
theorem Qp1 {wa wb:WE} {ρ:Env} {Q:D->Env->Prop}:Ql5 wa wb ρ Q=wa ρ λd ρ1=>blOf d λc=>if c=true then wb ρ1 Q else Q (.bl false) ρ1:=by
 show (wa ρ λd ρ1=>match d with | .bl c=>if c=true then wb ρ1 Q else Q (.bl false) ρ1 | _=>False)=_
 rfl
theorem Qpr {wa:WE} {ρ:Env} {Q:D->Env->Prop}:Ql2 wa ρ Q=wa ρ λd ρ1=>blOf d λc=>Q (.bl (!c)) ρ1:=by
 show (wa ρ λd ρ1=>match d with | .bl c=>Q (.bl (!c)) ρ1 | _=>False)=_
 rfl
def Qkt (ds:List D) (k:List D->Prop):Prop:=match ds with
 | [.int j]=>-(2 ^ 62)<=j/\j<2 ^ 62/\k (rngD 0 j.toNat)
 | _=>False
theorem Uv {wr:WA} {ρ:Env} {Q:List D->Env->Prop}:G8 wr ρ Q=wr ρ λds ρ'=>Qkt ds λl=>Q l ρ':=by
 show (wr ρ λds ρ'=>match ds with | [.int j]=>-(2 ^ 62)<=j/\j<2 ^ 62/\Q (rngD 0 j.toNat) ρ' | _=>False)=_
 rfl
theorem Zr {j:Int} {k:List D->Prop}:Qkt [.int j] k=(-(2 ^ 62)<=j/\j<2 ^ 62/\k (rngD 0 j.toNat)):=rfl
def Qlm (ds:List D) (k:List D->Prop):Prop:=match ds with
 | [.tup es]=>Qj es=true/\k (V6 0 es)
 | _=>False
theorem Qp0 {wr:WA} {ρ:Env} {Q:List D->Env->Prop}:Ql4 wr ρ Q=wr ρ λds ρ'=>Qlm ds λl=>Q l ρ':=by
 show (wr ρ λds ρ'=>match ds with | [.tup es]=>Qj es=true/\Q (V6 0 es) ρ' | _=>False)=_
 rfl
theorem Qmz {xs:List D} {k:List D->Prop}:Qlm [.tup xs] k=(Qj xs=true/\k (V6 0 xs)):=rfl
theorem Qk0 {n:Nat} {wgs:List D->Env->(Env->Prop)->Prop} {xs:List D} {ρ:Env} {Q:Env->Prop}:Qjp n wgs (.tup xs) ρ Q=(xs.length=n/\wgs xs ρ Q):=rfl
theorem Qf3 {wg:WG} {wgs:List D->Env->(Env->Prop)->Prop} {d:D} {r:List D} {ρ:Env} {Q:Env->Prop}:Xv wg wgs (d::r) ρ Q=wg d ρ λρ'=>wgs r ρ' Q:=rfl
theorem Qk1 {ρ:Env} {Q:Env->Prop}:Qjq [] ρ Q=Q ρ:=rfl
theorem Qpo {xs:List D} {t:String}:tyD (some (.lst xs)) t=(t == "list"):=rfl
theorem Zf {xs:List D}:Yx (.lst xs)=Qj xs:=rfl
theorem Qf4 {xs:List (List Key × D)}:Yx (.dit xs)=xs.all λkv=>kv.2.pure:=rfl
theorem Qs {α:Type} {f:α->D} {l:List α} (h:∀a∈l,(f a).pure=true):Qj (l.map f)=true:=by
 rw [Zt]
 intro x hx
 obtain ⟨a,ha,rfl⟩:=List.mem_map.mp hx
 exact h a ha
theorem Qr7 {wl:WL} {we:WE} {ix:List Nat} {ρ:Env} {Q:D->Env->Prop} {f:D->D} (ds:List D) (ρ1:Env) (h:wl ρ=λq=>q ds ρ1) (hz:ds.length<sizeLine) (he:∀d∈ds,∀Q',Q' (f d) (blkE ρ1 d ix)->we (blkE ρ1 d ix) Q') (hQ:Q (.lst (ds.map f)) ρ1) :
  Qa0 wl wAll we ix ρ Q:=by
 unfold Qa0
 rw [h]
 refine ⟨λi ys=>ys=(ds.take i).map f/\i<=ds.length,⟨by simp,Nat.zero_le _⟩,λi d ys hd ⟨hy,hi⟩=>?_,λys ⟨hy,_⟩=>?_⟩
 ·have hlt:=(List.getElem?_eq_some_iff.mp hd).1
  refine ⟨by rw [hy];simp;omega,?_⟩
  simp only [wAll,reduceIte]
  refine he d (List.mem_of_getElem? hd) _ ⟨?_,hlt⟩
  rw [hy,List.take_add_one,hd]
  simp
 ·rw [hy,List.take_length]
  exact ⟨by simp;omega,hQ⟩
def Qoq (ds:List D) (wt:WT) (we:WE) (ρ1:Env) (ix:List Nat) (Q:D->Env->Prop):Prop:=∃I:Nat->List D->Prop,I 0 [] /\
 (∀i d ys,ds[i]? = some d->I i ys->ys.length<sizeLine/\wt (blkE ρ1 d ix) λb _=>if b=true then we (blkE ρ1 d ix) (λy _=>I (i+1) (ys++[y])) else I (i+1) ys) /\
 ∀ys,I ds.length ys->ys.length<=sizeLine/\Q (.lst ys) ρ1
theorem Qf6 {wl:WL} {wt:WT} {we:WE} {ix:List Nat} {ρ:Env} {Q:D->Env->Prop}:Qa0 wl wt we ix ρ Q=wl ρ λds ρ1=>Qoq ds wt we ρ1 ix Q:=rfl
theorem Qb2 {ds:List D} {we:WE} {ρ1:Env} {ix:List Nat} {Q:D->Env->Prop} (f:D->D) (hz:ds.length<sizeLine) (he:∀d∈ds,∀Q':D->Env->Prop,Q' (f d) (blkE ρ1 d ix)->we (blkE ρ1 d ix) Q') (hQ:Q (.lst (ds.map f)) ρ1):Qoq ds wAll we ρ1 ix Q:=by
 refine ⟨λi ys=>ys=(ds.take i).map f/\i<=ds.length,⟨by simp,Nat.zero_le _⟩,λi d ys hd ⟨hy,hi⟩=>?_,λys ⟨hy,_⟩=>?_⟩
 ·have hlt:=(List.getElem?_eq_some_iff.mp hd).1
  refine ⟨by rw [hy];simp;omega,?_⟩
  simp only [wAll,reduceIte]
  refine he d (List.mem_of_getElem? hd) _ ⟨?_,hlt⟩
  rw [hy,List.take_add_one,hd]
  simp
 ·rw [hy,List.take_length]
  exact ⟨by simp;omega,hQ⟩
def forI (ds:List D) (wg:WG) (wb:WS) (P:EndsP) (ρ1:Env):Prop:=∃I:Nat->Env->Prop,I 0 ρ1 /\
 (∀i d ρ,ds[i]? = some d->I i ρ->wg d ρ λρ'=>wb { P with nx:=I (i+1),ct:=I (i+1),bk:=P.nx } ρ')/\∀ρ,I ds.length ρ->P.nx ρ
theorem Uc {wl:WL} {wg:WG} {wb:WS} {P:EndsP} {ρ:Env}:wFor wl wg wb P ρ=wl ρ λds ρ1=>Qj ds=true/\forI ds wg wb P ρ1:=rfl
end PV
namespace PV
open PySem PySem.Spec L2
section
variable {X:Cx} {T:Tg} {m o o1 o2 o3:Bool} {a b c:Expr} {wa wb wc:WE} {pos p2 p:Pos} {wr:WA} {x:Str}
end
end PV
namespace PV
open PySem PySem.Spec L2
open PyProof.Rows (envOfC)
section
variable {X:Cx} {T:Tg} {m o o1 o2 o3:Bool} {e a b c e₀:Expr} {es:List Expr} {w wa wb wc:WE} {pos p2 p np cpos hpos px:Pos} {wr:WA} {x y:Str} {ws wh:WS}
end
end PV
namespace PV
open PySem PySem.Spec L2
open PyProof.Rows (envOfC)
section
variable {P:Program} {w:World} {K:PySem.W.Frag} {mg:Str->Option Value} {base:Heap} {x qual:Str} {st:Stmt} {f:Addr} {fd:FuncData} {N ps:List Str} {k:Nat} {T:Tg} {ww:WS}
end
section
variable {X:Cx} {T:Tg} {o1 o2 o3:Bool} {a b c:Expr} {es:List Expr} {wa wb wc:WE} {pos p2 p q:Pos} {wr:WA} {x y v:Str} {ta:TA} {cv:V} {cl:Value} {i:Nat} {m o:Bool}
end
end PV
namespace L2
open PySem PySem.Spec PyProof.Rows
section
variable {X:Cx}
end
end L2
namespace PV
open PySem PySem.Spec L2
section
variable {X:Cx} {T:Tg} {m o:Bool} {a b:Expr} {pos p:Pos} {wr:WA} {x:Str}
end
end PV
namespace PV
open PySem PySem.Spec L2
section
variable {X:Cx} {T:Tg} {o1:Bool} {e:Expr} {w:WE} {pos p q:Pos} {x:Str}
end
end PV
namespace PV
open PySem PySem.Spec L2
section
variable {i j:Int} {x y:Str} {xs ys:List D} {k:D->Prop} {b c:Bool} {d e:D} {kvs kus:List (Key × D)}
theorem Zn:Y6 (.int i) (.int j) k=k (.int (i+j)):=rfl
theorem Qm4:Y6 (.lst xs) (.lst ys) k=(Qj xs=true/\Qj ys=true/\xs.length+ys.length<=sizeLine/\k (.lst (xs++ys))):=rfl
theorem Qk2 {lo hi:Option Int}:dSlT (.lst xs) lo hi k=(Qj xs=true/\k (.lst (cutD xs lo hi))):=rfl
theorem Qp4 {lo hi:Option Int}:dSlT (.kls xs) lo hi k=(Qj xs=true/\k (.lst (cutD xs lo hi))):=rfl
theorem Qk3:Ql3.noDct (.dik kvs)=false:=rfl
theorem Qk4:Qon (.dik kvs) (.int i) d k=k ((valD kvs (.inl i)).getD d):=rfl
end
end PV
namespace PV
open PySem PySem.Spec L2
section
variable {ns:List Int} {n:Int} {k:D->Prop} {xs:List D} {kvs:List (Key × D)}
end
end PV
namespace PV
open PySem PySem.Spec L2
section
variable {i j:Int} {k:D->Prop} {xs ys:List D} {bs:List Bool} {d e:D}
theorem Qm3 {k:List D->Prop}:Qkj [.tup xs,.tup ys] k=(Qj xs=true/\Qj ys=true/\k (U4 xs ys)):=rfl
theorem Qp3 {k:D->D->Prop}:two2 (.tup [d,e]) k=k d e:=rfl
end
end PV
namespace PV
open PySem PySem.Spec L2
theorem Qs2 {a b c:D} {r:Int} (h0:0<=r) (h1:r<3):L2.atI [a,b,c] r=some a\/L2.atI [a,b,c] r=some b\/L2.atI [a,b,c] r=some c:=by
 have:r=0\/r=1\/r=2:=by omega
 rcases this with rfl | rfl | rfl
 ·exact .inl rfl
 ·exact .inr (.inl rfl)
 ·exact .inr (.inr rfl)
theorem Qs1 {a b c d:D} {r:Int} (h0:0<=r) (h1:r<4):L2.atI [a,b,c,d] r=some a\/L2.atI [a,b,c,d] r=some b\/L2.atI [a,b,c,d] r=some c\/L2.atI [a,b,c,d] r=some d:=by
 have:r=0\/r=1\/r=2\/r=3:=by omega
 rcases this with rfl | rfl | rfl | rfl
 ·exact .inl rfl
 ·exact .inr (.inl rfl)
 ·exact .inr (.inr (.inl rfl))
 ·exact .inr (.inr (.inr rfl))
theorem Qd5 {lo:Int} {n:Nat} {d:D} (h:d∈rngD lo n):∃i:Nat,i<n/\d=.int (lo+(i:Int)):=by
 obtain ⟨i,hi,rfl⟩:=List.mem_map.mp h
 exact ⟨i,List.mem_range.mp hi,rfl⟩
theorem Jz {lo:Int} {n:Nat}:(rngD lo n).length=n:=by simp [rngD]
theorem Z2 {lo:Int} {n i:Nat} {d:D} (h:(rngD lo n)[i]? = some d):i<n/\d=.int (lo+(i:Int)):=by
 have hi:i<n:=by have:=(List.getElem?_eq_some_iff.mp h).1;rwa [Jz] at this
 simp only [rngD,List.getElem?_map,List.getElem?_range hi,Option.map_some,Option.some.injEq] at h
 exact ⟨hi,h.symm⟩
theorem Y9 {lo:Int} {n:Nat}:Qj (rngD lo n)=true:=Qs λ_ _=>rfl
theorem Vx {ns:List Int}:Qj (ns.map D.int)=true:=Qs λ_ _=>rfl
def isP (p:Int):Prop:=p=101\/p=10007\/p=999999937
theorem cop (p:Nat) (hp:p=101\/p=10007\/p=999999937):∀d:Nat,d<101->0<d->Nat.gcd p d=1:=by
 rcases hp with rfl | rfl | rfl <;> decide +kernel
theorem Qov {p leap off:Int} (hp:isP p) (h1:0<leap) (h2:leap<p) {i j:Nat} (hi:i<101) (hij:j<i) (h:(off+(i:Int)*leap) % p=(off+(j:Int)*leap) % p):False:=by
 obtain ⟨q,rfl⟩:=Int.eq_ofNat_of_zero_le (show 0<=leap by omega)
 obtain ⟨P,rfl⟩:∃P:Nat,p=(P:Int):=Int.eq_ofNat_of_zero_le (by rcases hp with z | z | z <;> omega)
 have hP:P=101\/P=10007\/P=999999937:=by
  rcases hp with z | z | z
  ·exact .inl (by omega)
  ·exact .inr (.inl (by omega))
  ·exact .inr (.inr (by omega))
 have e:=Int.emod_eq_emod_iff_emod_sub_eq_zero.mp h
 have e2:off+(i:Int)*(q:Int)-(off+(j:Int)*(q:Int))=(((i-j)*q:Nat):Int):=by
  rw [Int.natCast_mul,Int.ofNat_sub (by omega),Int.sub_mul]
  omega
 rw [e2] at e
 have e3:((i-j)*q) % P=0:=by exact_mod_cast e
 have d1:P ∣ (i-j)*q:=Nat.dvd_of_mod_eq_zero e3
 have c1:Nat.gcd P (i-j)=1:=cop P hP _ (by omega) (by omega)
 have d2:P ∣ q:=Nat.Coprime.dvd_of_dvd_mul_left c1 d1
 have:=Nat.le_of_dvd (by omega) d2
 omega
theorem Qfe {p leap off:Int} (hp:isP p) (h1:0<leap) (h2:leap<p) {q:Nat} (hq:q<=101):((List.range q).map λ(i:Nat)=>(off+(i:Int)*leap) % p).Nodup:=by
 rw [List.nodup_iff_pairwise_ne,List.pairwise_map]
 refine List.Pairwise.imp_of_mem ?_ (List.pairwise_lt_range)
 intro i j hi hj hlt h
 exact Qov hp h1 h2 (by have:=List.mem_range.mp hj;omega) hlt h.symm
theorem Qop {ds:List D} {a b:Nat} (h:a<=b) (hb:b<=ds.length):cutD ds (some (a:Int)) (some (b:Int))=(ds.drop a).take (b-a):=by
 unfold cutD
 rw [HT.Qaa,HT.Qaa,Nat.min_eq_left hb,Nat.min_eq_left (Nat.le_trans h hb)]
theorem Qj5 {ds:List D} {a:Nat} (h:a<=ds.length):cutD ds (some (a:Int)) none=ds.drop a:=by
 unfold cutD
 rw [HT.Qaa,HT.Qdq,Nat.min_eq_left h,List.take_of_length_le (by simp)]
theorem Qrz {ds:List D} {b:Nat}:cutD ds none (some (b:Int))=ds.take b:=by
 unfold cutD
 rw [HT.Qaa,HT.Qdq,List.drop_zero,Nat.sub_zero]
 by_cases h:b<=ds.length
 ·rw [Nat.min_eq_left h]
 ·rw [Nat.min_eq_right (by omega),List.take_of_length_le (by omega),List.take_of_length_le (by omega)]
def rowD (c n:Int):D:=.lst [.int c,.int n]
def webD (m e:Nat) (A:Nat->Int) (r:Int):D:=.tup [.tup ((List.range m).map λk=>.tup ((List.range 4).map λj=>.int (A (4*k+j)))),.tup ((List.range e).map λj=>.int (A (4*m+j))),.int r]
structure Pr (N:Nat) (xs:List Int) (t:Nat) (L:List Nat) (Bs:List Int) (ps:List (Nat × Nat)):Prop where
 bl:Bs.length=N
 pl:ps.length=t
 perm:(ps.flatMap (λp=>[p.1,p.2])++L).Perm (List.range N)
 val:∀(s:Nat) p,ps[s]? = some p->∃x,xs[s]? = some x/\Bs[p.1]? = some x/\Bs[p.2]? = some x
theorem Pr.lt {N:Nat} {xs:List Int} {t:Nat} {L:List Nat} {Bs:List Int} {ps:List (Nat × Nat)} (h:Pr N xs t L Bs ps) {i:Nat} (hi:i∈L):i<N:=by
 have:=h.perm.mem_iff.mp (List.mem_append.mpr (.inr hi))
 exact List.mem_range.mp this
theorem Pr.nd {N:Nat} {xs:List Int} {t:Nat} {L:List Nat} {Bs:List Int} {ps:List (Nat × Nat)} (h:Pr N xs t L Bs ps):(ps.flatMap (λp=>[p.1,p.2])++L).Nodup:=h.perm.nodup_iff.mpr List.nodup_range
theorem Pr.start (N:Nat) (xs:List Int):Pr N xs 0 (List.range N) (List.replicate N 0) []:=⟨by simp,rfl,by simp,λs p h=>by simp at h⟩
theorem Xn {α:Type}:∀{l:List α} {i:Nat} (h:i<l.length),(l[i]::l.eraseIdx i).Perm l
 | a::l,0,_=>List.Perm.refl _
 | a::l,i+1,h=>by
  have:=Xn (l:=l) (i:=i) (by simpa using h)
  simp only [List.getElem_cons_succ,List.eraseIdx_cons_succ]
  exact (List.Perm.swap _ _ _).trans (this.cons a)
theorem Qbn {α β:Type} {f:α->β}:∀{l:List α} {i:Nat},(l.map f).eraseIdx i=(l.eraseIdx i).map f
 | [],_=>rfl
 | a::l,0=>rfl
 | a::l,i+1=>by simp only [List.map_cons,List.eraseIdx_cons_succ,Qbn]
theorem Pr.step {N:Nat} {xs:List Int} {t i s:Nat} {L:List Nat} {Bs:List Int} {ps:List (Nat × Nat)} {x:Int} (h:Pr N xs t (i::L) Bs ps) (hx:xs[t]? = some x) (hs:s<L.length) :
  Pr N xs (t+1) (L.eraseIdx s) ((Bs.set i x).set L[s] x) (ps++[(i,L[s])]):=by
 have nd:=h.nd
 obtain ⟨n1,n2,n3⟩:=List.nodup_append.mp nd
 have hjm:L[s]∈L:=List.getElem_mem hs
 have hij:i≠L[s]:=λz=>(List.nodup_cons.mp n2).1 (z ▸ hjm)
 have hi:=h.lt (List.mem_cons_self (a:=i))
 have hj:=h.lt (List.mem_cons_of_mem i hjm)
 refine ⟨by simp [h.bl],by simp [h.pl],?_,λs' p hp=>?_⟩
 ·rw [List.flatMap_append]
  refine List.Perm.trans ?_ h.perm
  rw [List.append_assoc]
  refine List.Perm.append_left _ ?_
  show (i::L[s]::L.eraseIdx s).Perm (i::L)
  exact List.Perm.cons _ (Xn hs)
 ·by_cases hs':s' < ps.length
  ·rw [List.getElem?_append_left hs'] at hp
   obtain ⟨y,h1,h2,h3⟩:=h.val s' p hp
   have mem:∀a,a=p.1\/a=p.2->a∈ps.flatMap (λp=>[p.1,p.2]):=λa ha=>List.mem_flatMap.mpr ⟨p,List.mem_of_getElem? hp,by simpa using ha⟩
   have ne:∀a,a=p.1\/a=p.2->i≠a/\L[s]≠a:=λa ha=>⟨λz=>n3 a (mem a ha) i List.mem_cons_self z.symm,λz=>n3 a (mem a ha) L[s] (List.mem_cons_of_mem _ hjm) z.symm⟩
   refine ⟨y,h1,?_,?_⟩
   ·rw [List.getElem?_set_ne (ne _ (.inl rfl)).2,List.getElem?_set_ne (ne _ (.inl rfl)).1];exact h2
   ·rw [List.getElem?_set_ne (ne _ (.inr rfl)).2,List.getElem?_set_ne (ne _ (.inr rfl)).1];exact h3
  ·have e:s'=t:=by
    have:=(List.getElem?_eq_some_iff.mp hp).1
    have:=h.pl
    simp at *
    omega
   subst e
   rw [List.getElem?_append_right (by omega),h.pl,Nat.sub_self] at hp
   simp at hp
   subst hp
   refine ⟨x,hx,?_,?_⟩
   ·rw [List.getElem?_set_ne (Ne.symm hij),List.getElem?_set_self (by rw [h.bl];exact hi)]
   ·rw [List.getElem?_set_self (by rw [List.length_set,h.bl];exact hj)]
theorem Pr.tw {N:Nat} {xs:List Int} {t:Nat} {Bs:List Int} {ps:List (Nat × Nat)} (h:Pr N xs t [] Bs ps) (nd:xs.Nodup):∃g,M.Tw N (λi=>Bs.getD i 0) g:=by
 have nf:=h.nd
 rw [List.append_nil] at nf
 have val:∀i,i<N->∃(s:Nat) (p:Nat × Nat) (x:Int),ps[s]? = some p/\(i=p.1\/i=p.2)/\xs[s]? = some x/\Bs.getD i 0=x:=λi hi=>by
  have:=h.perm.mem_iff.mpr (List.mem_range.mpr hi)
  rw [List.append_nil] at this
  obtain ⟨p,hp,hip⟩:=List.mem_flatMap.mp this
  obtain ⟨s,hs⟩:=List.mem_iff_getElem?.mp hp
  obtain ⟨x,h1,h2,h3⟩:=h.val s p hs
  have hip':i=p.1\/i=p.2:=by simpa using hip
  refine ⟨s,p,x,hs,hip',h1,?_⟩
  rcases hip' with z | z
  ·rw [List.getD_eq_getElem?_getD,z,h2];rfl
  ·rw [List.getD_eq_getElem?_getD,z,h3];rfl
 have ne:∀p∈ps,p.1≠p.2:=λp hp z=>by
  have:[p.1,p.2].Nodup:=by
   have hsub:[p.1,p.2].Sublist (ps.flatMap λp=>[p.1,p.2]):=by
    obtain ⟨a,b,rfl⟩:=List.append_of_mem hp
    rw [List.flatMap_append,List.flatMap_cons]
    exact (List.sublist_append_left _ _).trans (List.sublist_append_right _ _)
   exact nf.sublist hsub
  simp [z] at this
 have ltp:∀p∈ps,p.1<N/\p.2<N:=λp hp=>by
  have m1:=h.perm.mem_iff.mp (List.mem_append.mpr (.inl (List.mem_flatMap.mpr ⟨p,hp,List.mem_cons_self⟩)))
  have m2:=h.perm.mem_iff.mp (List.mem_append.mpr (.inl (List.mem_flatMap.mpr ⟨p,hp,List.mem_cons_of_mem _ List.mem_cons_self⟩)))
  exact ⟨List.mem_range.mp m1,List.mem_range.mp m2⟩
 have ex:∀i,∃j,i<N->j<N/\j≠i/\Bs.getD j 0=Bs.getD i 0/\∀k,k<N->Bs.getD k 0=Bs.getD i 0->k=i\/k=j:=λi=>by
  by_cases hi:i<N
  ·obtain ⟨s,p,x,hs,hip,hx,hv⟩:=val i hi
   have hp:=List.mem_of_getElem? hs
   obtain ⟨x',h1,h2,h3⟩:=h.val s p hs
   rw [hx] at h1;cases h1
   have only:∀k,k<N->Bs.getD k 0=Bs.getD i 0->k=p.1\/k=p.2:=λk hk e=>by
    obtain ⟨s',p',y,hs',hkp,hy,hw⟩:=val k hk
    rw [hw,hv] at e
    subst e
    have:s'=s:=by
     have l1:=(List.getElem?_eq_some_iff.mp hx)
     have l2:=(List.getElem?_eq_some_iff.mp hy)
     obtain ⟨a1,a2⟩:=l1
     obtain ⟨b1,b2⟩:=l2
     exact (List.getElem_inj nd).mp (b2.trans a2.symm)
    subst this
    rw [hs] at hs';cases hs'
    exact hkp
   rcases hip with z | z
   ·refine ⟨p.2,λ_=>⟨(ltp p hp).2,λq=>ne p hp (by rw [← z,q]),?_,λk hk e=>(only k hk e).imp (λq=>q.trans z.symm) id⟩⟩
    rw [hv,List.getD_eq_getElem?_getD,h3];rfl
   ·refine ⟨p.1,λ_=>⟨(ltp p hp).1,λq=>ne p hp (by rw [q,z]),?_,λk hk e=>(only k hk e).elim .inr (λq=>.inl (q.trans z.symm))⟩⟩
    rw [hv,List.getD_eq_getElem?_getD,h2];rfl
  ·exact ⟨0,λz=>absurd z hi⟩
 refine ⟨λi=>Classical.choose (ex i),λi hi=>(Classical.choose_spec (ex i) hi).1,λi hi=>(Classical.choose_spec (ex i) hi).2.1,λi hi=>(Classical.choose_spec (ex i) hi).2.2.1,λi k hi hk e=>(Classical.choose_spec (ex i) hi).2.2.2 k hk e⟩
theorem Zx {Bs:List Int} {a b:Nat} (h:a+b<=Bs.length):((Bs.map D.int).drop a).take b=(List.range b).map λj=>D.int (Bs.getD (a+j) 0):=by
 apply List.ext_getElem?
 intro j
 rw [List.getElem?_take,List.getElem?_map]
 by_cases hj:j<b
 ·rw [if_pos hj,List.getElem?_drop,List.getElem?_map,List.getElem?_range hj,List.getElem?_eq_getElem (by omega)]
  simp [List.getD_eq_getElem?_getD,List.getElem?_eq_getElem (show a+j<Bs.length by omega)]
 ·rw [if_neg hj,List.getElem?_eq_none (by simpa using hj)];rfl
def Qhy (Bs:List Int):D->D
 | .int k=>.tup ((List.range 4).map λj=>.int (Bs.getD (4*k.toNat+j) 0))
 | d=>d
theorem Xw {Bs:List Int} {i:Nat}:Qhy Bs (.int (0+(i:Int)))=.tup ((List.range 4).map λj=>.int (Bs.getD (4*i+j) 0)):=by
 show D.tup ((List.range 4).map λj=>.int (Bs.getD (4*(0+(i:Int)).toNat+j) 0))=_
 rw [show (0+(i:Int)).toNat=i by omega]
theorem Qe9 {Bs:List Int} {m:Nat}:(rngD 0 m).map (Qhy Bs)=(List.range m).map λk=>.tup ((List.range 4).map λj=>.int (Bs.getD (4*k+j) 0)):=by
 unfold rngD
 rw [List.map_map]
 apply List.map_congr_left
 intro i _
 exact Xw
theorem Qjo {Bs:List Int} {P:Int->Prop} (h0:P 0) (h:∀b∈Bs,P b) (i:Nat):P (Bs.getD i 0):=by
 rw [List.getD_eq_getElem?_getD]
 cases q:Bs[i]? with
 | none=>exact h0
 | some b=>exact h b (List.mem_of_getElem? q)
theorem len1 {α:Type}:∀{us:List α},us.length=1->∃a,us=[a]
 | [a],_=>⟨a,rfl⟩
theorem len2 {α:Type} {us:List α} (h:us.length=2):∃a b,us=[a,b]:=by
 cases us with
 | nil=>cases h
 | cons a us=>obtain ⟨b,rfl⟩:=len1 (Nat.succ.inj h);exact ⟨a,b,rfl⟩
theorem len3 {α:Type} {us:List α} (h:us.length=3):∃a b c,us=[a,b,c]:=by
 cases us with
 | nil=>cases h
 | cons a us=>obtain ⟨b,c,rfl⟩:=len2 (Nat.succ.inj h);exact ⟨a,b,c,rfl⟩
theorem len4 {α:Type} {us:List α} (h:us.length=4):∃a b c d,us=[a,b,c,d]:=by
 cases us with
 | nil=>cases h
 | cons a us=>obtain ⟨b,c,d,rfl⟩:=len3 (Nat.succ.inj h);exact ⟨a,b,c,d,rfl⟩
theorem len5 {α:Type} {us:List α} (h:us.length=5):∃a b c d e,us=[a,b,c,d,e]:=by
 cases us with
 | nil=>cases h
 | cons a us=>obtain ⟨b,c,d,e,rfl⟩:=len4 (Nat.succ.inj h);exact ⟨a,b,c,d,e,rfl⟩
end PV
namespace PV
open PySem PySem.Spec L2
def spD (m i:Nat):D:=.tup [.int (M.sp m i).1,.int (M.sp m i).2]
def ksP (m i:Nat):List Key:=[.inl (M.sp m i).1,.inl (M.sp m i).2]
theorem Qn1 {m i j:Nat} (h:ksP m i=ksP m j):i=j:=by
 unfold ksP at h
 injection h with h1 h2
 injection h2 with h2 _
 injection h1 with h1
 injection h2 with h2
 exact M.Qks (Prod.ext h1 h2)
theorem Qcl {m i j:Nat} (h:spD m i=spD m j):i=j:=by
 unfold spD at h
 injection h with h
 injection h with h1 h2
 injection h2 with h2 _
 injection h1 with h1
 injection h2 with h2
 exact M.Qks (Prod.ext h1 h2)
theorem Qbe:∀{ds:List D} {n:Nat},Qj ds=true->Qj (V6 n ds)=true
 | [],_,_=>rfl
 | d::r,n,h=>by
  simp only [Qj,Bool.and_eq_true] at h
  simp only [V6,Qj,D.pure,Bool.and_eq_true]
  exact ⟨⟨trivial,h.1,trivial⟩,Qbe h.2⟩
theorem Zs {m i:Nat}:(spD m i).pure=true:=rfl
end PV
namespace M
open PySem PySem.Spec L2 PV
end M
namespace PV
open PySem PySem.Spec L2
end PV
namespace PV
open PySem PySem.Spec L2
section
variable {X:Cx} {T:Tg} {m o m1 m2 m3 o1 o2:Bool} {e a b:Expr} {w wa wb:WE} {pos p2 p:Pos} {es:List Expr} {wr:WA} {x:Str}
variable {name:Str} {apos cpos:Pos} {T' id:String}
end
end PV
namespace S03
open PySem PySem.Spec L2 PV
open PySem.Builtin.Str (glued)
variable {k:D->Prop} {kk:D->D->Prop} {i:Int} {x y:Str} {xs ys:List D} {kvs:List (Key × D)}
end S03
namespace S24
open PySem PySem.Spec L2 PV S03
open PySem.Builtin.Str (glued occurrences strSub subAt)
section
variable {k:D->Prop} {i:Int} {x y:Str} {xs zs:List D}
end
end S24
namespace PV
open PySem PySem.Spec L2
open PyProof.Rows (envOfC)
mutual
def D.bare:D->Bool
 | .non=>true
 | .bl _=>true
 | .int _=>true
 | .str _=>true
 | .ty _=>true
 | .tup xs=>Ui xs
 | .lst xs=>Ui xs
 | .dik kvs=>Qkd kvs
 | .dit kvs=>Qkc kvs
 | .kls _=>false
 | .fdk _=>false
 | .ftp _=>false
 | .fls _=>false
 | .fdt _=>false
 | .obj _ _=>false
 | .clo _ _=>false
 | .kc _=>true
 | .dmx _=>false
 | .fmx _=>false
def Ui:List D->Bool
 | []=>true
 | d::r=>d.bare && Ui r
def Qkd:List (Key × D)->Bool
 | []=>true
 | (_,d)::r=>d.bare && Qkd r
def Qkc:List (List Key × D)->Bool
 | []=>true
 | (_,d)::r=>d.bare && Qkc r
end
theorem Qb9 {xs:List D}:Ui xs=true↔∀x∈xs,x.bare=true:=by
 induction xs with
 | nil=>simp [Ui]
 | cons d r ih=>simp only [Ui,Bool.and_eq_true,ih,List.mem_cons,forall_eq_or_imp]
def Thaw (H H':Hp):Prop:=∀b ob,H b=some ob->(∀o u,ob ≠ .frz o u)->H' b=some ob
theorem Rep.bare {K:PySem.W.Frag} {H H':Hp} (hi:Thaw H H') {d:D} {v:V} {F:List Addr} (r:Rep K H d v F):d.bare=true->Rep K H' d v F:=by
 have no:∀{P:Prop} {b:Bool},b=false->b=true->P:=λh h'=>absurd (h.symm.trans h') (by simp)
 refine Rep.rec (motive_1:=λd v F _=>d.bare=true->Rep K H' d v F) (motive_2:=λd v F _=>Ui d=true->Reps K H' d v F) (motive_3:=λd v F _=>Qkd d=true->RepK K H' d v F) (motive_4:=λd v F _=>Qkc d=true->RepT K H' d v F) ?_ ?_ ?_ ?_ ?_ ?_ ?_ ?_ ?_ ?_ ?_ ?_ ?_ ?_ ?_ ?_ ?_ ?_ ?_ ?_ ?_ ?_ ?_ ?_ ?_ r
 ·exact λ_=>.non
 ·exact λb _=>.bl b
 ·exact λb _=>.int b
 ·exact λb _=>.str b
 ·exact λe _ ih k=>.tup (hi _ _ e λ_ _ z=>by cases z) (ih (by rw [D.bare] at k;exact k))
 ·exact λe _ ih k=>.lst (hi _ _ e λ_ _ z=>by cases z) (ih (by rw [D.bare] at k;exact k))
 ·exact λe _ ih k=>.dik (hi _ _ e λ_ _ z=>by cases z) (ih (by rw [D.bare] at k;exact k))
 ·exact λe _ ih k=>.dit (hi _ _ e λ_ _ z=>by cases z) (ih (by rw [D.bare] at k;exact k))
 ·exact λ_ _ _=>no (by rw [D.bare])
 ·exact λt _=>.ty t
 ·exact λ_ _ _=>no (by rw [D.bare])
 ·exact λ_ _ _ _=>no (by rw [D.bare])
 ·exact λ_ _ _=>no (by rw [D.bare])
 ·exact λ_ _ _=>no (by rw [D.bare])
 ·exact λ_ _ _=>no (by rw [D.bare])
 ·exact λ_ _ _=>no (by rw [D.bare])
 ·exact λh _=>.kc h
 ·exact λ_ _ _ _ _=>no (by rw [D.bare])
 ·exact λ_ _ _ _ _=>no (by rw [D.bare])
 ·exact λ_=>.nil
 ·exact λ_ _ ih1 ih2 k=>by rw [Ui,Bool.and_eq_true] at k;exact .cons (ih1 k.1) (ih2 k.2)
 ·exact λ_=>.nil
 ·exact λ_ _ ih1 ih2 k=>by rw [Qkd,Bool.and_eq_true] at k;exact .cons (ih1 k.1) (ih2 k.2)
 ·exact λ_=>.nil
 ·exact λ_ _ ih1 ih2 k=>by rw [Qkc,Bool.and_eq_true] at k;exact .cons (ih1 k.1) (ih2 k.2)
theorem Reps.bare {K:PySem.W.Frag} {H H':Hp} (hi:Thaw H H') {d:List D} {v:List V} {F:List Addr} (r:Reps K H d v F) (k:Ui d=true):Reps K H' d v F:=by
 induction d generalizing v F with
 | nil=>cases r;exact .nil
 | cons d ds ih =>
  cases r with
  | cons h r=>rw [Ui,Bool.and_eq_true] at k;exact .cons (h.bare hi k.1) (ih r k.2)
section
variable {X:Cx} {T:Tg} {m o:Bool} {e:Expr} {w:WE} {pos p:Pos} {x:Str} {k:Nat} {ps:List Str} {L:Lam} {g:GA}
end
section
variable {P:Program} {w:World} {K:PySem.W.Frag} {mg:Str->Option Value} {base:Heap} {x qual:Str} {st:Stmt} {f:Addr} {fd:FuncData} {N ps:List Str} {k:Nat} {T:Tg} {ww:WS} {TB:List (Addr × Array Value)}
end
end PV
namespace PV
open PySem PySem.Spec L2
section
variable {X:Cx} {T:Tg} {m o:Bool} {e:Expr} {w:WE} {pos p q:Pos} {x y:Str} {k:Nat}
theorem Gh {κ:Type} [DecidableEq κ] {kvs:List (κ × D)} {k:κ} {v:D} (h:(kvs.all λkv=>kv.2.pure)=true) (hv:v.pure=true):((putD kvs k v).all λkv=>kv.2.pure)=true:=by
 rw [List.all_eq_true] at h ⊢
 intro p hp
 unfold putD at hp
 split at hp
 ·obtain ⟨r,hr,rfl⟩:=List.mem_map.mp hp
  split
  ·exact hv
  ·exact h r hr
 ·rcases List.mem_append.mp hp with hp | hp
  ·exact h p hp
  ·rw [List.mem_singleton.mp hp];exact hv
end
end PV
namespace PV
open PySem PySem.Spec L2
theorem hu66 {k:Nat} {A:Around} (r:Room k A):A.units+66<cLine:=by have:=r.un;omega
section
variable {X:Cx} {T:Tg} {m o:Bool} {e:Expr} {w:WE} {pos p q:Pos} {x y:Str} {k:Nat}
end
end PV
namespace PV
open PySem PySem.Spec L2
section
variable {X:Cx} {T:Tg} {K:PySem.W.Frag} {z:Nat->V} {R:Addr->Prop} {H:Hp} {W:Addr->Prop} {σ:L2.St} {ρ ρ':Env}
end
section
variable {X:Cx} {T:Tg} {o:Bool} {e:Expr} {w:WE} {pos p q:Pos} {x y n:Str} {k:Nat}
end
end PV
namespace PV
open PySem PySem.Spec L2
open PySem.W (Dat kqdP kqdPs kqdOk)
open PyProof.Rows (reads_tuple_at eq_dataH)
mutual
def kcIn (K:PySem.W.Frag):KC->Value->Bool
 | .int i,.int j _=>decide (i=j)
 | .tup ks,.ref a=>match K.lookup a with
  | some ⟨.type t,_,.seq its _,_⟩=>t == "tuple" && (decide (its.size<=1000) && Qe0 K ks its.toList)
  | _=>false
 | _,_=>false
def Qe0 (K:PySem.W.Frag):List KC->List Value->Bool
 | [],[]=>true
 | c::cs,v::vs=>kcIn K c v && Qe0 K cs vs
 | _,_=>false
end
mutual
theorem Qg3 {K:PySem.W.Frag}:∀(c:KC) (u:Value),kcIn K c u=true->∃v,RelV v u/\IsKC K c v
 | .int i,u,h=>by
  cases u with
  | int j t =>
   rw [kcIn] at h
   obtain rfl:=of_decide_eq_true h
   exact ⟨.int i,⟨t,rfl⟩,.int i⟩
  | _=>simp [kcIn] at h
 | .tup ks,u,h=>by
  cases u with
  | ref a =>
   rw [kcIn] at h
   split at h
   ·rename_i t d its n sl e
    rw [Bool.and_eq_true,Bool.and_eq_true] at h
    obtain ⟨h1,h2,h3⟩:=h
    have h1:t = "tuple":=by simpa using h1
    subst h1
    obtain ⟨vs,r1,r2⟩:=Qd9 ks its.toList h3
    exact ⟨.ref a,rfl,.tup e rfl rfl (Nat.le_trans (of_decide_eq_true h2) (by decide)) r1 r2⟩
   ·cases h
  | _=>simp [kcIn] at h
 | .any _,u,h=>by simp [kcIn] at h
 | .fn _,u,h=>by simp [kcIn] at h
theorem Qd9 {K:PySem.W.Frag}:∀(cs:List KC) (us:List Value),Qe0 K cs us=true->∃vs,Vals vs us/\AreKC K cs vs
 | [],us,h=>by
  cases us with
  | nil=>exact ⟨[],.nil,.nil⟩
  | cons _ _=>simp [Qe0] at h
 | c::cs,us,h=>by
  cases us with
  | nil=>simp [Qe0] at h
  | cons u us =>
   rw [Qe0,Bool.and_eq_true] at h
   obtain ⟨v,r1,r2⟩:=Qg3 c u h.1
   obtain ⟨vs,q1,q2⟩:=Qd9 cs us h.2
   exact ⟨v::vs,.cons r1 q1,.cons r2 q2⟩
end
abbrev KcN (K:PySem.W.Frag) (mg:Str->Option Value) (y:Str) (c:KC):Prop:=∃a,mg y=some (.ref a)/\kcIn K c (.ref a)=true
section
variable {X:Cx}
end
section
variable {X:Cx} {T:Tg} {m o o1 o2:Bool} {e a b e₀:Expr} {es:List Expr} {w wa wb:WE} {pos p2 p np cpos hpos px:Pos} {wr:WA} {x y:Str} {ws wh:WS} {k:Nat} {ps:List Str}
theorem Qtr {c:KC} (hB:KcN X.K X.mg y c) (hg:Gl X y:=by rfl) (hd:(y == ("__debug__" : Str))=false:=by decide):EV X T false true (.Name y pos) (wC (.kc c)):=by
 obtain ⟨f,b1,b2⟩:=hB
 obtain ⟨v,r1,r2⟩:=Qg3 c _ b2
 exact Z6 (Qgf hg b1 (v:=v) r1 hd) λ_=>.kc r2
end
theorem Qdw {ks:List KC} {k:List D->Prop}:Qit (.kc (.tup ks)) k=k (ks.map kcD):=rfl
end PV
namespace L2
open PySem PySem.Spec PyProof.Rows
open PySem.W (Dat kqdP kqdPs kqdOk)
section
variable {X:Cx}
def Qsx (K:PySem.W.Frag):R2:=λx y H Q=>∃l b xs zs,x=.ref l/\y=.ref b/\SqL K H l xs/\SqL K H b zs/\xs.length+zs.length<=sizeLine/\∀p,H p=none->Q (.ref p) (upd H p (.lst (xs++zs)))
theorem Qno:OpR X (binaryOp .Add) (Qsx X.K):=by
 intro pins s σ H x y v u Q I rx ry h
 obtain ⟨l,b,xs,zs,rfl,rfl,hH,hB,hz,q⟩:=h
 cases rx
 cases ry
 obtain ⟨its,r,⟨⟨c1,d1,t1,s1⟩,n,e,rfl,rfl,rfl⟩,hl⟩:=I.list hH
 obtain ⟨its2,r2,⟨⟨c2,d2,t2,s2⟩,n2,e2,rfl,rfl,rfl⟩,hl2⟩:=I.list hB
 have z1:=r.length
 have z2:=r2.length
 refine concat_meets ⟨_,e,rfl⟩ ⟨_,e2,rfl⟩ noFill_list_add seq_list_add PySem.F.slot_list_add PySem.F.entry_list_add (PySem.F.args_list_add_2 _ _) (list_addW l b its.toArray its2.toArray n n2 _ _ _ _ (by simp only [List.size_toArray];omega)) ⟨e,e2,?_⟩
 have ea:its.toArray++its2.toArray=(its++its2).toArray:=by simp
 rw [ea]
 exact ⟨.ref _,_,I.lnew (t':=s.toks) (r.append r2) (by rw [List.length_append];omega),rfl,q _ I.fresh⟩
end
end L2
namespace PV
open PySem PySem.Spec L2 PyProof.Rows
section
variable {X:Cx} {T:Tg} {m o m1 m2 o1 o2:Bool} {e a b tg:Expr} {w wa wb:WE} {pos p q cp:Pos} {x y:Str}
def frzK (d:D) (k:D->Prop):Prop:=match d with
 | .lst xs=>Qj xs=true/\k (.kls xs)
 | _=>False
def G9 (w:WE):WE:=λρ Q=>w ρ λd ρ'=>frzK d λd'=>Q d' ρ'
def asK (Q:D->Env->Prop) (d:D) (ρ:Env):Prop:=match d with
 | .fls xs=>Q (.kls xs) ρ
 | _=>False
theorem Ug (h:EV X T m true e w):EV X T m true e (G9 w):=by
 obtain ⟨te,pe,ge⟩:=Qrt h
 refine ⟨te,pe,λz R σ H W ρ Q Q' s hw k=>ge z R σ H W ρ (asK Q) Q' s ?_ λv H1 W1 d ρ1 F pp qq=>?_⟩
 ·have:(λ(d:D) (ρ':Env)=>frzK d λd'=>Q d' ρ')=λd ρ'=>Qrn d λd'=>asK Q d' ρ':=by
   funext d ρ'
   cases d <;> rfl
  unfold G9 at hw
  rw [this] at hw
  exact hw
 ·cases d with
  | fls xs =>
   obtain ⟨sr,fr,calm,rep,own⟩:=pp
   cases rep with
   | fls e1 r=>exact k _ H1 W1 (.kls xs) ρ1 [] ⟨sr,fr,calm,.kls (.inl ⟨_,e1⟩) r,own⟩ qq
  | _=>exact (show False from qq).elim
theorem Qdx {xs:List D} {k:D->Prop}:frzK (.lst xs) k=(Qj xs=true/\k (.kls xs)):=rfl
def dInK (neg:Bool):G2
 | .int i,.kls xs,k=>oget (inD (.int i) xs) λb=>k (.bl (xor neg b))
 | _,_,_=>False
def Qj4:G2
 | .kls xs,.kls ys,k=>Qj xs=true/\Qj ys=true/\xs.length+ys.length<=sizeLine/\k (.lst (xs++ys))
 | _,_,_=>False
theorem Qgr:OpD X (binaryOp .Add) Qj4:=by
 refine ⟨_,Qno,λH a b x y F1 F2 k Q ra rb g q=>?_⟩
 obtain ⟨ds,es,rfl,rfl⟩:∃ds es,a=.kls ds/\b=.kls es:=by
  cases a with
  | kls i=>cases b with
   | kls j=>exact ⟨i,j,rfl,rfl⟩
   | _=>exact (show False from g).elim
  | _=>exact (show False from g).elim
 obtain ⟨a,xs,rfl,_,e1,r1⟩:=ra.iKls
 obtain ⟨b,ys,rfl,_,e2,r2⟩:=rb.iKls
 obtain ⟨p1,p2,hz,g⟩:=g
 have l1:=r1.length
 have l2:=r2.length
 refine ⟨a,b,xs,ys,rfl,rfl,e1.sq,e2.sq,by omega,λp hp=>?_⟩
 exact q _ _ _ [p] ⟨Qh hp,.lst Qi ((r1.append r2).same (Qh hp)),by simp,λc m=>by rw [List.mem_singleton.mp m];exact hp⟩ g
theorem Qdy {xs ys:List D} {k:D->Prop}:Qj4 (.kls xs) (.kls ys) k=(Qj xs=true/\Qj ys=true/\xs.length+ys.length<=sizeLine/\k (.lst (xs++ys))):=rfl
end
end PV
namespace L2
open PySem PySem.Spec PyProof.Rows
section
variable {X:Cx}
end
end L2
namespace PV
open PySem PySem.Spec L2 PyProof.Rows
section
variable {X:Cx} {T:Tg} {m o o1 o2:Bool} {e oe tg:Expr} {w we:WE} {wr:WA} {pos p q p2 ps1 ap2 cp2 apos cpos:Pos} {x y:Str}
end
end PV
namespace Mx
open PySem PySem.Spec L2
theorem Qdl {H:Hp} {a:Addr} {o:HO} (h:H a=some o):upd H a o=H:=by
 funext b
 unfold upd
 split
 ·rename_i z;rw [z,h]
 ·rfl
def Qsu:V->List V->Hp->VK->Prop:=λx vs H Q=>∃a kvs k y dv,x=.ref a/\vs=[y,dv]/\H a=some (mixO a kvs)/\Keys H kvs/\G7 H k y/\(valM kvs k=none->Q dv (upd H a (mixO a kvs)))/\∀v,valM kvs k=some v->Q v (upd H a (mixO a (Qc4 kvs k)))
def Qsv:V->List V->Hp->VK->Prop:=λx vs H Q=>∃a kvs k y dv,x=.ref a/\vs=[y,dv]/\H a=some (mixO a kvs)/\Keys H kvs/\G7 H k y/\Q ((valM kvs k).getD dv) (upd H a (mixO a kvs))
theorem Qdi {y dv:V} {us:List Value} (r:Vals [y,dv] us):∃u w,us=[u,w]/\RelV y u/\RelV dv w:=by
 cases r with
 | cons h1 t=>cases t with
  | cons h2 t=>cases t;exact ⟨_,_,rfl,h1,h2⟩
variable {X:Cx}
theorem Qnw (hu:X.A.units+1<cLine):MtM X "dict.pop" Qsu:=by
 intro pins s σ H x vs v us Q I rx rv h
 obtain ⟨a,kvs,k,y,dv,rfl,rfl,hH,hk,ky,q0,q1⟩:=h
 cases rx
 obtain ⟨u,w,rfl,ry,rd⟩:=Qdi rv
 refine Qtf hu I hH hk ky ry (λhn s' I'=>?_) λv w' s' hv I' rw'=>⟨v,_,I',rw',q1 v hv⟩
 have:=q0 hn
 rw [Qdl hH] at this
 exact ⟨dv,_,I',rd,this⟩
theorem Qnx (hu:X.A.units+1<cLine):MtM X "dict.get" Qsv:=by
 intro pins s σ H x vs v us Q I rx rv h
 obtain ⟨a,kvs,k,y,dv,rfl,rfl,hH,hk,ky,q⟩:=h
 cases rx
 obtain ⟨u,w,rfl,ry,rd⟩:=Qdi rv
 rw [Qdl hH] at q
 exact Qtg hu I hH hk ky ry rd λw' s' I' rw'=>⟨_,_,I',rw',q⟩
end Mx
namespace PV
open PySem PySem.Spec L2 Mx
def Uw:List D->Option (List Int)
 | []=>some []
 | .int i::r=>(Uw r).map (i :: ·)
 | _=>none
def keyM:D->Option MI
 | .int i=>some (.inl i)
 | .tup xs=>(Uw xs).map .inr
 | _=>none
theorem Qbr:∀{xs:List D} {l:List Int},Uw xs=some l->xs=l.map .int
 | [],l,h=>by cases h;rfl
 | d::r,l,h=>by
  cases d with
  | int i =>
   obtain ⟨m,hm,rfl⟩:=Option.map_eq_some_iff.mp (show (Uw r).map (i :: ·)=some l from h)
   rw [Qbr hm];rfl
  | _=>cases h
section
variable {K:PySem.W.Frag} {H:Hp}
theorem Qee:∀{l:List Int} {xs:List V} {F:List Addr},Reps K H (l.map .int) xs F->xs=l.map V.int
 | [],_,_,r=>by cases r;rfl
 | i::l,_,_,r=>by
  cases r with
  | cons h r=>cases h;rw [Qee r];rfl
theorem Qak {d:D} {v:V} {F:List Addr} {k:MI} (r:Rep K H d v F) (h:keyM d=some k):G7 H k v:=by
 cases d with
 | int i=>cases h;cases r;rfl
 | tup xs =>
  obtain ⟨l,hl,rfl⟩:=Option.map_eq_some_iff.mp (show (Uw xs).map .inr=some k from h)
  have:=Qbr hl
  subst this
  cases r with
  | tup e r=>rw [Qee r] at e;exact ⟨_,rfl,e⟩
 | _=>cases h
structure Mrep (K:PySem.W.Frag) (H:Hp) (ds:List (MI × D)) (kvs:KVM):Prop where
 hm:kvs.map (·.1)=ds.map (·.1)
 r:Reps K H (ds.map (·.2)) (kvs.map (·.2.2)) []
theorem Mrep.cons_inv {k:MI} {d:D} {ds:List (MI × D)} {kvs:KVM} (h:Mrep K H ((k,d)::ds) kvs):∃y v r,kvs=(k,y,v)::r/\Rep K H d v []/\Mrep K H ds r:=by
 obtain ⟨hm,hr⟩:=h
 cases kvs with
 | nil=>cases hm
 | cons p r =>
  obtain ⟨j,y,v⟩:=p
  have e:j=k:=(List.cons.inj hm).1
  subst e
  have hr:Reps K H (d::ds.map (·.2)) (v::r.map (·.2.2)) []:=hr
  generalize hF:([]:List Addr)=F at hr
  cases hr with
  | cons h1 h2 =>
   obtain ⟨rfl,rfl⟩:=List.append_eq_nil_iff.mp hF.symm
   exact ⟨y,v,r,rfl,h1,(List.cons.inj hm).2,h2⟩
theorem Mrep.val {k:MI}:∀{ds:List (MI × D)} {kvs:KVM},Mrep K H ds kvs->(valD ds k=none/\valM kvs k=none)\/∃d v,valD ds k=some d/\valM kvs k=some v/\Rep K H d v []
 | [],kvs,h=>by
  have:kvs=[]:=by have:=h.hm;cases kvs with | nil=>rfl | cons _ _=>cases this
  subst this
  exact .inl ⟨rfl,rfl⟩
 | (j,d)::ds,kvs,h=>by
  obtain ⟨y,v,r,rfl,h1,h2⟩:=h.cons_inv
  unfold valD valM
  by_cases e:j=k
  ·rw [List.find?_cons_of_pos (by simpa using e),List.find?_cons_of_pos (by simpa using e)]
   exact .inr ⟨d,v,rfl,rfl,h1⟩
  ·rw [List.find?_cons_of_neg (by simpa using e),List.find?_cons_of_neg (by simpa using e)]
   exact Mrep.val h2
theorem Mrep.mk_cons {k:MI} {d:D} {y v:V} {ds:List (MI × D)} {kvs:KVM} (h1:Rep K H d v []) (h:Mrep K H ds kvs):Mrep K H ((k,d)::ds) ((k,y,v)::kvs) :=
 ⟨by rw [List.map_cons,List.map_cons,h.hm],.cons (F:=[]) (G:=[]) h1 h.r⟩
theorem Mrep.drop {k:MI}:∀{ds:List (MI × D)} {kvs:KVM},Mrep K H ds kvs->Mrep K H (Yo ds k) (Qc4 kvs k)
 | [],kvs,h=>by
  have:kvs=[]:=by have:=h.hm;cases kvs with | nil=>rfl | cons _ _=>cases this
  subst this
  exact h
 | (j,d)::ds,kvs,h=>by
  obtain ⟨y,v,r,rfl,h1,h2⟩:=h.cons_inv
  have ih:=h2.drop (k:=k)
  unfold Yo Qc4 at ih ⊢
  by_cases e:j=k
  ·rw [List.filter_cons_of_neg (by simpa using e),List.filter_cons_of_neg (by simpa using e)]
   exact ih
  ·rw [List.filter_cons_of_pos (by simpa using e),List.filter_cons_of_pos (by simpa using e)]
   exact ih.mk_cons h1
theorem Z3 {a:Addr} {o ob:HO} {kvs:KVM} (e:H a=some o) (ho:imm o=false) (h:Keys H kvs):Keys (upd H a ob) kvs:=λp hp=>by
 have:=h p hp
 revert this
 cases p.1 with
 | inl i=>exact id
 | inr l=>exact λ⟨b,e1,e2⟩=>⟨b,e1,by rw [Ql (λz=>by rw [z,e] at e2;cases e2;cases ho)];exact e2⟩
theorem Mrep.upd {a:Addr} {o ob:HO} {ds:List (MI × D)} {kvs:KVM} (e:H a=some o) (ho:imm o=false) (h:Mrep K H ds kvs):Mrep K (L2.upd H a ob) ds kvs :=
 ⟨h.hm,h.r.upd e ho λz=>nomatch z⟩
end
section
variable {X:Cx} {T:Tg}
def Qe6:GM
 | .dmx kvs,[key,dflt],k=>oget (keyM key) λkk=>key.pure=true/\dflt.pure=true/\match valD kvs kk with
  | none=>k dflt (.dmx kvs)
  | some d=>k d (.dmx (Yo kvs kk))
 | _,_,_=>False
def Qoc:GM
 | .dmx kvs,[key,dflt],k=>oget (keyM key) λkk=>key.pure=true/\dflt.pure=true/\k ((valD kvs kk).getD dflt) (.dmx kvs)
 | _,_,_=>False
theorem Qai (hu:X.A.units+1<cLine):MtD X "dict.pop" Qe6:=by
 refine ⟨_,Qnw hu,λH d ds v xs F G k Q r nd rs ndG dis g q=>?_⟩
 cases d with
 | dmx es =>
  cases ds with
  | nil=>exact (show False from g).elim
  | cons key ds =>
   cases ds with
   | nil=>exact (show False from g).elim
   | cons dflt ds =>
    cases ds with
    | cons _ _=>exact (show False from g).elim
    | nil =>
     obtain ⟨kk,hkk,hp1,hp2,g⟩:=Qk g
     obtain ⟨u1,u2,F1,F2,rfl,r1,r2⟩:=rs.at2
     cases r with
     | @dmx l kvs _ e hk hm rr =>
      obtain ⟨-,r1⟩:=r1.pure hp1
      obtain ⟨-,r2⟩:=r2.pure hp2
      have M:Mrep X.K H es kvs:=⟨hm,rr⟩
      refine ⟨l,kvs,kk,u1,u2,rfl,rfl,e,hk,Qak r1 hkk,λhn=>?_,λv hv=>?_⟩
      ·rcases M.val (k:=kk) with ⟨z1,_⟩ | ⟨d,v,_,z2,_⟩
       ·rw [z1] at g
        have M2:=M.upd (ob:=mixO l kvs) e rfl
        exact q u2 l _ dflt (.dmx es) [l] List.mem_cons_self rfl (.dmx Qi (Z3 e rfl hk) M2.hm M2.r) (by simp) (λa ha=>.inl ha) (r2.upd e rfl λz=>nomatch z) g
       ·rw [hn] at z2;cases z2
      ·rcases M.val (k:=kk) with ⟨_,z2⟩ | ⟨d,v',z1,z2,rd⟩
       ·rw [hv] at z2;cases z2
       ·rw [z1] at g
        rw [hv] at z2
        cases z2
        have M2:=(M.drop (k:=kk)).upd (ob:=mixO l (Qc4 kvs kk)) e rfl
        exact q v l _ d (.dmx (Yo es kk)) [l] List.mem_cons_self rfl (.dmx Qi (Z3 e rfl λp hp=>hk p (List.mem_filter.mp hp).1) M2.hm M2.r) (by simp) (λa ha=>.inl ha) (rd.upd e rfl λz=>nomatch z) g
 | _=>exact (show False from g).elim
theorem Qnz (hu:X.A.units+1<cLine):MtD X "dict.get" Qoc:=by
 refine ⟨_,Qnx hu,λH d ds v xs F G k Q r nd rs ndG dis g q=>?_⟩
 cases d with
 | dmx es =>
  cases ds with
  | nil=>exact (show False from g).elim
  | cons key ds =>
   cases ds with
   | nil=>exact (show False from g).elim
   | cons dflt ds =>
    cases ds with
    | cons _ _=>exact (show False from g).elim
    | nil =>
     obtain ⟨kk,hkk,hp1,hp2,g⟩:=Qk g
     obtain ⟨u1,u2,F1,F2,rfl,r1,r2⟩:=rs.at2
     cases r with
     | @dmx l kvs _ e hk hm rr =>
      obtain ⟨-,r1⟩:=r1.pure hp1
      obtain ⟨-,r2⟩:=r2.pure hp2
      have M:Mrep X.K H es kvs:=⟨hm,rr⟩
      have M2:=M.upd (ob:=mixO l kvs) e rfl
      refine ⟨l,kvs,kk,u1,u2,rfl,rfl,e,hk,Qak r1 hkk,?_⟩
      rcases M.val (k:=kk) with ⟨z1,z2⟩ | ⟨d,v',z1,z2,rd⟩
      ·rw [z1] at g
       rw [z2]
       exact q u2 l _ dflt (.dmx es) [l] List.mem_cons_self rfl (.dmx Qi (Z3 e rfl hk) M2.hm M2.r) (by simp) (λa ha=>.inl ha) (r2.upd e rfl λz=>nomatch z) g
      ·rw [z1] at g
       rw [z2]
       exact q v' l _ d (.dmx es) [l] List.mem_cons_self rfl (.dmx Qi (Z3 e rfl hk) M2.hm M2.r) (by simp) (λa ha=>.inl ha) (rd.upd e rfl λz=>nomatch z) g
 | _=>exact (show False from g).elim
end
end PV
namespace Mx
open PySem PySem.Spec L2
variable {X:Cx}
theorem Qmp (hu:X.A.units+1<cLine):PSet X (λo i v H Q=>∃a kvs k,o=.ref a/\H a=some (mixO a kvs)/\Keys H kvs/\G7 H k i/\kvs.length<sizeLine/\Q (upd H a (mixO a (putV kvs k i v)))):=by
 intro pins s σ H o i v ov iv u Q I ro ri rv q
 obtain ⟨a,kvs,k,rfl,hH,hk,ky,hl,q⟩:=q
 cases ro
 exact Qte hu I hH hk ky ri rv hl λs' I'=>⟨_,I',q⟩
theorem Qjz {P:Program} {w:World} {H:Hp} (h:Heap) (hb:sysModules<h.objs.size):Jh P w H (h.push { cls:=.type "dict",data:=.dict #[] }) h.objs.size (mixO h.objs.size []) :=
 Qbf ⟨beq_eq_false_iff_ne.mpr λz=>Nat.ne_of_lt hb z.symm,Nat.zero_le _,List.nodup_nil,[],.nil,_,#[],0,Heap.get?_push_size _ rfl,⟨rfl,rfl,rfl⟩,rfl,rfl⟩
theorem Qi7 {pos:Pos}:PE X (.Dict [] [] pos) (λ_ H Q=>∀p,H p=none->Q (.ref p) (upd H p (mixO p []))):=λpins s σ H Q I h =>
 wpAny_Dict_empty ⟨.ref s.heap.objs.size,_,I.laid (a:=s.heap.objs.size) (o:=mixO s.heap.objs.size []) (t':=s.toks) (λ_ _ q=>Heap.get?_push_of_some _ q) (Nat.le_refl _) (Qjz s.heap I.big),rfl,h _ (I.hok.fresh (Nat.le_refl _))⟩
end Mx
namespace PV
open PySem PySem.Spec L2 Mx
section
variable {K:PySem.W.Frag} {H:Hp}
theorem Mrep.any {k:MI} {ds:List (MI × D)} {kvs:KVM} (h:Mrep K H ds kvs):(valM kvs k).isSome=ds.any λkv=>decide (kv.1=k):=by
 induction ds generalizing kvs with
 | nil =>
  have:kvs=[]:=by have:=h.hm;cases kvs with | nil=>rfl | cons _ _=>cases this
  subst this
  rfl
 | cons p ds ih =>
  obtain ⟨j,d⟩:=p
  obtain ⟨y,v,r,rfl,h1,h2⟩:=h.cons_inv
  have ih:=ih h2
  unfold valM at ih ⊢
  rw [List.any_cons,← ih]
  by_cases e:j=k
  ·rw [List.find?_cons_of_pos (by simpa using e)]
   simp [e]
  ·rw [List.find?_cons_of_neg (by simpa using e)]
   simp [e]
theorem Mrep.map {k:MI} {d:D} {v:V} (hd:Rep K H d v []):∀{ds:List (MI × D)} {kvs:KVM},Mrep K H ds kvs->Mrep K H (ds.map λkv=>if kv.1=k then (kv.1,d) else kv) (kvs.map λp=>if p.1=k then (p.1,p.2.1,v) else p)
 | [],kvs,h=>by
  have:kvs=[]:=by have:=h.hm;cases kvs with | nil=>rfl | cons _ _=>cases this
  subst this
  exact h
 | (j,c)::ds,kvs,h=>by
  obtain ⟨y,w,r,rfl,h1,h2⟩:=h.cons_inv
  have ih:=Mrep.map (k:=k) hd h2
  rw [List.map_cons,List.map_cons]
  by_cases e:j=k
  ·rw [if_pos e,if_pos e];exact ih.mk_cons hd
  ·rw [if_neg e,if_neg e];exact ih.mk_cons h1
theorem Mrep.app {k:MI} {d:D} {y v:V} (hd:Rep K H d v []):∀{ds:List (MI × D)} {kvs:KVM},Mrep K H ds kvs->Mrep K H (ds++[(k,d)]) (kvs++[(k,y,v)])
 | [],kvs,h=>by
  have:kvs=[]:=by have:=h.hm;cases kvs with | nil=>rfl | cons _ _=>cases this
  subst this
  exact h.mk_cons hd
 | (j,c)::ds,kvs,h=>by
  obtain ⟨y',w,r,rfl,h1,h2⟩:=h.cons_inv
  exact (Mrep.app hd h2).mk_cons h1
theorem Mrep.put {k:MI} {d:D} {y v:V} {ds:List (MI × D)} {kvs:KVM} (h:Mrep K H ds kvs) (hd:Rep K H d v []):Mrep K H (putD ds k d) (putV kvs k y v):=by
 unfold putD putV
 rw [h.any]
 split
 ·exact h.map hd
 ·exact h.app hd
theorem Qf8 {k:MI} {y v:V} {kvs:KVM} (hk:Keys H kvs) (ky:G7 H k y):Keys H (putV kvs k y v):=by
 unfold putV
 split
 ·intro p hp
  obtain ⟨q,hq,rfl⟩:=List.mem_map.mp hp
  have:=hk q hq
  split
  ·exact this
  ·exact this
 ·intro p hp
  rcases List.mem_append.mp hp with hp | hp
  ·exact hk p hp
  ·rw [List.mem_singleton.mp hp];exact ky
end
def Qry (s c d:D) (k:D->Prop):Prop:=match s with
 | .dmx kvs=>oget (keyM c) λkk=>c.pure=true/\kvs.length<sizeLine/\k (.dmx (putD kvs kk d))
 | _=>False
def Qik (i:Nat) (wv wi:WE):WS:=λP ρ=>wv ρ λd ρ1=>d.pure=true/\(look ρ1 i).isSome=true/\wi ρ1 λc ρ2=>oget (look ρ2 i) λs=>Qry s c d λs'=>P.nx (ρ2.set i (some s'))
theorem Qix {kvs:List (MI × D)} {c d:D} {k:D->Prop}:Qry (.dmx kvs) c d k=oget (keyM c) λkk=>c.pure=true/\kvs.length<sizeLine/\k (.dmx (putD kvs kk d)):=rfl
section
variable {X:Cx} {T:Tg} {m1 o1 m2 o2:Bool} {x:Str} {pos:Pos}
theorem Qjs {pos:Pos}:EV X T false true (.Dict [] [] pos) (wC (.dmx [])) :=
 ⟨_,Qi7,λz R σ H W ρ Q Q' s hw k a ha=>k _ _ W (.dmx []) ρ [a] (Post.fin s (FrW.refl H W) (λ_=>⟨Same.refl H,rfl,rfl⟩) (Qh ha) (.dmx Qi (λp hp=>nomatch hp) rfl .nil) (by simp) (λb m=>by rw [List.mem_singleton.mp m];exact ha)) hw⟩
theorem Qfp {i:Nat} {v ix:Expr} {wv wi:WE} {px ps':Pos} (hu:X.A.units+1<cLine) (hv:EV X T m1 o1 v wv) (hi:EV X T m2 o2 ix wi) (ht:T.own i=true:=by rfl) (hN:X.N[i]? = some x:=by rfl)
  (hvis:Vis X.env.scope x:=by first | exact Or.inl rfl | exact Or.inr (Or.inl rfl) | exact Or.inr (Or.inr rfl)) (hd:(x == ("__debug__" : Str))=false:=by decide) (hcd:(x == ("__classdict__" : Str))=false:=by decide)
  (ha:∀v,assign (.Subscript (.Name x px) ix ps') X.env v=(do
   let ov ← holding [v] (eval (.Name x px) X.env)
   let iv ← holding [v,ov] (eval ix X.env)
   standAt ps'
   holding [v,ov,iv] (setItem ov iv v)
   release [v,ov,iv] []):=by intro _;rfl) (hs:swapsWithSole [.Subscript (.Name x px) ix ps'] v pos.line X.env=pure false:=by rfl) (hw:swappedStores [.Subscript (.Name x px) ix ps'] v X.env=pure none:=by rfl)
  (h1:(assignEach [.Subscript (.Name x px) ix ps'] X.env).map (·.2)=[assign (.Subscript (.Name x px) ix ps') X.env]:=by rfl):SV X T (.Assign [.Subscript (.Name x px) ix ps'] v pos) (Qik i wv wi):=by
 obtain ⟨tv,pv,gv⟩:=hv
 obtain ⟨ti,pi,gi⟩:=hi
 refine ⟨_,Qk7 pv (Qlb (Vy hN hvis hd hcd) pi (Qmp hu) ha) hs hw h1,λz R σ H W ρ P E s hw l=>?_⟩
 refine gv z R σ H W ρ _ _ s hw λv1 H1 W1 d ρ1 F1 p ⟨hp,hso,q⟩=>?_
 obtain ⟨-,rv⟩:=p.rep.pure hp
 obtain ⟨d0,hl0⟩:=Option.isSome_iff_exists.mp hso
 obtain ⟨fp0,s0⟩:=id p.sr
 obtain ⟨u,hu',_⟩:=s0.at_ i d0 hl0
 refine ⟨u,hu',gi z R σ H1 W1 ρ1 _ _ p.sr q λv2 H2 W2 c ρ2 F2 p2 q2=>?_⟩
 obtain ⟨d1,hl,q2⟩:=Qk q2
 obtain ⟨fp,s2⟩:=id p2.sr
 obtain ⟨u',hu2,ru⟩:=s2.at_ i d1 hl
 have:u'=u:=by rw [hu'] at hu2;cases hu2;rfl
 subst this
 have rv2:Rep X.K H2 d v1 []:=rv.keep p2.fr λa m=>nomatch m
 obtain ⟨nd,sw⟩:=s2.own i d1 hl ht
 generalize hF:fp i=F at *
 cases d1 with
 | dmx es =>
  obtain ⟨kk,hkk,hpc,hz,q2⟩:=Qk q2
  obtain ⟨-,rc⟩:=p2.rep.pure hpc
  cases ru with
  | @dmx a kvs _ e hk hm rr =>
   have M:Mrep X.K H2 es kvs:=⟨hm,rr⟩
   have ky:=Qak rc hkk
   have M2:=(M.put (k:=kk) (y:=v2) rv2).upd (ob:=mixO a (putV kvs kk v2 v1)) e rfl
   have hlen:kvs.length=es.length:=by have:=congrArg List.length hm;simpa using this
   refine ⟨a,kvs,kk,rfl,e,hk,ky,by omega,?_⟩
   have hW:=sw a List.mem_cons_self
   exact l.nx R σ _ _ _ (s2.write hl ht hu2 (by rw [hF];exact List.mem_cons_self) Z0 ⟨_,Qi,rfl⟩ (.dmx Qi (Z3 e rfl (Qf8 hk ky)) M2.hm M2.r) (by simp) λb hb=>.inl (by rw [hF];exact hb)) ((p.fr.trans p2.fr).write hW (s2.wd a hW) Z0 ⟨_,Qi,rfl⟩ λb hb=>.inl (sw b hb)) q2
 | _=>exact (show False from q2).elim
end
end PV
namespace PV
open PySem PySem.Spec L2
section
variable {X:Cx}
def dIxC:G2:=λa b k=>match a with
 | .kc (.tup ks)=>onI b λi=>oget (L2.atI (ks.map kcD) i) k
 | .tup xs=>onI b λi=>oget (L2.atI xs i) k
 | _=>False
theorem Ud {ks:List KC} {i:Int} {k:D->Prop}:dIxC (.kc (.tup ks)) (.int i) k=oget (L2.atI (ks.map kcD) i) k:=rfl
theorem Qfh (hu:X.A.units+1<cLine):IxD X dIxC:=by
 refine ⟨_,IxR.or Qlg (Qg4 hu),λH a b x y F1 F2 k Q ra rb g q=>?_⟩
 cases a with
 | tup ds =>
  obtain ⟨i,rfl,g⟩:=Vf g
  obtain ⟨a,xs,rfl,e,r⟩:=ra.iTup
  obtain ⟨d,h,g⟩:=Qk g
  obtain ⟨v,B,h1,h2,h3⟩:=r.atI h
  exact .inl (.inr (.inl ⟨a,xs,i,v,rfl,rb.iInt,.of e,h1,q _ _ _ h2 h3 g⟩))
 | kc c =>
  cases c with
  | tup ks =>
   obtain ⟨i,rfl,g⟩:=Vf g
   obtain ⟨-,rp⟩:=ra.pure (by rw [D.pure])
   cases rp with
   | kc h =>
    obtain ⟨a,xs,rfl,hs,ar⟩:=h.sqT
    obtain ⟨d,h,g⟩:=Qk g
    have r:Reps X.K H (ks.map kcD) xs []:=ar.reps
    obtain ⟨v,B,h1,h2,h3⟩:=r.atI h
    exact .inl (.inr (.inl ⟨a,xs,i,v,rfl,rb.iInt,hs H,h1,q _ _ _ h2 (h3.trans (List.nil_sublist _)) g⟩))
  | _=>exact (show False from g).elim
 | _=>exact (show False from g).elim
end
end PV
namespace PV
open PySem PySem.Spec L2 Mx
section
variable {X:Cx} {T:Tg} {m o m0 m1 m2 m3 o1 o2:Bool} {e a b:Expr} {w wa wb we:WE} {pos p2 p:Pos} {es:List Expr} {wr:WA} {x y:Str} {wt:WT} {ws:WS}
theorem SR0.gone {K:PySem.W.Frag} {z:Nat->V} {R:Addr->Prop} {H:Hp} {W:Addr->Prop} {σ:St} {ρ:Env} {fp:Nat->List Addr} {s:Nat} {ds:List (MI × D)} {a:Addr} {kvs:KVM} {ob:Obj} (h:SR0 K T z R H W σ ρ fp)
  (hl:look ρ s=some (.dmx ds)) (ht:T.own s=true) (hv:σ[s]? = some (some (.ref a))) (e:H a=some (mixO a kvs)) (hk:Keys H kvs) (M:Mrep K H ds kvs) (hF:fp s=[a]) :
  SR K T z R (upd H a (.frz ob (mixO a kvs))) (λb=>W b/\b≠a) σ (ρ.set s (some (.fmx ds))):=by
 obtain ⟨nd,sw⟩:=h.own s _ hl ht
 rw [hF] at nd sw
 have hWa:=sw a List.mem_cons_self
 have hRa:¬R a:=h.wr a hWa
 have hi:ImmK H (upd H a (.frz ob (mixO a kvs))):=Vi e rfl
 have M2:=M.upd (ob:=.frz ob (mixO a kvs)) e rfl
 have notin:∀j d,look ρ j=some d->j≠s->a∉fp j:=λj d hj hne ha=>by
  cases hto:T.own j with
  | true=>exact h.dis s j _ d hl hj ht hto (λz=>hne z.symm) a (by rw [hF];exact List.mem_cons_self) ha
  | false=>exact hRa (h.ro j d hj hto a ha)
 refine ⟨λj=>if j=s then [] else fp j,?_,?_,?_,?_,?_,?_,?_,?_,h.fix⟩
 ·rw [List.length_set];exact h.len
 ·rintro b ⟨hb,hne⟩
  rw [Ql hne];exact h.wd b hb
 ·intro j d hj
  by_cases hjs:j=s
  ·subst hjs
   rw [Zh (Gm hl)] at hj
   cases hj
   exact ⟨_,hv,by rw [if_pos rfl];exact .fmx Qi (Z3 e rfl hk) M2.hm M2.r⟩
  ·rw [Qr hjs] at hj
   obtain ⟨u,h1,h2⟩:=h.at_ j d hj
   refine ⟨u,h1,?_⟩
   rw [if_neg hjs]
   exact h2.frame hi λb hb=>Ql λz=>notin j d hj hjs (z ▸ hb)
 ·intro j d hj hto
  by_cases hjs:j=s
  ·subst hjs
   simp only [if_pos]
   exact ⟨List.nodup_nil,λb hb=>nomatch hb⟩
  ·rw [Qr hjs] at hj
   simp only [if_neg hjs]
   exact ⟨(h.own j d hj hto).1,λb hb=>⟨(h.own j d hj hto).2 b hb,λz=>notin j d hj hjs (z ▸ hb)⟩⟩
 ·intro j d hj hto
  have hjs:j≠s:=λz=>by subst z;rw [ht] at hto;cases hto
  rw [Qr hjs] at hj
  simp only [if_neg hjs]
  exact h.ro j d hj hto
 ·exact λb hb hr=>h.wr b hb.1 hr
 ·intro b hr
  rw [Ql (show b≠a from λz=>hRa (z ▸ hr))];exact h.rd b hr
 ·intro j k d d' hj hk tj tk hne b hb hb'
  by_cases hjs:j=s
  ·subst hjs
   simp only [if_pos] at hb
   exact nomatch hb
  ·rw [Qr hjs] at hj
   simp only [if_neg hjs] at hb
   by_cases hks:k=s
   ·subst hks
    simp only [if_pos] at hb'
    exact nomatch hb'
   ·rw [Qr hks] at hk
    simp only [if_neg hks] at hb'
    exact h.dis j k d d' hj hk tj tk hne b hb hb'
def miD:MI->D
 | .inl i=>.int i
 | .inr l=>.tup (l.map .int)
def Xt (kvs:List (MI × D)):List D:=kvs.map λkv=>.tup [miD kv.1,kv.2]
def Qeb (d:D) (k:List (MI × D)->Prop):Prop:=match d with
 | .dmx kvs=>k kvs
 | _=>False
theorem Qf7 {kvs:List (MI × D)} {k:List (MI × D)->Prop}:Qeb (.dmx kvs) k=k kvs:=rfl
def Qcj (s:Nat):WL:=λρ Q=>oget (look ρ s) λc=>Qeb c λkvs=>Q (Xt kvs) (ρ.set s (some (.fmx kvs)))
theorem Qmr {K:PySem.W.Frag} {H:Hp} {k:MI} {y:V} (h:G7 H k y):Rep K H (miD k) y []:=by
 cases k with
 | inl i=>cases (show y=.int i from h);exact .int i
 | inr l =>
  obtain ⟨b,rfl,e⟩:=(show ∃b,y=.ref b/\H b=some (.tup (l.map V.int)) from h)
  exact .tup e (Reps.ints l)
theorem Mrep.at_ {K:PySem.W.Frag} {H:Hp} {i:Nat} {k:MI} {y v:V}:∀{ds:List (MI × D)} {kvs:KVM},Mrep K H ds kvs->kvs[i]? = some (k,y,v)->∃d,ds[i]? = some (k,d)/\Rep K H d v []:=by
 induction i with
 | zero =>
  intro ds kvs h hk
  cases ds with
  | nil =>
   have:kvs=[]:=by have:=h.hm;cases kvs with | nil=>rfl | cons _ _=>cases this
   subst this;cases hk
  | cons p ds =>
   obtain ⟨j,d⟩:=p
   obtain ⟨y',v',r,rfl,h1,h2⟩:=h.cons_inv
   cases hk
   exact ⟨d,rfl,h1⟩
 | succ i ih =>
  intro ds kvs h hk
  cases ds with
  | nil =>
   have:kvs=[]:=by have:=h.hm;cases kvs with | nil=>rfl | cons _ _=>cases this
   subst this;cases hk
  | cons p ds =>
   obtain ⟨j,d⟩:=p
   obtain ⟨y',v',r,rfl,h1,h2⟩:=h.cons_inv
   exact ih h2 hk
theorem Qg5 {ts:List Expr} {kt:Nat} {pt:Pos} {s:Nat} {apos cpos:Pos} (ht:T.own s=true:=by rfl) (hN:X.N[s]? = some x:=by rfl) (hv:Vis X.env.scope x:=by first | exact Or.inl rfl | exact Or.inr (Or.inl rfl) | exact Or.inr (Or.inr rfl)) (hd:(x == ("__debug__" : Str))=false:=by decide)
  (hcd:(x == ("__classdict__" : Str))=false:=by decide) (hbase:attributeBase (.Name x p) "items" X.env (eval (.Name x p) X.env)=eval (.Name x p) X.env:=by rfl) (hline:(apos.endLine == cpos.line)=true:=by rfl) :
  IV X T true true (.Tuple ts kt pt) (.Call (.Attribute (.Name x p) "items" apos) [] [] cpos) (Qcj s):=by
 refine ⟨_,Qgc (Vy hN hv hd hcd) hbase hline,λz R σ H W ρ Q RR sr hw k=>?_⟩
 obtain ⟨c,hl,hw⟩:=Qk hw
 obtain ⟨ds,rfl⟩:∃ds,c=D.dmx ds:=by
  clear hl
  cases c with
  | dmx ds=>exact ⟨ds,rfl⟩
  | _=>exact (show False from hw).elim
 obtain ⟨fp,s0⟩:=id sr
 obtain ⟨v,hv0,r0⟩:=s0.at_ s _ hl
 obtain ⟨a,kvs,rfl,e,hk,M,hF⟩:∃(a:Addr) (kvs:KVM),v=.ref a/\H a=some (mixO a kvs)/\Keys H kvs/\Mrep X.K H ds kvs/\fp s=[a]:=by
  generalize fp s=Fi at r0
  cases r0 with
  | @dmx a kvs _ e1 hk hm r=>exact ⟨a,kvs,rfl,e1,hk,⟨hm,r⟩,rfl⟩
 have hWa:W a:=(s0.own s _ hl ht).2 a (by rw [hF];exact List.mem_cons_self)
 refine ⟨_,hv0,a,kvs,rfl,e,λob=>k _ _ (λb=>W b/\b≠a) (Xt ds) _ ⟨s0.gone hl ht hv0 e hk M hF,⟨λb u eb nb=>?_,λb eb=>?_,Vi e rfl,λb hb=>.inl hb.1⟩,λh=>nomatch h⟩ ?_ hw⟩
 ·rw [Ql (show b≠a from λz=>nb (z ▸ hWa))];exact eb
 ·by_cases hb:b=a
  ·rw [hb,Qi] at eb;cases eb
  ·rw [Ql hb] at eb;exact eb
 ·rw [Qch]
  intro i H2 W2 f
  have e2:H2 a=some (.frz ob (mixO a kvs)):=f.imm _ _ Qi rfl
  have hlen:kvs.length=ds.length:=by have:=congrArg List.length M.hm;simpa using this
  refine ⟨λhi=>⟨e2,by unfold Xt at hi;rw [List.length_map] at hi;omega⟩,λd hd=>?_⟩
  unfold Xt at hd
  have hi:i<ds.length:=by have:=(List.getElem?_eq_some_iff.mp hd).1;rwa [List.length_map] at this
  refine ⟨⟨e2,by omega⟩,λv H3 y=>?_⟩
  obtain ⟨kk,yy,vv,pp,hkk,rfl,hp,rfl⟩:=y
  obtain ⟨d',h1,h2⟩:=M.at_ hkk
  rw [List.getElem?_map,h1] at hd
  cases hd
  have kA:=hk _ (List.mem_of_getElem? hkk)
  have kR:Rep X.K H2 (miD kk) yy []:=((Qmr (K:=X.K) kA).upd (ob':=.frz ob (mixO a kvs)) e rfl (λz=>nomatch z)).keep f λb hb=>nomatch hb
  have vR:Rep X.K H2 d' vv []:=(h2.upd (ob':=.frz ob (mixO a kvs)) e rfl (λz=>nomatch z)).keep f λb hb=>nomatch hb
  exact ⟨Qh hp,[]++([]++[]),.tup Qi (.cons (F:=[]) (G:=[]++[]) (kR.same (Qh hp)) (.cons (F:=[]) (G:=[]) (vR.same (Qh hp)) .nil)),λb hb=>nomatch hb⟩
end
end PV
namespace PV
open PySem PySem.Spec L2
section
variable {X:Cx}
def dLtT:G2
 | .tup xs,.tup ys,k=>∃ns ms:List Int,xs=ns.map .int/\ys=ms.map .int/\k (.bl (HT.Y5 ns ms))
 | _,_,_=>False
theorem Qqw (hu:X.A.units+66<cLine):OpD X (compareOp .Lt) dLtT:=by
 refine ⟨_,Qqp (by omega),λH a b x y F1 F2 k Q ra rb g q=>?_⟩
 cases a with
 | tup xs =>
  cases b with
  | tup ys =>
   obtain ⟨ns,ms,rfl,rfl,g⟩:=g
   cases ra with
   | @tup a us _ F e1 r1 =>
    cases rb with
    | @tup b vs _ F e2 r2 =>
     obtain ⟨h1,rfl⟩:=r1.of_ints
     obtain ⟨h2,rfl⟩:=r2.of_ints
     subst h1 h2
     exact ⟨a,b,ns,ms,rfl,rfl,.of e1,.of e2,q _ _ _ _ (.flat (.bl _)) g⟩
  | _=>exact (show False from g).elim
 | _=>exact (show False from g).elim
abbrev pp2 (p:List Int × List Int):D:=.tup [tupI p.1,tupI p.2]
theorem Reps.pps {K:PySem.W.Frag} {H:Hp}:∀{ps:List (List Int × List Int)} {ys:List V} {F:List Addr},Reps K H (ps.map pp2) ys F->F=[]/\∃as:List Addr,ys=as.map V.ref/\as.length=ps.length/\∀(i:Nat) p,ps[i]? = some p->∃a,as[i]? = some a/\PT2 H a p.1 p.2
 | [],_,_,r=>by cases r;exact ⟨rfl,[],rfl,rfl,λi k h=>by simp at h⟩
 | p::ps,_,_,r=>by
  cases r with
  | cons h r =>
   obtain ⟨hF,as,h1,h2,h3⟩:=Reps.pps r
   cases h with
   | @tup a xs _ F e q =>
    cases q with
    | cons q1 q=>cases q with
     | cons q2 q =>
      cases q
      cases q1 with
      | @tup b us _ G1 e1 r1 =>
       cases q2 with
       | @tup c vs _ G2 e2 r2 =>
        obtain ⟨z1,z2⟩:=r1.of_ints
        obtain ⟨z3,z4⟩:=r2.of_ints
        subst z1 z2 z3 z4 h1
        refine ⟨by rw [hF];rfl,a::as,rfl,by simp [h2],λi p' hp=>?_⟩
        cases i with
        | zero=>simp at hp;subst hp;exact ⟨a,rfl,⟨b,c,e,e1,e2⟩⟩
        | succ i=>simpa using h3 i p' (by simpa using hp)
theorem Qpk {K:PySem.W.Frag} {H:Hp} {a:Addr} {p:List Int × List Int} (h:PT2 H a p.1 p.2):Rep K H (pp2 p) (.ref a) []:=by
 obtain ⟨b,c,e,e1,e2⟩:=h
 exact .tup e (.cons (F:=[]) (G:=[]) (.tup e1 (Reps.ints _)) (.cons (F:=[]) (G:=[]) (.tup e2 (Reps.ints _)) .nil))
theorem Reps.of_pps {K:PySem.W.Frag} {H:Hp}:∀{ps:List (List Int × List Int)} {as:List Addr},as.length=ps.length->(∀(i:Nat) p a,ps[i]? = some p->as[i]? = some a->PT2 H a p.1 p.2)->Reps K H (ps.map pp2) (as.map V.ref) []
 | [],[],_,_=>.nil
 | p::ps,a::as,hl,h=>.cons (F:=[]) (G:=[]) (Qpk (h 0 p a rfl rfl)) (Reps.of_pps (by simpa using hl) λi k' a' h1 h2=>h (i+1) k' a' (by simpa using h1) (by simpa using h2))
def Qhu:GA
 | [.lst ds],k=>∃(ps:List (List Int × List Int)) (num:List Int->Int),ds=ps.map pp2/\ps.length<64/\(ps.map (·.1)).Nodup/\(∀x∈ps,∀y∈ps,HT.Y5 x.1 y.1=decide (num x.1<num y.1)) /\
   ∀out:List (List Int × List Int),out.Perm ps->out.Pairwise (λx y=>num x.1<=num y.1)->k (.lst (out.map pp2))
 | _,_=>False
theorem Qh2 (hu:X.A.units+66<cLine):Qdf X (.builtin "sorted") Qhu:=by
 refine ⟨_,Qc7 hu,λH ds xs F k Q r g q=>?_⟩
 cases ds with
 | nil=>exact (show False from g).elim
 | cons d ds =>
  cases ds with
  | cons _ _=>cases d <;> exact (show False from g).elim
  | nil =>
   cases d with
   | lst es =>
    obtain ⟨v,rfl,rd⟩:=r.at1
    obtain ⟨ps,num,rfl,h64,nd,hlex,g⟩:=g
    cases rd with
    | @lst l ys _ F e r9 =>
    obtain ⟨-,as,rfl,hl,ha⟩:=r9.pps
    have hat:∀i,i<ps.length->ps.getD i ([],[])∈ps/\ps[i]? = some (ps.getD i ([],[])):=λi hi=>by
     have:ps.getD i ([],[])=ps[i]:=by simp [List.getD_eq_getElem?_getD,hi]
     rw [this]
     exact ⟨List.getElem_mem hi,List.getElem?_eq_getElem hi⟩
    refine ⟨l,as,λi=>(ps.getD i ([],[])).1,λi=>(ps.getD i ([],[])).2,λi=>num (ps.getD i ([],[])).1,rfl,e,by omega,λi a hi=>?_,λi j hi hj hij=>?_,λi j hi hj=>hlex _ (hat i (by omega)).1 _ (hat j (by omega)).1,λp D hp hs hD=>?_⟩
    ·have hlt:i<ps.length:=by rw [← hl];exact (List.getElem?_eq_some_iff.mp hi).1
     obtain ⟨a',h2,h3⟩:=ha i _ (hat i hlt).2
     rw [hi] at h2
     cases h2
     exact h3
    ·have h1:(ps.map (·.1))[i]? = some (ps.getD i ([],[])).1:=by rw [List.getElem?_map,(hat i (by omega)).2];rfl
     have h2:(ps.map (·.1))[j]? = some (ps.getD j ([],[])).1:=by rw [List.getElem?_map,(hat j (by omega)).2];rfl
     have hij:(ps.getD i ([],[])).1=(ps.getD j ([],[])).1:=hij
     rw [← hij] at h2
     exact (List.getElem?_inj (List.getElem?_eq_some_iff.mp h1).1 nd).mp (h1.trans h2.symm)
    ·have hpm:∀i∈p,i<ps.length:=λi hi=>by
      have:=hp.mem_iff.mp hi
      rw [List.mem_range] at this
      omega
     have perm:(p.map λi=>ps.getD i ([],[])).Perm ps:=by
      have:=hp.map λi=>ps.getD i ([],[])
      rw [hl,Qe5] at this
      exact this
     refine q _ _ _ [D] ⟨Qh hD,.lst Qi ?_,by simp,λb mb=>by rw [List.mem_singleton.mp mb];exact hD⟩ (g _ perm ?_)
     ·have e1:(p.map λi=>V.ref (as.getD i 0))=(p.map λi=>as.getD i 0).map V.ref:=by simp
      rw [e1]
      refine (Reps.of_pps (by simp) λi k a hk hi=>?_).same (Qh hD)
      rw [List.getElem?_map] at hk hi
      cases hpi:p[i]? with
      | none=>rw [hpi] at hk;cases hk
      | some n =>
       rw [hpi] at hk hi
       cases hk
       cases hi
       have hn:=hpm n (List.mem_of_getElem? hpi)
       have hn':n<as.length:=by omega
       obtain ⟨a',h2,h3⟩:=ha n _ (hat n hn).2
       show PT2 H (as.getD n 0) _ _
       rw [List.getD_eq_getElem?_getD,h2]
       exact h3
     ·refine List.pairwise_iff_getElem.mpr λi j hi hj hij=>?_
      rw [List.length_map] at hi hj
      rw [List.getElem_map,List.getElem_map]
      exact hs i j _ _ (Nat.le_of_lt hij) (List.getElem?_eq_getElem hi) (List.getElem?_eq_getElem hj)
   | _=>exact (show False from g).elim
end
end PV
namespace PV
open PySem PySem.Spec L2 Mx
open PyProof.Rows (envOfC)
theorem FnOk.thaw {P:Program} {w:World} {K:PySem.W.Frag} {mg:Str->Option Value} {base:Heap} {k:Nat} {f:Addr} {fd:FuncData} {ps:List Str} {sp sp':Sp} (F:FnOk P w K mg base CX0 k f fd ps sp)
  (h:∀vs H Q E,sp' vs H Q E->∃a kvs,H a=some (mixO a kvs)/\sp vs H (λv H'=>∃ob kvs',H' a=some (.frz ob (mixO a kvs'))/\Q v (upd H' a (mixO a kvs'))) E):FnOk P w K mg base CX0 k f fd ps sp':=by
 refine ⟨λvs H Q E q=>?_,λA outer s H args us vs Q E hr he hb hv hs=>?_⟩
 ·obtain ⟨_,_,_,q⟩:=h vs H Q E q
  exact F.len _ _ _ _ q
 ·obtain ⟨a,kvs,ha,hs⟩:=h vs H Q E hs
  refine codeAny_mono (F.run A outer s H args us vs _ E hr he hb hv hs) λr s' hq=>?_
  cases r with
  | error e=>exact hq
  | ok fl =>
   cases fl with
   | ret u =>
    obtain ⟨v,H',os,bare,un,hok,rv,ob,kvs',hf,q⟩:=hq
    obtain ⟨e1,r1⟩:=(show Jh P w H' s'.heap a (.frz ob (mixO a kvs')) from hok a _ hf)
    have hdat:∀vs,ob.data ≠ .fields vs:=λvs z=>by
     obtain ⟨_,_,_,_,_,o,es,ep,g1,_,g3,_⟩:=r1.1
     rw [e1] at g1;cases g1
     rw [z] at g3;cases g3
    refine ⟨v,upd H' a (mixO a kvs'),os,bare,⟨un.keep,un.slot,λb o e n x=>?_,un.there,λb xs e=>?_,λb o u e=>?_,λb ps e=>?_⟩,λb u e=>?_,rv,q⟩
    ·rw [Ql (λz=>by rw [z,ha] at n;cases n)];exact un.free b o e n x
    ·rw [Ql (λz=>by rw [z,ha] at e;cases e)];exact un.tups b xs e
    ·rw [Ql (λz=>by rw [z,ha] at e;cases e)];exact un.frzs b o u e
    ·rw [Ql (λz=>by rw [z,ha] at e;cases e)];exact un.tbls b ps e
    ·by_cases hb:b=a
     ·subst hb
      rw [Qi] at e
      cases e
      exact Qbf r1.1
     ·rw [Ql hb] at e
      refine (hok b u e).stay (λc v _ q=>q) (λc q=>?_) (λc xs q=>?_) λc o v vs q hd=>?_
      ·rw [Ql (λz=>by rw [z,hf] at q;cases q)];exact q
      ·rw [Ql (λz=>by rw [z,hf] at q;cases q)];exact q
      ·rw [Ql (λz=>by rw [z,hf] at q;cases q;exact hdat _ hd)];exact q
   | next=>exact False.elim hq
   | brk=>exact False.elim hq
   | cont=>exact False.elim hq
def Qim (d:D) (k:D->Prop):Prop:=match d with
 | .fmx kvs=>(kvs.all λkv=>kv.2.bare)=true/\k (.dmx kvs)
 | _=>False
theorem Qiw {kvs:List (MI × D)} {k:D->Prop}:Qim (.fmx kvs) k=((kvs.all λkv=>kv.2.bare)=true/\k (.dmx kvs)):=rfl
theorem Yf {kvs:List (MI × D)}:Yx (.dmx kvs)=true:=rfl
theorem Gg {kvs:List (MI × D)}:tyD (some (.dmx kvs)) "dict" = true:=rfl
def spZ (K:PySem.W.Frag) (p:Nat) (g:GI):Sp:=λvs H Q _=>∃(ds:List D) (a:Addr) (k:D->D->Prop),Reps K H ds vs [a]/\vs[p]? = some (.ref a)/\g ds k /\
 ∀v H' ob kvs' d kvs0 F',H' a=some (.frz ob (mixO a kvs'))->Rep K (upd H' a (mixO a kvs')) (.dmx kvs0) (.ref a) [a]->Rep K (upd H' a (mixO a kvs')) d v F'->F'.Nodup->(∀b∈F',H b=none)->(∀b o,H b=some o->b≠a->H' b=some o)->k d (.dmx kvs0)->Q v H'
section
variable {P:Program} {w:World} {K:PySem.W.Frag} {mg:Str->Option Value} {base:Heap} {x qual:Str} {st:Stmt} {f:Addr} {fd:FuncData} {N ps:List Str} {k:Nat} {T:Tg} {ww:WS}
theorem Qro {p:Nat} {g:GI} (F:Fun K x qual st f fd) (S:FnScope N ps (Qc st)) (hio:T.io=[p]) (hown:T.own p=true) (hg:∀ds kk,g ds kk->ds.length=ps.length/\∃kvs,ds[p]? = some (.dmx kvs))
  (hb:∀(cdv:Value) (A:Around) (outer:List PySem.Env) (s:Shared) (H:Hp) (E:XK),Room k (A.deeper (envOfC qual (Qc st) s.heap.objs.size f cdv))->SVs (cxOf CX0 P w K mg base N qual (Qc st) f cdv A outer s H E).nox T (Qq st) ww)
  (hr:∀ds kk,g ds kk->ww { nx:=λρ=>oget (look ρ p) λd'=>Qim d' λd''=>D.non.bare=true/\kk .non d'',rt:=λd ρ=>oget (look ρ p) λd'=>Qim d' λd''=>d.bare=true/\kk d d'' } (env0 N ds)):FnOk P w K mg base CX0 (k+1) f fd ps (spI K p g):=by
 refine FnOk.thaw (sp:=spZ K p g) (F.ok S (λvs H Q E h=>?_) (λcdv A outer s H vs Q E hroom h=>?_)) λvs H Q E h=>?_
 ·obtain ⟨ds,a,kk,rep,hp,hgk,_⟩:=h
  rw [rep.length];exact (hg ds kk hgk).1
 ·obtain ⟨ds,a,kk,rep,hp,hgk,q⟩:=h
  obtain ⟨ts,pts,gts⟩:=hb cdv A outer s H E hroom
  have hl:=rep.length
  obtain ⟨hds,kvs,hd0⟩:=hg ds kk hgk
  obtain ⟨v0,A',B,C,h1,h2,r0,rA,rC⟩:=rep.split hd0
  rw [hp] at h1;cases h1
  obtain ⟨a',e1,e2⟩:=r0.flat1 rfl
  cases e1
  subst e2
  have hA:A'=[]:=by
   cases A' with
   | nil=>rfl
   | cons y A'=>simp at h2
  subst hA
  have hC:C=[]:=by
   cases C with
   | nil=>rfl
   | cons y C=>simp at h2
  subst hC
  have oth:∀i d,i≠p->ds[i]? = some d->∃v,vs[i]? = some v/\Rep K H d v []:=λi d hne hd=>by
   rcases Nat.lt_or_gt_of_ne hne with h | h
   ·obtain ⟨v,B,h1,h2,h3⟩:=rA.get (i:=i) (by rw [List.getElem?_take_of_lt h];exact hd)
    rw [List.getElem?_take_of_lt h] at h1
    have:=List.sublist_nil.mp h3
    subst this
    exact ⟨v,h1,h2⟩
   ·obtain ⟨v,B,h1,h2,h3⟩:=rC.get (i:=i-(p+1)) (by rw [List.getElem?_drop,show p+1+(i-(p+1))=i by omega];exact hd)
    rw [List.getElem?_drop,show p+1+(i-(p+1))=i by omega] at h1
    have:=List.sublist_nil.mp h3
    subst this
    exact ⟨v,h1,h2⟩
  obtain ⟨oa,ea,ia⟩:=r0.dom a (List.mem_singleton.mpr rfl)
  have fin:∀R' v σ' H' W' ρ' d F',SR K T (λ_=>.ref a) R' H' W' σ' ρ'->FrW H (λb=>b=a) H' W'->Rep K H' d v F'->F'.Nodup->(∀b∈F',¬W' b/\(b=a\/H b=none))->(oget (look ρ' p) λd'=>Qim d' λd''=>d.bare=true/\kk d d'')->Q v H':=λR' v σ' H' W' ρ' d F' s' fr r nd nw hk=>by
   obtain ⟨d',hl',hk⟩:=Qk hk
   obtain ⟨kvs0,rfl⟩:∃kvs0,d'=D.fmx kvs0:=by
    clear hl'
    cases d' with
    | fmx kvs0=>exact ⟨kvs0,rfl⟩
    | _=>exact (show False from hk).elim
   obtain ⟨hba,hbd,hk⟩:=hk
   obtain ⟨fp,s0⟩:=s'
   obtain ⟨u,hu,ru⟩:=s0.at_ p _ hl'
   have hfx:=s0.fix p (by rw [hio];exact List.mem_singleton.mpr rfl)
   rw [hu] at hfx
   cases hfx
   generalize fp p=Fp at ru
   cases ru with
   | @fmx _ ob kvm _ e9 hk9 hm9 r9 =>
    have th:Thaw H' (upd H' a (mixO a kvm)):=λb o hb hn=>by
     rw [Ql (λz=>by rw [z,e9] at hb;cases hb;exact hn _ _ rfl)];exact hb
    have hk2:Keys (upd H' a (mixO a kvm)) kvm:=λq hq=>by
     have:=hk9 q hq
     revert this
     cases q.1 with
     | inl i=>exact id
     | inr l=>exact λ⟨b,z1,z2⟩=>⟨b,z1,th b _ z2 λ_ _ z=>by cases z⟩
    have hbl:Ui (kvs0.map (·.2))=true:=Qb9.mpr λy hy=>by
     obtain ⟨kv,hkv,rfl⟩:=List.mem_map.mp hy
     exact List.all_eq_true.mp hba kv hkv
    refine q v H' ob kvm d kvs0 F' e9 (.dmx Qi hk2 hm9 (r9.bare th hbl)) (r.bare th hbd) nd (λb hb=>?_) (λb o e hne=>fr.keep b o e hne) hk
    rcases (nw b hb).2 with h | h
    ·obtain ⟨o,g1,g2⟩:=r.dom b hb
     rw [h,e9] at g1;cases g1;cases g2
    ·exact h
  refine ⟨ts,pts,gts (λ_=>.ref a) (λb=>b≠a/\Any H b) (L2.start N vs) H (λb=>b=a) (env0 N ds) _ _ ⟨λi=>if i=p then [a] else [],?_,?_,?_,?_,?_,?_,?_,?_,?_⟩ (hr ds kk hgk) ⟨?_,?_,?_,?_,λ_ _ _ _ _ _ _ _ hk=>hk.elim⟩⟩
  ·unfold env0 L2.start;simp [hl]
  ·rintro b rfl;exact ⟨oa,ea,ia⟩
  ·intro i d hli
   unfold env0 at hli
   rw [J3] at hli
   by_cases hip:i=p
   ·subst hip
    rw [hd0] at hli;cases hli
    exact ⟨.ref a,Jx hp,by rw [if_pos rfl];exact r0⟩
   ·obtain ⟨v,h1,h2⟩:=oth i d hip hli
    exact ⟨v,Jx h1,by rw [if_neg hip];exact h2⟩
  ·intro i d _ _
   by_cases hip:i=p
   ·rw [if_pos hip];exact ⟨by simp,λb hb=>List.mem_singleton.mp hb⟩
   ·rw [if_neg hip];exact ⟨by simp,λb hb=>nomatch hb⟩
  ·intro i d _ ht b hb
   have hip:i≠p:=λz=>by subst z;rw [hown] at ht;cases ht
   rw [if_neg hip] at hb;cases hb
  ·rintro b rfl ⟨h,_⟩;exact h rfl
  ·exact λb h=>h.2
  ·intro i j d e _ _ _ _ hne b hb hb'
   by_cases hip:i=p
   ·have hjp:j≠p:=λz=>hne (hip.trans z.symm)
    rw [if_neg hjp] at hb';cases hb'
   ·rw [if_neg hip] at hb;cases hb
  ·intro i hi
   rw [hio] at hi
   rw [List.mem_singleton.mp hi]
   exact Jx hp
  ·exact λR' σ' H' W' ρ' s' fr hk=>fin R' .non σ' H' W' ρ' .non [] s' fr .non List.nodup_nil (λb hb=>nomatch hb) hk
  ·exact λR' σ' H' W' ρ' s' fr hk=>hk.elim
  ·exact λR' σ' H' W' ρ' s' fr hk=>hk.elim
  ·exact λR' v σ' H' W' ρ' d F' s' fr r nd nw hk=>fin R' v σ' H' W' ρ' d F' s' fr r nd nw hk
 ·obtain ⟨ds,a,kk,rep,hp,hgk,q⟩:=h
  obtain ⟨hds,kvs,hd0⟩:=hg ds kk hgk
  obtain ⟨v0,A',B,C,h1,h2,r0,rA,rC⟩:=rep.split hd0
  rw [hp] at h1;cases h1
  cases r0 with
  | @dmx _ kvm _ e9 _ _ _=>exact ⟨a,kvm,e9,ds,a,kk,rep,hp,hgk,λv H' ob kvs' d kvs0 F' hf r1 r2 nd nw kp hk=>⟨ob,kvs',hf,q v _ d (.dmx kvs0) F' r1 r2 nd nw (λb o e hne=>by rw [Ql hne];exact kp b o e hne) hk⟩⟩
end
end PV
namespace Orb
def it (f:Nat->Nat):Nat->Nat->Nat
 | 0,i=>i
 | t+1,i=>f (it f t i)
theorem Qlh (f:Nat->Nat) (s t i:Nat):it f (s+t) i=it f s (it f t i):=by
 induction s with
 | zero=>simp [it]
 | succ s ih=>rw [Nat.succ_add];show f (it f (s+t) i)=f (it f s (it f t i));rw [ih]
structure Inj (n:Nat) (f:Nat->Nat):Prop where
 lt:∀i,i<n->f i<n
 inj:∀i j,i<n->j<n->f i=f j->i=j
variable {n:Nat} {f:Nat->Nat}
theorem Inj.itlt (h:Inj n f):∀(t:Nat) {i:Nat},i<n->it f t i<n
 | 0,i,hi=>hi
 | t+1,i,hi=>h.lt _ (h.itlt t hi)
theorem Inj.down (h:Inj n f) {i:Nat} (hi:i<n):∀(s t:Nat),it f s i=it f (s+t) i->it f t i=i
 | 0,t,e=>by rw [Nat.zero_add] at e;exact e.symm
 | s+1,t,e=>by
  rw [Nat.succ_add] at e
  exact h.down hi s t (h.inj _ _ (h.itlt s hi) (h.itlt _ hi) e)
theorem pig:∀(n:Nat) (l:List Nat),l.Nodup->(∀x∈l,x<n)->l.length<=n
 | 0,l,_,h=>by
  cases l with
  | nil=>exact Nat.le_refl _
  | cons a l=>exact absurd (h a List.mem_cons_self) (Nat.not_lt_zero _)
 | n+1,l,nd,h=>by
  have:=pig n (l.erase n) (nd.erase n) λx hx=>by
   have h1:=h x (List.mem_of_mem_erase hx)
   have h2:x≠n:=λz=>by subst z;exact (nd.not_mem_erase) hx
   omega
  have h3:=List.length_erase (a:=n) (l:=l)
  split at h3 <;> omega
theorem Inj.back (h:Inj n f) {i:Nat} (hi:i<n):∃p,0<p/\p<=n/\it f p i=i:=by
 by_cases hd:∃p,0<p/\p<=n/\it f p i=i
 ·exact hd
 ·exfalso
  have nd:((List.range (n+1)).map λt=>it f t i).Nodup:=by
   unfold List.Nodup
   rw [List.pairwise_map]
   refine List.Pairwise.imp_of_mem (R:=λa b=>a<b) (λ{a b} ha hb hab e=>?_) List.pairwise_lt_range
   have hb:=List.mem_range.mp hb
   have e:it f a i=it f b i:=e
   refine hd ⟨b-a,by omega,by omega,h.down hi a (b-a) ?_⟩
   rw [Nat.add_sub_cancel' (Nat.le_of_lt hab)];exact e
  have:=pig n _ nd λx hx=>by
   obtain ⟨t,_,rfl⟩:=List.mem_map.mp hx
   exact h.itlt t hi
  simp at this
  omega
def lst (f:Nat->Nat) (i:Nat):Nat->Nat->Nat
 | 0,p=>p
 | k+1,p=>if it f p i=i then p else lst f i k (p+1)
def per (n:Nat) (f:Nat->Nat) (i:Nat):Nat:=lst f i n 1
theorem Qd7 (f:Nat->Nat) (i:Nat):∀k p,(∃q,p<=q/\q<p+k/\it f q i=i)->p<=lst f i k p/\it f (lst f i k p) i=i/\(∀q,p<=q->q<lst f i k p->it f q i≠i)/\lst f i k p<p+k
 | 0,p,⟨q,h1,h2,_⟩=>by omega
 | k+1,p,⟨q,h1,h2,h3⟩=>by
  unfold lst
  by_cases hp:it f p i=i
  ·rw [if_pos hp]
   exact ⟨Nat.le_refl _,hp,λq a b=>by omega,by omega⟩
  ·rw [if_neg hp]
   have hq:p≠q:=λz=>hp (by rw [z];exact h3)
   obtain ⟨a1,a2,a3,a4⟩:=Qd7 f i k (p+1) ⟨q,by omega,by omega,h3⟩
   refine ⟨by omega,a2,λr b1 b2=>?_,by omega⟩
   by_cases hr:r=p
   ·rw [hr];exact hp
   ·exact a3 r (by omega) b2
theorem Inj.per (h:Inj n f) {i:Nat} (hi:i<n):0<per n f i/\per n f i<=n/\it f (per n f i) i=i/\∀q,0<q->q<per n f i->it f q i≠i:=by
 obtain ⟨p,h1,h2,h3⟩:=h.back hi
 obtain ⟨a1,a2,a3,a4⟩:=Qd7 f i n 1 ⟨p,h1,by omega,h3⟩
 exact ⟨a1,by unfold Orb.per;omega,a2,a3⟩
end Orb
namespace M
end M
namespace PV
open PySem PySem.Spec L2
section
variable {κ:Type} [DecidableEq κ]
end
end PV
namespace Hang
theorem Gd {α:Type} {le:α->α->Prop} {a b:List α} (p:a.Perm b) (ha:a.Pairwise le) (hb:b.Pairwise le) (h:∀x∈a,∀y∈a,le x y->le y x->x=y):a=b:=by
 induction a generalizing b with
 | nil=>exact p.nil_eq
 | cons x a ih =>
  cases b with
  | nil=>exact absurd p.length_eq (by simp)
  | cons y b =>
   obtain ⟨a1,a2⟩:=List.pairwise_cons.mp ha
   obtain ⟨b1,b2⟩:=List.pairwise_cons.mp hb
   have hxy:x=y:=by
    have hx:x∈y::b:=p.mem_iff.mp List.mem_cons_self
    have hy:y∈x::a:=p.mem_iff.mpr List.mem_cons_self
    rcases List.mem_cons.mp hx with z | hx
    ·exact z
    ·rcases List.mem_cons.mp hy with z | hy
     ·exact z.symm
     ·exact h x List.mem_cons_self y (List.mem_cons_of_mem _ hy) (a1 y hy) (b1 x hx)
   subst hxy
   rw [ih (List.perm_cons _ |>.mp p) a2 b2 λu hu v hv=>h u (List.mem_cons_of_mem _ hu) v (List.mem_cons_of_mem _ hv)]
variable {E:Int->Int->Prop}
variable {Vs:List Int}
variable {gs:List (List Int)}
end Hang
namespace Ly
structure Wv (M:Nat) (G O:Nat->Nat):Prop where
 glt:∀q,q<M->G q<M
 gne:∀q,q<M->G q≠q
 gg:∀q,q<M->G (G q)=q
 olt:∀q,q<M->O q<M
 oo:∀q,q<M->O (O q)=q
inductive Pa (G O:Nat->Nat) (S:Nat->Prop):Nat->Nat->Prop
 | one (a:Nat):Pa G O S a (G a)
 | more {a b:Nat} (h:S (G a)) (r:Pa G O S (O (G a)) b):Pa G O S a b
inductive Re (G O:Nat->Nat) (p:Nat):Nat->Prop
 | here:Re G O p p
 | g {q:Nat} (h:Re G O p q):Re G O p (G q)
 | o {q:Nat} (h:Re G O p q):Re G O p (O q)
variable {M:Nat} {G O π:Nat->Nat} {S S':Nat->Prop} {a b c p q x:Nat}
theorem Re.trans (h:Re G O a b) (r:Re G O b c):Re G O a c:=by
 induction r with
 | here=>exact h
 | g _ ih=>exact .g ih
 | o _ ih=>exact .o ih
theorem Re.lt (w:Wv M G O) (ha:a<M) (h:Re G O a b):b<M:=by
 induction h with
 | here=>exact ha
 | g _ ih=>exact w.glt _ ih
 | o _ ih=>exact w.olt _ ih
theorem Re.symm (w:Wv M G O) (ha:a<M) (h:Re G O a b):Re G O b a:=by
 induction h with
 | here=>exact .here
 | @g q h ih =>
  have:Re G O (G q) q:=by have:=(Re.here (G:=G) (O:=O) (p:=G q)).g;rwa [w.gg q (h.lt w ha)] at this
  exact this.trans ih
 | @o q h ih =>
  have:Re G O (O q) q:=by have:=(Re.here (G:=G) (O:=O) (p:=O q)).o;rwa [w.oo q (h.lt w ha)] at this
  exact this.trans ih
theorem Re.sub {P:Nat->Prop} (h:Re G O a b) (h0:P a) (hg:∀q,P q->P (G q)) (ho:∀q,P q->P (O q)):P b:=by
 induction h with
 | here=>exact h0
 | g _ ih=>exact hg _ ih
 | o _ ih=>exact ho _ ih
theorem Pa.re (h:Pa G O S a b):Re G O a b:=by
 induction h with
 | one a=>exact .g .here
 | more _ _ ih=>exact (Re.o (Re.g Re.here)).trans ih
theorem Pa.mono (hs:∀q,S q->S' q) (h:Pa G O S a b):Pa G O S' a b:=by
 induction h with
 | one a=>exact .one a
 | more h _ ih=>exact .more (hs _ h) ih
theorem Pa.cat (hs:∀q,S q->S' q) (h:Pa G O S a b) (hb:S' b) (r:Pa G O S' (O b) c):Pa G O S' a c:=by
 induction h with
 | one a=>exact .more hb r
 | more h _ ih=>exact .more (hs _ h) (ih hb r)
theorem Pa.set (w:Wv M G O) (so:∀q,q<M->S q->S (O q)) (h:Pa G O S a b):a<M->∃l:List Nat,a∈l/\b∈l/\(∀q∈l,q<M/\G q∈l)/\∀q∈l,q≠a->q≠b->O q∈l/\S q:=by
 induction h with
 | one a =>
  intro ha
  refine ⟨[a,G a],by simp,by simp,λq hq=>?_,λq hq h1 h2=>?_⟩
  ·rcases List.mem_cons.mp hq with rfl | hq
   ·exact ⟨ha,by simp⟩
   ·rw [List.mem_singleton.mp hq];exact ⟨w.glt a ha,by rw [w.gg a ha];simp⟩
  ·rcases List.mem_cons.mp hq with rfl | hq
   ·exact absurd rfl h1
   ·exact absurd (List.mem_singleton.mp hq) h2
 | @more a b h r ih =>
  intro ha
  have hg:=w.glt a ha
  obtain ⟨l,l1,l2,l3,l4⟩:=ih (w.olt _ hg)
  refine ⟨a::G a::l,by simp,by simp [l2],λq hq=>?_,λq hq h1 h2=>?_⟩
  ·rcases List.mem_cons.mp hq with rfl | hq
   ·exact ⟨ha,by simp⟩
   ·rcases List.mem_cons.mp hq with rfl | hq
    ·exact ⟨hg,by rw [w.gg a ha];simp⟩
    ·exact ⟨(l3 q hq).1,by simp [(l3 q hq).2]⟩
  ·rcases List.mem_cons.mp hq with rfl | hq
   ·exact absurd rfl h1
   ·rcases List.mem_cons.mp hq with rfl | hq
    ·exact ⟨by simp [l1],h⟩
    ·by_cases hc:q=O (G a)
     ·subst hc
      exact ⟨by rw [w.oo _ hg];simp,so _ hg h⟩
     ·obtain ⟨z1,z2⟩:=l4 q hq hc h2
      exact ⟨by simp [z1],z2⟩
structure St (M:Nat) (G O:Nat->Nat) (S:Nat->Prop) (π:Nat->Nat):Prop where
 so:∀q,q<M->S q->S (O q)
 pl:∀q,q<M->¬S q->π q<M
 ps:∀q,q<M->¬S q->¬S (π q)
 pp:∀q,q<M->¬S q->π (π q)=q
 pn:∀q,q<M->¬S q->π q≠q
 pa:∀q,q<M->¬S q->Pa G O S q (π q)
theorem St.start (w:Wv M G O):St M G O (λ_=>False) G :=
 ⟨λ_ _ h=>h,λq h _=>w.glt q h,λ_ _ h=>h,λq h _=>w.gg q h,λq h _=>w.gne q h,λq _ _=>.one q⟩
theorem St.plain (s:St M G O S π) (hq:q<M) (h:¬S q) (hg:¬S (G q)):π q=G q:=by
 have:=s.pa q hq h
 generalize π q=z at this
 cases this with
 | one=>rfl
 | more h _=>exact absurd h hg
def ad (S:Nat->Prop) (O:Nat->Nat) (x:Nat):Nat->Prop:=λq=>S q\/q=x\/q=O x
theorem X0 (q:Nat) (h:S q):ad S O x q:=.inl h
theorem ad_o (w:Wv M G O) (so:∀q,q<M->S q->S (O q)) (hx:x<M) (q:Nat) (hq:q<M) (h:ad S O x q):ad S O x (O q):=by
 rcases h with h | rfl | rfl
 ·exact .inl (so q hq h)
 ·exact .inr (.inr rfl)
 ·exact .inr (.inl (w.oo x hx))
theorem St.ring (w:Wv M G O) (s:St M G O S π) (hx:x<M) (h1:¬S x) (h2:¬S (O x)) (h:π x=O x):St M G O (ad S O x) π:=by
 have out:∀q,q<M->¬ad S O x q->¬S q/\q≠x/\q≠O x:=λq _ n=>⟨λz=>n (.inl z),λz=>n (.inr (.inl z)),λz=>n (.inr (.inr z))⟩
 refine ⟨ad_o w s.so hx,λq hq n=>s.pl q hq (out q hq n).1,λq hq n=>?_,λq hq n=>s.pp q hq (out q hq n).1,λq hq n=>s.pn q hq (out q hq n).1,λq hq n=>(s.pa q hq (out q hq n).1).mono X0⟩
 obtain ⟨n1,n2,n3⟩:=out q hq n
 rintro (z | z | z)
 ·exact s.ps q hq n1 z
 ·have:=s.pp q hq n1;rw [z,h] at this;exact n3 this.symm
 ·have:=s.pp q hq n1
  rw [z,← h,s.pp x hx h1] at this
  exact n2 this.symm
def jn (π:Nat->Nat) (O:Nat->Nat) (x:Nat):Nat->Nat:=λq=>if q=π x then π (O x) else if q=π (O x) then π x else π q
theorem St.join (w:Wv M G O) (s:St M G O S π) (hx:x<M) (ho:O x≠x) (h1:¬S x) (h2:¬S (O x)) (h:π x≠O x):St M G O (ad S O x) (jn π O x):=by
 have hox:=w.olt x hx
 have out:∀q,q<M->¬ad S O x q->¬S q/\q≠x/\q≠O x:=λq _ n=>⟨λz=>n (.inl z),λz=>n (.inr (.inl z)),λz=>n (.inr (.inr z))⟩
 have e1:=s.pp x hx h1
 have e2:=s.pp (O x) hox h2
 have i1:π (O x)≠x:=λz=>h (by have:=e2;rw [z] at this;exact this)
 have i2:π x≠π (O x):=λz=>ho (by have:=e1;rw [z,e2] at this;exact this)
 have inn:∀q,q<M->¬S q->q≠x->q≠O x->¬ad S O x (π q)\/q=π x\/q=π (O x):=λq hq n n1 n2=>by
  by_cases z1:π q=x
  ·exact .inr (.inl (by rw [← z1,s.pp q hq n]))
  ·by_cases z2:π q=O x
   ·exact .inr (.inr (by rw [← z2,s.pp q hq n]))
   ·refine .inl ?_
    rintro (z | z | z)
    ·exact s.ps q hq n z
    ·exact z1 z
    ·exact z2 z
 have nx:¬ad S O x (π x):=by
  rintro (z | z | z)
  ·exact s.ps x hx h1 z
  ·exact s.pn x hx h1 z
  ·exact h z
 have no:¬ad S O x (π (O x)):=by
  rintro (z | z | z)
  ·exact s.ps _ hox h2 z
  ·exact i1 z
  ·exact s.pn _ hox h2 z
 have jx:jn π O x (π x)=π (O x):=if_pos rfl
 have jo:jn π O x (π (O x))=π x:=by unfold jn;rw [if_neg (λz=>i2 z.symm),if_pos rfl]
 have jq:∀q,q≠π x->q≠π (O x)->jn π O x q=π q:=λq n1 n2=>by unfold jn;rw [if_neg n1,if_neg n2]
 refine ⟨ad_o w s.so hx,λq hq n=>?_,λq hq n=>?_,λq hq n=>?_,λq hq n=>?_,λq hq n=>?_⟩ <;> obtain ⟨n1,n2,n3⟩:=out q hq n <;> by_cases z1:q=π x <;> by_cases z2:q=π (O x)
 ·exact absurd (z1.symm.trans z2) i2
 ·rw [z1,jx];exact s.pl _ hox h2
 ·rw [z2,jo];exact s.pl _ hx h1
 ·rw [jq q z1 z2];exact s.pl q hq n1
 ·exact absurd (z1.symm.trans z2) i2
 ·rw [z1,jx];exact no
 ·rw [z2,jo];exact nx
 ·rw [jq q z1 z2]
  rcases inn q hq n1 n2 n3 with z | z | z
  ·exact z
  ·exact absurd z z1
  ·exact absurd z z2
 ·exact absurd (z1.symm.trans z2) i2
 ·rw [z1,jx,jo]
 ·rw [z2,jo,jx]
 ·have a1:π q≠π x:=λz=>n2 (by rw [← s.pp q hq n1,z,e1])
  have a2:π q≠π (O x):=λz=>n3 (by rw [← s.pp q hq n1,z,e2])
  rw [jq q z1 z2,jq _ a1 a2];exact s.pp q hq n1
 ·exact absurd (z1.symm.trans z2) i2
 ·rw [z1,jx];exact λz=>i2 z.symm
 ·rw [z2,jo];exact i2
 ·rw [jq q z1 z2];exact s.pn q hq n1
 ·exact absurd (z1.symm.trans z2) i2
 ·rw [z1,jx]
  have p1:=s.pa (π x) (s.pl x hx h1) (s.ps x hx h1)
  rw [e1] at p1
  exact p1.cat X0 (.inr (.inl rfl)) ((s.pa _ hox h2).mono X0)
 ·rw [z2,jo]
  have p1:=s.pa (π (O x)) (s.pl _ hox h2) (s.ps _ hox h2)
  rw [e2] at p1
  refine p1.cat X0 (.inr (.inr rfl)) ?_
  rw [w.oo x hx]
  exact (s.pa x hx h1).mono X0
 ·rw [jq q z1 z2];exact (s.pa q hq n1).mono X0
def Rp (G O:Nat->Nat) (S:Nat->Prop) (p:Nat):Prop:=(∀q,Re G O p q->p<=q)/\∀q,Re G O p q->S q
open Classical in
noncomputable def rc (n:Nat) (G O:Nat->Nat) (S:Nat->Prop):Nat:=((List.range n).filter λp=>decide (Rp G O S p)).length
theorem Qth {P:Nat->Prop}:∀n,P n->∃k,P k/\∀j,P j->k<=j:=by
 intro n
 induction n using Nat.strongRecOn with
 | ind n ih =>
  intro h
  by_cases z:∃j,P j/\j<n
  ·obtain ⟨j,h1,h2⟩:=z
   exact ih j h2 h1
  ·exact ⟨n,h,λj hj=>Nat.le_of_not_lt λhl=>z ⟨j,hj,hl⟩⟩
open Classical in
theorem Qfa {P Q:Nat->Prop} {p0:Nat} (h:∀p,Q p↔P p\/p=p0) (hn:¬P p0):∀n,p0<n->((List.range n).filter λp=>decide (Q p)).length=((List.range n).filter λp=>decide (P p)).length+1:=by
 have low:∀n,n<=p0->((List.range n).filter λp=>decide (Q p))=(List.range n).filter λp=>decide (P p):=λn hle=>by
  refine List.filter_congr λp hp=>?_
  have:p≠p0:=by have:=List.mem_range.mp hp;omega
  exact decide_eq_decide.mpr ⟨λz=>((h p).mp z).resolve_right this,λz=>(h p).mpr (.inl z)⟩
 intro n
 induction n with
 | zero=>intro h;omega
 | succ n ih =>
  intro hl
  rw [List.range_succ,List.filter_append,List.filter_append,List.length_append,List.length_append]
  by_cases e:n=p0
  ·subst e
   rw [low n (Nat.le_refl _)]
   simp [hn,(h n).mpr (.inr rfl)]
  ·have:=ih (by omega)
   have hq:decide (Q n)=decide (P n):=decide_eq_decide.mpr ⟨λz=>((h n).mp z).resolve_right e,λz=>(h n).mpr (.inl z)⟩
   rw [this,List.filter_cons,List.filter_cons,hq,List.filter_nil,List.filter_nil]
   omega
theorem Qmv (w:Wv M G O) (s:St M G O S π) (hx:x<M) (h1:¬S x) (h:π x≠O x):rc M G O (ad S O x)=rc M G O S:=by
 unfold rc
 congr 1
 refine List.filter_congr λp hp=>decide_eq_decide.mpr ⟨λ⟨z1,z2⟩=>⟨z1,λq hq=>?_⟩,λ⟨z1,z2⟩=>⟨z1,λq hq=>.inl (z2 q hq)⟩⟩
 have hpM:=List.mem_range.mp hp
 have key:¬Re G O p x:=λhr=>by
  have h3:=z2 _ (hr.trans (s.pa x hx h1).re)
  rcases h3 with z | z | z
  ·exact s.ps x hx h1 z
  ·exact s.pn x hx h1 z
  ·exact h z
 rcases z2 q hq with z | rfl | rfl
 ·exact z
 ·exact absurd hq key
 ·refine absurd ?_ key
  have:=hq.o
  rwa [w.oo x hx] at this
theorem Qmt (w:Wv M G O) (s:St M G O S π) (hx:x<M) (h1:¬S x) (h:π x=O x):rc M G O (ad S O x)=rc M G O S+1:=by
 obtain ⟨l,l1,l2,l3,l4⟩:=(s.pa x hx h1).set w s.so hx
 rw [h] at l2 l4
 have all:∀q,Re G O x q->ad S O x q:=λq hq=>by
  have hl:q∈l:=hq.sub (P:=λq=>q∈l) l1 (λq hq=>(l3 q hq).2) λq hq=>by
   by_cases a1:q=x
   ·rw [a1];exact l2
   ·by_cases a2:q=O x
    ·rw [a2,w.oo x hx];exact l1
    ·exact (l4 q hq a1 a2).1
  by_cases a1:q=x
  ·exact .inr (.inl a1)
  ·by_cases a2:q=O x
   ·exact .inr (.inr a2)
   ·exact .inl (l4 q hl a1 a2).2
 obtain ⟨p0,q1,q2⟩:=Qth (P:=λq=>Re G O x q) x .here
 have hp0:=q1.lt w hx
 unfold rc
 refine Qfa (Q:=Rp G O (ad S O x)) (P:=Rp G O S) (p0:=p0) (λp=>⟨λ⟨z1,z2⟩=>?_,λz=>?_⟩) (λz=>h1 (z.2 x (q1.symm w hx))) M hp0
 ·by_cases hr:Re G O p x
  ·refine .inr (Nat.le_antisymm (z1 p0 (hr.trans q1)) ?_)
   by_cases hpM:p<M
   ·exact q2 p (hr.symm w hpM)
   ·omega
  ·refine .inl ⟨z1,λq hq=>?_⟩
   rcases z2 q hq with z | rfl | rfl
   ·exact z
   ·exact absurd hq hr
   ·refine absurd ?_ hr
    have:=hq.o
    rwa [w.oo x hx] at this
 ·rcases z with z | rfl
  ·exact ⟨z.1,λq hq=>.inl (z.2 q hq)⟩
  ·exact ⟨λq hq=>q2 q (q1.trans hq),λq hq=>all q (q1.trans hq)⟩
open Classical in
theorem Qmu:rc M G O (λ_=>False)=0:=by
 unfold rc
 rw [List.filter_eq_nil_iff.mpr λp _=>by rw [decide_eq_true_eq];exact λz=>z.2 p .here]
 rfl
end Ly
namespace Ly
def Gx (m e:Nat) (g:Nat->Nat) (q:Nat):Nat:=if q<4*m+e then g q else if (q-(4*m+e)) % 2=0 then q+1 else q-1
def wy (v j:Nat):Nat:=if v=0 then (if j % 2=0 then j+1 else j-1) else 3-j
def Ox (m e:Nat) (W:Nat->Nat) (q:Nat):Nat:=if q<4*m then 4*(q / 4)+wy (W (q / 4)) (q % 4) else if q<4*m+e then 4*m+e+2*(q-4*m) else if (q-(4*m+e)) % 2=0 then 4*m+(q-(4*m+e)) / 2 else q
theorem Qij {v j:Nat} (h:j<4):wy v j<4:=by
 unfold wy
 split
 ·split <;> omega
 ·omega
theorem Qr8 {v j:Nat} (h:j<4):wy v (wy v j)=j:=by
 unfold wy
 split
 ·split
  ·rw [if_neg (by omega)];omega
  ·rw [if_pos (by omega)];omega
 ·omega
variable {m e:Nat} {A:Nat->Int} {g:Nat->Nat} {W:Nat->Nat} {q i j:Nat}
theorem Qax (h:q<4*m+e):Gx m e g q=g q:=if_pos h
theorem Yc:Gx m e g (4*m+e+2*i)=4*m+e+2*i+1:=by
 unfold Gx;rw [if_neg (by omega),if_pos (by omega)]
theorem Zo:Gx m e g (4*m+e+2*i+1)=4*m+e+2*i:=by
 unfold Gx;rw [if_neg (by omega),if_neg (by omega)];omega
theorem Yb {k:Nat} (hk:k<m) (hj:j<4):Ox m e W (4*k+j)=4*k+wy (W k) j:=by
 unfold Ox
 rw [if_pos (by omega),show (4*k+j) / 4=k by omega,show (4*k+j) % 4=j by omega]
theorem Qkg (h:q<4*m):Ox m e W q<4*m:=by
 have:=Yb (m:=m) (e:=e) (W:=W) (k:=q / 4) (j:=q % 4) (by omega) (by omega)
 rw [show 4*(q / 4)+q % 4=q by omega] at this
 rw [this]
 have:=Qij (v:=W (q / 4)) (j:=q % 4) (by omega)
 omega
theorem Ze (h:i<e):Ox m e W (4*m+i)=4*m+e+2*i:=by
 unfold Ox;rw [if_neg (by omega),if_pos (by omega)];omega
theorem Zy (h:i<e):Ox m e W (4*m+e+2*i)=4*m+i:=by
 unfold Ox;rw [if_neg (by omega),if_neg (by omega),if_pos (by omega)];omega
theorem Qce:Ox m e W (4*m+e+2*i+1)=4*m+e+2*i+1:=by
 unfold Ox;rw [if_neg (by omega),if_neg (by omega),if_neg (by omega)]
theorem Gp (h:q<4*m+e+2*e):(∃k j,k<m/\j<4/\q=4*k+j)\/(∃i,i<e/\q=4*m+i)\/(∃i,i<e/\q=4*m+e+2*i)\/∃i,i<e/\q=4*m+e+2*i+1:=by
 by_cases h1:q<4*m
 ·exact .inl ⟨q / 4,q % 4,by omega,by omega,by omega⟩
 ·by_cases h2:q<4*m+e
  ·exact .inr (.inl ⟨q-4*m,by omega,by omega⟩)
  ·by_cases h3:(q-(4*m+e)) % 2=0
   ·exact .inr (.inr (.inl ⟨(q-(4*m+e)) / 2,by omega,by omega⟩))
   ·exact .inr (.inr (.inr ⟨(q-(4*m+e)) / 2,by omega,by omega⟩))
theorem wv (tw:M.Tw (4*m+e) A g):Wv (4*m+e+2*e) (Gx m e g) (Ox m e W):=by
 refine ⟨λq hq=>?_,λq hq=>?_,λq hq=>?_,λq hq=>?_,λq hq=>?_⟩
 ·by_cases h:q<4*m+e
  ·rw [Qax h];have:=tw.lt q h;omega
  ·rcases Gp hq with ⟨k,j,h1,h2,rfl⟩ | ⟨i,h1,rfl⟩ | ⟨i,h1,rfl⟩ | ⟨i,h1,rfl⟩
   ·omega
   ·omega
   ·rw [Yc];omega
   ·rw [Zo];omega
 ·by_cases h:q<4*m+e
  ·rw [Qax h];exact tw.ne q h
  ·rcases Gp hq with ⟨k,j,h1,h2,rfl⟩ | ⟨i,h1,rfl⟩ | ⟨i,h1,rfl⟩ | ⟨i,h1,rfl⟩
   ·omega
   ·omega
   ·rw [Yc];omega
   ·rw [Zo];omega
 ·by_cases h:q<4*m+e
  ·rw [Qax h,Qax (tw.lt q h)];exact tw.inv h
  ·rcases Gp hq with ⟨k,j,h1,h2,rfl⟩ | ⟨i,h1,rfl⟩ | ⟨i,h1,rfl⟩ | ⟨i,h1,rfl⟩
   ·omega
   ·omega
   ·rw [Yc,Zo]
   ·rw [Zo,Yc]
 ·rcases Gp hq with ⟨k,j,h1,h2,rfl⟩ | ⟨i,h1,rfl⟩ | ⟨i,h1,rfl⟩ | ⟨i,h1,rfl⟩
  ·have:=Qkg (m:=m) (e:=e) (W:=W) (q:=4*k+j) (by omega);omega
  ·rw [Ze h1];omega
  ·rw [Zy h1];omega
  ·rw [Qce];omega
 ·rcases Gp hq with ⟨k,j,h1,h2,rfl⟩ | ⟨i,h1,rfl⟩ | ⟨i,h1,rfl⟩ | ⟨i,h1,rfl⟩
  ·rw [Yb h1 h2,Yb h1 (Qij h2),Qr8 h2]
  ·rw [Ze h1,Zy h1]
  ·rw [Zy h1,Ze h1]
  ·rw [Qce,Qce]
def lab (m e:Nat) (A:Nat->Int) (q:Nat):Int ⊕ List Int:=if q<4*m+e then .inl (A q) else .inr [-1,(((q-(4*m+e)) / 2:Nat):Int)]
theorem Yu (h:q<4*m+e):lab m e A q=.inl (A q):=if_pos h
theorem U0:lab m e A (4*m+e+2*i)=.inr [-1,(i:Int)]:=by
 unfold lab;rw [if_neg (by omega),show (4*m+e+2*i-(4*m+e)) / 2=i by omega]
theorem Vh:lab m e A (4*m+e+2*i+1)=.inr [-1,(i:Int)]:=by
 unfold lab;rw [if_neg (by omega),show (4*m+e+2*i+1-(4*m+e)) / 2=i by omega]
structure Lab {κ:Type} (M:Nat) (G:Nat->Nat) (lab:Nat->κ):Prop where
 eq:∀q,q<M->lab (G q)=lab q
 only:∀q r,q<M->r<M->lab r=lab q->r=q\/r=G q
theorem Qq7 (tw:M.Tw (4*m+e) A g):Lab (4*m+e+2*e) (Gx m e g) (lab m e A):=by
 refine ⟨λq hq=>?_,λq r hq hr h=>?_⟩
 ·by_cases h:q<4*m+e
  ·rw [Qax h,Yu h,Yu (tw.lt q h),tw.eq q h]
  ·rcases Gp hq with ⟨k,j,h1,h2,rfl⟩ | ⟨i,h1,rfl⟩ | ⟨i,h1,rfl⟩ | ⟨i,h1,rfl⟩
   ·omega
   ·omega
   ·rw [Yc,U0,Vh]
   ·rw [Zo,U0,Vh]
 ·have two:∀q,¬q<4*m+e->q<4*m+e+2*e->∃i:Nat,lab m e A q=.inr [-1,(i:Int)]/\((q=4*m+e+2*i/\Gx m e g q=4*m+e+2*i+1)\/(q=4*m+e+2*i+1/\Gx m e g q=4*m+e+2*i)):=λq h hq=>by
   rcases Gp hq with ⟨k,j,h1,h2,rfl⟩ | ⟨i,h1,rfl⟩ | ⟨i,h1,rfl⟩ | ⟨i,h1,rfl⟩
   ·omega
   ·omega
   ·exact ⟨i,U0,.inl ⟨rfl,Yc⟩⟩
   ·exact ⟨i,Vh,.inr ⟨rfl,Zo⟩⟩
  by_cases h1:q<4*m+e
  ·by_cases h2:r<4*m+e
   ·rw [Yu h1,Yu h2] at h
    rw [Qax h1]
    exact tw.only q r h1 h2 (Sum.inl.inj h)
   ·obtain ⟨i,z,_⟩:=two r h2 hr
    rw [z,Yu h1] at h;cases h
  ·obtain ⟨i,z,y⟩:=two q h1 hq
   by_cases h2:r<4*m+e
   ·rw [z,Yu h2] at h;cases h
   ·obtain ⟨i',z',y'⟩:=two r h2 hr
    rw [z,z'] at h
    have:i'=i:=by
     have:=Sum.inr.inj h
     simp only [List.cons.injEq,and_true,true_and] at this
     omega
    subst this
    rcases y with ⟨rfl,y⟩ | ⟨rfl,y⟩ <;> rcases y' with ⟨rfl,y'⟩ | ⟨rfl,y'⟩
    ·exact .inl rfl
    ·exact .inr y.symm
    ·exact .inr y.symm
    ·exact .inl rfl
def fw (m e:Nat) (g W:Nat->Nat) (q:Nat):Nat:=Ox m e W (Gx m e g q)
theorem Qbt (tw:M.Tw (4*m+e) A g):Orb.Inj (4*m+e+2*e) (fw m e g W):=by
 have w:=wv (W:=W) tw
 refine ⟨λi hi=>w.olt _ (w.glt i hi),λi j hi hj h=>?_⟩
 have h1:=congrArg (Ox m e W) h
 unfold fw at h1
 rw [w.oo _ (w.glt i hi),w.oo _ (w.glt j hj)] at h1
 have h2:=congrArg (Gx m e g) h1
 rwa [w.gg i hi,w.gg j hj] at h2
def Sf (m e:Nat) (q:Nat):Prop:=q<4*m+e+2*e/\∀i,q≠4*m+e+2*i+1
theorem Qec (f:Nat->Nat) (t i:Nat):Orb.it f (t+1) i=Orb.it f t (f i):=by rw [Orb.Qlh f t 1 i];rfl
theorem Qo6 (tw:M.Tw (4*m+e) A g) {a b:Nat} (h:Pa (Gx m e g) (Ox m e W) (Sf m e) a b):a<4*m+e->b=4*m+e+2*j+1->∃s,(∀t,t<s->Gx m e g (Orb.it (fw m e g W) t a)<4*m)/\Gx m e g (Orb.it (fw m e g W) s a)=4*m+j:=by
 induction h with
 | one a=>intro ha hb;rw [Qax ha] at hb;have:=tw.lt a ha;omega
 | @more a b hs r ih =>
  intro ha hb
  have hg:Gx m e g a<4*m+e:=by rw [Qax ha];exact tw.lt a ha
  by_cases hc:Gx m e g a<4*m
  ·obtain ⟨s,h1,h2⟩:=ih (by have:=Qkg (e:=e) (W:=W) hc;omega) hb
   refine ⟨s+1,λt ht=>?_,by rw [Qec];exact h2⟩
   cases t with
   | zero=>exact hc
   | succ t=>rw [Qec];exact h1 t (by omega)
  ·refine ⟨0,λt ht=>by omega,?_⟩
   obtain ⟨i,hi⟩:∃i,Gx m e g a=4*m+i:=⟨Gx m e g a-4*m,by omega⟩
   rw [hi,Ze (by omega)] at r
   show Gx m e g a=_
   generalize hz:4*m+e+2*i=z at r
   cases r with
   | one=>rw [← hz,Yc] at hb;rw [hi];omega
   | more h _=>rw [← hz,Yc] at h;exact absurd rfl (h.2 i)
def Vs (m e:Nat) (g W:Nat->Nat) (p s q:Nat):Prop:=∃t,t<=s/\(q=Orb.it (fw m e g W) t p\/q=Gx m e g (Orb.it (fw m e g W) t p))
theorem Qjl (p t:Nat):Re (Gx m e g) (Ox m e W) p (Orb.it (fw m e g W) t p):=by
 induction t with
 | zero=>exact .here
 | succ t ih=>exact (ih.g).o
theorem Vs.re {p s q:Nat} (h:Vs m e g W p s q):Re (Gx m e g) (Ox m e W) p q:=by
 obtain ⟨t,_,rfl | rfl⟩:=h
 ·exact Qjl p t
 ·exact (Qjl p t).g
theorem vs_o (tw:M.Tw (4*m+e) A g) {p s q:Nat} (hp:p<4*m+e+2*e) (h:Vs m e g W p s q):Vs m e g W p s (Ox m e W q)\/q=p\/q=Gx m e g (Orb.it (fw m e g W) s p):=by
 have w:=wv (W:=W) tw
 have hj:=Qbt (W:=W) tw
 obtain ⟨t,ht,rfl | rfl⟩:=h
 ·cases t with
  | zero=>exact .inr (.inl rfl)
  | succ t=>exact .inl ⟨t,by omega,.inr (w.oo _ (w.glt _ (hj.itlt t hp)))⟩
 ·by_cases h:t=s
  ·subst h;exact .inr (.inr rfl)
  ·exact .inl ⟨t+1,by omega,.inl rfl⟩
theorem vs_g (tw:M.Tw (4*m+e) A g) {p s q:Nat} (hp:p<4*m+e+2*e) (h:Vs m e g W p s q):Vs m e g W p s (Gx m e g q):=by
 have w:=wv (W:=W) tw
 have hj:=Qbt (W:=W) tw
 obtain ⟨t,ht,rfl | rfl⟩:=h
 ·exact ⟨t,ht,.inr rfl⟩
 ·exact ⟨t,ht,.inl (w.gg _ (hj.itlt t hp))⟩
theorem Qo0 (tw:M.Tw (4*m+e) A g) {s:Nat} (hi:i<e) (hj:j<e) (h:Gx m e g (Orb.it (fw m e g W) s (4*m+i))=4*m+j) (hq:q<4*m+e):Vs m e g W (4*m+i) s q↔Re (Gx m e g) (Ox m e W) (4*m+i) q:=by
 refine ⟨Vs.re,λhr=>?_⟩
 have hp:4*m+i<4*m+e+2*e:=by omega
 have all:Vs m e g W (4*m+i) s q\/q=4*m+e+2*i\/q=4*m+e+2*i+1\/q=4*m+e+2*j\/q=4*m+e+2*j+1:=by
  refine hr.sub (P:=λq=>Vs m e g W (4*m+i) s q\/q=4*m+e+2*i\/q=4*m+e+2*i+1\/q=4*m+e+2*j\/q=4*m+e+2*j+1) (.inl ⟨0,Nat.zero_le _,.inl rfl⟩) (λq hq=>?_) λq hq=>?_
  ·rcases hq with hq | rfl | rfl | rfl | rfl
   ·exact .inl (vs_g tw hp hq)
   ·rw [Yc];exact .inr (.inr (.inl rfl))
   ·rw [Zo];exact .inr (.inl rfl)
   ·rw [Yc];exact .inr (.inr (.inr (.inr rfl)))
   ·rw [Zo];exact .inr (.inr (.inr (.inl rfl)))
  ·rcases hq with hq | rfl | rfl | rfl | rfl
   ·rcases vs_o tw hp hq with z | rfl | rfl
    ·exact .inl z
    ·rw [Ze hi];exact .inr (.inl rfl)
    ·rw [h,Ze hj];exact .inr (.inr (.inr (.inl rfl)))
   ·rw [Zy hi];exact .inl ⟨0,Nat.zero_le _,.inl rfl⟩
   ·rw [Qce];exact .inr (.inr (.inl rfl))
   ·rw [Zy hj];exact .inl ⟨s,Nat.le_refl _,.inr h.symm⟩
   ·rw [Qce];exact .inr (.inr (.inr (.inr rfl)))
 rcases all with z | z | z | z | z
 ·exact z
 all_goals omega
theorem Ql6 (tw:M.Tw (4*m+e) A g) {p s:Nat} (hp:p<4*m) (h:fw m e g W (Orb.it (fw m e g W) s p)=p):Vs m e g W p s q↔Re (Gx m e g) (Ox m e W) p q:=by
 have w:=wv (W:=W) tw
 have hj:=Qbt (W:=W) tw
 have hp':p<4*m+e+2*e:=by omega
 refine ⟨Vs.re,λhr=>hr.sub (P:=λq=>Vs m e g W p s q) ⟨0,Nat.zero_le _,.inl rfl⟩ (λq hq=>vs_g tw hp' hq) λq hq=>?_⟩
 rcases vs_o tw hp' hq with z | rfl | rfl
 ·exact z
 ·refine ⟨s,Nat.le_refl _,.inr ?_⟩
  have:=congrArg (Ox m e W) h
  rw [show fw m e g W (Orb.it (fw m e g W) s q)=Ox m e W (Gx m e g (Orb.it (fw m e g W) s q)) from rfl,w.oo _ (w.glt _ (hj.itlt s hp'))] at this
  exact this.symm
 ·exact ⟨0,Nat.zero_le _,.inl h⟩
structure Wk (m e:Nat) (g W:Nat->Nat) (p s:Nat) (o:Option Nat):Prop where
 sl:s<4*m+e+2*e
 on:∀t,t<s->Gx m e g (Orb.it (fw m e g W) t p)<4*m/\fw m e g W (Orb.it (fw m e g W) t p)≠p
 fin:match o with
  | some j=>j<e/\Gx m e g (Orb.it (fw m e g W) s p)=4*m+j
  | none=>Gx m e g (Orb.it (fw m e g W) s p)<4*m/\fw m e g W (Orb.it (fw m e g W) s p)=p
theorem Qox (tw:M.Tw (4*m+e) A g) (hi:i<e) (hj:j<e) (h:Pa (Gx m e g) (Ox m e W) (Sf m e) (4*m+i) (4*m+e+2*j+1)):∃s,Wk m e g W (4*m+i) s (some j):=by
 obtain ⟨s,h1,h2⟩:=Qo6 tw h (by omega) rfl
 have inj:=Qbt (W:=W) tw
 have hp:4*m+i<4*m+e+2*e:=by omega
 obtain ⟨P,p1,p2,p3⟩:=inj.back hp
 refine ⟨s,?_,λt ht=>⟨h1 t ht,λz=>?_⟩,hj,h2⟩
 ·by_cases hs:s<P
  ·omega
  ·exfalso
   have e1:Orb.it (fw m e g W) s (4*m+i)=Orb.it (fw m e g W) (s-P) (4*m+i):=by
    have:=Orb.Qlh (fw m e g W) (s-P) P (4*m+i)
    rw [p3,show s-P+P=s by omega] at this
    exact this
   rw [e1] at h2
   have:=h1 (s-P) (by omega)
   omega
 ·have:=Qkg (e:=e) (W:=W) (h1 t ht)
  have z:Ox m e W (Gx m e g (Orb.it (fw m e g W) t (4*m+i)))=4*m+i:=z
  omega
theorem Qly (tw:M.Tw (4*m+e) A g) {p:Nat} (hp:p<4*m) (h:∀q,Re (Gx m e g) (Ox m e W) p q->q<4*m):∃s,Wk m e g W p s none:=by
 have inj:=Qbt (W:=W) tw
 have hp':p<4*m+e+2*e:=by omega
 obtain ⟨h1,h2,h3,h4⟩:=inj.per hp'
 generalize Orb.per (4*m+e+2*e) (fw m e g W) p=P at h1 h2 h3 h4
 obtain ⟨s,rfl⟩:∃s,P=s+1:=⟨P-1,by omega⟩
 exact ⟨s,by omega,λt ht=>⟨h _ (Qjl p t).g,h4 (t+1) (by omega) (by omega)⟩,h _ (Qjl p s).g,h3⟩
end Ly
namespace Ly
open PV Mx
section
variable {κ:Type} [DecidableEq κ]
theorem Jw {k j:κ}:∀kvs:List (κ × D),valD (Yo kvs k) j=if j=k then none else valD kvs j
 | []=>by unfold Yo;simp [Uz]
 | p::r=>by
  have ih:=Jw (k:=k) (j:=j) r
  unfold Yo at ih ⊢
  by_cases h:p.1=k
  ·rw [List.filter_cons_of_neg (by simpa using h),ih,Jm]
   by_cases e:j=k
   ·rw [if_pos e,if_pos e]
   ·rw [if_neg e,if_neg e,if_neg (λz=>e (z.symm.trans h))]
  ·rw [List.filter_cons_of_pos (by simpa using h),Jm,Jm,ih]
   by_cases e:j=k
   ·subst e;rw [if_neg h,if_pos rfl,if_pos rfl]
   ·rw [if_neg e,if_neg e]
theorem Qhm {k:κ} {kvs:List (κ × D)} (h:valD kvs k=none):Yo kvs k=kvs:=by
 unfold Yo
 refine List.filter_eq_self.mpr λp hp=>decide_eq_true λe=>?_
 have:=Qaw k kvs
 rw [h] at this
 have z:(kvs.any λkv=>decide (kv.1=k))=true:=List.any_eq_true.mpr ⟨p,hp,decide_eq_true e⟩
 rw [this] at z;cases z
theorem Qao {k:κ} {kvs:List (κ × D)} (h:(kvs.map (·.1)).Nodup):((Yo kvs k).map (·.1)).Nodup:=h.sublist (List.filter_sublist.map _)
theorem U3 {k:κ} {kvs:List (κ × D)}:(Yo kvs k).length<=kvs.length:=List.length_filter_le _ _
theorem Qk5 {k:κ} {d:D} {kvs:List (κ × D)} (h:(kvs.map (·.1)).Nodup):((putD kvs k d).map (·.1)).Nodup:=by
 unfold putD
 split
 ·rw [List.map_map]
  have:((λx:κ × D=>x.1) ∘ λkv:κ × D=>if kv.1=k then (kv.1,d) else kv)=λx=>x.1:=by
   funext x
   show (if x.1=k then (x.1,d) else x).1=x.1
   split <;> rfl
  rw [this];exact h
 ·rename_i hn
  rw [List.map_append]
  refine List.nodup_append.mpr ⟨h,by simp,λa ha b hb=>?_⟩
  rw [List.map_cons,List.map_nil,List.mem_singleton] at hb
  subst hb
  intro e
  obtain ⟨p,hp,q⟩:=List.mem_map.mp ha
  exact hn (List.any_eq_true.mpr ⟨p,hp,decide_eq_true (q.trans e)⟩)
theorem Qgv {kvs:List (κ × D)} {k:κ} {d:D} (h:(kvs.map (·.1)).Nodup):(k,d)∈kvs↔valD kvs k=some d:=by
 induction kvs with
 | nil=>simp [Uz]
 | cons p r ih =>
  obtain ⟨h1,h2⟩:=List.nodup_cons.mp h
  rw [Jm,List.mem_cons,ih h2]
  by_cases e:p.1=k
  ·rw [if_pos e]
   constructor
   ·rintro (z | z)
    ·rw [← z]
    ·exact absurd (List.mem_map.mpr ⟨_,(ih h2).mpr z,rfl⟩) (by rw [← e] ;exact h1)
   ·intro z
    left
    rw [← e,← Option.some.inj z]
  ·rw [if_neg e]
   constructor
   ·rintro (z | z)
    ·exact absurd (by rw [← z]) e
    ·exact z
   ·exact .inr
end
theorem Qny:∀{u v:MI},miD u=miD v->u=v
 | .inl i,.inl j,h=>by
  have h:D.int i=D.int j:=h
  cases h;rfl
 | .inl i,.inr l,h=>nomatch (show D.int i=D.tup _ from h)
 | .inr l,.inl i,h=>nomatch (show D.tup _=D.int i from h)
 | .inr l,.inr k,h=>by
  have h:D.tup (l.map .int)=D.tup (k.map .int):=h
  have h:=D.tup.inj h
  rw [(List.map_inj_right λ_ _ z=>D.int.inj z).mp h]
theorem Qcx:∀u:MI,keyM (miD u)=some u
 | .inl i=>rfl
 | .inr l=>by
  show (Uw (l.map .int)).map _=_
  have:Uw (l.map .int)=some l:=by
   induction l with
   | nil=>rfl
   | cons i l ih =>
    show (Uw (l.map .int)).map (i :: ·)=_
    rw [ih];rfl
  rw [this];rfl
theorem Vd:∀u:MI,(miD u).pure=true
 | .inl i=>by unfold miD;rw [D.pure]
 | .inr l=>by unfold miD;rw [D.pure];exact Zt.mpr λx hx=>by obtain ⟨i,_,rfl⟩:=List.mem_map.mp hx;rw [D.pure]
theorem Qhk:∀u:MI,eqOk 9 (miD u)=true
 | .inl i=>rfl
 | .inr l=>by
  show Va 8 (l.map .int)=true
  exact Qbz.mpr λx hx=>by obtain ⟨i,_,rfl⟩:=List.mem_map.mp hx;rfl
theorem Qtt {u v:MI} {k:D->Prop} (h1:u=v->k (.bl true)) (h2:u≠v->k (.bl false)):dEq (miD u) (miD v) k:=by
 have gen:eqOk 9 (miD u)=true/\eqOk 9 (miD v)=true/\(miD u=miD v->k (.bl true))/\(miD u≠miD v->k (.bl false)):=⟨Qhk u,Qhk v,λz=>h1 (Qny z),λz=>h2 λy=>z (by rw [y])⟩
 cases u with
 | inl i =>
  cases v with
  | inl j =>
   show k (.bl (decide (i=j)))
   by_cases e:i=j
   ·rw [decide_eq_true e];exact h1 (by rw [e])
   ·rw [decide_eq_false e];exact h2 λz=>e (Sum.inl.inj z)
  | inr l=>exact gen
 | inr l =>
  cases v with
  | inl j=>exact gen
  | inr k=>exact gen
theorem Qdz {kvs:List (MI × D)} {u:MI} {d:D} {k:D->D->Prop} (hd:d.pure=true) (h:k ((valD kvs u).getD d) (.dmx (Yo kvs u))):Qe6 (.dmx kvs) [miD u,d] k:=by
 show oget (keyM (miD u)) _
 rw [Qcx]
 refine ⟨Vd u,hd,?_⟩
 show match valD kvs u with | none=>k d (.dmx kvs) | some d=>k d (.dmx (Yo kvs u))
 cases hv:valD kvs u with
 | none=>rw [hv,Qhm hv] at h;exact h
 | some x=>rw [hv] at h;exact h
theorem Qrm {kvs:List (MI × D)} {u:MI} {d:D} {k:D->D->Prop} (hd:d.pure=true) (h:k ((valD kvs u).getD d) (.dmx kvs)):Qoc (.dmx kvs) [miD u,d] k:=by
 show oget (keyM (miD u)) _
 rw [Qcx]
 exact ⟨Vd u,hd,h⟩
structure DR (M:Nat) (G:Nat->Nat) (lb:Nat->MI) (S:Nat->Prop) (π:Nat->Nat) (kvs:List (MI × D)):Prop where
 nd:(kvs.map (·.1)).Nodup
 va:∀q,q<M->¬S q->S (G q)->valD kvs (lb q)=some (miD (lb (π q)))
 on:∀k d,valD kvs k=some d->∃q,q<M/\¬S q/\S (G q)/\k=lb q
section
variable {M x q:Nat} {G O π:Nat->Nat} {S:Nat->Prop} {lb:Nat->MI} {kvs:List (MI × D)}
theorem DR.start:DR M G lb (λ_=>False) G []:=⟨List.nodup_nil,λ_ _ _ h=>h.elim,λk d h=>by rw [Uz] at h;cases h⟩
theorem DR.get (w:Wv M G O) (lo:Lab M G lb) (s:St M G O S π) (dr:DR M G lb S π kvs) (hq:q<M) (h:¬S q):(valD kvs (lb q)).getD (miD (lb q))=miD (lb (π q)):=by
 by_cases hg:S (G q)
 ·rw [dr.va q hq h hg];rfl
 ·cases hv:valD kvs (lb q) with
  | some d =>
   obtain ⟨r,hr,h1,h2,h3⟩:=dr.on _ _ hv
   rcases lo.only q r hq hr h3.symm with rfl | rfl
   ·exact absurd h2 hg
   ·rw [w.gg q hq] at h2;exact absurd h2 h
  | none=>rw [s.plain hq h hg,lo.eq q hq];rfl
theorem Qbp (lo:Lab M G lb) (s:St M G O S π) (hx:x<M) (hq:q<M) (h1:¬S x) (hq1:¬S q) (n1:q≠x) (n2:q≠π x):lb q≠lb x:=λz=>by
 rcases lo.only x q hx hq z with y | y
 ·exact n1 y
 ·have:¬S (G x):=by rw [← y];exact hq1
  exact n2 (by rw [y,s.plain hx h1 this])
theorem DR.ring (w:Wv M G O) (lo:Lab M G lb) (s:St M G O S π) (dr:DR M G lb S π kvs) (hx:x<M) (h1:¬S x) (h2:¬S (O x)) (h:π x=O x):DR M G lb (ad S O x) π (Yo (Yo kvs (lb x)) (lb (O x))):=by
 have hox:=w.olt x hx
 have e1:=s.pp x hx h1
 rw [h] at e1
 refine ⟨Qao (Qao dr.nd),λq hq n hg=>?_,λk d hv=>?_⟩
 ·have n0:¬S q:=λz=>n (.inl z)
  have n1:q≠x:=λz=>n (.inr (.inl z))
  have n2:q≠O x:=λz=>n (.inr (.inr z))
  have hsg:S (G q):=by
   rcases hg with z | z | z
   ·exact z
   ·have y:q=G x:=by rw [← z,w.gg q hq]
    have:¬S (G x):=by rw [← y];exact n0
    exact absurd (by rw [y,← s.plain hx h1 this,h]) n2
   ·have y:q=G (O x):=by rw [← z,w.gg q hq]
    have:¬S (G (O x)):=by rw [← y];exact n0
    exact absurd (by rw [y,← s.plain hox h2 this,e1]) n1
  rw [Jw,Jw,if_neg (Qbp lo s hox hq h2 n0 n2 (by rw [e1];exact n1)),if_neg (Qbp lo s hx hq h1 n0 n1 (by rw [h];exact n2))]
  exact dr.va q hq n0 hsg
 ·rw [Jw,Jw] at hv
  by_cases z1:k=lb (O x)
  ·rw [if_pos z1] at hv;cases hv
  ·rw [if_neg z1] at hv
   by_cases z2:k=lb x
   ·rw [if_pos z2] at hv;cases hv
   ·rw [if_neg z2] at hv
    obtain ⟨q,hq,a1,a2,rfl⟩:=dr.on k d hv
    refine ⟨q,hq,?_,.inl a2,rfl⟩
    rintro (z | rfl | rfl)
    ·exact a1 z
    ·exact z2 rfl
    ·exact z1 rfl
theorem DR.join (w:Wv M G O) (lo:Lab M G lb) (s:St M G O S π) (dr:DR M G lb S π kvs) (hx:x<M) (ho:O x≠x) (h1:¬S x) (h2:¬S (O x)) (h:π x≠O x) :
  (valD (Yo kvs (lb x)) (lb (O x))).getD (miD (lb (O x)))=miD (lb (π (O x))) /\
  DR M G lb (ad S O x) (jn π O x) (putD (putD (Yo (Yo kvs (lb x)) (lb (O x))) (lb (π x)) (miD (lb (π (O x))))) (lb (π (O x))) (miD (lb (π x)))):=by
 have hox:=w.olt x hx
 have e1:=s.pp x hx h1
 have e2:=s.pp (O x) hox h2
 have i1:π (O x)≠x:=λz=>h (by have:=e2;rw [z] at this;exact this)
 have i2:π x≠π (O x):=λz=>ho (by have:=e1;rw [z,e2] at this;exact this)
 have p1:=s.pl x hx h1
 have p2:=s.pl (O x) hox h2
 have s1:=s.ps x hx h1
 have s2:=s.ps (O x) hox h2
 have nl:lb (O x)≠lb x:=Qbp lo s hx hox h1 h2 ho (λz=>h z.symm)
 have nst:lb (π (O x))≠lb (π x):=Qbp lo s p1 p2 s1 s2 (λz=>i2 z.symm) (by rw [e1];exact i1)
 refine ⟨?_,Qk5 (Qk5 (Qao (Qao dr.nd))),λq hq n hg=>?_,λk d hv=>?_⟩
 ·rw [Jw,if_neg nl];exact dr.get w lo s hox h2
 ·have n0:¬S q:=λz=>n (.inl z)
  have n1:q≠x:=λz=>n (.inr (.inl z))
  have n2:q≠O x:=λz=>n (.inr (.inr z))
  rw [Zz,Zz,Jw,Jw]
  by_cases z1:q=π x
  ·subst z1
   rw [if_neg (λz=>nst z.symm),if_pos rfl]
   unfold jn;rw [if_pos rfl]
  ·by_cases z2:q=π (O x)
   ·subst z2
    rw [if_pos rfl]
    unfold jn;rw [if_neg z1,if_pos rfl]
   ·rw [if_neg (Qbp lo s p2 hq s2 n0 z2 (by rw [e2];exact n2)),if_neg (Qbp lo s p1 hq s1 n0 z1 (by rw [e1];exact n1)),if_neg (Qbp lo s hox hq h2 n0 n2 z2),if_neg (Qbp lo s hx hq h1 n0 n1 z1)]
    have hsg:S (G q):=by
     rcases hg with z | z | z
     ·exact z
     ·have y:q=G x:=by rw [← z,w.gg q hq]
      have:¬S (G x):=by rw [← y];exact n0
      exact absurd (by rw [y,s.plain hx h1 this]) z1
     ·have y:q=G (O x):=by rw [← z,w.gg q hq]
      have:¬S (G (O x)):=by rw [← y];exact n0
      exact absurd (by rw [y,s.plain hox h2 this]) z2
    rw [dr.va q hq n0 hsg]
    unfold jn;rw [if_neg z1,if_neg z2]
 ·rw [Zz,Zz,Jw,Jw] at hv
  have near:∀y,y<M->¬S y->ad S O x y->ad S O x (G (π y)):=λy hy hn ha=>by
   by_cases z:S (G (π y))
   ·exact .inl z
   ·have:=s.plain (s.pl y hy hn) (s.ps y hy hn) z
    rw [s.pp y hy hn] at this
    rw [← this];exact ha
  by_cases z1:k=lb (π (O x))
  ·refine ⟨π (O x),p2,?_,near _ hox h2 (.inr (.inr rfl)),z1⟩
   rintro (z | z | z)
   ·exact s2 z
   ·exact i1 z
   ·exact s.pn _ hox h2 z
  ·rw [if_neg z1] at hv
   by_cases z2:k=lb (π x)
   ·refine ⟨π x,p1,?_,near _ hx h1 (.inr (.inl rfl)),z2⟩
    rintro (z | z | z)
    ·exact s1 z
    ·exact s.pn _ hx h1 z
    ·exact h z
   ·rw [if_neg z2] at hv
    by_cases z3:k=lb (O x)
    ·rw [if_pos z3] at hv;cases hv
    ·rw [if_neg z3] at hv
     by_cases z4:k=lb x
     ·rw [if_pos z4] at hv;cases hv
     ·rw [if_neg z4] at hv
      obtain ⟨q,hq,a1,a2,rfl⟩:=dr.on k d hv
      refine ⟨q,hq,?_,.inl a2,rfl⟩
      rintro (z | rfl | rfl)
      ·exact a1 z
      ·exact z4 rfl
      ·exact z3 rfl
end
def Lk (m e:Nat) (A:Nat->Int) (g W:Nat->Nat) (S:Nat->Prop) (kvs:List (MI × D)) (n:Nat):Prop :=
 ∃π,St (4*m+e+2*e) (Gx m e g) (Ox m e W) S π/\DR (4*m+e+2*e) (Gx m e g) (lab m e A) S π kvs/\rc (4*m+e+2*e) (Gx m e g) (Ox m e W) S=n
theorem Qms {M x r:Nat} {G O:Nat->Nat} {S:Nat->Prop} (w:Wv M G O) (hx:x<M) (hr:Re G O x r) (hn:¬ad S O x r):rc M G O (ad S O x)=rc M G O S:=by
 unfold rc
 congr 1
 refine List.filter_congr λp hp=>decide_eq_decide.mpr ⟨λ⟨z1,z2⟩=>⟨z1,λq hq=>?_⟩,λ⟨z1,z2⟩=>⟨z1,λq hq=>.inl (z2 q hq)⟩⟩
 have key:¬Re G O p x:=λh=>hn (z2 _ (h.trans hr))
 rcases z2 q hq with z | rfl | rfl
 ·exact z
 ·exact absurd hq key
 ·refine absurd ?_ key
  have:=hq.o
  rwa [w.oo x hx] at this
end Ly
namespace K31
open PySem PySem.Spec L2 PV
open PyProof.Rows (envOfC)
def top (i:Nat):Stmt:=PySem.Challenge.pw_tanglehouse_k31_opened_crossings.main.body.getD i (.Pass ⟨0,0,0,0⟩)
structure Bn (K:PySem.W.Frag) (mg:Str->Option Value):Prop where
 nb_bool:mg "bool" = none
 nb_enumerate:mg "enumerate" = none
 nb_int:mg "int" = none
 nb_isinstance:mg "isinstance" = none
 nb_len:mg "len" = none
 nb_list:mg "list" = none
 nb_range:mg "range" = none
 nb_sorted:mg "sorted" = none
 nb_tuple:mg "tuple" = none
 nb_zip:mg "zip" = none
 c_JOINED:KcN K mg "JOINED" (.tup [.tup [.tup [.int 0,.int 1],.tup [.int 2,.int 3]],.tup [.tup [.int 0,.int 3],.tup [.int 1,.int 2]]])
 c_RIM:∃t:Tok,mg "RIM" = some (.int (-1) t)
def Qm:GI:=λds k=>∃c n b,ds=[rowD c n,.int b]/\0<b/\b<1073741824/\0<=n/\n<=1000000/\∀c' r,0<=r->r<b->k (.int r) (rowD c' (n+1))
abbrev Ji:Stmt:=top 11
theorem Y1:FnScope ["_law_row","_law_base","_law_rest","_law_number"] ["_law_row","_law_base"] (Qc Ji):=⟨rfl,rfl,rfl,by decide +kernel,rfl,by decide +kernel,by decide +kernel⟩
def U9:Tg:={ own:=λi=>i == 0 || i == 2 || i == 3,io:=[0] }
def U6:WS:=(wSeq (Yy 0 (wBin Y6 (wBin dIx (wVar 0) (wC (.int 1))) (wC (.int 1))) (wC (.int 1)))
 (wSeq (wIf (wBl (wBin (dCmp λi j=>decide (j<i)) (wBin dIx (wVar 0) (wC (.int 0))) (wBin dPow (wC (.int 10)) (wC (.int 18))))) (wSeq (wSet 2 (wBin dSub (wBin dIx (wVar 0) (wC (.int 0))) (wBin dPow (wC (.int 10)) (wC (.int 18)))))
 (wSeq (Yy 0 (wBin Y6 (wBin dPow (wC (.int 10)) (wC (.int 18))) (wBin dDiv (wVar 2) (wVar 1))) (wC (.int 0)))
 (wRet (wBin dMod (wVar 2) (wVar 1))))) Yd)
 (wSeq (wSet 3 (wBin dMod (wBin Y6 (wBin Y6 (wBin dMul (wBin dIx (wVar 0) (wC (.int 0))) (wC (.int 48271))) (wBin dMul (wBin dMul (wC (.int 7919)) (wBin dIx (wVar 0) (wC (.int 1)))) (wBin dIx (wVar 0) (wC (.int 1))))) (wC (.int 11))) (wC (.int 2147483629))))
 (wSeq (wSet 3 (wBin dMod (wBin Y6 (wBin Y6 (wBin dMul (wVar 3) (wVar 3)) (wBin dMul (wC (.int 69621)) (wBin dIx (wVar 0) (wC (.int 1))))) (wC (.int 7))) (wC (.int 2147483587))))
 (wRet (wBin dMod (wBin dDiv (wVar 3) (wC (.int 5))) (wVar 1)))))))
theorem Qda {P:Program} {w:World} {K:PySem.W.Frag} {mg:Str->Option Value} {base:Heap} {f:Addr} (B:Bn K mg):∀(cdv:Value) (A:Around) (outer:List PySem.Env) (s:Shared) (H:Hp) (E:XK),Room 0 (A.deeper (envOfC "_law_take" (Qc Ji) s.heap.objs.size f cdv))->SVs (cxOf CX0 P w K mg base ["_law_row","_law_base","_law_rest","_law_number"] "_law_take" (Qc Ji) f cdv A outer s H E).nox U9 (Qq Ji) U6:=λcdv A outer s H E hr =>
  (Qg (Y0 (i:=0) (Qo hr) (Q9 Jv (Qy (Q3 (Qo hr)) (Qb 0) Qe) Qe) Qe)
  (Qg (Gb (Zk Qtc (Qy (Q3 (Qo hr)) (Qb 0) Qe) (Q9 Qgn Qe Qe)) (Qg (Q7 (i:=2) (Q9 Qlc (Qy (Q3 (Qo hr)) (Qb 0) Qe) (Q9 Qgn Qe Qe)) Y1.nd)
  (Qg (Y0 (i:=0) (Qo hr) (Q9 Jv (Q9 Qgn Qe Qe) (Q9 Qgp (Qb 2) (Qb 1))) Qe)
  (Qp (J2 (Q9 Qbm (Qb 2) (Qb 1)))))) Yr)
  (Qg (Q7 (i:=3) (Q9 Qbm (Q9 Jv (Q9 Jv (Q9 Yt (Qy (Q3 (Qo hr)) (Qb 0) Qe) Qe) (Q9 Yt (Q9 Yt Qe (Qy (Q3 (Qo hr)) (Qb 0) Qe)) (Qy (Q3 (Qo hr)) (Qb 0) Qe))) Qe) Qe) Y1.nd)
  (Qg (Q7 (i:=3) (Q9 Qbm (Q9 Jv (Q9 Jv (Q9 Yt (Qb 3) (Qb 3)) (Q9 Yt Qe (Qy (Q3 (Qo hr)) (Qb 0) Qe))) Qe) Qe) Y1.nd)
  (Qp (J2 (Q9 Qbm (Q9 Qgp (Qb 3) Qe) (Qb 1))))))))
theorem Qbk {P:Program} {w:World} {K:PySem.W.Frag} {mg:Str->Option Value} {base:Heap} {f:Addr} {fd:FuncData} (F:Fun K "_law_take" "_law_take" Ji f fd) (B:Bn K mg):FnOk P w K mg base CX0 1 f fd ["_law_row","_law_base"] (spI K 0 Qm):=by
 refine Qe8 (T:=U9) F Y1 rfl rfl (λds kk h=>?_) (Qda B) (λds kk h=>?_)
 ·obtain ⟨c,n,b,rfl,_⟩:=h
  exact ⟨rfl,_,rfl,rfl⟩
 ·obtain ⟨c,n,b,rfl,hb,hb2,hn,hn2,k⟩:=h
  have hn1:-18446744073709551616<n+1:=by omega
  have hn2':n+1<18446744073709551616:=by omega
  simp only [U6,wSeq,Yy,wBin,env0,rowD,List.map_cons,List.map_nil,List.length_cons,List.length_nil,Nat.zero_add,Nat.reduceAdd,List.replicate,List.cons_append,List.nil_append,wC,wIf,wSet,wRet,Ja,Int.reduceLE,Int.reduceNeg,Int.reduceLT,Qpq,Int.reduceToNat,Int.reducePow,Yd,r_bl,look,Option.isSome_some,List.set_cons_zero,List.set_cons_succ,Qn,true_and,Qfy,Nat.lt_add_one,Qtj,List.length_set,Nat.zero_lt_succ,Qtk,Zf,Qcn,V8,V7,List.getElem?_cons_zero,Qj,Bool.and_true,Qpp,hb,Qf1,hb2,Qf5,Zn,D.pure,Bool.true_and,List.getElem?_cons_succ,Qpt,Qeu,Y8,Gf,hn1,hn2']
  split
  ·exact k _ _ (Int.emod_nonneg _ (by omega)) (Int.emod_lt_of_pos _ hb)
  ·have hx:-18446744073709551616<(c*48271+7919*(n+1)*(n+1)+11) % 2147483629/\(c*48271+7919*(n+1)*(n+1)+11) % 2147483629<18446744073709551616:=by omega
   generalize (c*48271+7919*(n+1)*(n+1)+11) % 2147483629=x at hx
   simp only [Int.reduceNeg,hx.1,hx.2,Gf,Zn,Int.reduceLT,Qf1,Qf5,hb]
   exact k _ _ (Int.emod_nonneg _ (by omega)) (Int.emod_lt_of_pos _ hb)
def arcF (r l p:Int):D->D
 | .int i=>.int ((r+i*l) % p)
 | d=>d
def Zc:GI:=λds k=>∃(c n:Int) (q:Nat),ds=[rowD c n,.int q]/\q<=100/\0<=n/\n<=999990/\∀(c':Int) (xs:List Int),xs.length=q->xs.Nodup->(∀x∈xs,0<=x/\x<1000000000)->k (.lst (xs.map .int)) (rowD c' (n+3))
abbrev Jf:Stmt:=top 12
theorem Y2:FnScope ["_law_row","_law_many","_law_prime","_law_leap","_law_offset"] ["_law_row","_law_many"] (Qc Jf):=⟨rfl,rfl,rfl,by decide +kernel,rfl,by decide +kernel,by decide +kernel⟩
def Ga:Tg:={ own:=λi=>i == 0 || i == 2 || i == 3 || i == 4,io:=[0] }
def U7:WS:=(wSeq (wSet 2 (wBin dIx (wLst (Qd (wC (.int 101)) (Qd (wC (.int 10007)) (Qd (wC (.int 999999937)) wNil)))) (Qw 0 Qm (Jg 0 (Qd (wC (.int 3)) wNil)))))
 (wSeq (wSet 3 (wBin Y6 (wC (.int 1)) (Qw 0 Qm (Jg 0 (Qd (wBin dSub (wVar 2) (wC (.int 1))) wNil)))))
 (wSeq (wSet 4 (Qw 0 Qm (Jg 0 (Qd (wVar 2) wNil))))
 (wRet (Qa0 (G8 (Qd (wVar 1) wNil)) wAll (wBin dMod (wBin Y6 (wVar 2) (wBin dMul (wVar 0) (wVar 1))) (wVar 3)) [3,4,2])))))
theorem Qdb {P:Program} {w:World} {K:PySem.W.Frag} {mg:Str->Option Value} {base:Heap} {f:Addr} (B:Bn K mg) (C__law_take:Cal P w K mg base "_law_take" 1 ["_law_row","_law_base"] (spI K 0 Qm)):∀(cdv:Value) (A:Around) (outer:List PySem.Env) (s:Shared) (H:Hp) (E:XK),Room 1 (A.deeper (envOfC "_law_arcs" (Qc Jf) s.heap.objs.size f cdv))->SVs (cxOf CX0 P w K mg base ["_law_row","_law_many","_law_prime","_law_leap","_law_offset"] "_law_arcs" (Qc Jf) f cdv A outer s H E).nox Ga (Qq Jf) U7:=λcdv A outer s H E hr =>
  (Qg (Q7 (i:=2) (Qy (Q3 (Qo hr)) (Yl (Qa Qe (Qa Qe (Qa Qe Qf)))) (Q1 C__law_take (hr.mono (by decide)) (Jl (i:=0) (Qa Qe Qf)))) Y2.nd)
  (Qg (Q7 (i:=3) (Q9 Jv Qe (Q1 C__law_take (hr.mono (by decide)) (Jl (i:=0) (Qa (Q9 Qlc (Qb 2) Qe) Qf)))) Y2.nd)
  (Qg (Q7 (i:=4) (Q1 C__law_take (hr.mono (by decide)) (Jl (i:=0) (Qa (Qb 2) Qf))) Y2.nd)
  (Qp (J2 (Qeg (Qc6 [3,4,2] (Yj B.nb_range (Qa (Qb 1) Qf)) (λ_ _ _ _ _=>Qhw) (λ_ _ _ _ _=>(Q9 Qbm (Q9 Jv (Qb 2) (Q9 Yt (Qb 0) (Qb 1))) (Qb 3)))) (Z9 (Qc Jf) ["_law_row","_law_many","_law_prime","_law_leap","_law_offset"] (by decide +kernel))))))))
theorem Qbl {P:Program} {w:World} {K:PySem.W.Frag} {mg:Str->Option Value} {base:Heap} {f:Addr} {fd:FuncData} (F:Fun K "_law_arcs" "_law_arcs" Jf f fd) (B:Bn K mg) (C1:Cal P w K mg base "_law_take" 1 ["_law_row","_law_base"] (spI K 0 Qm)):FnOk P w K mg base CX0 2 f fd ["_law_row","_law_many"] (spI K 0 Zc):=by
 refine Qe8 (T:=Ga) F Y2 rfl rfl (λds kk h=>?_) (Qdb B C1) (λds kk h=>?_)
 ·obtain ⟨c,n,q,rfl,_⟩:=h
  exact ⟨rfl,_,rfl,rfl⟩
 ·obtain ⟨c,n,q,rfl,hq,hn,hn2,k⟩:=h
  simp only [U7,wSeq,wSet,wBin,wLst,Qd,wC,wNil,List.length_cons,List.length_nil,Nat.zero_add,Nat.reduceAdd,Qw,Jg,env0,rowD,List.map_cons,List.map_nil,List.replicate,List.cons_append,List.nil_append,look,Option.isSome_some,Qj,D.pure,Bool.and_self,List.set_cons_zero,List.set_cons_succ,Bool.and_true,wRet,Qf6,Uv,Ja,Qn,Zr,Int.reducePow,Int.reduceNeg,Int.toNat_natCast,true_and,Zf]
  refine ⟨by decide,c,n,3,rfl,by decide,by decide,hn,by omega,λc1 r1 h1 h2=>?_⟩
  obtain ⟨p,hat,hp⟩:∃p,L2.atI [D.int 101,D.int 10007,D.int 999999937] r1=some (.int p)/\isP p:=by
   rcases Qs2 (a:=D.int 101) (b:=.int 10007) (c:=.int 999999937) h1 h2 with e | e | e
   ·exact ⟨_,e,.inl rfl⟩
   ·exact ⟨_,e,.inr (.inl rfl)⟩
   ·exact ⟨_,e,.inr (.inr rfl)⟩
  have hpb:100<p/\p<1073741824:=by rcases hp with z | z | z <;> omega
  simp only [rowD,Zf,Qj,D.pure,Bool.and_self,Int.reduceNeg,true_and,Qcn,hat,Qn,Qpp]
  refine ⟨c1,n+1,p-1,rfl,by omega,by omega,by omega,by omega,λc2 r2 h3 h4=>?_⟩
  simp only [rowD,Zf,Qj,D.pure,Bool.and_self,Int.reduceNeg,true_and,Zn]
  refine ⟨c2,n+1+1,p,rfl,by omega,by omega,by omega,by omega,λc3 r3 h5 h6=>?_⟩
  simp only [Int.reduceNeg,rowD]
  refine ⟨by omega,by omega,Qb2 (arcF r3 (1+r2) p) (by rw [Jz];exact Nat.lt_of_le_of_lt (show _<=1000 by omega) (by decide)) (λd hd Q' hQ=>?_) ?_⟩
  ·obtain ⟨i,hi,rfl⟩:=Qd5 hd
   have hi1:-18446744073709551616<0+(i:Int):=by omega
   have hi2:0+(i:Int)<18446744073709551616:=by omega
   have hp0:0<p:=by omega
   simp only [wBin,blkE,List.map_cons,look,List.map_nil,Ja,Qn,Int.reduceNeg,hi1,hi2,Gf,Zn,hp0,Qf1]
   exact hQ
  ·simp only [look,Qn,Zf,Qj,D.pure,Bool.and_self,true_and]
   have e:(rngD 0 q).map (arcF r3 (1+r2) p)=((List.range q).map λ(i:Nat)=>(r3+(i:Int)*(1+r2)) % p).map D.int:=by
    simp [rngD,arcF]
   rw [e]
   have:=k c3 ((List.range q).map λ(i:Nat)=>(r3+(i:Int)*(1+r2)) % p) (by simp) (Qfe hp (by omega) (by omega) (by omega)) (λx hx=>by
    obtain ⟨i,_,rfl⟩:=List.mem_map.mp hx
    refine ⟨Int.emod_nonneg _ (by omega),Int.lt_of_lt_of_le (Int.emod_lt_of_pos _ (by omega)) (by rcases hp with z | z | z <;> omega)⟩)
   simpa [rowD,Int.add_assoc] using this
def Zb:GI:=λds k=>∃(c n:Int) (m e:Nat),ds=[rowD c n,.int m,.int e]/\m<=40/\e<=12/\e % 2=0/\0<=n/\n<=900000 /\
 ∀(c' n':Int) (A:Nat->Int) (g:Nat->Nat) (r:Int),M.Tw (4*m+e) A g->(∀i,0<=A i/\A i<1000000000)->(r=0\/r=1\/r=2\/r=20)->n<=n'->n'<=n+1000->k (webD m e A r) (rowD c' n')
abbrev Jp:Stmt:=top 13
theorem Ys:FnScope ["_law_row","_law_many","_law_ends","_law_arcs_here","_law_left","_law_arc_here","_law_crossings"] ["_law_row","_law_many","_law_ends"] (Qc Jp):=⟨rfl,rfl,rfl,by decide +kernel,rfl,by decide +kernel,by decide +kernel⟩
def Xj:Tg:={ own:=λi=>i == 0 || i == 3 || i == 4 || i == 5 || i == 6,io:=[0] }
def Xh:WS:=(wSeq (wSet 3 (wBin dMul (wLst (Qd (wC (.int 0)) wNil)) (wBin Y6 (wBin dMul (wC (.int 4)) (wVar 1)) (wVar 2))))
 (wSeq (wSet 4 (Qv Qhv (Qd (wBin Y6 (wBin dMul (wC (.int 4)) (wVar 1)) (wVar 2)) wNil)))
 (wSeq (wFor (Ua (Qw 0 Zc (Jg 0 (Qd (wBin Y6 (wBin dMul (wC (.int 2)) (wVar 1)) (wBin dDiv (wVar 2) (wC (.int 2)))) wNil)))) (gN 5) (wSeq (Yy 3 (wVar 5) (wMt 4 "list" Qef (Qd (wC (.int 0)) wNil)))
 (Yy 3 (wVar 5) (wMt 4 "list" Qef (Qd (Qw 0 Qm (Jg 0 (Qd (Qv dLen (Qd (wVar 4) wNil)) wNil))) wNil)))))
 (wSeq (wSet 6 (Qa0 (G8 (Qd (wVar 1) wNil)) wAll (Qv Vc (Qd (wSlT (wVar 1) (Qci (wBin dMul (wC (.int 4)) (wVar 0))) (Qci (wBin Y6 (wBin dMul (wC (.int 4)) (wVar 0)) (wC (.int 4))))) wNil)) [3]))
 (wRet (wTup (Qd (Qv Vc (Qd (wVar 6) wNil)) (Qd (Qv Vc (Qd (wSlT (wVar 3) (Qci (wBin dMul (wC (.int 4)) (wVar 1))) Qer) wNil)) (Qd (wBin dIx (wLst (Qd (wC (.int 0)) (Qd (wC (.int 1)) (Qd (wC (.int 2)) (Qd (wC (.int 20)) wNil))))) (Qw 0 Qm (Jg 0 (Qd (wC (.int 4)) wNil)))) wNil)))))))))
theorem Qfc {P:Program} {w:World} {K:PySem.W.Frag} {mg:Str->Option Value} {base:Heap} {f:Addr} (B:Bn K mg) (C__law_take:Cal P w K mg base "_law_take" 1 ["_law_row","_law_base"] (spI K 0 Qm)) (C__law_arcs:Cal P w K mg base "_law_arcs" 2 ["_law_row","_law_many"] (spI K 0 Zc)):∀(cdv:Value) (A:Around) (outer:List PySem.Env) (s:Shared) (H:Hp) (E:XK),Room 2 (A.deeper (envOfC "_law_web" (Qc Jp) s.heap.objs.size f cdv))->SVs (cxOf CX0 P w K mg base ["_law_row","_law_many","_law_ends","_law_arcs_here","_law_left","_law_arc_here","_law_crossings"] "_law_web" (Qc Jp) f cdv A outer s H E).nox Xj (Qq Jp) Xh:=λcdv A outer s H E hr =>
  (Qg (Q7 (i:=3) (Q9 Yt (Yl (Qa Qe Qf)) (Q9 Jv (Q9 Yt Qe (Qb 1)) (Qb 2))) Ys.nd)
  (Qg (Q7 (i:=4) (Qbw B.nb_range B.nb_list (Qa (Q9 Jv (Q9 Yt Qe (Qb 1)) (Qb 2)) Qf)) Ys.nd)
  (Qg (Zl PassesOwn.never (Gq (Q1 C__law_arcs (hr.mono (by decide)) (Jl (i:=0) (Qa (Q9 Jv (Q9 Yt Qe (Qb 1)) (Q9 Qgp (Qb 2) Qe)) Qf)))) (J6 (i:=5) Ys.nd) (Qg (Y0 (i:=3) (Qo hr) (Qb 5) (Qbv (i:=4) Qd6 PySem.F.plainAttrs_list PySem.F.slot_list_pop PySem.F.type_list_pop (Qa Qe Qf)))
  (Qp (Y0 (i:=3) (Qo hr) (Qb 5) (Qbv (i:=4) Qd6 PySem.F.plainAttrs_list PySem.F.slot_list_pop PySem.F.type_list_pop (Qa (Q1 C__law_take (hr.mono (by decide)) (Jl (i:=0) (Qa (Ju G0 B.nb_len G3 (Qa (Qb 4) Qf)) Qf))) Qf))))))
  (Qg (Qdo (j:=6) (Qc6 [3] (Yj B.nb_range (Qa (Qb 1) Qf)) (λ_ _ _ _ _=>Qhw) (λ_ _ _ _ _=>(J7 Zi B.nb_tuple Yh (Qa (Qhf (Qb 1) (Qad (Q9 Yt Qe (Qb 0))) (Qad (Q9 Jv (Q9 Yt Qe (Qb 0)) Qe))) Qf)))) (Z9 (Qc Jp) ["_law_row","_law_many","_law_ends","_law_arcs_here","_law_left","_law_arc_here","_law_crossings"] (by decide +kernel)) Ys.nd)
  (Qp (J2 (Zd (Qa (J7 Zi B.nb_tuple Yh (Qa (Qb 6) Qf)) (Qa (J7 Zi B.nb_tuple Yh (Qa (Qhf (Qb 3) (Qad (Q9 Yt Qe (Qb 1))) Qgh) Qf)) (Qa (Qy (Q3 (Qo hr)) (Yl (Qa Qe (Qa Qe (Qa Qe (Qa Qe Qf))))) (Q1 C__law_take (hr.mono (by decide)) (Jl (i:=0) (Qa Qe Qf)))) Qf))))))))))
theorem Qcs {P:Program} {w:World} {K:PySem.W.Frag} {mg:Str->Option Value} {base:Heap} {f:Addr} {fd:FuncData} (F:Fun K "_law_web" "_law_web" Jp f fd) (B:Bn K mg) (C1:Cal P w K mg base "_law_take" 1 ["_law_row","_law_base"] (spI K 0 Qm)) (C2:Cal P w K mg base "_law_arcs" 2 ["_law_row","_law_many"] (spI K 0 Zc)) :
  FnOk P w K mg base CX0 3 f fd ["_law_row","_law_many","_law_ends"] (spI K 0 Zb):=by
 refine Qe8 (T:=Xj) F Ys rfl rfl (λds kk h=>?_) (Qfc B C1 C2) (λds kk h=>?_)
 ·obtain ⟨c,n,m,e,rfl,_⟩:=h
  exact ⟨rfl,_,rfl,rfl⟩
 ·obtain ⟨c,n,m,e,rfl,hm,he,he2,hn,hn2,k⟩:=h
  simp only [Xh,wSeq,wSet,wBin,wLst,Qd,wC,wNil,List.length_cons,List.length_nil,Nat.zero_add,env0,rowD,List.map_cons,List.map_nil,Nat.reduceAdd,List.replicate,List.cons_append,List.nil_append,Qv,Uc,Qbd,Qw,Jg,Qj,Bool.and_true,Ja,look,List.set_cons_succ,List.set_cons_zero,Option.isSome_some,Qn,Zf,D.pure,Bool.and_self,true_and,Int.reduceLT,Qf5,Int.reduceNeg,Gf,Zn,Qmw,Qkx,Int.reducePow]
  have hN:(4*(m:Int)+(e:Int)).toNat=4*m+e:=by omega
  have e1:(List.replicate (4*(m:Int)+(e:Int)).toNat [D.int 0]).flatten=(List.replicate (4*m+e) (0:Int)).map D.int:=by rw [hN];simp
  have e2:rngD 0 (4*(m:Int)+(e:Int)).toNat=(List.range (4*m+e)).map λ(i:Nat)=>D.int (i:Int):=by rw [hN];simp [rngD]
  have big:∀n:Nat,n<=1000->n<sizeLine:=λn h=>Nat.lt_of_le_of_lt h (by decide)
  rw [e1,e2]
  refine ⟨by decide,by omega,by omega,by rw [hN];exact Nat.le_of_lt (big _ (by omega)),by omega,by omega,c,n,2*m+e / 2,by simp [rowD],by omega,hn,by omega,λc1 xs hl nd hxs=>?_⟩
  simp only [rowD,Qkw]
  refine ⟨Vx,λt ρ=>∃(c' n':Int) (L:List Nat) (Bs:List Int) (ps:List (Nat × Nat)) (o:Option D),ρ=[some (rowD c' n'),some (.int m),some (.int e),some (.lst (Bs.map D.int)),some (.lst (L.map λ(i:Nat)=>D.int (i:Int))),o,none]/\Pr (4*m+e) xs t L Bs ps/\L.length=4*m+e-2*t/\n'=n+3+t/\t<=xs.length/\∀b∈Bs,0<=b/\b<1000000000,
   ⟨c1,n+3,List.range (4*m+e),List.replicate (4*m+e) 0,[],none,rfl,Pr.start _ _,by simp,by simp,Nat.zero_le _,λb hb=>by rw [(List.mem_replicate.mp hb).2];decide⟩,?_,?_⟩
  ·rintro t d ρ hd ⟨c',n',L,Bs,ps,o,rfl,hp,hL,hn',ht,hB⟩
   obtain ⟨x,hx,rfl⟩:∃x,xs[t]? = some x/\d=.int x:=by
    rw [List.getElem?_map] at hd
    cases q:xs[t]? with
    | none=>rw [q] at hd;cases hd
    | some x=>rw [q] at hd;exact ⟨x,rfl,(Option.some.inj hd).symm⟩
   have htl:=(List.getElem?_eq_some_iff.mp hx).1
   cases L with
   | nil=>simp at hL;omega
   | cons i L =>
    simp only [List.length_cons] at hL
    have hi:=hp.lt (List.mem_cons_self (a:=i))
    have hbl:=hp.bl
    have hix:ixN Bs.length (i:Int)=some i:=Zu (by omega)
    simp only [gN,wSeq,Yy,rowD,List.map_cons,List.set_cons_succ,List.set_cons_zero,wMt,Qd,wC,wNil,Qw,Jg,Qv,Qj,Bool.and_true,List.nil_append,Ja,look,Option.isSome_some,Qpo,BEq.rfl,Qn,Zf,D.pure,Bool.and_self,true_and,Qf0,Int.reducePow,Int.reduceNeg,Int.reduceLE,Int.reduceLT,List.length_cons,List.length_map,Nat.zero_lt_succ,Qmq,Qpv,List.getElem?_cons_zero,List.eraseIdx_cons_zero,Qfy,hix]
    refine ⟨c',n',(L.length:Int),rfl,by omega,by omega,by omega,by omega,λc2 r h1 h2=>?_⟩
    obtain ⟨s,rfl⟩:=Int.eq_ofNat_of_zero_le h1
    have hs:s<L.length:=by omega
    have hj:=hp.lt (List.mem_cons_of_mem i (List.getElem_mem hs))
    have hsx:seqIndex? (s:Int) L.length=some s:=Ge hs
    have hjx:ixN Bs.length ((L[s]:Nat):Int)=some L[s]:=Zu (by omega)
    simp only [rowD,Qf0,Int.reducePow,Int.reduceNeg,List.length_map,hsx,List.getElem?_map,Qn,List.getElem?_eq_getElem hs,Option.map_some,D.pure,Qfy,List.length_set,hjx,true_and]
    refine ⟨by omega,by omega,c2,n'+1,L.eraseIdx s,(Bs.set i x).set L[s] x,ps++[(i,L[s])],some (.int x),?_,hp.step hx hs,?_,by omega,by omega,λb hb=>?_⟩
    ·simp [rowD,List.map_set,Qbn]
    ·rw [List.length_eraseIdx_of_lt hs];omega
    ·rcases List.mem_or_eq_of_mem_set hb with hb | rfl
     ·rcases List.mem_or_eq_of_mem_set hb with hb | rfl
      ·exact hB b hb
      ·exact hxs _ (List.mem_of_getElem? hx)
     ·exact hxs _ (List.mem_of_getElem? hx)
  ·rintro ρ ⟨c',n',L,Bs,ps,o,rfl,hp,hL,hn',ht,hB⟩
   simp only [List.length_map] at hp hL hn' ht
   have hL0:L=[]:=List.length_eq_zero_iff.mp (by omega)
   subst hL0
   obtain ⟨g,tw⟩:=hp.tw nd
   have hbl:=hp.bl
   simp only [wSeq,wSet,rowD,wRet,wTup,Qd,Qv,wNil,wSlT,Qer,wBin,wLst,wC,List.length_cons,List.length_nil,Nat.zero_add,Nat.reduceAdd,Qw,Jg,Qj,D.pure,Bool.and_self,List.nil_append,true_and,Qfw,Ja,Qf6,Uv,look,Qn,Zr,Int.reducePow,Int.reduceNeg,Int.toNat_natCast]
   refine ⟨by omega,by omega,Qb2 (Qhy Bs) (by rw [Jz];exact big _ (by omega)) (λd hd Q' hQ=>?_) ?_⟩
   ·obtain ⟨i,hi,rfl⟩:=Qd5 hd
    have hb1:-18446744073709551616<0+(i:Int):=by omega
    have hb2:0+(i:Int)<18446744073709551616:=by omega
    have q1:4*(0+(i:Int))=((4*i:Nat):Int):=by omega
    have q2:((4*i:Nat):Int)+4=((4*i+4:Nat):Int):=by omega
    simp only [Qv,Qd,wSlT,blkE,List.map_nil,List.map_cons,look,wNil,Qfw,wBin,wC,Ja,Qn,Int.reduceNeg,Int.reduceLT,Gf,Zn,Qco,Qk2,Xm]
    rw [q1,q2,Qop (by omega) (by rw [List.length_map];omega),show 4*i+4-4*i=4 by omega,Zx (by omega)]
    refine ⟨Vx,Qs λ_ _=>rfl,?_⟩
    rw [Xw] at hQ
    exact hQ
   ·simp only [List.set_cons_succ,List.set_cons_zero,look,Option.isSome_some,Qn,Zf,Qj,D.pure,Bool.and_self,true_and,Int.reduceNeg,Int.reduceLT,Gf,Qco,Qk2,Xm]
    rw [Qe9,show (4*(m:Int))=((4*m:Nat):Int) by omega,Qj5 (by rw [List.length_map];omega)]
    have e3:(Bs.map D.int).drop (4*m)=(List.range e).map λj=>.int (Bs.getD (4*m+j) 0):=by
     rw [← Zx (by omega),List.take_of_length_le (by simp;omega)]
    rw [e3]
    refine ⟨Qs λ_ _=>by simp only [D.pure];exact Qs λ_ _=>rfl,Vx,Qs λ_ _=>rfl,by decide,c',n',4,rfl,by decide,by decide,by omega,by omega,λc4 r4 h1 h2=>?_⟩
    obtain ⟨p,hat,hp4⟩:∃p,L2.atI [D.int 0,D.int 1,D.int 2,D.int 20] r4=some (.int p)/\(p=0\/p=1\/p=2\/p=20):=by
     rcases Qs1 (a:=D.int 0) (b:=.int 1) (c:=.int 2) (d:=.int 20) h1 h2 with q | q | q | q
     ·exact ⟨_,q,.inl rfl⟩
     ·exact ⟨_,q,.inr (.inl rfl)⟩
     ·exact ⟨_,q,.inr (.inr (.inl rfl))⟩
     ·exact ⟨_,q,.inr (.inr (.inr rfl))⟩
    simp only [rowD,Zf,Qj,D.pure,Bool.and_self,true_and,Qcn,hat,Qn]
    exact ⟨by decide,k c4 (n'+1) (λi=>Bs.getD i 0) g p tw (λi=>Qjo (by decide) hB i) hp4 (by omega) (by omega)⟩
end K31
namespace K31
open PySem PySem.Spec L2 PV Ly
open PyProof.Rows (envOfC)
def Qbs:GI:=λds k=>∃(m e:Nat) (A:Nat->Int) (g W:Nat->Nat) (S:Nat->Prop) (kvs:List (Mx.MI × D)) (n x:Nat),ds=[.dmx kvs,miD (lab m e A x),miD (lab m e A (Ox m e W x))]/\M.Tw (4*m+e) A g/\Lk m e A g W S kvs n/\kvs.length<=1000/\x<4*m+e+2*e/\¬S x/\¬S (Ox m e W x)/\Ox m e W x≠x /\
 ∀(c:Nat) (kvs':List (Mx.MI × D)),Lk m e A g W (ad S (Ox m e W) x) kvs' (n+c)->kvs'.length<=kvs.length+2->k (.int c) (.dmx kvs')
abbrev X9:Stmt:=top 2
theorem Qfr:FnScope ["partners","one","other","start","finish"] ["partners","one","other"] (Qc X9):=⟨rfl,rfl,rfl,by decide +kernel,rfl,by decide +kernel,by decide +kernel⟩
def Qo7:Tg:={ own:=λi=>i == 0 || i == 3 || i == 4,io:=[0] }
def Qoy:WS:=(wSeq (wIf (wBl (wBin dEq (wMt 0 "dict" Qoc (Qd (Qu (wVar 1)) (Qd (Qu (wVar 1)) wNil))) (wVar 2))) (wSeq (Xa (wMt 0 "dict" Qe6 (Qd (Qu (wVar 1)) (Qd (wC .non) wNil))))
 (wSeq (Xa (wMt 0 "dict" Qe6 (Qd (Qu (wVar 2)) (Qd (wC .non) wNil))))
 (wRet (wC (.int 1))))) Yd)
 (wSeq (wSet 3 (wMt 0 "dict" Qe6 (Qd (Qu (wVar 1)) (Qd (Qu (wVar 1)) wNil))))
 (wSeq (wSet 4 (wMt 0 "dict" Qe6 (Qd (Qu (wVar 2)) (Qd (Qu (wVar 2)) wNil))))
 (wSeq (Qik 0 (wVar 4) (wVar 3))
 (wSeq (Qik 0 (wVar 3) (wVar 4))
 (wRet (wC (.int 0))))))))
theorem Qty {P:Program} {w:World} {K:PySem.W.Frag} {mg:Str->Option Value} {base:Heap} {f:Addr} (B:Bn K mg):∀(cdv:Value) (A:Around) (outer:List PySem.Env) (s:Shared) (H:Hp) (E:XK),Room 0 (A.deeper (envOfC "lay" (Qc X9) s.heap.objs.size f cdv))->SVs (cxOf CX0 P w K mg base ["partners","one","other","start","finish"] "lay" (Qc X9) f cdv A outer s H E).nox Qo7 (Qq X9) Qoy:=λcdv A outer s H E hr =>
  (Qg (Gb (Zk (Qgo hr.units) (Qbv (i:=0) (Qnz (Qo hr)) PySem.F.plainAttrs_dict PySem.F.slot_dict_get PySem.F.type_dict_get (Qa (Qt (Qb 1)) (Qa (Qt (Qb 1)) Qf))) (Qb 2)) (Qg (Gc (Qbv (i:=0) (Qai (Qo hr)) PySem.F.plainAttrs_dict PySem.F.slot_dict_pop PySem.F.type_dict_pop (Qa (Qt (Qb 1)) (Qa Qhg Qf))))
  (Qg (Gc (Qbv (i:=0) (Qai (Qo hr)) PySem.F.plainAttrs_dict PySem.F.slot_dict_pop PySem.F.type_dict_pop (Qa (Qt (Qb 2)) (Qa Qhg Qf))))
  (Qp (J2 Qe)))) Yr)
  (Qg (Q7 (i:=3) (Qbv (i:=0) (Qai (Qo hr)) PySem.F.plainAttrs_dict PySem.F.slot_dict_pop PySem.F.type_dict_pop (Qa (Qt (Qb 1)) (Qa (Qt (Qb 1)) Qf))) Qfr.nd)
  (Qg (Q7 (i:=4) (Qbv (i:=0) (Qai (Qo hr)) PySem.F.plainAttrs_dict PySem.F.slot_dict_pop PySem.F.type_dict_pop (Qa (Qt (Qb 2)) (Qa (Qt (Qb 2)) Qf))) Qfr.nd)
  (Qg (Qfp (i:=0) (Qo hr) (Qb 4) (Qb 3))
  (Qg (Qfp (i:=0) (Qo hr) (Qb 3) (Qb 4))
  (Qp (J2 Qe)))))))
theorem Qqt {P:Program} {w:World} {K:PySem.W.Frag} {mg:Str->Option Value} {base:Heap} {f:Addr} {fd:FuncData} (F:Fun K "lay" "lay" X9 f fd) (B:Bn K mg):FnOk P w K mg base CX0 1 f fd ["partners","one","other"] (spI K 0 Qbs):=by
 refine Qe8 (T:=Qo7) F Qfr rfl rfl (λds kk h=>?_) (Qty B) (λds kk h=>?_)
 ·obtain ⟨m,e,A,g,W,S,kvs,n,x,rfl,_⟩:=h
  exact ⟨rfl,_,rfl,rfl⟩
 ·obtain ⟨m,e,A,g,W,S,kvs,n,x,rfl,tw,⟨π,st,dr,hrc⟩,hl,hx,h1,h2,ho,k⟩:=h
  have wv:=wv (W:=W) tw
  have lo:=Qq7 tw
  have hox:=wv.olt x hx
  have ring:lab m e A (π x)=lab m e A (Ox m e W x)->π x=Ox m e W x:=λhe=>by
   rcases lo.only _ _ hox (st.pl x hx h1) he with z | z
   ·exact z
   ·have n1:=st.ps x hx h1
    rw [z] at n1
    have e1:=st.plain hox h2 n1
    have e2:=st.pp x hx h1
    rw [z,← e1,st.pp _ hox h2] at e2
    exact absurd e2 ho
  simp only [Qoy,wSeq,wIf,env0,List.map_cons,List.map_nil,List.length_cons,List.length_nil,Nat.zero_add,Nat.reduceAdd,List.replicate,List.cons_append,List.nil_append,Xa,wMt,Qd,Qu,wC,wNil,wRet,Ja,Yd,wSet,Qik,r_bl,wBin,look,Gg,List.set_cons_zero,Qn,Vd,true_and,List.set_cons_succ,Option.isSome_some]
  refine Qrm (Vd _) ?_
  rw [dr.get wv lo st hx h1]
  refine Qtt (λhe=>?_) (λhe=>?_)
  ·have hr:=ring he
   simp only [Gg,true_and,Y8,reduceIte]
   refine Qdz rfl ?_
   simp only [Gg,true_and]
   refine Qdz rfl ?_
   simp only [Yf,true_and]
   exact k 1 _ ⟨π,st.ring wv hx h1 h2 hr,dr.ring wv lo st hx h1 h2 hr,by rw [Qmt wv st hx h1 hr,hrc]⟩ (Nat.le_trans U3 (Nat.le_trans U3 (by omega)))
  ·have hr:π x≠Ox m e W x:=λz=>he (by rw [z])
   obtain ⟨hv2,dj⟩:=dr.join wv lo st hx ho h1 h2 hr
   simp only [Gg,true_and,Y8,Bool.false_eq_true,reduceIte]
   refine Qdz (Vd _) ?_
   simp only [Gg,true_and]
   refine Qdz (Vd _) ?_
   rw [dr.get wv lo st hx h1,hv2]
   simp only [Vd,true_and,Qix,Qcx,Yf,Qn]
   have l1:(Yo (Yo kvs (lab m e A x)) (lab m e A (Ox m e W x))).length<=kvs.length:=Nat.le_trans U3 U3
   have l2:=J1 (Yo (Yo kvs (lab m e A x)) (lab m e A (Ox m e W x))) (lab m e A (π x)) (miD (lab m e A (π (Ox m e W x))))
   have l3:=J1 (putD (Yo (Yo kvs (lab m e A x)) (lab m e A (Ox m e W x))) (lab m e A (π x)) (miD (lab m e A (π (Ox m e W x))))) (lab m e A (π (Ox m e W x))) (miD (lab m e A (π x)))
   refine ⟨Jo (by omega),Nat.lt_of_le_of_lt (show _<=2000 by omega) (by decide),?_⟩
   exact k 0 _ ⟨_,st.join wv hx ho h1 h2 hr,dj,by rw [Qmv wv st hx h1 hr,hrc];rfl⟩ (by omega)
def Sc (m e:Nat) (W:Nat->Nat) (k:Nat):Nat->Nat->Prop
 | 0=>λq=>q<4*k
 | 1=>ad (λq=>q<4*k) (Ox m e W) (4*k)
 | _=>ad (ad (λq=>q<4*k) (Ox m e W) (4*k)) (Ox m e W) (4*k+(if W k=0 then 2 else 1))
theorem Qr6 {m e k:Nat} {W:Nat->Nat} (hk:k<m) (hw:W k<=1):Sc m e W k 2=λq=>q<4*(k+1):=by
 funext q
 have e1:=Yb (e:=e) (W:=W) (j:=0) hk (by decide)
 show ad (ad (λq=>q<4*k) (Ox m e W) (4*k)) (Ox m e W) (4*k+(if W k=0 then 2 else 1)) q=_
 rw [Nat.add_zero] at e1
 by_cases h:W k=0
 ·have e2:=Yb (e:=e) (W:=W) (j:=2) hk (by decide)
  rw [h] at e1 e2
  simp only [wy] at e1 e2
  rw [if_pos h]
  unfold ad
  rw [e1,e2]
  apply propext
  constructor <;> intro z <;> simp at * <;> omega
 ·have e2:=Yb (e:=e) (W:=W) (j:=1) hk (by decide)
  rw [show W k=1 by omega] at e1 e2
  simp only [wy] at e1 e2
  rw [if_neg h]
  unfold ad
  rw [e1,e2]
  apply propext
  constructor <;> intro z <;> simp at * <;> omega
def crD (A:Nat->Int) (k:Nat):D:=.tup ((List.range 4).map λj=>.int (A (4*k+j)))
theorem Qlp {A:Nat->Int} {k:Nat}:crD A k=.tup [.int (A (4*k)),.int (A (4*k+1)),.int (A (4*k+2)),.int (A (4*k+3))]:=rfl
def Jq:GI:=λds k=>∃(m e:Nat) (A:Nat->Int) (g W:Nat->Nat) (kvs:List (Mx.MI × D)) (n i:Nat),ds=[.dmx kvs,crD A i,.int (W i)]/\M.Tw (4*m+e) A g/\i<m/\W i<=1/\Lk m e A g W (λq=>q<4*i) kvs n/\kvs.length<=900 /\
 ∀(c:Nat) (kvs':List (Mx.MI × D)),Lk m e A g W (λq=>q<4*(i+1)) kvs' (n+c)->kvs'.length<=kvs.length+4->k (.int c) (.dmx kvs')
abbrev Q0:Stmt:=top 6
theorem Jy:FnScope ["partners","crossing","way","rings","pair"] ["partners","crossing","way"] (Qc Q0):=⟨rfl,rfl,rfl,by decide +kernel,rfl,by decide +kernel,by decide +kernel⟩
def Zp:Tg:={ own:=λi=>i == 0 || i == 3 || i == 4,io:=[0] }
def Yq:WS:=(wSeq (wSet 3 (wC (.int 0)))
 (wSeq (wFor (Ua (wBin dIxC (wC (.kc (.tup [.tup [.tup [.int 0,.int 1],.tup [.int 2,.int 3]],.tup [.tup [.int 0,.int 3],.tup [.int 1,.int 2]]]))) (wVar 2))) (gN 4) (wSet 3 (wBin Y6 (Qu (wVar 3)) (Qw 0 Qbs (Jg 0 (Qd (wBin dIx (wVar 1) (wBin dIxC (wVar 4) (wC (.int 0)))) (Qd (wBin dIx (wVar 1) (wBin dIxC (wVar 4) (wC (.int 1)))) wNil)))))))
 (wRet (Qu (wVar 3)))))
theorem G4 {P:Program} {w:World} {K:PySem.W.Frag} {mg:Str->Option Value} {base:Heap} {f:Addr} (B:Bn K mg) (C_lay:Cal P w K mg base "lay" 1 ["partners","one","other"] (spI K 0 Qbs)):∀(cdv:Value) (A:Around) (outer:List PySem.Env) (s:Shared) (H:Hp) (E:XK),Room 1 (A.deeper (envOfC "open_crossing" (Qc Q0) s.heap.objs.size f cdv))->SVs (cxOf CX0 P w K mg base ["partners","crossing","way","rings","pair"] "open_crossing" (Qc Q0) f cdv A outer s H E).nox Zp (Qq Q0) Yq:=λcdv A outer s H E hr =>
  (Qg (Q7 (i:=3) Qe Jy.nd)
  (Qg (Zl PassesOwn.never (Gq (Qy (Qfh (Qo hr)) (Qtr B.c_JOINED) (Qb 2))) (J6 (i:=4) Jy.nd) (Qp (Q7 (i:=3) (Q9 Jv (Qt (Qb 3)) (Q1 C_lay (hr.mono (by decide)) (Jl (i:=0) (Qa (Qy (Q3 (Qo hr)) (Qb 1) (Qy (Qfh (Qo hr)) (Qb 4) Qe)) (Qa (Qy (Q3 (Qo hr)) (Qb 1) (Qy (Qfh (Qo hr)) (Qb 4) Qe)) Qf))))) Jy.nd)))
  (Qp (J2 (Qt (Qb 3))))))
theorem Uy {P:Program} {w:World} {K:PySem.W.Frag} {mg:Str->Option Value} {base:Heap} {f:Addr} {fd:FuncData} (F:Fun K "open_crossing" "open_crossing" Q0 f fd) (B:Bn K mg) (C1:Cal P w K mg base "lay" 1 ["partners","one","other"] (spI K 0 Qbs)):FnOk P w K mg base CX0 2 f fd ["partners","crossing","way"] (spI K 0 Jq):=by
 refine Qe8 (T:=Zp) F Jy rfl rfl (λds kk h=>?_) (G4 B C1) (λds kk h=>?_)
 ·obtain ⟨m,e,A,g,W,kvs,n,i,rfl,_⟩:=h
  exact ⟨rfl,_,rfl,rfl⟩
 ·obtain ⟨m,e,A,g,W,kvs,n,i,rfl,tw,hi,hw,lk,hl,k⟩:=h
  have e0:=Yb (e:=e) (W:=W) (j:=0) hi (by decide)
  have e1:=Yb (e:=e) (W:=W) (j:=1) hi (by decide)
  have e2:=Yb (e:=e) (W:=W) (j:=2) hi (by decide)
  rw [Nat.add_zero] at e0
  have two:=Qr6 (e:=e) hi hw
  have wcase:W i=0\/W i=1:=by omega
  rcases wcase with h | h
  ·have hI:(W i:Int)=0:=by omega
   rw [h] at e0 e1 e2
   replace e0:Ox m e W (4*i)=4*i+1:=e0
   replace e2:Ox m e W (4*i+2)=4*i+3:=e2
   simp only [Yq,wSeq,wSet,wC,env0,Qlp,hI,List.map_cons,List.map_nil,List.length_cons,List.length_nil,Nat.zero_add,Nat.reduceAdd,List.replicate,List.cons_append,List.nil_append,List.set_cons_succ,List.set_cons_zero,Uc,Qbd,wBin,Ja,look,Qn,Ud,kcD,V8,List.getElem?_cons_zero,Qdw,Qj,D.pure,Bool.and_self,true_and]
   refine ⟨λt ρ=>t<=2/\∃(kvs':List (Mx.MI × D)) (c:Nat) (o:Option D),ρ=[some (.dmx kvs'),some (.tup [.int (A (4*i)),.int (A (4*i+1)),.int (A (4*i+2)),.int (A (4*i+3))]),some (.int 0),some (.int c),o]/\Lk m e A g W (Sc m e W i t) kvs' (n+c)/\kvs'.length<=kvs.length+2*t,⟨by decide,kvs,0,none,rfl,lk,Nat.le_refl _⟩,?_,?_⟩
   ·rintro t d ρ hd ⟨ht,kvs',c,o,rfl,lk',hl'⟩
    match t,hd with
    | 0,hd =>
     cases hd
     simp only [gN,wSet,wBin,Qu,List.set_cons_succ,List.set_cons_zero,Qw,Jg,Qd,wC,wNil,Qj,Bool.and_true,List.nil_append,Nat.zero_add,Ja,look,Option.isSome_some,Qn,Yf,true_and,Ud,List.map_cons,kcD,List.map_nil,V7,List.getElem?_cons_succ,List.getElem?_cons_zero,Vw,D.pure,V8]
     refine ⟨m,e,A,g,W,_,kvs',n+c,4*i,?_,tw,lk',by omega,by omega,?_,?_,by rw [e0];omega,λc' kvs2 lk2 hl2=>?_⟩
     ·rw [e0,Yu (by omega),Yu (by omega)];rfl
     ·show ¬4*i<4*i;omega
     ·rw [e0];show ¬4*i+1<4*i;omega
     ·simp only [Zn]
      refine ⟨by decide,kvs2,c+c',_,by rw [Int.natCast_add],?_,by omega⟩
      rw [← Nat.add_assoc];exact lk2
    | 1,hd =>
     cases hd
     simp only [gN,wSet,wBin,Qu,List.set_cons_succ,List.set_cons_zero,Qw,Jg,Qd,wC,wNil,Qj,Bool.and_true,List.nil_append,Nat.reduceAdd,Ja,look,Option.isSome_some,Qn,Yf,true_and,Ud,List.map_cons,kcD,List.map_nil,V7,List.getElem?_cons_succ,List.getElem?_cons_zero,Vw,Qr3,D.pure,V8,Qou]
     refine ⟨m,e,A,g,W,_,kvs',n+c,4*i+2,?_,tw,lk',by omega,by omega,?_,?_,by rw [e2];omega,λc' kvs2 lk2 hl2=>?_⟩
     ·rw [e2,Yu (by omega),Yu (by omega)];rfl
     ·show ¬(4*i+2<4*i\/4*i+2=4*i\/4*i+2=Ox m e W (4*i))
      rw [e0];omega
     ·rw [e2]
      show ¬(4*i+3<4*i\/4*i+3=4*i\/4*i+3=Ox m e W (4*i))
      rw [e0];omega
     ·simp only [Zn]
      refine ⟨by decide,kvs2,c+c',_,by rw [Int.natCast_add],?_,by omega⟩
      rw [← Nat.add_assoc]
      have:Sc m e W i (1+1)=ad (Sc m e W i 1) (Ox m e W) (4*i+2):=by
       show ad _ _ (4*i+(if W i=0 then 2 else 1))=_
       rw [if_pos h];rfl
      rw [this];exact lk2
    | t+2,hd=>simp at hd
   ·rintro ρ ⟨_,kvs',c,o,rfl,lk',hl'⟩
    simp only [wRet,Qu,Ja,look,Qn,Yf,true_and,D.pure]
    have hl':kvs'.length<=kvs.length+2*2:=hl'
    have lk':Lk m e A g W (Sc m e W i 2) kvs' (n+c):=lk'
    rw [two] at lk'
    exact k c kvs' lk' (by omega)
  ·have hI:(W i:Int)=1:=by omega
   rw [h] at e0 e1 e2
   replace e0:Ox m e W (4*i)=4*i+3:=e0
   replace e1:Ox m e W (4*i+1)=4*i+2:=e1
   simp only [Yq,wSeq,wSet,wC,env0,Qlp,hI,List.map_cons,List.map_nil,List.length_cons,List.length_nil,Nat.zero_add,Nat.reduceAdd,List.replicate,List.cons_append,List.nil_append,List.set_cons_succ,List.set_cons_zero,Uc,Qbd,wBin,Ja,look,Qn,Ud,kcD,V7,List.getElem?_cons_succ,List.getElem?_cons_zero,Qdw,Qj,D.pure,Bool.and_self,true_and]
   refine ⟨λt ρ=>t<=2/\∃(kvs':List (Mx.MI × D)) (c:Nat) (o:Option D),ρ=[some (.dmx kvs'),some (.tup [.int (A (4*i)),.int (A (4*i+1)),.int (A (4*i+2)),.int (A (4*i+3))]),some (.int 1),some (.int c),o]/\Lk m e A g W (Sc m e W i t) kvs' (n+c)/\kvs'.length<=kvs.length+2*t,⟨by decide,kvs,0,none,rfl,lk,Nat.le_refl _⟩,?_,?_⟩
   ·rintro t d ρ hd ⟨ht,kvs',c,o,rfl,lk',hl'⟩
    match t,hd with
    | 0,hd =>
     cases hd
     simp only [gN,wSet,wBin,Qu,List.set_cons_succ,List.set_cons_zero,Qw,Jg,Qd,wC,wNil,Qj,Bool.and_true,List.nil_append,Nat.zero_add,Ja,look,Option.isSome_some,Qn,Yf,true_and,Ud,List.map_cons,kcD,List.map_nil,V7,List.getElem?_cons_succ,List.getElem?_cons_zero,Vw,Qr3,D.pure,V8]
     refine ⟨m,e,A,g,W,_,kvs',n+c,4*i,?_,tw,lk',by omega,by omega,?_,?_,by rw [e0];omega,λc' kvs2 lk2 hl2=>?_⟩
     ·rw [e0,Yu (by omega),Yu (by omega)];rfl
     ·show ¬4*i<4*i;omega
     ·rw [e0];show ¬4*i+3<4*i;omega
     ·simp only [Zn]
      refine ⟨by decide,kvs2,c+c',_,by rw [Int.natCast_add],?_,by omega⟩
      rw [← Nat.add_assoc];exact lk2
    | 1,hd =>
     cases hd
     simp only [gN,wSet,wBin,Qu,List.set_cons_succ,List.set_cons_zero,Qw,Jg,Qd,wC,wNil,Qj,Bool.and_true,List.nil_append,Nat.reduceAdd,Ja,look,Option.isSome_some,Qn,Yf,true_and,Ud,List.map_cons,kcD,List.map_nil,V7,List.getElem?_cons_succ,List.getElem?_cons_zero,Vw,Qou,D.pure,V8]
     refine ⟨m,e,A,g,W,_,kvs',n+c,4*i+1,?_,tw,lk',by omega,by omega,?_,?_,by rw [e1];omega,λc' kvs2 lk2 hl2=>?_⟩
     ·rw [e1,Yu (by omega),Yu (by omega)];rfl
     ·show ¬(4*i+1<4*i\/4*i+1=4*i\/4*i+1=Ox m e W (4*i))
      rw [e0];omega
     ·rw [e1]
      show ¬(4*i+2<4*i\/4*i+2=4*i\/4*i+2=Ox m e W (4*i))
      rw [e0];omega
     ·simp only [Zn]
      refine ⟨by decide,kvs2,c+c',_,by rw [Int.natCast_add],?_,by omega⟩
      rw [← Nat.add_assoc]
      have:Sc m e W i (1+1)=ad (Sc m e W i 1) (Ox m e W) (4*i+1):=by
       show ad _ _ (4*i+(if W i=0 then 2 else 1))=_
       rw [if_neg (by omega)];rfl
      rw [this];exact lk2
    | t+2,hd=>simp at hd
   ·rintro ρ ⟨_,kvs',c,o,rfl,lk',hl'⟩
    simp only [wRet,Qu,Ja,look,Qn,Yf,true_and,D.pure]
    have hl':kvs'.length<=kvs.length+2*2:=hl'
    have lk':Lk m e A g W (Sc m e W i 2) kvs' (n+c):=lk'
    rw [two] at lk'
    exact k c kvs' lk' (by omega)
end K31
namespace K31
open PySem PySem.Spec L2 PV Ly
open PyProof.Rows (envOfC)
theorem Qin {α:Type} {L:List α} {p:α->Bool} {i:Nat} {t:α} (h:L[i]? = some t):(L.take (i+1)).filter p=(L.take i).filter p++if p t=true then [t] else []:=by
 rw [List.take_add_one,h,List.filter_append]
 congr 1
 cases hp:p t <;> simp [hp]
theorem Xx {α:Type} {L:List α} {a b:α->D} {wt:WT} {we:WE} {ρ1:PV.Env} {ix:List Nat} {Q:D->PV.Env->Prop} (f:α->D) (p:α->Bool) (hz:L.length<sizeLine) (ht:∀t∈L,∀k:Bool->PV.Env->Prop,k (p t) (Vm ρ1 (a t) (b t) ix)->wt (Vm ρ1 (a t) (b t) ix) k)
  (he:∀t∈L,p t=true->∀Q':D->PV.Env->Prop,Q' (f t) (Vm ρ1 (a t) (b t) ix)->we (Vm ρ1 (a t) (b t) ix) Q') (hQ:Q (.lst ((L.filter p).map f)) ρ1):Qlq (L.map λt=>.tup [a t,b t]) wt we ρ1 ix Q:=by
 have hlen:∀i,(((L.take i).filter p).map f).length<=L.length:=λi=>by
  rw [List.length_map]
  exact Nat.le_trans (List.length_filter_le _ _) (by rw [List.length_take];omega)
 refine ⟨λi ys=>ys=((L.take i).filter p).map f,by simp,λi d ys hd hy=>⟨by rw [hy];exact Nat.lt_of_le_of_lt (hlen i) hz,?_⟩,λys hy=>⟨by rw [hy];exact Nat.le_of_lt (Nat.lt_of_le_of_lt (hlen _) hz),?_⟩⟩
 ·rw [List.getElem?_map] at hd
  obtain ⟨t,htt,hd⟩:=Option.map_eq_some_iff.mp hd
  subst hd
  have hs:=Qin (p:=p) htt
  have hm:=List.mem_of_getElem? htt
  rw [Qp3]
  refine ht t hm _ ?_
  cases hp:p t with
  | true =>
   rw [if_pos rfl]
   refine he t hm hp _ ?_
   show ys++[f t]=((L.take (i+1)).filter p).map f
   rw [hs,hy,hp,if_pos rfl,List.map_append];rfl
  | false =>
   rw [if_neg (by decide)]
   show ys=((L.take (i+1)).filter p).map f
   rw [hs,hy,hp,if_neg (by decide),List.append_nil]
 ·rw [hy,List.length_map,List.take_of_length_le (Nat.le_refl _)];exact hQ
abbrev eK (i:Nat):List Int:=[-1,(i:Int)]
def rowM (J:Nat->Nat) (i:Nat):Mx.MI × D:=(.inr (eK i),tupI (eK (J i)))
def ppJ (J:Nat->Nat) (i:Nat):List Int × List Int:=(eK i,eK (J i))
def upJ (J:Nat->Nat) (e:Nat):List Nat:=(List.range e).filter λi=>decide (i<J i)
theorem Qq4 (i j:Nat):HT.Y5 (eK i) (eK j)=decide (i<j):=by
 show (if (-1:Int) = -1 then _ else _)=_
 rw [if_pos rfl]
 show (if (i:Int)=(j:Int) then HT.Y5 [] [] else decide ((i:Int)<(j:Int)))=_
 split
 ·rename_i h;rw [decide_eq_false (by omega)];rfl
 ·exact decide_eq_decide.mpr (by omega)
theorem Qq1 {i j:Nat} {k:D->Prop} (h:k (.bl (decide (i<j)))):dLtT (tupI (eK i)) (tupI (eK j)) k:=⟨eK i,eK j,rfl,rfl,by rw [Qq4];exact h⟩
def Yk:GI:=λds k=>∃(e:Nat) (J:Nat->Nat) (L:List Nat),ds=[.dmx (L.map (rowM J))]/\e<=40/\L.Perm (List.range e)/\k (.tup ((upJ J e).map λi=>pp2 (ppJ J i))) (.dmx (L.map (rowM J)))
abbrev Q6:Stmt:=top 1
theorem X7:FnScope ["partners"] ["partners"] (Qc Q6):=⟨rfl,rfl,rfl,by decide +kernel,rfl,by decide +kernel,by decide +kernel⟩
def Uq:Tg:={ own:=λi=>i == 0,io:=[0] }
def Uk:WS:=(wRet (Qv Vc (Qd (Qv Qhu (Qd (Qaz (Qcj 0) (wBl (wBin dLtT (wVar 0) (wVar 1))) (Qu (wTup (Qd (wVar 0) (Qd (wVar 1) wNil)))) []) wNil)) wNil)))
theorem Qca {P:Program} {w:World} {K:PySem.W.Frag} {mg:Str->Option Value} {base:Heap} {f:Addr} (B:Bn K mg):∀(cdv:Value) (A:Around) (outer:List PySem.Env) (s:Shared) (H:Hp) (E:XK),Room 0 (A.deeper (envOfC "joining_of" (Qc Q6) s.heap.objs.size f cdv))->SVs (cxOf CX0 P w K mg base ["partners"] "joining_of" (Qc Q6) f cdv A outer s H E).nox Uq (Qq Q6) Uk:=λcdv A outer s H E hr =>
  (Qp (J2 (J7 Zi B.nb_tuple Yh (Qa (Ju (Qh2 (hu66 hr)) B.nb_sorted Qh8 (Qa (Qeh (Qek [] (Qg5 (s:=0)) (λ_ _ _ _ _=>Qlo (Zk (Qqw (hu66 hr)) (Qb 0) (Qb 1))) (λ_ _ _ _ _=>(Qt (Zd (Qa (Qb 0) (Qa (Qb 1) Qf)))))) (Qb3 (Qc Q6) ["partners"] (by decide +kernel))) Qf)) Qf))))
theorem Qae {P:Program} {w:World} {K:PySem.W.Frag} {mg:Str->Option Value} {base:Heap} {f:Addr} {fd:FuncData} (F:Fun K "joining_of" "joining_of" Q6 f fd) (B:Bn K mg):FnOk P w K mg base CX0 1 f fd ["partners"] (spI K 0 Yk):=by
 refine Qro (T:=Uq) F X7 rfl rfl (λds kk h=>?_) (Qca B) (λds kk h=>?_)
 ·obtain ⟨e,J,L,rfl,_⟩:=h
  exact ⟨rfl,_,rfl⟩
 ·obtain ⟨e,J,L,rfl,he,hp,k⟩:=h
  have hL:L.length=e:=by rw [hp.length_eq,List.length_range]
  have ei:Xt (L.map (rowM J))=L.map λi=>.tup [tupI (eK i),tupI (eK (J i))]:=by unfold Xt;rw [List.map_map];rfl
  simp only [Uk,wRet,Qv,Qd,Qaz,Qcj,env0,List.map_cons,List.map_nil,List.length_cons,List.length_nil,Nat.zero_add,List.cons_append,List.nil_append,look,List.set_cons_zero,wNil,Qn,Qf7,ei]
  refine Xx (a:=λi=>tupI (eK i)) (b:=λi=>tupI (eK (J i))) (λi=>pp2 (ppJ J i)) (λi=>decide (i<J i)) (Jo (by omega)) (λi hi k' hk=>?_) (λi hi hlt Q' hQ=>?_) ?_
  ·simp only [Vm,List.map_nil,r_bl,wBin,Ja,look,Qn]
   exact Qq1 hk
  ·simp only [Qu,wTup,Qd,Vm,List.map_nil,wNil,List.length_cons,List.length_nil,Nat.zero_add,Nat.reduceAdd,sz2,D.pure,Qj,Bool.and_true,true_and,Ja,look,Qn,List.map_cons,Int.reduceNeg,Bool.and_self]
   exact hQ
  ·have num_i:∀i:Nat,(eK i).getD 1 0=(i:Int):=λi=>rfl
   have nd:(L.filter λi=>decide (i<J i)).Nodup:=(hp.nodup_iff.mpr List.nodup_range).sublist List.filter_sublist
   refine ⟨(L.filter λi=>decide (i<J i)).map (ppJ J),λl=>l.getD 1 0,by rw [List.map_map];rfl,?_,?_,?_,λout p1 p2=>?_⟩
   ·rw [List.length_map];have:=List.length_filter_le (λi=>decide (i<J i)) L;omega
   ·rw [List.map_map]
    refine List.pairwise_map.mpr (nd.imp λh z=>h ?_)
    have z:eK _=eK _:=z
    simp only [eK,List.cons.injEq,and_true,true_and] at z
    omega
   ·intro x hx y hy
    obtain ⟨i,_,rfl⟩:=List.mem_map.mp hx
    obtain ⟨j,_,rfl⟩:=List.mem_map.mp hy
    show HT.Y5 (eK i) (eK j)=decide ((eK i).getD 1 0<(eK j).getD 1 0)
    rw [Qq4,num_i,num_i]
    exact decide_eq_decide.mpr (by omega)
   ·have eo:out=(upJ J e).map (ppJ J):=by
     refine Hang.Gd (le:=λx y=>x.1.getD 1 0<=y.1.getD 1 0) (p1.trans ((hp.filter _).map _)) p2 ?_ ?_
     ·refine List.pairwise_map.mpr ?_
      refine List.Pairwise.imp (R:=λa b:Nat=>a<b) (λh=>?_) (List.Pairwise.filter _ List.pairwise_lt_range)
      show (eK _).getD 1 0<=(eK _).getD 1 0
      rw [num_i,num_i];omega
     ·intro x hx y hy h1 h2
      obtain ⟨i,_,rfl⟩:=List.mem_map.mp (p1.mem_iff.mp hx)
      obtain ⟨j,_,rfl⟩:=List.mem_map.mp (p1.mem_iff.mp hy)
      have h1:(eK i).getD 1 0<=(eK j).getD 1 0:=h1
      have h2:(eK j).getD 1 0<=(eK i).getD 1 0:=h2
      rw [num_i,num_i] at h1 h2
      rw [show i=j by omega]
    subst eo
    simp only [List.map_map,look,Qn,Qiw,Xm]
    have bt:∀i:Nat,(tupI (eK i)).bare=true:=λi=>by simp only [tupI,eK,List.map_cons,List.map_nil,D.bare,Ui,Bool.and_self]
    refine ⟨Qs λi _=>by simp only [Function.comp,pp2,tupI,ppJ,eK,List.map_cons,List.map_nil,D.pure,Qj,Bool.and_self],?_,?_,k⟩
    ·refine List.all_eq_true.mpr λkv hkv=>?_
     obtain ⟨i,_,rfl⟩:=List.mem_map.mp hkv
     exact bt (J i)
    ·simp only [D.bare]
     refine Qb9.mpr λx hx=>?_
     obtain ⟨i,_,rfl⟩:=List.mem_map.mp hx
     simp only [Function.comp,pp2,D.bare,Ui,Bool.and_true,Bool.and_eq_true]
     have:=bt i
     have:=bt (J i)
     simp only [tupI,D.bare] at *
     exact ⟨by assumption,by assumption⟩
def Sj (m e j:Nat) (q:Nat):Prop:=q<4*m+j\/∃i,i<j/\q=4*m+e+2*i
theorem Qow {m e:Nat}:(λq=>q<4*m)=Sj m e 0:=by
 funext q
 apply propext
 unfold Sj
 constructor
 ·intro h;exact .inl (by omega)
 ·rintro (h | ⟨i,h,_⟩)
  ·omega
  ·omega
theorem Qde {m e j:Nat} {W:Nat->Nat} (h:j<e):ad (Sj m e j) (Ox m e W) (4*m+j)=Sj m e (j+1):=by
 funext q
 apply propext
 unfold ad Sj
 rw [Ze h]
 constructor
 ·rintro ((h | ⟨i,h1,h2⟩) | h | h)
  ·exact .inl (by omega)
  ·exact .inr ⟨i,by omega,h2⟩
  ·exact .inl (by omega)
  ·exact .inr ⟨j,by omega,h⟩
 ·rintro (h | ⟨i,h1,h2⟩)
  ·by_cases z:q=4*m+j
   ·exact .inr (.inl z)
   ·exact .inl (.inl (by omega))
  ·by_cases z:i=j
   ·subst z;exact .inr (.inr h2)
   ·exact .inl (.inr ⟨i,by omega,h2⟩)
theorem Qr5 {m e:Nat}:Sj m e e=Sf m e:=by
 funext q
 apply propext
 unfold Sj Sf
 constructor
 ·rintro (h | ⟨i,h1,h2⟩)
  ·exact ⟨by omega,λi=>by omega⟩
  ·exact ⟨by omega,λi=>by omega⟩
 ·rintro ⟨h1,h2⟩
  rcases Gp h1 with ⟨k,j,a1,a2,rfl⟩ | ⟨i,a1,rfl⟩ | ⟨i,a1,rfl⟩ | ⟨i,a1,rfl⟩
  ·exact .inl (by omega)
  ·exact .inl (by omega)
  ·exact .inr ⟨i,a1,rfl⟩
  ·exact absurd rfl (h2 i)
theorem Qq2 {m e j n c:Nat} {A:Nat->Int} {g W:Nat->Nat} {kvs kvs':List (Mx.MI × D)} (tw:M.Tw (4*m+e) A g) (hj:j<e) (h:Lk m e A g W (Sj m e j) kvs n) (h':Lk m e A g W (ad (Sj m e j) (Ox m e W) (4*m+j)) kvs' (n+c)):Lk m e A g W (Sj m e (j+1)) kvs' n:=by
 obtain ⟨_,_,_,r1⟩:=h
 obtain ⟨π,s2,d2,r2⟩:=h'
 have wv:=wv (W:=W) tw
 have hr:Re (Gx m e g) (Ox m e W) (4*m+j) (4*m+e+2*j+1):=by
  have:=(Re.here (G:=Gx m e g) (O:=Ox m e W) (p:=4*m+j)).o.g
  rwa [Ze hj,Yc] at this
 have:=Qms (S:=Sj m e j) wv (by omega) hr (by rw [Qde hj];unfold Sj;omega)
 rw [Qde hj] at s2 d2
 refine ⟨π,s2,d2,?_⟩
 rw [Qde hj] at this
 rw [this,r1]
theorem Qq3 {m e n:Nat} {A:Nat->Int} {g W:Nat->Nat} {kvs:List (Mx.MI × D)} (tw:M.Tw (4*m+e) A g) (h:Lk m e A g W (Sj m e e) kvs n) :
  rc (4*m+e+2*e) (Gx m e g) (Ox m e W) (Sf m e)=n/\∃(J:Nat->Nat) (L:List Nat),(∀i,i<e->J i<e/\Pa (Gx m e g) (Ox m e W) (Sf m e) (4*m+i) (4*m+e+2*J i+1))/\L.Perm (List.range e)/\kvs=L.map (rowM J):=by
 rw [Qr5] at h
 obtain ⟨π,st,dr,hr⟩:=h
 have wv:=wv (W:=W) tw
 have out:∀i,i<e->¬Sf m e (4*m+e+2*i+1):=λi hi h=>h.2 i rfl
 have ev:∀i,i<e->Sf m e (4*m+e+2*i):=λi hi=>⟨by omega,λj=>by omega⟩
 have odd:∀q,q<4*m+e+2*e->¬Sf m e q->∃i,i<e/\q=4*m+e+2*i+1:=λq hq hn=>by
  rcases Gp hq with ⟨k,j,a1,a2,rfl⟩ | ⟨i,a1,rfl⟩ | ⟨i,a1,rfl⟩ | ⟨i,a1,rfl⟩
  ·exact absurd ⟨by omega,λi=>by omega⟩ hn
  ·exact absurd ⟨by omega,λi=>by omega⟩ hn
  ·exact absurd (ev i a1) hn
  ·exact ⟨i,a1,rfl⟩
 have to:∀i,i<e->∃j,j<e/\π (4*m+e+2*i+1)=4*m+e+2*j+1/\Pa (Gx m e g) (Ox m e W) (Sf m e) (4*m+i) (4*m+e+2*j+1):=λi hi=>by
  have hq:4*m+e+2*i+1<4*m+e+2*e:=by omega
  obtain ⟨j,hj,e1⟩:=odd _ (st.pl _ hq (out i hi)) (st.ps _ hq (out i hi))
  refine ⟨j,hj,e1,?_⟩
  have pa:=st.pa _ hq (out i hi)
  rw [e1] at pa
  generalize hz:4*m+e+2*j+1=z at pa
  generalize hy:4*m+e+2*i+1=y at pa
  cases pa with
  | one=>rw [← hy,Zo] at hz;omega
  | more _ r=>rw [← hy,Zo,Zy hi] at r;exact r
 refine ⟨hr,?_⟩
 obtain ⟨J,hJ⟩:∃J:Nat->Nat,∀i,i<e->J i<e/\π (4*m+e+2*i+1)=4*m+e+2*J i+1/\Pa (Gx m e g) (Ox m e W) (Sf m e) (4*m+i) (4*m+e+2*J i+1) :=
  ⟨λi=>if h:i<e then Classical.choose (to i h) else 0,λi hi=>by simp only [dif_pos hi];exact Classical.choose_spec (to i hi)⟩
 have rows:∀kv∈kvs,∃i,i<e/\kv=rowM J i:=λkv hkv=>by
  have hv:=(Qgv dr.nd).mp (show (kv.1,kv.2)∈kvs from hkv)
  obtain ⟨q,hq,h1,h2,h3⟩:=dr.on _ _ hv
  obtain ⟨i,hi,rfl⟩:=odd q hq h1
  refine ⟨i,hi,?_⟩
  have hv2:=dr.va _ hq h1 h2
  rw [← h3,hv] at hv2
  have hv2:=Option.some.inj hv2
  rw [(hJ i hi).2.1,Vh] at hv2
  rw [Vh] at h3
  exact Prod.ext h3 hv2
 have all:∀i,i<e->rowM J i∈kvs:=λi hi=>by
  have hq:4*m+e+2*i+1<4*m+e+2*e:=by omega
  have:=dr.va _ hq (out i hi) (by rw [Zo];exact ev i hi)
  rw [(hJ i hi).2.1,Vh,Vh] at this
  exact (Qgv dr.nd).mpr this
 let ix:Mx.MI × D->Nat:=λkv=>match kv.1 with | .inr [_,i]=>i.toNat | _=>0
 have ixr:∀i:Nat,ix (rowM J i)=i:=λi=>by show ((i:Int)).toNat=i;omega
 have ek:kvs=(kvs.map ix).map (rowM J):=by
  rw [List.map_map]
  conv=>lhs;rw [← List.map_id kvs]
  refine List.map_congr_left λkv hkv=>?_
  obtain ⟨i,_,rfl⟩:=rows kv hkv
  show rowM J i=rowM J (ix (rowM J i))
  rw [ixr]
 refine ⟨J,kvs.map ix,λi hi=>⟨(hJ i hi).1,(hJ i hi).2.2⟩,?_,ek⟩
 have nd:(kvs.map ix).Nodup:=by
  have h1:=dr.nd
  rw [ek,List.map_map] at h1
  exact (List.pairwise_map.mp h1).imp λh z=>h (by rw [z])
 refine (List.perm_ext_iff_of_nodup nd List.nodup_range).mpr λi=>?_
 rw [List.mem_range]
 constructor
 ·intro h
  obtain ⟨kv,hkv,rfl⟩:=List.mem_map.mp h
  obtain ⟨i,hi,rfl⟩:=rows kv hkv
  rw [ixr];exact hi
 ·intro h
  exact List.mem_map.mpr ⟨_,all i h,ixr i⟩
def Uh (m e:Nat) (A:Nat->Int):D:=.tup ((List.range e).map λj=>.int (A (4*m+j)))
def Qn2 (J:Nat->Nat) (e:Nat):D:=.tup ((upJ J e).map λ(i:Nat)=>.tup [.int (i:Int),.int (J i:Int)])
def Yw:GI:=λds k=>∃(m e:Nat) (A:Nat->Int) (g W:Nat->Nat) (kvs:List (Mx.MI × D)) (n:Nat),ds=[.dmx kvs,Uh m e A]/\M.Tw (4*m+e) A g/\e<=40/\Lk m e A g W (λq=>q<4*m) kvs n/\kvs.length<=800 /\
 ∀(J:Nat->Nat) (kvs':List (Mx.MI × D)),(∀i,i<e->J i<e/\Pa (Gx m e g) (Ox m e W) (Sf m e) (4*m+i) (4*m+e+2*J i+1))->rc (4*m+e+2*e) (Gx m e g) (Ox m e W) (Sf m e)=n->k (Qn2 J e) (.dmx kvs')
abbrev Je:Stmt:=top 7
theorem Zq:FnScope ["partners","ends","j","arc"] ["partners","ends"] (Qc Je):=⟨rfl,rfl,rfl,by decide +kernel,rfl,by decide +kernel,by decide +kernel⟩
def U8:Tg:={ own:=λi=>i == 0 || i == 2 || i == 3,io:=[0] }
def U5:WS:=(wSeq (wFor (Ql4 (Qd (wVar 1) wNil)) (Qjp 2 (Xv (gN 2) (Xv (gN 3) Qjq))) (Xa (Qw 0 Qbs (Jg 0 (Qd (wVar 3) (Qd (wTup (Qd (wC (.int (-1))) (Qd (wVar 2) wNil))) wNil))))))
 (wRet (Qv Vc (Qd (Qaz (Ua (Qw 0 Yk (Jg 0 wNil))) wAll (Qu (wTup (Qd (wBin dIx (wVar 0) (wC (.int 1))) (Qd (wBin dIx (wVar 1) (wC (.int 1))) wNil)))) []) wNil))))
theorem Qc9 {P:Program} {w:World} {K:PySem.W.Frag} {mg:Str->Option Value} {base:Heap} {f:Addr} (B:Bn K mg) (C_lay:Cal P w K mg base "lay" 1 ["partners","one","other"] (spI K 0 Qbs)) (C_joining_of:Cal P w K mg base "joining_of" 1 ["partners"] (spI K 0 Yk)):∀(cdv:Value) (A:Around) (outer:List PySem.Env) (s:Shared) (H:Hp) (E:XK),Room 1 (A.deeper (envOfC "join_ends" (Qc Je) s.heap.objs.size f cdv))->SVs (cxOf CX0 P w K mg base ["partners","ends","j","arc"] "join_ends" (Qc Je) f cdv A outer s H E).nox U8 (Qq Je) U5:=λcdv A outer s H E hr =>
  (Qg (Zl PassesOwn.never (Qn5 B.nb_enumerate (Qa (Qb 1) Qf)) (Qlj (U1 (J6 (i:=2) Zq.nd) (U1 (J6 (i:=3) Zq.nd) Qhc))) (Qp (Gc (Q1 C_lay (hr.mono (by decide)) (Jl (i:=0) (Qa (Qb 3) (Qa (Zd (Qa (Qoe B.c_RIM.choose_spec) (Qa (Qb 2) Qf))) Qf)))))))
  (Qp (J2 (J7 Zi B.nb_tuple Yh (Qa (Qeh (Qek [] (Gq (Q1 C_joining_of (hr.mono (by decide)) (Jl (i:=0) Qf))) (λ_ _ _ _ _=>Qhw) (λ_ _ _ _ _=>(Qt (Zd (Qa (Qy (Q3 (Qo hr)) (Qb 0) Qe) (Qa (Qy (Q3 (Qo hr)) (Qb 1) Qe) Qf)))))) (Qb3 (Qc Je) ["partners","ends","j","arc"] (by decide +kernel))) Qf)))))
theorem Qbj {P:Program} {w:World} {K:PySem.W.Frag} {mg:Str->Option Value} {base:Heap} {f:Addr} {fd:FuncData} (F:Fun K "join_ends" "join_ends" Je f fd) (B:Bn K mg) (C1:Cal P w K mg base "lay" 1 ["partners","one","other"] (spI K 0 Qbs)) (C2:Cal P w K mg base "joining_of" 1 ["partners"] (spI K 0 Yk)):FnOk P w K mg base CX0 2 f fd ["partners","ends"] (spI K 0 Yw):=by
 refine Qe8 (T:=U8) F Zq rfl rfl (λds kk h=>?_) (Qc9 B C1 C2) (λds kk h=>?_)
 ·obtain ⟨m,e,A,g,W,kvs,n,rfl,_⟩:=h
  exact ⟨rfl,_,rfl,rfl⟩
 ·obtain ⟨m,e,A,g,W,kvs,n,rfl,tw,he,lk,hl,k⟩:=h
  rw [Qow (e:=e)] at lk
  simp only [U5,wSeq,Int.reduceNeg,env0,Uh,List.map_cons,List.map_nil,List.length_cons,List.length_nil,Nat.zero_add,Nat.reduceAdd,List.replicate,List.cons_append,List.nil_append,Uc,Qp0,Qd,wNil,Ja,look,Qn,Qmz]
  have pe:Qj ((List.range e).map λj=>D.int (A (4*m+j)))=true:=Qs λ_ _=>rfl
  refine ⟨pe,Qbe pe,λj ρ=>∃(kvs':List (Mx.MI × D)) (o1 o2:Option D),ρ=[some (.dmx kvs'),some (.tup ((List.range e).map λj=>D.int (A (4*m+j)))),o1,o2]/\j<=e/\Lk m e A g W (Sj m e j) kvs' n/\kvs'.length<=kvs.length+2*j,⟨kvs,none,none,rfl,Nat.zero_le _,lk,Nat.le_refl _⟩,?_,?_⟩
  ·rintro j d ρ hd ⟨kvs',o1,o2,rfl,hje,lk',hl'⟩
   rw [Gu] at hd
   have hj:j<e:=by
    cases q:((List.range e).map λj=>D.int (A (4*m+j)))[j]? with
    | none=>rw [q] at hd;cases hd
    | some z=>simpa using (List.getElem?_eq_some_iff.mp q).1
   rw [List.getElem?_map,List.getElem?_range hj] at hd
   have hd:=(Option.some.inj hd).symm
   subst hd
   simp only [Nat.zero_add,Xa,Qw,Jg,Qd,wTup,wC,wNil,Int.reduceNeg,List.length_cons,List.length_nil,Nat.reduceAdd,sz2,Qj,D.pure,Bool.and_true,Bool.true_and,List.nil_append,true_and,Ja,Qk0,Qf3,gN,List.set_cons_succ,List.set_cons_zero,Qk1,look,Option.isSome_some,Qn,Yf]
   refine ⟨m,e,A,g,W,_,kvs',n,4*m+j,?_,tw,lk',by omega,by omega,?_,?_,by rw [Ze hj];omega,λc kvs2 lk2 hl2=>?_⟩
   ·rw [Ze hj,Yu (by omega),U0]
    simp only [miD,List.map_cons,List.map_nil,Nat.zero_add]
   ·unfold Sj
    rintro (h | ⟨i,h1,h2⟩)
    ·omega
    ·omega
   ·rw [Ze hj]
    unfold Sj
    rintro (h | ⟨i,h1,h2⟩)
    ·omega
    ·omega
   ·simp only []
    exact ⟨kvs2,_,_,rfl,hj,Qq2 tw hj lk' lk2,by omega⟩
  ·rintro ρ ⟨kvs',o1,o2,rfl,hje,lk',hl'⟩
   have hel:(V6 0 ((List.range e).map λj=>D.int (A (4*m+j)))).length=e:=by rw [Zw];simp
   rw [hel] at lk' hl'
   obtain ⟨hr,J,L,hJ,hp,rfl⟩:=Qq3 tw lk'
   simp only [wRet,Qv,Qd,Qaz,wNil,Qbd,Qw,Jg,look,Option.isSome_some,Qj,List.nil_append,List.set_cons_zero,Qn,Yf,true_and]
   refine ⟨e,J,L,rfl,he,hp,?_⟩
   simp only [Qdu]
   have hup:(upJ J e).length<=e:=by have:=List.length_filter_le (λi=>decide (i<J i)) (List.range e);rw [List.length_range] at this;exact this
   refine ⟨Qs λi _=>by simp only [pp2,tupI,ppJ,eK,List.map_cons,List.map_nil,D.pure,Qj,Bool.and_self],Xx (L:=upJ J e) (a:=λi=>tupI (eK i)) (b:=λi=>tupI (eK (J i))) (λ(i:Nat)=>.tup [.int (i:Int),.int (J i:Int)]) (λ_=>true) (Jo (by omega)) (λi hi k' hk=>hk) (λi hi _ Q' hQ=>?_) ?_⟩
   ·simp only [Qu,wTup,Qd,wBin,Vm,List.map_nil,wC,wNil,List.length_cons,List.length_nil,Nat.zero_add,Nat.reduceAdd,sz2,D.pure,Qj,Bool.and_true,true_and,Ja,look,Qn,Vw,List.map_cons,Int.reduceNeg,V7,List.getElem?_cons_succ,List.getElem?_cons_zero]
    exact hQ
   ·rw [List.filter_eq_self.mpr λ_ _=>rfl]
    simp only [look,Qn,Yf,true_and,Xm]
    exact ⟨Qs λi _=>by simp only [D.pure,Qj,Bool.and_self],k J _ hJ hr⟩
def Yi (m:Nat) (W:Nat->Nat):List D:=(List.range m).map λk=>.int (W k:Int)
def Jn (m e:Nat) (g W J:Nat->Nat):Prop:=∀i,i<e->J i<e/\Pa (Gx m e g) (Ox m e W) (Sf m e) (4*m+i) (4*m+e+2*J i+1)
noncomputable def Gk (m e:Nat) (g W J:Nat->Nat) (r:Int):D:=.tup [Qn2 J e,.int (r+(rc (4*m+e+2*e) (Gx m e g) (Ox m e W) (Sf m e):Nat))]
def Z5:GA:=λds k=>∃(m e:Nat) (A:Nat->Int) (g W:Nat->Nat) (r:Int),ds=[webD m e A r,.tup (Yi m W)]/\M.Tw (4*m+e) A g/\m<=40/\e<=40/\(∀k,k<m->W k<=1)/\∀J,Jn m e g W J->k (Gk m e g W J r)
abbrev Ym:Stmt:=top 8
theorem Y7:FnScope ["web","ways","partners","rings","crossing","way"] ["web","ways"] (Qc Ym):=⟨rfl,rfl,rfl,by decide +kernel,rfl,by decide +kernel,by decide +kernel⟩
def Qdn:Tg:={ own:=λi=>i == 2 || i == 3 || i == 4 || i == 5,io:=[] }
def Qdg:WS:=(wSeq (wSet 2 (wC (.dmx [])))
 (wSeq (wSet 3 (Qu (wBin dIx (wVar 0) (wC (.int 2)))))
 (wSeq (wFor (Ql0 (Qd (wBin dIx (wVar 0) (wC (.int 0))) (Qd (wVar 1) wNil))) (Qjp 2 (Xv (gN 4) (Xv (gN 5) Qjq))) (wSet 3 (wBin Y6 (Qu (wVar 3)) (Qw 2 Jq (Jg 2 (Qd (wVar 4) (Qd (wVar 5) wNil)))))))
 (wRet (Qu (wTup (Qd (Qw 2 Yw (Jg 2 (Qd (wBin dIx (wVar 0) (wC (.int 1))) wNil))) (Qd (wVar 3) wNil))))))))
theorem Qke {P:Program} {w:World} {K:PySem.W.Frag} {mg:Str->Option Value} {base:Heap} {f:Addr} (B:Bn K mg) (C_open_crossing:Cal P w K mg base "open_crossing" 2 ["partners","crossing","way"] (spI K 0 Jq)) (C_join_ends:Cal P w K mg base "join_ends" 2 ["partners","ends"] (spI K 0 Yw)):∀(cdv:Value) (A:Around) (outer:List PySem.Env) (s:Shared) (H:Hp) (E:XK),Room 2 (A.deeper (envOfC "opened" (Qc Ym) s.heap.objs.size f cdv))->SVs (cxOf CX0 P w K mg base ["web","ways","partners","rings","crossing","way"] "opened" (Qc Ym) f cdv A outer s H E).nox Qdn (Qq Ym) Qdg:=λcdv A outer s H E hr =>
  (Qg (Q7 (i:=2) Qjs Y7.nd)
  (Qg (Q7 (i:=3) (Qt (Qy (Q3 (Qo hr)) (Qb 0) Qe)) Y7.nd)
  (Qg (Zl PassesOwn.never (Qn4 B.nb_zip (Qa (Qy (Q3 (Qo hr)) (Qb 0) Qe) (Qa (Qb 1) Qf))) (Qlj (U1 (J6 (i:=4) Y7.nd) (U1 (J6 (i:=5) Y7.nd) Qhc))) (Qp (Q7 (i:=3) (Q9 Jv (Qt (Qb 3)) (Q1 C_open_crossing (hr.mono (by decide)) (Jl (i:=2) (Qa (Qb 4) (Qa (Qb 5) Qf))))) Y7.nd)))
  (Qp (J2 (Qt (Zd (Qa (Q1 C_join_ends (hr.mono (by decide)) (Jl (i:=2) (Qa (Qy (Q3 (Qo hr)) (Qb 0) Qe) Qf))) (Qa (Qb 3) Qf)))))))))
theorem Qki {m:Nat} {A:Nat->Int} {W:Nat->Nat} {i:Nat} {d:D} (h:(U4 ((List.range m).map (crD A)) (Yi m W))[i]? = some d):i<m/\d=.tup [crD A i,.int (W i)]:=by
 unfold U4 Yi at h
 rw [List.zip_map',List.map_map,List.getElem?_map] at h
 obtain ⟨k,hk,rfl⟩:=Option.map_eq_some_iff.mp h
 obtain ⟨h1,h2⟩:=List.getElem?_eq_some_iff.mp hk
 rw [List.length_range] at h1
 rw [List.getElem_range] at h2
 subst h2
 exact ⟨h1,rfl⟩
theorem Qlx {m:Nat} {A:Nat->Int} {W:Nat->Nat}:(U4 ((List.range m).map (crD A)) (Yi m W)).length=m:=by
 unfold U4 Yi;simp
theorem Qkl {m e:Nat} {A:Nat->Int} {r:Int}:webD m e A r=.tup [.tup ((List.range m).map (crD A)),Uh m e A,.int r]:=rfl
theorem Qgl {P:Program} {w:World} {K:PySem.W.Frag} {mg:Str->Option Value} {base:Heap} {f:Addr} {fd:FuncData} (F:Fun K "opened" "opened" Ym f fd) (B:Bn K mg) (C1:Cal P w K mg base "open_crossing" 2 ["partners","crossing","way"] (spI K 0 Jq)) (C2:Cal P w K mg base "join_ends" 2 ["partners","ends"] (spI K 0 Yw)):FnOk P w K mg base CX0 3 f fd ["web","ways"] (spR K Z5):=by
 refine Qe7 (T:=Qdn) F Y7 rfl (by decide) (λds kk h=>?_) (Qke B C1 C2) (λds kk h=>?_)
 ·obtain ⟨m,e,A,g,W,r,rfl,_⟩:=h
  rfl
 ·obtain ⟨m,e,A,g,W,r,rfl,tw,hm,he,hW,k⟩:=h
  simp only [Qdg,wSeq,wSet,wC,Qu,wBin,env0,Qkl,List.map_cons,List.map_nil,List.length_cons,List.length_nil,Nat.zero_add,Nat.reduceAdd,List.replicate,List.cons_append,List.nil_append,List.set_cons_succ,List.set_cons_zero,Uc,Ql0,Qd,wNil,Ja,look,Qn,Vw,V8,List.getElem?_cons_zero,Qm3,Qou,List.getElem?_cons_succ,D.pure,true_and]
  have pcr:∀i,(crD A i).pure=true:=λi=>by unfold crD;simp only [D.pure];exact Qs λ_ _=>rfl
  have pc:Qj ((List.range m).map (crD A))=true:=Qs λi _=>pcr i
  have pw:Qj (Yi m W)=true:=Qs λ_ _=>rfl
  have pz:Qj (U4 ((List.range m).map (crD A)) (Yi m W))=true:=Zt.mpr λd hd=>by
   obtain ⟨i,hi⟩:=List.mem_iff_getElem?.mp hd
   obtain ⟨_,rfl⟩:=Qki hi
   simp only [D.pure,Qj,pcr,Bool.and_self]
  have lk0:Lk m e A g W (λq=>q<4*0) [] 0:=by
   have:(λq=>q<4*0)=λ_:Nat=>False:=by funext q;exact propext ⟨λh=>by omega,λh=>h.elim⟩
   rw [this]
   exact ⟨_,St.start (wv tw),.start,Qmu⟩
  refine ⟨pc,pw,pz,λt ρ=>∃(kvs:List (Mx.MI × D)) (c:Nat) (o1 o2:Option D),ρ=[some (.tup [.tup ((List.range m).map (crD A)),Uh m e A,.int r]),some (.tup (Yi m W)),some (.dmx kvs),some (.int (r+(c:Int))),o1,o2]/\t<=m/\Lk m e A g W (λq=>q<4*t) kvs c/\kvs.length<=4*t,⟨[],0,none,none,by simp,Nat.zero_le _,lk0,Nat.zero_le _⟩,?_,?_⟩
  ·rintro t d ρ hd ⟨kvs,c,o1,o2,rfl,ht,lk,hl⟩
   obtain ⟨hi,rfl⟩:=Qki hd
   simp only [wSet,wBin,Qu,Qw,Jg,Qd,wNil,Qj,Bool.and_true,List.nil_append,Ja,Qk0,List.length_cons,List.length_nil,Nat.zero_add,Nat.reduceAdd,Qf3,gN,List.set_cons_succ,List.set_cons_zero,Qk1,look,Option.isSome_some,Qn,Yf,true_and,D.pure,pcr]
   refine ⟨m,e,A,g,W,kvs,c,t,rfl,tw,hi,hW t hi,lk,by omega,λc' kvs' lk' hl'=>?_⟩
   simp only [Zn]
   exact ⟨kvs',c+c',some (crD A t),some (.int (W t)),by rw [Int.natCast_add,Int.add_assoc],hi,lk',by omega⟩
  ·rintro ρ ⟨kvs,c,o1,o2,rfl,ht,lk,hl⟩
   rw [Qlx] at lk hl
   have pe:(Uh m e A).pure=true:=by unfold Uh;simp only [D.pure];exact Qs λ_ _=>rfl
   simp only [wRet,Qu,wTup,Qd,Qw,Jg,look,Option.isSome_some,wBin,wC,wNil,Qj,Bool.and_true,List.nil_append,List.length_cons,List.length_nil,Nat.zero_add,Nat.reduceAdd,sz2,D.pure,true_and,Ja,List.set_cons_succ,List.set_cons_zero,Qn,Yf,Vw,V7,List.getElem?_cons_succ,List.getElem?_cons_zero,pe]
   refine ⟨m,e,A,g,W,kvs,c,rfl,tw,he,lk,by omega,λJ kvs' hJ hr=>?_⟩
   simp only []
   have hk:=k J hJ
   unfold Gk at hk
   rw [hr] at hk
   exact ⟨by unfold Qn2;simp only [D.pure];exact Qs λi _=>by simp only [D.pure,Qj,Bool.and_self],hk⟩
end K31
namespace K31
open PySem PySem.Spec L2 PV Ly
open PyProof.Rows (envOfC)
def occ (A:Nat->Int) (t:Nat) (a:Int):List Nat:=(List.range t).filter λi=>decide (A i=a)
theorem Qjf (A:Nat->Int) (t:Nat) (a:Int):occ A (t+1) a=occ A t a++if A t=a then [t] else []:=by
 unfold occ
 rw [List.range_succ,List.filter_append]
 congr 1
 by_cases h:A t=a <;> simp [h]
def spv (m:Nat) (A:Nat->Int) (t:Nat) (a:Int):Option D:=if occ A t a=[] then none else some (.kls ((occ A t a).map (spD m)))
structure SpOk (m:Nat) (A:Nat->Int) (t:Nat) (T:List (Key × D)):Prop where
 len:T.length<=t
 va:∀a:Int,valD T (.inl a)=spv m A t a
theorem Qgs (A:Nat->Int) (t:Nat) (a:Int):(occ A t a).length<=t:=by
 have:=List.length_filter_le (λi=>decide (A i=a)) (List.range t)
 rwa [List.length_range] at this
theorem SpOk.step {m t:Nat} {A:Nat->Int} {T:List (Key × D)} (h:SpOk m A t T):SpOk m A (t+1) (putD T (.inl (A t)) (.kls ((occ A t (A t)).map (spD m)++[spD m t]))):=by
 refine ⟨by have:=J1 T (.inl (A t)) (.kls ((occ A t (A t)).map (spD m)++[spD m t]));have:=h.len;omega,λa=>?_⟩
 rw [Zz,h.va a]
 unfold spv
 rw [Qjf]
 by_cases e:a=A t
 ·subst e
  rw [if_pos rfl,if_pos rfl,if_neg (by simp),List.map_append]
  rfl
 ·have e':¬A t=a:=λz=>e z.symm
  rw [if_neg (λz=>e (Sum.inl.inj z)),if_neg e',List.append_nil]
theorem SpOk.get {m t:Nat} {A:Nat->Int} {T:List (Key × D)} (h:SpOk m A t T) (a:Int):(valD T (.inl a)).getD (.kls [])=.kls ((occ A t a).map (spD m)):=by
 rw [h.va a]
 unfold spv
 split
 ·rename_i z;rw [z];rfl
 ·rfl
theorem Qnt {n i:Nat} {A:Nat->Int} {g:Nat->Nat} (tw:M.Tw n A g) (hi:i<n):occ A n (A i)=[min i (g i),max i (g i)]:=by
 have hg:=tw.lt i hi
 have hne:=tw.ne i hi
 refine Hang.Gd (le:=λa b=>a<=b) ?_ (List.Pairwise.imp (R:=λa b:Nat=>a<b) (λh=>Nat.le_of_lt h) (List.Pairwise.filter _ List.pairwise_lt_range)) ?_ (λx _ y _ h1 h2=>Nat.le_antisymm h1 h2)
 ·refine (List.perm_ext_iff_of_nodup (List.Pairwise.filter _ List.nodup_range) ?_).mpr λx=>?_
  ·refine List.nodup_cons.mpr ⟨?_,by simp⟩
   rw [List.mem_singleton];omega
  ·rw [List.mem_filter,List.mem_range,decide_eq_true_eq,List.mem_cons,List.mem_singleton]
   constructor
   ·rintro ⟨h1,h2⟩
    rcases tw.only i x hi h1 h2 with rfl | rfl <;> omega
   ·intro h
    have:x=i\/x=g i:=by omega
    rcases this with rfl | rfl
    ·exact ⟨hi,rfl⟩
    ·exact ⟨hg,tw.eq i hi⟩
 ·refine List.pairwise_cons.mpr ⟨λy hy=>?_,List.pairwise_singleton _ _⟩
  rw [List.mem_singleton] at hy
  omega
def Yv:GA:=λds k=>∃(m e:Nat) (A:Nat->Int) (r:Int),ds=[webD m e A r]/\m<=40/\e<=40/\∀T,SpOk m A (4*m+e) T->k (.dik T)
abbrev Jc:Stmt:=top 14
theorem J5:FnScope ["_law_web_here","_law_found","_law_k","_law_place"] ["_law_web_here"] (Qc Jc):=⟨rfl,rfl,rfl,by decide +kernel,rfl,by decide +kernel,by decide +kernel⟩
def Us:Tg:={ own:=λi=>i == 1 || i == 2 || i == 3,io:=[] }
def Um:WS:=(wSeq (wSet 1 (wC (.dik [])))
 (wSeq (wFor (G8 (Qd (Qv dLen (Qd (wBin dIx (wVar 0) (wC (.int 0))) wNil)) wNil)) (gN 2) (wFor (G8 (Qd (wC (.int 4)) wNil)) (gN 3) (Yy 1 (G9 (wBin Qj4 (Qfj (wVar 1) (wBin dIx (wBin dIx (wBin dIx (wVar 0) (wC (.int 0))) (wVar 2)) (wVar 3)) (G9 (wLst wNil))) (G9 (wLst (Qd (Qu (wTup (Qd (wVar 2) (Qd (wVar 3) wNil)))) wNil))))) (wBin dIx (wBin dIx (wBin dIx (wVar 0) (wC (.int 0))) (wVar 2)) (wVar 3)))))
 (wSeq (wFor (G8 (Qd (Qv dLen (Qd (wBin dIx (wVar 0) (wC (.int 1))) wNil)) wNil)) (gN 3) (Yy 1 (G9 (wBin Qj4 (Qfj (wVar 1) (wBin dIx (wBin dIx (wVar 0) (wC (.int 1))) (wVar 3)) (G9 (wLst wNil))) (G9 (wLst (Qd (Qu (wTup (Qd (wUn dNeg (wC (.int 1))) (Qd (wVar 3) wNil)))) wNil))))) (wBin dIx (wBin dIx (wVar 0) (wC (.int 1))) (wVar 3))))
 (Ql1 1))))
theorem Qcc {P:Program} {w:World} {K:PySem.W.Frag} {mg:Str->Option Value} {base:Heap} {f:Addr} (B:Bn K mg):∀(cdv:Value) (A:Around) (outer:List PySem.Env) (s:Shared) (H:Hp) (E:XK),Room 0 (A.deeper (envOfC "_law_spots" (Qc Jc) s.heap.objs.size f cdv))->SVs (cxOf CX0 P w K mg base ["_law_web_here","_law_found","_law_k","_law_place"] "_law_spots" (Qc Jc) f cdv A outer s H E).nox Us (Qq Jc) Um:=λcdv A outer s H E hr =>
  (Qg (Q7 (i:=1) Qjt J5.nd)
  (Qg (Zl PassesOwn.never (Yj B.nb_range (Qa (Ju G0 B.nb_len G3 (Qa (Qy (Q3 (Qo hr)) (Qb 0) Qe) Qf)) Qf)) (J6 (i:=2) J5.nd) (Qp (Zl PassesOwn.never (Yj B.nb_range (Qa Qe Qf)) (J6 (i:=3) J5.nd) (Qp (Y0 (i:=1) (Qo hr) (Ug (Q9 Qgr (Qhh (Qo hr) (Qb 1) (Qy (Q3 (Qo hr)) (Qy (Q3 (Qo hr)) (Qy (Q3 (Qo hr)) (Qb 0) Qe) (Qb 2)) (Qb 3)) (Ug (Yl Qf))) (Ug (Yl (Qa (Qt (Zd (Qa (Qb 2) (Qa (Qb 3) Qf)))) Qf))))) (Qy (Q3 (Qo hr)) (Qy (Q3 (Qo hr)) (Qy (Q3 (Qo hr)) (Qb 0) Qe) (Qb 2)) (Qb 3)))))))
  (Qg (Zl PassesOwn.never (Yj B.nb_range (Qa (Ju G0 B.nb_len G3 (Qa (Qy (Q3 (Qo hr)) (Qb 0) Qe) Qf)) Qf)) (J6 (i:=3) J5.nd) (Qp (Y0 (i:=1) (Qo hr) (Ug (Q9 Qgr (Qhh (Qo hr) (Qb 1) (Qy (Q3 (Qo hr)) (Qy (Q3 (Qo hr)) (Qb 0) Qe) (Qb 3)) (Ug (Yl Qf))) (Ug (Yl (Qa (Qt (Zd (Qa (Qrq Qko Qe) (Qa (Qb 3) Qf)))) Qf))))) (Qy (Q3 (Qo hr)) (Qy (Q3 (Qo hr)) (Qb 0) Qe) (Qb 3)))))
  (Qp (Qmg (i:=1))))))
theorem Zs {m i:Nat}:(spD m i).pure=true:=by unfold spD;simp only [D.pure,Qj,Bool.and_self]
theorem Qag {P:Program} {w:World} {K:PySem.W.Frag} {mg:Str->Option Value} {base:Heap} {f:Addr} {fd:FuncData} (F:Fun K "_law_spots" "_law_spots" Jc f fd) (B:Bn K mg):FnOk P w K mg base CX0 1 f fd ["_law_web_here"] (spR K Yv):=by
 refine Qe7 (T:=Us) F J5 rfl (by decide) (λds kk h=>?_) (Qcc B) (λds kk h=>?_)
 ·obtain ⟨m,e,A,r,rfl,_⟩:=h
  rfl
 ·obtain ⟨m,e,A,r,rfl,hm,he,k⟩:=h
  simp only [Um,wSeq,wSet,wC,env0,Qkl,List.map_cons,List.map_nil,List.length_cons,List.length_nil,Nat.zero_add,Nat.reduceAdd,List.replicate,List.cons_append,List.nil_append,List.set_cons_succ,List.set_cons_zero,Uc,Uv,Qd,Qv,wBin,wNil,Ja,look,Qn,Vw,V8,List.getElem?_cons_zero,Qdv,Zr,Int.reducePow,Int.reduceNeg,Int.toNat_natCast]
  have l1:((List.range m).map (crD A)).length=m:=by simp
  rw [l1]
  refine ⟨by omega,by omega,Y9,λt ρ=>∃(T:List (Key × D)) (o2 o3:Option D),ρ=[some (.tup [.tup ((List.range m).map (crD A)),Uh m e A,.int r]),some (.dik T),o2,o3]/\t<=m/\SpOk m A (4*t) T,⟨[],none,none,rfl,Nat.zero_le _,Nat.zero_le _,λa=>rfl⟩,?_,?_⟩
  ·rintro t d ρ hd ⟨T,o2,o3,rfl,htm,hT⟩
   obtain ⟨ht,rfl⟩:=Z2 hd
   simp only [gN,List.set_cons_succ,List.set_cons_zero,Uc,Uv,Qd,wC,wNil,Zr,Int.reducePow,Int.reduceNeg,Int.reduceLE,Int.reduceLT,Int.reduceToNat,true_and]
   refine ⟨Y9,λj ρ=>∃(T:List (Key × D)) (o3:Option D),ρ=[some (.tup [.tup ((List.range m).map (crD A)),Uh m e A,.int r]),some (.dik T),some (.int (0+(t:Int))),o3]/\j<=4/\SpOk m A (4*t+j) T,⟨T,o3,rfl,by decide,hT⟩,?_,?_⟩
   ·rintro j d ρ hd ⟨T,o3,rfl,hj4,hT⟩
    obtain ⟨hj,rfl⟩:=Z2 hd
    have hj:j<4:=hj
    have es:D.tup [.int (t:Int),.int (j:Int)]=spD m (4*t+j):=by unfold spD;rw [M.Qba ht hj]
    have hc:(crD A t)=.tup ((List.range 4).map λj=>.int (A (4*t+j))):=rfl
    have hl:=hT.len
    have ho:=Qgs A (4*t+j) (A (4*t+j))
    simp only [gN,Yy,G9,wBin,Qfj,Int.zero_add,List.set_cons_succ,List.set_cons_zero,wC,wLst,wNil,List.length_nil,sz0,Qd,Qu,wTup,List.length_cons,Nat.zero_add,Nat.reduceAdd,sz2,D.pure,Qj,Bool.and_true,sz1,Ja,Qdx,true_and,look,Option.isSome_some,Qn,Vw,V8,List.getElem?_cons_zero,Ya,List.getElem?_map,List.getElem?_range ht,Option.map_some,hc,List.getElem?_range hj,Qfz,Qk3,Qk4,hT.get,Qdy,Bool.and_self]
    rw [es]
    exact ⟨Qs λ_ _=>Zs,Jo (by rw [List.length_map];omega),by rw [← List.map_singleton (f:=spD m),← List.map_append];exact Qs λ_ _=>Zs,Jo (by omega),_,_,rfl,by omega,hT.step⟩
   ·rintro ρ ⟨T,o3,rfl,_,hT⟩
    exact ⟨T,_,_,rfl,ht,hT⟩
  ·rintro ρ ⟨T,o2,o3,rfl,htm,hT⟩
   rw [Jz] at hT
   have l2:((List.range e).map λj=>D.int (A (4*m+j))).length=e:=by simp
   simp only [wSeq,Uh,Uc,Uv,Qd,Qv,wBin,wC,wNil,Ja,look,Qn,Vw,V7,List.getElem?_cons_succ,List.getElem?_cons_zero,Qdv,Zr,Int.reducePow,Int.reduceNeg,Int.toNat_natCast]
   rw [l2]
   refine ⟨by omega,by omega,Y9,λj ρ=>∃(T:List (Key × D)) (o2 o3:Option D),ρ=[some (.tup [.tup ((List.range m).map (crD A)),Uh m e A,.int r]),some (.dik T),o2,o3]/\j<=e/\SpOk m A (4*m+j) T,⟨T,o2,o3,rfl,Nat.zero_le _,hT⟩,?_,?_⟩
   ·rintro j d ρ hd ⟨T,o2,o3,rfl,hje,hT⟩
    obtain ⟨hj,rfl⟩:=Z2 hd
    have es:D.tup [.int (-1),.int (j:Int)]=spD m (4*m+j):=by unfold spD;rw [M.Qa9]
    have hl:=hT.len
    have ho:=Qgs A (4*m+j) (A (4*m+j))
    simp only [gN,Yy,G9,wBin,Qfj,Uh,Int.zero_add,List.set_cons_succ,List.set_cons_zero,wC,wLst,wNil,List.length_nil,sz0,Qd,Qu,wTup,wUn,List.length_cons,Nat.zero_add,Nat.reduceAdd,sz2,D.pure,Qj,Bool.and_true,sz1,Ja,Qdx,true_and,Qps,Bool.true_and,Int.reduceNeg,look,Option.isSome_some,Qn,Vw,V7,List.getElem?_cons_succ,List.getElem?_cons_zero,Ya,List.getElem?_map,List.getElem?_range hj,Option.map_some,Qfz,Qk3,Qk4,hT.get,Qdy,Bool.and_self]
    rw [es]
    exact ⟨Qs λ_ _=>Zs,Jo (by rw [List.length_map];omega),by rw [← List.map_singleton (f:=spD m),← List.map_append];exact Qs λ_ _=>Zs,Jo (by omega),_,_,_,rfl,by omega,hT.step⟩
   ·rintro ρ ⟨T,o2,o3,rfl,_,hT⟩
    rw [Jz] at hT
    simp only [Ql1,look,Qn]
    exact k T hT
def Zv:GA:=λds k=>∃(m e i:Nat) (A:Nat->Int) (r:Int),ds=[webD m e A r,spD m i]/\i<4*m+e/\k (.int (A i))
abbrev Jt:Stmt:=top 15
theorem Qcm:FnScope ["_law_web_here","_law_spot"] ["_law_web_here","_law_spot"] (Qc Jt):=⟨rfl,rfl,rfl,by decide +kernel,rfl,by decide +kernel,by decide +kernel⟩
def Xk:Tg:={ own:=λi=>false,io:=[] }
def V9:WS:=(wSeq (wIf (wBl (wBin (dCmp λi j=>decide (i<j)) (wBin dIx (wVar 1) (wC (.int 0))) (wC (.int 0)))) (wRet (Qu (wBin dIx (wBin dIx (wVar 0) (wC (.int 1))) (wBin dIx (wVar 1) (wC (.int 1)))))) Yd)
 (wRet (Qu (wBin dIx (wBin dIx (wBin dIx (wVar 0) (wC (.int 0))) (wBin dIx (wVar 1) (wC (.int 0)))) (wBin dIx (wVar 1) (wC (.int 1)))))))
theorem Qfd {P:Program} {w:World} {K:PySem.W.Frag} {mg:Str->Option Value} {base:Heap} {f:Addr} (B:Bn K mg):∀(cdv:Value) (A:Around) (outer:List PySem.Env) (s:Shared) (H:Hp) (E:XK),Room 0 (A.deeper (envOfC "_law_arc" (Qc Jt) s.heap.objs.size f cdv))->SVs (cxOf CX0 P w K mg base ["_law_web_here","_law_spot"] "_law_arc" (Qc Jt) f cdv A outer s H E).nox Xk (Qq Jt) V9:=λcdv A outer s H E hr =>
  (Qg (Gb (Zk Qns (Qy (Q3 (Qo hr)) (Qb 1) Qe) Qe) (Qp (J2 (Qt (Qy (Q3 (Qo hr)) (Qy (Q3 (Qo hr)) (Qb 0) Qe) (Qy (Q3 (Qo hr)) (Qb 1) Qe))))) Yr)
  (Qp (J2 (Qt (Qy (Q3 (Qo hr)) (Qy (Q3 (Qo hr)) (Qy (Q3 (Qo hr)) (Qb 0) Qe) (Qy (Q3 (Qo hr)) (Qb 1) Qe)) (Qy (Q3 (Qo hr)) (Qb 1) Qe))))))
theorem Qct {P:Program} {w:World} {K:PySem.W.Frag} {mg:Str->Option Value} {base:Heap} {f:Addr} {fd:FuncData} (F:Fun K "_law_arc" "_law_arc" Jt f fd) (B:Bn K mg):FnOk P w K mg base CX0 1 f fd ["_law_web_here","_law_spot"] (spR K Zv):=by
 refine Qe7 (T:=Xk) F Qcm rfl (by decide) (λds kk h=>?_) (Qfd B) (λds kk h=>?_)
 ·obtain ⟨m,e,i,A,r,rfl,_⟩:=h
  rfl
 ·obtain ⟨m,e,i,A,r,rfl,hi,k⟩:=h
  by_cases h4:i<4*m
  ·obtain ⟨q,j,rfl,hj⟩:∃q j,i=4*q+j/\j<4:=⟨i / 4,i % 4,by omega,by omega⟩
   have hq:q<m:=by omega
   simp only [V9,wSeq,wIf,env0,webD,spD,M.Qba hq hj,List.map_cons,List.map_nil,List.length_cons,List.length_nil,Nat.zero_add,Nat.reduceAdd,List.cons_append,List.nil_append,wRet,Qu,wBin,wC,Ja,Yd,r_bl,look,Qn,Vw,V7,List.getElem?_cons_succ,List.getElem?_cons_zero,V8,Qeu,Y8]
   have:¬((q:Int)<0):=by omega
   simp only [this,decide_false,Bool.false_eq_true,Ya,List.getElem?_map,List.getElem?_range hq,Option.map_some,Qn,Vw,List.getElem?_range hj,D.pure,true_and,reduceIte]
   exact k
  ·obtain ⟨j,rfl⟩:∃j,i=4*m+j:=⟨i-4*m,by omega⟩
   have hj:j<e:=by omega
   simp only [V9,wSeq,wIf,env0,webD,spD,M.Qa9,Int.reduceNeg,List.map_cons,List.map_nil,List.length_cons,List.length_nil,Nat.zero_add,Nat.reduceAdd,List.cons_append,List.nil_append,wRet,Qu,wBin,wC,Ja,Yd,r_bl,look,Qn,Vw,V7,List.getElem?_cons_succ,List.getElem?_cons_zero,V8,Qeu,Int.reduceLT,Y8]
   simp only [decide_true,Ya,List.getElem?_map,List.getElem?_range hj,Option.map_some,Qn,D.pure,true_and,Int.reduceNeg,reduceIte]
   exact k
theorem Qts {m i j:Nat} {k:D->Prop} (h1:i=j->k (.bl true)) (h2:i≠j->k (.bl false)):dEq (spD m i) (spD m j) k :=
 ⟨rfl,rfl,λz=>h1 (Qcl z),λz=>h2 λy=>z (by rw [y])⟩
def resD:Option Nat->D
 | some j=>.int (j:Int)
 | none=>.non
def seen (S:List (List Key × D)) (m q:Nat):Prop:=(valD S (ksP m q)).isSome=true
theorem Qdp {S:List (List Key × D)} {m p q:Nat} {d:D}:seen (putD S (ksP m p) d) m q↔seen S m q\/q=p:=by
 unfold seen
 rw [Zz]
 by_cases h:ksP m q=ksP m p
 ·rw [if_pos h];simp [Qn1 h]
 ·rw [if_neg h]
  exact ⟨.inl,λz=>z.elim id λy=>absurd (by rw [y]) h⟩
theorem Qfx {S:List (List Key × D)} {m i:Nat} {d:D} {k:D->Prop}:dSet (.dit S) (spD m i) d k=(S.length<sizeLine/\k (.dit (putD S (ksP m i) d))):=rfl
theorem Qkz {m i:Nat} {k:D->Prop}:dIx (spD m i) (.int 0) k=k (.int (M.sp m i).1):=rfl
theorem Qky {m i:Nat} {k:D->Prop}:dIx (spD m i) (.int 1) k=k (.int (M.sp m i).2):=rfl
theorem Gh {S:List (List Key × D)} {k:List Key} {d:D} (h:(S.all λkv=>kv.2.pure)=true) (hd:d.pure=true):((putD S k d).all λkv=>kv.2.pure)=true:=by
 refine List.all_eq_true.mpr λkv hkv=>?_
 unfold putD at hkv
 split at hkv
 ·obtain ⟨x,hx,rfl⟩:=List.mem_map.mp hkv
  split
  ·exact hd
  ·exact List.all_eq_true.mp h x hx
 ·rcases List.mem_append.mp hkv with hkv | hkv
  ·exact List.all_eq_true.mp h kv hkv
  ·rw [List.mem_singleton.mp hkv];exact hd
theorem Qr9 {m e p s t:Nat} {o:Option Nat} {g W:Nat->Nat} (hp:p<4*m+e) (wk:Wk m e g W p s o) (ht:t<=s):Orb.it (fw m e g W) t p<4*m+e:=by
 cases t with
 | zero=>exact hp
 | succ t =>
  have:=Qkg (e:=e) (W:=W) (wk.on t (by omega)).1
  show Ox m e W (Gx m e g (Orb.it (fw m e g W) t p))<_
  omega
theorem Qkm {m e k j:Nat} {W:Nat->Nat} {Q:D->Prop} (hk:k<m) (hj:j<4) (hW:W k<=1) (h:Q (.int (wy (W k) j:Nat))):dIx (.lst (Yi m W)) (.int (k:Int)) (λd=>dIx (.lst [.lst [.int 1,.int 0,.int 3,.int 2],.lst [.int 3,.int 2,.int 1,.int 0]]) d λd=>dIx d (.int (j:Int)) Q):=by
 rw [Qcn,Ya,Yi,List.getElem?_map,List.getElem?_range hk,Option.map_some,Qn]
 have w01:W k=0\/W k=1:=by omega
 have j03:j=0\/j=1\/j=2\/j=3:=by omega
 rcases w01 with e1 | e1 <;> rw [e1] at h ⊢ <;> rcases j03 with rfl | rfl | rfl | rfl <;> exact h
def Yg:GI:=λds k=>∃(m e:Nat) (A:Nat->Int) (g W:Nat->Nat) (r:Int) (T:List (Key × D)) (S:List (List Key × D)) (p s:Nat) (o:Option Nat),ds=[webD m e A r,.dik T,.lst (Yi m W),spD m p,.dit S]/\M.Tw (4*m+e) A g/\SpOk m A (4*m+e) T/\m<=40/\e<=40/\(∀k,k<m->W k<=1)/\p<4*m+e/\Wk m e g W p s o/\S.length<=100000/\(S.all λkv=>kv.2.pure)=true /\
 ∀S':List (List Key × D),S'.length<=S.length+2*(s+1)->(S'.all λkv=>kv.2.pure)=true->(∀q,seen S' m q↔seen S m q\/Vs m e g W p s q)->k (resD o) (.dit S')
abbrev Jd:Stmt:=top 16
theorem Js:FnScope ["_law_web_here","_law_spots_here","_law_ways","_law_spot","_law_seen","_law_here","_law_two","_law_there","_law_goal"] ["_law_web_here","_law_spots_here","_law_ways","_law_spot","_law_seen"] (Qc Jd):=⟨rfl,rfl,rfl,by decide +kernel,rfl,by decide +kernel,by decide +kernel⟩
def Ut:Tg:={ own:=λi=>i == 4 || i == 5 || i == 6 || i == 7 || i == 8,io:=[4] }
def Uo:WS:=(wSeq (wSet 5 (Qu (wVar 3)))
 (Qkn (wTru (wC (.bl true))) (wSeq (wSet 6 (Qu (wBin dIx (wVar 1) (Qv Zv (Qd (wVar 0) (Qd (wVar 5) wNil))))))
 (wSeq (wSet 7 (Qu (wBin dIx (wVar 6) (Qv dInt (Qd (wBin dEq (wBin dIx (wVar 6) (wC (.int 0))) (wVar 5)) wNil)))))
 (wSeq (Yy 4 (wC (.bl true)) (wVar 5))
 (wSeq (Yy 4 (wC (.bl true)) (wVar 7))
 (wSeq (wIf (wBl (wBin (dCmp λi j=>decide (i<j)) (wBin dIx (wVar 7) (wC (.int 0))) (wC (.int 0)))) (wRet (Qu (wBin dIx (wVar 7) (wC (.int 1))))) Yd)
 (wSeq (wSet 8 (Qu (wTup (Qd (wBin dIx (wVar 7) (wC (.int 0))) (Qd (wBin dIx (wBin dIx (wLst (Qd (wLst (Qd (wC (.int 1)) (Qd (wC (.int 0)) (Qd (wC (.int 3)) (Qd (wC (.int 2)) wNil))))) (Qd (wLst (Qd (wC (.int 3)) (Qd (wC (.int 2)) (Qd (wC (.int 1)) (Qd (wC (.int 0)) wNil))))) wNil))) (wBin dIx (wVar 2) (wBin dIx (wVar 7) (wC (.int 0))))) (wBin dIx (wVar 7) (wC (.int 1)))) wNil)))))
 (wSeq (wIf (wBl (wBin dEq (wVar 8) (wVar 3))) (wRet (wC .non)) Yd)
 (wSet 5 (Qu (wVar 8))))))))))))
theorem Qcd {P:Program} {w:World} {K:PySem.W.Frag} {mg:Str->Option Value} {base:Heap} {f:Addr} (B:Bn K mg) (C__law_arc:Cal P w K mg base "_law_arc" 1 ["_law_web_here","_law_spot"] (spR K Zv)):∀(cdv:Value) (A:Around) (outer:List PySem.Env) (s:Shared) (H:Hp) (E:XK),Room 1 (A.deeper (envOfC "_law_along" (Qc Jd) s.heap.objs.size f cdv))->SVs (cxOf CX0 P w K mg base ["_law_web_here","_law_spots_here","_law_ways","_law_spot","_law_seen","_law_here","_law_two","_law_there","_law_goal"] "_law_along" (Qc Jd) f cdv A outer s H E).nox Ut (Qq Jd) Uo:=λcdv A outer s H E hr =>
  (Qg (Q7 (i:=5) (Qt (Qb 3)) Js.nd)
  (Qp (Qip PassesOwn.never (Xi Qc2) (Qg (Q7 (i:=6) (Qt (Qy (Q3 (Qo hr)) (Qb 1) (Z7 C__law_arc (hr.mono (by decide)) (Qa (Qb 0) (Qa (Qb 5) Qf))))) Js.nd)
  (Qg (Q7 (i:=7) (Qt (Qy (Q3 (Qo hr)) (Qb 6) (J7 Qlr B.nb_int Qh9 (Qa (Qlk (Qgo hr.units) (Qy (Q3 (Qo hr)) (Qb 6) Qe) (Qb 5)) Qf)))) Js.nd)
  (Qg (Y0 (i:=4) (Qo hr) Qc2 (Qb 5))
  (Qg (Y0 (i:=4) (Qo hr) Qc2 (Qb 7))
  (Qg (Gb (Zk Qns (Qy (Q3 (Qo hr)) (Qb 7) Qe) Qe) (Qp (J2 (Qt (Qy (Q3 (Qo hr)) (Qb 7) Qe)))) Yr)
  (Qg (Q7 (i:=8) (Qt (Zd (Qa (Qy (Q3 (Qo hr)) (Qb 7) Qe) (Qa (Qy (Q3 (Qo hr)) (Qy (Q3 (Qo hr)) (Yl (Qa (Yl (Qa Qe (Qa Qe (Qa Qe (Qa Qe Qf))))) (Qa (Yl (Qa Qe (Qa Qe (Qa Qe (Qa Qe Qf))))) Qf))) (Qy (Q3 (Qo hr)) (Qb 2) (Qy (Q3 (Qo hr)) (Qb 7) Qe))) (Qy (Q3 (Qo hr)) (Qb 7) Qe)) Qf)))) Js.nd)
  (Qg (Gb (Zk (Qgo hr.units) (Qb 8) (Qb 3)) (Qp (J2 Qhg)) Yr)
  (Qp (Q7 (i:=5) (Qt (Qb 8)) Js.nd))))))))))))
theorem Qah {P:Program} {w:World} {K:PySem.W.Frag} {mg:Str->Option Value} {base:Heap} {f:Addr} {fd:FuncData} (F:Fun K "_law_along" "_law_along" Jd f fd) (B:Bn K mg) (C1:Cal P w K mg base "_law_arc" 1 ["_law_web_here","_law_spot"] (spR K Zv)):FnOk P w K mg base CX0 2 f fd ["_law_web_here","_law_spots_here","_law_ways","_law_spot","_law_seen"] (spJ K 4 Yg):=by
 refine Qrp (T:=Ut) (p:=4) F Js rfl (by decide) (λds kk h=>?_) (by decide) (Qcd B C1) (λds kk h=>?_)
 ·obtain ⟨m,e,A,g,W,r,T,S,p,s,o,rfl,_⟩:=h
  rfl
 ·obtain ⟨m,e,A,g,W,r,T,S,p,s,o,rfl,tw,hT,hm,he,hW,hp,wk,hS,hpu,k⟩:=h
  simp only [Uo,wSeq,wSet,Qu,env0,List.map_cons,List.map_nil,List.length_cons,List.length_nil,Nat.zero_add,Nat.reduceAdd,List.replicate,List.cons_append,List.nil_append,Ja,look,List.set_cons_succ,List.set_cons_zero,Qn,Zs,true_and]
  refine ⟨λn ρ=>∃(t:Nat) (S':List (List Key × D)) (o6 o7 o8:Option D),t<=s/\n=s-t/\ρ=[some (webD m e A r),some (.dik T),some (.lst (Yi m W)),some (spD m p),some (.dit S'),some (spD m (Orb.it (fw m e g W) t p)),o6,o7,o8]/\S'.length<=S.length+2*t/\(S'.all λkv=>kv.2.pure)=true /\
   ∀q,seen S' m q↔seen S m q\/∃t',t' < t/\(q=Orb.it (fw m e g W) t' p\/q=Gx m e g (Orb.it (fw m e g W) t' p)),⟨s,0,S,none,none,none,Nat.zero_le _,rfl,rfl,Nat.le_refl _,hpu,λq=>⟨.inl,λh=>h.elim id λ⟨t',h,_⟩=>absurd h (Nat.not_lt_zero _)⟩⟩,?_⟩
  rintro n ρ ⟨t,S',o6,o7,o8,hts,rfl,rfl,hl',hpu',hsn⟩
  have ha:=Qr9 hp wk hts
  have hsl:=wk.sl
  have hGa:Gx m e g (Orb.it (fw m e g W) t p)=g (Orb.it (fw m e g W) t p):=Qax ha
  have hon:t<s->Gx m e g (Orb.it (fw m e g W) t p)<4*m/\fw m e g W (Orb.it (fw m e g W) t p)≠p:=wk.on t
  have hfS:∀j,o=some j->t=s->j<e/\Gx m e g (Orb.it (fw m e g W) t p)=4*m+j:=λj ho z=>by subst ho;subst z;exact wk.fin
  have hfN:o=none->t=s->Gx m e g (Orb.it (fw m e g W) t p)<4*m/\fw m e g W (Orb.it (fw m e g W) t p)=p:=λho z=>by subst ho;subst z;exact wk.fin
  have hfw:fw m e g W (Orb.it (fw m e g W) t p)=Ox m e W (Gx m e g (Orb.it (fw m e g W) t p)):=rfl
  have hit:Orb.it (fw m e g W) (t+1) p=fw m e g W (Orb.it (fw m e g W) t p):=rfl
  have hsn2:∀d d':D,∀q,seen (putD (putD S' (ksP m (Orb.it (fw m e g W) t p)) d) (ksP m (Gx m e g (Orb.it (fw m e g W) t p))) d') m q↔seen S m q\/∃t',t' < t+1/\(q=Orb.it (fw m e g W) t' p\/q=Gx m e g (Orb.it (fw m e g W) t' p)):=λd d' q=>by
   rw [Qdp,Qdp,hsn]
   constructor
   ·rintro (((h | ⟨t',h1,h2⟩) | h) | h)
    ·exact .inl h
    ·exact .inr ⟨t',by omega,h2⟩
    ·exact .inr ⟨t,by omega,.inl h⟩
    ·exact .inr ⟨t,by omega,.inr h⟩
   ·rintro (h | ⟨t',h1,h2⟩)
    ·exact .inl (.inl (.inl h))
    ·by_cases z:t'=t
     ·subst z
      rcases h2 with h2 | h2
      ·exact .inl (.inr h2)
      ·exact .inr h2
     ·exact .inl (.inl (.inr ⟨t',by omega,h2⟩))
  generalize hA:Orb.it (fw m e g W) t p=a at ha hGa hon hfS hfN hfw hit hsn2
  have hv:valD T (.inl (A a))=some (.kls [spD m (min a (g a)),spD m (max a (g a))]):=by
   rw [hT.va,spv,Qnt tw ha,if_neg (by simp)];rfl
  have hne:=tw.ne a ha
  have hgl:=tw.lt a ha
  simp only [wSeq,wSet,Qu,wBin,Qv,Qd,wNil,wC,Yy,D.pure,wIf,wRet,Ja,Yd,wTup,wLst,List.length_cons,List.length_nil,Nat.zero_add,Nat.reduceAdd,sz4,sz2,Qj,Bool.and_true,r_bl,true_and,Qfv,look,List.set_cons_succ,List.set_cons_zero,Option.isSome_some,Qn,Qsq,Y8,reduceIte,Bool.false_eq_true,Qf4,Qdt]
  refine ⟨m,e,a,A,r,rfl,ha,?_⟩
  simp only [Qpx,hv,Qn,D.pure,Qmx,V8,List.getElem?_cons_zero,true_and]
  refine Qts (λhx=>?_) (λhx=>?_)
  ·have hx2:max a (g a)=g a:=by omega
   simp only [hx2,Qf2,reduceIte,Qmx,V7,List.getElem?_cons_succ,List.getElem?_cons_zero,Qn]
   rw [← hGa] at hgl
   simp only [← hGa,Zs,Qky,D.pure,true_and,Qkz,Qcn,Bool.true_and,Qeu,Y8,Qfx,Qf4]
   have q1:=J1 S' (ksP m a) (.bl true)
   have q2:=J1 (putD S' (ksP m a) (.bl true)) (ksP m (Gx m e g a)) (.bl true)
   have hpu2:((putD (putD S' (ksP m a) (.bl true)) (ksP m (Gx m e g a)) (.bl true)).all λkv=>kv.2.pure)=true:=Gh (Gh hpu' rfl) rfl
   have hsn3:=hsn2 (.bl true) (.bl true)
   generalize putD (putD S' (ksP m a) (.bl true)) (ksP m (Gx m e g a)) (.bl true)=S2 at q2 hpu2 hsn3
   refine ⟨Nat.lt_of_le_of_lt (show _<=200000 by omega) (by decide),Nat.lt_of_le_of_lt (show _<=200000 by omega) (by decide),?_⟩
   have vs:t=s->∀q,seen S2 m q↔seen S m q\/Vs m e g W p s q:=λz q=>by
    subst z
    rw [hsn3 q]
    unfold Vs
    constructor
    ·rintro (h | ⟨t',h1,h2⟩)
     ·exact .inl h
     ·exact .inr ⟨t',by omega,h2⟩
    ·rintro (h | ⟨t',h1,h2⟩)
     ·exact .inl h
     ·exact .inr ⟨t',by omega,h2⟩
   by_cases hc:Gx m e g a<4*m
   ·obtain ⟨c,j,hbj,hj⟩:∃c j,Gx m e g a=4*c+j/\j<4:=⟨Gx m e g a / 4,Gx m e g a % 4,by omega,by omega⟩
    have hcm:c<m:=by omega
    have hox:fw m e g W a=4*c+wy (W c) j:=by rw [hfw,hbj,Yb hcm hj]
    have hsp:D.tup [.int (c:Int),.int ((wy (W c) j:Nat):Int)]=spD m (fw m e g W a):=by unfold spD;rw [hox,M.Qba hcm (Qij hj)]
    have n0:¬((c:Int)<0):=by omega
    simp only [hbj,M.Qba hcm hj,n0,decide_false,Bool.false_eq_true,reduceIte]
    refine Qkm (e:=e) hcm hj (hW c hcm) ?_
    simp only [D.pure,true_and]
    rw [hsp]
    refine ⟨rfl,rfl,λz=>?_,λz=>?_⟩
    ·have hfp:=Qcl z
     have hs:t=s:=by
      by_cases h:t<s
      ·exact absurd hfp (hon h).2
      ·omega
     cases o with
     | some j'=>have:=(hfS j' rfl hs).2;omega
     | none =>
      exact ⟨hpu2,k S2 (by omega) hpu2 (vs hs)⟩
    ·have hs:t<s:=by
      by_cases h:t<s
      ·exact h
      ·have h:t=s:=by omega
       cases o with
       | some j'=>have:=(hfS j' rfl h).2;omega
       | none=>exact absurd (by rw [(hfN rfl h).2]) z
     exact ⟨s-(t+1),by omega,t+1,S2,_,_,_,hs,rfl,by rw [hit],by omega,hpu2,hsn3⟩
   ·have hs:t=s:=by
     by_cases h:t<s
     ·exact absurd (hon h).1 hc
     ·omega
    cases o with
    | none=>exact absurd (hfN rfl hs).1 hc
    | some j =>
     obtain ⟨hje,hb⟩:=hfS j rfl hs
     simp only [hb,M.Qa9,Int.reduceNeg,Int.reduceLT]
     exact ⟨hpu2,k S2 (by omega) hpu2 (vs hs)⟩
  ·have hx2:min a (g a)=g a:=by omega
   simp only [hx2,Qf2,Bool.false_eq_true,reduceIte,Qmx,V8,List.getElem?_cons_zero,Qn]
   rw [← hGa] at hgl
   simp only [← hGa,Zs,Qky,D.pure,true_and,Qkz,Qcn,Bool.true_and,Qeu,Y8,Qfx,Qf4]
   have q1:=J1 S' (ksP m a) (.bl true)
   have q2:=J1 (putD S' (ksP m a) (.bl true)) (ksP m (Gx m e g a)) (.bl true)
   have hpu2:((putD (putD S' (ksP m a) (.bl true)) (ksP m (Gx m e g a)) (.bl true)).all λkv=>kv.2.pure)=true:=Gh (Gh hpu' rfl) rfl
   have hsn3:=hsn2 (.bl true) (.bl true)
   generalize putD (putD S' (ksP m a) (.bl true)) (ksP m (Gx m e g a)) (.bl true)=S2 at q2 hpu2 hsn3
   refine ⟨Nat.lt_of_le_of_lt (show _<=200000 by omega) (by decide),Nat.lt_of_le_of_lt (show _<=200000 by omega) (by decide),?_⟩
   have vs:t=s->∀q,seen S2 m q↔seen S m q\/Vs m e g W p s q:=λz q=>by
    subst z
    rw [hsn3 q]
    unfold Vs
    constructor
    ·rintro (h | ⟨t',h1,h2⟩)
     ·exact .inl h
     ·exact .inr ⟨t',by omega,h2⟩
    ·rintro (h | ⟨t',h1,h2⟩)
     ·exact .inl h
     ·exact .inr ⟨t',by omega,h2⟩
   by_cases hc:Gx m e g a<4*m
   ·obtain ⟨c,j,hbj,hj⟩:∃c j,Gx m e g a=4*c+j/\j<4:=⟨Gx m e g a / 4,Gx m e g a % 4,by omega,by omega⟩
    have hcm:c<m:=by omega
    have hox:fw m e g W a=4*c+wy (W c) j:=by rw [hfw,hbj,Yb hcm hj]
    have hsp:D.tup [.int (c:Int),.int ((wy (W c) j:Nat):Int)]=spD m (fw m e g W a):=by unfold spD;rw [hox,M.Qba hcm (Qij hj)]
    have n0:¬((c:Int)<0):=by omega
    simp only [hbj,M.Qba hcm hj,n0,decide_false,Bool.false_eq_true,reduceIte]
    refine Qkm (e:=e) hcm hj (hW c hcm) ?_
    simp only [D.pure,true_and]
    rw [hsp]
    refine ⟨rfl,rfl,λz=>?_,λz=>?_⟩
    ·have hfp:=Qcl z
     have hs:t=s:=by
      by_cases h:t<s
      ·exact absurd hfp (hon h).2
      ·omega
     cases o with
     | some j'=>have:=(hfS j' rfl hs).2;omega
     | none =>
      exact ⟨hpu2,k S2 (by omega) hpu2 (vs hs)⟩
    ·have hs:t<s:=by
      by_cases h:t<s
      ·exact h
      ·have h:t=s:=by omega
       cases o with
       | some j'=>have:=(hfS j' rfl h).2;omega
       | none=>exact absurd (by rw [(hfN rfl h).2]) z
     exact ⟨s-(t+1),by omega,t+1,S2,_,_,_,hs,rfl,by rw [hit],by omega,hpu2,hsn3⟩
   ·have hs:t=s:=by
     by_cases h:t<s
     ·exact absurd (hon h).1 hc
     ·omega
    cases o with
    | none=>exact absurd (hfN rfl hs).1 hc
    | some j =>
     obtain ⟨hje,hb⟩:=hfS j rfl hs
     simp only [hb,M.Qa9,Int.reduceNeg,Int.reduceLT]
     exact ⟨hpu2,k S2 (by omega) hpu2 (vs hs)⟩
end K31
namespace K31
open PySem PySem.Spec L2 PV Ly
open PyProof.Rows (envOfC)
section
variable {m e:Nat} {A:Nat->Int} {g W:Nat->Nat}
def Seen (m e:Nat) (g W:Nat->Nat) (u t q:Nat):Prop:=(∃i,i<u/\Re (Gx m e g) (Ox m e W) (4*m+i) q)\/∃p,p<t/\Re (Gx m e g) (Ox m e W) p q
theorem Qku (tw:M.Tw (4*m+e) A g) {p q:Nat} (hp:p<4*m) (h:Re (Gx m e g) (Ox m e W) p q) (hn:∀i,i<e->¬Re (Gx m e g) (Ox m e W) p (4*m+i)):q<4*m:=by
 have w:=wv (W:=W) tw
 have hq:=h.lt w (by omega)
 rcases Gp hq with ⟨k,j,a1,a2,rfl⟩ | ⟨i,a1,rfl⟩ | ⟨i,a1,rfl⟩ | ⟨i,a1,rfl⟩
 ·omega
 ·exact absurd h (hn i a1)
 ·have:=h.o
  rw [Zy a1] at this
  exact absurd this (hn i a1)
 ·have:=h.g.o
  rw [Zo,Zy a1] at this
  exact absurd this (hn i a1)
theorem Qpi (tw:M.Tw (4*m+e) A g) {p:Nat} (hp:p<4*m):Rp (Gx m e g) (Ox m e W) (Sf m e) p↔¬Seen m e g W e p p:=by
 have w:=wv (W:=W) tw
 have hpM:p<4*m+e+2*e:=by omega
 constructor
 ·rintro ⟨h1,h2⟩ (⟨i,hi,hr⟩ | ⟨p',hlt,hr⟩)
  ·have:=(hr.symm w (by omega)).o.g
   rw [Ze hi,Yc] at this
   exact (h2 _ this).2 i rfl
  ·have:=h1 p' (hr.symm w (by omega))
   omega
 ·intro h
  have hn:∀i,i<e->¬Re (Gx m e g) (Ox m e W) p (4*m+i):=λi hi hr=>h (.inl ⟨i,hi,hr.symm w hpM⟩)
  refine ⟨λq hq=>?_,λq hq=>?_⟩
  ·by_cases z:p<=q
   ·exact z
   ·exact absurd (.inr ⟨q,by omega,hq.symm w hpM⟩) h
  ·have:=Qku tw hp hq hn
   exact ⟨by omega,λi=>by omega⟩
theorem Qph (tw:M.Tw (4*m+e) A g) {p:Nat} (hp:p<4*m+e+2*e) (h:Rp (Gx m e g) (Ox m e W) (Sf m e) p):p<4*m:=by
 rcases Gp hp with ⟨k,j,a1,a2,rfl⟩ | ⟨i,a1,rfl⟩ | ⟨i,a1,rfl⟩ | ⟨i,a1,rfl⟩
 ·omega
 ·have:=h.2 _ (Re.here.o.g)
  rw [Ze a1,Yc] at this
  exact absurd rfl (this.2 i)
 ·have:=h.2 _ (Re.here.g)
  rw [Yc] at this
  exact absurd rfl (this.2 i)
 ·exact absurd rfl ((h.2 _ .here).2 i)
open Classical in
noncomputable def cl (m e:Nat) (g W:Nat->Nat) (t:Nat):Nat:=((List.range t).filter λp=>decide (Rp (Gx m e g) (Ox m e W) (Sf m e) p)).length
open Classical in
theorem Qr1 (tw:M.Tw (4*m+e) A g):cl m e g W (4*m)=rc (4*m+e+2*e) (Gx m e g) (Ox m e W) (Sf m e):=by
 unfold cl rc
 have:List.range (4*m+e+2*e)=List.range (4*m)++(List.range (e+2*e)).map (4*m + ·):=by rw [show 4*m+e+2*e=4*m+(e+2*e) by omega,List.range_add]
 rw [this,List.filter_append,List.length_append]
 have z:((List.range (e+2*e)).map (4*m + ·)).filter (λp=>decide (Rp (Gx m e g) (Ox m e W) (Sf m e) p))=[]:=List.filter_eq_nil_iff.mpr λp hp=>by
  obtain ⟨x,hx,rfl⟩:=List.mem_map.mp hp
  have hx:=List.mem_range.mp hx
  rw [decide_eq_true_eq]
  intro h
  have:=Qph tw (by omega) h
  omega
 rw [z];rfl
open Classical in
theorem Qr0 {t:Nat} (h:Rp (Gx m e g) (Ox m e W) (Sf m e) t):cl m e g W (t+1)=cl m e g W t+1:=by
 unfold cl;rw [List.range_succ,List.filter_append,List.length_append,List.filter_cons,if_pos (decide_eq_true h)];rfl
open Classical in
theorem Qtx {t:Nat} (h:¬Rp (Gx m e g) (Ox m e W) (Sf m e) t):cl m e g W (t+1)=cl m e g W t:=by
 unfold cl;rw [List.range_succ,List.filter_append,List.length_append,List.filter_cons,if_neg (by rw [decide_eq_true_eq];exact h)];rfl
theorem Seen.more {u t q:Nat} (h:Seen m e g W u t q):Seen m e g W u (t+1) q:=h.imp id λ⟨p,h1,h2⟩=>⟨p,by omega,h2⟩
end
theorem Qil {J:Nat->Nat} {i:Nat}:upJ J (i+1)=upJ J i++if i<J i then [i] else []:=by
 unfold upJ
 rw [List.range_succ,List.filter_append]
 congr 1
 by_cases h:i<J i <;> simp [h]
theorem Qkv {m e:Nat} {A:Nat->Int} {r:Int} {k:D->Prop}:dIx (webD m e A r) (.int 0) k=k (.tup ((List.range m).map (crD A))):=rfl
theorem Qpn {m e:Nat} {A:Nat->Int} {r:Int} {k:D->Prop}:dIx (webD m e A r) (.int 1) k=k (Uh m e A):=rfl
theorem Qpm {m e:Nat} {A:Nat->Int} {r:Int} {k:D->Prop}:dIx (webD m e A r) (.int 2) k=k (.int r):=rfl
theorem Qpw {m e:Nat} {A:Nat->Int} {k:D->Prop}:dLen [Uh m e A] k=k (.int (e:Int)):=by
 show k (.int (((List.range e).map λj=>D.int (A (4*m+j))).length:Nat))=_
 rw [List.length_map,List.length_range]
def prJ (J:Nat->Nat) (i:Nat):D:=.tup [.int (i:Int),.int (J i:Int)]
def J4:GA:=λds k=>∃(m e:Nat) (A:Nat->Int) (g W J:Nat->Nat) (r:Int),ds=[webD m e A r,.lst (Yi m W)]/\M.Tw (4*m+e) A g/\m<=12/\e<=8/\(∀k,k<m->W k<=1)/\Jn m e g W J/\k (Gk m e g W J r)
abbrev Q5:Stmt:=top 17
theorem Qz:FnScope ["_law_web_here","_law_ways","_law_spots_here","_law_seen","_law_joining","_law_i","_law_j","_law_rings","_law_k","_law_place"] ["_law_web_here","_law_ways"] (Qc Q5):=⟨rfl,rfl,rfl,by decide +kernel,rfl,by decide +kernel,by decide +kernel⟩
def Vu:Tg:={ own:=λi=>i == 2 || i == 3 || i == 4 || i == 5 || i == 6 || i == 7 || i == 8 || i == 9,io:=[] }
def Vp:WS:=(wSeq (wSet 2 (Qv Yv (Qd (wVar 0) wNil)))
 (wSeq (wSet 3 (wC (.dit [])))
 (wSeq (wSet 4 (wLst wNil))
 (wSeq (wFor (G8 (Qd (Qv dLen (Qd (wBin dIx (wVar 0) (wC (.int 1))) wNil)) wNil)) (gN 5) (wSeq (wSet 6 (Qa1 3 Yg (Zj (wVar 0) (Zj (wVar 2) (Zj (wVar 1) (Zj (Qu (wTup (Qd (wUn dNeg (wC (.int 1))) (Qd (wVar 5) wNil)))) (Qay wNil)))))))
 (wIf (wBl (wBin (dCmp λi j=>decide (i<j)) (wVar 5) (wVar 6))) (Xa (wMt 4 "list" Qc1 (Qd (Qu (wTup (Qd (wVar 5) (Qd (wVar 6) wNil)))) wNil))) Yd)))
 (wSeq (wSet 7 (Qu (wBin dIx (wVar 0) (wC (.int 2)))))
 (wSeq (wFor (G8 (Qd (Qv dLen (Qd (wBin dIx (wVar 0) (wC (.int 0))) wNil)) wNil)) (gN 8) (wFor (G8 (Qd (wC (.int 4)) wNil)) (gN 9) (wIf (wBl (wBin (dIn true) (wTup (Qd (wVar 8) (Qd (wVar 9) wNil))) (wVar 3))) (wSeq (Xa (Qa1 3 Yg (Zj (wVar 0) (Zj (wVar 2) (Zj (wVar 1) (Zj (Qu (wTup (Qd (wVar 8) (Qd (wVar 9) wNil)))) (Qay wNil)))))))
 (wSet 7 (wBin Y6 (wVar 7) (wC (.int 1))))) Yd)))
 (wRet (Qu (wTup (Qd (Qv Vc (Qd (wVar 4) wNil)) (Qd (wVar 7) wNil)))))))))))
theorem Qat {P:Program} {w:World} {K:PySem.W.Frag} {mg:Str->Option Value} {base:Heap} {f:Addr} (B:Bn K mg) (C__law_spots:Cal P w K mg base "_law_spots" 1 ["_law_web_here"] (spR K Yv)) (C__law_along:Cal P w K mg base "_law_along" 2 ["_law_web_here","_law_spots_here","_law_ways","_law_spot","_law_seen"] (spJ K 4 Yg)):∀(cdv:Value) (A:Around) (outer:List PySem.Env) (s:Shared) (H:Hp) (E:XK),Room 2 (A.deeper (envOfC "_law_opened" (Qc Q5) s.heap.objs.size f cdv))->SVs (cxOf CX0 P w K mg base ["_law_web_here","_law_ways","_law_spots_here","_law_seen","_law_joining","_law_i","_law_j","_law_rings","_law_k","_law_place"] "_law_opened" (Qc Q5) f cdv A outer s H E).nox Vu (Qq Q5) Vp:=λcdv A outer s H E hr =>
  (Qg (Q7 (i:=2) (Z7 C__law_spots (hr.mono (by decide)) (Qa (Qb 0) Qf)) Qz.nd)
  (Qg (Q7 (i:=3) Qjr Qz.nd)
  (Qg (Q7 (i:=4) (Yl Qf) Qz.nd)
  (Qg (Zl PassesOwn.never (Yj B.nb_range (Qa (Ju G0 B.nb_len G3 (Qa (Qy (Q3 (Qo hr)) (Qb 0) Qe) Qf)) Qf)) (J6 (i:=5) Qz.nd) (Qg (Q7 (i:=6) (Qbx C__law_along (hr.mono (by decide)) (Xz 0 (Xz 2 (Xz 1 (Qic (Zd (Qa (Qrq Qko Qe) (Qa (Qb 5) Qf))) (Qid (i:=3) Qlv)))))) Qz.nd)
  (Qp (Gb (Zk Qns (Qb 5) (Qb 6)) (Qp (Gc (Qbv (i:=4) Qgw PySem.F.plainAttrs_list PySem.F.slot_list_append PySem.F.type_list_append (Qa (Qt (Zd (Qa (Qb 5) (Qa (Qb 6) Qf)))) Qf)))) Yr))))
  (Qg (Q7 (i:=7) (Qt (Qy (Q3 (Qo hr)) (Qb 0) Qe)) Qz.nd)
  (Qg (Zl PassesOwn.never (Yj B.nb_range (Qa (Ju G0 B.nb_len G3 (Qa (Qy (Q3 (Qo hr)) (Qb 0) Qe) Qf)) Qf)) (J6 (i:=8) Qz.nd) (Qp (Zl PassesOwn.never (Yj B.nb_range (Qa Qe Qf)) (J6 (i:=9) Qz.nd) (Qp (Gb (Zk (Qqv (Qo hr)) (Zd (Qa (Qb 8) (Qa (Qb 9) Qf))) (Qb 3)) (Qg (Gc (Qbx C__law_along (hr.mono (by decide)) (Xz 0 (Xz 2 (Xz 1 (Qic (Zd (Qa (Qb 8) (Qa (Qb 9) Qf))) (Qid (i:=3) Qlv)))))))
  (Qp (Q7 (i:=7) (Q9 Jv (Qb 7) Qe) Qz.nd))) Yr)))))
  (Qp (J2 (Qt (Zd (Qa (J7 Zi B.nb_tuple Yh (Qa (Qb 4) Qf)) (Qa (Qb 7) Qf))))))))))))
theorem Xb {P:Program} {w:World} {K:PySem.W.Frag} {mg:Str->Option Value} {base:Heap} {f:Addr} {fd:FuncData} (F:Fun K "_law_opened" "_law_opened" Q5 f fd) (B:Bn K mg) (C1:Cal P w K mg base "_law_spots" 1 ["_law_web_here"] (spR K Yv)) (C2:Cal P w K mg base "_law_along" 2 ["_law_web_here","_law_spots_here","_law_ways","_law_spot","_law_seen"] (spJ K 4 Yg)):FnOk P w K mg base CX0 3 f fd ["_law_web_here","_law_ways"] (spR K J4):=by
 refine Qe7 (T:=Vu) F Qz rfl (by decide) (λds kk h=>?_) (Qat B C1 C2) (λds kk h=>?_)
 ·obtain ⟨m,e,A,g,W,J,r,rfl,_⟩:=h
  rfl
 ·obtain ⟨m,e,A,g,W,J,r,rfl,tw,hm,he,hW,hJ,k⟩:=h
  simp only [Vp,wSeq,wSet,Qv,Qd,env0,List.map_cons,List.map_nil,List.length_cons,List.length_nil,Nat.zero_add,Nat.reduceAdd,List.replicate,List.cons_append,List.nil_append,wNil,wC,wLst,sz0,Uc,Uv,wBin,Ja,true_and,look,List.set_cons_succ,List.set_cons_zero,Qn]
  refine ⟨m,e,A,r,rfl,by omega,by omega,λT hT=>?_⟩
  simp only [Qpn,Qpw,Zr,Int.reducePow,Int.reduceNeg,Int.toNat_natCast]
  have wv:=wv (W:=W) tw
  refine ⟨by omega,by omega,Y9,λt ρ=>∃(S:List (List Key × D)) (o5 o6:Option D),ρ=[some (webD m e A r),some (.lst (Yi m W)),some (.dik T),some (.dit S),some (.lst ((upJ J t).map (prJ J))),o5,o6,none,none,none]/\t<=e/\S.length<=150*t/\(S.all λkv=>kv.2.pure)=true/\∀q,q<4*m+e->(seen S m q↔Seen m e g W t 0 q),⟨[],none,none,rfl,Nat.zero_le _,Nat.zero_le _,rfl,λq _=>⟨λh=>absurd (show false=true from h) (by decide),λh=>h.elim (λ⟨_,h,_⟩=>absurd h (Nat.not_lt_zero _)) λ⟨_,h,_⟩=>absurd h (Nat.not_lt_zero _)⟩⟩,?_,?_⟩
  ·rintro t d ρ hd ⟨S,o5,o6,rfl,hte,hl,hpu,hsn⟩
   obtain ⟨ht,rfl⟩:=Z2 hd
   obtain ⟨hj1,hj2⟩:=hJ t ht
   obtain ⟨s,wk⟩:=Qox tw ht hj1 hj2
   have hs:=wk.sl
   have hup:(upJ J t).length<=t:=by have:=List.length_filter_le (λi=>decide (i<J i)) (List.range t);rw [List.length_range] at this;exact this
   have es:D.tup [.int (-1),.int (t:Int)]=spD m (4*m+t):=by unfold spD;rw [M.Qa9]
   simp only [gN,wSeq,wSet,Qa1,Int.zero_add,List.set_cons_succ,List.set_cons_zero,look,Zj,Qu,wTup,Qd,wUn,wC,wNil,List.length_cons,List.length_nil,Nat.zero_add,Nat.reduceAdd,sz2,D.pure,Qj,Bool.and_true,Qay,List.cons_append,List.nil_append,wIf,Xa,wMt,true_and,Ja,Yd,r_bl,wBin,Qps,Bool.true_and,Int.reduceNeg,Qpo,BEq.rfl,Qn,Qss,Qf4]
   rw [es]
   simp only [hpu,true_and]
   refine ⟨m,e,A,g,W,r,T,S,4*m+t,s,some (J t),rfl,tw,hT,by omega,by omega,hW,by omega,wk,by omega,hpu,λS' hl' hpu' hsn'=>?_⟩
   have hsn2:∀q,q<4*m+e->(seen S' m q↔Seen m e g W (t+1) 0 q):=λq hq=>by
    rw [hsn' q,hsn q hq,Qo0 tw ht hj1 wk.fin.2 hq]
    constructor
    ·rintro ((⟨i,h1,h2⟩ | ⟨_,h,_⟩) | h)
     ·exact .inl ⟨i,by omega,h2⟩
     ·exact absurd h (Nat.not_lt_zero _)
     ·exact .inl ⟨t,by omega,h⟩
    ·rintro (⟨i,h1,h2⟩ | ⟨_,h,_⟩)
     ·by_cases z:i=t
      ·subst z;exact .inr h2
      ·exact .inl (.inl ⟨i,by omega,h2⟩)
     ·exact absurd h (Nat.not_lt_zero _)
   simp only [resD,D.pure,true_and,Qeu,Y8]
   rw [Qil]
   by_cases hlt:t<J t
   ·have hI:(t:Int)<(J t:Int):=by omega
    simp only [hI,decide_true,hlt,reduceIte]
    exact ⟨Jo (by rw [List.length_map];omega),S',some (.int t),some (.int (J t)),by rw [List.map_append];rfl,ht,by omega,hpu',hsn2⟩
   ·have hI:¬(t:Int)<(J t:Int):=by omega
    simp only [hI,decide_false,Bool.false_eq_true,hlt,reduceIte]
    exact ⟨S',some (.int t),some (.int (J t)),by rw [List.append_nil],ht,by omega,hpu',hsn2⟩
  ·rintro ρ ⟨S,o5,o6,rfl,hte,hl,hpu,hsn⟩
   rw [Jz] at hl hsn ⊢
   have l1:((List.range m).map (crD A)).length=m:=by simp
   simp only [wSeq,wSet,Qu,wBin,wC,Uc,Uv,Qd,Qv,wNil,Ja,look,List.set_cons_succ,List.set_cons_zero,Qn,Qkv,Qdv,Zr,Int.reducePow,Int.reduceNeg,Int.toNat_natCast,Qpm,D.pure,true_and]
   rw [l1]
   refine ⟨by omega,by omega,Y9,λc ρ=>∃(S:List (List Key × D)) (o8 o9:Option D),ρ=[some (webD m e A r),some (.lst (Yi m W)),some (.dik T),some (.dit S),some (.lst ((upJ J e).map (prJ J))),o5,o6,some (.int (r+(cl m e g W (4*c):Nat))),o8,o9]/\c<=m/\S.length<=150*(e+4*c)/\(S.all λkv=>kv.2.pure)=true/\∀q,q<4*m+e->(seen S m q↔Seen m e g W e (4*c) q),⟨S,none,none,by simp [cl],Nat.zero_le _,by omega,hpu,hsn⟩,?_,?_⟩
   ·rintro c d ρ hd ⟨S,o8,o9,rfl,hcm,hl,hpu,hsn⟩
    obtain ⟨hc,rfl⟩:=Z2 hd
    simp only [gN,List.set_cons_succ,List.set_cons_zero,Uc,Uv,Qd,wC,wNil,Zr,Int.reducePow,Int.reduceNeg,Int.reduceLE,Int.reduceLT,Int.reduceToNat,true_and]
    refine ⟨Y9,λj ρ=>∃(S:List (List Key × D)) (o9:Option D),ρ=[some (webD m e A r),some (.lst (Yi m W)),some (.dik T),some (.dit S),some (.lst ((upJ J e).map (prJ J))),o5,o6,some (.int (r+(cl m e g W (4*c+j):Nat))),some (.int (0+(c:Int))),o9]/\j<=4/\S.length<=150*(e+(4*c+j))/\(S.all λkv=>kv.2.pure)=true/\∀q,q<4*m+e->(seen S m q↔Seen m e g W e (4*c+j) q),⟨S,o9,rfl,by decide,hl,hpu,hsn⟩,?_,?_⟩
    ·rintro j d ρ hd ⟨S,o9,rfl,hj4,hl,hpu,hsn⟩
     obtain ⟨hj,rfl⟩:=Z2 hd
     have hj:j<4:=hj
     have hp:4*c+j<4*m:=by omega
     have es:D.tup [.int (c:Int),.int (j:Int)]=spD m (4*c+j):=by unfold spD;rw [M.Qba hc hj]
     simp only [gN,wIf,Int.zero_add,List.set_cons_succ,List.set_cons_zero,wSeq,Xa,Qa1,Zj,Qu,wTup,Qd,wNil,List.length_cons,List.length_nil,Nat.zero_add,Nat.reduceAdd,sz2,D.pure,Qj,Bool.and_true,Qay,List.cons_append,List.nil_append,wSet,wBin,wC,Ja,true_and,Yd,r_bl,look,Qn,Zn,Qf4,Qpy,Y8,Za,Option.map_some]
     have ek:([.inl (c:Int),.inl (j:Int)]:List Key)=ksP m (4*c+j):=by unfold ksP;rw [M.Qba hc hj]
     rw [es,ek]
     have hself:=hsn (4*c+j) (by omega)
     have hrp:=Qpi (W:=W) tw hp
     cases hv:(valD S (ksP m (4*c+j))).isSome with
     | true =>
      have hin:Seen m e g W e (4*c+j) (4*c+j):=hself.mp hv
      simp only [Bool.xor_true,Bool.not_true,Bool.false_eq_true,reduceIte]
      refine ⟨S,some (.int j),by rw [← Nat.add_assoc,Qtx (λz=>(hrp.mp z) hin)],hj,by omega,hpu,λq hq=>(hsn q hq).trans ⟨Seen.more,?_⟩⟩
      rintro (h | ⟨p',h1,h2⟩)
      ·exact .inl h
      ·by_cases z:p'=4*c+j
       ·subst z
        rcases hin with ⟨i,a1,a2⟩ | ⟨p2,a1,a2⟩
        ·exact .inl ⟨i,a1,a2.trans h2⟩
        ·exact .inr ⟨p2,a1,a2.trans h2⟩
       ·exact .inr ⟨p',by omega,h2⟩
     | false =>
      have hout:¬Seen m e g W e (4*c+j) (4*c+j):=λz=>by have:=hself.mpr z;unfold seen at this;rw [hv] at this;cases this
      have hn:∀i,i<e->¬Re (Gx m e g) (Ox m e W) (4*c+j) (4*m+i):=λi hi hr=>hout (.inl ⟨i,hi,hr.symm wv (by omega)⟩)
      obtain ⟨s,wk⟩:=Qly (W:=W) tw hp λq hq=>Qku tw hp hq hn
      have hs:=wk.sl
      simp only [Bool.xor_false,hpu,true_and,reduceIte]
      refine ⟨m,e,A,g,W,r,T,S,4*c+j,s,none,rfl,tw,hT,by omega,by omega,hW,by omega,wk,by omega,hpu,λS' hl' hpu' hsn'=>?_⟩
      simp only []
      refine ⟨S',some (.int j),by rw [← Nat.add_assoc,Qr0 (hrp.mpr hout),Int.natCast_add,Int.add_assoc];rfl,hj,by omega,hpu',λq hq=>?_⟩
      rw [hsn' q,hsn q hq,Ql6 tw hp wk.fin.2]
      constructor
      ·rintro (h | h)
       ·exact h.more
       ·exact .inr ⟨4*c+j,by omega,h⟩
      ·rintro (h | ⟨p',h1,h2⟩)
       ·exact .inl (.inl h)
       ·by_cases z:p'=4*c+j
        ·subst z;exact .inr h2
        ·exact .inl (.inr ⟨p',by omega,h2⟩)
    ·rintro ρ ⟨S,o9,rfl,_,hl,hpu,hsn⟩
     exact ⟨S,_,_,rfl,hc,hl,hpu,hsn⟩
   ·rintro ρ ⟨S,o8,o9,rfl,hcm,hl,hpu,hsn⟩
    simp only [wRet,Qu,wTup,Qd,Qv,Jz,wNil,List.length_cons,List.length_nil,Nat.zero_add,Nat.reduceAdd,sz2,D.pure,Qj,Bool.and_true,true_and,Ja,look,Qn,Xm]
    have pu:Qj ((upJ J e).map (prJ J))=true:=Qs λi _=>by unfold prJ;simp only [D.pure,Qj,Bool.and_self]
    unfold Gk at k
    rw [← Qr1 tw] at k
    exact ⟨pu,pu,k⟩
def Jr:GA:=λds k=>∃i:Int,ds=[.int i]/\k (.bl true)
abbrev Jb:Stmt:=top 18
theorem X8:FnScope ["_law_found"] ["_law_found"] (Qc Jb):=⟨rfl,rfl,rfl,by decide +kernel,rfl,by decide +kernel,by decide +kernel⟩
def Ur:Tg:={ own:=λi=>false,io:=[] }
def Ul:WS:=(wRet (Ql5 (Qv dIsi (Qd (wVar 0) (Qd (wC (.ty .int)) wNil))) (Ql2 (Qv dIsi (Qd (wVar 0) (Qd (wC (.ty .bool)) wNil))))))
theorem Qcb {P:Program} {w:World} {K:PySem.W.Frag} {mg:Str->Option Value} {base:Heap} {f:Addr} (B:Bn K mg):∀(cdv:Value) (A:Around) (outer:List PySem.Env) (s:Shared) (H:Hp) (E:XK),Room 0 (A.deeper (envOfC "_law_whole" (Qc Jb) s.heap.objs.size f cdv))->SVs (cxOf CX0 P w K mg base ["_law_found"] "_law_whole" (Qc Jb) f cdv A outer s H E).nox Ur (Qq Jb) Ul:=λcdv A outer s H E hr =>
  (Qp (J2 (Qru (Ju Qb4 B.nb_isinstance J9 (Qa (Qb 0) (Qa (Qhe .int B.nb_int Qh9) Qf))) (Qrr (Qrs (Ju Qb4 B.nb_isinstance J9 (Qa (Qb 0) (Qa (Qhe .bool B.nb_bool Qos) Qf))))))))
theorem Qaf {P:Program} {w:World} {K:PySem.W.Frag} {mg:Str->Option Value} {base:Heap} {f:Addr} {fd:FuncData} (F:Fun K "_law_whole" "_law_whole" Jb f fd) (B:Bn K mg):FnOk P w K mg base CX0 1 f fd ["_law_found"] (spR K Jr):=by
 refine Qe7 (T:=Ur) F X8 rfl (by decide) (λds kk h=>?_) (Qcb B) (λds kk h=>?_)
 ·obtain ⟨i,rfl,_⟩:=h
  rfl
 ·obtain ⟨i,rfl,k⟩:=h
  simp only [Ul,wRet,env0,List.map_cons,List.map_nil,List.length_cons,List.length_nil,Nat.zero_add,List.cons_append,List.nil_append,Qp1,Qv,Qd,wC,wNil,Qpr,Qmy,isiD,Y8,Ja,look,Qn,BEq.rfl,reduceIte]
  exact k
end K31
namespace K31
open PySem PySem.Spec L2 PV Ly
open PyProof.Rows (envOfC)
theorem Qfb {ds:List D} {wt:WT} {we:WE} {ρ1:PV.Env} {ix:List Nat} {Q:D->PV.Env->Prop} (ht:∀d∈ds,∀k:Bool->PV.Env->Prop,k false (blkE ρ1 d ix)->wt (blkE ρ1 d ix) k) (hQ:Q (.lst []) ρ1):Qoq ds wt we ρ1 ix Q:=by
 refine ⟨λi ys=>ys=[],rfl,λi d ys hd hy=>⟨by rw [hy];decide,ht d (List.mem_of_getElem? hd) _ ?_⟩,λys hy=>⟨by rw [hy];decide,by rw [hy];exact hQ⟩⟩
 rw [if_neg (by decide)]
 exact hy
theorem Qhj {m e:Nat} {g W J:Nat->Nat} {r:Int}:eqOk 9 (Gk m e g W J r)=true:=by
 have:Va 7 ((upJ J e).map λ(i:Nat)=>D.tup [.int (i:Int),.int (J i:Int)])=true:=Qbz.mpr λx hx=>by
  obtain ⟨i,_,rfl⟩:=List.mem_map.mp hx
  rfl
 show (Va 7 _ && (true && true))=true
 rw [this];rfl
def Qhd:GA:=λds k=>∃ns:List Int,ds=[.kls (ns.map .int)]/\ns.length<=63/\k (.bl true)
abbrev Vv:Stmt:=top 19
theorem Uu:FnScope ["_law_script","_law_cell","_law_row","_law_web_here","_law_ways","_law_found","_law_two"] ["_law_script"] (Qc Vv):=⟨rfl,rfl,rfl,by decide +kernel,rfl,by decide +kernel,by decide +kernel⟩
def Qo8:Tg:={ own:=λi=>i == 1 || i == 2 || i == 3 || i == 4 || i == 5 || i == 6,io:=[] }
def Qoz:WS:=(wSeq (wFor (Ua (wBin Y6 (wLst (Qd (wC (.int 0)) wNil)) (wSlT (wVar 0) Qer (Qci (wC (.int 63)))))) (gN 1) (wSeq (wSet 2 (wLst (Qd (Qu (wVar 1)) (Qd (wC (.int 0)) wNil))))
 (wSeq (wSet 3 (Qw 2 Zb (Jg 2 (Qd (wBin dIx (wLst (Qd (Qw 2 Qm (Jg 2 (Qd (wC (.int 5)) wNil))) (Qd (Qw 2 Qm (Jg 2 (Qd (wC (.int 13)) wNil))) wNil))) (Qv dInt (Qd (wBin dEq (Qw 2 Qm (Jg 2 (Qd (wC (.int 5)) wNil))) (wC (.int 1))) wNil))) (Qd (wBin dMul (wC (.int 2)) (Qw 2 Qm (Jg 2 (Qd (wC (.int 5)) wNil)))) wNil)))))
 (wSeq (wSet 4 (Qdh 2 0 (Ua (Qu (wBin dIx (wVar 3) (wC (.int 0))))) (Qw 1 Qm (Jg 1 (Qd (wC (.int 2)) wNil))) [2]))
 (wSeq (wIf (wBl (wBin dEq (Qw 2 Qm (Jg 2 (Qd (wC (.int 6)) wNil))) (wC (.int 1)))) (wSet 4 (wBin dMul (wLst (Qd (Qw 2 Qm (Jg 2 (Qd (wC (.int 2)) wNil))) wNil)) (Qv dLen (Qd (wBin dIx (wVar 3) (wC (.int 0))) wNil)))) Yd)
 (wSeq (wSet 5 (Qv Z5 (Qd (wVar 3) (Qd (Qv Vc (Qd (wVar 4) wNil)) wNil))))
 (wSeq (wIf (wOr (wNot (wTru (Qv dIsi (Qd (wVar 5) (Qd (wC (.ty .tuple)) wNil))))) (wOr (wBl (wBin dNe (Qv dLen (Qd (wVar 5) wNil)) (wC (.int 2)))) (wNot (wTru (Qv dIsi (Qd (wBin dIx (wVar 5) (wC (.int 0))) (Qd (wC (.ty .tuple)) wNil))))))) (wRet (wC (.bl false))) Yd)
 (wSeq (wFor (Ua (Qu (wBin dIx (wVar 5) (wC (.int 0))))) (gN 6) (wIf (wOr (wNot (wTru (Qv dIsi (Qd (wVar 6) (Qd (wC (.ty .tuple)) wNil))))) (wBl (wBin dNe (Qa0 (Ua (wVar 6)) (wNot (wTru (Qv Jr (Qd (wVar 0) wNil)))) (Qu (wVar 0)) []) (wLst wNil)))) (wRet (wC (.bl false))) Yd))
 (wIf (wOr (wNot (wTru (Qv Jr (Qd (wBin dIx (wVar 5) (wC (.int 1))) wNil)))) (wBl (wBin dNe (wVar 5) (Qv J4 (Qd (wVar 3) (Qd (wVar 4) wNil)))))) (wRet (wC (.bl false))) Yd)))))))))
 (wRet (wC (.bl true))))
theorem Qtz {P:Program} {w:World} {K:PySem.W.Frag} {mg:Str->Option Value} {base:Heap} {f:Addr} (B:Bn K mg) (C_opened:Cal P w K mg base "opened" 3 ["web","ways"] (spR K Z5)) (C__law_take:Cal P w K mg base "_law_take" 1 ["_law_row","_law_base"] (spI K 0 Qm)) (C__law_web:Cal P w K mg base "_law_web" 3 ["_law_row","_law_many","_law_ends"] (spI K 0 Zb)) (C__law_opened:Cal P w K mg base "_law_opened" 3 ["_law_web_here","_law_ways"] (spR K J4)) (C__law_whole:Cal P w K mg base "_law_whole" 1 ["_law_found"] (spR K Jr)):∀(cdv:Value) (A:Around) (outer:List PySem.Env) (s:Shared) (H:Hp) (E:XK),Room 3 (A.deeper (envOfC "law" (Qc Vv) s.heap.objs.size f cdv))->SVs (cxOf CX0 P w K mg base ["_law_script","_law_cell","_law_row","_law_web_here","_law_ways","_law_found","_law_two"] "law" (Qc Vv) f cdv A outer s H E).nox Qo8 (Qq Vv) Qoz:=λcdv A outer s H E hr =>
  (Qg (Zl PassesOwn.never (Gq (Q9 Jv (Yl (Qa Qe Qf)) (Qhf (Qb 0) Qgh (Qad Qe)))) (J6 (i:=1) Uu.nd) (Qg (Q7 (i:=2) (Yl (Qa (Qt (Qb 1)) (Qa Qe Qf))) Uu.nd)
  (Qg (Q7 (i:=3) (Q1 C__law_web (hr.mono (by decide)) (Jl (i:=2) (Qa (Qy (Q3 (Qo hr)) (Yl (Qa (Q1 C__law_take (hr.mono (by decide)) (Jl (i:=2) (Qa Qe Qf))) (Qa (Q1 C__law_take (hr.mono (by decide)) (Jl (i:=2) (Qa Qe Qf))) Qf))) (J7 Qlr B.nb_int Qh9 (Qa (Qlk (Qgo hr.units) (Q1 C__law_take (hr.mono (by decide)) (Jl (i:=2) (Qa Qe Qf))) Qe) Qf))) (Qa (Q9 Yt Qe (Q1 C__law_take (hr.mono (by decide)) (Jl (i:=2) (Qa Qe Qf)))) Qf)))) Uu.nd)
  (Qg (Qdo (j:=4) (Qj7 [2] 2 0 (Gq (Qt (Qy (Q3 (Qo hr)) (Qb 3) Qe))) (λ_ _ _ _ _=>(Q1 C__law_take (hr.mono (by decide)) (Jl (i:=1) (Qa Qe Qf))))) (Z9 (Qc Vv) ["_law_script","_law_cell","_law_row","_law_web_here","_law_ways","_law_found","_law_two"] (by decide +kernel)) Uu.nd)
  (Qg (Gb (Zk (Qgo hr.units) (Q1 C__law_take (hr.mono (by decide)) (Jl (i:=2) (Qa Qe Qf))) Qe) (Qp (Q7 (i:=4) (Q9 Yt (Yl (Qa (Q1 C__law_take (hr.mono (by decide)) (Jl (i:=2) (Qa Qe Qf))) Qf)) (Ju G0 B.nb_len G3 (Qa (Qy (Q3 (Qo hr)) (Qb 3) Qe) Qf))) Uu.nd)) Yr)
  (Qg (Q7 (i:=5) (Z7 C_opened (hr.mono (by decide)) (Qa (Qb 3) (Qa (J7 Zi B.nb_tuple Yh (Qa (Qb 4) Qf)) Qf))) Uu.nd)
  (Qg (Gb (Qck (Qka (Qa4 (Xi (Ju Qb4 B.nb_isinstance J9 (Qa (Qb 5) (Qa (Qhe .tuple B.nb_tuple Yh) Qf))))) (Qka (Zk (Qnr hr.units) (Ju G0 B.nb_len G3 (Qa (Qb 5) Qf)) Qe) (Qh7 (Qa4 (Xi (Ju Qb4 B.nb_isinstance J9 (Qa (Qy (Q3 (Qo hr)) (Qb 5) Qe) (Qa (Qhe .tuple B.nb_tuple Yh) Qf))))))))) (Qp (J2 Qc2)) Yr)
  (Qg (Zl PassesOwn.never (Gq (Qt (Qy (Q3 (Qo hr)) (Qb 5) Qe))) (J6 (i:=6) Uu.nd) (Qp (Gb (Qck (Qka (Qa4 (Xi (Ju Qb4 B.nb_isinstance J9 (Qa (Qb 6) (Qa (Qhe .tuple B.nb_tuple Yh) Qf))))) (Qh7 (Zk (Qnr hr.units) (Qeg (Qc6 [] (Gq (Qb 6)) (λ_ _ _ _ _=>Qlo (Qa4 (Xi (Z7 C__law_whole (hr.mono (by decide)) (Qa (Qb 0) Qf))))) (λ_ _ _ _ _=>(Qt (Qb 0)))) (Z9 (Qc Vv) ["_law_script","_law_cell","_law_row","_law_web_here","_law_ways","_law_found","_law_two"] (by decide +kernel))) (Yl Qf))))) (Qp (J2 Qc2)) Yr)))
  (Qp (Gb (Qck (Qka (Qa4 (Xi (Z7 C__law_whole (hr.mono (by decide)) (Qa (Qy (Q3 (Qo hr)) (Qb 5) Qe) Qf)))) (Qh7 (Zk (Qnr hr.units) (Qb 5) (Z7 C__law_opened (hr.mono (by decide)) (Qa (Qb 3) (Qa (Qb 4) Qf))))))) (Qp (J2 Qc2)) Yr))))))))))
  (Qp (J2 Qc2)))
def Qmb:WS:=(wSeq (wFor (Ua (Qu (wBin dIx (wVar 5) (wC (.int 0))))) (gN 6) (wIf (wOr (wNot (wTru (Qv dIsi (Qd (wVar 6) (Qd (wC (.ty .tuple)) wNil))))) (wBl (wBin dNe (Qa0 (Ua (wVar 6)) (wNot (wTru (Qv Jr (Qd (wVar 0) wNil)))) (Qu (wVar 0)) []) (wLst wNil)))) (wRet (wC (.bl false))) Yd))
 (wIf (wOr (wNot (wTru (Qv Jr (Qd (wBin dIx (wVar 5) (wC (.int 1))) wNil)))) (wBl (wBin dNe (wVar 5) (Qv J4 (Qd (wVar 3) (Qd (wVar 4) wNil)))))) (wRet (wC (.bl false))) Yd))
def Qma:WS:=(wSeq (wSet 5 (Qv Z5 (Qd (wVar 3) (Qd (Qv Vc (Qd (wVar 4) wNil)) wNil))))
 (wSeq (wIf (wOr (wNot (wTru (Qv dIsi (Qd (wVar 5) (Qd (wC (.ty .tuple)) wNil))))) (wOr (wBl (wBin dNe (Qv dLen (Qd (wVar 5) wNil)) (wC (.int 2)))) (wNot (wTru (Qv dIsi (Qd (wBin dIx (wVar 5) (wC (.int 0))) (Qd (wC (.ty .tuple)) wNil))))))) (wRet (wC (.bl false))) Yd)
 Qmb))
theorem Qq6:Qoz=(wSeq (wFor (Ua (wBin Y6 (wLst (Qd (wC (.int 0)) wNil)) (wSlT (wVar 0) Qer (Qci (wC (.int 63)))))) (gN 1) (wSeq (wSet 2 (wLst (Qd (Qu (wVar 1)) (Qd (wC (.int 0)) wNil))))
 (wSeq (wSet 3 (Qw 2 Zb (Jg 2 (Qd (wBin dIx (wLst (Qd (Qw 2 Qm (Jg 2 (Qd (wC (.int 5)) wNil))) (Qd (Qw 2 Qm (Jg 2 (Qd (wC (.int 13)) wNil))) wNil))) (Qv dInt (Qd (wBin dEq (Qw 2 Qm (Jg 2 (Qd (wC (.int 5)) wNil))) (wC (.int 1))) wNil))) (Qd (wBin dMul (wC (.int 2)) (Qw 2 Qm (Jg 2 (Qd (wC (.int 5)) wNil)))) wNil)))))
 (wSeq (wSet 4 (Qdh 2 0 (Ua (Qu (wBin dIx (wVar 3) (wC (.int 0))))) (Qw 1 Qm (Jg 1 (Qd (wC (.int 2)) wNil))) [2]))
 (wSeq (wIf (wBl (wBin dEq (Qw 2 Qm (Jg 2 (Qd (wC (.int 6)) wNil))) (wC (.int 1)))) (wSet 4 (wBin dMul (wLst (Qd (Qw 2 Qm (Jg 2 (Qd (wC (.int 2)) wNil))) wNil)) (Qv dLen (Qd (wBin dIx (wVar 3) (wC (.int 0))) wNil)))) Yd)
 Qma)))))
 (wRet (wC (.bl true)))):=rfl
theorem Qio {P:EndsP} {ns:List Int} {c:Int} {row:D} {m e:Nat} {A:Nat->Int} {g W J:Nat->Nat} {r:Int} {o6:Option D} (tw:M.Tw (4*m+e) A g) (hm:m<=12) (he:e<=8) (hW:∀k,k<m->W k<=1) (hJ:Jn m e g W J)
  (h:∀o6,P.nx [some (.kls (ns.map .int)),some (.int c),some row,some (webD m e A r),some (.lst (Yi m W)),some (Gk m e g W J r),o6]):Qmb P [some (.kls (ns.map .int)),some (.int c),some row,some (webD m e A r),some (.lst (Yi m W)),some (Gk m e g W J r),o6]:=by
 have po:Qj ((upJ J e).map λ(i:Nat)=>D.tup [.int (i:Int),.int (J i:Int)])=true:=Qs λi _=>by simp only [D.pure,Qj,Bool.and_self]
 have hop:Gk m e g W J r=.tup [.tup ((upJ J e).map λ(i:Nat)=>D.tup [.int (i:Int),.int (J i:Int)]),.int (r+(rc (4*m+e+2*e) (Gx m e g) (Ox m e W) (Sf m e):Nat))]:=rfl
 have hok:=Qhj (m:=m) (e:=e) (g:=g) (W:=W) (J:=J) (r:=r)
 have ix0:∀k:D->Prop,dIx (Gk m e g W J r) (.int 0) k=k (.tup ((upJ J e).map λ(i:Nat)=>D.tup [.int (i:Int),.int (J i:Int)])):=λk=>rfl
 have ix1:∀k:D->Prop,dIx (Gk m e g W J r) (.int 1) k=k (.int (r+(rc (4*m+e+2*e) (Gx m e g) (Ox m e W) (Sf m e):Nat))):=λk=>rfl
 simp only [Qmb,wSeq,Uc,Qbd,Qu,wBin,wC,Ja,look,Qn,ix0,D.pure,po,Qdu,true_and]
 refine ⟨λt ρ=>∃o6,ρ=[some (.kls (ns.map .int)),some (.int c),some row,some (webD m e A r),some (.lst (Yi m W)),some (Gk m e g W J r),o6],⟨o6,rfl⟩,?_,?_⟩
 ·rintro t d ρ hd ⟨o6,rfl⟩
  rw [List.getElem?_map] at hd
  obtain ⟨i,_,rfl⟩:=Option.map_eq_some_iff.mp hd
  simp only [gN,wIf,wOr,wNot,List.set_cons_succ,List.set_cons_zero,wRet,wC,Yd,reduceIte,r_bl,wBin,wLst,wNil,List.length_nil,sz0,true_and,Qf6,Qbd,Ja,Qfv,Qv,Qd,Qmy,isiD,Qdt,look,Qn,Qdu,Qj,D.pure,Bool.and_self,BEq.rfl,Bool.not_true,Bool.false_eq_true]
  refine Qfb (λd hd k' hk=>?_) ?_
  ·obtain ⟨x,rfl⟩:∃x:Int,d=.int x:=by
    rcases List.mem_cons.mp hd with z | z
    ·exact ⟨_,z⟩
    ·exact ⟨_,List.mem_singleton.mp z⟩
   simp only [wNot,blkE,List.map_nil,Qfv,Qv,Qd,wNil,Ja,look,Qn]
   exact ⟨x,rfl,hk⟩
  ·simp only [Qso,Y8,Bool.false_eq_true,reduceIte]
   exact ⟨rfl,rfl,λ_=>⟨_,rfl⟩,λz=>absurd rfl z⟩
 ·rintro ρ ⟨o6,rfl⟩
  simp only [wIf,wOr,wNot,wRet,wC,Yd,reduceIte,r_bl,wBin,Qv,Qd,wNil,Ja,Qfv,look,Qn,ix1]
  refine ⟨_,rfl,?_⟩
  simp only [Qdt,Bool.not_true,Bool.false_eq_true,reduceIte]
  refine ⟨m,e,A,g,W,J,r,rfl,tw,hm,he,hW,hJ,?_⟩
  exact ⟨hok,hok,λ_=>h o6,λz=>absurd rfl z⟩
theorem Qfn {P:EndsP} {ns:List Int} {c:Int} {row:D} {m e:Nat} {A:Nat->Int} {g W:Nat->Nat} {r:Int} {o5 o6:Option D} (tw:M.Tw (4*m+e) A g) (hm:m<=12) (he:e<=8) (hW:∀k,k<m->W k<=1)
  (h:∀o5 o6,P.nx [some (.kls (ns.map .int)),some (.int c),some row,some (webD m e A r),some (.lst (Yi m W)),o5,o6]):Qma P [some (.kls (ns.map .int)),some (.int c),some row,some (webD m e A r),some (.lst (Yi m W)),o5,o6]:=by
 have pw:Qj (Yi m W)=true:=Qs λ_ _=>rfl
 simp only [Qma,wSeq,wSet,Qv,Qd,wNil,wIf,wOr,wNot,wRet,wC,Yd,reduceIte,Qfv,wBin,Qmy,isiD,Qdt,Ja,r_bl,look,List.set_cons_succ,List.set_cons_zero,Qn,Xm,pw,true_and]
 refine ⟨m,e,A,g,W,r,rfl,tw,by omega,by omega,hW,λJ hJ=>?_⟩
 exact Qio tw hm he hW hJ λo6=>h _ o6
theorem Qqu {P:Program} {w:World} {K:PySem.W.Frag} {mg:Str->Option Value} {base:Heap} {f:Addr} {fd:FuncData} (F:Fun K "law" "law" Vv f fd) (B:Bn K mg) (C1:Cal P w K mg base "opened" 3 ["web","ways"] (spR K Z5)) (C2:Cal P w K mg base "_law_take" 1 ["_law_row","_law_base"] (spI K 0 Qm)) (C3:Cal P w K mg base "_law_web" 3 ["_law_row","_law_many","_law_ends"] (spI K 0 Zb)) (C4:Cal P w K mg base "_law_opened" 3 ["_law_web_here","_law_ways"] (spR K J4)) (C5:Cal P w K mg base "_law_whole" 1 ["_law_found"] (spR K Jr)):FnOk P w K mg base CX0 4 f fd ["_law_script"] (spR K Qhd):=by
 refine Qe7 (T:=Qo8) F Uu rfl (by decide) (λds kk h=>?_) (Qtz B C1 C2 C3 C4 C5) (λds kk h=>?_)
 ·obtain ⟨ns,rfl,_⟩:=h
  rfl
 ·obtain ⟨ns,rfl,hns,k⟩:=h
  have ec:cutD (ns.map D.int) none (some 63)=(ns.take 63).map D.int:=by
   have:cutD (ns.map D.int) none (some ((63:Nat):Int))=(ns.map D.int).take 63:=Qrz
   rw [List.map_take,← this];rfl
  have el:(ns.take 63).length<=63:=by rw [List.length_take];omega
  simp only [Qq6,env0,List.map_cons,List.map_nil,List.length_cons,List.length_nil,Nat.zero_add,Nat.reduceAdd,List.replicate,List.cons_append,List.nil_append,wSeq,Uc,Qbd,wBin,wLst,Qd,wC,wNil,sz1,wSlT,Qer,Qfw,Qco,Ja,look,Qn,Qp4,Vx,ec,Qm4,Qj,D.pure,Bool.and_self,Qkw,true_and]
  refine ⟨Nat.le_of_lt (Jo (by rw [List.length_map];omega)),λt ρ=>∃o1 o2 o3 o4 o5 o6:Option D,ρ=[some (.kls (ns.map .int)),o1,o2,o3,o4,o5,o6],⟨_,_,_,_,_,_,rfl⟩,?_,?_⟩
  ·rintro t d ρ hd ⟨o1,o2,o3,o4,o5,o6,rfl⟩
   obtain ⟨c,rfl⟩:∃c,d=.int c:=by
    rcases List.mem_cons.mp (List.mem_of_getElem? hd) with z | z
    ·exact ⟨_,z⟩
    ·obtain ⟨c,_,rfl⟩:=List.mem_map.mp z
     exact ⟨c,rfl⟩
   simp only [gN,wSeq,wSet,wLst,Qd,Qu,List.set_cons_succ,List.set_cons_zero,wC,wNil,List.length_cons,List.length_nil,Nat.zero_add,Nat.reduceAdd,sz2,Qw,Jg,wBin,Qj,D.pure,Bool.and_self,List.nil_append,Qv,Bool.and_true,Qdh,true_and,wIf,sz1,Ja,Yd,r_bl,Qbd,look,Option.isSome_some,Qn,Zf]
   refine ⟨c,0,5,rfl,by decide,by decide,by decide,by decide,λc1 r1 a1 b1=>?_⟩
   simp only [rowD,Int.reduceAdd,Zf,Qj,D.pure,Bool.and_self,true_and]
   refine ⟨c1,0+1,13,rfl,by decide,by decide,by decide,by decide,λc2 r2 a2 b2=>?_⟩
   simp only [rowD,Int.reduceAdd,Zf,Qj,D.pure,Bool.and_self,true_and]
   refine ⟨c2,0+1+1,5,rfl,by decide,by decide,by decide,by decide,λc3 r3 a3 b3=>?_⟩
   simp only [rowD,Int.reduceAdd,Zf,Qj,D.pure,Bool.and_self,true_and,Qpz,Qf2,Qcn]
   obtain ⟨m,hm,hat⟩:∃m:Nat,m<=12/\L2.atI [D.int r1,D.int r2] (if decide (r3=1)=true then 1 else 0)=some (.int (m:Int)):=by
    split
    ·exact ⟨r2.toNat,by omega,by rw [V7,show ((r2.toNat:Nat):Int)=r2 by omega];rfl⟩
    ·exact ⟨r1.toNat,by omega,by rw [V8,show ((r1.toNat:Nat):Int)=r1 by omega];rfl⟩
   rw [hat]
   simp only [Qn,D.pure,Bool.true_and]
   refine ⟨c3,3,5,rfl,by decide,by decide,by decide,by decide,λc4 r4 a4 b4=>?_⟩
   obtain ⟨h4,rfl⟩:=Int.eq_ofNat_of_zero_le a4
   have e4:(2:Int)*(h4:Int)=((2*h4:Nat):Int):=by omega
   simp only [rowD,Int.reduceAdd,Zf,Qj,D.pure,Bool.and_self,true_and,Int.reduceNeg,Int.reduceLT,Gf,e4]
   refine ⟨c4,4,m,2*h4,rfl,by omega,by omega,by omega,by decide,by decide,λc5 n5 A g r tw hA hr hn1 hn2=>?_⟩
   simp only [rowD,Zf,Qj,D.pure,Bool.and_self,Qkv,Qdv,Qkx,Bool.and_true,Int.reducePow,Int.reduceNeg,List.length_cons,List.length_nil,Nat.zero_add,Int.toNat_natCast,true_and,Qdu]
   have pcr:∀i,(crD A i).pure=true:=λi=>by unfold crD;simp only [D.pure];exact Qs λ_ _=>rfl
   have pc:Qj ((List.range m).map (crD A))=true:=Qs λi _=>pcr i
   refine ⟨pc,pc,pc,λk ys dd=>∃(c':Int) (Wl:List Nat),ys=Wl.map (λ(x:Nat)=>D.int (x:Int))/\Wl.length=k/\k<=m/\(∀x∈Wl,x<=1)/\dd=rowD c' (n5+(k:Int)),⟨c5,[],rfl,rfl,Nat.zero_le _,λ_ h=>(nomatch h),by simp [rowD]⟩,?_,?_⟩
   ·rintro i d ys dd hd ⟨c',Wl,rfl,hwl,him,hw1,rfl⟩
    have hi:i<m:=by have:=(List.getElem?_eq_some_iff.mp hd).1;simpa using this
    simp only [blkE,rowD,List.map_cons,look,List.map_nil,Option.isSome_some,List.set_cons_succ,List.set_cons_zero,Qn,Zf,Qj,D.pure,Bool.and_self,true_and]
    refine ⟨Jo (by rw [List.length_map];omega),c',n5+(i:Int),2,rfl,by decide,by decide,by omega,by omega,λc6 r6 a6 b6=>?_⟩
    obtain ⟨x,rfl⟩:=Int.eq_ofNat_of_zero_le a6
    simp only [rowD,Zf,Qj,D.pure,Bool.and_self,true_and]
    refine ⟨c6,Wl++[x],by rw [List.map_append];rfl,by simp [hwl],hi,λy hy=>?_,by simp [Int.add_assoc]⟩
    rcases List.mem_append.mp hy with hy | hy
    ·exact hw1 y hy
    ·rw [List.mem_singleton.mp hy];omega
   rintro ys dd ⟨c',Wl,rfl,hwl,him,hw1,rfl⟩
   rw [List.length_map,List.length_range] at hwl
   have lm:((List.range m).map (crD A)).length=m:=by simp
   rw [lm]
   simp only [rowD,Zf,Qj,D.pure,Bool.and_self,Int.reduceNeg,true_and]
   refine ⟨Jo (by rw [List.length_map];omega) |> Nat.le_of_lt,c',n5+(m:Int),6,rfl,by decide,by decide,by omega,by omega,λc6 r6 a6 b6=>?_⟩
   simp only [rowD,Zf,Qj,D.pure,Bool.and_self,Int.reduceNeg,true_and,Qpz,Y8]
   split
   ·refine ⟨c6,n5+(m:Int)+1,2,rfl,by decide,by decide,by omega,by omega,λc7 r7 a7 b7=>?_⟩
    obtain ⟨x,rfl⟩:=Int.eq_ofNat_of_zero_le a7
    obtain ⟨W,hWe,hW⟩:∃W:Nat->Nat,(List.replicate m [D.int (x:Int)]).flatten=Yi m W/\∀k,k<m->W k<=1:=⟨λ_=>x,by unfold Yi;simp only [List.flatten_replicate_singleton];rw [List.map_const',List.length_range],λ_ _=>by show x<=1;omega⟩
    simp only [D.pure,Int.reduceNeg,rowD,hWe,true_and]
    refine ⟨by omega,by omega,Nat.le_of_lt (Jo (by omega)),Qfn tw hm (by omega) hW λo5 o6=>⟨_,_,_,_,_,_,rfl⟩⟩
   ·obtain ⟨W,hWe,hW⟩:∃W:Nat->Nat,Wl.map (λ(x:Nat)=>D.int (x:Int))=Yi m W/\∀k,k<m->W k<=1:=⟨λk=>Wl.getD k 0,by
      unfold Yi
      apply List.ext_getElem?
      intro i
      rw [List.getElem?_map,List.getElem?_map]
      by_cases h:i<m
      ·rw [List.getElem?_range h];simp [hwl,h]
      ·rw [List.getElem?_eq_none (by omega),List.getElem?_eq_none (by simpa using h)];rfl,λk hk=>by
      have:Wl.getD k 0=Wl[k]'(by omega):=by simp [List.getD_eq_getElem?_getD,hwl,hk]
      show Wl.getD k 0<=1
      rw [this];exact hw1 _ (List.getElem_mem _)⟩
    simp only [hWe]
    exact Qfn tw hm (by omega) hW λo5 o6=>⟨_,_,_,_,_,_,rfl⟩
  ·rintro ρ ⟨o1,o2,o3,o4,o5,o6,rfl⟩
   simp only [wRet,wC]
   exact k
end K31
namespace K31
open PySem PySem.Spec L2 PV
open PyProof.Rows (envOfC)
theorem Qr4 {l:PySem.W.OpenLaw} {w:World} {K:PySem.W.Frag} {h:Heap} {mg:Str->Option Value} {fa:Addr} (X:K.In h) (G:h.Ns mainGlobals mg) (hfa:mg "law" = some (.ref fa))
  {f1:Addr} {od1 an1:Option Addr} {sl1:Array (Option Value)} {oc1 kV1 dc1 pm1 cd1 ct1:Value}
  (a1:PySem.W.nsIn K mainGlobals "lay" = some (some (.ref f1))) (l1:K.lookup f1=some ⟨oc1,od1,.func (PySem.W.fnOf "lay" "lay" (Jk X9) (Qq X9) (Qc X9) .none kV1 dc1 pm1 an1 cd1 ct1),sl1⟩) (c1:PySem.W.codeIn K cd1 "lay" = true) (k1:PySem.W.keepIn K (.ref f1)=true)
  {f2:Addr} {od2 an2:Option Addr} {sl2:Array (Option Value)} {oc2 kV2 dc2 pm2 cd2 ct2:Value}
  (a2:PySem.W.nsIn K mainGlobals "joining_of" = some (some (.ref f2))) (l2:K.lookup f2=some ⟨oc2,od2,.func (PySem.W.fnOf "joining_of" "joining_of" (Jk Q6) (Qq Q6) (Qc Q6) .none kV2 dc2 pm2 an2 cd2 ct2),sl2⟩) (c2:PySem.W.codeIn K cd2 "joining_of" = true) (k2:PySem.W.keepIn K (.ref f2)=true)
  {f3:Addr} {od3 an3:Option Addr} {sl3:Array (Option Value)} {oc3 kV3 dc3 pm3 cd3 ct3:Value}
  (a3:PySem.W.nsIn K mainGlobals "open_crossing" = some (some (.ref f3))) (l3:K.lookup f3=some ⟨oc3,od3,.func (PySem.W.fnOf "open_crossing" "open_crossing" (Jk Q0) (Qq Q0) (Qc Q0) .none kV3 dc3 pm3 an3 cd3 ct3),sl3⟩) (c3:PySem.W.codeIn K cd3 "open_crossing" = true) (k3:PySem.W.keepIn K (.ref f3)=true)
  {f4:Addr} {od4 an4:Option Addr} {sl4:Array (Option Value)} {oc4 kV4 dc4 pm4 cd4 ct4:Value}
  (a4:PySem.W.nsIn K mainGlobals "join_ends" = some (some (.ref f4))) (l4:K.lookup f4=some ⟨oc4,od4,.func (PySem.W.fnOf "join_ends" "join_ends" (Jk Je) (Qq Je) (Qc Je) .none kV4 dc4 pm4 an4 cd4 ct4),sl4⟩) (c4:PySem.W.codeIn K cd4 "join_ends" = true) (k4:PySem.W.keepIn K (.ref f4)=true)
  {f5:Addr} {od5 an5:Option Addr} {sl5:Array (Option Value)} {oc5 kV5 dc5 pm5 cd5 ct5:Value}
  (a5:PySem.W.nsIn K mainGlobals "opened" = some (some (.ref f5))) (l5:K.lookup f5=some ⟨oc5,od5,.func (PySem.W.fnOf "opened" "opened" (Jk Ym) (Qq Ym) (Qc Ym) .none kV5 dc5 pm5 an5 cd5 ct5),sl5⟩) (c5:PySem.W.codeIn K cd5 "opened" = true) (k5:PySem.W.keepIn K (.ref f5)=true)
  {f6:Addr} {od6 an6:Option Addr} {sl6:Array (Option Value)} {oc6 kV6 dc6 pm6 cd6 ct6:Value}
  (a6:PySem.W.nsIn K mainGlobals "_law_take" = some (some (.ref f6))) (l6:K.lookup f6=some ⟨oc6,od6,.func (PySem.W.fnOf "_law_take" "_law_take" (Jk Ji) (Qq Ji) (Qc Ji) .none kV6 dc6 pm6 an6 cd6 ct6),sl6⟩) (c6:PySem.W.codeIn K cd6 "_law_take" = true) (k6:PySem.W.keepIn K (.ref f6)=true)
  {f7:Addr} {od7 an7:Option Addr} {sl7:Array (Option Value)} {oc7 kV7 dc7 pm7 cd7 ct7:Value}
  (a7:PySem.W.nsIn K mainGlobals "_law_arcs" = some (some (.ref f7))) (l7:K.lookup f7=some ⟨oc7,od7,.func (PySem.W.fnOf "_law_arcs" "_law_arcs" (Jk Jf) (Qq Jf) (Qc Jf) .none kV7 dc7 pm7 an7 cd7 ct7),sl7⟩) (c7:PySem.W.codeIn K cd7 "_law_arcs" = true) (k7:PySem.W.keepIn K (.ref f7)=true)
  {f8:Addr} {od8 an8:Option Addr} {sl8:Array (Option Value)} {oc8 kV8 dc8 pm8 cd8 ct8:Value}
  (a8:PySem.W.nsIn K mainGlobals "_law_web" = some (some (.ref f8))) (l8:K.lookup f8=some ⟨oc8,od8,.func (PySem.W.fnOf "_law_web" "_law_web" (Jk Jp) (Qq Jp) (Qc Jp) .none kV8 dc8 pm8 an8 cd8 ct8),sl8⟩) (c8:PySem.W.codeIn K cd8 "_law_web" = true) (k8:PySem.W.keepIn K (.ref f8)=true)
  {f9:Addr} {od9 an9:Option Addr} {sl9:Array (Option Value)} {oc9 kV9 dc9 pm9 cd9 ct9:Value}
  (a9:PySem.W.nsIn K mainGlobals "_law_spots" = some (some (.ref f9))) (l9:K.lookup f9=some ⟨oc9,od9,.func (PySem.W.fnOf "_law_spots" "_law_spots" (Jk Jc) (Qq Jc) (Qc Jc) .none kV9 dc9 pm9 an9 cd9 ct9),sl9⟩) (c9:PySem.W.codeIn K cd9 "_law_spots" = true) (k9:PySem.W.keepIn K (.ref f9)=true)
  {f10:Addr} {od10 an10:Option Addr} {sl10:Array (Option Value)} {oc10 kV10 dc10 pm10 cd10 ct10:Value}
  (a10:PySem.W.nsIn K mainGlobals "_law_arc" = some (some (.ref f10))) (l10:K.lookup f10=some ⟨oc10,od10,.func (PySem.W.fnOf "_law_arc" "_law_arc" (Jk Jt) (Qq Jt) (Qc Jt) .none kV10 dc10 pm10 an10 cd10 ct10),sl10⟩) (c10:PySem.W.codeIn K cd10 "_law_arc" = true) (k10:PySem.W.keepIn K (.ref f10)=true)
  {f11:Addr} {od11 an11:Option Addr} {sl11:Array (Option Value)} {oc11 kV11 dc11 pm11 cd11 ct11:Value}
  (a11:PySem.W.nsIn K mainGlobals "_law_along" = some (some (.ref f11))) (l11:K.lookup f11=some ⟨oc11,od11,.func (PySem.W.fnOf "_law_along" "_law_along" (Jk Jd) (Qq Jd) (Qc Jd) .none kV11 dc11 pm11 an11 cd11 ct11),sl11⟩) (c11:PySem.W.codeIn K cd11 "_law_along" = true) (k11:PySem.W.keepIn K (.ref f11)=true)
  {f12:Addr} {od12 an12:Option Addr} {sl12:Array (Option Value)} {oc12 kV12 dc12 pm12 cd12 ct12:Value}
  (a12:PySem.W.nsIn K mainGlobals "_law_opened" = some (some (.ref f12))) (l12:K.lookup f12=some ⟨oc12,od12,.func (PySem.W.fnOf "_law_opened" "_law_opened" (Jk Q5) (Qq Q5) (Qc Q5) .none kV12 dc12 pm12 an12 cd12 ct12),sl12⟩) (c12:PySem.W.codeIn K cd12 "_law_opened" = true) (k12:PySem.W.keepIn K (.ref f12)=true)
  {f13:Addr} {od13 an13:Option Addr} {sl13:Array (Option Value)} {oc13 kV13 dc13 pm13 cd13 ct13:Value}
  (a13:PySem.W.nsIn K mainGlobals "_law_whole" = some (some (.ref f13))) (l13:K.lookup f13=some ⟨oc13,od13,.func (PySem.W.fnOf "_law_whole" "_law_whole" (Jk Jb) (Qq Jb) (Qc Jb) .none kV13 dc13 pm13 an13 cd13 ct13),sl13⟩) (c13:PySem.W.codeIn K cd13 "_law_whole" = true) (k13:PySem.W.keepIn K (.ref f13)=true)
  {f14:Addr} {od14 an14:Option Addr} {sl14:Array (Option Value)} {oc14 kV14 dc14 pm14 cd14 ct14:Value}
  (a14:PySem.W.nsIn K mainGlobals "law" = some (some (.ref f14))) (l14:K.lookup f14=some ⟨oc14,od14,.func (PySem.W.fnOf "law" "law" (Jk Vv) (Qq Vv) (Qc Vv) .none kV14 dc14 pm14 an14 cd14 ct14),sl14⟩) (c14:PySem.W.codeIn K cd14 "law" = true) (k14:PySem.W.keepIn K (.ref f14)=true)
  (z_bool:PySem.W.nsIn K mainGlobals "bool" = some none)
  (z_enumerate:PySem.W.nsIn K mainGlobals "enumerate" = some none)
  (z_int:PySem.W.nsIn K mainGlobals "int" = some none)
  (z_isinstance:PySem.W.nsIn K mainGlobals "isinstance" = some none)
  (z_len:PySem.W.nsIn K mainGlobals "len" = some none)
  (z_list:PySem.W.nsIn K mainGlobals "list" = some none)
  (z_range:PySem.W.nsIn K mainGlobals "range" = some none)
  (z_sorted:PySem.W.nsIn K mainGlobals "sorted" = some none)
  (z_tuple:PySem.W.nsIn K mainGlobals "tuple" = some none)
  (z_zip:PySem.W.nsIn K mainGlobals "zip" = some none)
  {ad_JOINED:Addr} (z_JOINED:PySem.W.nsIn K mainGlobals "JOINED" = some (some (.ref ad_JOINED))) (xh_JOINED:kcIn K (.tup [.tup [.tup [.int 0,.int 1],.tup [.int 2,.int 3]],.tup [.tup [.int 0,.int 3],.tup [.int 1,.int 2]]]) (.ref ad_JOINED)=true)
  {tk_RIM:Tok} (z_RIM:PySem.W.nsIn K mainGlobals "RIM" = some (some (.int (-1) tk_RIM)))
  : ∃fd:FuncData,(∀(s:Shared) (v:Value),BindsTo s fd ⟨[v],[]⟩ [("_law_script",v)])/\∀base:Heap,K.In base->base.Ns mainGlobals mg->FnOk l.prog w K mg base CX0 4 fa fd ["_law_script"] (spR K Qhd):=by
 have e:=hfa.symm.trans (PySem.W.mg_of X G a14)
 cases e
 have B:Bn K mg:=⟨PySem.W.mg_none_of X G z_bool,PySem.W.mg_none_of X G z_enumerate,PySem.W.mg_none_of X G z_int,PySem.W.mg_none_of X G z_isinstance,PySem.W.mg_none_of X G z_len,PySem.W.mg_none_of X G z_list,PySem.W.mg_none_of X G z_range,PySem.W.mg_none_of X G z_sorted,PySem.W.mg_none_of X G z_tuple,PySem.W.mg_none_of X G z_zip,⟨ad_JOINED,PySem.W.mg_of X G z_JOINED,xh_JOINED⟩,⟨tk_RIM,PySem.W.mg_of X G z_RIM⟩⟩
 have F1:=Y4 (st:=X9) l1 c1 k1
 have F2:=Y4 (st:=Q6) l2 c2 k2
 have F3:=Y4 (st:=Q0) l3 c3 k3
 have F4:=Y4 (st:=Je) l4 c4 k4
 have F5:=Y4 (st:=Ym) l5 c5 k5
 have F6:=Y4 (st:=Ji) l6 c6 k6
 have F7:=Y4 (st:=Jf) l7 c7 k7
 have F8:=Y4 (st:=Jp) l8 c8 k8
 have F9:=Y4 (st:=Jc) l9 c9 k9
 have F10:=Y4 (st:=Jt) l10 c10 k10
 have F11:=Y4 (st:=Jd) l11 c11 k11
 have F12:=Y4 (st:=Q5) l12 c12 k12
 have F13:=Y4 (st:=Jb) l13 c13 k13
 have F14:=Y4 (st:=Vv) l14 c14 k14
 refine ⟨PySem.W.fnOf "law" "law" (Jk Vv) (Qq Vv) (Qc Vv) .none kV14 dc14 pm14 an14 cd14 ct14,λs v=>.of_eq rfl,λbase _ _=>?_⟩
 have C_lay:Cal l.prog w K mg base "lay" 1 ["partners","one","other"] (spI K 0 Qbs):=⟨f1,_,Qqt F1 B,PySem.W.mg_of X G a1,k1,F1.binds λ_ _ _ _ _ _ us hl=>by obtain ⟨_,_,_,rfl⟩:=len3 hl;rfl⟩
 have C_joining_of:Cal l.prog w K mg base "joining_of" 1 ["partners"] (spI K 0 Yk):=⟨f2,_,Qae F2 B,PySem.W.mg_of X G a2,k2,F2.binds λ_ _ _ _ _ _ us hl=>by obtain ⟨_,rfl⟩:=len1 hl;rfl⟩
 have C_open_crossing:Cal l.prog w K mg base "open_crossing" 2 ["partners","crossing","way"] (spI K 0 Jq):=⟨f3,_,Uy F3 B C_lay,PySem.W.mg_of X G a3,k3,F3.binds λ_ _ _ _ _ _ us hl=>by obtain ⟨_,_,_,rfl⟩:=len3 hl;rfl⟩
 have C_join_ends:Cal l.prog w K mg base "join_ends" 2 ["partners","ends"] (spI K 0 Yw):=⟨f4,_,Qbj F4 B C_lay C_joining_of,PySem.W.mg_of X G a4,k4,F4.binds λ_ _ _ _ _ _ us hl=>by obtain ⟨_,_,rfl⟩:=len2 hl;rfl⟩
 have C_opened:Cal l.prog w K mg base "opened" 3 ["web","ways"] (spR K Z5):=⟨f5,_,Qgl F5 B C_open_crossing C_join_ends,PySem.W.mg_of X G a5,k5,F5.binds λ_ _ _ _ _ _ us hl=>by obtain ⟨_,_,rfl⟩:=len2 hl;rfl⟩
 have C__law_take:Cal l.prog w K mg base "_law_take" 1 ["_law_row","_law_base"] (spI K 0 Qm):=⟨f6,_,Qbk F6 B,PySem.W.mg_of X G a6,k6,F6.binds λ_ _ _ _ _ _ us hl=>by obtain ⟨_,_,rfl⟩:=len2 hl;rfl⟩
 have C__law_arcs:Cal l.prog w K mg base "_law_arcs" 2 ["_law_row","_law_many"] (spI K 0 Zc):=⟨f7,_,Qbl F7 B C__law_take,PySem.W.mg_of X G a7,k7,F7.binds λ_ _ _ _ _ _ us hl=>by obtain ⟨_,_,rfl⟩:=len2 hl;rfl⟩
 have C__law_web:Cal l.prog w K mg base "_law_web" 3 ["_law_row","_law_many","_law_ends"] (spI K 0 Zb):=⟨f8,_,Qcs F8 B C__law_take C__law_arcs,PySem.W.mg_of X G a8,k8,F8.binds λ_ _ _ _ _ _ us hl=>by obtain ⟨_,_,_,rfl⟩:=len3 hl;rfl⟩
 have C__law_spots:Cal l.prog w K mg base "_law_spots" 1 ["_law_web_here"] (spR K Yv):=⟨f9,_,Qag F9 B,PySem.W.mg_of X G a9,k9,F9.binds λ_ _ _ _ _ _ us hl=>by obtain ⟨_,rfl⟩:=len1 hl;rfl⟩
 have C__law_arc:Cal l.prog w K mg base "_law_arc" 1 ["_law_web_here","_law_spot"] (spR K Zv):=⟨f10,_,Qct F10 B,PySem.W.mg_of X G a10,k10,F10.binds λ_ _ _ _ _ _ us hl=>by obtain ⟨_,_,rfl⟩:=len2 hl;rfl⟩
 have C__law_along:Cal l.prog w K mg base "_law_along" 2 ["_law_web_here","_law_spots_here","_law_ways","_law_spot","_law_seen"] (spJ K 4 Yg):=⟨f11,_,Qah F11 B C__law_arc,PySem.W.mg_of X G a11,k11,F11.binds λ_ _ _ _ _ _ us hl=>by obtain ⟨_,_,_,_,_,rfl⟩:=len5 hl;rfl⟩
 have C__law_opened:Cal l.prog w K mg base "_law_opened" 3 ["_law_web_here","_law_ways"] (spR K J4):=⟨f12,_,Xb F12 B C__law_spots C__law_along,PySem.W.mg_of X G a12,k12,F12.binds λ_ _ _ _ _ _ us hl=>by obtain ⟨_,_,rfl⟩:=len2 hl;rfl⟩
 have C__law_whole:Cal l.prog w K mg base "_law_whole" 1 ["_law_found"] (spR K Jr):=⟨f13,_,Qaf F13 B,PySem.W.mg_of X G a13,k13,F13.binds λ_ _ _ _ _ _ us hl=>by obtain ⟨_,rfl⟩:=len1 hl;rfl⟩
 exact Qqu F14 B C_opened C__law_take C__law_web C__law_opened C__law_whole
theorem Qq5 {K:PySem.W.Frag} {H:Hp} {a:Addr} {ns:List Int} (hl:ns.length<=63) (ho:Only H) (hS:SqL K H a (ns.map V.int)):spR K Qhd [.ref a] H (λv _=>v=.bl true) λ_ _ _=>False:=by
 have fz:FzL K H a (ns.map V.int):=by
  rcases hS with (h | h) | h
  ·rcases ho a with z | ⟨o,xs,z⟩
   ·rw [z] at h;cases h
   ·rw [z] at h;cases h
  ·exact .inl h
  ·exact .inr h
 refine ⟨[.kls (ns.map .int)],[],λd=>d=.bl true,?_,⟨ns,rfl,hl,rfl⟩,λv H' d F' fi hd=>?_⟩
 ·exact .cons (F:=[]) (G:=[]) (.kls fz (Reps.ints ns)) .nil
 ·subst hd
  exact Qds fi.rep
theorem walk {l:PySem.W.OpenLaw} {q:Program} {loose:List Str} {XP:(Str->Option Value)->Heap->Prop} {YP:World->Heap->Prop} {d:DefRec} {K:Params->PySem.W.Frag} (hn:l.most=some 63) (hdf:d.params.defaults=[])
  (hY:∀(w:World) (h:Heap),YP w h->(K w.params).In h)
  (F:∀(w:World) (mg:Str->Option Value) (fa:Addr) (h:Heap),(K w.params).In h->h.Ns mainGlobals mg->mg d.name=some (.ref fa) ->
   ∃fd:FuncData,(∀(s:Shared) (u:Value),BindsTo s fd ⟨[u],[]⟩ [("_law_script",u)])/\∀base:Heap,(K w.params).In base->base.Ns mainGlobals mg->FnOk l.prog w (K w.params) mg base CX0 4 fa fd ["_law_script"] (spR (K w.params) Qhd)) :
  PySem.W.WalkO q loose XP YP l.row.toRowW d [] (λf vs=>PySem.call f vs) :=
 L2.Qlz (n:=63) (k:=4) (x:="_law_script") (CX:=λ_=>CX0) (sp:=λw=>spR (K w.params) Qhd) hn (by decide) hdf ⟨rfl,by decide,by decide⟩ hY F (λ_ _ a ns hl ho hS=>Qq5 hl ho hS) λ_ _ _ _ _ z=>z
end K31
open PySem PySem.W PyProof.Rows
def PySem.W.Fast.tw6303440568077679865:=0
def PySem.W.Fast.tw15479959175586332190:=0
def PySem.W.Fast.tw13820107014140415765:=0
def PySem.W.Fast.tw8928144404015532562:=0
def PySem.W.Fast.tw2247221481038546256:=0
def PySem.W.Fast.tw4974571142452482776:=0
def PySem.W.Fast.tw14084583362007318814:=0
def PySem.W.Fast.tw15619732644744008011:=0
def PySem.W.Fast.tw15866701243326927406:=0
def PySem.W.Fast.tw6382135208836021381:=0
def PySem.W.Fast.tw4725754446744116134:=0
def PySem.W.Fast.tw15558731416016755309:=0
def PySem.W.Fast.tw17641382083034754872:=0
def PySem.W.Fast.tw9788956390114252301:=0
def PySem.W.Fast.tw5086685676939097689:=0
def PySem.W.Fast.tw8463914844516145435:=0
def PySem.W.Fast.tw4011027679734953197:=0
def PySem.W.Fast.tw3043207547042897784:=0
def PySem.W.Fast.tw11181510778130518:=0
def PySem.W.Fast.tw9314546450758914320:=0
def PySem.W.Fast.tw11762907883508917838:=0
def PySem.W.Fast.tw8469255999900096398:=0
def PySem.W.Fast.tw18063663219110850659:=0
def PySem.W.Fast.tw586143915191905615:=0
def PySem.W.Fast.tw2000514878746158698:=0
def PySem.W.Fast.tw1634748099746772864:=0
def PySem.W.Fast.tw3134720942525876343:=0
def PySem.W.Fast.tw3409548122913092066:=0
def PySem.W.Fast.tw11899788487032970225:=0
def PySem.W.Fast.tw870781196226784225:=0
def PySem.W.Fast.tw11385315389074254741:=0
def PySem.W.Fast.tw2524596988388643033:=0
def PySem.W.Fast.tw2587420691389433265:=0
def PySem.W.Fast.tw9598915097683750317:=0
def PySem.W.Fast.tw10200012948586110664:=0
def PySem.W.Fast.tw6599163580184602475:=0
def PySem.W.Fast.tw2102669228872424235:=0
def PySem.W.Fast.tw15813605741966586893:=0
def PySem.W.Fast.tw231589987993191507:=0
def PySem.W.Fast.tw15434133807268204825:=0
def PySem.W.Fast.tw1359316682124636165:=0
def PySem.W.Fast.tw17861581954343109061:=0
def PySem.W.Fast.tw18093929066676032067:=0
def PySem.W.Fast.tw1878313970001432808:=0
def PySem.W.Fast.tw5104667621599291415:=0
def PySem.W.Fast.tw2985026642392716793:=0
def PySem.W.Fast.tw11422553060742552349:=0
def PySem.W.Fast.tw17901151949915793416:=0
def PySem.W.Fast.tw142121434036549212:=0
def PySem.W.Fast.tw16586259318132699664:=0
def PySem.W.Fast.tw9715136836386264530:=0
def PySem.W.Fast.tw15057653393445546605:=0
def PySem.W.Fast.tw3370165714759516477:=0
def PySem.W.Fast.tw2820105279537909066:=0
def PySem.W.Fast.tw1301078208419713597:=0
def PySem.W.Fast.tw2972755091420906206:=0
def PySem.W.Fast.tw17851413616033608564:=0
def PySem.W.Fast.tw4086111569673971869:=0
def PySem.W.Fast.tw2365829609899081542:=0
def PySem.W.Fast.tw11073098797745750574:=0
def PySem.W.Fast.tw7956257130500291743:=0
def PySem.W.Fast.tw17834584218776066193:=0
def PySem.W.Fast.tw13611203424447863966:=0
def PySem.W.Fast.tw3540556240022098840:=0
def PySem.W.Fast.tw10618519504777993822:=0
def PySem.W.Fast.tw6211562204846437893:=0
def PySem.W.Fast.tw16100134220832758677:=0
def PySem.W.Fast.tw14856958814447527339:=0
def PySem.W.Fast.tw418384212930883265:=0
def PySem.W.Fast.tw17174559927505396830:=0
def PySem.W.Fast.tw10843961676290015960:=0
def PySem.W.Fast.tw17455809832266039262:=0
def PySem.W.Fast.tw15906202018991652712:=0
def PySem.W.Fast.tw13600438769135126551:=0
def PySem.W.Fast.tw13684817735183535280:=0
def PySem.W.Fast.tw14013555820962502892:=0
def PySem.W.Fast.tw12590499618921730663:=0
def PySem.W.Fast.tw11891703272758667096:=0
def PySem.W.Fast.tw4311088338731420612:=0
def PySem.W.Fast.tw13090550729611002358:=0
def PySem.W.Fast.tw2241630440490215010:=0
def PySem.W.Fast.tw15778594135139982421:=0
def PySem.W.Fast.tw2298537077704155620:=0
def PySem.W.Fast.tw17237435788766667427:=0
def PySem.W.Fast.tw47821083846472129:=0
def PySem.W.Fast.tw9249596317268731800:=0
def PySem.W.Fast.tw8202409355959771885:=0
def PySem.W.Fast.tw6387876032795552137:=0
def PySem.W.Fast.tw15811717140201309662:=0
def PySem.W.Fast.tw2816635831623817682:=0
def PySem.W.Fast.tw8313011247541465909:=0
def PySem.W.Fast.tw7339346306378338241:=0
def PySem.W.Fast.tw10182651337482639210:=0
def PySem.W.Fast.tw11804003480591198585:=0
def PySem.W.Fast.tw15181663457040626908:=0
def PySem.W.Fast.tw17387379073683461259:=0
def PySem.W.Fast.tw8322690590538665909:=0
def PySem.W.Fast.tw16818286679001227799:=0
def PySem.W.Fast.tw2862749379204139127:=0
def PySem.W.Fast.tw5610241834546446452:=0
def PySem.W.Fast.tw13332984006985582877:=0
def PySem.W.Fast.tw9768706347231525425:=0
def PySem.W.Fast.tw303207877396047272:=0
def PySem.W.Fast.tw786595414503514912:=0
set_option maxRecDepth 100000 in
set_option maxHeartbeats 0 in
theorem PySem.Challenge.cw_tanglehouse_k31_opened_crossings_holds : PySem.Challenge.rw_tanglehouse_k31_opened_crossings.Holds := by
 w_on;o_law;k_head;(case hw=>w_witness2)
 k_fill
 refine K31.walk (l:=PySem.Challenge.rw_tanglehouse_k31_opened_crossings) rfl rfl (λw h Y=>PySem.W.kIn_of Y) ?F
 case F =>
  intro w mg fa h KX G hmg
  refine' K31.Qr4 KX G hmg ?a1 ?l1 ?c1 ?k1 ?a2 ?l2 ?c2 ?k2 ?a3 ?l3 ?c3 ?k3 ?a4 ?l4 ?c4 ?k4 ?a5 ?l5 ?c5 ?k5 ?a6 ?l6 ?c6 ?k6 ?a7 ?l7 ?c7 ?k7 ?a8 ?l8 ?c8 ?k8 ?a9 ?l9 ?c9 ?k9 ?a10 ?l10 ?c10 ?k10 ?a11 ?l11 ?c11 ?k11 ?a12 ?l12 ?c12 ?k12 ?a13 ?l13 ?c13 ?k13 ?a14 ?l14 ?c14 ?k14 ?z_bool ?z_enumerate ?z_int ?z_isinstance ?z_len ?z_list ?z_range ?z_sorted ?z_tuple ?z_zip ?z_JOINED ?xh_JOINED ?z_RIM
  (case a1=>k_is)
  (case l1=>k_is)
  (case c1=>k_is)
  (case k1=>k_is)
  (case a2=>k_is)
  (case l2=>k_is)
  (case c2=>k_is)
  (case k2=>k_is)
  (case a3=>k_is)
  (case l3=>k_is)
  (case c3=>k_is)
  (case k3=>k_is)
  (case a4=>k_is)
  (case l4=>k_is)
  (case c4=>k_is)
  (case k4=>k_is)
  (case a5=>k_is)
  (case l5=>k_is)
  (case c5=>k_is)
  (case k5=>k_is)
  (case a6=>k_is)
  (case l6=>k_is)
  (case c6=>k_is)
  (case k6=>k_is)
  (case a7=>k_is)
  (case l7=>k_is)
  (case c7=>k_is)
  (case k7=>k_is)
  (case a8=>k_is)
  (case l8=>k_is)
  (case c8=>k_is)
  (case k8=>k_is)
  (case a9=>k_is)
  (case l9=>k_is)
  (case c9=>k_is)
  (case k9=>k_is)
  (case a10=>k_is)
  (case l10=>k_is)
  (case c10=>k_is)
  (case k10=>k_is)
  (case a11=>k_is)
  (case l11=>k_is)
  (case c11=>k_is)
  (case k11=>k_is)
  (case a12=>k_is)
  (case l12=>k_is)
  (case c12=>k_is)
  (case k12=>k_is)
  (case a13=>k_is)
  (case l13=>k_is)
  (case c13=>k_is)
  (case k13=>k_is)
  (case a14=>k_is)
  (case l14=>k_is)
  (case c14=>k_is)
  (case k14=>k_is)
  (case z_bool=>first | k_is | rfl | decide +kernel)
  (case z_enumerate=>first | k_is | rfl | decide +kernel)
  (case z_int=>first | k_is | rfl | decide +kernel)
  (case z_isinstance=>first | k_is | rfl | decide +kernel)
  (case z_len=>first | k_is | rfl | decide +kernel)
  (case z_list=>first | k_is | rfl | decide +kernel)
  (case z_range=>first | k_is | rfl | decide +kernel)
  (case z_sorted=>first | k_is | rfl | decide +kernel)
  (case z_tuple=>first | k_is | rfl | decide +kernel)
  (case z_zip=>first | k_is | rfl | decide +kernel)
  (case z_JOINED=>first | k_is | rfl | decide +kernel)
  (case xh_JOINED=>kernel_rfl)
  (case z_RIM=>first | k_is | rfl | decide +kernel)
