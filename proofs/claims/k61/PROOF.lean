import PyProof.Rows.All
import Wide.All
import OpenK.AllK
import Wide.FinOn
import Lean
import PyProof.EqAt
import PyProof.EqKinds
import PyProof.TupleCall
import PyProof.EnumMake
import PyProof.EnumFor
import PyProof.Draws
import PyProof.DictWalks
import PyProof.ListRange
import PyProof.ZipIter
import PyProof.Rows.SortWalk
import PyProof.Rows.SumAny
import PyProof.TupleIter
import PyProof.MeetsStr2
import PyProof.StrWalks
import Wide.Txt
import PyProof.Rows.SortRuns
import PyProof.Rows.MinMaxN
import PyProof.ExcClass2
import PyProof.NsDelKeeps
import PyProof.ExcArgsOwn
import OpenK.KMake
import PyProof.StrCalls6
import PyProof.ListMulRoad
import PyProof.FactsAll.tuple
import PyProof.InstEq
import PyProof.StrBlock2
import PyProof.ExcAttrAll.ValueError
import PyProof.ExcBaseAll.ValueError
import PyProof.StrLawsReplace
import PyProof.ExcInit
import PyProof.InstStoreFacts
import PyProof.Rows.MatchSeqLen
import PySem.Challenge.RW_tanglehouse_k61_whole_any_text_of_a_part
set_option Elab.async false
set_option linter.all false
set_option maxRecDepth 100000
set_option maxHeartbeats 4000000
variable {us:List PySem.Value}
namespace L2
open PySem PySem.Spec PyProof.Rows
abbrev Key:=Sum Int Str
def Qg3:Key->Value->Bool
 | .inl k,v=>Value.isInt k v
 | .inr x,v=>Value.isStrOf x v
def keyH (w:World):Key->Int
 | .inl k=>hashInt k
 | .inr x=>hashStr w x
theorem Jr:∀{k:Key} {v:Value},Qg3 k v=true->(∃i t,k=Sum.inl i/\v=Value.int i t)\/(∃x t,k=Sum.inr x/\v=Value.str x t)
 | .inl i,v,h=>by
  obtain ⟨t,e⟩:=Value.isInt_shape (k:=i) (v:=v) h
  exact .inl ⟨i,t,rfl,e⟩
 | .inr x,v,h=>by
  obtain ⟨t,e⟩:=Value.isStrOf_shape (x:=x) (v:=v) h
  exact .inr ⟨x,t,rfl,e⟩
theorem Qi7 (i:Int) (t:Tok):Qg3 (.inl i) (.int i t)=true:=by simp [Qg3,Value.isInt]
theorem Qi6 (x:Str) (t:Tok):Qg3 (.inr x) (.str x t)=true:=by simp [Qg3,Value.isStrOf]
theorem Qsq (a b:Int):decide ((Sum.inl a:Key)=Sum.inl b)=(a == b):=by
 by_cases e:a=b
 ·subst e;simp
 ·have h:¬(Sum.inl a:Key)=Sum.inl b:=λq=>e (Sum.inl.inj q)
  rw [decide_eq_false h]
  exact (beq_eq_false_iff_ne.mpr e).symm
theorem Qsn (a b:Str):decide ((Sum.inr a:Key)=Sum.inr b)=decide (a=b):=by
 by_cases e:a=b
 ·subst e;simp
 ·have h:¬(Sum.inr a:Key)=Sum.inr b:=λq=>e (Sum.inr.inj q)
  rw [decide_eq_false h,decide_eq_false e]
theorem Qsp (a:Int) (b:Str):decide ((Sum.inl a:Key)=Sum.inr b)=false:=decide_eq_false (λq=>nomatch q)
theorem Qso (a:Str) (b:Int):decide ((Sum.inr a:Key)=Sum.inl b)=false:=decide_eq_false (λq=>nomatch q)
def Yn (prog:Program) (w:World):PySem.KeyKind prog w Key where
 is:=Qg3
 hash:=keyH w
 inj:=λv a b ha hb=>by
  rcases Jr ha with ⟨i,t,rfl,rfl⟩ | ⟨x,t,rfl,rfl⟩
  ·rcases Jr hb with ⟨j,u,rfl,e⟩ | ⟨y,u,rfl,e⟩
   ·injection e with e1 _;rw [e1]
   ·exact nomatch e
  ·rcases Jr hb with ⟨j,u,rfl,e⟩ | ⟨y,u,rfl,e⟩
   ·exact nomatch e
   ·injection e with e1 _;rw [e1]
 byValue:=λk v h=>by
  rcases Jr h with ⟨i,t,rfl,rfl⟩ | ⟨x,t,rfl,rfl⟩ <;> rfl
 pyHash:=λhv h=>by
  rcases Jr hv with ⟨i,t,rfl,rfl⟩ | ⟨x,t,rfl,rfl⟩
  ·exact wpAny_pyHash_int h
  ·exact wpAny_pyHash_str h
 eqBool:=λhu hv h=>by
  rcases Jr hu with ⟨i,t,rfl,rfl⟩ | ⟨x,t,rfl,rfl⟩
  ·rcases Jr hv with ⟨j,u,rfl,rfl⟩ | ⟨y,u,rfl,rfl⟩
   ·rw [Qsq] at h;exact wpAny_eqBool_int h
   ·rw [Qsp] at h;exact SeqAt.EqAt.int_str i t y u _ _ _ _ h
  ·rcases Jr hv with ⟨j,u,rfl,rfl⟩ | ⟨y,u,rfl,rfl⟩
   ·rw [Qso] at h;exact SeqAt.EqAt.str_int x t j u _ _ _ _ h
   ·rw [Qsn] at h;exact wpAny_eqBool_str h
 «strs»:=λk x t v h=>by
  rcases Jr h with ⟨i,u,rfl,e⟩ | ⟨y,u,rfl,e⟩
  ·exact nomatch e
  ·injection e with e1 _
   subst e1
   cases v <;> rfl
theorem Qep (prog:Program) (w:World) (i:Int) (t:Tok):(Yn prog w).is (.inl i) (.int i t)=true:=Qi7 i t
theorem Qeo (prog:Program) (w:World) (x:Str) (t:Tok):(Yn prog w).is (.inr x) (.str x t)=true:=Qi6 x t
inductive V where
 | non | bl (b:Bool) | int (i:Int) | str (x:Str) | byt (b:Array UInt8) | flt (b:UInt64) | ref (a:Addr) | ty (n:String)
 deriving DecidableEq
def RelV:V->Value->Prop
 | .non,u=>u=Value.none
 | .bl b,u=>u=Value.bool b
 | .int i,u=>∃t,u=Value.int i t
 | .str x,u=>∃t,u=Value.str x t
 | .byt b,u=>∃t,u=Value.bytes b t
 | .flt b,u=>∃t,u=Value.float b t
 | .ref a,u=>u=Value.ref a
 | .ty n,u=>u=Value.type n
abbrev Vals:List V->List Value->Prop:=Paired RelV
theorem Vals.length {xs:List V} (r:Vals xs us):xs.length=us.length:=Paired.length r
theorem Vals.get:∀{xs:List V} {us:List Value} {i:Nat} {x:V},Vals xs us->xs[i]? = some x->∃u,us[i]? = some u/\RelV x u
 | _,_,_,_,.nil,e=>by simp at e
 | _,_,0,_,.cons r _,e=>by simp at e;subst e;exact ⟨_,rfl,r⟩
 | _,_,i+1,x,.cons _ t,e=>by
  obtain ⟨u,h1,h2⟩:=Vals.get (i:=i) (x:=x) t (by simpa using e)
  exact ⟨u,by simpa using h1,h2⟩
theorem Vals.set {x:V} {u:Value} (r:RelV x u):∀{xs:List V} {us:List Value} (i:Nat),Vals xs us->Vals (xs.set i x) (us.set i u)
 | _,_,_,.nil=>.nil
 | _,_,0,.cons _ t=>.cons r t
 | _,_,i+1,.cons q t=>.cons q (Vals.set r i t)
theorem Vals.append:∀{xs ys:List V} {us ws:List Value},Vals xs us->Vals ys ws->Vals (xs++ys) (us++ws)
 | _,_,_,_,.nil,s=>s
 | _,_,_,_,.cons r t,s=>.cons r (Vals.append t s)
theorem Vals.take:∀{xs:List V} {us:List Value} (n:Nat),Vals xs us->Vals (xs.take n) (us.take n)
 | _,_,0,_=>.nil
 | _,_,_+1,.nil=>.nil
 | _,_,n+1,.cons r t=>.cons r (Vals.take n t)
theorem Vals.drop:∀{xs:List V} {us:List Value} (n:Nat),Vals xs us->Vals (xs.drop n) (us.drop n)
 | _,_,0,r=>r
 | _,_,_+1,.nil=>.nil
 | _,_,n+1,.cons _ t=>Vals.drop n t
def RelO:Option V->Option Value->Prop
 | some v,some u=>RelV v u
 | none,none=>True
 | _,_=>False
def KV {κ:Type}:List (κ × V)->List (κ × Value)->Prop:=Paired λ(p:κ × V) (q:κ × Value)=>p.1=q.1/\RelV p.2 q.2
def kV:Key->V
 | .inl i=>.int i
 | .inr x=>.str x
inductive HO where
 | lst (xs:List V)
 | tup (xs:List V)
 | dK (kvs:List (Key × V)) | dT (kvs:List (List Key × V))
 | set (S:Int->Bool) (n:Nat)
 | ins (C dx:Addr) (fs:List (Str × V))
 | own (x:Addr)
 | xd (fs:List (Str × V))
 | met (f x:Addr)
 | rng (lo hi:Int)
 | frz (o:Obj) (u:HO)
 | tbl (ps:Array Value)
 | ext (φ:Heap->Prop)
abbrev Hp:=Addr->Option HO
end L2
variable {H H' H1 H2:L2.Hp} {a b e:PySem.Addr} {o u ob:L2.HO} {P:PySem.Program} {w:PySem.World} {x:PySem.Str} {h':PySem.Heap}
namespace L2
open PySem PySem.Spec PyProof.Rows
def upd (H:Hp) (a:Addr) (o:HO):Hp:=λb=>if b=a then some o else H b
theorem Qi:upd H a o a=some o:=by unfold upd;rw [if_pos rfl]
theorem Qg (h:b≠a):upd H a o b=H b:=by unfold upd;rw [if_neg h]
theorem Qhs:upd (upd H a o) a u=upd H a u:=by
 funext b;unfold upd;split <;> rfl
theorem Qu2 (h:H a=some o) (h':H b=some u) (d:o≠u):a≠b:=by
 intro e;subst e;rw [h] at h';exact d (Option.some.inj h')
theorem Ja (h:H a=some o) (h':H b=none):a≠b:=by
 intro e;subst e;rw [h] at h';cases h'
section
variable (P:Program) (w:World)
def Ya (H:Hp) (h:Heap) (a:Addr):HO->Prop
 | .lst xs=>xs.length<=sizeLine/\∃(its:List Value) (n:Nat),Vals xs its/\h.get? a=some { cls:=.type "list",data:=.seq its.toArray n }
 | .tup xs=>xs.length<=sizeLine/\∃its:List Value,Vals xs its/\IsTup h a its.toArray
 | .dK kvs=>kvs.length<=sizeLine/\(a == sysModules)=false/\∃vs,KV kvs vs/\h.DictOf (Yn P w) a vs
 | .dT kvs=>kvs.length<=sizeLine/\(a == sysModules)=false/\∃xs:List (List Key × Addr × Value),
   Paired (λ(p:List Key × V) (q:List Key × Addr × Value)=>p.1=q.1/\H q.2.1=some (.tup (p.1.map kV))/\RelV p.2 q.2.2) kvs xs /\
   ∃o es ep,h.get? a=some o/\o.ExactDict/\o.data=.dict es ep/\es.toList=xs.map (entryOfKey (tupleKind (Yn P w)))/\(xs.map (·.1)).Nodup
 | .set S n=>h.SetOf (intKind P w) a S n
 | .ins C dx fs=>H dx=some (.own a)/\fs.length<=1000/\dx≠a/\h.get? a=some (PySem.W.instObj C dx) /\
   ∃mA,h.Ns1 dx mA/\(∀f,RelO (fs.lookup f) (mA f))/\PySem.Within mA (fs.map (·.1))
 | .own _=>∃o,h.get? a=some o
 | .xd fs=>∃mA,h.Ns1 a mA/\∀f,RelO (fs.lookup f) (mA f)
 | .rng lo hi=>∃t u v,h.get? a=some { cls:=.type "range",data:=.fields #[.int lo t,.int hi u,.int 1 v] }
 | .frz o u=>h.get? a=some o/\Ya H h a u
 | .tbl ps=>∃ts:Array Value,h.get? a=some { cls:=.none,data:=.fields ts }/\(ts = #[]\/∃(b:Addr) (oc:Obj) (u:HO) (vs:Array Value) (t:Tok) (q:Str) (t':Tok),ts = #[ps.getD 0 .none,ps.getD 1 .none,.ref b]/\H b=some (.frz oc u)/\oc.data=.fields vs/\ps.getD 2 .none=.str q t'/\vs[1]? = some (.str q t))
 | .met f x=>h.get? a=some (PySem.W.methodObj (.ref f) (.ref x))
 | .ext φ=>φ h/\(∃o,h.get? a=some o)/\∀h1 h2:Heap,φ h1->(∀o,h1.get? a=some o->h2.get? a=some o)->φ h2
def HOk (H:Hp) (h:Heap):Prop:=∀a o,H a=some o->Ya P w H h a o
end
section
variable {h:Heap}
theorem Ya.lt (x:Ya P w H h a o):a<h.objs.size:=by
 cases o with
 | lst xs=>obtain ⟨_,_,_,_,e⟩:=x;exact Heap.lt_size e
 | tup xs=>obtain ⟨_,_,_,p⟩:=x;exact p.lt
 | dK kvs=>obtain ⟨_,_,_,_,o,_,_,e,_⟩:=x;exact Heap.lt_size e
 | dT kvs=>obtain ⟨_,_,_,_,o,_,_,e,_⟩:=x;exact Heap.lt_size e
 | set S n=>obtain ⟨o,_,_,_,e,_⟩:=x;exact Heap.lt_size e
 | ins C dx fs=>obtain ⟨_,_,_,e,_⟩:=x;exact Heap.lt_size e
 | own y=>obtain ⟨_,e⟩:=x;exact Heap.lt_size e
 | xd fs=>obtain ⟨_,⟨_,_,_,e,_⟩,_⟩:=x;exact Heap.lt_size e
 | rng lo hi=>obtain ⟨_,_,_,e⟩:=x;exact Heap.lt_size e
 | frz ob u=>obtain ⟨e,_⟩:=x;exact Heap.lt_size e
 | tbl ps=>obtain ⟨_,e,_⟩:=x;exact Heap.lt_size e
 | met f y=>exact Heap.lt_size (show h.get? a=some _ from x)
 | ext φ=>obtain ⟨_,⟨_,e⟩,_⟩:=x;exact Heap.lt_size e
theorem Paired.mapP {α β:Type} {F G:α->β->Prop}:∀{l₁:List α} {l₂:List β},Paired F l₁ l₂->(∀a b,F a b->G a b)->Paired G l₁ l₂
 | _,_,.nil,_=>.nil
 | _,_,.cons r t,f=>.cons (f _ _ r) (Paired.mapP t f)
theorem Ya.stay (x:Ya P w H h a o) (k:∀b u,(b=a\/H b=some (.own a))->h.get? b=some u->h'.get? b=some u)
  (ho:∀b,H b=some (.own a)->H' b=some (.own a)) (ht:∀b xs,H b=some (.tup xs)->H' b=some (.tup xs)) (hf:∀b u v vs,H b=some (.frz u v)->u.data=.fields vs->H' b=some (.frz u v):=by exact λ_ _ _ _ q _=>q):Ya P w H' h' a o:=by
 induction o with
 | lst xs=>obtain ⟨z,its,n,r,e⟩:=x;exact ⟨z,its,n,r,k _ _ (.inl rfl) e⟩
 | tup xs=>obtain ⟨z,its,r,ob,e,c⟩:=x;exact ⟨z,its,r,ob,k _ _ (.inl rfl) e,c⟩
 | dK kvs=>obtain ⟨z,y,vs,r,ob,es,ep,e,c⟩:=x;exact ⟨z,y,vs,r,ob,es,ep,k _ _ (.inl rfl) e,c⟩
 | dT kvs =>
  obtain ⟨z,y,xs,r,ob,es,ep,e,c⟩:=x
  exact ⟨z,y,xs,Paired.mapP r λp q z=>⟨z.1,ht _ _ z.2.1,z.2.2⟩,ob,es,ep,k _ _ (.inl rfl) e,c⟩
 | set S n=>obtain ⟨ob,es,ep,t,e,c⟩:=x;exact ⟨ob,es,ep,t,k _ _ (.inl rfl) e,c⟩
 | ins C dx fs =>
  obtain ⟨d,z,ne,e,mA,⟨od,es,ep,e2,c⟩,r⟩:=x
  exact ⟨ho _ d,z,ne,k _ _ (.inl rfl) e,mA,⟨od,es,ep,k _ _ (.inr d) e2,c⟩,r⟩
 | own y=>obtain ⟨ob,e⟩:=x;exact ⟨ob,k _ _ (.inl rfl) e⟩
 | xd fs=>obtain ⟨mA,⟨od,es,ep,e,c⟩,r⟩:=x;exact ⟨mA,⟨od,es,ep,k _ _ (.inl rfl) e,c⟩,r⟩
 | rng lo hi=>obtain ⟨t,u,v,e⟩:=x;exact ⟨t,u,v,k _ _ (.inl rfl) e⟩
 | frz ob u ih=>obtain ⟨e,q⟩:=x;exact ⟨k _ _ (.inl rfl) e,ih q⟩
 | tbl ps =>
  obtain ⟨ts,e,r⟩:=x
  exact ⟨ts,k _ _ (.inl rfl) e,r.imp id λ⟨b,oc,u,vs,t,q,t',z1,z2,z3⟩=>⟨b,oc,u,vs,t,q,t',z1,hf _ _ _ _ z2 z3.1,z3⟩⟩
 | met f y =>
  have e:h.get? a=some (PySem.W.methodObj (.ref f) (.ref y)):=x
  show h'.get? a=some (PySem.W.methodObj (.ref f) (.ref y))
  exact k a _ (.inl rfl) e
 | ext φ=>obtain ⟨p,⟨o,e⟩,st⟩:=x;exact ⟨st _ _ p λo q=>k _ _ (.inl rfl) q,⟨o,k _ _ (.inl rfl) e⟩,st⟩
theorem HOk.lt (x:HOk P w H h) (e:H a=some o):a<h.objs.size:=(x a o e).lt
theorem HOk.fresh (x:HOk P w H h) (e:h.objs.size<=a):H a=none:=by
 cases q:H a with
 | none=>rfl
 | some u=>exact absurd (Nat.lt_of_lt_of_le (x.lt q) e) (Nat.lt_irrefl _)
theorem HOk.kept (x:HOk P w H h) (k:∀b u,h.get? b=some u->h'.get? b=some u):HOk P w H h':=λa o e =>
 (x a o e).stay (λb u _ q=>k b u q) (λ_ q=>q) λ_ _ q=>q
theorem HOk.laid (x:HOk P w H h) (k:∀b u,h.get? b=some u->h'.get? b=some u) (hp:h.objs.size<=a) (new:Ya P w (upd H a o) h' a o):HOk P w (upd H a o) h':=λb u e=>by
 have hn:=x.fresh hp
 by_cases hb:b=a
 ·subst hb;rw [Qi] at e;cases e;exact new
 ·rw [Qg hb] at e
  exact (x b u e).stay (λc v _ q=>k c v q) (λc q=>by rw [Qg (Ja q hn)];exact q) (λc xs q=>by rw [Qg (Ja q hn)];exact q) λc _ _ _ q _=>by rw [Qg (Ja q hn)];exact q
end
def Rd (H:Hp) (a:Addr) (u:HO):Prop:=H a=some u\/∃o,H a=some (.frz o u)
theorem Rd.ok {h:Heap} (r:Rd H a u) (x:HOk P w H h):Ya P w H h a u:=by
 rcases r with r | ⟨o,r⟩
 ·exact x a u r
 ·obtain ⟨_,q⟩:=x a _ r
  exact q
def Mut:Option HO->Prop
 | some (.lst _)=>True
 | some (.dK _)=>True
 | some (.dT _)=>True
 | some (.set _ _)=>True
 | some (.ins _ _ _)=>True
 | some (.ext _)=>True
 | _=>False
section
variable {h:Heap} {x:Addr} {o':HO}
theorem HOk.write (ok:HOk P w H h) (mu:Mut (H x)) (he:e=x\/H e=some (.own x)) (k:∀b u,b≠e->h.get? b=some u->h'.get? b=some u) (heo:∃u,h'.get? e=some u)
  (new:Ya P w (upd H x o') h' x o'):HOk P w (upd H x o') h':=λb u q=>by
 have nown:∀c y,H c=some (.own y)->c≠x:=λc y r z=>by subst z;rw [r] at mu;exact mu
 have ntup:∀c xs,H c=some (.tup xs)->c≠x:=λc xs r z=>by subst z;rw [r] at mu;exact mu
 have nfrz:∀c o v,H c=some (.frz o v)->c≠x:=λc o v r z=>by subst z;rw [r] at mu;exact mu
 by_cases hb:b=x
 ·subst hb;rw [Qi] at q;cases q;exact new
 ·rw [Qg hb] at q
  by_cases hbe:b=e
  ·have q':H b=some (.own x):=by
    rcases he with z | z
    ·exact absurd (hbe.trans z) hb
    ·rw [hbe];exact z
   rw [q] at q';cases q'
   obtain ⟨v,hv⟩:=heo
   exact ⟨v,by rw [hbe];exact hv⟩
  ·refine (ok b u q).stay (λc v hc r=>k c v ?_ r) (λc r=>by rw [Qg (nown c b r)];exact r) (λc xs r=>by rw [Qg (ntup c xs r)];exact r) λc o v _ r _=>by rw [Qg (nfrz c o v r)];exact r
   rcases hc with rfl | hc
   ·exact hbe
   ·rintro rfl
    rcases he with z | z
    ·exact nown c b hc z
    ·rw [hc] at z;cases z;exact hb rfl
end
structure Un (fs ex:List Addr) (H H':Hp) (h h':Heap):Prop where
 keep:∀b o,h.get? b=some o->H b=none->b∉fs->b∉ex->h'.get? b=some o
 slot:∀b o,h.get? b=some o->H b=none->b∈fs->b∉ex->∃sl,h'.get? b=some { o with slots:=sl }
 free:∀b o,h.get? b=some o->H b=none->b∉ex->H' b=none
 there:∀b o,h.get? b=some o->b∉ex->∃o',h'.get? b=some o'
 tups:∀b xs,H b=some (.tup xs)->H' b=some (.tup xs)
 frzs:∀b o u,H b=some (.frz o u)->H' b=some (.frz o u)
 tbls:∀b ps,H b=some (.tbl ps)->∃more,H' b=some (.tbl (ps++more))
section
variable {fs ex:List Addr} {h h1:Heap} {x:Addr}
theorem Un.any (u:Un fs ex H H1 h h1) {ob:Obj} (q:h.get? b=some ob) (n:H b=none) (hx:b∉ex):∃sl,h1.get? b=some { ob with slots:=sl }:=by
 by_cases hb:b∈fs
 ·exact u.slot b ob q n hb hx
 ·exact ⟨ob.slots,u.keep b ob q n hb hx⟩
theorem Un.kept (k:∀b u,h.get? b=some u->h'.get? b=some u):Un fs ex H H h h' :=
 ⟨λb ob q _ _ _=>k b ob q,λb ob q _ _ _=>⟨ob.slots,k b ob q⟩,λ_ _ _ n _=>n,λb ob q _=>⟨ob,k b ob q⟩,λ_ _ q=>q,λ_ _ _ q=>q,λ_ ps q=>⟨#[],by rw [q];simp⟩⟩
theorem Un.refl:Un fs ex H H h h:=Un.kept λ_ _ q=>q
theorem Un.laid (k:∀b u,h.get? b=some u->h'.get? b=some u) (hp:h.objs.size<=a) (hn:H a=none):Un fs ex H (upd H a o) h h' where
 keep:=λb u q _ _ _=>k b u q
 slot:=λb u q _ _ _=>⟨u.slots,k b u q⟩
 free:=λb u q n _=>by rw [Qg (Nat.ne_of_lt (Nat.lt_of_lt_of_le (Heap.lt_size q) hp))];exact n
 there:=λb u q _=>⟨u,k b u q⟩
 tups:=λb xs q=>by rw [Qg (Ja q hn)];exact q
 frzs:=λb u xs q=>by rw [Qg (Ja q hn)];exact q
 tbls:=λb ps q=>⟨#[],by rw [Qg (Ja q hn),q];simp⟩
theorem Un.write (mu:Mut (H x)) (he:e=x\/H e=some (.own x)) (k:∀b u,b≠e->h.get? b=some u->h'.get? b=some u) (heo:∃u,h'.get? e=some u):Un fs ex H (upd H x o) h h':=by
 have hx:∀b,H b=none->b≠x:=λb n z=>by subst z;rw [n] at mu;exact mu
 have hb:∀b,H b=none->b≠e:=λb n z=>by
  subst z
  rcases he with r | r
  ·exact hx b n r
  ·rw [n] at r;cases r
 have hm:∀b u,H b=some u->¬Mut (some u)->b≠x:=λb u q nm z=>by subst z;rw [q] at mu;exact nm mu
 refine ⟨λb u q n _ _=>k b u (hb b n) q,λb u q n _ _=>⟨u.slots,k b u (hb b n) q⟩,λb u q n _=>by rw [Qg (hx b n)];exact n,λb u q _=>?_,
  λb xs q=>by rw [Qg (hm b _ q λz=>z)];exact q,λb u xs q=>by rw [Qg (hm b _ q λz=>z)];exact q,λb ps q=>⟨#[],by rw [Qg (hm b _ q λz=>z),q];simp⟩⟩
 by_cases hbe:b=e
 ·subst hbe;exact heo
 ·exact ⟨u,k b u hbe q⟩
end
def trk (h:Heap) (H:Hp):List Addr:=(List.range h.objs.size).filter λa=>(H a).isSome
def hidT (h:Heap) (H:Hp):Heap:=PySem.W.hideAll h (trk h H)
theorem Qjj (h:Heap) (H:Hp):(hidT h H).objs.size=h.objs.size:=PySem.W.hideAll_size _ _
theorem Qlv {h:Heap} {o:Obj} (e:h.get? b=some o) (n:H b=none):(hidT h H).get? b=some o :=
 PySem.W.hideAll_get _ e λhm=>by
  have q:(H b).isSome=true:=(List.mem_filter.mp hm).2
  rw [n] at q;simp at q
theorem Qo9 {h:Heap} {o:Obj} (e:(hidT h H).get? b=some o):h.get? b=some o/\H b=none:=by
 have e':h.get? b=some o:=PySem.W.of_hideAll (trk h H) e
 refine ⟨e',?_⟩
 cases q:H b with
 | none=>rfl
 | some x =>
  have hm:b∈trk h H:=List.mem_filter.mpr ⟨List.mem_range.mpr (Heap.lt_size e'),by simp [q]⟩
  have z:(hidT h H).get? b=none:=PySem.W.hideAll_none (trk h H) hm
  rw [z] at e;cases e
structure Mod (K:PySem.W.Frag) (mg:Str->Option Value) (base:Heap):Prop where
 kin:K.In base
 glob:base.Ns mainGlobals mg
 blt:∃mb,base.Ns builtinsNs mb/\∀x:Str,x ≠ "__name__" -> mb x=bootBuiltins x
 nolimit:base.NoLimit
structure Cx where
 prog:Program
 w:World
 K:PySem.W.Frag
 mg:Str->Option Value
 base:Heap
 A:Around
 N:List Str
 s₀:Shared
 H₀:Hp
 env:Env
 outer:List Env
 stack:List Env
 ex:List Addr
 fn:Str->Bool
 calm:Bool
 pn:List (Addr × Obj)
 xe:Value->Shared->Prop
end L2
variable {u:PySem.Value} {g':Array PySem.GenState} {t' i:Nat} {d':PySem.Drawn} {ch:List PySem.Addr} {it:PySem.Addr} {N:List PySem.Str} {A:PySem.Around} {E:PySem.Value->PySem.Shared->Prop} {v:L2.V} {Q:Unit->PySem.Shared->Prop} {s' s:PySem.Shared} {X:L2.Cx} {pins:List (PySem.Addr × PySem.Obj)}
namespace L2
open PySem PySem.Spec PyProof.Rows
def frs (l:List Env):List Addr:=l.filterMap (·.frame)
abbrev Cx.fs (X:Cx):List Addr:=frs X.outer
def Vis (sc:Scope) (x:Str):Prop:=sc.names.lookup x=some .local\/sc.names.lookup x=some .cell\/sc.names.lookup x=some .free
def Loc (sc:Scope) (x:Str):Prop:=sc.names.lookup x=some .local\/sc.names.lookup x=some .cell
def Look (env:Env) (h:Heap) (m:Str->Option Value) (x:Str) (u:Value):Prop :=
 (env.kindOf x=some .local/\m x=some u)\/((env.kindOf x=some .cell\/env.kindOf x=some .free)/\∃c,env.cells.lookup x=some c/\h.IsCell c (some u))
structure Cx.Ok (X:Cx):Prop where
 mod:Mod X.K X.mg X.base
 kind:X.env.scope.kind=.function
 glob:X.env.globals=mainGlobals
 blt:X.env.builtins=builtinsNs
 above:X.s₀.heap.objs.size<=X.env.locals
 inj:∀x y c,X.env.cells.lookup x=some c->X.env.cells.lookup y=some c->x=y
 has:∀x,(X.env.kindOf x=some .cell\/X.env.kindOf x=some .free)->∃c,X.env.cells.lookup x=some c
 cab:∀x c,X.fn x=true->X.env.cells.lookup x=some c->X.s₀.heap.objs.size<=c
 hd:X.calm=true->X.A.handled=none
 frames:X.A.frames=some X.stack
 stk:X.stack=X.outer\/(X.stack=X.env::X.outer/\X.env.frame=some X.env.locals)
 exf:∀b∈X.ex,b≠X.env.locals/\∀x c,X.env.cells.lookup x=some c->c≠b
 bs:∀b o,X.base.get? b=some o->X.s₀.heap.get? b=some o/\X.H₀ b=none
 bsz:X.base.objs.size<=X.s₀.heap.objs.size
 noex:∀b o,X.base.get? b=some o->b∉X.ex
 exfs:∀b∈X.ex,b∉X.fs
 funs:X.s₀.heap.FunFrames X.base X.outer
 frf:∀b∈X.fs,X.H₀ b=none
structure Inv (X:Cx) (pins:List (Addr × Obj)) (σ:List (Option V)) (H:Hp) (s:Shared):Prop where
 ok:X.Ok
 os:s.os=X.s₀.os
 bare:AllBare s.gens
 base:Un X.fs X.ex X.H₀ H X.s₀.heap s.heap
 loc:∃m,s.heap.Ns X.env.locals m/\∀(i:Nat) (x:Str) (v:V),X.N[i]? = some x->σ[i]? = some (some v)->Vis X.env.scope x->∃u,RelV v u/\Look X.env s.heap m x u
 cell:∀x c,X.env.cells.lookup x=some c->∃v,s.heap.IsCell c v
 free:H X.env.locals=none
 freeC:∀x c,X.env.cells.lookup x=some c->H c=none
 pin:∀p∈X.pn++pins,s.heap.get? p.1=some p.2/\H p.1=none/\p.1≠X.env.locals/\p.1∉X.fs/\∀v,p.2.data ≠ .cell v
 hok:HOk X.prog X.w H s.heap
 len:σ.length=X.N.length
section
variable {σ:List (Option V)}
theorem Cx.Ok.nofr (ok:X.Ok) {o:Obj} (e:X.base.get? b=some o):b∉X.fs:=λhb=>by
 have:=(ok.funs.mem hb).1
 rw [e] at this;cases this
theorem Inv.bs (I:Inv X pins σ H s):∀b o,X.base.get? b=some o->s.heap.get? b=some o/\H b=none:=λb o e =>
 ⟨I.base.keep b o (I.ok.bs b o e).1 (I.ok.bs b o e).2 (I.ok.nofr e) (I.ok.noex b o e),I.base.free b o (I.ok.bs b o e).1 (I.ok.bs b o e).2 (I.ok.noex b o e)⟩
theorem Inv.bk (I:Inv X pins σ H s):∀b o,X.base.get? b=some o->s.heap.get? b=some o:=λb o e=>(I.bs b o e).1
theorem Inv.mod (I:Inv X pins σ H s):Mod X.K X.mg X.base:=I.ok.mod
theorem Inv.kIn (I:Inv X pins σ H s):X.K.In s.heap:=I.ok.mod.kin.keeps I.bk
theorem Inv.lt (I:Inv X pins σ H s):X.env.locals<s.heap.objs.size:=let ⟨_,hn,_⟩:=I.loc;hn.lt
theorem Inv.sz (I:Inv X pins σ H s):X.s₀.heap.objs.size<=s.heap.objs.size:=Nat.le_trans I.ok.above (Nat.le_of_lt I.lt)
theorem Inv.nofs (I:Inv X pins σ H s) (h:s.heap.objs.size<=a):a∉X.fs:=λhb=>by
 obtain ⟨_,o,ho,_⟩:=I.ok.funs.mem hb
 exact absurd (Nat.lt_of_lt_of_le (Heap.lt_size ho) (Nat.le_trans I.sz h)) (Nat.lt_irrefl _)
theorem Inv.cne (I:Inv X pins σ H s):∀x c,X.env.cells.lookup x=some c->c≠X.env.locals:=λx c e z=>by
 obtain ⟨v,o,ho,hd⟩:=I.cell x c e
 obtain ⟨m,⟨o',es,ep,ho',hd',_⟩,_⟩:=I.loc
 rw [z,ho'] at ho;cases ho;rw [hd'] at hd;cases hd
theorem Inv.funs (I:Inv X pins σ H s):s.heap.FunFrames X.base X.outer:=by
 have all:∀(l:List Env),(∀b∈frs l,b∈X.fs)->X.s₀.heap.FunFrames X.base l->s.heap.FunFrames X.base l:=by
  intro l
  induction l with
  | nil=>intro _ _;trivial
  | cons env r ih =>
   intro hs hl
   obtain ⟨hk,⟨L,o,hf,hn,ho,hd⟩,hr⟩:=hl
   have hL:L∈X.fs:=hs L (by unfold frs;rw [List.filterMap_cons,hf];exact List.mem_cons_self)
   obtain ⟨sl,e⟩:=I.base.slot L o ho (I.ok.frf L hL) hL λz=>I.ok.exfs L z hL
   exact ⟨hk,⟨L,_,hf,hn,e,hd⟩,ih (λb hb=>hs b (by unfold frs;rw [List.filterMap_cons,hf];exact List.mem_cons_of_mem _ hb)) hr⟩
 exact all X.outer (λ_ hb=>hb) I.ok.funs
theorem Inv.stack (I:Inv X pins σ H s):s.heap.FunFrames X.base X.stack:=by
 rcases I.ok.stk with e | ⟨e,hf⟩
 ·rw [e];exact I.funs
 ·rw [e]
  obtain ⟨m,hn,_⟩:=I.loc
  refine .cons (by rw [I.ok.kind];decide) hf hn ?_ I.funs
  exact Heap.get?_none_of_le (Nat.le_trans I.ok.bsz I.ok.above)
theorem Inv.stkSub (I:Inv X pins σ H s):∀b∈frs X.stack,b∈X.env.locals::X.fs:=λb hb=>by
 rcases I.ok.stk with e | ⟨e,hf⟩
 ·rw [e] at hb;exact List.mem_cons_of_mem _ hb
 ·rw [e] at hb
  unfold frs at hb
  rw [List.filterMap_cons,hf] at hb
  exact hb
theorem Inv.stkFree (I:Inv X pins σ H s):∀b∈frs X.stack,H b=none:=λb hb=>by
 rcases List.mem_cons.mp (I.stkSub b hb) with e | hb
 ·rw [e];exact I.free
 ·obtain ⟨_,o,ho,_⟩:=I.ok.funs.mem hb
  exact I.base.free b o ho (I.ok.frf b hb) λz=>I.ok.exfs b z hb
theorem Inv.step (I:Inv X pins σ H s)
  (hch:∀b∈ch,(b∈X.ex\/X.s₀.heap.objs.size<=b)/\b≠X.env.locals/\(∀x c,X.env.cells.lookup x=some c->c≠b)/\∀p∈X.pn++pins,p.1≠b)
  (keep:∀b o,b≠X.env.locals->b∉X.fs->b∉ch->s.heap.get? b=some o->H b=none->h'.get? b=some o)
  (slot:∀b o,b≠X.env.locals->b∈X.fs->b∉ch->s.heap.get? b=some o->H b=none->∃sl,h'.get? b=some { o with slots:=sl }) (free:∀b o,b∉ch->s.heap.get? b=some o->H b=none->H' b=none)
  (there:∀b o,b∉ch->s.heap.get? b=some o->∃o',h'.get? b=some o')
  (tups:∀b xs,H b=some (.tup xs)->H' b=some (.tup xs)) (frzs:∀b o u,H b=some (.frz o u)->H' b=some (.frz o u)) (tbls:∀b ps,H b=some (.tbl ps)->∃more,H' b=some (.tbl (ps++more)))
  (ns:∀m,s.heap.Ns X.env.locals m->h'.Ns X.env.locals m) (hok:HOk X.prog X.w H' h') (hg:AllBare g') :
  Inv X pins σ H' { s with heap:=h',gens:=g',drawn:=d',toks:=t' }:=by
 have neL:∀b o,X.s₀.heap.get? b=some o->b≠X.env.locals:=λb o e=>Nat.ne_of_lt (Nat.lt_of_lt_of_le (Heap.lt_size e) I.ok.above)
 have neC:∀b o,X.s₀.heap.get? b=some o->b∉X.ex->b∉ch:=λb o e hx hb=>by
  rcases (hch b hb).1 with z | z
  ·exact hx z
  ·exact absurd (Nat.lt_of_lt_of_le (Heap.lt_size e) z) (Nat.lt_irrefl _)
 have cellK:∀x c,X.env.cells.lookup x=some c->∀v,s.heap.IsCell c v->h'.IsCell c v:=λx c e v ⟨o,ho,hd⟩=>by
  have nch:c∉ch:=λz=>(hch c z).2.2.1 x c e rfl
  by_cases hc:c∈X.fs
  ·obtain ⟨sl,q⟩:=slot c o (I.cne x c e) hc nch ho (I.freeC x c e)
   exact ⟨_,q,hd⟩
  ·exact ⟨o,keep c o (I.cne x c e) hc nch ho (I.freeC x c e),hd⟩
 refine ⟨I.ok,I.os,hg,⟨λb o e n hb hx=>?_,λb o e n hb hx=>?_,λb o e n hx=>?_,λb o e hx=>?_,λb xs e=>tups b xs (I.base.tups b xs e),λb o xs e=>frzs b o xs (I.base.frzs b o xs e),λb ps e=>?_⟩,?_,λx c e=>?_,?_,λx c e=>?_,λp hp=>?_,hok,I.len⟩
 ·exact keep b o (neL b o e) hb (neC b o e hx) (I.base.keep b o e n hb hx) (I.base.free b o e n hx)
 ·obtain ⟨sl,e1⟩:=I.base.slot b o e n hb hx
  obtain ⟨sl',e2⟩:=slot b _ (neL b o e) hb (neC b o e hx) e1 (I.base.free b o e n hx)
  exact ⟨sl',e2⟩
 ·obtain ⟨o',e1⟩:=I.base.there b o e hx
  exact free b o' (neC b o e hx) e1 (I.base.free b o e n hx)
 ·obtain ⟨o',e1⟩:=I.base.there b o e hx
  exact there b o' (neC b o e hx) e1
 ·obtain ⟨m1,e1⟩:=I.base.tbls b ps e
  obtain ⟨m2,e2⟩:=tbls b _ e1
  exact ⟨m1++m2,by rw [e2,Array.append_assoc]⟩
 ·obtain ⟨m,hn,hl⟩:=I.loc
  refine ⟨m,ns m hn,λi x v e1 e2 e3=>?_⟩
  obtain ⟨u,r,l⟩:=hl i x v e1 e2 e3
  refine ⟨u,r,?_⟩
  rcases l with l | ⟨k,c,e,z⟩
  ·exact .inl l
  ·exact .inr ⟨k,c,e,cellK x c e _ z⟩
 ·obtain ⟨v,z⟩:=I.cell x c e
  exact ⟨v,cellK x c e v z⟩
 ·obtain ⟨m,⟨o,_,_,ho,_⟩,_⟩:=I.loc
  exact free _ o (λz=>(hch _ z).2.1 rfl) ho I.free
 ·obtain ⟨v,o,ho,hd⟩:=I.cell x c e
  exact free c o (λz=>(hch c z).2.2.1 x c e rfl) ho (I.freeC x c e)
 ·obtain ⟨e,n,ne,nf,d⟩:=I.pin p hp
  have nch:p.1∉ch:=λz=>(hch p.1 z).2.2.2 p hp rfl
  exact ⟨keep p.1 p.2 ne nf nch e n,free p.1 p.2 nch e n,ne,nf,d⟩
theorem Inv.un (I:Inv X pins σ H s) (u:Un X.fs [] H H' s.heap h') (hok:HOk X.prog X.w H' h'):Inv X pins σ H' { s with heap:=h',toks:=t' }:=by
 obtain ⟨m,⟨o,es,ep,ho,r⟩,_⟩:=id I.loc
 obtain ⟨sl,hL⟩:=u.any ho I.free (by simp)
 exact I.step (g':=s.gens) (d':=s.drawn) (ch:=[]) (λ_ z=>nomatch z) (λb o _ hb _ e n=>u.keep b o e n hb (by simp)) (λb o _ hb _ e n=>u.slot b o e n hb (by simp)) (λb o _ e n=>u.free b o e n (by simp)) (λb o _ e=>u.there b o e (by simp)) u.tups u.frzs u.tbls (λm' hm=>by
  obtain ⟨o',es',ep',ho',r'⟩:=hm
  rw [ho] at ho';cases ho'
  exact ⟨_,es',ep',hL,r'⟩) hok I.bare
theorem Inv.call (I:Inv X pins σ H s) (u:Un (frs X.stack) ch H H' s.heap h') (hok:HOk X.prog X.w H' h') (hg:AllBare g')
  (hch:∀b∈ch,(b∈X.ex\/X.s₀.heap.objs.size<=b)/\b≠X.env.locals/\(∀x c,X.env.cells.lookup x=some c->c≠b)/\∀p∈X.pn++pins,p.1≠b) :
  Inv X pins σ H' { s with heap:=h',gens:=g',drawn:=d',toks:=t' }:=by
 obtain ⟨m,⟨o,es,ep,ho,r⟩,_⟩:=id I.loc
 obtain ⟨sl,hL⟩:=u.any ho I.free λz=>(hch _ z).2.1 rfl
 exact I.step (ch:=ch) hch (λb o hL hb hc e n=>u.keep b o e n (λz=>(List.mem_cons.mp (I.stkSub b z)).elim hL hb) hc) (λb o _ _ hc e n=>u.any e n hc) (λb o hc e n=>u.free b o e n hc) (λb o hc e=>u.there b o e hc) u.tups u.frzs u.tbls (λm' hm=>by
  obtain ⟨o',es',ep',ho',r'⟩:=hm
  rw [ho] at ho';cases ho'
  exact ⟨_,es',ep',hL,r'⟩) hok hg
theorem Inv.turned (I:Inv X pins σ H s) (k:∀b o,b≠it->s.heap.get? b=some o->h'.get? b=some o) (hn:H it=none) (hL:it≠X.env.locals)
  (h1:it∈X.ex\/X.s₀.heap.objs.size<=it) (h2:∀x c,X.env.cells.lookup x=some c->c≠it) (h3:∀p∈X.pn++pins,p.1≠it):Inv X pins σ H { s with heap:=h',toks:=t' }:=by
 have nit:∀b u,H b=some u->b≠it:=λb u e z=>by rw [z,hn] at e;cases e
 refine I.step (g':=s.gens) (d':=s.drawn) (ch:=[it]) (λb hb=>?_) (λb o _ _ hc e _=>k b o (λz=>hc (by simp [z])) e) (λb o _ _ hc e _=>⟨o.slots,k b o (λz=>hc (by simp [z])) e⟩) (λ_ _ _ _ n=>n)
  (λb o hc e=>⟨o,k b o (λz=>hc (by simp [z])) e⟩) (λ_ _ e=>e) (λ_ _ _ e=>e) (λb ps e=>⟨#[],by rw [e];simp⟩) (λm hm=>?_) (λb u e=>?_) I.bare
 ·have e:b=it:=by simpa using hb
  subst e
  exact ⟨h1,hL,h2,h3⟩
 ·obtain ⟨o,es,ep,ho,r⟩:=hm
  exact ⟨o,es,ep,k _ o (Ne.symm hL) ho,r⟩
 ·refine (I.hok b u e).stay (λc v hc q=>k c v ?_ q) (λ_ q=>q) λ_ _ q=>q
  rcases hc with z | z
  ·rw [z];exact nit b u e
  ·exact nit c _ z
theorem Inv.tok (I:Inv X pins σ H s) (t:Nat):Inv X pins σ H { s with toks:=t }:=I.un (h':=s.heap) (t':=t) Un.refl I.hok
theorem Inv.kept (I:Inv X pins σ H s) (k:∀b u,s.heap.get? b=some u->h'.get? b=some u):Inv X pins σ H { s with heap:=h',toks:=t' }:=I.un (Un.kept k) (I.hok.kept k)
theorem Inv.laid (I:Inv X pins σ H s) (k:∀b u,s.heap.get? b=some u->h'.get? b=some u) (hp:s.heap.objs.size<=a) (new:Ya X.prog X.w (upd H a o) h' a o) :
  Inv X pins σ (upd H a o) { s with heap:=h',toks:=t' }:=I.un (Un.laid k hp (I.hok.fresh hp)) (I.hok.laid k hp new)
theorem Inv.write {x:Addr} (I:Inv X pins σ H s) (mu:Mut (H x)) (he:e=x\/H e=some (.own x)) (k:∀b u,b≠e->s.heap.get? b=some u->h'.get? b=some u) (heo:∃u,h'.get? e=some u)
  (new:Ya X.prog X.w (upd H x o) h' x o):Inv X pins σ (upd H x o) { s with heap:=h',toks:=t' }:=I.un (Un.write mu he k heo) (I.hok.write mu he k heo new)
theorem Inv.pins_of {pins':List (Addr × Obj)} (I:Inv X pins σ H s) (h:∀p∈pins',s.heap.get? p.1=some p.2/\H p.1=none/\p.1≠X.env.locals/\p.1∉X.fs/\∀v,p.2.data ≠ .cell v):Inv X pins' σ H s :=
 ⟨I.ok,I.os,I.bare,I.base,I.loc,I.cell,I.free,I.freeC,λp hp=>(List.mem_append.mp hp).elim (λz=>I.pin p (List.mem_append_left _ z)) (h p),I.hok,I.len⟩
theorem Qb4 (hN:N.Nodup) {j:Nat} (a:N[i]? = some x) (b:N[j]? = some x):i=j:=by
 obtain ⟨h1,e1⟩:=List.getElem?_eq_some_iff.mp a
 obtain ⟨h2,e2⟩:=List.getElem?_eq_some_iff.mp b
 exact (List.getElem_inj hN).mp (e1.trans e2.symm)
theorem Qcq {M:Model} (I:Inv X pins σ H s) (hN:X.N.Nodup) (hi:X.N[i]? = some x) (hx:Loc X.env.scope x) (r:RelV v u)
  (h:∀s',Inv X pins (σ.set i (some v)) H s'->(∃a,Heap.SameBut a s.heap s'.heap/\(a=X.env.locals\/X.env.cells.lookup x=some a))->Q () s') (hf:X.fn x=true\/X.env.scope.names.lookup x=some .local:=by first | exact .inl rfl | exact .inr rfl | assumption):wpAny M A (storeName X.env x u) Q E s:=by
 obtain ⟨m,hn,hl⟩:=id I.loc
 have hcls:(X.env.scope.kind == .class || (X.env.scope.kind == .module && X.env.locals != X.env.globals))=false:=by rw [I.ok.kind];rfl
 have hiσ:i<σ.length:=by rw [I.len];exact (List.getElem?_eq_some_iff.mp hi).1
 have cne:=I.cne
 have tracked:∀{a:Addr} {h':Heap},(∃o,s.heap.get? a=some o/\H a=none)->Heap.SameBut a s.heap h'->HOk X.prog X.w H h':=λ{a h'} ha hs b ob e=>by
  obtain ⟨_,_,hfree⟩:=ha
  refine (I.hok b ob e).stay (λc w' hc q=>(hs.2 c ?_).trans q) (λ_ q=>q) λ_ _ q=>q
  rintro rfl
  rcases hc with rfl | hc
  ·rw [hfree] at e;cases e
  ·rw [hfree] at hc;cases hc
 rcases hx with hk | hk
 ·refine wpAny_storeName_local hk hn (λh' hn' hs=>?_) hcls
  obtain ⟨oL,_,_,hoL,_⟩:=id hn
  refine h _ ⟨I.ok,I.os,I.bare,⟨λb o e n hb hx=>?_,λb o e n hb hx=>?_,I.base.free,λb o e hx=>?_,I.base.tups,I.base.frzs,I.base.tbls⟩,⟨_,hn',λj y v' e1 e2 e3=>?_⟩,λy c e=>?_,I.free,I.freeC,λp hp=>?_,tracked ⟨oL,hoL,I.free⟩ hs,by simpa using I.len⟩ ⟨_,hs,.inl rfl⟩
  ·exact (hs.2 b (Nat.ne_of_lt (Nat.lt_of_lt_of_le (Heap.lt_size e) I.ok.above))).trans (I.base.keep b o e n hb hx)
  ·obtain ⟨sl,e1⟩:=I.base.slot b o e n hb hx
   exact ⟨sl,(hs.2 b (Nat.ne_of_lt (Nat.lt_of_lt_of_le (Heap.lt_size e) I.ok.above))).trans e1⟩
  ·obtain ⟨o',e1⟩:=I.base.there b o e hx
   exact ⟨o',(hs.2 b (Nat.ne_of_lt (Nat.lt_of_lt_of_le (Heap.lt_size e) I.ok.above))).trans e1⟩
  ·by_cases hj:j=i
   ·subst hj
    rw [hi] at e1;cases e1
    rw [List.getElem?_set_self hiσ] at e2
    cases e2
    exact ⟨u,r,.inl ⟨hk,by simp⟩⟩
   ·rw [List.getElem?_set_ne (Ne.symm hj)] at e2
    obtain ⟨u',r',q⟩:=hl j y v' e1 e2 e3
    refine ⟨u',r',?_⟩
    rcases q with ⟨k,e⟩ | ⟨k,c,e,z⟩
    ·refine .inl ⟨k,?_⟩
     have:y≠x:=λe=>hj (Qb4 hN e1 (e ▸ hi))
     simp [this,e]
    ·exact .inr ⟨k,c,e,z.sameBut hs (cne y c e)⟩
  ·obtain ⟨w',z⟩:=I.cell y c e
   exact ⟨w',z.sameBut hs (cne y c e)⟩
  ·obtain ⟨e,n,ne,nf,d⟩:=I.pin p hp
   exact ⟨(hs.2 p.1 ne).trans e,n,ne,nf,d⟩
 ·have hfn:X.fn x=true:=by
   rcases hf with z | z
   ·exact z
   ·rw [z] at hk;cases hk
  obtain ⟨c,hc⟩:=I.ok.has x (.inl hk)
  obtain ⟨w',z⟩:=I.cell x c hc
  refine wpAny_storeName_cell I.ok.kind hk hc z (λh' hc' hs=>?_)
  obtain ⟨oc,hoc,hocd⟩:=id z
  refine h { s with heap:=h' } ⟨I.ok,I.os,I.bare,⟨λb o e n hb hx=>?_,λb o e n hb hx=>?_,I.base.free,λb o e hx=>?_,I.base.tups,I.base.frzs,I.base.tbls⟩,⟨m,hn.sameBut hs (Ne.symm (cne x c hc)),λj y v' e1 e2 e3=>?_⟩,λy c' e=>?_,I.free,I.freeC,λp hp=>?_,tracked ⟨oc,hoc,I.freeC x c hc⟩ hs,by simpa using I.len⟩ ⟨c,hs,.inr hc⟩
  ·exact (hs.2 b (Nat.ne_of_lt (Nat.lt_of_lt_of_le (Heap.lt_size e) (I.ok.cab x c hfn hc)))).trans (I.base.keep b o e n hb hx)
  ·obtain ⟨sl,e1⟩:=I.base.slot b o e n hb hx
   exact ⟨sl,(hs.2 b (Nat.ne_of_lt (Nat.lt_of_lt_of_le (Heap.lt_size e) (I.ok.cab x c hfn hc)))).trans e1⟩
  ·obtain ⟨o',e1⟩:=I.base.there b o e hx
   exact ⟨o',(hs.2 b (Nat.ne_of_lt (Nat.lt_of_lt_of_le (Heap.lt_size e) (I.ok.cab x c hfn hc)))).trans e1⟩
  ·by_cases hj:j=i
   ·subst hj
    rw [hi] at e1;cases e1
    rw [List.getElem?_set_self hiσ] at e2
    cases e2
    exact ⟨u,r,.inr ⟨.inl hk,c,hc,hc'⟩⟩
   ·rw [List.getElem?_set_ne (Ne.symm hj)] at e2
    obtain ⟨u',r',q⟩:=hl j y v' e1 e2 e3
    refine ⟨u',r',?_⟩
    rcases q with q | ⟨k,c',e,z'⟩
    ·exact .inl q
    ·refine .inr ⟨k,c',e,z'.sameBut hs ?_⟩
     rintro rfl
     exact hj (Qb4 hN e1 (I.ok.inj _ _ _ e hc ▸ hi))
  ·by_cases hcc:c'=c
   ·subst hcc;exact ⟨_,hc'⟩
   ·obtain ⟨w2,z2⟩:=I.cell y c' e
    exact ⟨w2,z2.sameBut hs hcc⟩
  ·obtain ⟨e,n,ne,nf,d⟩:=I.pin p hp
   refine ⟨(hs.2 p.1 ?_).trans e,n,ne,nf,d⟩
   intro q
   rw [q,hoc] at e
   have q':oc=p.2:=Option.some.inj e
   exact d w' (by rw [← q'];exact hocd)
theorem Qbn {M:Model} (I:Inv X pins σ H s) (hN:X.N.Nodup) (hi:X.N[i]? = some x) (hx:Loc X.env.scope x) (r:RelV v u)
  (h:∀s',Inv X pins (σ.set i (some v)) H s'->Q () s') (hf:X.fn x=true\/X.env.scope.names.lookup x=some .local:=by first | exact .inl rfl | exact .inr rfl | assumption):wpAny M A (storeName X.env x u) Q E s :=
 Qcq I hN hi hx r (λs' I' _=>h s' I') hf
theorem Inv.call' (I:Inv X pins σ H s) (ho:s'.os=s.os) (u:Un (frs X.stack) ch H H' s.heap s'.heap) (hok:HOk X.prog X.w H' s'.heap) (hg:AllBare s'.gens)
  (hch:∀b∈ch,(b∈X.ex\/X.s₀.heap.objs.size<=b)/\b≠X.env.locals/\(∀x c,X.env.cells.lookup x=some c->c≠b)/\∀p∈X.pn++pins,p.1≠b):Inv X pins σ H' s':=by
 obtain ⟨h',g',d',t',o'⟩:=s'
 have e:o'=s.os:=ho
 subst e
 exact I.call (g':=g') (t':=t') (d':=d') u hok hg hch
end
abbrev XK:=Value->Option Addr->Hp->Prop
abbrev St:=List (Option V)
abbrev VK:=V->Hp->Prop
abbrev TE:=St->Hp->VK->Prop
abbrev TT:=St->Hp->(Bool->Hp->Prop)->Prop
abbrev TA:=St->Hp->(List V->Hp->Prop)->Prop
structure Ends where
 nx:St->Hp->Prop
 rt:VK
 bk:St->Hp->Prop:=λ_ _=>False
 ct:St->Hp->Prop:=λ_ _=>False
abbrev TS:=Ends->St->Hp->Prop
end L2
variable {xs ys:List L2.V} {e c:PySem.Expr} {Q:PySem.Value->PySem.Shared->Prop} {pos:PySem.Pos} {σ:L2.St} {y:L2.V} {K:PySem.W.Frag} {f:PySem.Value->PySem.Value->PySem.Sem PySem.Value} {st:PySem.Stmt} {tc:L2.TT} {te tb ta:L2.TE} {rest:List PySem.Expr}
namespace L2
open PySem PySem.Spec PyProof.Rows
def EP (X:Cx) (pins:List (Addr × Obj)) (σ:St) (Q:VK) (u:Value) (s':Shared):Prop:=∃v H',Inv X pins σ H' s'/\RelV v u/\Q v H'
def TP (X:Cx) (pins:List (Addr × Obj)) (σ:St) (Q:Bool->Hp->Prop) (b:Bool) (s':Shared):Prop:=∃H',Inv X pins σ H' s'/\Q b H'
def AP (X:Cx) (pins:List (Addr × Obj)) (σ:St) (Q:List V->Hp->Prop) (us:List Value) (s':Shared):Prop:=∃vs H',Inv X pins σ H' s'/\Vals vs us/\Q vs H'
def SP (X:Cx) (pins:List (Addr × Obj)) (D:Ends) (f:Flow) (s':Shared):Prop :=
 match f with
 | .next=>∃σ' H',Inv X pins σ' H' s'/\D.nx σ' H'
 | .brk=>∃σ' H',Inv X pins σ' H' s'/\D.bk σ' H'
 | .cont=>∃σ' H',Inv X pins σ' H' s'/\D.ct σ' H'
 | .ret u=>∃v σ' H',Inv X pins σ' H' s'/\RelV v u/\D.rt v H'
def PE (X:Cx) (e:Expr) (t:TE):Prop :=
 ∀(pins:List (Addr × Obj)) (s:Shared) (σ:St) (H:Hp) (Q:VK),Inv X pins σ H s->t σ H Q->wpAny (model X.prog X.w) X.A (eval e X.env) (EP X pins σ Q) X.xe s
def PT (X:Cx) (e:Expr) (t:TT):Prop :=
 ∀(pins:List (Addr × Obj)) (s:Shared) (σ:St) (H:Hp) (Q:Bool->Hp->Prop),Inv X pins σ H s->t σ H Q->wpAny (model X.prog X.w) X.A (isTrue e X.env (eval e X.env)) (TP X pins σ Q) X.xe s
def PW (X:Cx) (e:Expr) (t:TT):Prop :=
 ∀(whole:Sem Value) (pins:List (Addr × Obj)) (s:Shared) (σ:St) (H:Hp) (Q:Bool->Hp->Prop),Inv X pins σ H s->t σ H Q->wpAny (model X.prog X.w) X.A (isTrue e X.env whole) (TP X pins σ Q) X.xe s
theorem PW.pt {t:TT} (h:PW X e t):PT X e t:=h _
def PA (X:Cx) (es:List Expr) (t:TA):Prop :=
 ∀(pos:Pos) (pins:List (Addr × Obj)) (s:Shared) (σ:St) (H:Hp) (Q:List V->Hp->Prop),Inv X pins σ H s->t σ H Q->wpAny (model X.prog X.w) X.A (spliced (backTo pos (starEach es X.env))) (AP X pins σ Q) X.xe s
def PS (X:Cx) (st:Stmt) (t:TS):Prop :=
 ∀(pins:List (Addr × Obj)) (s:Shared) (σ:St) (H:Hp) (D:Ends),Inv X pins σ H s->t D σ H->wpAny (model X.prog X.w) X.A (exec st X.env) (SP X pins D) X.xe s
def PSs (X:Cx) (st:List Stmt) (t:TS):Prop :=
 ∀(pins:List (Addr × Obj)) (s:Shared) (σ:St) (H:Hp) (D:Ends),Inv X pins σ H s->t D σ H->wpAny (model X.prog X.w) X.A (execs st X.env) (SP X pins D) X.xe s
theorem thn {α:Type} {t:Sem α} {Q Q':α->Shared->Prop} {M:Model} (h:wpAny M A t Q E s) (hQ:∀a s,Q a s->Q' a s):wpAny M A t Q' E s:=wpAny_mono h hQ λ_ _ x=>x
def tVar (i:Nat):TE:=λσ H Q=>∃v,σ[i]? = some (some v)/\Q v H
def tC (v:V):TE:=λ_ H Q=>Q v H
theorem Y4 (hN:X.N[i]? = some x) (hv:Vis X.env.scope x) (hd:(x == ("__debug__" : Str))=false:=by decide) (hcd:(x == ("__classdict__" : Str))=false:=by decide):PE X (.Name x pos) (tVar i):=by
 intro pins s σ H Q I h
 obtain ⟨v,e,h⟩:=h
 obtain ⟨m,hn,hl⟩:=I.loc
 obtain ⟨u,r,l⟩:=hl i x v hN e hv
 have fin:EP X pins σ Q u s:=⟨v,H,I,r,h⟩
 rcases l with ⟨hk,hm⟩ | ⟨hk,c,hc,hcell⟩
 ·exact wpAny_Name (wpAny_loadName_local I.ok.kind hk hn hm fin) hd
 ·rcases hk with hk | hk
  ·exact wpAny_Name (wpAny_loadName_cell I.ok.kind hk hc hcell fin) hd
  ·exact wpAny_Name (wpAny_loadName_free I.ok.kind hk hc hcell fin hcd) hd
theorem Qm0 {i j pos}:PE X (.Constant (.int i) j pos) (tC (.int i)):=λ_ _ _ H _ I h=>wpAny_Constant_int ⟨.int i,H,I.tok _,⟨_,rfl⟩,h⟩
theorem Quv {b j pos}:PE X (.Constant (.bool b) j pos) (tC (.bl b)):=λ_ _ _ H _ I h=>Constant_bool ⟨.bl b,H,I,rfl,h⟩
theorem Qrk {j pos}:PE X (.Constant .none j pos) (tC .non):=λ_ _ _ H _ I h=>Constant_none ⟨.non,H,I,rfl,h⟩
theorem Qmz {x j pos}:PE X (.Constant (.str x) j pos) (tC (.str x)):=λ_ _ _ H _ I h=>Calls.Constant_str ⟨.str x,H,I.tok _,⟨_,rfl⟩,h⟩
def Gl (X:Cx) (x:Str):Prop:=X.env.kindOf x=some .globalImplicit
theorem Vj (I:Inv X pins σ H s) (hg:Gl X x) (hm:X.mg x=some u) (h:Q u s)
  (hd:(x == ("__debug__" : Str))=false:=by decide):wpAny (model X.prog X.w) X.A (eval (.Name x pos) X.env) Q E s :=
 Calls.Name_function_global I.ok.kind hg (Calls.loadGlobal_global (by rw [I.ok.glob];exact I.mod.glob.keeps I.bk) hm h) hd
theorem Qfw (I:Inv X pins σ H s) (hg:Gl X x) (hm:X.mg x=none) (hv:bootBuiltins x=some u) (h:Q u s)
  (hn:x ≠ "__name__":=by decide) (hd:(x == ("__debug__" : Str))=false:=by decide):wpAny (model X.prog X.w) X.A (eval (.Name x pos) X.env) Q E s:=by
 obtain ⟨mb,h1,h2⟩:=I.mod.blt
 exact Calls.Name_function_global I.ok.kind hg (Calls.loadGlobal_builtin (by rw [I.ok.glob];exact I.mod.glob.keeps I.bk) hm (by rw [I.ok.blt];exact h1.keeps I.bk) ((h2 x hn).trans hv) h) hd
theorem Ga (hg:Gl X x) (hm:X.mg x=some u) (r:RelV v u) (hd:(x == ("__debug__" : Str))=false:=by decide):PE X (.Name x pos) (tC v) :=
 λ_ _ _ H _ I h=>Vj I hg hm ⟨v,H,I,r,h⟩ hd
theorem Qip (hg:Gl X x) (hm:X.mg x=none) (hv:bootBuiltins x=some u) (r:RelV v u) (hn:x ≠ "__name__":=by decide) (hd:(x == ("__debug__" : Str))=false:=by decide):PE X (.Name x pos) (tC v) :=
 λ_ _ _ H _ I h=>Qfw I hg hm hv ⟨v,H,I,r,h⟩ hn hd
section
variable {a b:Expr} {tA tB':TT}
def tAnd (t u:TT):TT:=λσ H Q=>t σ H λc H1=>if c=true then u σ H1 Q else Q false H1
def tOr (t u:TT):TT:=λσ H Q=>t σ H λc H1=>if c=true then Q true H1 else u σ H1 Q
def tNot (t:TT):TT:=λσ H Q=>t σ H λc H1=>Q (!c) H1
theorem Qoo (ha:PT X a tA):PW X (.BoolOp .And [a] pos) tA:=by
 intro wh pins s σ H Q I h
 refine isTrue_and (thn (ha pins s σ H Q I h) λc s1 e=>?_)
 cases c with
 | true=>exact isTrue_and_nil e
 | false=>exact e
theorem Qq7 (ha:PT X a tA):PW X (.BoolOp .Or [a] pos) tA:=by
 intro wh pins s σ H Q I h
 refine isTrue_or (thn (ha pins s σ H Q I h) λc s1 e=>?_)
 cases c with
 | false=>exact isTrue_or_nil e
 | true=>exact e
theorem Qq8 (ha:PT X a tA) (hb:PW X (.BoolOp .And (b::rest) pos) tB'):PW X (.BoolOp .And (a::b::rest) pos) (tAnd tA tB'):=by
 intro wh pins s σ H Q I h
 refine isTrue_and (thn (ha pins s σ H _ I h) λc s1 ⟨H1,I1,q1⟩=>?_)
 cases c with
 | true=>exact hb wh pins s1 σ H1 Q I1 q1
 | false=>exact ⟨H1,I1,q1⟩
theorem Qun (ha:PT X a tA) (hb:PW X (.BoolOp .Or (b::rest) pos) tB'):PW X (.BoolOp .Or (a::b::rest) pos) (tOr tA tB'):=by
 intro wh pins s σ H Q I h
 refine isTrue_or (thn (ha pins s σ H _ I h) λc s1 ⟨H1,I1,q1⟩=>?_)
 cases c with
 | true=>exact ⟨H1,I1,q1⟩
 | false=>exact hb wh pins s1 σ H1 Q I1 q1
theorem Qq9 (ha:PT X a tA):PT X (.UnaryOp .Not a pos) (tNot tA):=by
 intro pins s σ H Q I h
 exact isTrue_not (ha pins s σ H (λc H1=>Q (!c) H1) I h)
def Qt2 (ta tb:TE):TE:=λσ H Q=>ta σ H λx H1=>∃c,x=.bl c/\if c=true then tb σ H1 Q else Q (.bl false) H1
theorem Qrj {op} {t:TE} (h:PE X a t):PE X (.BoolOp op [a] pos) t:=λpins s σ H Q I hw=>BoolOp_one (h pins s σ H Q I hw)
theorem Qrp (ha:PE X a ta) (hb:PE X (.BoolOp .And (b::rest) pos) tb):PE X (.BoolOp .And (a::b::rest) pos) (Qt2 ta tb):=by
 intro pins s σ H Q I h
 refine BoolOp_and (thn (ha pins s σ H _ I h) λv s1 ⟨x,H1,I1,r1,q1⟩=>?_)
 obtain ⟨c,rfl,q1⟩:=q1
 cases r1
 refine wpAny_truthy_bool ?_
 cases c with
 | true=>exact hb pins s1 σ H1 Q I1 q1
 | false=>exact ⟨.bl false,H1,I1,rfl,q1⟩
end
def SqL (K:PySem.W.Frag) (H:Hp) (a:Addr) (xs:List V):Prop :=
 Rd H a (.lst xs) \/
  ∃(o:Obj) (its:Array Value) (n:Nat),K.lookup a=some o/\o.cls=.type "list" /\ o.dict=none/\o.data=.seq its n/\its.size<=sizeLine/\Vals xs its.toList
def SqT (K:PySem.W.Frag) (H:Hp) (a:Addr) (xs:List V):Prop :=
 Rd H a (.tup xs) \/
  ∃(o:Obj) (its:Array Value) (n:Nat),K.lookup a=some o/\o.cls=.type "tuple" /\ o.data=.seq its n/\its.size<=sizeLine/\Vals xs its.toList
def absV:Value->Option V
 | .none=>some .non
 | .bool b=>some (.bl b)
 | .int i _=>some (.int i)
 | .str x _=>some (.str x)
 | .bytes b _=>some (.byt b)
 | .float b _=>some (.flt b)
 | .ref a=>some (.ref a)
 | .type n=>some (.ty n)
 | _=>none
theorem RelV.abs {x:V} (r:RelV x u):absV u=some x:=by
 cases x with
 | non=>cases r;rfl
 | bl _=>cases r;rfl
 | int _=>obtain ⟨t,rfl⟩:=r;rfl
 | str _=>obtain ⟨t,rfl⟩:=r;rfl
 | byt _=>obtain ⟨t,rfl⟩:=r;rfl
 | flt _=>obtain ⟨t,rfl⟩:=r;rfl
 | ref _=>cases r;rfl
 | ty _=>cases r;rfl
theorem RelV.inj {x:V} (r:RelV x u) (q:RelV y u):x=y:=Option.some.inj (r.abs.symm.trans q.abs)
theorem Vals.inj:∀{xs ys:List V} {us:List Value},Vals xs us->Vals ys us->xs=ys
 | _,_,_,.nil,.nil=>rfl
 | _,_,_,.cons r t,.cons r' t'=>by rw [r.inj r',Vals.inj t t']
theorem SqL.of (h:H a=some (.lst xs)):SqL K H a xs:=.inl (.inl h)
theorem SqT.of (h:H a=some (.tup xs)):SqT K H a xs:=.inl (.inl h)
theorem Inv.list (I:Inv X pins σ H s) (h:SqL X.K H a xs):∃its:List Value,Vals xs its/\PlainL s.heap a its.toArray/\xs.length<=sizeLine:=by
 rcases h with h | ⟨o,its,n,hk,hc,hd,hs,hz,r⟩
 ·obtain ⟨z,its,n,r,e⟩:=h.ok I.hok
  exact ⟨its,r,⟨_,n,e,rfl,rfl,rfl⟩,z⟩
 ·refine ⟨its.toList,r,⟨o,n,I.kIn a o hk,hc,hd,by simpa using hs⟩,?_⟩
  have e:=r.length
  simp only [Array.length_toList] at e
  omega
theorem Inv.tuple (I:Inv X pins σ H s) (h:SqT X.K H a xs):∃its:List Value,Vals xs its/\IsTup s.heap a its.toArray/\xs.length<=sizeLine:=by
 rcases h with h | ⟨o,its,n,hk,hc,hs,hz,r⟩
 ·obtain ⟨z,its,r,p⟩:=h.ok I.hok
  exact ⟨its,r,p,z⟩
 ·refine ⟨its.toList,r,⟨o,I.kIn a o hk,hc,n,by simpa using hs⟩,?_⟩
  have e:=r.length
  simp only [Array.length_toList] at e
  omega
theorem Inv.list_inj (I:Inv X pins σ H s) (h:SqL X.K H a xs) (h':SqL X.K H a ys):xs=ys:=by
 obtain ⟨its,r,⟨o,n,e,_,_,d⟩,_⟩:=I.list h
 obtain ⟨its',r',⟨o',n',e',_,_,d'⟩,_⟩:=I.list h'
 rw [e] at e';cases e'
 rw [d] at d'
 injection d' with d1 _
 have:its=its':=by simpa using congrArg Array.toList d1
 subst this
 exact r.inj r'
theorem Inv.tuple_inj (I:Inv X pins σ H s) (h:SqT X.K H a xs) (h':SqT X.K H a ys):xs=ys:=by
 obtain ⟨its,r,⟨o,e,_,n,d⟩,_⟩:=I.tuple h
 obtain ⟨its',r',⟨o',e',_,n',d'⟩,_⟩:=I.tuple h'
 rw [e] at e';cases e'
 rw [d] at d'
 injection d' with d1 _
 have:its=its':=by simpa using congrArg Array.toList d1
 subst this
 exact r.inj r'
abbrev Cx.wish (X:Cx) (E:Value->Shared->Prop):Cx:={ X with xe:=E }
abbrev Cx.nox (X:Cx):Cx:=X.wish λ_ _=>False
theorem Cx.Ok.wish (ok:X.Ok) (E:Value->Shared->Prop):(X.wish E).Ok :=
 ⟨ok.mod,ok.kind,ok.glob,ok.blt,ok.above,ok.inj,ok.has,ok.cab,ok.hd,ok.frames,ok.stk,ok.exf,ok.bs,ok.bsz,ok.noex,ok.exfs,ok.funs,ok.frf⟩
theorem Cx.Ok.unwish (ok:(X.wish E).Ok):X.Ok :=
 ⟨ok.mod,ok.kind,ok.glob,ok.blt,ok.above,ok.inj,ok.has,ok.cab,ok.hd,ok.frames,ok.stk,ok.exf,ok.bs,ok.bsz,ok.noex,ok.exfs,ok.funs,ok.frf⟩
theorem Inv.wish (I:Inv X pins σ H s) (E:Value->Shared->Prop):Inv (X.wish E) pins σ H s:=⟨I.ok.wish E,I.os,I.bare,I.base,I.loc,I.cell,I.free,I.freeC,I.pin,I.hok,I.len⟩
theorem Inv.unwish (I:Inv (X.wish E) pins σ H s):Inv X pins σ H s:=⟨I.ok.unwish,I.os,I.bare,I.base,I.loc,I.cell,I.free,I.freeC,I.pin,I.hok,I.len⟩
theorem SP.unwish {D:Ends} {f:Flow} (h:SP (X.wish E) pins D f s'):SP X pins D f s':=by
 cases f with
 | next=>obtain ⟨σ',H',I,q⟩:=h;exact ⟨σ',H',I.unwish,q⟩
 | brk=>obtain ⟨σ',H',I,q⟩:=h;exact ⟨σ',H',I.unwish,q⟩
 | cont=>obtain ⟨σ',H',I,q⟩:=h;exact ⟨σ',H',I.unwish,q⟩
 | ret u=>obtain ⟨v,σ',H',I,r,q⟩:=h;exact ⟨v,σ',H',I.unwish,r,q⟩
theorem PE.nox {t:TE} (h:PE X.nox e t):PE X e t:=λpins s σ H Q I hw =>
 wpAny_mono (h pins s σ H Q (I.wish _) hw) (λ_ _ ⟨v,H',I',r,q⟩=>⟨v,H',I'.unwish,r,q⟩) λ_ _ z=>False.elim z
theorem PSs.nox {st:List Stmt} {t:TS} (h:PSs X.nox st t):PSs X st t:=λpins s σ H D I hw =>
 wpAny_mono (h pins s σ H D (I.wish _) hw) (λ_ _ q=>q.unwish) λ_ _ z=>False.elim z
section
variable {rest:List Stmt} {t u:TS}
def Qtx:TS:=λD σ H=>D.nx σ H
def tSeq (t u:TS):TS:=λD σ H=>t { D with nx:=u D } σ H
theorem Qoq:PSs X [] Qtx:=λ_ _ σ H _ I h=>wpAny_execs_nil ⟨σ,H,I,h⟩
theorem Xa (h1:PS X st t) (h2:PSs X rest u):PSs X (st::rest) (tSeq t u):=by
 intro pins s σ H D I h
 refine wpAny_execs_cons (thn (h1 pins s σ H { D with nx:=u D } I h) λf s1 q=>?_)
 cases f with
 | next =>
  obtain ⟨σ',H',I',q⟩:=q
  exact h2 pins s1 σ' H' D I' q
 | ret v=>exact q
 | brk=>exact q
 | cont=>exact q
theorem U9 (h1:PS X st t):PSs X [st] t:=by
 intro pins s σ H D I h
 refine wpAny_execs_cons (thn (h1 pins s σ H D I h) λf s1 q=>?_)
 cases f with
 | next=>exact wpAny_execs_nil q
 | ret v=>exact q
 | brk=>exact q
 | cont=>exact q
theorem Inv.quiet (I:Inv X pins σ H s):interactive X.env=false:=by simp [interactive,I.ok.kind]
def Qtz (te:TE):TS:=λD σ H=>te σ H λ_ H1=>D.nx σ H1
theorem Qek (he:PE X e te) (hs:swapsWith e none pos.line X.env=pure false:=by rfl):PS X (.Expr e pos) (Qtz te):=by
 intro pins s σ H D I h
 exact wpAny_Expr_any (thn (he pins s σ H _ I h) λv s1 ⟨x,H1,I1,r1,q1⟩=>⟨σ,H1,I1,q1⟩) I.quiet hs
def tRet (te:TE):TS:=λD σ H=>te σ H D.rt
theorem Qih (he:PE X e te):PS X (.Return (some e) pos) (tRet te):=by
 intro pins s σ H D I h
 exact wpAny_Return_some (thn (he pins s σ H _ I h) λv s1 ⟨x,H1,I1,r1,q1⟩=>⟨x,σ,H1,I1,r1,q1⟩)
def tIfS (c:TT) (t u:TS):TS:=λD σ H=>c σ H λb H1=>if b=true then t D σ H1 else u D σ H1
theorem Quq {a b:List Stmt} (hc:PT X c tc) (ha:PSs X a t) (hb:PSs X b u):PS X (.If c a b pos) (tIfS tc t u):=by
 intro pins s σ H D I h
 refine wpAny_If (thn (hc pins s σ H _ I h) λd s1 ⟨H1,I1,q1⟩=>?_)
 cases d with
 | true=>exact ha pins s1 σ H1 D I1 q1
 | false=>exact hb pins s1 σ H1 D I1 q1
end
abbrev TG:=V->St->Hp->(St->Hp->Prop)->Prop
def PG (X:Cx) (target:Expr) (t:TG):Prop :=
 ∀(pins:List (Addr × Obj)) (s:Shared) (σ:St) (H:Hp) (v:V) (u:Value) (Q:St->Hp->Prop),Inv X pins σ H s->RelV v u->t v σ H Q ->
  wpAny (model X.prog X.w) X.A (assign target X.env u) (λ_ s'=>∃σ' H',Inv X pins σ' H' s'/\Q σ' H') X.xe s
abbrev TSet:=V->V->V->Hp->(Hp->Prop)->Prop
end L2
variable {o:PySem.Obj} {to:L2.TE} {tg:PySem.Expr} {g:L2.TG} {pos':PySem.Pos} {body:List PySem.Stmt}
namespace L2
open PySem PySem.Spec PyProof.Rows
def PSet (X:Cx) (t:TSet):Prop :=
 ∀(pins:List (Addr × Obj)) (s:Shared) (σ:St) (H:Hp) (o i v:V) (ov iv u:Value) (Q:Hp->Prop),Inv X pins σ H s->RelV o ov->RelV i iv->RelV v u->t o i v H Q ->
  wpAny (model X.prog X.w) X.A (setItem ov iv u) (λ_ s'=>∃H',Inv X pins σ H' s'/\Q H') X.xe s
def Qg8 (i:Nat):TG:=λv σ H Q=>Q (σ.set i (some v)) H
theorem Qim (hN:X.N.Nodup) (hi:X.N[i]? = some x) (hx:Loc X.env.scope x) (hf:X.fn x=true\/X.env.scope.names.lookup x=some .local:=by first | exact .inl rfl | exact .inr rfl | assumption):PG X (.Name x pos) (Qg8 i):=by
 intro pins s σ H v u Q I r h
 exact wpAny_assign_Name (Qbn I hN hi hx r (λs' I'=>⟨_,H,I',h⟩) hf)
def gSub (to ti:TE) (t:TSet):TG:=λv σ H Q=>to σ H λo H1=>ti σ H1 λi H2=>t o i v H2 λH3=>Q σ H3
theorem Qrh {o i:Expr} {ti:TE} {t:TSet} (ho:PE X o to) (hi:PE X i ti) (hs:PSet X t)
  (ha:∀v,assign (.Subscript o i pos) X.env v=(do
   let ov ← holding [v] (eval o X.env)
   let iv ← holding [v,ov] (eval i X.env)
   standAt pos
   holding [v,ov,iv] (setItem ov iv v)
   release [v,ov,iv] []):=by intro _;rfl):PG X (.Subscript o i pos) (gSub to ti t):=by
 intro pins s σ H v u Q I r h
 rw [ha]
 refine wpAny_bind (wpAny_holding (thn (ho pins s σ H _ I h) λov s1 ⟨x,H1,I1,r1,q1⟩=>?_))
 refine wpAny_bind (wpAny_holding (thn (hi pins s1 σ H1 _ I1 q1) λiv s2 ⟨y,H2,I2,r2,q2⟩=>?_))
 refine wpAny_bind (wpAny_standAt (wpAny_bind (wpAny_holding (thn (hs pins s2 σ H2 x y v ov iv u _ I2 r1 r2 r q2) λ_ s3 ⟨H3,I3,q3⟩=>?_))))
 exact wpAny_release ⟨σ,H3,I3,q3⟩
def tAsg (te:TE) (g:TG):TS:=λD σ H=>te σ H λx H1=>g x σ H1 D.nx
theorem Qrb (he:PE X e te) (hg:PG X tg g) (hs:swapsWithSole [tg] e pos.line X.env=pure false:=by rfl) (hw:swappedStores [tg] e X.env=pure none:=by rfl)
  (h1:(assignEach [tg] X.env).map (·.2)=[assign tg X.env]:=by rfl):PS X (.Assign [tg] e pos) (tAsg te g):=by
 intro pins s σ H D I h
 refine wpAny_Assign_stores (thn (he pins s σ H _ I h) λv s1 ⟨x,H1,I1,r1,q1⟩=>?_) hs hw
 rw [h1]
 exact thn (hg pins s1 σ H1 x v _ I1 r1 q1) λ_ s2 q=>q
theorem Qmt (hN:X.N.Nodup) (hi:X.N[i]? = some x) (hx:Loc X.env.scope x) (he:PE X e te) (hs:swapsWith e (some (.Name x pos')) pos.line X.env=pure false:=by rfl) (hf:X.fn x=true\/X.env.scope.names.lookup x=some .local:=by first | exact .inl rfl | exact .inr rfl | assumption) :
  PS X (.Assign [.Name x pos'] e pos) (tAsg te (Qg8 i)):=by
 intro pins s σ H D I h
 refine wpAny_Assign_Name (thn (he pins s σ H _ I h) λv s1 ⟨y,H1,I1,r1,q1⟩=>?_) hs
 exact Qbn I1 hN hi hx r1 (λs2 I2=>⟨_,H1,I2,q1⟩) hf
def Qqk (c:TT) (tb:TS):TS:=λD σ H=>∃W:Nat->St->Hp->Prop,(∃m,W m σ H)/\∀m σ H,W m σ H ->
 c σ H λb H1=>if b=true then ∃N:St->Hp->Prop,(∀σ' H',N σ' H'->∃m',m' < m/\W m' σ' H')/\tb { D with nx:=N,ct:=N,bk:=D.nx } σ H1 else D.nx σ H1
theorem Qk3 {tb:TS} (hp:PassesOwn (model X.prog X.w) X.A X.env X.xe) (hc:PT X c tc) (hb:PSs X body tb):PS X (.While c body [] pos) (Qqk tc tb):=by
 intro pins s σ H D I h
 obtain ⟨W,⟨m0,w0⟩,turn⟩:=h
 refine wpAny_While (codeAny_whileLoop (λn s'=>∃σ' H',Inv X pins σ' H' s'/\W n σ' H') ?_ m0 ⟨σ,H,I,w0⟩)
 rintro n s1 ⟨σ1,H1,I1,w1⟩
 refine wpAny_passesOwn hp (thn (hc pins s1 σ1 H1 _ I1 (turn n σ1 H1 w1)) λb s2 ⟨H2,I2,q2⟩=>?_)
 cases b with
 | true =>
  obtain ⟨N,hN,q2⟩:=q2
  rw [if_pos rfl]
  refine wpAny_passesOwn hp (thn (hb pins s2 σ1 H2 _ I2 q2) λf s3 q3=>?_)
  cases f with
  | next =>
   obtain ⟨σ3,H3,I3,n3⟩:=q3
   obtain ⟨m',hm,w3⟩:=hN σ3 H3 n3
   exact ⟨m',hm,σ3,H3,I3,w3⟩
  | cont =>
   obtain ⟨σ3,H3,I3,n3⟩:=q3
   obtain ⟨m',hm,w3⟩:=hN σ3 H3 n3
   exact ⟨m',hm,σ3,H3,I3,w3⟩
  | brk=>exact q3
  | ret v=>exact q3
 | false =>
  rw [if_neg Bool.false_ne_true]
  exact wpAny_execs_nil ⟨σ1,H2,I2,q2⟩
structure It where
 go:Nat->Hp->Prop
 yld:Nat->Hp->V->Hp->Prop
 stop:Nat->Hp->Prop
def FpOk (X:Cx) (pins:List (Addr × Obj)) (H:Hp) (b:Addr):Prop :=
 H b=none/\b≠X.env.locals/\b∉X.fs/\(b∈X.ex\/X.s₀.heap.objs.size<=b)/\(∀x c,X.env.cells.lookup x=some c->c≠b)/\∀p∈X.pn++pins,p.1≠b
theorem Inv.fpOk (I:Inv X pins σ H s) (hb:s.heap.objs.size<=b) (hn:H' b=none):FpOk X pins H' b:=by
 refine ⟨hn,Nat.ne_of_gt (Nat.lt_of_lt_of_le I.lt hb),I.nofs hb,.inr (Nat.le_trans I.sz hb),λx c e z=>?_,λp hp z=>?_⟩
 ·obtain ⟨v,q⟩:=I.cell x c e
  exact absurd (Nat.lt_of_lt_of_le q.lt (by rw [z];exact hb)) (Nat.lt_irrefl _)
 ·exact absurd (Nat.lt_of_lt_of_le (Heap.lt_size (I.pin p hp).1) (by rw [z];exact hb)) (Nat.lt_irrefl _)
structure Turn (P:Program) (w:World) (K:PySem.W.Frag) (tg:Expr) (J:It) (fp:List Addr) (it:Addr) (tn:Nat->Heap->Prop):Prop where
 mem:it∈fp
 obj:∀i h,tn i h->∀b∈fp,∃o,h.get? b=some o/\∀v,o.data ≠ .cell v
 keep:∀i h h',tn i h->(∀b∈fp,∀o,h.get? b=some o->h'.get? b=some o)->tn i h'
 item:∀(X:Cx),X.prog=P->X.w=w->X.K=K->X.calm=true->∀(i:Nat) (pins:List (Addr × Obj)) (s:Shared) (σ:St) (H:Hp) (E:Value->Shared->Prop),Inv X pins σ H s->(∀b∈fp,FpOk X pins H b)->tn i s.heap->J.go i H ->
  wpAny (model P w) X.A (pyNext (.ref it)) (λr s1=>∃u,r=some u /\
   wpAny (model P w) X.A (letOwnedTupleGo tg (.ref it) u) (λ_ s2=>∃x H',Inv X pins σ H' s2/\RelV x u/\J.yld i H x H'/\tn (i+1) s2.heap/\∀b∈fp,H' b=none) E s1) E s
 done:∀(X:Cx),X.prog=P->X.w=w->X.K=K->X.calm=true->∀(i:Nat) (pins:List (Addr × Obj)) (s:Shared) (σ:St) (H:Hp) (E:Value->Shared->Prop),Inv X pins σ H s->(∀b∈fp,FpOk X pins H b)->tn i s.heap->J.stop i H ->
  wpAny (model P w) X.A (pyNext (.ref it)) (λr s1=>r=none/\Inv X pins σ H s1) E s
 self:∀(A:Around) (i:Nat) (s:Shared) (Q:Value->Shared->Prop) (E:Value->Shared->Prop),tn i s.heap->Q (.ref it) s->wpAny (model P w) A (pyIter (.ref it)) Q E s
abbrev TI:=St->Hp->(It->Hp->Prop)->Prop
end L2
variable {n:Nat} {vs:List L2.V} {R:PySem.Result->PySem.Shared->Prop} {lo hi:Option Int} {p:PySem.Pos} {fp:List PySem.Addr} {pl:PySem.Sem Bool} {iter:PySem.Expr} {wi:L2.TI}
namespace L2
open PySem PySem.Spec PyProof.Rows
def PIE (X:Cx) (pins:List (Addr × Obj)) (σ:St) (tg:Expr) (R:It->Hp->Prop) (itv:Value) (s2:Shared):Prop :=
 ∃(it:Addr) (fp:List Addr) (tn:Nat->Heap->Prop) (J:It) (H':Hp),itv=.ref it/\Inv X pins σ H' s2/\Turn X.prog X.w X.K tg J fp it tn/\tn 0 s2.heap/\(∀b∈fp,FpOk X pins H' b)/\R J H'
def PI (X:Cx) (tg iter:Expr) (wi:TI):Prop :=
 ∀(pins:List (Addr × Obj)) (s:Shared) (σ:St) (H:Hp) (R:It->Hp->Prop),Inv X pins σ H s->wi σ H R ->
  wpAny (model X.prog X.w) X.A (eval iter X.env) (λv s1=>wpAny (model X.prog X.w) X.A (pyIter v) (PIE X pins σ tg R) X.xe s1) X.xe s
theorem Qpm {M:Model} {n:String} {vs:Array Value} {Q:Unit->Shared->Prop} (ho:s.heap.get? it=some o) (hc:o.cls=.type n) (hd:o.data=.fields vs)
    (hn:["enumerate","zip","dict_itemiterator","dict_reverseitemiterator","odict_iterator","itertools.zip_longest","itertools.pairwise"].contains n=false) (hQ:Q () s):wpAny M A (letOwnedTupleGo tg (.ref it) u) Q E s:=by
  unfold letOwnedTupleGo
  cases tg <;> first
    | exact wpAny_pure hQ
    | (cases u <;> first
        | exact wpAny_pure hQ
        | (refine wpAny_bind (wpAny_load ho ?_)
           rw [hc,hd]
           show wpAny M A (if (["enumerate","zip","dict_itemiterator","dict_reverseitemiterator","odict_iterator","itertools.zip_longest","itertools.pairwise"].contains n && vs[0]? == some (rawInt _))=true then _ else _) Q E s
           rw [if_neg (by intro h;rw [hn,Bool.false_and] at h;cases h)]
           exact wpAny_pure hQ))
def Itl (K:PySem.W.Frag) (a:Addr):It :=
 ⟨λi H=>∃xs x,SqL K H a xs/\xs[i]? = some x,λi H x H'=>H'=H/\∀xs,SqL K H a xs->xs[i]? = some x,λi H=>∃xs,SqL K H a xs/\xs.length<=i⟩
def Itt (K:PySem.W.Frag) (a:Addr):It :=
 ⟨λi H=>∃xs x,SqT K H a xs/\xs[i]? = some x,λi H x H'=>H'=H/\∀xs,SqT K H a xs->xs[i]? = some x,λi H=>∃xs,SqT K H a xs/\xs.length<=i⟩
def Itr (lo:Int) (n:Nat):It:=⟨λi _=>i<n,λi H x H'=>H'=H/\x=.int (lo+i),λi _=>n<=i⟩
theorem Qht (a it:Addr):Turn P w K tg (Itl K a) [it] it (λi h=>h.IsListIter it a i) where
 mem:=by simp
 obj:=λi h st b hb=>by
  have e:b=it:=by simpa using hb
  subst e
  obtain ⟨o,e,c,d⟩:=st
  exact ⟨o,e,λv z=>by rw [d] at z;cases z⟩
 keep:=λi h h' st k=>st.at λo e=>k it (by simp) o e
 item:=by
  intro X hP hw hK hc i pins s σ H E I hf st hg
  subst hP hw hK
  obtain ⟨xs,x,hq,hx⟩:=hg
  obtain ⟨its,rv,p,hz⟩:=I.list hq
  obtain ⟨u,hu,ru⟩:=rv.get hx
  obtain ⟨f0,f1,f2,f3,f4,f5⟩:=hf it (by simp)
  refine wpAny_pyNext_list_item st p.isList (x:=u) (by simpa using hu) λh' st' sb=>?_
  have I1:Inv X pins σ H { s with heap:=h' }:=I.turned (t':=s.toks) (λb o hb e=>(sb.2 b hb).trans e) f0 f1 f3 f4 f5
  obtain ⟨o,e,c,d⟩:=id st'
  exact ⟨u,rfl,Qpm (s:={ s with heap:=h' }) e c d (by decide) ⟨x,H,I1,ru,⟨rfl,λys hy=>by rw [I.list_inj hy hq];exact hx⟩,st',λb hb=>(hf b hb).1⟩⟩
 done:=by
  intro X hP hw hK hc i pins s σ H E I hf st hg
  subst hP hw hK
  obtain ⟨xs,hq,hx⟩:=hg
  obtain ⟨its,rv,p,hz⟩:=I.list hq
  obtain ⟨f0,f1,f2,f3,f4,f5⟩:=hf it (by simp)
  have hl:=rv.length
  exact wpAny_pyNext_list_end (I.ok.hd hc) st p.isList (by simp;omega) λh' eb=>⟨rfl,I.turned (t':=s.toks) (λb o hb e=>eb b o hb e) f0 f1 f3 f4 f5⟩
 self:=λ_ _ _ _ _ st h=>wpAny_pyIter_listiter st h
theorem Qgi (a it:Addr):Turn P w K tg (Itt K a) [it] it (λi h=>h.IsTupleIter it a i) where
 mem:=by simp
 obj:=λi h st b hb=>by
  have e:b=it:=by simpa using hb
  subst e
  obtain ⟨o,e,c,d⟩:=st
  exact ⟨o,e,λv z=>by rw [d] at z;cases z⟩
 keep:=λi h h' st k=>st.at λo e=>k it (by simp) o e
 item:=by
  intro X hP hw hK hc i pins s σ H E I hf st hg
  subst hP hw hK
  obtain ⟨xs,x,hq,hx⟩:=hg
  obtain ⟨its,rv,p,hz⟩:=I.tuple hq
  obtain ⟨u,hu,ru⟩:=rv.get hx
  obtain ⟨f0,f1,f2,f3,f4,f5⟩:=hf it (by simp)
  refine wpAny_pyNext_tuple_item st (show s.heap.IsTuple a its.toArray from p) (x:=u) (by simpa using hu) λh' st' sb=>?_
  have I1:Inv X pins σ H { s with heap:=h' }:=I.turned (t':=s.toks) (λb o hb e=>(sb.2 b hb).trans e) f0 f1 f3 f4 f5
  obtain ⟨o,e,c,d⟩:=id st'
  exact ⟨u,rfl,Qpm (s:={ s with heap:=h' }) e c d (by decide) ⟨x,H,I1,ru,⟨rfl,λys hy=>by rw [I.tuple_inj hy hq];exact hx⟩,st',λb hb=>(hf b hb).1⟩⟩
 done:=by
  intro X hP hw hK hc i pins s σ H E I hf st hg
  subst hP hw hK
  obtain ⟨xs,hq,hx⟩:=hg
  obtain ⟨its,rv,p,hz⟩:=I.tuple hq
  obtain ⟨f0,f1,f2,f3,f4,f5⟩:=hf it (by simp)
  have hl:=rv.length
  exact wpAny_pyNext_tuple_end (I.ok.hd hc) st (show s.heap.IsTuple a its.toArray from p) (by simp;omega) λh' eb=>⟨rfl,I.turned (t':=s.toks) (λb o hb e=>eb b o hb e) f0 f1 f3 f4 f5⟩
 self:=λ_ _ _ _ _ st h=>wpAny_pyIter_tupleiter st h
theorem Qgj (it:Addr) (lo:Int) (n:Nat):Turn P w K tg (Itr lo n) [it] it (λi h=>IsRangeIter h it (lo+(i:Nat)*1) ((n:Int)-(i:Nat)) 1) where
 mem:=by simp
 obj:=λi h st b hb=>by
  have e:b=it:=by simpa using hb
  subst e
  exact ⟨_,st,λv z=>by
   have z':Data.fields _=Data.cell v:=z
   cases z'⟩
 keep:=λi h h' st k=>k it (by simp) _ st
 item:=by
  intro X hP hw hK hc i pins s σ H E I hf st hg
  subst hP hw hK
  obtain ⟨f0,f1,f2,f3,f4,f5⟩:=hf it (by simp)
  have W:=Walks.range (prog:=X.prog) (w:=X.w) (I.ok.hd hc) it lo 1 n
  refine W.item i s _ _ hg st λv h' tk hv st' kk=>?_
  obtain ⟨t,rfl⟩:=hv
  have I1:Inv X pins σ H { s with heap:=h',toks:=tk }:=I.turned (λb o hb e=>kk b o (by simpa using hb) e) f0 f1 f3 f4 f5
  refine ⟨_,rfl,Qpm (s:={ s with heap:=h',toks:=tk }) (n:="range_iterator") st' rfl rfl (by decide) ⟨.int (lo+i),H,I1,⟨t,?_⟩,⟨rfl,rfl⟩,st',λb hb=>(hf b hb).1⟩⟩
  rw [Int.mul_one]
 done:=by
  intro X hP hw hK hc i pins s σ H E I hf st hg
  subst hP hw hK
  obtain ⟨f0,f1,f2,f3,f4,f5⟩:=hf it (by simp)
  exact wpAny_pyNext_range_end (I.ok.hd hc) st (by have:n<=i:=hg;omega) λh' eb=>⟨rfl,I.turned (t':=s.toks) (λb o hb e=>eb b o hb e) f0 f1 f3 f4 f5⟩
 self:=λ_ _ _ _ _ st h=>wpAny_pyIter_rangeiter st h
theorem Qky {R:It->Hp->Prop} {lo hi:Int} {t u v:Tok} {tk:Nat} (I:Inv X pins σ H s) (h1:-(2 ^ 62)<=lo) (h2:lo<2 ^ 62) (h3:-(2 ^ 62)<=hi) (h4:hi<2 ^ 62)
  (q:R (Itr lo (hi-lo).toNat) H):wpAny (model X.prog X.w) X.A (pyIter (.ref s.heap.objs.size)) (PIE X pins σ tg R) E { s with heap:=s.heap.push { cls:=.type "range",data:=.fields #[.int lo t,.int hi u,.int 1 v] },toks:=tk }:=by
 refine wpAny_pyIter_range (IsRange.new ..) (small_one h1 h2 h3 h4) ?_
 have I1:Inv X pins σ H { s with heap:=s.heap.push { cls:=.type "range",data:=.fields #[.int lo t,.int hi u,.int 1 v] },toks:=tk }:=I.kept λb o e=>Heap.get?_push_of_some _ e
 refine ⟨(s.heap.push { cls:=.type "range",data:=.fields #[.int lo t,.int hi u,.int 1 v] }).objs.size,[(s.heap.push { cls:=.type "range",data:=.fields #[.int lo t,.int hi u,.int 1 v] }).objs.size],_,_,H,rfl,
  I1.kept (t':=tk) λb o e=>Heap.get?_push_of_some _ e,Qgj _ lo (hi-lo).toNat,?_,λb hb=>?_,q⟩
 ·have e1:lo+((0:Nat):Int)*1=lo:=by simp
  have e2:(((hi-lo).toNat:Nat):Int)-((0:Nat):Int)=Builtin.Range.rangeSize lo hi 1:=by rw [rangeSize_one];split <;> omega
  show IsRangeIter _ _ (lo+((0:Nat):Int)*1) ((((hi-lo).toNat:Nat):Int)-((0:Nat):Int)) 1
  rw [e1,e2]
  exact Heap.get?_push_size _ rfl
 ·have e:b=(s.heap.push { cls:=.type "range",data:=.fields #[.int lo t,.int hi u,.int 1 v] }).objs.size:=by simpa using hb
  subst e
  exact I1.fpOk (Nat.le_refl _) (I1.hok.fresh (Nat.le_refl _))
def Qvc (ta:TA):TI:=λσ H R=>ta σ H λvs H1=>∃j:Int,vs=[.int j] /\ -(2 ^ 62)<=j/\j<2 ^ 62/\R (Itr 0 j.toNat) H1
theorem Qil {a:Expr} {ta:TA} (hg:Gl X "range") (hm:X.mg "range" = none) (ha:PA X [a] ta) (hs:starEach [a] X.env=[(false,eval a X.env)]:=by rfl):PI X tg (.Call (.Name "range" p) [a] [] pos) (Qvc ta):=by
 intro pins s σ H R I h
 refine Call_ (Qfw I hg hm boot_range (PyProof.Rows.callWith_type1 (thn (ha pos pins s σ H _ I h) λus s1 ⟨vs,H1,I1,r1,q1⟩=>?_) hs rfl))
 obtain ⟨j,e,q1,q2,q⟩:=q1
 subst e
 cases r1 with
 | cons r rr =>
  cases rr
  obtain ⟨t,rfl⟩:=r
  exact call_range_1 (Qky I1 (by omega) (by omega) q1 q2 (by simpa using q))
def tFor (wi:TI) (g:TG) (tb:TS):TS:=λD σ H=>wi σ H λJ H1=>∃W:Nat->Nat->St->Hp->Prop,(∃m,W 0 m σ H1)/\∀i m σ H,W i m σ H ->
 (J.stop i H/\D.nx σ H)\/(J.go i H/\∃N:St->Hp->Prop,(∀σ' H',N σ' H'->∃m',m' < m/\W (i+1) m' σ' H')/\∀x H',J.yld i H x H'->g x σ H' λσ2 H2=>tb { D with nx:=N,ct:=N,bk:=D.nx } σ2 H2)
def Qc1 (fp:List Addr) (h:Heap):List (Addr × Obj):=fp.filterMap λb=>(h.get? b).map λo=>(b,o)
theorem Vq {h:Heap} (hb:b∈fp) (e:h.get? b=some o):(b,o)∈Qc1 fp h:=List.mem_filterMap.mpr ⟨b,hb,by rw [e];rfl⟩
theorem Qiv {h:Heap} {p:Addr × Obj} (hp:p∈Qc1 fp h):p.1∈fp/\h.get? p.1=some p.2:=by
 obtain ⟨b,hb,e⟩:=List.mem_filterMap.mp hp
 cases q:h.get? b with
 | none=>rw [q] at e;cases e
 | some o =>
  rw [q] at e
  have e':(b,o)=p:=Option.some.inj e
  subst e'
  exact ⟨hb,q⟩
theorem Inv.pinned (I:Inv X pins σ H s) (hf:∀b∈fp,FpOk X pins H b) (ho:∀b∈fp,∃o,s.heap.get? b=some o/\∀v,o.data ≠ .cell v):Inv X (pins++Qc1 fp s.heap) σ H s :=
 I.pins_of λp hp=>(List.mem_append.mp hp).elim (λz=>I.pin p (List.mem_append_right _ z)) λz=>by
  obtain ⟨hb,e⟩:=Qiv z
  obtain ⟨f0,f1,f2,_⟩:=hf p.1 hb
  obtain ⟨o,e',d⟩:=ho p.1 hb
  rw [e] at e';cases e'
  exact ⟨e,f0,f1,f2,d⟩
theorem Inv.unpinned {pl:List (Addr × Obj)} (I:Inv X (pins++pl) σ H s):Inv X pins σ H s:=I.pins_of λp hp=>I.pin p (List.mem_append_right _ (List.mem_append_left _ hp))
theorem Qra {tb:TS} (hp:PassesOwn (model X.prog X.w) X.A X.env X.xe) (hc:X.calm=true) (hi:PI X tg iter wi) (hg:PG X tg g) (hb:PSs X body tb)
  (hs:∀x,foldedSetIterable iter X.env x=pure x:=by intro _;rfl):PS X (.For tg iter body [] pos) (tFor wi g tb):=by
 intro pins s σ H D I h
 refine wpAny_For (thn (hi pins s σ H _ I h) λv s1 h1=>thn h1 λitv s2 h2=>?_) hs
 obtain ⟨it,fp,tn,J,H2,e,I2,T,st2,f2,W,⟨m0,w0⟩,turn⟩:=h2
 subst e
 -- what stays true of the iterator's objects through the loop
 have stat:∀{H':Hp},(∀b∈fp,H' b=none)->∀b∈fp,FpOk X pins H' b:=λhn b hb=>⟨hn b hb,(f2 b hb).2⟩
 refine codeAny_forLoop_any (λn s'=>∃i σ' H',Inv X pins σ' H' s'/\tn i s'.heap/\(∀b∈fp,H' b=none)/\W i n σ' H') ?_ m0 ⟨0,σ,H2,I2,st2,λb hb=>(f2 b hb).1,w0⟩
 rintro n s3 ⟨i,σ3,H3,I3,st3,fr3,w3⟩
 rcases turn i n σ3 H3 w3 with ⟨stop,qn⟩ | ⟨go,N,hN,step⟩
 ·refine wpAny_passesOwn hp (thn (T.done X rfl rfl rfl hc i pins s3 σ3 H3 X.xe I3 (stat fr3) st3 stop) λr s4 ⟨hr,I4⟩=>?_)
  subst hr
  exact wpAny_execs_nil ⟨σ3,H3,I4,qn⟩
 ·refine wpAny_passesOwn hp (thn (T.item X rfl rfl rfl hc i pins s3 σ3 H3 X.xe I3 (stat fr3) st3 go) λr s4 ⟨u,hr,h4⟩=>?_)
  subst hr
  refine wpAny_passesOwn hp (thn h4 λ_ s5 ⟨x,H5,I5,r5,y5,st5,fr5⟩=>?_)
  have I5':=I5.pinned (stat fr5) (T.obj _ _ st5)
  refine wpAny_passesOwn hp (thn (hg _ s5 σ3 H5 x u _ I5' r5 (step x H5 y5)) λ_ s6 ⟨σ6,H6,I6,q6⟩=>?_)
  refine wpAny_passesOwn hp (thn (hb _ s6 σ6 H6 _ I6 q6) λf s7 q7=>?_)
  have again:∀{σ7:St} {H7:Hp},Inv X (pins++Qc1 fp s5.heap) σ7 H7 s7->N σ7 H7->∃m,m<n/\∃i σ' H',Inv X pins σ' H' s7/\tn i s7.heap/\(∀b∈fp,H' b=none)/\W i m σ' H':=λ{σ7 H7} I7 n7=>by
   obtain ⟨m',hm,w7⟩:=hN σ7 H7 n7
   refine ⟨m',hm,i+1,σ7,H7,I7.unpinned,T.keep _ _ _ st5 λb hb o e=>(I7.pin (b,o) (List.mem_append_right _ (List.mem_append_right _ (Vq hb e)))).1,λb hb=>?_,w7⟩
   obtain ⟨o,e,d⟩:=T.obj _ _ st5 b hb
   exact (I7.pin (b,o) (List.mem_append_right _ (List.mem_append_right _ (Vq hb e)))).2.1
  cases f with
  | next=>obtain ⟨σ7,H7,I7,n7⟩:=q7;exact again I7 n7
  | cont=>obtain ⟨σ7,H7,I7,n7⟩:=q7;exact again I7 n7
  | brk=>obtain ⟨σ7,H7,I7,q7⟩:=q7;exact ⟨σ7,H7,I7.unpinned,q7⟩
  | ret v=>obtain ⟨x7,σ7,H7,I7,r7,q7⟩:=q7;exact ⟨x7,σ7,H7,I7.unpinned,r7,q7⟩
abbrev R2:=V->V->Hp->VK->Prop
end L2
variable {o:Option PySem.Value} {i:Int} {g:Int->Int->Int} {r:L2.R2} {C dx:PySem.Addr} {its:List PySem.Value} {mA:PySem.Str->Option PySem.Value} {expr:Bool} {ns:List Int} {kw:List (PySem.Str × PySem.Value)} {m name:PySem.Str} {prog:PySem.Program} {env:PySem.Env} {fs:List (PySem.Str × L2.V)} {es:List PySem.Expr} {value:PySem.Expr}
namespace L2
open PySem PySem.Spec PyProof.Rows
def OpR (X:Cx) (f:Value->Value->Sem Value) (r:R2):Prop :=
 ∀(pins:List (Addr × Obj)) (s:Shared) (σ:St) (H:Hp) (x y:V) (v u:Value) (Q:VK),Inv X pins σ H s->RelV x v->RelV y u->r x y H Q ->
  wpAny (model X.prog X.w) X.A (f v u) (EP X pins σ Q) X.xe s
def UnR (X:Cx) (f:Value->Sem Value) (r:V->Hp->VK->Prop):Prop :=
 ∀(pins:List (Addr × Obj)) (s:Shared) (σ:St) (H:Hp) (x:V) (v:Value) (Q:VK),Inv X pins σ H s->RelV x v->r x H Q ->
  wpAny (model X.prog X.w) X.A (f v) (EP X pins σ Q) X.xe s
def Vp (X:Cx) (f:Value) (r:List V->Hp->VK->Prop):Prop :=
 ∀(pins:List (Addr × Obj)) (s:Shared) (σ:St) (H:Hp) (xs:List V) (us:List Value) (Q:VK),Inv X pins σ H s->Vals xs us->r xs H Q ->
  wpAny (model X.prog X.w) X.A (call f us) (EP X pins σ Q) X.xe s
def TruR (X:Cx) (r:V->Hp->(Bool->Hp->Prop)->Prop):Prop :=
 ∀(pins:List (Addr × Obj)) (s:Shared) (σ:St) (H:Hp) (x:V) (v:Value) (Q:Bool->Hp->Prop),Inv X pins σ H s->RelV x v->r x H Q ->
  wpAny (model X.prog X.w) X.A (truthy v) (TP X pins σ Q) X.xe s
def tOp (r:R2) (ta tb:TE):TE:=λσ H Q=>ta σ H λx H1=>tb σ H1 λy H2=>r x y H2 Q
def tUn (r:V->Hp->VK->Prop) (ta:TE):TE:=λσ H Q=>ta σ H λx H1=>r x H1 Q
def rI (C:Int->Int->Prop) (g:Int->Int->V):R2:=λx y H Q=>∃i j,x=.int i/\y=.int j/\C i j/\Q (g i j) H
def rI0 (g:Int->Int->V):R2:=λx y H Q=>∃i j,x=.int i/\y=.int j/\Q (g i j) H
def rU (g:Int->V):V->Hp->VK->Prop:=λx H Q=>∃i,x=.int i/\Q (g i) H
section
variable {a b:Expr}
theorem binT (ha:PE X a ta) (hb:PE X b tb) {R:V->V->Hp->Prop} (I:Inv X pins σ H s)
  (h:ta σ H λx H1=>tb σ H1 λy H2=>R x y H2)
  (hf:∀v u s2 x y H2,Inv X pins σ H2 s2->RelV x v->RelV y u->R x y H2->wpAny (model X.prog X.w) X.A (f v u) Q X.xe s2) :
  wpAny (model X.prog X.w) X.A (eval a X.env) (λv s₁=>wpAny (model X.prog X.w) X.A (eval b X.env) (λu s₂=>wpAny (model X.prog X.w) X.A (f v u) Q X.xe s₂) X.xe s₁) X.xe s:=by
 refine thn (ha pins s σ H _ I h) λv s1 ⟨x,H1,I1,r1,q1⟩=>?_
 refine thn (hb pins s1 σ H1 _ I1 q1) λu s2 ⟨y,H2,I2,r2,q2⟩=>?_
 exact hf v u s2 x y H2 I2 r1 r2 q2
theorem Quu {op:Operator} (ho:OpR X (binaryOp op) r) (ha:PE X a ta) (hb:PE X b tb):PE X (.BinOp a op b pos) (tOp r ta tb):=by
 intro pins s σ H Q I h
 exact wpAny_BinOp (binT ha hb I h λv u s2 x y H2 I2 rx ry q=>ho pins s2 σ H2 x y v u Q I2 rx ry q)
theorem Qut {op:UnaryOp} {r:V->Hp->VK->Prop} (ho:UnR X (unaryOp op) r) (ha:PE X a ta):PE X (.UnaryOp op a pos) (tUn r ta):=by
 intro pins s σ H Q I h
 exact UnaryOp_ (thn (ha pins s σ H _ I h) λv s1 ⟨x,H1,I1,r1,q1⟩=>ho pins s1 σ H1 x v Q I1 r1 q1)
theorem opI {C:Int->Int->Prop}
  (rule:∀(i j:Int) (t u:Tok) (s:Shared) (Q:Value->Shared->Prop) (E:Value->Shared->Prop),C i j->Q (.int (g i j) s.toks) { s with toks:=s.toks+1 }->wpAny (model X.prog X.w) X.A (f (.int i t) (.int j u)) Q E s) :
  OpR X f (rI C λi j=>.int (g i j)):=by
 intro pins s σ H x y v u Q I rx ry h
 obtain ⟨i,j,rfl,rfl,hc,q⟩:=h
 obtain ⟨t,rfl⟩:=rx
 obtain ⟨t',rfl⟩:=ry
 exact rule i j t t' s _ _ hc ⟨.int (g i j),H,I.tok _,⟨_,rfl⟩,q⟩
theorem opI0
  (rule:∀(i j:Int) (t u:Tok) (s:Shared) (Q:Value->Shared->Prop) (E:Value->Shared->Prop),Q (.int (g i j) s.toks) { s with toks:=s.toks+1 }->wpAny (model X.prog X.w) X.A (f (.int i t) (.int j u)) Q E s) :
  OpR X f (rI0 λi j=>.int (g i j)):=by
 intro pins s σ H x y v u Q I rx ry h
 obtain ⟨i,j,rfl,rfl,q⟩:=h
 obtain ⟨t,rfl⟩:=rx
 obtain ⟨t',rfl⟩:=ry
 exact rule i j t t' s _ _ ⟨.int (g i j),H,I.tok _,⟨_,rfl⟩,q⟩
theorem opB0 {g:Int->Int->Bool}
  (rule:∀(i j:Int) (t u:Tok) (s:Shared) (Q:Value->Shared->Prop) (E:Value->Shared->Prop),Q (.bool (g i j)) s->wpAny (model X.prog X.w) X.A (f (.int i t) (.int j u)) Q E s) :
  OpR X f (rI0 λi j=>.bl (g i j)):=by
 intro pins s σ H x y v u Q I rx ry h
 obtain ⟨i,j,rfl,rfl,q⟩:=h
 obtain ⟨t,rfl⟩:=rx
 obtain ⟨t',rfl⟩:=ry
 exact rule i j t t' s _ _ ⟨.bl (g i j),H,I,rfl,q⟩
def CDiv (i j:Int):Prop:=0<j/\j<1073741824
def Qvv (i j:Int):Prop:=j≠0/\j.natAbs<1073741824
def CPow (i j:Int):Prop:=0<=j/\j<=1000000/\i.natAbs<2 ^ 64
def CMul (i j:Int):Prop:=(-(2 ^ 64)<i/\i<2 ^ 64)\/(-(2 ^ 64)<j/\j<2 ^ 64)
theorem CMul.ok {j:Int} (h:CMul i j):IntMulOk i j:=by
 rcases h with ⟨h1,h2⟩ | ⟨h1,h2⟩
 ·exact .of_left (intBits_le_64 h1 h2)
 ·exact .of_right (intBits_le_64 h1 h2)
theorem Qr2:OpR X (binaryOp .Add) (rI0 λi j=>.int (i+j)):=opI0 λ_ _ _ _ _ _ _ q=>add_int q
theorem Qrq:OpR X (binaryOp .Sub) (rI0 λi j=>.int (i-j)):=opI0 λ_ _ _ _ _ _ _ q=>sub_int q
theorem Qru:OpR X (binaryOp .Mult) (rI CMul λi j=>.int (i*j)):=opI λ_ _ _ _ _ _ _ hc q=>mul_int q hc.ok
theorem Qo4:OpR X (binaryOp .FloorDiv) (rI CDiv λi j=>.int (i / j)):=opI λi j _ _ _ _ _ hc q=>by
 have h1:(0:Int)<j:=hc.1
 have h2:j<1073741824:=hc.2
 exact floordiv_int (by omega) (by rw [Int.fdiv_eq_ediv_of_nonneg i (by omega)];exact q) (.inl (PyProof.noPylong_small (by omega)))
theorem Qld:OpR X (binaryOp .FloorDiv) (rI Qvv λi j=>.int (i.fdiv j)):=opI λ_ _ _ _ _ _ _ hc q=>floordiv_int hc.1 q (.inl (PyProof.noPylong_small hc.2))
theorem Qrv:OpR X (binaryOp .Mod) (rI (λ_ j=>0<j) λi j=>.int (i % j)):=opI λi j _ _ _ _ _ hc q=>by
 have h1:(0:Int)<j:=hc
 exact mod_int' (by omega) (by rw [Int.fmod_eq_emod_of_nonneg i (by omega)];exact q)
theorem Qo3:OpR X (binaryOp .Mod) (rI (λ_ j=>j≠0) λi j=>.int (i.fmod j)):=opI λ_ _ _ _ _ _ _ hc q=>mod_int' hc q
theorem Qrs:OpR X (binaryOp .Pow) (rI CPow λi j=>.int (i ^ j.toNat)):=opI λ_ _ _ _ _ _ _ hc q=>pow_int_small hc.1 hc.2.1 hc.2.2 q
theorem unI {f:Value->Sem Value} {g:Int->Int}
  (rule:∀(i:Int) (t:Tok) (s:Shared) (Q:Value->Shared->Prop) (E:Value->Shared->Prop),Q (.int (g i) s.toks) { s with toks:=s.toks+1 }->wpAny (model X.prog X.w) X.A (f (.int i t)) Q E s) :
  UnR X f (rU λi=>.int (g i)):=by
 intro pins s σ H x v Q I rx h
 obtain ⟨i,rfl,q⟩:=h
 obtain ⟨t,rfl⟩:=rx
 exact rule i t s _ _ ⟨.int (g i),H,I.tok _,⟨_,rfl⟩,q⟩
theorem Qqf:UnR X (unaryOp .USub) (rU λi=>.int (-i)):=unI λ_ _ _ _ _ q=>neg_int q
end
def scal:V->V->Bool
 | .non,.non=>true | .non,.int _=>true | .int _,.non=>true | .non,.bl _=>true | .bl _,.non=>true | .non,.str _=>true | .str _,.non=>true
 | .int _,.int _=>true | .bl _,.bl _=>true | .str _,.str _=>true | .byt _,.byt _=>true
 | .int _,.str _=>true | .str _,.int _=>true | .bl _,.str _=>true | .str _,.bl _=>true
 | _,_=>false
def rEq:R2:=λx y H Q=>scal x y=true/\Q (.bl (decide (x=y))) H
def rNe:R2:=λx y H Q=>scal x y=true/\Q (.bl (!decide (x=y))) H
theorem Qj2 {j:Int}:decide (V.int i=V.int j)=(i == j):=by
 rw [Bool.eq_iff_iff]
 simp
theorem Qf5 {i j:Bool}:decide (V.bl i=V.bl j)=(i == j):=by
 rw [Bool.eq_iff_iff]
 simp
theorem Qj0 {i j:Str}:decide (V.str i=V.str j)=(i == j):=by
 rw [Bool.eq_iff_iff]
 simp
theorem Qj3 {i j:Array UInt8}:decide (V.byt i=V.byt j)=(i.toList == j.toList):=by
 rw [Bool.eq_iff_iff]
 cases i
 cases j
 simp
section
variable {a b:Expr}
theorem Jc {Q:VK} {k k':Bool} (I:Inv X pins σ H s) (q:Q (.bl k) H) (e:k=k'):EP X pins σ Q (.bool k') s:=by
 subst e
 exact ⟨.bl k,H,I,rfl,q⟩
theorem Qr0:OpR X (compareOp .Eq) rEq:=by
 intro pins s σ H x y v u Q I rx ry h
 obtain ⟨hs,q⟩:=h
 cases x with
 | non =>
  cases rx
  cases y with
  | non=>cases ry;exact PySem.EqNone.eq_none_none (Jc I q (by simp))
  | bl j=>cases ry;exact PySem.EqNone.eq_none_bool (Jc I q (by simp))
  | int j=>obtain ⟨t',rfl⟩:=ry;exact PySem.EqNone.eq_none_int (Jc I q (by simp))
  | str j=>obtain ⟨t',rfl⟩:=ry;exact PySem.EqNone.eq_none_str (Jc I q (by simp))
  | _=>exact absurd (show false=true from hs) Bool.false_ne_true
 | bl i =>
  cases rx
  cases y with
  | non=>cases ry;exact PySem.EqNone.eq_bool_none (Jc I q (by simp))
  | bl j=>cases ry;exact eq_bool (Jc I q Qf5)
  | str j=>obtain ⟨t',rfl⟩:=ry;exact PySem.EqMixed.eq_bool_str (Jc I q (by simp))
  | _=>exact absurd (show false=true from hs) Bool.false_ne_true
 | int i =>
  obtain ⟨t,rfl⟩:=rx
  cases y with
  | non=>cases ry;exact PySem.EqNone.eq_int_none (Jc I q (by simp))
  | int j=>obtain ⟨t',rfl⟩:=ry;exact eq_int (Jc I q Qj2)
  | str j=>obtain ⟨t',rfl⟩:=ry;exact PySem.EqMixed.eq_int_str (Jc I q (by simp))
  | _=>exact absurd (show false=true from hs) Bool.false_ne_true
 | str i =>
  obtain ⟨t,rfl⟩:=rx
  cases y with
  | non=>cases ry;exact PySem.EqNone.eq_str_none (Jc I q (by simp))
  | bl j=>cases ry;exact PySem.EqMixed.eq_str_bool (Jc I q (by simp))
  | int j=>obtain ⟨t',rfl⟩:=ry;exact PySem.EqMixed.eq_str_int (Jc I q (by simp))
  | str j=>obtain ⟨t',rfl⟩:=ry;exact eq_str (Jc I q Qj0)
  | _=>exact absurd (show false=true from hs) Bool.false_ne_true
 | byt i =>
  obtain ⟨t,rfl⟩:=rx
  cases y with
  | byt j=>obtain ⟨t',rfl⟩:=ry;exact PySem.W.eq_bytes (Jc I q Qj3)
  | _=>exact absurd (show false=true from hs) Bool.false_ne_true
 | _=>cases y <;> exact absurd (show false=true from hs) Bool.false_ne_true
theorem Quw:OpR X (compareOp .NotEq) rNe:=by
 intro pins s σ H x y v u Q I rx ry h
 obtain ⟨hs,q⟩:=h
 cases x with
 | non =>
  cases rx
  cases y with
  | non=>cases ry;exact PySem.EqNone.ne_none_none (Jc I q (by simp))
  | bl j=>cases ry;exact PySem.EqNone.ne_none_bool (Jc I q (by simp))
  | int j=>obtain ⟨t',rfl⟩:=ry;exact PySem.EqNone.ne_none_int (Jc I q (by simp))
  | str j=>obtain ⟨t',rfl⟩:=ry;exact PySem.EqNone.ne_none_str (Jc I q (by simp))
  | _=>exact absurd (show false=true from hs) Bool.false_ne_true
 | bl i =>
  cases rx
  cases y with
  | non=>cases ry;exact PySem.EqNone.ne_bool_none (Jc I q (by simp))
  | bl j=>cases ry;exact ne_bool (Jc I q (congrArg not Qf5))
  | str j=>obtain ⟨t',rfl⟩:=ry;exact PySem.EqMixed.ne_bool_str (Jc I q (by simp))
  | _=>exact absurd (show false=true from hs) Bool.false_ne_true
 | int i =>
  obtain ⟨t,rfl⟩:=rx
  cases y with
  | non=>cases ry;exact PySem.EqNone.ne_int_none (Jc I q (by simp))
  | int j=>obtain ⟨t',rfl⟩:=ry;exact ne_int (Jc I q (congrArg not Qj2))
  | str j=>obtain ⟨t',rfl⟩:=ry;exact PySem.EqMixed.ne_int_str (Jc I q (by simp))
  | _=>exact absurd (show false=true from hs) Bool.false_ne_true
 | str i =>
  obtain ⟨t,rfl⟩:=rx
  cases y with
  | non=>cases ry;exact PySem.EqNone.ne_str_none (Jc I q (by simp))
  | bl j=>cases ry;exact PySem.EqMixed.ne_str_bool (Jc I q (by simp))
  | int j=>obtain ⟨t',rfl⟩:=ry;exact PySem.EqMixed.ne_str_int (Jc I q (by simp))
  | str j=>obtain ⟨t',rfl⟩:=ry;exact ne_str (Jc I q (congrArg not Qj0))
  | _=>exact absurd (show false=true from hs) Bool.false_ne_true
 | byt i =>
  obtain ⟨t,rfl⟩:=rx
  cases y with
  | byt j=>obtain ⟨t',rfl⟩:=ry;exact PySem.W.ne_bytes (Jc I q (congrArg not Qj3))
  | _=>exact absurd (show false=true from hs) Bool.false_ne_true
 | _=>cases y <;> exact absurd (show false=true from hs) Bool.false_ne_true
theorem Qux:OpR X (compareOp .Lt) (rI0 λi j=>.bl (decide (i<j))):=opB0 λ_ _ _ _ _ _ _ q=>lt_int q
theorem Quy:OpR X (compareOp .Gt) (rI0 λi j=>.bl (decide (j<i))):=opB0 λ_ _ _ _ _ _ _ q=>gt_int q
theorem Qir:OpR X (compareOp .In) (λx y H Q=>∃i j,x=.str i/\y=.str j/\Q (.bl (!(Builtin.Str.occurrences j i 0 j.length 1).isEmpty)) H):=by
 intro pins s σ H x y v u Q I rx ry h
 obtain ⟨i,j,rfl,rfl,q⟩:=h
 obtain ⟨t,rfl⟩:=rx
 obtain ⟨t',rfl⟩:=ry
 exact in_str (Jc I q rfl)
theorem Qrw:OpR X (compareOp .Is) (λx y H Q=>y=.non/\Q (.bl (decide (x=.non))) H):=by
 intro pins s σ H x y v u Q I rx ry h
 obtain ⟨rfl,q⟩:=h
 cases ry
 refine is_none_gen (Jc I q ?_)
 cases x <;> first
  | (cases rx;rfl)
  | (obtain ⟨t,rfl⟩:=rx;rfl)
theorem Qo1:OpR X (compareOp .IsNot) (λx y H Q=>y=.non/\Q (.bl (!decide (x=.non))) H):=by
 intro pins s σ H x y v u Q I rx ry h
 obtain ⟨rfl,q⟩:=h
 cases ry
 refine isnot_none_gen (Jc I q ?_)
 cases x <;> first
  | (cases rx;rfl)
  | (obtain ⟨t,rfl⟩:=rx;rfl)
theorem OpR.or {r':R2} (h:OpR X f r) (h':OpR X f r'):OpR X f (λx y H Q=>r x y H Q\/r' x y H Q):=by
 intro pins s σ H x y v u Q I rx ry q
 rcases q with q | q
 ·exact h pins s σ H x y v u Q I rx ry q
 ·exact h' pins s σ H x y v u Q I rx ry q
theorem Qm6 (b:Expr) {op:CmpOp} (h:op ≠ .In:=by decide) (h2:op ≠ .NotIn:=by decide):behindInMarks op b=false:=by
 have e1:(op == CmpOp.In)=false:=by cases op <;> first | rfl | exact absurd rfl h
 have e2:(op == CmpOp.NotIn)=false:=by cases op <;> first | rfl | exact absurd rfl h2
 cases b <;> simp [behindInMarks,e1,e2]
theorem Qoz {op:CmpOp} (ho:OpR X (compareOp op) r) (ha:PE X a ta) (hb:PE X b tb) (hm:behindInMarks op b=false):PE X (.Compare a [op] [b] pos) (tOp r ta tb):=by
 intro pins s σ H Q I h
 exact wpAny_Compare1 (binT ha hb I h λv u s2 x y H2 I2 rx ry q=>ho pins s2 σ H2 x y v u Q I2 rx ry q) hm
def Qtv (t:TE):TT:=λσ H Q=>t σ H λx H'=>∃k,x=.bl k/\Q k H'
theorem Qop {op:CmpOp} (ho:OpR X (compareOp op) r) (ha:PE X a ta) (hb:PE X b tb) (hm:behindInMarks op b=false):PT X (.Compare a [op] [b] pos) (Qtv (tOp r ta tb)):=by
 intro pins s σ H Q I h
 refine wpAny_isTrue_Compare1 (thn (ha pins s σ H _ I h) λv s1 ⟨x,H1,I1,r1,q1⟩=>thn (hb pins s1 σ H1 _ I1 q1) λu s2 ⟨y,H2,I2,r2,q2⟩ =>
  thn (ho pins s2 σ H2 x y v u _ I2 r1 r2 q2) λc s3 ⟨z,H3,I3,r3,k,e,q3⟩=>?_) hm
 subst e
 cases r3
 exact wpAny_truthy_bool ⟨H3,I3,q3⟩
def TruV (K:PySem.W.Frag) (x:V) (H:Hp) (k:Bool):Prop :=
 match x with
 | .non=>k=false
 | .bl b=>k=b
 | .int i=>k=(i != 0)
 | .str y=>y.length<=sizeLine/\k=((y.length:Int) != 0)
 | .byt y=>y.size<=sizeLine/\k=((y.size:Int) != 0)
 | .ref p=>(∃xs,SqL K H p xs/\k = !xs.isEmpty)\/(∃xs,SqT K H p xs/\k = !xs.isEmpty)\/∃kvs,H p=some (.dK kvs)/\k = !kvs.isEmpty
 | _=>False
theorem Qg5 {κ:Type} {kvs:List (κ × V)} {vs:List (κ × Value)} (r:KV kvs vs):(!vs.isEmpty) = !kvs.isEmpty:=by
 cases r <;> rfl
theorem Qbc (r:Vals xs its):(!its.toArray.isEmpty) = !xs.isEmpty:=by
 cases r <;> simp
theorem Qba:(sizeLine:Nat)<2 ^ 63:=by rw [sizeLine_eq];decide
theorem Qqh:TruR X (λx H Q=>∃k,TruV X.K x H k/\Q k H):=by
 intro pins s σ H x v Q I rx h
 obtain ⟨k,e,q⟩:=h
 have hl:=Qba
 have hs:sizeLine=16777216:=sizeLine_eq
 cases x with
 | non =>
  cases rx
  have e':k=false:=e
  subst e'
  exact truthy_none ⟨H,I,q⟩
 | bl b =>
  cases rx
  have e':k=b:=e
  subst e'
  exact wpAny_truthy_bool ⟨H,I,q⟩
 | int i =>
  obtain ⟨t,rfl⟩:=rx
  have e':k=(i != 0):=e
  subst e'
  exact PySem.P.truthy_int ⟨H,I,q⟩
 | str y =>
  obtain ⟨t,rfl⟩:=rx
  obtain ⟨hy,e'⟩:y.length<=sizeLine/\k=((y.length:Int) != 0):=e
  subst e'
  exact PySem.P.truthy_str (by omega) ⟨H,I.tok _,q⟩
 | byt y =>
  obtain ⟨t,rfl⟩:=rx
  obtain ⟨hy,e'⟩:y.size<=sizeLine/\k=((y.size:Int) != 0):=e
  subst e'
  exact PySem.W.truthy_bytes (by omega) ⟨H,I.tok _,q⟩
 | ref p =>
  cases rx
  have e':(∃xs,SqL X.K H p xs/\k = !xs.isEmpty)\/(∃xs,SqT X.K H p xs/\k = !xs.isEmpty)\/∃kvs,H p=some (.dK kvs)/\k = !kvs.isEmpty:=e
  rcases e' with ⟨xs,hx,e'⟩ | ⟨xs,hx,e'⟩ | ⟨kvs,hx,e'⟩
  ·subst e'
   obtain ⟨its,r,pl,hz⟩:=I.list hx
   have hlen:=r.length
   exact wpAny_truthy_list pl.isList (by simp only [List.size_toArray];omega) ⟨H,I.tok _,by rw [Qbc r];exact q⟩
  ·subst e'
   obtain ⟨its,r,pl,hz⟩:=I.tuple hx
   have hlen:=r.length
   exact truthy_tuple pl (by simp only [List.size_toArray];omega) ⟨H,I.tok _,by rw [Qbc r];exact q⟩
  ·subst e'
   obtain ⟨hz,hS,vs,r,m⟩:kvs.length<=sizeLine/\(p == sysModules)=false/\∃vs,KV kvs vs/\s.heap.DictOf (Yn X.prog X.w) p vs:=I.hok p _ hx
   have hlen:kvs.length=vs.length:=Paired.length r
   exact wpAny_truthy_dict hS m (by omega) ⟨H,I.tok _,by rw [Qg5 r];exact q⟩
 | _=>exact (show False from e).elim
theorem Qk2 (ha:PE X a ta) (he:∀whole,isTrue a X.env whole=(do let v ← whole;standAt a.pos;holding [v] (truthy v))) :
  PT X a (λσ H Q=>ta σ H λx H'=>∃k,TruV X.K x H' k/\Q k H'):=by
 intro pins s σ H Q I h
 exact isTrue_plain (thn (ha pins s σ H _ I h) λv s1 ⟨x,H1,I1,r1,q1⟩=>Qqh pins s1 σ H1 x v Q I1 r1 q1) (he _)
theorem Qgx:OpR X (binaryOp .Add) (λx y H Q=>∃i j,x=.str i/\y=.str j/\i.length+j.length<=sizeLine/\Q (.str (i++j)) H):=by
 intro pins s σ H x y v u Q I rx ry h
 obtain ⟨i,j,rfl,rfl,hz,q⟩:=h
 obtain ⟨t,rfl⟩:=rx
 obtain ⟨t',rfl⟩:=ry
 exact add_str (λt' tk=>⟨.str (i++j),H,I.tok _,⟨_,rfl⟩,q⟩) hz
theorem Qgh {x:V} (r:Vals [x] us):∃u,us=[u]/\RelV x u:=by
 cases r with
 | cons r1 r2=>cases r2;exact ⟨_,rfl,r1⟩
theorem Qhr {x:V} (r:Vals [x,y] us):∃u w',us=[u,w']/\RelV x u/\RelV y w':=by
 cases r with
 | cons r1 r2 =>
  cases r2 with
  | cons r3 r4=>cases r4;exact ⟨_,_,rfl,r1,r3⟩
theorem Qkg:Vp X (.type "int") (λxs H Q=>(∃i,xs=[.int i]/\Q (.int i) H)\/∃k,xs=[.bl k]/\Q (.int (if k then 1 else 0)) H):=by
 intro pins s σ H xs us Q I r h
 rcases h with ⟨i,rfl,q⟩ | ⟨k,rfl,q⟩
 ·obtain ⟨u,rfl,t,rfl⟩:=Qgh r
  exact call_int_int ⟨.int i,H,I,⟨_,rfl⟩,q⟩
 ·obtain ⟨u,rfl,r1⟩:=Qgh r
  cases r1
  exact call_int_bool ⟨.int (if k then 1 else 0),H,I.tok _,⟨_,rfl⟩,q⟩
def LenV (K:PySem.W.Frag) (x:V) (H:Hp) (n:Nat):Prop :=
 match x with
 | .str y=>y.length<=sizeLine/\n=y.length
 | .byt y=>y.size<=sizeLine/\n=y.size
 | .ref p=>(∃xs,SqL K H p xs/\n=xs.length)\/∃xs,SqT K H p xs/\n=xs.length
 | _=>False
theorem Qmd:Vp X (.builtin "len") (λxs H Q=>∃x n,xs=[x]/\LenV X.K x H n/\Q (.int n) H):=by
 intro pins s σ H xs us Q I r h
 obtain ⟨x,n,rfl,e,q⟩:=h
 obtain ⟨u,rfl,rx⟩:=Qgh r
 have hl:=Qba
 have hs:sizeLine=16777216:=sizeLine_eq
 cases x with
 | str y =>
  obtain ⟨t,rfl⟩:=rx
  obtain ⟨hy,e'⟩:y.length<=sizeLine/\n=y.length:=e
  subst e'
  exact len_str (by omega) ⟨.int _,H,I.tok _,⟨_,rfl⟩,q⟩
 | byt y =>
  obtain ⟨t,rfl⟩:=rx
  obtain ⟨hy,e'⟩:y.size<=sizeLine/\n=y.size:=e
  subst e'
  exact PySem.W.len_bytes (by omega) ⟨.int _,H,I.tok _,⟨_,rfl⟩,q⟩
 | ref p =>
  cases rx
  have e':(∃xs,SqL X.K H p xs/\n=xs.length)\/∃xs,SqT X.K H p xs/\n=xs.length:=e
  rcases e' with ⟨xs,hx,e'⟩ | ⟨xs,hx,e'⟩
  ·subst e'
   obtain ⟨its,r',pl,hz⟩:=I.list hx
   have hlen:=r'.length
   exact Calls.call_len_list pl.isList (by simp only [List.size_toArray];omega) ⟨.int xs.length,H,I.tok _,⟨_,by simp only [List.size_toArray];rw [hlen]⟩,q⟩
  ·subst e'
   obtain ⟨its,r',pl,hz⟩:=I.tuple hx
   have hlen:=r'.length
   exact len_tuple pl (by simp only [List.size_toArray];omega) ⟨.int xs.length,H,I.tok _,⟨_,by simp only [List.size_toArray];rw [hlen]⟩,q⟩
 | _=>exact (show False from e).elim
end
structure ObjM (h:Heap) (x dx C:Addr) (mA:Str->Option Value):Prop where
 obj:h.get? x=some (PySem.W.instObj C dx)
 ns:h.Ns1 dx mA
 ne:dx≠x
theorem Qi3 {h:Heap} (n:h.Ns1 dx mA):∃od,h.get? dx=some od/\∀name,PySem.W.lookIn name od=some (mA name):=by
 obtain ⟨o,es,ep,ho,hd,hk,_,hm⟩:=n
 refine ⟨o,ho,λname=>?_⟩
 have e:=hm name
 unfold nsFind findBy at e
 rw [← Array.find?_toList] at e
 unfold PySem.W.lookIn
 rw [hd]
 dsimp only
 split
 ·rename_i y q
  rw [q] at e
  exact congrArg some e
 ·rename_i q
  rw [q] at e
  have a:es.toList.any (·.refKey)=false:=by
   rw [List.any_eq_false]
   intro y hy
   obtain ⟨z,t,hkey⟩:=hk y (Array.mem_toList_iff.mp hy)
   simp [DictEntry.refKey,hkey]
  have a':¬es.toList.any (·.refKey)=true:=by rw [a];exact Bool.false_ne_true
  rw [if_neg a']
  exact congrArg some e
theorem ObjM.look {h:Heap} {x:Addr} (I:ObjM h x dx C mA):∃od,PySem.W.InstAt h x (PySem.W.instObj C dx) C (some od)/\∀name,PySem.W.lookIn name od=some (mA name) :=
 let ⟨od,ho,hl⟩:=Qi3 I.ns
 ⟨od,⟨I.obj,rfl,rfl,ho⟩,hl⟩
section
variable {x f:Addr} {v:Value}
theorem Qpo (X:K.In s.heap) (I:ObjM s.heap x dx C mA) (hg:PySem.W.plainGet K C name=true) (hh:PySem.W.hasDictIn K C=true)
  (ha:PySem.W.findIn K (.ref C) name=some none) (hv:mA name=some v) (hv':PySem.W.handedIn v=true) (h:Q v { s with toks:=s.toks+1 }) :
  wpAny (model prog w) A (getAttr (.ref x) name expr) Q E s:=by
 obtain ⟨od,J,hl⟩:=I.look
 exact PySem.W.get_value X J (PySem.W.plainGet_of hg).1 (PySem.W.findObj_own hh ha rfl (by rw [hl,hv])) hv' h
theorem Qlx {Q:Value × List Value->Shared->Prop} (X:K.In s.heap) (I:ObjM s.heap x dx C mA) (hg:PySem.W.plainGet K C name=true)
  (hf:PySem.W.findIn K (.ref C) name=some (some (.ref f))) (ht:PySem.W.isFn K (.ref f)=true) (hv:mA name=none) (h:Q (.ref f,[.ref x]) s) :
  wpAny (model prog w) A (getMethod (.ref x) name pl) Q E s:=by
 obtain ⟨od,J,hl⟩:=I.look
 exact PySem.W.method_fn X J (PySem.W.plainGet_of hg).1 (PySem.W.plainGet_of hg).2 hf (beq_iff_eq.mp ht) (by show (PySem.W.lookIn name od).map (·.isSome)=some false;rw [hl,hv];rfl) h
theorem Qoc {ns:List Str} {Q:Unit->Shared->Prop} (X:K.In s.heap) (I:ObjM s.heap x dx C mA)
  (hs:PySem.W.findIn K (.ref C) "__setattr__" = some (some (.builtin "object.__setattr__"))) (hp:PySem.W.plainOver K C=true) (ht:PySem.W.takerIn K C name=some none) (hh:PySem.W.hasDictIn K C=true)
  (hw:PySem.Within mA ns) (hsz:ns.length<=sizeLine)
  (h:∀h',ObjM h' x dx C (λy=>if y=name then some v else mA y)->Heap.SameBut dx s.heap h'->Q () { s with heap:=h',toks:=s.toks+2 }) :
  wpAny (model prog w) A (setAttr (.ref x) name v) Q E s:=by
 obtain ⟨od,J,hl⟩:=I.look
 refine PySem.W.set_plain X J hs (PySem.W.osa_open (s:={ s with toks:=s.toks+1 }) (r:=none) X J hp ht λb=>?_)
 obtain ⟨cd,hc,hd'⟩:=PySem.W.any_some hh
 have hx:s.heap.get? x=some ⟨.ref C,some dx,.plain,#[]⟩:=I.obj
 refine wpAny_bind (wpAny_pure (wpAny_bind (wpAny_bind (wpAny_loadPart hx (wpAny_bind (PySem.W.Looks.here (s:={ s with toks:=s.toks+1 }) (PySem.W.looks_clsIn X hc) ?_))))))
 rw [hd']
 refine wpAny_pure (a:=some dx) (wpAny_bind (wpAny_pure (wpAny_bind ?_)))
 refine wpAny_nsSet1 (s:={ s with toks:=s.toks+1 }) I.ns λh' hn2 hs2=>?_
 obtain ⟨oD,esD,epD,hoD,hdD,hcD⟩:=hn2.count (PySem.Within.cons name v hw)
 refine wpAny_bind (wpAny_lookBehind hoD (by rw [hdD];exact pastItsLine_dict (Nat.le_trans hcD (by rw [List.length_cons];omega))) ?_)
 exact wpAny_pure (h _ ⟨(hs2.2 _ (Ne.symm I.ne)).trans I.obj,hn2,I.ne⟩ hs2)
theorem Qli {vs:List Value} (X:K.In s.heap) (hm:PySem.W.makesIn K C=true)
  (hi:PySem.W.findIn K (.ref C) "__init__" = some (some (.ref f))) (hf:PySem.W.typeIn K (.ref f)=some (.type "function"))
  (h:codeAny (model prog w) (A.under (.builtin "type.__call__" ⟨.ref C::vs,kw⟩)) (.call (.ref f) ⟨.ref (s.heap.objs.size+1)::vs,kw⟩) (PySem.W.InitBack (s.heap.objs.size+1) R)
   { s with heap:=(s.heap.push PySem.W.emptyDict).push (PySem.W.instObj C s.heap.objs.size) }) :
  codeAny (model prog w) A (.call (.ref C) ⟨vs,kw⟩) R s:=by
 obtain ⟨hh,g,d,t,os⟩:=s
 exact PySem.W.make_core (PySem.W.makes_of X hm) (PySem.W.looks_findIn X hi) (λself=>PySem.W.bind_fn X self hf) (.inl rfl) h
theorem Qi2 (X:K.In s.heap) (hm:PySem.W.makesIn K C=true)
  (hi:PySem.W.findIn K (.ref C) "__init__" = some (some (.builtin "object.__init__")))
  (hb:∀self,PySem.W.Looks (model prog w) s.heap (bindSpecial (.builtin "object.__init__") self) (.builtin "object.__init__",[self]))
  (h:codeAny (model prog w) (A.under (.builtin "type.__call__" ⟨[.ref C],[]⟩)) (.call (.builtin "object.__init__") ⟨[.ref (s.heap.objs.size+1)],[]⟩) (PySem.W.InitBack (s.heap.objs.size+1) R)
   { s with heap:=(s.heap.push PySem.W.emptyDict).push (PySem.W.instObj C s.heap.objs.size) }) :
  codeAny (model prog w) A (.call (.ref C) ⟨[],[]⟩) R s:=by
 obtain ⟨hh,g,d,t,os⟩:=s
 exact PySem.W.make_core (PySem.W.makes_of X hm) (PySem.W.looks_findIn X hi) hb (.inr ⟨rfl,rfl⟩) h
end
def putF (f:Str) (v:V):List (Str × V)->List (Str × V)
 | []=>[(f,v)]
 | (g,x)::r=>if g=f then (g,v)::r else (g,x)::putF f v r
theorem X6 (f g:Str) (v:V):∀fs:List (Str × V),(putF f v fs).lookup g=if g=f then some v else fs.lookup g
 | []=>by
  show List.lookup g [(f,v)]=_
  by_cases h:g=f
  ·have hb:(g == f)=true:=beq_iff_eq.mpr h
   simp only [List.lookup,hb,if_pos h]
  ·have hb:(g == f)=false:=beq_eq_false_iff_ne.mpr h
   simp only [List.lookup,hb,if_neg h]
 | (k,x)::r=>by
  have ih:=X6 f g v r
  rw [show putF f v ((k,x)::r)=(if k=f then (k,v)::r else (k,x)::putF f v r) from rfl]
  by_cases hk:k=f
  ·rw [if_pos hk]
   by_cases h:g=k
   ·have hb:(g == k)=true:=beq_iff_eq.mpr h
    simp only [List.lookup,hb,if_pos (h.trans hk)]
   ·have hb:(g == k)=false:=beq_eq_false_iff_ne.mpr h
    simp only [List.lookup,hb,if_neg (λe:g=f=>h (e.trans hk.symm))]
  ·rw [if_neg hk]
   by_cases h:g=k
   ·have hb:(g == k)=true:=beq_iff_eq.mpr h
    simp only [List.lookup,hb,if_neg (λe:g=f=>hk (h.symm.trans e))]
   ·have hb:(g == k)=false:=beq_eq_false_iff_ne.mpr h
    simp only [List.lookup,hb]
    exact ih
theorem Qaa (f:Str) (v:V):∀fs:List (Str × V),f∈(putF f v fs).map (·.1)/\∀g,g∈fs.map (·.1)->g∈(putF f v fs).map (·.1)
 | []=>⟨by simp [putF],λg h=>by simp at h⟩
 | (k,x)::r=>by
  obtain ⟨i1,i2⟩:=Qaa f v r
  rw [show putF f v ((k,x)::r)=(if k=f then (k,v)::r else (k,x)::putF f v r) from rfl]
  by_cases hk:k=f
  ·rw [if_pos hk]
   subst hk
   exact ⟨by simp,λg h=>by simpa using h⟩
  ·rw [if_neg hk]
   refine ⟨?_,λg h=>?_⟩
   ·rw [List.map_cons]
    exact List.mem_cons_of_mem _ i1
   ·rw [List.map_cons] at h ⊢
    rcases List.mem_cons.mp h with e | e
    ·exact List.mem_cons.mpr (.inl e)
    ·exact List.mem_cons_of_mem _ (i2 g e)
theorem X8 (f:Str) (v:V):∀fs:List (Str × V),(putF f v fs).length<=fs.length+1
 | []=>by simp [putF]
 | (k,x)::r=>by
  have ih:=X8 f v r
  rw [show putF f v ((k,x)::r)=(if k=f then (k,v)::r else (k,x)::putF f v r) from rfl]
  by_cases hk:k=f
  ·rw [if_pos hk,List.length_cons,List.length_cons];omega
  ·rw [if_neg hk,List.length_cons,List.length_cons];omega
theorem RelO.some_of (r:RelO (some v) o):∃u,o=some u/\RelV v u:=by
 cases o with
 | none=>exact (show False from r).elim
 | some u=>exact ⟨u,rfl,r⟩
theorem RelO.none_of (r:RelO none o):o=none:=by
 cases o with
 | none=>rfl
 | some u=>exact (show False from r).elim
theorem Qdn (r:RelV v u):PySem.W.handedIn u=true:=by
 cases v with
 | non=>cases (show u=Value.none from r);rfl
 | bl b=>cases (show u=Value.bool b from r);rfl
 | int i=>obtain ⟨t,e⟩:=(show ∃t,u=Value.int i t from r);cases e;rfl
 | str x=>obtain ⟨t,e⟩:=(show ∃t,u=Value.str x t from r);cases e;rfl
 | byt b=>obtain ⟨t,e⟩:=(show ∃t,u=Value.bytes b t from r);cases e;rfl
 | flt b=>obtain ⟨t,e⟩:=(show ∃t,u=Value.float b t from r);cases e;rfl
 | ref a=>cases (show u=Value.ref a from r);rfl
 | ty n=>cases (show u=Value.type n from r);rfl
section
variable {h:Heap}
theorem Qad (hok:HOk P w H h) (e:H a=some (.ins C dx fs)):∃mA,ObjM h a dx C mA/\(∀f,RelO (fs.lookup f) (mA f))/\PySem.Within mA (fs.map (·.1))/\fs.length<=1000/\H dx=some (.own a):=by
 obtain ⟨d,z,ne,ob,mA,n,r,q⟩:=(show Ya P w H h a (.ins C dx fs) from hok a _ e)
 exact ⟨mA,⟨ob,n,ne⟩,r,q,z,d⟩
end
structure Cls (K:PySem.W.Frag) (C:Addr):Prop where
 pg:PySem.W.plainGet K C Str.empty=true
 hd:PySem.W.hasDictIn K C=true
 po:PySem.W.plainOver K C=true
 sa:PySem.W.findIn K (.ref C) "__setattr__" = some (some (.builtin "object.__setattr__"))
theorem Cls.get (c:Cls K C) (f:Str):PySem.W.plainGet K C f=true:=c.pg
def Jg (K:PySem.W.Frag) (C:Addr) (f:Str):Prop:=PySem.W.findIn K (.ref C) f=some none
theorem Jg.taker {f:Str} (n:Jg K C f):PySem.W.takerIn K C f=some none:=by
 unfold PySem.W.takerIn
 rw [show PySem.W.findIn K (.ref C) f=some none from n]
 rfl
structure Meth (K:PySem.W.Frag) (C:Addr) (m:Str) (f:Addr):Prop where
 at_:PySem.W.findIn K (.ref C) m=some (some (.ref f))
 fn:PySem.W.isFn K (.ref f)=true
 kp:PySem.W.keepIn K (.ref f)=true
section
variable {f:Str}
theorem Qg7 {b:Bool} (I:Inv X pins σ H s) (e:H a=some (.ins C dx fs)) (c:Cls X.K C) (n:Jg X.K C f) (l:fs.lookup f=some v)
  (h:∀u s',Inv X pins σ H s'->RelV v u->Q u s'):wpAny (model X.prog X.w) A (getAttr (.ref a) f b) Q E s:=by
 obtain ⟨mA,O,r,_,_,_⟩:=Qad I.hok e
 obtain ⟨u,hu,ru⟩:=RelO.some_of (v:=v) (o:=mA f) (by rw [← l];exact r f)
 exact Qpo I.kIn O (c.get f) c.hd n hu (Qdn ru) (h u _ (I.tok _) ru)
theorem Qg6 {g:Addr} {Q:Value × List Value->Shared->Prop} (I:Inv X pins σ H s) (e:H a=some (.ins C dx fs)) (c:Cls X.K C) (k:Meth X.K C m g) (l:fs.lookup m=none)
  (h:Q (.ref g,[.ref a]) s):wpAny (model X.prog X.w) A (getMethod (.ref a) m pl) Q E s:=by
 obtain ⟨mA,O,r,_,_,_⟩:=Qad I.hok e
 have hn:mA m=none:=RelO.none_of (by rw [← l];exact r m)
 exact Qlx I.kIn O (c.get m) k.at_ k.fn hn h
theorem Qgq {Q:Unit->Shared->Prop} (I:Inv X pins σ H s) (e:H a=some (.ins C dx fs)) (c:Cls X.K C) (n:Jg X.K C f) (hl:fs.length<1000) (ry:RelV y u)
  (h:∀s',Inv X pins σ (upd H a (.ins C dx (putF f y fs))) s'->Q () s'):wpAny (model X.prog X.w) A (setAttr (.ref a) f u) Q E s:=by
 obtain ⟨mA,O,r,wi,_,ho⟩:=Qad I.hok e
 have hz:(fs.map (·.1)).length<=sizeLine:=by rw [List.length_map,sizeLine_eq];omega
 refine Qoc I.kIn O c.sa c.po n.taker c.hd wi hz λh' O' sb=>h _ ?_
 have hd:∃o,h'.get? dx=some o:=let ⟨o,_,_,e',_⟩:=O'.ns;⟨o,e'⟩
 refine I.write (x:=a) (e:=dx) (by rw [e];exact True.intro) (.inr ho) (λb q hb z=>(sb.2 b hb).trans z) hd ?_
 refine ⟨by rw [Qg O.ne];exact ho,?_,O.ne,O'.obj,_,O'.ns,λg=>?_,λg hg=>?_⟩
 ·have:=X8 f y fs;omega
 ·show RelO ((putF f y fs).lookup g) (if g=f then some u else mA g)
  rw [X6]
  by_cases q:g=f
  ·rw [if_pos q,if_pos q];exact ry
  ·rw [if_neg q,if_neg q];exact r g
 ·by_cases q:g=f
  ·rw [q];exact (Qaa f y fs).1
  ·refine (Qaa f y fs).2 g (wi g λz=>hg ?_)
   show (if g=f then some u else mA g)=none
   rw [if_neg q];exact z
theorem Inv.made (I:Inv X pins σ H s):Inv X pins σ (upd (upd H s.heap.objs.size (.own (s.heap.objs.size+1))) (s.heap.objs.size+1) (.ins C s.heap.objs.size []))
  { s with heap:=(s.heap.push PySem.W.emptyDict).push (PySem.W.instObj C s.heap.objs.size) }:=by
 have e1:(s.heap.push PySem.W.emptyDict).get? s.heap.objs.size=some PySem.W.emptyDict:=Heap.get?_push_size s.heap rfl
 have e2:((s.heap.push PySem.W.emptyDict).push (PySem.W.instObj C s.heap.objs.size)).get? (s.heap.objs.size+1)=some (PySem.W.instObj C s.heap.objs.size):=by
  have:=Heap.get?_push_size (s.heap.push PySem.W.emptyDict) (o:=PySem.W.instObj C s.heap.objs.size) rfl
  rwa [Heap.size_push] at this
 have e3:(s.heap.push PySem.W.emptyDict).Ns s.heap.objs.size (λ_=>none):=⟨PySem.W.emptyDict,#[],_,e1,rfl,(λe he=>absurd he (by simp)),λ_=>rfl⟩
 have I1:=I.laid (a:=s.heap.objs.size) (o:=.own (s.heap.objs.size+1)) (h':=s.heap.push PySem.W.emptyDict) (t':=s.toks) (λb u q=>Heap.get?_push_of_some _ q) (Nat.le_refl _) ⟨_,e1⟩
 refine I1.laid (a:=s.heap.objs.size+1) (o:=.ins C s.heap.objs.size []) (t':=s.toks) (λb u q=>Heap.get?_push_of_some _ q) (Nat.le_of_eq (Heap.size_push _ _)) ?_
 have ne:s.heap.objs.size≠s.heap.objs.size+1:=Nat.ne_of_lt (Nat.lt_succ_self _)
 refine ⟨by rw [Qg ne,Qi],Nat.zero_le _,ne,e2,λ_=>none,(Heap.Ns1.of_empty e3).at λo q=>Heap.get?_push_of_some _ q,λ_=>True.intro,λy hy=>absurd rfl hy⟩
theorem Qkk {f:Str} (hb:attributeBase e f env (eval e env)=eval e env)
  (h:wpAny (model prog w) A (eval e env) (λo s₁=>wpAny (model prog w) A (getAttr o f true) Q E s₁) E s):wpAny (model prog w) A (eval (.Attribute e f pos) env) Q E s :=
 Attribute_any_ h (by rw [arm_eval_Attribute,hb])
end
def tFld (K:PySem.W.Frag) (ta:TE) (f:Str):TE:=λσ H Q=>ta σ H λx H1=>∃a C dx fs v,x=.ref a/\H1 a=some (.ins C dx fs)/\Cls K C/\Jg K C f/\fs.lookup f=some v/\Q v H1
def sFld (K:PySem.W.Frag) (ta tv:TE) (f:Str):TS:=λD σ H=>tv σ H λy H1=>ta σ H1 λx H2=>∃a C dx fs,x=.ref a/\H2 a=some (.ins C dx fs)/\Cls K C/\Jg K C f/\fs.length<1000 /\
 D.nx σ (upd H2 a (.ins C dx (putF f y fs)))
section
variable {o:Expr} {f:Str} {tv:TE}
theorem Qrn (he:PE X e ta) (hb:attributeBase e f X.env (eval e X.env)=eval e X.env):PE X (.Attribute e f pos) (tFld X.K ta f):=by
 intro pins s σ H Q I h
 refine Qkk hb (thn (he pins s σ H _ I h) λu s1 ⟨x,H1,I1,rx,a,C,dx,fs,v,ex,ea,c,n,l,q⟩=>?_)
 subst ex
 obtain rfl:u=Value.ref a:=rx
 exact Qg7 I1 ea c n l λu' s2 I2 ru=>⟨v,H1,I2,ru,q⟩
theorem Qa6 (ha:PE X o ta) (hv:PE X value tv) (hs:swapsWith value (some (.Attribute o f pos')) pos.line X.env=pure false):PS X (.Assign [.Attribute o f pos'] value pos) (sFld X.K ta tv f):=by
 intro pins s σ H D I h
 refine plainObj_wpAny_Assign_Attribute (thn (hv pins s σ H _ I h) λu s1 ⟨y,H1,I1,ry,q⟩=>thn (ha pins s1 σ H1 _ I1 q) λov s2 ⟨x,H2,I2,rx,a,C,dx,fs,ex,ea,c,n,l,q2⟩=>?_) hs
 subst ex
 obtain rfl:ov=Value.ref a:=rx
 exact Qgq I2 ea c n l ry λs3 I3=>⟨σ,_,I3,q2⟩
end
section
variable {c:Value} {b:Bool}
inductive TyOf (K:PySem.W.Frag) (H:Hp):V->Value->Prop where
 | non:TyOf K H .non (.type "NoneType")
 | bl (x:Bool):TyOf K H (.bl x) (.type "bool")
 | int (i:Int):TyOf K H (.int i) (.type "int")
 | str (x:Str):TyOf K H (.str x) (.type "str")
 | flt (x:UInt64):TyOf K H (.flt x) (.type "float")
 | lst {a:Addr} {xs:List V} (e:H a=some (.lst xs)):TyOf K H (.ref a) (.type "list")
 | frz {a:Addr} {o:Obj} {xs:List V} (e:H a=some (.frz o (.lst xs))):TyOf K H (.ref a) (.type "list")
 | tup {a:Addr} {xs:List V} (e:H a=some (.tup xs)):TyOf K H (.ref a) (.type "tuple")
 | dK {a:Addr} {kvs:List (Key × V)} (e:H a=some (.dK kvs)):TyOf K H (.ref a) (.type "dict")
 | dT {a:Addr} {kvs:List (List Key × V)} (e:H a=some (.dT kvs)):TyOf K H (.ref a) (.type "dict")
 | ins {a C dx:Addr} {fs:List (Str × V)} (e:H a=some (.ins C dx fs)) (cl:Cls K C) (ha:PySem.W.findIn K (.ref C) "__class__" = some (some (.builtin "object.__class__")))
   (hn:PySem.W.specialIn K (.builtin "object.__class__") "__get__" = some (some (.builtin "getset_descriptor.__get__"))) (htk:PySem.W.takesIn K (.builtin "object.__class__")=some true)
   (hm:PySem.W.mroIn K C (.type "object")=some true):TyOf K H (.ref a) (.ref C)
theorem Qdl {x:V} {t:Value} (I:Inv X pins σ H s) (rx:RelV x u) (ty:TyOf X.K H x t) (e:PySem.W.kitOne X.K t c=some b) (h:∀tk,Q (.bool b) { s with toks:=tk }) :
  wpAny (model X.prog X.w) A (call (.builtin "isinstance") [u,c]) Q E s:=by
 cases ty with
 | non=>cases (show u=Value.none from rx);exact PySem.W.kia_one PySem.W.kitx_none I.kIn True.intro e (λz=>nomatch z) h
 | bl y=>cases (show u=Value.bool y from rx);exact PySem.W.kia_one PySem.W.kitx_bool I.kIn True.intro e (λz=>nomatch z) h
 | int i=>obtain ⟨t,q⟩:=(show ∃t,u=Value.int i t from rx);cases q;exact PySem.W.kia_one PySem.W.kitx_int I.kIn True.intro e (λz=>nomatch z) h
 | str y=>obtain ⟨t,q⟩:=(show ∃t,u=Value.str y t from rx);cases q;exact PySem.W.kia_one PySem.W.kitx_str I.kIn True.intro e (λz=>nomatch z) h
 | flt y=>obtain ⟨t,q⟩:=(show ∃t,u=Value.float y t from rx);cases q;exact PySem.W.kia_one PySem.W.kitx_float I.kIn True.intro e (λz=>nomatch z) h
 | @lst a xs ea =>
  cases (show u=Value.ref a from rx)
  obtain ⟨_,_,n,_,h1⟩:=(show Ya X.prog X.w H s.heap a (.lst xs) from I.hok a _ ea)
  exact PySem.W.kia_one PySem.W.kitx_list I.kIn ⟨_,h1,rfl⟩ e (λz=>nomatch z) h
 | @frz a ob xs ea =>
  cases (show u=Value.ref a from rx)
  obtain ⟨_,_,_,n,_,h1⟩:=(show Ya X.prog X.w H s.heap a (.frz ob (.lst xs)) from I.hok a _ ea)
  exact PySem.W.kia_one PySem.W.kitx_list I.kIn ⟨_,h1,rfl⟩ e (λz=>nomatch z) h
 | @tup a xs ea =>
  cases (show u=Value.ref a from rx)
  obtain ⟨_,_,_,p⟩:=(show Ya X.prog X.w H s.heap a (.tup xs) from I.hok a _ ea)
  obtain ⟨o,h1,h2,_⟩:=p
  exact PySem.W.kia_one PySem.W.kitx_tuple I.kIn ⟨o,h1,h2⟩ e (λz=>nomatch z) h
 | @dK a kvs ea =>
  cases (show u=Value.ref a from rx)
  obtain ⟨_,_,vs,_,p⟩:=(show Ya X.prog X.w H s.heap a (.dK kvs) from I.hok a _ ea)
  obtain ⟨o,es,ep,h1,h2,_⟩:=p
  exact PySem.W.kia_one PySem.W.kitx_dict I.kIn ⟨o,h1,h2.1⟩ e (λz=>nomatch z) h
 | @dT a kvs ea =>
  cases (show u=Value.ref a from rx)
  obtain ⟨_,_,xs,_,o,es,ep,h1,h2,_⟩:=(show Ya X.prog X.w H s.heap a (.dT kvs) from I.hok a _ ea)
  exact PySem.W.kia_one PySem.W.kitx_dict I.kIn ⟨o,h1,h2.1⟩ e (λz=>nomatch z) h
 | @ins a C dx fs ea cl ha hn htk hm =>
  cases (show u=Value.ref a from rx)
  obtain ⟨mA,O,_⟩:=Qad I.hok ea
  obtain ⟨od,J,_⟩:=O.look
  exact PySem.W.kia_one (PySem.W.kitx_own (cl.get _) cl.hd ha hn htk hm) I.kIn J e (λz=>nomatch z) h
end
structure Room (k:Nat) (A:Around):Prop where
 hd:A.handled=none
 dp:A.depth+3*k+5<recursionLimit
 un:A.units+16*k+200<cLine
theorem Room.mono {j k:Nat} (r:Room k A) (h:j<=k):Room j A:=⟨r.hd,by have:=r.dp;omega,by have:=r.un;omega⟩
theorem Room.deeper {k:Nat} (r:Room (k+1) A) (env:Env):Room k (A.deeper env) :=
 ⟨r.hd,by have:=r.dp;show A.depth+1+3*k+5<_;omega,by have:=r.un;show A.units+3+16*k+200<_;omega⟩
theorem Qg0:(A.under (.builtin "type.__call__" ⟨.ref C::us,kw⟩)).depth=A.depth+1:=by
 first | rfl | simp [Around.under,Code.weight,Code.isCreation,Code.isGuard,Code.isCaller,Code.frames,Code.isFrame,guardIds]
theorem Qgz:(A.under (.builtin "type.__call__" ⟨.ref C::us,kw⟩)).units=A.units+1:=by
 first | rfl | simp [Around.under,Code.cUnits,Code.frames,Code.isFrame]
theorem Room.make {k:Nat} (r:Room (k+1) A) (C:Addr) (us:List Value) (kw:List (Str × Value)):Room k (A.under (.builtin "type.__call__" ⟨.ref C::us,kw⟩)) :=
 ⟨r.hd,by have:=r.dp;rw [Qg0];omega,by have:=r.un;rw [Qgz];omega⟩
theorem Room.depth {k:Nat} (r:Room k A):A.depth<recursionLimit:=by have:=r.dp;omega
theorem Room.units {k:Nat} (r:Room k A):A.units+64<cLine:=by have:=r.un;omega
def tNil:TA:=λ_ H Q=>Q [] H
def Qt0 (ta:TE) (tr:TA):TA:=λσ H Q=>ta σ H λx H1=>tr σ H1 λxs H2=>Q (x::xs) H2
section
variable {t:TA}
theorem Qa7:PA X [] tNil:=λ_ _ _ _ H Q I h=>Calls.spliced_nil ⟨[],H,I,.nil,h⟩
theorem Zp (ha:PE X e te) (hr:PA X es t) (hs:starEach (e::es) X.env=(false,eval e X.env)::starEach es X.env:=by rfl):PA X (e::es) (Qt0 te t):=by
 intro pos pins s σ H Q I h
 rw [hs]
 show wpAny _ _ (spliced ((false,eval e X.env)::backTo pos (starEach es X.env))) _ _ s
 refine Calls.spliced_cons (thn (ha pins s σ H _ I h) λu s1 ⟨x,H1,I1,r1,q1⟩=>?_)
 exact thn (hr pos pins s1 σ H1 _ I1 q1) λus s2 ⟨xs,H2,I2,r2,q2⟩=>⟨x::xs,H2,I2,.cons r1 r2,q2⟩
def tTup (t:TA):TE:=λσ H Q=>t σ H λxs H1=>xs.length<=sizeLine/\∀p,H1 p=none->Q (.ref p) (upd H1 p (.tup xs))
def tLst (t:TA):TE:=λσ H Q=>t σ H λxs H1=>xs.length<=sizeLine/\∀p,H1 p=none->Q (.ref p) (upd H1 p (.lst xs))
theorem Qri {x1} (h:PA X es t):PE X (.Tuple es x1 pos) (tTup t):=by
 intro pins s σ H Q I hq
 refine wpAny_Tuple_spliced (thn (h pos pins s σ H _ I hq) λus s1 ⟨xs,H1,I1,r,z,q⟩=>⟨by rw [← r.length];exact z,?_⟩)
 have hf:H1 s1.heap.objs.size=none:=I1.hok.fresh (Nat.le_refl _)
 refine ⟨.ref s1.heap.objs.size,upd H1 s1.heap.objs.size (.tup xs),I1.laid (t':=s1.toks) (λb u e=>Heap.get?_push_of_some _ e) (Nat.le_refl _) ?_,rfl,q _ hf⟩
 exact ⟨z,us,r,⟨_,Heap.get?_push_size _ rfl,rfl,_,rfl⟩⟩
theorem Qrm (h:PA X es t):PE X (.List es pos) (tLst t):=by
 intro pins s σ H Q I hq
 refine wpAny_List_spliced (thn (h pos pins s σ H _ I hq) λus s1 ⟨xs,H1,I1,r,z,q⟩=>⟨by rw [← r.length];exact z,?_⟩)
 have hf:H1 s1.heap.objs.size=none:=I1.hok.fresh (Nat.le_refl _)
 refine ⟨.ref s1.heap.objs.size,upd H1 s1.heap.objs.size (.lst xs),I1.laid (t':=s1.toks) (λb u e=>Heap.get?_push_of_some _ e) (Nat.le_refl _) ?_,rfl,q _ hf⟩
 exact ⟨z,us,0,r,Heap.get?_push_size _ rfl⟩
end
abbrev Sp:=List V->Hp->VK->XK->Prop
abbrev CXT:=List Env->Hp->Shared->XK->Value->Shared->Prop
end L2
variable {o:Option L2.V} {f:PySem.Addr} {r:L2.V->List L2.V->L2.Hp->L2.VK->Prop} {mg:PySem.Str->Option PySem.Value} {base:PySem.Heap} {CX:L2.CXT} {fd:PySem.FuncData} {ps:List PySem.Str} {outer:List PySem.Env} {qual:PySem.Str} {scope:PySem.Scope} {cd:PySem.ClassData} {oc:PySem.Value} {od:Option PySem.Addr} {osl:Array (Option PySem.Value)} {T:String} {apos:PySem.Pos}
namespace L2
open PySem PySem.Spec PyProof.Rows
structure Env0 (P:Program) (w:World) (K:PySem.W.Frag) (mg:Str->Option Value) (base:Heap) (A:Around) (outer:List Env) (s:Shared) (H:Hp):Prop where
 frames:A.frames=some outer
 mod:Mod K mg base
 bs:∀b o,base.get? b=some o->s.heap.get? b=some o/\H b=none
 bsz:base.objs.size<=s.heap.objs.size
 funs:s.heap.FunFrames base outer
 frf:∀b∈frs outer,H b=none
 hok:HOk P w H s.heap
 bare:AllBare s.gens
def CE (outer:List Env) (P:Program) (w:World) (H:Hp) (s:Shared) (Q:VK) (u:Value) (s':Shared):Prop :=
 ∃v H',s'.os=s.os/\AllBare s'.gens/\Un (frs outer) [] H H' s.heap s'.heap/\HOk P w H' s'.heap/\RelV v u/\Q v H'
def CR (CX:CXT) (outer:List Env) (P:Program) (w:World) (H:Hp) (s:Shared) (Q:VK) (E:XK) (r:Result) (s':Shared):Prop :=
 match r with
 | .ok (.ret u)=>CE outer P w H s Q u s'
 | .ok _=>False
 | .error e=>CX outer H s E e s'
structure FnOk (P:Program) (w:World) (K:PySem.W.Frag) (mg:Str->Option Value) (base:Heap) (CX:CXT) (k:Nat) (f:Addr) (fd:FuncData) (ps:List Str) (sp:Sp):Prop where
 len:∀vs H Q E,sp vs H Q E->vs.length=ps.length
 run:∀(A:Around) (outer:List Env) (s:Shared) (H:Hp) (args:Args) (us:List Value) (vs:List V) (Q:VK) (E:XK),Room k A->Env0 P w K mg base A outer s H->BindsTo s fd args (ps.zip us)->Vals vs us->sp vs H Q E ->
  codeAny (model P w) A (.call (.ref f) args) (CR CX outer P w H s Q E) s
theorem FnOk.mono {j k:Nat} {sp:Sp} (F:FnOk P w K mg base CX j f fd ps sp) (h:j<=k) :
  FnOk P w K mg base CX k f fd ps sp:=⟨F.len,λA outer s H args us vs Q E hr=>F.run A outer s H args us vs Q E (hr.mono h)⟩
theorem Env0.make (e:Env0 P w K mg base A outer s H) (C:Addr) (us:List Value) (kw:List (Str × Value)) :
  Env0 P w K mg base (A.under (.builtin "type.__call__" ⟨.ref C::us,kw⟩)) outer s H:=⟨by first | exact e.frames | (simpa [Around.under,Code.envs,Code.isFrame,pushEnvs] using e.frames),e.mod,e.bs,e.bsz,e.funs,e.frf,e.hok,e.bare⟩
theorem Inv.env0 (I:Inv X pins σ H s):Env0 X.prog X.w X.K X.mg X.base X.A X.stack s H :=
 ⟨I.ok.frames,I.ok.mod,I.bs,Nat.le_trans I.ok.bsz I.sz,I.stack,I.stkFree,I.hok,I.bare⟩
theorem Inv.after {Q:VK} (I:Inv X pins σ H s) (h:CE X.stack X.prog X.w H s Q u s'):EP X pins σ Q u s':=by
 obtain ⟨v,H',os,bare,un,hok,r,q⟩:=h
 obtain ⟨hh,g,d,t,os'⟩:=s'
 obtain rfl:os'=s.os:=os
 exact ⟨v,H',I.call (h':=hh) (g':=g) (d':=d) (t':=t) (ch:=[]) un hok bare (λb z=>absurd z (by simp)),r,q⟩
def Qt1 (sp:Sp) (dvs:List V) (E:XK) (t:TA):TE:=λσ H Q=>t σ H λvs H1=>sp (vs++dvs) H1 Q E
def Qty (C:Addr) (sp:Sp) (dvs:List V) (E:XK) (t:TA):TE:=λσ H Q=>t σ H λvs H1=>∀x dx,H1 x=none->H1 dx=none->dx≠x ->
 sp (.ref x::(vs++dvs)) (upd (upd H1 dx (.own x)) x (.ins C dx [])) (λv H2=>v=.non/\Q (.ref x) H2) E
def Zi (K:PySem.W.Frag) (fd:FuncData) (ps:List Str) (ds:List Value):Prop :=
 ∀(s:Shared) (us:List Value),K.In s.heap->(us++ds).length=ps.length->BindsTo s fd ⟨us,[]⟩ (ps.zip (us++ds))
theorem Zi.all (h:∀us:List Value,us.length=ps.length->bindArgs fd ⟨us,[]⟩=pure (ps.zip us)):Zi K fd ps []:=λs us _ hl=>by
 rw [List.append_nil] at hl ⊢
 exact .of_eq (h us hl)
def Qd5 (CX:CXT) (X:Cx) (E:XK):Prop:=∀(pins:List (Addr × Obj)) (σ:St) (H:Hp) (s:Shared) (e:Value) (s':Shared),Inv X pins σ H s->CX X.stack H s E e s'->X.xe e s'
section
variable {k:Nat} {sp:Sp} {dvs:List V} {ds:List Value} {E:XK} {t:TA}
theorem Qmm {Q:VK} (F:FnOk X.prog X.w X.K X.mg X.base CX k f fd ps sp) (hr:Room k X.A) (hb:Zi X.K fd ps ds) (hd:Vals dvs ds) (hx:Qd5 CX X E)
  (I:Inv X pins σ H s) (r:Vals vs us) (h:sp (vs++dvs) H Q E):wpAny (model X.prog X.w) X.A (call (.ref f) us) (EP X pins σ Q) X.xe s:=by
 have r2:Vals (vs++dvs) (us++ds):=r.append hd
 have hl:(us++ds).length=ps.length:=by rw [← r2.length];exact F.len _ _ _ _ h
 refine wpAny_call (codeAny_mono (F.run X.A X.stack s H ⟨us,[]⟩ (us++ds) (vs++dvs) Q E hr I.env0 (hb s us I.kIn hl) r2 h) λr s' hq=>?_)
 cases r with
 | error e=>exact hx pins σ H s e s' I hq
 | ok fl =>
  cases fl with
  | ret u=>exact I.after hq
  | next=>exact False.elim hq
  | brk=>exact False.elim hq
  | cont=>exact False.elim hq
theorem Qem (F:FnOk X.prog X.w X.K X.mg X.base CX k f fd ps sp) (hr:Room k X.A) (hg:Gl X x) (hm:X.mg x=some (.ref f)) (hk:PySem.W.keepIn X.K (.ref f)=true) (hb:Zi X.K fd ps ds) (hd:Vals dvs ds) (hx:Qd5 CX X E)
  (ha:PA X (e::es) t) (hdb:(x == ("__debug__" : Str))=false:=by decide) (he:starEach (e::es) X.env=(false,eval e X.env)::starEach es X.env:=by rfl) (hpl:(backTo pos (starEach es X.env)).any (·.1)=false:=by rfl) :
  PE X (.Call (.Name x p) (e::es) [] pos) (Qt1 sp dvs E t):=by
 intro pins s σ H Q I h
 refine wpAny_Call_Name_kw (Vj I hg hm ?_ hdb)
 refine PySem.W.callWith_K (h₀:=X.base) I.ok.mod.kin hk (thn (ha pos pins s σ H _ I h) λus s1 ⟨vs,H1,I1,r,q⟩=>⟨I1.kIn,?_⟩) he hpl
 exact Qmm F hr hb hd hx I1 r q
structure Mk (K:PySem.W.Frag) (C f:Addr):Prop where
 makes:PySem.W.makesIn K C=true
 init:PySem.W.findIn K (.ref C) "__init__" = some (some (.ref f))
 fn:PySem.W.isFn K (.ref f)=true
 kp:PySem.W.keepIn K (.ref C)=true
theorem Qkx {Q:VK} (M:Mk X.K C f) (F:FnOk X.prog X.w X.K X.mg X.base CX k f fd ps sp) (hr:Room (k+1) X.A) (hb:Zi X.K fd ps ds) (hd:Vals dvs ds)
  (hx:Qd5 CX X E) (I:Inv X pins σ H s) (r:Vals vs us)
  (h:∀x dx,H x=none->H dx=none->dx≠x->sp (.ref x::(vs++dvs)) (upd (upd H dx (.own x)) x (.ins C dx [])) (λv H2=>v=.non/\Q (.ref x) H2) E) :
  wpAny (model X.prog X.w) X.A (call (.ref C) us) (EP X pins σ Q) X.xe s:=by
 have hq:=h (s.heap.objs.size+1) s.heap.objs.size (I.hok.fresh (Nat.le_succ _)) (I.hok.fresh (Nat.le_refl _)) (Nat.ne_of_lt (Nat.lt_succ_self _))
 have I2:=Inv.made (C:=C) I
 have r2:Vals (V.ref (s.heap.objs.size+1)::(vs++dvs)) (Value.ref (s.heap.objs.size+1)::(us++ds)):=.cons rfl (r.append hd)
 have hl:(Value.ref (s.heap.objs.size+1)::us++ds).length=ps.length:=by
  have e:=r2.length
  rw [F.len _ _ _ _ hq] at e
  exact e.symm
 refine wpAny_call (Qli (f:=f) I.kIn M.makes M.init (beq_iff_eq.mp M.fn) (codeAny_mono (F.run _ X.stack _ _ ⟨Value.ref (s.heap.objs.size+1)::us,[]⟩ (Value.ref (s.heap.objs.size+1)::(us++ds)) _ _ E (hr.make C us [])
  (I2.env0.make C us []) (hb _ (Value.ref (s.heap.objs.size+1)::us) I2.kIn hl) r2 hq) λr s' hq'=>?_))
 cases r with
 | error e=>exact hx pins σ _ _ e s' I2 hq'
 | ok fl =>
  cases fl with
  | ret u =>
   obtain ⟨v,H',I3,rv,ev,q3⟩:=I2.after hq'
   subst ev
   exact ⟨rv,⟨V.ref (s.heap.objs.size+1),H',I3,rfl,q3⟩⟩
  | next=>exact False.elim hq'
  | brk=>exact False.elim hq'
  | cont=>exact False.elim hq'
theorem Qow (M:Mk X.K C f) (F:FnOk X.prog X.w X.K X.mg X.base CX k f fd ps sp) (hr:Room (k+1) X.A) (hg:Gl X x) (hm:X.mg x=some (.ref C)) (hb:Zi X.K fd ps ds) (hd:Vals dvs ds) (hx:Qd5 CX X E)
  (ha:PA X (e::es) t) (hdb:(x == ("__debug__" : Str))=false:=by decide) (he:starEach (e::es) X.env=(false,eval e X.env)::starEach es X.env:=by rfl) (hpl:(backTo pos (starEach es X.env)).any (·.1)=false:=by rfl) :
  PE X (.Call (.Name x p) (e::es) [] pos) (Qty C sp dvs E t):=by
 intro pins s σ H Q I h
 refine wpAny_Call_Name_kw (Vj I hg hm ?_ hdb)
 refine PySem.W.callWith_K (h₀:=X.base) I.ok.mod.kin M.kp (thn (ha pos pins s σ H _ I h) λus s1 ⟨vs,H1,I1,r,q⟩=>⟨I1.kIn,?_⟩) he hpl
 exact Qkx M F hr hb hd hx I1 r q
end
structure FnScope (N P:List Str) (sc:Scope):Prop where
 kind:sc.kind=.function
 co:sc.isCoroutine=false
 gen:sc.isGenerator=false
 nd:N.Nodup
 pre:N.take P.length=P
 par:∀x∈P,sc.names.lookup x=some .local\/sc.names.lookup x=some .cell
 nofree:∀y∈sc.names,y.2 ≠ .free
theorem Qd0 {kindOf:Str->Option NameKind} {x:Str}:∀{binds:List (Str × Value)} {m:Str->Option Value},(∀v,(x,v)∉binds)->bindL kindOf binds m x=m x
 | [],_,_=>rfl
 | (n,v)::r,m,h=>by
  unfold bindL
  rw [Qd0 λw hw=>h w (List.mem_cons_of_mem _ hw)]
  split
  ·have:x≠n:=by rintro rfl;exact h v List.mem_cons_self
   simp [this]
  ·rfl
theorem Qd2 {kindOf:Str->Option NameKind} {x:Str}:∀{binds:List (Str × Value)} {m:Str->Option Value},(∀v,(x,v)∉binds)->bindC kindOf binds m x=m x
 | [],_,_=>rfl
 | (n,v)::r,m,h=>by
  unfold bindC
  rw [Qd2 λw hw=>h w (List.mem_cons_of_mem _ hw)]
  split
  ·rfl
  ·have:x≠n:=by rintro rfl;exact h v List.mem_cons_self
   simp [this]
theorem Qd1 {kindOf:Str->Option NameKind} {x:Str} {v:Value}:∀{P:List Str} {vs:List Value} {i:Nat} {m:Str->Option Value},P.Nodup->P[i]? = some x->vs[i]? = some v->kindOf x=some .local ->
  bindL kindOf (P.zip vs) m x=some v
 | [],_,_,_,_,h,_,_=>by simp at h
 | _::_,[],_,_,_,_,h,_=>by simp at h
 | p::P,w::vs,0,m,nd,h1,h2,hk=>by
  simp at h1 h2;subst h1;subst h2
  show bindL kindOf ((p,w)::P.zip vs) m p=_
  unfold bindL
  rw [Qd0 λv hv=>(List.nodup_cons.mp nd).1 (List.of_mem_zip hv).1,if_pos hk]
  simp
 | p::P,w::vs,i+1,m,nd,h1,h2,hk=>by
  show bindL kindOf ((p,w)::P.zip vs) m x=_
  unfold bindL
  exact Qd1 (i:=i) (List.nodup_cons.mp nd).2 (by simpa using h1) (by simpa using h2) hk
theorem Qd3 {kindOf:Str->Option NameKind} {x:Str} {v:Value}:∀{P:List Str} {vs:List Value} {i:Nat} {m:Str->Option Value},P.Nodup->P[i]? = some x->vs[i]? = some v->kindOf x≠some .local ->
  bindC kindOf (P.zip vs) m x=some v
 | [],_,_,_,_,h,_,_=>by simp at h
 | _::_,[],_,_,_,_,h,_=>by simp at h
 | p::P,w::vs,0,m,nd,h1,h2,hk=>by
  simp at h1 h2;subst h1;subst h2
  show bindC kindOf ((p,w)::P.zip vs) m p=_
  unfold bindC
  rw [Qd2 λv hv=>(List.nodup_cons.mp nd).1 (List.of_mem_zip hv).1,if_neg hk]
  simp
 | p::P,w::vs,i+1,m,nd,h1,h2,hk=>by
  show bindC kindOf ((p,w)::P.zip vs) m x=_
  unfold bindC
  exact Qd3 (i:=i) (List.nodup_cons.mp nd).2 (by simpa using h1) (by simpa using h2) hk
def Zz (N:List Str) (vs:List V):St:=vs.map some++List.replicate (N.length-vs.length) none
def cxOf (CX:CXT) (P:Program) (w:World) (K:PySem.W.Frag) (mg:Str->Option Value) (base:Heap) (N:List Str) (qual:Str) (scope:Scope) (f:Addr) (cd:Value) (A:Around) (outer:List Env) (s:Shared) (H:Hp) (E:XK):Cx where
 prog:=P
 w:=w
 K:=K
 mg:=mg
 base:=base
 A:=A.deeper (envOfC qual scope s.heap.objs.size f cd)
 N:=N
 s₀:=s
 H₀:=H
 env:=envOfC qual scope s.heap.objs.size f cd
 outer:=outer
 stack:=envOfC qual scope s.heap.objs.size f cd::outer
 ex:=[]
 calm:=true
 fn:=λ_=>true
 pn:=[]
 xe:=λe s'=>wpAny (model P w) (A.deeper (envOfC qual scope s.heap.objs.size f cd)) (leaving (envOfC qual scope s.heap.objs.size f cd) e) (λ_ s''=>CX outer H s E e s'') (λe' s''=>CX outer H s E e' s'') s'
theorem Qf8 {sc:Scope} (h:sc.names.lookup x=some .cell):∃c,(cellsFrom n sc.names []).lookup x=some c:=by
 have q:=PySem.W.cellsFrom_some sc.names n [] (.inl h)
 exact Option.isSome_iff_exists.mp q
theorem Qdm {cd:Value} {s1:Shared} {E:XK}
  (S:FnScope N ps scope) (hd:A.handled=none) (e0:Env0 P w K mg base A outer s H) (hl:vs.length=ps.length) (r:Vals vs us)
  (x:InCallC s s.heap.objs.size (bindL (envOfC qual scope s.heap.objs.size f cd).kindOf (ps.zip us) λ_=>none) (cellsFrom (s.heap.objs.size+1) scope.names []) (bindC (envOfC qual scope s.heap.objs.size f cd).kindOf (ps.zip us) λ_=>none) s1) :
  Inv (cxOf CX P w K mg base N qual scope f cd A outer s H E) [] (Zz N vs) H s1:=by
 have hpl:ps.length<=N.length:=by have:=congrArg List.length S.pre;rw [List.length_take] at this;omega
 obtain ⟨h1,tk,rfl,hk⟩:=x.done
 have noA:∀b:Addr,b∉(cxOf CX P w K mg base N qual scope f cd A outer s H E).ex:=λb z=>absurd (show b∈([]:List Addr) from z) (by simp)
 refine ⟨⟨e0.mod,S.kind,rfl,rfl,Nat.le_refl _,λy z c h1 h2=>?_,λy hy=>?_,λy c _ h=>?_,λ_=>hd,Around.frames_deeper e0.frames,.inr ⟨rfl,rfl⟩,λb z=>absurd z (noA b),e0.bs,e0.bsz,λb _ _=>noA b,λb z=>absurd z (noA b),e0.funs,e0.frf⟩,
  rfl,e0.bare,Un.kept hk,⟨_,x.toInCall.ns,λi y v h1 h2 h3=>?_⟩,λy c h=>⟨_,x.cell y c h⟩,e0.hok.fresh (Nat.le_refl _),λy c h=>?_,λp hp=>absurd (show p∈([]:List (Addr × Obj)) from hp) (by simp),e0.hok.kept hk,?_⟩
 ·exact name_of_addr x.apart (PySem.mem_of_lookup h1) (PySem.mem_of_lookup h2)
 ·have hy:scope.names.lookup y=some .cell\/scope.names.lookup y=some .free:=hy
  rcases hy with hy | hy
  ·exact Qf8 hy
  ·exact absurd rfl (S.nofree _ (PySem.mem_of_lookup hy))
 ·exact Nat.le_of_lt (x.above y c (PySem.mem_of_lookup h))
 ·have hi:i<vs.length:=by
   unfold Zz at h2
   by_cases hi:i<vs.length
   ·exact hi
   ·rw [List.getElem?_append_right (by simpa using hi)] at h2
    rw [List.getElem?_replicate] at h2
    split at h2 <;> cases h2
  have ha:vs[i]? = some v:=by
   unfold Zz at h2
   rw [List.getElem?_append_left (by simpa using hi),List.getElem?_map] at h2
   cases e:vs[i]? with
   | none=>rw [e] at h2;cases h2
   | some a=>rw [e] at h2;cases h2;rfl
  obtain ⟨u,hu,rv⟩:=r.get ha
  have hp:ps[i]? = some y:=by
   rw [← S.pre,List.getElem?_take_of_lt (by omega)];exact h1
  have ndP:ps.Nodup:=by rw [← S.pre];exact S.nd.sublist (List.take_sublist _ _)
  refine ⟨u,rv,?_⟩
  rcases S.par y (List.mem_of_getElem? hp) with k | k
  ·exact .inl ⟨k,Qd1 ndP hp hu k⟩
  ·obtain ⟨c,e⟩:=Qf8 (n:=s.heap.objs.size+1) k
   refine .inr ⟨.inl k,c,e,?_⟩
   have q:=x.cell y c e
   rw [Qd3 ndP hp hu (by show scope.names.lookup y≠_;rw [k];decide)] at q
   exact q
 ·exact e0.hok.fresh (Nat.le_of_lt (x.above y c (PySem.mem_of_lookup h)))
 ·unfold Zz
  show _=N.length
  rw [List.length_append,List.length_map,List.length_replicate]
  omega
theorem Qs0 {k:Nat} {params:Arguments} {dV kV doc pm cdv ct:Value} {an:Option Addr} {sp:Sp} (lk:K.lookup f=some ⟨oc,od,.func (PySem.W.fnOf name qual params body scope dV kV doc pm an cdv ct),osl⟩) (hcd:PySem.W.codeIn K cdv qual=true) (S:FnScope N ps scope)
  (len:∀vs H Q E,sp vs H Q E->vs.length=ps.length)
  (hbody:∀(A:Around) (outer:List Env) (s:Shared) (H:Hp) (vs:List V) (Q:VK) (E:XK),Room k (A.deeper (envOfC qual scope s.heap.objs.size f cdv))->sp vs H Q E ->
   ∃t,PSs (cxOf CX P w K mg base N qual scope f cdv A outer s H E) body t/\t { nx:=λ_ H'=>Q .non H',rt:=Q } (Zz N vs) H) :
  FnOk P w K mg base CX (k+1) f (PySem.W.fnOf name qual params body scope dV kV doc pm an cdv ct) ps sp:=by
 refine ⟨len,λA outer s H args us vs Q E hr e0 hb r hsp=>?_⟩
 have hl:=len _ _ _ _ hsp
 have KX:K.In s.heap:=e0.mod.kin.keeps λb o e=>(e0.bs b o e).1
 have lim:s.heap.NoLimit:=e0.mod.nolimit.keeps λb o e=>(e0.bs b o e).1
 have hkind:∀y∈ps.zip us,scope.names.lookup y.1=some .local\/(scope.names.lookup y.1=some .cell/\((cellsFrom (s.heap.objs.size+1) scope.names []).lookup y.1).isSome=true):=λ⟨n,v⟩ hy=>by
  rcases S.par n (List.of_mem_zip hy).1 with q | q
  ·exact .inl q
  ·exact .inr ⟨q,PySem.W.cellsFrom_some _ _ _ (.inl q)⟩
 refine codeAny_call_function hr.depth (KX _ _ lk) rfl S.co S.gen rfl (PySem.W.codeRec_of KX hcd) (hb _ _ _ _ ?_)
 refine wpAny_newFunctionEnv_cells S.kind hkind λenv he s1 x=>?_
 subst he
 refine ⟨lim.keeps x.toInCall.keep,codeAny_func ?_⟩
 obtain ⟨t,ht,hq⟩:=hbody A outer s H vs Q E (hr.deeper _) hsp
 have I:Inv (cxOf CX P w K mg base N qual scope f cdv A outer s H E) [] (Zz N vs) H s1:=Qdm S hr.hd e0 hl r x
 refine wpAny_mono (ht [] s1 (Zz N vs) H _ I hq) (λfl s' hs=>?_) λe s' hs=>hs
 have fin:∀{σ':St} {H':Hp} {v:V} {u:Value},Inv (cxOf CX P w K mg base N qual scope f cdv A outer s H E) [] σ' H' s'->RelV v u->Q v H'->CE outer P w H s Q u s' :=
  λ{σ' H' v u} J rv q=>⟨v,H',J.os,J.bare,J.base,J.hok,rv,q⟩
 cases fl with
 | ret u =>
  obtain ⟨v,σ',H',J,rv,q⟩:=hs
  exact fin J rv q
 | next =>
  obtain ⟨σ',H',J,q⟩:=hs
  exact fin (v:=V.non) (u:=Value.none) J rfl q
 | brk =>
  obtain ⟨_,_,_,q⟩:=hs
  exact False.elim q
 | cont =>
  obtain ⟨_,_,_,q⟩:=hs
  exact False.elim q
section
variable {t:TA} {id:String} {r:List V->Hp->VK->Prop}
def tCB (r:List V->Hp->VK->Prop) (t:TA):TE:=λσ H Q=>t σ H λvs H1=>r vs H1 Q
theorem Qby (hc:Vp X (.builtin id) r) (hg:Gl X x) (hm:X.mg x=none) (hv:bootBuiltins x=some (.builtin id)) (ha:PA X (e::es) t) (hn:x ≠ "__name__":=by decide) (hdb:(x == ("__debug__" : Str))=false:=by decide)
  (he:starEach (e::es) X.env=(false,eval e X.env)::starEach es X.env:=by rfl) (hpl:(backTo pos (starEach es X.env)).any (·.1)=false:=by rfl):PE X (.Call (.Name x p) (e::es) [] pos) (tCB r t):=by
 intro pins s σ H Q I h
 refine wpAny_Call_Name_kw (Qfw I hg hm hv ?_ hn hdb)
 exact PyProof.Rows.callWith_builtin1 (thn (ha pos pins s σ H _ I h) λus s1 ⟨vs,H1,I1,r1,q1⟩=>hc pins s1 σ H1 vs us Q I1 r1 q1) he hpl
theorem Qio (hc:Vp X (.type T) r) (hg:Gl X x) (hm:X.mg x=none) (hv:bootBuiltins x=some (.type T)) (ha:PA X (e::es) t) (hn:x ≠ "__name__":=by decide) (hdb:(x == ("__debug__" : Str))=false:=by decide)
  (he:starEach (e::es) X.env=(false,eval e X.env)::starEach es X.env:=by rfl) (hpl:(backTo pos (starEach es X.env)).any (·.1)=false:=by rfl):PE X (.Call (.Name x p) (e::es) [] pos) (tCB r t):=by
 intro pins s σ H Q I h
 refine wpAny_Call_Name_kw (Qfw I hg hm hv ?_ hn hdb)
 exact PyProof.Rows.callWith_type1 (thn (ha pos pins s σ H _ I h) λus s1 ⟨vs,H1,I1,r1,q1⟩=>hc pins s1 σ H1 vs us Q I1 r1 q1) he hpl
end
end L2
variable {v vl vu:PySem.Value} {ws:List PySem.Value} {sl:PySem.Addr} {items:Array PySem.Value}
namespace HT
open PySem PyProof.Rows
theorem Qp7 {t:Addr} {vs:List Value} (ht:IsTup s.heap t vs.toArray) (hb:IsTup s.heap b ws.toArray) (hv:vs≠[])
  (h1:ws=[]->Q (.ref t) s) (h2:ws≠[]->Q (.ref s.heap.objs.size) { s with heap:=s.heap.push { cls:=.type "tuple",data:=.seq (vs++ws).toArray } })
  (hsz:vs.length+ws.length<=sizeLine):wpAny (model prog w) A (binaryOp .Add (.ref t) (.ref b)) Q E s:=by
 obtain ⟨⟨cls,dd,data,sl⟩,ho,hc,n,hd⟩:=id ht
 obtain ⟨⟨cls2,dd2,data2,sl2⟩,ho2,hc2,n2,hd2⟩:=id hb
 simp only at hc hd hc2 hd2
 subst hc hd hc2 hd2
 have e:vs.toArray++ws.toArray=(vs++ws).toArray:=by simp
 by_cases hw:ws=[]
 ·exact concat_meets ⟨_,ho,rfl⟩ ⟨_,ho2,rfl⟩ noFill_tuple_add seq_tuple_add PySem.F.slot_tuple_add PySem.F.entry_tuple_add (PySem.F.args_tuple_add_2 _ _)
   (tuple_addW1 t b vs.toArray ws.toArray n n2 dd dd2 sl sl2 (by simpa using hv) (by simp [hw])) ⟨ho,ho2,h1 hw⟩
 ·refine concat_meets ⟨_,ho,rfl⟩ ⟨_,ho2,rfl⟩ noFill_tuple_add seq_tuple_add PySem.F.slot_tuple_add PySem.F.entry_tuple_add (PySem.F.args_tuple_add_2 _ _)
   (tuple_addW2 t b vs.toArray ws.toArray n n2 dd dd2 sl sl2 (by simpa using hv) (by simpa using hw) (by rw [List.size_toArray,List.size_toArray];exact hsz)) ⟨ho,ho2,?_⟩
  rw [e]
  exact h2 hw
def sIx (n d:Nat):Option Int->Nat
 | none=>d
 | some v=>if v<0 then (v+(n:Int)).toNat else min v.toNat n
theorem Qfh (n d:Nat):sIx n d none=d:=rfl
theorem Qbu (n d k:Nat):sIx n d (some (k:Int))=min k n:=by
 show (if (k:Int)<0 then ((k:Int)+(n:Int)).toNat else min (k:Int).toNat n)=min k n
 rw [if_neg (by omega),Int.toNat_natCast]
theorem Qqp (n d:Nat) (hd:d<=n) (o:Option Int):sIx n d o<=n:=by
 cases o with
 | none=>exact hd
 | some v =>
  show (if v<0 then (v+(n:Int)).toNat else min v.toNat n)<=n
  by_cases hv:v<0
  ·rw [if_pos hv];omega
  ·rw [if_neg hv];exact Nat.min_le_right _ _
theorem Qka (v:Int) (n d:Nat):(if v<0 then max (v+(n:Int)) 0 else min v (n:Int))=((sIx n d (some v):Nat):Int):=by
 show (if v<0 then max (v+(n:Int)) 0 else min v (n:Int))=(((if v<0 then (v+(n:Int)).toNat else min v.toNat n):Nat):Int)
 by_cases hv:v<0
 ·simp only [if_pos hv];omega
 ·simp only [if_neg hv];omega
theorem Qhh (lo hi:Option Int) (n:Nat):Builtin.Slice.sliceAdjust lo hi 1 (n:Int)=(((sIx n 0 lo:Nat):Int),((sIx n n hi:Nat):Int)):=by
 have h1:¬((1:Int)<0):=by omega
 unfold Builtin.Slice.sliceAdjust
 simp only [h1,if_false]
 refine Prod.ext ?_ ?_
 ·cases lo with
  | none=>rfl
  | some v=>exact Qka v n 0
 ·cases hi with
  | none=>rfl
  | some v=>exact Qka v n n
theorem Qgu (i j:Nat):Builtin.Slice.slicePlaces (i:Int) (j:Int) 1=j-i:=by
 unfold Builtin.Slice.slicePlaces
 have h1:(1:Int) > 0:=by omega
 simp only [h1,if_true,Int.ediv_one]
 split <;> omega
theorem Qa4 {o:Option Int} {Q:Option Int->Shared->Prop} (p:IsPart v o) (h:Q o s):wpAny (model prog w) A (Builtin.Slice.slicePartIndex v) Q E s:=by
 cases p with
 | none=>exact slicePart_none h
 | int i t=>exact slicePart_int h
theorem Z8 {Q:Int × Int × Nat->Shared->Prop} (hs:s.heap.IsSliceOf sl vl vu .none) (pl:IsPart vl lo) (pu:IsPart vu hi)
  (h:Q (((sIx n 0 lo:Nat):Int),1,sIx n n hi-sIx n 0 lo) s):wpAny (model prog w) A (Builtin.Slice.sliceApplied (.ref sl) (pure (n:Int))) Q E s:=by
 obtain ⟨os,hos,hcs,hds⟩:=id hs
 unfold Builtin.Slice.sliceApplied Builtin.Slice.sliceFields
 refine wpAny_bind (wpAny_bind (wpAny_field hos hds (x:=vl) rfl (wpAny_bind (wpAny_field hos hds (x:=vu) rfl (wpAny_bind (wpAny_field hos hds (x:=.none) rfl (wpAny_pure ?_)))))))
 refine wpAny_bind (slicePart_none ?_)
 show wpAny _ _ (if ((1:Int) == 0)=true then _ else _) _ _ s
 rw [if_neg (by decide)]
 refine wpAny_bind (Qa4 pl (wpAny_bind (Qa4 pu (wpAny_bind (wpAny_pure ?_)))))
 show wpAny _ _ (match Builtin.Slice.sliceAdjust lo hi 1 (n:Int) with | (lo,hi)=>pure (lo,(1:Int),Builtin.Slice.slicePlaces lo hi 1)) _ _ s
 rw [Qhh lo hi n]
 show wpAny _ _ (pure (((sIx n 0 lo:Nat):Int),(1:Int),Builtin.Slice.slicePlaces ((sIx n 0 lo:Nat):Int) ((sIx n n hi:Nat):Int) 1)) _ _ s
 rw [Qgu]
 exact wpAny_pure h
theorem Qk6 (xs:Array Value) (i k:Nat):((List.range k).filterMap λ(m:Nat)=>xs[((i:Int)+(m:Int)*1).toNat]?).toArray=((xs.toList.drop i).take k).toArray:=by
 have e:(λ(m:Nat)=>xs[((i:Int)+(m:Int)*1).toNat]?)=λm=>xs[i+m]?:=by
  funext m
  have:((i:Int)+(m:Int)*1).toNat=i+m:=by omega
  rw [this]
 rw [e]
 have:=pick_run xs i k
 rw [List.filterMap_map] at this
 have e2:((λx=>xs[x]?) ∘ λx=>i+x)=λm=>xs[i+m]?:=rfl
 rw [e2] at this
 rw [this]
theorem Gh {t:Addr} (ht:IsTup s.heap t items) (hs:s.heap.IsSliceOf sl vl vu .none) (pl:IsPart vl lo) (pu:IsPart vu hi)
  (hw:¬(sIx items.size 0 lo=0/\sIx items.size items.size hi=items.size))
  (h:Q (.ref s.heap.objs.size) { s with heap:=s.heap.push { cls:=.type "tuple",data:=.seq ((items.toList.drop (sIx items.size 0 lo)).take (sIx items.size items.size hi-sIx items.size 0 lo)).toArray } })
  (hsz:items.size<=sizeLine):wpAny (model prog w) A (getItem (.ref t) (.ref sl)) Q E s:=by
 have htake:sizeOk (.seq ((items.toList.drop (sIx items.size 0 lo)).take (sIx items.size items.size hi-sIx items.size 0 lo)).toArray):=by
  show ((items.toList.drop (sIx items.size 0 lo)).take (sIx items.size items.size hi-sIx items.size 0 lo)).toArray.size<=sizeLine
  rw [List.size_toArray,List.length_take,List.length_drop,Array.length_toList]
  omega
 have hj:sIx items.size items.size hi<=items.size:=Qqp _ _ (Nat.le_refl _) hi
 obtain ⟨os,hos,hcs,hds⟩:=id hs
 have hTs:s.TypeIs (.ref sl) "slice":=⟨os,hos,hcs⟩
 unfold getItem
 try with_reducible refine wpAny_holding ?_
 first | refine wpAny_bind (wpAny_pure ?_) | skip
 refine wpAny_bind (wpAny_sequenceKey ht.typeIs (by decide) ?_)
 refine wpAny_bind (wpAny_callSpecial?_slot (name:=Str.ofString "__getitem__") ht.typeIs PyProof.Rows.slot_tuple_getitem
  (wpAny_call_entry PyProof.Rows.slot_tuple_getitem ht.typeIs entry_tuple_getitem ?_ (args_tuple_getitem _ _)))
 show wpAny _ _ (Builtin.Tuple.tupleItemsOf (.ref t) >>= _) _ _ s
 refine wpAny_bind (tupleItemsOf_ ht ?_)
 refine wpAny_bind (wpAny_typeOf hTs ?_)
 rw [if_pos (by decide)]
 refine wpAny_bind (Z8 hs pl pu ?_)
 have hno:¬((((sIx items.size 0 lo:Nat):Int) == 0 && (1:Int) == 1 && (sIx items.size items.size hi-sIx items.size 0 lo) == items.size)=true):=by
  intro q
  rw [Bool.and_eq_true,Bool.and_eq_true] at q
  have q1:((sIx items.size 0 lo:Nat):Int)=0:=eq_of_beq q.1.1
  have q2:sIx items.size items.size hi-sIx items.size 0 lo=items.size:=eq_of_beq q.2
  exact hw ⟨by omega,by omega⟩
 show wpAny _ _ (if (((sIx items.size 0 lo:Nat):Int) == 0 && (1:Int) == 1 && (sIx items.size items.size hi-sIx items.size 0 lo) == items.size)=true then _ else _) _ _ s
 rw [if_neg hno,Qk6]
 first
  | exact wpAny_bind (m:=Builtin.Tuple.tupleExact _) (wpAny_newObj_type (wpAny_pure ⟨_,rfl,wpAny_pure h⟩) htake)
  | exact wpAny_bind (m:=Builtin.Tuple.tupleExact _) (wpAny_newObj_type (wpAny_bind (wpAny_pure (wpAny_pure ⟨_,rfl,wpAny_pure h⟩))) htake)
  | exact wpAny_bind (wpAny_bind (m:=Builtin.Tuple.tupleExact _) (wpAny_newObj_type (wpAny_pure (wpAny_pure ⟨_,rfl,wpAny_pure h⟩)) htake))
  | exact wpAny_bind (wpAny_bind (m:=Builtin.Tuple.tupleExact _) (wpAny_newObj_type (wpAny_pure ⟨_,rfl,wpAny_pure h⟩) htake))
end HT
namespace L2
open PySem PySem.Spec PyProof.Rows
abbrev TO:=St->Hp->(Option Int->Hp->Prop)->Prop
end L2
variable {xs:List (List L2.Key × PySem.Addr × PySem.Value)} {kvs:List (List L2.Key × L2.V)} {l:PySem.W.OpenLaw} {cpos:PySem.Pos} {th:L2.TS}
namespace L2
open PySem PySem.Spec PyProof.Rows
def PO (X:Cx) (e:Option Expr) (t:TO):Prop :=
 ∀(pins:List (Addr × Obj)) (s:Shared) (σ:St) (H:Hp) (Q:Option Int->Hp->Prop),Inv X pins σ H s->t σ H Q ->
  wpAny (model X.prog X.w) X.A (evalPart e X.env) (λu s'=>∃o H',Inv X pins σ H' s'/\IsPart u o/\Q o H') X.xe s
def Qnx:TO:=λ_ H Q=>Q none H
def Qtw (t:TE):TO:=λσ H Q=>t σ H λx H1=>∃i,x=.int i/\Q (some i) H1
section
variable {lo hi:Option Expr} {tl th:TO} {p2:Pos}
theorem Qel:PO X none Qnx:=by
 intro pins s σ H Q I h
 rw [evalPart_none]
 exact wpAny_pure ⟨none,H,I,.none,h⟩
theorem Qou (h:PE X e te):PO X (some e) (Qtw te):=by
 intro pins s σ H Q I hw
 rw [evalPart_some]
 refine thn (h pins s σ H _ I hw) λu s1 ⟨x,H1,I1,r1,q1⟩=>?_
 obtain ⟨i,rfl,q⟩:=q1
 obtain ⟨t,rfl⟩:=r1
 exact ⟨some i,H1,I1,.int i t,q⟩
def SlR (X:Cx) (r:V->Option Int->Option Int->Hp->VK->Prop):Prop :=
 ∀(pins:List (Addr × Obj)) (s:Shared) (σ:St) (H:Hp) (x:V) (v vl vu:Value) (lo hi:Option Int) (sl:Addr) (Q:VK),Inv X pins σ H s->RelV x v->s.heap.IsSliceOf sl vl vu .none->IsPart vl lo->IsPart vu hi->r x lo hi H Q ->
  ∃T id,typeLookup (.type T) "__getitem__" = pure (some (.builtin id))/\s.TypeIs v T/\wpAny (model X.prog X.w) X.A (getItem v (.ref sl)) (EP X pins σ Q) X.xe s
theorem SlR.or {r r':V->Option Int->Option Int->Hp->VK->Prop} (h:SlR X r) (h':SlR X r'):SlR X (λx lo hi H Q=>r x lo hi H Q\/r' x lo hi H Q):=by
 intro pins s σ H x v vl vu lo hi sl Q I rx hs pl pu q
 rcases q with q | q
 ·exact h pins s σ H x v vl vu lo hi sl Q I rx hs pl pu q
 ·exact h' pins s σ H x v vl vu lo hi sl Q I rx hs pl pu q
def tSl (r:V->Option Int->Option Int->Hp->VK->Prop) (te:TE) (tl th:TO):TE:=λσ H Q=>te σ H λx H1=>tl σ H1 λl H2=>th σ H2 λu H3=>r x l u H3 Q
theorem Xb {r:V->Option Int->Option Int->Hp->VK->Prop} (hr:SlR X r) (he:PE X e te) (hl:PO X lo tl) (hu:PO X hi th):PE X (.Subscript e (.Slice lo hi none p2) pos) (tSl r te tl th):=by
 intro pins s σ H Q I h
 refine Subscript_ (thn (he pins s σ H _ I h) λv s1 ⟨x,H1,I1,r1,q1⟩=>?_)
 refine wpAny_Slice (thn (hl pins s1 σ H1 _ I1 q1) λvl s2 ⟨l,H2,I2,pl,q2⟩=>thn (hu pins s2 σ H2 _ I2 q2) λvu s3 ⟨u,H3,I3,pu,q3⟩=>?_)
 rw [evalPart_none]
 refine wpAny_pure ?_
 have I4:Inv X pins σ H3 { s3 with heap:=s3.heap.push { cls:=.type "slice",data:=.fields #[vl,vu,.none] } }:=I3.kept (t':=s3.toks) λb ob q=>Heap.get?_push_of_some _ q
 obtain ⟨T,id,hT,ht,hg⟩:=hr pins { s3 with heap:=s3.heap.push { cls:=.type "slice",data:=.fields #[vl,vu,.none] } } σ H3 x v vl vu l u s3.heap.objs.size Q I4 r1 (Heap.IsSliceOf.new ..) pl pu q3
 show wpAny (model X.prog X.w) X.A (subscriptTail e (.Slice lo hi none p2) v (.ref s3.heap.objs.size)) (EP X pins σ Q) X.xe { s3 with heap:=s3.heap.push { cls:=.type "slice",data:=.fields #[vl,vu,.none] } }
 exact tail_any (ops:=[.ref s3.heap.objs.size,v]) ht hT hg (by with_unfolding_all rfl)
def cutV (xs:List V) (lo hi:Option Int):List V:=(xs.drop (HT.sIx xs.length 0 lo)).take (HT.sIx xs.length xs.length hi-HT.sIx xs.length 0 lo)
theorem Qag (xs:List V) (lo hi:Option Int):(cutV xs lo hi).length<=xs.length:=by
 unfold cutV
 rw [List.length_take,List.length_drop]
 omega
def rSlT (K:PySem.W.Frag):V->Option Int->Option Int->Hp->VK->Prop:=λx lo hi H Q=>∃a xs,x=.ref a/\SqT K H a xs /\
 ¬(HT.sIx xs.length 0 lo=0/\HT.sIx xs.length xs.length hi=xs.length)/\∀p,H p=none->Q (.ref p) (upd H p (.tup (cutV xs lo hi)))
theorem Qqm:SlR X (rSlT X.K):=by
 intro pins s σ H x v vl vu lo hi sl Q I rx hs pl pu h
 obtain ⟨a,xs,rfl,hx,hw,q⟩:=h
 cases rx
 obtain ⟨its,r,ht,hz⟩:=I.tuple hx
 have hlen:its.toArray.size=xs.length:=by rw [List.size_toArray];exact r.length.symm
 refine ⟨"tuple",_,PyProof.Rows.slot_tuple_getitem.lookup,ht.typeIs,?_⟩
 refine HT.Gh ht hs pl pu (by rw [hlen];exact hw) ?_ (by rw [hlen];exact hz)
 rw [hlen]
 refine ⟨.ref s.heap.objs.size,_,I.laid (t':=s.toks) (o:=.tup (cutV xs lo hi)) (λb ob q=>Heap.get?_push_of_some _ q) (Nat.le_refl _) ?_,rfl,q _ (I.hok.fresh (Nat.le_refl _))⟩
 exact ⟨Nat.le_trans (Qag xs lo hi) hz,_,(r.drop (HT.sIx xs.length 0 lo)).take (HT.sIx xs.length xs.length hi-HT.sIx xs.length 0 lo),IsTup.new _ _⟩
def Quh (K:PySem.W.Frag):R2:=λx y H Q=>∃a b xs ys,x=.ref a/\y=.ref b/\SqT K H a xs/\SqT K H b ys/\xs≠[]/\xs.length+ys.length<=sizeLine /\
 (ys=[]->Q (.ref a) H)/\(ys≠[]->∀p,H p=none->Q (.ref p) (upd H p (.tup (xs++ys))))
theorem Vals.nil_iff {xs:List V} (r:Vals xs us):us=[]↔xs=[]:=by
 cases r with
 | nil=>simp
 | cons _ _=>simp
theorem Qo6:OpR X (binaryOp .Add) (Quh X.K):=by
 intro pins s σ H x y v u Q I rx ry h
 obtain ⟨a,b,xs,ys,rfl,rfl,ha,hb,hx,hz,q1,q2⟩:=h
 cases rx
 cases ry
 obtain ⟨its,r1,p1,_⟩:=I.tuple ha
 obtain ⟨its2,r2,p2,_⟩:=I.tuple hb
 refine HT.Qp7 p1 p2 (λz=>hx (r1.nil_iff.mp z)) (λz=>⟨.ref a,H,I,rfl,q1 (r2.nil_iff.mp z)⟩) (λz=>?_) (by rw [← r1.length,← r2.length];exact hz)
 refine ⟨.ref s.heap.objs.size,_,I.laid (t':=s.toks) (o:=.tup (xs++ys)) (λb ob q=>Heap.get?_push_of_some _ q) (Nat.le_refl _) ?_,rfl,q2 (λw=>z (r2.nil_iff.mpr w)) _ (I.hok.fresh (Nat.le_refl _))⟩
 exact ⟨by rw [List.length_append];exact hz,_,r1.append r2,IsTup.new _ _⟩
end
def ixN (n:Nat) (i:Int):Option Nat:=if 0<=i then (if i<n then some i.toNat else none) else if -(n:Int)<=i then some (i+n).toNat else none
def atI {α:Type} (xs:List α) (i:Int):Option α:=(ixN xs.length i).bind λj=>xs[j]?
theorem Qer {j:Nat} (h:ixN n i=some j):seqIndex? i n=some j/\j<n /\ -(n:Int)<=i/\i<n:=by
 unfold ixN at h
 by_cases h0:0<=i
 ·rw [if_pos h0] at h
  by_cases h1:i<n
  ·rw [if_pos h1] at h
   have e:i.toNat=j:=Option.some.inj h
   exact ⟨by rw [seqIndex_of h0 h1,e],by omega,by omega,h1⟩
  ·rw [if_neg h1] at h;cases h
 ·rw [if_neg h0] at h
  by_cases h1:-(n:Int)<=i
  ·rw [if_pos h1] at h
   have e:(i+n).toNat=j:=Option.some.inj h
   exact ⟨by rw [seqIndex_neg (by omega) h1,e],by omega,h1,by omega⟩
  ·rw [if_neg h1] at h;cases h
theorem Qe2 {α:Type} {xs:List α} {v:α} (h:atI xs i=some v):∃j,seqIndex? i xs.length=some j/\xs[j]? = some v/\j<xs.length /\ -(xs.length:Int)<=i/\i<xs.length:=by
 unfold atI at h
 cases e:ixN xs.length i with
 | none=>rw [e] at h;cases h
 | some j =>
  rw [e] at h
  obtain ⟨h1,h2,h3,h4⟩:=Qer e
  exact ⟨j,h1,h,h2,h3,h4⟩
def Qci (b:Expr):Prop:=∀o i,subscripted b false o i=operate [o,i] (getItem o i)
def IxR (X:Cx) (r:R2):Prop :=
 ∀(value slice:Expr) (pins:List (Addr × Obj)) (s:Shared) (σ:St) (H:Hp) (x y:V) (v u:Value) (Q:VK),Inv X pins σ H s->RelV x v->RelV y u->r x y H Q ->
  subscripted slice false v u=operate [v,u] (getItem v u)->wpAny (model X.prog X.w) X.A (subscriptTail value slice v u) (EP X pins σ Q) X.xe s
def MtR (X:Cx) (id:String) (r:V->List V->Hp->VK->Prop):Prop :=
 ∀(pins:List (Addr × Obj)) (s:Shared) (σ:St) (H:Hp) (x:V) (xs:List V) (v:Value) (us:List Value) (Q:VK),Inv X pins σ H s->RelV x v->Vals xs us->r x xs H Q ->
  wpAny (model X.prog X.w) X.A (call (.builtin id) (v::us)) (EP X pins σ Q) X.xe s
section
variable {a b:Expr}
theorem IxR.or {r r':R2} (h:IxR X r) (h':IxR X r'):IxR X (λx y H Q=>r x y H Q\/r' x y H Q):=by
 intro value slice pins s σ H x y v u Q I rx ry q hs
 rcases q with q | q
 ·exact h value slice pins s σ H x y v u Q I rx ry q hs
 ·exact h' value slice pins s σ H x y v u Q I rx ry q hs
theorem Qox {r:R2} (hr:IxR X r) (ha:PE X a ta) (hb:PE X b tb) (hs:Qci b):PE X (.Subscript a b pos) (tOp r ta tb):=by
 intro pins s σ H Q I h
 exact Subscript_ (binT ha hb I h λv u s2 x y H2 I2 rx ry q=>hr a b pins s2 σ H2 x y v u Q I2 rx ry q (hs _ _))
def rIxL (K:PySem.W.Frag):R2:=λx y H Q=>∃p xs i v,x=.ref p/\y=.int i/\SqL K H p xs/\atI xs i=some v/\Q v H
def rIxT (K:PySem.W.Frag):R2:=λx y H Q=>∃p xs i v,x=.ref p/\y=.int i/\SqT K H p xs/\atI xs i=some v/\Q v H
def rIxS:R2:=λx y H Q=>∃z i c,x=.str z/\y=.int i/\z.length<=sizeLine/\atI z.cps.toList i=some c/\Q (.str ⟨#[c]⟩) H
theorem Qjc:IxR X (rIxL X.K):=by
 intro value slice pins s σ H x y v u Q I rx ry h hs
 obtain ⟨p,xs,i,z,rfl,rfl,hq,he,q⟩:=h
 cases rx
 obtain ⟨t,rfl⟩:=ry
 obtain ⟨its,r,pl,hz⟩:=I.list hq
 obtain ⟨j,h1,h2,h3,h4,h5⟩:=Qe2 he
 obtain ⟨w,ew,rw'⟩:=r.get h2
 have hl:=r.length
 have hn:=Qba
 have fin:EP X pins σ Q w s:=⟨z,H,I,rw',q⟩
 by_cases h0:0<=i
 ·have hj:i.toNat=j:=by
   rw [seqIndex_of h0 h5] at h1
   exact Option.some.inj h1
  exact item_listR pl.isList h0 (by omega) (by rw [hj];simpa using ew) fin hs
 ·have hj:(i+(its.toArray.size:Int)).toNat=j:=by
   rw [seqIndex_neg (by omega) h4] at h1
   rw [List.size_toArray,← hl]
   exact Option.some.inj h1
  exact subscriptTail_builtinR (x:=w) pl.isList.typeIs slot_list_getitem.lookup
   (wpAny_getItem_list_neg (Q:=λr s'=>r=w/\EP X pins σ Q r s') pl.isList (by omega) (by rw [List.size_toArray] <;> omega) (by omega) (by rw [hj];simpa using ew) ⟨rfl,fin⟩) hs
theorem Qss:IxR X (rIxT X.K):=by
 intro value slice pins s σ H x y v u Q I rx ry h hs
 obtain ⟨p,xs,i,z,rfl,rfl,hq,he,q⟩:=h
 cases rx
 obtain ⟨t,rfl⟩:=ry
 obtain ⟨its,r,pl,hz⟩:=I.tuple hq
 obtain ⟨j,h1,h2,h3,h4,h5⟩:=Qe2 he
 obtain ⟨w,ew,rw'⟩:=r.get h2
 have hl:=r.length
 have hn:=Qba
 have fin:EP X pins σ Q w s:=⟨z,H,I,rw',q⟩
 exact subscriptTail_builtinR (x:=w) pl.typeIs slot_tuple_getitem.lookup
  (getItem_tuple (j:=j) (Q:=λr s'=>r=w/\EP X pins σ Q r s') pl (by omega) (by omega) (by rw [List.size_toArray,← hl];exact h1) (by simpa using ew) ⟨rfl,fin⟩) hs
theorem Qst:IxR X rIxS:=by
 intro value slice pins s σ H x y v u Q I rx ry h hs
 obtain ⟨z,i,c,rfl,rfl,hz,he,q⟩:=h
 obtain ⟨t,rfl⟩:=rx
 obtain ⟨t',rfl⟩:=ry
 obtain ⟨j,h1,h2,h3,h4,h5⟩:=Qe2 he
 have hl:z.cps.toList.length=z.length:=by simp [Str.length]
 rw [hl] at h1 h4 h5
 have hn:=Qba
 exact tail_any (typeIs_str s z t) slot_str_getitem.lookup (getItem_str (c:=c) (by
  have e1:decide (i < -(2 ^ 63:Int))=false:=decide_eq_false (by omega)
  have e2:decide (i ≥ 2 ^ 63)=false:=decide_eq_false (by omega)
  rw [e1,e2,Bool.or_false]) (by rw [h1];simpa using h2) ⟨.str ⟨#[c]⟩,H,I.tok _,⟨_,rfl⟩,q⟩) hs
def rIx (K:PySem.W.Frag):R2:=λx y H Q=>rIxL K x y H Q\/rIxT K x y H Q\/rIxS x y H Q
theorem Qsu:IxR X (rIx X.K):=Qjc.or (Qss.or Qst)
theorem Qgy (its:List Value) (n j:Nat) (u:Value):Obj.mapSeq (·.setIfInBounds j u) { cls:=.type "list",data:=.seq its.toArray n }={ cls:=.type "list",data:=.seq (its.set j u).toArray n }:=by
 simp [Obj.mapSeq]
theorem Inv.lst {pins:List (Addr × Obj)} {σ:St} {H:Hp} {s:Shared} {p:Addr} {xs:List V} (I:Inv X pins σ H s) (h:H p=some (.lst xs)) :
  ∃(its:List Value) (n:Nat),Vals xs its/\s.heap.get? p=some { cls:=.type "list",data:=.seq its.toArray n }/\xs.length<=sizeLine:=by
 obtain ⟨z,its,n,r,e⟩:=I.hok p _ h
 exact ⟨its,n,r,e,z⟩
theorem Inv.lstUpd {p:Addr} {xs:List V} {its':List Value} {n':Nat} {f:Obj->Obj} (I:Inv X pins σ H s) (h:H p=some (.lst xs))
  (ho:s.heap.get? p=some { cls:=.type "list",data:=.seq its.toArray n }) (hf:f { cls:=.type "list",data:=.seq its.toArray n }={ cls:=.type "list",data:=.seq its'.toArray n' }) (r:Vals ys its') (hz:ys.length<=sizeLine) (t:Nat) :
  Inv X pins σ (upd H p (.lst ys)) { s with heap:=s.heap.update p f,toks:=t }:=by
 have e:(s.heap.update p f).get? p=some { cls:=.type "list",data:=.seq its'.toArray n' }:=by
  rw [Heap.get?_update_self f ho (by rw [hf] <;> rfl),hf]
 refine I.write (x:=p) (e:=p) (by rw [h];trivial) (.inl rfl) (λb u hb q=>(Heap.get?_update_other _ _ (Ne.symm hb)).trans q) ⟨_,e⟩ ?_
 exact ⟨hz,its',n',r,e⟩
def Que:V->V->V->Hp->(Hp->Prop)->Prop:=λo i v H Q=>∃p xs k j,o=.ref p/\i=.int k/\H p=some (.lst xs)/\ixN xs.length k=some j/\Q (upd H p (.lst (xs.set j v)))
theorem Qkv:PSet X Que:=by
 intro pins s σ H o i v ov iv u Q I ro ri rv h
 obtain ⟨p,xs,k,j,rfl,rfl,hp,hj,q⟩:=h
 cases ro
 obtain ⟨t,rfl⟩:=ri
 obtain ⟨its,n,r,ho,hz⟩:=I.lst hp
 obtain ⟨h1,h2,h3,h4⟩:=Qer hj
 have hl:=r.length
 have hn:=Qba
 have I':Inv X pins σ (upd H p (.lst (xs.set j v))) { s with heap:=s.heap.update p (Obj.mapSeq (·.setIfInBounds j u)) } :=
  I.lstUpd hp ho (Qgy its n j u) (r.set rv j) (by rw [List.length_set];exact hz) s.toks
 by_cases h0:0<=k
 ·have hk:k.toNat=j:=by
   rw [seqIndex_of h0 h4] at h1
   exact Option.some.inj h1
  exact PySem.W.ki_setAt ho h0 (by omega) (by rw [List.size_toArray,← hl];exact h4) (by rw [hk];exact ⟨_,I',q⟩)
 ·have hk:(k+(its.toArray.size:Int)).toNat=j:=by
   rw [seqIndex_neg (by omega) h3] at h1
   rw [List.size_toArray,← hl]
   exact Option.some.inj h1
  exact PySem.W.ki_setBack ho (by omega) (by rw [List.size_toArray,← hl];exact h3) (by omega) (by rw [hk];exact ⟨_,I',q⟩)
theorem Qcr (lo hi:Option Int) (n:Nat):(sliceBounds lo hi none n).1=((HT.sIx n 0 lo:Nat):Int)/\(sliceBounds lo hi none n).2.1=((HT.sIx n n hi:Nat):Int)/\(sliceBounds lo hi none n).2.2=1:=by
 refine ⟨?_,?_,rfl⟩
 ·cases lo with
  | none=>simp [sliceBounds,HT.sIx]
  | some i =>
   simp only [sliceBounds,HT.sIx,Option.getD_none,show (1:Int) > 0 by decide,if_true]
   by_cases h:i<0
   ·simp only [h,if_true] <;> omega
   ·simp only [h,if_false] <;> omega
 ·cases hi with
  | none=>simp [sliceBounds,HT.sIx]
  | some i =>
   simp only [sliceBounds,HT.sIx,Option.getD_none,show (1:Int) > 0 by decide,if_true]
   by_cases h:i<0
   ·simp only [h,if_true] <;> omega
   ·simp only [h,if_false] <;> omega
theorem Qbp (its:List Value) (lo hi:Option Int):slicePick its.toArray lo hi none=((its.drop (HT.sIx its.length 0 lo)).take (HT.sIx its.length its.length hi-HT.sIx its.length 0 lo)).toArray:=by
 obtain ⟨h1,h2,h3⟩:=Qcr lo hi its.toArray.size
 unfold slicePick
 rw [h1,h2,h3]
 simp only [sliceRange_one,pick_run,List.size_toArray] <;> rfl
def rSlL (K:PySem.W.Frag):V->Option Int->Option Int->Hp->VK->Prop:=λx lo hi H Q=>∃a xs,x=.ref a/\SqL K H a xs/\∀p,H p=none->Q (.ref p) (upd H p (.lst (cutV xs lo hi)))
theorem Qn8:SlR X (rSlL X.K):=by
 intro pins s σ H x v vl vu lo hi sl Q I rx hs pl pu h
 obtain ⟨a,xs,rfl,hx,q⟩:=h
 cases rx
 obtain ⟨its,r,ht,hz⟩:=I.list hx
 have hlen:=r.length
 refine ⟨"list",_,slot_list_getitem.lookup,ht.isList.typeIs,?_⟩
 refine wpAny_getItem_list_slice ht.isList hs pl pu .none (by simp) ?_ (by rw [List.size_toArray] <;> omega)
 rw [Qbp,← hlen]
 refine ⟨.ref s.heap.objs.size,_,I.laid (t':=s.toks) (o:=.lst (cutV xs lo hi)) (λb ob q=>Heap.get?_push_of_some _ q) (Nat.le_refl _) ?_,rfl,q _ (I.hok.fresh (Nat.le_refl _))⟩
 exact ⟨Nat.le_trans (Qag xs lo hi) hz,_,0,(r.drop (HT.sIx xs.length 0 lo)).take (HT.sIx xs.length xs.length hi-HT.sIx xs.length 0 lo),Heap.get?_push_size _ rfl⟩
def Qaw:V->Bool
 | .non=>true
 | .bl _=>true
 | .int _=>true
 | .str _=>true
 | _=>false
def eqV:V->V->Bool
 | .non,.non=>true
 | .bl a,.bl b=>a == b
 | .bl a,.int b=>(if a then 1 else 0) == b
 | .int a,.bl b=>a == (if b then 1 else 0)
 | .int a,.int b=>a == b
 | .str a,.str b=>a == b
 | _,_=>false
theorem Qta {x:V} (ry:RelV y u) (rx:RelV x v) (fy:Qaw y=true) (fx:Qaw x=true):SeqAt.EqAt A s u v (eqV y x):=by
 cases y with
 | non =>
  cases ry
  cases x with
  | non=>cases rx;exact SeqAt.EqAt.same _
  | bl b=>cases rx;exact SeqAt.EqAt.none_bool b
  | int b=>obtain ⟨t,rfl⟩:=rx;exact SeqAt.EqAt.none_int b t
  | str b=>obtain ⟨t,rfl⟩:=rx;exact SeqAt.EqAt.none_str b t
  | _=>exact absurd (show false=true from fx) Bool.false_ne_true
 | bl a =>
  cases ry
  cases x with
  | non=>cases rx;exact SeqAt.EqAt.bool_none a
  | bl b=>cases rx;exact SeqAt.EqAt.bool_bool a b
  | int b=>obtain ⟨t,rfl⟩:=rx;exact SeqAt.EqAt.bool_int a b t
  | str b=>obtain ⟨t,rfl⟩:=rx;exact SeqAt.EqAt.bool_str a b t
  | _=>exact absurd (show false=true from fx) Bool.false_ne_true
 | int a =>
  obtain ⟨t',rfl⟩:=ry
  cases x with
  | non=>cases rx;exact SeqAt.EqAt.int_none a t'
  | bl b=>cases rx;exact SeqAt.EqAt.int_bool a t' b
  | int b=>obtain ⟨t,rfl⟩:=rx;exact SeqAt.EqAt.int_int a t' b t
  | str b=>obtain ⟨t,rfl⟩:=rx;exact SeqAt.EqAt.int_str a t' b t
  | _=>exact absurd (show false=true from fx) Bool.false_ne_true
 | str a =>
  obtain ⟨t',rfl⟩:=ry
  cases x with
  | non=>cases rx;exact SeqAt.EqAt.str_none a t'
  | bl b=>cases rx;exact SeqAt.EqAt.str_bool a t' b
  | int b=>obtain ⟨t,rfl⟩:=rx;exact SeqAt.EqAt.str_int a t' b t
  | str b=>obtain ⟨t,rfl⟩:=rx;exact SeqAt.EqAt.str_str a t' b t
  | _=>exact absurd (show false=true from fx) Bool.false_ne_true
 | _=>exact absurd (show false=true from fy) Bool.false_ne_true
def eqU (x:V) (u:Value):Bool:=match u with
 | .none=>eqV .non x
 | .bool b=>eqV (.bl b) x
 | .int i _=>eqV (.int i) x
 | .str z _=>eqV (.str z) x
 | _=>false
theorem Qne {x:V} (r:RelV y u) (f:Qaw y=true):eqU x u=eqV y x:=by
 cases y with
 | non=>cases r;rfl
 | bl b=>cases r;rfl
 | int i=>obtain ⟨t,rfl⟩:=r;rfl
 | str z=>obtain ⟨t,rfl⟩:=r;rfl
 | _=>exact absurd (show false=true from f) Bool.false_ne_true
theorem Qam {x:V}:∀{xs:List V} {us:List Value},Vals xs us->xs.all Qaw=true->us.any (eqU x)=xs.any λy=>eqV y x
 | _,_,.nil,_=>rfl
 | y::xs,u::us,.cons r t,f=>by
  rw [List.all_cons,Bool.and_eq_true] at f
  rw [List.any_cons,List.any_cons,Qne r f.1,Qam t f.2]
theorem U1 {A:Around} {s:Shared} {x:V} {v:Value} (rx:RelV x v) (fx:Qaw x=true):∀{xs:List V} {us:List Value},Vals xs us->xs.all Qaw=true->∀u∈us,SeqAt.EqAt A s u v (eqU x u)
 | _,_,.nil,_=>λu hu=>by cases hu
 | y::xs,u::us,.cons r t,f=>λu' hu=>by
  rw [List.all_cons,Bool.and_eq_true] at f
  rcases List.mem_cons.mp hu with rfl | hu
  ·rw [Qne r f.1];exact Qta r rx f.1 fx
  ·exact U1 rx fx t f.2 u' hu
def inV (x:V) (xs:List V):Bool:=xs.any λy=>eqV y x
def rIn (K:PySem.W.Frag) (neg:Bool):R2:=λx y H Q=>∃p xs,y=.ref p/\(SqL K H p xs\/SqT K H p xs)/\Qaw x=true/\xs.all Qaw=true/\Q (.bl (if neg then !inV x xs else inV x xs)) H
theorem Qis:OpR X (compareOp .In) (rIn X.K false):=by
 intro pins s σ H x y v u Q I rx ry h
 obtain ⟨p,xs,rfl,hq,fx,fs,q⟩:=h
 cases ry
 rcases hq with hq | hq
 ·obtain ⟨its,r,pl,hz⟩:=I.list hq
  refine SeqAt.in_listAt (eqU x) pl.isList (λw hw=>U1 rx fx r fs w (by simpa using hw)) ⟨.bl _,H,I,rfl,?_⟩
  rw [show its.toArray.any (eqU x)=its.any (eqU x) by simp,Qam r fs]
  exact q
 ·obtain ⟨its,r,pl,hz⟩:=I.tuple hq
  refine SeqAt.in_tupleAt (eqU x) pl (λw hw=>U1 rx fx r fs w (by simpa using hw)) ⟨.bl _,H,I,rfl,?_⟩
  rw [show its.toArray.any (eqU x)=its.any (eqU x) by simp,Qam r fs]
  exact q
theorem Qc5:OpR X (compareOp .NotIn) (rIn X.K true):=by
 intro pins s σ H x y v u Q I rx ry h
 obtain ⟨p,xs,rfl,hq,fx,fs,q⟩:=h
 cases ry
 rcases hq with hq | hq
 ·obtain ⟨its,r,pl,hz⟩:=I.list hq
  refine SeqAt.notIn_listAt (eqU x) pl.isList (λw hw=>U1 rx fx r fs w (by simpa using hw)) ⟨.bl _,H,I,rfl,?_⟩
  rw [show its.toArray.any (eqU x)=its.any (eqU x) by simp,Qam r fs]
  exact q
 ·obtain ⟨its,r,pl,hz⟩:=I.tuple hq
  refine SeqAt.notIn_tupleAt (eqU x) pl (λw hw=>U1 rx fx r fs w (by simpa using hw)) ⟨.bl _,H,I,rfl,?_⟩
  rw [show its.toArray.any (eqU x)=its.any (eqU x) by simp,Qam r fs]
  exact q
theorem Qc4:OpR X (compareOp .NotIn) (λx y H Q=>∃i j,x=.str i/\y=.str j/\Q (.bl (!(!(Builtin.Str.occurrences j i 0 j.length 1).isEmpty))) H):=by
 intro pins s σ H x y v u Q I rx ry h
 obtain ⟨i,j,rfl,rfl,q⟩:=h
 obtain ⟨t,rfl⟩:=rx
 obtain ⟨t',rfl⟩:=ry
 exact notIn_str ⟨.bl _,H,I,rfl,q⟩
theorem Vp.or {f:Value} {r r':List V->Hp->VK->Prop} (h:Vp X f r) (h':Vp X f r'):Vp X f (λxs H Q=>r xs H Q\/r' xs H Q):=by
 intro pins s σ H xs us Q I rs q
 rcases q with q | q
 ·exact h pins s σ H xs us Q I rs q
 ·exact h' pins s σ H xs us Q I rs q
def tyV (K:PySem.W.Frag) (T:String) (x:V) (H:Hp):Prop:=match x with
 | .str _=>T = "str"
 | .int _=>T = "int"
 | .ref p=>(T = "list" /\ ∃xs,SqL K H p xs)\/(T = "tuple" /\ ∃o,K.lookup p=some o/\o.cls=.type "tuple" /\ o.dict=none) \/
   (T = "dict" /\ ((∃kvs,H p=some (.dK kvs))\/∃kvs,H p=some (.dT kvs)))\/(T = "set" /\ ∃S n,H p=some (.set S n))\/∃φ,H p=some (.ext φ)/\∀h,φ h->∃o,h.get? p=some o/\o.cls=.type T/\o.dict=none
 | _=>False
theorem Qe9 {x:V} (I:Inv X pins σ H s) (r:RelV x v) (ty:tyV X.K T x H) :
  s.TypeIs v T/\∀a,v=.ref a->∃ob,s.heap.get? a=some ob/\ob.dict=none:=by
 cases x with
 | str z =>
  obtain ⟨t,rfl⟩:=r
  cases (show T = "str" from ty)
  exact ⟨typeIs_str s z t,λ_ e=>nomatch e⟩
 | int i =>
  obtain ⟨t,rfl⟩:=r
  cases (show T = "int" from ty)
  exact ⟨typeIs_int s i t,λ_ e=>nomatch e⟩
 | ref p =>
  cases r
  rcases ty with ⟨rfl,xs,hq⟩ | ⟨rfl,o,hk,hc,hd⟩ | ⟨rfl,hk⟩ | ⟨rfl,S,n,hk⟩ | ⟨φ,hk,hf⟩
  ·obtain ⟨its,_,pl,_⟩:=I.list hq
   refine ⟨pl.isList.typeIs,λa e=>?_⟩
   cases e
   obtain ⟨o,n,e,c,hd,_⟩:=pl
   exact ⟨o,e,hd⟩
  ·refine ⟨⟨o,I.kIn p o hk,hc⟩,λa e=>?_⟩
   cases e
   exact ⟨o,I.kIn _ o hk,hd⟩
  ·have z:∃o,s.heap.get? p=some o/\o.ExactDict:=by
    rcases hk with ⟨kvs,hk⟩ | ⟨kvs,hk⟩
    ·obtain ⟨_,_,_,_,o,_,_,e,ex,_⟩:=I.hok p _ hk
     exact ⟨o,e,ex⟩
    ·obtain ⟨_,_,_,_,o,_,_,e,ex,_⟩:=I.hok p _ hk
     exact ⟨o,e,ex⟩
   obtain ⟨o,e,ex⟩:=z
   refine ⟨⟨o,e,ex.1⟩,λa e2=>?_⟩
   cases e2
   exact ⟨o,e,ex.2.1⟩
  ·obtain ⟨o,_,_,_,e,ex,_⟩:=I.hok p _ hk
   refine ⟨⟨o,e,ex.1⟩,λa e2=>?_⟩
   cases e2
   exact ⟨o,e,ex.2.1⟩
  ·obtain ⟨h1,_⟩:=I.hok p _ hk
   obtain ⟨o,e,c,d⟩:=hf _ h1
   refine ⟨⟨o,e,c⟩,λa e2=>?_⟩
   cases e2
   exact ⟨o,e,d⟩
 | _=>exact False.elim ty
def tBM0 (K:PySem.W.Frag) (T:String) (r:V->List V->Hp->VK->Prop) (to:TE):TE:=λσ H Q=>to σ H λx H1=>tyV K T x H1/\r x [] H1 Q
def tBM (K:PySem.W.Frag) (T:String) (r:V->List V->Hp->VK->Prop) (to:TE) (t:TA):TE:=λσ H Q=>to σ H λx H1=>tyV K T x H1/\t σ H1 λxs H2=>r x xs H2 Q
end
section
variable {o:Expr} {t:TA} {id:String}
theorem Qro (pa:PlainAttrs T) (slot:Slot T name id) (hty:typeOf (.builtin id)=pure (.type "method_descriptor")) (hm:MtR X id r) (ho:PE X o to)
  (hbase:attributeBase o name X.env (eval o X.env)=eval o X.env:=by rfl) (hline:(apos.endLine == cpos.line)=true:=by rfl):PE X (.Call (.Attribute o name apos) [] [] cpos) (tBM0 X.K T r to):=by
 intro pins s σ H Q I h
 refine wpAny_Call_method0_late hbase hline (thn (ho pins s σ H _ I h) λv s1 ⟨x,H1,I1,r1,ty,q1⟩=>?_)
 obtain ⟨h1,h2⟩:=Qe9 I1 r1 ty
 exact ⟨T,id,pa,slot,hty,h1,h2,Calls.callWith_builtin rfl (PySem.evalArgs_none (hm pins s1 σ H1 x [] v [] Q I1 r1 .nil q1))⟩
theorem Qo0 (pa:PlainAttrs T) (slot:Slot T name id) (hty:typeOf (.builtin id)=pure (.type "method_descriptor")) (hm:MtR X id r) (ho:PE X o to) (ha:PA X (e::es) t)
  (hbase:attributeBase o name X.env (eval o X.env)=eval o X.env:=by rfl)
  (hfew:((backTo cpos (starEach (e::es) X.env)).all (λx=>!x.1) && (backToKw cpos (keywordEach [] X.env)).all (λx=>x.1.isSome)
   && decide ((e::es).length+([]:List Keyword).length+(if ([]:List Keyword).isEmpty then 0 else 1)<30))=true:=by rfl)
  (hline:(apos.endLine == cpos.line)=true:=by rfl) (hs:starEach (e::es) X.env=(false,eval e X.env)::starEach es X.env:=by rfl) (hplain:(backTo cpos (starEach es X.env)).any (·.1)=false:=by rfl) :
  PE X (.Call (.Attribute o name apos) (e::es) [] cpos) (tBM X.K T r to t):=by
 intro pins s σ H Q I h
 refine wpAny_Call_method_late hbase hfew hline rfl (thn (ho pins s σ H _ I h) λv s1 ⟨x,H1,I1,r1,ty,q1⟩=>?_)
 obtain ⟨h1,h2⟩:=Qe9 I1 r1 ty
 refine ⟨T,id,pa,slot,hty,h1,h2,?_⟩
 have hA:=ha cpos pins s1 σ H1 _ I1 q1
 rw [hs] at hA ⊢
 refine Calls.callWith_builtin (by show (false || (backTo cpos (starEach es X.env)).any (·.1))=false;rw [hplain] <;> rfl) (Calls.evalArgs_plain ?_)
 exact thn hA λus s2 ⟨vs,H2,I2,r2,q2⟩=>hm pins s2 σ H2 x vs v us Q I2 r1 r2 q2
end
def MtM (X:Cx) (id:String) (r:V->List V->Hp->VK->Prop):Prop :=
 ∀(pins:List (Addr × Obj)) (s:Shared) (σ:St) (H:Hp) (x:V) (xs:List V) (v:Value) (us:List Value) (Q:VK),Inv X pins σ H s->RelV x v->Vals xs us->r x xs H Q ->
  wpAny (model X.prog X.w) X.A (call (.builtin id) (v::us)) (EP X pins σ Q) X.xe s
theorem Vals.one:∀{x:V} {us:List Value},Vals [x] us->∃u,us=[u]/\RelV x u
 | _,_,.cons r .nil=>⟨_,rfl,r⟩
theorem Vals.zero:∀{us:List Value},Vals [] us->us=[]
 | _,.nil=>rfl
theorem Vals.dropLast {xs:List V} (h:Vals xs us):Vals xs.dropLast us.dropLast:=by
 induction h with
 | nil=>exact .nil
 | cons r t ih =>
  cases t with
  | nil=>exact .nil
  | cons q t'=>exact .cons r ih
theorem Vals.rep {xs:List V} {us:List Value} (h:Vals xs us):∀k:Nat,Vals (List.replicate k xs).flatten (List.replicate k us).flatten
 | 0=>.nil
 | k+1=>by
  rw [List.replicate_succ,List.replicate_succ,List.flatten_cons,List.flatten_cons]
  exact Vals.append h (Vals.rep h k)
theorem Qhc {α:Type} (l:List α):l.eraseIdx (l.length-1)=l.dropLast:=by
 induction l with
 | nil=>rfl
 | cons a r ih =>
  cases r with
  | nil=>rfl
  | cons b r =>
   have e:(a::b::r).length-1=((b::r).length-1)+1:=by
    have h1:(a::b::r).length=r.length+2:=rfl
    have h2:(b::r).length=r.length+1:=rfl
    omega
   rw [e,List.eraseIdx_cons_succ,ih]
   all_goals rfl
theorem Qdq (its:List Value):∀(k:Nat) (acc:List Value),
  List.foldl (λx1 x2=>x1++x2) acc.toArray (List.replicate k its.toArray)=(acc++(List.replicate k its).flatten).toArray
 | 0,acc=>by simp
 | k+1,acc=>by
  have e:acc.toArray++its.toArray=(acc++its).toArray:=by simp
  have e2:(acc++its)++(List.replicate k its).flatten=acc++(List.replicate (k+1) its).flatten:=by
   rw [List.replicate_succ,List.flatten_cons,List.append_assoc]
  rw [← e2,← Qdq its k (acc++its),← e,List.replicate_succ,List.foldl_cons]
section
variable {l:Addr} {xs:List V}
theorem Inv.lset {its':List Value} {f:Array Value->Array Value} (I:Inv X pins σ H s) (hH:H l=some (.lst xs))
  (e:s.heap.get? l=some { cls:=.type "list",data:=.seq its.toArray n }) (hf:f its.toArray=its'.toArray) (hv:Vals ys its') (hz:ys.length<=sizeLine) :
  Inv X pins σ (upd H l (.lst ys)) { s with heap:=s.heap.update l (Obj.mapSeq f),toks:=t' }:=by
 have q:=PySem.IsL.update e f
 rw [hf] at q
 refine I.write (x:=l) (e:=l) (by rw [hH];exact trivial) (.inl rfl) (λb' u hb hu=>(Heap.get?_update_other s.heap (Obj.mapSeq f) (Ne.symm hb)).trans hu) ⟨_,q⟩ ?_
 exact ⟨hz,its',_,hv,q⟩
theorem Inv.lnew (I:Inv X pins σ H s) (hv:Vals ys its) (hz:ys.length<=sizeLine) :
  Inv X pins σ (upd H s.heap.objs.size (.lst ys)) { s with heap:=s.heap.push { cls:=.type "list",data:=.seq its.toArray },toks:=t' } :=
 I.laid (λ_ _ q=>Heap.get?_push_of_some _ q) (Nat.le_refl _) ⟨hz,its,0,hv,Heap.get?_push_size _ rfl⟩
theorem Inv.fresh (I:Inv X pins σ H s):H s.heap.objs.size=none:=I.hok.fresh (Nat.le_refl _)
theorem Inv.lstM (I:Inv X pins σ H s) (hH:H l=some (.lst xs)):xs.length<=sizeLine/\∃(its:List Value) (n:Nat),Vals xs its/\xs.length=its.length/\s.heap.get? l=some { cls:=.type "list",data:=.seq its.toArray n }:=by
 obtain ⟨z,its,n,r,e⟩:=I.hok l _ hH
 exact ⟨z,its,n,r,r.length,e⟩
theorem Qlf (h:n<=sizeLine):Builtin.List.listTooLong n=false:=by
 unfold Builtin.List.listTooLong
 exact decide_eq_false (by omega)
end
def Qoi:V->List V->Hp->VK->Prop:=λx vs H Q=>∃l xs y,x=.ref l/\vs=[y]/\H l=some (.lst xs)/\xs.length<sizeLine/\Q .non (upd H l (.lst (xs++[y])))
theorem Qdd:MtM X "list.append" Qoi:=by
 intro pins s σ H x vs v us Q I rx rv h
 obtain ⟨l,xs,y,rfl,rfl,hH,hz,q⟩:=h
 cases rx
 obtain ⟨u,rfl,ru⟩:=rv.one
 obtain ⟨z,its,n,r,hl,e⟩:=I.lstM hH
 refine call_meets F.slot_list_append ⟨_,e,rfl⟩ F.entry_list_append (F.args_list_append_2 _ _) (PySem.list_append l its.toArray n u (by rw [List.size_toArray];omega)) ⟨e,?_⟩
 refine ⟨.non,_,I.lset (its':=its++[u]) hH e (by simp) (r.append (.cons ru .nil)) ?_,rfl,q⟩
 rw [List.length_append,List.length_singleton]
 omega
def rPop:V->List V->Hp->VK->Prop:=λx vs H Q=>∃l xs y,x=.ref l/\vs=[]/\H l=some (.lst xs)/\xs[xs.length-1]? = some y/\Q y (upd H l (.lst xs.dropLast))
theorem Qr8:MtM X "list.pop" rPop:=by
 intro pins s σ H x vs v us Q I rx rv h
 obtain ⟨l,xs,y,rfl,rfl,hH,hy,q⟩:=h
 cases rx
 have hus:=rv.zero
 subst hus
 obtain ⟨z,its,n,r,hl,e⟩:=I.lstM hH
 obtain ⟨u,hu,ru⟩:=r.get hy
 have hy':its.toArray[its.toArray.size-1]? = some u:=by
  show its.toArray[its.length-1]? = some u
  rw [← Array.getElem?_toList,← hl]
  exact hu
 refine call_meets F.slot_list_pop ⟨_,e,rfl⟩ F.entry_list_pop (F.args_list_pop_1 _) (MeetsSeq.list_pop_last l its.toArray n u hy' (by rw [List.size_toArray];omega)) ⟨e,?_⟩
 refine ⟨y,_,I.lset (its':=its.dropLast) hH e ?_ r.dropLast ?_,ru,q⟩
 ·show its.toArray.eraseIdxIfInBounds (its.toArray.size-1)=its.dropLast.toArray
  rw [List.size_toArray,List.eraseIdxIfInBounds_toArray,Qhc]
 ·rw [List.length_dropLast]
  omega
def rCat:R2:=λx y H Q=>∃l b xs zs,x=.ref l/\y=.ref b/\H l=some (.lst xs)/\H b=some (.lst zs)/\xs.length+zs.length<=sizeLine/\∀p,H p=none->Q (.ref p) (upd H p (.lst (xs++zs)))
theorem Qr1:OpR X (binaryOp .Add) rCat:=by
 intro pins s σ H x y v u Q I rx ry h
 obtain ⟨l,b,xs,zs,rfl,rfl,hH,hB,hz,q⟩:=h
 cases rx
 cases ry
 obtain ⟨z,its,n,r,hl,e⟩:=I.lstM hH
 obtain ⟨z2,its2,n2,r2,hl2,e2⟩:=I.lstM hB
 refine PySem.P.add_list e e2 ?_ (by rw [List.size_toArray,List.size_toArray];omega)
 have ea:its.toArray++its2.toArray=(its++its2).toArray:=by simp
 rw [ea]
 exact ⟨.ref _,_,I.lnew (t':=s.toks) (r.append r2) (by rw [List.length_append];omega),rfl,q _ I.fresh⟩
def rRep:R2:=λx y H Q=>∃l k xs,x=.ref l/\y=.int k/\H l=some (.lst xs) /\ -(2 ^ 63)<=k/\k<2 ^ 63/\xs.length*k.toNat<=sizeLine /\
 ∀p,H p=none->Q (.ref p) (upd H p (.lst (List.replicate k.toNat xs).flatten))
theorem Qph {α:Type} (xs:List α) (k:Nat):(List.replicate k xs).flatten.length=k*xs.length:=by
 induction k with
 | zero=>simp
 | succ k ih=>rw [List.replicate_succ,List.flatten_cons,List.length_append,ih,Nat.succ_mul,Nat.add_comm]
theorem Qrr:OpR X (binaryOp .Mult) rRep:=by
 intro pins s σ H x y v u Q I rx ry h
 obtain ⟨l,k,xs,rfl,rfl,hH,h1,h2,hz,q⟩:=h
 cases rx
 obtain ⟨t,rfl⟩:=ry
 obtain ⟨z,its,n,r,hl,e⟩:=I.lstM hH
 have hlen:its.toArray.size*k.toNat<=sizeLine:=by rw [List.size_toArray,← hl];exact hz
 have hcap:¬its.toArray.size*k.toNat > (2 ^ 63-1) / 8:=by
  have:(sizeLine:Nat)<=(2 ^ 63-1) / 8:=by decide
  omega
 have hfit:¬(!Builtin.List.listFitsIndex k)=true:=by
  rw [fitsIndex_both h1 h2]
  exact Bool.false_ne_true
 have hlong:¬Builtin.List.listTooLong (its.toArray.size*k.toNat)=true:=by
  rw [Qlf hlen]
  exact Bool.false_ne_true
 have hnew:List.foldl (λx1 x2=>x1++x2) #[] (List.replicate (if its.toArray.isEmpty=true then 0 else k.toNat) its.toArray)=(List.replicate k.toNat its).flatten.toArray:=by
  have f0:∀m:Nat,List.foldl (λx1 x2=>x1++x2) #[] (List.replicate m its.toArray)=(List.replicate m its).flatten.toArray:=λm=>by
   have:=Qdq its m []
   rw [List.nil_append] at this
   exact this
  rw [f0]
  cases its with
  | nil=>simp
  | cons a r'=>rw [if_neg (by simp)]
 refine wpAny_binaryOp_repeat_ref (T:="list") (U:="int") (by decide) ⟨_,e,rfl⟩ (λs'=>typeIs_int s' k t) noFill_list_mul F.fills_int_mul F.slot_int_rmul repeat_list F.slot_int_index.lookup
  (call_meets F.slot_int_rmul (typeIs_int s k t) F.entry_int_rmul (F.args_int_rmul_2 _ _) (int___rmul___int_list k t l its.toArray n)
   ⟨e,rfl,⟨_,e,rfl⟩,call_meets F.slot_list_mul ⟨_,e,rfl⟩ F.entry_list_mul (F.args_list_mul_2 _ _) (AutoListH.list___mul___list_int_3 l its.toArray n k t hfit hcap hlong) ⟨e,?_⟩⟩)
 rw [hnew]
 exact ⟨.ref _,_,I.lnew (t':=s.toks) (r.rep k.toNat) (by rw [Qph,Nat.mul_comm];exact hz),rfl,q _ I.fresh⟩
section
variable {κ:Type} [DecidableEq κ]
def valV (kvs:List (κ × V)) (k:κ):Option V:=(kvs.find? λkv=>decide (kv.1=k)).map (·.2)
def putK (kvs:List (κ × V)) (k:κ) (v:V):List (κ × V) :=
 if (kvs.any λkv=>decide (kv.1=k))=true then kvs.map (λkv=>if kv.1=k then (kv.1,v) else kv) else kvs++[(k,v)]
theorem Uo {p:κ × V} {r:List (κ × V)} {k:κ} (e:p.1=k):valV (p::r) k=some p.2:=by simp [valV,List.find?_cons,e]
theorem Up {p:κ × V} {r:List (κ × V)} {k:κ} (e:¬p.1=k):valV (p::r) k=valV r k:=by simp [valV,List.find?_cons,e]
theorem Qe7 (k:κ):∀kvs:List (κ × V),(kvs.any λkv=>decide (kv.1=k))=(valV kvs k).isSome
 | []=>rfl
 | p::r=>by
  rw [List.any_cons]
  by_cases e:p.1=k
  ·simp only [Uo e,decide_eq_true e,Bool.true_or,Option.isSome_some]
  ·rw [Up e,decide_eq_false e,Bool.false_or];exact Qe7 k r
theorem X7 (kvs:List (κ × V)) (k:κ) (v:V):(putK kvs k v).length<=kvs.length+1:=by
 unfold putK
 split
 ·rw [List.length_map];omega
 ·rw [List.length_append,List.length_cons,List.length_nil];omega
theorem RelO.isSome_eq {u:Option Value} (r:RelO o u):o.isSome=u.isSome:=by
 cases o with
 | none=>cases u with
  | none=>rfl
  | some _=>exact (show False from r).elim
 | some _=>cases u with
  | none=>exact (show False from r).elim
  | some _=>rfl
theorem KV.val {kvs:List (κ × V)} {vs:List (κ × Value)} (r:KV kvs vs) (k:κ):RelO (valV kvs k) (valueAt vs k):=by
 unfold KV at r
 induction r with
 | nil=>exact True.intro
 | @cons p q ps qs h t ih =>
  obtain ⟨h1,h2⟩:=h
  by_cases e:p.1=k
  ·have e':q.1=k:=h1.symm.trans e
   have b:valueAt (q::qs) k=some q.2:=by simp [valueAt,List.find?_cons,e']
   rw [Uo e,b];exact h2
  ·have e':¬q.1=k:=λz=>e (h1.trans z)
   have b:valueAt (q::qs) k=valueAt qs k:=by simp [valueAt,List.find?_cons,e']
   rw [Up e,b];exact ih
theorem KV.any {kvs:List (κ × V)} {vs:List (κ × Value)} (r:KV kvs vs) (k:κ):(kvs.any λkv=>decide (kv.1=k))=vs.any λkv=>decide (kv.1=k):=by
 unfold KV at r
 induction r with
 | nil=>rfl
 | cons h t ih=>rw [List.any_cons,List.any_cons,ih,h.1]
theorem KV.repl {kvs:List (κ × V)} {vs:List (κ × Value)} (r:KV kvs vs) (k:κ) (ry:RelV y u) :
  KV (kvs.map λkv=>if kv.1=k then (kv.1,y) else kv) (vs.map λkv=>if kv.1=k then (kv.1,u) else kv):=by
 unfold KV at r ⊢
 induction r with
 | nil=>exact .nil
 | @cons p q ps qs h t ih =>
  rw [List.map_cons,List.map_cons]
  refine .cons ?_ ih
  obtain ⟨h1,h2⟩:=h
  by_cases e:p.1=k
  ·rw [if_pos e,if_pos (h1.symm.trans e)];exact ⟨h1,ry⟩
  ·rw [if_neg e,if_neg (λz=>e (h1.trans z))];exact ⟨h1,h2⟩
theorem KV.put {kvs:List (κ × V)} {vs:List (κ × Value)} (r:KV kvs vs) (k:κ) (ry:RelV y u):KV (putK kvs k y) (stored vs k u):=by
 unfold putK stored
 rw [r.any k]
 by_cases e:(vs.any λkv=>decide (kv.1=k))=true
 ·rw [if_pos e,if_pos e];exact r.repl k ry
 ·rw [if_neg e,if_neg e];exact Paired.snoc r ⟨rfl,ry⟩
theorem KV.length {kvs:List (κ × V)} {vs:List (κ × Value)} (r:KV kvs vs):kvs.length=vs.length:=Paired.length r
end
theorem Qjb {k:Key} (r:RelV (kV k) u):(Yn P w).is k u=true:=by
 cases k with
 | inl i=>obtain ⟨t,e⟩:=(show ∃t,u=Value.int i t from r);subst e;exact Qep P w i t
 | inr x=>obtain ⟨t,e⟩:=(show ∃t,u=Value.str x t from r);subst e;exact Qeo P w x t
theorem Qdj {P:Program} {w:World}:∀{ks:List Key} {us:List Value},Vals (ks.map kV) us->ItemsAre (Yn P w) ks us
 | [],_,r=>by rw [List.map_nil] at r;cases r;exact .nil
 | k::ks,_,r=>by
  rw [List.map_cons] at r
  cases r with
  | cons h t=>exact .cons (Qjb h) (Qdj t)
abbrev KT (H:Hp):List (List Key × V)->List (List Key × Addr × Value)->Prop:=Paired λp q=>p.1=q.1/\H q.2.1=some (.tup (p.1.map kV))/\RelV p.2 q.2.2
theorem KT.val (r:KT H kvs xs) (k:List Key):RelO (valV kvs k) ((atKey xs k).map (·.2)):=by
 induction r with
 | nil=>exact True.intro
 | @cons p q ps qs h t ih =>
  obtain ⟨h1,_,h2⟩:=h
  by_cases e:p.1=k
  ·have e':q.1=k:=h1.symm.trans e
   have b:atKey (q::qs) k=some q.2:=by simp [atKey,List.find?_cons,e']
   rw [Uo e,b];exact h2
  ·have e':¬q.1=k:=λz=>e (h1.trans z)
   have b:atKey (q::qs) k=atKey qs k:=by simp [atKey,List.find?_cons,e']
   rw [Up e,b];exact ih
theorem KT.repl (r:KT H kvs xs) (k:List Key) (ry:RelV y u) :
  KT H (kvs.map λkv=>if kv.1=k then (kv.1,y) else kv) (xs.map (putAt k u)):=by
 induction r with
 | nil=>exact .nil
 | @cons p q ps qs h t ih =>
  rw [List.map_cons,List.map_cons]
  refine .cons ?_ ih
  obtain ⟨h1,h2,h3⟩:=h
  unfold putAt
  by_cases e:p.1=k
  ·rw [if_pos e,if_pos (h1.symm.trans e)];exact ⟨h1,h2,ry⟩
  ·rw [if_neg e,if_neg (λz=>e (h1.trans z))];exact ⟨h1,h2,h3⟩
theorem KT.put (r:KT H kvs xs) (k:List Key) (hb:H b=some (.tup (k.map kV))) (ry:RelV y u) :
  KT H (putK kvs k y) (storedH xs k b u):=by
 have e:(kvs.any λkv=>decide (kv.1=k))=(atKey xs k).isSome:=by
  rw [Qe7,(r.val k).isSome_eq,Option.isSome_map]
 unfold putK storedH
 rw [e]
 by_cases q:(atKey xs k).isSome=true
 ·rw [if_pos q,if_pos q];exact r.repl k ry
 ·rw [if_neg q,if_neg q];exact Paired.snoc r ⟨rfl,hb,ry⟩
theorem KT.keeps (r:KT H kvs xs) (ht:∀b ys,H b=some (.tup ys)->H' b=some (.tup ys)):KT H' kvs xs :=
 Paired.mapP r λ_ _ z=>⟨z.1,ht _ _ z.2.1,z.2.2⟩
section
variable {h:Heap}
theorem Qqr {u:HO} (ok:HOk P w H h) (e:Rd H a u):Ya P w H h a u:=e.ok ok
theorem Qhe {kvs:List (Key × V)} (ok:HOk P w H h) (e:Rd H a (.dK kvs)):kvs.length<=sizeLine/\(a == sysModules)=false/\∃vs,KV kvs vs/\h.DictOf (Yn P w) a vs :=
 show Ya P w H h a (.dK kvs) from Qqr ok e
theorem Qvk {kvs:List (Key × V)} (ok:HOk P w H h) (e:H a=some (.dK kvs)):kvs.length<=sizeLine/\(a == sysModules)=false/\∃vs,KV kvs vs/\h.DictOf (Yn P w) a vs:=Qhe ok (.inl e)
theorem Qdg {ks:List Key} (ok:HOk P w H h) (e:H a=some (.tup (ks.map kV))):(tupleKind (Yn P w)).is h ks a:=by
 obtain ⟨_,its,r,o,h1,h2,n,h3⟩:=(show Ya P w H h a (.tup (ks.map kV)) from ok a _ e)
 exact ⟨o,its.toArray,n,h1,h2,h3,by simpa using Qdj r⟩
theorem Qjz (ok:HOk P w H h) (e:Rd H a (.dT kvs)):kvs.length<=sizeLine/\(a == sysModules)=false /\
  ∃xs,KT H kvs xs/\h.DictOfH (tupleKind (Yn P w)) a xs:=by
 obtain ⟨z,y,xs,r,o,es,ep,h1,h2,h3,h4,h5⟩:=(show Ya P w H h a (.dT kvs) from Qqr ok e)
 refine ⟨z,y,xs,r,o,es,ep,h1,h2,h3,h4,λx hx=>?_,h5⟩
 have all:∀{l:List (List Key × V)} {m:List (List Key × Addr × Value)},KT H l m->∀x∈m,(tupleKind (Yn P w)).is h x.1 x.2.1:=by
  intro l m q
  induction q with
  | nil=>intro x hx;exact nomatch hx
  | @cons p q ps qs hq t ih =>
   intro x hx
   rcases List.mem_cons.mp hx with e | hx
   ·subst e
    exact Qdg ok (by rw [← hq.1];exact hq.2.1)
   ·exact ih x hx
 exact all r x hx
theorem Qvj (ok:HOk P w H h) (e:H a=some (.dT kvs)):kvs.length<=sizeLine/\(a == sysModules)=false /\
  ∃xs,KT H kvs xs/\h.DictOfH (tupleKind (Yn P w)) a xs:=Qjz ok (.inl e)
end
def DGet (H:Hp) (a:Addr) (y:V) (r:Option V):Prop :=
 (∃kvs k,Rd H a (.dK kvs)/\y=kV k/\r=valV kvs k)\/∃kvs k b,Rd H a (.dT kvs)/\y=.ref b/\H b=some (.tup (k.map kV))/\r=valV kvs k
def DPut (H:Hp) (a:Addr) (y v:V) (H':Hp):Prop :=
 (∃kvs k,H a=some (.dK kvs)/\y=kV k/\kvs.length<sizeLine/\H'=upd H a (.dK (putK kvs k v))) \/
 ∃kvs k b,H a=some (.dT kvs)/\y=.ref b/\H b=some (.tup (k.map kV))/\kvs.length<sizeLine/\H'=upd H a (.dT (putK kvs k v))
theorem DGet.k {H:Hp} {a:Addr} {kvs:List (Key × V)} {k:Key} (e:H a=some (.dK kvs)):DGet H a (kV k) (valV kvs k):=.inl ⟨kvs,k,.inl e,rfl,rfl⟩
theorem DGet.t {k:List Key} (e:H a=some (.dT kvs)) (eb:H b=some (.tup (k.map kV))):DGet H a (.ref b) (valV kvs k):=.inr ⟨kvs,k,b,.inl e,rfl,eb,rfl⟩
theorem DPut.k {H:Hp} {a:Addr} {kvs:List (Key × V)} {k:Key} {v:V} (e:H a=some (.dK kvs)) (hl:kvs.length<sizeLine):DPut H a (kV k) v (upd H a (.dK (putK kvs k v))):=.inl ⟨kvs,k,e,rfl,hl,rfl⟩
theorem DPut.t {k:List Key} {v:V} (e:H a=some (.dT kvs)) (eb:H b=some (.tup (k.map kV))) (hl:kvs.length<sizeLine) :
  DPut H a (.ref b) v (upd H a (.dT (putK kvs k v))):=.inr ⟨kvs,k,b,e,rfl,eb,hl,rfl⟩
section
variable {v:V} {r:Value}
theorem Inv.big (I:Inv X pins σ H s):sysModules<s.heap.objs.size:=by
 have h:mainGlobals<s.heap.objs.size:=(I.mod.glob.keeps I.bk).lt
 exact Nat.lt_trans (by decide) h
theorem Qj6 (hu:A.units+1<cLine) (I:Inv X pins σ H s) (g:DGet H a y (some v)) (ry:RelV y u) (h:∀w' s',Inv X pins σ H s'->RelV v w'->Q w' s') :
  wpAny (model X.prog X.w) A (getItem (.ref a) u) Q E s:=by
 rcases g with ⟨kvs,k,e,ey,l⟩ | ⟨kvs,k,b,e,ey,eb,l⟩
 ·subst ey
  obtain ⟨z,hd,vs,rel,dd⟩:=Qhe I.hok e
  obtain ⟨w',hw,rw'⟩:=RelO.some_of (v:=v) (o:=valueAt vs k) (by rw [l];exact rel.val k)
  exact wpAny_getItem_of (Qjb ry) dd.mapOf hw (h w' _ (I.tok _) rw')
 ·subst ey
  cases (show u=Value.ref b from ry)
  obtain ⟨z,hd,xs,rel,dd⟩:=Qjz I.hok e
  obtain ⟨w',hw,rw'⟩:=RelO.some_of (v:=v) (o:=(atKey xs k).map (·.2)) (by rw [l];exact rel.val k)
  obtain ⟨p,hp,hp2⟩:=Option.map_eq_some_iff.mp hw
  refine wpAny_getItem_heap (tupleKind_room_in1 hu) (Qdg I.hok eb) dd hp ?_
  rw [hp2]
  exact h w' _ (I.tok _) rw'
theorem d_in (hu:A.units+1<cLine) (I:Inv X pins σ H s) (g:DGet H a y o) (ry:RelV y u) (h:∀s',Inv X pins σ H s'->Q (.bool o.isSome) s') :
  wpAny (model X.prog X.w) A (compareOp .In u (.ref a)) Q E s:=by
 rcases g with ⟨kvs,k,e,ey,l⟩ | ⟨kvs,k,b,e,ey,eb,l⟩
 ·subst ey
  obtain ⟨z,hd,vs,rel,dd⟩:=Qhe I.hok e
  refine wpAny_in_of (Qjb ry) hd dd.mapOf ?_
  rw [← (rel.val k).isSome_eq,← l]
  exact h _ (I.tok _)
 ·subst ey
  cases (show u=Value.ref b from ry)
  obtain ⟨z,hd,xs,rel,dd⟩:=Qjz I.hok e
  refine wpAny_in_heap (tupleKind_room_in1 hu) (Qdg I.hok eb) hd dd ?_
  have q:=(rel.val k).isSome_eq
  rw [Option.isSome_map] at q
  rw [← q,← l]
  exact h _ (I.tok _)
theorem Qp2 (hu:A.units+1<cLine) (I:Inv X pins σ H s) (g:DGet H a y o) (ry:RelV y u) (h:∀s',Inv X pins σ H s'->Q (.bool (!o.isSome)) s') :
  wpAny (model X.prog X.w) A (compareOp .NotIn u (.ref a)) Q E s:=by
 rcases g with ⟨kvs,k,e,ey,l⟩ | ⟨kvs,k,b,e,ey,eb,l⟩
 ·subst ey
  obtain ⟨z,hd,vs,rel,dd⟩:=Qhe I.hok e
  refine wpAny_notIn_of (Qjb ry) hd dd.mapOf ?_
  rw [← (rel.val k).isSome_eq,← l]
  exact h _ (I.tok _)
 ·subst ey
  cases (show u=Value.ref b from ry)
  obtain ⟨z,hd,xs,rel,dd⟩:=Qjz I.hok e
  refine wpAny_notIn_heap (tupleKind_room_in1 hu) (Qdg I.hok eb) hd dd ?_
  have q:=(rel.val k).isSome_eq
  rw [Option.isSome_map] at q
  rw [← q,← l]
  exact h _ (I.tok _)
theorem Qj4 (I:Inv X pins σ H s) (mu:Mut (H a)) (hs:Heap.SameBut a s.heap h') (he:∃q,h'.get? a=some q) (new:Ya X.prog X.w (upd H a ob) h' a ob) :
  Inv X pins σ (upd H a ob) { s with heap:=h',toks:=t' } :=
 I.write (x:=a) (e:=a) mu (.inl rfl) (λb q hb z=>(hs.2 b hb).trans z) he new
theorem Qtb {kvs:List (Key × V)} {vs:List (Key × Value)} (z:kvs.length<=sizeLine) (hd:(a == sysModules)=false) (rel:KV kvs vs) (dd:h'.DictOf (Yn P w) a vs) :
  Ya P w H' h' a (.dK kvs):=⟨z,hd,vs,rel,dd⟩
theorem Qj5 {Q:Unit->Shared->Prop} (hu:A.units+1<cLine) (I:Inv X pins σ H s) (g:DPut H a y v H') (ry:RelV y u) (rv:RelV v r) (h:∀s',Inv X pins σ H' s'->Q () s') :
  wpAny (model X.prog X.w) A (setItem (.ref a) u r) Q E s:=by
 rcases g with ⟨kvs,k,e,ey,l,eH⟩ | ⟨kvs,k,b,e,ey,eb,l,eH⟩
 ·subst ey eH
  obtain ⟨z,hd,vs,rel,dd⟩:=Qvk I.hok e
  have hz:vs.length<=sizeLine:=by rw [← rel.length];exact z
  have hl:(putK kvs k v).length<=sizeLine:=by have:=X7 kvs k v;omega
  refine wpAny_setItem_pairs (hsz:=hz) (Qjb ry) dd λh' dd' hs=>h _ ?_
  have he:∃q,h'.get? a=some q:=let ⟨q,_,_,hq,_⟩:=dd';⟨q,hq⟩
  exact Qj4 I (by rw [e];exact True.intro) hs he (Qtb hl hd (rel.put k rv) dd')
 ·subst ey eH
  cases (show u=Value.ref b from ry)
  obtain ⟨z,hd,xs,rel,dd⟩:=Qvj I.hok e
  have hz:xs.length<=sizeLine:=by rw [← Paired.length rel];exact z
  have hl:(putK kvs k v).length<=sizeLine:=by have:=X7 kvs k v;omega
  refine wpAny_setItem_heap (hsz:=hz) (tupleKind_room_in1 hu) (Qdg I.hok eb) dd λh' dd' hs=>h _ ?_
  obtain ⟨q,es,ep,hq,h2,h3,h4,_,h5⟩:=dd'
  refine Qj4 I (by rw [e];exact True.intro) hs ⟨q,hq⟩ ⟨hl,hd,_,(rel.put k eb rv).keeps λc ys ec=>?_,q,es,ep,hq,h2,h3,h4,h5⟩
  rw [Qg (Qu2 ec e (λz=>nomatch z))]
  exact ec
end
section
variable {kvs:List (Key × V)}
theorem Qvl (I:Inv X pins σ H s) (e:Rd H a (.dK kvs)) (h:∀t s',Inv X pins σ H s'->Q (.int kvs.length t) s'):wpAny (model X.prog X.w) A (call (.builtin "len") [.ref a]) Q E s:=by
 obtain ⟨z,hd,vs,rel,dd⟩:=Qhe I.hok e
 refine call_len_dict hd dd (by rw [← rel.length];rw [sizeLine_eq] at z;omega) ?_
 rw [← rel.length]
 exact h _ _ (I.tok _)
end
theorem Qes (I:Inv X pins σ H s) (g:DGet H a y o):s.TypeIs (.ref a) "dict":=by
 rcases g with ⟨kvs,k,e,_,_⟩ | ⟨kvs,k,b,e,_,_,_⟩
 ·obtain ⟨_,_,vs,_,dd⟩:=Qhe I.hok e
  exact dd.typeIs
 ·obtain ⟨_,_,xs,_,dd⟩:=Qjz I.hok e
  exact dd.typeIs
theorem Ql3 (h:Heap) (hb:sysModules<h.objs.size):Ya P w H (h.push { cls:=.type "dict",data:=.dict #[] }) h.objs.size (.dK []) :=
 ⟨Nat.zero_le _,beq_eq_false_iff_ne.mpr (Ne.symm (Nat.ne_of_lt hb)),[],.nil,Heap.DictOf.new h⟩
end L2
variable {q:PySem.Program} {loose:List PySem.Str} {XP:(PySem.Str->Option PySem.Value)->PySem.Heap->Prop} {YP:PySem.World->PySem.Heap->Prop} {d:PySem.DefRec}
namespace Att
open PySem PySem.W PySem.Calls PyProof.Rows
theorem Qac {P:Params} {h:Heap}:∀(ns:List Int) (vs:List Value),WellAll P h vs (ns.map WData.int)->IntsAre vs ns:=by
 intro ns
 induction ns with
 | nil =>
  intro vs w
  rw [List.map_nil] at w
  cases w
  exact .nil
 | cons n ns ih =>
  intro vs w
  rw [List.map_cons] at w
  cases w with
  | cons a b =>
   cases a
   exact .cons _ _ (ih _ b)
theorem Qh2 (hn:l.most=some n) {P:Params} {h:Heap} {args:List WData} {vals:List Value}
  (hpre:l.row.toRowW.claim.pre args=true) (hwl:WellAll P h vals args) :
  ∃a vs ns,vals=[Value.ref a]/\args=[WData.list (ns.map WData.int)]/\h.get? a=some { cls:=.type "list",data:=.seq vs.toArray }/\IntsAre vs ns/\ns.length<=n:=by
 have hsh:WShape.hasAll [] args [.list .int]=true:=(pre_splitW hpre).1
 have hc:l.pre.holds [] { args:=args }=true:=(pre_splitW hpre).2
 obtain ⟨d,r,rfl,h1,h2⟩:=hasAllW_cons hsh
 obtain rfl:=hasAllW_nil h2
 obtain ⟨xs,rfl,h3⟩:=hasW_list h1
 obtain ⟨ns,rfl⟩:=items_int h3
 have hlen:ns.length<=n:=by
  unfold OpenLaw.pre at hc
  have h4:(WTm.not (.lt (.lit (.int (n:Int))) (.len (.arg 0)))).holds [] { args:=[.list (ns.map .int)] }=true:=by
   have h4:=(holds_andW hc).1
   rw [hn] at h4
   exact h4
  have h5:=condW_of h4 (w_not (w_lt w_lit (w_len_list (w_arg rfl))))
  rw [List.length_map] at h5
  refine Nat.le_of_not_lt λq=>?_
  have q':(n:Int)<((ns.length:Nat):Int):=by omega
  first
   | (rw [decide_eq_true q'] at h5;exact absurd h5 (by decide))
   | (simp at h5;omega)
 cases hwl with
 | cons w1 w2 =>
  cases w2
  cases w1 with
  | list ho hall=>exact ⟨_,_,ns,rfl,rfl,ho,Qac ns _ hall,hlen⟩
theorem Qik (l:OpenLaw) (args:List WData):l.row.toRowW.claim.post args (.bool true) args=true :=
 postW_of (r:=l.row.toRowW) (X:=(true == true))
  (show WShape.has [] (.bool true) .bool=true by first | rfl | decide | simp [WShape.has,WShape.arms,WShape.armsAll])
  (show (WTm.eq .res (.lit (.bool true))).value [] { args:=args,res:=some (.bool true),after:=args }=some (.bool (true == true)) from w_eq_bool (w_res rfl) w_lit) rfl
theorem Qe1
  (hn:l.most=some n) (hdf:d.params.defaults=[])
  (call:∀(w:World) (s₀ s₁:Shared) (mg mb:Str->Option Value) (fa:Addr) (o:Obj) (pm cd doc:Value) (a:Addr) (vs:List Value) (ns:List Int),
   Ground q loose [] XP w s₀ mg mb s₁.heap->YP w s₁.heap ->
   s₁.heap.get? fa=some o->o.data=.func (docDef d.name d.params d.body d.scope pm cd doc)->s₁.heap.CodeRec cd d.name->mg d.name=some (.ref fa) ->
   s₁.heap.get? a=some { cls:=.type "list",data:=.seq vs.toArray }->IntsAre vs ns->ns.length<=n->s₁.gens = #[] ->
   codeAny (model l.prog w) callerA (.call (.ref fa) ⟨[.ref a],[]⟩) (λr s'=>r=.ok (.ret (.bool true))/\OldK s₁.heap s'.heap/\s'.os=s₁.os/\AllBare s'.gens) s₁) :
  WalkO q loose XP YP l.row.toRowW d [] (λf vs=>PySem.call f vs):=by
 intro w s₀ s₁ mg mb G Y fa o pm cd doc dV kV ho hd hcd hD hmg hg args vals as hpre hlay hrd hwl hlo
 obtain rfl:dV=.none:=Dflts.none hD hdf
 obtain rfl:kV=.none:=Dflts.noKw hD
 obtain ⟨a,vs,ns,rfl,rfl,hobj,hints,hlen⟩:=Qh2 hn hpre hwl
 refine enter_call (codeAny_mono (call w s₀ s₁ mg mb fa o pm cd doc a vs ns G Y ho (fd_plain hd) hcd hmg hobj hints hlen hg) λr s' hq=>?_)
 obtain ⟨rfl,h2,h3,h4⟩:=hq
 exact ⟨.inl ⟨.bool true,.bool true,[],rfl,λ_=>rfl,.bool true,Qik l _,λ_=>⟨List.Pairwise.nil,λ_ hm=>(nomatch hm)⟩⟩,h2,h3,h4⟩
end Att
variable {o:L2.HO} {y:PySem.Str} {k:Nat} {fa:PySem.Addr} {tt:L2.TT} {elt:PySem.Expr} {ifs:List PySem.Expr} {ts:List PySem.Str} {gt:L2.TG} {ix:List Nat} {J:L2.It} {tn:Nat->PySem.Heap->Prop} {RR:PySem.Value->PySem.Addr->PySem.Result->PySem.Shared->Prop} {G:List L2.V->L2.Hp->Prop} {px spos:PySem.Pos}
namespace L2
open PySem PySem.Spec PyProof.Rows
theorem Qcl:∀{vs:List Value} {ns:List Int},IntsAre vs ns->Vals (ns.map V.int) vs
 | _,_,.nil=>.nil
 | _,_,.cons n t h=>.cons ⟨t,rfl⟩ (Qcl h)
def Only (H:Hp):Prop:=∀b,H b=none\/∃o xs,H b=some (.frz o (.lst xs))
theorem Qlj {mb:Str->Option Value} {sp:Sp} {s₁:Shared} {vs:List Value}
  (KX:K.In s₁.heap) (hns:s₁.heap.Ns mainGlobals mg) (hb:s₁.heap.Ns builtinsNs mb) (hbb:∀x:Str,x ≠ "__name__" -> mb x=bootBuiltins x) (hlim:s₁.heap.NoLimit) (hg:s₁.gens = #[])
  (ha:s₁.heap.get? a=some { cls:=.type "list",data:=.seq vs.toArray }) (hi:IntsAre vs ns) (hl:ns.length<=sizeLine) (hr:Room k callerA)
  (F:∀base:Heap,K.In base->base.Ns mainGlobals mg->FnOk P w K mg base CX k fa fd [x] sp) (hbind:∀(s:Shared) (u:Value),BindsTo s fd ⟨[u],[]⟩ [(x,u)])
  (hsp:∀H:Hp,Only H->SqL K H a (ns.map V.int)->sp [.ref a] H (λv _=>v=.bl true) λ_ _ _=>False)
  (hCX:∀H e s',CX [] H s₁ (λ_ _ _=>False) e s'->False) :
  codeAny (model P w) callerA (.call (.ref fa) ⟨[.ref a],[]⟩) (λr s'=>r=.ok (.ret (.bool true))/\OldK s₁.heap s'.heap/\s'.os=s₁.os/\AllBare s'.gens) s₁:=by
 have rv:=Qcl hi
 have lenV:=hi.length
 -- from an abstract heap in which nothing but the script may be tracked
 have core:∀H:Hp,Only H->SqL K H a (ns.map V.int)->HOk P w H s₁.heap->(∀b,H b≠none->b=a)->(H a≠none->K.lookup a=none) ->
   codeAny (model P w) callerA (.call (.ref fa) ⟨[.ref a],[]⟩) (λr s'=>r=.ok (.ret (.bool true))/\OldK s₁.heap s'.heap/\s'.os=s₁.os/\AllBare s'.gens) s₁:=by
  intro H hO hS hok hA hK
  have base_of:∀{b:Addr} {o:Obj},s₁.heap.get? b=some o->H b=none->(hidT s₁.heap H).get? b=some o:=λe n=>Qlv e n
  have noA:∀{b:Addr} {o:Obj} {es:Array DictEntry} {ep:Nat},s₁.heap.get? b=some o->o.data=.dict es ep->H b=none:=λ{b o es ep} e d=>by
   cases q:H b with
   | none=>rfl
   | some u =>
    have e':b=a:=hA b (by rw [q];simp)
    subst e'
    rw [ha] at e;cases e
    have d':Data.seq vs.toArray _=Data.dict es ep:=d
    cases d'
  have nsK:∀{b:Addr} {m:Str->Option Value},s₁.heap.Ns b m->(hidT s₁.heap H).Ns b m:=λ{b m} ⟨o,es,ep,e,d,r⟩=>⟨o,es,ep,base_of e (noA e d),d,r⟩
  have hKb:K.In (hidT s₁.heap H):=λb o e=>base_of (KX b o e) (by
   cases q:H b with
   | none=>rfl
   | some u =>
    have e':b=a:=hA b (by rw [q];simp)
    subst e'
    rw [hK (by rw [q];simp)] at e;cases e)
  have hM:Mod K mg (hidT s₁.heap H):=⟨hKb,nsK hns,⟨mb,nsK hb,hbb⟩,let ⟨mc,h1,h2⟩:=hlim;⟨mc,nsK h1,h2⟩⟩
  have e0:Env0 P w K mg (hidT s₁.heap H) callerA [] s₁ H:=⟨rfl,hM,λb o e=>Qo9 e,Nat.le_of_eq (Qjj _ _),trivial,λb hb=>absurd (show b∈([]:List Addr) from hb) (by simp),hok,.of_eq hg⟩
  refine codeAny_mono ((F _ hKb (nsK hns)).run callerA [] s₁ H ⟨[.ref a],[]⟩ [.ref a] [.ref a] _ _ hr e0 (hbind s₁ (.ref a)) (.cons rfl .nil) (hsp H hO hS)) λr s' h=>?_
  cases r with
  | error e=>exact (hCX H e s' h).elim
  | ok fl =>
   cases fl with
   | next=>exact False.elim h
   | brk=>exact False.elim h
   | cont=>exact False.elim h
   | ret u =>
    obtain ⟨v,H',os,bare,un,hok',r',q⟩:=h
    have q':v=.bl true:=q
    subst q'
    obtain rfl:u=Value.bool true:=r'
    refine ⟨rfl,OldK.of_keep λb o e=>?_,os,bare⟩
    cases q:H b with
    | none=>exact un.keep b o e q (by intro z;exact absurd (show b∈([]:List Addr) from z) (by simp)) (by simp)
    | some u =>
     rcases hO b with z | ⟨ob,xs,z⟩
     ·rw [q] at z;cases z
     ·have z2:=un.frzs b ob _ z
      obtain ⟨e1,_⟩:=hok b _ z
      obtain ⟨e2,_⟩:=hok' b _ z2
      rw [e] at e1;cases e1
      exact e2
 cases hk:K.lookup a with
 | some o =>
  -- the script is one of the module's own objects
  have e:=KX a o hk
  rw [ha] at e
  cases e
  refine core (λ_=>none) (λ_=>.inl rfl) (.inr ⟨_,vs.toArray,_,hk,rfl,rfl,rfl,by rw [List.size_toArray,lenV];exact hl,by simpa using rv⟩) (λb u z=>by have z':(none:Option HO)=some u:=z;cases z') (λb z=>absurd rfl z) λz=>absurd rfl z
 | none =>
  refine core (λb=>if b=a then some (.frz { cls:=.type "list",data:=.seq vs.toArray } (.lst (ns.map V.int))) else none) (λb=>?_) (.inl (.inr ⟨{ cls:=.type "list",data:=.seq vs.toArray },if_pos rfl⟩)) (λb u z=>?_) (λb z=>?_) λ_=>hk
  ·by_cases hb:b=a
   ·exact .inr ⟨_,_,if_pos hb⟩
   ·exact .inl (if_neg hb)
  ·by_cases hb:b=a
   ·have z':=(if_pos hb).symm.trans z
    cases z'
    subst hb
    exact ⟨ha,by rw [List.length_map];exact hl,vs,_,rv,ha⟩
   ·have z':=(if_neg hb).symm.trans z
    cases z'
  ·by_cases hb:b=a
   ·exact hb
   ·exact absurd (if_neg hb) z
theorem Qnn {K:Params->PySem.W.Frag} {CX:World->CXT} {sp:World->Sp}
  (hn:l.most=some n) (hn2:n<=sizeLine) (hdf:d.params.defaults=[]) (hr:Room k callerA)
  (hY:∀(w:World) (h:Heap),YP w h->(K w.params).In h)
  (F:∀(w:World) (mg:Str->Option Value) (fa:Addr) (h:Heap),(K w.params).In h->h.Ns mainGlobals mg->mg d.name=some (.ref fa) ->
   ∃fd:FuncData,(∀(s:Shared) (u:Value),BindsTo s fd ⟨[u],[]⟩ [(x,u)]) /\
    ∀base:Heap,(K w.params).In base->base.Ns mainGlobals mg->FnOk l.prog w (K w.params) mg base (CX w) k fa fd [x] (sp w))
  (hsp:∀(w:World) (H:Hp) (a:Addr) (ns:List Int),ns.length<=n->Only H->SqL (K w.params) H a (ns.map V.int)->sp w [.ref a] H (λv _=>v=.bl true) λ_ _ _=>False)
  (hCX:∀(w:World) (H:Hp) (s:Shared) (e:Value) (s':Shared),CX w [] H s (λ_ _ _=>False) e s'->False) :
  PySem.W.WalkO q loose XP YP l.row.toRowW d [] (λf vs=>PySem.call f vs):=by
 refine Att.Qe1 hn hdf λw s₀ s₁ mg mb fa o pm cd doc a vs ns G Y ho hd hcd hmg hobj hints hlen hg=>?_
 have KX:=hY w _ Y
 obtain ⟨fd,hb,hF⟩:=F w mg fa _ KX G.T.g hmg
 exact Qlj KX G.T.g G.T.b G.T.builtins G.T.nolimit hg hobj hints (Nat.le_trans hlen hn2) hr hF hb (λH hO hS=>hsp w H a ns hlen hO hS) λH e s'=>hCX w H s₁ e s'
def Z2 (s:Stmt):Arguments:=match s with
 | .FunctionDef _ a _ _ _ _ _ _ _ _=>a
 | _=>{ posonlyargs:=[],args:=[],vararg:=none,kwonlyargs:=[],kw_defaults:=[],kwarg:=none,defaults:=[] }
def Qu (s:Stmt):List Stmt:=match s with
 | .FunctionDef _ _ b _ _ _ _ _ _ _=>b
 | _=>[]
def Qa (s:Stmt):Scope:=match s with
 | .FunctionDef _ _ _ _ _ _ sc _ _ _=>sc
 | _=>{ kind:=.function,names:=[],isGenerator:=false,isCoroutine:=false }
abbrev CX0:CXT:=λ_ _ _ _ _ _=>False
abbrev E0:XK:=λ_ _ _=>False
theorem Qiq:Qd5 CX0 X E0:=λ_ _ _ _ _ _ _ h=>h.elim
structure Fun (K:PySem.W.Frag) (x qual:Str) (st:Stmt) (f:Addr) (fd:FuncData):Prop where
 ex:∃(oc:Value) (od:Option Addr) (kV doc pm:Value) (an:Option Addr) (cdv ct:Value) (osl:Array (Option Value)),
  fd=PySem.W.fnOf x qual (Z2 st) (Qu st) (Qa st) .none kV doc pm an cdv ct/\K.lookup f=some ⟨oc,od,.func fd,osl⟩/\PySem.W.codeIn K cdv qual=true
 kp:PySem.W.keepIn K (.ref f)=true
theorem Fun.ok {sp:Sp} (F:Fun K x qual st f fd) (S:FnScope N ps (Qa st)) (len:∀vs H Q E,sp vs H Q E->vs.length=ps.length)
  (hbody:∀(cdv:Value) (A:Around) (outer:List Env) (s:Shared) (H:Hp) (vs:List V) (Q:VK) (E:XK),Room k (A.deeper (envOfC qual (Qa st) s.heap.objs.size f cdv))->sp vs H Q E ->
   ∃t,PSs (cxOf CX0 P w K mg base N qual (Qa st) f cdv A outer s H E).nox (Qu st) t/\t { nx:=λ_ H'=>Q .non H',rt:=Q } (Zz N vs) H):FnOk P w K mg base CX0 (k+1) f fd ps sp:=by
 obtain ⟨oc,od,kV,doc,pm,an,cdv,ct,osl,rfl,lk,hcd⟩:=F.ex
 refine Qs0 lk hcd S len λA outer s H vs Q E hr hsp=>?_
 obtain ⟨t,h,q⟩:=hbody cdv A outer s H vs Q E hr hsp
 exact ⟨t,h.nox,q⟩
theorem Fun.binds (F:Fun K x qual st f fd)
  (h:∀(kV doc pm:Value) (an:Option Addr) (cdv ct:Value) (us:List Value),us.length=ps.length->bindArgs (PySem.W.fnOf x qual (Z2 st) (Qu st) (Qa st) .none kV doc pm an cdv ct) ⟨us,[]⟩=pure (ps.zip us)):Zi K fd ps []:=by
 obtain ⟨oc,od,kV,doc,pm,an,cdv,ct,osl,rfl,lk,hcd⟩:=F.ex
 exact .all (h kV doc pm an cdv ct)
theorem Qdp {an:Option Addr} {kV doc pm cdv ct:Value} (l:K.lookup f=some ⟨oc,od,.func (PySem.W.fnOf x qual (Z2 st) (Qu st) (Qa st) .none kV doc pm an cdv ct),osl⟩)
  (c:PySem.W.codeIn K cdv qual=true) (k:PySem.W.keepIn K (.ref f)=true):Fun K x qual st f (PySem.W.fnOf x qual (Z2 st) (Qu st) (Qa st) .none kV doc pm an cdv ct):=⟨⟨oc,od,kV,doc,pm,an,cdv,ct,osl,rfl,l,c⟩,k⟩
theorem Yk (hr:Room k A):A.units+1<cLine:=Nat.lt_of_le_of_lt (Nat.add_le_add_left (by decide:1<=64) _) hr.units
theorem Qh0 (h:n<=1000):n<sizeLine:=Nat.lt_of_le_of_lt h (by decide)
theorem pv (i:Nat) (hN:X.N[i]? = some x:=by rfl) (hv:Vis X.env.scope x:=by first | exact Or.inl rfl | exact Or.inr (Or.inl rfl) | exact Or.inr (Or.inr rfl)) (hd:(x == ("__debug__" : Str))=false:=by decide)
  (hcd:(x == ("__classdict__" : Str))=false:=by decide):PE X (.Name x pos) (tVar i):=Y4 hN hv hd hcd
theorem Qke:Vp X (.builtin "len") (λxs H Q=>∃a kvs,xs=[V.ref a]/\H a=some (.dK kvs)/\Q (.int kvs.length) H):=by
 intro pins s σ H xs us Q I r h
 obtain ⟨a,kvs,rfl,ha,q⟩:=h
 obtain ⟨u,rfl,ru⟩:=Qgh r
 cases ru
 exact Qvl I (.inl ha) λt s' I'=>⟨.int kvs.length,H,I',⟨t,rfl⟩,q⟩
def Same (H H':Hp):Prop:=∀b o,H b=some o->H' b=some o
theorem Same.refl (H:Hp):Same H H:=λ_ _ h=>h
theorem Same.trans (a:Same H H1) (b:Same H1 H2):Same H H2:=λc o h=>b c o (a c o h)
theorem Same.free (e:Same H H') {l:Addr} (h:H' l=Option.none):H l=Option.none:=by
 cases q:H l with
 | none=>rfl
 | some o =>
  rw [e l o q] at h
  cases h
theorem Uf {env:Env}:∀(names:List (Str × NameKind)) (acc:List (Str × Addr)),
  (∀x∈names,x.2=.free->∃c,env.cells.lookup x.1=some c)->(∀y c,acc.lookup y=some c->env.cells.lookup y=some c) ->
  ∃cl:List (Str × Addr),(forIn names acc (λ(x:Str × NameKind) (cs:List (Str × Addr)) =>
    if (x.2 == NameKind.free)=true then do
     let c ← cellOf env x.1
     pure (ForInStep.yield ((x.1,c)::cs))
    else pure (ForInStep.yield cs)):Sem (List (Str × Addr)))=pure cl /\
   (∀y c,cl.lookup y=some c->env.cells.lookup y=some c)/\(∀y,(acc.lookup y).isSome=true->(cl.lookup y).isSome=true) /\
   ∀x∈names,x.2=.free->(cl.lookup x.1).isSome=true
 | [],acc,_,ha=>⟨acc,by rw [List.forIn_nil],ha,λ_ h=>h,λ_ h=>nomatch h⟩
 | (n,k)::r,acc,hn,ha=>by
  rw [List.forIn_cons]
  by_cases hk:k=.free
  ·subst hk
   obtain ⟨c,hc⟩:=hn (n,.free) List.mem_cons_self rfl
   have hc':env.cells.lookup n=some c:=hc
   obtain ⟨cl,e,h1,h2,h3⟩:=Uf r ((n,c)::acc) (λx hx=>hn x (List.mem_cons_of_mem _ hx)) (λy c' h=>by
    rw [List.lookup_cons] at h
    cases q:y == n with
    | true=>rw [q] at h;cases h;rw [beq_iff_eq.mp q];exact hc'
    | false=>rw [q] at h;exact ha y c' h)
   refine ⟨cl,?_,h1,λy hy=>h2 y ?_,λx hx hf=>?_⟩
   ·have e0:cellOf env n=pure c:=by unfold cellOf;rw [hc']
    show ((if ((NameKind.free == NameKind.free)=true) then (cellOf env n >>= λc=>pure (ForInStep.yield ((n,c)::acc))) else pure (ForInStep.yield acc)) >>= _)=_
    rw [if_pos (by decide),e0]
    exact e
   ·rw [List.lookup_cons]
    cases q:y == n with
    | true=>rfl
    | false=>exact hy
   ·rcases List.mem_cons.mp hx with rfl | hx
    ·exact h2 n (by simp [List.lookup_cons])
    ·exact h3 x hx hf
  ·obtain ⟨cl,e,h1,h2,h3⟩:=Uf r acc (λx hx=>hn x (List.mem_cons_of_mem _ hx)) ha
   refine ⟨cl,?_,h1,h2,λx hx hf=>?_⟩
   ·show ((if ((k == NameKind.free)=true) then (cellOf env n >>= λc=>pure (ForInStep.yield ((n,c)::acc))) else pure (ForInStep.yield acc)) >>= _)=_
    rw [if_neg (by simpa using hk)]
    exact e
   ·rcases List.mem_cons.mp hx with rfl | hx
    ·exact absurd hf hk
    ·exact h3 x hx hf
theorem Qai (h:∀x∈scope.names,x.2=.free->∃c,env.cells.lookup x.1=some c) :
  ∃cl,closureFor scope env=pure cl/\(∀y c,cl.lookup y=some c->env.cells.lookup y=some c)/\∀x∈scope.names,x.2=.free->∃c,cl.lookup x.1=some c:=by
 obtain ⟨cl,e,h1,_,h3⟩:=Uf scope.names [] h (λy c q=>by simp at q)
 refine ⟨cl,?_,h1,λx hx hf=>Option.isSome_iff_exists.mp (h3 x hx hf)⟩
 simp only [closureFor]
 show (forIn scope.names [] _ >>= λr=>pure r)=_
 rw [e]
 rfl
theorem Ze {env:Env} {x:Str}:∀{names:List (Str × NameKind)},names.lookup x=some .free ->
  (names.map λ(n,k)=>if (k == NameKind.free && env.scope.kind == .function && env.kindOf n == some .cell) then (n,NameKind.cell) else (n,k)).lookup x=some .cell \/
  (names.map λ(n,k)=>if (k == NameKind.free && env.scope.kind == .function && env.kindOf n == some .cell) then (n,NameKind.cell) else (n,k)).lookup x=some .free
 | [],h=>by simp at h
 | (n,k)::r,h=>by
  have ih:=@Ze env x r
  show List.lookup x ((if (k == NameKind.free && env.scope.kind == .function && env.kindOf n == some .cell)=true then (n,NameKind.cell) else (n,k))::_)=_\/List.lookup x ((if (k == NameKind.free && env.scope.kind == .function && env.kindOf n == some .cell)=true then (n,NameKind.cell) else (n,k))::_)=_
  cases hx:x == n with
  | true =>
   simp only [List.lookup_cons,hx] at h
   cases h
   by_cases hc:(NameKind.free == NameKind.free && env.scope.kind == .function && env.kindOf n == some .cell)=true
   ·rw [if_pos hc];left;simp only [List.lookup_cons,hx]
   ·rw [if_neg hc];right;simp only [List.lookup_cons,hx]
  | false =>
   simp only [List.lookup_cons,hx] at h
   by_cases hc:(k == NameKind.free && env.scope.kind == .function && env.kindOf n == some .cell)=true
   ·rw [if_pos hc];simp only [List.lookup_cons,hx];exact ih h
   ·rw [if_neg hc];simp only [List.lookup_cons,hx];exact ih h
theorem Zm {env:Env} {x:Str} {q:NameKind}:∀{names:List (Str × NameKind)},(∀y∈names,y.2 ≠ .cell)->q=.cell\/q=.free ->
  (names.map λ(n,k)=>if (k == NameKind.free && env.scope.kind == .function && env.kindOf n == some .cell) then (n,NameKind.cell) else (n,k)).lookup x=some q->(x,NameKind.free)∈names
 | [],_,_,h=>by simp at h
 | (n,k)::r,hn,hq,h=>by
  have h:List.lookup x ((if (k == NameKind.free && env.scope.kind == .function && env.kindOf n == some .cell)=true then (n,NameKind.cell) else (n,k))::(r.map λ(n,k)=>if (k == NameKind.free && env.scope.kind == .function && env.kindOf n == some .cell) then (n,NameKind.cell) else (n,k)))=some q:=h
  by_cases hc:(k == NameKind.free && env.scope.kind == .function && env.kindOf n == some .cell)=true
  ·rw [if_pos hc] at h
   cases hx:x == n with
   | true =>
    have hk:k=.free:=by
     cases k <;> first | rfl | (simp at hc)
    rw [beq_iff_eq.mp hx,hk]
    exact List.mem_cons_self
   | false =>
    simp only [List.lookup_cons,hx] at h
    exact List.mem_cons_of_mem _ (Zm (λy hy=>hn y (List.mem_cons_of_mem _ hy)) hq h)
  ·rw [if_neg hc] at h
   cases hx:x == n with
   | true =>
    simp only [List.lookup_cons,hx] at h
    have hk:k=q:=Option.some.inj h
    have hk2:k=.free:=by
     rcases hq with rfl | rfl
     ·exact absurd hk (hn (n,k) List.mem_cons_self)
     ·exact hk
    rw [beq_iff_eq.mp hx,hk2]
    exact List.mem_cons_self
   | false =>
    simp only [List.lookup_cons,hx] at h
    exact List.mem_cons_of_mem _ (Zm (λy hy=>hn y (List.mem_cons_of_mem _ hy)) hq h)
def Zq (X:Cx) (scope:Scope) (cl:List (Str × Addr)) (C:Addr) (N:List Str) (s₀:Shared) (H₀:Hp) (fp:List Addr):Cx :=
 { X with N:=N,s₀:=s₀,H₀:=H₀,env:=compEnvC scope cl C X.env,outer:=X.stack,stack:=X.stack,ex:=fp,fn:=λ_=>false,pn:=[],xe:=λ_ _=>False }
structure BlkScope (env:Env) (scope:Scope) (x:Str):Prop where
 kind:scope.kind=.function
 cells:∀y∈scope.names,y.2 ≠ .cell
 names:∀y∈scope.names,y.2=.local->scope.names.lookup y.1=some .local
 lx:scope.names.lookup x=some .local
 free:∀y∈scope.names,y.2=.free->env.kindOf y.1=some .cell\/env.kindOf y.1=some .free
def bN (N:List Str) (x:Str) (ix:List Nat):List Str:=x::ix.map λi=>N.getD i Str.empty
def bS (σ:St) (o:Option V) (ix:List Nat):St:=o::ix.map λi=>(σ[i]?).getD none
def PIfs (X:Cx) (ifs:List Expr) (tt:TT):Prop :=
 ∀(pins:List (Addr × Obj)) (s:Shared) (σ:St) (H:Hp) (Q:Bool->Hp->Prop),Inv X pins σ H s->tt σ H Q ->
  wpAny (model X.prog X.w) X.A (forIn ifs true λc r=>if r=true then do let ok ← isTrue c X.env (eval c X.env);pure (ForInStep.yield ok) else pure (ForInStep.yield r)) (TP X pins σ Q) X.xe s
def tAll:TT:=λ_ H Q=>Q true H
theorem Qfo:PIfs X [] tAll:=by
 intro pins s σ H Q I h
 rw [List.forIn_nil]
 exact wpAny_pure ⟨H,I,h⟩
theorem Qk5 (h:PT X c tt):PIfs X [c] tt:=by
 intro pins s σ H Q I hw
 rw [List.forIn_cons]
 refine wpAny_bind ?_
 rw [if_pos rfl]
 refine wpAny_bind (thn (h pins s σ H _ I hw) λok s1 q=>wpAny_pure ?_)
 show wpAny _ _ (forIn [] ok _) _ _ s1
 rw [List.forIn_nil]
 exact wpAny_pure q
theorem Qto {cl:List (Str × Addr)} (I:Inv X pins σ H s) (B:BlkScope X.env scope x)
  (h1:∀y c,cl.lookup y=some c->X.env.cells.lookup y=some c) (h3:∀y∈scope.names,y.2=.free->∃c,cl.lookup y.1=some c) (hC:s.heap.objs.size<=C) (hf:∀b∈fp,FpOk X pins H b) (hl:∀b∈fp,b<s.heap.objs.size) :
  (Zq X scope cl C N s H fp).Ok where
 mod:=I.ok.mod
 kind:=by show (relabel scope X.env).kind=_;exact B.kind
 glob:=I.ok.glob
 blt:=I.ok.blt
 above:=hC
 inj:=λy z c q r=>I.ok.inj y z c (h1 y c q) (h1 z c r)
 has:=λy hy=>by
  have hy:(relabel scope X.env).names.lookup y=some .cell\/(relabel scope X.env).names.lookup y=some .free:=hy
  have m:(y,NameKind.free)∈scope.names:=by
   rcases hy with q | q
   ·exact Zm B.cells (.inl rfl) q
   ·exact Zm B.cells (.inr rfl) q
  exact h3 _ m rfl
 cab:=λy c q=>by cases (show false=true from q)
 hd:=I.ok.hd
 frames:=I.ok.frames
 stk:=.inl rfl
 exf:=λb hb=>⟨Nat.ne_of_lt (Nat.lt_of_lt_of_le (hl b hb) hC),λy c q=>(hf b hb).2.2.2.2.1 y c (h1 y c q)⟩
 bs:=I.bs
 bsz:=Nat.le_trans I.ok.bsz I.sz
 noex:=λb o e hb=>by
  rcases (hf b hb).2.2.2.1 with z | z
  ·exact I.ok.noex b o e z
  ·exact absurd (Nat.lt_of_lt_of_le (Heap.lt_size e) (Nat.le_trans I.ok.bsz z)) (Nat.lt_irrefl _)
 exfs:=λb hb z=>by
  have z':=I.stkSub b z
  rcases List.mem_cons.mp z' with q | q
  ·exact (hf b hb).2.1 q
  ·exact (hf b hb).2.2.1 q
 funs:=I.stack
 frf:=I.stkFree
theorem HOk.add {h:Heap} (x:HOk P w H h) (hn:H a=none) (new:Ya P w (upd H a o) h a o):HOk P w (upd H a o) h:=λb u e=>by
 by_cases hb:b=a
 ·subst hb;rw [Qi] at e;cases e;exact new
 ·rw [Qg hb] at e
  exact (x b u e).stay (λc v _ q=>q) (λc q=>by rw [Qg (Ja q hn)];exact q) (λc xs q=>by rw [Qg (Ja q hn)];exact q) λc _ _ _ q _=>by rw [Qg (Ja q hn)];exact q
theorem Un.add {fs ex:List Addr} {h:Heap} (u:Un fs ex H H' h h') (hn:h.get? a=none) (hH:H a=none):Un fs ex H (upd H' a o) h h' where
 keep:=u.keep
 slot:=u.slot
 free:=λb ob e n hx=>by
  have:b≠a:=λz=>by rw [z,hn] at e;cases e
  rw [Qg this];exact u.free b ob e n hx
 there:=u.there
 tups:=λb xs e=>by rw [Qg (Ja e hH)];exact u.tups b xs e
 frzs:=λb ob w e=>by rw [Qg (Ja e hH)];exact u.frzs b ob w e
 tbls:=λb ps e=>by rw [Qg (Ja e hH)];exact u.tbls b ps e
theorem Qax {target:Expr} {it acc:Value} (I:Nat->Shared->Prop)
  (turn:∀n s,I n s->wpAny (model prog w) A (pyNext it) (λr s₁=>match r with
   | none=>R (.ok .next) s₁
   | some v=>wpAny (model prog w) A (letOwnedTupleGo target it v) (λ_ s₀=>wpAny (model prog w) A (assign target env v) (λ_ s₂ =>
     wpAny (model prog w) A (forIn ifs true λc r=>if r=true then do let ok ← isTrue c env (eval c env);pure (ForInStep.yield ok) else pure (ForInStep.yield r)) (λok s₃ =>
      if ok=true then wpAny (model prog w) A (eval elt env) (λx s₄ =>
       wpAny (model prog w) A (call (.builtin "list.append") [acc,x]) (λ_ s₅=>∃m,m<n/\I m s₅) (notedBy (model prog w) A env λe s'=>R (.error e) s') s₄) (notedBy (model prog w) A env λe s'=>R (.error e) s') s₃
      else ∃m,m<n/\I m s₃) (notedBy (model prog w) A env λe s'=>R (.error e) s') s₂) (notedBy (model prog w) A env λe s'=>R (.error e) s') s₀) (notedBy (model prog w) A env λe s'=>R (.error e) s') s₁) (notedBy (model prog w) A env λe s'=>R (.error e) s') s)
  (n:Nat) (h:I n s):codeAny (model prog w) A (.compLoop (.ListComp elt [⟨target,iter,ifs,0⟩] scope pos) 0 it acc env) R s:=by
 refine codeAny_loop rfl I (λn s hI=>?_) n h
 show wpAny _ A ((compTurn (.ListComp elt [⟨target,iter,ifs,0⟩] scope pos) 0 it acc env).onRaise (λx=>do noteFrame x env;theTreesLotGoes x)) _ _ s
 refine wpAny_noted ?_
 rw [compTurn_list]
 refine wpAny_bind (wpAny_standAt (wpAny_bind (wpAny_mono (turn n s hI) (λr s₁ h₁=>?_) λ_ _ h'=>h')))
 cases r with
 | none=>exact wpAny_pure h₁
 | some v =>
  refine wpAny_bind (wpAny_mono h₁ (λ_ s₀ h₀=>?_) λ_ _ h'=>h')
  refine wpAny_bind (wpAny_mono h₀ (λ_ s₂ h₂=>wpAny_bind (wpAny_mono h₂ (λok s₃ h₃=>?_) λ_ _ h'=>h')) λ_ _ h'=>h')
  cases ok with
  | false=>exact wpAny_pure ⟨rfl,h₃⟩
  | true =>
   exact wpAny_bind (wpAny_bind (wpAny_mono h₃ (λx s₄ h₄=>wpAny_bind (wpAny_mono h₄ (λ_ s₅ h₅=>wpAny_pure (wpAny_pure ⟨rfl,h₅⟩)) λ_ _ h'=>h')) λ_ _ h'=>h'))
def bN2 (N:List Str) (ts:List Str) (ix:List Nat):List Str:=ts++ix.map λi=>N.getD i Str.empty
def bS2 (σ:St) (o:List (Option V)) (ix:List Nat):St:=o++ix.map λi=>(σ[i]?).getD none
theorem Qj8 {cl:List (Str × Addr)} {RR:Value->PySem.Env->Result->Shared->Prop} {Px:Hp->Shared->Value->Shared->Prop}
  (I:Inv X pins σ H s) (hc:X.calm=true) (B:BlkScope X.env scope x) (h1:∀y c,cl.lookup y=some c->X.env.cells.lookup y=some c) (h3:∀y∈scope.names,y.2=.free->∃c,cl.lookup y.1=some c)
  (hix:∀i∈ix,∃y,X.N[i]? = some y/\scope.names.lookup y=some .free) (hN:(bN2 X.N ts ix).Nodup)
  (T:Turn X.prog X.w X.K tg J fp it tn) (st:tn 0 s.heap) (hf:∀b∈fp,FpOk X pins H b)
  (hg:∀cl C s₀ H₀ fp,PG (Zq X scope cl C (bN2 X.N ts ix) s₀ H₀ fp) tg gt)
  (he:∀cl C s₀ H₀ fp xe,(∀pins σ' H s e s',Inv (Zq X scope cl C (bN2 X.N ts ix) s₀ H₀ fp) pins σ' H s->Px H s e s'->xe e s')->PE ((Zq X scope cl C (bN2 X.N ts ix) s₀ H₀ fp).wish xe) elt te)
  (hi:∀cl C s₀ H₀ fp,PIfs (Zq X scope cl C (bN2 X.N ts ix) s₀ H₀ fp) ifs tt)
  (W:Nat->Nat->List V->Hp->Prop) (m₀:Nat) (w0:W 0 m₀ [] H)
  (turn:∀i m ys H,W i m ys H->(J.stop i H/\ys.length<=sizeLine/\G ys H)\/(J.go i H/\ys.length<sizeLine/\∀v H',J.yld i H v H'->∀o:List (Option V),o.length=ts.length->gt v (bS2 σ o ix) H' λσ2 H2=>∃o2:List (Option V),σ2=bS2 σ o2 ix/\o2.length=ts.length /\
    tt σ2 H2 λb H1=>if b=true then te σ2 H1 λy H2=>∃m',m' < m/\W (i+1) m' (ys++[y]) H2 else ∃m',m' < m/\W (i+1) m' ys H1))
  (hRR:∀D C cenv s' ys H',cenv.locals=C->Inv X pins σ (upd H' D (.lst ys)) s'->H' D=none->H' C=none->(∃m,s'.heap.Ns C m)->s.heap.objs.size<=C->D≠C->G ys H'->RR (.ref D) cenv (.ok .next) s')
  (hXX:∀D C cenv s' H' e s'',cenv.locals=C->cenv.frame=X.env.frame->Inv X pins σ H' s'->H' C=none->(∃m,s'.heap.Ns C m)->s.heap.objs.size<=C->C∉frs X.stack->Px H' s' e s''->notedBy (model X.prog X.w) X.A (compEnvC scope cl C X.env) (λe s'=>RR (.ref D) cenv (.error e) s') e s'') :
  wpAny (model X.prog X.w) X.A (newList []) (λacc s₃=>wpAny (model X.prog X.w) X.A (newFunctionEnv scope X.env.globals cl [] X.env.qual none .none (some X.env)) (λcenv s₄ =>
   codeAny (model X.prog X.w) X.A (.compStart (.ListComp elt [⟨tg,iter,ifs,0⟩] scope pos) 0 (.ref it) acc { cenv with scope:=relabel scope X.env }) (RR acc { cenv with scope:=relabel scope X.env }) s₄) E s₃) E s:=by
 have hl:∀b∈fp,b<s.heap.objs.size:=λb hb=>by obtain ⟨o,e,_⟩:=T.obj 0 _ st b hb;exact Heap.lt_size e
 refine wpAny_newObj_type (wpAny_newFunctionEnv B.cells (by intro y hy;simp at hy) (λh₁ hns₁ hsb₁=>?_) B.kind)
 dsimp only at hns₁ hsb₁ ⊢
 generalize hH2:s.heap.push { cls:=.type "list",dict:=none,data:=.seq ([]:List Value).toArray }=H2 at hns₁ hsb₁ ⊢
 have hC:H2.objs.size=s.heap.objs.size+1:=by rw [← hH2,Heap.size_push]
 generalize hD:s.heap.objs.size=D at hC hl hRR hXX ⊢
 generalize hCC:H2.objs.size=C at hC hns₁ hsb₁ ⊢
 have hDC:D≠C:=by omega
 have old:∀b o,s.heap.get? b=some o->h₁.get? b=some o:=λb o e=>hsb₁.extBut b o (Nat.ne_of_lt (by have z:=Heap.lt_size e;rw [hD] at z;exact Nat.lt_of_lt_of_le z (by rw [hC];exact Nat.le_succ _))) (Heap.get?_push_of_some _ (hH2 ▸ Heap.get?_push_of_some _ e))
 have hacc:h₁.get? D=some { cls:=.type "list",data:=.seq ([]:List Value).toArray 0 }:=hsb₁.extBut _ _ hDC (Heap.get?_push_of_some _ (hH2 ▸ (by rw [← hD];exact Heap.get?_push_size _ rfl)))
 have hfr:∀a,D<=a->s.heap.get? a=none:=λa ha=>by
  cases e:s.heap.get? a with
  | none=>rfl
  | some o=>exact absurd (Heap.lt_size e) (by rw [hD];exact Nat.not_lt.mpr ha)
 have hHn:∀a,D<=a->H a=none:=λa ha=>I.hok.fresh (by omega)
 have ok:(Zq X scope cl C (bN2 X.N ts ix) s H fp).Ok:=Qto I B h1 h3 (by omega) hf (by rw [hD];exact hl)
 generalize hK:Zq X scope cl C (bN2 X.N ts ix) s H fp=K at ok
 have kp:K.prog=X.prog:=by rw [← hK];rfl
 have kw:K.w=X.w:=by rw [← hK];rfl
 have kK:K.K=X.K:=by rw [← hK];rfl
 have kA:K.A=X.A:=by rw [← hK];rfl
 have kc:K.calm=true:=by rw [← hK];exact hc
 have kN:K.N=bN2 X.N ts ix:=by rw [← hK];rfl
 have kenv:K.env=compEnvC scope cl C X.env:=by rw [← hK];rfl
 have kloc:K.env.locals=C:=by rw [← hK];rfl
 have kfs:K.fs=frs X.stack:=by rw [← hK];rfl
 have kex:K.ex=fp:=by rw [← hK];rfl
 have kpn:K.pn=[]:=by rw [← hK];rfl
 have ks:K.s₀=s:=by rw [← hK];rfl
 have kH:K.H₀=H:=by rw [← hK];rfl
 have kx:K.xe=λ_ _=>False:=by rw [← hK];rfl
 have kcl:K.env.cells=cl:=by rw [← hK];rfl
 have cellLt:∀y c,cl.lookup y=some c->c<D:=λy c q=>by obtain ⟨v,z⟩:=I.cell y c (h1 y c q);rw [← hD];exact z.lt
 have stkLt:∀b∈frs X.stack,b<D:=λb hb=>by
  rcases List.mem_cons.mp (I.stkSub b hb) with q | q
  ·rw [q,← hD];exact I.lt
  ·rcases Nat.lt_or_ge b D with z | z
   ·exact z
   ·exact absurd q (I.nofs (by omega))
 -- the state at the block's begin
 have I0:∀tk,Inv K [(D,{ cls:=.type "list",data:=.seq ([]:List Value).toArray 0 })] (bS2 σ (ts.map λ_=>none) ix) H { s with heap:=h₁,toks:=tk }:=λtk=>by
  refine ⟨ok,by rw [ks],I.bare,by rw [ks,kH];exact Un.kept old,?_,?_,?_,?_,?_,by rw [kp,kw];exact I.hok.kept old,?_⟩
  ·refine ⟨_,by rw [kloc];exact hns₁,λi y v e1 e2 e3=>?_⟩
   rw [kN] at e1
   by_cases hlt:i<ts.length
   ·unfold bS2 at e2
    rw [List.getElem?_append_left (by simpa using hlt),List.getElem?_map] at e2
    cases hts:ts[i]? with
    | none=>rw [hts] at e2;cases e2
    | some y'=>rw [hts] at e2;have e2:(some (none:Option V))=some (some v):=e2;cases e2
   ·obtain ⟨i,rfl⟩:∃i',i=ts.length+i':=⟨i-ts.length,by omega⟩
    have e1':(ix.map λi=>X.N.getD i Str.empty)[i]? = some y:=by
     unfold bN2 at e1
     rw [List.getElem?_append_right (by omega),show ts.length+i-ts.length=i by omega] at e1
     exact e1
    have e2':(ix.map λi=>(σ[i]?).getD none)[i]? = some (some v):=by
     unfold bS2 at e2
     rw [List.getElem?_append_right (by rw [List.length_map];omega),List.length_map,show ts.length+i-ts.length=i by omega] at e2
     exact e2
    rw [List.getElem?_map] at e1' e2'
    cases q:ix[i]? with
    | none=>rw [q] at e1';cases e1'
    | some j =>
     rw [q] at e1' e2'
     obtain ⟨y',a1,a2⟩:=hix j (List.mem_of_getElem? q)
     have a3:X.N.getD j Str.empty=y':=by simp [List.getD,a1]
     have ey:y'=y:=by rw [← a3];exact Option.some.inj e1'
     subst ey
     have es:σ[j]? = some (some v):=by
      have z:(σ[j]?).getD none=some v:=Option.some.inj e2'
      cases w:σ[j]? with
      | none=>rw [w] at z;cases z
      | some o=>rw [w] at z;have z':o=some v:=z;rw [z']
     obtain ⟨m,hn,hlk⟩:=I.loc
     have hk:=B.free (y',.free) (PySem.mem_of_lookup a2) rfl
     have hk:X.env.kindOf y'=some .cell\/X.env.kindOf y'=some .free:=hk
     have vis:Vis X.env.scope y':=hk.elim (λz=>.inr (.inl z)) λz=>.inr (.inr z)
     obtain ⟨u,ru,lk⟩:=hlk j y' v a1 es vis
     refine ⟨u,ru,?_⟩
     rcases lk with ⟨k,_⟩ | ⟨_,c,ec,ce⟩
     ·rcases hk with z | z <;> (rw [k] at z;cases z)
     ·obtain ⟨c',ec'⟩:=h3 (y',.free) (PySem.mem_of_lookup a2) rfl
      have ec':cl.lookup y'=some c':=ec'
      have:c'=c:=Option.some.inj ((h1 y' c' ec').symm.trans ec)
      subst this
      refine .inr ⟨?_,c',by rw [kcl];exact ec',?_⟩
      ·show K.env.scope.names.lookup y'=_\/K.env.scope.names.lookup y'=_
       rw [kenv]
       exact Ze a2
      ·obtain ⟨oc,hoc,r⟩:=ce
       exact ⟨oc,old _ _ hoc,r⟩
  ·intro y c q
   rw [kcl] at q
   obtain ⟨v,oc,hoc,r⟩:=I.cell y c (h1 y c q)
   exact ⟨v,oc,old _ _ hoc,r⟩
  ·rw [kloc];exact hHn _ (by omega)
  ·intro y c q
   rw [kcl] at q
   exact I.freeC y c (h1 y c q)
  ·intro p hp
   rw [kpn] at hp
   have e:p=(D,{ cls:=.type "list",data:=.seq ([]:List Value).toArray 0 }):=by simpa using hp
   subst e
   refine ⟨hacc,hHn _ (Nat.le_refl _),by rw [kloc];exact hDC,?_,λv z=>?_⟩
   ·rw [kfs];intro z;exact absurd (stkLt D z) (Nat.lt_irrefl _)
   ·have z':Data.seq _ _=Data.cell v:=z
    cases z'
  ·rw [kN];simp [bS2,bN2]
 have stat:∀{H':Hp} {ob:Obj},(∀b∈fp,H' b=none)->∀b∈fp,FpOk K [(D,ob)] H' b:=λ{H' ob} hn b hb=>by
  refine ⟨hn b hb,?_,?_,.inl (by rw [kex];exact hb),?_,?_⟩
  ·rw [kloc];exact Nat.ne_of_lt (Nat.lt_of_lt_of_le (hl b hb) (by rw [hC];exact Nat.le_succ _))
  ·rw [kfs];intro z
   rcases List.mem_cons.mp (I.stkSub b z) with q | q
   ·exact (hf b hb).2.1 q
   ·exact (hf b hb).2.2.1 q
  ·intro y c q;rw [kcl] at q;exact (hf b hb).2.2.2.2.1 y c (h1 y c q)
  ·intro p hp;rw [kpn] at hp
   have e:p=(D,ob):=by simpa using hp
   subst e
   exact Nat.ne_of_gt (hl b hb)
 have st₁:tn 0 h₁:=T.keep _ _ _ st λb hb o e=>old b o e
 have loop:∀tk,codeAny (model X.prog X.w) X.A (.compLoop (.ListComp elt [⟨tg,iter,ifs,0⟩] scope pos) 0 (.ref it) (.ref D) (compEnvC scope cl C X.env)) (RR (.ref D) (compEnvC scope cl C X.env)) { s with heap:=h₁,toks:=tk }:=by
  intro tk
  refine Qax (λn s'=>∃i o H' ys its c,o.length=ts.length/\Inv K [(D,{ cls:=.type "list",data:=.seq (its:List Value).toArray c })] (bS2 σ o ix) H' s'/\Vals ys its/\tn i s'.heap/\(∀b∈fp,H' b=none)/\W i n ys H') ?_ m₀
   ⟨0,ts.map (λ_=>none),H,[],[],0,by simp,I0 tk,.nil,st₁,λb hb=>(hf b hb).1,w0⟩
  rintro n s1 ⟨i,o,H1,ys,its,c,ol,I1,rv,t1,f1,w1⟩
  rcases turn i n ys H1 w1 with ⟨stop,hz,g⟩ | ⟨go,hz,step⟩
  ·have dn:=T.done K kp kw kK kc i _ s1 _ H1 (notedBy (model X.prog X.w) X.A (compEnvC scope cl C X.env) λe s'=>RR (.ref D) (compEnvC scope cl C X.env) (.error e) s') I1 (stat f1) t1 stop
   rw [kA] at dn
   refine thn dn λr s2 ⟨hr,I2⟩=>?_
   subst hr
   obtain ⟨p1,p2,p3,p4,p5⟩:=I2.pin (D,{ cls:=.type "list",data:=.seq its.toArray c }) (List.mem_append_right _ (List.mem_singleton.mpr rfl))
   have u2:=I2.base
   rw [kfs,kex,kH,ks] at u2
   refine hRR D C (compEnvC scope cl C X.env) s2 ys H1 rfl ?_ p2 (by rw [← kloc];exact I2.free) (by obtain ⟨m,hm,_⟩:=I2.loc;rw [kloc] at hm;exact ⟨m,hm⟩) (by omega) hDC g
   have hk2:HOk X.prog X.w H1 s2.heap:=by have:=I2.hok;rw [kp,kw] at this;exact this
   refine I.call' (ch:=fp) (by have:=I2.os;rw [ks] at this;exact this) (u2.add (hfr D (Nat.le_refl _)) (hHn D (Nat.le_refl _))) (hk2.add p2 ⟨hz,its,c,rv,p1⟩) I2.bare λb hb=>?_
   exact ⟨(hf b hb).2.2.2.1,(hf b hb).2.1,(hf b hb).2.2.2.2.1,(hf b hb).2.2.2.2.2⟩
  ·have im:=T.item K kp kw kK kc i _ s1 _ H1 (notedBy (model X.prog X.w) X.A (compEnvC scope cl C X.env) λe s'=>RR (.ref D) (compEnvC scope cl C X.env) (.error e) s') I1 (stat f1) t1 go
   rw [kA] at im
   refine thn im λr s2 ⟨u,hr,h2⟩=>?_
   subst hr
   refine thn h2 λ_ s3 ⟨v,H3,I3,r3,y3,t3,f3⟩=>?_
   have q3:=step v H3 y3 o ol
   have I3':=I3.pinned (stat f3) (T.obj _ _ t3)
   have hg':=hg cl C s H fp
   rw [hK] at hg'
   have hgv:=hg' _ s3 _ H3 v u _ I3' r3 q3
   rw [kx,kp,kw,kA,kenv] at hgv
   refine wpAny_mono hgv (λ_ s4 ⟨σ4,H4,I4,o4,e4,l4,q4⟩=>?_) λ_ _ z=>z.elim
   subst e4
   have hi':=hi cl C s H fp
   rw [hK] at hi'
   have hiv:=hi' _ s4 _ H4 _ I4 q4
   rw [kx,kp,kw,kA,kenv] at hiv
   refine wpAny_mono hiv (λok s5 ⟨H5,I5,q5⟩=>?_) λ_ _ z=>z.elim
   have back:∀{H7:Hp} {s7:Shared} {o7:List (Option V)},Inv K ([(D,{ cls:=.type "list",data:=.seq its.toArray c })]++Qc1 fp s3.heap) (bS2 σ o7 ix) H7 s7->tn (i+1) s7.heap/\∀b∈fp,H7 b=none:=λ{H7 s7 o7} I7=>by
    refine ⟨T.keep _ _ _ t3 λb hb o e=>(I7.pin (b,o) (List.mem_append_right _ (List.mem_append_right _ (Vq hb e)))).1,λb hb=>?_⟩
    obtain ⟨ob,e,d⟩:=T.obj _ _ t3 b hb
    exact (I7.pin (b,ob) (List.mem_append_right _ (List.mem_append_right _ (Vq hb e)))).2.1
   cases ok with
   | false =>
    rw [if_neg Bool.false_ne_true]
    have q5:∃m',m' < n/\W (i+1) m' ys H5:=q5
    obtain ⟨m',hm,w5⟩:=q5
    obtain ⟨b1,b2⟩:=back I5
    exact ⟨m',hm,i+1,o4,H5,ys,its,c,l4,I5.unpinned,rv,b1,b2,w5⟩
   | true =>
    rw [if_pos rfl]
    have q5:te (bS2 σ o4 ix) H5 λy H2=>∃m',m' < n/\W (i+1) m' (ys++[y]) H2:=q5
    have hxe:∀pins' σ' H5 s5 e s',Inv K pins' σ' H5 s5->Px H5 s5 e s'->notedBy (model X.prog X.w) X.A (compEnvC scope cl C X.env) (λe s'=>RR (.ref D) (compEnvC scope cl C X.env) (.error e) s') e s':=by
     intro pins' σ' H5 s5 e s' J5 q
     have u5:=J5.base
     rw [kfs,kex,kH,ks] at u5
     refine hXX D C _ s5 H5 e s' rfl rfl ?_ (by rw [← kloc];exact J5.free) (by obtain ⟨m,hm,_⟩:=J5.loc;rw [kloc] at hm;exact ⟨m,hm⟩) (by omega) (λz=>Nat.lt_irrefl C (Nat.lt_trans (stkLt C z) (by omega))) q
     exact I.call' (ch:=fp) (by have:=J5.os;rw [ks] at this;exact this) u5 (by have:=J5.hok;rw [kp,kw] at this;exact this) J5.bare λb hb=>⟨(hf b hb).2.2.2.1,(hf b hb).2.1,(hf b hb).2.2.2.2.1,(hf b hb).2.2.2.2.2⟩
    have he':=he cl C s H fp _ (hK ▸ hxe)
    rw [hK] at he'
    have hev:=he' _ s5 _ H5 _ (I5.wish _) q5
    change wpAny (model K.prog K.w) K.A (eval elt K.env) _ _ s5 at hev
    rw [kp,kw,kA,kenv] at hev
    refine wpAny_mono hev (λy s6 ⟨yv,H6,I6,r6,m',hm,w6⟩=>?_) λ_ _ z=>z
    have I6:=I6.unwish
    obtain ⟨b1,b2⟩:=back I6
    have I6':=I6.unpinned
    obtain ⟨p1,p2,p3,p4,p5⟩:=I6'.pin (D,{ cls:=.type "list",data:=.seq its.toArray c }) (List.mem_append_right _ (List.mem_singleton.mpr rfl))
    have hlen:=rv.length
    refine call_meets F.slot_list_append ⟨_,p1,rfl⟩ F.entry_list_append (F.args_list_append_2 _ _) (PySem.list_append D its.toArray c y (by rw [List.size_toArray];omega)) ⟨p1,?_⟩
    have ea:its.toArray.push y=(its++[y]).toArray:=by simp
    obtain ⟨c',q⟩:∃c',(s6.heap.update D (Obj.mapSeq (·.push y))).get? D=some { cls:=.type "list",data:=.seq (its++[y]).toArray c' }:=⟨_,by rw [← ea];exact PySem.IsL.update p1 (·.push y)⟩
    refine ⟨m',hm,i+1,o4,H6,ys++[yv],its++[y],c',l4,?_,rv.append (.cons r6 .nil),T.keep _ _ _ b1 λb hb o e=>?_,b2,w6⟩
    ·have Id:Inv K [] (bS2 σ o4 ix) H6 s6:=I6'.pins_of λp hp=>by simp at hp
     have It:Inv K [] (bS2 σ o4 ix) H6 { s6 with heap:=s6.heap.update D (Obj.mapSeq (·.push y)) }:=Id.turned (t':=s6.toks) (it:=D) (λb o hb e=>(Heap.get?_update_other _ _ (Ne.symm hb)).trans e) p2 p3
      (.inr (by rw [ks];omega)) (λy' c' e=>by rw [kcl] at e;exact Nat.ne_of_lt (cellLt y' c' e)) (λp hp=>by rw [kpn] at hp;simp at hp)
     refine It.pins_of λp hp=>?_
     obtain rfl:p=(D,{ cls:=.type "list",data:=.seq (its++[y]).toArray c' }):=by simpa using hp
     refine ⟨q,p2,p3,p4,λv z=>?_⟩
     have z':Data.seq _ _=Data.cell v:=z
     cases z'
    ·exact (Heap.get?_update_other _ _ (Nat.ne_of_gt (hl b hb))).trans e
 have selfs:wpAny (model X.prog X.w) X.A (pyIter (.ref it)) (λit' s'=>codeAny (model X.prog X.w) X.A (.compLoop (.ListComp elt [⟨tg,iter,ifs,0⟩] scope pos) 0 it' (.ref D) (compEnvC scope cl C X.env)) (RR (.ref D) (compEnvC scope cl C X.env)) s')
   (notedBy (model X.prog X.w) X.A (compEnvC scope cl C X.env) λe s'=>RR (.ref D) (compEnvC scope cl C X.env) (.error e) s') { s with heap:=h₁,toks:=s.toks+([]:List (Str × Value)).length }:=T.self X.A 0 _ _ _ st₁ (loop _)
 exact codeAny_compStart_list (loop _) selfs
theorem Qj9 {cl:List (Str × Addr)}
  (I:Inv X pins σ H s) (hc:X.calm=true) (B:BlkScope X.env scope x) (h1:∀y c,cl.lookup y=some c->X.env.cells.lookup y=some c) (h3:∀y∈scope.names,y.2=.free->∃c,cl.lookup y.1=some c)
  (hix:∀i∈ix,∃y,X.N[i]? = some y/\scope.names.lookup y=some .free) (hN:(bN2 X.N ts ix).Nodup)
  (T:Turn X.prog X.w X.K tg J fp it tn) (st:tn 0 s.heap) (hf:∀b∈fp,FpOk X pins H b)
  (hg:∀cl C s₀ H₀ fp,PG (Zq X scope cl C (bN2 X.N ts ix) s₀ H₀ fp) tg gt)
  (he:∀cl C s₀ H₀ fp,PE (Zq X scope cl C (bN2 X.N ts ix) s₀ H₀ fp) elt te)
  (hi:∀cl C s₀ H₀ fp,PIfs (Zq X scope cl C (bN2 X.N ts ix) s₀ H₀ fp) ifs tt)
  (W:Nat->Nat->List V->Hp->Prop) (m₀:Nat) (w0:W 0 m₀ [] H)
  (turn:∀i m ys H,W i m ys H->(J.stop i H/\ys.length<=sizeLine/\G ys H)\/(J.go i H/\ys.length<sizeLine/\∀v H',J.yld i H v H'->∀o:List (Option V),o.length=ts.length->gt v (bS2 σ o ix) H' λσ2 H2=>∃o2:List (Option V),σ2=bS2 σ o2 ix/\o2.length=ts.length /\
    tt σ2 H2 λb H1=>if b=true then te σ2 H1 λy H2=>∃m',m' < m/\W (i+1) m' (ys++[y]) H2 else ∃m',m' < m/\W (i+1) m' ys H1))
  (hRR:∀D C s' ys H',Inv X pins σ (upd H' D (.lst ys)) s'->H' D=none->H' C=none->(∃m,s'.heap.Ns C m)->s.heap.objs.size<=C->D≠C->G ys H'->RR (.ref D) C (.ok .next) s') :
  wpAny (model X.prog X.w) X.A (newList []) (λacc s₃=>wpAny (model X.prog X.w) X.A (newFunctionEnv scope X.env.globals cl [] X.env.qual none .none (some X.env)) (λcenv s₄ =>
   codeAny (model X.prog X.w) X.A (.compStart (.ListComp elt [⟨tg,iter,ifs,0⟩] scope pos) 0 (.ref it) acc { cenv with scope:=relabel scope X.env }) (RR acc cenv.locals) s₄) E s₃) E s :=
 Qj8 (RR:=λacc cenv r s=>RR acc cenv.locals r s) (Px:=λ_ _ _ _=>False) I hc B h1 h3 hix hN T st hf hg (λcl C s₀ H₀ fp xe _=>PE.nox (he cl C s₀ H₀ fp)) hi W m₀ w0 turn (λD C cenv s' ys H' e=>by subst e;exact hRR _ _ _ _ _) λ_ _ _ _ _ _ _ _ _ _ _ _ _ _ z=>z.elim
theorem Qf7 {cl:List (Str × Addr)}
  (I:Inv X pins σ H s) (hc:X.calm=true) (B:BlkScope X.env scope x) (h1:∀y c,cl.lookup y=some c->X.env.cells.lookup y=some c) (h3:∀y∈scope.names,y.2=.free->∃c,cl.lookup y.1=some c)
  (hix:∀i∈ix,∃y,X.N[i]? = some y/\scope.names.lookup y=some .free) (hN:(bN X.N x ix).Nodup)
  (T:Turn X.prog X.w X.K (.Name x px) J fp it tn) (st:tn 0 s.heap) (hf:∀b∈fp,FpOk X pins H b)
  (he:∀cl C s₀ H₀ fp,PE (Zq X scope cl C (bN X.N x ix) s₀ H₀ fp) elt te)
  (hi:∀cl C s₀ H₀ fp,PIfs (Zq X scope cl C (bN X.N x ix) s₀ H₀ fp) ifs tt)
  (W:Nat->Nat->List V->Hp->Prop) (m₀:Nat) (w0:W 0 m₀ [] H)
  (turn:∀i m ys H,W i m ys H->(J.stop i H/\ys.length<=sizeLine/\G ys H)\/(J.go i H/\ys.length<sizeLine/\∀v H',J.yld i H v H' ->
    tt (bS σ (some v) ix) H' λb H1=>if b=true then te (bS σ (some v) ix) H1 λy H2=>∃m',m' < m/\W (i+1) m' (ys++[y]) H2 else ∃m',m' < m/\W (i+1) m' ys H1))
  (hRR:∀D C s' ys H',Inv X pins σ (upd H' D (.lst ys)) s'->H' D=none->H' C=none->(∃m,s'.heap.Ns C m)->s.heap.objs.size<=C->D≠C->G ys H'->RR (.ref D) C (.ok .next) s') :
  wpAny (model X.prog X.w) X.A (newList []) (λacc s₃=>wpAny (model X.prog X.w) X.A (newFunctionEnv scope X.env.globals cl [] X.env.qual none .none (some X.env)) (λcenv s₄ =>
   codeAny (model X.prog X.w) X.A (.compStart (.ListComp elt [⟨.Name x px,iter,ifs,0⟩] scope pos) 0 (.ref it) acc { cenv with scope:=relabel scope X.env }) (RR acc cenv.locals) s₄) E s₃) E s :=
 Qj9 (ts:=[x]) (gt:=Qg8 0) I hc B h1 h3 hix hN T st hf (λcl C s₀ H₀ fp=>Qim hN rfl (.inl (lookup_relabel_local B.lx)) (.inr (lookup_relabel_local B.lx))) he hi W m₀ w0 (λi m ys H hw=>(turn i m ys H hw).imp id λ⟨a,b,c⟩=>⟨a,b,λv H' hy o ho=>by
  match o,ho with
  | [o],_=>exact ⟨[some v],rfl,rfl,c v H' hy⟩⟩) hRR
def Qny (wi:TI) (tt:TT) (te:TE) (ix:List Nat):TE:=λσ H Q=>wi σ H λJ H1=>∃(W:Nat->Nat->List V->Hp->Prop) (m₀:Nat),W 0 m₀ [] H1 /\
 ∀i m ys H,W i m ys H->(J.stop i H/\ys.length<=sizeLine/\∀l,H l=none->Q (.ref l) (upd H l (.lst ys)))\/(J.go i H/\ys.length<sizeLine/\∀v H',J.yld i H v H' ->
  tt (bS σ (some v) ix) H' λb H1=>if b=true then te (bS σ (some v) ix) H1 λy H2=>∃m',m' < m/\W (i+1) m' (ys++[y]) H2 else ∃m',m' < m/\W (i+1) m' ys H1)
theorem Qgb (I:Inv X pins σ H s) (B:BlkScope X.env scope x):∀y∈scope.names,y.2=.free->∃c,X.env.cells.lookup y.1=some c :=
 λy hy hf=>I.ok.has y.1 (B.free y hy hf)
theorem Inv.blkGone {s₀:Shared} {H₀:Hp} {σ₀:St} (I₀:Inv X pins σ₀ H₀ s₀) (I:Inv X pins σ H s) (hC:s₀.heap.objs.size<=C) (hn:H C=none) (hs:Heap.SameBut C s.heap h'):Inv X pins σ H { s with heap:=h' } :=
 I.turned (t':=s.toks) (it:=C) (λb o hb e=>(hs.2 b hb).trans e) hn (Nat.ne_of_gt (Nat.lt_of_lt_of_le I₀.lt hC)) (.inr (Nat.le_trans I₀.sz hC))
  (λx c e=>by obtain ⟨v,z⟩:=I₀.cell x c e;exact Nat.ne_of_lt (Nat.lt_of_lt_of_le z.lt hC)) (λp hp=>Nat.ne_of_lt (Nat.lt_of_lt_of_le (Heap.lt_size (I₀.pin p hp).1) hC))
theorem Qoy (ix:List Nat) (hc:X.calm=true) (B:BlkScope X.env scope x)
  (hix:∀i∈ix,∃y,X.N[i]? = some y/\scope.names.lookup y=some .free) (hN:(bN X.N x ix).Nodup) (hi:PI X (.Name x px) iter wi)
  (ht:∀cl C s₀ H₀ fp,PIfs (Zq X scope cl C (bN X.N x ix) s₀ H₀ fp) ifs tt)
  (he:∀cl C s₀ H₀ fp,PE (Zq X scope cl C (bN X.N x ix) s₀ H₀ fp) elt te)
  (hs:∀x,foldedSetIterable iter X.env x=pure x:=by intro _;rfl) :
  PE X (.ListComp elt [⟨.Name x px,iter,ifs,0⟩] scope pos) (Qny wi tt te ix):=by
 intro pins s σ H Q I h
 obtain ⟨cl,hcl,h1,h3⟩:=Qai (Qgb I B)
 rw [eval_ListComp]
 refine wpAny_comprehension_free (use:=none) rfl hs hcl B.kind B.names (thn (hi pins s σ H _ I h) λv s1 h1'=>thn h1' λitv s2 h2=>?_)
 obtain ⟨it,fp,tn,J,H2,e,I2,T,st2,f2,W,m0,w0,turn⟩:=h2
 subst e
 refine Qf7 (G:=λys H'=>∀l,H' l=none->Q (.ref l) (upd H' l (.lst ys))) I2 hc B h1 h3 hix hN T st2 f2 he ht W m0 w0 turn λD C s' ys H' I' hD hC hm hCs hDC g=>?_
 obtain ⟨m,hm⟩:=hm
 refine ⟨m,hm,λh' hsb=>⟨.ref D,upd H' D (.lst ys),I2.blkGone I' hCs (by rw [Qg (Ne.symm hDC)];exact hC) hsb,rfl,g D hD⟩⟩
theorem Qot {py:Pos} {j:Nat} (ix:List Nat) (hc:X.calm=true) (B:BlkScope X.env scope x)
  (hNd:X.N.Nodup) (hj:X.N[j]? = some y) (hy:Loc X.env.scope y)
  (hsw:swapsWith (.ListComp elt [⟨.Name x px,iter,ifs,0⟩] scope pos) (some (.Name y py)) spos.line X.env=pure true)
  (hix:∀i∈ix,∃y,X.N[i]? = some y/\scope.names.lookup y=some .free) (hN:(bN X.N x ix).Nodup) (hi:PI X (.Name x px) iter wi)
  (ht:∀cl C s₀ H₀ fp,PIfs (Zq X scope cl C (bN X.N x ix) s₀ H₀ fp) ifs tt)
  (he:∀cl C s₀ H₀ fp,PE (Zq X scope cl C (bN X.N x ix) s₀ H₀ fp) elt te)
  (hf:X.fn y=true\/X.env.scope.names.lookup y=some .local:=by first | exact .inl rfl | exact .inr rfl | assumption)
  (hs:∀x,foldedSetIterable iter X.env x=pure x:=by intro _;rfl) :
  PS X (.Assign [.Name y py] (.ListComp elt [⟨.Name x px,iter,ifs,0⟩] scope pos) spos) (tAsg (Qny wi tt te ix) (Qg8 j)):=by
 intro pins s σ H D0 I h
 obtain ⟨cl,hcl,h1,h3⟩:=Qai (Qgb I B)
 rw [exec_Assign_Name_used _ _ _ _ hsw]
 refine wpAny_bind (wpAny_standAt (wpAny_bind ?_))
 show wpAny _ X.A (do let _ ← comprehension (.ListComp elt [⟨.Name x px,iter,ifs,0⟩] scope pos) scope X.env _ (newList []) false (eval iter X.env) (some (assign (.Name y py) X.env))) _ _ s
 refine wpAny_bind (wpAny_mono (wpAny_comprehension_free (use:=some (assign (.Name y py) X.env)) (Q:=λ_ s'=>SP X pins D0 .next s') rfl hs hcl B.kind B.names
  (thn (hi pins s σ H _ I h) λv s1 h1'=>thn h1' λitv s2 h2=>?_)) (λ_ s' hq=>wpAny_pure (wpAny_pure hq)) λ_ _ e=>e)
 obtain ⟨it,fp,tn,J,H2,e,I2,T,st2,f2,W,m0,w0,turn⟩:=h2
 subst e
 refine Qf7 (G:=λys H'=>∀l,H' l=none->Qg8 j (.ref l) σ (upd H' l (.lst ys)) D0.nx) I2 hc B h1 h3 hix hN T st2 f2 he ht W m0 w0 turn λD C s' ys H' I' hD hC hm hCs hDC g=>?_
 obtain ⟨m,hm⟩:=hm
 have hCn:upd H' D (.lst ys) C=none:=by rw [Qg (Ne.symm hDC)];exact hC
 show wpAny _ _ (assign (.Name y py) X.env (.ref D)) _ _ s'
 refine wpAny_assign_Name (Qcq I' hNd hj hy (show RelV (.ref D) (.ref D) from rfl) (λs3 I3 ⟨a,hsa,ha⟩=>?_) hf)
 have hCa:C≠a:=by
  rcases ha with z | z
  ·rw [z];exact Nat.ne_of_gt (Nat.lt_of_lt_of_le I2.lt hCs)
  ·obtain ⟨v,q⟩:=I2.cell y a z;exact Nat.ne_of_gt (Nat.lt_of_lt_of_le q.lt hCs)
 exact ⟨m,hm.sameBut hsa hCa,λh' hsb=>⟨_,_,I2.blkGone I3 hCs hCn hsb,g D hD⟩⟩
end L2
variable {d:PySem.W.Dat}
namespace L2
open PySem PySem.Spec PyProof.Rows
open PySem.W (Dat kqdP kqdPs kqdOk)
mutual
inductive DV (H:Hp):V->Dat->Prop
 | non:DV H .non .none
 | int (i:Int):DV H (.int i) (.int i)
 | str (x:Str):DV H (.str x) (.str x)
 | tup {a:Addr} {xs:List V} {ds:List Dat} (e:H a=some (.tup xs)) (r:DVs H xs ds):DV H (.ref a) (.tuple ds)
 | lst {a:Addr} {xs:List V} {ds:List Dat} (e:H a=some (.lst xs)) (r:DVs H xs ds):DV H (.ref a) (.list ds)
inductive DVs (H:Hp):List V->List Dat->Prop
 | nil:DVs H [] []
 | cons {x:V} {d:Dat} {xs:List V} {ds:List Dat} (h:DV H x d) (r:DVs H xs ds):DVs H (x::xs) (d::ds)
end
mutual
theorem DV.reads {P:Program} {w:World} {H:Hp} {h:Heap} (ok:HOk P w H h):∀{x:V} {d:Dat} {u:Value},DV H x d->RelV x u->∃as,Reads h u (kqdP d) as
 | _,_,_,.non,r=>by cases r;exact ⟨_,by rw [kqdP];exact Reads.none⟩
 | _,_,_,.int i,r=>by obtain ⟨t,rfl⟩:=r;exact ⟨_,by rw [kqdP];exact Reads.int i t⟩
 | _,_,_,.str x,r=>by obtain ⟨t,rfl⟩:=r;exact ⟨_,by rw [kqdP];exact Reads.str x t⟩
 | _,_,_,.tup (a:=a) e q,r=>by
  cases r
  obtain ⟨_,its,rv,o,h1,h2,n,h3⟩:=ok a _ e
  obtain ⟨as,z⟩:=DVs.reads ok q rv
  rw [kqdP]
  exact ⟨as,reads_tuple_at h1 h2 h3 (by simpa using z)⟩
 | _,_,_,.lst (a:=a) e q,r=>by
  cases r
  obtain ⟨_,its,n,rv,h1⟩:=ok a _ e
  obtain ⟨as,z⟩:=DVs.reads ok q rv
  rw [kqdP]
  exact ⟨_,reads_list_at h1 rfl rfl (by simpa using z)⟩
theorem DVs.reads {P:Program} {w:World} {H:Hp} {h:Heap} (ok:HOk P w H h):∀{xs:List V} {ds:List Dat} {us:List Value},DVs H xs ds->Vals xs us->∃as,ReadsAll h us (kqdPs ds) as
 | _,_,_,.nil,r=>by cases r;exact ⟨_,by rw [kqdPs];exact ReadsAll.nil⟩
 | _,_,_,.cons p q,r=>by
  cases r with
  | cons r1 r2 =>
   obtain ⟨as,z⟩:=DV.reads ok p r1
   obtain ⟨bs,y⟩:=DVs.reads ok q r2
   rw [kqdPs]
   exact ⟨_,ReadsAll.cons z y⟩
end
theorem Y5 (h:kqdOk n d=true) (hn:n<=9):SeqAt.shaped (kqdP d)=true:=by
 have l:=PySem.W.kqd_lay n d h
 unfold SeqAt.shaped
 rw [l.1,Bool.true_and]
 exact decide_eq_true (Nat.le_trans l.2 (Nat.le_trans hn (by decide)))
open Classical in
theorem Qet {e:Dat} (h:kqdOk n d=true) (h':kqdOk k e=true):PyData.eqv (kqdP d) (kqdP e)=decide (d=e):=by
 have q:=PySem.W.kqd_eqv n d e k h h'
 by_cases hq:d=e
 ·rw [decide_eq_true hq];exact q.mpr hq
 ·rw [decide_eq_false hq];exact Bool.eq_false_iff.mpr λx=>hq (q.mp x)
def rDat (neg:Bool):R2:=λx y H Q=>∃d e n,DV H x d/\DV H y e/\kqdOk n d=true/\kqdOk n e=true/\n<=9/\((d=e->Q (.bl (!neg)) H)/\(d≠e->Q (.bl neg) H))
theorem Qrz (hu:X.A.units+64<cLine):OpR X (compareOp .Eq) (rDat false):=by
 classical
 intro pins s σ H x y v u Q I rx ry h
 obtain ⟨d,e,n,dx,dy,hd,he,hn,q1,q2⟩:=h
 obtain ⟨as,ra⟩:=dx.reads I.hok rx
 obtain ⟨bs,rb⟩:=dy.reads I.hok ry
 refine eq_dataH ra rb (Y5 hd hn) (Y5 he hn) hu ?_
 rw [Qet hd he]
 by_cases hq:d=e
 ·rw [decide_eq_true hq];exact ⟨.bl true,H,I,rfl,q1 hq⟩
 ·rw [decide_eq_false hq];exact ⟨.bl false,H,I,rfl,q2 hq⟩
theorem Qrt (hu:X.A.units+64<cLine):OpR X (compareOp .NotEq) (rDat true):=by
 classical
 intro pins s σ H x y v u Q I rx ry h
 obtain ⟨d,e,n,dx,dy,hd,he,hn,q1,q2⟩:=h
 obtain ⟨as,ra⟩:=dx.reads I.hok rx
 obtain ⟨bs,rb⟩:=dy.reads I.hok ry
 refine ne_dataH ra rb (Y5 hd hn) (Y5 he hn) hu ?_
 rw [Qet hd he]
 by_cases hq:d=e
 ·rw [decide_eq_true hq];exact ⟨.bl false,H,I,rfl,q1 hq⟩
 ·rw [decide_eq_false hq];exact ⟨.bl true,H,I,rfl,q2 hq⟩
theorem Qev:Vp X (.builtin "isinstance") (λxs H Q=>∃x T t b,xs=[x,.ty T]/\TyOf X.K H x (.type t)/\PySem.W.kitOne X.K (.type t) (.type T)=some b/\Q (.bl b) H):=by
 intro pins s σ H xs us Q I r h
 obtain ⟨x,T,t,b,rfl,ty,e,q⟩:=h
 obtain ⟨u,c,rfl,ru,rc⟩:=Qhr r
 cases (show c=Value.type T from rc)
 exact Qdl I ru ty e λtk=>⟨.bl b,H,I.tok _,rfl,q⟩
end L2
namespace SortT
open PySem PySem.W PyProof.Rows
structure Ord (f:Nat->Nat->Bool):Prop where
 asym:∀i j,f i j=true->f j i=false
 tr:∀i j k,f j i=false->f k j=false->f k i=false
section
variable {f:Nat->Nat->Bool} (O:Ord f)
include O in
abbrev at_ (p:Array Nat) (i:Nat):Nat:=p.getD i 0
end
end SortT
namespace L2
open PySem PySem.Spec PyProof.Rows
theorem Ya.there {h:Heap} (x:Ya P w H h a o):∃ob,h.get? a=some ob:=by
 cases o with
 | lst xs=>obtain ⟨_,_,_,_,e⟩:=x;exact ⟨_,e⟩
 | tup xs=>obtain ⟨_,_,_,o,e,_⟩:=x;exact ⟨_,e⟩
 | dK kvs=>obtain ⟨_,_,_,_,o,_,_,e,_⟩:=x;exact ⟨_,e⟩
 | dT kvs=>obtain ⟨_,_,_,_,o,_,_,e,_⟩:=x;exact ⟨_,e⟩
 | set S n=>obtain ⟨o,_,_,_,e,_⟩:=x;exact ⟨_,e⟩
 | ins C dx fs=>obtain ⟨_,_,_,e,_⟩:=x;exact ⟨_,e⟩
 | own y=>exact x
 | xd fs=>obtain ⟨_,⟨_,_,_,e,_⟩,_⟩:=x;exact ⟨_,e⟩
 | rng lo hi=>obtain ⟨_,_,_,e⟩:=x;exact ⟨_,e⟩
 | frz ob u=>obtain ⟨e,_⟩:=x;exact ⟨_,e⟩
 | tbl ps=>obtain ⟨_,e,_⟩:=x;exact ⟨_,e⟩
 | met f y=>exact ⟨_,(show h.get? a=some _ from x)⟩
 | ext φ=>obtain ⟨_,e,_⟩:=x;exact e
end L2
variable {t:PySem.Addr}
namespace HT
open PySem PySem.Spec PyProof.Rows L2
theorem Qmb (ht:IsTup s.heap t ([]:List Value).toArray) (hb:IsTup s.heap b ws.toArray) (h1:Q (.ref b) s):wpAny (model prog w) A (binaryOp .Add (.ref t) (.ref b)) Q E s:=by
 obtain ⟨⟨cls,dd,data,sl⟩,ho,hc,n,hd⟩:=id ht
 obtain ⟨⟨cls2,dd2,data2,sl2⟩,ho2,hc2,n2,hd2⟩:=id hb
 simp only at hc hd hc2 hd2
 subst hc hd hc2 hd2
 exact concat_meets ⟨_,ho,rfl⟩ ⟨_,ho2,rfl⟩ noFill_tuple_add seq_tuple_add PySem.F.slot_tuple_add PySem.F.entry_tuple_add (PySem.F.args_tuple_add_2 _ _)
   (tuple_addW0 t b ([]:List Value).toArray ws.toArray n n2 dd dd2 sl sl2 rfl) ⟨ho,ho2,h1⟩
theorem Ub (ht:IsTup s.heap t items) (hs:s.heap.IsSliceOf sl vl vu .none) (pl:IsPart vl lo) (pu:IsPart vu hi)
  (hw:sIx items.size 0 lo=0/\sIx items.size items.size hi=items.size)
  (h:Q (.ref t) s):wpAny (model prog w) A (getItem (.ref t) (.ref sl)) Q E s:=by
 obtain ⟨os,hos,hcs,hds⟩:=id hs
 have hTs:s.TypeIs (.ref sl) "slice":=⟨os,hos,hcs⟩
 unfold getItem
 try with_reducible refine wpAny_holding ?_
 first | refine wpAny_bind (wpAny_pure ?_) | skip
 refine wpAny_bind (wpAny_sequenceKey ht.typeIs (by decide) ?_)
 refine wpAny_bind (wpAny_callSpecial?_slot (name:=Str.ofString "__getitem__") ht.typeIs PyProof.Rows.slot_tuple_getitem
  (wpAny_call_entry PyProof.Rows.slot_tuple_getitem ht.typeIs entry_tuple_getitem ?_ (args_tuple_getitem _ _)))
 show wpAny _ _ (Builtin.Tuple.tupleItemsOf (.ref t) >>= _) _ _ s
 refine wpAny_bind (tupleItemsOf_ ht ?_)
 refine wpAny_bind (wpAny_typeOf hTs ?_)
 rw [if_pos (by decide)]
 refine wpAny_bind (Z8 hs pl pu ?_)
 have hyes:(((sIx items.size 0 lo:Nat):Int) == 0 && (1:Int) == 1 && (sIx items.size items.size hi-sIx items.size 0 lo) == items.size)=true:=by
  rw [hw.1,hw.2];simp
 show wpAny _ _ (if (((sIx items.size 0 lo:Nat):Int) == 0 && (1:Int) == 1 && (sIx items.size items.size hi-sIx items.size 0 lo) == items.size)=true then _ else _) _ _ s
 rw [if_pos hyes]
 refine wpAny_bind (wpAny_bind (wpAny_typeOf ht.typeIs (wpAny_pure ?_)))
 rw [if_pos (by decide)]
 refine wpAny_bind (wpAny_rule ?_)
 first
  | exact wpAny_bind (wpAny_pure (wpAny_pure ⟨_,rfl,wpAny_pure h⟩))
  | exact wpAny_pure ⟨_,rfl,wpAny_pure h⟩
  | exact wpAny_bind (wpAny_pure ⟨_,rfl,wpAny_pure h⟩)
end HT
variable {o:PySem.Expr}
namespace L2
open PySem PySem.Spec PyProof.Rows
def Qui (K:PySem.W.Frag):R2:=λx y H Q=>∃a b ys,x=.ref a/\y=.ref b/\SqT K H a []/\SqT K H b ys/\Q (.ref b) H
theorem Qo7:OpR X (binaryOp .Add) (Qui X.K):=by
 intro pins s σ H x y v u Q I rx ry h
 obtain ⟨a,b,ys,rfl,rfl,ha,hb,q⟩:=h
 cases rx
 cases ry
 obtain ⟨its,r1,p1,_⟩:=I.tuple ha
 obtain ⟨its2,r2,p2,_⟩:=I.tuple hb
 have:its=[]:=by cases r1;rfl
 subst this
 exact HT.Qmb p1 p2 ⟨.ref b,H,I,rfl,q⟩
def rSlW (K:PySem.W.Frag):V->Option Int->Option Int->Hp->VK->Prop:=λx lo hi H Q=>∃a xs,x=.ref a/\SqT K H a xs /\
 (HT.sIx xs.length 0 lo=0/\HT.sIx xs.length xs.length hi=xs.length)/\Q (.ref a) H
theorem Qn5:SlR X (rSlW X.K):=by
 intro pins s σ H x v vl vu lo hi sl Q I rx hs pl pu h
 obtain ⟨a,xs,rfl,hx,hw,q⟩:=h
 cases rx
 obtain ⟨its,r,ht,hz⟩:=I.tuple hx
 have hlen:its.toArray.size=xs.length:=by rw [List.size_toArray];exact r.length.symm
 refine ⟨"tuple",_,PyProof.Rows.slot_tuple_getitem.lookup,ht.typeIs,?_⟩
 exact HT.Ub ht hs pl pu (by rw [hlen];exact hw) ⟨.ref a,H,I,rfl,q⟩
def FT (x:V) (H:Hp):Prop:=∃p o xs,x=.ref p/\H p=some (.frz o (.tup xs))/\o.dict=none
def isN (n:Int):Value->Bool
 | .int m _=>m == n
 | _=>false
theorem Qa0:∀{bs:List Bool} {its:List Value},Vals (bs.map V.bl) its->its=bs.map Value.bool
 | [],_,r=>by rw [List.map_nil] at r;cases r;rfl
 | b::bs,_,r=>by
  rw [List.map_cons] at r
  cases r with
  | cons h t=>rw [Qa0 t];cases h;rfl
def rAll:List V->Hp->VK->Prop:=λxs H Q=>∃(l:Addr) (bs:List Bool),xs=[.ref l]/\H l=some (.lst (bs.map V.bl))/\Q (.bl (bs.all id)) H
theorem Qmg (hc:X.calm=true):Vp X (.builtin "all") rAll:=by
 intro pins s σ H xs us Q I r h
 obtain ⟨l,bs,rfl,hl,q⟩:=h
 obtain ⟨u,rfl,ru⟩:=Qgh r
 cases ru
 obtain ⟨z,its,n,rv,e⟩:=I.hok l _ hl
 have eits:=Qa0 rv
 subst eits
 have hlist:s.heap.IsList l (bs.map Value.bool).toArray:=⟨_,e,rfl,n,rfl⟩
 refine call_all_walk (wpAny_pyIter_list hlist ?_)
 have hlt:l<s.heap.objs.size:=Heap.lt_size e
 refine ⟨_,_,_,_,_,_,λi=>bs.getD i false,rfl,Walks.list (A:=X.A.in1) (I.ok.hd hc) _ l (Nat.ne_of_lt hlt) (bs.map Value.bool).toArray,⟨⟨_,Heap.get?_push_size _ rfl,rfl,rfl⟩,hlist.push _⟩,?_,λh' tk hk=>?_⟩
 ·intro i v A' s' Q' hP hQ
  have hv:(bs.map Value.bool)[i]? = some v:=by simpa using hP
  rw [List.getElem?_map] at hv
  cases hb:bs[i]? with
  | none=>rw [hb] at hv;cases hv
  | some b =>
   rw [hb] at hv
   cases hv
   have:bs.getD i false=b:=by simp [List.getD_eq_getElem?_getD,hb]
   have hQ:s' (bs.getD i false) A':=hQ
   rw [this] at hQ
   exact wpAny_pure hQ
 ·refine ⟨.bl (bs.all id),H,I.kept (t':=tk) λb o eb=>hk b o (λhm=>?_) (Heap.get?_push_of_some _ eb),?_,q⟩
  ·rw [List.mem_singleton.mp hm] at eb
   exact absurd (Heap.lt_size eb) (Nat.lt_irrefl _)
  ·show Value.bool _=Value.bool _
   congr 1
   rw [List.size_toArray,List.length_map]
   rw [show (List.range bs.length).all (λi=>bs.getD i false)=((List.range bs.length).map λi=>bs.getD i false).all id by rw [List.all_map];rfl]
   congr 1
   apply List.ext_getElem
   ·simp
   ·intro i h1 h2
    simp only [List.length_map,List.length_range] at h1
    simp [List.getD_eq_getElem?_getD,h1]
end L2
namespace L2
open PySem PySem.Spec PyProof.Rows
open Builtin.Str (glued partsBetween occurrences tooLong strSub)
theorem Qck:∀{ws:List Str} {its:List Value},Vals (ws.map V.str) its->∃l:List (Str × Tok),its=strValues l/\l.map (·.1)=ws
 | [],_,r=>by rw [List.map_nil] at r;cases r;exact ⟨[],rfl,rfl⟩
 | w::ws,_,r=>by
  rw [List.map_cons] at r
  cases r with
  | cons h t =>
   obtain ⟨tk,rfl⟩:=h
   obtain ⟨l,rfl,e⟩:=Qck t
   exact ⟨(w,tk)::l,rfl,by rw [List.map_cons,e]⟩
theorem Uv:∀(ws:List Str) (tk:Nat),Vals (ws.map V.str) (strsFrom tk ws)
 | [],_=>.nil
 | w::ws,tk=>.cons ⟨tk,rfl⟩ (Uv ws (tk+1))
def Qug (K:PySem.W.Frag):V->List V->Hp->VK->Prop:=λx vs H Q=>∃(sep:Str) (l:Addr) (ws:List Str),x=.str sep/\vs=[.ref l]/\SqL K H l (ws.map V.str) /\
 tooLong (ws.toArray.foldl (λn w=>n+w.length+sep.length) 0)=false/\(glued sep ws).length<=sizeLine/\Q (.str (glued sep ws)) H
theorem Qpe:MtM X "str.join" (Qug X.K):=by
 intro pins s σ H x vs v us Q I rx rv h
 obtain ⟨sep,l,ws,rfl,rfl,hl,hz,hz2,q⟩:=h
 obtain ⟨t,rfl⟩:=rx
 obtain ⟨u,rfl,ru⟩:=rv.one
 cases ru
 obtain ⟨its,r',pl,_⟩:=I.list hl
 obtain ⟨lv,rfl,hlv⟩:=Qck r'
 refine call_meets PySem.F.slot_str_join (typeIs_str s sep t) PySem.F.entry_str_join (PySem.F.args_str_join_2 _ _) (meets_str_join_list sep t l lv (by rw [hlv];exact hz)) ⟨pl.isList,?_⟩
 match lv,hlv with
 | [],hlv =>
  subst hlv
  exact ⟨hz2,.str (glued sep []),H,I.tok _,⟨_,rfl⟩,q⟩
 | [p],hlv =>
  subst hlv
  exact ⟨.str p.1,H,I,⟨_,rfl⟩,q⟩
 | p::p'::r,hlv =>
  subst hlv
  exact ⟨hz2,.str (glued sep _),H,I.tok _,⟨_,rfl⟩,q⟩
def Y1 (x sep:Str):List Str:=partsBetween x (occurrences x sep 0 x.length (x.length+1)) sep.length
def Qmr:V->List V->Hp->VK->Prop:=λx vs H Q=>∃(y sep:Str),x=.str y/\vs=[.str sep]/\sep.length=1/\Builtin.Str.strKind sep=1/\0<y.length/\y.length<=sizeLine/\(Y1 y sep).length<=sizeLine /\
 ∀l,H l=none->Q (.ref l) (upd H l (.lst ((Y1 y sep).map V.str)))
theorem Qlm (x:Str):1<=Builtin.Str.strKind x:=by
 unfold Builtin.Str.strKind
 split
 ·decide
 ·split <;> decide
theorem Qlg:MtM X "str.split" Qmr:=by
 intro pins s σ H x vs v us Q I rx rv h
 obtain ⟨y,sep,rfl,rfl,h1,hk,hy,hz,hn,q⟩:=h
 obtain ⟨t,rfl⟩:=rx
 obtain ⟨u,rfl,tu,rfl⟩:=rv.one
 have hc:(decide (y.length<sep.length) || decide (Builtin.Str.strKind y<Builtin.Str.strKind sep))=false:=by
  have:=Qlm y
  rw [hk,h1]
  simp;omega
 have h0:(sep.length == 0)=false:=by rw [h1];rfl
 have fin:∀(its:List Value) (h':Heap) (tk:Nat),h'=s.heap.push { cls:=.type "list",data:=.seq its.toArray }->Vals ((Y1 y sep).map V.str) its->EP X pins σ Q (.ref s.heap.objs.size) { s with heap:=h',toks:=tk }:=λits h' tk eh rv=>by
  subst eh
  refine ⟨.ref s.heap.objs.size,_,I.laid (o:=.lst ((Y1 y sep).map V.str)) (t':=tk) (λb o e=>Heap.get?_push_of_some _ e) (Nat.le_refl _) ?_,rfl,q _ (I.hok.fresh (Nat.le_refl _))⟩
  exact ⟨by rw [List.length_map];exact hn,its,0,rv,Heap.get?_push_size _ rfl⟩
 cases he:(occurrences y sep 0 y.length (y.length+1)).isEmpty with
 | true =>
  have e:Y1 y sep=[y]:=by
   unfold Y1
   rw [List.isEmpty_iff.mp he]
   simp [partsBetween,strSub_whole]
  refine call_meets PySem.F.slot_str_split (typeIs_str s y t) PySem.F.entry_str_split (PySem.F.args_str_split_2 _ _) (meets_str_split_not_found y sep t tu hc h0 he) ?_
  exact fin [.str y t] _ s.toks rfl (by rw [e];exact .cons ⟨t,rfl⟩ .nil)
 | false =>
  refine call_meets PySem.F.slot_str_split (typeIs_str s y t) PySem.F.entry_str_split (PySem.F.args_str_split_2 _ _) (meets_str_split_sep y sep t tu hc h0 he hz hn) ?_
  exact fin (strsFrom s.toks (Y1 y sep)) _ _ rfl (Uv _ _)
end L2
variable {se:PySem.Expr}
namespace L2
open PySem PySem.Spec PyProof.Rows
open Builtin.Str (occurrences strSub subAt)
section
variable {lo hi st:Option Expr} {tl th ts:TO} {p2:Pos}
def Qm2 (x y:Str):List Str:=match occurrences x y 0 x.length 1 with
 | i::_=>[strSub x 0 i,y,strSub x (i+y.length) x.length]
 | []=>[x,Str.empty,Str.empty]
def G3 (y:Str) (a:Nat):Str:=⟨(y.cps.toList.drop a).toArray⟩
theorem Qa3 {a:Nat} (h:a<=y.length):Txt.slice y (some (a:Int)) none=G3 y a:=by
 have h2:a<=y.cps.toList.length:=by rw [Array.length_toList];exact h
 show StrLaws.sliceText y (some (a:Int)) none=_
 rw [StrLaws.sliceText_from ⟨by omega,by omega⟩]
 unfold G3
 rw [Int.toNat_natCast,List.take_of_length_le (by rw [List.length_drop];omega)]
def Gw {α:Type} (xs:List α) (lo hi st:Option Int):List α:=(sliceRange (sliceBounds lo hi st xs.length).1 (sliceBounds lo hi st xs.length).2.1 (sliceBounds lo hi st xs.length).2.2).filterMap (xs[·]?)
theorem Vals.pick {xs:List V} {its:List Value} (r:Vals xs its):∀(js:List Nat),Vals (js.filterMap (xs[·]?)) (js.filterMap (its[·]?))
 | []=>.nil
 | j::js=>by
  cases hx:xs[j]? with
  | none =>
   have:its[j]? = none:=by
    have h1:=r.length
    have h2:=List.getElem?_eq_none_iff.mp hx
    exact List.getElem?_eq_none_iff.mpr (by omega)
   rw [List.filterMap_cons_none hx,List.filterMap_cons_none this]
   exact Vals.pick r js
  | some x =>
   obtain ⟨u,hu,ru⟩:=r.get hx
   rw [List.filterMap_cons_some hx,List.filterMap_cons_some hu]
   exact .cons ru (Vals.pick r js)
def tSt (K:PySem.W.Frag) (te:TE) (tl th ts:TO):TE:=λσ H Q=>te σ H λx H1=>tl σ H1 λl H2=>th σ H2 λu H3=>ts σ H3 λc H4=>∃a xs,x=.ref a/\SqL K H4 a xs/\c≠some 0/\c≠none/\(Gw xs l u c).length<=sizeLine/\∀p,H4 p=none->Q (.ref p) (upd H4 p (.lst (Gw xs l u c)))
theorem Qgw (he:PE X e te) (hl:PO X lo tl) (hu:PO X hi th) (hst:PO X (some se) ts):PE X (.Subscript e (.Slice lo hi (some se) p2) pos) (tSt X.K te tl th ts):=by
 intro pins s σ H Q I h
 refine Subscript_ (thn (he pins s σ H _ I h) λv s1 ⟨x,H1,I1,r1,q1⟩=>?_)
 refine wpAny_Slice (thn (hl pins s1 σ H1 _ I1 q1) λvl s2 ⟨l,H2,I2,pl,q2⟩=>thn (hu pins s2 σ H2 _ I2 q2) λvu s3 ⟨u,H3,I3,pu,q3⟩=>thn (hst pins s3 σ H3 _ I3 q3) λvc s4 ⟨c,H4,I4',pc,q4⟩=>?_)
 obtain ⟨a,xs,rfl,hx,h0,h00,hz,q⟩:=q4
 cases r1
 have I4:Inv X pins σ H4 { s4 with heap:=s4.heap.push { cls:=.type "slice",data:=.fields #[vl,vu,vc] } }:=I4'.kept (t':=s4.toks) λb ob q=>Heap.get?_push_of_some _ q
 obtain ⟨its,r,ht,hz'⟩:=I4.list hx
 have hg:wpAny (model X.prog X.w) X.A (getItem (.ref a) (.ref s4.heap.objs.size)) (EP X pins σ Q) X.xe { s4 with heap:=s4.heap.push { cls:=.type "slice",data:=.fields #[vl,vu,vc] } }:=by
  refine wpAny_getItem_list_slice ht.isList (Heap.IsSliceOf.new ..) pl pu pc h0 ?_ (by have:=r.length;rw [List.size_toArray];omega)
  have e:slicePick its.toArray l u c=((sliceRange (sliceBounds l u c xs.length).1 (sliceBounds l u c xs.length).2.1 (sliceBounds l u c xs.length).2.2).filterMap (its[·]?)).toArray:=by
   unfold slicePick
   rw [List.size_toArray,r.length]
   simp
  rw [e]
  refine ⟨.ref _,_,I4.laid (t':=s4.toks) (o:=.lst (Gw xs l u c)) (λb ob q=>Heap.get?_push_of_some _ q) (Nat.le_refl _) ?_,rfl,q _ (I4.hok.fresh (Nat.le_refl _))⟩
  exact ⟨hz,_,0,r.pick _,Heap.get?_push_size _ rfl⟩
 show wpAny (model X.prog X.w) X.A (subscriptTail e (.Slice lo hi (some se) p2) (.ref a) (.ref s4.heap.objs.size)) (EP X pins σ Q) X.xe { s4 with heap:=s4.heap.push { cls:=.type "slice",data:=.fields #[vl,vu,vc] } }
 exact tail_any (ops:=[.ref a,.ref s4.heap.objs.size]) ht.isList.typeIs slot_list_getitem.lookup hg (by with_unfolding_all rfl)
end
end L2
namespace Mx
open PySem PySem.Spec L2
abbrev MI:=Int ⊕ List Int
def Qvd:MI->Int
 | .inl i=>hashInt i
 | .inr l=>reduceHash (Builtin.Tuple.tupleHashOf (l.map hashInt))
abbrev KVM:=List (MI × V × V)
abbrev VM:=List (MI × Value × Value)
def RelE (p:MI × V × V) (q:MI × Value × Value):Prop:=p.1=q.1/\RelV p.2.1 q.2.1/\RelV p.2.2 q.2.2
def entI (q:MI × Value × Value):DictEntry:={ hash:=Qvd q.1,key:=q.2.1,val:=q.2.2 }
def phi (a:Addr) (kvs:KVM) (h:Heap):Prop:=(a == sysModules)=false/\kvs.length<=sizeLine/\(kvs.map (·.1)).Nodup/\∃vs:VM,Paired RelE kvs vs/\∃o es ep,h.get? a=some o/\o.ExactDict/\o.data=.dict es ep/\es.toList=vs.map entI
def mixO (a:Addr) (kvs:KVM):HO:=.ext (phi a kvs)
def Qvt (H:Hp):MI->V->Prop
 | .inl i,y=>y=.int i
 | .inr l,y=>∃b,y=.ref b/\H b=some (.tup (l.map V.int))
def Keys (H:Hp) (kvs:KVM):Prop:=∀p∈kvs,Qvt H p.1 p.2.1
end Mx
variable {l ea:PySem.Addr} {B h'':PySem.Heap}
namespace L2
open PySem PySem.Spec PyProof.Rows
open PySem.W (hideAll of_hideAll hideAll_get hideAll_none funFrames_hide)
structure Fly (P:Program) (w:World) (base B:Heap) (l:List PySem.Env) (H:Hp) (s:Shared) (C ea t:Addr) (H':Hp) (s':Shared):Prop where
 os:s'.os=s.os
 bare:AllBare s'.gens
 un:Un (frs l) [] H H' s.heap s'.heap
 hok:HOk P w H' s'.heap
 bb:base.StaysIn B
 dom:∀b o,H' b=some o->∃ob,B.get? b=some ob
 kp:∀b ob,s.heap.get? b=some ob->H b=none->b∉frs l->B.get? b=some ob
 th:∀b ob,s.heap.get? b=some ob->b∉frs l->∃o',B.get? b=some o'
 fly:Heap.FlyingW B l ea (.ref C) (.ref t) s'.heap
 new:s.heap.get? ea=none
theorem Qf1 {h:Heap} (ok:HOk P w H' h) (dom:∀b o,H' b=some o->∃ob,B.get? b=some ob) (k1:B.StaysIn h) (k2:B.StaysIn h''):HOk P w H' h'':=λa o e =>
 (ok a o e).stay (λb u hb q=>by
  have:∃o',H' b=some o':=by
   rcases hb with rfl | hb
   ·exact ⟨_,e⟩
   ·exact ⟨_,hb⟩
  obtain ⟨o',e'⟩:=this
  obtain ⟨ob,eb⟩:=dom b o' e'
  have:=k1 b ob eb
  rw [q] at this
  cases this
  exact k2 b _ eb) (λ_ q=>q) λ_ _ q=>q
section
variable {l:List PySem.Env}
theorem Fly.on (f:Fly P w base B l H s C ea t H' s') (hf:Heap.FlyingW B l ea (.ref C) (.ref t) h'') (hu:s'.heap.UpToSlots h''):Fly P w base B l H s C ea t H' { s' with heap:=h'' } where
 os:=f.os
 bare:=f.bare
 un:=by
  refine ⟨λb o e n nf _=>hf.1 b o (f.kp b o e n nf),λb o e n hb _=>?_,f.un.free,λb o e _=>?_,f.un.tups,f.un.frzs,f.un.tbls⟩
  ·obtain ⟨sl,e1⟩:=f.un.slot b o e n hb (by simp)
   obtain ⟨_,o',e2,nd⟩:=f.fly.2.2.1.mem hb
   have z:some { o with slots:=sl }=some o':=e1.symm.trans e2
   cases z
   obtain ⟨sl',e4⟩:=hu b { o with slots:=sl } e1 nd
   exact ⟨sl',e4⟩
  ·by_cases hb:b∈frs l
   ·obtain ⟨_,o',e2,nd⟩:=f.fly.2.2.1.mem hb
    obtain ⟨sl,e3⟩:=hu b _ e2 nd
    exact ⟨_,e3⟩
   ·obtain ⟨o',e1⟩:=f.th b o e hb
    exact ⟨_,hf.1 b o' e1⟩
 hok:=Qf1 f.hok f.dom f.fly.1 hf.1
 bb:=f.bb
 dom:=f.dom
 kp:=f.kp
 th:=f.th
 fly:=hf
 new:=f.new
end
structure Cx.Plain (X:Cx):Prop where
 ex:X.ex=[]
 stk:X.stack=X.env::X.outer
 frame:X.env.frame=some X.env.locals
theorem Cx.Plain.mem (p:X.Plain):b∈frs X.stack↔b=X.env.locals\/b∈frs X.outer:=by
 rw [p.stk]
 unfold frs
 rw [List.filterMap_cons,p.frame]
 exact List.mem_cons
theorem Inv.old (I:Inv X pins σ H s) {o:Obj} (e:X.s₀.heap.get? b=some o):b≠X.env.locals:=Nat.ne_of_lt (Nat.lt_of_lt_of_le (Heap.lt_size e) I.ok.above)
theorem Fly.out (p:X.Plain) (I:Inv X pins σ H s) (f:Fly X.prog X.w X.base B X.stack H s C ea t H' s') (hf:Heap.FlyingW B X.outer ea (.ref C) (.ref t) h'') (hu:s'.heap.UpToSlots h''):Fly X.prog X.w X.base B X.outer X.H₀ X.s₀ C ea t H' { s' with heap:=h'' }:=by
 have hex:∀b,b∉X.ex:=λb=>by rw [p.ex];simp
 have nst:∀b o,X.s₀.heap.get? b=some o->b∉frs X.outer->b∉frs X.stack:=λb o e nf z=>(p.mem.mp z).elim (I.old e) nf
 have kp:∀b ob,X.s₀.heap.get? b=some ob->X.H₀ b=none->b∉frs X.outer->B.get? b=some ob:=λb o e n nf=>f.kp b o (I.base.keep b o e n nf (hex b)) (I.base.free b o e n (hex b)) (nst b o e nf)
 have th:∀b ob,X.s₀.heap.get? b=some ob->b∉frs X.outer->∃o',B.get? b=some o':=λb o e nf=>by
  obtain ⟨o1,e1⟩:=I.base.there b o e (hex b)
  exact f.th b o1 e1 (nst b o e nf)
 refine ⟨f.os.trans I.os,f.bare,⟨λb o e n nf _=>hf.1 b o (kp b o e n nf),λb o e n hb _=>?_,λb o e n _=>?_,λb o e _=>?_,λb xs e=>f.un.tups b xs (I.base.tups b xs e),λb o u e=>f.un.frzs b o u (I.base.frzs b o u e),λb ps e=>?_⟩,Qf1 f.hok f.dom f.fly.1 hf.1,f.bb,f.dom,kp,th,hf,?_⟩
 ·obtain ⟨sl,e1⟩:=I.base.slot b o e n hb (hex b)
  obtain ⟨sl2,e2⟩:=f.un.slot b _ e1 (I.base.free b o e n (hex b)) (p.mem.mpr (.inr hb)) (by simp)
  obtain ⟨_,o',e3,nd⟩:=f.fly.2.2.1.mem (p.mem.mpr (.inr hb))
  have z:=e2.symm.trans e3
  cases z
  obtain ⟨sl',e4⟩:=hu b { o with slots:=sl2 } e2 nd
  exact ⟨sl',e4⟩
 ·obtain ⟨sl,e1⟩:=I.base.any e n (hex b)
  exact f.un.free b _ e1 (I.base.free b o e n (hex b)) (by simp)
 ·by_cases hb:b∈frs X.outer
  ·obtain ⟨_,o',e3,nd⟩:=f.fly.2.2.1.mem (p.mem.mpr (.inr hb))
   obtain ⟨sl,e4⟩:=hu b _ e3 nd
   exact ⟨_,e4⟩
  ·obtain ⟨o',e1⟩:=th b o e hb
   exact ⟨_,hf.1 b o' e1⟩
 ·obtain ⟨m1,e1⟩:=I.base.tbls b ps e
  obtain ⟨m2,e2⟩:=f.un.tbls b _ e1
  exact ⟨m1++m2,by rw [e2,Array.append_assoc]⟩
 ·cases q:X.s₀.heap.get? ea with
  | none=>rfl
  | some o =>
   obtain ⟨o1,e1⟩:=I.base.there ea o q (hex ea)
   rw [f.new] at e1
   cases e1
end L2
variable {e₀:PySem.Expr} {cx:PySem.Str} {C0:PySem.Addr} {b₀:PySem.Stmt} {suite:List PySem.Stmt} {np hpos:PySem.Pos}
namespace L2
open PySem PySem.Spec PyProof.Rows
theorem Uq {M:Model} {j:Nat} {n:Str} {Q:Unit->Shared->Prop} (I:Inv X pins σ H s) (hN:X.N.Nodup) (hj:X.N[j]? = some n) (hl:X.env.kindOf n=some .local)
  (h:∀s',Inv X pins (σ.set j none) H s'->Q () s'):wpAny M A (do bindName X.env n .none;unbindBehindTheSuite X.env n pos) Q E s:=by
 obtain ⟨m,hn,hlo⟩:=id I.loc
 have hp:(X.env.scope.kind == .class || (X.env.scope.kind == .module && X.env.locals != X.env.globals))=false:=by rw [I.ok.kind];rfl
 refine wpAny_bind (wpAny_bindName (wpAny_storeName_local hl hn (λh₁ hn₁ hs₁=>?_) hp))
 unfold unbindBehindTheSuite
 refine wpAny_onRaise ?_
 unfold unbindName
 refine wpAny_bind (wpAny_point (wpAny_bind ?_))
 unfold deleteName
 simp only [hl,hp]
 rw [if_neg (by decide)]
 refine wpAny_bind (wpAny_nsDel_keeps hn₁ λh₂ v hn₂ hs₂=>?_)
 simp only [if_true,Option.isSome_some,Bool.not_true,Bool.false_eq_true,if_false]
 refine wpAny_pure (wpAny_point (h _ ?_))
 have hs:=hs₁.trans hs₂
 have hiσ:j<σ.length:=by rw [I.len];exact (List.getElem?_eq_some_iff.mp hj).1
 refine ⟨I.ok,I.os,I.bare,⟨λb o e n hb hx=>?_,λb o e n hb hx=>?_,I.base.free,λb o e hx=>?_,I.base.tups,I.base.frzs,I.base.tbls⟩,⟨_,hn₂,λi y v' e1 e2 e3=>?_⟩,λy c e=>?_,I.free,I.freeC,λp hp=>?_,λb ob e=>?_,by simpa using I.len⟩
 ·exact (hs.2 b (I.old e)).trans (I.base.keep b o e n hb hx)
 ·obtain ⟨sl,e1⟩:=I.base.slot b o e n hb hx
  exact ⟨sl,(hs.2 b (I.old e)).trans e1⟩
 ·obtain ⟨o',e1⟩:=I.base.there b o e hx
  exact ⟨o',(hs.2 b (I.old e)).trans e1⟩
 ·by_cases hij:i=j
  ·subst hij
   rw [List.getElem?_set_self hiσ] at e2
   cases e2
  ·rw [List.getElem?_set_ne (Ne.symm hij)] at e2
   obtain ⟨u',r',q⟩:=hlo i y v' e1 e2 e3
   refine ⟨u',r',?_⟩
   rcases q with ⟨k,e⟩ | ⟨k,c,e,z⟩
   ·refine .inl ⟨k,?_⟩
    have:y≠n:=λe=>hij (Qb4 hN e1 (e ▸ hj))
    simp [this,e]
   ·exact .inr ⟨k,c,e,z.sameBut hs (I.cne y c e)⟩
 ·obtain ⟨w',z⟩:=I.cell y c e
  exact ⟨w',z.sameBut hs (I.cne y c e)⟩
 ·obtain ⟨e,n,ne,nf,d⟩:=I.pin p hp
  exact ⟨(hs.2 p.1 ne).trans e,n,ne,nf,d⟩
 ·refine (I.hok b ob e).stay (λc w' hc q=>(hs.2 c ?_).trans q) (λ_ q=>q) λ_ _ q=>q
  rintro rfl
  rcases hc with rfl | hc
  ·rw [I.free] at e;cases e
  ·rw [I.free] at hc;cases hc
def Cx.han (X:Cx) (ea:Addr):Cx:={ X with A:=X.A.mark (some (.ref ea)),calm:=false,xe:=λ_ _=>False }
theorem Cx.Ok.han (ok:X.Ok) (ea:Addr):(X.han ea).Ok :=
 ⟨ok.mod,ok.kind,ok.glob,ok.blt,ok.above,ok.inj,ok.has,ok.cab,λz=>(Bool.noConfusion z),ok.frames,ok.stk,ok.exf,ok.bs,ok.bsz,ok.noex,ok.exfs,ok.funs,ok.frf⟩
theorem Inv.han (I:Inv X pins σ H s) (ea:Addr):Inv (X.han ea) pins σ H s:=⟨I.ok.han ea,I.os,I.bare,I.base,I.loc,I.cell,I.free,I.freeC,I.pin,I.hok,I.len⟩
theorem Inv.unhan (ok:X.Ok) (I:Inv (X.han ea) pins σ H s):Inv X pins σ H s:=⟨ok,I.os,I.bare,I.base,I.loc,I.cell,I.free,I.freeC,I.pin,I.hok,I.len⟩
theorem Fly.landed (I:Inv X pins σ H s) (f:Fly X.prog X.w X.base B X.stack H s C ea t H' s'):∃(ob:Obj) (φ:Heap->Prop),ob.cls=.ref C/\H' ea=none/\Inv X pins σ (upd H' ea (.frz ob (.ext φ))) s':=by
 obtain ⟨ob,e,hc⟩:=f.fly.there
 have hn:H' ea=none:=by
  cases q:H' ea with
  | none=>rfl
  | some o =>
   obtain ⟨o1,e1⟩:=f.dom ea o q
   rw [f.fly.2.1] at e1
   cases e1
 refine ⟨ob,λh=>h.get? ea=some ob,hc,hn,I.call' (ch:=[]) f.os ?_ ?_ f.bare λb z=>nomatch z⟩
 ·refine ⟨f.un.keep,f.un.slot,λb o e1 n hx=>?_,f.un.there,λb xs e1=>?_,λb o u e1=>?_,λb ps e1=>?_⟩
  ·rw [Qg (λz=>by rw [z,f.new] at e1;cases e1)]
   exact f.un.free b o e1 n hx
  ·have:=f.un.tups b xs e1
   rw [Qg (λz=>by rw [z,hn] at this;cases this)];exact this
  ·have:=f.un.frzs b o u e1
   rw [Qg (λz=>by rw [z,hn] at this;cases this)];exact this
  ·obtain ⟨more,this⟩:=f.un.tbls b ps e1
   exact ⟨more,by rw [Qg (λz=>by rw [z,hn] at this;cases this)];exact this⟩
 ·intro a o e1
  by_cases ha:a=ea
  ·subst ha
   rw [Qi] at e1
   cases e1
   exact ⟨e,e,⟨ob,e⟩,λh1 h2 z k=>k ob z⟩
  ·rw [Qg ha] at e1
   refine (f.hok a o e1).stay (λb u _ q=>q) (λb q=>?_) (λb xs q=>?_) λb u v _ q _=>?_
   ·rw [Qg (λz=>by rw [z,hn] at q;cases q)];exact q
   ·rw [Qg (λz=>by rw [z,hn] at q;cases q)];exact q
   ·rw [Qg (λz=>by rw [z,hn] at q;cases q)];exact q
section
variable {j:Nat}
def Ends.un (D:Ends) (j:Nat):Ends:={ nx:=λσ' H''=>D.nx (σ'.set j none) H'',rt:=D.rt,bk:=λσ' H''=>D.bk (σ'.set j none) H'',ct:=λσ' H''=>D.ct (σ'.set j none) H'' }
end
end L2
variable {t:PySem.Tok} {Bx:String} {bmB:List PySem.Value} {os:PySem.OsState}
namespace L2
open PySem PySem.Spec PyProof.Rows
open PySem.W (findIn subIn mroIn clsIn Looks looks_findIn looks_subIn InstAt KitX)
structure ExcQ (K:PySem.W.Frag) (C:Addr):Prop where
 ga:findIn K (.ref C) "__getattribute__" = some (some (.builtin "BaseException.__getattribute__"))
 gt:findIn K (.ref C) "__getattr__" = some none
 cl:findIn K (.ref C) "__class__" = some (some (.builtin "object.__class__"))
 so:subIn K (.ref C) (.type "object")=some true
 sb:subIn K (.ref C) (.type "BaseException")=some true
 kc:(clsIn K C).isSome=true
section
variable {h:Heap} {g:Array GenState} {d:Drawn} {t:Nat} {o:Obj}
theorem Qdr {M:Model} {nameV:Value} {Q:Unit->Shared->Prop} (X:K.In h) (q:ExcQ K C) (hx:h.get? a=some o) (hc:o.cls=.ref C) (hq:Q () ⟨h,g,d,t,os⟩):wpAny M A (checkBuiltinCall "BaseException.__getattribute__" ⟨[.ref a,nameV],[]⟩) Q E ⟨h,g,d,t,os⟩:=by
 have k1:builtinKind "BaseException.__getattribute__" = some .slot:=by decide +kernel
 have k2:splitId "BaseException.__getattribute__" = some ("BaseException","__getattribute__"):=by decide +kernel
 have L1:=looks_subIn (M:=M) X q.sb
 have ha:=F.args_bexc_ga (.ref a) nameV
 simp only [checkBuiltinCall,k1,k2]
 refine wpAny_bind ?_
 unfold isInstance
 repeat (first | (with_reducible refine wpAny_loadPart_at hx ?_;rw [hc]) | with_reducible refine L1.at ?_ | wp_step)
 exact hq
theorem Qpv (X:K.In h) (q:ExcQ K C) (hx:h.get? a=some o) (hc:o.cls=.ref C) (hq:R (.ok (.ret (.ref C))) ⟨h,g,d,t,os⟩) :
  codeAny (model prog w) A (.call (.builtin "getset_descriptor.__get__") ⟨[.builtin "object.__class__",.ref a,.ref C],[]⟩) R ⟨h,g,d,t,os⟩:=by
 have ty5:(⟨h,g,d,t,os⟩:Shared).TypeIs (.builtin "object.__class__") "getset_descriptor":=F.typeOf_object_class
 have L1:=looks_subIn (M:=model prog w) X q.so
 rw [← F.owner_object_class] at L1
 refine codeAny_call_builtin F.slot_gs_get.plain F.entry_gs_get (F.slot_gs_get.check _ _ _ _ _ _ _ _ ty5 (F.args_gs_get _ _ _) ?_)
 repeat (any_goals (first | assumption | (with_reducible refine wpAny_loadPart_at hx ?_;rw [hc]) | with_reducible refine L1.at ?_ | wp_step))
 refine ⟨Code.quiet_builtin _ (by decide +kernel),codeAny_builtin F.entry_object_class ?_⟩
 repeat (any_goals (first | assumption | (with_reducible refine wpAny_loadPart_at hx ?_;rw [hc]) | wp_step))
theorem Qjq {tk:Tok} {Q:Fin->Shared->Prop} (X:K.In h) (q:ExcQ K C) (hx:h.get? a=some o) (hc:o.cls=.ref C) (hq:Q (.done (.ret (.ref C))) ⟨h,g,d,t,os⟩) :
  wpAny (model prog w) A (Builtin.«object.__getattribute__» ⟨[.ref a,.str "__class__" tk],[]⟩) Q E ⟨h,g,d,t,os⟩:=by
 have ty5:(⟨h,g,d,t,os⟩:Shared).TypeIs (.builtin "object.__class__") "getset_descriptor":=F.typeOf_object_class
 have f5:=F.typeOf_object_class
 have f6:=F.slot_gs_get.lookup
 have f7:=F.slot_gs_set.lookup
 have L1:=looks_findIn (M:=model prog w) X q.cl
 repeat (any_goals (first | assumption | (with_reducible refine wpAny_loadPart_at hx ?_;rw [hc]) | with_reducible refine L1.at ?_ | wp_step))
 refine Qpv X q hx hc ?_
 repeat (any_goals (first | assumption | wp_step))
theorem Qs4 {tk:Tok} (FB:ExcAttrBase Bx bmB) (X:K.In h) (q:ExcQ K C) (hx:h.get? a=some o) (hc:o.cls=.ref C) (hq:Q (.ref C) ⟨h,g,d,t,os⟩) :
  wpAny (model prog w) A (getAttrBy (.ref a) (.str "__class__" tk) false) Q E ⟨h,g,d,t,os⟩:=by
 have f3:=FB.ga.bind (.ref a)
 have hx2:(Value.builtin "BaseException.__getattribute__" == Value.builtin "object.__getattribute__")=false:=by decide +kernel
 have hx1:(onTheHeap (Value.ref C) && Value.builtin "BaseException.__getattribute__" == Value.builtin "object.__getattribute__")=false:=by rw [hx2];rfl
 have L1:=looks_findIn (M:=model prog w) X q.ga
 have L2:=looks_findIn (M:=model prog w) X q.gt
 repeat (any_goals (first | assumption | (with_reducible refine wpAny_loadPart_at hx ?_;rw [hc]) | with_reducible refine L1.at ?_ | with_reducible refine L2.at ?_ | wp_step))
 refine codeAny_call_builtin FB.ga.plain F.entry_bexc_ga (Qdr X q hx hc (Qjq X q hx hc ?_))
 repeat (any_goals (first | assumption | wp_step))
theorem Qjr {Q:Option Value->Shared->Prop} (FB:ExcAttrBase Bx bmB) (X:K.In h) (q:ExcQ K C) (hx:h.get? a=some o) (hc:o.cls=.ref C) (hq:Q (some (.ref C)) ⟨h,g,d,t+1,os⟩):wpAny (model prog w) A (getAttr? (.ref a) "__class__") Q E ⟨h,g,d,t,os⟩:=by
 unfold getAttr? getAttrBy?
 repeat (any_goals (first | assumption | with_reducible apply Qs4 FB X q hx hc | wp_step))
theorem Qlk (FB:ExcAttrBase Bx bmB) (q:ExcQ K C):KitX K (.ref a) (.ref C) (λh=>h.get? a=some o/\o.cls=.ref C) where
 ty:=λM h X p=>by
  rw [← p.2]
  exact (Looks.ld p.1).andThen .now
 it:=λM h X p=>by
  have z:=q.kc
  unfold clsIn at z
  split at z
  ·rename_i c' d' cd' sl' ho
   intro A' Q' E' s' k qq
   unfold isType loadHead
   exact wpAny_bind (wpAny_loadPart (k _ _ (X _ _ ho)) (wpAny_pure qq))
  ·cases z
 ne:=λh tp dd its n sl X htp=>by
  refine Bool.eq_false_iff.mpr λqq=>?_
  have e:C=tp:=Value.ref.inj (beq_iff_eq.mp qq)
  subst e
  have z:=q.kc
  unfold clsIn at z
  split at z
  ·rename_i c' d' cd' sl' ho
   have y:=(X _ _ ho).symm.trans htp
   cases y
  ·cases z
 ca:=λ{prog w A E Q s} X p k=>by
  obtain ⟨h,g,d,t,os⟩:=s
  exact Qjr FB X q p.1 p.2 k
end
def clsV:V->Option Value
 | .ref c=>some (.ref c)
 | .ty n=>some (.type n)
 | _=>none
theorem Ql9 {v:V} {c:Value} (r:RelV v u) (h:clsV v=some c):u=c:=by
 cases v with
 | ref a=>cases h;exact r
 | ty n=>cases h;exact r
 | _=>cases h
theorem Qme (FB:ExcAttrBase Bx bmB):Vp X (.builtin "isinstance") (λxs H Q=>∃a o φ C v c b,xs=[.ref a,v]/\H a=some (.frz o (.ext φ))/\o.cls=.ref C/\ExcQ X.K C/\clsV v=some c/\PySem.W.kitOne X.K (.ref C) c=some b/\Q (.bl b) H):=by
 intro pins s σ H xs us Q I r h
 obtain ⟨a,o,φ,C,v,c,b,rfl,ha,hc,q,hv,hk,hq⟩:=h
 obtain ⟨u,u2,rfl,ru,ru2⟩:=Qhr r
 cases ru
 rw [Ql9 ru2 hv]
 obtain ⟨e,_⟩:=I.hok a _ ha
 exact PySem.W.kia_one (Qlk FB q) I.kIn ⟨e,hc⟩ hk (by intro z;cases z) λtk=>⟨.bl b,H,I.tok _,rfl,hq⟩
end L2
variable {xs:List L2.V}
namespace L2
open PySem PySem.Spec PyProof.Rows
structure Lam where
 qual:Str
 args:Arguments
 body:Expr
 scope:Scope
 names:List Str
abbrev anyO:HO:=.ext λ_=>True
abbrev Lam.obj (L:Lam) (cl:List (Str × Addr)) (pm:Value) (c':Addr) (ctv:Value):Obj:=PySem.W.kla_obj "<lambda>" L.qual L.args L.body L.scope cl pm c' ctv
def Qgc (H:Hp) (L:Lam) (a:Addr) (cl:List (Str × Addr)):Prop :=
 ∃(c':Addr) (oc:Obj) (vs:Array Value) (t:Tok) (pm ctv:Value) (u:HO),H a=some (.frz (L.obj cl pm c' ctv) anyO)/\H c'=some (.frz oc u)/\oc.data=.fields vs/\vs[1]? = some (.str L.qual t)
def Gj (H:Hp):List (Str × Addr)->List V->Prop
 | [],[]=>True
 | p::cl,x::xs=>(∃oo v,H p.2=some (.frz oo anyO)/\oo.data=.cell (some v)/\RelV x v)/\Gj H cl xs
 | _,_=>False
def Qmi (H:Hp) (L:Lam) (a:Addr) (xs:List V):Prop :=
 ∃cl:List (Str × Addr),Qgc H L a cl/\cl.map (·.1)=L.names/\(cl.map (·.2)).Nodup/\Gj H cl xs
section
variable {L:Lam} {cl:List (Str × Addr)}
theorem Qgc.keeps (hi:∀b o u,H b=some (.frz o u)->H' b=some (.frz o u)) (x:Qgc H L a cl):Qgc H' L a cl:=by
 obtain ⟨c',oc,vs,t,pm,ctv,u,h1,h2,r⟩:=x
 exact ⟨c',oc,vs,t,pm,ctv,u,hi _ _ _ h1,hi _ _ _ h2,r⟩
theorem Gj.keeps (hi:∀b o u,H b=some (.frz o u)->H' b=some (.frz o u)):∀{cl:List (Str × Addr)} {xs:List V},Gj H cl xs->Gj H' cl xs
 | [],[],_=>trivial
 | p::cl,x::xs,⟨⟨oo,v,h1,r⟩,q⟩=>⟨⟨oo,v,hi _ _ _ h1,r⟩,Gj.keeps hi q⟩
 | [],_::_,h=>h.elim
 | _::_,[],h=>h.elim
theorem Qmi.keeps (hi:∀b o u,H b=some (.frz o u)->H' b=some (.frz o u)) (x:Qmi H L a xs):Qmi H' L a xs:=by
 obtain ⟨cl,h1,h2,h3,h4⟩:=x
 exact ⟨cl,h1.keeps hi,h2,h3,h4.keeps hi⟩
end
def clsB (K:PySem.W.Frag) (C:Addr):Bool:=PySem.W.plainGet K C Str.empty && PySem.W.hasDictIn K C && PySem.W.plainOver K C && PySem.W.makesIn K C && PySem.W.keepIn K (.ref C)
structure ClsD (K:PySem.W.Frag) (C:Addr):Prop where
 b:clsB K C=true
 sa:PySem.W.findIn K (.ref C) "__setattr__" = some (some (.builtin "object.__setattr__"))
 ca:PySem.W.findIn K (.ref C) "__class__" = some (some (.builtin "object.__class__"))
 mr:PySem.W.mroIn K C (.type "object")=some true
structure ObjD (K:PySem.W.Frag):Prop where
 hn:PySem.W.specialIn K (.builtin "object.__class__") "__get__" = some (some (.builtin "getset_descriptor.__get__"))
 tk:PySem.W.takesIn K (.builtin "object.__class__")=some true
theorem ClsD.all (h:ClsD K C):PySem.W.plainGet K C Str.empty=true/\PySem.W.hasDictIn K C=true/\PySem.W.plainOver K C=true/\PySem.W.makesIn K C=true/\PySem.W.keepIn K (.ref C)=true:=by
 have:=h.b
 simp only [clsB,Bool.and_eq_true] at this
 exact ⟨this.1.1.1.1,this.1.1.1.2,this.1.1.2,this.1.2,this.2⟩
theorem ClsD.cls (h:ClsD K C):Cls K C:=⟨h.all.1,h.all.2.1,h.all.2.2.1,h.sa⟩
theorem ClsD.ty (h:ClsD K C) (o:ObjD K) (e:H a=some (.ins C dx fs)):TyOf K H (.ref a) (.ref C):=.ins e h.cls h.ca o.hn o.tk h.mr
theorem Qrl (h:ClsD X.K C) (hi:PySem.W.findIn X.K (.ref C) "__init__" = some (some (.builtin "object.__init__"))) (hg:Gl X x) (hm:X.mg x=some (.ref C)) (hdb:(x == ("__debug__" : Str))=false:=by decide) :
  PE X (.Call (.Name x p) [] [] pos) (λσ H Q=>∀a dx,H a=none->H dx=none->dx≠a->Q (.ref a) (upd (upd H dx (.own a)) a (.ins C dx []))):=by
 intro pins s σ H Q I q
 refine wpAny_Call_Name_kw (Vj I hg hm ?_ hdb)
 refine PySem.W.callWith_K0 I.kIn h.all.2.2.2.2 (wpAny_call (Qi2 I.kIn h.all.2.2.2.1 hi (λself=>PySem.W.Looks.of_pure (PySem.W.oi_bind self)) ?_))
 have I2:=Inv.made (C:=C) I
 have Y:=PySem.W.makes_of (M:=model X.prog X.w) I.kIn h.all.2.2.2.1
 have e1:((s.heap.push PySem.W.emptyDict).push (PySem.W.instObj C s.heap.objs.size)).get? (s.heap.objs.size+1)=some (PySem.W.instObj C s.heap.objs.size):=by
  have:=Heap.get?_push_size (s.heap.push PySem.W.emptyDict) (o:=PySem.W.instObj C s.heap.objs.size) rfl
  rwa [Heap.size_push] at this
 have t1:PySem.W.Looks (model X.prog X.w) ((s.heap.push PySem.W.emptyDict).push (PySem.W.instObj C s.heap.objs.size)) (typeOf (.ref (s.heap.objs.size+1))) (.ref C):=(PySem.W.Looks.ld e1).andThen .now
 have t2:PySem.W.Looks (model X.prog X.w) ((s.heap.push PySem.W.emptyDict).push (PySem.W.instObj C s.heap.objs.size)) (isInstance (.ref (s.heap.objs.size+1)) (.type "object")) true:=t1.andThen (Y.top.keeps λb o e=>Heap.get?_push_of_some _ (Heap.get?_push_of_some _ e))
 have z:=q (s.heap.objs.size+1) s.heap.objs.size (I.hok.fresh (Nat.le_succ _)) (I.hok.fresh (Nat.le_refl _)) (Nat.ne_of_lt (Nat.lt_succ_self _))
 refine PySem.codeAny_call_builtin PySem.W.oi_plain PySem.W.entry_oi (@PySem.W.check_slot (model X.prog X.w) _ _ _ "object.__init__" "object" "__init__" (.ref (s.heap.objs.size+1)) [] [] _ PySem.W.oi_kind PySem.W.oi_split t2 (PySem.W.oi_args (.ref (s.heap.objs.size+1))) ?_)
 rw [PySem.W.oi_run]
 have zz:EP X pins σ Q (.ref (s.heap.objs.size+1)) { s with heap:=(s.heap.push PySem.W.emptyDict).push (PySem.W.instObj C s.heap.objs.size) }:=⟨V.ref (s.heap.objs.size+1),_,I2,rfl,z⟩
 exact wpAny_pure (And.intro rfl zz)
theorem Qmf {D:Addr} (ob:ObjD X.K):Vp X (.builtin "isinstance") (λxs H Q=>∃v c b,xs=[v,.ref c]/\(∃t,TyOf X.K H v t/\PySem.W.kitOne X.K t (.ref c)=some b)/\Q (.bl b) H):=by
 intro pins s σ H xs us Q I r h
 obtain ⟨v,c,b,rfl,⟨t,ty,e⟩,q⟩:=h
 obtain ⟨u,w,rfl,ru,rw⟩:=Qhr r
 cases (show w=Value.ref c from rw)
 exact Qdl I ru ty e λtk=>⟨.bl b,H,I.tok _,rfl,q⟩
def PJ (X:Cx) (es:List Expr) (t:Str->TE):Prop:=∀(pins:List (Addr × Obj)) (s:Shared) (σ:St) (H:Hp) (acc:Str) (Q:VK),Inv X pins σ H s->t acc σ H Q ->
 Joins (model X.prog X.w) X.A X.xe (evalEach es X.env) acc (λout s1=>out.length<=sizeLine/\EP X pins σ Q (.str out s1.toks) { s1 with toks:=s1.toks+1 }) s
section
variable {t:Str->TE} {p3:Pos} {c:Str}
theorem Qmv:PJ X [] (λacc _ H Q=>acc.length<=sizeLine/\Q (.str acc) H):=λpins s σ H acc Q I h=>⟨h.1,.str acc,H,I.tok _,⟨_,rfl⟩,h.2⟩
theorem pj_c (h:PJ X es t):PJ X (.Constant (.str c) k p::es) (λacc σ H Q=>(acc++c).length<=sizeLine/\t (acc++c) σ H Q):=λpins s σ H acc Q I q =>
 wpAny_Constant_str ⟨c,_,rfl,q.1,h pins _ σ H _ Q (I.tok _) q.2⟩
theorem pj_v (he:PE X e te) (h:PJ X es t):PJ X (.FormattedValue e (-1) none p3::es) (λacc σ H Q=>te σ H λx H1=>∃y,x=.str y/\y.length<=sizeLine/\(acc++y).length<=sizeLine/\t (acc++y) σ H1 Q):=λpins s σ H acc Q I q=>by
 refine wpAny_FormattedValue_plain (thn (he pins s σ H _ I q) λv s1 ⟨x,H1,I1,r1,q1⟩=>?_)
 obtain ⟨y,rfl,hy,hz,q⟩:=q1
 obtain ⟨tk,rfl⟩:=r1
 exact wpAny_formatField_str ⟨y,_,rfl,hz,h pins s1 σ H1 _ Q I1 q⟩ ⟨y,_,rfl,hz,h pins _ σ H1 _ Q (I1.tok _) q⟩ hy
theorem Qin {v1 v2:Expr} (h:PJ X (v1::v2::es) t):PE X (.JoinedStr (v1::v2::es) pos) (t Str.empty):=λpins s σ H Q I q=>wpAny_JoinedStr (h pins s σ H Str.empty Q I q)
end
theorem Qk8 (he:PE X o ta) (hr:Room k X.A)
  (ht:eval (.Call (.Attribute o m apos) [] [] pos) X.env=(do
   let ov ← eval o X.env
   standAt apos.atName
   let (f,first) ← holding [ov] (getMethod ov m pl)
   callWith pos f first (backTo pos (starEach [] X.env)) (backToKw pos (keywordEach [] X.env))):=by rfl) :
  PE X (.Call (.Attribute o m apos) [] [] pos) (λσ H Q=>ta σ H λx H1=>∃a C dx fs f fd sp,x=.ref a/\H1 a=some (.ins C dx fs)/\Cls X.K C/\Meth X.K C m f/\FnOk X.prog X.w X.K X.mg X.base CX0 k f fd ["self"] sp/\Zi X.K fd ["self"] []/\fs.lookup m=none/\sp [.ref a] H1 Q E0):=by
 intro pins s σ H Q I h
 refine PySem.W.methodCall_KW (pl:=pl) (thn (he pins s σ H _ I h) λu s1 ⟨x,H1,I1,rx,a,C,dx,fs,f,fd,sp,ex,ea,c,hm,F,hb,l,q⟩=>?_) ht
 subst ex
 obtain rfl:u=Value.ref a:=rx
 refine Qg6 I1 ea c hm l ?_
 exact PySem.W.callWith_K0 (first:=[.ref a]) I1.kIn hm.kp (Qmm (us:=[.ref a]) (vs:=[.ref a]) F hr hb .nil Qiq I1 (.cons rfl .nil) q)
end L2
variable {i k1 k2:Nat} {z:Nat->L2.V} {p1:PySem.Pos}
namespace L2
open PySem PySem.Spec PyProof.Rows PySem.Builtin PySem.Builtin.Str
section
variable {M:Model}
theorem Qpd {globals:Addr} {n:Str} {func:Option Addr} {code:Value} {builtins:Addr} {Q:PySem.Env->Shared->Prop} (hk:scope.kind=.function) (hl:scope.names.lookup n=some .local)
  (hQ:∀env,env=newEnv scope s.heap.objs.size globals (cellsFrom (s.heap.objs.size+1) scope.names []) qual func code none builtins ->
   ∀s',InCallC s env.locals (bindL env.kindOf [(n,v)] λ_=>none) env.cells (bindC env.kindOf [(n,v)] λ_=>none) s'->s'.toks≠0->Q env s') :
  wpAny M A (newFunctionEnv scope globals [] [(n,v)] qual func code none builtins) Q E s:=by
 simp only [newFunctionEnv,Option.isSome_none,Bool.false_eq_true,if_false]
 refine wpAny_bind (wpAny_alloc ?_)
 refine wpAny_bind (wpAny_layCells _ (λname kind cells=>by cases hkc:kind == NameKind.cell <;> simp [hkc]) _ _ _ _ ?_)
 have ok:=cellsFrom_ok scope.names (s.heap.push { cls:=.type "frame",data:=.dict #[] }) (s.heap.objs.size+1) [] ⟨λ_ _ hm=>(nomatch hm),List.Pairwise.nil⟩ (by rw [Heap.size_push];exact Nat.le_refl _)
 rw [Heap.size_push] at ok
 rw [show ({ s with heap:=s.heap.push { cls:=.type "frame",data:=.dict #[] } }:Shared).heap.objs.size=s.heap.objs.size+1 from Heap.size_push ..]
 generalize hs1:({ s with heap:=pushCells (s.heap.push { cls:=.type "frame",data:=.dict #[] }) scope.names }:Shared)=s1
 have x:InCallC s s.heap.objs.size (λ_=>none) (cellsFrom (s.heap.objs.size+1) scope.names []) (λ_=>none) s1:=by
  subst hs1
  exact ⟨⟨⟨_,_,rfl⟩,(Heap.Ns.new s.heap (.type "frame")).keeps (pushCells_keeps _ _),λb o e=>pushCells_keeps _ _ b o (Heap.get?_push_of_some _ e),Nat.le_refl _⟩,
   λn c hc=>(ok.empty n c (mem_of_lookup hc)).1,ok.apart,λn c hm=>(ok.empty n c hm).2⟩
 rw [List.forIn_cons]
 refine wpAny_bind (wpAny_bind (wpAny_bind (wpAny_storeName_local (env:=newEnv scope s.heap.objs.size globals (cellsFrom (s.heap.objs.size+1) scope.names []) qual func code none builtins) hl x.toInCall.ns (λh' hn' hs'=>?_) (by show (scope.kind == .class || (scope.kind == .module && _))=false;rw [hk];rfl))))
 refine wpAny_pure ?_
 show wpAny M A (forIn [] _ _) _ E _
 rw [List.forIn_nil]
 refine wpAny_pure (wpAny_pure (hQ _ rfl _ ⟨⟨?_,?_,λb o e=>?_,x.toInCall.fresh⟩,λk c hc=>?_,x.apart,x.above⟩ (Nat.succ_ne_zero _)))
 ·obtain ⟨h₁,tk,e⟩:=x.toInCall.same
  exact ⟨h',_,by rw [e]⟩
 ·unfold bindL
  rw [if_pos (show (newEnv scope s.heap.objs.size globals (cellsFrom (s.heap.objs.size+1) scope.names []) qual func code none builtins).kindOf n=some .local from hl)]
  exact hn'
 ·exact hs'.extBut b o (Nat.ne_of_lt (Nat.lt_of_lt_of_le (Heap.lt_size e) x.toInCall.fresh)) (x.toInCall.keep b o e)
 ·unfold bindC
  rw [if_pos (show (newEnv scope s.heap.objs.size globals (cellsFrom (s.heap.objs.size+1) scope.names []) qual func code none builtins).kindOf n=some .local from hl)]
  exact (x.cell k c hc).sameBut hs' (Nat.ne_of_gt (x.above k c (mem_of_lookup hc)))
end
section
variable {t:TA} {id:String}
def PEk (X:Cx) (e:Expr) (t:TE):Prop :=
 ∀(pins:List (Addr × Obj)) (s:Shared) (σ:St) (H:Hp) (Q:VK),s.toks≠0->Inv X pins σ H s->t σ H Q->wpAny (model X.prog X.w) X.A (eval e X.env) (λu s'=>s'.toks≠0/\EP X pins σ Q u s') X.xe s
def PE1 (X:Cx) (e:Expr) (t:TE):Prop :=
 ∀(pins:List (Addr × Obj)) (s:Shared) (σ:St) (H:Hp) (Q:VK),s.toks≠0->Inv X pins σ H s->t σ H Q->wpAny (model X.prog X.w) X.A (eval e X.env) (EP X pins σ Q) X.xe s
theorem Qrd (hN:X.N[i]? = some x) (hv:Vis X.env.scope x) (hd:(x == ("__debug__" : Str))=false:=by decide) (hcd:(x == ("__classdict__" : Str))=false:=by decide):PEk X (.Name x pos) (tVar i):=by
 intro pins s σ H Q hk I h
 obtain ⟨v,e,h⟩:=h
 obtain ⟨m,hn,hl⟩:=I.loc
 obtain ⟨u,r,l⟩:=hl i x v hN e hv
 have fin:s.toks≠0/\EP X pins σ Q u s:=⟨hk,v,H,I,r,h⟩
 rcases l with ⟨hk,hm⟩ | ⟨hk,c,hc,hcell⟩
 ·exact wpAny_Name (wpAny_loadName_local I.ok.kind hk hn hm fin) hd
 ·rcases hk with hk | hk
  ·exact wpAny_Name (wpAny_loadName_cell I.ok.kind hk hc hcell fin) hd
  ·exact wpAny_Name (wpAny_loadName_free I.ok.kind hk hc hcell fin hcd) hd
def tRep (to:TE) (y z:Str):TE:=λσ H Q=>to σ H λv H1=>∃x,v=.str x/\x.length+(x.length+1)*z.length<=16777216/\Q (.str (Txt.replace x y z)) H1
theorem Qmu {z:Str} {p2:Pos} (hyz:(y == z)=false) (ho:PEk X o to)
  (hbase:attributeBase o "replace" X.env (eval o X.env)=eval o X.env:=by rfl)
  (hfew:((backTo cpos (starEach [.Constant (.str y) k1 p1,.Constant (.str z) k2 p2] X.env)).all (λx=>!x.1) && (backToKw cpos (keywordEach [] X.env)).all (λx=>x.1.isSome)
   && decide (([.Constant (.str y) k1 p1,.Constant (.str z) k2 p2]:List Expr).length+([]:List Keyword).length+(if ([]:List Keyword).isEmpty then 0 else 1)<30))=true:=by rfl)
  (hline:(apos.endLine == cpos.line)=true:=by rfl) :
  PEk X (.Call (.Attribute o "replace" apos) [.Constant (.str y) k1 p1,.Constant (.str z) k2 p2] [] cpos) (tRep to y z):=by
 intro pins s σ H Q hk I h
 refine wpAny_Call_method_late hbase hfew hline rfl (thn (ho pins s σ H _ hk I h) λv s1 ⟨hk1,x,H1,I1,r1,x',ex,hb,q⟩=>?_)
 subst ex
 obtain ⟨h1,h2⟩:=Qe9 (T:="str") I1 r1 rfl
 refine ⟨"str","str.replace",PySem.F.plainAttrs_str,PySem.F.slot_str_replace,PySem.F.type_str_replace,h1,h2,?_⟩
 obtain ⟨t,rfl⟩:=r1
 refine Calls.callWith_builtin rfl (Calls.evalArgs_plain ?_)
 show wpAny _ _ (spliced [(false,eval (.Constant (.str y) k1 p1) X.env),(false,eval (.Constant (.str z) k2 p2) X.env)]) _ _ s1
 refine Calls.spliced_cons (Calls.Constant_str ?_)
 refine Calls.spliced_cons (Calls.Constant_str ?_)
 refine Calls.spliced_nil ?_
 have hl:tooLong (x'.length+(occurrences x' y 0 x'.length (x'.length+1)).length*z.length)=false:=by
  have h1:=StrLaws.occ_length_le x' y 0 x'.length (x'.length+1)
  have h2:(occurrences x' y 0 x'.length (x'.length+1)).length*z.length<=(x'.length+1)*z.length:=Nat.mul_le_mul_right _ h1
  unfold tooLong
  rw [sizeLine_eq]
  exact decide_eq_false (by omega)
 have hk2:s1.toks≠s1.toks+1:=by omega
 refine call_gives PySem.F.slot_str_replace (typeIs_str _ _ _) PySem.F.entry_str_replace (PySem.F.args_str_replace_3 _ _ _)
  (gives_str_replace x' y z t s1.toks (s1.toks+1) λ_=>⟨by simp [hk1],by simp,hyz,hl⟩) ?_
 unfold Txt.replace at q
 cases hc:((occurrences x' y 0 x'.length (x'.length+1)).isEmpty || (y.length == 0 && z.length == 0))
 ·rw [hc] at q
  simp only [Bool.false_eq_true,if_false] at q ⊢
  exact ⟨fits_replaced y hb,Nat.succ_ne_zero _,.str _,H1,I1.tok _,⟨_,rfl⟩,q⟩
 ·rw [hc] at q
  simp only [if_true] at q ⊢
  exact ⟨Nat.succ_ne_zero _,.str _,H1,I1.tok _,⟨_,rfl⟩,q⟩
theorem Qur (pa:PlainAttrs T) (slot:Slot T name id) (hty:typeOf (.builtin id)=pure (.type "method_descriptor")) (hm:MtR X id r) (ho:PEk X o to) (ha:PA X (e::es) t)
  (hbase:attributeBase o name X.env (eval o X.env)=eval o X.env:=by rfl)
  (hfew:((backTo cpos (starEach (e::es) X.env)).all (λx=>!x.1) && (backToKw cpos (keywordEach [] X.env)).all (λx=>x.1.isSome)
   && decide ((e::es).length+([]:List Keyword).length+(if ([]:List Keyword).isEmpty then 0 else 1)<30))=true:=by rfl)
  (hline:(apos.endLine == cpos.line)=true:=by rfl) (hs:starEach (e::es) X.env=(false,eval e X.env)::starEach es X.env:=by rfl) (hplain:(backTo cpos (starEach es X.env)).any (·.1)=false:=by rfl) :
  PE1 X (.Call (.Attribute o name apos) (e::es) [] cpos) (tBM X.K T r to t):=by
 intro pins s σ H Q hk I h
 refine wpAny_Call_method_late hbase hfew hline rfl (thn (ho pins s σ H _ hk I h) λv s1 ⟨_,x,H1,I1,r1,ty,q1⟩=>?_)
 obtain ⟨h1,h2⟩:=Qe9 I1 r1 ty
 refine ⟨T,id,pa,slot,hty,h1,h2,?_⟩
 have hA:=ha cpos pins s1 σ H1 _ I1 q1
 rw [hs] at hA ⊢
 refine Calls.callWith_builtin (by show (false || (backTo cpos (starEach es X.env)).any (·.1))=false;rw [hplain] <;> rfl) (Calls.evalArgs_plain ?_)
 exact thn hA λus s2 ⟨vs,H2,I2,r2,q2⟩=>hm pins s2 σ H2 x vs v us Q I2 r1 r2 q2
end
theorem Qps {p:Str} {sp:Sp} (F:Fun K x qual st f fd) (S:FnScope N [p] (Qa st)) (hb:Qu st=[.Return (some e) pos]) (hl:(Qa st).names.lookup p=some .local) (len:∀vs H Q E,sp vs H Q E->vs.length=1)
  (hbody:∀(cdv:Value) (A:Around) (outer:List PySem.Env) (s:Shared) (H:Hp) (vs:List V) (Q:VK) (E:XK),Room k (A.deeper (envOfC qual (Qa st) s.heap.objs.size f cdv))->sp vs H Q E ->
   ∃t,PE1 (cxOf CX0 P w K mg base N qual (Qa st) f cdv A outer s H E) e t/\t (Zz N vs) H Q):FnOk P w K mg base CX0 (k+1) f fd [p] sp:=by
 obtain ⟨oc,od,kV,doc,pm,an,cdv,ct,osl,rfl,lk,hcd⟩:=F.ex
 refine ⟨λvs H Q E h=>len vs H Q E h,λA outer s H args us vs Q E hr e0 hbi r hsp=>?_⟩
 have hlv:=len _ _ _ _ hsp
 have KX:K.In s.heap:=e0.mod.kin.keeps λb o e=>(e0.bs b o e).1
 have lim:s.heap.NoLimit:=e0.mod.nolimit.keeps λb o e=>(e0.bs b o e).1
 obtain ⟨u,rfl⟩:∃u,us=[u]:=by
  have:=r.length
  rw [hlv] at this
  match us,this with
  | [u],_=>exact ⟨u,rfl⟩
 refine codeAny_call_function hr.depth (KX _ _ lk) rfl S.co S.gen rfl (PySem.W.codeRec_of KX hcd) (hbi _ _ _ _ ?_)
 refine Qpd S.kind hl λenv he s1 x hk=>?_
 subst he
 refine ⟨lim.keeps x.toInCall.keep,codeAny_func ?_⟩
 obtain ⟨t,ht,hq⟩:=hbody cdv A outer s H vs Q E (hr.deeper _) hsp
 have I:Inv (cxOf CX0 P w K mg base N qual (Qa st) f cdv A outer s H E) [] (Zz N vs) H s1:=Qdm S hr.hd e0 hlv r x
 show wpAny _ _ (execs (Qu st) _) _ _ _
 rw [hb]
 refine wpAny_execs_cons (wpAny_Return_some (wpAny_mono (ht [] s1 (Zz N vs) H Q hk I hq) (λu s' ⟨v,H',J,rv,q⟩=>?_) λe s' hs=>hs))
 exact ⟨v,H',J.os,J.bare,J.base,J.hok,rv,q⟩
end L2
namespace L2
open PySem PySem.Spec PyProof.Rows PySem.Builtin
section
variable {ox:Obj} {od:Option Obj}
theorem Uw {M:Model} {Q:Bool->Shared->Prop} (q:Q false s):wpAny M A (isSame (.ref a) (.str y t)) Q E s:=by
 unfold isSame
 exact wpAny_pure q
theorem X3 {M:Model} {Q:Fin->Shared->Prop} (q:Q (.done (.ret .notImplemented)) s):wpAny M A (Builtin.«object.__eq__» ⟨[.ref a,.str y t],[]⟩) Q E s:=by
 unfold Builtin.«object.__eq__»
 repeat (first | with_reducible refine Uw ?_ | wp_step)
 exact q
theorem Qdy {M:Model} {Q:Unit->Shared->Prop} (X:K.In s.heap) (I:PySem.W.InstAt s.heap a ox C od) (ho:PySem.W.subIn K (.ref C) (.type "object")=some true) (q:Q () s):wpAny M A (checkBuiltinCall "object.__eq__" ⟨[.ref a,.str y t],[]⟩) Q E s:=by
 have hi:PySem.W.Looks M s.heap (isInstance (.ref a) (.type "object")) true:=by
  unfold isInstance
  exact I.type.andThen (PySem.W.looks_subIn X ho)
 exact PySem.W.check_slot F.cmpKind_eq F.cmpSplit_eq hi (F.cmpArgs_eq _ _) q
theorem Qak (X:K.In s.heap) (I:PySem.W.InstAt s.heap a ox C od) (ho:PySem.W.subIn K (.ref C) (.type "object")=some true) (q:Q .notImplemented s):wpAny (model prog w) A (call (.builtin "object.__eq__") [.ref a,.str y t]) Q E s :=
 wpAny_call (codeAny_call_builtin F.cmp_object.eq.plain F.cmpEntry_eq (Qdy X I ho (X3 q)))
theorem Qgk {Q:Option Value->Shared->Prop} (X:K.In s.heap) (I:PySem.W.InstAt s.heap a ox C od) (he:PySem.W.findIn K (.ref C) "__eq__" = some (some (.builtin "object.__eq__"))) (ho:PySem.W.subIn K (.ref C) (.type "object")=some true) (q:Q none s):wpAny (model prog w) A (tryCompare (.ref a) "__eq__" (.str y t)) Q E s:=by
 simp only [tryCompare,callSpecialIfBound?,bindSpecialIfBound?]
 refine wpAny_bind (wpAny_holding (wpAny_bind (wpAny_bind (wpAny_bind (I.type.here ((PySem.W.looks_findIn X he).here ?_))))))
 simp only [F.cmp_object.eq.bind]
 refine wpAny_bind (wpAny_askSetting (wpAny_ite ?_))
 split
 ·exact wpAny_bind (wpAny_pure (wpAny_pure (wpAny_bind (Qak X I ho (wpAny_pure (wpAny_pure q))))))
 ·exact wpAny_tryCatch (wpAny_bind (wpAny_pure (wpAny_pure (wpAny_bind (Qak X I ho (wpAny_pure (wpAny_pure q)))))))
theorem Qed:Meets (Builtin.«str.__eq__» ⟨[.str y t,.ref a],[]⟩) (λ_ R s=>s.heap.get? a=some (PySem.W.instObj C dx)/\R (.ok (.ret Value.notImplemented)) s) :=
 .of_wp λprog w A R s h=>by
  obtain ⟨hp,g,dd,tk,os⟩:=s;obtain ⟨hl,h⟩:=h
  unfold PySem.W.instObj at hl
  wp_walk
  exact ⟨_,rfl,h⟩
theorem Qdx (hu:A.units<cLine) (X:K.In s.heap) (I:PySem.W.InstAt s.heap a ox C od) (O:s.heap.get? a=some (PySem.W.instObj C dx)) (he:PySem.W.findIn K (.ref C) "__eq__" = some (some (.builtin "object.__eq__"))) (ho:PySem.W.subIn K (.ref C) (.type "object")=some true) (hs:PySem.W.subIn K (.type "str") (.ref C)=some false) (q:Q (.bool false) s) :
  wpAny (model prog w) A (compareOp .Eq (.ref a) (.str y t)) Q E s:=by
 show wpAny (model prog w) A (richCompare .Eq (.ref a) (.str y t)) Q E s
 simp only [richCompare,cmpInfo_Eq]
 refine wpAny_holding (wpAny_bind (wpAny_cRoomFor hu ?_))
 have L1:PySem.W.Looks (model prog w) s.heap (typeOf (.ref a)) (.ref C):=I.type
 have L2:PySem.W.Looks (model prog w) s.heap (isSubtype (.type "str") (.ref C)) false:=PySem.W.looks_subIn X hs
 have h1:oneThing? CmpOp.Eq (.ref a) (.str y t)=none:=rfl
 rw [h1]
 dsimp only
 refine wpAny_bind (L1.here ?_)
 refine wpAny_bind (wpAny_pure (a:=Value.type "str") ?_)
 rw [if_pos (show (Value.ref C != Value.type "str")=true from rfl)]
 refine wpAny_bind (L2.here ?_)
 simp only [Bool.false_eq_true,if_false,Bool.not_false,if_true]
 refine wpAny_bind (Qgk X I he ho ?_)
 dsimp only
 refine wpAny_bind ?_
 simp only [tryCompare]
 refine wpAny_bind (wpAny_callSpecialIfBound?_slot (T:="str") (id:="str.__eq__") (typeIs_str _ _ _) F.slot_str_eq (call_meets F.slot_str_eq (typeIs_str _ _ _) F.entry_str_eq (F.args_str_eq_2 _ _) (Qed (C:=C) (dx:=dx)) ⟨O,?_⟩))
 refine wpAny_pure ?_
 dsimp only
 exact wpAny_bind (wpAny_rule (wpAny_bind (Uw (wpAny_pure q))))
end
structure EqC (K:PySem.W.Frag) (C:Addr):Prop where
 eq:PySem.W.findIn K (.ref C) "__eq__" = some (some (.builtin "object.__eq__"))
 ob:PySem.W.subIn K (.ref C) (.type "object")=some true
 st:PySem.W.subIn K (.type "str") (.ref C)=some false
def rEqI (K:PySem.W.Frag):R2:=λx y H Q=>∃a C dx fs z,x=.ref a/\y=.str z/\H a=some (.ins C dx fs)/\EqC K C/\Q (.bl false) H
theorem Qry (hu:X.A.units<cLine):OpR X (compareOp .Eq) (rEqI X.K):=by
 intro pins s σ H x y v u Q I rx ry h
 obtain ⟨a,C,dx,fs,z,rfl,rfl,ea,ec,q⟩:=h
 cases rx
 obtain ⟨t,rfl⟩:=ry
 obtain ⟨mA,O,_,_,_,_⟩:=Qad I.hok ea
 obtain ⟨od,J,_⟩:=O.look
 exact Qdx hu I.kIn J O.obj ec.eq ec.ob ec.st ⟨.bl false,H,I,rfl,q⟩
end L2
namespace L2
open PySem PySem.Spec PyProof.Rows
def Quf:R2:=λx y H Q=>∃z n,x=.str z/\y=.int n/\MulOk z n/\Q (.str (Txt.mul z n)) H
theorem Qo2:OpR X (binaryOp .Mult) Quf:=by
 intro pins s σ H x y v u Q I rx ry h
 obtain ⟨z,n,rfl,rfl,ok,q⟩:=h
 obtain ⟨t,rfl⟩:=rx
 obtain ⟨t',rfl⟩:=ry
 exact SB.mul ok λt' k=>⟨.str _,H,I.tok _,⟨_,rfl⟩,q⟩
end L2
namespace L2
open PySem PySem.Spec PyProof.Rows
open PySem.W (Dat kqdOk kqdP)
mutual
theorem DV.uniq {H:Hp}:∀{x:V} {d e:Dat},DV H x d->DV H x e->d=e
 | _,_,_,.non,.non=>rfl
 | _,_,_,.int i,.int _=>rfl
 | _,_,_,.str x,.str _=>rfl
 | _,_,_,.tup h r,.tup h' r'=>by rw [h] at h';cases h';rw [DVs.uniq r r']
 | _,_,_,.lst h r,.lst h' r'=>by rw [h] at h';cases h';rw [DVs.uniq r r']
 | _,_,_,.tup h r,.lst h' r'=>by rw [h] at h';cases h'
 | _,_,_,.lst h r,.tup h' r'=>by rw [h] at h';cases h'
theorem DVs.uniq {H:Hp}:∀{xs:List V} {ds es:List Dat},DVs H xs ds->DVs H xs es->ds=es
 | _,_,_,.nil,.nil=>rfl
 | _,_,_,.cons h r,.cons h' r'=>by rw [DV.uniq h h',DVs.uniq r r']
end
open Classical in
def rIn2 (K:PySem.W.Frag):R2:=λx y H Q=>∃p a1 a2 d e1 e2 n,y=.ref p/\SqT K H p [.ref a1,.ref a2]/\DV H x d/\DV H (.ref a1) e1/\DV H (.ref a2) e2/\kqdOk n d=true/\kqdOk n e1=true/\kqdOk n e2=true/\n<=9/\Q (.bl (decide (e1=d) || decide (e2=d))) H
open Classical in
theorem Qnf {x y:V} {e:Dat} (I:Inv X pins σ H s) (hu:A.units+63<cLine) (ry:RelV y v) (rx:RelV x u) (dy:DV H y e) (dx:DV H x d) (hd:kqdOk n d=true) (he:kqdOk n e=true) (hn:n<=9):SeqAt.EqAt A s v u (decide (e=d)):=by
 obtain ⟨as,ra⟩:=dx.reads I.hok rx
 obtain ⟨bs,rb⟩:=dy.reads I.hok ry
 have h1:=Y5 hd hn
 have h2:=Y5 he hn
 unfold SeqAt.shaped at h1 h2
 rw [Bool.and_eq_true] at h1 h2
 rw [← Qet he hd]
 refine SeqAt.eqAt_reads _ _ A s v u _ _ rb ra h2.1 h1.1 ?_
 have:=(PySem.W.kqd_lay n d hd).2
 have:min (kqdP e).depth (kqdP d).depth<=(kqdP d).depth:=Nat.min_le_right _ _
 omega
open Classical in
theorem Qrx (hu:X.A.units+64<cLine):OpR X (compareOp .In) (rIn2 X.K):=by
 intro pins s σ H x y v u Q I rx ry h
 obtain ⟨p,a1,a2,d,e1,e2,n,rfl,hq,dx,d1,d2,k0,k1,k2,hn,q⟩:=h
 cases ry
 obtain ⟨its,r,pl,hz⟩:=I.tuple hq
 obtain ⟨u1,u2,rfl,r1,r2⟩:∃u1 u2,its=[u1,u2]/\RelV (.ref a1) u1/\RelV (.ref a2) u2:=by
  cases r with
  | cons a r=>cases r with
   | cons b r=>cases r;exact ⟨_,_,rfl,a,b⟩
 refine SeqAt.in_tupleAt (λw=>if w=u1 then decide (e1=d) else decide (e2=d)) pl (λw hw=>?_) ⟨.bl _,H,I,rfl,?_⟩
 ·by_cases h1:w=u1
  ·rw [if_pos h1,h1]
   exact Qnf I (by show X.A.units+1+63<cLine;omega) r1 rx d1 dx k0 k1 hn
  ·rw [if_neg h1]
   have:w=u2:=by simpa [h1] using hw
   rw [this]
   exact Qnf I (by show X.A.units+1+63<cLine;omega) r2 rx d2 dx k0 k2 hn
 ·have e:(#[u1,u2].any λw=>if w=u1 then decide (e1=d) else decide (e2=d))=(decide (e1=d) || decide (e2=d)):=by
   by_cases n2:u2=u1
   ·have:a2=a1:=by rw [show u1=.ref a1 from r1,show u2=.ref a2 from r2] at n2;cases n2;rfl
    subst this
    rw [DV.uniq d1 d2]
    simp [n2]
   ·simp [n2]
  rw [e];exact q
end L2
namespace PV
open PySem PySem.Spec L2
inductive Ty where
 | int | bool | str | tuple | list | dict
 deriving DecidableEq
def Ty.nm:Ty->String
 | .int=>"int" | .bool=>"bool" | .str=>"str" | .tuple=>"tuple" | .list=>"list" | .dict=>"dict"
inductive KC where
 | any (a:Addr)
 | fn (x:Str)
 | int (i:Int)
 | tup (ks:List KC)
mutual
inductive IsKC (K:PySem.W.Frag):KC->V->Prop
 | any (a:Addr):IsKC K (.any a) (.ref a)
 | fn {x:Str} {f:Addr} (h:PySem.W.nsIn K mainGlobals x=some (some (.ref f))):IsKC K (.fn x) (.ref f)
 | int (i:Int):IsKC K (.int i) (.int i)
 | tup {a:Addr} {xs:List V} {ks:List KC} {o:Obj} {its:Array Value} {n:Nat} (h1:K.lookup a=some o) (h2:o.cls=.type "tuple") (h3:o.data=.seq its n) (h4:its.size<=sizeLine) (h5:Vals xs its.toList) (r:AreKC K ks xs):IsKC K (.tup ks) (.ref a)
inductive AreKC (K:PySem.W.Frag):List KC->List V->Prop
 | nil:AreKC K [] []
 | cons {c:KC} {v:V} {cs:List KC} {vs:List V} (h:IsKC K c v) (r:AreKC K cs vs):AreKC K (c::cs) (v::vs)
end
inductive D where
 | non
 | bl (b:Bool)
 | int (i:Int)
 | str (x:Str)
 | tup (xs:List D)
 | lst (xs:List D)
 | dik (kvs:List (Key × D))
 | dit (kvs:List (List Key × D))
 | kls (xs:List D)
 | ty (t:Ty)
 | fdk (kvs:List (Key × D))
 | ftp (xs:List D)
 | fls (xs:List D)
 | fdt (kvs:List (List Key × D))
 | obj (x:Str) (fs:List (Str × Int))
 | clo (L:Lam) (ds:List D)
 | kc (c:KC)
 | dmx (kvs:List (Mx.MI × D))
 | fmx (kvs:List (Mx.MI × D))
 | lsa (a:Addr) (xs:List D)
 | ist (x:Str) (ds:List D)
end PV
variable {o:Option PV.D} {v:L2.V} {k:PV.D->Prop} {ks:List PV.KC} {d:PV.D} {G:List PySem.Addr} {ds:List (L2.Key × PV.D)}
namespace PV
open PySem PySem.Spec L2
def imm:HO->Bool
 | .tup _=>true
 | .frz _ _=>true
 | .ins _ _ _=>true
 | _=>false
def FzL (K:PySem.W.Frag) (H:Hp) (a:Addr) (xs:List V):Prop :=
 (∃o,H a=some (.frz o (.lst xs))) \/
  ∃(o:Obj) (its:Array Value) (n:Nat),K.lookup a=some o/\o.cls=.type "list" /\ o.dict=none/\o.data=.seq its n/\its.size<=sizeLine/\Vals xs its.toList
theorem FzL.sq (h:FzL K H a xs):SqL K H a xs:=by
 rcases h with h | h
 ·exact .inl (.inr h)
 ·exact .inr h
def fldN:Nat->List Str
 | 0=>[]
 | 1=>["one"]
 | _=>["one","other"]
mutual
inductive Rep (K:PySem.W.Frag) (H:Hp):D->V->List Addr->Prop
 | non:Rep K H .non .non []
 | bl (b:Bool):Rep K H (.bl b) (.bl b) []
 | int (i:Int):Rep K H (.int i) (.int i) []
 | str (x:Str):Rep K H (.str x) (.str x) []
 | tup {a:Addr} {xs:List V} {ds:List D} {F:List Addr} (e:H a=some (.tup xs)) (r:Reps K H ds xs F):Rep K H (.tup ds) (.ref a) F
 | lst {a:Addr} {xs:List V} {ds:List D} {F:List Addr} (e:H a=some (.lst xs)) (r:Reps K H ds xs F):Rep K H (.lst ds) (.ref a) (a::F)
 | dik {a:Addr} {kvs:List (Key × V)} {ds:List (Key × D)} {F:List Addr} (e:H a=some (.dK kvs)) (r:RepK K H ds kvs F):Rep K H (.dik ds) (.ref a) (a::F)
 | dit {a:Addr} {kvs:List (List Key × V)} {ds:List (List Key × D)} {F:List Addr} (e:H a=some (.dT kvs)) (r:RepT K H ds kvs F):Rep K H (.dit ds) (.ref a) (a::F)
 | kls {a:Addr} {xs:List V} {ds:List D} (e:FzL K H a xs) (r:Reps K H ds xs []):Rep K H (.kls ds) (.ref a) []
 | ty (t:Ty):Rep K H (.ty t) (.ty t.nm) []
 | fdk {a:Addr} {o:Obj} {kvs:List (Key × V)} {ds:List (Key × D)} {F:List Addr} (e:H a=some (.frz o (.dK kvs))) (r:RepK K H ds kvs F):Rep K H (.fdk ds) (.ref a) F
 | ftp {a:Addr} {o:Obj} {xs:List V} {ds:List D} (e:H a=some (.frz o (.tup xs))) (hd:o.dict=none) (r:Reps K H ds xs []):Rep K H (.ftp ds) (.ref a) []
 | fls {a:Addr} {o:Obj} {xs:List V} {ds:List D} (e:H a=some (.frz o (.lst xs))) (r:Reps K H ds xs []):Rep K H (.fls ds) (.ref a) []
 | fdt {a:Addr} {o:Obj} {kvs:List (List Key × V)} {ds:List (List Key × D)} {F:List Addr} (e:H a=some (.frz o (.dT kvs))) (r:RepT K H ds kvs F):Rep K H (.fdt ds) (.ref a) F
 | obj {a:Addr} {x:Str} {o:Obj} {φ:Heap->Prop} {fs:List (Str × Int)} (e:H a=some (.frz o (.ext φ))) (hc:∃C,o.cls=.ref C/\PySem.W.nsIn K mainGlobals x=some (some (.ref C))) (hf:fs=[]\/∃dx od vs,o.dict=some dx/\o.data=.fields vs/\H dx=some (.frz od (.xd (fs.map λp=>(p.1,V.int p.2))))):Rep K H (.obj x fs) (.ref a) []
 | clo {a:Addr} {L:Lam} {xs:List V} {ds:List D} {F:List Addr} (e:Qmi H L a xs) (r:Reps K H ds xs F):Rep K H (.clo L ds) (.ref a) F
 | kc {c:KC} {v:V} (h:IsKC K c v):Rep K H (.kc c) v []
 | dmx {a:Addr} {kvs:Mx.KVM} {ds:List (Mx.MI × D)} (e:H a=some (Mx.mixO a kvs)) (hk:Mx.Keys H kvs) (hm:kvs.map (·.1)=ds.map (·.1)) (r:Reps K H (ds.map (·.2)) (kvs.map (·.2.2)) []):Rep K H (.dmx ds) (.ref a) [a]
 | fmx {a:Addr} {o:Obj} {kvs:Mx.KVM} {ds:List (Mx.MI × D)} (e:H a=some (.frz o (Mx.mixO a kvs))) (hk:Mx.Keys H kvs) (hm:kvs.map (·.1)=ds.map (·.1)) (r:Reps K H (ds.map (·.2)) (kvs.map (·.2.2)) []):Rep K H (.fmx ds) (.ref a) []
 | lsa {a:Addr} {xs:List V} {ds:List D} {F:List Addr} (e:H a=some (.lst xs)) (r:Reps K H ds xs F):Rep K H (.lsa a ds) (.ref a) (a::F)
 | ist {a C dx:Addr} {x:Str} {fs:List (Str × V)} {ds:List D} (e:H a=some (.ins C dx fs)) (hc:PySem.W.nsIn K mainGlobals x=some (some (.ref C))) (hn:fs.map (·.1)=fldN ds.length) (r:Reps K H ds (fs.map (·.2)) []):Rep K H (.ist x ds) (.ref a) []
inductive Reps (K:PySem.W.Frag) (H:Hp):List D->List V->List Addr->Prop
 | nil:Reps K H [] [] []
 | cons {d:D} {v:V} {ds:List D} {vs:List V} {F G:List Addr} (h:Rep K H d v F) (r:Reps K H ds vs G):Reps K H (d::ds) (v::vs) (F++G)
inductive RepK (K:PySem.W.Frag) (H:Hp):List (Key × D)->List (Key × V)->List Addr->Prop
 | nil:RepK K H [] [] []
 | cons {k:Key} {d:D} {v:V} {ds:List (Key × D)} {vs:List (Key × V)} {F G:List Addr} (h:Rep K H d v F) (r:RepK K H ds vs G):RepK K H ((k,d)::ds) ((k,v)::vs) (F++G)
inductive RepT (K:PySem.W.Frag) (H:Hp):List (List Key × D)->List (List Key × V)->List Addr->Prop
 | nil:RepT K H [] [] []
 | cons {k:List Key} {d:D} {v:V} {ds:List (List Key × D)} {vs:List (List Key × V)} {F G:List Addr} (h:Rep K H d v F) (r:RepT K H ds vs G):RepT K H ((k,d)::ds) ((k,v)::vs) (F++G)
end
def ImmK (H H':Hp):Prop:=∀b ob,H b=some ob->imm ob=true->H' b=some ob
theorem ImmK.fzL (hi:ImmK H H') (e:FzL K H a xs):FzL K H' a xs:=by
 rcases e with ⟨o,e⟩ | e
 ·exact .inl ⟨o,hi _ _ e rfl⟩
 ·exact .inr e
theorem ImmK.keys {H H':Hp} (hi:ImmK H H') {kvs:Mx.KVM} (h:Mx.Keys H kvs):Mx.Keys H' kvs:=λp hp=>by
 have:=h p hp
 revert this
 cases p.1 with
 | inl i=>exact id
 | inr l=>exact λ⟨b,e1,e2⟩=>⟨b,e1,hi _ _ e2 rfl⟩
theorem Rep.frame (hi:ImmK H H') {F:List Addr} (r:Rep K H d v F):(∀a∈F,H' a=H a)->Rep K H' d v F:=by
 refine Rep.rec (motive_1:=λd v F _=>(∀a∈F,H' a=H a)->Rep K H' d v F) (motive_2:=λd v F _=>(∀a∈F,H' a=H a)->Reps K H' d v F) (motive_3:=λd v F _=>(∀a∈F,H' a=H a)->RepK K H' d v F) (motive_4:=λd v F _=>(∀a∈F,H' a=H a)->RepT K H' d v F) ?_ ?_ ?_ ?_ ?_ ?_ ?_ ?_ ?_ ?_ ?_ ?_ ?_ ?_ ?_ ?_ ?_ ?_ ?_ ?_ ?_ ?_ ?_ ?_ ?_ ?_ ?_ r
 ·exact λ_=>.non
 ·exact λb _=>.bl b
 ·exact λb _=>.int b
 ·exact λb _=>.str b
 ·exact λe _ ih k=>.tup (hi _ _ e rfl) (ih k)
 ·exact λe _ ih k=>.lst ((k _ (List.mem_cons_self)).trans e) (ih λa h=>k a (List.mem_cons_of_mem _ h))
 ·exact λe _ ih k=>.dik ((k _ (List.mem_cons_self)).trans e) (ih λa h=>k a (List.mem_cons_of_mem _ h))
 ·exact λe _ ih k=>.dit ((k _ (List.mem_cons_self)).trans e) (ih λa h=>k a (List.mem_cons_of_mem _ h))
 ·exact λe _ ih k=>.kls (hi.fzL e) (ih k)
 ·exact λt _=>.ty t
 ·exact λe _ ih k=>.fdk (hi _ _ e rfl) (ih k)
 ·exact λe hd _ ih k=>.ftp (hi _ _ e rfl) hd (ih k)
 ·exact λe _ ih k=>.fls (hi _ _ e rfl) (ih k)
 ·exact λe _ ih k=>.fdt (hi _ _ e rfl) (ih k)
 ·exact λe hc hf _=>.obj (hi _ _ e rfl) hc (hf.imp id λ⟨dx,od,vs,h1,h0,h2⟩=>⟨dx,od,vs,h1,h0,hi _ _ h2 rfl⟩)
 ·exact λe _ ih k=>.clo (e.keeps λ_ _ _ q=>hi _ _ q rfl) (ih k)
 ·exact λh _=>.kc h
 ·exact λe hk hm _ ih k=>.dmx ((k _ (List.mem_cons_self)).trans e) (hi.keys hk) hm (ih λa h=>nomatch h)
 ·exact λe hk hm _ ih k=>.fmx (hi _ _ e rfl) (hi.keys hk) hm (ih λa h=>nomatch h)
 ·exact λe _ ih k=>.lsa ((k _ (List.mem_cons_self)).trans e) (ih λa h=>k a (List.mem_cons_of_mem _ h))
 ·exact λe hc hn _ ih k=>.ist (hi _ _ e rfl) hc hn (ih λa h=>nomatch h)
 ·exact λ_=>.nil
 ·exact λ_ _ ih1 ih2 k=>.cons (ih1 λa q=>k a (List.mem_append.mpr (.inl q))) (ih2 λa q=>k a (List.mem_append.mpr (.inr q)))
 ·exact λ_=>.nil
 ·exact λ_ _ ih1 ih2 k=>.cons (ih1 λa q=>k a (List.mem_append.mpr (.inl q))) (ih2 λa q=>k a (List.mem_append.mpr (.inr q)))
 ·exact λ_=>.nil
 ·exact λ_ _ ih1 ih2 k=>.cons (ih1 λa q=>k a (List.mem_append.mpr (.inl q))) (ih2 λa q=>k a (List.mem_append.mpr (.inr q)))
theorem Reps.frame (hi:ImmK H H') {d:List D} {v:List V} {F:List Addr} (r:Reps K H d v F) (k:∀a∈F,H' a=H a):Reps K H' d v F:=by
 induction d generalizing v F with
 | nil=>cases r;exact .nil
 | cons d ds ih=>cases r with | cons h r=>exact .cons (Rep.frame hi h λa q=>k a (List.mem_append.mpr (.inl q))) (ih r λa q=>k a (List.mem_append.mpr (.inr q)))
theorem RepK.frame (hi:ImmK H H') {d:List (Key × D)} {v:List (Key × V)} {F:List Addr} (r:RepK K H d v F) (k:∀a∈F,H' a=H a):RepK K H' d v F:=by
 induction d generalizing v F with
 | nil=>cases r;exact .nil
 | cons d ds ih=>cases r with | cons h r=>exact .cons (Rep.frame hi h λa q=>k a (List.mem_append.mpr (.inl q))) (ih r λa q=>k a (List.mem_append.mpr (.inr q)))
theorem RepT.frame (hi:ImmK H H') {d:List (List Key × D)} {v:List (List Key × V)} {F:List Addr} (r:RepT K H d v F) (k:∀a∈F,H' a=H a):RepT K H' d v F:=by
 induction d generalizing v F with
 | nil=>cases r;exact .nil
 | cons d ds ih=>cases r with | cons h r=>exact .cons (Rep.frame hi h λa q=>k a (List.mem_append.mpr (.inl q))) (ih r λa q=>k a (List.mem_append.mpr (.inr q)))
theorem Rep.dom {F:List Addr} (r:Rep K H d v F):∀a∈F,∃ob,H a=some ob/\imm ob=false:=by
 have cn:∀{b:Addr} {F:List Addr} {ob:HO},H b=some ob->imm ob=false->(∀a∈F,∃ob,H a=some ob/\imm ob=false)->∀a∈b::F,∃ob,H a=some ob/\imm ob=false:=λe hb ih a m=>(List.mem_cons.mp m).elim (λz=>z ▸ ⟨_,e,hb⟩) (ih a)
 have ap:∀{F G:List Addr},(∀a∈F,∃ob,H a=some ob/\imm ob=false)->(∀a∈G,∃ob,H a=some ob/\imm ob=false)->∀a∈F++G,∃ob,H a=some ob/\imm ob=false:=λih1 ih2 a m=>(List.mem_append.mp m).elim (ih1 a) (ih2 a)
 have no:∀a∈([]:List Addr),∃ob,H a=some ob/\imm ob=false:=λ_ m=>nomatch m
 refine Rep.rec (motive_1:=λ_ _ F _=>∀a∈F,∃ob,H a=some ob/\imm ob=false) (motive_2:=λ_ _ F _=>∀a∈F,∃ob,H a=some ob/\imm ob=false) (motive_3:=λ_ _ F _=>∀a∈F,∃ob,H a=some ob/\imm ob=false) (motive_4:=λ_ _ F _=>∀a∈F,∃ob,H a=some ob/\imm ob=false) no (λ_=>no) (λ_=>no) (λ_=>no) (λ_ _ ih=>ih) (λe _ ih=>cn e rfl ih) (λe _ ih=>cn e rfl ih) (λe _ ih=>cn e rfl ih) (λ_ _ _=>no) (λ_=>no) (λ_ _ ih=>ih) (λ_ _ _ _=>no) (λ_ _ _=>no) (λ_ _ ih=>ih) (λ_ _ _=>no) (λ_ _ ih=>ih) (λ_=>no) (λe _ _ _ _=>cn e rfl no) (λ_ _ _ _ _=>no) (λe _ ih=>cn e rfl ih) (λ_ _ _ _ _=>no) no (λ_ _=>ap) no (λ_ _=>ap) no (λ_ _=>ap) r
theorem Reps.dom {d:List D} {v:List V} {F:List Addr} (r:Reps K H d v F):∀a∈F,∃ob,H a=some ob/\imm ob=false:=by
 induction d generalizing v F with
 | nil=>cases r;exact λ_ m=>nomatch m
 | cons d ds ih=>cases r with | cons h r=>exact λa m=>(List.mem_append.mp m).elim (Rep.dom h a) (ih r a)
mutual
def D.pure:D->Bool
 | .tup xs=>Qn xs
 | .lst _=>false
 | .dik _=>false
 | .dit _=>false
 | .kls _=>true
 | .non=>true
 | .bl _=>true
 | .int _=>true
 | .str _=>true
 | .ty _=>true
 | .fdk kvs=>kvs.isEmpty
 | .ftp _=>true
 | .fls _=>true
 | .fdt _=>false
 | .obj _ _=>true
 | .clo _ _=>false
 | .kc _=>true
 | .dmx _=>false
 | .fmx _=>false
 | .lsa _ _=>false
 | .ist _ _=>true
def Qn:List D->Bool
 | []=>true
 | d::r=>d.pure && Qn r
end
theorem Xt {xs:List D}:Qn xs=true↔∀x∈xs,x.pure=true:=by
 induction xs with
 | nil=>simp [Qn]
 | cons d r ih=>simp only [Qn,Bool.and_eq_true,ih,List.mem_cons,forall_eq_or_imp]
theorem Rep.pure {F:List Addr} (r:Rep K H d v F):d.pure=true->F=[]/\Rep K H d v []:=by
 have no:∀{P:Prop} {b:Bool},b=false->b=true->P:=λh h'=>absurd (h.symm.trans h') (by simp)
 refine Rep.rec (motive_1:=λd v F _=>d.pure=true->F=[]/\Rep K H d v []) (motive_2:=λd v F _=>Qn d=true->F=[]/\Reps K H d v []) (motive_3:=λ_ _ _ _=>True) (motive_4:=λ_ _ _ _=>True) ?_ ?_ ?_ ?_ ?_ ?_ ?_ ?_ ?_ ?_ ?_ ?_ ?_ ?_ ?_ ?_ ?_ ?_ ?_ ?_ ?_ ?_ ?_ trivial (λ_ _ _ _=>trivial) trivial (λ_ _ _ _=>trivial) r
 ·exact λ_=>⟨rfl,.non⟩
 ·exact λb _=>⟨rfl,.bl b⟩
 ·exact λb _=>⟨rfl,.int b⟩
 ·exact λb _=>⟨rfl,.str b⟩
 ·exact λe _ ih p=>⟨(ih (by rw [D.pure] at p;exact p)).1,.tup e (ih (by rw [D.pure] at p;exact p)).2⟩
 ·exact λ_ _ _=>no (by rw [D.pure])
 ·exact λ_ _ _=>no (by rw [D.pure])
 ·exact λ_ _ _=>no (by rw [D.pure])
 ·exact λe r _ _=>⟨rfl,.kls e r⟩
 ·exact λb _=>⟨rfl,.ty b⟩
 ·intro a o kvs ds F e r _ p
  have hd:ds=[]:=by rw [D.pure] at p;exact List.isEmpty_iff.mp p
  subst hd
  cases r
  exact ⟨rfl,.fdk e .nil⟩
 ·exact λe hd r _ _=>⟨rfl,.ftp e hd r⟩
 ·exact λe r _ _=>⟨rfl,.fls e r⟩
 ·exact λ_ _ _=>no (by rw [D.pure])
 ·exact λe hc hf _=>⟨rfl,.obj e hc hf⟩
 ·exact λ_ _ _=>no (by rw [D.pure])
 ·exact λh _=>⟨rfl,.kc h⟩
 ·exact λ_ _ _ _ _=>no (by rw [D.pure])
 ·exact λ_ _ _ _ _=>no (by rw [D.pure])
 ·exact λ_ _ _=>no (by rw [D.pure])
 ·exact λe hc hn r _ _=>⟨rfl,.ist e hc hn r⟩
 ·exact λ_=>⟨rfl,.nil⟩
 ·intro _ _ _ _ _ _ _ _ ih1 ih2 p
  rw [Qn,Bool.and_eq_true] at p
  obtain ⟨e1,r1⟩:=ih1 p.1
  obtain ⟨e2,r2⟩:=ih2 p.2
  subst e1 e2
  exact ⟨rfl,.cons (F:=[]) (G:=[]) r1 r2⟩
theorem Reps.pure {d:List D} {v:List V} {F:List Addr} (r:Reps K H d v F) (p:Qn d=true):F=[]/\Reps K H d v []:=by
 induction d generalizing v F with
 | nil=>cases r;exact ⟨rfl,.nil⟩
 | cons d ds ih =>
  cases r with
  | cons h r =>
   rw [Qn,Bool.and_eq_true] at p
   obtain ⟨e1,r1⟩:=h.pure p.1
   obtain ⟨e2,r2⟩:=ih r p.2
   subst e1 e2
   exact ⟨rfl,.cons (F:=[]) (G:=[]) r1 r2⟩
theorem Reps.length {ds:List D} {F:List Addr} (r:Reps K H ds xs F):xs.length=ds.length:=by
 induction ds generalizing xs F with
 | nil=>cases r;rfl
 | cons d ds ih=>cases r with | cons h r=>simp [ih r]
theorem Reps.append {ds es:List D} {F:List Addr} (r:Reps K H ds xs F) (q:Reps K H es ys G):Reps K H (ds++es) (xs++ys) (F++G):=by
 induction ds generalizing xs F with
 | nil=>cases r;exact q
 | cons d ds ih=>cases r with | cons h r=>rw [List.append_assoc];exact .cons h (ih r)
theorem Reps.one {x:V} {F:List Addr} (h:Rep K H d x F):Reps K H [d] [x] F:=by
 have:=Reps.cons h (Reps.nil (K:=K) (H:=H))
 rwa [List.append_nil] at this
theorem Reps.snoc {ds:List D} {x:V} {F:List Addr} (r:Reps K H ds xs F) (h:Rep K H d x G):Reps K H (ds++[d]) (xs++[x]) (F++G):=r.append (.one h)
theorem Reps.split {ds:List D} {F:List Addr} (r:Reps K H ds xs F) (h:ds[i]? = some d) :
  ∃x A B C,xs[i]? = some x/\F=A++B++C/\Rep K H d x B/\Reps K H (ds.take i) (xs.take i) A/\Reps K H (ds.drop (i+1)) (xs.drop (i+1)) C:=by
 induction ds generalizing xs F i with
 | nil=>simp at h
 | cons e ds ih =>
  cases r with
  | @cons _ v _ vs F G p r =>
   cases i with
   | zero =>
    simp at h
    subst h
    exact ⟨v,[],F,G,rfl,by simp,p,.nil,by simpa using r⟩
   | succ i =>
    obtain ⟨x,A,B,C,h1,h2,h3,h4,h5⟩:=ih r (i:=i) (by simpa using h)
    exact ⟨x,F++A,B,C,by simpa using h1,by rw [h2];simp,h3,by simpa using Reps.cons p h4,by simpa using h5⟩
theorem Reps.get {ds:List D} {F:List Addr} (r:Reps K H ds xs F) (h:ds[i]? = some d):∃x B,xs[i]? = some x/\Rep K H d x B/\B.Sublist F:=by
 obtain ⟨x,A,B,C,h1,h2,h3,_⟩:=r.split h
 exact ⟨x,B,h1,h3,h2 ▸ (List.sublist_append_right A B).trans (List.sublist_append_left _ C)⟩
theorem Us {α:Type} {l:List α} {a:α} (h:i<l.length):l.set i a=l.take i++a::l.drop (i+1):=by
 rw [List.set_eq_take_append_cons_drop,if_pos h]
theorem Reps.take {ds:List D} {F:List Addr} (i:Nat) (r:Reps K H ds xs F):∃G,Reps K H (ds.take i) (xs.take i) G/\G.Sublist F:=by
 induction ds generalizing xs F i with
 | nil=>cases r;exact ⟨[],by simpa using Reps.nil,List.Sublist.slnil⟩
 | cons d ds ih =>
  cases r with
  | @cons _ v _ vs F G p r =>
   cases i with
   | zero=>exact ⟨[],by simpa using Reps.nil,List.nil_sublist _⟩
   | succ i =>
    obtain ⟨G',q,s⟩:=ih i r
    exact ⟨F++G',by simpa using Reps.cons p q,List.Sublist.append (List.Sublist.refl _) s⟩
theorem Reps.drop {ds:List D} {F:List Addr} (i:Nat) (r:Reps K H ds xs F):∃G,Reps K H (ds.drop i) (xs.drop i) G/\G.Sublist F:=by
 induction ds generalizing xs F i with
 | nil=>cases r;exact ⟨[],by simpa using Reps.nil,List.Sublist.slnil⟩
 | cons d ds ih =>
  cases i with
  | zero=>exact ⟨F,by simpa using r,List.Sublist.refl _⟩
  | succ i =>
   cases r with
   | @cons _ v _ vs F G p r =>
    obtain ⟨G',q,s⟩:=ih i r
    exact ⟨G',by simpa using q,s.trans (List.sublist_append_right _ _)⟩
theorem Reps.ints (ns:List Int):Reps K H (ns.map D.int) (ns.map V.int) []:=by
 induction ns with
 | nil=>exact .nil
 | cons n ns ih=>exact .cons (F:=[]) (G:=[]) (.int n) ih
def kcD:KC->D
 | .int i=>.int i
 | .any a=>.kc (.any a)
 | .fn x=>.kc (.fn x)
 | .tup ks=>.kc (.tup ks)
theorem IsKC.rep {c:KC} (h:IsKC K c v):Rep K H (kcD c) v []:=by
 cases h with
 | int i=>exact .int i
 | any a=>exact .kc (.any a)
 | fn h=>exact .kc (.fn h)
 | tup h1 h2 h3 h4 h5 r=>exact .kc (.tup h1 h2 h3 h4 h5 r)
theorem AreKC.reps {cs:List KC} (h:AreKC K cs vs):Reps K H (cs.map kcD) vs []:=by
 induction cs generalizing vs with
 | nil=>cases h;exact .nil
 | cons c cs ih=>cases h with | cons h r=>exact .cons (F:=[]) (G:=[]) h.rep (ih r)
theorem IsKC.sqT (h:IsKC K (.tup ks) v):∃a xs,v=.ref a/\(∀H,SqT K H a xs)/\AreKC K ks xs:=by
 cases h with
 | tup h1 h2 h3 h4 h5 r=>exact ⟨_,_,rfl,λH=>.inr ⟨_,_,_,h1,h2,h3,h4,h5⟩,r⟩
section
variable {F:List Addr}
theorem Rep.iInt {i:Int} (r:Rep K H (.int i) v F):v=.int i:=by cases r;rfl
theorem Rep.iStr {i:Str} (r:Rep K H (.str i) v F):v=.str i:=by cases r;rfl
theorem Rep.iBl {i:Bool} (r:Rep K H (.bl i) v F):v=.bl i:=by cases r;rfl
theorem Rep.iTup {ds:List D} (r:Rep K H (.tup ds) v F):∃a xs,v=.ref a/\H a=some (.tup xs)/\Reps K H ds xs F:=by cases r with | tup e r=>exact ⟨_,_,rfl,e,r⟩
theorem Rep.iLst {ds:List D} (r:Rep K H (.lst ds) v F):∃a xs G,v=.ref a/\F=a::G/\H a=some (.lst xs)/\Reps K H ds xs G:=by cases r with | lst e r=>exact ⟨_,_,_,rfl,rfl,e,r⟩
theorem Rep.iDik (r:Rep K H (.dik ds) v F):∃a xs G,v=.ref a/\F=a::G/\H a=some (.dK xs)/\RepK K H ds xs G:=by cases r with | dik e r=>exact ⟨_,_,_,rfl,rfl,e,r⟩
theorem Rep.iDit {ds:List (List Key × D)} (r:Rep K H (.dit ds) v F):∃a xs G,v=.ref a/\F=a::G/\H a=some (.dT xs)/\RepT K H ds xs G:=by cases r with | dit e r=>exact ⟨_,_,_,rfl,rfl,e,r⟩
theorem Rep.iKls {ds:List D} (r:Rep K H (.kls ds) v F):∃a xs,v=.ref a/\F=[]/\FzL K H a xs/\Reps K H ds xs []:=by cases r with | kls e r=>exact ⟨_,_,rfl,rfl,e,r⟩
theorem Rep.iFdk (r:Rep K H (.fdk ds) v F):∃a o xs,v=.ref a/\H a=some (.frz o (.dK xs))/\RepK K H ds xs F:=by cases r with | fdk e r=>exact ⟨_,_,_,rfl,e,r⟩
end
section
variable {κ:Type} [DecidableEq κ]
def valD (kvs:List (κ × D)) (k:κ):Option D:=(kvs.find? λkv=>decide (kv.1=k)).map (·.2)
def putD (kvs:List (κ × D)) (k:κ) (v:D):List (κ × D) :=
 if (kvs.any λkv=>decide (kv.1=k))=true then kvs.map (λkv=>if kv.1=k then (kv.1,v) else kv) else kvs++[(k,v)]
theorem Qcm {p:κ × D} {r:List (κ × D)} {k:κ}:valD (p::r) k=if p.1=k then some p.2 else valD r k:=by
 unfold valD
 by_cases h:p.1=k
 ·rw [List.find?_cons_of_pos (by simpa using h),if_pos h];rfl
 ·rw [List.find?_cons_of_neg (by simpa using h),if_neg h]
end
theorem RepK.length {xs:List (Key × V)} {F:List Addr} (r:RepK K H ds xs F):xs.length=ds.length:=by
 induction ds generalizing xs F with
 | nil=>cases r;rfl
 | cons d ds ih=>cases r with | cons h r=>simp [ih r]
theorem RepK.keys {xs:List (Key × V)} {F:List Addr} (r:RepK K H ds xs F):xs.map (·.1)=ds.map (·.1):=by
 induction ds generalizing xs F with
 | nil=>cases r;rfl
 | cons d ds ih=>cases r with | cons h r=>simp [ih r]
theorem RepK.val {xs:List (Key × V)} {F:List Addr} (r:RepK K H ds xs F) (k:Key) :
  (valD ds k=none/\valV xs k=none)\/∃d v B,valD ds k=some d/\valV xs k=some v/\Rep K H d v B/\B.Sublist F:=by
 induction ds generalizing xs F with
 | nil=>cases r;exact .inl ⟨rfl,rfl⟩
 | cons d ds ih =>
  cases r with
  | @cons j d v _ vs F G h r =>
   rw [Qcm]
   by_cases e:j=k
   ·rw [Uo e,if_pos e]
    exact .inr ⟨d,v,F,rfl,rfl,h,List.sublist_append_left _ _⟩
   ·rw [Up e,if_neg e]
    rcases ih r with q | ⟨d',v',B,h1,h2,h3,h4⟩
    ·exact .inl q
    ·exact .inr ⟨d',v',B,h1,h2,h3,h4.trans (List.sublist_append_right _ _)⟩
theorem RepK.append {es:List (Key × D)} {xs ys:List (Key × V)} {F:List Addr} (r:RepK K H ds xs F) (q:RepK K H es ys G):RepK K H (ds++es) (xs++ys) (F++G):=by
 induction ds generalizing xs F with
 | nil=>cases r;exact q
 | cons d ds ih=>cases r with | cons h r=>rw [List.append_assoc];exact .cons h (ih r)
theorem RepK.put {xs:List (Key × V)} {F:List Addr} {k:Key} (r:RepK K H ds xs F) (h:Rep K H d v []):∃G,RepK K H (putD ds k d) (putK xs k v) G/\G.Sublist F:=by
 have hk:(xs.any λkv=>decide (kv.1=k))=(ds.any λkv=>decide (kv.1=k)):=by
  have e:=r.keys
  rw [show (xs.any λkv=>decide (kv.1=k))=(xs.map (·.1)).any (λj=>decide (j=k)) by rw [List.any_map];rfl,e,List.any_map];rfl
 unfold putD putK
 rw [hk]
 split
 ·clear hk
  rename_i hc
  clear hc
  induction ds generalizing xs F with
  | nil=>cases r;exact ⟨[],.nil,List.Sublist.slnil⟩
  | cons e ds ih =>
   cases r with
   | @cons j e u _ us F G p r =>
    obtain ⟨G',q,s⟩:=ih r
    by_cases ej:j=k
    ·exact ⟨[]++G',by simpa [ej] using RepK.cons (k:=k) h q,s.trans (List.sublist_append_right _ _)⟩
    ·exact ⟨F++G',by simpa [ej] using RepK.cons (k:=j) p q,List.Sublist.append (List.Sublist.refl _) s⟩
 ·refine ⟨F++[],r.append ?_,by simp⟩
  exact RepK.cons (F:=[]) (G:=[]) h .nil
theorem RepT.length {ds:List (List Key × D)} {xs:List (List Key × V)} {F:List Addr} (r:RepT K H ds xs F):xs.length=ds.length:=by
 induction ds generalizing xs F with
 | nil=>cases r;rfl
 | cons d ds ih=>cases r with | cons h r=>simp [ih r]
theorem RepT.keys {ds:List (List Key × D)} {xs:List (List Key × V)} {F:List Addr} (r:RepT K H ds xs F):xs.map (·.1)=ds.map (·.1):=by
 induction ds generalizing xs F with
 | nil=>cases r;rfl
 | cons d ds ih=>cases r with | cons h r=>simp [ih r]
theorem RepT.val {ds:List (List Key × D)} {xs:List (List Key × V)} {F:List Addr} (r:RepT K H ds xs F) (k:List Key) :
  (valD ds k=none/\valV xs k=none)\/∃d v B,valD ds k=some d/\valV xs k=some v/\Rep K H d v B/\B.Sublist F:=by
 induction ds generalizing xs F with
 | nil=>cases r;exact .inl ⟨rfl,rfl⟩
 | cons d ds ih =>
  cases r with
  | @cons j d v _ vs F G h r =>
   rw [Qcm]
   by_cases e:j=k
   ·rw [Uo e,if_pos e]
    exact .inr ⟨d,v,F,rfl,rfl,h,List.sublist_append_left _ _⟩
   ·rw [Up e,if_neg e]
    rcases ih r with q | ⟨d',v',B,h1,h2,h3,h4⟩
    ·exact .inl q
    ·exact .inr ⟨d',v',B,h1,h2,h3,h4.trans (List.sublist_append_right _ _)⟩
theorem RepT.append {ds es:List (List Key × D)} {xs ys:List (List Key × V)} {F:List Addr} (r:RepT K H ds xs F) (q:RepT K H es ys G):RepT K H (ds++es) (xs++ys) (F++G):=by
 induction ds generalizing xs F with
 | nil=>cases r;exact q
 | cons d ds ih=>cases r with | cons h r=>rw [List.append_assoc];exact .cons h (ih r)
theorem RepT.put {ds:List (List Key × D)} {xs:List (List Key × V)} {F:List Addr} {k:List Key} (r:RepT K H ds xs F) (h:Rep K H d v []):∃G,RepT K H (putD ds k d) (putK xs k v) G/\G.Sublist F:=by
 have hk:(xs.any λkv=>decide (kv.1=k))=(ds.any λkv=>decide (kv.1=k)):=by
  have e:=r.keys
  rw [show (xs.any λkv=>decide (kv.1=k))=(xs.map (·.1)).any (λj=>decide (j=k)) by rw [List.any_map];rfl,e,List.any_map];rfl
 unfold putD putK
 rw [hk]
 split
 ·clear hk
  rename_i hc
  clear hc
  induction ds generalizing xs F with
  | nil=>cases r;exact ⟨[],.nil,List.Sublist.slnil⟩
  | cons e ds ih =>
   cases r with
   | @cons j e u _ us F G p r =>
    obtain ⟨G',q,s⟩:=ih r
    by_cases ej:j=k
    ·exact ⟨[]++G',by simpa [ej] using RepT.cons (k:=k) h q,s.trans (List.sublist_append_right _ _)⟩
    ·exact ⟨F++G',by simpa [ej] using RepT.cons (k:=j) p q,List.Sublist.append (List.Sublist.refl _) s⟩
 ·refine ⟨F++[],r.append ?_,by simp⟩
  exact RepT.cons (F:=[]) (G:=[]) h .nil
abbrev Env:=List (Option D)
def look:Env->Nat->Option D
 | [],_=>none
 | a::_,0=>a
 | _::r,n+1=>look r n
theorem Qfv:∀{ρ:Env} {i:Nat} {d:D},look ρ i=some d->ρ[i]? = some (some d)
 | _::_,0,_,h=>by simpa [look] using h
 | _::r,n+1,_,h=>by simpa using Qfv (ρ:=r) (i:=n) (by simpa [look] using h)
theorem Ge {ρ:Env} (h:look ρ i=some d):i<ρ.length:=by
 have:=Qfv h
 exact (List.getElem?_eq_some_iff.mp this).1
theorem Vr {o:Option D}:∀{ρ:Env} {i j:Nat},look (ρ.set i o) j=if j=i/\i<ρ.length then o else look ρ j
 | [],i,j=>by simp [look]
 | a::r,0,0=>by simp [look]
 | a::r,0,j+1=>by simp [look]
 | a::r,i+1,0=>by simp [look]
 | a::r,i+1,j+1=>by
  have:=Vr (o:=o) (ρ:=r) (i:=i) (j:=j)
  simp only [List.set_cons_succ,look,this,List.length_cons,Nat.add_right_cancel_iff,Nat.add_lt_add_iff_right]
theorem Z1 {ρ:Env} (h:i<ρ.length):look (ρ.set i o) i=o:=by rw [Vr,if_pos ⟨rfl,h⟩]
theorem Qq {ρ:Env} {j:Nat} (h:j≠i):look (ρ.set i o) j=look ρ j:=by rw [Vr,if_neg (λz=>h z.1)]
structure Tg where
 own:Nat->Bool
 io:List Nat
 xe:D->St->Hp->Prop:=λ_ _ _=>False
end PV
variable {R W1 W2 W':PySem.Addr->Prop} {T:PV.Tg} {ρ:PV.Env}
namespace PV
open PySem PySem.Spec L2
structure SR0 (K:PySem.W.Frag) (T:Tg) (z:Nat->V) (R:Addr->Prop) (H:Hp) (W:Addr->Prop) (σ:St) (ρ:Env) (fp:Nat->List Addr):Prop where
 len:ρ.length=σ.length
 wd:∀a,W a->∃ob,H a=some ob/\imm ob=false
 at_:∀i d,look ρ i=some d->∃v,σ[i]? = some (some v)/\Rep K H d v (fp i)
 own:∀i d,look ρ i=some d->T.own i=true->(fp i).Nodup/\∀a∈fp i,W a
 ro:∀i d,look ρ i=some d->T.own i=false->∀a∈fp i,R a
 wr:∀a,W a->¬R a
 rd:∀a,R a->∃ob,H a=some ob/\imm ob=false
 dis:∀i j d e,look ρ i=some d->look ρ j=some e->T.own i=true->T.own j=true->i≠j->∀a∈fp i,a∉fp j
 fix:∀i∈T.io,σ[i]? = some (some (z i))
def SR (K:PySem.W.Frag) (T:Tg) (z:Nat->V) (R:Addr->Prop) (H:Hp) (W:Addr->Prop) (σ:St) (ρ:Env):Prop:=∃fp,SR0 K T z R H W σ ρ fp
structure FrW (H:Hp) (W:Addr->Prop) (H':Hp) (W':Addr->Prop):Prop where
 keep:∀b ob,H b=some ob->¬W b->H' b=some ob
 dom:∀b,H' b=none->H b=none
 imm:ImmK H H'
 new:∀b,W' b->W b\/H b=none
theorem FrW.refl (H:Hp) (W:Addr->Prop):FrW H W H W:=⟨λ_ _ h _=>h,λ_ h=>h,λ_ _ h _=>h,λ_ h=>.inl h⟩
theorem FrW.trans {W:Addr->Prop} (a:FrW H W H1 W1) (b:FrW H1 W1 H2 W2):FrW H W H2 W2 where
 keep:=λc ob h n=>b.keep c ob (a.keep c ob h n) λw=>by
  rcases a.new c w with w | w
  ·exact n w
  ·rw [w] at h;cases h
 dom:=λc h=>a.dom c (b.dom c h)
 imm:=λc ob h i=>b.imm c ob (a.imm c ob h i) i
 new:=λc h=>by
  rcases b.new c h with w | w
  ·exact a.new c w
  ·exact .inr (a.dom c w)
theorem Same.imm (s:Same H H'):ImmK H H':=λb ob h _=>s b ob h
theorem FrW.same (W:Addr->Prop) (s:Same H H'):FrW H W H' W:=⟨λb ob h _=>s b ob h,λb h=>s.free h,Same.imm s,λ_ h=>.inl h⟩
theorem Rep.same {F:List Addr} (r:Rep K H d v F) (s:Same H H'):Rep K H' d v F :=
 r.frame (Same.imm s) λa m=>by
  obtain ⟨ob,h,_⟩:=r.dom a m
  rw [h];exact s _ _ h
theorem Reps.same {d:List D} {v:List V} {F:List Addr} (r:Reps K H d v F) (s:Same H H'):Reps K H' d v F :=
 r.frame (Same.imm s) λa m=>by
  obtain ⟨ob,h,_⟩:=r.dom a m
  rw [h];exact s _ _ h
theorem Rep.keep {W:Addr->Prop} {F:List Addr} (r:Rep K H d v F) (f:FrW H W H' W') (n:∀a∈F,¬W a):Rep K H' d v F :=
 r.frame f.imm λa m=>by
  obtain ⟨ob,h,_⟩:=r.dom a m
  rw [h];exact f.keep _ _ h (n a m)
section
variable {W:Addr->Prop}
theorem SR.same (s:SR K T z R H W σ ρ) (k:Same H H'):SR K T z R H' W σ ρ:=by
 obtain ⟨fp,r⟩:=s
 exact ⟨fp,r.len,λa h=>(r.wd a h).imp λob q=>⟨k _ _ q.1,q.2⟩,λi d h=>(r.at_ i d h).imp λv q=>⟨q.1,q.2.same k⟩,r.own,r.ro,r.wr,λa h=>(r.rd a h).imp λob q=>⟨k _ _ q.1,q.2⟩,r.dis,r.fix⟩
theorem SR.wd (s:SR K T z R H W σ ρ):∀a,W a->∃ob,H a=some ob/\imm ob=false:=by obtain ⟨fp,r⟩:=s;exact r.wd
theorem SR.rd (s:SR K T z R H W σ ρ):∀a,R a->∃ob,H a=some ob/\imm ob=false:=by obtain ⟨fp,r⟩:=s;exact r.rd
theorem SR.nr (s:SR K T z R H W σ ρ) (h:H a=none):¬R a:=λw=>by
 obtain ⟨ob,q,_⟩:=s.rd a w
 rw [h] at q;cases q
theorem SR.nw (s:SR K T z R H W σ ρ) (h:H a=none):¬W a:=λw=>by
 obtain ⟨ob,q,_⟩:=s.wd a w
 rw [h] at q;cases q
end
abbrev WE:=Env->(D->Env->Prop)->Prop
end PV
variable {a b:PV.D} {o m m2 o1 o2:Bool} {i:Int} {ρ1 ρ2:PV.Env} {F1 F2:List PySem.Addr} {wa wb:PV.WE}
namespace PV
open PySem PySem.Spec L2
structure Post (K:PySem.W.Frag) (T:Tg) (z:Nat->V) (R:Addr->Prop) (m o:Bool) (H:Hp) (W:Addr->Prop) (σ:St) (ρ:Env) (H':Hp) (W':Addr->Prop) (ρ':Env) (d:D) (v:V) (F:List Addr):Prop where
 sr:SR K T z R H' W' σ ρ'
 fr:FrW H W H' W'
 calm:m=false->Same H H'/\W'=W/\ρ'=ρ
 rep:Rep K H' d v F
 own:o=true->F.Nodup/\∀a∈F,H a=none/\¬W' a
def EV (X:Cx) (T:Tg) (m o:Bool) (e:Expr) (w:WE):Prop :=
 ∃te,PE X e te/\∀(z:Nat->V) (R:Addr->Prop) (σ:St) (H:Hp) (W:Addr->Prop) (ρ:Env) (Q:D->Env->Prop) (Q':VK),SR X.K T z R H W σ ρ->w ρ Q ->
  (∀v H' W' d ρ' F,Post X.K T z R m o H W σ ρ H' W' ρ' d v F->Q d ρ'->Q' v H')->te σ H Q'
section
variable {W:Addr->Prop} {m1:Bool} {d1 d2:D} {v1 v2:V}
theorem Post.first (p:Post K T z R m1 o1 H W σ ρ H1 W1 ρ1 d1 v1 F1) (q:Post K T z R m2 o2 H1 W1 σ ρ1 H2 W2 ρ2 d2 v2 F2) (hc:o1=true\/m2=false):Rep K H2 d1 v1 F1:=by
 rcases hc with hc | hc
 ·exact p.rep.keep q.fr λa h=>((p.own hc).2 a h).2
 ·exact p.rep.same (q.calm hc).1
theorem Post.firstOwn (p:Post K T z R m1 o1 H W σ ρ H1 W1 ρ1 d1 v1 F1) (q:Post K T z R m2 o2 H1 W1 σ ρ1 H2 W2 ρ2 d2 v2 F2) (h:o1=true):F1.Nodup/\∀a∈F1,H a=none/\¬W2 a:=by
 obtain ⟨h1,h2⟩:=p.own h
 refine ⟨h1,λa m=>⟨(h2 a m).1,λw=>?_⟩⟩
 rcases q.fr.new a w with w | w
 ·exact (h2 a m).2 w
 ·obtain ⟨ob,e,_⟩:=p.rep.dom a m
  rw [e] at w;cases w
theorem Post.lastOwn (p:Post K T z R m1 o1 H W σ ρ H1 W1 ρ1 d1 v1 F1) (q:Post K T z R m2 o2 H1 W1 σ ρ1 H2 W2 ρ2 d2 v2 F2) (h:o2=true):F2.Nodup/\∀a∈F2,H a=none/\¬W2 a:=by
 obtain ⟨h1,h2⟩:=q.own h
 exact ⟨h1,λa m=>⟨p.fr.dom a (h2 a m).1,(h2 a m).2⟩⟩
theorem Post.calm2 (p:Post K T z R m1 o1 H W σ ρ H1 W1 ρ1 d1 v1 F1) (q:Post K T z R m2 o2 H1 W1 σ ρ1 H2 W2 ρ2 d2 v2 F2) (h:(m1 || m2)=false):Same H H2/\W2=W/\ρ2=ρ:=by
 rw [Bool.or_eq_false_iff] at h
 obtain ⟨a1,a2,a3⟩:=p.calm h.1
 obtain ⟨b1,b2,b3⟩:=q.calm h.2
 exact ⟨a1.trans b1,b2.trans a2,b3.trans a3⟩
theorem Post.fin {F:List Addr} (s:SR K T z R H1 W1 σ ρ1) (f:FrW H W H1 W1) (c:m=false->Same H H1/\W1=W/\ρ1=ρ) (k:Same H1 H2) (r:Rep K H2 d v F) (nd:F.Nodup) (nw:∀a∈F,H1 a=none) :
  Post K T z R m true H W σ ρ H2 W1 ρ1 d v F where
 sr:=s.same k
 fr:=f.trans (FrW.same W1 k)
 calm:=λh=>⟨(c h).1.trans k,(c h).2⟩
 rep:=r
 own:=λ_=>⟨nd,λa m=>⟨f.dom a (nw a m),s.nw (nw a m)⟩⟩
theorem Post.flat (s:SR K T z R H1 W1 σ ρ1) (f:FrW H W H1 W1) (c:m=false->Same H H1/\W1=W/\ρ1=ρ) (r:Rep K H1 d v []):Post K T z R m true H W σ ρ H1 W1 ρ1 d v [] where
 sr:=s
 fr:=f
 calm:=c
 rep:=r
 own:=λ_=>⟨List.nodup_nil,λa m=>nomatch m⟩
end
section
variable {m1:Bool} {a b:Expr} {w:WE}
theorem EV.lift (h:EV X T m o e w):EV X T m true e (λρ Q=>w ρ λd ρ'=>d.pure=true/\Q d ρ'):=by
 obtain ⟨te,p,g⟩:=h
 refine ⟨te,p,λz R σ H W ρ Q Q' s hw k=>g z R σ H W ρ _ Q' s hw λv H' W' d ρ' F q ⟨hp,hq⟩=>?_⟩
 obtain ⟨e,r⟩:=q.rep.pure hp
 exact k v H' W' d ρ' [] ⟨q.sr,q.fr,q.calm,r,λ_=>⟨List.nodup_nil,λa m=>nomatch m⟩⟩ hq
def wVar (i:Nat):WE:=λρ Q=>match look ρ i with
 | some d=>Q d ρ
 | none=>False
def wC (d:D):WE:=λρ Q=>Q d ρ
theorem Qvh (i:Nat) (h:PE X e (tVar i)):EV X T false false e (wVar i):=by
 refine ⟨_,h,λz R σ H W ρ Q Q' s hw k=>?_⟩
 unfold wVar at hw
 cases hl:look ρ i with
 | none=>rw [hl] at hw;exact hw.elim
 | some d =>
  rw [hl] at hw
  obtain ⟨fp,r⟩:=s
  obtain ⟨v,h1,h2⟩:=r.at_ i d hl
  exact ⟨v,h1,k v H W d ρ (fp i) ⟨⟨fp,r⟩,FrW.refl H W,λ_=>⟨Same.refl H,rfl,rfl⟩,h2,λh=>nomatch h⟩ hw⟩
theorem Qc (i:Nat) (hN:X.N[i]? = some x:=by rfl) (hv:Vis X.env.scope x:=by first | exact Or.inl rfl | exact Or.inr (Or.inl rfl) | exact Or.inr (Or.inr rfl)) (hd:(x == ("__debug__" : Str))=false:=by decide)
  (hcd:(x == ("__classdict__" : Str))=false:=by decide):EV X T false false (.Name x pos) (wVar i):=Qvh i (Y4 hN hv hd hcd)
theorem Vt (h:PE X e (tC v)) (r:∀H,Rep X.K H d v []):EV X T false true e (wC d) :=
 ⟨_,h,λz R σ H W ρ Q Q' s hw k=>k v H W d ρ [] (Post.flat s (FrW.refl H W) (λ_=>⟨Same.refl H,rfl,rfl⟩) (r H)) hw⟩
theorem Qf {j pos}:EV X T false true (.Constant (.int i) j pos) (wC (.int i)):=Vt Qm0 λ_=>.int i
theorem Qcb {i:Bool} {j pos}:EV X T false true (.Constant (.bool i) j pos) (wC (.bl i)):=Vt Quv λ_=>.bl i
theorem Qk {i:Str} {j pos}:EV X T false true (.Constant (.str i) j pos) (wC (.str i)):=Vt Qmz λ_=>.str i
theorem Qbe {j pos}:EV X T false true (.Constant .none j pos) (wC .non):=Vt Qrk λ_=>.non
theorem Qpy (hm:X.mg x=some (.int i t)) (hg:Gl X x:=by rfl) (hd:(x == ("__debug__" : Str))=false:=by decide):EV X T false true (.Name x pos) (wC (.int i)) :=
 Vt (Ga hg hm (v:=.int i) ⟨t,rfl⟩ hd) λ_=>.int i
abbrev G2:=D->D->(D->Prop)->Prop
structure Fin (K:PySem.W.Frag) (H H':Hp) (d:D) (v:V) (F:List Addr):Prop where
 same:Same H H'
 rep:Rep K H' d v F
 nd:F.Nodup
 new:∀a∈F,H a=none
theorem Fin.flat (r:Rep K H d v []):Fin K H H d v []:=⟨Same.refl H,r,List.nodup_nil,λ_ m=>nomatch m⟩
theorem Qo {p:Addr} (h:H p=none):Same H (upd H p ob):=λb u e=>by rw [Qg (Ja e h)];exact e
def OpD (X:Cx) (f:Value->Value->Sem Value) (g:G2):Prop :=
 ∃r,OpR X f r/\∀(H:Hp) (a b:D) (x y:V) (F1 F2:List Addr) (k:D->Prop) (Q:VK),Rep X.K H a x F1->Rep X.K H b y F2->g a b k ->
  (∀v H' d F,Fin X.K H H' d v F->k d->Q v H')->r x y H Q
def wBin (g:G2) (wa wb:WE):WE:=λρ Q=>wa ρ λx ρ1=>wb ρ1 λy ρ2=>g x y λd=>Q d ρ2
theorem two {W:Addr->Prop} {RR:V->V->Hp->Prop} {Q2:D->D->Env->Prop}
  (ga:∀(z:Nat->V) (R:Addr->Prop) (σ:St) (H:Hp) (W:Addr->Prop) (ρ:Env) (Q:D->Env->Prop) (Q':VK),SR X.K T z R H W σ ρ->wa ρ Q->(∀v H' W' d ρ' F,Post X.K T z R m1 o1 H W σ ρ H' W' ρ' d v F->Q d ρ'->Q' v H')->ta σ H Q')
  (gb:∀(z:Nat->V) (R:Addr->Prop) (σ:St) (H:Hp) (W:Addr->Prop) (ρ:Env) (Q:D->Env->Prop) (Q':VK),SR X.K T z R H W σ ρ->wb ρ Q->(∀v H' W' d ρ' F,Post X.K T z R m2 o2 H W σ ρ H' W' ρ' d v F->Q d ρ'->Q' v H')->tb σ H Q')
  (hc:o1=true\/m2=false) (s:SR X.K T z R H W σ ρ) (hw:wa ρ λx ρ1=>wb ρ1 λy ρ2=>Q2 x y ρ2)
  (k:∀x y H2 W2 d1 d2 ρ2 F1 F2,SR X.K T z R H2 W2 σ ρ2->FrW H W H2 W2->((m1 || m2)=false->Same H H2/\W2=W/\ρ2=ρ)->Rep X.K H2 d1 x F1->Rep X.K H2 d2 y F2 ->
   (o1=true->F1.Nodup/\∀a∈F1,H a=none/\¬W2 a)->(o2=true->F2.Nodup/\∀a∈F2,H a=none/\¬W2 a)->(o2=true->∀a∈F1,a∉F2)->Q2 d1 d2 ρ2->RR x y H2) :
  ta σ H λx H1=>tb σ H1 λy H2=>RR x y H2:=by
 refine ga z R σ H W ρ _ _ s hw λv1 H1 W1 d1 ρ1 F1 p q1=>?_
 refine gb z R σ H1 W1 ρ1 _ _ p.sr q1 λv2 H2 W2 d2 ρ2 F2 q q2=>?_
 refine k v1 v2 H2 W2 d1 d2 ρ2 F1 F2 q.sr (p.fr.trans q.fr) (p.calm2 q) (p.first q hc) q.rep (p.firstOwn q) (p.lastOwn q) (λh a m1 m2=>?_) q2
 obtain ⟨ob,e,_⟩:=p.rep.dom a m1
 rw [((q.own h).2 a m2).1] at e
 cases e
theorem Qt {op:Operator} {g:G2} (ho:OpD X (binaryOp op) g) (ha:EV X T m1 o1 a wa) (hb:EV X T m2 o2 b wb) (hc:o1=true\/m2=false:=by first | exact .inl rfl | exact .inr rfl) :
  EV X T (m1 || m2) true (.BinOp a op b pos) (wBin g wa wb):=by
 obtain ⟨r,ro,gr⟩:=ho
 obtain ⟨ta,pa,ga⟩:=ha
 obtain ⟨tb,pb,gb⟩:=hb
 refine ⟨_,Quu ro pa pb,λz R σ H W ρ Q Q' s hw k=>?_⟩
 refine two ga gb hc s hw λx y H2 W2 d1 d2 ρ2 F1 F2 s2 f2 c2 r1 r2 _ _ _ q2=>?_
 exact gr H2 d1 d2 x y F1 F2 _ Q' r1 r2 q2 λv H' d F fi hk=>k v H' W2 d ρ2 F (Post.fin s2 f2 c2 fi.same fi.rep fi.nd fi.new) hk
theorem Qdu {op:CmpOp} {g:G2} (ho:OpD X (compareOp op) g) (ha:EV X T m1 o1 a wa) (hb:EV X T m2 o2 b wb) (hc:o1=true\/m2=false:=by first | exact .inl rfl | exact .inr rfl)
  (hm:behindInMarks op b=false:=by first | exact Qm6 _ | with_unfolding_all rfl):EV X T (m1 || m2) true (.Compare a [op] [b] pos) (wBin g wa wb):=by
 obtain ⟨r,ro,gr⟩:=ho
 obtain ⟨ta,pa,ga⟩:=ha
 obtain ⟨tb,pb,gb⟩:=hb
 refine ⟨_,Qoz ro pa pb hm,λz R σ H W ρ Q Q' s hw k=>?_⟩
 refine two ga gb hc s hw λx y H2 W2 d1 d2 ρ2 F1 F2 s2 f2 c2 r1 r2 _ _ _ q2=>?_
 exact gr H2 d1 d2 x y F1 F2 _ Q' r1 r2 q2 λv H' d F fi hk=>k v H' W2 d ρ2 F (Post.fin s2 f2 c2 fi.same fi.rep fi.nd fi.new) hk
abbrev WT:=Env->(Bool->Env->Prop)->Prop
structure PostT (K:PySem.W.Frag) (T:Tg) (z:Nat->V) (R:Addr->Prop) (m:Bool) (H:Hp) (W:Addr->Prop) (σ:St) (ρ:Env) (H':Hp) (W':Addr->Prop) (ρ':Env):Prop where
 sr:SR K T z R H' W' σ ρ'
 fr:FrW H W H' W'
 calm:m=false->Same H H'/\W'=W/\ρ'=ρ
def TV (X:Cx) (T:Tg) (m:Bool) (e:Expr) (w:WT):Prop :=
 ∃tt,PT X e tt/\∀(z:Nat->V) (R:Addr->Prop) (σ:St) (H:Hp) (W:Addr->Prop) (ρ:Env) (Q:Bool->Env->Prop) (Q':Bool->Hp->Prop),SR X.K T z R H W σ ρ->w ρ Q ->
  (∀b H' W' ρ',PostT X.K T z R m H W σ ρ H' W' ρ'->Q b ρ'->Q' b H')->tt σ H Q'
def truD:D->Option Bool
 | .non=>some false
 | .bl b=>some b
 | .int i=>some (i != 0)
 | .str y=>if y.length<=sizeLine then some ((y.length:Int) != 0) else none
 | .lst xs=>some (!xs.isEmpty)
 | .tup xs=>some (!xs.isEmpty)
 | .dik kvs=>some (!kvs.isEmpty)
 | .kls xs=>some (!xs.isEmpty)
 | .dit _=>none
 | .ty _=>none
 | .fdk _=>none
 | .ftp _=>none
 | .fls _=>none
 | .fdt _=>none
 | .obj _ _=>none
 | .clo _ _=>none
 | .kc _=>none
 | .dmx _=>none
 | .fmx _=>none
 | .lsa _ _=>none
 | .ist _ _=>none
def wTru (wa:WE):WT:=λρ Q=>wa ρ λd ρ'=>match truD d with
 | some b=>Q b ρ'
 | none=>False
theorem Reps.emp {ds:List D} {F:List Addr} (r:Reps K H ds xs F):ds.isEmpty=xs.isEmpty:=by
 have:=r.length
 cases ds <;> cases xs <;> simp at this <;> rfl
theorem RepK.emp {xs:List (Key × V)} {F:List Addr} (r:RepK K H ds xs F):ds.isEmpty=xs.isEmpty:=by
 have:=r.length
 cases ds <;> cases xs <;> simp at this <;> rfl
theorem Qnu {x:V} {F:List Addr} {b:Bool} (r:Rep K H d x F) (h:truD d=some b):TruV K x H b:=by
 cases r with
 | non=>exact (Option.some.inj h).symm
 | bl c=>exact (Option.some.inj h).symm
 | int c=>exact (Option.some.inj h).symm
 | str y =>
  have h:(if y.length<=sizeLine then some ((y.length:Int) != 0) else none)=some b:=h
  split at h
  ·rename_i hl;exact ⟨hl,(Option.some.inj h).symm⟩
  ·cases h
 | tup e r =>
  refine .inr (.inl ⟨_,.of e,?_⟩)
  rw [← Option.some.inj h,r.emp]
 | lst e r =>
  refine .inl ⟨_,.of e,?_⟩
  rw [← Option.some.inj h,r.emp]
 | kls e r =>
  refine .inl ⟨_,e.sq,?_⟩
  rw [← Option.some.inj h,r.emp]
 | dik e r =>
  refine .inr (.inr ⟨_,e,?_⟩)
  rw [← Option.some.inj h,r.emp]
 | dit e r=>cases h
 | ty t=>cases h
 | fdk e r=>cases h
 | ftp e hd r=>cases h
 | fls e r=>cases h
 | fdt e r=>cases h
 | obj e hc hf=>cases h
 | clo e r=>cases h
 | kc a=>cases h
 | dmx e hk hm r=>cases h
 | fmx e hk hm r=>cases h
 | lsa e r=>cases h
 | ist e hc hn r=>cases h
theorem Vb (ha:EV X T m o a wa) (he:∀whole,isTrue a X.env whole=(do let v ← whole;standAt a.pos;holding [v] (truthy v)):=by intro _;rfl):TV X T m a (wTru wa):=by
 obtain ⟨ta,pa,ga⟩:=ha
 refine ⟨_,Qk2 pa he,λz R σ H W ρ Q Q' s hw k=>?_⟩
 refine ga z R σ H W ρ _ _ s hw λv1 H1 W1 d1 ρ1 F1 p q1=>?_
 cases ht:truD d1 with
 | none=>rw [ht] at q1;exact q1.elim
 | some b =>
  rw [ht] at q1
  exact ⟨b,Qnu p.rep ht,k b H1 W1 ρ1 ⟨p.sr,p.fr,p.calm⟩ q1⟩
def wBl (wa:WE):WT:=λρ Q=>wa ρ λd ρ'=>match d with
 | .bl b=>Q b ρ'
 | _=>False
theorem Qh7 {b:Bool} {x:V} {F:List Addr} (r:Rep K H (.bl b) x F):x=.bl b:=by cases r;rfl
theorem Q3 {op:CmpOp} {g:G2} (ho:OpD X (compareOp op) g) (ha:EV X T m1 o1 a wa) (hb:EV X T m2 o2 b wb) (hc:o1=true\/m2=false:=by first | exact .inl rfl | exact .inr rfl)
  (hm:behindInMarks op b=false:=by first | exact Qm6 _ | with_unfolding_all rfl):TV X T (m1 || m2) (.Compare a [op] [b] pos) (wBl (wBin g wa wb)):=by
 obtain ⟨r,ro,gr⟩:=ho
 obtain ⟨ta,pa,ga⟩:=ha
 obtain ⟨tb,pb,gb⟩:=hb
 refine ⟨_,Qop ro pa pb hm,λz R σ H W ρ Q Q' s hw k=>?_⟩
 refine two ga gb hc s hw λx y H2 W2 d1 d2 ρ2 F1 F2 s2 f2 c2 r1 r2 _ _ _ q2=>?_
 refine gr H2 d1 d2 x y F1 F2 _ _ r1 r2 q2 λv H' d F fi hk=>?_
 cases d with
 | bl b=>exact ⟨b,Qh7 fi.rep,k b H' W2 ρ2 ⟨s2.same fi.same,f2.trans (FrW.same W2 fi.same),λh=>⟨(c2 h).1.trans fi.same,(c2 h).2⟩⟩ hk⟩
 | _=>exact hk.elim
end
section
variable {m1:Bool} {a b:Expr} {w:WE} {wt wu:WT}
def wNot (wt:WT):WT:=λρ Q=>wt ρ λb ρ'=>Q (!b) ρ'
def wAnd (wt wu:WT):WT:=λρ Q=>wt ρ λb ρ'=>if b=true then wu ρ' Q else Q false ρ'
def wOr (wt wu:WT):WT:=λρ Q=>wt ρ λb ρ'=>if b=true then Q true ρ' else wu ρ' Q
theorem Qcn (ha:TV X T m a wt):TV X T m (.UnaryOp .Not a pos) (wNot wt):=by
 obtain ⟨ta,pa,ga⟩:=ha
 exact ⟨_,Qq9 pa,λz R σ H W ρ Q Q' s hw k=>ga z R σ H W ρ _ _ s hw λb H1 W1 ρ1 p q1=>k (!b) H1 W1 ρ1 p q1⟩
def BV (X:Cx) (T:Tg) (m:Bool) (e:Expr) (w:WT):Prop :=
 ∃tt,PW X e tt/\∀(z:Nat->V) (R:Addr->Prop) (σ:St) (H:Hp) (W:Addr->Prop) (ρ:Env) (Q:Bool->Env->Prop) (Q':Bool->Hp->Prop),SR X.K T z R H W σ ρ->w ρ Q ->
  (∀b H' W' ρ',PostT X.K T z R m H W σ ρ H' W' ρ'->Q b ρ'->Q' b H')->tt σ H Q'
theorem PostT.seq {W:Addr->Prop} (p:PostT K T z R m1 H W σ ρ H1 W1 ρ1) (q:PostT K T z R m2 H1 W1 σ ρ1 H2 W2 ρ2):PostT K T z R (m1 || m2) H W σ ρ H2 W2 ρ2 where
 sr:=q.sr
 fr:=p.fr.trans q.fr
 calm:=λh=>by
  rw [Bool.or_eq_false_iff] at h
  obtain ⟨a1,a2,a3⟩:=p.calm h.1
  obtain ⟨b1,b2,b3⟩:=q.calm h.2
  exact ⟨a1.trans b1,b2.trans a2,b3.trans a3⟩
theorem PostT.left {W:Addr->Prop} (p:PostT K T z R m1 H W σ ρ H1 W1 ρ1):PostT K T z R (m1 || m2) H W σ ρ H1 W1 ρ1 :=
 ⟨p.sr,p.fr,λh=>p.calm (Bool.or_eq_false_iff.mp h).1⟩
theorem Ug (ha:TV X T m a wt):BV X T m (.BoolOp .And [a] pos) wt:=by
 obtain ⟨ta,pa,ga⟩:=ha
 exact ⟨_,Qoo pa,ga⟩
theorem Qga (ha:TV X T m a wt):BV X T m (.BoolOp .Or [a] pos) wt:=by
 obtain ⟨ta,pa,ga⟩:=ha
 exact ⟨_,Qq7 pa,ga⟩
theorem U5 (ha:TV X T m1 a wt) (hb:BV X T m2 (.BoolOp .And (b::rest) pos) wu):BV X T (m1 || m2) (.BoolOp .And (a::b::rest) pos) (wAnd wt wu):=by
 obtain ⟨ta,pa,ga⟩:=ha
 obtain ⟨tb,pb,gb⟩:=hb
 refine ⟨_,Qq8 pa pb,λz R σ H W ρ Q Q' s hw k=>ga z R σ H W ρ _ _ s hw λc H1 W1 ρ1 p q1=>?_⟩
 cases c with
 | true=>exact gb z R σ H1 W1 ρ1 Q Q' p.sr q1 λb H2 W2 ρ2 q q2=>k b H2 W2 ρ2 (p.seq q) q2
 | false=>exact k false H1 W1 ρ1 p.left q1
theorem Qki (ha:TV X T m1 a wt) (hb:BV X T m2 (.BoolOp .Or (b::rest) pos) wu):BV X T (m1 || m2) (.BoolOp .Or (a::b::rest) pos) (wOr wt wu):=by
 obtain ⟨ta,pa,ga⟩:=ha
 obtain ⟨tb,pb,gb⟩:=hb
 refine ⟨_,Qun pa pb,λz R σ H W ρ Q Q' s hw k=>ga z R σ H W ρ _ _ s hw λc H1 W1 ρ1 p q1=>?_⟩
 cases c with
 | false=>exact gb z R σ H1 W1 ρ1 Q Q' p.sr q1 λb H2 W2 ρ2 q q2=>k b H2 W2 ρ2 (p.seq q) q2
 | true=>exact k true H1 W1 ρ1 p.left q1
theorem Y7 (h:BV X T m e wt):TV X T m e wt:=by
 obtain ⟨ta,pa,ga⟩:=h
 exact ⟨_,pa.pt,ga⟩
end
end PV
variable {neg:Bool}
namespace PV
open PySem PySem.Spec L2
open PySem.W (Dat kqdP kqdPs kqdOk)
mutual
def Jn:D->Dat
 | .non=>.none
 | .bl b=>.bool b
 | .int i=>.int i
 | .str x=>.str x
 | .tup xs=>.tuple (Zk xs)
 | .lst xs=>.list (Zk xs)
 | .dik _=>.none
 | .dit _=>.none
 | .kls _=>.none
 | .ty _=>.none
 | .fdk _=>.none
 | .ftp _=>.none
 | .fls _=>.none
 | .fdt _=>.none
 | .obj _ _=>.none
 | .clo _ _=>.none
 | .kc _=>.none
 | .dmx _=>.none
 | .fmx _=>.none
 | .lsa _ _=>.none
 | .ist _ _=>.none
def Zk:List D->List Dat
 | []=>[]
 | d::r=>Jn d::Zk r
end
mutual
def eqOk:Nat->D->Bool
 | _,.non=>true
 | _,.int _=>true
 | _,.str x=>PyData.strOk x
 | n+1,.tup xs=>U4 n xs
 | n+1,.lst xs=>U4 n xs
 | _,_=>false
def U4:Nat->List D->Bool
 | _,[]=>true
 | n,d::r=>eqOk n d && U4 n r
end
theorem Qjy {xs:List D}:U4 n xs=true↔∀x∈xs,eqOk n x=true:=by
 induction xs with
 | nil=>simp [U4]
 | cons d r ih=>simp only [U4,Bool.and_eq_true,ih,List.mem_cons,forall_eq_or_imp]
mutual
theorem Vu:∀(n:Nat) (d:D),eqOk n d=true->kqdOk n (Jn d)=true
 | _,.non,_=>by simp [Jn,kqdOk]
 | _,.bl _,h=>by cases ‹Nat› <;> simp [eqOk] at h
 | _,.int _,_=>by simp [Jn,kqdOk]
 | _,.str x,h=>by
  cases ‹Nat› <;> (simp only [eqOk] at h;simpa [Jn,kqdOk] using h)
 | 0,.tup _,h=>by simp [eqOk] at h
 | 0,.lst _,h=>by simp [eqOk] at h
 | n+1,.tup xs,h=>by
  simp only [eqOk] at h
  rw [Jn];simp only [kqdOk]
  exact Qaf n xs h
 | n+1,.lst xs,h=>by
  simp only [eqOk] at h
  rw [Jn];simp only [kqdOk]
  exact Qaf n xs h
 | n,.dik _,h=>by cases n <;> simp [eqOk] at h
 | n,.dit _,h=>by cases n <;> simp [eqOk] at h
 | n,.kls _,h=>by cases n <;> simp [eqOk] at h
 | n,.ty _,h=>by cases n <;> simp [eqOk] at h
 | n,.fdk _,h=>by cases n <;> simp [eqOk] at h
 | n,.ftp _,h=>by cases n <;> simp [eqOk] at h
 | n,.fls _,h=>by cases n <;> simp [eqOk] at h
 | n,.fdt _,h=>by cases n <;> simp [eqOk] at h
 | n,.obj _ _,h=>by cases n <;> simp [eqOk] at h
 | n,.clo _ _,h=>by cases n <;> simp [eqOk] at h
 | n,.kc _,h=>by cases n <;> simp [eqOk] at h
theorem Qaf:∀(n:Nat) (xs:List D),U4 n xs=true->(Zk xs).all (kqdOk n)=true
 | _,[],_=>by simp [Zk]
 | n,d::r,h=>by
  simp only [U4,Bool.and_eq_true] at h
  rw [Zk,List.all_cons,Vu n d h.1,Qaf n r h.2];rfl
end
mutual
theorem Ur:∀(n k:Nat) (a b:D),eqOk n a=true->eqOk k b=true->Jn a=Jn b->a=b
 | n,k,a,b,ha,hb,h=>by
  cases a with
  | non=>cases b <;> first | rfl | (simp [Jn] at h;done) | (cases k <;> simp [eqOk] at hb)
  | bl x=>cases n <;> simp [eqOk] at ha
  | int x=>cases b <;> first | (simp [Jn] at h;rw [h]) | (simp [Jn] at h)
  | str x=>cases b <;> first | (simp [Jn] at h;rw [h]) | (simp [Jn] at h)
  | tup xs =>
   cases b with
   | tup ys =>
    cases n with
    | zero=>simp [eqOk] at ha
    | succ n =>
     cases k with
     | zero=>simp [eqOk] at hb
     | succ k =>
      simp only [eqOk] at ha hb
      simp only [Jn,Dat.tuple.injEq] at h
      rw [U7 n k xs ys ha hb h]
   | _=>simp [Jn] at h
  | lst xs =>
   cases b with
   | lst ys =>
    cases n with
    | zero=>simp [eqOk] at ha
    | succ n =>
     cases k with
     | zero=>simp [eqOk] at hb
     | succ k =>
      simp only [eqOk] at ha hb
      simp only [Jn,Dat.list.injEq] at h
      rw [U7 n k xs ys ha hb h]
   | _=>simp [Jn] at h
  | dik x=>cases n <;> simp [eqOk] at ha
  | dit x=>cases n <;> simp [eqOk] at ha
  | kls x=>cases n <;> simp [eqOk] at ha
  | ty x=>cases n <;> simp [eqOk] at ha
  | fdk x=>cases n <;> simp [eqOk] at ha
  | ftp x=>cases n <;> simp [eqOk] at ha
  | fls x=>cases n <;> simp [eqOk] at ha
  | fdt x=>cases n <;> simp [eqOk] at ha
  | obj x y=>cases n <;> simp [eqOk] at ha
  | clo x y=>cases n <;> simp [eqOk] at ha
  | kc x=>cases n <;> simp [eqOk] at ha
  | dmx x=>cases n <;> simp [eqOk] at ha
  | fmx x=>cases n <;> simp [eqOk] at ha
  | lsa x y=>cases n <;> simp [eqOk] at ha
  | ist x y=>cases n <;> simp [eqOk] at ha
theorem U7:∀(n k:Nat) (a b:List D),U4 n a=true->U4 k b=true->Zk a=Zk b->a=b
 | n,k,[],b,ha,hb,h=>by
  cases b with
  | nil=>rfl
  | cons=>simp [Zk] at h
 | n,k,x::a,b,ha,hb,h=>by
  cases b with
  | nil=>simp [Zk] at h
  | cons y b =>
   simp only [Zk,List.cons.injEq] at h
   simp only [U4,Bool.and_eq_true] at ha hb
   rw [Ur n k x y ha.1 hb.1 h.1,U7 n k a b ha.2 hb.2 h.2]
end
theorem Rep.dv {F:List Addr} (n:Nat) (r:Rep K H d v F):eqOk n d=true->DV H v (Jn d):=by
 have no:∀{P:Prop} {n:Nat} {d:D},(∀n,eqOk n d=false)->eqOk n d=true->P:=λh h'=>absurd ((h _).symm.trans h') (by simp)
 refine Rep.rec (motive_1:=λd v _ _=>∀n,eqOk n d=true->DV H v (Jn d)) (motive_2:=λd v _ _=>∀n,U4 n d=true->DVs H v (Zk d)) (motive_3:=λ_ _ _ _=>True) (motive_4:=λ_ _ _ _=>True) ?_ ?_ ?_ ?_ ?_ ?_ ?_ ?_ ?_ ?_ ?_ ?_ ?_ ?_ ?_ ?_ ?_ ?_ ?_ ?_ ?_ ?_ ?_ trivial (λ_ _ _ _=>trivial) trivial (λ_ _ _ _=>trivial) r n
 ·exact λ_ _=>by rw [Jn];exact .non
 ·exact λb n=>no λn=>by cases n <;> rfl
 ·exact λi _ _=>by rw [Jn];exact .int i
 ·exact λi _ _=>by rw [Jn];exact .str i
 ·intro _ _ _ _ e _ ih n h
  cases n with
  | zero=>simp [eqOk] at h
  | succ n=>rw [eqOk] at h;rw [Jn];exact .tup e (ih n h)
 ·intro _ _ _ _ e _ ih n h
  cases n with
  | zero=>simp [eqOk] at h
  | succ n=>rw [eqOk] at h;rw [Jn];exact .lst e (ih n h)
 ·exact λ_ _ _ n=>no λn=>by cases n <;> rfl
 ·exact λ_ _ _ n=>no λn=>by cases n <;> rfl
 ·exact λ_ _ _ n=>no λn=>by cases n <;> rfl
 ·exact λ_ n=>no λn=>by cases n <;> rfl
 ·exact λ_ _ _ n=>no λn=>by cases n <;> rfl
 ·exact λ_ _ _ _ n=>no λn=>by cases n <;> rfl
 ·exact λ_ _ _ n=>no λn=>by cases n <;> rfl
 ·exact λ_ _ _ n=>no λn=>by cases n <;> rfl
 ·exact λ_ _ _ n=>no λn=>by cases n <;> rfl
 ·exact λ_ _ _ n=>no λn=>by cases n <;> rfl
 ·exact λ_ n=>no λn=>by cases n <;> rfl
 ·exact λ_ _ _ _ _ n=>no λn=>by cases n <;> rfl
 ·exact λ_ _ _ _ _ n=>no λn=>by cases n <;> rfl
 ·exact λ_ _ _ n=>no λn=>by cases n <;> rfl
 ·exact λ_ _ _ _ _ n=>no λn=>by cases n <;> rfl
 ·exact λ_ _=>by rw [Zk];exact .nil
 ·intro _ _ _ _ _ _ _ _ ih1 ih2 n q
  rw [U4,Bool.and_eq_true] at q
  rw [Zk];exact .cons (ih1 n q.1) (ih2 n q.2)
def dAdd:G2
 | .int i,.int j,k=>k (.int (i+j))
 | .str x,.str y,k=>x.length+y.length<=sizeLine/\k (.str (x++y))
 | .tup xs,.tup ys,k=>Qn xs=true/\Qn ys=true/\xs≠[]/\xs.length+ys.length<=sizeLine/\k (.tup (xs++ys))
 | .lst xs,.lst ys,k=>Qn xs=true/\Qn ys=true/\xs.length+ys.length<=sizeLine/\k (.lst (xs++ys))
 | _,_,_=>False
def dSub:G2
 | .int i,.int j,k=>k (.int (i-j))
 | _,_,_=>False
def dMul:G2
 | .int i,.int j,k=>CMul i j/\k (.int (i*j))
 | .lst xs,.int n,k=>Qn xs=true /\ -(2 ^ 63)<=n/\n<2 ^ 63/\xs.length*n.toNat<=sizeLine/\k (.lst (List.replicate n.toNat xs).flatten)
 | _,_,_=>False
def dDiv:G2
 | .int i,.int j,k=>(0<j/\j<1073741824/\k (.int (i / j)))\/(j<0/\j.natAbs<1073741824/\k (.int (i.fdiv j)))
 | _,_,_=>False
def dMod:G2
 | .int i,.int j,k=>(0<j/\k (.int (i % j)))\/(j<0/\k (.int (i.fmod j)))
 | _,_,_=>False
def dPow:G2
 | .int i,.int j,k=>CPow i j/\k (.int (i ^ j.toNat))
 | _,_,_=>False
def dEq:G2
 | .int i,.int j,k=>k (.bl (decide (i=j)))
 | .bl i,.bl j,k=>k (.bl (i == j))
 | .str i,.str j,k=>k (.bl (decide (i=j)))
 | a,b,k=>eqOk 9 a=true/\eqOk 9 b=true/\(a=b->k (.bl true))/\(a≠b->k (.bl false))
def dNe:G2
 | .int i,.int j,k=>k (.bl (!decide (i=j)))
 | .bl i,.bl j,k=>k (.bl (!(i == j)))
 | .str i,.str j,k=>k (.bl (!decide (i=j)))
 | a,b,k=>eqOk 9 a=true/\eqOk 9 b=true/\(a=b->k (.bl false))/\(a≠b->k (.bl true))
def dCmp (f:Int->Int->Bool):G2
 | .int i,.int j,k=>k (.bl (f i j))
 | _,_,_=>False
theorem Qof {x:V} {F:List Addr} (r:Rep K H (.int i) x F):x=.int i:=by cases r;rfl
theorem Reps.flatten {K:PySem.W.Frag} {H:Hp} {ds:List D} {xs:List V} (r:Reps K H ds xs []):∀n:Nat,Reps K H (List.replicate n ds).flatten (List.replicate n xs).flatten []
 | 0=>.nil
 | n+1=>by
  have:=r.append (Reps.flatten r n)
  simpa [List.replicate_succ,List.flatten_cons] using this
theorem Ql7 (g:dAdd a b k):(∃i j,a=.int i/\b=.int j)\/(∃i j,a=.str i/\b=.str j)\/(∃i j,a=.tup i/\b=.tup j)\/∃i j,a=.lst i/\b=.lst j:=by
 cases a with
 | int i=>cases b with
  | int j=>exact .inl ⟨i,j,rfl,rfl⟩
  | _=>exact (show False from g).elim
 | str i=>cases b with
  | str j=>exact .inr (.inl ⟨i,j,rfl,rfl⟩)
  | _=>exact (show False from g).elim
 | tup i=>cases b with
  | tup j=>exact .inr (.inr (.inl ⟨i,j,rfl,rfl⟩))
  | _=>exact (show False from g).elim
 | lst i=>cases b with
  | lst j=>exact .inr (.inr (.inr ⟨i,j,rfl,rfl⟩))
  | _=>exact (show False from g).elim
 | _=>exact (show False from g).elim
theorem Qr7:OpD X (binaryOp .Add) dAdd:=by
 refine ⟨_,OpR.or Qr2 (OpR.or Qr1 (OpR.or Qo6 Qgx)),λH a b x y F1 F2 k Q ra rb g q=>?_⟩
 rcases Ql7 g with ⟨i,j,rfl,rfl⟩ | ⟨i,j,rfl,rfl⟩ | ⟨ds,es,rfl,rfl⟩ | ⟨ds,es,rfl,rfl⟩
 ·exact .inl ⟨_,_,ra.iInt,rb.iInt,q _ _ _ _ (.flat (.int _)) g⟩
 ·exact .inr (.inr (.inr ⟨_,_,ra.iStr,rb.iStr,g.1,q _ _ _ _ (.flat (.str _)) g.2⟩))
 ·obtain ⟨a,xs,rfl,e1,r1⟩:=ra.iTup
  obtain ⟨b,ys,rfl,e2,r2⟩:=rb.iTup
  obtain ⟨p1,p2,hne,hz,g⟩:=g
  obtain ⟨-,r1⟩:=r1.pure p1
  obtain ⟨-,r2⟩:=r2.pure p2
  have l1:=r1.length
  have l2:=r2.length
  refine .inr (.inr (.inl ⟨a,b,xs,ys,rfl,rfl,.of e1,.of e2,λz=>hne (List.length_eq_zero_iff.mp (by rw [← l1,z];rfl)),by omega,λz=>?_,λz p hp=>?_⟩))
  ·have:es=[]:=List.length_eq_zero_iff.mp (by rw [← l2,z];rfl)
   subst this
   rw [List.append_nil] at g
   exact q _ _ _ _ (.flat (.tup e1 r1)) g
  ·refine q _ _ _ [] ⟨Qo hp,.tup Qi ?_,List.nodup_nil,λ_ m=>nomatch m⟩ g
   exact (r1.append r2).same (Qo hp)
 ·obtain ⟨a,xs,_,rfl,_,e1,r1⟩:=ra.iLst
  obtain ⟨b,ys,_,rfl,_,e2,r2⟩:=rb.iLst
  obtain ⟨p1,p2,hz,g⟩:=g
  obtain ⟨-,r1⟩:=r1.pure p1
  obtain ⟨-,r2⟩:=r2.pure p2
  have l1:=r1.length
  have l2:=r2.length
  refine .inr (.inl ⟨a,b,xs,ys,rfl,rfl,e1,e2,by omega,λp hp=>?_⟩)
  refine q _ _ _ [p] ⟨Qo hp,.lst Qi ((r1.append r2).same (Qo hp)),by simp,λc m=>by rw [List.mem_singleton.mp m];exact hp⟩ g
theorem X2:OpD X (binaryOp .Sub) dSub:=by
 refine ⟨_,Qrq,λH a b x y F1 F2 k Q ra rb g q=>?_⟩
 (cases ra <;> first | exact (show False from g).elim | skip) <;> (cases rb <;> first | exact (show False from g).elim | skip)
 exact ⟨_,_,rfl,rfl,q _ _ _ _ (.flat (.int _)) g⟩
theorem Ql4 (g:dMul a b k):(∃i j,a=.int i/\b=.int j)\/∃i j,a=.lst i/\b=.int j:=by
 cases a with
 | int i=>cases b with
  | int j=>exact .inl ⟨i,j,rfl,rfl⟩
  | _=>exact (show False from g).elim
 | lst i=>cases b with
  | int j=>exact .inr ⟨i,j,rfl,rfl⟩
  | _=>exact (show False from g).elim
 | _=>exact (show False from g).elim
theorem Qdb:OpD X (binaryOp .Mult) dMul:=by
 refine ⟨_,OpR.or Qru Qrr,λH a b x y F1 F2 k Q ra rb g q=>?_⟩
 rcases Ql4 g with ⟨i,j,rfl,rfl⟩ | ⟨ds,n,rfl,rfl⟩
 ·exact .inl ⟨_,_,ra.iInt,rb.iInt,g.1,q _ _ _ _ (.flat (.int _)) g.2⟩
 ·obtain ⟨a,xs,_,rfl,_,e1,r1⟩:=ra.iLst
  obtain rfl:=rb.iInt
  obtain ⟨p1,h1,h2,hz,g⟩:=g
  obtain ⟨-,r1⟩:=r1.pure p1
  have l1:=r1.length
  refine .inr ⟨a,n,xs,rfl,rfl,e1,h1,h2,by rw [l1];exact hz,λp hp=>?_⟩
  refine q _ _ _ [p] ⟨Qo hp,.lst Qi ((r1.flatten _).same (Qo hp)),by simp,λc m=>by rw [List.mem_singleton.mp m];exact hp⟩ g
theorem Qm5:OpD X (binaryOp .FloorDiv) dDiv:=by
 refine ⟨_,OpR.or Qo4 Qld,λH a b x y F1 F2 k Q ra rb g q=>?_⟩
 (cases ra <;> first | exact (show False from g).elim | skip) <;> (cases rb <;> first | exact (show False from g).elim | skip)
 rcases (show _\/_ from g) with ⟨h1,h2,g⟩ | ⟨h1,h2,g⟩
 ·exact .inl ⟨_,_,rfl,rfl,⟨h1,h2⟩,q _ _ _ _ (.flat (.int _)) g⟩
 ·exact .inr ⟨_,_,rfl,rfl,⟨by omega,h2⟩,q _ _ _ _ (.flat (.int _)) g⟩
theorem Qdc:OpD X (binaryOp .Mod) dMod:=by
 refine ⟨_,OpR.or Qrv Qo3,λH a b x y F1 F2 k Q ra rb g q=>?_⟩
 (cases ra <;> first | exact (show False from g).elim | skip) <;> (cases rb <;> first | exact (show False from g).elim | skip)
 rcases (show _\/_ from g) with ⟨h1,g⟩ | ⟨h1,g⟩
 ·exact .inl ⟨_,_,rfl,rfl,h1,q _ _ _ _ (.flat (.int _)) g⟩
 ·exact .inr ⟨_,_,rfl,rfl,by omega,q _ _ _ _ (.flat (.int _)) g⟩
theorem Qiw:OpD X (binaryOp .Pow) dPow:=by
 refine ⟨_,Qrs,λH a b x y F1 F2 k Q ra rb g q=>?_⟩
 (cases ra <;> first | exact (show False from g).elim | skip) <;> (cases rb <;> first | exact (show False from g).elim | skip)
 exact ⟨_,_,rfl,rfl,g.1,q _ _ _ _ (.flat (.int _)) g.2⟩
theorem Qiy {op:CmpOp} {f:Int->Int->Bool} (h:OpR X (compareOp op) (rI0 λi j=>.bl (f i j))):OpD X (compareOp op) (dCmp f):=by
 refine ⟨_,h,λH a b x y F1 F2 k Q ra rb g q=>?_⟩
 (cases ra <;> first | exact (show False from g).elim | skip) <;> (cases rb <;> first | exact (show False from g).elim | skip)
 exact ⟨_,_,rfl,rfl,q _ _ _ _ (.flat (.bl _)) g⟩
theorem Qpc:OpD X (compareOp .Lt) (dCmp λi j=>decide (i<j)):=Qiy Qux
theorem Qle:OpD X (compareOp .Gt) (dCmp λi j=>decide (j<i)):=Qiy Quy
theorem Qjx {x y:V} {Q:VK} (ra:Rep X.K H a x F1) (rb:Rep X.K H b y F2)
  (h1:eqOk 9 a=true) (h2:eqOk 9 b=true) (g1:a=b->k (.bl (!neg))) (g2:a≠b->k (.bl neg)) (q:∀v H' d F,Fin X.K H H' d v F->k d->Q v H'):rDat neg x y H Q:=by
 refine ⟨Jn a,Jn b,9,ra.dv 9 h1,rb.dv 9 h2,Vu _ _ h1,Vu _ _ h2,Nat.le_refl _,λe=>?_,λe=>?_⟩
 ·exact q _ _ _ _ (.flat (.bl _)) (g1 (Ur 9 9 a b h1 h2 e))
 ·exact q _ _ _ _ (.flat (.bl _)) (g2 λz=>e (by rw [z]))
theorem Qp5 (g:dEq a b k):(∃i j,a=.int i/\b=.int j)\/(∃i j,a=.bl i/\b=.bl j)\/(∃i j,a=.str i/\b=.str j)\/(eqOk 9 a=true/\eqOk 9 b=true/\(a=b->k (.bl true))/\(a≠b->k (.bl false))):=by
 cases a with
 | int i=>cases b with
  | int j=>exact .inl ⟨i,j,rfl,rfl⟩
  | _=>exact .inr (.inr (.inr g))
 | bl i=>cases b with
  | bl j=>exact .inr (.inl ⟨i,j,rfl,rfl⟩)
  | _=>exact .inr (.inr (.inr g))
 | str i=>cases b with
  | str j=>exact .inr (.inr (.inl ⟨i,j,rfl,rfl⟩))
  | _=>exact .inr (.inr (.inr g))
 | _=>exact .inr (.inr (.inr g))
theorem Zj (hu:X.A.units+64<cLine):OpD X (compareOp .Eq) dEq:=by
 refine ⟨_,OpR.or Qr0 (Qrz hu),λH a b x y F1 F2 k Q ra rb g q=>?_⟩
 rcases Qp5 g with ⟨i,j,rfl,rfl⟩ | ⟨i,j,rfl,rfl⟩ | ⟨i,j,rfl,rfl⟩ | ⟨h1,h2,g1,g2⟩
 ·obtain rfl:=ra.iInt
  obtain rfl:=rb.iInt
  refine .inl ⟨rfl,?_⟩
  have e:decide (V.int i=V.int j)=decide (i=j):=by simp
  rw [e]
  exact q _ _ _ _ (.flat (.bl _)) g
 ·obtain rfl:=ra.iBl
  obtain rfl:=rb.iBl
  refine .inl ⟨rfl,?_⟩
  rw [Qf5]
  exact q _ _ _ _ (.flat (.bl _)) g
 ·obtain rfl:=ra.iStr
  obtain rfl:=rb.iStr
  refine .inl ⟨rfl,?_⟩
  have e:decide (V.str i=V.str j)=decide (i=j):=by simp
  rw [e]
  exact q _ _ _ _ (.flat (.bl _)) g
 ·exact .inr (Qjx ra rb h1 h2 g1 g2 q)
theorem Qp3 (g:dNe a b k):(∃i j,a=.int i/\b=.int j)\/(∃i j,a=.bl i/\b=.bl j)\/(∃i j,a=.str i/\b=.str j)\/(eqOk 9 a=true/\eqOk 9 b=true/\(a=b->k (.bl false))/\(a≠b->k (.bl true))):=by
 cases a with
 | int i=>cases b with
  | int j=>exact .inl ⟨i,j,rfl,rfl⟩
  | _=>exact .inr (.inr (.inr g))
 | bl i=>cases b with
  | bl j=>exact .inr (.inl ⟨i,j,rfl,rfl⟩)
  | _=>exact .inr (.inr (.inr g))
 | str i=>cases b with
  | str j=>exact .inr (.inr (.inl ⟨i,j,rfl,rfl⟩))
  | _=>exact .inr (.inr (.inr g))
 | _=>exact .inr (.inr (.inr g))
theorem Qpb (hu:X.A.units+64<cLine):OpD X (compareOp .NotEq) dNe:=by
 refine ⟨_,OpR.or Quw (Qrt hu),λH a b x y F1 F2 k Q ra rb g q=>?_⟩
 rcases Qp3 g with ⟨i,j,rfl,rfl⟩ | ⟨i,j,rfl,rfl⟩ | ⟨i,j,rfl,rfl⟩ | ⟨h1,h2,g1,g2⟩
 ·obtain rfl:=ra.iInt
  obtain rfl:=rb.iInt
  refine .inl ⟨rfl,?_⟩
  have e:(!decide (V.int i=V.int j)) = !decide (i=j):=by simp
  rw [e]
  exact q _ _ _ _ (.flat (.bl _)) g
 ·obtain rfl:=ra.iBl
  obtain rfl:=rb.iBl
  refine .inl ⟨rfl,?_⟩
  rw [Qf5]
  exact q _ _ _ _ (.flat (.bl _)) g
 ·obtain rfl:=ra.iStr
  obtain rfl:=rb.iStr
  refine .inl ⟨rfl,?_⟩
  have e:(!decide (V.str i=V.str j)) = !decide (i=j):=by simp
  rw [e]
  exact q _ _ _ _ (.flat (.bl _)) g
 ·exact .inr (Qjx (neg:=true) ra rb h1 h2 g1 g2 q)
end PV
variable {a:PySem.Expr} {kvs:List (L2.Key × PV.D)}
namespace PV
open PySem PySem.Spec L2
open PyProof.Rows (subscriptTail)
def V3:List D->Option (List Key)
 | []=>some []
 | .int i::r=>(V3 r).map λl=>.inl i::l
 | .str x::r=>(V3 r).map λl=>.inr x::l
 | _::_=>none
theorem Reps.keys {K:PySem.W.Frag} {H:Hp}:∀{ds:List D} {xs:List V} {F:List Addr} {l:List Key},Reps K H ds xs F->V3 ds=some l->xs=l.map kV
 | [],_,_,_,r,h=>by
  cases r
  simp only [V3,Option.some.injEq] at h
  subst h
  rfl
 | d::ds,_,_,_,r,h=>by
  cases r with
  | cons p r =>
   cases d with
   | int i =>
    simp only [V3,Option.map_eq_some_iff] at h
    obtain ⟨l',h1,rfl⟩:=h
    cases p
    rw [Reps.keys r h1]
    rfl
   | str i =>
    simp only [V3,Option.map_eq_some_iff] at h
    obtain ⟨l',h1,rfl⟩:=h
    cases p
    rw [Reps.keys r h1]
    rfl
   | _=>simp [V3] at h
theorem Reps.atI {ds:List D} {F:List Addr} (r:Reps K H ds xs F) (h:L2.atI ds i=some d):∃x B,L2.atI xs i=some x/\Rep K H d x B/\B.Sublist F:=by
 unfold L2.atI at h
 cases hj:ixN ds.length i with
 | none=>rw [hj] at h;cases h
 | some j =>
  rw [hj] at h
  obtain ⟨x,B,h1,h2,h3⟩:=r.get (i:=j) h
  refine ⟨x,B,?_,h2,h3⟩
  unfold L2.atI
  rw [r.length,hj]
  exact h1
def oget {α:Type} (o:Option α) (k:α->Prop):Prop:=match o with
 | some d=>k d
 | none=>False
def onI (b:D) (k:Int->Prop):Prop:=match b with
 | .int i=>k i
 | _=>False
def onK (b:D) (k:Key->Prop):Prop:=match b with
 | .int i=>k (.inl i)
 | .str i=>k (.inr i)
 | _=>False
def onT (b:D) (k:List D->Prop):Prop:=match b with
 | .tup l=>k l
 | _=>False
theorem Xw {k:Int->Prop} (h:onI b k):∃i,b=.int i/\k i:=by
 cases b with
 | int i=>exact ⟨i,rfl,h⟩
 | _=>exact (show False from h).elim
theorem Qit {k:List D->Prop} (h:onT b k):∃i,b=.tup i/\k i:=by
 cases b with
 | tup i=>exact ⟨i,rfl,h⟩
 | _=>exact (show False from h).elim
theorem Qen {k:Key->Prop} (h:onK b k):∃key,k key/\∀{K:PySem.W.Frag} {H:Hp} {v:V} {F:List Addr},Rep K H b v F->v=kV key:=by
 cases b with
 | int i=>exact ⟨.inl i,h,λr=>r.iInt⟩
 | str i=>exact ⟨.inr i,h,λr=>r.iStr⟩
 | _=>exact (show False from h).elim
def dIx:G2:=λa b k=>match a with
 | .lst xs=>onI b λi=>oget (L2.atI xs i) k
 | .tup xs=>onI b λi=>oget (L2.atI xs i) k
 | .kls xs=>onI b λi=>oget (L2.atI xs i) k
 | .str z=>onI b λi=>z.length<=sizeLine/\oget (L2.atI z.cps.toList i) λc=>k (.str ⟨#[c]⟩)
 | .dik kvs=>onK b λkey=>oget (valD kvs key) k
 | .dit kvs=>onT b λl=>oget (V3 l) λks=>oget (valD kvs ks) k
 | .fdk kvs=>onK b λkey=>oget (valD kvs key) k
 | _=>False
theorem Ql {α:Type} {o:Option α} {k:α->Prop} (h:oget o k):∃d,o=some d/\k d:=by
 cases o with
 | none=>exact h.elim
 | some d=>exact ⟨d,rfl,h⟩
theorem Qhu {s₂:Shared} {slice:Expr} {o i:Value} {T id:String}
  (hl:typeLookup (.type T) "__getitem__" = pure (some (.builtin id))) (hs:subscripted slice false o i=operate [o,i] (getItem o i)) (hT:s₂.TypeIs o T) (h₂:wpAny (model prog w) A (getItem o i) Q E s₂) :
  wpAny (model prog w) A (subscriptTail value slice o i) Q E s₂:=by
 unfold subscriptTail
 refine wpAny_bind ?_
 rw [getitemInPython_of_ne hT.not_modules]
 refine wpAny_bind (wpAny_specialOf hT hl ?_)
 have fin:wpAny (model prog w) A (subscripted slice false o i) (λr s₃=>wpAny (model prog w) A (letTemporaryGo value o r >>= λ_=>pure r) Q E s₃) E s₂:=by
  rw [hs]
  exact wpAny_operating (wpAny_mono h₂ (λr s₃ h₃=>wpAny_bind (wpAny_letTemporaryGo (wpAny_pure h₃))) λ_ _ x=>x)
 first
  | exact wpAny_pure (wpAny_bind fin)
  | exact wpAny_bind (wpAny_pure (wpAny_bind fin))
  | exact wpAny_bind fin
theorem Qpl (hu:X.A.units+1<cLine):IxR X (λx y H Q=>∃a v,x=.ref a/\DGet H a y (some v)/\Q v H):=by
 intro value slice pins s σ H x y v u Q I rx ry h hs
 obtain ⟨a,z,rfl,g,q⟩:=h
 cases rx
 exact Qhu PySem.F.slot_dict_getitem.lookup hs (Qes I g) (Qj6 hu I g ry λw' s3 I3 rw'=>⟨z,H,I3,rw',q⟩)
def IxD (X:Cx) (g:G2):Prop :=
 ∃r,IxR X r/\∀(H:Hp) (a b:D) (x y:V) (F1 F2:List Addr) (k:D->Prop) (Q:VK),Rep X.K H a x F1->Rep X.K H b y F2->g a b k ->
  (∀v d F,Rep X.K H d v F->F.Sublist F1->k d->Q v H)->r x y H Q
theorem Yw (hu:X.A.units+1<cLine):IxD X dIx:=by
 refine ⟨_,IxR.or Qsu (Qpl hu),λH a b x y F1 F2 k Q ra rb g q=>?_⟩
 cases a with
 | str z =>
  obtain ⟨i,rfl,hz,g⟩:=Xw g
  obtain ⟨c,e,g⟩:=Ql g
  exact .inl (.inr (.inr ⟨_,_,c,ra.iStr,rb.iInt,hz,e,q _ _ _ (.str _) (List.nil_sublist _) g⟩))
 | tup ds =>
  obtain ⟨i,rfl,g⟩:=Xw g
  obtain ⟨a,xs,rfl,e,r⟩:=ra.iTup
  obtain ⟨d,h,g⟩:=Ql g
  obtain ⟨v,B,h1,h2,h3⟩:=r.atI h
  exact .inl (.inr (.inl ⟨a,xs,i,v,rfl,rb.iInt,.of e,h1,q _ _ _ h2 h3 g⟩))
 | lst ds =>
  obtain ⟨i,rfl,g⟩:=Xw g
  obtain ⟨a,xs,G,rfl,rfl,e,r⟩:=ra.iLst
  obtain ⟨d,h,g⟩:=Ql g
  obtain ⟨v,B,h1,h2,h3⟩:=r.atI h
  exact .inl (.inl ⟨a,xs,i,v,rfl,rb.iInt,.of e,h1,q _ _ _ h2 (h3.trans (List.sublist_cons_self _ _)) g⟩)
 | dik ds =>
  obtain ⟨key,g,hy⟩:=Qen (show onK b (λkey=>oget (valD ds key) k) from g)
  obtain ⟨a,kvs,G,rfl,rfl,e,r⟩:=ra.iDik
  obtain rfl:=hy rb
  obtain ⟨d,h,g⟩:=Ql g
  rcases r.val key with ⟨z,_⟩ | ⟨d',v,B,h1,h2,h3,h4⟩
  ·rw [h] at z;cases z
  ·rw [h] at h1;cases h1
   exact .inr ⟨a,v,rfl,h2 ▸ DGet.k (k:=key) e,q _ _ _ h3 (h4.trans (List.sublist_cons_self _ _)) g⟩
 | dit ds =>
  obtain ⟨l,rfl,g⟩:=Qit g
  obtain ⟨a,kvs,G,rfl,rfl,e,r⟩:=ra.iDit
  obtain ⟨b,xs,rfl,e2,r2⟩:=rb.iTup
  obtain ⟨ks,hk,g⟩:=Ql g
  obtain ⟨d,h,g⟩:=Ql g
  have hx:=r2.keys hk
  subst hx
  rcases r.val ks with ⟨z,_⟩ | ⟨d',v,B,h1,h2,h3,h4⟩
  ·rw [h] at z;cases z
  ·rw [h] at h1;cases h1
   exact .inr ⟨a,v,rfl,h2 ▸ DGet.t (k:=ks) e e2,q _ _ _ h3 (h4.trans (List.sublist_cons_self _ _)) g⟩
 | kls ds =>
  obtain ⟨i,rfl,g⟩:=Xw g
  obtain ⟨a,xs,rfl,rfl,e,r⟩:=ra.iKls
  obtain ⟨d,h,g⟩:=Ql g
  obtain ⟨v,B,h1,h2,h3⟩:=r.atI h
  exact .inl (.inl ⟨a,xs,i,v,rfl,rb.iInt,e.sq,h1,q _ _ _ h2 h3 g⟩)
 | fdk ds =>
  obtain ⟨key,g,hy⟩:=Qen (show onK b (λkey=>oget (valD ds key) k) from g)
  obtain ⟨a,ob,kvs,rfl,e,r⟩:=ra.iFdk
  obtain rfl:=hy rb
  obtain ⟨d,h,g⟩:=Ql g
  rcases r.val key with ⟨z,_⟩ | ⟨d',v,B,h1,h2,h3,h4⟩
  ·rw [h] at z;cases z
  ·rw [h] at h1;cases h1
   exact .inr ⟨a,v,rfl,.inl ⟨kvs,key,.inr ⟨ob,e⟩,rfl,h2.symm⟩,q _ _ _ h3 h4 g⟩
 | _=>exact (show False from g).elim
section
variable {m1:Bool} {b:Expr} {w:WE}
theorem Y3 {g:G2} (hg:IxD X g) (ha:EV X T m1 o1 a wa) (hb:EV X T m2 o2 b wb) (hc:o1=true\/m2=false:=by first | exact .inl rfl | exact .inr rfl) (hs:Qci b:=by intro _ _;rfl) :
  EV X T (m1 || m2) o1 (.Subscript a b pos) (wBin g wa wb):=by
 obtain ⟨r,ro,gr⟩:=hg
 obtain ⟨ta,pa,ga⟩:=ha
 obtain ⟨tb,pb,gb⟩:=hb
 refine ⟨_,Qox ro pa pb hs,λz R σ H W ρ Q Q' s hw k=>?_⟩
 refine two ga gb hc s hw λx y H2 W2 d1 d2 ρ2 F1 F2 s2 f2 c2 r1 r2 o1 _ _ q2=>?_
 exact gr H2 d1 d2 x y F1 F2 _ Q' r1 r2 q2 λv d F rd sub hk=>k v H2 W2 d ρ2 F ⟨s2,f2,c2,rd,λh=>⟨(o1 h).1.sublist sub,λa m=>(o1 h).2 a (sub.subset m)⟩⟩ hk
def inD:D->List D->Option Bool
 | .int i,[]=>some false
 | .int i,.int j::r=>(inD (.int i) r).map λb=>(j == i) || b
 | .str i,[]=>some false
 | .str i,.str j::r=>(inD (.str i) r).map λb=>(j == i) || b
 | _,_=>none
def dIn (neg:Bool):G2
 | .int i,.dik kvs,k=>k (.bl (xor neg (valD kvs (.inl i)).isSome))
 | .str i,.dik kvs,k=>k (.bl (xor neg (valD kvs (.inr i)).isSome))
 | .tup l,.dit kvs,k=>oget (V3 l) λks=>k (.bl (xor neg (valD kvs ks).isSome))
 | .int i,.lst xs,k=>oget (inD (.int i) xs) λb=>k (.bl (xor neg b))
 | .int i,.tup xs,k=>oget (inD (.int i) xs) λb=>k (.bl (xor neg b))
 | .str i,.lst xs,k=>oget (inD (.str i) xs) λb=>k (.bl (xor neg b))
 | .str i,.tup xs,k=>oget (inD (.str i) xs) λb=>k (.bl (xor neg b))
 | .str i,.str j,k=>k (.bl (xor neg (!(Builtin.Str.occurrences j i 0 j.length 1).isEmpty)))
 | _,_,_=>False
theorem Qji {K:PySem.W.Frag} {H:Hp} {i:Int}:∀{ds:List D} {xs:List V} {F:List Addr} {b:Bool},Reps K H ds xs F->inD (.int i) ds=some b->xs.all Qaw=true/\inV (.int i) xs=b
 | [],_,_,_,r,h=>by
  cases r
  simp only [inD,Option.some.injEq] at h
  subst h
  exact ⟨rfl,rfl⟩
 | d::ds,_,_,_,r,h=>by
  cases r with
  | cons p r =>
   cases d with
   | int j =>
    simp only [inD,Option.map_eq_some_iff] at h
    obtain ⟨b',h1,rfl⟩:=h
    cases p
    obtain ⟨e1,e2⟩:=Qji r h1
    refine ⟨by rw [List.all_cons,e1];rfl,?_⟩
    unfold inV at e2 ⊢
    rw [List.any_cons,e2]
    rfl
   | _=>simp [inD] at h
theorem Qjh {K:PySem.W.Frag} {H:Hp} {i:Str}:∀{ds:List D} {xs:List V} {F:List Addr} {b:Bool},Reps K H ds xs F->inD (.str i) ds=some b->xs.all Qaw=true/\inV (.str i) xs=b
 | [],_,_,_,r,h=>by
  cases r
  simp only [inD,Option.some.injEq] at h
  subst h
  exact ⟨rfl,rfl⟩
 | d::ds,_,_,_,r,h=>by
  cases r with
  | cons p r =>
   cases d with
   | str j =>
    simp only [inD,Option.map_eq_some_iff] at h
    obtain ⟨b',h1,rfl⟩:=h
    cases p
    obtain ⟨e1,e2⟩:=Qjh r h1
    refine ⟨by rw [List.all_cons,e1];rfl,?_⟩
    unfold inV at e2 ⊢
    rw [List.any_cons,e2]
    rfl
   | _=>simp [inD] at h
theorem Qo5 (neg:Bool) (hu:X.A.units+1<cLine):OpR X (compareOp (if neg then .NotIn else .In)) (λy x H Q=>∃a o,x=.ref a/\DGet H a y o/\Q (.bl (xor neg o.isSome)) H):=by
 intro pins s σ H y x u v Q I ry rx h
 obtain ⟨a,ov,rfl,g,q⟩:=h
 cases rx
 cases neg with
 | false=>exact d_in hu I g ry λs3 I3=>⟨.bl ov.isSome,H,I3,rfl,by simpa using q⟩
 | true=>exact Qp2 hu I g ry λs3 I3=>⟨.bl (!ov.isSome),H,I3,rfl,by simpa using q⟩
theorem Qlc (neg:Bool):OpR X (compareOp (if neg then .NotIn else .In)) (rIn X.K neg):=by
 cases neg with
 | false=>exact Qis
 | true=>exact Qc5
theorem Qlb (neg:Bool):OpR X (compareOp (if neg then .NotIn else .In)) (λx y H Q=>∃i j,x=.str i/\y=.str j/\Q (.bl (xor neg (!(Builtin.Str.occurrences j i 0 j.length 1).isEmpty))) H):=by
 cases neg with
 | false=>simpa using Qir (X:=X)
 | true=>simpa using Qc4 (X:=X)
theorem Qcw {a:Addr} {kvs:List (Key × V)} {F:List Addr} {k:Key} (e:H a=some (.dK kvs)) (r:RepK X.K H ds kvs F):∃o,DGet H a (kV k) o/\o.isSome=(valD ds k).isSome:=by
 refine ⟨_,DGet.k (k:=k) e,?_⟩
 rcases r.val k with ⟨h1,h2⟩ | ⟨d,v,B,h1,h2,_⟩ <;> simp [h1,h2]
theorem Qp4 {a b:D} (g:dIn neg a b k):(∃i z,a=.int i/\b=.tup z)\/(∃i z,a=.int i/\b=.lst z)\/(∃i z,a=.int i/\b=.dik z)\/(∃i z,a=.str i/\b=.str z)\/(∃i z,a=.str i/\b=.tup z)\/(∃i z,a=.str i/\b=.lst z)\/(∃i z,a=.str i/\b=.dik z)\/∃i z,a=.tup i/\b=.dit z:=by
 cases a with
 | int i=>cases b with
  | tup z=>exact .inl ⟨i,z,rfl,rfl⟩
  | lst z=>exact .inr (.inl ⟨i,z,rfl,rfl⟩)
  | dik z=>exact .inr (.inr (.inl ⟨i,z,rfl,rfl⟩))
  | _=>exact (show False from g).elim
 | str i=>cases b with
  | str z=>exact .inr (.inr (.inr (.inl ⟨i,z,rfl,rfl⟩)))
  | tup z=>exact .inr (.inr (.inr (.inr (.inl ⟨i,z,rfl,rfl⟩))))
  | lst z=>exact .inr (.inr (.inr (.inr (.inr (.inl ⟨i,z,rfl,rfl⟩)))))
  | dik z=>exact .inr (.inr (.inr (.inr (.inr (.inr (.inl ⟨i,z,rfl,rfl⟩))))))
  | _=>exact (show False from g).elim
 | tup i=>cases b with
  | dit z=>exact .inr (.inr (.inr (.inr (.inr (.inr (.inr ⟨i,z,rfl,rfl⟩))))))
  | _=>exact (show False from g).elim
 | _=>exact (show False from g).elim
theorem Qr5 (neg:Bool) (hu:X.A.units+1<cLine):OpD X (compareOp (if neg then .NotIn else .In)) (dIn neg):=by
 refine ⟨_,OpR.or (Qo5 neg hu) (OpR.or (Qlc neg) (Qlb neg)),λH a b x y F1 F2 k Q ra rb g q=>?_⟩
 have seqI:∀{i:Int} {p:Addr} {ds:List D} {xs:List V} {F:List Addr},x=.int i->y=.ref p->Reps X.K H ds xs F->(SqL X.K H p xs\/SqT X.K H p xs)->oget (inD (.int i) ds) (λb=>k (.bl (xor neg b)))->rIn X.K neg x y H Q:=λ{i p ds xs F} ex ey r hs g=>by
  subst ex ey
  obtain ⟨b,h,g⟩:=Ql g
  obtain ⟨e1,e2⟩:=Qji r h
  refine ⟨p,xs,rfl,hs,rfl,e1,?_⟩
  rw [e2]
  have:=q _ _ _ _ (.flat (.bl _)) g
  cases neg <;> simpa using this
 have seqS:∀{i:Str} {p:Addr} {ds:List D} {xs:List V} {F:List Addr},x=.str i->y=.ref p->Reps X.K H ds xs F->(SqL X.K H p xs\/SqT X.K H p xs)->oget (inD (.str i) ds) (λb=>k (.bl (xor neg b)))->rIn X.K neg x y H Q:=λ{i p ds xs F} ex ey r hs g=>by
  subst ex ey
  obtain ⟨b,h,g⟩:=Ql g
  obtain ⟨e1,e2⟩:=Qjh r h
  refine ⟨p,xs,rfl,hs,rfl,e1,?_⟩
  rw [e2]
  have:=q _ _ _ _ (.flat (.bl _)) g
  cases neg <;> simpa using this
 rcases Qp4 g with ⟨i,z,rfl,rfl⟩ | ⟨i,z,rfl,rfl⟩ | ⟨i,ds,rfl,rfl⟩ | ⟨i,z,rfl,rfl⟩ | ⟨i,z,rfl,rfl⟩ | ⟨i,z,rfl,rfl⟩ | ⟨i,ds,rfl,rfl⟩ | ⟨l,ds,rfl,rfl⟩
 ·obtain ⟨p,xs,ey,e,r⟩:=rb.iTup
  exact .inr (.inl (seqI ra.iInt ey r (.inr (.of e)) g))
 ·obtain ⟨p,xs,G,ey,_,e,r⟩:=rb.iLst
  exact .inr (.inl (seqI ra.iInt ey r (.inl (.of e)) g))
 ·obtain ⟨a,kvs,G,rfl,_,e,r⟩:=rb.iDik
  obtain rfl:=ra.iInt
  obtain ⟨o,h1,h2⟩:=Qcw (k:=.inl i) e r
  refine .inl ⟨a,o,rfl,h1,?_⟩
  rw [h2]
  exact q _ _ _ _ (.flat (.bl _)) g
 ·exact .inr (.inr ⟨_,_,ra.iStr,rb.iStr,q _ _ _ _ (.flat (.bl _)) g⟩)
 ·obtain ⟨p,xs,ey,e,r⟩:=rb.iTup
  exact .inr (.inl (seqS ra.iStr ey r (.inr (.of e)) g))
 ·obtain ⟨p,xs,G,ey,_,e,r⟩:=rb.iLst
  exact .inr (.inl (seqS ra.iStr ey r (.inl (.of e)) g))
 ·obtain ⟨a,kvs,G,rfl,_,e,r⟩:=rb.iDik
  obtain rfl:=ra.iStr
  obtain ⟨o,h1,h2⟩:=Qcw (k:=.inr i) e r
  refine .inl ⟨a,o,rfl,h1,?_⟩
  rw [h2]
  exact q _ _ _ _ (.flat (.bl _)) g
 ·obtain ⟨b,xs,rfl,e2,r2⟩:=ra.iTup
  obtain ⟨a,kvs,G,rfl,_,e,r⟩:=rb.iDit
  obtain ⟨ks,hk,g⟩:=Ql g
  have hx:=r2.keys hk
  subst hx
  refine .inl ⟨a,valV kvs ks,rfl,DGet.t (k:=ks) e e2,?_⟩
  have h2:(valV kvs ks).isSome=(valD ds ks).isSome:=by
   rcases r.val ks with ⟨h1,h2⟩ | ⟨d,v,B,h1,h2,_⟩ <;> simp [h1,h2]
  rw [h2]
  exact q _ _ _ _ (.flat (.bl _)) g
theorem Qr6 (hu:X.A.units+1<cLine):OpD X (compareOp .In) (dIn false):=Qr5 false hu
abbrev WA:=Env->(List D->Env->Prop)->Prop
structure PostA (K:PySem.W.Frag) (T:Tg) (z:Nat->V) (R:Addr->Prop) (m o:Bool) (H:Hp) (W:Addr->Prop) (σ:St) (ρ:Env) (H':Hp) (W':Addr->Prop) (ρ':Env) (ds:List D) (vs:List V) (F:List Addr):Prop where
 sr:SR K T z R H' W' σ ρ'
 fr:FrW H W H' W'
 calm:m=false->Same H H'/\W'=W/\ρ'=ρ
 rep:Reps K H' ds vs F
 own:o=true->F.Nodup/\∀a∈F,H a=none/\¬W' a
def AV (X:Cx) (T:Tg) (m o:Bool) (es:List Expr) (w:WA):Prop :=
 ∃ta,PA X es ta/\∀(z:Nat->V) (R:Addr->Prop) (σ:St) (H:Hp) (W:Addr->Prop) (ρ:Env) (Q:List D->Env->Prop) (Q':List V->Hp->Prop),SR X.K T z R H W σ ρ->w ρ Q ->
  (∀vs H' W' ds ρ' F,PostA X.K T z R m o H W σ ρ H' W' ρ' ds vs F->Q ds ρ'->Q' vs H')->ta σ H Q'
end
section
variable {m1:Bool} {b:Expr} {w:WE} {wr:WA}
def wNil:WA:=λρ Q=>Q [] ρ
def Qd (w:WE) (wr:WA):WA:=λρ Q=>w ρ λd ρ1=>wr ρ1 λds ρ2=>Q (d::ds) ρ2
theorem Qh:AV X T false true [] wNil:=⟨_,Qa7,λz R σ H W ρ Q Q' s hw k=>k [] H W [] ρ [] ⟨s,FrW.refl H W,λ_=>⟨Same.refl H,rfl,rfl⟩,.nil,λ_=>⟨List.nodup_nil,λa m=>nomatch m⟩⟩ hw⟩
theorem Qb (he:EV X T m1 o1 e w) (hr:AV X T m2 o2 es wr) (hc:o1=true\/m2=false:=by first | exact .inl rfl | exact .inr rfl) (hs:starEach (e::es) X.env=(false,eval e X.env)::starEach es X.env:=by rfl) :
  AV X T (m1 || m2) (o1 && o2) (e::es) (Qd w wr):=by
 obtain ⟨te,pe,ge⟩:=he
 obtain ⟨ta,pa,ga⟩:=hr
 refine ⟨_,Zp pe pa hs,λz R σ H W ρ Q Q' s hw k=>?_⟩
 refine ge z R σ H W ρ _ _ s hw λv1 H1 W1 d1 ρ1 F1 p q1=>?_
 refine ga z R σ H1 W1 ρ1 _ _ p.sr q1 λvs H2 W2 ds ρ2 F2 q q2=>?_
 have r1:Rep X.K H2 d1 v1 F1:=by
  rcases hc with hc | hc
  ·exact p.rep.keep q.fr λa h=>((p.own hc).2 a h).2
  ·exact p.rep.same (q.calm hc).1
 refine k (v1::vs) H2 W2 (d1::ds) ρ2 (F1++F2) ⟨q.sr,p.fr.trans q.fr,λh=>?_,.cons r1 q.rep,λh=>?_⟩ q2
 ·rw [Bool.or_eq_false_iff] at h
  obtain ⟨a1,a2,a3⟩:=p.calm h.1
  obtain ⟨b1,b2,b3⟩:=q.calm h.2
  exact ⟨a1.trans b1,b2.trans a2,b3.trans a3⟩
 ·rw [Bool.and_eq_true] at h
  obtain ⟨n1,k1⟩:=p.own h.1
  obtain ⟨n2,k2⟩:=q.own h.2
  refine ⟨List.nodup_append.mpr ⟨n1,n2,λa ma b mb e=>?_⟩,λa ma=>?_⟩
  ·subst e
   obtain ⟨ob,e,_⟩:=p.rep.dom a ma
   rw [(k2 a mb).1] at e;cases e
  ·rcases List.mem_append.mp ma with ma | ma
   ·refine ⟨(k1 a ma).1,λw=>?_⟩
    rcases q.fr.new a w with w | w
    ·exact (k1 a ma).2 w
    ·obtain ⟨ob,e,_⟩:=p.rep.dom a ma
     rw [w] at e;cases e
   ·exact ⟨p.fr.dom a (k2 a ma).1,(k2 a ma).2⟩
def wTup (wr:WA):WE:=λρ Q=>wr ρ λds ρ'=>ds.length<=sizeLine/\Q (.tup ds) ρ'
def wLst (wr:WA):WE:=λρ Q=>wr ρ λds ρ'=>ds.length<=sizeLine/\Q (.lst ds) ρ'
theorem Qds {x1} (h:AV X T m o es wr):EV X T m o (.Tuple es x1 pos) (wTup wr):=by
 obtain ⟨ta,pa,ga⟩:=h
 refine ⟨_,Qri pa,λz R σ H W ρ Q Q' s hw k=>?_⟩
 refine ga z R σ H W ρ _ _ s hw λvs H1 W1 ds ρ1 F p q=>?_
 obtain ⟨hz,q⟩:=q
 refine ⟨by rw [p.rep.length];exact hz,λa ha=>k _ _ W1 (.tup ds) ρ1 F ⟨p.sr.same (Qo ha),p.fr.trans (FrW.same W1 (Qo ha)),λh=>⟨(p.calm h).1.trans (Qo ha),(p.calm h).2⟩,.tup Qi (p.rep.same (Qo ha)),p.own⟩ q⟩
theorem Ju (h:AV X T m o es wr):EV X T m o (.List es pos) (wLst wr):=by
 obtain ⟨ta,pa,ga⟩:=h
 refine ⟨_,Qrm pa,λz R σ H W ρ Q Q' s hw k=>?_⟩
 refine ga z R σ H W ρ _ _ s hw λvs H1 W1 ds ρ1 F p q=>?_
 obtain ⟨hz,q⟩:=q
 refine ⟨by rw [p.rep.length];exact hz,λa ha=>k _ _ W1 (.lst ds) ρ1 (a::F) ⟨p.sr.same (Qo ha),p.fr.trans (FrW.same W1 (Qo ha)),λh=>⟨(p.calm h).1.trans (Qo ha),(p.calm h).2⟩,.lst Qi (p.rep.same (Qo ha)),λh=>?_⟩ q⟩
 obtain ⟨n1,k1⟩:=p.own h
 refine ⟨List.nodup_cons.mpr ⟨λm=>?_,n1⟩,λb mb=>?_⟩
 ·obtain ⟨ob,e,_⟩:=p.rep.dom a m
  rw [ha] at e;cases e
 ·rcases List.mem_cons.mp mb with rfl | mb
  ·exact ⟨p.fr.dom _ ha,p.sr.nw ha⟩
  ·exact k1 b mb
abbrev GA:=List D->(D->Prop)->Prop
end
end PV
variable {Q:PV.D->PV.Env->Prop} {g:PV.GA} {ta:L2.TA} {Q':L2.VK} {T':String}
namespace PV
open PySem PySem.Spec L2
open PyProof.Rows (subscriptTail)
section
variable {wr:WA}
def Qhi (X:Cx) (f:Value) (g:GA):Prop :=
 ∃r,Vp X f r/\∀(H:Hp) (ds:List D) (xs:List V) (F:List Addr) (k:D->Prop) (Q:VK),Reps X.K H ds xs F->g ds k->(∀v H' d F',Fin X.K H H' d v F'->k d->Q v H')->r xs H Q
def Q0 (g:GA) (wr:WA):WE:=λρ Q=>wr ρ λds ρ'=>g ds λd=>Q d ρ'
end
section
variable {b:Expr} {wr:WA} {id:String}
theorem Qf9 {r:List V->Hp->VK->Prop} (gr:∀(H:Hp) (ds:List D) (xs:List V) (F:List Addr) (k:D->Prop) (Q:VK),Reps X.K H ds xs F->g ds k->(∀v H' d F',Fin X.K H H' d v F'->k d->Q v H')->r xs H Q) (ga:∀(z:Nat->V) (R:Addr->Prop) (σ:St) (H:Hp) (W:Addr->Prop) (ρ:Env) (Q:List D->Env->Prop) (Q':List V->Hp->Prop),SR X.K T z R H W σ ρ->wr ρ Q ->
   (∀vs H' W' ds ρ' F,PostA X.K T z R m o H W σ ρ H' W' ρ' ds vs F->Q ds ρ'->Q' vs H')->ta σ H Q') {W:Addr->Prop} (s:SR X.K T z R H W σ ρ) (hw:Q0 g wr ρ Q)
  (k:∀v H' W' d ρ' F,Post X.K T z R m true H W σ ρ H' W' ρ' d v F->Q d ρ'->Q' v H'):ta σ H λvs H1=>r vs H1 Q':=by
 refine ga z R σ H W ρ _ _ s hw λvs H1 W1 ds ρ1 F p q=>?_
 exact gr H1 ds vs F _ Q' p.rep q λv H' d F' fi hk=>k v H' W1 d ρ1 F' (Post.fin p.sr p.fr p.calm fi.same fi.rep fi.nd fi.new) hk
theorem Yv (hc:Qhi X (.builtin id) g) (hm:X.mg x=none) (hv:bootBuiltins x=some (.builtin id)) (ha:AV X T m o (e::es) wr) (hg:Gl X x:=by rfl) (hn:x ≠ "__name__":=by decide) (hdb:(x == ("__debug__" : Str))=false:=by decide)
  (he:starEach (e::es) X.env=(false,eval e X.env)::starEach es X.env:=by rfl) (hpl:(backTo pos (starEach es X.env)).any (·.1)=false:=by rfl):EV X T m true (.Call (.Name x p) (e::es) [] pos) (Q0 g wr):=by
 obtain ⟨r,rc,gr⟩:=hc
 obtain ⟨ta,pa,ga⟩:=ha
 exact ⟨_,Qby rc hg hm hv pa hn hdb he hpl,λz R σ H W ρ Q Q' s hw k=>Qf9 gr ga s hw k⟩
theorem Qae (hc:Qhi X (.type T') g) (hm:X.mg x=none) (hv:bootBuiltins x=some (.type T')) (ha:AV X T m o (e::es) wr) (hg:Gl X x:=by rfl) (hn:x ≠ "__name__":=by decide) (hdb:(x == ("__debug__" : Str))=false:=by decide)
  (he:starEach (e::es) X.env=(false,eval e X.env)::starEach es X.env:=by rfl) (hpl:(backTo pos (starEach es X.env)).any (·.1)=false:=by rfl):EV X T m true (.Call (.Name x p) (e::es) [] pos) (Q0 g wr):=by
 obtain ⟨r,rc,gr⟩:=hc
 obtain ⟨ta,pa,ga⟩:=ha
 exact ⟨_,Qio rc hg hm hv pa hn hdb he hpl,λz R σ H W ρ Q Q' s hw k=>Qf9 gr ga s hw k⟩
theorem Qvf (t:Ty) (hm:X.mg x=none) (hv:bootBuiltins x=some (.type t.nm)) (hg:Gl X x:=by rfl) (hn:x ≠ "__name__":=by decide) (hdb:(x == ("__debug__" : Str))=false:=by decide):EV X T false true (.Name x pos) (wC (.ty t)) :=
 Vt (Qip hg hm hv (v:=.ty t.nm) rfl hn hdb) λ_=>.ty t
theorem Reps.at1 {F:List Addr} (r:Reps K H [d] xs F):∃v,xs=[v]/\Rep K H d v F:=by
 cases r with
 | cons h r=>cases r;rw [List.append_nil];exact ⟨_,rfl,h⟩
theorem Reps.at2 {e:D} {F:List Addr} (r:Reps K H [d,e] xs F):∃v u F1 F2,xs=[v,u]/\Rep K H d v F1/\Rep K H e u F2:=by
 cases r with
 | cons h r =>
  obtain ⟨u,rfl,h2⟩:=r.at1
  exact ⟨_,_,_,_,rfl,h,h2⟩
def dLen:GA
 | [.lst xs],k=>k (.int xs.length)
 | [.tup xs],k=>k (.int xs.length)
 | [.kls xs],k=>k (.int xs.length)
 | [.dik xs],k=>k (.int xs.length)
 | [.str z],k=>z.length<=sizeLine/\k (.int z.length)
 | _,_=>False
theorem Gu:Qhi X (.builtin "len") dLen:=by
 refine ⟨_,Vp.or Qmd Qke,λH ds xs F k Q r g q=>?_⟩
 cases ds with
 | nil=>exact (show False from g).elim
 | cons d ds =>
  cases ds with
  | cons _ _=>cases d <;> exact (show False from g).elim
  | nil =>
   cases d with
   | lst es =>
    obtain ⟨v,rfl,rd⟩:=r.at1
    clear r
    cases rd with
    | lst e r9=>exact .inl ⟨_,_,rfl,.inl ⟨_,.of e,rfl⟩,by rw [r9.length];exact q _ _ _ _ (.flat (.int _)) g⟩
   | tup es =>
    obtain ⟨v,rfl,rd⟩:=r.at1
    clear r
    cases rd with
    | tup e r9=>exact .inl ⟨_,_,rfl,.inr ⟨_,.of e,rfl⟩,by rw [r9.length];exact q _ _ _ _ (.flat (.int _)) g⟩
   | kls es =>
    obtain ⟨v,rfl,rd⟩:=r.at1
    clear r
    cases rd with
    | kls e r9=>exact .inl ⟨_,_,rfl,.inl ⟨_,e.sq,rfl⟩,by rw [r9.length];exact q _ _ _ _ (.flat (.int _)) g⟩
   | dik es =>
    obtain ⟨v,rfl,rd⟩:=r.at1
    clear r
    cases rd with
    | dik e r9=>exact .inr ⟨_,_,rfl,e,by rw [r9.length];exact q _ _ _ _ (.flat (.int _)) g⟩
   | str es =>
    obtain ⟨v,rfl,rd⟩:=r.at1
    clear r
    cases rd
    exact .inl ⟨_,_,rfl,⟨g.1,rfl⟩,q _ _ _ _ (.flat (.int _)) g.2⟩
   | _=>exact (show False from g).elim
def dInt:GA
 | [.int i],k=>k (.int i)
 | [.bl b],k=>k (.int (if b then 1 else 0))
 | _,_=>False
theorem Qkc:Qhi X (.type "int") dInt:=by
 refine ⟨_,Qkg,λH ds xs F k Q r g q=>?_⟩
 cases ds with
 | nil=>exact (show False from g).elim
 | cons d ds =>
  cases ds with
  | cons _ _=>cases d <;> exact (show False from g).elim
  | nil =>
   cases d with
   | int i =>
    obtain ⟨v,rfl,rd⟩:=r.at1
    cases rd
    exact .inl ⟨_,rfl,q _ _ _ _ (.flat (.int _)) g⟩
   | bl i =>
    obtain ⟨v,rfl,rd⟩:=r.at1
    cases rd
    exact .inr ⟨_,rfl,q _ _ _ _ (.flat (.int _)) g⟩
   | _=>exact (show False from g).elim
end
end PV
variable {b:PySem.Expr} {w:PV.WE} {i q:Nat} {t:String} {fp:Nat->List PySem.Addr} {F':List PySem.Addr} {ob':L2.HO} {wr:PV.WA} {m0:Bool}
namespace PV
open PySem PySem.Spec L2
def isiD:D->Ty->Option Bool
 | .non,_=>some false
 | .bl _,t=>some (t == .bool || t == .int)
 | .int _,t=>some (t == .int)
 | .str _,t=>some (t == .str)
 | .tup _,t=>some (t == .tuple)
 | .lst _,t=>some (t == .list)
 | .dik _,t=>some (t == .dict)
 | .dit _,t=>some (t == .dict)
 | .kls _,_=>none
 | .ty _,_=>none
 | .fdk _,t=>some (t == .dict)
 | .ftp _,_=>none
 | .fls _,t=>some (t == .list)
 | .fdt _,_=>none
 | .obj _ _,_=>none
 | .clo _ _,_=>none
 | .kc _,_=>none
 | .dmx _,_=>none
 | .fmx _,_=>none
 | .lsa _ _,_=>none
 | .ist _ _,_=>none
def dIsi:GA
 | [d,.ty t],k=>oget (isiD d t) λb=>k (.bl b)
 | _,_=>False
theorem Qsk (t:Ty):PySem.W.kitOne K (.type "NoneType") (.type t.nm)=some false:=by
 cases t <;> (unfold PySem.W.kitOne;rw [if_neg (by decide)];rfl)
theorem Qsm (t:Ty):PySem.W.kitOne K (.type "bool") (.type t.nm)=some (t == .bool || t == .int):=by
 cases t <;> first | (unfold PySem.W.kitOne;rw [if_pos (by decide)];rfl) | (unfold PySem.W.kitOne;rw [if_neg (by decide)];rfl)
theorem Qsl (t:Ty):PySem.W.kitOne K (.type "int") (.type t.nm)=some (t == .int):=by
 cases t <;> first | (unfold PySem.W.kitOne;rw [if_pos (by decide)];rfl) | (unfold PySem.W.kitOne;rw [if_neg (by decide)];rfl)
theorem Qsj (t:Ty):PySem.W.kitOne K (.type "str") (.type t.nm)=some (t == .str):=by
 cases t <;> first | (unfold PySem.W.kitOne;rw [if_pos (by decide)];rfl) | (unfold PySem.W.kitOne;rw [if_neg (by decide)];rfl)
theorem Qsi (t:Ty):PySem.W.kitOne K (.type "tuple") (.type t.nm)=some (t == .tuple):=by
 cases t <;> first | (unfold PySem.W.kitOne;rw [if_pos (by decide)];rfl) | (unfold PySem.W.kitOne;rw [if_neg (by decide)];rfl)
theorem Qm8 (t:Ty):PySem.W.kitOne K (.type "list") (.type t.nm)=some (t == .list):=by
 cases t <;> first | (unfold PySem.W.kitOne;rw [if_pos (by decide)];rfl) | (unfold PySem.W.kitOne;rw [if_neg (by decide)];rfl)
theorem Qi5 (t:Ty):PySem.W.kitOne K (.type "dict") (.type t.nm)=some (t == .dict):=by
 cases t <;> first | (unfold PySem.W.kitOne;rw [if_pos (by decide)];rfl) | (unfold PySem.W.kitOne;rw [if_neg (by decide)];rfl)
theorem Qkf:Vp X (.builtin "isinstance") (λxs H Q=>∃a o kvs T b,xs=[.ref a,.ty T]/\H a=some (.frz o (.dK kvs))/\PySem.W.kitOne X.K (.type "dict") (.type T)=some b/\Q (.bl b) H):=by
 intro pins s σ H xs us Q I r h
 obtain ⟨a,o,kvs,T,b,rfl,ea,e,q⟩:=h
 obtain ⟨u,c,rfl,ru,rc⟩:=Qhr r
 cases (show c=Value.type T from rc)
 cases (show u=Value.ref a from ru)
 obtain ⟨_,_,_,vs,_,p⟩:=(show Ya X.prog X.w H s.heap a (.frz o (.dK kvs)) from I.hok a _ ea)
 obtain ⟨o',es,ep,h1,h2,_⟩:=p
 exact PySem.W.kia_one PySem.W.kitx_dict I.kIn ⟨o',h1,h2.1⟩ e (λz=>nomatch z) λtk=>⟨.bl b,H,I.tok _,rfl,q⟩
theorem Qtj:Qhi X (.builtin "isinstance") dIsi:=by
 refine ⟨_,Vp.or Qev Qkf,λH ds xs F k Q r g q=>?_⟩
 match ds,r,g with
 | [d,.ty t],r,g =>
  obtain ⟨v,u,F1,F2,rfl,r1,r2⟩:=r.at2
  obtain ⟨b,hb,g⟩:=Ql g
  cases r2
  have fin:=q _ _ _ _ (.flat (.bl b)) g
  cases r1 with
  | non=>exact .inl ⟨_,_,_,_,rfl,.non,Qsk t,by cases hb;exact fin⟩
  | bl c=>exact .inl ⟨_,_,_,_,rfl,.bl c,Qsm t,by cases hb;exact fin⟩
  | int c=>exact .inl ⟨_,_,_,_,rfl,.int c,Qsl t,by cases hb;exact fin⟩
  | str c=>exact .inl ⟨_,_,_,_,rfl,.str c,Qsj t,by cases hb;exact fin⟩
  | tup e _=>exact .inl ⟨_,_,_,_,rfl,.tup e,Qsi t,by cases hb;exact fin⟩
  | lst e _=>exact .inl ⟨_,_,_,_,rfl,.lst e,Qm8 t,by cases hb;exact fin⟩
  | dik e _=>exact .inl ⟨_,_,_,_,rfl,.dK e,Qi5 t,by cases hb;exact fin⟩
  | dit e _=>exact .inl ⟨_,_,_,_,rfl,.dT e,Qi5 t,by cases hb;exact fin⟩
  | kls _ _=>cases hb
  | ty _=>cases hb
  | fdk e _=>exact .inr ⟨_,_,_,_,_,rfl,e,Qi5 t,by cases hb;exact fin⟩
  | ftp _ _ _=>cases hb
  | fls e _=>exact .inl ⟨_,_,_,_,rfl,.frz e,Qm8 t,by cases hb;exact fin⟩
  | fdt _ _=>cases hb
  | obj _ _ _=>cases hb
  | clo _ _=>cases hb
  | kc _=>cases hb
  | dmx _ _ _ _=>cases hb
  | fmx _ _ _ _=>cases hb
  | lsa _ _=>cases hb
  | ist _ _ _ _=>cases hb
theorem SR0.write {W:Addr->Prop} {d':D} (s:SR0 K T z R H W σ ρ fp)
  (hl:look ρ i=some d) (ht:T.own i=true) (hv:σ[i]? = some (some v)) (hm:l∈fp i) (hk:∀b u,H b=some u->b≠l->H' b=some u) (hnew:∃ob,H' l=some ob/\imm ob=false) (r:Rep K H' d' v F') (nd:F'.Nodup)
  (sub:∀a∈F',a∈fp i\/(¬W a/\¬R a)):SR K T z R H' (λa=>W a\/a∈F') σ (ρ.set i (some d')):=by
 have hW:W l:=(s.own i d hl ht).2 l hm
 have hi:ImmK H H':=λb ob' e im=>by
  obtain ⟨ol,e1,e2⟩:=s.wd l hW
  have:b≠l:=λz=>by rw [z,e1] at e;cases e;rw [e2] at im;cases im
  exact hk b _ e this
 refine ⟨λj=>if j=i then F' else fp j,?_,?_,?_,?_,?_,?_,?_,?_,s.fix⟩
 ·rw [List.length_set];exact s.len
 ·intro a ha
  by_cases e:a=l
  ·subst e;exact hnew
  ·rcases ha with ha | ha
   ·exact (s.wd a ha).imp λob q=>⟨hk a ob q.1 e,q.2⟩
   ·exact r.dom a ha
 ·intro j e hj
  by_cases hji:j=i
  ·subst hji
   rw [Z1 (Ge hl)] at hj
   cases hj
   exact ⟨v,hv,by rw [if_pos rfl];exact r⟩
  ·rw [Qq hji] at hj
   obtain ⟨u,h1,h2⟩:=s.at_ j e hj
   refine ⟨u,h1,?_⟩
   rw [if_neg hji]
   refine h2.frame hi λa ha=>?_
   obtain ⟨oa,e1,_⟩:=h2.dom a ha
   rw [e1]
   refine hk a _ e1 λz=>?_
   subst z
   cases hto:T.own j with
   | true=>exact s.dis i j d e hl hj ht hto (λz=>hji z.symm) _ hm ha
   | false=>exact s.wr _ hW (s.ro j e hj hto _ ha)
 ·intro j e hj hto
  by_cases hji:j=i
  ·subst hji;simp only [if_pos];exact ⟨nd,λa h=>.inr h⟩
  ·rw [Qq hji] at hj
   simp only [if_neg hji]
   exact ⟨(s.own j e hj hto).1,λa h=>.inl ((s.own j e hj hto).2 a h)⟩
 ·intro j e hj hto
  have hji:j≠i:=λz=>by subst z;rw [ht] at hto;cases hto
  rw [Qq hji] at hj
  simp only [if_neg hji]
  exact s.ro j e hj hto
 ·intro a ha hr
  rcases ha with ha | ha
  ·exact s.wr a ha hr
  ·rcases sub a ha with h | h
   ·exact s.wr a ((s.own i d hl ht).2 a h) hr
   ·exact h.2 hr
 ·intro a hr
  have:a≠l:=λz=>by subst z;exact s.wr _ hW hr
  exact (s.rd a hr).imp λob q=>⟨hk a ob q.1 this,q.2⟩
 ·intro j k e e' hj hk tj tk hne a ha ha'
  by_cases hji:j=i
  ·subst hji
   have hkj:k≠j:=λz=>hne z.symm
   rw [Qq hkj] at hk
   simp only [if_pos,if_neg hkj] at ha ha'
   rcases sub a ha with h | h
   ·exact s.dis j k d e' hl hk ht tk hne a h ha'
   ·exact h.1 ((s.own k e' hk tk).2 a ha')
  ·rw [Qq hji] at hj
   simp only [if_neg hji] at ha
   by_cases hki:k=i
   ·subst hki
    simp only [if_pos] at ha'
    rcases sub a ha' with h | h
    ·exact s.dis j k e d hj hl tj ht hne a ha h
    ·exact h.1 ((s.own j e hj tj).2 a ha)
   ·rw [Qq hki] at hk
    simp only [if_neg hki] at ha'
    exact s.dis j k e e' hj hk tj tk hne a ha ha'
theorem FrW.write {H0:Hp} {W0 W:Addr->Prop} (f:FrW H0 W0 H W) (hl:W l) (hm:∃ol,H l=some ol/\PV.imm ol=false) (hk:∀b u,H b=some u->b≠l->H' b=some u) (hnew:∃ob,H' l=some ob/\PV.imm ob=false)
  (sub:∀a∈F',W a\/H0 a=none):FrW H0 W0 H' (λa=>W a\/a∈F') where
 keep:=λb ob' e n=>by
  have:b≠l:=λz=>by
   subst z
   rcases f.new _ hl with h | h
   ·exact n h
   ·rw [h] at e;cases e
  exact hk b _ (f.keep b ob' e n) this
 dom:=λb e=>by
  by_cases h:b=l
  ·subst h
   obtain ⟨ob,e1,_⟩:=hnew
   rw [e1] at e;cases e
  ·refine f.dom b ?_
   cases q:H b with
   | none=>rfl
   | some u=>rw [hk b u q h] at e;cases e
 imm:=λb ob' e im=>by
  have e':=f.imm b ob' e im
  obtain ⟨ol,e1,e2⟩:=hm
  have:b≠l:=λz=>by rw [z,e1] at e';cases e';rw [e2] at im;cases im
  exact hk b _ e' this
 new:=λb h=>by
  rcases h with h | h
  ·exact f.new b h
  ·rcases sub b h with h | h
   ·exact f.new b h
   ·exact .inr h
theorem Zy:∀b u,H b=some u->b≠l->upd H l ob b=some u:=λb u e n=>by rw [Qg n];exact e
abbrev GM:=D->List D->(D->D->Prop)->Prop
def MtD (X:Cx) (id:String) (g:GM):Prop :=
 ∃r,MtR X id r/\∀(H:Hp) (d:D) (ds:List D) (v:V) (xs:List V) (F G:List Addr) (k:D->D->Prop) (Q:VK),Rep X.K H d v F->F.Nodup->Reps X.K H ds xs G->G.Nodup->(∀a∈G,a∉F)->g d ds k ->
  (∀u l ob e d' F',l∈F->imm ob=false->Rep X.K (upd H l ob) d' v F'->F'.Nodup->(∀a∈F',a∈F\/a∈G)->Rep X.K (upd H l ob) e u []->k e d'->Q u (upd H l ob))->r v xs H Q
def tyD:Option D->String->Bool
 | some (.lst _),t=>t == "list"
 | some (.dik _),t=>t == "dict"
 | some (.dit _),t=>t == "dict"
 | some (.dmx _),t=>t == "dict"
 | _,_=>false
theorem Qqg {F:List Addr} (r:Rep K H d v F) (h:tyD (some d) t=true):tyV K t v H:=by
 cases r <;> try (simp [tyD] at h)
 ·subst h;exact .inl ⟨rfl,_,.of ‹_›⟩
 ·subst h;exact .inr (.inr (.inl ⟨rfl,.inl ⟨_,‹_›⟩⟩))
 ·subst h;exact .inr (.inr (.inl ⟨rfl,.inr ⟨_,‹_›⟩⟩))
 ·rename_i e hk hm r
  subst h
  refine .inr (.inr (.inr (.inr ⟨Mx.phi _ _,e,λh p=>?_⟩)))
  obtain ⟨_,_,_,_,_,o,_,_,e,x,_⟩:=p
  exact ⟨o,e,x.1,x.2.1⟩
def wMt (i:Nat) (t:String) (g:GM) (wr:WA):WE:=λρ Q=>tyD (look ρ i) t=true/\wr ρ λds ρ1=>oget (look ρ1 i) λd=>g d ds λe d'=>Q e (ρ1.set i (some d'))
theorem Qr9 {g:GM} (ht:T.own i=true)
  (gr:∀(H:Hp) (d:D) (ds:List D) (v:V) (xs:List V) (F G:List Addr) (k:D->D->Prop) (Q:VK),Rep X.K H d v F->F.Nodup->Reps X.K H ds xs G->G.Nodup->(∀a∈G,a∉F)->g d ds k ->
   (∀u l ob e d' F',l∈F->imm ob=false->Rep X.K (upd H l ob) d' v F'->F'.Nodup->(∀a∈F',a∈F\/a∈G)->Rep X.K (upd H l ob) e u []->k e d'->Q u (upd H l ob))->r v xs H Q) (ga:∀(z:Nat->V) (R:Addr->Prop) (σ:St) (H:Hp) (W:Addr->Prop) (ρ:Env) (Q:List D->Env->Prop) (Q':List V->Hp->Prop),SR X.K T z R H W σ ρ->wr ρ Q ->
   (∀vs H' W' ds ρ' F,PostA X.K T z R m true H W σ ρ H' W' ρ' ds vs F->Q ds ρ'->Q' vs H')->ta σ H Q') {W:Addr->Prop} (s:SR X.K T z R H W σ ρ) (hw:wMt i t g wr ρ Q)
  (k:∀v H' W' d ρ' F,Post X.K T z R true true H W σ ρ H' W' ρ' d v F->Q d ρ'->Q' v H'):tVar i σ H λx H1=>tyV X.K t x H1/\ta σ H1 λxs H2=>r x xs H2 Q':=by
 obtain ⟨hty,hw⟩:=hw
 obtain ⟨fp0,s0⟩:=id s
 cases hl:look ρ i with
 | none=>rw [hl] at hty;cases hty
 | some d0 =>
  obtain ⟨v,hv,r0⟩:=s0.at_ i d0 hl
  refine ⟨v,hv,Qqg r0 (by rw [hl] at hty;exact hty),?_⟩
  refine ga z R σ H W ρ _ _ s hw λvs H1 W1 ds ρ1 G p q=>?_
  obtain ⟨d,hd,q⟩:=Ql q
  obtain ⟨fp,s1⟩:=id p.sr
  obtain ⟨v',hv',r1⟩:=s1.at_ i d hd
  have:v'=v:=by rw [hv] at hv';cases hv';rfl
  subst this
  obtain ⟨nd1,sw⟩:=s1.own i d hd ht
  obtain ⟨ndG,kG⟩:=p.own rfl
  refine gr H1 d ds v' vs (fp i) G _ Q' r1 nd1 p.rep ndG (λa ha hf=>(kG a ha).2 (sw a hf)) q λu l ob e d' F' hlF him rd' ndF sub re hk=>?_
  have hWl:=sw l hlF
  refine k u _ (λa=>W1 a\/a∈F') e _ [] ⟨s1.write hd ht hv' hlF Zy ⟨ob,Qi,him⟩ rd' ndF (λa ha=>?_),p.fr.write hWl (s1.wd l hWl) Zy ⟨ob,Qi,him⟩ (λa ha=>?_),(λh=>nomatch h),re,λ_=>⟨List.nodup_nil,λa m=>nomatch m⟩⟩ hk
  ·rcases sub a ha with h | h
   ·exact .inl h
   ·exact .inr ⟨(kG a h).2,s.nr (kG a h).1⟩
  ·rcases sub a ha with h | h
   ·exact .inl (sw a h)
   ·exact .inr (kG a h).1
section
variable {id:String}
theorem Qs7 {g:GM} (hm:MtD X id g) (pa:PlainAttrs T') (slot:Slot T' name id) (hty:typeOf (.builtin id)=pure (.type "method_descriptor")) (ha:AV X T m true (e::es) wr)
  (ht:T.own i=true:=by rfl) (hN:X.N[i]? = some x:=by rfl) (hv:Vis X.env.scope x:=by first | exact Or.inl rfl | exact Or.inr (Or.inl rfl) | exact Or.inr (Or.inr rfl)) (hd:(x == ("__debug__" : Str))=false:=by decide)
  (hcd:(x == ("__classdict__" : Str))=false:=by decide)
  (hbase:attributeBase (.Name x p) name X.env (eval (.Name x p) X.env)=eval (.Name x p) X.env:=by rfl)
  (hfew:((backTo cpos (starEach (e::es) X.env)).all (λx=>!x.1) && (backToKw cpos (keywordEach [] X.env)).all (λx=>x.1.isSome)
   && decide ((e::es).length+([]:List Keyword).length+(if ([]:List Keyword).isEmpty then 0 else 1)<30))=true:=by rfl)
  (hline:(apos.endLine == cpos.line)=true:=by rfl) (hs:starEach (e::es) X.env=(false,eval e X.env)::starEach es X.env:=by rfl) (hplain:(backTo cpos (starEach es X.env)).any (·.1)=false:=by rfl) :
  EV X T true true (.Call (.Attribute (.Name x p) name apos) (e::es) [] cpos) (wMt i T' g wr):=by
 obtain ⟨r,mr,gr⟩:=hm
 obtain ⟨ta,pa',ga⟩:=ha
 exact ⟨_,Qo0 pa slot hty mr (Y4 hN hv hd hcd) pa' hbase hfew hline hs hplain,λz R σ H W ρ Q Q' s hw k=>Qr9 ht gr ga s hw k⟩
def Qb8:GM
 | .lst xs,[d],k=>xs.length<sizeLine/\k .non (.lst (xs++[d]))
 | _,_,_=>False
theorem X4 {α:Type} {F G:List α} (h:F.Nodup) (h':G.Nodup) (d:∀a∈G,a∉F):(F++G).Nodup :=
 List.nodup_append.mpr ⟨h,h',λa ha b hb e=>d b hb (e ▸ ha)⟩
theorem Vl (h:H l=some ob) (hi:imm ob=false):ImmK H (upd H l ob'):=λb u e im=>by
 have:b≠l:=λz=>by rw [z,h] at e;cases e;rw [hi] at im;cases im
 rw [Qg this];exact e
theorem Reps.upd {ds:List D} {F:List Addr} (r:Reps K H ds xs F) (h:H l=some ob) (hi:imm ob=false) (hn:l∉F):Reps K (L2.upd H l ob') ds xs F :=
 r.frame (Vl h hi) λa ha=>Qg λz=>hn (z ▸ ha)
theorem Rep.upd {x:V} {F:List Addr} (r:Rep K H d x F) (h:H l=some ob) (hi:imm ob=false) (hn:l∉F):Rep K (L2.upd H l ob') d x F :=
 r.frame (Vl h hi) λa ha=>Qg λz=>hn (z ▸ ha)
theorem RepK.upd {xs:List (Key × V)} {F:List Addr} (r:RepK K H ds xs F) (h:H l=some ob) (hi:imm ob=false) (hn:l∉F):RepK K (L2.upd H l ob') ds xs F :=
 r.frame (Vl h hi) λa ha=>Qg λz=>hn (z ▸ ha)
theorem RepT.upd {ds:List (List Key × D)} {xs:List (List Key × V)} {F:List Addr} (r:RepT K H ds xs F) (h:H l=some ob) (hi:imm ob=false) (hn:l∉F):RepT K (L2.upd H l ob') ds xs F :=
 r.frame (Vl h hi) λa ha=>Qg λz=>hn (z ▸ ha)
theorem Qde:MtD X "list.append" Qb8:=by
 refine ⟨_,Qdd,λH d ds v xs F G k Q r nd rs ndG dis g q=>?_⟩
 cases d with
 | lst es =>
  cases ds with
  | nil=>exact (show False from g).elim
  | cons d ds =>
   cases ds with
   | cons _ _=>exact (show False from g).elim
   | nil =>
    obtain ⟨u,rfl,rd⟩:=rs.at1
    cases r with
    | @lst l ys _ F e r9 =>
     obtain ⟨hz,g⟩:=g
     obtain ⟨nl,nd⟩:=List.nodup_cons.mp nd
     have hG:l∉G:=λh=>dis l h List.mem_cons_self
     refine ⟨l,ys,u,rfl,rfl,e,by rw [r9.length];exact hz,?_⟩
     refine q .non l _ .non _ (l::(F++G)) List.mem_cons_self rfl (.lst Qi ((r9.upd e rfl nl).snoc (rd.upd e rfl hG))) (List.nodup_cons.mpr ⟨λh=>(List.mem_append.mp h).elim nl hG,X4 nd ndG λa ha hf=>dis a ha (List.mem_cons_of_mem _ hf)⟩) (λa ha=>?_) .non g
     rcases List.mem_cons.mp ha with rfl | ha
     ·exact .inl List.mem_cons_self
     ·rcases List.mem_append.mp ha with ha | ha
      ·exact .inl (List.mem_cons_of_mem _ ha)
      ·exact .inr ha
 | _=>exact (show False from g).elim
theorem sub3 {α:Type} {F A B C:List α} (h:F=A++B++C):(A++C).Sublist F:=by
 rw [h,List.append_assoc]
 exact List.Sublist.append (List.Sublist.refl _) (List.sublist_append_right _ _)
end
def spR (K:PySem.W.Frag) (g:GA):Sp:=λvs H Q _=>∃(ds:List D) (F:List Addr) (k:D->Prop),Reps K H ds vs F/\g ds k/\∀v H' d F',Fin K H H' d v F'->k d->Q v H'
abbrev GI:=List D->(D->D->Prop)->Prop
def spI (K:PySem.W.Frag) (p:Nat) (g:GI):Sp:=λvs H Q _=>∃(ds:List D) (a:Addr) (k:D->D->Prop),Reps K H ds vs [a]/\vs[p]? = some (.ref a)/\g ds k /\
 ∀v H' d d' F',Rep K H' d' (.ref a) [a]->Rep K H' d v F'->F'.Nodup->(∀b∈F',H b=none)->(∀b o,H b=some o->b≠a->H' b=some o)->k d d'->Q v H'
def Va:D->Bool
 | .lst xs=>Qn xs
 | .dik kvs=>kvs.all λkv=>kv.2.pure
 | .dit kvs=>kvs.all λkv=>kv.2.pure
 | .dmx _=>true
 | _=>false
theorem RepK.pure {K:PySem.W.Frag} {H:Hp}:∀{ds:List (Key × D)} {xs:List (Key × V)} {F:List Addr},RepK K H ds xs F->(ds.all λkv=>kv.2.pure)=true->F=[]
 | [],_,_,r,_=>by cases r;rfl
 | d::ds,_,_,r,h=>by
  rw [List.all_cons,Bool.and_eq_true] at h
  cases r with
  | cons p r=>rw [(p.pure h.1).1,RepK.pure r h.2];rfl
theorem RepT.pure {K:PySem.W.Frag} {H:Hp}:∀{ds:List (List Key × D)} {xs:List (List Key × V)} {F:List Addr},RepT K H ds xs F->(ds.all λkv=>kv.2.pure)=true->F=[]
 | [],_,_,r,_=>by cases r;rfl
 | d::ds,_,_,r,h=>by
  rw [List.all_cons,Bool.and_eq_true] at h
  cases r with
  | cons p r=>rw [(p.pure h.1).1,RepT.pure r h.2];rfl
theorem Rep.flat1 {F:List Addr} (r:Rep K H d v F) (h:Va d=true):∃a,v=.ref a/\F=[a]:=by
 cases r with
 | lst e r=>exact ⟨_,rfl,by rw [(r.pure (by simpa [Va] using h)).1]⟩
 | dik e r=>exact ⟨_,rfl,by rw [r.pure (by simpa [Va] using h)]⟩
 | dit e r=>exact ⟨_,rfl,by rw [r.pure (by simpa [Va] using h)]⟩
 | dmx e _ _ _=>exact ⟨_,rfl,rfl⟩
 | _=>simp [Va] at h
section
variable {k:Nat}
theorem Qp0 (F:FnOk X.prog X.w X.K X.mg X.base CX0 k f fd ps (spR X.K g)) (hr:Room k X.A) (hm:X.mg x=some (.ref f)) (hk:PySem.W.keepIn X.K (.ref f)=true) (hb:Zi X.K fd ps []) (ha:AV X T m o (e::es) wr) (hg:Gl X x:=by rfl)
  (hdb:(x == ("__debug__" : Str))=false:=by decide) (he:starEach (e::es) X.env=(false,eval e X.env)::starEach es X.env:=by rfl) (hpl:(backTo pos (starEach es X.env)).any (·.1)=false:=by rfl) :
  EV X T m true (.Call (.Name x p) (e::es) [] pos) (Q0 g wr):=by
 obtain ⟨ta,pa,ga⟩:=ha
 refine ⟨_,Qem F hr hg hm hk hb .nil Qiq pa hdb he hpl,λz R σ H W ρ Q Q' s hw k=>?_⟩
 refine ga z R σ H W ρ _ _ s hw λvs H1 W1 ds ρ1 F p q=>?_
 refine ⟨ds,F,_,by rw [List.append_nil];exact p.rep,q,λv H' d F' fi hk=>k v H' W1 d ρ1 F' (Post.fin p.sr p.fr p.calm fi.same fi.rep fi.nd fi.new) hk⟩
abbrev WI:=Env->(List D->List D->Env->Prop)->Prop
def AI (X:Cx) (T:Tg) (m:Bool) (i p:Nat) (es:List Expr) (w:WI):Prop :=
 ∃ta,PA X es ta/\∀(z:Nat->V) (R:Addr->Prop) (σ:St) (H:Hp) (W:Addr->Prop) (ρ:Env) (Q:List D->List D->Env->Prop) (Q':List V->Hp->Prop),SR X.K T z R H W σ ρ->w ρ Q ->
  (∀v xs ys H' W' pre post ρ',PostT X.K T z R m H W σ ρ H' W' ρ'->σ[i]? = some (some v)->Reps X.K H' pre xs []->Reps X.K H' post ys []->pre.length=p->Q pre post ρ'->Q' (xs++v::ys) H')->ta σ H Q'
def Ul (i:Nat) (wr:WA):WI:=λρ Q=>(look ρ i).isSome=true/\wr ρ λds ρ'=>Qn ds=true/\Q [] ds ρ'
theorem Zh (hr:AV X T m o es wr) (hN:X.N[i]? = some x:=by rfl) (hv:Vis X.env.scope x:=by first | exact Or.inl rfl | exact Or.inr (Or.inl rfl) | exact Or.inr (Or.inr rfl)) (hd:(x == ("__debug__" : Str))=false:=by decide)
  (hcd:(x == ("__classdict__" : Str))=false:=by decide) (hs:starEach (.Name x p::es) X.env=(false,eval (.Name x p) X.env)::starEach es X.env:=by rfl):AI X T m i 0 (.Name x p::es) (Ul i wr):=by
 obtain ⟨ta,pa,ga⟩:=hr
 refine ⟨_,Zp (Y4 hN hv hd hcd) pa hs,λz R σ H W ρ Q Q' s hw k=>?_⟩
 obtain ⟨h1,hw⟩:=hw
 obtain ⟨d,hl⟩:=Option.isSome_iff_exists.mp h1
 obtain ⟨fp,s0⟩:=id s
 obtain ⟨v,hv',_⟩:=s0.at_ i d hl
 refine ⟨v,hv',ga z R σ H W ρ _ _ s hw λvs H1 W1 ds ρ1 F p q=>?_⟩
 exact k v [] vs H1 W1 [] ds ρ1 ⟨p.sr,p.fr,p.calm⟩ hv' .nil (p.rep.pure q.1).2 rfl q.2
def Y6 (i:Nat) (g:GI) (wi:WI):WE:=λρ Q=>wi ρ λpre post ρ1=>oget (look ρ1 i) λd0=>Va d0=true/\g (pre++d0::post) λd d'=>Q d (ρ1.set i (some d'))
theorem Ql1 {g:GI} {wi:WI} (F:FnOk X.prog X.w X.K X.mg X.base CX0 k f fd ps (spI X.K q g)) (hr:Room k X.A) (hm:X.mg x=some (.ref f)) (hk:PySem.W.keepIn X.K (.ref f)=true) (hb:Zi X.K fd ps []) (ha:AI X T m i q (e::es) wi)
  (ht:T.own i=true:=by rfl) (hg:Gl X x:=by rfl)
  (hdb:(x == ("__debug__" : Str))=false:=by decide) (he:starEach (e::es) X.env=(false,eval e X.env)::starEach es X.env:=by rfl) (hpl:(backTo pos (starEach es X.env)).any (·.1)=false:=by rfl) :
  EV X T true true (.Call (.Name x p) (e::es) [] pos) (Y6 i g wi):=by
 obtain ⟨ta,pa,ga⟩:=ha
 refine ⟨_,Qem F hr hg hm hk hb .nil Qiq pa hdb he hpl,λz R σ H W ρ Q Q' s hw k=>?_⟩
 refine ga z R σ H W ρ _ _ s hw λv xs ys H1 W1 pre post ρ1 p hv rp rq hl q=>?_
 obtain ⟨d0,hd,hf,q⟩:=Ql q
 obtain ⟨fp,s1⟩:=id p.sr
 obtain ⟨v',hv',r0⟩:=s1.at_ i d0 hd
 have:v'=v:=by rw [hv] at hv';cases hv';rfl
 subst this
 obtain ⟨a,rfl,hF⟩:=r0.flat1 hf
 rw [hF] at r0
 have sw:=(s1.own i d0 hd ht).2
 have hWa:W1 a:=sw a (by rw [hF];exact List.mem_singleton.mpr rfl)
 refine ⟨pre++d0::post,a,_,?_,?_,q,λv H' d d' F' rd' rd nd new kp hk=>?_⟩
 ·rw [List.append_nil]
  have:=rp.append (.cons r0 rq)
  simpa using this
 ·rw [List.append_nil]
  have hx:=rp.length
  rw [List.getElem?_append_right (by omega),show _-xs.length=0 by omega]
  rfl
 ·obtain ⟨oa,ea,ia⟩:=s1.wd a hWa
  have hnew:∃ob,H' a=some ob/\imm ob=false:=rd'.dom a (List.mem_singleton.mpr rfl)
  have nd1:([a]:List Addr).Nodup:=by simp
  have sN:=s1.write (H':=H') (d':=d') (F':=[a]) hd ht hv' (by rw [hF];exact List.mem_singleton.mpr rfl) (λb u e n=>kp b u e n) hnew rd' nd1 (λb hb=>.inl (by rw [hF];exact hb))
  have fN:=p.fr.write (H':=H') (F':=[a]) hWa ⟨oa,ea,ia⟩ (λb u e n=>kp b u e n) hnew (λb hb=>.inl (by rw [List.mem_singleton.mp hb];exact hWa))
  refine k v H' _ d _ F' ⟨sN,fN,(λh=>nomatch h),rd,λ_=>⟨nd,λb hb=>⟨p.fr.dom b (new b hb),λhw=>?_⟩⟩⟩ hk
  rcases hw with hw | hw
  ·exact p.sr.nw (new b hb) hw
  ·rw [List.mem_singleton.mp hw] at hb
   rw [new a hb] at ea;cases ea
abbrev WL:=Env->(List D->Env->Prop)->Prop
def JD (K:PySem.W.Frag) (J:It) (H:Hp) (W:Addr->Prop) (ds:List D):Prop :=
 ∀(i:Nat) (H1:Hp) (W1:Addr->Prop),FrW H W H1 W1->(ds.length<=i->J.stop i H1)/\∀d,ds[i]? = some d->J.go i H1/\∀v H2,J.yld i H1 v H2->Same H1 H2/\∃F,Rep K H2 d v F/\∀a∈F,¬W1 a
def wz (pr:Bool) (W:Addr->Prop):Addr->Prop:=λa=>pr=true/\W a
def IV (X:Cx) (T:Tg) (m pr:Bool) (tg iter:Expr) (w:WL):Prop :=
 ∃wi,PI X tg iter wi/\∀(z:Nat->V) (R:Addr->Prop) (σ:St) (H:Hp) (W:Addr->Prop) (ρ:Env) (Q:List D->Env->Prop) (RR:It->Hp->Prop),SR X.K T z R H W σ ρ->w ρ Q ->
  (∀J H' W' ds ρ',PostT X.K T z R m H W σ ρ H' W' ρ'->JD X.K J H' (wz pr W') ds->Q ds ρ'->RR J H')->wi σ H RR
end
section
variable {p2:Pos} {k:Nat}
theorem Qc3 {l:Expr} {tl:TE} (hl:PE X l tl):PI X tg l (λσ H R=>tl σ H λx H1=>∃a,x=.ref a/\(((∃xs,SqL X.K H1 a xs)/\R (Itl X.K a) H1)\/((∃xs,SqT X.K H1 a xs)/\R (Itt X.K a) H1))):=by
 intro pins s σ H R I h
 refine thn (hl pins s σ H _ I h) λv s1 ⟨x,H1,I1,r1,q1⟩=>?_
 obtain ⟨a,e,q⟩:=q1
 subst e
 cases r1
 rcases q with ⟨⟨xs,hq⟩,q⟩ | ⟨⟨xs,hq⟩,q⟩
 ·obtain ⟨its,rv,p,hz⟩:=I1.list hq
  refine wpAny_pyIter_list p.isList ?_
  refine ⟨s1.heap.objs.size,[s1.heap.objs.size],_,_,H1,rfl,I1.kept (t':=s1.toks) λb o e=>Heap.get?_push_of_some _ e,Qht a _,⟨_,Heap.get?_push_size _ rfl,rfl,rfl⟩,λb hb=>?_,q⟩
  have e:b=s1.heap.objs.size:=by simpa using hb
  subst e
  exact I1.fpOk (Nat.le_refl _) (I1.hok.fresh (Nat.le_refl _))
 ·obtain ⟨its,rv,p,hz⟩:=I1.tuple hq
  refine wpAny_pyIter_tuple (show s1.heap.IsTuple a its.toArray from p) ?_
  refine ⟨s1.heap.objs.size,[s1.heap.objs.size],_,_,H1,rfl,I1.kept (t':=s1.toks) λb o e=>Heap.get?_push_of_some _ e,Qgi a _,⟨_,Heap.get?_push_size _ rfl,rfl,rfl⟩,λb hb=>?_,q⟩
  have e:b=s1.heap.objs.size:=by simpa using hb
  subst e
  exact I1.fpOk (Nat.le_refl _) (I1.hok.fresh (Nat.le_refl _))
def Qcj (w:WE):WL:=λρ Q=>w ρ λd ρ'=>match d with
 | .tup ds=>Qn ds=true/\Q ds ρ'
 | .lst ds=>Q ds ρ'
 | .kc (.tup ks)=>Q (ks.map kcD) ρ'
 | _=>False
theorem Qsr {W:Addr->Prop} {a:Addr} (hs:∀H,SqT K H a xs) (ar:AreKC K ks xs):JD K (Itt K a) H W (ks.map kcD):=by
 intro i H2 W2 f
 have r:Reps K H2 (ks.map kcD) xs []:=ar.reps
 refine ⟨λhi=>⟨xs,hs H2,by rw [r.length];exact hi⟩,λd hd=>?_⟩
 obtain ⟨x,B,hx,rx,sx⟩:=r.get hd
 refine ⟨⟨xs,x,hs H2,hx⟩,λv H3 y=>?_⟩
 obtain ⟨rfl,y⟩:=y
 have:=y xs (hs _)
 rw [hx] at this
 cases this
 exact ⟨Same.refl _,B,rx,λa ha=>nomatch sx.subset ha⟩
theorem Qje (h:EV X T m o e w):IV X T m o tg e (Qcj w):=by
 obtain ⟨te,pe,ge⟩:=h
 refine ⟨_,Qc3 pe,λz R σ H W ρ Q RR s hw k=>?_⟩
 refine ge z R σ H W ρ _ _ s hw λv H1 W1 d ρ1 F p q=>?_
 cases d with
 | tup ds =>
  obtain ⟨hp,q⟩:=q
  obtain ⟨hF,rp⟩:=p.rep.pure (by simpa [D.pure] using hp)
  cases rp with
  | @tup a xs _ _ e1 r =>
   refine ⟨a,rfl,.inr ⟨⟨xs,.of e1⟩,k _ H1 W1 ds ρ1 ⟨p.sr,p.fr,p.calm⟩ (λi H2 W2 f=>?_) q⟩⟩
   have e2:H2 a=some (.tup xs):=f.imm _ _ e1 rfl
   refine ⟨λhi=>⟨xs,.of e2,by rw [r.length];exact hi⟩,λd hd=>?_⟩
   obtain ⟨x,B,hx,rx,sx⟩:=r.get hd
   refine ⟨⟨xs,x,.of e2,hx⟩,λv H3 y=>?_⟩
   obtain ⟨rfl,y⟩:=y
   have:=y xs (.of e2)
   rw [hx] at this
   cases this
   exact ⟨Same.refl _,B,rx.keep f (λa ha=>(nomatch sx.subset ha)),(λa ha=>(nomatch sx.subset ha))⟩
 | lst ds =>
  obtain ⟨p1,p2,p3,p4,p5⟩:=p
  cases p4 with
  | @lst a xs _ F e1 r =>
   refine ⟨a,rfl,.inl ⟨⟨xs,.of e1⟩,k _ H1 W1 ds ρ1 ⟨p1,p2,p3⟩ (λi H2 W2 f=>?_) q⟩⟩
   have nW:∀b∈a::F,¬wz o W1 b:=λb hb hw=>by
    obtain ⟨h1,h2⟩:=hw
    exact ((p5 h1).2 b hb).2 h2
   have e2:H2 a=some (.lst xs):=f.keep _ _ e1 (nW a List.mem_cons_self)
   refine ⟨λhi=>⟨xs,.of e2,by rw [r.length];exact hi⟩,λd hd=>?_⟩
   obtain ⟨x,B,hx,rx,sx⟩:=r.get hd
   refine ⟨⟨xs,x,.of e2,hx⟩,λv H3 y=>?_⟩
   obtain ⟨rfl,y⟩:=y
   have:=y xs (.of e2)
   rw [hx] at this
   cases this
   refine ⟨Same.refl _,B,rx.keep f λb hb=>nW b (List.mem_cons_of_mem _ (sx.subset hb)),λb hb hw=>?_⟩
   have hb':b∈a::F:=List.mem_cons_of_mem _ (sx.subset hb)
   rcases f.new b hw with h | h
   ·exact nW b hb' h
   ·obtain ⟨ob,e3,_⟩:=rx.dom b hb
    rw [h] at e3;cases e3
 | kc c =>
  cases c with
  | tup ks =>
   obtain ⟨-,rp⟩:=p.rep.pure (by rw [D.pure])
   cases rp with
   | kc h =>
    obtain ⟨a,xs,rfl,hs,ar⟩:=h.sqT
    exact ⟨a,rfl,.inr ⟨⟨xs,hs H1⟩,k _ H1 W1 (ks.map kcD) ρ1 ⟨p.sr,p.fr,p.calm⟩ (Qsr hs ar) q⟩⟩
  | _=>exact (show False from q).elim
 | _=>exact q.elim
def Qnp (w:WE):WL:=λρ Q=>w ρ λd ρ'=>match d with
 | .kls ds=>Q ds ρ'
 | _=>False
theorem Qsw (h:EV X T m o e w):IV X T m true tg e (Qnp w):=by
 obtain ⟨te,pe,ge⟩:=h
 refine ⟨_,Qc3 pe,λz R σ H W ρ Q RR s hw k=>?_⟩
 refine ge z R σ H W ρ _ _ s hw λv H1 W1 d ρ1 F p q=>?_
 cases d with
 | kls ds =>
  obtain ⟨p1,p2,p3,p4,p5⟩:=p
  cases p4 with
  | @kls a xs _ e1 r =>
   refine ⟨a,rfl,.inl ⟨⟨xs,e1.sq⟩,k _ H1 W1 ds ρ1 ⟨p1,p2,p3⟩ (λi H2 W2 f=>?_) q⟩⟩
   have e2:=f.imm.fzL e1
   refine ⟨λhi=>⟨xs,e2.sq,by rw [r.length];exact hi⟩,λd hd=>?_⟩
   obtain ⟨x,B,hx,rx,sx⟩:=r.get hd
   refine ⟨⟨xs,x,e2.sq,hx⟩,λv H3 y=>?_⟩
   obtain ⟨rfl,y⟩:=y
   have:=y xs e2.sq
   rw [hx] at this
   cases this
   exact ⟨Same.refl _,B,rx.keep f (λa ha=>(nomatch sx.subset ha)),(λa ha=>(nomatch sx.subset ha))⟩
 | _=>exact q.elim
def rngD (lo:Int) (n:Nat):List D:=(List.range n).map λ(i:Nat)=>.int (lo+(i:Int))
theorem Qlq {W:Addr->Prop} {lo:Int}:JD K (Itr lo n) H W (rngD lo n):=by
 intro i H1 W1 f
 have hl:(rngD lo n).length=n:=by simp [rngD]
 refine ⟨λh=>by rw [hl] at h;exact h,λd hd=>?_⟩
 have hi:i<n:=by have:=(List.getElem?_eq_some_iff.mp hd).1;rwa [hl] at this
 have hd':d=.int (lo+(i:Int)):=by
  simp only [rngD,List.getElem?_map,List.getElem?_range hi,Option.map_some,Option.some.injEq] at hd
  exact hd.symm
 refine ⟨hi,λv H2 y=>?_⟩
 obtain ⟨rfl,rfl⟩:=y
 exact ⟨Same.refl _,[],by rw [hd'];exact .int _,λa m=>nomatch m⟩
def Qhn (wr:WA):WL:=λρ Q=>wr ρ λds ρ'=>match ds with
 | [.int j]=>-(2 ^ 62)<=j/\j<2 ^ 62/\Q (rngD 0 j.toNat) ρ'
 | _=>False
theorem Qdi (hm:X.mg "range" = none) (ha:AV X T m o [a] wr) (hg:Gl X "range":=by rfl) (hs:starEach [a] X.env=[(false,eval a X.env)]:=by rfl):IV X T m true tg (.Call (.Name "range" p) [a] [] pos) (Qhn wr):=by
 obtain ⟨ta,pa,ga⟩:=ha
 refine ⟨_,Qil hg hm pa hs,λz R σ H W ρ Q RR s hw k=>?_⟩
 refine ga z R σ H W ρ _ _ s hw λvs H1 W1 ds ρ1 F p q=>?_
 obtain ⟨j,rfl⟩:∃j,ds=[D.int j]:=by
  clear p
  cases ds with
  | nil=>exact (show False from q).elim
  | cons d0 r0 =>
   cases r0 with
   | nil =>
    cases d0 with
    | int j=>exact ⟨j,rfl⟩
    | _=>exact (show False from q).elim
   | cons _ _=>cases d0 <;> exact (show False from q).elim
 obtain ⟨v,rfl,rd⟩:=p.rep.at1
 cases rd
 exact ⟨j,rfl,q.1,q.2.1,k _ H1 W1 _ ρ1 ⟨p.sr,p.fr,p.calm⟩ Qlq q.2.2⟩
end
structure EndsP where
 nx:Env->Prop
 rt:D->Env->Prop
 bk:Env->Prop:=λ_=>False
 ct:Env->Prop:=λ_=>False
 xc:D->Env->Prop:=λ_ _=>False
abbrev WS:=EndsP->Env->Prop
structure Lk (K:PySem.W.Frag) (T:Tg) (z:Nat->V) (H:Hp) (W:Addr->Prop) (P:EndsP) (E:Ends):Prop where
 nx:∀R σ' H' W' ρ',SR K T z R H' W' σ' ρ'->FrW H W H' W'->P.nx ρ'->E.nx σ' H'
 bk:∀R σ' H' W' ρ',SR K T z R H' W' σ' ρ'->FrW H W H' W'->P.bk ρ'->E.bk σ' H'
 ct:∀R σ' H' W' ρ',SR K T z R H' W' σ' ρ'->FrW H W H' W'->P.ct ρ'->E.ct σ' H'
 rt:∀R v σ' H' W' ρ' d F,SR K T z R H' W' σ' ρ'->FrW H W H' W'->Rep K H' d v F->F.Nodup->(∀a∈F,¬W' a/\(W a\/H a=none))->P.rt d ρ'->E.rt v H'
 xc:∀R σ' H' W' ρ' d,SR K T z R H' W' σ' ρ'->FrW H W H' W'->P.xc d ρ'->T.xe d σ' H'
theorem Lk.step {W:Addr->Prop} {P:EndsP} {E:Ends} (l:Lk K T z H W P E) (f:FrW H W H1 W1):Lk K T z H1 W1 P E where
 nx:=λR σ' H' W' ρ' s g q=>l.nx R σ' H' W' ρ' s (f.trans g) q
 bk:=λR σ' H' W' ρ' s g q=>l.bk R σ' H' W' ρ' s (f.trans g) q
 ct:=λR σ' H' W' ρ' s g q=>l.ct R σ' H' W' ρ' s (f.trans g) q
 rt:=λR v σ' H' W' ρ' d F s g r nd k q=>l.rt R v σ' H' W' ρ' d F s (f.trans g) r nd (λa ha=>⟨(k a ha).1,by
  rcases (k a ha).2 with h | h
  ·exact f.new a h
  ·exact .inr (f.dom a h)⟩) q
 xc:=λR σ' H' W' ρ' d s g q=>l.xc R σ' H' W' ρ' d s (f.trans g) q
def SV (X:Cx) (T:Tg) (st:Stmt) (w:WS):Prop :=
 ∃ts,PS X st ts/\∀(z:Nat->V) (R:Addr->Prop) (σ:St) (H:Hp) (W:Addr->Prop) (ρ:Env) (P:EndsP) (E:Ends),SR X.K T z R H W σ ρ->w P ρ->Lk X.K T z H W P E->ts E σ H
def SVs (X:Cx) (T:Tg) (st:List Stmt) (w:WS):Prop :=
 ∃ts,PSs X st ts/\∀(z:Nat->V) (R:Addr->Prop) (σ:St) (H:Hp) (W:Addr->Prop) (ρ:Env) (P:EndsP) (E:Ends),SR X.K T z R H W σ ρ->w P ρ->Lk X.K T z H W P E->ts E σ H
section
variable {m1:Bool} {p2:Pos} {rest:List Stmt} {ws wu:WS} {wt:WT}
def Qz:WS:=λP ρ=>P.nx ρ
def wSeq (w u:WS):WS:=λP ρ=>w { P with nx:=u P } ρ
theorem Q1:SVs X T [] Qz:=⟨_,Qoq,λz R σ H W ρ P E s hw l=>l.nx R σ H W ρ s (FrW.refl H W) hw⟩
theorem Qj (h:SV X T st ws):SVs X T [st] ws:=by
 obtain ⟨t,pt,g⟩:=h
 exact ⟨_,U9 pt,g⟩
theorem Qe (h:SV X T st ws) (hr:SVs X T rest wu):SVs X T (st::rest) (wSeq ws wu):=by
 obtain ⟨t,pt,g⟩:=h
 obtain ⟨u,pu,gu⟩:=hr
 refine ⟨_,Xa pt pu,λz R σ H W ρ P E s hw l=>g z R σ H W ρ _ _ s hw ⟨λR' σ' H' W' ρ' s' f q=>gu z R' σ' H' W' ρ' P E s' q (l.step f),l.bk,l.ct,l.rt,l.xc⟩⟩
def Qho (w:WE):WS:=λP ρ=>w ρ λ_ ρ'=>P.nx ρ'
theorem Qhw (he:EV X T m o e w) (hs:swapsWith e none pos.line X.env=pure false:=by rfl):SV X T (.Expr e pos) (Qho w):=by
 obtain ⟨te,pe,ge⟩:=he
 exact ⟨_,Qek pe hs,λz R σ H W ρ P E s hw l=>ge z R σ H W ρ _ _ s hw λv H1 W1 d ρ1 F p q=>l.nx R σ H1 W1 ρ1 p.sr p.fr q⟩
def wRet (w:WE):WS:=λP ρ=>w ρ λd ρ'=>P.rt d ρ'
theorem Q5 (he:EV X T m true e w):SV X T (.Return (some e) pos) (wRet w):=by
 obtain ⟨te,pe,ge⟩:=he
 exact ⟨_,Qih pe,λz R σ H W ρ P E s hw l=>ge z R σ H W ρ _ _ s hw λv H1 W1 d ρ1 F p q=>l.rt R v σ H1 W1 ρ1 d F p.sr p.fr p.rep (p.own rfl).1 (λa ha=>⟨((p.own rfl).2 a ha).2,.inr ((p.own rfl).2 a ha).1⟩) q⟩
def Qnr (i:Nat):WS:=λP ρ=>oget (look ρ i) λd=>P.rt d (ρ.set i none)
theorem Qn2 (ht:T.own i=true:=by rfl) (hN:X.N[i]? = some x:=by rfl) (hv:Vis X.env.scope x:=by first | exact Or.inl rfl | exact Or.inr (Or.inl rfl) | exact Or.inr (Or.inr rfl)) (hd:(x == ("__debug__" : Str))=false:=by decide)
  (hcd:(x == ("__classdict__" : Str))=false:=by decide):SV X T (.Return (some (.Name x p)) pos) (Qnr i):=by
 refine ⟨_,Qih (Y4 hN hv hd hcd),λz R σ H W ρ P E s hw l=>?_⟩
 obtain ⟨d,hl,q⟩:=Ql hw
 obtain ⟨fp,s0⟩:=s
 obtain ⟨v,h1,h2⟩:=s0.at_ i d hl
 have key:∀j e,look (ρ.set i none) j=some e->j≠i/\look ρ j=some e:=λj e h=>by
  rw [Vr] at h
  split at h
  ·cases h
  ·refine ⟨λz=>?_,h⟩
   subst z
   rename_i hn
   exact hn ⟨rfl,Ge hl⟩
 refine ⟨v,h1,l.rt R v σ H (λa=>W a/\a∉fp i) (ρ.set i none) d (fp i) ⟨fp,?_⟩ ?_ h2 (s0.own i d hl ht).1 (λa ha=>⟨λh=>h.2 ha,.inl ((s0.own i d hl ht).2 a ha)⟩) q⟩
 ·refine ⟨by rw [List.length_set];exact s0.len,λa h=>s0.wd a h.1,λj e h=>s0.at_ j e (key j e h).2,λj e h t=>⟨(s0.own j e (key j e h).2 t).1,λa ha=>⟨(s0.own j e (key j e h).2 t).2 a ha,λha'=>s0.dis j i e d (key j e h).2 hl t ht (key j e h).1 a ha ha'⟩⟩,
   λj e h t=>s0.ro j e (key j e h).2 t,λa h=>s0.wr a h.1,s0.rd,λj k e e' h h' t t'=>s0.dis j k e e' (key j e h).2 (key k e' h').2 t t',s0.fix⟩
 ·exact ⟨λb ob e _=>e,λb e=>e,λb ob e _=>e,λb h=>.inl h.1⟩
theorem SR0.bindE {W:Addr->Prop} {F:List Addr} (s:SR0 K T z R H W σ ρ fp) (hio:i∉T.io) (r:Rep K H d v F) (nd:F.Nodup) (nw:∀a∈F,¬W a/\¬R a) :
  SR K T z (λa=>R a\/(T.own i=false/\a∈F)) H (λa=>W a\/(T.own i=true/\a∈F)) (σ.set i (some v)) (ρ.set i (some d)):=by
 refine ⟨λj=>if j=i then F else fp j,?_,?_,?_,?_,?_,?_,?_,?_,?_⟩
 ·rw [List.length_set,List.length_set];exact s.len
 ·intro a ha
  rcases ha with ha | ⟨_,ha⟩
  ·exact s.wd a ha
  ·exact r.dom a ha
 ·intro j e hj
  rw [Vr] at hj
  split at hj
  ·rename_i h
   obtain ⟨rfl,hlt⟩:=h
   cases hj
   exact ⟨v,by rw [List.getElem?_set_self (by rw [← s.len];exact hlt)],by rw [if_pos rfl];exact r⟩
  ·rename_i h
   obtain ⟨u,h1,h2⟩:=s.at_ j e hj
   have hji:j≠i:=λz=>h ⟨z,by rw [← z];exact Ge hj⟩
   exact ⟨u,by rw [List.getElem?_set_ne (Ne.symm hji)];exact h1,by rw [if_neg hji];exact h2⟩
 ·intro j e hj hto
  by_cases hji:j=i
  ·subst hji;simp only [if_pos];exact ⟨nd,λa h=>.inr ⟨hto,h⟩⟩
  ·rw [Qq hji] at hj
   simp only [if_neg hji]
   exact ⟨(s.own j e hj hto).1,λa h=>.inl ((s.own j e hj hto).2 a h)⟩
 ·intro j e hj hto
  by_cases hji:j=i
  ·subst hji;simp only [if_pos];exact λa h=>.inr ⟨hto,h⟩
  ·rw [Qq hji] at hj
   simp only [if_neg hji]
   exact λa h=>.inl (s.ro j e hj hto a h)
 ·intro a ha hr
  rcases ha with ha | ⟨t,ha⟩
  ·rcases hr with hr | ⟨_,hr⟩
   ·exact s.wr a ha hr
   ·exact (nw a hr).1 ha
  ·rcases hr with hr | ⟨t',hr⟩
   ·exact (nw a ha).2 hr
   ·rw [t] at t';cases t'
 ·intro a hr
  rcases hr with hr | ⟨_,hr⟩
  ·exact s.rd a hr
  ·exact r.dom a hr
 ·intro j k e e' hj hk tj tk hne a ha ha'
  by_cases hji:j=i
  ·subst hji
   have hkj:k≠j:=λz=>hne z.symm
   rw [Qq hkj] at hk
   simp only [if_pos,if_neg hkj] at ha ha'
   exact (nw a ha).1 ((s.own k e' hk tk).2 a ha')
  ·rw [Qq hji] at hj
   simp only [if_neg hji] at ha
   by_cases hki:k=i
   ·subst hki
    simp only [if_pos] at ha'
    exact (nw a ha').1 ((s.own j e hj tj).2 a ha)
   ·rw [Qq hki] at hk
    simp only [if_neg hki] at ha'
    exact s.dis j k e e' hj hk tj tk hne a ha ha'
 ·intro j hj
  have hji:j≠i:=λz=>hio (z ▸ hj)
  rw [List.getElem?_set_ne (Ne.symm hji)]
  exact s.fix j hj
theorem SR0.bind {W:Addr->Prop} {F:List Addr} (s:SR0 K T z R H W σ ρ fp) (hio:i∉T.io) (r:Rep K H d v F) (nd:F.Nodup) (nw:∀a∈F,¬W a/\¬R a) :
  ∃R',SR K T z R' H (λa=>W a\/(T.own i=true/\a∈F)) (σ.set i (some v)) (ρ.set i (some d)):=⟨_,s.bindE hio r nd nw⟩
def wSet (i:Nat) (w:WE):WS:=λP ρ=>w ρ λd ρ'=>P.nx (ρ'.set i (some d))
theorem U2 {W:Addr->Prop} {G:Addr->Prop} (f:FrW H W H' W') (n:∀a,G a->H a=none):FrW H W H' (λa=>W' a\/G a) :=
 ⟨f.keep,f.dom,f.imm,λb h=>h.elim (f.new b) λh=>.inr (n b h)⟩
theorem Q4 (he:EV X T m true e w) (hN:X.N.Nodup) (hi:X.N[i]? = some x:=by rfl) (hio:i∉T.io:=by decide) (hx:Loc X.env.scope x:=by first | exact Or.inl rfl | exact Or.inr rfl) (hs:swapsWith e (some (.Name x pos')) pos.line X.env=pure false:=by rfl)
  (hf:X.fn x=true\/X.env.scope.names.lookup x=some .local:=by first | exact .inl rfl | exact .inr rfl | assumption):SV X T (.Assign [.Name x pos'] e pos) (wSet i w):=by
 obtain ⟨te,pe,ge⟩:=he
 refine ⟨_,Qmt hN hi hx pe hs hf,λz R σ H W ρ P E s hw l=>ge z R σ H W ρ _ _ s hw λv H1 W1 d ρ1 F p q=>?_⟩
 obtain ⟨fp,s1⟩:=p.sr
 obtain ⟨nd,nw⟩:=p.own rfl
 obtain ⟨R',s2⟩:=s1.bind (i:=i) hio p.rep nd (λa ha=>⟨(nw a ha).2,s.nr (nw a ha).1⟩)
 exact l.nx R' _ H1 _ _ s2 (U2 p.fr λa h=>(nw a h.2).1) q
theorem Qn1 (he:∃te,PS X (.Assign [.Name x pos'] e pos) (tAsg te (Qg8 i))/\∀(z:Nat->V) (R:Addr->Prop) (σ:St) (H:Hp) (W:Addr->Prop) (ρ:Env) (Q:D->Env->Prop) (Q':VK),SR X.K T z R H W σ ρ->w ρ Q ->
  (∀v H' W' d ρ' F,Post X.K T z R m true H W σ ρ H' W' ρ' d v F->Q d ρ'->Q' v H')->te σ H Q') (hio:i∉T.io:=by decide):SV X T (.Assign [.Name x pos'] e pos) (wSet i w):=by
 obtain ⟨te,pe,ge⟩:=he
 refine ⟨_,pe,λz R σ H W ρ P E s hw l=>ge z R σ H W ρ _ _ s hw λv H1 W1 d ρ1 F p q=>?_⟩
 obtain ⟨fp,s1⟩:=p.sr
 obtain ⟨nd,nw⟩:=p.own rfl
 obtain ⟨R',s2⟩:=s1.bind (i:=i) hio p.rep nd (λa ha=>⟨(nw a ha).2,s.nr (nw a ha).1⟩)
 exact l.nx R' _ H1 _ _ s2 (U2 p.fr λa h=>(nw a h.2).1) q
abbrev WG:=D->Env->(Env->Prop)->Prop
def GV (X:Cx) (T:Tg) (tg:Expr) (wg:WG):Prop :=
 ∃t,PG X tg t/\∀(z:Nat->V) (R:Addr->Prop) (σ:St) (H:Hp) (W:Addr->Prop) (ρ:Env) (d:D) (v:V) (Q:Env->Prop) (Q':St->Hp->Prop),SR X.K T z R H W σ ρ->Rep X.K H d v []->d.pure=true->wg d ρ Q ->
  (∀R' W' σ' ρ',SR X.K T z R' H W' σ' ρ'->FrW H W H W'->Q ρ'->Q' σ' H)->t v σ H Q'
def gN (i:Nat):WG:=λd ρ Q=>Q (ρ.set i (some d))
theorem Gg (hN:X.N.Nodup) (hi:X.N[i]? = some x:=by rfl) (hio:i∉T.io:=by decide) (hx:Loc X.env.scope x:=by first | exact Or.inl rfl | exact Or.inr rfl) (hf:X.fn x=true\/X.env.scope.names.lookup x=some .local:=by first | exact .inl rfl | exact .inr rfl | assumption):GV X T (.Name x pos) (gN i):=by
 refine ⟨_,Qim hN hi hx hf,λz R σ H W ρ d v Q Q' s r hp hw k=>?_⟩
 obtain ⟨fp,s1⟩:=s
 obtain ⟨R',s2⟩:=s1.bind (i:=i) hio r List.nodup_nil (λa ha=>nomatch ha)
 exact k R' _ _ _ s2 (U2 (FrW.refl H W) λa h=>nomatch h.2) hw
def dSet (s c d:D) (k:D->Prop):Prop:=match s with
 | .lst xs=>onI c λj=>oget (ixN xs.length j) λn=>k (.lst (xs.set n d))
 | .dik kvs=>onK c λkey=>kvs.length<sizeLine/\k (.dik (putD kvs key d))
 | .dit kvs=>onT c λl=>kvs.length<sizeLine/\oget (V3 l) λks=>k (.dit (putD kvs ks d))
 | _=>False
theorem Qkw (hu:X.A.units+1<cLine):PSet X (λo i v H Q=>∃a H',o=.ref a/\DPut H a i v H'/\Q H'):=by
 intro pins s σ H o i v ov iv u Q I ro ri rv h
 obtain ⟨a,H',rfl,g,q⟩:=h
 cases ro
 exact Qj5 hu I g ri rv λs' I'=>⟨H',I',q⟩
theorem PSet.or {t u:TSet} (h:PSet X t) (h':PSet X u):PSet X (λo i v H Q=>t o i v H Q\/u o i v H Q):=by
 intro pins s σ H o i v ov iv u Q I ro ri rv q
 rcases q with q | q
 ·exact h pins s σ H o i v ov iv u Q I ro ri rv q
 ·exact h' pins s σ H o i v ov iv u Q I ro ri rv q
def Qe5 (i:Nat) (wv wi:WE):WS:=λP ρ=>wv ρ λd ρ1=>d.pure=true/\(look ρ1 i).isSome=true/\wi ρ1 λc ρ2=>oget (look ρ2 i) λs=>dSet s c d λs'=>P.nx (ρ2.set i (some s'))
theorem Qfb {v ix:Expr} {wv wi:WE} {ps':Pos} (hu:X.A.units+1<cLine) (hv:EV X T m1 o1 v wv) (hi:EV X T m2 o2 ix wi) (ht:T.own i=true:=by rfl) (hN:X.N[i]? = some x:=by rfl)
  (hvis:Vis X.env.scope x:=by first | exact Or.inl rfl | exact Or.inr (Or.inl rfl) | exact Or.inr (Or.inr rfl)) (hd:(x == ("__debug__" : Str))=false:=by decide) (hcd:(x == ("__classdict__" : Str))=false:=by decide)
  (ha:∀v,assign (.Subscript (.Name x px) ix ps') X.env v=(do
   let ov ← holding [v] (eval (.Name x px) X.env)
   let iv ← holding [v,ov] (eval ix X.env)
   standAt ps'
   holding [v,ov,iv] (setItem ov iv v)
   release [v,ov,iv] []):=by intro _;rfl) (hs:swapsWithSole [.Subscript (.Name x px) ix ps'] v pos.line X.env=pure false:=by rfl) (hw:swappedStores [.Subscript (.Name x px) ix ps'] v X.env=pure none:=by rfl)
  (h1:(assignEach [.Subscript (.Name x px) ix ps'] X.env).map (·.2)=[assign (.Subscript (.Name x px) ix ps') X.env]:=by rfl):SV X T (.Assign [.Subscript (.Name x px) ix ps'] v pos) (Qe5 i wv wi):=by
 obtain ⟨tv,pv,gv⟩:=hv
 obtain ⟨ti,pi,gi⟩:=hi
 refine ⟨_,Qrb pv (Qrh (Y4 hN hvis hd hcd) pi (PSet.or Qkv (Qkw hu)) ha) hs hw h1,λz R σ H W ρ P E s hw l=>?_⟩
 refine gv z R σ H W ρ _ _ s hw λv1 H1 W1 d ρ1 F1 p ⟨hp,hso,q⟩=>?_
 obtain ⟨-,rv⟩:=p.rep.pure hp
 obtain ⟨d0,hl0⟩:=Option.isSome_iff_exists.mp hso
 obtain ⟨fp0,s0⟩:=id p.sr
 obtain ⟨u,hu',_⟩:=s0.at_ i d0 hl0
 refine ⟨u,hu',gi z R σ H1 W1 ρ1 _ _ p.sr q λv2 H2 W2 c ρ2 F2 p2 q2=>?_⟩
 obtain ⟨d1,hl,q2⟩:=Ql q2
 obtain ⟨fp,s2⟩:=id p2.sr
 obtain ⟨u',hu2,ru⟩:=s2.at_ i d1 hl
 have:u'=u:=by rw [hu'] at hu2;cases hu2;rfl
 subst this
 have rv2:Rep X.K H2 d v1 []:=rv.keep p2.fr λa m=>nomatch m
 obtain ⟨nd,sw⟩:=s2.own i d1 hl ht
 have fin:∀(lad:Addr) (ob:HO) (d':D) (F':List Addr),lad∈fp i->imm ob=false->Rep X.K (upd H2 lad ob) d' u' F'->F'.Nodup->(∀a∈F',a∈fp i)->P.nx (ρ2.set i (some d'))->E.nx σ (upd H2 lad ob):=λlad ob d' F' hm him r' nd' sub hq=>by
  have hW:=sw lad hm
  exact l.nx R σ _ _ _ (s2.write hl ht hu2 hm Zy ⟨ob,Qi,him⟩ r' nd' λa ha=>.inl (sub a ha)) ((p.fr.trans p2.fr).write hW (s2.wd lad hW) Zy ⟨ob,Qi,him⟩ λa ha=>.inl (sw a (sub a ha))) hq
 have nilnot:∀a:Addr,a∉([]:List Addr):=λa h=>nomatch h
 generalize hF:fp i=F at *
 cases d1 with
 | lst ds =>
  obtain ⟨j,rfl,q2⟩:=Xw q2
  obtain ⟨a,xs,G,rfl,rfl,e,r⟩:=ru.iLst
  obtain ⟨n,hn,hq⟩:=Ql q2
  have rc:=p2.rep.iInt
  subst rc
  have hlt:=(Qer hn).2.1
  obtain ⟨dn,hdn⟩:∃dn,ds[n]? = some dn:=⟨ds[n],List.getElem?_eq_getElem hlt⟩
  obtain ⟨y,A,B,C,hy,hG,rB,rA,rC⟩:=r.split hdn
  obtain ⟨na,ndG⟩:=List.nodup_cons.mp nd
  have sub:=sub3 hG
  have nAC:a∉A++C:=λh=>na (sub.subset h)
  have hxl:n<xs.length:=by rw [r.length];exact hlt
  refine .inl ⟨a,xs,j,n,rfl,rfl,e,by rw [r.length];exact hn,?_⟩
  refine fin a _ _ (a::(A++C)) List.mem_cons_self rfl (.lst Qi ?_) (List.nodup_cons.mpr ⟨nAC,ndG.sublist sub⟩) (λb hb=>?_) hq
  ·rw [Us hlt,Us hxl]
   have:=(rA.upd (ob':=.lst (xs.take n++v1::xs.drop (n+1))) e rfl (λh=>nAC (List.mem_append.mpr (.inl h)))).append (.cons (rv2.upd e rfl (nilnot a)) (rC.upd e rfl λh=>nAC (List.mem_append.mpr (.inr h))))
   simpa using this
  ·rcases List.mem_cons.mp hb with rfl | hb
   ·exact List.mem_cons_self
   ·exact List.mem_cons_of_mem _ (sub.subset hb)
 | dik ds =>
  obtain ⟨key,⟨hz,hq⟩,hy⟩:=Qen (show onK c (λkey=>ds.length<sizeLine/\P.nx (ρ2.set i (some (.dik (putD ds key d))))) from q2)
  obtain ⟨a,kvs,G,rfl,rfl,e,r⟩:=ru.iDik
  obtain rfl:=hy p2.rep
  obtain ⟨na,ndG⟩:=List.nodup_cons.mp nd
  obtain ⟨G',rp,sub⟩:=(r.upd (ob':=.dK (putK kvs key v1)) e rfl na).put (k:=key) (rv2.upd e rfl (nilnot a))
  refine .inr ⟨a,_,rfl,DPut.k (k:=key) e (by rw [r.length];exact hz),?_⟩
  refine fin a _ _ (a::G') List.mem_cons_self rfl (.dik Qi rp) (List.nodup_cons.mpr ⟨λh=>na (sub.subset h),ndG.sublist sub⟩) (λb hb=>?_) hq
  rcases List.mem_cons.mp hb with rfl | hb
  ·exact List.mem_cons_self
  ·exact List.mem_cons_of_mem _ (sub.subset hb)
 | dit ds =>
  obtain ⟨l',rfl,hz,q2⟩:=Qit q2
  obtain ⟨a,kvs,G,rfl,rfl,e,r⟩:=ru.iDit
  obtain ⟨na,ndG⟩:=List.nodup_cons.mp nd
  obtain ⟨ks,hk,hq⟩:=Ql q2
  obtain ⟨b,ys,rfl,e2,r2⟩:=p2.rep.iTup
  have hx:=r2.keys hk
  subst hx
  obtain ⟨G',rp,sub⟩:=(r.upd (ob':=.dT (putK kvs ks v1)) e rfl na).put (k:=ks) (rv2.upd e rfl (nilnot a))
  refine .inr ⟨a,_,rfl,DPut.t (k:=ks) e e2 (by rw [r.length];exact hz),?_⟩
  refine fin a _ _ (a::G') List.mem_cons_self rfl (.dit Qi rp) (List.nodup_cons.mpr ⟨λh=>na (sub.subset h),ndG.sublist sub⟩) (λb hb=>?_) hq
  rcases List.mem_cons.mp hb with rfl | hb
  ·exact List.mem_cons_self
  ·exact List.mem_cons_of_mem _ (sub.subset hb)
 | _=>exact (show False from q2).elim
def wIf (wt:WT) (w u:WS):WS:=λP ρ=>wt ρ λb ρ'=>if b=true then w P ρ' else u P ρ'
theorem Yf {sa sb:List Stmt} (hc:TV X T m c wt) (ha:SVs X T sa ws) (hb:SVs X T sb wu):SV X T (.If c sa sb pos) (wIf wt ws wu):=by
 obtain ⟨tc,pc,gc⟩:=hc
 obtain ⟨ta,pa,ga⟩:=ha
 obtain ⟨tb,pb,gb⟩:=hb
 refine ⟨_,Quq pc pa pb,λz R σ H W ρ P E s hw l=>gc z R σ H W ρ _ _ s hw λb H1 W1 ρ1 p q=>?_⟩
 cases b with
 | true=>exact ga z R σ H1 W1 ρ1 P E p.sr q (l.step p.fr)
 | false=>exact gb z R σ H1 W1 ρ1 P E p.sr q (l.step p.fr)
def Qhl (wt:WT) (wb:WS):WS:=λP ρ=>∃I:Nat->Env->Prop,(∃n,I n ρ)/\∀n ρ,I n ρ->wt ρ λb ρ1=>if b=true then wb { P with nx:=λρ'=>∃n',n' < n/\I n' ρ',ct:=λρ'=>∃n',n' < n/\I n' ρ',bk:=P.nx } ρ1 else P.nx ρ1
theorem Qfa (hp:PassesOwn (model X.prog X.w) X.A X.env X.xe) (hc:TV X T m c wt) (hb:SVs X T body ws):SV X T (.While c body [] pos) (Qhl wt ws):=by
 obtain ⟨tc,pc,gc⟩:=hc
 obtain ⟨tb,pb,gb⟩:=hb
 refine ⟨_,Qk3 hp pc pb,λz R σ H W ρ P E s hw l=>?_⟩
 obtain ⟨I,⟨n,h0⟩,hI⟩:=hw
 refine ⟨λn σ' H'=>∃R' W' ρ',SR X.K T z R' H' W' σ' ρ'/\FrW H W H' W'/\I n ρ',⟨n,R,W,ρ,s,FrW.refl H W,h0⟩,?_⟩
 rintro n σ1 H1 ⟨R1,W1,ρ1,s1,f1,i1⟩
 refine gc z R1 σ1 H1 W1 ρ1 _ _ s1 (hI n ρ1 i1) λb H2 W2 ρ2 p q=>?_
 cases b with
 | true =>
  refine ⟨λσ' H'=>∃n',n' < n/\∃R' W' ρ',SR X.K T z R' H' W' σ' ρ'/\FrW H W H' W'/\I n' ρ',λσ' H' ⟨n',h,r⟩=>⟨n',h,r⟩,?_⟩
  refine gb z R1 σ1 H2 W2 ρ2 _ _ p.sr q ⟨?_,?_,?_,?_,?_⟩
  ·exact λR' σ' H' W' ρ' s' f' ⟨n',h,i'⟩=>⟨n',h,R',W',ρ',s',(f1.trans p.fr).trans f',i'⟩
  ·exact λR' σ' H' W' ρ' s' f' h=>l.nx R' σ' H' W' ρ' s' ((f1.trans p.fr).trans f') h
  ·exact λR' σ' H' W' ρ' s' f' ⟨n',h,i'⟩=>⟨n',h,R',W',ρ',s',(f1.trans p.fr).trans f',i'⟩
  ·exact ((l.step f1).step p.fr).rt
  ·exact ((l.step f1).step p.fr).xc
 | false=>exact l.nx R1 σ1 H2 W2 ρ2 p.sr (f1.trans p.fr) q
def wFor (wl:WL) (wg:WG) (wb:WS):WS:=λP ρ=>wl ρ λds ρ1=>Qn ds=true/\∃I:Nat->Env->Prop,I 0 ρ1 /\
 (∀i d ρ,ds[i]? = some d->I i ρ->wg d ρ λρ'=>wb { P with nx:=I (i+1),ct:=I (i+1),bk:=P.nx } ρ')/\∀ρ,I ds.length ρ->P.nx ρ
theorem Qbi (W:Addr->Prop):wz true W=W:=by funext a;simp [wz]
theorem Qa1 {wl:WL} {wg:WG} (hp:PassesOwn (model X.prog X.w) X.A X.env X.xe) (hi:IV X T m true tg iter wl) (hg:GV X T tg wg) (hb:SVs X T body ws) (hc:X.calm=true:=by rfl)
  (hs:∀x,foldedSetIterable iter X.env x=pure x:=by intro _;rfl):SV X T (.For tg iter body [] pos) (wFor wl wg ws):=by
 obtain ⟨ti,pi,gi⟩:=hi
 obtain ⟨tt,pt,gt⟩:=hg
 obtain ⟨tb,pb,gb⟩:=hb
 refine ⟨_,Qra hp hc pi pt pb hs,λz R σ H W ρ P E s hw l=>gi z R σ H W ρ _ _ s hw λJ H1 W1 ds ρ1 p jd q=>?_⟩
 rw [Qbi] at jd
 obtain ⟨hpu,I,h0,hI,hd⟩:=q
 refine ⟨λi n σ' H'=>n=ds.length-i/\i<=ds.length/\∃R' W' ρ',SR X.K T z R' H' W' σ' ρ'/\FrW H1 W1 H' W'/\I i ρ',⟨ds.length,by simp,Nat.zero_le _,R,W1,ρ1,p.sr,FrW.refl _ _,h0⟩,?_⟩
 rintro i n σ2 H2 ⟨rfl,hi,R2,W2,ρ2,s2,f2,i2⟩
 obtain ⟨j1,j2⟩:=jd i H2 W2 f2
 by_cases hlt:i<ds.length
 ·have hdi:ds[i]? = some ds[i]:=List.getElem?_eq_getElem hlt
  obtain ⟨hgo,hy⟩:=j2 _ hdi
  have hpd:(ds[i]).pure=true:=Xt.mp hpu _ (List.getElem_mem hlt)
  refine .inr ⟨hgo,λσ' H'=>i+1<=ds.length/\∃R' W' ρ',SR X.K T z R' H' W' σ' ρ'/\FrW H1 W1 H' W'/\I (i+1) ρ',λσ' H' ⟨h1,h2⟩=>⟨ds.length-(i+1),by omega,rfl,h1,h2⟩,λv H3 yl=>?_⟩
  obtain ⟨sm,F,rv,_⟩:=hy v H3 yl
  obtain ⟨-,rv⟩:=rv.pure hpd
  have f3:FrW H1 W1 H3 W2:=f2.trans (FrW.same W2 sm)
  refine gt z R2 σ2 H3 W2 ρ2 _ v _ _ (s2.same sm) rv hpd (hI i _ ρ2 hdi i2) λR4 W4 σ4 ρ4 s4 f4 q4=>?_
  refine gb z R4 σ4 H3 W4 ρ4 _ _ s4 q4 ⟨?_,?_,?_,?_,?_⟩
  ·exact λR' σ' H' W' ρ' s' f' h=>⟨hlt,R',W',ρ',s',(f3.trans f4).trans f',h⟩
  ·exact λR' σ' H' W' ρ' s' f' h=>l.nx R' σ' H' W' ρ' s' (((p.fr.trans f3).trans f4).trans f') h
  ·exact λR' σ' H' W' ρ' s' f' h=>⟨hlt,R',W',ρ',s',(f3.trans f4).trans f',h⟩
  ·exact (((l.step p.fr).step f3).step f4).rt
  ·exact (((l.step p.fr).step f3).step f4).xc
 ·have e:i=ds.length:=by omega
  subst e
  exact .inl ⟨j1 (Nat.le_refl _),l.nx R2 σ2 H2 W2 ρ2 s2 (p.fr.trans f2) (hd ρ2 i2)⟩
end
end PV
variable {g:PV.GI} {wl:PV.WL} {we:PV.WE} {ww:PV.WS}
namespace PV
open PySem PySem.Spec L2
open PyProof.Rows (envOfC)
def TR:Tg:={ own:=λ_=>false,io:=[] }
def Any (H:Hp):Addr->Prop:=λa=>∃ob,H a=some ob/\imm ob=false
theorem SR.readonly (hio:T.io=[]) (hlen:ρ.length=σ.length) (h:∀i d,look ρ i=some d->T.own i=false/\∃v F,σ[i]? = some (some v)/\Rep K H d v F) :
  SR K T z (Any H) H (λ_=>False) σ ρ:=by
 have ch:∀i,∃F,∀d,look ρ i=some d->∃v,σ[i]? = some (some v)/\Rep K H d v F:=λi=>by
  cases hl:look ρ i with
  | none=>exact ⟨[],λd e=>nomatch e⟩
  | some d =>
   obtain ⟨_,v,F,h1,h2⟩:=h i d hl
   exact ⟨F,λd' e=>by cases e;exact ⟨v,h1,h2⟩⟩
 refine ⟨λi=>Classical.choose (ch i),hlen,λa h=>h.elim,λi d hl=>Classical.choose_spec (ch i) d hl,λi d hl ht=>?_,λi d hl ht a ha=>?_,λa h=>h.elim,λa h=>h,λi j d e hl hl' ht=>?_,λi hi=>?_⟩
 ·rw [(h i d hl).1] at ht;cases ht
 ·obtain ⟨v,_,r⟩:=Classical.choose_spec (ch i) d hl
  exact r.dom a ha
 ·rw [(h i d hl).1] at ht;cases ht
 ·rw [hio] at hi;cases hi
theorem Zv:∀{ds:List D} {n i:Nat},look (ds.map some++List.replicate n none) i=ds[i]?
 | [],0,i=>by simp [look]
 | [],n+1,0=>by simp [look,List.replicate_succ]
 | [],n+1,i+1=>by
  have:=Zv (ds:=[]) (n:=n) (i:=i)
  simpa [look,List.replicate_succ] using this
 | d::ds,n,0=>by simp [look]
 | d::ds,n,i+1=>by
  have:=Zv (ds:=ds) (n:=n) (i:=i)
  simpa [look] using this
theorem Vd (h:vs[i]? = some v):(L2.Zz N vs)[i]? = some (some v):=by
 have hi:=(List.getElem?_eq_some_iff.mp h).1
 unfold L2.Zz
 rw [List.getElem?_append_left (by simpa using hi),List.getElem?_map,h]
 rfl
section
variable {w:World} {k:Nat}
def env0 (N:List Str) (ds:List D):Env:=ds.map some++List.replicate (N.length-ds.length) none
theorem U3 {g:GA} (F:Fun K x qual st f fd) (S:FnScope N ps (Qa st)) (hio:T.io=[]) (hown:∀i,i<ps.length->T.own i=false) (hg:∀ds kk,g ds kk->ds.length=ps.length)
  (hb:∀(cdv:Value) (A:Around) (outer:List PySem.Env) (s:Shared) (H:Hp) (E:XK),Room k (A.deeper (envOfC qual (Qa st) s.heap.objs.size f cdv))->SVs (cxOf CX0 P w K mg base N qual (Qa st) f cdv A outer s H E).nox T (Qu st) ww)
  (hr:∀ds kk,g ds kk->ww { nx:=λ_=>kk .non,rt:=λd _=>kk d } (env0 N ds)):FnOk P w K mg base CX0 (k+1) f fd ps (spR K g):=by
 refine F.ok S (λvs H Q E h=>?_) (λcdv A outer s H vs Q E hroom h=>?_)
 ·obtain ⟨ds,Fp,kk,rep,hgk,_⟩:=h
  rw [rep.length];exact hg ds kk hgk
 ·obtain ⟨ds,Fp,kk,rep,hgk,q⟩:=h
  obtain ⟨ts,pts,gts⟩:=hb cdv A outer s H E hroom
  have hl:=rep.length
  have hds:=hg ds kk hgk
  refine ⟨ts,pts,gts (λ_=>.non) (Any H) (L2.Zz N vs) H (λ_=>False) (env0 N ds) _ _ (SR.readonly hio ?_ λi d hli=>?_) (hr ds kk hgk) ⟨?_,?_,?_,?_,λ_ _ _ _ _ _ _ _ hk=>hk.elim⟩⟩
  ·unfold env0 L2.Zz;simp [hl]
  ·unfold env0 at hli
   rw [Zv] at hli
   obtain ⟨v,B,h1,h2,_⟩:=rep.get hli
   exact ⟨hown i (by rw [← hds];exact (List.getElem?_eq_some_iff.mp hli).1),v,B,Vd h1,h2⟩
  ·intro R' σ' H' W' ρ' s' fr hk
   have sm:Same H H':=λb o e=>fr.keep b o e (λz=>z)
   exact q .non H' .non [] ⟨sm,.non,List.nodup_nil,λ_ m=>nomatch m⟩ hk
  ·exact λR' σ' H' W' ρ' s' fr hk=>hk.elim
  ·exact λR' σ' H' W' ρ' s' fr hk=>hk.elim
  ·intro R' v σ' H' W' ρ' d F' s' fr r nd nw hk
   have sm:Same H H':=λb o e=>fr.keep b o e (λz=>z)
   exact q v H' d F' ⟨sm,r,nd,λa ha=>(nw a ha).2.resolve_left id⟩ hk
theorem Qpt {p:Nat} (F:Fun K x qual st f fd) (S:FnScope N ps (Qa st)) (hio:T.io=[p]) (hown:T.own p=true) (hg:∀ds kk,g ds kk->ds.length=ps.length/\∃d0,ds[p]? = some d0/\Va d0=true)
  (hb:∀(cdv:Value) (A:Around) (outer:List PySem.Env) (s:Shared) (H:Hp) (E:XK),Room k (A.deeper (envOfC qual (Qa st) s.heap.objs.size f cdv))->SVs (cxOf CX0 P w K mg base N qual (Qa st) f cdv A outer s H E).nox T (Qu st) ww)
  (hr:∀ds kk,g ds kk->ww { nx:=λρ=>oget (look ρ p) λd'=>Va d'=true/\kk .non d',rt:=λd ρ=>oget (look ρ p) λd'=>Va d'=true/\kk d d' } (env0 N ds)):FnOk P w K mg base CX0 (k+1) f fd ps (spI K p g):=by
 refine F.ok S (λvs H Q E h=>?_) (λcdv A outer s H vs Q E hroom h=>?_)
 ·obtain ⟨ds,a,kk,rep,hp,hgk,_⟩:=h
  rw [rep.length];exact (hg ds kk hgk).1
 ·obtain ⟨ds,a,kk,rep,hp,hgk,q⟩:=h
  obtain ⟨ts,pts,gts⟩:=hb cdv A outer s H E hroom
  have hl:=rep.length
  obtain ⟨hds,d0,hd0,hf0⟩:=hg ds kk hgk
  obtain ⟨v0,A',B,C,h1,h2,r0,rA,rC⟩:=rep.split hd0
  rw [hp] at h1;cases h1
  obtain ⟨a',e1,e2⟩:=r0.flat1 hf0
  cases e1
  subst e2
  have hA:A'=[]:=by
   cases A' with
   | nil=>rfl
   | cons y A'=>simp at h2
  subst hA
  have hC:C=[]:=by
   cases C with
   | nil=>rfl
   | cons y C=>simp at h2
  subst hC
  have oth:∀i d,i≠p->ds[i]? = some d->∃v,vs[i]? = some v/\Rep K H d v []:=λi d hne hd=>by
   rcases Nat.lt_or_gt_of_ne hne with h | h
   ·obtain ⟨v,B,h1,h2,h3⟩:=rA.get (i:=i) (by rw [List.getElem?_take_of_lt h];exact hd)
    rw [List.getElem?_take_of_lt h] at h1
    have:=List.sublist_nil.mp h3
    subst this
    exact ⟨v,h1,h2⟩
   ·obtain ⟨v,B,h1,h2,h3⟩:=rC.get (i:=i-(p+1)) (by rw [List.getElem?_drop,show p+1+(i-(p+1))=i by omega];exact hd)
    rw [List.getElem?_drop,show p+1+(i-(p+1))=i by omega] at h1
    have:=List.sublist_nil.mp h3
    subst this
    exact ⟨v,h1,h2⟩
  obtain ⟨oa,ea,ia⟩:=r0.dom a (List.mem_singleton.mpr rfl)
  have fin:∀R' v σ' H' W' ρ' d F',SR K T (λ_=>.ref a) R' H' W' σ' ρ'->FrW H (λb=>b=a) H' W'->Rep K H' d v F'->F'.Nodup->(∀b∈F',¬W' b/\(b=a\/H b=none))->(oget (look ρ' p) λd'=>Va d'=true/\kk d d')->Q v H':=λR' v σ' H' W' ρ' d F' s' fr r nd nw hk=>by
   obtain ⟨d',hl',hf',hk⟩:=Ql hk
   obtain ⟨fp,s0⟩:=s'
   obtain ⟨u,hu,ru⟩:=s0.at_ p d' hl'
   have hfx:=s0.fix p (by rw [hio];exact List.mem_singleton.mpr rfl)
   rw [hu] at hfx
   cases hfx
   obtain ⟨a'',e1,e2⟩:=ru.flat1 hf'
   cases e1
   rw [e2] at ru
   have hWa:W' a:=(s0.own p d' hl' hown).2 a (by rw [e2];exact List.mem_singleton.mpr rfl)
   refine q v H' d d' F' ru r nd (λb hb=>?_) (λb o e hne=>fr.keep b o e hne) hk
   rcases (nw b hb).2 with h | h
   ·exact absurd hWa (by rw [← h];exact (nw b hb).1)
   ·exact h
  refine ⟨ts,pts,gts (λ_=>.ref a) (λb=>b≠a/\Any H b) (L2.Zz N vs) H (λb=>b=a) (env0 N ds) _ _ ⟨λi=>if i=p then [a] else [],?_,?_,?_,?_,?_,?_,?_,?_,?_⟩ (hr ds kk hgk) ⟨?_,?_,?_,?_,λ_ _ _ _ _ _ _ _ hk=>hk.elim⟩⟩
  ·unfold env0 L2.Zz;simp [hl]
  ·rintro b rfl;exact ⟨oa,ea,ia⟩
  ·intro i d hli
   unfold env0 at hli
   rw [Zv] at hli
   by_cases hip:i=p
   ·subst hip
    rw [hd0] at hli;cases hli
    exact ⟨.ref a,Vd hp,by rw [if_pos rfl];exact r0⟩
   ·obtain ⟨v,h1,h2⟩:=oth i d hip hli
    exact ⟨v,Vd h1,by rw [if_neg hip];exact h2⟩
  ·intro i d _ _
   by_cases hip:i=p
   ·rw [if_pos hip];exact ⟨by simp,λb hb=>List.mem_singleton.mp hb⟩
   ·rw [if_neg hip];exact ⟨by simp,λb hb=>nomatch hb⟩
  ·intro i d _ ht b hb
   have hip:i≠p:=λz=>by subst z;rw [hown] at ht;cases ht
   rw [if_neg hip] at hb;cases hb
  ·rintro b rfl ⟨h,_⟩;exact h rfl
  ·exact λb h=>h.2
  ·intro i j d e _ _ _ _ hne b hb hb'
   by_cases hip:i=p
   ·have hjp:j≠p:=λz=>hne (hip.trans z.symm)
    rw [if_neg hjp] at hb';cases hb'
   ·rw [if_neg hip] at hb;cases hb
  ·intro i hi
   rw [hio] at hi
   rw [List.mem_singleton.mp hi]
   exact Vd hp
  ·exact λR' σ' H' W' ρ' s' fr hk=>fin R' .non σ' H' W' ρ' .non [] s' fr .non List.nodup_nil (λb hb=>nomatch hb) hk
  ·exact λR' σ' H' W' ρ' s' fr hk=>hk.elim
  ·exact λR' σ' H' W' ρ' s' fr hk=>hk.elim
  ·exact λR' v σ' H' W' ρ' d F' s' fr r nd nw hk=>fin R' v σ' H' W' ρ' d F' s' fr r nd nw hk
end
section
variable {wt:WT}
def CV (X:Cx) (ifs:List Expr) (w:WT):Prop :=
 ∃tt,PIfs X ifs tt/\∀(z:Nat->V) (R:Addr->Prop) (σ:St) (H:Hp) (W:Addr->Prop) (ρ:Env) (Q:Bool->Env->Prop) (Q':Bool->Hp->Prop),SR X.K TR z R H W σ ρ->w ρ Q ->
  (∀b H' W' ρ',PostT X.K TR z R false H W σ ρ H' W' ρ'->Q b ρ'->Q' b H')->tt σ H Q'
def wAll:WT:=λρ Q=>Q true ρ
theorem Qng:CV X [] wAll:=⟨_,Qfo,λz R σ H W ρ Q Q' s hw k=>k true H W ρ ⟨s,FrW.refl H W,λ_=>⟨Same.refl H,rfl,rfl⟩⟩ hw⟩
theorem Qtd (h:TV X TR false c wt):CV X [c] wt:=by
 obtain ⟨tt,pt,g⟩:=h
 exact ⟨_,Qk5 pt,g⟩
def blkE (ρ:Env) (d:D) (ix:List Nat):Env:=some d::ix.map (look ρ)
theorem Xc {f:Nat->Option D}:∀{ix:List Nat} {j:Nat},look (ix.map f) j=ix[j]?.bind f
 | [],_=>by simp [look]
 | i::r,0=>by simp [look]
 | i::r,j+1=>by simpa [look] using Xc (f:=f) (ix:=r) (j:=j)
def Qhq (wl:WL) (wt:WT) (we:WE) (ix:List Nat):WE:=λρ Q=>wl ρ λds ρ1=>∃I:Nat->List D->Prop,I 0 [] /\
 (∀i d ys,ds[i]? = some d->I i ys->ys.length<sizeLine/\wt (blkE ρ1 d ix) λb _=>if b=true then we (blkE ρ1 d ix) (λy _=>I (i+1) (ys++[y])) else I (i+1) ys) /\
 ∀ys,I ds.length ys->ys.length<=sizeLine/\Q (.lst ys) ρ1
def Qbh (X:Cx) (T:Tg) (m:Bool) (elt iter:Expr) (x:Str) (px:Pos) (scope:Scope) (ifs:List Expr) (ix:List Nat) (w:WE):Prop :=
 ∃(wi:TI) (tt:TT) (te:TE),PI X (.Name x px) iter wi/\(∀cl C s₀ H₀ fp,PIfs (Zq X scope cl C (bN X.N x ix) s₀ H₀ fp) ifs tt)/\(∀cl C s₀ H₀ fp,PE (Zq X scope cl C (bN X.N x ix) s₀ H₀ fp) elt te) /\
  ∀(z:Nat->V) (R:Addr->Prop) (σ:St) (H:Hp) (W:Addr->Prop) (ρ:Env) (Q:D->Env->Prop) (Q':VK),SR X.K T z R H W σ ρ->w ρ Q ->
   (∀v H' W' d ρ' F,Post X.K T z R m true H W σ ρ H' W' ρ' d v F->Q d ρ'->Q' v H')->Qny wi tt te ix σ H Q'
theorem Qeu {pr:Bool} (ix:List Nat) (hi:IV X T m pr (.Name x px) iter wl)
  (ht:∀cl C s₀ H₀ fp,CV (Zq X scope cl C (bN X.N x ix) s₀ H₀ fp) ifs wt) (he:∀cl C s₀ H₀ fp,EV (Zq X scope cl C (bN X.N x ix) s₀ H₀ fp) TR false true elt we) :
  Qbh X T m elt iter x px scope ifs ix (Qhq wl wt we ix):=by
 obtain ⟨wi,pi,gi⟩:=hi
 refine ⟨wi,λσ H Q=>∀cl C s₀ H₀ fp,Classical.choose (ht cl C s₀ H₀ fp) σ H Q,λσ H Q=>∀cl C s₀ H₀ fp,Classical.choose (he cl C s₀ H₀ fp) σ H Q,pi,
  λcl C s₀ H₀ fp pins s σ H Q I h=>(Classical.choose_spec (ht cl C s₀ H₀ fp)).1 pins s σ H Q I (h cl C s₀ H₀ fp),λcl C s₀ H₀ fp pins s σ H Q I h=>(Classical.choose_spec (he cl C s₀ H₀ fp)).1 pins s σ H Q I (h cl C s₀ H₀ fp),?_⟩
 intro z R σ H W ρ Q Q' s hw k
 refine gi z R σ H W ρ _ _ s hw λJ H1 W1 ds ρ1 p jd q=>?_
 obtain ⟨I,h0,hI,hd⟩:=q
 refine ⟨λi n ys H2=>n=ds.length-i/\i<=ds.length/\Same H1 H2/\∃es F,Reps X.K H2 es ys F/\F.Nodup/\(∀a∈F,H1 a=none)/\I i es,ds.length,⟨by simp,Nat.zero_le _,Same.refl _,[],[],.nil,List.nodup_nil,(λa m=>(nomatch m)),h0⟩,?_⟩
 rintro i n ys H2 ⟨rfl,hi,sm,es,F,re,nd,nw,i2⟩
 obtain ⟨j1,j2⟩:=jd i H2 (wz pr W1) (FrW.same _ sm)
 by_cases hlt:i<ds.length
 ·have hdi:ds[i]? = some ds[i]:=List.getElem?_eq_getElem hlt
  obtain ⟨hgo,hy⟩:=j2 _ hdi
  obtain ⟨hz,q1⟩:=hI i _ es hdi i2
  refine .inr ⟨hgo,by rw [re.length];exact hz,λv H3 yl=>?_⟩
  obtain ⟨sm3,Fv,rv,_⟩:=hy v H3 yl
  have srB:∀z',SR X.K TR z' (Any H3) H3 (λ_=>False) (bS σ (some v) ix) (blkE ρ1 ds[i] ix):=λz'=>by
   refine SR.readonly rfl (by simp [bS,blkE]) λj d hj=>⟨rfl,?_⟩
   cases j with
   | zero =>
    simp only [blkE,look,Option.some.injEq] at hj
    subst hj
    exact ⟨v,Fv,rfl,rv⟩
   | succ j =>
    have hj':look (ix.map (look ρ1)) j=some d:=hj
    rw [Xc] at hj'
    cases hx:ix[j]? with
    | none=>rw [hx] at hj';cases hj'
    | some q =>
     rw [hx] at hj'
     obtain ⟨fp,s1⟩:=(p.sr.same sm).same sm3
     obtain ⟨u,hu,ru⟩:=s1.at_ q d hj'
     refine ⟨u,fp q,?_,ru⟩
     show (ix.map λi=>(σ[i]?).getD none)[j]? = some (some u)
     rw [List.getElem?_map,hx]
     simp [hu]
  intro cl C s₀ H₀ fp
  refine (Classical.choose_spec (ht cl C s₀ H₀ fp)).2 (λ_=>.non) (Any H3) (bS σ (some v) ix) H3 (λ_=>False) (blkE ρ1 ds[i] ix) _ _ (srB _) q1 λbb H4 W4 ρ4 p4 q4=>?_
  obtain ⟨sm4,hW4,hρ4⟩:=p4.calm rfl
  have re4:=((re.same sm3).same sm4)
  cases bb with
  | false=>exact ⟨ds.length-(i+1),by omega,rfl,hlt,(sm.trans sm3).trans sm4,es,F,re4,nd,nw,q4⟩
  | true =>
   show if true=true then _ else _
   rw [if_pos rfl]
   intro cl C s₀ H₀ fp
   refine (Classical.choose_spec (he cl C s₀ H₀ fp)).2 (λ_=>.non) (Any H3) (bS σ (some v) ix) H4 W4 (blkE ρ1 ds[i] ix) _ _ (hρ4 ▸ p4.sr) (by simpa using q4) λu H5 W5 y ρ5 Fy p5 q5=>?_
   obtain ⟨sm5,_,_⟩:=p5.calm rfl
   obtain ⟨ny,ky⟩:=p5.own rfl
   have sm15:Same H1 H5:=((sm.trans sm3).trans sm4).trans sm5
   refine ⟨ds.length-(i+1),by omega,rfl,hlt,sm15,es++[y],F++Fy,(re4.same sm5).snoc p5.rep,X4 nd ny λa ha hf=>?_,λa ha=>?_,q5⟩
   ·obtain ⟨ob,e1,_⟩:=re4.dom a hf
    rw [(ky a ha).1] at e1;cases e1
   ·rcases List.mem_append.mp ha with ha | ha
    ·exact nw a ha
    ·exact ((sm.trans sm3).trans sm4).free (ky a ha).1
 ·have e:i=ds.length:=by omega
  subst e
  obtain ⟨hz,q1⟩:=hd es i2
  refine .inl ⟨j1 (Nat.le_refl _),by rw [re.length];exact hz,λl hl=>?_⟩
  have hl1:H1 l=none:=sm.free hl
  refine k _ _ W1 (.lst es) ρ1 (l::F) ⟨(p.sr.same sm).same (Qo hl),(p.fr.trans (FrW.same W1 sm)).trans (FrW.same W1 (Qo hl)),λh=>⟨((p.calm h).1.trans sm).trans (Qo hl),(p.calm h).2⟩,.lst Qi (re.same (Qo hl)),λ_=>⟨List.nodup_cons.mpr ⟨λh=>?_,nd⟩,λb hb=>?_⟩⟩ q1
  ·obtain ⟨ob,e1,_⟩:=re.dom l h
   rw [hl] at e1;cases e1
  ·rcases List.mem_cons.mp hb with rfl | hb
   ·exact ⟨p.fr.dom _ hl1,p.sr.nw hl1⟩
   ·exact ⟨p.fr.dom _ (nw b hb),p.sr.nw (nw b hb)⟩
theorem Qpz (h:Qbh X T m elt iter x px scope ifs ix w) (B:BlkScope X.env scope x)
  (hix:∀i∈ix,∃y,X.N[i]? = some y/\scope.names.lookup y=some .free) (hN:(bN X.N x ix).Nodup) (hc:X.calm=true:=by rfl)
  (hs:∀x,foldedSetIterable iter X.env x=pure x:=by intro _;rfl):EV X T m true (.ListComp elt [⟨.Name x px,iter,ifs,0⟩] scope pos) w:=by
 obtain ⟨wi,tt,te,h1,h2,h3,h4⟩:=h
 exact ⟨_,Qoy ix hc B hix hN h1 h2 h3 hs,h4⟩
theorem Qn3 {py:Pos} {j:Nat} (h:Qbh X T m elt iter x px scope ifs ix w) (B:BlkScope X.env scope x) (hNd:X.N.Nodup)
  (hix:∀i∈ix,∃y,X.N[i]? = some y/\scope.names.lookup y=some .free) (hN:(bN X.N x ix).Nodup) (hj:X.N[j]? = some y:=by rfl) (hy:Loc X.env.scope y:=by first | exact Or.inl rfl | exact Or.inr rfl) (hio:j∉T.io:=by decide)
  (hsw:swapsWith (.ListComp elt [⟨.Name x px,iter,ifs,0⟩] scope pos) (some (.Name y py)) spos.line X.env=pure true:=by rfl)
  (hf:X.fn y=true\/X.env.scope.names.lookup y=some .local:=by first | exact .inl rfl | exact .inr rfl | assumption) (hc:X.calm=true:=by rfl)
  (hs:∀x,foldedSetIterable iter X.env x=pure x:=by intro _;rfl):SV X T (.Assign [.Name y py] (.ListComp elt [⟨.Name x px,iter,ifs,0⟩] scope pos) spos) (wSet j w):=by
 obtain ⟨wi,tt,te,h1,h2,h3,h4⟩:=h
 exact Qn1 ⟨_,Qot ix hc B hNd hj hy hsw hix hN h1 h2 h3 hf hs,h4⟩ hio
end
end PV
namespace PV
open PySem PySem.Spec L2
abbrev WO:=Env->(Option Int->Env->Prop)->Prop
end PV
variable {xs ds:List PV.D} {ws wh:PV.WS} {me:Bool}
namespace PV
open PySem PySem.Spec L2
def OV (X:Cx) (T:Tg) (m:Bool) (e:Option Expr) (w:WO):Prop :=
 ∃t,PO X e t/\∀(z:Nat->V) (R:Addr->Prop) (σ:St) (H:Hp) (W:Addr->Prop) (ρ:Env) (Q:Option Int->Env->Prop) (Q':Option Int->Hp->Prop),SR X.K T z R H W σ ρ->w ρ Q ->
  (∀b H' W' ρ',PostT X.K T z R m H W σ ρ H' W' ρ'->Q b ρ'->Q' b H')->t σ H Q'
def Yx:WO:=λρ Q=>Q none ρ
def Jj (w:WE):WO:=λρ Q=>w ρ λd ρ'=>match d with
 | .int i=>Q (some i) ρ'
 | _=>False
theorem Zd:OV X T false none Yx:=⟨_,Qel,λz R σ H W ρ Q Q' s hw k=>k none H W ρ ⟨s,FrW.refl H W,λ_=>⟨Same.refl H,rfl,rfl⟩⟩ hw⟩
theorem Q6 (h:EV X T m o e w):OV X T m (some e) (Jj w):=by
 obtain ⟨t,pt,g⟩:=h
 refine ⟨_,Qou pt,λz R σ H W ρ Q Q' s hw k=>g z R σ H W ρ _ _ s hw λv H1 W1 d ρ1 F p q=>?_⟩
 cases d with
 | int i=>exact ⟨i,Qof p.rep,k (some i) H1 W1 ρ1 ⟨p.sr,p.fr,p.calm⟩ q⟩
 | _=>exact q.elim
def cutD (xs:List D) (lo hi:Option Int):List D:=(xs.drop (HT.sIx xs.length 0 lo)).take (HT.sIx xs.length xs.length hi-HT.sIx xs.length 0 lo)
theorem Reps.cut {xs:List V} (r:Reps K H ds xs []):Reps K H (cutD ds lo hi) (cutV xs lo hi) []:=by
 unfold cutD cutV
 rw [r.length]
 obtain ⟨G,r1,s1⟩:=r.drop (HT.sIx ds.length 0 lo)
 obtain ⟨G',r2,s2⟩:=r1.take (HT.sIx ds.length ds.length hi-HT.sIx ds.length 0 lo)
 have:=List.sublist_nil.mp s1
 subst this
 have:=List.sublist_nil.mp s2
 subst this
 exact r2
theorem Qqn:SlR X (λx lo hi H Q=>rSlL X.K x lo hi H Q\/rSlT X.K x lo hi H Q):=SlR.or Qn8 Qqm
def Qkn (wa wb:WE):WE:=λρ Q=>wa ρ λd ρ1=>match d with
 | .bl c=>if c=true then wb ρ1 Q else Q (.bl false) ρ1
 | _=>False
section
variable {m1:Bool}
theorem Post.after {W:Addr->Prop} {d1 d2:D} {v1 v2:V} (p:Post K T z R m1 o1 H W σ ρ H1 W1 ρ1 d1 v1 F1) (q:Post K T z R m2 o2 H1 W1 σ ρ1 H2 W2 ρ2 d2 v2 F2) :
  Post K T z R (m1 || m2) o2 H W σ ρ H2 W2 ρ2 d2 v2 F2:=⟨q.sr,p.fr.trans q.fr,p.calm2 q,q.rep,p.lastOwn q⟩
theorem Qs6 {op} (h:EV X T m o a w):EV X T m o (.BoolOp op [a] pos) w:=by
 obtain ⟨t,pt,g⟩:=h
 exact ⟨t,Qrj pt,g⟩
theorem Qnd (ha:EV X T m1 o1 a wa) (hb:EV X T m2 true (.BoolOp .And (b::rest) pos) wb):EV X T (m1 || m2) true (.BoolOp .And (a::b::rest) pos) (Qkn wa wb):=by
 obtain ⟨ta,pa,ga⟩:=ha
 obtain ⟨tb,pb,gb⟩:=hb
 refine ⟨_,Qrp pa pb,λz R σ H W ρ Q Q' s hw k=>ga z R σ H W ρ _ _ s hw λv H1 W1 d ρ1 F p q=>?_⟩
 cases d with
 | bl c =>
  refine ⟨c,Qh7 p.rep,?_⟩
  cases c with
  | true=>exact gb z R σ H1 W1 ρ1 Q Q' p.sr q λv2 H2 W2 d2 ρ2 F2 q2 hq=>k v2 H2 W2 d2 ρ2 F2 (p.after q2) hq
  | false=>exact k _ H1 W1 (.bl false) ρ1 [] ⟨p.sr,p.fr,λh=>p.calm (Bool.or_eq_false_iff.mp h).1,.bl false,λ_=>⟨List.nodup_nil,λa m=>nomatch m⟩⟩ q
 | _=>exact q.elim
end
theorem Z3:bootBuiltins "isinstance" = some (.builtin "isinstance"):=by decide +kernel
theorem Gv:bootBuiltins "len" = some (.builtin "len"):=by decide +kernel
theorem Qkj:bootBuiltins "int" = some (.type "int"):=by decide +kernel
theorem Qtm:bootBuiltins "str" = some (.type "str"):=by decide +kernel
def Zr (w:WE):WE:=λρ Q=>w ρ λd ρ'=>d.pure=true/\Q d ρ'
def Cal (P:Program) (w:World) (K:PySem.W.Frag) (mg:Str->Option Value) (base:Heap) (x:Str) (k:Nat) (ps:List Str) (sp:Sp):Prop :=
 ∃f fd,FnOk P w K mg base CX0 k f fd ps sp/\mg x=some (.ref f)/\PySem.W.keepIn K (.ref f)=true/\Zi K fd ps []
section
variable {k j:Nat}
theorem Zg (h:EV X T m o e w):EV X T m true e (Zr w):=h.lift
theorem Ye {g:GA} (C:Cal X.prog X.w X.K X.mg X.base x k ps (spR X.K g)) (hr:Room k X.A) (ha:AV X T m o (e::es) wr) (hg:Gl X x:=by rfl)
  (hdb:(x == ("__debug__" : Str))=false:=by decide) (he:starEach (e::es) X.env=(false,eval e X.env)::starEach es X.env:=by rfl) (hpl:(backTo pos (starEach es X.env)).any (·.1)=false:=by rfl) :
  EV X T m true (.Call (.Name x p) (e::es) [] pos) (Q0 g wr):=by
 obtain ⟨f,fd,F,h1,h2,h3⟩:=C
 exact Qp0 F hr h1 h2 h3 ha hg hdb he hpl
theorem J6 {wi:WI} (C:Cal X.prog X.w X.K X.mg X.base x k ps (spI X.K q g)) (hr:Room k X.A) (ha:AI X T m i q (e::es) wi) (ht:T.own i=true:=by rfl) (hg:Gl X x:=by rfl)
  (hdb:(x == ("__debug__" : Str))=false:=by decide) (he:starEach (e::es) X.env=(false,eval e X.env)::starEach es X.env:=by rfl) (hpl:(backTo pos (starEach es X.env)).any (·.1)=false:=by rfl) :
  EV X T true true (.Call (.Name x p) (e::es) [] pos) (Y6 i g wi):=by
 obtain ⟨f,fd,F,h1,h2,h3⟩:=C
 exact Ql1 F hr h1 h2 h3 ha ht hg hdb he hpl
def nonD:D->Bool
 | .non=>true
 | _=>false
def nonB (b:D) (k:Prop):Prop:=match b with
 | .non=>k
 | _=>False
def dIs (neg:Bool):G2:=λa b k=>nonB b (k (.bl (xor (nonD a) neg)))
theorem Qu0:OpD X (compareOp .Is) (dIs false):=by
 refine ⟨_,Qrw,λH a b x y F1 F2 k Q ra rb g q=>?_⟩
 cases rb <;> first | (exact (show False from g).elim) | (refine ⟨rfl,?_⟩;cases ra <;> first | exact q _ _ _ _ (.flat (.bl _)) g | (rename_i h;cases h <;> exact q _ _ _ _ (.flat (.bl _)) g))
theorem Qfs:OpD X (compareOp .IsNot) (dIs true):=by
 refine ⟨_,Qo1,λH a b x y F1 F2 k Q ra rb g q=>?_⟩
 cases rb <;> first | (exact (show False from g).elim) | (refine ⟨rfl,?_⟩;cases ra <;> first | exact q _ _ _ _ (.flat (.bl _)) g | (rename_i h;cases h <;> exact q _ _ _ _ (.flat (.bl _)) g))
def Qth (sc scope:Scope) (N:List Str) (x:Str) (ix:List Nat):Bool :=
 (scope.kind == .function) && scope.names.all (λy=>y.2 != .cell) && scope.names.all (λy=>y.2 != .local || scope.names.lookup y.1 == some .local) && (scope.names.lookup x == some .local) &&
  scope.names.all (λy=>y.2 != .free || (sc.names.lookup y.1 == some .cell || sc.names.lookup y.1 == some .free)) &&
  ix.all (λi=>match N[i]? with | some y=>scope.names.lookup y == some .free | none=>false) && decide (bN N x ix).Nodup
structure CompB (X:Cx) (scope:Scope) (x:Str) (ix:List Nat):Prop where
 B:BlkScope X.env scope x
 hix:∀i∈ix,∃y,X.N[i]? = some y/\scope.names.lookup y=some .free
 hN:(bN X.N x ix).Nodup
theorem Xd (sc:Scope) (N:List Str) (h:Qth sc scope N x ix=true) (h1:X.env.scope=sc:=by rfl) (h2:X.N=N:=by rfl):CompB X scope x ix:=by
 subst h1 h2
 simp only [Qth,Bool.and_eq_true,List.all_eq_true,Bool.or_eq_true,decide_eq_true_eq,beq_iff_eq,bne_iff_ne] at h
 obtain ⟨⟨⟨⟨⟨⟨a1,a2⟩,a3⟩,a4⟩,a5⟩,a6⟩,a7⟩:=h
 refine ⟨⟨a1,a2,λy hy e=>(a3 y hy).resolve_left (λz=>z e),a4,λy hy e=>(a5 y hy).resolve_left (λz=>z e)⟩,λi hi=>?_,a7⟩
 have:=a6 i hi
 cases q:X.N[i]? with
 | none=>rw [q] at this;cases this
 | some y =>
  rw [q] at this
  exact ⟨y,rfl,by simpa using this⟩
theorem Qf4 (h:Qbh X T m elt iter x px scope ifs ix w) (B:CompB X scope x ix) (hc:X.calm=true:=by rfl)
  (hs:∀x,foldedSetIterable iter X.env x=pure x:=by intro _;rfl):EV X T m true (.ListComp elt [⟨.Name x px,iter,ifs,0⟩] scope pos) w:=Qpz h B.B B.hix B.hN hc hs
theorem Qfc {py:Pos} {j:Nat} (h:Qbh X T m elt iter x px scope ifs ix w) (B:CompB X scope x ix) (hNd:X.N.Nodup)
  (hj:X.N[j]? = some y:=by rfl) (hy:Loc X.env.scope y:=by first | exact Or.inl rfl | exact Or.inr rfl) (hio:j∉T.io:=by decide)
  (hsw:swapsWith (.ListComp elt [⟨.Name x px,iter,ifs,0⟩] scope pos) (some (.Name y py)) spos.line X.env=pure true:=by rfl)
  (hf:X.fn y=true\/X.env.scope.names.lookup y=some .local:=by first | exact .inl rfl | exact .inr rfl | assumption) (hc:X.calm=true:=by rfl)
  (hs:∀x,foldedSetIterable iter X.env x=pure x:=by intro _;rfl):SV X T (.Assign [.Name y py] (.ListComp elt [⟨.Name x px,iter,ifs,0⟩] scope pos) spos) (wSet j w):=Qn3 h B.B hNd B.hix B.hN hj hy hio hsw hf hc hs
end
section
variable {m1 m3:Bool} {p2:Pos}
def Q9:G2
 | .int i,.int j,k=>k (.int (i+j))
 | .str x,.str y,k=>x.length+y.length<=sizeLine/\k (.str (x++y))
 | .tup xs,.tup ys,k=>Qn xs=true/\Qn ys=true/\xs.length+ys.length<=sizeLine/\k (.tup (xs++ys))
 | .lst xs,.lst ys,k=>Qn xs=true/\Qn ys=true/\xs.length+ys.length<=sizeLine/\k (.lst (xs++ys))
 | _,_,_=>False
theorem Qmh {a b:D} (g:Q9 a b k):(∃i j,a=.int i/\b=.int j)\/(∃i j,a=.str i/\b=.str j)\/(∃i j,a=.lst i/\b=.lst j)\/∃i j,a=.tup i/\b=.tup j:=by
 cases a with
 | int i=>cases b with
  | int j=>exact .inl ⟨i,j,rfl,rfl⟩
  | _=>exact (show False from g).elim
 | str i=>cases b with
  | str j=>exact .inr (.inl ⟨i,j,rfl,rfl⟩)
  | _=>exact (show False from g).elim
 | lst i=>cases b with
  | lst j=>exact .inr (.inr (.inl ⟨i,j,rfl,rfl⟩))
  | _=>exact (show False from g).elim
 | tup i=>cases b with
  | tup j=>exact .inr (.inr (.inr ⟨i,j,rfl,rfl⟩))
  | _=>cases i <;> exact (show False from g).elim
 | _=>exact (show False from g).elim
theorem Qp:OpD X (binaryOp .Add) Q9:=by
 obtain ⟨r0,o0,g0⟩:=Qr7 (X:=X)
 refine ⟨_,OpR.or Qo7 o0,λH a b x y F1 F2 k Q ra rb g q=>?_⟩
 rcases Qmh g with ⟨i,j,rfl,rfl⟩ | ⟨i,j,rfl,rfl⟩ | ⟨i,j,rfl,rfl⟩ | ⟨i,ys,rfl,rfl⟩
 ·exact .inr (g0 H _ _ x y F1 F2 k Q ra rb g q)
 ·exact .inr (g0 H _ _ x y F1 F2 k Q ra rb g q)
 ·exact .inr (g0 H _ _ x y F1 F2 k Q ra rb g q)
 ·cases i with
  | nil =>
   cases ra with
   | @tup p _ _ _ e1 r1 =>
    cases r1
    cases rb with
    | @tup p' us _ _ e2 r2=>exact .inl ⟨p,p',us,rfl,rfl,.of e1,.of e2,q _ _ _ _ (.flat (.tup e2 (r2.pure g.2.1).2)) g.2.2.2⟩
  | cons d xs=>exact .inr (g0 H _ _ x y F1 F2 k Q ra rb ⟨g.1,g.2.1,by simp,g.2.2⟩ q)
def dSlT:D->Option Int->Option Int->(D->Prop)->Prop
 | .lst xs,lo,hi,k=>Qn xs=true/\k (.lst (cutD xs lo hi))
 | .kls xs,lo,hi,k=>Qn xs=true/\k (.lst (cutD xs lo hi))
 | .tup xs,lo,hi,k=>Qn xs=true/\k (.tup (cutD xs lo hi))
 | _,_,_,_=>False
theorem Qoa (g:dSlT d lo hi k):(∃ds,d=.lst ds)\/(∃ds,d=.kls ds)\/∃ds,d=.tup ds:=by
 cases d with
 | lst ds=>exact .inl ⟨ds,rfl⟩
 | kls ds=>exact .inr (.inl ⟨ds,rfl⟩)
 | tup ds=>exact .inr (.inr ⟨ds,rfl⟩)
 | _=>exact (show False from g).elim
theorem Qn9:SlR X (λx lo hi H Q=>(rSlL X.K x lo hi H Q\/rSlT X.K x lo hi H Q)\/rSlW X.K x lo hi H Q):=SlR.or Qqn Qn5
def wSlT (w:WE) (wl wh:WO):WE:=λρ Q=>w ρ λd ρ1=>wl ρ1 λlo ρ2=>wh ρ2 λhi ρ3=>dSlT d lo hi λd'=>Q d' ρ3
theorem Qj7 (h:HT.sIx xs.length 0 lo=0/\HT.sIx xs.length xs.length hi=xs.length):cutD xs lo hi=xs:=by
 unfold cutD
 rw [h.1,h.2]
 simp
theorem Zx {lo hi:Option Expr} {wl wh:WO} (he:EV X T m1 o1 e w) (hl:OV X T m2 lo wl) (hh:OV X T m3 hi wh) (hc:o1=true\/(m2 || m3)=false:=by first | exact .inl rfl | exact .inr rfl) :
  EV X T (m1 || (m2 || m3)) true (.Subscript e (.Slice lo hi none p2) pos) (wSlT w wl wh):=by
 obtain ⟨te,pe,ge⟩:=he
 obtain ⟨tl,pl,gl⟩:=hl
 obtain ⟨th,ph,gh⟩:=hh
 refine ⟨_,Xb Qn9 pe pl ph,λz R σ H W ρ Q Q' s hw k=>?_⟩
 refine ge z R σ H W ρ _ _ s hw λv H1 W1 d ρ1 F p q=>?_
 refine gl z R σ H1 W1 ρ1 _ _ p.sr q λlo H2 W2 ρ2 p2 q2=>?_
 refine gh z R σ H2 W2 ρ2 _ _ p2.sr q2 λhi H3 W3 ρ3 p3 q3=>?_
 have pp:=p2.seq p3
 have r3:Rep X.K H3 d v F:=by
  rcases hc with hc | hc
  ·exact p.rep.keep pp.fr λa h=>((p.own hc).2 a h).2
  ·exact p.rep.same (pp.calm hc).1
 have fin:∀ad d' v' Fn,Fin X.K H3 ad d' v' Fn->Q d' ρ3->Q' v' ad:=λH' d' v' F' fi hq=>by
  refine k v' H' W3 d' ρ3 F' (Post.fin p3.sr (p.fr.trans pp.fr) (λh=>?_) fi.same fi.rep fi.nd fi.new) hq
  rw [Bool.or_eq_false_iff] at h
  obtain ⟨a1,a2,a3⟩:=p.calm h.1
  obtain ⟨b1,b2,b3⟩:=pp.calm h.2
  exact ⟨a1.trans b1,b2.trans a2,b3.trans a3⟩
 have q4:dSlT d lo hi λd'=>Q d' ρ3:=q3
 clear q3
 rcases Qoa q4 with ⟨ds,rfl⟩ | ⟨ds,rfl⟩ | ⟨ds,rfl⟩
 ·have q3:=q4
  cases r3 with
  | @lst a xs _ F e1 r9 =>
   obtain ⟨hp,hq⟩:=q3
   obtain ⟨_,r9⟩:=r9.pure hp
   exact .inl (.inl ⟨a,xs,rfl,.of e1,λl hl=>fin _ _ _ [l] ⟨Qo hl,.lst Qi (r9.cut.same (Qo hl)),by simp,λb m=>by rw [List.mem_singleton.mp m];exact hl⟩ hq⟩)
 ·have q3:=q4
  cases r3 with
  | @kls a xs _ e1 r9 =>
   obtain ⟨hp,hq⟩:=q3
   exact .inl (.inl ⟨a,xs,rfl,e1.sq,λl hl=>fin _ _ _ [l] ⟨Qo hl,.lst Qi (r9.cut.same (Qo hl)),by simp,λb m=>by rw [List.mem_singleton.mp m];exact hl⟩ hq⟩)
 ·have q3:=q4
  cases r3 with
  | @tup a xs _ F e1 r9 =>
   obtain ⟨hp,hq⟩:=q3
   obtain ⟨_,r9⟩:=r9.pure hp
   by_cases hn:HT.sIx ds.length 0 lo=0/\HT.sIx ds.length ds.length hi=ds.length
   ·rw [Qj7 hn] at hq
    exact .inr ⟨a,xs,rfl,.of e1,by rw [r9.length];exact hn,fin _ _ _ [] (.flat (.tup e1 r9)) hq⟩
   ·exact .inl (.inr ⟨a,xs,rfl,.of e1,by rw [r9.length];exact hn,λl hl=>fin _ _ _ [] ⟨Qo hl,.tup Qi (r9.cut.same (Qo hl)),by simp,λb m=>nomatch m⟩ hq⟩)
end
def TB (q:Nat):Tg:={ own:=λi=>i == q,io:=[q] }
def Qhp (i j:Nat) (wl:WL) (we:WE) (ix:List Nat):WE:=λρ Q=>wl ρ λds ρ1=>Qn ds=true/\oget (look ρ1 i) λd0=>Va d0=true/\∃I:Nat->List D->D->Prop,I 0 [] d0 /\
 (∀k d ys dd,ds[k]? = some d->I k ys dd->ys.length<sizeLine/\we (blkE (ρ1.set i (some dd)) d ix) (λy ρ'=>oget (look ρ' (j+1)) λdd'=>Va dd'=true/\I (k+1) (ys++[y]) dd')) /\
 ∀ys dd,I ds.length ys dd->ys.length<=sizeLine/\Q (.lst ys) (ρ1.set i (some dd))
theorem Qnz {A B:Hp->Prop} (h:A H):tAll σ H λb H1=>if b=true then A H1 else B H1:=by
 show (if true=true then A H else B H)
 rw [if_pos rfl];exact h
theorem Ql8 (ix:List Nat) (i j:Nat) (hi:IV X T m true (.Name x px) iter wl)
  (he:∀cl C s₀ H₀ fp,EV (Zq X scope cl C (bN X.N x ix) s₀ H₀ fp) (TB (j+1)) me true elt we) (hj:ix[j]? = some i:=by rfl) (hnd:ix.Nodup:=by decide) (ht:T.own i=true:=by rfl) :
  Qbh X T true elt iter x px scope [] ix (Qhp i j wl we ix):=by
 have hone:∀n,ix[n]? = some i->n=j:=λn hn=>by
  obtain ⟨l1,e1⟩:=List.getElem?_eq_some_iff.mp hn
  obtain ⟨l2,e2⟩:=List.getElem?_eq_some_iff.mp hj
  exact (List.getElem_inj hnd).mp (e1.trans e2.symm)
 obtain ⟨wi,pi,gi⟩:=hi
 refine ⟨wi,_,λσ H Q=>∀cl C s₀ H₀ fp,Classical.choose (he cl C s₀ H₀ fp) σ H Q,pi,λcl C s₀ H₀ fp=>Qfo,
  λcl C s₀ H₀ fp pins s σ H Q I h=>(Classical.choose_spec (he cl C s₀ H₀ fp)).1 pins s σ H Q I (h cl C s₀ H₀ fp),?_⟩
 intro z R σ H W ρ Q Q' s hw k
 refine gi z R σ H W ρ _ _ s hw λJ H1 W1 ds ρ1 p jd q=>?_
 obtain ⟨hpu,q⟩:=q
 obtain ⟨d0,hl0,hf0,I,h0,hI,hd⟩:=Ql q
 obtain ⟨fpp,s1⟩:=id p.sr
 obtain ⟨v0,hv0,r0⟩:=s1.at_ i d0 hl0
 obtain ⟨a,rfl,hF⟩:=r0.flat1 hf0
 rw [hF] at r0
 have hmem:a∈fpp i:=by rw [hF];exact List.mem_singleton.mpr rfl
 have hWa:W1 a:=(s1.own i d0 hl0 ht).2 a hmem
 have hRa:¬R a:=s1.wr a hWa
 obtain ⟨oa,ea,ia⟩:=s1.wd a hWa
 have notin:∀n d,look ρ1 n=some d->n≠i->a∉fpp n:=λn d hn hne ha=>by
  cases hto:T.own n with
  | true=>exact s1.dis i n _ d hl0 hn ht hto (λz=>hne z.symm) a hmem ha
  | false=>exact hRa (s1.ro n d hn hto a ha)
 refine ⟨λn c ys H2=>c=ds.length-n/\n<=ds.length/\(∀b u,H1 b=some u->b≠a->H2 b=some u)/\(∀b,H2 b=none->H1 b=none) /\
  ∃es F dd,Reps X.K H2 es ys F/\F.Nodup/\(∀c∈F,H1 c=none)/\Rep X.K H2 dd (.ref a) [a]/\Va dd=true/\I n es dd,ds.length,
  ⟨by simp,Nat.zero_le _,λb u e _=>e,λb e=>e,[],[],d0,.nil,List.nodup_nil,(λa m=>(nomatch m)),r0,hf0,h0⟩,?_⟩
 rintro n c ys H2 ⟨rfl,hn,kp,dm,es,F,dd,re,nd,nw,rdd,hfd,i2⟩
 obtain ⟨o2,ea2,ia2⟩:=rdd.dom a (List.mem_singleton.mpr rfl)
 have im12:ImmK H1 H2:=λb ob eb im=>kp b ob eb λz=>by subst z;rw [ea] at eb;cases eb;rw [ia] at im;cases im
 have fr12:FrW H1 (wz true W1) H2 W1:=by
  rw [Qbi]
  exact ⟨λb ob eb nb=>kp b ob eb λz=>nb (z ▸ hWa),dm,im12,λb h=>.inl h⟩
 obtain ⟨j1,j2⟩:=jd n H2 W1 fr12
 by_cases hlt:n<ds.length
 ·have hdi:ds[n]? = some ds[n]:=List.getElem?_eq_getElem hlt
  obtain ⟨hgo,hy⟩:=j2 _ hdi
  obtain ⟨hz,q1⟩:=hI n _ es dd hdi i2
  refine .inr ⟨hgo,by rw [re.length];exact hz,λv H3 yl=>?_⟩
  obtain ⟨sm3,Fv,rv,_⟩:=hy v H3 yl
  have hpd:(ds[n]).pure=true:=Xt.mp hpu _ (List.getElem_mem hlt)
  obtain ⟨-,rv⟩:=rv.pure hpd
  have ea3:H3 a=some o2:=sm3 a _ ea2
  have kp3:∀b u,H1 b=some u->b≠a->H3 b=some u:=λb u eb hb=>sm3 b u (kp b u eb hb)
  have im13:ImmK H1 H3:=λb ob eb im=>sm3 b ob (im12 b ob eb im)
  have rdd3:=rdd.same sm3
  refine Qnz ?_
  intro cl C s₀ H₀ fp
  have srB:SR X.K (TB (j+1)) (λ_=>.ref a) (λb=>b≠a/\Any H3 b) H3 (λb=>b=a) (bS σ (some v) ix) (blkE (ρ1.set i (some dd)) ds[n] ix):=by
   have slot:∀n',n'≠j->∀q,ix[n']? = some q->q≠i:=λn' hne q hq z=>hne (hone n' (z ▸ hq))
   refine ⟨λn'=>if n'=j+1 then [a] else match n' with | 0=>[] | n''+1=>(ix[n'']?.map fpp).getD [],?_,?_,?_,?_,?_,?_,?_,?_,?_⟩
   ·simp [bS,blkE]
   ·rintro b rfl;exact ⟨o2,ea3,ia2⟩
   ·intro n' d hn'
    cases n' with
    | zero =>
     simp only [blkE,look,Option.some.injEq] at hn'
     subst hn'
     exact ⟨v,rfl,by simpa using rv⟩
    | succ n' =>
     have hn2:look (ix.map (look (ρ1.set i (some dd)))) n'=some d:=hn'
     rw [Xc] at hn2
     cases hx:ix[n']? with
     | none=>rw [hx] at hn2;cases hn2
     | some q =>
      rw [hx] at hn2
      have hn2:look (ρ1.set i (some dd)) q=some d:=hn2
      by_cases hjn:n'=j
      ·subst hjn
       rw [hj] at hx
       cases hx
       rw [Z1 (Ge hl0)] at hn2
       cases hn2
       refine ⟨.ref a,?_,by rw [if_pos rfl];exact rdd3⟩
       show (ix.map λi=>(σ[i]?).getD none)[n']? = some (some (.ref a))
       rw [List.getElem?_map,hj]
       simp [hv0]
      ·have hqi:=slot n' hjn q hx
       rw [Qq hqi] at hn2
       obtain ⟨u,hu,ru⟩:=s1.at_ q d hn2
       refine ⟨u,?_,?_⟩
       ·show (ix.map λi=>(σ[i]?).getD none)[n']? = some (some u)
        rw [List.getElem?_map,hx]
        simp [hu]
       ·rw [if_neg (by omega)]
        show Rep X.K H3 d u ((ix[n']?.map fpp).getD [])
        rw [hx]
        refine ru.frame im13 λb hb=>?_
        obtain ⟨ob,eb,_⟩:=ru.dom b hb
        rw [eb]
        exact kp3 b ob eb λz=>notin q d hn2 hqi (z ▸ hb)
   ·intro n' d hn' hto
    have:n'=j+1:=by simpa [TB] using hto
    subst this
    rw [if_pos rfl]
    exact ⟨by simp,λb hb=>List.mem_singleton.mp hb⟩
   ·intro n' d hn' hto b hb
    have hne:n'≠j+1:=by simpa [TB] using hto
    rw [if_neg hne] at hb
    cases n' with
    | zero=>cases hb
    | succ n' =>
     have hn2:look (ix.map (look (ρ1.set i (some dd)))) n'=some d:=hn'
     rw [Xc] at hn2
     cases hx:ix[n']? with
     | none=>rw [hx] at hn2;cases hn2
     | some q =>
      rw [hx] at hn2
      have hn2:look (ρ1.set i (some dd)) q=some d:=hn2
      have hqi:=slot n' (by omega) q hx
      rw [Qq hqi] at hn2
      have hb:b∈fpp q:=by
       have hb':b∈(ix[n']?.map fpp).getD []:=hb
       rw [hx] at hb';exact hb'
      obtain ⟨u,hu,ru⟩:=s1.at_ q d hn2
      obtain ⟨ob,eb,ib⟩:=ru.dom b hb
      have hba:b≠a:=λz=>notin q d hn2 hqi (z ▸ hb)
      exact ⟨hba,ob,kp3 b ob eb hba,ib⟩
   ·rintro b rfl ⟨h,_⟩;exact h rfl
   ·exact λb h=>h.2
   ·intro n1 n2 d1 d2 _ _ t1 t2 hne
    have e1:n1=j+1:=by simpa [TB] using t1
    have e2:n2=j+1:=by simpa [TB] using t2
    exact absurd (e1.trans e2.symm) hne
   ·intro n' hn'
    have:n'=j+1:=by simpa [TB] using hn'
    subst this
    show (ix.map λi=>(σ[i]?).getD none)[j]? = some (some (.ref a))
    rw [List.getElem?_map,hj]
    simp [hv0]
  refine (Classical.choose_spec (he cl C s₀ H₀ fp)).2 _ _ _ _ _ _ _ _ srB q1 λu H5 W5 y ρ5 Fy p5 q5=>?_
  obtain ⟨dd',hl5,hf5,q5⟩:=Ql q5
  obtain ⟨ny,ky⟩:=p5.own rfl
  have kp5:∀b u,H3 b=some u->b≠a->H5 b=some u:=λb u eb hb=>p5.fr.keep b u eb hb
  obtain ⟨fp5,s5⟩:=p5.sr
  obtain ⟨u5,hu5,r5⟩:=s5.at_ (j+1) dd' hl5
  have hfx:=s5.fix (j+1) (by simp [TB])
  rw [hu5] at hfx
  cases hfx
  obtain ⟨a5,e5,hF5⟩:=r5.flat1 hf5
  cases e5
  rw [hF5] at r5
  have im25:ImmK H2 H5:=λb ob eb im=>by
   have hba:b≠a:=λz=>by subst z;rw [ea2] at eb;cases eb;rw [ia2] at im;cases im
   exact kp5 b ob (sm3 b ob eb) hba
  have re5:Reps X.K H5 es ys F:=re.frame im25 λc hc=>by
   obtain ⟨ob,ec,_⟩:=re.dom c hc
   have hca:c≠a:=λz=>by subst z;rw [nw c hc] at ea;cases ea
   rw [ec]
   exact kp5 c ob (sm3 c ob ec) hca
  have dm3:∀b,H3 b=none->H1 b=none:=λb eb=>dm b (sm3.free eb)
  refine ⟨ds.length-(n+1),by omega,rfl,hlt,λb ub eb hb=>kp5 b ub (kp3 b ub eb hb) hb,λb eb=>dm3 b (p5.fr.dom b eb),es++[y],F++Fy,dd',re5.snoc p5.rep,X4 nd ny λc hc hf=>?_,λc hc=>?_,r5,hf5,q5⟩
  ·obtain ⟨ob,e1,_⟩:=(re.same sm3).dom c hf
   rw [(ky c hc).1] at e1;cases e1
  ·rcases List.mem_append.mp hc with hc | hc
   ·exact nw c hc
   ·exact dm3 c (ky c hc).1
 ·have e:n=ds.length:=by omega
  subst e
  obtain ⟨hz,q1⟩:=hd es dd i2
  refine .inl ⟨j1 (Nat.le_refl _),by rw [re.length];exact hz,λl hl=>?_⟩
  have hl1:H1 l=none:=dm l hl
  have hla:l≠a:=λz=>by subst z;rw [hl1] at ea;cases ea
  have kpl:∀b u,H1 b=some u->b≠a->upd H2 l (.lst ys) b=some u:=λb u eb hb=>by
   rw [Qg (Ja eb hl1)];exact kp b u eb hb
  have rddl:Rep X.K (upd H2 l (.lst ys)) dd (.ref a) [a]:=rdd.same (Qo hl)
  have hnew:∃ob,upd H2 l (.lst ys) a=some ob/\imm ob=false:=⟨o2,by rw [Qg (Ne.symm hla)];exact ea2,ia2⟩
  have sN:=s1.write (H':=upd H2 l (.lst ys)) (d':=dd) (F':=[a]) hl0 ht hv0 hmem kpl hnew rddl (by simp) (λb hb=>.inl (by rw [hF];exact hb))
  have fN:=p.fr.write (H':=upd H2 l (.lst ys)) (F':=[a]) hWa ⟨oa,ea,ia⟩ kpl hnew (λb hb=>.inl (by rw [List.mem_singleton.mp hb];exact hWa))
  refine k _ _ _ (.lst es) _ (l::F) ⟨sN,fN,(λh=>nomatch h),.lst Qi (re.same (Qo hl)),λ_=>⟨List.nodup_cons.mpr ⟨λh=>?_,nd⟩,λb hb=>?_⟩⟩ q1
  ·obtain ⟨ob,e1,_⟩:=re.dom l h
   rw [hl] at e1;cases e1
  ·have hb1:H1 b=none:=by
    rcases List.mem_cons.mp hb with rfl | hb
    ·exact hl1
    ·exact nw b hb
   refine ⟨p.fr.dom _ hb1,λhw=>?_⟩
   rcases hw with hw | hw
   ·exact p.sr.nw hb1 hw
   ·rw [List.mem_singleton.mp hw] at hb1
    rw [hb1] at ea;cases ea
def Qnt (i:Nat) (g:G2) (wb:WE):WE:=λρ Q=>oget (look ρ i) λd1=>wb ρ λd2 ρ2=>look ρ2 i=some d1/\g d1 d2 λd=>Q d ρ2
def dAll:GA
 | [.lst ds],k=>∃bs:List Bool,ds=bs.map D.bl/\k (.bl (bs.all id))
 | _,_=>False
theorem Reps.of_bls {K:PySem.W.Frag} {H:Hp}:∀{bs:List Bool} {xs:List V} {F:List Addr},Reps K H (bs.map D.bl) xs F->xs=bs.map V.bl
 | [],_,_,r=>by cases r;rfl
 | b::bs,_,_,r=>by
  cases r with
  | cons h r=>cases h;rw [Reps.of_bls r];rfl
theorem Qtk (hc:X.calm=true):Qhi X (.builtin "all") dAll:=by
 refine ⟨_,Qmg hc,λH ds xs F k Q r g q=>?_⟩
 cases ds with
 | nil=>exact (show False from g).elim
 | cons d ds =>
  cases ds with
  | cons _ _=>cases d <;> exact (show False from g).elim
  | nil =>
   cases d with
   | lst es =>
    obtain ⟨v,rfl,rd⟩:=r.at1
    obtain ⟨bs,rfl,g⟩:=g
    cases rd with
    | lst e r9 =>
    have:=r9.of_bls
    subst this
    exact ⟨_,bs,rfl,e,q _ _ _ _ (.flat (.bl _)) g⟩
   | _=>exact (show False from g).elim
def Qqa (xs ys:List D):List D:=(xs.zip ys).map λp=>.tup [p.1,p.2]
theorem Qtn:bootBuiltins "all" = some (.builtin "all"):=by decide +kernel
end PV
namespace PV
open PySem PySem.Spec L2
open Builtin.Str (glued tooLong)
section
variable {m1:Bool}
def dStr:GA
 | [.int i],k=>i.natAbs.log2<1920/\k (.str (toString i))
 | _,_=>False
def Qvm:GA
 | [.str x],k=>oget (PySem.intText? x) λn=>x.length<=640/\k (.int n)
 | _,_=>False
theorem Reps.of_strs {K:PySem.W.Frag} {H:Hp}:∀{ws:List Str} {xs:List V} {F:List Addr},Reps K H (ws.map D.str) xs F->xs=ws.map V.str
 | [],_,_,r=>by cases r;rfl
 | b::bs,_,_,r=>by
  cases r with
  | cons h r=>cases h;rw [Reps.of_strs r];rfl
theorem Reps.strs {K:PySem.W.Frag} {H:Hp}:∀(ws:List Str),Reps K H (ws.map D.str) (ws.map V.str) []
 | []=>.nil
 | w::ws=>.cons (F:=[]) (G:=[]) (.str w) (Reps.strs ws)
abbrev GS:=Str->List D->(D->Prop)->Prop
def MsD (X:Cx) (id:String) (g:GS):Prop :=
 ∃r,MtR X id r/\∀(H:Hp) (y:Str) (ds:List D) (xs:List V) (F:List Addr) (k:D->Prop) (Q:VK),Reps X.K H ds xs F->g y ds k->(∀v H' d F',Fin X.K H H' d v F'->k d->Q v H')->r (.str y) xs H Q
def Qee (d:D) (k:Str->Prop):Prop:=match d with
 | .str y=>k y
 | _=>False
def wMs (g:GS) (w:WE) (wr:WA):WE:=λρ Q=>w ρ λd ρ1=>Qee d λy=>wr ρ1 λds ρ2=>g y ds λr=>Q r ρ2
theorem Qvi {g:GS} {oe:Expr} {id:String} (hm:MsD X id g) (slot:Slot "str" name id) (hty:typeOf (.builtin id)=pure (.type "method_descriptor")) (ho:EV X T m1 o1 oe w) (ha:AV X T m2 o2 (e::es) wr)
  (hbase:attributeBase oe name X.env (eval oe X.env)=eval oe X.env:=by rfl)
  (hfew:((backTo cpos (starEach (e::es) X.env)).all (λx=>!x.1) && (backToKw cpos (keywordEach [] X.env)).all (λx=>x.1.isSome)
   && decide ((e::es).length+([]:List Keyword).length+(if ([]:List Keyword).isEmpty then 0 else 1)<30))=true:=by rfl)
  (hline:(apos.endLine == cpos.line)=true:=by rfl) (hs:starEach (e::es) X.env=(false,eval e X.env)::starEach es X.env:=by rfl) (hplain:(backTo cpos (starEach es X.env)).any (·.1)=false:=by rfl) :
  EV X T (m1 || m2) true (.Call (.Attribute oe name apos) (e::es) [] cpos) (wMs g w wr):=by
 obtain ⟨r,mr,gr⟩:=hm
 obtain ⟨te,pe,ge⟩:=ho
 obtain ⟨ta,pa,ga⟩:=ha
 refine ⟨_,Qo0 PySem.F.plainAttrs_str slot hty mr pe pa hbase hfew hline hs hplain,λz R σ H W ρ Q Q' s hw k=>?_⟩
 refine ge z R σ H W ρ _ _ s hw λv1 H1 W1 d1 ρ1 F1 p q1=>?_
 obtain ⟨y,rfl⟩:∃y,d1=D.str y:=by
  clear p
  cases d1 with
  | str y=>exact ⟨y,rfl⟩
  | _=>exact (show False from q1).elim
 have hv:v1=.str y:=by have:=p.rep;cases this;rfl
 subst hv
 refine ⟨rfl,ga z R σ H1 W1 ρ1 _ _ p.sr q1 λvs H2 W2 ds ρ2 F2 q q2=>?_⟩
 refine gr H2 y ds vs F2 _ Q' q.rep q2 λv H' d F' fi hk=>k v H' W2 d ρ2 F' (Post.fin q.sr (p.fr.trans q.fr) (λh=>?_) fi.same fi.rep fi.nd fi.new) hk
 rw [Bool.or_eq_false_iff] at h
 obtain ⟨a1,a2,a3⟩:=p.calm h.1
 obtain ⟨b1,b2,b3⟩:=q.calm h.2
 exact ⟨a1.trans b1,b2.trans a2,b3.trans a3⟩
def Qsz:GS:=λsep ds k=>match ds with
 | [.lst xs]=>∃ws:List Str,xs=ws.map D.str/\tooLong (ws.toArray.foldl (λn w=>n+w.length+sep.length) 0)=false/\(glued sep ws).length<=sizeLine/\k (.str (glued sep ws))
 | _=>False
theorem Qpf:MsD X "str.join" Qsz:=by
 refine ⟨_,Qpe,λH y ds xs F k Q r g q=>?_⟩
 cases ds with
 | nil=>exact (show False from g).elim
 | cons d ds =>
  cases ds with
  | cons _ _=>cases d <;> exact (show False from g).elim
  | nil =>
   cases d with
   | lst es =>
    obtain ⟨v,rfl,rd⟩:=r.at1
    obtain ⟨ws,rfl,h1,h2,g⟩:=g
    cases rd with
    | lst e r9 =>
    have:=r9.of_strs
    subst this
    exact ⟨y,_,ws,rfl,rfl,.of e,h1,h2,q _ _ _ _ (.flat (.str _)) g⟩
   | _=>exact (show False from g).elim
def sgn (x:Str):List D:=x.cps.toList.map λc=>.str ⟨#[c]⟩
def Qob (d:D) (k:List D->Prop):Prop:=match d with
 | .str x=>x.cps.all (· < 128)=true/\k (sgn x)
 | _=>False
end
end PV
variable {wc:PV.WE}
namespace PV
open PySem PySem.Spec L2
open Builtin.Str (glued tooLong subAt)
section
variable {m1 m3 m4:Bool} {p2:Pos}
def Qml (y z:Str):Bool:=0+z.length<=y.length && subAt y z 0
def Qpp:GS:=λy ds k=>match ds with
 | [.str z]=>k (.bl (Qml y z))
 | _=>False
def Qve:GS:=λy ds k=>match ds with
 | [.str z]=>(z.length == 0)=false/\y.length<=sizeLine/\k (.tup ((Qm2 y z).map D.str))
 | _=>False
def dSlS:D->Option Int->(D->Prop)->Prop
 | .str y,some i,k=>0<=i/\i.toNat<=y.length/\y.length<=sizeLine/\k (.str (G3 y i.toNat))
 | _,_,_=>False
theorem Reps.pick {K:PySem.W.Frag} {H:Hp} {ds:List D} {xs:List V} (r:Reps K H ds xs []):∀(js:List Nat),Reps K H (js.filterMap (ds[·]?)) (js.filterMap (xs[·]?)) []
 | []=>.nil
 | j::js=>by
  cases hx:ds[j]? with
  | none =>
   have:xs[j]? = none:=by
    have h1:=r.length
    have h2:=List.getElem?_eq_none_iff.mp hx
    exact List.getElem?_eq_none_iff.mpr (by omega)
   rw [List.filterMap_cons_none hx,List.filterMap_cons_none this]
   exact Reps.pick r js
  | some d =>
   obtain ⟨v,B,h1,h2,h3⟩:=r.get hx
   have:=List.sublist_nil.mp h3
   subst this
   rw [List.filterMap_cons_some hx,List.filterMap_cons_some h1]
   exact .cons (F:=[]) (G:=[]) h2 (Reps.pick r js)
def dSt:D->Option Int->Option Int->Option Int->(D->Prop)->Prop
 | .lst xs,lo,hi,c,k=>Qn xs=true/\c≠some 0/\c≠none/\(Gw xs lo hi c).length<=sizeLine/\k (.lst (Gw xs lo hi c))
 | _,_,_,_,_=>False
def wSt (w:WE) (wl wh wc:WO):WE:=λρ Q=>w ρ λd ρ1=>wl ρ1 λlo ρ2=>wh ρ2 λhi ρ3=>wc ρ3 λc ρ4=>dSt d lo hi c λd'=>Q d' ρ4
theorem Qhy {α β:Type} {xs:List α} {ys:List β} (h:xs.length=ys.length) {c:Option Int}:(Gw xs lo hi c).length=(Gw ys lo hi c).length:=by
 unfold Gw
 rw [h]
 generalize sliceRange _ _ _=js
 induction js with
 | nil=>rfl
 | cons j js ih =>
  cases hx:xs[j]? with
  | none =>
   have:ys[j]? = none:=List.getElem?_eq_none_iff.mpr (by have:=List.getElem?_eq_none_iff.mp hx;omega)
   rw [List.filterMap_cons_none hx,List.filterMap_cons_none this];exact ih
  | some u =>
   have hj:=(List.getElem?_eq_some_iff.mp hx).1
   have:ys[j]? = some (ys[j]'(by omega)):=List.getElem?_eq_getElem _
   rw [List.filterMap_cons_some hx,List.filterMap_cons_some this,List.length_cons,List.length_cons,ih]
theorem Qvg {lo hi:Option Expr} {wl wh wc:WO} (he:EV X T m1 o1 e w) (hl:OV X T m2 lo wl) (hh:OV X T m3 hi wh) (hs:OV X T m4 (some se) wc) (hc:o1=true\/(m2 || (m3 || m4))=false:=by first | exact .inl rfl | exact .inr rfl) :
  EV X T (m1 || (m2 || (m3 || m4))) true (.Subscript e (.Slice lo hi (some se) p2) pos) (wSt w wl wh wc):=by
 obtain ⟨te,pe,ge⟩:=he
 obtain ⟨tl,pl,gl⟩:=hl
 obtain ⟨th,ph,gh⟩:=hh
 obtain ⟨ts,ps,gs⟩:=hs
 refine ⟨_,Qgw pe pl ph ps,λz R σ H W ρ Q Q' s hw k=>?_⟩
 refine ge z R σ H W ρ _ _ s hw λv H1 W1 d ρ1 F p q=>?_
 refine gl z R σ H1 W1 ρ1 _ _ p.sr q λlo H2 W2 ρ2 p2 q2=>?_
 refine gh z R σ H2 W2 ρ2 _ _ p2.sr q2 λhi H3 W3 ρ3 p3 q3=>?_
 refine gs z R σ H3 W3 ρ3 _ _ p3.sr q3 λc H4 W4 ρ4 p4 q4=>?_
 have pp:=p2.seq (p3.seq p4)
 have r3:Rep X.K H4 d v F:=by
  rcases hc with hc | hc
  ·exact p.rep.keep pp.fr λa h=>((p.own hc).2 a h).2
  ·exact p.rep.same (pp.calm hc).1
 have fin:∀ad d' v' Fn,Fin X.K H4 ad d' v' Fn->Q d' ρ4->Q' v' ad:=λH' d' v' F' fi hq=>by
  refine k v' H' W4 d' ρ4 F' (Post.fin p4.sr (p.fr.trans pp.fr) (λh=>?_) fi.same fi.rep fi.nd fi.new) hq
  rw [Bool.or_eq_false_iff] at h
  obtain ⟨a1,a2,a3⟩:=p.calm h.1
  obtain ⟨b1,b2,b3⟩:=pp.calm h.2
  exact ⟨a1.trans b1,b2.trans a2,b3.trans a3⟩
 match d,r3,q4 with
 | .lst ds,r3,q4 =>
  cases r3 with
  | @lst a xs _ F e1 r9 =>
   obtain ⟨hp,h0,h00,hz,hq⟩:=q4
   obtain ⟨_,r9⟩:=r9.pure hp
   refine ⟨a,xs,rfl,.of e1,h0,h00,by rw [Qhy r9.length];exact hz,λl hl=>fin _ _ _ [l] ⟨Qo hl,.lst Qi (Reps.same ?_ (Qo hl)),by simp,λb m=>by rw [List.mem_singleton.mp m];exact hl⟩ hq⟩
   unfold Gw
   rw [r9.length]
   exact r9.pick _
def Qqb (ds:List D) (k:List D->Prop):Prop:=match ds with
 | [.lst xs,.lst ys]=>Qn xs=true/\Qn ys=true/\k (Qqa xs ys)
 | _=>False
def dFs (c:Str):D->(D->Prop)->Prop
 | .int i,k=>i.natAbs.log2<1920/\(c++Str.ofString (toString i)).length<=sizeLine/\k (.str (c++Str.ofString (toString i)))
 | _,_=>False
end
end PV
variable {kk:PV.D->PV.D->Prop}
namespace PV
open PySem PySem.Spec L2 PyProof.Rows
section
variable {k:Nat}
def Qe6 (g:GI) (wr:WA):WE:=λρ Q=>wr ρ λds ρ1=>match ds with
 | d0::post=>Va d0=true/\Qn post=true/\g (d0::post) λd _=>Q d ρ1
 | []=>False
theorem Ql2 (C:Cal X.prog X.w X.K X.mg X.base x k ps (spI X.K 0 g)) (hr:Room k X.A) (ha:AV X T false true (e::es) wr) (hg:Gl X x:=by rfl)
  (hdb:(x == ("__debug__" : Str))=false:=by decide) (he:starEach (e::es) X.env=(false,eval e X.env)::starEach es X.env:=by rfl) (hpl:(backTo pos (starEach es X.env)).any (·.1)=false:=by rfl) :
  EV X T false true (.Call (.Name x p) (e::es) [] pos) (Qe6 g wr):=by
 obtain ⟨f,fd,F,hm,hk,hb⟩:=C
 obtain ⟨ta,pa,ga⟩:=ha
 refine ⟨_,Qem F hr hg hm hk hb .nil Qiq pa hdb he hpl,λz R σ H W ρ Q Q' s hw k=>?_⟩
 refine ga z R σ H W ρ _ _ s hw λvs H1 W1 ds ρ1 F p q=>?_
 obtain ⟨sm,rfl,rfl⟩:=p.calm rfl
 obtain ⟨nd,own⟩:=p.own rfl
 have rp:=p.rep
 match ds,rp,q with
 | d0::post,rp,q =>
  obtain ⟨hf,hp,q⟩:=q
  cases rp with
  | @cons _ v0 _ vs F0 G r0 rr =>
   obtain ⟨a,rfl,hF⟩:=r0.flat1 hf
   obtain ⟨hE,rr⟩:=rr.pure hp
   subst hF hE
   refine ⟨d0::post,a,_,by rw [List.append_nil];exact .cons (G:=[]) r0 rr,rfl,q,λv H' d d' F' rd' rd nd new kp hk=>?_⟩
   have ha:H a=none:=(own a (by simp)).1
   have same:Same H H':=λb ob eb=>kp b ob (sm b ob eb) λz=>by rw [z,ha] at eb;cases eb
   refine k v H' W1 d ρ1 F' (Post.fin s (FrW.refl H W1) (λ_=>⟨Same.refl H,rfl,rfl⟩) same rd nd λb hb=>?_) hk
   cases hq:H b with
   | none=>rfl
   | some ob=>have:=sm b ob hq;rw [new b hb] at this;cases this
theorem Qsv (ht:T.own i=false:=by rfl) (hN:X.N[i]? = some x:=by rfl) (hv:Vis X.env.scope x:=by first | exact Or.inl rfl | exact Or.inr (Or.inl rfl) | exact Or.inr (Or.inr rfl)) (hd:(x == ("__debug__" : Str))=false:=by decide)
  (hcd:(x == ("__classdict__" : Str))=false:=by decide):IV X T false true tg (.Name x p) (Qcj (wVar i)):=by
 refine ⟨_,Qc3 (Y4 hN hv hd hcd),λz R σ H W ρ Q RR s hw k=>?_⟩
 unfold Qcj wVar at hw
 cases hl:look ρ i with
 | none=>rw [hl] at hw;exact hw.elim
 | some d =>
 rw [hl] at hw
 have q:=hw
 obtain ⟨fp,s0⟩:=id s
 obtain ⟨v,h1,r0⟩:=s0.at_ i d hl
 have nW:∀b∈fp i,¬W b:=λb hb hw=>s0.wr b hw (s0.ro i d hl ht b hb)
 refine ⟨v,h1,?_⟩
 cases d with
 | tup ds =>
  obtain ⟨hp,q⟩:=q
  obtain ⟨hF,rp⟩:=r0.pure (by simpa [D.pure] using hp)
  cases rp with
  | @tup a xs _ _ e1 r =>
   refine ⟨a,rfl,.inr ⟨⟨xs,.of e1⟩,k _ H W ds ρ ⟨s,FrW.refl H W,λ_=>⟨Same.refl H,rfl,rfl⟩⟩ (λi H2 W2 f=>?_) q⟩⟩
   have e2:H2 a=some (.tup xs):=f.imm _ _ e1 rfl
   refine ⟨λhi=>⟨xs,.of e2,by rw [r.length];exact hi⟩,λd hd=>?_⟩
   obtain ⟨x,B,hx,rx,sx⟩:=r.get hd
   refine ⟨⟨xs,x,.of e2,hx⟩,λv H3 y=>?_⟩
   obtain ⟨rfl,y⟩:=y
   have:=y xs (.of e2)
   rw [hx] at this
   cases this
   exact ⟨Same.refl _,B,rx.keep f (λa ha=>(nomatch sx.subset ha)),(λa ha=>(nomatch sx.subset ha))⟩
 | lst ds =>
  generalize hfp:fp i=G at r0 nW
  cases r0 with
  | @lst a xs _ F e1 r =>
   refine ⟨a,rfl,.inl ⟨⟨xs,.of e1⟩,k _ H W ds ρ ⟨s,FrW.refl H W,λ_=>⟨Same.refl H,rfl,rfl⟩⟩ (λi H2 W2 f=>?_) q⟩⟩
   rw [Qbi] at f
   have e2:H2 a=some (.lst xs):=f.keep _ _ e1 (nW a List.mem_cons_self)
   refine ⟨λhi=>⟨xs,.of e2,by rw [r.length];exact hi⟩,λd hd=>?_⟩
   obtain ⟨x,B,hx,rx,sx⟩:=r.get hd
   refine ⟨⟨xs,x,.of e2,hx⟩,λv H3 y=>?_⟩
   obtain ⟨rfl,y⟩:=y
   have:=y xs (.of e2)
   rw [hx] at this
   cases this
   refine ⟨Same.refl _,B,rx.keep f λb hb=>nW b (List.mem_cons_of_mem _ (sx.subset hb)),λb hb hw=>?_⟩
   have hb':b∈a::F:=List.mem_cons_of_mem _ (sx.subset hb)
   rcases f.new b hw with h | h
   ·exact nW b hb' h
   ·obtain ⟨ob,e3,_⟩:=rx.dom b hb
    rw [h] at e3;cases e3
 | kc c =>
  cases c with
  | tup ks =>
   obtain ⟨-,rp⟩:=r0.pure (by rw [D.pure])
   cases rp with
   | kc h =>
    obtain ⟨a,xs,rfl,hs,ar⟩:=h.sqT
    exact ⟨a,rfl,.inr ⟨⟨xs,hs H⟩,k _ H W (ks.map kcD) ρ ⟨s,FrW.refl H W,λ_=>⟨Same.refl H,rfl,rfl⟩⟩ (Qsr hs ar) q⟩⟩
  | _=>exact (show False from q).elim
 | _=>exact (show False from q).elim
end
theorem sz0:(0<=sizeLine)=True:=propext ⟨λ_=>trivial,λ_=>by decide⟩
theorem sz1:(1<=sizeLine)=True:=propext ⟨λ_=>trivial,λ_=>by decide⟩
theorem sz2:(2<=sizeLine)=True:=propext ⟨λ_=>trivial,λ_=>by decide⟩
theorem sz3:(3<=sizeLine)=True:=propext ⟨λ_=>trivial,λ_=>by decide⟩
theorem sz5:(5<=sizeLine)=True:=propext ⟨λ_=>trivial,λ_=>by decide⟩
def cfOf (g:GI) (ds:List D) (Q:D->Prop):Prop:=match ds with
 | d0::post=>Va d0=true/\Qn post=true/\g (d0::post) λd _=>Q d
 | []=>False
theorem Qk0:Qe6 g wr ρ Q=wr ρ λds ρ1=>cfOf g ds λd=>Q d ρ1:=by
 unfold Qe6 cfOf
 rfl
theorem Quj {d0:D} {post:List D} {Q:D->Prop}:cfOf g (d0::post) Q=(Va d0=true/\Qn post=true/\g (d0::post) λd _=>Q d):=rfl
end PV
namespace L2
open PySem PySem.Spec PyProof.Rows
def tFrz (te:TE):TE:=λσ H Q=>te σ H λv H1=>∃a xs,v=.ref a/\H1 a=some (.lst xs)/\∀o,Q v (upd H1 a (.frz o (.lst xs)))
theorem Qm1 (he:PE X e te):PE X e (tFrz te):=by
 intro pins s σ H Q I h
 refine thn (he pins s σ H _ I h) λv s1 ⟨x,H1,I1,r1,q⟩=>?_
 obtain ⟨a,xs,rfl,ha,q⟩:=q
 obtain ⟨z,its,n,rv,hob⟩:=(show Ya X.prog X.w H1 s1.heap a (.lst xs) from I1.hok a _ ha)
 exact ⟨.ref a,_,I1.write (x:=a) (e:=a) (o:=.frz _ (.lst xs)) (t':=s1.toks) (by rw [ha];trivial) (.inl rfl) (λb u _ q=>q) ⟨_,hob⟩ (show Ya X.prog X.w _ s1.heap a (.frz _ (.lst xs)) from ⟨hob,z,its,n,rv,hob⟩),r1,q _⟩
end L2
variable {a:PySem.Addr} {k:List PV.D->Prop}
namespace PV
open PySem PySem.Spec L2 PyProof.Rows
def Qpq (d:D) (k:D->Prop):Prop:=match d with
 | .lst xs=>Qn xs=true/\k (.fls xs)
 | _=>False
def wFrz (w:WE):WE:=λρ Q=>w ρ λd ρ'=>Qpq d λd'=>Q d' ρ'
theorem Qnc (h:EV X T m true e w):EV X T m true e (wFrz w):=by
 obtain ⟨te,pe,ge⟩:=h
 refine ⟨_,Qm1 pe,λz R σ H W ρ Q Q' s hw k=>?_⟩
 refine ge z R σ H W ρ _ _ s hw λv H1 W1 d ρ1 F p q=>?_
 cases d with
 | lst xs =>
  obtain ⟨hp,q⟩:=q
  obtain ⟨sr,fr,calm,rep,own⟩:=p
  obtain ⟨nd,own⟩:=own rfl
  cases rep with
  | @lst a ys _ G e1 r =>
   obtain ⟨hG,r⟩:=r.pure hp
   subst hG
   obtain ⟨ha,hW⟩:=own a List.mem_cons_self
   have hR:¬R a:=s.nr ha
   refine ⟨a,ys,rfl,e1,λob=>?_⟩
   have im:ImmK H1 (upd H1 a (.frz ob (.lst ys))):=Vl e1 rfl
   have ne:∀{b:Addr} {u:HO},H b=some u->b≠a:=λ{b u} hb z=>by rw [z,ha] at hb;cases hb
   have sr':SR X.K T z R (upd H1 a (.frz ob (.lst ys))) W1 σ ρ1:=by
    obtain ⟨fp,s0⟩:=sr
    have off:∀i d,look ρ1 i=some d->∀b∈fp i,b≠a:=λi d hl b hb hz=>by
     subst hz
     cases ht:T.own i with
     | true=>exact hW ((s0.own i d hl ht).2 b hb)
     | false=>exact hR (s0.ro i d hl ht b hb)
    refine ⟨fp,s0.len,λb hb=>?_,λi d hl=>?_,s0.own,s0.ro,s0.wr,λb hb=>?_,s0.dis,s0.fix⟩
    ·obtain ⟨u,h1,h2⟩:=s0.wd b hb
     exact ⟨u,by rw [Qg (show b≠a from λhz=>hW (by rw [← hz];exact hb))];exact h1,h2⟩
    ·obtain ⟨v,h1,h2⟩:=s0.at_ i d hl
     exact ⟨v,h1,h2.frame im λb hb=>Qg (off i d hl b hb)⟩
    ·obtain ⟨u,h1,h2⟩:=s0.rd b hb
     exact ⟨u,by rw [Qg (show b≠a from λhz=>hR (by rw [← hz];exact hb))];exact h1,h2⟩
   have fr':FrW H W (upd H1 a (.frz ob (.lst ys))) W1:=by
    refine ⟨λb u hb hn=>?_,λb hb=>?_,λb u hb hi=>?_,fr.new⟩
    ·rw [Qg (ne hb)];exact fr.keep b u hb hn
    ·by_cases hz:b=a
     ·rw [hz];exact ha
     ·rw [Qg hz] at hb;exact fr.dom b hb
    ·rw [Qg (ne hb)];exact fr.imm b u hb hi
   refine k _ _ W1 (.fls xs) ρ1 [] ⟨sr',fr',λhm=>?_,.fls Qi (r.frame im λb hb=>nomatch hb),λ_=>⟨List.nodup_nil,λb hb=>nomatch hb⟩⟩ q
   obtain ⟨c1,c2,c3⟩:=calm hm
   exact ⟨λb u hb=>by rw [Qg (ne hb)];exact c1 b u hb,c2,c3⟩
 | _=>exact (show False from q).elim
def Qs1 (d:D) (k:List D->Prop):Prop:=match d with
 | .fls ds=>k ds
 | _=>False
def Qnq (w:WE):WL:=λρ Q=>w ρ λd ρ'=>Qs1 d λds=>Q ds ρ'
theorem Qsx (h:EV X T m o e w):IV X T m true tg e (Qnq w):=by
 obtain ⟨te,pe,ge⟩:=h
 refine ⟨_,Qc3 pe,λz R σ H W ρ Q RR s hw k=>?_⟩
 refine ge z R σ H W ρ _ _ s hw λv H1 W1 d ρ1 F p q=>?_
 cases d with
 | fls ds =>
  obtain ⟨p1,p2,p3,p4,p5⟩:=p
  cases p4 with
  | @fls a ob xs _ e1 r =>
   have fz:FzL X.K H1 a xs:=.inl ⟨ob,e1⟩
   refine ⟨a,rfl,.inl ⟨⟨xs,fz.sq⟩,k _ H1 W1 ds ρ1 ⟨p1,p2,p3⟩ (λi H2 W2 f=>?_) q⟩⟩
   have e2:=f.imm.fzL fz
   refine ⟨λhi=>⟨xs,e2.sq,by rw [r.length];exact hi⟩,λd hd=>?_⟩
   obtain ⟨x,B,hx,rx,sx⟩:=r.get hd
   refine ⟨⟨xs,x,e2.sq,hx⟩,λv H3 y=>?_⟩
   obtain ⟨rfl,y⟩:=y
   have:=y xs e2.sq
   rw [hx] at this
   cases this
   exact ⟨Same.refl _,B,rx.keep f (λa ha=>(nomatch sx.subset ha)),(λa ha=>(nomatch sx.subset ha))⟩
 | _=>exact (show False from q).elim
theorem SR0.freezeL {W:Addr->Prop} {s:Nat} {kvs:List V} {ob:Obj} (h:SR0 K T z R H W σ ρ fp)
  (hl:look ρ s=some (.lst ds)) (ht:T.own s=true) (hv:σ[s]? = some (some (.ref a))) (e:H a=some (.lst kvs)) (r:Reps K H ds kvs []) (hF:fp s=[a]) :
  SR K T z R (upd H a (.frz ob (.lst kvs))) (λb=>W b/\b≠a) σ (ρ.set s (some (.fls ds))):=by
 obtain ⟨nd,sw⟩:=h.own s _ hl ht
 rw [hF] at nd sw
 obtain ⟨na,ndF⟩:=List.nodup_cons.mp nd
 have hWa:=sw a List.mem_cons_self
 have hRa:¬R a:=h.wr a hWa
 have hi:ImmK H (upd H a (.frz ob (.lst kvs))):=Vl e rfl
 have notin:∀j d,look ρ j=some d->j≠s->a∉fp j:=λj d hj hne ha=>by
  cases hto:T.own j with
  | true=>exact h.dis s j _ d hl hj ht hto (λz=>hne z.symm) a (by rw [hF];exact List.mem_cons_self) ha
  | false=>exact hRa (h.ro j d hj hto a ha)
 refine ⟨λj=>if j=s then [] else fp j,?_,?_,?_,?_,?_,?_,?_,?_,h.fix⟩
 ·rw [List.length_set];exact h.len
 ·rintro b ⟨hb,hne⟩
  rw [Qg hne];exact h.wd b hb
 ·intro j d hj
  by_cases hjs:j=s
  ·subst hjs
   rw [Z1 (Ge hl)] at hj
   cases hj
   exact ⟨_,hv,by rw [if_pos rfl];exact .fls Qi (r.upd e rfl (λh=>nomatch h))⟩
  ·rw [Qq hjs] at hj
   obtain ⟨u,h1,h2⟩:=h.at_ j d hj
   refine ⟨u,h1,?_⟩
   rw [if_neg hjs]
   exact h2.frame hi λb hb=>Qg λz=>notin j d hj hjs (z ▸ hb)
 ·intro j d hj hto
  by_cases hjs:j=s
  ·subst hjs
   simp only [if_pos]
   exact ⟨List.nodup_nil,λb hb=>nomatch hb⟩
  ·rw [Qq hjs] at hj
   simp only [if_neg hjs]
   exact ⟨(h.own j d hj hto).1,λb hb=>⟨(h.own j d hj hto).2 b hb,λz=>notin j d hj hjs (z ▸ hb)⟩⟩
 ·intro j d hj hto
  have hjs:j≠s:=λz=>by subst z;rw [ht] at hto;cases hto
  rw [Qq hjs] at hj
  simp only [if_neg hjs]
  exact h.ro j d hj hto
 ·exact λb hb hr=>h.wr b hb.1 hr
 ·intro b hr
  rw [Qg (show b≠a from λz=>hRa (z ▸ hr))];exact h.rd b hr
 ·intro j k d d' hj hk tj tk hne b hb hb'
  by_cases hjs:j=s
  ·subst hjs
   have hkj:k≠j:=λz=>hne z.symm
   rw [Qq hkj] at hk
   simp only [if_pos,if_neg hkj] at hb hb'
   exact nomatch hb
  ·rw [Qq hjs] at hj
   simp only [if_neg hjs] at hb
   by_cases hks:k=s
   ·subst hks
    simp only [if_pos] at hb'
    exact nomatch hb'
   ·rw [Qq hks] at hk
    simp only [if_neg hks] at hb'
    exact h.dis j k d d' hj hk tj tk hne b hb hb'
def Qsc (d:D) (k:List D->Prop):Prop:=match d with
 | .lst ds=>Qn ds=true/\k ds
 | _=>False
def Xi (s:Nat):WL:=λρ Q=>oget (look ρ s) λc=>Qsc c λds=>Q ds (ρ.set s (some (.fls ds)))
theorem Qjd {s:Nat} (ht:T.own s=true:=by rfl) (hN:X.N[s]? = some x:=by rfl) (hv:Vis X.env.scope x:=by first | exact Or.inl rfl | exact Or.inr (Or.inl rfl) | exact Or.inr (Or.inr rfl)) (hd:(x == ("__debug__" : Str))=false:=by decide)
  (hcd:(x == ("__classdict__" : Str))=false:=by decide):IV X T true true tg (.Name x p) (Xi s):=by
 refine ⟨_,Qc3 (Qm1 (Y4 hN hv hd hcd)),λz R σ H W ρ Q RR sr hw k=>?_⟩
 obtain ⟨c,hl,hw⟩:=Ql hw
 obtain ⟨ds,rfl⟩:∃ds,c=D.lst ds:=by
  clear hl
  cases c with
  | lst ds=>exact ⟨ds,rfl⟩
  | _=>exact (show False from hw).elim
 obtain ⟨hp,hw⟩:=hw
 obtain ⟨fp,s0⟩:=id sr
 obtain ⟨v,hv0,r0⟩:=s0.at_ s _ hl
 obtain ⟨a,ys,rfl,e,r,hF⟩:∃(a:Addr) (ys:List V),v=.ref a/\H a=some (.lst ys)/\Reps X.K H ds ys []/\fp s=[a]:=by
  generalize fp s=Fi at r0
  cases r0 with
  | @lst a ys _ F e1 r =>
   obtain ⟨hG,r⟩:=r.pure hp
   exact ⟨a,ys,rfl,e1,r,by rw [hG]⟩
 have hWa:W a:=(s0.own s _ hl ht).2 a (by rw [hF];exact List.mem_cons_self)
 refine ⟨_,hv0,a,ys,rfl,e,λob=>⟨a,rfl,.inl ⟨⟨ys,.inl (.inr ⟨ob,Qi⟩)⟩,k _ _ (λb=>W b/\b≠a) ds _ ⟨s0.freezeL hl ht hv0 e r hF,⟨λb u eb nb=>?_,λb eb=>?_,Vl e rfl,λb hb=>.inl hb.1⟩,λh=>nomatch h⟩ ?_ hw⟩⟩⟩
 ·rw [Qg (show b≠a from λz=>nb (by rw [z];exact hWa))];exact eb
 ·by_cases hb:b=a
  ·rw [hb,Qi] at eb;cases eb
  ·rw [Qg hb] at eb;exact eb
 ·rw [Qbi]
  intro i H2 W2 f
  have fz:FzL X.K (upd H a (.frz ob (.lst ys))) a ys:=.inl ⟨ob,Qi⟩
  have r':Reps X.K (upd H a (.frz ob (.lst ys))) ds ys []:=r.upd e rfl (λh=>nomatch h)
  have e2:=f.imm.fzL fz
  refine ⟨λhi=>⟨ys,e2.sq,by rw [r.length];exact hi⟩,λd hd=>?_⟩
  obtain ⟨x,B,hx,rx,sx⟩:=r'.get hd
  refine ⟨⟨ys,x,e2.sq,hx⟩,λv H3 y=>?_⟩
  obtain ⟨rfl,y⟩:=y
  have:=y ys e2.sq
  rw [hx] at this
  cases this
  exact ⟨Same.refl _,B,rx.keep f (λa ha=>(nomatch sx.subset ha)),(λa ha=>(nomatch sx.subset ha))⟩
theorem Qms:Qsc (.lst xs) k=(Qn xs=true/\k xs):=rfl
theorem Qq3 {k:D->Prop}:Qpq (.lst xs) k=(Qn xs=true/\k (.fls xs)):=rfl
theorem Qq4:Qs1 (.fls xs) k=k xs:=rfl
end PV
variable {b:Bool} {i:Int} {ys:List PV.D}
namespace PV
open PySem PySem.Spec L2
theorem Vm {α:Type} (xs:List α) (j:Nat):L2.atI xs (j:Int)=xs[j]?:=by
 unfold L2.atI ixN
 rw [if_pos (by omega)]
 by_cases h:j<xs.length
 ·rw [if_pos (by omega)];simp
 ·rw [if_neg (by omega)];simp;omega
theorem Qe3 {α:Type} (xs:List α):L2.atI xs 0=xs[0]?:=Vm xs 0
theorem Qkl {α:Type} (xs:List α):L2.atI xs 1=xs[1]?:=Vm xs 1
theorem Qp9 {α:Type} (xs:List α):L2.atI xs 2=xs[2]?:=Vm xs 2
theorem Qvs {α:Type} (xs:List α):L2.atI xs 3=xs[3]?:=Vm xs 3
theorem Qdh {j:Nat} (h:j<n):ixN n (j:Int)=some j:=by
 unfold ixN
 rw [if_pos (by omega),if_pos (by omega)];simp
theorem Qu8 (h:0<n):ixN n 0=some 0:=Qdh h
theorem Qu7 (h:1<n):ixN n 1=some 1:=Qdh h
theorem Qm {α:Type} {d:α} {k:α->Prop}:oget (some d) k=k d:=rfl
theorem Jf {i:Nat}:wVar i ρ Q=oget (look ρ i) λd=>Q d ρ:=by
 unfold wVar oget
 cases look ρ i <;> rfl
section
variable {j:Int} {k:D->Prop}
theorem Qgs:dSub (.int i) (.int j) k=k (.int (i-j)):=rfl
theorem Qqy:dMul (.int i) (.int j) k=(CMul i j/\k (.int (i*j))):=rfl
theorem Quc:dDiv (.int i) (.int j) k=((0<j/\j<1073741824/\k (.int (i / j)))\/(j<0/\j.natAbs<1073741824/\k (.int (i.fdiv j)))):=rfl
theorem Qt9:dMod (.int i) (.int j) k=((0<j/\k (.int (i % j)))\/(j<0/\k (.int (i.fmod j)))):=rfl
theorem Qt5:dPow (.int i) (.int j) k=(CPow i j/\k (.int (i ^ j.toNat))):=rfl
theorem Qei:dEq (.int i) (.int j) k=k (.bl (decide (i=j))):=rfl
theorem Qt8:dNe (.int i) (.int j) k=k (.bl (!decide (i=j))):=rfl
theorem Qid:dEq (.str x) (.str y) k=k (.bl (decide (x=y))):=rfl
theorem Qt6:dNe (.str x) (.str y) k=k (.bl (!decide (x=y))):=rfl
theorem Qog:dEq (.lst xs) d k=(eqOk 9 (.lst xs)=true/\eqOk 9 d=true/\(.lst xs=d->k (.bl true))/\(.lst xs≠d->k (.bl false))):=by cases d <;> rfl
theorem Qt7:dNe (.lst xs) d k=(eqOk 9 (.lst xs)=true/\eqOk 9 d=true/\(.lst xs=d->k (.bl false))/\(.lst xs≠d->k (.bl true))):=by cases d <;> rfl
theorem Qgt {f:Int->Int->Bool}:dCmp f (.int i) (.int j) k=k (.bl (f i j)):=rfl
theorem V7:dIx (.lst xs) (.int i) k=oget (L2.atI xs i) k:=rfl
theorem Qub:dIx (.kls xs) (.int i) k=oget (L2.atI xs i) k:=rfl
theorem Qcx:dLen [.lst xs] k=k (.int xs.length):=rfl
theorem Qic:dInt [.bl b] k=k (.int (if b then 1 else 0)):=rfl
theorem Qeh {t:Ty}:dIsi [d,.ty t] k=oget (isiD d t) λb=>k (.bl b):=rfl
theorem Qqu:dSet (.lst xs) (.int i) d k=oget (ixN xs.length i) λn=>k (.lst (xs.set n d)):=rfl
end
theorem Qq0:Qb8 (.lst xs) [d] kk=(xs.length<sizeLine/\kk .non (.lst (xs++[d]))):=rfl
section
variable {j:Int} {k:D->Prop}
theorem Qmq (h:0<j) (h2:j<1073741824):dDiv (.int i) (.int j) k=k (.int (i / j)):=by
 rw [Quc]
 apply propext
 exact ⟨λq=>q.elim (λz=>z.2.2) (λz=>absurd z.1 (by omega)),λq=>.inl ⟨h,h2,q⟩⟩
theorem Qib (h:0<j):dMod (.int i) (.int j) k=k (.int (i % j)):=by
 rw [Qt9]
 apply propext
 exact ⟨λq=>q.elim (λz=>z.2) (λz=>absurd z.1 (by omega)),λq=>.inl ⟨h,q⟩⟩
theorem Qmp (h:-18446744073709551616<i) (h2:i<18446744073709551616):dMul (.int i) (.int j) k=k (.int (i*j)):=by
 rw [Qqy]
 exact propext ⟨λq=>q.2,λq=>⟨.inl ⟨by omega,by omega⟩,q⟩⟩
theorem Qqx (h:-18446744073709551616<j) (h2:j<18446744073709551616):dMul (.int i) (.int j) k=k (.int (i*j)):=by
 rw [Qqy]
 exact propext ⟨λq=>q.2,λq=>⟨.inr ⟨by omega,by omega⟩,q⟩⟩
theorem Qqw (h:0<=j) (h2:j<=1000000) (h3:-18446744073709551616<i) (h4:i<18446744073709551616):dPow (.int i) (.int j) k=k (.int (i ^ j.toNat)):=by
 rw [Qt5]
 exact propext ⟨λq=>q.2,λq=>⟨⟨h,h2,by omega⟩,q⟩⟩
end
def blOf (d:D) (k:Bool->Prop):Prop:=match d with
 | .bl b=>k b
 | _=>False
theorem r_bl {Q:Bool->Env->Prop}:wBl w ρ Q=w ρ λd ρ'=>blOf d λb=>Q b ρ':=by
 show (w ρ λd ρ'=>match d with | .bl b=>Q b ρ' | _=>False)=_
 rfl
theorem Ji {k:Bool->Prop}:blOf (.bl b) k=k b:=rfl
def Qnv (d:D) (k:Bool->Prop):Prop:=oget (truD d) k
theorem Ux {Q:Bool->Env->Prop}:wTru w ρ Q=w ρ λd ρ'=>Qnv d λb=>Q b ρ':=by
 unfold wTru
 congr 1
 funext d ρ'
 unfold Qnv oget
 cases truD d <;> rfl
theorem Yc {k:Bool->Prop}:Qnv (.bl b) k=k b:=rfl
def Qod (d:D) (k:List D->Prop):Prop:=match d with
 | .tup ds=>Qn ds=true/\k ds
 | .lst ds=>k ds
 | .kc (.tup ks)=>k (ks.map kcD)
 | _=>False
theorem Qkz {Q:List D->Env->Prop}:Qcj w ρ Q=w ρ λd ρ'=>Qod d λds=>Q ds ρ':=by
 show (w ρ λd ρ'=>match d with | .tup ds=>Qn ds=true/\Q ds ρ' | .lst ds=>Q ds ρ' | .kc (.tup ks)=>Q (ks.map kcD) ρ' | _=>False)=_
 rfl
theorem Qqv:Qod (.tup xs) k=(Qn xs=true/\k xs):=rfl
theorem Qh9:Qod (.lst xs) k=k xs:=rfl
def Qsh (d:D) (k:List D->Prop):Prop:=match d with
 | .kls ds=>k ds
 | _=>False
theorem Qua {Q:List D->Env->Prop}:Qnp w ρ Q=w ρ λd ρ'=>Qsh d λds=>Q ds ρ':=by
 show (w ρ λd ρ'=>match d with | .kls ds=>Q ds ρ' | _=>False)=_
 rfl
theorem Qqz:Qsh (.kls xs) k=k xs:=rfl
def Qsy (d:D) (k:Option Int->Prop):Prop:=match d with
 | .int i=>k (some i)
 | _=>False
theorem Go {Q:Option Int->Env->Prop}:Jj w ρ Q=w ρ λd ρ'=>Qsy d λi=>Q i ρ':=by
 show (w ρ λd ρ'=>match d with | .int i=>Q (some i) ρ' | _=>False)=_
 rfl
theorem Vh {k:Option Int->Prop}:Qsy (.int i) k=k (some i):=rfl
theorem Qq1:Qkn wa wb ρ Q=wa ρ λd ρ1=>blOf d λc=>if c=true then wb ρ1 Q else Q (.bl false) ρ1:=by
 show (wa ρ λd ρ1=>match d with | .bl c=>if c=true then wb ρ1 Q else Q (.bl false) ρ1 | _=>False)=_
 rfl
def Qmn (ds:List D) (k:List D->Prop):Prop:=match ds with
 | [.int j]=>-(2 ^ 62)<=j/\j<2 ^ 62/\k (rngD 0 j.toNat)
 | _=>False
theorem Qmo {Q:List D->Env->Prop}:Qhn wr ρ Q=wr ρ λds ρ'=>Qmn ds λl=>Q l ρ':=by
 show (wr ρ λds ρ'=>match ds with | [.int j]=>-(2 ^ 62)<=j/\j<2 ^ 62/\Q (rngD 0 j.toNat) ρ' | _=>False)=_
 rfl
theorem Qia {j:Int}:Qmn [.int j] k=(-(2 ^ 62)<=j/\j<2 ^ 62/\k (rngD 0 j.toNat)):=rfl
theorem Qqt:tyD (some (.lst xs)) t=(t == "list"):=rfl
theorem Zo:Va (.lst xs)=Qn xs:=rfl
theorem Qc0 {α:Type} {f:α->D} {l:List α} (h:∀a∈l,(f a).pure=true):Qn (l.map f)=true:=by
 rw [Xt]
 intro x hx
 obtain ⟨a,ha,rfl⟩:=List.mem_map.mp hx
 exact h a ha
def Qp6 (ds:List D) (wt:WT) (we:WE) (ρ1:Env) (ix:List Nat) (Q:D->Env->Prop):Prop:=∃I:Nat->List D->Prop,I 0 [] /\
 (∀i d ys,ds[i]? = some d->I i ys->ys.length<sizeLine/\wt (blkE ρ1 d ix) λb _=>if b=true then we (blkE ρ1 d ix) (λy _=>I (i+1) (ys++[y])) else I (i+1) ys) /\
 ∀ys,I ds.length ys->ys.length<=sizeLine/\Q (.lst ys) ρ1
theorem Qie {wt:WT}:Qhq wl wt we ix ρ Q=wl ρ λds ρ1=>Qp6 ds wt we ρ1 ix Q:=rfl
theorem Qdw (f:D->D) (hz:ds.length<sizeLine) (he:∀d∈ds,∀Q':D->Env->Prop,Q' (f d) (blkE ρ1 d ix)->we (blkE ρ1 d ix) Q') (hQ:Q (.lst (ds.map f)) ρ1):Qp6 ds wAll we ρ1 ix Q:=by
 refine ⟨λi ys=>ys=(ds.take i).map f/\i<=ds.length,⟨by simp,Nat.zero_le _⟩,λi d ys hd ⟨hy,hi⟩=>?_,λys ⟨hy,_⟩=>?_⟩
 ·have hlt:=(List.getElem?_eq_some_iff.mp hd).1
  refine ⟨by rw [hy];simp;omega,?_⟩
  simp only [wAll,reduceIte]
  refine he d (List.mem_of_getElem? hd) _ ⟨?_,hlt⟩
  rw [hy,List.take_add_one,hd]
  simp
 ·rw [hy,List.take_length]
  exact ⟨by simp;omega,hQ⟩
def forI (ds:List D) (wg:WG) (wb:WS) (P:EndsP) (ρ1:Env):Prop:=∃I:Nat->Env->Prop,I 0 ρ1 /\
 (∀i d ρ,ds[i]? = some d->I i ρ->wg d ρ λρ'=>wb { P with nx:=I (i+1),ct:=I (i+1),bk:=P.nx } ρ')/\∀ρ,I ds.length ρ->P.nx ρ
theorem Gz {wg:WG} {wb:WS} {P:EndsP}:wFor wl wg wb P ρ=wl ρ λds ρ1=>Qn ds=true/\forI ds wg wb P ρ1:=rfl
end PV
namespace PV
open PySem PySem.Spec L2
open PyProof.Rows (envOfC)
abbrev GX:=List D->(D->Prop)->(D->Prop)->Prop
end PV
variable {k:PV.D->Prop} {sl:Array (Option PySem.Value)} {q:PySem.Str} {o3:Bool}
namespace PV
open PySem PySem.Spec L2
open PyProof.Rows (envOfC)
abbrev atN (K:PySem.W.Frag) (x:Str) (C:Addr):Prop:=PySem.W.nsIn K mainGlobals x=some (some (.ref C))
def Gi (X:Cx) (T:Tg) (x:Str) (C:Addr):Prop:=∀pins σ H s h1 e vs,Inv X pins σ H s->Heap.MadeExcOf s.heap h1 e (.ref C) vs->T.xe (.obj x []) σ H->X.xe (.ref e) { s with heap:=h1 }
def EndsP.un (P:EndsP) (j:Nat):EndsP:={ nx:=λρ=>P.nx (ρ.set j none),rt:=P.rt,bk:=λρ=>P.bk (ρ.set j none),ct:=λρ=>P.ct (ρ.set j none) }
theorem SR.unset {W:Addr->Prop} {j:Nat} (hj:j∉T.io) (s:SR K T z R H W σ ρ):SR K T z R H W (σ.set j none) (ρ.set j none):=by
 obtain ⟨fp,s⟩:=s
 have key:∀i d,look (ρ.set j none) i=some d->i≠j/\look ρ i=some d:=λi d h=>by
  rw [Vr] at h
  split at h
  ·cases h
  ·rename_i hn
   refine ⟨λz=>hn ⟨z,?_⟩,h⟩
   rw [← z];exact Ge h
 refine ⟨fp,by rw [List.length_set,List.length_set];exact s.len,s.wd,λi d h=>?_,λi d h=>s.own i d (key i d h).2,λi d h=>s.ro i d (key i d h).2,s.wr,s.rd,λi k d d' h h'=>s.dis i k d d' (key i d h).2 (key k d' h').2,λi hi=>?_⟩
 ·obtain ⟨h1,h2⟩:=key i d h
  obtain ⟨v,e1,e2⟩:=s.at_ i d h2
  exact ⟨v,by rw [List.getElem?_set_ne (Ne.symm h1)];exact e1,e2⟩
 ·rw [List.getElem?_set_ne (λz=>hj (by rw [z];exact hi))]
  exact s.fix i hi
def Qmc (g:GX):GA:=λds k=>g ds k λ_=>False
def G7 (es:Array DictEntry):Bool:=es.toList.all λe=>match e.key with
 | .str _ _=>true
 | _=>false
theorem Qgo {es:Array DictEntry} (h:G7 es=true):StrKeys es:=λe he=>by
 have:=List.all_eq_true.mp h e (by simpa using he)
 split at this
 ·rename_i n t q;exact ⟨n,t,q⟩
 ·cases this
theorem Qu1 {h:Heap} {es:Array DictEntry} {ep:Nat} (X:K.In h) (l:K.lookup a=some ⟨oc,od,.dict es ep,sl⟩) (s:G7 es=true):h.Ns a (nsFind es):=⟨_,es,ep,X _ _ l,rfl,Qgo s,λ_=>rfl⟩
theorem Qll:PySem.W.kitOne K (.ref C) (.ref C)=some true:=by unfold PySem.W.kitOne;rw [if_pos (by simp)]
theorem Qb7 {D:Addr} (hne:(Value.ref C == Value.ref D)=false) (h1:PySem.W.clsIn K D=some cd) (h2:PySem.W.typeIn K (.ref D)=some (.type "type")) (h3:PySem.W.subIn K (.ref C) (.ref D)=some b):PySem.W.kitOne K (.ref C) (.ref D)=some b:=by
 unfold PySem.W.kitOne
 rw [if_neg (by rw [hne];decide)]
 show (if ((PySem.W.clsIn K D).isSome && PySem.W.typeIn K (.ref D) == some (.type "type"))=true then PySem.W.subIn K (.ref C) (.ref D) else none)=some b
 rw [if_pos (by rw [h1,h2];rfl)]
 exact h3
theorem Qpj (h3:PySem.W.subIn K (.ref C) (.type "ValueError")=some b):PySem.W.kitOne K (.ref C) (.type "ValueError")=some b:=by
 unfold PySem.W.kitOne
 rw [if_neg (by intro z;cases (beq_iff_eq.mp z))]
 show (if PySem.W.kitMeta "ValueError" = true then PySem.W.subIn K (.ref C) (.type "ValueError") else none)=some b
 rw [if_pos (by decide +kernel)]
 exact h3
theorem Qs2 {D:Addr} (h0:PySem.W.subIn K (.ref D) (.type "BaseException")=some true) (h1:PySem.W.clsIn K D=some cd) (h2:PySem.W.typeIn K (.ref D)=some (.type "type")) (h3:PySem.W.subIn K (.ref C) (.ref D)=some b):PySem.W.exmOne K (.ref C) (.ref D)=some b:=by
 unfold PySem.W.exmOne
 rw [if_pos (by rw [h0];rfl)]
 show (if ((PySem.W.clsIn K D).isSome && PySem.W.typeIn K (.ref D) == some (.type "type"))=true then PySem.W.subIn K (.ref C) (.ref D) else none)=some b
 rw [if_pos (by rw [h1,h2];rfl)]
 exact h3
section
variable {p2 q:Pos} {v:Str} {cv:V} {cl:Value} {i:Nat}
def wIsx (i:Nat) (tab:Str->Option Bool):WE:=λρ Q=>oget (look ρ i) λd=>match d with
 | .obj x _=>oget (tab x) λk=>Q (.bl k) ρ
 | _=>False
theorem Qdt {tab:Str->Option Bool} (hb:X.mg "isinstance" = none) (hy:PE X (.Name y q) (tC cv)) (hcv:clsV cv=some cl) (ht:∀x k C,tab x=some k->atN X.K x C->ExcQ X.K C/\PySem.W.kitOne X.K (.ref C) cl=some k)
  (hN:X.N[i]? = some v:=by rfl) (hv:Vis X.env.scope v:=by first | exact Or.inl rfl | exact Or.inr (Or.inl rfl) | exact Or.inr (Or.inr rfl)) (hg:Gl X "isinstance":=by rfl) (hd:(v == ("__debug__" : Str))=false:=by decide) (hcd:(v == ("__classdict__" : Str))=false:=by decide)
  (he:starEach [.Name v p2,.Name y q] X.env=(false,eval (.Name v p2) X.env)::starEach [.Name y q] X.env:=by rfl) (he2:starEach [.Name y q] X.env=(false,eval (.Name y q) X.env)::starEach [] X.env:=by rfl) (hpl:(backTo pos (starEach [.Name y q] X.env)).any (·.1)=false:=by rfl) :
  EV X T false true (.Call (.Name "isinstance" p) [.Name v p2,.Name y q] [] pos) (wIsx i tab):=by
 refine ⟨_,Qby (Qme F.attrBase_ValueError) hg hb Z3 (Zp (Y4 hN hv hd hcd) (Zp hy Qa7 he2) he) (by decide) (by decide) he hpl,λz R σ H W ρ Q Q' s hw k=>?_⟩
 obtain ⟨d,hl,hq⟩:=Ql hw
 obtain ⟨fp,s0⟩:=id s
 obtain ⟨u,h1,h2⟩:=s0.at_ i d hl
 generalize fp i=Fi at h2
 match d,h2,hq with
 | .obj x fs,h2,hq =>
  obtain ⟨r,hr,hq⟩:=Ql hq
  cases h2 with
  | @obj a1 _ ob φ _ e1 hc hf =>
   obtain ⟨C,hc,hn⟩:=hc
   obtain ⟨q1,q2⟩:=ht x r C hr hn
   exact ⟨_,h1,a1,ob,φ,C,cv,cl,r,rfl,e1,hc,q1,hcv,q2,k (.bl r) H W (.bl r) ρ [] (Post.flat s (FrW.refl H W) (λ_=>⟨Same.refl H,rfl,rfl⟩) (.bl r)) hq⟩
end
end PV
variable {b c:Nat} {r:List PySem.Str}
namespace PV
open PySem PySem.Spec L2
theorem Qon:dIs false .non .non k=k (.bl true):=rfl
section
variable {j:Int}
theorem Vi:Q9 (.int i) (.int j) k=k (.int (i+j)):=rfl
theorem V9:Q9 (.str x) (.str y) k=(x.length+y.length<=sizeLine/\k (.str (x++y))):=rfl
theorem Qbx:Q9 (.lst xs) (.lst ys) k=(Qn xs=true/\Qn ys=true/\xs.length+ys.length<=sizeLine/\k (.lst (xs++ys))):=rfl
theorem Qcy:dSlT (.lst xs) lo hi k=(Qn xs=true/\k (.lst (cutD xs lo hi))):=rfl
theorem Qq6:dSlT (.kls xs) lo hi k=(Qn xs=true/\k (.lst (cutD xs lo hi))):=rfl
end
theorem Qus {a b c:D} {r:Int} (h0:0<=r) (h1:r<4):L2.atI [a,b,c,d] r=some a\/L2.atI [a,b,c,d] r=some b\/L2.atI [a,b,c,d] r=some c\/L2.atI [a,b,c,d] r=some d:=by
 have:r=0\/r=1\/r=2\/r=3:=by omega
 rcases this with rfl | rfl | rfl | rfl
 ·exact .inl rfl
 ·exact .inr (.inl rfl)
 ·exact .inr (.inr (.inl rfl))
 ·exact .inr (.inr (.inr rfl))
theorem V6 {lo:Int}:(rngD lo n).length=n:=by simp [rngD]
theorem Qfk {lo:Int} {i:Nat} (h:(rngD lo n)[i]? = some d):i<n/\d=.int (lo+(i:Int)):=by
 have hi:i<n:=by have:=(List.getElem?_eq_some_iff.mp h).1;rwa [V6] at this
 simp only [rngD,List.getElem?_map,List.getElem?_range hi,Option.map_some,Option.some.injEq] at h
 exact ⟨hi,h.symm⟩
theorem Qcz {lo:Int}:Qn (rngD lo n)=true:=Qc0 λ_ _=>rfl
theorem Xs:Qn (ns.map D.int)=true:=Qc0 λ_ _=>rfl
theorem Qte:cutD ds none (some (b:Int))=ds.take b:=by
 unfold cutD
 rw [HT.Qbu,HT.Qfh,List.drop_zero,Nat.sub_zero]
 by_cases h:b<=ds.length
 ·rw [Nat.min_eq_left h]
 ·rw [Nat.min_eq_right (by omega),List.take_of_length_le (by omega),List.take_of_length_le (by omega)]
def rowD (c n:Int):D:=.lst [.int c,.int n]
theorem len1 {α:Type}:∀{us:List α},us.length=1->∃a,us=[a]
 | [a],_=>⟨a,rfl⟩
theorem len2 {α:Type} {us:List α} (h:us.length=2):∃a b,us=[a,b]:=by
 cases us with
 | nil=>cases h
 | cons a us=>obtain ⟨b,rfl⟩:=len1 (Nat.succ.inj h);exact ⟨a,b,rfl⟩
theorem len3 {α:Type} {us:List α} (h:us.length=3):∃a b c,us=[a,b,c]:=by
 cases us with
 | nil=>cases h
 | cons a us=>obtain ⟨b,c,rfl⟩:=len2 (Nat.succ.inj h);exact ⟨a,b,c,rfl⟩
end PV
variable {ws:List PySem.Str}
namespace S03
open PySem PySem.Spec L2 PV
open PySem.Builtin.Str (glued)
def jl (c:Nat):List (List Nat)->List Nat
 | []=>[]
 | [w]=>w
 | w::v::r=>w++c::jl c (v::r)
theorem Qnh {c:Nat}:∀{a b s t:List Nat},c∉a->c∉b->a++c::s=b++c::t->a=b/\s=t
 | [],[],s,t,_,_,h=>⟨rfl,by simpa using h⟩
 | [],y::b,s,t,_,hb,h=>by
  have:c=y:=by simpa using (List.cons.inj h).1
  exact absurd (this ▸ List.mem_cons_self) hb
 | x::a,[],s,t,ha,_,h=>by
  have:x=c:=by simpa using (List.cons.inj h).1
  exact absurd (this ▸ List.mem_cons_self) ha
 | x::a,y::b,s,t,ha,hb,h=>by
  obtain ⟨h1,h2⟩:=List.cons.inj h
  obtain ⟨h3,h4⟩:=Qnh (λm=>ha (List.mem_cons_of_mem _ m)) (λm=>hb (List.mem_cons_of_mem _ m)) h2
  exact ⟨by rw [h1,h3],h4⟩
theorem Qm9 {c:Nat}:∀{ws vs:List (List Nat)},ws≠[]->vs≠[]->(∀w∈ws,c∉w)->(∀w∈vs,c∉w)->jl c ws=jl c vs->ws=vs
 | [],_,h,_,_,_,_=>absurd rfl h
 | _,[],_,h,_,_,_=>absurd rfl h
 | [w],[v],_,_,_,_,h=>by rw [show w=v from h]
 | [w],v::u::r,_,_,h1,_,h=>by
  have:c∈w:=by rw [show w=v++c::jl c (u::r) from h];simp
  exact absurd this (h1 w List.mem_cons_self)
 | v::u::r,[w],_,_,_,h1,h=>by
  have:c∈w:=by rw [show w=v++c::jl c (u::r) from h.symm];simp
  exact absurd this (h1 w List.mem_cons_self)
 | w::x::r,v::y::q,_,_,h1,h2,h=>by
  obtain ⟨e1,e2⟩:=Qnh (h1 w List.mem_cons_self) (h2 v List.mem_cons_self) h
  rw [e1,Qm9 (ws:=x::r) (vs:=y::q) (by simp) (by simp) (λw m=>h1 w (List.mem_cons_of_mem _ m)) (λw m=>h2 w (List.mem_cons_of_mem _ m)) e2]
theorem Qeq {c:Nat}:∀(ws:List Str),(Str.join ⟨#[c]⟩ ws).cps.toList=jl c (ws.map λw=>w.cps.toList)
 | []=>rfl
 | [w]=>rfl
 | w::v::r=>by
  show (w++⟨#[c]⟩++Str.join ⟨#[c]⟩ (v::r)).cps.toList=_
  rw [Str.cps_append,Str.cps_append,Array.toList_append,Array.toList_append,Qeq (v::r)]
  simp [jl]
theorem Qjk {vs:List Str} (h1:ws≠[]) (h2:vs≠[]) (f1:∀w∈ws,c∉w.cps.toList) (f2:∀w∈vs,c∉w.cps.toList) (h:glued ⟨#[c]⟩ ws=glued ⟨#[c]⟩ vs):ws=vs:=by
 rw [StrLaws.glued_eq_join,StrLaws.glued_eq_join] at h
 have h:=congrArg (λs:Str=>s.cps.toList) h
 simp only [Qeq] at h
 have:=Qm9 (by simpa using h1) (by simpa using h2) (λw hw=>by obtain ⟨v,hv,rfl⟩:=List.mem_map.mp hw;exact f1 v hv) (λw hw=>by obtain ⟨v,hv,rfl⟩:=List.mem_map.mp hw;exact f2 v hv) h
 have hm:∀{as bs:List Str},as.map (λw=>w.cps.toList)=bs.map (λw=>w.cps.toList)->as=bs:=by
  intro as
  induction as with
  | nil=>intro bs h;cases bs with
   | nil=>rfl
   | cons b bs=>cases h
  | cons a as ih=>intro bs h;cases bs with
   | nil=>cases h
   | cons b bs =>
    obtain ⟨q1,q2⟩:=List.cons.inj h
    rw [ih q2,Str.ext' (Array.toList_inj.mp q1)]
 exact hm this
theorem Qc2 (h1:ws≠[]) (f1:∀w∈ws,c∉w.cps.toList):Y1 (glued ⟨#[c]⟩ ws) ⟨#[c]⟩=ws:=by
 obtain ⟨f,hG,hn⟩:=StrLaws.occ_tight (glued ⟨#[c]⟩ ws) ⟨#[c]⟩ (Nat.le_refl 1)
 refine Qjk (c:=c) ?_ h1 ?_ f1 (StrLaws.glued_between_self _ _ _)
 ·unfold Y1
  rw [StrLaws.partsBetween_eq]
  obtain ⟨p,r,e⟩:=StrLaws.partsFrom_ne (glued ⟨#[c]⟩ ws) (⟨#[c]⟩:Str).length 0 (Builtin.Str.occurrences (glued ⟨#[c]⟩ ws) ⟨#[c]⟩ 0 (glued ⟨#[c]⟩ ws).length ((glued ⟨#[c]⟩ ws).length+1))
  rw [e];simp
 ·unfold Y1
  rw [StrLaws.partsBetween_eq]
  exact StrLaws.parts_free _ c _ 0 f hG hn
theorem Qvo:Str.ofString " " = ⟨#[32]⟩:=by decide
def nw (n:Int):Str:=Str.ofString (toString n)
theorem Qig:dStr [.int i] k=(i.natAbs.log2<1920/\k (.str (nw i))):=rfl
theorem Qej:Qvm [.str x] k=oget (PySem.intText? x) λn=>x.length<=640/\k (.int n):=rfl
theorem G9 {k:Str->Prop}:Qee (.str y) k=k y:=rfl
theorem Qbw {k:List D->Prop}:Qob (.str x) k=(x.cps.all (· < 128)=true/\k (sgn x)):=rfl
theorem V8:dLen [.str x] k=(x.length<=sizeLine/\k (.int x.length)):=rfl
theorem Qfm:dIx (.str x) (.int i) k=(x.length<=sizeLine/\oget (L2.atI x.cps.toList i) λc=>k (.str ⟨#[c]⟩)):=rfl
end S03
namespace S24
open PySem PySem.Spec L2 PV S03
open PySem.Builtin.Str (glued occurrences strSub subAt)
theorem Qcd {a b:Str} (h:a.cps.toList=b.cps.toList):a=b:=Str.ext' (Array.toList_inj.mp h)
theorem Jp (a b:Str):(a++b).cps.toList=a.cps.toList++b.cps.toList:=by rw [Str.cps_append,Array.toList_append]
theorem Gf (a:Str):a.length=a.cps.toList.length:=by rw [Array.length_toList];rfl
section
variable {zs:List D}
theorem Qif:Qpp x [.str y] k=k (.bl (Qml x y)):=rfl
theorem Qok:Qve x [.str y] k=((y.length == 0)=false/\x.length<=sizeLine/\k (.tup ((Qm2 x y).map D.str))):=rfl
theorem Qq5:dSlS (.str x) (some i) k=(0<=i/\i.toNat<=x.length/\x.length<=sizeLine/\k (.str (G3 x i.toNat))):=rfl
theorem Quk {c:Option Int}:dSt (.lst xs) lo hi c k=(Qn xs=true/\c≠some 0/\c≠none/\(Gw xs lo hi c).length<=sizeLine/\k (.lst (Gw xs lo hi c))):=rfl
theorem Qoj {k:List D->Prop}:Qqb [.lst xs,.lst zs] k=(Qn xs=true/\Qn zs=true/\k (Qqa xs zs)):=rfl
theorem Qul:dFs x (.int i) k=(i.natAbs.log2<1920/\(x++nw i).length<=sizeLine/\k (.str (x++nw i))):=rfl
end
end S24
variable {w:PySem.Str}
namespace P58
open PySem PySem.Builtin PySem.Builtin.Str
inductive Tr where
 | lf (k:Nat)
 | un (b:Bool) (t:Tr)
 | bi (b:Bool) (t u:Tr)
def Tr.h:Tr->Nat
 | .lf _=>0
 | .un _ t=>t.h+1
 | .bi _ t u=>max t.h u.h+1
def lfW:Nat->Str
 | 0=>Str.ofString "single"
 | 1=>Str.ofString "level"
 | _=>Str.ofString "upright"
def unW:Bool->Str
 | false=>Str.ofString "turned"
 | true=>Str.ofString "mirrored"
def biW:Bool->Str
 | false=>Str.ofString "beside"
 | true=>Str.ofString "above"
def tx:Tr->Str
 | .lf k=>lfW k
 | .un b t=>Str.ofString "(" ++ unW b++Str.ofString " " ++ tx t++Str.ofString ")"
 | .bi b t u=>Str.ofString "(" ++ tx t++Str.ofString " " ++ biW b++Str.ofString " " ++ tx u++Str.ofString ")"
def toks:Tr->List Str
 | .lf k=>[lfW k]
 | .un b t=>Str.ofString "(" :: unW b::(toks t++[Str.ofString ")"])
 | .bi b t u=>Str.ofString "(" :: (toks t++biW b::(toks u++[Str.ofString ")"]))
theorem Qd8:∀t,toks t≠[]
 | .lf _=>by simp [toks]
 | .un _ _=>by simp [toks]
 | .bi _ _ _=>by simp [toks]
def sub (c:Nat) (z:List Nat) (l:List Nat):List Nat:=l.flatMap λk=>if k=c then z else [k]
theorem Qbm (c:Nat) (z a b:List Nat):sub c z (a++b)=sub c z a++sub c z b:=by simp [sub]
theorem Qbl (c:Nat) (z:List Nat):∀l:List Nat,c∉l->sub c z l=l
 | [],_=>rfl
 | k::r,h=>by
  have h1:¬k=c:=λe=>h (e ▸ List.mem_cons_self ..)
  have h2:c∉r:=λm=>h (List.mem_cons_of_mem _ m)
  have:=Qbl c z r h2
  unfold sub at this ⊢
  rw [List.flatMap_cons,if_neg h1,this];rfl
theorem Qfd (c:Nat) (z:Str):∀parts:List Str,(∀p∈parts,c∉p.cps.toList)->sub c z.cps.toList (Str.join ⟨#[c]⟩ parts).cps.toList=(Str.join z parts).cps.toList
 | [],_=>rfl
 | [p],h=>Qbl c _ _ (h p (List.mem_singleton.mpr rfl))
 | p::q::r,h=>by
  have ih:=Qfd c z (q::r) λa ha=>h a (List.mem_cons_of_mem _ ha)
  show sub c z.cps.toList (p++⟨#[c]⟩++Str.join ⟨#[c]⟩ (q::r)).cps.toList=(p++z++Str.join z (q::r)).cps.toList
  simp only [Str.cps_append,Array.toList_append]
  rw [Qbm,Qbm,ih,Qbl c _ _ (h p (List.mem_cons_self ..))]
  congr 2
  simp [sub]
theorem Qbv (x z:Str) (c:Nat):(Txt.replace x ⟨#[c]⟩ z).cps.toList=sub c z.cps.toList x.cps.toList:=by
 rw [StrLaws.replace_one,← Qfd c z _ (StrLaws.split_free x c),StrLaws.join_split]
def F (l:List Nat):List Nat:=sub 41 [32,41] (sub 40 [40,32] l)
theorem Qan (a b:List Nat):F (a++b)=F a++F b:=by unfold F;rw [Qbm,Qbm]
def js:List (List Nat)->List Nat
 | []=>[]
 | [w]=>w
 | w::v::r=>w++32::js (v::r)
theorem Vk {w:List Nat} {r:List (List Nat)} (h:r≠[]):js (w::r)=w++32::js r:=by
 cases r with
 | nil=>exact absurd rfl h
 | cons v r=>rfl
theorem Qfy:∀{a b:List (List Nat)},a≠[]->b≠[]->js (a++b)=js a++32::js b
 | [],_,h,_=>absurd rfl h
 | [w],b,_,hb=>Vk hb
 | w::v::r,b,_,hb=>by
  show w++32::js (v::r++b)=w++32::js (v::r)++32::js b
  rw [Qfy (a:=v::r) (by simp) hb,List.append_assoc,List.cons_append]
abbrev cl (x:Str):List Nat:=x.cps.toList
def tk (t:Tr):List (List Nat):=(toks t).map cl
theorem Qkq (t:Tr):tk t≠[]:=by unfold tk;simpa using Qd8 t
theorem lf_F (k:Nat):F (cl (lfW k))=cl (lfW k):=by
 match k with
 | 0=>decide +kernel
 | 1=>decide +kernel
 | k+2=>show F (cl (Str.ofString "upright"))=cl (Str.ofString "upright");decide +kernel
theorem un_F (b:Bool):F (cl (unW b))=cl (unW b):=by cases b <;> decide +kernel
theorem bi_F (b:Bool):F (cl (biW b))=cl (biW b):=by cases b <;> decide +kernel
theorem F_op:F (cl (Str.ofString "("))=[40,32]:=by decide +kernel
theorem F_cp:F (cl (Str.ofString ")"))=[32,41]:=by decide +kernel
theorem F_sp:F (cl (Str.ofString " "))=[32]:=by decide +kernel
theorem c_op:cl (Str.ofString "(")=[40]:=by decide +kernel
theorem c_cp:cl (Str.ofString ")")=[41]:=by decide +kernel
theorem F_tx:∀t:Tr,F (cl (tx t))=js (tk t)
 | .lf k=>by
  show F (cl (lfW k))=cl (lfW k)
  exact lf_F k
 | .un b t=>by
  have ih:=F_tx t
  have e:tk (.un b t)=[40]::cl (unW b)::(tk t++[[41]]):=by unfold tk;simp only [toks,List.map_cons,List.map_append,List.map_nil,c_op,c_cp]
  show F (cl (Str.ofString "(" ++ unW b++Str.ofString " " ++ tx t++Str.ofString ")"))=_
  unfold cl at ih ⊢
  rw [S24.Jp,S24.Jp,S24.Jp,S24.Jp,Qan,Qan,Qan,Qan,ih,F_op,F_cp,F_sp,un_F,e,Vk (by simp),Vk (by simp),Qfy (Qkq t) (by simp)]
  simp [js]
 | .bi b t u=>by
  have ih:=F_tx t
  have ih2:=F_tx u
  have e:tk (.bi b t u)=[40]::(tk t++cl (biW b)::(tk u++[[41]])):=by unfold tk;simp only [toks,List.map_cons,List.map_append,List.map_nil,c_op,c_cp]
  show F (cl (Str.ofString "(" ++ tx t++Str.ofString " " ++ biW b++Str.ofString " " ++ tx u++Str.ofString ")"))=_
  unfold cl at ih ih2 ⊢
  rw [S24.Jp,S24.Jp,S24.Jp,S24.Jp,S24.Jp,S24.Jp,Qan,Qan,Qan,Qan,Qan,Qan,ih,ih2,F_op,F_cp,F_sp,bi_F,e,Vk (by simp [Qkq]),Qfy (Qkq t) (by simp),Vk (by simp),Qfy (Qkq u) (by simp)]
  simp [js]
theorem Qpn:∀ws:List Str,cl (glued ⟨#[32]⟩ ws)=js (ws.map cl)
 | []=>rfl
 | [w]=>rfl
 | w::v::r=>by
  have ih:=Qpn (v::r)
  rw [List.map_cons,Vk (by simp),← ih]
  rw [StrLaws.glued_eq_join,StrLaws.glued_eq_join]
  show (w++⟨#[32]⟩++Str.join ⟨#[32]⟩ (v::r)).cps.toList=_
  simp [Str.cps_append]
theorem Qqc (t:Tr):Txt.replace (Txt.replace (tx t) (Str.ofString "(") (Str.ofString "( ")) (Str.ofString ")") (Str.ofString " )")=glued (Str.ofString " ") (toks t):=by
 refine S24.Qcd ?_
 have e1:Str.ofString "(" = ⟨#[40]⟩:=by decide +kernel
 have e2:Str.ofString ")" = ⟨#[41]⟩:=by decide +kernel
 have e3:Str.ofString " " = ⟨#[32]⟩:=by decide +kernel
 have e4:(Str.ofString "( ").cps.toList=[40,32]:=by decide +kernel
 have e5:(Str.ofString " )").cps.toList=[32,41]:=by decide +kernel
 rw [e1,e2,Qbv,Qbv,e4,e5,e3]
 exact (F_tx t).trans (Qpn (toks t)).symm
theorem Qbo:∀t:Tr,∀w∈toks t,32∉w.cps.toList
 | .lf k,w,h=>by
  rw [List.mem_singleton.mp h]
  match k with
  | 0=>decide +kernel
  | 1=>decide +kernel
  | k+2=>show 32∉(Str.ofString "upright").cps.toList;decide +kernel
 | .un b t,w,h=>by
  simp only [toks,List.mem_cons,List.mem_append,List.not_mem_nil,or_false] at h
  rcases h with rfl | rfl | h | rfl
  ·decide +kernel
  ·cases b <;> decide +kernel
  ·exact Qbo t w h
  ·decide +kernel
 | .bi b t u,w,h=>by
  simp only [toks,List.mem_cons,List.mem_append,List.not_mem_nil,or_false] at h
  rcases h with rfl | h | rfl | h | rfl
  ·decide +kernel
  ·exact Qbo t w h
  ·cases b <;> decide +kernel
  ·exact Qbo u w h
  ·decide +kernel
theorem Xj:∀t:Tr,(tx t).length<=20*4 ^ t.h
 | .lf k=>by
  match k with
  | 0=>decide +kernel
  | 1=>decide +kernel
  | k+2=>show (Str.ofString "upright").length<=20;decide +kernel
 | .un b t=>by
  have ih:=Xj t
  have hb:(unW b).length<=8:=by cases b <;> decide +kernel
  have h1:(Str.ofString "(").length=1:=by decide +kernel
  have h2:(Str.ofString ")").length=1:=by decide +kernel
  have h3:(Str.ofString " ").length=1:=by decide +kernel
  have hp:0<4 ^ t.h:=Nat.pow_pos (by decide)
  simp only [tx,Tr.h,strLen_append,Nat.pow_succ]
  omega
 | .bi b t u=>by
  have ih:=Xj t
  have ih2:=Xj u
  have hb:(biW b).length<=8:=by cases b <;> decide +kernel
  have h1:(Str.ofString "(").length=1:=by decide +kernel
  have h2:(Str.ofString ")").length=1:=by decide +kernel
  have h3:(Str.ofString " ").length=1:=by decide +kernel
  have m1:4 ^ t.h<=4 ^ (max t.h u.h):=Nat.pow_le_pow_right (by decide) (Nat.le_max_left _ _)
  have m2:4 ^ u.h<=4 ^ (max t.h u.h):=Nat.pow_le_pow_right (by decide) (Nat.le_max_right _ _)
  have hp:0<4 ^ (max t.h u.h):=Nat.pow_pos (by decide)
  simp only [tx,Tr.h,strLen_append,Nat.pow_succ]
  omega
end P58
namespace P61
open PySem PySem.Builtin PySem.Builtin.Str P58
def dec:List Nat->List Nat
 | []=>[]
 | [c]=>[c]
 | a::b::r=>if a=40/\b=32 then 40::dec r else if a=32/\b=41 then 41::dec r else a::dec (b::r)
theorem Qnk (c:Nat) (r:List Nat):F (c::r)=(if c=40 then [40,32] else if c=41 then [32,41] else [c])++F r:=by
 have:c::r=[c]++r:=rfl
 rw [this,Qan]
 congr 1
 by_cases h1:c=40
 ·subst h1;rfl
 ·rw [if_neg h1]
  by_cases h2:c=41
  ·subst h2;rfl
  ·rw [if_neg h2]
   simp [F,P58.sub,h1,h2]
theorem Qtu (l:List Nat):∀r,F l≠41::r:=by
 intro r h
 cases l with
 | nil=>cases h
 | cons c l =>
  rw [Qnk] at h
  split at h
  ·cases h
  ·split at h
   ·cases h
   ·rename_i h1 h2
    injection h with h _
    exact h2 h
theorem Qj1 {r:List Nat} (h1:c≠40) (h2:c≠32\/∀s,r≠41::s):dec (c::r)=c::dec r:=by
 cases r with
 | nil=>rfl
 | cons b r =>
  rw [dec,if_neg (λz=>h1 z.1),if_neg]
  rintro ⟨z1,z2⟩
  rcases h2 with h2 | h2
  ·exact h2 z1
  ·exact h2 r (by rw [z2])
theorem Qp1:∀l:List Nat,dec (F l)=l
 | []=>rfl
 | c::r=>by
  have ih:=Qp1 r
  rw [Qnk]
  by_cases h1:c=40
  ·rw [if_pos h1,h1]
   show dec (40::32::F r)=_
   rw [dec,if_pos ⟨rfl,rfl⟩,ih]
  ·rw [if_neg h1]
   by_cases h2:c=41
   ·rw [if_pos h2,h2]
    show dec (32::41::F r)=_
    rw [dec,if_neg (by decide),if_pos ⟨rfl,rfl⟩,ih]
   ·rw [if_neg h2]
    show dec (c::F r)=_
    rw [Qj1 h1 (.inr (Qtu r)),ih]
theorem Qvu {a b:List Nat} (h:F a=F b):a=b:=by rw [← Qp1 a,h,Qp1]
inductive El where
 | w (x:Str)
 | o (t:Tr)
end P61
variable {t:P58.Tr} {st rest:List (List P61.El)} {n:Int} {m:Nat} {l:List PySem.Str} {row:List P61.El}
namespace P61
open PySem PySem.Builtin PySem.Builtin.Str P58
def op:Str:=Str.ofString "("
def cp:Str:=Str.ofString ")"
theorem cpop:cp≠op:=by decide +kernel
def pwE (x:Str):El:=if x=Str.ofString "level" then .o (.lf 1) else if x=Str.ofString "upright" then .o (.lf 2) else if x=Str.ofString "single" then .o (.lf 0) else .w x
def mkE:List El->Option Tr
 | [.w x,.o t]=>if x=unW false then some (.un false t) else if x=unW true then some (.un true t) else none
 | [.o t,.w x,.o u]=>if x=biW false then some (.bi false t u) else if x=biW true then some (.bi true t u) else none
 | _=>none
theorem Qpg (h:mkE row=some t):(∃b u,row=[.w (unW b),.o u]/\t=.un b u)\/∃b u v,row=[.o u,.w (biW b),.o v]/\t=.bi b u v:=by
 unfold mkE at h
 split at h
 ·split at h
  ·subst_vars;cases h;exact .inl ⟨false,_,rfl,rfl⟩
  ·split at h
   ·subst_vars;cases h;exact .inl ⟨true,_,rfl,rfl⟩
   ·cases h
 ·split at h
  ·subst_vars;cases h;exact .inr ⟨false,_,_,rfl,rfl⟩
  ·split at h
   ·subst_vars;cases h;exact .inr ⟨true,_,_,rfl,rfl⟩
   ·cases h
 ·cases h
def okB:Nat->List Str->Bool
 | m,[]=>decide (m=0)
 | m,w::r=>if w=op then decide (m+1<=8) && okB (m+1) r else if w=cp then decide (1<=m) && okB (m-1) r else okB m r
def run:List (List El)->List Str->Option (List (List El))
 | st,[]=>some st
 | st,w::r=>if w=op then run ([]::st) r else if w=cp then (match st with
   | row::up::rest=>(mkE row).bind λt=>run ((up++[.o t])::rest) r
   | _=>none) else (match st with
   | row::rest=>run ((row++[pwE w])::rest) r
   | []=>none)
theorem Qh4 (h1:w≠op) (h2:w≠cp):run (row::rest) (w::r)=run ((row++[pwE w])::rest) r:=by
 simp only [run,if_neg h1,if_neg h2]
theorem Qfj:run st (op::r)=run ([]::st) r:=by
 cases st with
 | nil=>simp only [run,if_pos]
 | cons a l=>cases l <;> simp only [run,if_pos]
theorem Qa5 {z:List (List El)} (h:run st (cp::r)=some z):∃row up rest t,st=row::up::rest/\mkE row=some t/\run ((up++[.o t])::rest) r=some z:=by
 match st,h with
 | [],h=>simp only [run,if_neg cpop,if_pos] at h;cases h
 | [row],h=>simp only [run,if_neg cpop,if_pos] at h;cases h
 | row::up::rest,h =>
  simp only [run,if_neg cpop,if_pos] at h
  cases hm:mkE row with
  | none=>rw [hm] at h;cases h
  | some t=>rw [hm] at h;exact ⟨row,up,rest,t,rfl,hm,h⟩
theorem Qh3 {z:List (List El)} (h1:w≠op) (h2:w≠cp) (h:run st (w::r)=some z):∃row rest,st=row::rest/\run ((row++[pwE w])::rest) r=some z:=by
 cases st with
 | nil=>simp only [run,if_neg h1,if_neg h2] at h;cases h
 | cons row rest=>rw [Qh4 h1 h2] at h;exact ⟨row,rest,rfl,h⟩
def spE:El->List Str
 | .w x=>[x]
 | .o t=>toks t
def spR (row:List El):List Str:=row.flatMap spE
def spS:List (List El)->List Str
 | []=>[]
 | [row]=>spR row
 | row::up::rest=>spS (up::rest)++op::spR row
theorem Qff {e:El}:spR (row++[e])=spR row++spE e:=by simp [spR]
theorem Qfe {e:El}:spS ((row++[e])::rest)=spS (row::rest)++spE e:=by
 cases rest with
 | nil=>exact Qff
 | cons up rest =>
  show spS (up::rest)++op::spR (row++[e])=(spS (up::rest)++op::spR row)++spE e
  rw [Qff];simp
theorem Qt3 (x:Str):spE (pwE x)=[x]:=by
 unfold pwE
 split
 ·rename_i h;rw [h];rfl
 ·split
  ·rename_i h;rw [h];rfl
  ·split
   ·rename_i h;rw [h];rfl
   ·rfl
theorem Qt4 (h:mkE row=some t):op::(spR row++[cp])=toks t:=by
 rcases Qpg h with ⟨b,u,rfl,rfl⟩ | ⟨b,u,v,rfl,rfl⟩
 ·simp [spR,spE,toks,op,cp]
 ·simp [spR,spE,toks,op,cp]
theorem Qfi:∀(ws:List Str) {st z:List (List El)},st≠[]->run st ws=some z->z≠[]/\spS z=spS st++ws
 | [],st,z,h0,h=>by
  simp only [run] at h
  cases h
  exact ⟨h0,by simp⟩
 | w::r,st,z,h0,h=>by
  by_cases h1:w=op
  ·subst h1
   rw [Qfj] at h
   obtain ⟨g1,g2⟩:=Qfi r (by simp) h
   refine ⟨g1,?_⟩
   cases st with
   | nil=>exact absurd rfl h0
   | cons row rest=>rw [g2];simp [spS,spR]
  ·by_cases h2:w=cp
   ·subst h2
    obtain ⟨row,up,rest,t,rfl,hm,h⟩:=Qa5 h
    obtain ⟨g1,g2⟩:=Qfi r (by simp) h
    refine ⟨g1,?_⟩
    rw [g2,Qfe]
    show spS (up::rest)++toks t++r=spS (up::rest)++op::spR row++cp::r
    rw [← Qt4 hm];simp
   ·obtain ⟨row,rest,rfl,h3⟩:=Qh3 h1 h2 h
    obtain ⟨g1,g2⟩:=Qfi r (by simp) h3
    refine ⟨g1,?_⟩
    rw [g2,Qfe,Qt3];simp
def rd (ws:List Str):Option Tr:=if okB 0 ws=true then (match run [[]] ws with
  | some [[.o t]]=>some t
  | _=>none) else none
theorem Qiu (h1:w≠op) (h2:w≠cp):okB m (w::r)=okB m r:=by
 rw [okB,if_neg h1,if_neg h2]
theorem Qfq:okB m (op::r)=(decide (m+1<=8) && okB (m+1) r):=by rw [okB,if_pos rfl]
theorem Qfr:okB m (cp::r)=(decide (1<=m) && okB (m-1) r):=by rw [okB,if_neg cpop,if_pos rfl]
theorem lf3 (k:Nat) {p:Str->Prop} (h0:p (lfW 0)) (h1:p (lfW 1)) (h2:p (lfW 2)):p (lfW k):=match k with
 | 0=>h0
 | 1=>h1
 | _+2=>h2
theorem Qg1 (k:Nat):lfW k≠op/\lfW k≠cp:=lf3 k (p:=λx=>x≠op/\x≠cp) (by decide +kernel) (by decide +kernel) (by decide +kernel)
theorem Qd6 (b:Bool):unW b≠op/\unW b≠cp:=by cases b <;> decide +kernel
theorem Qew (b:Bool):biW b≠op/\biW b≠cp:=by cases b <;> decide +kernel
theorem U0:∀(t:Tr) {m:Nat} {r:List Str},m<=8->okB m (toks t++r)=(decide (m+t.h<=8) && okB m r)
 | .lf k,m,r,hm=>by
  show okB m (lfW k::r)=_
  rw [Qiu (Qg1 k).1 (Qg1 k).2]
  simp [Tr.h,hm]
 | .un b t,m,r,hm=>by
  show okB m (op::(unW b::(toks t++[cp])++r))=_
  rw [Qfq]
  show (decide (m+1<=8) && okB (m+1) (unW b::(toks t++[cp]++r)))=_
  rw [Qiu (Qd6 b).1 (Qd6 b).2]
  by_cases h:m+1<=8
  ·rw [List.append_assoc,U0 t h]
   show (decide (m+1<=8) && (decide (m+1+t.h<=8) && okB (m+1) (cp::r)))=_
   rw [Qfr]
   simp only [Tr.h,h,decide_true,Bool.true_and,Nat.le_add_left,Nat.add_sub_cancel]
   congr 1
   exact decide_eq_decide.mpr ⟨λz=>by omega,λz=>by omega⟩
  ·have:¬m+(t.h+1)<=8:=by omega
   simp only [Tr.h,h,this,decide_false,Bool.false_and]
 | .bi b t u,m,r,hm=>by
  show okB m (op::(toks t++biW b::(toks u++[cp])++r))=_
  rw [Qfq]
  by_cases h:m+1<=8
  ·rw [List.append_assoc,U0 t h]
   show (decide (m+1<=8) && (decide (m+1+t.h<=8) && okB (m+1) (biW b::(toks u++[cp]++r))))=_
   rw [Qiu (Qew b).1 (Qew b).2,List.append_assoc,U0 u h]
   show (decide (m+1<=8) && (decide (m+1+t.h<=8) && (decide (m+1+u.h<=8) && okB (m+1) (cp::r))))=_
   rw [Qfr]
   simp only [Tr.h,h,decide_true,Bool.true_and,Nat.le_add_left,Nat.add_sub_cancel]
   rw [← Bool.and_assoc,← Bool.decide_and]
   congr 2
   exact propext ⟨λz=>by omega,λz=>by omega⟩
  ·have:¬m+(max t.h u.h+1)<=8:=by omega
   simp only [Tr.h,h,this,decide_false,Bool.false_and]
theorem Qqs (h:rd ws=some t):ws=toks t/\t.h<=8:=by
 unfold rd at h
 split at h
 ·rename_i ho
  split at h
  ·rename_i t' hr
   cases h
   obtain ⟨_,e⟩:=Qfi ws (by simp) hr
   have e:toks t=ws:=by simpa [spS,spR,spE] using e
   subst e
   refine ⟨rfl,?_⟩
   have:=U0 t (m:=0) (r:=[]) (by decide)
   rw [List.append_nil,ho] at this
   have:=(Bool.and_eq_true _ _).mp this.symm
   have:=of_decide_eq_true this.1
   omega
  ·cases h
 ·cases h
def nrm:Tr->Tr
 | .lf 0=>.lf 0
 | .lf 1=>.lf 1
 | .lf _=>.lf 2
 | .un b t=>.un b (nrm t)
 | .bi b t u=>.bi b (nrm t) (nrm u)
theorem Qum (b:Bool):pwE (unW b)=.w (unW b):=by
 unfold pwE
 rw [if_neg (by cases b <;> decide +kernel),if_neg (by cases b <;> decide +kernel),if_neg (by cases b <;> decide +kernel)]
theorem Qup (b:Bool):pwE (biW b)=.w (biW b):=by
 unfold pwE
 rw [if_neg (by cases b <;> decide +kernel),if_neg (by cases b <;> decide +kernel),if_neg (by cases b <;> decide +kernel)]
theorem Quo:∀k,pwE (lfW k)=.o (nrm (.lf k))
 | 0=>by
  unfold pwE
  rw [if_neg (by decide +kernel),if_neg (by decide +kernel),if_pos (by decide +kernel)];rfl
 | 1=>by
  unfold pwE
  rw [if_pos (by decide +kernel)];rfl
 | k+2=>by
  show pwE (lfW 2)=.o (.lf 2)
  unfold pwE
  rw [if_neg (by decide +kernel),if_pos (by decide +kernel)]
theorem Qu3 (b:Bool) (t:Tr):mkE [.w (unW b),.o t]=some (.un b t):=by
 cases b
 ·rw [mkE,if_pos rfl]
 ·rw [mkE,if_neg (by decide +kernel),if_pos rfl]
theorem Qu4 (b:Bool) (t u:Tr):mkE [.o t,.w (biW b),.o u]=some (.bi b t u):=by
 cases b
 ·rw [mkE,if_pos rfl]
 ·rw [mkE,if_neg (by decide +kernel),if_pos rfl]
theorem Qh5 {up:List El} (h:mkE row=some t):run (row::up::rest) (cp::r)=run ((up++[.o t])::rest) r:=by
 simp only [run,if_neg cpop,if_pos,h,Option.bind_some]
theorem G8:∀(t:Tr) {row:List El} {rest:List (List El)} {r:List Str},run (row::rest) (toks t++r)=run ((row++[.o (nrm t)])::rest) r
 | .lf k,row,rest,r=>by
  show run (row::rest) (lfW k::r)=_
  rw [Qh4 (Qg1 k).1 (Qg1 k).2,Quo]
 | .un b t,row,rest,r=>by
  show run (row::rest) (op::(unW b::(toks t++[cp])++r))=_
  rw [Qfj]
  show run ([]::row::rest) (unW b::(toks t++[cp]++r))=_
  rw [Qh4 (Qd6 b).1 (Qd6 b).2,Qum,List.append_assoc,G8 t]
  show run (_::row::rest) (cp::r)=_
  exact Qh5 (Qu3 b (nrm t))
 | .bi b t u,row,rest,r=>by
  show run (row::rest) (op::(toks t++biW b::(toks u++[cp])++r))=_
  rw [Qfj,List.append_assoc,G8 t]
  show run (_::row::rest) (biW b::(toks u++[cp]++r))=_
  rw [Qh4 (Qew b).1 (Qew b).2,Qup,List.append_assoc (toks u),G8 u]
  show run (_::row::rest) (cp::r)=_
  exact Qh5 (Qu4 b (nrm t) (nrm u))
theorem Qh8 (h:t.h<=8):rd (toks t)=some (nrm t):=by
 unfold rd
 have h1:=U0 t (m:=0) (r:=[]) (by decide)
 have h2:=G8 t (row:=[]) (rest:=[]) (r:=[])
 rw [List.append_nil] at h1 h2
 rw [h1,if_pos (by simp [okB,h]),h2]
 rfl
def sp:Str:=Str.ofString " "
def sgl:Str:=Str.ofString "single"
def menu:List Str:=[op,cp,sp,sgl,Str.ofString "level",Str.ofString "upright",Str.ofString "turned",Str.ofString "mirrored",Str.ofString "beside",Str.ofString "above"]
def wt:Tr->List Str
 | .lf k=>[lfW k]
 | .un b t=>op::unW b::sp::(wt t++[cp])
 | .bi b t u=>op::(wt t++sp::biW b::sp::(wt u++[cp]))
def wm:Tr->List Str
 | .lf _=>[sgl]
 | .un b t=>op::unW b::sp::(wm t++[cp])
 | .bi b t u=>op::(wm t++sp::biW b::sp::(wm u++[cp]))
def phi (w:Str):Str:=if w=Str.ofString "level" \/ w=Str.ofString "upright" then sgl else w
theorem Qre (b:Bool):phi (unW b)=unW b:=by cases b <;> decide +kernel
theorem Qrg (b:Bool):phi (biW b)=biW b:=by cases b <;> decide +kernel
theorem Qmx:phi op=op:=by decide +kernel
theorem Qmy:phi cp=cp:=by decide +kernel
theorem Qmw:phi sp=sp:=by decide +kernel
theorem Qrf (k:Nat):phi (lfW k)=sgl:=lf3 k (p:=λx=>phi x=sgl) (by decide +kernel) (by decide +kernel) (by decide +kernel)
theorem Qfp:∀t,(wt t).map phi=wm t
 | .lf k=>by simp [wt,wm,Qrf]
 | .un b t=>by simp [wt,wm,Qre,Qmx,Qmy,Qmw,Qfp t]
 | .bi b t u=>by simp [wt,wm,Qrg,Qmx,Qmy,Qmw,Qfp t,Qfp u]
theorem Z0 (h:phi x=y) (hy:y≠sgl):x=y:=by
 unfold phi at h
 split at h
 ·exact absurd h.symm hy
 ·exact h
theorem Qov (h:phi x=sgl):∃k,x=lfW k:=by
 unfold phi at h
 split at h
 ·rename_i z
  rcases z with z | z
  ·exact ⟨1,z⟩
  ·exact ⟨2,z⟩
 ·exact ⟨0,h⟩
theorem Qe8 (b:Bool):unW b≠sgl:=by cases b <;> decide +kernel
theorem Qni (b:Bool):biW b≠sgl:=by cases b <;> decide +kernel
theorem Gp:op≠sgl:=by decide +kernel
theorem Qf6:cp≠sgl:=by decide +kernel
theorem Qa2:sp≠sgl:=by decide +kernel
theorem m1 (h:l.map phi=[x]):∃c,l=[c]/\phi c=x:=by
 obtain ⟨c,rfl⟩:=List.length_eq_one_iff.mp (by simpa using congrArg List.length h)
 exact ⟨c,rfl,by simpa using h⟩
theorem m3 {z:Str} (h:l.map phi=[x,y,z]):∃a b c,l=[a,b,c]/\phi a=x/\phi b=y/\phi c=z:=by
 have hl:l.length=3:=by simpa using congrArg List.length h
 obtain ⟨a,b,c,rfl⟩:∃a b c,l=[a,b,c]:=by
  cases l with
  | nil=>cases hl
  | cons a l=>cases l with
   | nil=>cases hl
   | cons b l=>cases l with
    | nil=>cases hl
    | cons c l=>cases l with
     | nil=>exact ⟨a,b,c,rfl⟩
     | cons d l=>simp at hl
 exact ⟨a,b,c,rfl,by simpa using h⟩
theorem Qko:∀(t:Tr) {ws:List Str},ws.map phi=wm t->∃t',ws=wt t'
 | .lf k,ws,h=>by
  obtain ⟨w,rfl,this⟩:=m1 (show ws.map phi=[sgl] from h)
  obtain ⟨k,rfl⟩:=Qov this
  exact ⟨.lf k,rfl⟩
 | .un b t,ws,h=>by
  have h:ws.map phi=[op,unW b,sp]++(wm t++[cp]):=h
  obtain ⟨l1,l2,rfl,h1,h2⟩:=List.map_eq_append_iff.mp h
  obtain ⟨l3,l4,rfl,h3,h4⟩:=List.map_eq_append_iff.mp h2
  obtain ⟨t',rfl⟩:=Qko t h3
  obtain ⟨c,rfl,g4⟩:=m1 h4
  obtain ⟨a,a2,a3,rfl,g1,g2,g3⟩:=m3 h1
  rw [Z0 g1 Gp,Z0 g2 (Qe8 b),Z0 g3 Qa2,Z0 g4 Qf6]
  exact ⟨.un b t',rfl⟩
 | .bi b t u,ws,h=>by
  have h:ws.map phi=[op]++(wm t++([sp,biW b,sp]++(wm u++[cp]))):=h
  obtain ⟨l1,l2,rfl,h1,h2⟩:=List.map_eq_append_iff.mp h
  obtain ⟨l3,l4,rfl,h3,h4⟩:=List.map_eq_append_iff.mp h2
  obtain ⟨l5,l6,rfl,h5,h6⟩:=List.map_eq_append_iff.mp h4
  obtain ⟨l7,l8,rfl,h7,h8⟩:=List.map_eq_append_iff.mp h6
  obtain ⟨t',rfl⟩:=Qko t h3
  obtain ⟨u',rfl⟩:=Qko u h7
  obtain ⟨c,rfl,g8⟩:=m1 h8
  obtain ⟨a,rfl,g0⟩:=m1 h1
  obtain ⟨a1,a2,a3,rfl,g1,g2,g3⟩:=m3 h5
  rw [Z0 g0 Gp,Z0 g1 Qa2,Z0 g2 (Qni b),Z0 g3 Qa2,Z0 g8 Qf6]
  exact ⟨.bi b t' u',by simp [wt]⟩
def p2 (ws:List Str):Bool:=decide (ws.take 1=[op]) && (decide ((ws.drop 1).take 1=[unW false]) || decide ((ws.drop 1).take 1=[unW true])) && decide ((ws.drop 2).take 3=[sp,sgl,cp])
def p3 (ws:List Str):Bool:=decide (ws.take 3=[op,sgl,sp]) && decide ((ws.drop 4).take 3=[sp,sgl,cp]) && (decide ((ws.drop 3).take 1=[biW false]) || decide ((ws.drop 3).take 1=[biW true]))
def les:List Str->Option (List Str)
 | []=>none
 | w::r=>if p2 (w::r)=true then some (sgl::(w::r).drop 5) else if p3 (w::r)=true then some (sgl::(w::r).drop 7) else (les r).map (w :: ·)
theorem Qa9:p2 ws=true↔∃b r,ws=op::unW b::sp::sgl::cp::r:=by
 constructor
 ·intro h
  simp only [p2,Bool.and_eq_true,Bool.or_eq_true,decide_eq_true_eq] at h
  obtain ⟨⟨h1,h2⟩,h3⟩:=h
  match ws,h1,h2,h3 with
  | a::b::c::d::e::r,h1,h2,h3 =>
   simp only [List.take_succ_cons,List.take_zero,List.drop_succ_cons,List.drop_zero,List.cons.injEq,and_true] at h1 h2 h3
   obtain ⟨rfl,rfl,rfl⟩:=h3
   subst h1
   rcases h2 with rfl | rfl
   ·exact ⟨false,r,rfl⟩
   ·exact ⟨true,r,rfl⟩
  | [],h1,_,_=>simp at h1
  | [a],_,h2,_=>simp at h2
  | [a,b],_,_,h3=>simp at h3
  | [a,b,c],_,_,h3=>simp at h3
  | [a,b,c,d],_,_,h3=>simp at h3
 ·rintro ⟨b,r,rfl⟩
  cases b <;> simp [p2]
theorem Qa8:p3 ws=true↔∃b r,ws=op::sgl::sp::biW b::sp::sgl::cp::r:=by
 constructor
 ·intro h
  simp only [p3,Bool.and_eq_true,Bool.or_eq_true,decide_eq_true_eq] at h
  obtain ⟨⟨h1,h2⟩,h3⟩:=h
  match ws,h1,h2,h3 with
  | a::b::c::d::e::f::g::r,h1,h2,h3 =>
   simp only [List.take_succ_cons,List.take_zero,List.drop_succ_cons,List.drop_zero,List.cons.injEq,and_true] at h1 h2 h3
   obtain ⟨rfl,rfl,rfl⟩:=h1
   obtain ⟨rfl,rfl,rfl⟩:=h2
   rcases h3 with rfl | rfl
   ·exact ⟨false,r,rfl⟩
   ·exact ⟨true,r,rfl⟩
  | [],h1,_,_=>simp at h1
  | [a],h1,_,_=>simp at h1
  | [a,b],h1,_,_=>simp at h1
  | [a,b,c],_,_,h3=>simp at h3
  | [a,b,c,d],_,h2,_=>simp at h2
  | [a,b,c,d,e],_,h2,_=>simp at h2
  | [a,b,c,d,e,f],_,h2,_=>simp at h2
 ·rintro ⟨b,r,rfl⟩
  cases b <;> simp [p3]
def isLf:Tr->Bool
 | .lf _=>true
 | _=>false
def red:Tr->Tr
 | .lf k=>.lf k
 | .un b t=>if isLf t=true then .lf 0 else .un b (red t)
 | .bi b t u=>if isLf t=true then (if isLf u=true then .lf 0 else .bi b t (red u)) else .bi b (red t) u
theorem Vs (h:w≠op):les (w::r)=(les r).map (w :: ·):=by
 rw [les,if_neg (λz=>by obtain ⟨b,s,e⟩:=Qa9.mp z;injection e with e _;exact h e),if_neg (λz=>by obtain ⟨b,s,e⟩:=Qa8.mp z;injection e with e _;exact h e)]
theorem Qnm (h:isLf t=false):∃r,wm t=op::r:=by
 cases t with
 | lf k=>cases h
 | un b t=>exact ⟨_,rfl⟩
 | bi b t u=>exact ⟨_,rfl⟩
theorem Qgd (h:isLf t=true):wm t=[sgl]:=by
 cases t with
 | lf k=>rfl
 | un b t=>cases h
 | bi b t u=>cases h
theorem Qqe (b:Bool):unW b≠op:=(Qd6 b).1
theorem Qn4:sp≠op:=by decide +kernel
theorem Qdf:∀(t:Tr) (r:List Str),isLf t=false->les (wm t++r)=some (wm (red t)++r)
 | .lf k,r,h=>by cases h
 | .un b t,r,_=>by
  show les (op::(unW b::sp::(wm t++[cp])++r))=_
  cases ht:isLf t with
  | true =>
   rw [Qgd ht]
   have e:op::(unW b::sp::([sgl]++[cp])++r)=op::unW b::sp::sgl::cp::r:=rfl
   rw [e,les,if_pos (Qa9.mpr ⟨b,r,rfl⟩)]
   simp only [red,ht,if_pos]
   rfl
  | false =>
   obtain ⟨q,hq⟩:=Qnm ht
   have n2:¬p2 (op::(unW b::sp::(wm t++[cp])++r))=true:=λz=>by
    obtain ⟨b',s,e⟩:=Qa9.mp z
    rw [hq] at e
    simp only [List.cons_append,List.cons.injEq] at e
    exact Gp e.2.2.2.1
   have n3:¬p3 (op::(unW b::sp::(wm t++[cp])++r))=true:=λz=>by
    obtain ⟨b',s,e⟩:=Qa8.mp z
    simp only [List.cons_append,List.cons.injEq] at e
    exact Qe8 b e.2.1
   rw [les,if_neg n2,if_neg n3]
   show (les (unW b::sp::(wm t++[cp]++r))).map _=_
   rw [Vs (Qqe b),Vs Qn4,List.append_assoc,Qdf t ([cp]++r) ht]
   simp only [red,ht,Option.map_some,Bool.false_eq_true,if_false]
   simp [wm]
 | .bi b t u,r,_=>by
  show les (op::(wm t++sp::biW b::sp::(wm u++[cp])++r))=_
  cases ht:isLf t with
  | true =>
   rw [Qgd ht]
   show les (op::sgl::sp::biW b::sp::(wm u++[cp]++r))=_
   have n2:∀s,¬p2 (op::sgl::s)=true:=λs z=>by
    obtain ⟨b',s',e⟩:=Qa9.mp z
    simp only [List.cons.injEq] at e
    exact Qe8 b' e.2.1.symm
   cases hu:isLf u with
   | true =>
    rw [Qgd hu]
    show les (op::sgl::sp::biW b::sp::sgl::cp::r)=_
    rw [les,if_neg (n2 _),if_pos (Qa8.mpr ⟨b,r,rfl⟩)]
    simp only [red,ht,hu,if_pos]
    rfl
   | false =>
    obtain ⟨q,hq⟩:=Qnm hu
    have n3:¬p3 (op::sgl::sp::biW b::sp::(wm u++[cp]++r))=true:=λz=>by
     obtain ⟨b',s,e⟩:=Qa8.mp z
     rw [hq] at e
     simp only [List.cons_append,List.cons.injEq] at e
     exact Gp e.2.2.2.2.2.1
    rw [les,if_neg (n2 _),if_neg n3,Vs (Ne.symm Gp),Vs Qn4,Vs (Qew b).1,Vs Qn4,List.append_assoc,Qdf u ([cp]++r) hu]
    simp only [red,ht,hu,if_pos,Option.map_some,Bool.false_eq_true,if_false]
    simp [wm,Qgd ht]
  | false =>
   obtain ⟨q,hq⟩:=Qnm ht
   have n2:¬p2 (op::(wm t++sp::biW b::sp::(wm u++[cp])++r))=true:=λz=>by
    obtain ⟨b',s,e⟩:=Qa9.mp z
    rw [hq] at e
    simp only [List.cons_append,List.cons.injEq] at e
    exact Qqe b' e.2.1.symm
   have n3:¬p3 (op::(wm t++sp::biW b::sp::(wm u++[cp])++r))=true:=λz=>by
    obtain ⟨b',s,e⟩:=Qa8.mp z
    rw [hq] at e
    simp only [List.cons_append,List.cons.injEq] at e
    exact Gp e.2.1
   rw [les,if_neg n2,if_neg n3,List.append_assoc,Qdf t _ ht]
   simp only [red,ht,Option.map_some,Bool.false_eq_true,if_false]
   simp [wm]
theorem Vv {a b:List Str} {p q:List Str} (h:a++b=p++x::q):(∃s,a=p++x::s/\q=s++b)\/∃s,p=a++s/\b=s++x::q:=by
 rcases List.append_eq_append_iff.mp h with ⟨s,h1,h2⟩ | ⟨s,h1,h2⟩
 ·exact .inr ⟨s,h1,h2⟩
 ·cases s with
  | nil=>exact .inr ⟨[],by simpa using h1.symm,by simpa using h2.symm⟩
  | cons y s =>
   rw [List.cons_append] at h2
   injection h2 with e1 e2
   exact .inl ⟨s,by rw [h1,e1],e2⟩
theorem grow:∀(t:Tr) {p q:List Str} (s:Tr),wm t=p++sgl::q->∃t',wm t'=p++(wm s++q)
 | .lf k,p,q,s,h=>by
  have h:[sgl]=p++sgl::q:=h
  cases p with
  | nil=>simp at h;exact ⟨s,by simp [h]⟩
  | cons a p=>simp at h
 | .un b t,p,q,s,h=>by
  have h:[op,unW b,sp]++(wm t++[cp])=p++sgl::q:=h
  rcases Vv h with ⟨r,h1,h2⟩ | ⟨r,h1,h2⟩
  ·exfalso
   have:sgl∈[op,unW b,sp]:=by rw [h1];simp
   simp only [List.mem_cons,List.not_mem_nil,or_false] at this
   rcases this with z | z | z
   ·exact Gp z.symm
   ·exact Qe8 b z.symm
   ·exact Qa2 z.symm
  ·rcases Vv h2 with ⟨r2,h3,h4⟩ | ⟨r2,h3,h4⟩
   ·obtain ⟨t',e⟩:=grow t s h3
    exact ⟨.un b t',by subst h1 h4;show [op,unW b,sp]++(wm t'++[cp])=_;rw [e];simp⟩
   ·exfalso
    have:sgl∈[cp]:=by rw [h4];simp
    exact Qf6 (List.mem_singleton.mp this).symm
 | .bi b t u,p,q,s,h=>by
  have h:[op]++(wm t++([sp,biW b,sp]++(wm u++[cp])))=p++sgl::q:=h
  rcases Vv h with ⟨r,h1,h2⟩ | ⟨r,h1,h2⟩
  ·exfalso
   have:sgl∈[op]:=by rw [h1];simp
   exact Gp (List.mem_singleton.mp this).symm
  ·rcases Vv h2 with ⟨r2,h3,h4⟩ | ⟨r2,h3,h4⟩
   ·obtain ⟨t',e⟩:=grow t s h3
    exact ⟨.bi b t' u,by subst h1 h4;show [op]++(wm t'++([sp,biW b,sp]++(wm u++[cp])))=_;rw [e];simp⟩
   ·rcases Vv h4 with ⟨r3,h5,h6⟩ | ⟨r3,h5,h6⟩
    ·exfalso
     have:sgl∈[sp,biW b,sp]:=by rw [h5];simp
     simp only [List.mem_cons,List.not_mem_nil,or_false] at this
     rcases this with z | z | z
     ·exact Qa2 z.symm
     ·exact Qni b z.symm
     ·exact Qa2 z.symm
    ·rcases Vv h6 with ⟨r4,h7,h8⟩ | ⟨r4,h7,h8⟩
     ·obtain ⟨u',e⟩:=grow u s h7
      exact ⟨.bi b t u',by subst h1 h3 h5 h8;show [op]++(wm t++([sp,biW b,sp]++(wm u'++[cp])))=_;rw [e];simp⟩
     ·exfalso
      have:sgl∈[cp]:=by rw [h8];simp
      exact Qf6 (List.mem_singleton.mp this).symm
theorem Qb6:∀{ws v:List Str},les ws=some v->∃p q s,ws=p++(wm s++q)/\v=p++sgl::q/\v.length<ws.length
 | [],v,h=>by cases h
 | w::r,v,h=>by
  rw [les] at h
  split at h
  ·rename_i z
   obtain ⟨b,s,e⟩:=Qa9.mp z
   rw [e] at h ⊢
   cases h
   exact ⟨[],s,.un b (.lf 0),rfl,rfl,by simp⟩
  ·split at h
   ·rename_i z
    obtain ⟨b,s,e⟩:=Qa8.mp z
    rw [e] at h ⊢
    cases h
    exact ⟨[],s,.bi b (.lf 0) (.lf 0),rfl,rfl,by simp⟩
   ·obtain ⟨v',h1,rfl⟩:=Option.map_eq_some_iff.mp h
    obtain ⟨p,q,s,e1,e2,e3⟩:=Qb6 h1
    exact ⟨w::p,q,s,by rw [e1];rfl,by rw [e2];rfl,by simpa using e3⟩
def isW (ws:List Str):Prop:=∃t,ws=wm t
theorem Qlt {v:List Str} (hn:ws≠[sgl]) (h:les ws=some v):isW v↔isW ws:=by
 constructor
 ·rintro ⟨t,rfl⟩
  obtain ⟨p,q,s,e1,e2,_⟩:=Qb6 h
  obtain ⟨t',e⟩:=grow t s e2
  exact ⟨t',by rw [e,e1]⟩
 ·rintro ⟨t,rfl⟩
  cases ht:isLf t with
  | true=>exact absurd (Qgd ht) hn
  | false =>
   have:=Qdf t [] ht
   rw [List.append_nil,List.append_nil,h] at this
   cases this
   exact ⟨red t,rfl⟩
theorem Qls (hn:ws≠[sgl]) (h:les ws=none):¬isW ws:=by
 rintro ⟨t,rfl⟩
 cases ht:isLf t with
 | true=>exact absurd (Qgd ht) hn
 | false =>
  have:=Qdf t [] ht
  rw [List.append_nil,h] at this
  cases this
def opI (w:Str):Int:=(if w=op then 1 else 0)-(if w=cp then 1 else 0)
def dpB:Int->List Str->Bool
 | _,[]=>true
 | n,w::r=>decide (n+opI w<=8) && dpB (n+opI w) r
theorem Quz (h1:w≠op) (h2:w≠cp):opI w=0:=by unfold opI;rw [if_neg h1,if_neg h2];rfl
theorem Qm3:opI op=1:=by unfold opI;rw [if_pos rfl,if_neg (Ne.symm cpop)];rfl
theorem Qm4:opI cp = -1:=by unfold opI;rw [if_neg cpop,if_pos rfl];rfl
theorem Qhd (hn:n<=8) (h1:w≠op) (h2:w≠cp):dpB n (w::r)=dpB n r:=by
 rw [dpB,Quz h1 h2,Int.add_zero];simp [hn]
theorem Qgp:sp≠op/\sp≠cp:=by decide +kernel
theorem Qdv:∀(t:Tr) {n:Int} {r:List Str},n<=8->dpB n (wt t++r)=(decide (n+(t.h:Int)<=8) && dpB n r)
 | .lf k,n,r,hn=>by
  show dpB n (lfW k::r)=_
  rw [Qhd hn (Qg1 k).1 (Qg1 k).2]
  simp [Tr.h,hn]
 | .un b t,n,r,hn=>by
  show dpB n (op::unW b::sp::(wt t++[cp]++r))=_
  rw [dpB,Qm3]
  by_cases h:n+1<=8
  ·rw [Qhd h (Qd6 b).1 (Qd6 b).2,Qhd h Qgp.1 Qgp.2,List.append_assoc,Qdv t h]
   show (decide (n+1<=8) && (decide (n+1+(t.h:Int)<=8) && dpB (n+1) (cp::r)))=_
   rw [dpB,Qm4,show n+1 + -1=n by omega]
   simp only [h,hn,decide_true,Bool.true_and]
   congr 1
   exact decide_eq_decide.mpr (by simp only [Tr.h];omega)
  ·have:¬n+((t.h+1:Nat):Int)<=8:=by omega
   simp only [Tr.h,h,this,decide_false,Bool.false_and]
 | .bi b t u,n,r,hn=>by
  show dpB n (op::(wt t++sp::biW b::sp::(wt u++[cp])++r))=_
  rw [dpB,Qm3]
  by_cases h:n+1<=8
  ·rw [List.append_assoc,Qdv t h]
   show (decide (n+1<=8) && (decide (n+1+(t.h:Int)<=8) && dpB (n+1) (sp::biW b::sp::(wt u++[cp]++r))))=_
   rw [Qhd h Qgp.1 Qgp.2,Qhd h (Qew b).1 (Qew b).2,Qhd h Qgp.1 Qgp.2,List.append_assoc,Qdv u h]
   show (decide (n+1<=8) && (decide (n+1+(t.h:Int)<=8) && (decide (n+1+(u.h:Int)<=8) && dpB (n+1) (cp::r))))=_
   rw [dpB,Qm4,show n+1 + -1=n by omega]
   simp only [h,hn,decide_true,Bool.true_and]
   rw [← Bool.and_assoc,← Bool.decide_and]
   congr 1
   exact decide_eq_decide.mpr (by simp only [Tr.h];omega)
  ·have:¬n+((max t.h u.h+1:Nat):Int)<=8:=by omega
   simp only [Tr.h,h,this,decide_false,Bool.false_and]
def cc (ws:List Str):List Nat:=ws.flatMap cl
theorem Qdz (a b:List Str):cc (a++b)=cc a++cc b:=by simp [cc]
theorem Yr (w:Str) (r:List Str):cc (w::r)=cl w++cc r:=by simp [cc]
theorem Qhg:∀t:Tr,cc (wt t)=cl (tx t)
 | .lf k=>by simp [cc,wt,tx]
 | .un b t=>by
  show cc (op::unW b::sp::(wt t++[cp]))=cl (Str.ofString "(" ++ unW b++Str.ofString " " ++ tx t++Str.ofString ")")
  rw [Yr,Yr,Yr,Qdz,Qhg t]
  unfold cl
  rw [S24.Jp,S24.Jp,S24.Jp,S24.Jp]
  simp [cc,op,sp,cp,cl]
 | .bi b t u=>by
  show cc (op::(wt t++sp::biW b::sp::(wt u++[cp])))=cl (Str.ofString "(" ++ tx t++Str.ofString " " ++ biW b++Str.ofString " " ++ tx u++Str.ofString ")")
  rw [Yr,Qdz,Yr,Yr,Yr,Qdz,Qhg t,Qhg u]
  unfold cl
  rw [S24.Jp,S24.Jp,S24.Jp,S24.Jp,S24.Jp,S24.Jp]
  simp [cc,op,sp,cp,cl]
theorem Qlh:∀w∈menu,∀v∈menu,∀r s:List Nat,cl w++r=cl v++s->w=v:=by
 have hd:∀w∈menu,∀v∈menu,(cl w).head? = (cl v).head? -> w=v:=by decide +kernel
 have ne:∀w∈menu,cl w≠[]:=by decide +kernel
 intro w hw v hv r s h
 refine hd w hw v hv ?_
 have:=congrArg List.head? h
 cases h1:cl w with
 | nil=>exact absurd h1 (ne w hw)
 | cons a l =>
  cases h2:cl v with
  | nil=>exact absurd h2 (ne v hv)
  | cons b m=>rw [h1,h2] at this;simpa using this
theorem Qi1:∀w∈menu,cl w≠[]:=by decide +kernel
theorem Qpr:∀{f ws:List Str} {rest:List Nat},(∀w∈f,w∈menu)->(∀w∈ws,w∈menu)->cc f++rest=cc ws->∃ws',ws=f++ws'/\rest=cc ws'
 | [],ws,rest,_,_,h=>⟨ws,rfl,by simpa [cc] using h⟩
 | w::f,[],rest,hf,_,h=>by
  rw [Yr] at h
  have:cl w=[]:=by
   have h:cl w++cc f++rest=[]:=h
   exact (List.append_eq_nil_iff.mp (List.append_eq_nil_iff.mp h).1).1
  exact absurd this (Qi1 w (hf w (by simp)))
 | w::f,v::ws,rest,hf,hw,h=>by
  rw [Yr,Yr,List.append_assoc] at h
  have e:=Qlh w (hf w (by simp)) v (hw v (by simp)) _ _ h
  subst e
  obtain ⟨ws',e1,e2⟩:=Qpr (λx hx=>hf x (by simp [hx])) (λx hx=>hw x (by simp [hx])) (List.append_cancel_left h)
  exact ⟨ws',by rw [e1];rfl,e2⟩
theorem Xe:∀t:Tr,∀w∈wt t,w∈menu
 | .lf k,w,h=>by
  rw [List.mem_singleton.mp h]
  exact lf3 k (p:=λx=>x∈menu) (by decide +kernel) (by decide +kernel) (by decide +kernel)
 | .un b t,w,h=>by
  simp only [wt,List.mem_cons,List.mem_append,List.not_mem_nil,or_false] at h
  rcases h with rfl | rfl | rfl | h | rfl
  ·decide +kernel
  ·cases b <;> decide +kernel
  ·decide +kernel
  ·exact Xe t w h
  ·decide +kernel
 | .bi b t u,w,h=>by
  simp only [wt,List.mem_cons,List.mem_append,List.not_mem_nil,or_false] at h
  rcases h with rfl | h | rfl | rfl | rfl | h | rfl
  ·decide +kernel
  ·exact Xe t w h
  ·decide +kernel
  ·cases b <;> decide +kernel
  ·decide +kernel
  ·exact Xe u w h
  ·decide +kernel
def Prt (x:Str):Prop:=∃t,x=tx t/\t.h<=8
theorem Qk4 (h:∀ws,(∀w∈ws,w∈menu)->cl x≠cc ws):¬Prt x:=by
 rintro ⟨t,rfl,_⟩
 exact h (wt t) (Xe t) (Qhg t).symm
theorem Xu (hm:∀w∈ws,w∈menu) (hx:cl x=cc ws):Prt x↔dpB 0 ws=true/\isW (ws.map phi):=by
 constructor
 ·rintro ⟨t,rfl,ht⟩
  obtain ⟨ws',e1,e2⟩:=Qpr (f:=wt t) (rest:=[]) (Xe t) hm (by rw [List.append_nil,Qhg,hx])
  have:ws'=[]:=by
   cases ws' with
   | nil=>rfl
   | cons w r=>rw [Yr] at e2;exact absurd (List.append_eq_nil_iff.mp e2.symm).1 (Qi1 w (hm w (by rw [e1];simp)))
  subst this
  rw [List.append_nil] at e1
  subst e1
  refine ⟨?_,t,Qfp t⟩
  have:=Qdv t (n:=0) (r:=[]) (by decide)
  rw [List.append_nil] at this
  rw [this]
  simp [dpB];omega
 ·rintro ⟨hd,t0,h0⟩
  obtain ⟨t,rfl⟩:=Qko t0 h0
  refine ⟨t,S24.Qcd (hx.trans (Qhg t)),?_⟩
  have:=Qdv t (n:=0) (r:=[]) (by decide)
  rw [List.append_nil,hd] at this
  have:=of_decide_eq_true ((Bool.and_eq_true _ _).mp this.symm).1
  omega
theorem Qqq (h:glued (Str.ofString " ") ws=Txt.replace (Txt.replace x (Str.ofString "(") (Str.ofString "( ")) (Str.ofString ")") (Str.ofString " )")) (hr:rd ws=some t):x=tx t/\t.h<=8:=by
 obtain ⟨e,ht⟩:=Qqs hr
 subst e
 refine ⟨S24.Qcd ?_,ht⟩
 rw [← Qqc t] at h
 have e1:Str.ofString "(" = ⟨#[40]⟩:=by decide +kernel
 have e2:Str.ofString ")" = ⟨#[41]⟩:=by decide +kernel
 have e4:(Str.ofString "( ").cps.toList=[40,32]:=by decide +kernel
 have e5:(Str.ofString " )").cps.toList=[32,41]:=by decide +kernel
 have h:=congrArg (λy:Str=>y.cps.toList) h
 simp only [e1,e2,Qbv,e4,e5] at h
 exact (Qvu h).symm
end P61
variable {w:PySem.World} {m:Bool}
namespace PV
open PySem PySem.Spec L2 PyProof.Rows
section
variable {w:WE}
def frzK (d:D) (k:D->Prop):Prop:=match d with
 | .lst xs=>Qn xs=true/\k (.kls xs)
 | _=>False
def Qgg (w:WE):WE:=λρ Q=>w ρ λd ρ'=>frzK d λd'=>Q d' ρ'
def asK (Q:D->Env->Prop) (d:D) (ρ:Env):Prop:=match d with
 | .fls xs=>Q (.kls xs) ρ
 | _=>False
theorem Qjw (h:EV X T m true e w):EV X T m true e (Qgg w):=by
 obtain ⟨te,pe,ge⟩:=Qnc h
 refine ⟨te,pe,λz R σ H W ρ Q Q' s hw k=>ge z R σ H W ρ (asK Q) Q' s ?_ λv H1 W1 d ρ1 F pp qq=>?_⟩
 ·have:(λ(d:D) (ρ':Env)=>frzK d λd'=>Q d' ρ')=λd ρ'=>Qpq d λd'=>asK Q d' ρ':=by
   funext d ρ'
   cases d <;> rfl
  unfold Qgg at hw
  rw [this] at hw
  exact hw
 ·cases d with
  | fls xs =>
   obtain ⟨sr,fr,calm,rep,own⟩:=pp
   cases rep with
   | fls e1 r=>exact k _ H1 W1 (.kls xs) ρ1 [] ⟨sr,fr,calm,.kls (.inl ⟨_,e1⟩) r,own⟩ qq
  | _=>exact (show False from qq).elim
theorem Qfn:frzK (.lst xs) k=(Qn xs=true/\k (.kls xs)):=rfl
end
section
variable {q:Pos}
theorem SR0.sameH {W:Addr->Prop} (r:SR0 K T z R H W σ ρ fp) (k:Same H H'):SR0 K T z R H' W σ ρ fp :=
 ⟨r.len,λa h=>(r.wd a h).imp λob q=>⟨k _ _ q.1,q.2⟩,λi d h=>(r.at_ i d h).imp λv q=>⟨q.1,q.2.same k⟩,r.own,r.ro,r.wr,λa h=>(r.rd a h).imp λob q=>⟨k _ _ q.1,q.2⟩,r.dis,r.fix⟩
theorem Qqo {α:Type} {l:List α} {j:Nat} {a:α} (h:j<l.length):l.set j a=l.take j++a::l.drop (j+1):=List.set_eq_take_append_cons_drop .. |>.trans (by rw [if_pos h])
end
end PV
variable {h:PySem.Heap}
namespace L2
open PySem PySem.Spec PyProof.Rows
open PySem.Sem (wp)
def DK (h h':Heap):Prop:=∀b o,h.get? b=some o->∃o',h'.get? b=some o'/\o'.dict=o.dict/\∀vs,o.data=.fields vs->∃vs':Array Value,o'.data=.fields vs'/\vs'[2]? = vs[2]?
theorem DK.refl (h:Heap):DK h h:=λ_ o e=>⟨o,e,rfl,λvs d=>⟨vs,d,rfl⟩⟩
theorem DK.trans {h1 h2:Heap} (x:DK h h1) (y:DK h1 h2):DK h h2:=λb o e =>
 let ⟨o1,e1,d1,f1⟩:=x b o e
 let ⟨o2,e2,d2,f2⟩:=y b o1 e1
 ⟨o2,e2,d2.trans d1,λvs d=>let ⟨v1,g1,k1⟩:=f1 vs d;let ⟨v2,g2,k2⟩:=f2 v1 g1;⟨v2,g2,k2.trans k1⟩⟩
theorem DK.upd {f:Obj->Obj} (hf:∀o,h.get? a=some o->(f o).isFreed=false/\(f o).dict=o.dict/\∀vs,o.data=.fields vs->∃vs':Array Value,(f o).data=.fields vs'/\vs'[2]? = vs[2]?):DK h (h.update a f):=λb o e=>by
 by_cases z:a=b
 ·subst z
  exact ⟨_,Heap.get?_update_self f e (hf o e).1,(hf o e).2⟩
 ·exact ⟨o,by rw [Heap.get?_update_other _ _ z];exact e,rfl,λvs d=>⟨vs,d,rfl⟩⟩
theorem DK.psh (h:Heap) (o:Obj):DK h (h.push o):=λb o' e=>⟨o',Heap.get?_push_of_some _ e,rfl,λvs d=>⟨vs,d,rfl⟩⟩
structure KD {α:Type} (t:Sem α):Prop where
 out:∀(M:Model) (Γ:PySem.Ctx) (Q:α->Pos->Shared->Prop) (E:Value->Pos->Shared->Prop) (p:Pos) (s:Shared),wp M Γ t Q E p s->wp M Γ t (λa p' s'=>Q a p' s'/\DK s.heap s'.heap) (λe p' s'=>E e p' s'/\DK s.heap s'.heap) p s
end L2
namespace L2.KD
open PySem PySem.Spec PyProof.Rows
open PySem.Sem (wp)
section
variable {α β:Type}
theorem pure (a:α):KD (Pure.pure a:Sem α):=⟨λ_ _ _ _ _ _ h=>⟨h,.refl _⟩⟩
theorem unsupported (w:String):KD (PySem.unsupported w:Sem α):=⟨λ_ _ _ _ _ _ h=>h⟩
theorem bind {m:Sem α} {f:α->Sem β} (hm:KD m) (hf:∀a,KD (f a)):KD (m >>= f):=⟨λM Γ Q E p s h=>by
 rw [Sem.wp_bind'] at h ⊢
 refine Sem.wp_mono M Γ m (λa p' s' h'=>?_) (λ_ _ _ x=>x) p s (hm.out M Γ _ E p s h)
 exact Sem.wp_mono M Γ (f a) (λ_ _ _ x=>⟨x.1,h'.2.trans x.2⟩) (λ_ _ _ x=>⟨x.1,h'.2.trans x.2⟩) p' s' ((hf a).out M Γ Q E p' s' h'.1)⟩
theorem ite {c:Prop} [Decidable c] {t u:Sem α} (ht:KD t) (hu:KD u):KD (if c then t else u):=by split <;> assumption
theorem load (a:Addr):KD (PySem.load a):=⟨λ_ _ _ _ _ _ ⟨o,e,h⟩=>⟨o,e,h,.refl _⟩⟩
theorem update {f:Obj->Obj} (hf:∀o:Obj,o.isFreed=false->(f o).isFreed=false/\(f o).dict=o.dict/\(f o).data=o.data):KD (PySem.update a f):=⟨λ_ _ _ _ _ _ ⟨e,h⟩=>⟨e,h,DK.upd λo q=>let ⟨a1,a2,a3⟩:=hf o (Heap.get?_some_iff.mp q).2;⟨a1,a2,λvs d=>⟨vs,a3.trans d,rfl⟩⟩⟩⟩
theorem stack:KD PySem.stack:=⟨λ_ _ _ _ _ _ h=>⟨h,.refl _⟩⟩
theorem alloc (o:Obj):KD (PySem.alloc o):=⟨λ_ _ _ _ _ _ h=>⟨h,.psh _ _⟩⟩
theorem field (v:Value) (i:Nat):KD (PySem.field v i):=⟨λM Γ Q E p s h=>by
 obtain ⟨a,o,vs,x,e1,e2,e3,e4,q⟩:=(wp_field_iff Γ v i Q E p s).mp h
 exact (wp_field_iff Γ v i _ _ p s).mpr ⟨a,o,vs,x,e1,e2,e3,e4,q,.refl _⟩⟩
theorem setField (v:Value) (i:Nat) (x:Value) (hi:i≠2:=by decide):KD (PySem.setField v i x):=⟨λM Γ Q E p s h=>by
 obtain ⟨a,o,vs,e1,e2,e3,e4,q⟩:=(wp_setField_iff Γ v i x Q E p s).mp h
 refine (wp_setField_iff Γ v i x _ _ p s).mpr ⟨a,o,vs,e1,e2,e3,e4,q,DK.upd λo' q'=>?_⟩
 rw [e2] at q'
 cases q'
 refine ⟨Obj.isFreed_of_fields (Obj.data_mapFields e3 _),by obtain ⟨c,d,dt,sl⟩:=o;cases e3;rfl,λvs' q=>⟨_,Obj.data_mapFields e3 _,?_⟩⟩
 rw [e3] at q
 cases q
 rw [Array.getElem?_setIfInBounds_ne hi]⟩
end
end L2.KD
namespace L2
open PySem PySem.Spec PyProof.Rows
open PySem.Sem (wp)
theorem Qja (env:PySem.Env) (outer:List PySem.Env):KD (behindIsImport env outer):=by
 unfold behindIsImport
 repeat' (with_reducible first | assumption | exact KD.pure _ | exact KD.unsupported _ | exact KD.field _ _ | exact KD.setField _ _ _ | exact KD.load _ | exact KD.stack | exact KD.alloc _ | apply KD.ite | apply KD.bind | intro _ | split)
theorem Qln:KD underTheClaimsCaller:=by
 unfold underTheClaimsCaller
 repeat' (with_reducible first | assumption | exact KD.pure _ | exact KD.unsupported _ | exact KD.field _ _ | exact KD.setField _ _ _ | exact KD.load _ | exact KD.stack | exact KD.alloc _ | apply KD.ite | apply KD.bind | intro _ | split)
theorem Qpk (env:PySem.Env) (i:Bool) (l:List PySem.Env):KD (keptBack env i l):=by
 have:=Qln
 cases l <;> unfold keptBack <;> repeat' (with_reducible first | assumption | exact KD.pure _ | exact KD.unsupported _ | exact KD.field _ _ | exact KD.setField _ _ _ | exact KD.load _ | exact KD.stack | exact KD.alloc _ | apply KD.ite | apply KD.bind | intro _ | split)
theorem Qfx:∀l:List PySem.Env,KD (readyFrames l)
 | []=>KD.pure _
 | env::outer=>by
  have ih:=Qfx outer
  have h1:=Qja env outer
  have h2:=λi=>Qpk env i outer
  unfold readyFrames
  repeat' (with_reducible first | assumption | exact KD.pure _ | exact KD.unsupported _ | exact KD.field _ _ | exact KD.setField _ _ _ | exact KD.load _ | exact KD.stack | exact KD.alloc _ | apply KD.ite | apply KD.bind | intro _ | split)
  ·exact h2 _
  ·refine KD.update ?_
   intro o h
   obtain ⟨c,d,dt,sl⟩:=o
   cases dt <;> first | exact ⟨rfl,rfl,rfl⟩ | cases h
theorem Qi9:KD frameEnvs:=by
 unfold frameEnvs
 repeat' (with_reducible first | assumption | exact KD.pure _ | exact KD.unsupported _ | exact KD.field _ _ | exact KD.setField _ _ _ | exact KD.load _ | exact KD.stack | exact KD.alloc _ | apply KD.ite | apply KD.bind | intro _ | split)
theorem Qav (l:List PySem.Env):KD (frameObject l):=by
 cases l with
 | nil=>exact KD.pure _
 | cons env outer =>
  have:=Qfx (env::outer)
  unfold frameObject
  repeat' (with_reducible first | assumption | exact KD.pure _ | exact KD.unsupported _ | exact KD.field _ _ | exact KD.setField _ _ _ | exact KD.load _ | exact KD.stack | exact KD.alloc _ | apply KD.ite | apply KD.bind | intro _ | split)
theorem Qg4 (env:PySem.Env):KD (PySem.frameOf env):=by
 have h1:=Qi9
 have h2:=Qav
 unfold PySem.frameOf
 repeat' (with_reducible first | assumption | exact KD.pure _ | exact KD.unsupported _ | exact KD.field _ _ | exact KD.setField _ _ _ | exact KD.load _ | exact KD.stack | exact KD.alloc _ | apply KD.ite | apply KD.bind | intro _ | split)
 all_goals first | exact h2 _ | skip
theorem Qlo (f:Addr) (b:Bool):KD (entryPlaceOf f b):=by
 unfold entryPlaceOf
 repeat' (with_reducible first | assumption | exact KD.pure _ | exact KD.unsupported _ | exact KD.field _ _ | exact KD.setField _ _ _ | exact KD.load _ | exact KD.stack | exact KD.alloc _ | apply KD.ite | apply KD.bind | intro _ | split)
theorem Qlp (a b c d e:Value) (l:List Value):KD (EntryCells.newEntry a b c d e l):=by
 unfold EntryCells.newEntry newFields newObj newObjAsIs
 repeat' (with_reducible first | assumption | exact KD.pure _ | exact KD.unsupported _ | exact KD.field _ _ | exact KD.setField _ _ _ | exact KD.load _ | exact KD.stack | exact KD.alloc _ | apply KD.ite | apply KD.bind | intro _ | split)
theorem Qi8 (e:Value) (env:PySem.Env):KD (noteFrame e env):=by
 have h1:=Qg4 env
 have h2:=λf b=>Qlo f b
 have h3:=λa b c d e l=>Qlp a b c d e l
 unfold noteFrame
 repeat' (with_reducible first | assumption | exact KD.pure _ | exact KD.unsupported _ | exact KD.field _ _ | exact KD.setField _ _ _ | exact KD.load _ | exact KD.stack | exact KD.alloc _ | apply KD.ite | apply KD.bind | intro _ | split)
 all_goals first | exact h2 _ _ | exact h3 _ _ _ _ _ _ | skip
theorem Qab (e:Value) (f:Option Addr):KD (setFlight e f):=by
 unfold setFlight
 repeat' (with_reducible first | assumption | exact KD.pure _ | exact KD.unsupported _ | exact KD.field _ _ | exact KD.setField _ _ _ | exact KD.load _ | exact KD.stack | exact KD.alloc _ | apply KD.ite | apply KD.bind | intro _ | split)
theorem Qbb (env:PySem.Env) (e:Value):KD (leaving env e):=by
 have h1:=Qi8 e env
 have h2:=λf=>Qab e f
 unfold leaving
 repeat' (with_reducible first | assumption | exact KD.pure _ | exact KD.unsupported _ | exact KD.field _ _ | exact KD.setField _ _ _ | exact KD.load _ | exact KD.stack | exact KD.alloc _ | apply KD.ite | apply KD.bind | intro _ | split)
 all_goals exact h2 _
theorem KD.any {α:Type} {t:Sem α} (k:KD t) {M:Model} {Q:α->Shared->Prop} (h:wpAny M A t Q E s):wpAny M A t (λa s'=>Q a s'/\DK s.heap s'.heap) (λe s'=>E e s'/\DK s.heap s'.heap) s:=λΓ p i=>k.out M Γ _ _ p s (h Γ p i)
end L2
variable {N fI:PySem.Addr} {Q:Unit->PySem.Shared->Prop} {t:Nat} {g:Array PySem.GenState} {d:PySem.Drawn} {bm bs:List PySem.Value} {nm:PySem.Str} {sn:List PySem.Str} {ab hdct:Bool} {col:Option Bool} {dd:Option PySem.Addr} {newId initId:String}
namespace L2
open PySem PySem.Spec PyProof.Rows
open PySem.W (findIn subIn mroIn clsIn Looks looks_findIn looks_subIn)
section
variable {sub:List Value} {k0 k1 k2 k3 k5:Option Value} {B:String}
theorem Qgl (F:ExcBaseFacts B newId initId bmB) (T:OwnTail h bmB bm) {rest:List Value} {Q:Fin->Shared->Prop} (X:K.In h)
  (hC:h.get? C=some (excClassObj nm q C N bs bm hdct sn sub ab col dd k0 k1 k2 k3 k5 newId)) (hi:findIn K (.ref C) "__init__" = some (some (.ref fI))) (hf:PySem.W.typeIn K (.ref fI)=some (.type "function"))
  (hq:∀h' e,Heap.MadeExcOf h h' e (.ref C) rest->e=h.objs.size+1 -> 
   codeAny (model prog w) A (.call (.ref fI) ⟨.ref e::rest,[]⟩) (λr s'=>r=.ok (.ret .none)/\Q (.done (.ret (.ref e))) s') ⟨h',g,d,t,os⟩) (hrest:rest.length<=sizeLine:=by size_fits) :
  wpAny (model prog w) A (Builtin.«type.__call__» ⟨.ref C::rest,[]⟩) Q E ⟨h,g,d,t,os⟩:=by
 repeat (first | with_reducible refine wpAny_loadPart_at hC ?_ | with_reducible refine wpAny_madeBy_exc hC ?_ | wp_step)
 refine codeAny_call_builtin_code (Code.quiet_builtin _ F.quiet) (wpAny_check_new_subT F T hC ?_)
 refine codeAny_exc_new_subT F T hC ?_ hrest
 show wpAny _ _ _ _ _ _
 have kp:∀b o,h.get? b=some o->((h.push { cls:=.type "tuple",data:=.seq rest.toArray }).push { cls:=.ref C,data:=.fields #[.ref h.objs.size,.none,.none,.none,.bool false,.none] }).get? b=some o:=λb o e=>Heap.get?_push_of_some _ (Heap.get?_push_of_some _ e)
 have hC₁:=kp _ _ hC
 have X₁:=X.keeps kp
 have hget:((h.push { cls:=.type "tuple",data:=.seq rest.toArray }).push
   { cls:=.ref C,data:=.fields #[.ref h.objs.size,.none,.none,.none,.bool false,.none] }).get? (h.objs.size+1)=some
   { cls:=.ref C,data:=.fields #[.ref h.objs.size,.none,.none,.none,.bool false,.none] }:=by heap_get
 have hcC:(Value.ref C::bm).contains (.ref C)=true:=by simp
 have L1:=looks_findIn (M:=model prog w) X₁ hi
 have L2:=PySem.W.bind_fn (M:=model prog w) X₁ (.ref (h.objs.size+1)) hf
 unfold isInstance
 repeat (first | with_reducible refine wpAny_loadPart_at hget ?_ | (with_reducible refine wpAny_isSubtype_exc hC₁ ?_;rw [hcC]) | wp_step)
 show wpAny _ _ (typeLookup (.ref C) _) _ _ _
 refine L1.at ?_
 refine wpAny_holding (wpAny_bind (L2.at ?_))
 refine wpAny_bind (wpAny_call (codeAny_mono (hq _ (h.objs.size+1) ⟨kp,Heap.get?_none_of_le (Nat.le_succ _),h.objs.size,hget,Heap.get?_none_of_le (Nat.le_refl _),Heap.get?_push_of_some _ (Heap.get?_push_at rfl rfl)⟩ rfl) λr s' hr=>?_))
 obtain ⟨rfl,hQ⟩:=hr
 wp_walk
 exact hQ
theorem Qkh (F:ExcBaseFacts B newId initId bmB) (T:OwnTail h bmB bm) {rest:List Value} {Q:Value->Shared->Prop} (X:K.In h)
  (hC:h.get? C=some (excClassObj nm q C N bs bm hdct sn sub ab col dd k0 k1 k2 k3 k5 newId)) (hi:findIn K (.ref C) "__init__" = some (some (.ref fI))) (hf:PySem.W.typeIn K (.ref fI)=some (.type "function"))
  (hq:∀h' e,Heap.MadeExcOf h h' e (.ref C) rest->e=h.objs.size+1 ->
   codeAny (model prog w) (A.under (.builtin "type.__call__" ⟨.ref C::rest,[]⟩)) (.call (.ref fI) ⟨.ref e::rest,[]⟩) (λr s'=>r=.ok (.ret .none)/\Q (.ref e) s') ⟨h',g,d,t,os⟩) (hrest:rest.length<=sizeLine:=by size_fits) :
  wpAny (model prog w) A (call (.ref C) rest) Q E ⟨h,g,d,t,os⟩:=by
 have f1:=tc_lookup
 have f2:=tc_bind (.ref C)
 have hT:(⟨h,g,d,t,os⟩:Shared).TypeIs (.ref C) "type":=⟨_,hC,rfl⟩
 refine wpAny_call (codeAny_of_tree ?_)
 show wpAny _ _ (callAny (.ref C) _) _ _ _
 repeat (any_goals (first | assumption | with_reducible refine wpAny_loadPart_at hC ?_ | wp_step))
 refine ⟨rfl,?_⟩
 refine codeAny_call_builtin_at (Code.quiet_builtin _ (by decide +kernel)) entry_typeCall (wpAny_check_type_call_sub hC (Qgl (hrest:=hrest) F T X hC hi hf λh' e hm he=>?_))
 exact hq h' e hm he
end
end L2
variable {dx:Option PySem.Addr}
namespace L2
open PySem PySem.Spec PyProof.Rows
open PySem.W (findIn subIn mroIn clsIn Looks looks_findIn looks_subIn)
open Builtin Builtin.ObjectAttr
abbrev Uc (C t:Addr) (dx:Option Addr):Obj:={ cls:=.ref C,dict:=dx,data:=.fields #[.ref t,.none,.none,.none,.bool false,.none] }
theorem Xr (T:OwnTail h bmB bm) (self:Value) (what:Str):refuseLoop self what bm=refuseLoop self what bmB:=by
 induction T with
 | base=>rfl
 | own _ _ _ _ ih=>rw [refuseLoop_ref,ih]
section
variable {x t0:Addr} {sub:List Value} {k0 k1 k2 k3 k5:Option Value} {B sa owner:String} {v:Value}
theorem Qha (F:ExcBaseFacts B newId initId bmB) (T:OwnTail h bmB bm) {R:Result->Shared->Prop}
  (hC:h.get? C=some (excClassObj nm q C N bs bm hdct sn sub ab col dd k0 k1 k2 k3 k5 newId)) (he:h.get? x=some (Uc C t0 dx))
  (hq:∀h',(∃t1,h'.get? x=some (Uc C t1 dx))->(∀b o,b≠x->h.get? b=some o->h'.get? b=some o)->R (.ok (.ret .none)) ⟨h',g,d,t,os⟩) :
  codeAny (model prog w) A (.call (.builtin initId) ⟨[.ref x,u],[]⟩) R ⟨h,g,d,t,os⟩:=by
 refine codeAny_call_builtin F.init.plain F.initEntry (wpAny_check_init_subT F T hC he rfl ?_)
 wp_walk
 refine hq _ ⟨h.objs.size,?_⟩ λb o hb e=>?_
 ·rw [Heap.get?_update_self _ (Heap.get?_push_of_some _ he) rfl]
  rfl
 ·rw [Heap.get?_update_other _ _ (Ne.symm hb)]
  exact Heap.get?_push_of_some _ e
theorem Qhb (SF:StoreFacts B bmB sa owner) (T:OwnTail h bmB bm) {tk:Tok} {Q:Fin->Shared->Prop} (X:K.In h)
  (hC:h.get? C=some (excClassObj nm q C N bs bm true sn sub ab col dd k0 k1 k2 k3 k5 newId)) (hna:findIn K (.ref C) name=some none) (he:h.get? x=some (Uc C t0 none))
  (hq:∀h' tk',h'.get? x=some (Uc C t0 (some h.objs.size))->h'.Ns1 h.objs.size (λy=>if y=name then some v else none)->(∀b o,b≠x->h.get? b=some o->h'.get? b=some o)->Q (.done (.ret .none)) ⟨h',g,d,tk',os⟩) :
  wpAny (model prog w) A (Builtin.«object.__setattr__» ⟨[.ref x,.str name tk,v],[]⟩) Q E ⟨h,g,d,t,os⟩:=by
 have L2:=looks_findIn (M:=model prog w) X hna
 have hpass:refuseLoop (.ref x) "__setattr__" (.ref C::bm)=pure ():=by rw [refuseLoop_ref,Xr T];exact SF.passes _
 obtain ⟨o,eo⟩:∃o,o=Uc C t0 none:=⟨_,rfl⟩
 have hc:o.cls=.ref C:=by rw [eo]
 have hdn:o.dict=none:=by rw [eo]
 have hdt:∀c,o.data ≠ .cls c:=λc z=>by rw [eo] at z;cases z
 rw [← eo] at he
 unfold Builtin.«object.__setattr__»
 repeat (first | rw [refuse_eq] | rw [hpass] | (with_reducible refine wpAny_loadPart_at he ?_;rw [hc]) | with_reducible refine wpAny_mroOf_exc hC ?_ | with_reducible refine L2.at ?_ | wp_step)
 rw [hdn,if_neg (by simp [typeHasDict])]
 split
 ·rename_i hcd
  cases hcd
 split
 ·rename_i c hcd
  exact absurd hcd (hdt c)
 have hx₁:(h.push { cls:=.type "dict",data:=.dict #[] }).get? x=some o:=Heap.get?_push_of_some _ he
 have hxs:x≠h.objs.size:=Nat.ne_of_lt (Heap.lt_size he)
 refine wpAny_bind (wpAny_alloc' ?_)
 refine wpAny_bind (wpAny_update' hx₁ ?_)
 refine wpAny_pure ?_
 have hgd:((h.push { cls:=.type "dict",data:=.dict #[] }).update x λo=>{ cls:=o.cls,dict:=some h.objs.size,data:=o.data,slots:=o.slots }).get? h.objs.size
   = some { cls:=.type "dict",data:=.dict #[] }:=(Heap.get?_update_ne _ _ _ _ hxs.symm).trans (Heap.get?_push_at rfl rfl)
 have hnd:((h.push { cls:=.type "dict",data:=.dict #[] }).update x λo=>{ cls:=o.cls,dict:=some h.objs.size,data:=o.data,slots:=o.slots }).Ns h.objs.size (λ_=>none) :=
  ⟨_,#[],_,hgd,rfl,λe he=>absurd he (by simp),λ_=>rfl⟩
 show wpAny _ _ (storeInDict h.objs.size (.str name tk) name v) _ _ _
 unfold storeInDict newKeyGuard
 refine wpAny_bind (wpAny_pure (wpAny_bind (wpAny_nsSet1 (Heap.Ns1.of_empty hnd) λh' hn' hs=>?_)))
 obtain ⟨oD,esD,epD,hoD,hdD,hcD⟩:=hn'.count (Within.cons name v Within.nil)
 refine wpAny_bind (wpAny_lookBehind hoD (by rw [hdD];exact pastItsLine_dict (Nat.le_trans hcD (by rw [List.length_cons,List.length_nil,sizeLine_eq];omega))) ?_)
 wp_walk
 subst eo
 refine hq h' _ ((hs.2 x hxs).trans (Heap.get?_update_self _ hx₁ rfl)) hn' λb ob hbx hb=>?_
 exact (hs.2 b (Nat.ne_of_lt (Heap.lt_size hb))).trans ((Heap.get?_update_ne _ _ _ _ hbx).trans (Heap.get?_push_of_some _ hb))
theorem Qjp (SF:StoreFacts B bmB sa owner) (T:OwnTail h bmB bm) (X:K.In h)
  (hC:h.get? C=some (excClassObj nm q C N bs bm true sn sub ab col dd k0 k1 k2 k3 k5 newId)) (hs:findIn K (.ref C) "__setattr__" = some (some (.builtin sa))) (hna:findIn K (.ref C) name=some none) (he:h.get? x=some (Uc C t0 none))
  (hq:∀h' tk',h'.get? x=some (Uc C t0 (some h.objs.size))->h'.Ns1 h.objs.size (λy=>if y=name then some v else none)->(∀b o,b≠x->h.get? b=some o->h'.get? b=some o)->Q () ⟨h',g,d,tk',os⟩) :
  wpAny (model prog w) A (setAttr (.ref x) name v) Q E ⟨h,g,d,t,os⟩:=by
 have f3:=SF.slot.bind (.ref x)
 have hc:(Uc C t0 none).cls=.ref C:=rfl
 have L1:=looks_findIn (M:=model prog w) X hs
 have L2:=looks_findIn (M:=model prog w) X hna
 have hcB:(Value.ref C::bm).contains (.type owner)=true:=by rw [List.contains_cons,T.hasType SF.hasOwner,Bool.or_true]
 have hpass:refuseLoop (.ref x) "__setattr__" (.ref C::bm)=pure ():=by rw [refuseLoop_ref,Xr T];exact SF.passes _
 unfold setAttr callSpecial? specialOf
 repeat (any_goals (first | assumption | with_reducible refine wpAny_loadPart_at he ?_ | with_reducible refine L1.at ?_ | wp_step))
 refine codeAny_call_builtin SF.slot.plain SF.entry ?_
 have ha:=SF.args (.ref x) (.str name t) v
 simp only [checkBuiltinCall,SF.kind,SF.split]
 refine wpAny_bind ?_
 unfold isInstance
 repeat (first | with_reducible refine wpAny_loadPart_at he ?_ | (with_reducible refine wpAny_isSubtype_exc hC ?_;rw [hcB]) | wp_step)
 have key:=Qhb (prog:=prog) (w:=w) (A:=A.in1) (E:=E) (g:=g) (d:=d) (t:=t+1) (os:=os) (tk:=t) SF T X hC hna he (Q:=λfin s'=>match fin with
  | .done (.ret _)=>Q () s'
  | _=>False) λh' tk' a b c=>hq h' tk' a b c
 cases hsig:Manifest.signature? sa with
 | none =>
  refine wpAny_pure (wpAny_mono key (λfin s' z=>?_) λ_ _ y=>y)
  rcases fin with (_ | _ | _ | _) | _ <;> first | exact wpAny_pure (wpAny_pure z) | exact False.elim z
 | some sig =>
  simp only [argsOk,hsig] at ha
  have h2:Bind.checkArgs sa sig ⟨[.ref x,.str name t,v],[]⟩=pure ():=ha
  show wpAny (model prog w) A.in1 (Bind.checkArgs sa sig ⟨[.ref x,.str name t,v],[]⟩) _ E _
  rw [h2]
  refine wpAny_pure (wpAny_mono key (λfin s' z=>?_) λ_ _ y=>y)
  rcases fin with (_ | _ | _ | _) | _ <;> first | exact wpAny_pure (wpAny_pure z) | exact False.elim z
end
end L2
variable {tE:PySem.Addr} {attr:PySem.Str}
namespace L2
open PySem PySem.Spec PyProof.Rows
open PySem.W (findIn subIn mroIn clsIn Looks looks_findIn looks_subIn hideAll of_hideAll hideAll_get hideAll_none funFrames_hide)
def exO (a C:Addr) (dx:Option Addr):HO:=.ext λh=>∃t,h.get? a=some (Uc C t dx)
theorem Qjs (e:∃t,h.get? a=some (Uc C t dx)):Ya P w H h a (exO a C dx):=⟨e,let ⟨_,q⟩:=e;⟨_,q⟩,λ_ _ ⟨t,q⟩ k=>⟨t,k _ q⟩⟩
abbrev mroV:List Value:=[.type "ValueError",.type "Exception",.type "BaseException",.type "object"]
structure ExcC (K:PySem.W.Frag) (C:Addr):Prop where
 obj:∃(nm q:Str) (N:Addr) (bs bm:List Value) (sn:List Str) (sub:List Value) (ab:Bool) (col:Option Bool) (dd:Option Addr) (k0 k1 k2 k3 k5:Option Value),bm.contains (.type "BaseException")=true /\
  ∀h:Heap,K.In h->h.get? C=some (excClassObj nm q C N bs bm true sn sub ab col dd k0 k1 k2 k3 k5 "ValueError.__new__")/\OwnTail h mroV bm
 sa:findIn K (.ref C) "__setattr__" = some (some (.builtin "object.__setattr__"))
section
variable {te:Str} {e1 o:Expr}
theorem Qii (hg:Gl X te) (hm:X.mg te=some (.ref tE)) (hsp:PySem.W.specialIn X.K (.ref tE) "__getattribute__" = some (some (.builtin "type.__getattribute__"))) (hrd:PySem.W.readsIn X.K tE (.type "type")=true)
  (hfc:PySem.W.findCls X.K (.ref tE) (.type "type") "__init__" = some (.val (.builtin "ValueError.__init__"))) (ha:PA X (e₀::es) ta)
  (hs:swapsWith (.Call (.Attribute (.Name te p) "__init__" apos) (e₀::es) [] cpos) none pos.line X.env=pure false:=by rfl) (hdb:(te == ("__debug__" : Str))=false:=by decide)
  (he:starEach (e₀::es) X.env=(false,eval e₀ X.env)::starEach es X.env:=by rfl) (hpl:(backTo cpos (starEach es X.env)).any (·.1)=false:=by rfl) (ht:eval (.Call (.Attribute (.Name te p) "__init__" apos) (e₀::es) [] cpos) X.env=(do
   let ov ← eval (.Name te p) X.env
   standAt apos.atName
   let (f,first) ← holding [ov] (getMethod ov "__init__" pl)
   callWith cpos f first (backTo cpos (starEach (e₀::es) X.env)) (backToKw cpos (keywordEach [] X.env))):=by rfl) :
  PS X (.Expr (.Call (.Attribute (.Name te p) "__init__" apos) (e₀::es) [] cpos) pos) (λD σ H=>ta σ H λvs H1=>∃a C v,vs=[.ref a,v]/\H1 a=some (exO a C none)/\ExcC X.K C/\D.nx σ H1):=by
 intro pins s σ H D I h
 refine wpAny_Expr_any ?_ I.quiet hs
 refine PySem.W.methodCall_KW (pl:=pl) (Vj I hg hm ?_ hdb) ht
 refine PySem.W.method_cls I.kIn hsp (PySem.W.cls_value I.kIn hrd hfc rfl ?_)
 have hA:=ha cpos pins { s with toks:=s.toks+1 } σ H _ (I.tok _) h
 rw [he] at hA ⊢
 refine Calls.callWith_builtin (by show (false || (backTo cpos (starEach es X.env)).any (·.1))=false;rw [hpl] <;> rfl) (Calls.evalArgs_plain ?_)
 refine thn hA λus s2 ⟨vs,H2,I2,r2,a,C,v,ev,hH,hC,q⟩=>?_
 subst ev
 obtain ⟨u,u2,rfl,ru,ru2⟩:=Qhr r2
 cases ru
 obtain ⟨nm,qq,N,bs,bm,sn,sub,ab,col,dd,k0,k1,k2,k3,k5,hb,hob⟩:=hC.obj
 obtain ⟨h1,h2⟩:=hob s2.heap I2.kIn
 obtain ⟨⟨t,e⟩,_⟩:=I2.hok a _ hH
 obtain ⟨hp,g,d,tk,os⟩:=s2
 refine wpAny_call (Qha F.excBase_ValueError h2 h1 e λh' hx hk=>?_)
 refine ⟨σ,H2,?_,q⟩
 have I3:=I2.write (x:=a) (e:=a) (o:=exO a C none) (h':=h') (t':=tk) (by rw [hH];exact True.intro) (.inl rfl) (λb u hb z=>hk b u hb z) (let ⟨_,q⟩:=hx;⟨_,q⟩) (Qjs hx)
 have eq:upd H2 a (exO a C none)=H2:=funext λb=>by
  by_cases z:b=a
  ·subst z;rw [Qi,hH]
  ·rw [Qg z]
 rw [eq] at I3
 exact I3
theorem Qor {tv:TE} (ha:PE X o to) (hv:PE X value tv) (hs:swapsWith value (some (.Attribute o attr pos')) pos.line X.env=pure false:=by rfl) :
  PS X (.Assign [.Attribute o attr pos'] value pos) (λD σ H=>tv σ H λv H1=>to σ H1 λy H2=>∃a C,y=.ref a/\H2 a=some (exO a C none)/\ExcC X.K C/\findIn X.K (.ref C) attr=some none /\
   ∀d,H2 d=none->d≠a->D.nx σ (upd (upd H2 a (exO a C (some d))) d (.xd [(attr,v)]))):=by
 intro pins s σ H D I h
 refine plainObj_wpAny_Assign_Attribute (thn (hv pins s σ H _ I h) λu s1 ⟨y,H1,I1,ry,q⟩=>thn (ha pins s1 σ H1 _ I1 q) λov s2 ⟨x,H2,I2,rx,a,C,ex,hH,hC,hn,q2⟩=>?_) hs
 subst ex
 obtain rfl:ov=Value.ref a:=rx
 obtain ⟨nm,qq,N,bs,bm,sn,sub,ab,col,dd,k0,k1,k2,k3,k5,hb,hob⟩:=hC.obj
 obtain ⟨h1,h2⟩:=hob s2.heap I2.kIn
 obtain ⟨⟨t,e⟩,_⟩:=I2.hok a _ hH
 obtain ⟨hp,g,dr,tk,os⟩:=s2
 refine Qjp F.store_ValueError h2 I2.kIn h1 hC.sa hn e λh' tk' e1 ns hk=>?_
 have hne:hp.objs.size≠a:=Nat.ne_of_gt (Heap.lt_size e)
 have hf:H2 hp.objs.size=none:=I2.hok.fresh (Nat.le_refl _)
 refine ⟨σ,_,?_,q2 hp.objs.size hf hne⟩
 have nk:∀b u,H2 b=some u->¬Mut (some u)->b≠a:=λb u q nm z=>by subst z;rw [hH] at q;cases q;exact nm True.intro
 have nd:∀b u,H2 b=some u->b≠hp.objs.size:=λb u q z=>by rw [z,hf] at q;cases q
 refine I2.un (h':=h') (t':=tk') ⟨λb o q n _ _=>hk b o (λz=>by rw [z,hH] at n;cases n) q,λb o q n _ _=>⟨o.slots,hk b o (λz=>by rw [z,hH] at n;cases n) q⟩,λb o q n _=>?_,λb o q _=>?_,λb xs q=>?_,λb o u q=>?_,λb ps q=>⟨#[],?_⟩⟩ λb u q=>?_
 ·rw [Qg (Nat.ne_of_lt (Heap.lt_size q)),Qg (λz=>by rw [z,hH] at n;cases n)]
  exact n
 ·by_cases z:b=a
  ·subst z;exact ⟨_,e1⟩
  ·exact ⟨_,hk b o z q⟩
 ·rw [Qg (nd b _ q),Qg (nk b _ q λz=>z)];exact q
 ·rw [Qg (nd b _ q),Qg (nk b _ q λz=>z)];exact q
 ·rw [Qg (nd b _ q),Qg (nk b _ q λz=>z),q];simp
 ·by_cases z:b=hp.objs.size
  ·subst z
   rw [Qi] at q
   cases q
   refine ⟨_,ns,λg=>?_⟩
   by_cases zz:g=attr
   ·subst zz
    simp only [List.lookup,beq_self_eq_true,if_true]
    exact ry
   ·have:(g == attr)=false:=by simpa using zz
    simp only [List.lookup,this,if_neg zz]
    exact True.intro
  ·rw [Qg z] at q
   by_cases z2:b=a
   ·subst z2
    rw [Qi] at q
    cases q
    exact Qjs ⟨t,e1⟩
   ·rw [Qg z2] at q
    refine (I2.hok b u q).stay (λc w hc y=>hk c w ?_ y) (λc y=>?_) (λc xs y=>?_) λc o1 o2 _ y _=>?_
    ·rcases hc with rfl | hc
     ·exact z2
     ·exact nk c _ hc λz=>z
    ·rw [Qg (nd c _ y),Qg (nk c _ y λz=>z)];exact y
    ·rw [Qg (nd c _ y),Qg (nk c _ y λz=>z)];exact y
    ·rw [Qg (nd c _ y),Qg (nk c _ y λz=>z)];exact y
end
section
variable {e1 o:Expr} {e d:Addr}
def Qal (H:Hp) (e d:Addr) (u:HO):Hp:=λb=>if b=e then none else if b=d then some u else H b
theorem Inv.refrz (I:Inv X pins σ H s) (he:H e=some (exO e C dx)) (hd:H d=some (.xd fs)):∃od t,s.heap.get? e=some (Uc C t dx)/\Inv X pins σ (Qal H e d (.frz od (.xd fs))) s:=by
 obtain ⟨⟨t,e1⟩,_⟩:=I.hok e _ he
 obtain ⟨od,e2⟩:=(I.hok d _ hd).there
 refine ⟨od,t,e1,?_⟩
 have kd:∀b u,H b=some u->(∀φ,u ≠ .ext φ)->(∀fs,u ≠ .xd fs)->Qal H e d (.frz od (.xd fs)) b=some u:=λb u q n1 n2=>by
  unfold Qal
  rw [if_neg (λz=>by rw [z,he] at q;cases q;exact n1 _ rfl),if_neg (λz=>by rw [z,hd] at q;cases q;exact n2 _ rfl)]
  exact q
 refine I.un (h':=s.heap) (t':=s.toks) ⟨λb o q n _ _=>q,λb o q n _ _=>⟨o.slots,q⟩,λb o q n _=>?_,λb o q _=>⟨o,q⟩,λb xs q=>kd _ _ q (λ_ z=>by cases z) (λ_ z=>by cases z),λb o u q=>kd _ _ q (λ_ z=>by cases z) (λ_ z=>by cases z),λb ps q=>⟨#[],?_⟩⟩ λb u q=>?_
 ·unfold Qal
  by_cases z:b=e
  ·rw [if_pos z]
  ·rw [if_neg z,if_neg (λz=>by rw [z,hd] at n;cases n)]
   exact n
 ·rw [kd _ _ q (λ_ z=>by cases z) (λ_ z=>by cases z)];simp
 ·have st:∀{a u},Ya X.prog X.w H s.heap a u->Ya X.prog X.w (Qal H e d (.frz od (.xd fs))) s.heap a u:=λok=>ok.stay (λ_ _ _ z=>z) (λc y=>kd _ _ y (λ_ z=>by cases z) (λ_ z=>by cases z)) (λc xs y=>kd _ _ y (λ_ z=>by cases z) (λ_ z=>by cases z)) λc o1 o2 _ y _=>kd _ _ y (λ_ z=>by cases z) (λ_ z=>by cases z)
  unfold Qal at q
  by_cases z:b=e
  ·rw [if_pos z] at q;cases q
  ·rw [if_neg z] at q
   by_cases z2:b=d
   ·rw [if_pos z2] at q
    cases q
    subst z2
    exact ⟨e2,st (I.hok b _ hd)⟩
   ·rw [if_neg z2] at q
    exact st (I.hok b u q)
end
section
variable {e d:Addr} {M:Model} {sub:List Value} {k0 k1 k2 k3 k5:Option Value}
theorem Qgr {x:Sem Value} {Q:Flow->Shared->Prop} (hbase:bm.contains (.type "BaseException")=true) (hh:A.handled=none)
  (h:wpAny M A x (λv s₁=>∃e t dx,v=.ref e/\s₁.heap.get? C=some (excClassObj nm q C N bs bm hdct sn sub ab col dd k0 k1 k2 k3 k5 newId)/\s₁.heap.get? e=some (Uc C t dx)/\E (.ref e) s₁) E s) :
  wpAny M A (raiseStmt env (some x) none) Q E s:=by
 have hcB:(Value.ref C::bm).contains (.type "BaseException")=true:=by rw [List.contains_cons,hbase,Bool.or_true]
 unfold raiseStmt
 refine wpAny_bind (wpAny_mono h (λv s₁ h₁=>?_) λ_ _ x=>x)
 obtain ⟨e,t,dx,rfl,hC,he,hE⟩:=h₁
 obtain ⟨hp,g,d,tk,os⟩:=s₁
 repeat (first | with_reducible refine wpAny_loadPart_at he ?_ | with_reducible refine wpAny_loadPart_at hC ?_ | (with_reducible refine wpAny_isSubtype_exc hC ?_;rw [hcB]) | wp_step)
 exact wpAny_raiseNew_none hh hE
end
end L2
variable {k:Nat} {l:List PySem.Env}
namespace L2
open PySem PySem.Spec PyProof.Rows
open PySem.W (hideAll of_hideAll hideAll_get hideAll_none funFrames_hide)
section
variable {M:Model} {L e:Addr} {cls a0:Value}
theorem KD.unit {t:Sem Unit} (k:KD t) {R:Heap->Prop} (h:wpAny M A t (λ_ s'=>∃h',s'={ s with heap:=h' }/\R h') (λ_ _=>False) s) (hQ:∀h',R h'->DK s.heap h'->Q () { s with heap:=h' }):wpAny M A t Q E s :=
 wpAny_mono (k.any h) (λ_ s' ⟨⟨h',e,r⟩,d⟩=>by subst e;exact hQ h' r d) λ_ _ z=>z.1.elim
theorem Qpi (hfr:A.frames=some (env::outer)) (hf:env.frame=some L) (hfl:Heap.FlyingW base (env::outer) e cls a0 s.heap)
  (hQ:∀h',Heap.FlyingW base outer e cls a0 h'/\s.heap.UpToSlots h'->DK s.heap h'->Q () { s with heap:=h' }):wpAny M A (leaving env (.ref e)) Q E s :=
 (Qbb _ _).unit (wpAny_leaves_onW hfr hf hfl λh' a b=>⟨h',rfl,a,b⟩) hQ
theorem Qsd (hfr:A.frames=some (env::outer)) (hf:env.frame=some L) (hfl:Heap.FlyingW base (env::outer) e cls a0 s.heap)
  (hQ:∀h',Heap.HeldW base (env::outer) e cls a0 L h'/\s.heap.UpToSlots h'->DK s.heap h'->Q () { s with heap:=h' }):wpAny M A (noteFrame (.ref e) env) Q E s :=
 (Qi8 _ _).unit (wpAny_looks_onW hfr hf hfl λh' a b=>⟨h',rfl,a,b⟩) hQ
theorem Qm7 (hh:Heap.HeldW base l e cls a0 L s.heap) (hQ:∀h',Heap.FlyingW base l e cls a0 h'/\s.heap.UpToSlots h'->DK s.heap h'->Q () { s with heap:=h' }):wpAny M A (setFlight (.ref e) none) Q E s :=
 (Qab _ _).unit (wpAny_landsW hh λh' a b=>⟨h',rfl,a,b⟩) hQ
theorem Qtr (hh:Heap.FlyingW base l e cls a0 s.heap) (hQ:∀h',Heap.FlyingW base l e cls a0 h'/\s.heap.UpToSlots h'->DK s.heap h'->Q () { s with heap:=h' }):wpAny M A (setFlight (.ref e) none) Q E s :=
 (Qab _ _).unit (lands_againW hh λh' a b=>⟨h',rfl,a,b⟩) hQ
end
def Vo (h:Heap) (e:Addr) (dx:Option Addr):Prop:=∃o,h.get? e=some o/\o.dict=dx/\∃vs:Array Value,o.data=.fields vs/\vs[2]? = some .none
theorem Vo.on {e:Addr} (x:Vo h e dx) (k:DK h h'):Vo h' e dx:=by
 obtain ⟨o,a,b,vs,c1,c2⟩:=x
 obtain ⟨o',a',b',f⟩:=k e o a
 obtain ⟨vs',g1,g2⟩:=f vs c1
 exact ⟨o',a',b'.trans b,vs',g1,g2.trans c2⟩
def CXD (P:Program) (w:World) (base:Heap):CXT:=λouter H s E e s'=>∃ea C t dx B H',e=.ref ea/\Fly P w base B outer H s C ea t H' s'/\Vo s'.heap ea dx/\E (.ref C) dx H'
section
variable {t:Addr}
theorem X9 {M:Model} (p:X.Plain) (I:Inv X pins σ H s) (he:s.heap.get? ea=some (Uc C t dx)) (hn:H ea=none) (h0:X.s₀.heap.get? ea=none)
  (hQ:∀h' B,Fly X.prog X.w X.base B X.outer X.H₀ X.s₀ C ea t H { s with heap:=h' }->Vo h' ea dx->Q () { s with heap:=h' }):wpAny M X.A (leaving X.env (.ref ea)) Q E s:=by
 have hex:∀b,b∉X.ex:=λb=>by rw [p.ex];simp
 have hne:∀b o,X.s₀.heap.get? b=some o->b≠ea:=λb o q z=>by rw [z,h0] at q;cases q
 have hB:(hideAll s.heap (ea::frs X.stack)).StaysIn s.heap:=λb o q=>of_hideAll _ q
 have inB:∀b o,s.heap.get? b=some o->b≠ea->b∉frs X.stack->(hideAll s.heap (ea::frs X.stack)).get? b=some o:=λb o e n1 n=>hideAll_get _ e (λz=>(List.mem_cons.mp z).elim n1 n)
 have hfrm:s.heap.FunFrames (hideAll s.heap (ea::frs X.stack)) X.stack:=funFrames_hide I.stack λenv he a ha=>List.mem_cons_of_mem _ (List.mem_filterMap.mpr ⟨env,he,ha⟩)
 have hen:(hideAll s.heap (ea::frs X.stack)).get? ea=none:=hideAll_none _ (List.mem_cons_self ..)
 refine (Qbb _ _).unit (R:=λh'=>Heap.LeftW (hideAll s.heap (ea::frs X.stack)) (X.env::X.outer) ea (.ref C) (.ref t) s.heap h') (wpAny_leaving_firstW (outer:=X.outer) (env:=X.env) (a0:=.ref t) (by rw [← p.stk];exact I.ok.frames) (by rw [← p.stk];exact hfrm) p.frame he hB hen rfl rfl rfl λh' hL=>⟨h',rfl,hL⟩) λh' hL dk=>?_
 obtain ⟨k1,⟨_,_,k2⟩,k3,x4⟩:=hL
 have x1:Heap.FlyingW (hideAll s.heap (ea::frs X.stack)) X.outer ea (.ref C) (.ref t) h':=⟨k1,hen,k2,k3⟩
 refine hQ h' (hideAll s.heap (ea::frs X.stack)) ?_ (Vo.on ⟨_,he,rfl,_,rfl,rfl⟩ dk)
 have nst:∀b o,X.s₀.heap.get? b=some o->b∉frs X.outer->b∉frs X.stack:=λb o e nf z=>(p.mem.mp z).elim (I.old e) nf
 have kp:∀b ob,X.s₀.heap.get? b=some ob->X.H₀ b=none->b∉frs X.outer->(hideAll s.heap (ea::frs X.stack)).get? b=some ob:=λb o e n nf=>inB b o (I.base.keep b o e n nf (hex b)) (hne b o e) (nst b o e nf)
 have th:∀b ob,X.s₀.heap.get? b=some ob->b∉frs X.outer->∃o',(hideAll s.heap (ea::frs X.stack)).get? b=some o':=λb o e nf=>by
  obtain ⟨o1,e1⟩:=I.base.there b o e (hex b)
  exact ⟨o1,inB b o1 e1 (hne b o e) (nst b o e nf)⟩
 have dom:∀b o,H b=some o->∃ob,(hideAll s.heap (ea::frs X.stack)).get? b=some ob:=λb o e=>by
  obtain ⟨ob,eb⟩:=(I.hok b o e).there
  exact ⟨ob,inB b ob eb (λz=>by rw [z,hn] at e;cases e) λz=>by rw [I.stkFree b z] at e;cases e⟩
 refine ⟨I.os,I.bare,⟨λb o e n nf _=>x1.1 b o (kp b o e n nf),λb o e n hb _=>?_,λb o e n _=>I.base.free b o e n (hex b),λb o e _=>?_,I.base.tups,I.base.frzs,I.base.tbls⟩,Qf1 I.hok dom hB x1.1,λb o e=>inB b o (I.bk b o e) (hne b o (I.ok.bs b o e).1) λz=>?_,dom,kp,th,x1,h0⟩
 ·obtain ⟨sl,e1⟩:=I.base.slot b o e n hb (hex b)
  obtain ⟨_,o',e3,nd⟩:=I.stack.mem (p.mem.mpr (.inr hb))
  have z:=e1.symm.trans e3
  cases z
  obtain ⟨sl',e4⟩:=x4 b { o with slots:=sl } e1 nd
  exact ⟨sl',e4⟩
 ·by_cases hb:b∈frs X.outer
  ·obtain ⟨_,o',e3,nd⟩:=I.stack.mem (p.mem.mpr (.inr hb))
   obtain ⟨sl,e4⟩:=x4 b _ e3 nd
   exact ⟨_,e4⟩
  ·obtain ⟨o',e1⟩:=th b o e hb
   exact ⟨_,x1.1 b o' e1⟩
 ·have:=(I.stack.mem z).1
  rw [e] at this
  cases this
theorem Qi4 {M:Model} (p:X.Plain) (I:Inv X pins σ H s) (f:Fly X.prog X.w X.base B X.stack H s C ea t H' s') (fd:Vo s'.heap ea dx)
  (hQ:∀h',Fly X.prog X.w X.base B X.outer X.H₀ X.s₀ C ea t H' { s' with heap:=h' }->Vo h' ea dx->Q () { s' with heap:=h' }):wpAny M X.A (leaving X.env (.ref ea)) Q E s' :=
 Qpi (by rw [← p.stk];exact I.ok.frames) p.frame (by rw [← p.stk];exact f.fly) λh' x k=>hQ h' (f.out p I x.1 x.2) (fd.on k)
theorem Fly.landedD (I:Inv X pins σ H s) (f:Fly X.prog X.w X.base B X.stack H s C ea t H' s') (fd:Vo s'.heap ea dx):∃(ob:Obj) (φ:Heap->Prop),ob.cls=.ref C/\(ob.dict=dx/\∃vs:Array Value,ob.data=.fields vs/\vs[2]? = some .none)/\H' ea=none/\Inv X pins σ (upd H' ea (.frz ob (.ext φ))) s':=by
 obtain ⟨ob,φ,hc,hn,J⟩:=f.landed I
 refine ⟨ob,φ,hc,?_,hn,J⟩
 obtain ⟨o1,e1,d1⟩:=fd
 obtain ⟨e2,_⟩:=J.hok ea _ Qi
 rw [e1] at e2
 cases e2
 exact d1
end
section
variable {t:Addr} {n:Str} {j:Nat}
theorem Qkd {D:Ends} (p:X.Plain) (I:Inv X pins σ H s) (f:Fly X.prog X.w X.base B X.stack H s C ea t H' s') (fd:Vo s'.heap ea dx) (hcx:X.mg cx=some (.ref C0)) (hg:Gl X cx) (hm:PySem.W.exmOne X.K (.ref C) (.ref C0)=some true)
  (hN:X.N.Nodup) (hj:X.N[j]? = some n) (hl:X.env.kindOf n=some .local) (hlo:X.env.scope.names.lookup n=some .local) (hh:PSs (X.han ea) (b₀::suite) th)
  (hw:∀(ob:Obj) (φ:Heap->Prop),ob.cls=.ref C->(ob.dict=dx/\∃vs:Array Value,ob.data=.fields vs/\vs[2]? = some .none)->H' ea=none->th (D.un j) (σ.set j (some (.ref ea))) (upd H' ea (.frz ob (.ext φ)))) (hdb:(cx == ("__debug__" : Str))=false:=by decide) :
  wpAny (model X.prog X.w) X.A (noteFrame (.ref ea) X.env) (λ_ s₂=>wpAny (model X.prog X.w) X.A (setFlight (.ref ea) none) (λ_ s₃=>wpAny (model X.prog X.w) X.A (handleBy (.ref ea) X.env [.ExceptHandler (some (.Name cx np)) (some n) (b₀::suite) hpos]) (SP X pins D) X.xe s₃) X.xe s₂) X.xe s':=by
 have hfr:X.A.frames=some (X.env::X.outer):=by rw [← p.stk];exact I.ok.frames
 have fl:=f.fly
 have fl':Heap.FlyingW B (X.env::X.outer) ea (.ref C) (.ref t) s'.heap:=by rw [← p.stk];exact fl
 refine Qsd hfr p.frame fl' λh₄ ⟨hheld,hsm₄⟩ d4=>?_
 refine Qm7 hheld λh₅ ⟨hfl5,hsm5⟩ d5=>?_
 have f5:=f.on (by rw [p.stk];exact hfl5) (hsm₄.trans hsm5)
 have fd5:=(fd.on d4).on d5
 refine wpAny_handleBy_cons (codeAny_handlers_test ?_) (by intro q;cases q)
 obtain ⟨ob5,φ5,hc5,hn5,I5⟩:=f5.landed I
 have I5h:=I5.han ea
 refine Vj (X:=X.han ea) I5h hg hcx ?_ hdb
 obtain ⟨oe,eoe,hoe⟩:=f5.fly.there
 have LT:PySem.W.Looks (model X.prog X.w) h₅ (typeOf (.ref ea)) (.ref C):=by
  rw [← hoe]
  exact (PySem.W.Looks.ld eoe).andThen .now
 refine (PySem.W.exm_one (M:=model X.prog X.w) I5.kIn LT hm).at ?_
 refine codeAny_handlers_suite_as ?_
 refine Qtr hfl5 λh₆ ⟨hfl6,hsm6⟩ d6=>?_
 have f6:=f5.on (by rw [p.stk];exact hfl6) hsm6
 obtain ⟨ob,φ,hc,hdx,hn,I6⟩:=f6.landedD I (fd5.on d6)
 refine Qbn I6 hN hj (.inl hlo) (v:=.ref ea) rfl (λs7 I7=>?_) (.inr hlo)
 refine wpAny_mono (hh pins s7 _ _ (D.un j) (I7.han ea) (hw ob φ hc hdx hn)) (λfl s8 q=>?_) λ_ _ z=>False.elim z
 cases fl with
 | next =>
  obtain ⟨σ',H'',J,q⟩:=q
  exact Uq (J.unhan I.ok) hN hj hl λs9 I9=>⟨_,_,I9,q⟩
 | brk =>
  obtain ⟨σ',H'',J,q⟩:=q
  exact Uq (J.unhan I.ok) hN hj hl λs9 I9=>⟨_,_,I9,q⟩
 | cont =>
  obtain ⟨σ',H'',J,q⟩:=q
  exact Uq (J.unhan I.ok) hN hj hl λs9 I9=>⟨_,_,I9,q⟩
 | ret u =>
  obtain ⟨v,σ',H'',J,r,q⟩:=q
  exact Uq (J.unhan I.ok) hN hj hl λs9 I9=>⟨v,_,_,I9,r,q⟩
def Qnj (X:Cx) (body:List Stmt) (tb:Ends->XK->St->Hp->Prop):Prop:=∀(pins:List (Addr × Obj)) (s:Shared) (σ:St) (H:Hp) (D:Ends) (E:XK),Inv X pins σ H s->tb D E σ H ->
 wpAny (model X.prog X.w) X.A (execs body X.env) (SP X pins D) (λe s'=>∃s1 H1,Inv X pins σ H1 s1/\CXD X.prog X.w X.base X.stack H1 s1 E e s') s
theorem Qos {tb:Ends->XK->St->Hp->Prop} {th:Addr->TS} (p:X.Plain) (hb:Qnj X body tb) (hcx:X.mg cx=some (.ref C0)) (hg:Gl X cx) (hN:X.N.Nodup) (hj:X.N[j]? = some n) (hl:X.env.kindOf n=some .local) (hlo:X.env.scope.names.lookup n=some .local)
  (hh:∀ea,PSs (X.han ea) (b₀::suite) (th ea)) (hdb:(cx == ("__debug__" : Str))=false:=by decide) :
  PS X (.Try body [.ExceptHandler (some (.Name cx np)) (some n) (b₀::suite) hpos] [] [] pos) (λD σ H=>tb D (λc dx H'=>∃C,c=.ref C/\PySem.W.exmOne X.K (.ref C) (.ref C0)=some true/\∀(ea:Addr) (ob:Obj) (φ:Heap->Prop),ob.cls=.ref C->(ob.dict=dx/\∃vs:Array Value,ob.data=.fields vs/\vs[2]? = some .none)->H' ea=none->th ea (D.un j) (σ.set j (some (.ref ea))) (upd H' ea (.frz ob (.ext φ)))) σ H):=by
 intro pins s σ H D I h
 refine wpAny_Try_except (wpAny_mono (hb pins s σ H D _ I h) (λfl s1 q=>?_) λe s' z=>?_)
 ·cases fl with
  | next=>exact wpAny_execs_nil q
  | brk=>exact q
  | cont=>exact q
  | ret u=>exact q
 ·obtain ⟨s1,H1,I1,ea,C,t,dx,B,H',rfl,f,fd,C',e,hm,hw⟩:=z
  cases e
  exact Qkd p I1 f fd hcx hg hm hN hj hl hlo (hh ea) (λob φ h1 h2 h3=>hw ea ob φ h1 h2 h3) hdb
theorem Qaj {sp:Sp} {Q:VK} {E:XK} (F:FnOk X.prog X.w X.K X.mg X.base CX k f fd ps sp) (hr:Room k X.A) (hg:Gl X x) (hm:X.mg x=some (.ref f)) (hk:PySem.W.keepIn X.K (.ref f)=true) (hb:Zi X.K fd ps [])
  (ha:PA X.nox (e₀::es) ta) (I:Inv X pins σ H s) (h:ta σ H λvs H1=>sp vs H1 Q E) (hdb:(x == ("__debug__" : Str))=false:=by decide)
  (he:starEach (e₀::es) X.env=(false,eval e₀ X.env)::starEach es X.env:=by rfl) (hpl:(backTo pos (starEach es X.env)).any (·.1)=false:=by rfl) :
  wpAny (model X.prog X.w) X.A (eval (.Call (.Name x p) (e₀::es) [] pos) X.env) (EP X pins σ Q) (λe s'=>∃s1 H1,Inv X pins σ H1 s1/\CX X.stack H1 s1 E e s') s:=by
 refine wpAny_Call_Name_kw (Vj I hg hm ?_ hdb)
 refine PySem.W.callWith_K (K:=X.K) (h₀:=X.base) I.ok.mod.kin hk (wpAny_mono (ha pos pins s σ H _ (I.wish _) h) (λus s1 z=>?_) λ_ _ z=>False.elim z) he hpl
 obtain ⟨vs,H1,I1,r,q⟩:=z
 have I1:=I1.unwish
 have hl:(us++[]).length=ps.length:=by rw [List.append_nil,← r.length];exact F.len _ _ _ _ q
 have hbb:=hb s1 us I1.kIn hl
 rw [List.append_nil] at hbb
 refine ⟨I1.kIn,wpAny_call (codeAny_mono (F.run X.A X.stack s1 H1 ⟨us,[]⟩ us vs Q E hr I1.env0 hbb r q) λr s' hq=>?_)⟩
 cases r with
 | error e=>exact ⟨s1,H1,I1,hq⟩
 | ok fl =>
  cases fl with
  | ret u=>exact I1.after hq
  | next=>exact False.elim hq
  | brk=>exact False.elim hq
  | cont=>exact False.elim hq
end
end L2
variable {Q:PySem.Value->PySem.Shared->Prop}
namespace L2
open PySem PySem.Spec PyProof.Rows
open PySem.W (findIn subIn mroIn clsIn Looks looks_findIn looks_subIn InstAt KitX)
section
variable {dx:Addr} {o:Obj}
theorem Qjo {tk:Tok} {Q:Fin->Shared->Prop} (X:K.In h) (kc:ExcC K C) (hl:findIn K (.ref C) name=some none) (hx:h.get? a=some o) (hc:o.cls=.ref C) (hd:o.dict=some dx) (hdt:∃vs,o.data=.fields vs) (hn:h.Ns dx mA) (hu:mA name=some u) (hh:PySem.W.handedIn u=true) (hq:Q (.done (.ret u)) ⟨h,g,d,t,os⟩) :
  wpAny (model prog w) A (Builtin.«object.__getattribute__» ⟨[.ref a,.str name tk],[]⟩) Q E ⟨h,g,d,t,os⟩:=by
 have L1:=looks_findIn (M:=model prog w) X hl
 unfold Builtin.«object.__getattribute__»
 repeat (any_goals (first | assumption | (with_reducible refine wpAny_loadPart_at hx ?_;first | rw [hc] | rw [hd]) | with_reducible refine L1.at ?_ | wp_step))
 obtain ⟨vs,hdt⟩:=hdt
 rw [hdt]
 unfold instanceDict
 obtain ⟨nm,qq,N,bs,bm,sn,sub,ab,col,dd,k0,k1,k2,k3,k5,hb,hob⟩:=kc.obj
 obtain ⟨hC,_⟩:=hob h X
 repeat (any_goals (first | assumption | (with_reducible refine wpAny_loadPart_at hx ?_;first | rw [hc] | rw [hd]) | with_reducible refine L1.at ?_ | wp_step))
 rw [hd]
 refine wpAny_pure (wpAny_nsGet hn ?_)
 rw [hu]
 repeat (any_goals (first | assumption | wp_step))
 done
theorem Qs3 {tk:Tok} {fill:Bool} (FB:ExcAttrBase Bx bmB) (X:K.In h) (kc:ExcC K C) (q:ExcQ K C) (hl:findIn K (.ref C) name=some none) (hx:h.get? a=some o) (hc:o.cls=.ref C) (hd:o.dict=some dx) (hdt:∃vs,o.data=.fields vs) (hn:h.Ns dx mA) (hu:mA name=some u) (hh:PySem.W.handedIn u=true) (hq:Q u ⟨h,g,d,t,os⟩) :
  wpAny (model prog w) A (getAttrBy (.ref a) (.str name tk) fill expr) Q E ⟨h,g,d,t,os⟩:=by
 have f3:=FB.ga.bind (.ref a)
 have hx0:(expr && onTheHeap (Value.builtin "BaseException.__getattribute__"))=false:=by cases expr <;> rfl
 have hx2:(Value.builtin "BaseException.__getattribute__" == Value.builtin "object.__getattribute__")=false:=by decide +kernel
 have hx1:(onTheHeap (Value.ref C) && Value.builtin "BaseException.__getattribute__" == Value.builtin "object.__getattribute__")=false:=by rw [hx2];rfl
 have L1:=looks_findIn (M:=model prog w) X q.ga
 have L2:=looks_findIn (M:=model prog w) X q.gt
 have hho:=PySem.W.handedOut_of hh
 repeat (any_goals (first | assumption | (with_reducible refine wpAny_loadPart_at hx ?_;rw [hc]) | with_reducible refine L1.at ?_ | with_reducible refine L2.at ?_ | wp_step))
 refine codeAny_call_builtin FB.ga.plain F.entry_bexc_ga (Qdr X q hx hc (Qjo X kc hl hx hc hd hdt hn hu hh ?_))
 repeat (any_goals (first | assumption | rw [hho] | wp_step))
theorem Qpu (FB:ExcAttrBase Bx bmB) (X:K.In h) (kc:ExcC K C) (q:ExcQ K C) (hl:findIn K (.ref C) name=some none) (hx:h.get? a=some o) (hc:o.cls=.ref C) (hd:o.dict=some dx) (hdt:∃vs,o.data=.fields vs) (hn:h.Ns dx mA) (hu:mA name=some u) (hh:PySem.W.handedIn u=true) (hq:Q u ⟨h,g,d,t+1,os⟩) :
  wpAny (model prog w) A (getAttr (.ref a) name expr) Q E ⟨h,g,d,t,os⟩:=by
 unfold getAttr
 repeat (any_goals (first | assumption | with_reducible apply Qs3 FB X kc q hl hx hc hd hdt hn hu hh | wp_step))
end
theorem Qk7 (FB:ExcAttrBase Bx bmB) (he:PE X e te) (hb:attributeBase e attr X.env (eval e X.env)=eval e X.env:=by rfl) :
  PE X (.Attribute e attr pos) (λσ H Q=>te σ H λy H1=>∃a C o φ dx od fs v,y=.ref a/\H1 a=some (.frz o (.ext φ))/\o.cls=.ref C/\o.dict=some dx/\(∃vs,o.data=.fields vs)/\H1 dx=some (.frz od (.xd fs))/\ExcC X.K C/\ExcQ X.K C/\findIn X.K (.ref C) attr=some none/\fs.lookup attr=some v/\Q v H1):=by
 intro pins s σ H Q I h
 refine Qkk hb (thn (he pins s σ H _ I h) λu s1 ⟨y,H1,I1,rx,a,C,o,φ,dx,od,fs,v,ey,ha,hc,hd,hdt,hx,kc,q,hl,hf,hq⟩=>?_)
 subst ey
 obtain rfl:u=Value.ref a:=rx
 obtain ⟨e1,_⟩:=I1.hok a _ ha
 obtain ⟨_,mA,ns,rr⟩:=I1.hok dx _ hx
 obtain ⟨u,hu,ru⟩:=RelO.some_of (v:=v) (o:=mA attr) (by rw [← hf];exact rr attr)
 obtain ⟨hp,g,d,tk,os⟩:=s1
 exact Qpu FB I1.kIn kc q hl e1 hc hd hdt ns.ns hu (Qdn ru) ⟨v,H1,I1.tok _,ru,hq⟩
theorem Qd7 {sp:Sp} (F:FnOk X.prog X.w X.K X.mg X.base (CXD X.prog X.w X.base) k f fd ps sp) (hr:Room k X.A) (hg:Gl X x) (hm:X.mg x=some (.ref f)) (hk:PySem.W.keepIn X.K (.ref f)=true) (hb:Zi X.K fd ps [])
  (ha:PA X.nox (e₀::es) ta) (hs:swapsWith (.Call (.Name x p) (e₀::es) [] cpos) none pos.line X.env=pure false:=by rfl) (hdb:(x == ("__debug__" : Str))=false:=by decide)
  (he:starEach (e₀::es) X.env=(false,eval e₀ X.env)::starEach es X.env:=by rfl) (hpl:(backTo cpos (starEach es X.env)).any (·.1)=false:=by rfl) :
  Qnj X [.Expr (.Call (.Name x p) (e₀::es) [] cpos) pos] (λD E σ H=>ta σ H λvs H1=>sp vs H1 (λ_ H2=>D.nx σ H2) E):=by
 intro pins s σ H D E I h
 refine wpAny_execs_cons (wpAny_Expr_any (wpAny_mono (Qaj F hr hg hm hk hb ha I h hdb he hpl) (λv s1 z=>?_) λ_ _ z=>z) I.quiet hs)
 obtain ⟨y1,H1,I1,r1,q1⟩:=z
 exact wpAny_execs_nil ⟨σ,H1,I1,q1⟩
end L2
namespace L2
open PySem PySem.Spec PyProof.Rows
def HnH (A:Around) (H:Hp):Prop:=∃(x:Addr) (o:Obj) (φ:Heap->Prop) (vs:Array Value),A.handled=some (.ref x)/\H x=some (.frz o (.ext φ))/\o.data=.fields vs/\vs[2]? = some .none
end L2
variable {a i:Nat} {st:PySem.Stmt}
namespace PV
open PySem PySem.Spec L2
open PyProof.Rows (envOfC)
def Fld (H:Hp) (dx:Option Addr) (fs:List (Str × Int)):Prop:=fs=[]\/∃d od,dx=some d/\H d=some (.frz od (.xd (fs.map λp=>(p.1,V.int p.2))))
def spXD (K:PySem.W.Frag) (g:GX):Sp:=λvs H Q E=>∃(ds:List D) (F:List Addr) (k kx:D->Prop),Reps K H ds vs F/\g ds k kx/\(∀v H' d F',Fin K H H' d v F'->k d->Q v H')/\∀x C dx fs H',atN K x C->Same H H'->Fld H' dx fs->kx (.obj x fs)->E (.ref C) dx H'
def Z4 (X:Cx) (T:Tg) (x:Str) (C:Addr) (attr:Str):Prop:=∀pins σ H s e d od t i,Inv X pins σ H s->s.heap.get? e=some (Uc C t (some d))->H e=none->X.s₀.heap.get? e=none->H d=some (.frz od (.xd [(attr,.int i)]))->T.xe (.obj x [(attr,i)]) σ H->X.xe (.ref e) s
def Vn (X:Cx) (T:Tg):Prop:=∀pins σ H s e s',Inv X pins σ H s->CXD X.prog X.w X.base X.stack H s (λc dx H'=>∃C,c=.ref C/\∃x fs,atN X.K x C/\Fld H' dx fs/\T.xe (.obj x fs) σ H') e s'->X.xe e s'
def CalD (P:Program) (w:World) (K:PySem.W.Frag) (mg:Str->Option Value) (base:Heap) (x:Str) (k:Nat) (ps:List Str) (sp:Sp):Prop :=
 ∃f fd,FnOk P w K mg base (CXD P w base) k f fd ps sp/\mg x=some (.ref f)/\PySem.W.keepIn K (.ref f)=true/\Zi K fd ps []
section
variable {a b:Expr} {w:WE} {p2:Pos} {ws:WS}
theorem Qbd {attr:Str} {n:Int}:∀{fs:List (Str × Int)},fs.lookup attr=some n->(fs.map λp=>(p.1,V.int p.2)).lookup attr=some (V.int n)
 | [],h=>by cases h
 | (a,b)::fs,h=>by
  simp only [List.map_cons,List.lookup] at h ⊢
  split
  ·rename_i z;rw [z] at h;cases h;rfl
  ·rename_i z;rw [z] at h;exact Qbd h
def Qhk (i:Nat) (attr:Str) (has:Str->Bool):WE:=λρ Q=>oget (look ρ i) λd=>match d with
 | .obj x fs=>has x=true/\oget (fs.lookup attr) λn=>Q (.int n) ρ
 | _=>False
theorem Qlz {v:Str} {has:Str->Bool} (ht:∀x C,has x=true->atN X.K x C->ExcC X.K C/\ExcQ X.K C/\PySem.W.findIn X.K (.ref C) attr=some none)
  (hN:X.N[i]? = some v:=by rfl) (hv:Vis X.env.scope v:=by first | exact Or.inl rfl | exact Or.inr (Or.inl rfl) | exact Or.inr (Or.inr rfl)) (hd:(v == ("__debug__" : Str))=false:=by decide) (hcd:(v == ("__classdict__" : Str))=false:=by decide)
  (hb:attributeBase (.Name v p2) attr X.env (eval (.Name v p2) X.env)=eval (.Name v p2) X.env:=by rfl):EV X T false true (.Attribute (.Name v p2) attr pos) (Qhk i attr has):=by
 refine ⟨_,Qk7 F.attrBase_ValueError (Y4 hN hv hd hcd) hb,λz R σ H W ρ Q Q' s hw k=>?_⟩
 obtain ⟨d,hl,hq⟩:=Ql hw
 obtain ⟨fp,s0⟩:=id s
 obtain ⟨u,h1,h2⟩:=s0.at_ i d hl
 generalize fp i=Fi at h2
 match d,h2,hq with
 | .obj x fs,h2,hq =>
  obtain ⟨hs,hq⟩:=hq
  obtain ⟨n,hn,hq⟩:=Ql hq
  cases h2 with
  | @obj a1 _ ob φ _ e1 hc hf =>
   obtain ⟨C,hc,hnm⟩:=hc
   obtain ⟨t1,t2,t3⟩:=ht x C hs hnm
   rcases hf with rfl | ⟨dx,od,vs,g1,g2,g3⟩
   ·cases hn
   ·refine ⟨_,h1,a1,C,ob,φ,dx,od,_,.int n,rfl,e1,hc,g1,⟨vs,g2⟩,g3,t1,t2,t3,?_,k (.int n) H W (.int n) ρ [] (Post.flat s (FrW.refl H W) (λ_=>⟨Same.refl H,rfl,rfl⟩) (.int n)) hq⟩
    exact Qbd hn
def SVsJ (X:Cx) (T:Tg) (st:List Stmt) (w:WS):Prop :=
 ∃ts,PSs X st ts/\∀(z:Nat->V) (R:Addr->Prop) (σ:St) (H:Hp) (W:Addr->Prop) (ρ:Env) (P:EndsP) (E:Ends),SR X.K T z R H W σ ρ->HnH X.A H->w P ρ->Lk X.K T z H W P E->ts E σ H
theorem SVs.j {st:List Stmt} (h:SVs X T st ws):SVsJ X T st ws:=let ⟨t,p,g⟩:=h;⟨t,p,λz R σ H W ρ P E s _ hw l=>g z R σ H W ρ P E s hw l⟩
end
end PV
namespace PV
open PySem PySem.Spec L2
def Qti (s:Stmt):Stmt:=match s with
 | .ClassDef _ _ _ b _ _ _ _ _ _ _=>b.getD 0 (.Pass ⟨0,0,0,0⟩)
 | _=>.Pass ⟨0,0,0,0⟩
theorem Qpw {TE:Addr} {sub:List Value} {dd' od2:Option Addr} {k0 k1 k2 k3 k5:Option Value} {c0 oc2:Value} {sl2:Array (Option Value)} {es2:Array DictEntry} {ep2:Nat}
  (l1:K.lookup C=some (excClassObj nm q C N bs (.ref TE::mroV) true sn sub ab col dd k0 k1 k2 k3 k5 "ValueError.__new__")) (l2:K.lookup TE=some ⟨c0,dd',.cls cd,sl⟩)
  (n2:K.lookup cd.ns=some ⟨oc2,od2,.dict es2 ep2,sl2⟩) (s2:G7 es2=true) (i2:nsFind es2 "__init__" = none) (sa:PySem.W.findIn K (.ref C) "__setattr__" = some (some (.builtin "object.__setattr__"))):ExcC K C :=
 ⟨⟨nm,q,N,bs,_,sn,sub,ab,col,dd,k0,k1,k2,k3,k5,rfl,λh X=>⟨X _ _ l1,.own (X _ _ l2) (Qu1 X n2 s2) i2 .base⟩⟩,sa⟩
end PV
namespace L2
open PySem PySem.Spec PyProof.Rows
theorem Qla:PE X (.Dict [] [] pos) (λ_ H Q=>∀a o,H a=none->Q (.ref a) (upd H a (.frz o (.dK [])))):=λpins s σ H Q I h =>
 wpAny_Dict_empty ⟨.ref s.heap.objs.size,_,I.laid (a:=s.heap.objs.size) (o:=.frz _ (.dK [])) (t':=s.toks) (λ_ _ q=>Heap.get?_push_of_some _ q) (Nat.le_refl _) ⟨Heap.get?_push_size _ rfl,Ql3 s.heap I.big⟩,rfl,h _ _ (I.hok.fresh (Nat.le_refl _))⟩
end L2
namespace PV
open PySem PySem.Spec L2
theorem Ql0:EV X T false true (.Dict [] [] pos) (wC (.fdk [])) :=
 ⟨_,Qla,λz R σ H W ρ Q Q' s hw k a o ha=>k _ _ W (.fdk []) ρ [] (Post.fin s (FrW.refl H W) (λ_=>⟨Same.refl H,rfl,rfl⟩) (Qo ha) (.fdk Qi .nil) (by simp) (λb m=>nomatch m)) hw⟩
end PV
variable {t:P58.Tr}
namespace L2
open PySem PySem.Spec PyProof.Rows
open PySem.W (hideAll of_hideAll hideAll_get hideAll_none funFrames_hide)
def Qts (c:Addr) (h h':Heap):Prop:=∀b o,b≠c->h.get? b=some o->(∀vs,o.data ≠ .fields vs)->∃sl,h'.get? b=some { o with slots:=sl }
theorem Qlu {c b:Addr} {o:Obj} (e:B.get? b=some o) (h:b≠c):(hideAll B [c]).get? b=some o:=hideAll_get _ e λz=>h (List.mem_singleton.mp z)
section
variable {t c:Addr}
theorem Fly.letgo (f:Fly P w base B l H s C ea t H' s') (hc:s.heap.get? c=none) (h0:base.get? c=none) (hH:H' c=none) (hf:Heap.FlyingW (hideAll B [c]) l ea (.ref C) (.ref t) h'') (hu:Qts c s'.heap h''):Fly P w base (hideAll B [c]) l H s C ea t H' { s' with heap:=h'' }:=by
 have ne:∀b o,s.heap.get? b=some o->b≠c:=λb o e z=>by rw [z,hc] at e;cases e
 have dom:∀b o,H' b=some o->∃ob,(hideAll B [c]).get? b=some ob:=λb o e=>by
  obtain ⟨ob,eb⟩:=f.dom b o e
  exact ⟨ob,Qlu eb λz=>by rw [z,hH] at e;cases e⟩
 have kp:∀b ob,s.heap.get? b=some ob->H b=none->b∉frs l->(hideAll B [c]).get? b=some ob:=λb o e n nf=>Qlu (f.kp b o e n nf) (ne b o e)
 have th:∀b ob,s.heap.get? b=some ob->b∉frs l->∃o',(hideAll B [c]).get? b=some o':=λb o e nf=>by
  obtain ⟨o',q⟩:=f.th b o e nf
  exact ⟨o',Qlu q (ne b o e)⟩
 refine ⟨f.os,f.bare,⟨λb o e n nf _=>hf.1 b o (kp b o e n nf),λb o e n hb _=>?_,f.un.free,λb o e _=>?_,f.un.tups,f.un.frzs,f.un.tbls⟩,Qf1 f.hok dom (λb o q=>f.fly.1 b o (of_hideAll _ q)) hf.1,(λb o e=>Qlu (f.bb b o e) λz=>by rw [z,h0] at e;cases e),dom,kp,th,hf,f.new⟩
 ·obtain ⟨sl,e1⟩:=f.un.slot b o e n hb (by simp)
  obtain ⟨_,o',e2,nd⟩:=f.fly.2.2.1.mem hb
  have z:some { o with slots:=sl }=some o':=e1.symm.trans e2
  cases z
  obtain ⟨sl',e4⟩:=hu b { o with slots:=sl } (ne b o e) e1 nd
  exact ⟨sl',e4⟩
 ·by_cases hb:b∈frs l
  ·obtain ⟨_,o',e2,nd⟩:=f.fly.2.2.1.mem hb
   obtain ⟨sl,e3⟩:=hu b _ (ne b o e) e2 nd
   exact ⟨_,e3⟩
  ·obtain ⟨o',e1⟩:=th b o e hb
   exact ⟨_,hf.1 b o' e1⟩
end
section
variable {t:Addr} {Ξ:XK} {e:Value}
def Qtt (X:Cx) (H:Hp) (s:Shared) (Ξ:XK) (e:Value) (s':Shared):Prop:=∃ea C t dx B H' L c s6 h7,e=.ref ea/\X.env.frame=some L/\Fly X.prog X.w X.base B X.stack H s C ea t H' s6/\X.s₀.heap.get? c=none/\H' c=none/\s'={ s6 with heap:=h7 } /\
 Heap.HeldW (hideAll B [c]) X.stack ea (.ref C) (.ref t) L h7/\Qts c s6.heap h7/\Vo h7 ea dx/\Ξ (.ref C) dx H'
theorem Qg2 {M:Model} (p:X.Plain) (I:Inv X pins σ H s) (x:Qtt X H s Ξ e s'):wpAny M X.A (leaving X.env e) (λ_ s''=>CXD X.prog X.w X.base X.outer X.H₀ X.s₀ Ξ e s'') E s':=by
 obtain ⟨ea,C,t,dx,B,H',L,c,s6,h7,rfl,hL,f,hc,hH,rfl,hh,hu,hd,hx⟩:=x
 unfold leaving
 refine wpAny_bind (wpAny_noteFrame_againW hL hh.2.2.2 ?_)
 refine Qm7 hh λh8 ⟨fl,up⟩ dk=>?_
 have tl:∀{B h},Heap.FlyingW B X.stack ea (.ref C) (.ref t) h->Heap.FlyingW B X.outer ea (.ref C) (.ref t) h:=λ{B h} q=>by
  rw [p.stk] at q
  obtain ⟨k1,k2,⟨_,_,k3⟩,k4⟩:=q
  exact ⟨k1,k2,k3,k4⟩
 have g:=f.out p I (tl f.fly) (Heap.UpToSlots.refl _)
 have h0:X.base.get? c=none:=by
  cases q:X.base.get? c with
  | none=>rfl
  | some o=>have:=(I.ok.bs c o q).1;rw [hc] at this;cases this
 exact ⟨ea,C,t,dx,_,H',rfl,g.letgo hc h0 hH (tl fl) λb o n e nd=>by
  obtain ⟨sl,e1⟩:=hu b o n e nd
  obtain ⟨sl',e2⟩:=up b _ e1 nd
  exact ⟨sl',e2⟩,hd.on dk,hx⟩
end
end L2
variable {g:PV.GX}
namespace PV
open PySem PySem.Spec L2
open PyProof.Rows (envOfC)
abbrev XC:=D->Env->Prop
abbrev WX:=Env->(D->Env->Prop)->XC->Prop
abbrev WAX:=Env->(List D->Env->Prop)->XC->Prop
def XOk (K:PySem.W.Frag) (T:Tg) (z:Nat->V) (H:Hp) (W:Addr->Prop) (σ:St) (xc:XC):Prop:=∀R' H' W' ρ' d,SR K T z R' H' W' σ ρ'->FrW H W H' W'->xc d ρ'->T.xe d σ H'
def EVX (X:Cx) (T:Tg) (m o:Bool) (e:Expr) (w:WX):Prop :=
 ∃te,PE X e te/\∀(z:Nat->V) (R:Addr->Prop) (σ:St) (H:Hp) (W:Addr->Prop) (ρ:Env) (Q:D->Env->Prop) (Q':VK) (xc:XC),SR X.K T z R H W σ ρ->XOk X.K T z H W σ xc->w ρ Q xc ->
  (∀v H' W' d ρ' F,Post X.K T z R m o H W σ ρ H' W' ρ' d v F->Q d ρ'->Q' v H')->te σ H Q'
def XiD (K:PySem.W.Frag) (T:Tg) (σ:St):XK:=λc dx H'=>∃C,c=.ref C/\∃x fs,atN K x C/\Fld H' dx fs/\T.xe (.obj x fs) σ H'
def Qbg (X:Cx) (T:Tg):Prop:=∀pins σ H s e s',Inv X pins σ H s->Qtt X H s (XiD X.K T σ) e s'->X.xe e s'
section
variable {a:Expr} {w:WE} {wx:WX}
def Yy (g:GX) (wr:WA):WX:=λρ Q xc=>wr ρ λds ρ'=>g ds (λd=>Q d ρ') λd=>xc d ρ'
theorem Qb9 (C:CalD X.prog X.w X.K X.mg X.base x k ps (spXD X.K g)) (hr:Room k X.A) (hX:Vn X T) (ha:AV X.nox T false o (e₀::es) wr) (hg:Gl X x:=by rfl) (hdb:(x == ("__debug__" : Str))=false:=by decide)
  (he:starEach (e₀::es) X.env=(false,eval e₀ X.env)::starEach es X.env:=by rfl) (hpl:(backTo pos (starEach es X.env)).any (·.1)=false:=by rfl) :
  EVX X T false true (.Call (.Name x p) (e₀::es) [] pos) (Yy g wr):=by
 obtain ⟨fa,fd,F,h1,h2,h3⟩:=C
 obtain ⟨ta,pa,ga⟩:=ha
 refine ⟨λσ H Q=>ta σ H λvs H1=>spXD X.K g vs H1 Q (XiD X.K T σ),λpins s σ H Q I h=>wpAny_mono (Qaj F hr hg h1 h2 h3 pa I h hdb he hpl) (λ_ _ z=>z) λe s' ⟨s1,H1,I1,q⟩=>hX _ _ _ _ _ _ I1 q,λz R σ H W ρ Q Q' xc s hx hw k=>?_⟩
 exact ga z R σ H W ρ _ _ s hw λvs H1 W1 ds ρ1 Fp p q=>⟨ds,Fp,_,_,p.rep,q,λv H' d F' fi hk=>k v H' W1 d ρ1 F' (Post.fin p.sr p.fr p.calm fi.same fi.rep fi.nd fi.new) hk,λx C dx fs H' hn sm hfl hk=>⟨C,rfl,x,fs,hn,hfl,hx R H' W1 ρ1 _ (p.sr.same sm) (p.fr.trans (FrW.same W1 sm)) hk⟩⟩
def Qno (i:Nat) (w:WX):WS:=λP ρ=>w ρ (λd ρ'=>P.nx (ρ'.set i (some d))) P.xc
theorem Qn0 (he:EVX X T m true e wx) (hN:X.N.Nodup) (hi:X.N[i]? = some x:=by rfl) (hio:i∉T.io:=by first | exact List.not_mem_nil | decide) (hx:Loc X.env.scope x:=by first | exact Or.inl rfl | exact Or.inr rfl) (hs:swapsWith e (some (.Name x pos')) pos.line X.env=pure false:=by rfl)
  (hf:X.fn x=true\/X.env.scope.names.lookup x=some .local:=by first | exact .inl rfl | exact .inr rfl | assumption):SV X T (.Assign [.Name x pos'] e pos) (Qno i wx):=by
 obtain ⟨te,pe,ge⟩:=he
 refine ⟨_,Qmt hN hi hx pe hs hf,λz R σ H W ρ P E s hw l=>ge z R σ H W ρ _ _ P.xc s (λR' H' W' ρ' d=>l.xc R' σ H' W' ρ' d) hw λv H1 W1 d ρ1 F p q=>?_⟩
 obtain ⟨fp,s1⟩:=p.sr
 obtain ⟨nd,nw⟩:=p.own rfl
 obtain ⟨R',s2⟩:=s1.bind (i:=i) hio p.rep nd (λa ha=>⟨(nw a ha).2,s.nr (nw a ha).1⟩)
 exact l.nx R' _ H1 _ _ s2 (U2 p.fr λa h=>(nw a h.2).1) q
def Um (w:WX):WS:=λP ρ=>w ρ (λ_ ρ'=>P.nx ρ') P.xc
theorem Qkr (he:EVX X T m o e wx) (hs:swapsWith e none pos.line X.env=pure false:=by rfl):SV X T (.Expr e pos) (Um wx):=by
 obtain ⟨te,pe,ge⟩:=he
 exact ⟨_,Qek pe hs,λz R σ H W ρ P E s hw l=>ge z R σ H W ρ _ _ P.xc s (λR' H' W' ρ' d=>l.xc R' σ H' W' ρ' d) hw λv H1 W1 d ρ1 F p q=>l.nx R σ H1 W1 ρ1 p.sr p.fr q⟩
def Qgf (w:WX):WS:=λP ρ=>w ρ (λd ρ'=>P.rt d ρ') P.xc
theorem Qhv (he:EVX X T m true e wx):SV X T (.Return (some e) pos) (Qgf wx):=by
 obtain ⟨te,pe,ge⟩:=he
 exact ⟨_,Qih pe,λz R σ H W ρ P E s hw l=>ge z R σ H W ρ _ _ P.xc s (λR' H' W' ρ' d=>l.xc R' σ H' W' ρ' d) hw λv H1 W1 d ρ1 F p q=>l.rt R v σ H1 W1 ρ1 d F p.sr p.fr p.rep (p.own rfl).1 (λa ha=>⟨((p.own rfl).2 a ha).2,.inr ((p.own rfl).2 a ha).1⟩) q⟩
end
end PV
variable {d:PV.D}
namespace L2
open PySem PySem.Spec PyProof.Rows
open PySem.W (findIn subIn mroIn clsIn Looks looks_findIn looks_subIn hideAll of_hideAll hideAll_get hideAll_none funFrames_hide)
def smV (v:V):Prop:=∃i:Int,v=.int i/\i.natAbs.log2<1920/\(toString i).length<=700
def spS (K:PySem.W.Frag) (C:Addr) (attr:Str):Sp:=λvs H Q _=>∃a v,vs=[.ref a,v]/\smV v/\H a=some (exO a C none)/\∀d,H d=none->d≠a->Q .non (upd (upd H a (exO a C (some d))) d (.xd [(attr,v)]))
theorem Qij {Ξ:V->Addr->St->Hp->Prop} (hbd:X.mg x=some (.ref C)) (hkp:PySem.W.keepIn X.K (.ref C)=true) (k1:ExcC X.K C) (hi:findIn X.K (.ref C) "__init__" = some (some (.ref f))) (hf:PySem.W.typeIn X.K (.ref f)=some (.type "function"))
  (F:FnOk X.prog X.w X.K X.mg X.base CX0 k f fd ps (spS X.K C attr)) (hr:Room (k+1) X.A) (hb:Zi X.K fd ps []) (hg:Gl X x) (hc:X.calm=true) (ha:PA X (e₀::es) ta)
  (hX:∀pins σ H s e d od t v,Inv X pins σ H s->s.heap.get? e=some (Uc C t (some d))->H e=none->X.s₀.heap.get? e=none->H d=some (.frz od (.xd [(attr,v)]))->Ξ v d σ H->X.xe (.ref e) s)
  (hdb:(x == ("__debug__" : Str))=false:=by decide) (he:starEach (e₀::es) X.env=(false,eval e₀ X.env)::starEach es X.env:=by rfl) (hpl:(backTo cpos (starEach es X.env)).any (·.1)=false:=by rfl) :
  PS X (.Raise (some (.Call (.Name x np) (e₀::es) [] cpos)) none pos) (λD σ H=>ta σ H λvs H1=>∃v,vs=[v]/\smV v/\∀H2 d od,(∀b o,H1 b=some o->H2 b=some o)->H2 d=some (.frz od (.xd [(attr,v)]))->Ξ v d σ H2):=by
 intro pins s σ H D I h
 obtain ⟨nm,qq,N,bs,bm,sn,sub,ab,col,dd,k0,k1',k2,k3,k5,hbx,hob⟩:=k1.obj
 rw [arm_exec_Raise]
 refine wpAny_bind (wpAny_standAt (Qgr (C:=C) (nm:=nm) (q:=qq) (N:=N) (bs:=bs) (bm:=bm) (hdct:=true) (sn:=sn) (sub:=sub) (ab:=ab) (col:=col) (dd:=dd) (k0:=k0) (k1:=k1') (k2:=k2) (k3:=k3) (k5:=k5) (newId:="ValueError.__new__") hbx (I.ok.hd hc) ?_))
 refine wpAny_bind (wpAny_mono (wpAny_Call_ofName (Vj I hg hbd ?_ hdb)) (λv s₃ h₃=>wpAny_bind (wpAny_standAt (wpAny_pure h₃))) λ_ _ x=>x)
 refine PySem.W.callWith_K (h₀:=X.base) I.ok.mod.kin hkp (thn (ha cpos pins s σ H _ I h) λus s2 ⟨vs,H1,I1,r,v,ev,hsm,hΞ⟩=>⟨I1.kIn,?_⟩) he hpl
 subst ev
 obtain ⟨u,rfl,ru⟩:=Qgh r
 obtain ⟨c1,c2⟩:=hob s2.heap I1.kIn
 obtain ⟨hp,g,dr,tk,os⟩:=s2
 refine Qkh PySem.F.excBase_ValueError c2 I1.kIn c1 hi hf (λh' e hm he=>?_) (by show 1<=sizeLine;decide)
 obtain ⟨t0,et,_⟩:=hm.there
 have hfe:H1 e=none:=I1.hok.fresh (by rw [he];exact Nat.le_succ _)
 have I2:=I1.laid (a:=e) (o:=exO e C none) (h':=h') (t':=tk) hm.keeps (by rw [he];exact Nat.le_succ _) (Qjs ⟨t0,et⟩)
 have r2:Vals [V.ref e,v] [Value.ref e,u]:=.cons rfl (.cons ru .nil)
 have hq:spS X.K C attr [V.ref e,v] (upd H1 e (exO e C none)) (λw H'=>w=.non/\∃d,H1 d=none/\d≠e/\H'=upd (upd (upd H1 e (exO e C none)) e (exO e C (some d))) d (.xd [(attr,v)])) E0 :=
  ⟨e,v,rfl,hsm,Qi,λd hd hne=>⟨rfl,d,by rw [Qg hne] at hd;exact hd,hne,rfl⟩⟩
 have hl:([Value.ref e,u]++([]:List Value)).length=ps.length:=by
  have:=F.len _ _ _ _ hq
  rw [← this];rfl
 have hbb:=hb { heap:=h',gens:=g,drawn:=dr,toks:=tk,os:=os } [Value.ref e,u] I2.kIn hl
 rw [List.append_nil] at hbb
 refine codeAny_mono (F.run _ X.stack _ _ ⟨[Value.ref e,u],[]⟩ [Value.ref e,u] _ _ E0 (hr.make C [u] []) (I2.env0.make C [u] []) hbb r2 hq) λr s' hq'=>?_
 cases r with
 | error e=>exact False.elim hq'
 | ok fl =>
  cases fl with
  | ret u' =>
   obtain ⟨v',H',I3,rv,ev,d,hd,hne,eH⟩:=I2.after hq'
   subst ev
   have he':H' e=some (exO e C (some d)):=by rw [eH,Qg (Ne.symm hne),Qi]
   have hd':H' d=some (.xd [(attr,v)]):=by rw [eH,Qi]
   obtain ⟨od,t,e1,I4⟩:=I3.refrz he' hd'
   have hn4:X.s₀.heap.get? e=none:=Heap.get?_none_of_le (Nat.le_trans I1.sz (by rw [he];exact Nat.le_succ _))
   have b1:Qal H' e d (.frz od (.xd [(attr,v)])) e=none:=by unfold Qal;rw [if_pos rfl]
   have b2:Qal H' e d (.frz od (.xd [(attr,v)])) d=some (.frz od (.xd [(attr,v)])):=by unfold Qal;rw [if_neg hne,if_pos rfl]
   refine ⟨by cases rv;rfl,e,t,some d,rfl,(hob s'.heap I3.kIn).1,e1,hX pins σ _ s' e d od t v I4 e1 b1 hn4 b2 (hΞ _ d od (λb o q=>?_) b2)⟩
   unfold Qal
   rw [if_neg (λz=>by rw [z,hfe] at q;cases q),if_neg (λz=>by rw [z,hd] at q;cases q),eH,Qg (λz=>by rw [z,hd] at q;cases q),Qg (λz=>by rw [z,hfe] at q;cases q),Qg (λz=>by rw [z,hfe] at q;cases q)]
   exact q
  | next=>exact False.elim hq'
  | brk=>exact False.elim hq'
  | cont=>exact False.elim hq'
def tFs3 (c d:Str) (te:TE):TE:=λσ H Q=>c.length<=sizeLine/\te σ H λx H1=>∃i:Int,x=.int i/\i.natAbs.log2<1920/\(c++Str.ofString (toString i)).length<=sizeLine/\(c++Str.ofString (toString i)++d).length<=sizeLine/\Q (.str (c++Str.ofString (toString i)++d)) H1
theorem Qk9 {c d:Str} {p2 p3:Pos} (he:PE X e te):PE X (.JoinedStr [.Constant (.str c) k p1,.FormattedValue e (-1) none p3,.Constant (.str d) k2 p2] pos) (tFs3 c d te):=by
 intro pins s σ H Q I h
 refine wpAny_JoinedStr ?_
 show Joins _ _ _ [eval (.Constant (.str c) k p1) X.env,eval (.FormattedValue e (-1) none p3) X.env,eval (.Constant (.str d) k2 p2) X.env] _ _ _
 refine wpAny_Constant_str ⟨c,_,rfl,?_,?_⟩
 ·rw [Str.empty_append];exact h.1
 ·refine wpAny_FormattedValue_plain (thn (he pins _ σ H _ (I.tok _) h.2) λv s1 ⟨x,H1,I1,r1,q1⟩=>?_)
  obtain ⟨i,rfl,hi,hz,hz2,q⟩:=q1
  obtain ⟨t,rfl⟩:=r1
  refine wpAny_formatField_int hi ⟨_,_,rfl,?_,?_⟩
  ·rw [Str.empty_append];exact hz
  ·rw [Str.empty_append]
   refine wpAny_Constant_str ⟨d,_,rfl,hz2,?_⟩
   exact ⟨hz2,.str _,H1,(I1.tok _).tok _,⟨_,rfl⟩,q⟩
end L2
variable {j:Nat}
namespace PV
open PySem PySem.Spec L2
open PyProof.Rows (envOfC)
def Z9 (P:Program) (w:World) (K:PySem.W.Frag) (mg:Str->Option Value) (base:Heap) (x attr:Str) (k:Nat):Prop:=∃C f fd ps,mg x=some (.ref C)/\atN K x C/\PySem.W.keepIn K (.ref C)=true/\ExcC K C/\PySem.W.findIn K (.ref C) "__init__" = some (some (.ref f))/\PySem.W.typeIn K (.ref f)=some (.type "function") /\
 FnOk P w K mg base CX0 k f fd ps (L2.spS K C attr)/\Zi K fd ps []
theorem CalD.calm (C:CalD P w K mg base x k ps (spXD K g)):Cal P w K mg base x k ps (spR K (Qmc g)):=by
 obtain ⟨f,fd,F,h1,h2,h3⟩:=C
 have up:∀vs H Q E,spR K (Qmc g) vs H Q E->spXD K g vs H Q λ_ _ _=>False:=λvs H Q E ⟨ds,Fp,kk,r,hg,q⟩=>⟨ds,Fp,kk,λ_=>False,r,hg,q,λ_ _ _ _ _ _ _ _ z=>z⟩
 refine ⟨f,fd,⟨λvs H Q E h=>F.len vs H Q _ (up vs H Q E h),λA outer s H args us vs Q E hr e0 hb hv h=>codeAny_mono (F.run A outer s H args us vs Q _ hr e0 hb hv (up vs H Q E h)) λr s' q=>?_⟩,h1,h2,h3⟩
 cases r with
 | ok fl=>cases fl <;> exact q
 | error e=>obtain ⟨_,_,_,_,_,_,_,_,_,z⟩:=q;exact z.elim
section
variable {a:Expr} {w:WE} {p2:Pos}
def Jd (x attr:Str) (wr:WA):WS:=λP ρ=>wr ρ λds ρ'=>match ds with
 | [.int i]=>(i.natAbs.log2<1920/\(toString i).length<=700)/\P.xc (.obj x [(attr,i)]) ρ'
 | _=>False
theorem Y8 (hI:Z9 X.prog X.w X.K X.mg X.base x attr k) (hr:Room (k+1) X.A) (hX:∀C,atN X.K x C->Z4 X T x C attr) (ha:AV X T m o (e₀::es) wr) (hg:Gl X x:=by rfl) (hc:X.calm=true:=by rfl)
  (hdb:(x == ("__debug__" : Str))=false:=by decide) (he:starEach (e₀::es) X.env=(false,eval e₀ X.env)::starEach es X.env:=by rfl) (hpl:(backTo cpos (starEach es X.env)).any (·.1)=false:=by rfl) :
  SV X T (.Raise (some (.Call (.Name x np) (e₀::es) [] cpos)) none pos) (Jd x attr wr):=by
 obtain ⟨C,f,fd,ps,h1,h2,h3,h4,h5,h6,F,hb⟩:=hI
 obtain ⟨ta,pa,ga⟩:=ha
 refine ⟨_,Qij (Ξ:=λv d σ H=>∃i,v=.int i/\T.xe (.obj x [(attr,i)]) σ H) h1 h3 h4 h5 h6 F hr hb hg hc pa (λpins σ H s e d od t v I q1 q2 q3 q4 q5=>?_) hdb he hpl,λz R σ H W ρ P E s hw l=>?_⟩
 ·obtain ⟨i,rfl,q5⟩:=q5
  exact hX C h2 pins σ H s e d od t i I q1 q2 q3 q4 q5
 ·refine ga z R σ H W ρ _ _ s hw λvs H1 W1 ds ρ1 F p q=>?_
  split at q
  ·rename_i i
   cases p.rep with
   | cons r rs =>
    cases rs
    cases r
    exact ⟨_,rfl,⟨i,rfl,q.1⟩,λH2 d od sm hd=>⟨i,rfl,l.xc R σ H2 W1 ρ1 _ (p.sr.same sm) (p.fr.trans (FrW.same W1 sm)) q.2⟩⟩
  ·exact q.elim
def Qhm (g:GX) (wr:WA) (cat:Str->Bool) (j:Nat) (wh:WS):WS:=λP ρ=>wr ρ λds ρ'=>g ds (λ_=>P.nx ρ') λd=>match d with
 | .obj x fs=>cat x=true/\wh (P.un j) (ρ'.set j (some (.obj x fs)))
 | _=>False
theorem Qks {f n:Str} {cat:Str->Bool} (C:CalD X.prog X.w X.K X.mg X.base f k ps (spXD X.K g)) (hr:Room k X.A) (hp:X.Plain) (ha:AV X.nox T false o (e₀::es) wr) (hcx:X.mg cx=some (.ref C0))
  (hcat:∀x C,cat x=true->atN X.K x C->PySem.W.exmOne X.K (.ref C) (.ref C0)=some true) (hh:∀ea,SVsJ (X.han ea) T (b₀::suite) wh) (hN:X.N.Nodup)
  (hj:X.N[j]? = some n:=by rfl) (hjo:j∉T.io:=by decide) (hg:Gl X f:=by rfl) (hgc:Gl X cx:=by rfl)
  (hl:X.env.kindOf n=some .local:=by rfl) (hlo:X.env.scope.names.lookup n=some .local:=by rfl) (hdb:(f == ("__debug__" : Str))=false:=by decide) (hdc:(cx == ("__debug__" : Str))=false:=by decide)
  (he:starEach (e₀::es) X.env=(false,eval e₀ X.env)::starEach es X.env:=by rfl) (hpl:(backTo cpos (starEach es X.env)).any (·.1)=false:=by rfl) (hsw:swapsWith (.Call (.Name f p) (e₀::es) [] cpos) none p2.line X.env=pure false:=by rfl) :
  SV X T (.Try [.Expr (.Call (.Name f p) (e₀::es) [] cpos) p2] [.ExceptHandler (some (.Name cx np)) (some n) (b₀::suite) hpos] [] [] pos) (Qhm g wr cat j wh):=by
 obtain ⟨fa,fd,F,h1,h2,h3⟩:=C
 obtain ⟨ta,pa,ga⟩:=ha
 have ph:∀ea,PSs (X.han ea) (b₀::suite) (λE σ H=>∃(z:Nat->V) (R:Addr->Prop) (W:Addr->Prop) (ρ:Env) (P:EndsP),SR X.K T z R H W σ ρ/\HnH (X.han ea).A H/\wh P ρ/\Lk X.K T z H W P E):=λea=>by
  obtain ⟨t1,p1,g1⟩:=hh ea
  intro pins s σ H D I ⟨z,R,W,ρ,P,s0,hx,hw,l⟩
  exact p1 pins s σ H D I (g1 z R σ H W ρ P D s0 hx hw l)
 refine ⟨_,Qos (C0:=C0) hp (Qd7 F hr hg h1 h2 h3 pa hsw hdb he hpl) hcx hgc hN hj hl hlo ph hdc,λz R σ H W ρ P E s hw l=>?_⟩
 refine ga z R σ H W ρ _ _ s hw λvs H1 W1 ds ρ1 Fp p q=>?_
 obtain ⟨sm0,hW,hρ⟩:=p.calm rfl
 refine ⟨ds,Fp,_,_,p.rep,q,λv H' d F' fi hk=>?_,λx C dx fs H' hn sm hfl hk=>?_⟩
 ·exact l.nx R _ H' _ _ (p.sr.same fi.same) (p.fr.trans (FrW.same W1 fi.same)) hk
 ·obtain ⟨hc1,hk⟩:=hk
  refine ⟨C,rfl,hcat x C hc1 hn,λea ob φ hcl hdx hne=>?_⟩
  obtain ⟨hdx,vs',hdt,hd2⟩:=hdx
  have smu:Same H' (upd H' ea (.frz ob (.ext φ))):=Qo hne
  obtain ⟨fp,s1⟩:=(p.sr.same sm).same smu
  have rep:Rep X.K (upd H' ea (.frz ob (.ext φ))) (.obj x fs) (.ref ea) []:=.obj Qi ⟨C,hcl,hn⟩ (hfl.imp id λ⟨d,od,e1,e2⟩=>⟨d,od,vs',hdx.trans e1,hdt,smu _ _ e2⟩)
  obtain ⟨R',s2⟩:=s1.bind (i:=j) hjo rep (by simp) (λa ha=>nomatch ha)
  have fr0:FrW H W (upd H' ea (.frz ob (.ext φ))) (λa=>W1 a\/(T.own j=true/\a∈([]:List Addr))):=U2 ((p.fr.trans (FrW.same W1 sm)).trans (FrW.same W1 smu)) λa h=>nomatch h.2
  have l2:=l.step fr0
  refine ⟨z,R',_,_,P.un j,s2,⟨ea,ob,φ,vs',rfl,Qi,hdt,hd2⟩,hk,λR σ' H' W' ρ' s' f' h=>?_,λR σ' H' W' ρ' s' f' h=>?_,λR σ' H' W' ρ' s' f' h=>?_,l2.rt,λR σ' H' W' ρ' d s' f' h=>h.elim⟩
  ·exact l2.nx R _ H' W' _ (s'.unset hjo) f' h
  ·exact l2.bk R _ H' W' _ (s'.unset hjo) f' h
  ·exact l2.ct R _ H' W' _ (s'.unset hjo) f' h
end
section
variable {N:List Str}
theorem Qjn (F:Fun K x qual st f fd) (S:FnScope N ps (Qa st)) (hio:T.io=[]) (hown:∀i,i<ps.length->T.own i=false) (hg:∀ds kk kx,g ds kk kx->ds.length=ps.length)
  (hb:∀(cdv:Value) (A:Around) (outer:List PySem.Env) (s:Shared) (H:Hp) (E:XK) (XE:D->St->Hp->Prop),Room k (A.deeper (envOfC qual (Qa st) s.heap.objs.size f cdv)) ->
   (∀x C,atN K x C->Gi (cxOf (CXD P w base) P w K mg base N qual (Qa st) f cdv A outer s H E) ⟨T.own,T.io,XE⟩ x C)->(∀x attr C,atN K x C->Z4 (cxOf (CXD P w base) P w K mg base N qual (Qa st) f cdv A outer s H E) ⟨T.own,T.io,XE⟩ x C attr)->Vn (cxOf (CXD P w base) P w K mg base N qual (Qa st) f cdv A outer s H E) ⟨T.own,T.io,XE⟩->Qbg (cxOf (CXD P w base) P w K mg base N qual (Qa st) f cdv A outer s H E) ⟨T.own,T.io,XE⟩->SVs (cxOf (CXD P w base) P w K mg base N qual (Qa st) f cdv A outer s H E) ⟨T.own,T.io,XE⟩ (Qu st) ww)
  (hr:∀ds kk kx,g ds kk kx->ww { nx:=λ_=>kk .non,rt:=λd _=>kk d,xc:=λd _=>kx d } (env0 N ds)):FnOk P w K mg base (CXD P w base) (k+1) f fd ps (spXD K g):=by
 obtain ⟨oc,od,kV,doc,pm,an,cdv,ct,osl,rfl,lk,hcd⟩:=F.ex
 refine Qs0 lk hcd S (λvs H Q E h=>?_) λA outer s H vs Q E hroom h=>?_
 ·obtain ⟨ds,Fp,kk,kx,rep,hgk,_⟩:=h
  rw [rep.length];exact hg ds kk kx hgk
 ·obtain ⟨ds,Fp,kk,kx,rep,hgk,q,qx⟩:=h
  obtain ⟨ts,pts,gts⟩:=hb cdv A outer s H E (λd _ H'=>∀x C fs dx,atN K x C->d=.obj x fs->Fld H' dx fs->E (.ref C) dx H') hroom (λx C hn pins σ H1 s1 h1 e vs I hx hT=>by
   obtain ⟨t,ht,_,_⟩:=hx.there
   have hn1:H1 e=none:=by
    cases q:H1 e with
    | none=>rfl
    | some o =>
     obtain ⟨o1,e1⟩:=(I.hok e o q).there
     rw [hx.new] at e1
     cases e1
   refine X9 (X:=cxOf (CXD P w base) P w K mg base N qual (Qa st) f cdv A outer s H E) ⟨rfl,rfl,rfl⟩ (I.kept (t':=s1.toks) hx.keeps) ht hn1 ?_ λh' B fl da=>⟨e,C,t,none,B,H1,rfl,fl,da,hT x C [] none hn rfl (.inl rfl)⟩
   cases q:s.heap.get? e with
   | none=>exact q
   | some o =>
    obtain ⟨o1,e1⟩:=I.base.there e o q (by show e∉[];simp)
    rw [hx.new] at e1
    cases e1) (λx attr C hn pins σ H1 s1 e d od t i I he hn1 h0 hd hT =>
   X9 (X:=cxOf (CXD P w base) P w K mg base N qual (Qa st) f cdv A outer s H E) ⟨rfl,rfl,rfl⟩ I he hn1 h0 λh' B fl da=>⟨e,C,t,some d,B,H1,rfl,fl,da,hT x C _ (some d) hn rfl (.inr ⟨d,od,rfl,hd⟩)⟩) (λpins σ H1 s1 e s' I z=>by
   obtain ⟨ea,C,t,dx,B,H',rfl,fl,da,C',eC,y,fs,hn,hfl,hT⟩:=z
   cases eC
   exact Qi4 (X:=cxOf (CXD P w base) P w K mg base N qual (Qa st) f cdv A outer s H E) ⟨rfl,rfl,rfl⟩ I fl da λh' fl' da'=>⟨ea,C,t,dx,B,H',rfl,fl',da',hT y C fs dx hn rfl hfl⟩) (λpins σ H1 s1 e s' I z=>wpAny_mono (Qg2 (X:=cxOf (CXD P w base) P w K mg base N qual (Qa st) f cdv A outer s H E) ⟨rfl,rfl,rfl⟩ I z) (λ_ s2 z=>by
   obtain ⟨ea,C,t,dx,B,H',rfl,fl,da,C',eC,y,fs,hn,hfl,hT⟩:=z
   cases eC
   exact ⟨ea,C,t,dx,B,H',rfl,fl,da,hT y C fs dx hn rfl hfl⟩) λ_ _ z=>z)
  have hl:=rep.length
  have hds:=hg ds kk kx hgk
  refine ⟨ts,pts,gts (λ_=>.non) (Any H) (L2.Zz N vs) H (λ_=>False) (env0 N ds) _ _ (SR.readonly hio ?_ λi d hli=>?_) (hr ds kk kx hgk) ⟨?_,?_,?_,?_,?_⟩⟩
  ·unfold env0 L2.Zz;simp [hl]
  ·unfold env0 at hli
   rw [Zv] at hli
   obtain ⟨v,B,h1,h2,_⟩:=rep.get hli
   exact ⟨hown i (by rw [← hds];exact (List.getElem?_eq_some_iff.mp hli).1),v,B,Vd h1,h2⟩
  ·intro R' σ' H' W' ρ' s' fr hk
   have sm:Same H H':=λb o e=>fr.keep b o e (λz=>z)
   exact q .non H' .non [] ⟨sm,.non,List.nodup_nil,λ_ m=>nomatch m⟩ hk
  ·exact λR' σ' H' W' ρ' s' fr hk=>hk.elim
  ·exact λR' σ' H' W' ρ' s' fr hk=>hk.elim
  ·intro R' v σ' H' W' ρ' d F' s' fr r nd nw hk
   have sm:Same H H':=λb o e=>fr.keep b o e (λz=>z)
   exact q v H' d F' ⟨sm,r,nd,λa ha=>(nw a ha).2.resolve_left id⟩ hk
  ·intro R' σ' H' W' ρ' d s' fr hk x C fs dx hn e hfl
   subst e
   exact qx x C dx fs H' hn (λb o e=>fr.keep b o e (λz=>z)) hfl hk
end
end PV
namespace L2
open PySem PySem.Spec PyProof.Rows
def Qoh:V->List V->Hp->VK->Prop:=λx vs H Q=>(∃(y sep:Str),x=.str y/\vs=[.str sep]/\sep.length=1/\y.length=0/\∀l,H l=none->Q (.ref l) (upd H l (.lst [V.str y])))\/Qmr x vs H Q
theorem Qi0:MtM X "str.split" Qoh:=by
 intro pins s σ H x vs v us Q I rx rv h
 rcases h with ⟨y,sep,rfl,rfl,h1,hy,q⟩ | h
 ·obtain ⟨t,rfl⟩:=rx
  obtain ⟨u,rfl,tu,rfl⟩:=rv.one
  refine call_meets PySem.F.slot_str_split (typeIs_str s y t) PySem.F.entry_str_split (PySem.F.args_str_split_2 _ _) (meets_str_split_cannot_occur y sep t tu (by rw [h1,hy];rfl)) ?_
  refine ⟨.ref s.heap.objs.size,_,I.laid (o:=.lst [V.str y]) (t':=s.toks) (λb o e=>Heap.get?_push_of_some _ e) (Nat.le_refl _) ?_,rfl,q _ (I.hok.fresh (Nat.le_refl _))⟩
  exact ⟨by show 1<=sizeLine;decide,[.str y t],0,.cons ⟨t,rfl⟩ .nil,Heap.get?_push_size _ rfl⟩
 ·exact Qlg pins s σ H x vs v us Q I rx rv h
end L2
variable {k:PV.D->Prop}
namespace PV
open PySem PySem.Spec L2
section
variable {ps1 ap2 cp2:Pos}
def lcOf (d:D) (ds:List D) (k:D->Prop):Prop:=match d,ds with
 | .lst xs,[.int n]=>∃ns:List Int,xs=ns.map D.int/\k (.int (ns.count n:Nat))
 | _,_=>False
def tlOf (d:D) (k:List D->List D->Prop):Prop:=match d with
 | .lst l=>∃ds xs,l=ds++[.lst xs]/\k ds xs
 | _=>False
theorem Qmj {k:List D->List D->Prop} (h:tlOf d k):∃ds xs,d=.lst (ds++[.lst xs])/\k ds xs:=by
 cases d with
 | lst l =>
  obtain ⟨ds,xs,rfl,h⟩:=h
  exact ⟨ds,xs,rfl,h⟩
 | _=>exact (show False from h).elim
def wTkl (i:Nat) (we:WE):WS:=λP ρ=>oget (look ρ i) λd=>tlOf d λds xs=>Qn xs=true/\xs.length<sizeLine/\we ρ λe _=>e.pure=true/\P.nx (ρ.set i (some (.lst (ds++[.lst (xs++[e])]))))
theorem Qmk {j1:Nat} {p3:Pos} (he:EV X T false o1 e we) (ht:T.own i=true:=by rfl) (hN:X.N[i]? = some x:=by rfl)
  (hvis:Vis X.env.scope x:=by first | exact Or.inl rfl | exact Or.inr (Or.inl rfl) | exact Or.inr (Or.inr rfl)) (hd:(x == ("__debug__" : Str))=false:=by decide) (hcd:(x == ("__classdict__" : Str))=false:=by decide) (hs1:Qci (.UnaryOp .USub (.Constant (.int 1) j1 p1) p3):=by intro _ _;rfl)
  (b2:attributeBase (.Subscript (.Name x p) (.UnaryOp .USub (.Constant (.int 1) j1 p1) p3) ps1) "append" X.env (eval (.Subscript (.Name x p) (.UnaryOp .USub (.Constant (.int 1) j1 p1) p3) ps1) X.env)=eval (.Subscript (.Name x p) (.UnaryOp .USub (.Constant (.int 1) j1 p1) p3) ps1) X.env:=by rfl)
  (f2:((backTo cp2 (starEach [e] X.env)).all (λx=>!x.1) && (backToKw cp2 (keywordEach [] X.env)).all (λx=>x.1.isSome)
   && decide (([e]:List Expr).length+([]:List Keyword).length+(if ([]:List Keyword).isEmpty then 0 else 1)<30))=true:=by rfl)
  (l2:(ap2.endLine == cp2.line)=true:=by rfl) (s2:starEach [e] X.env=(false,eval e X.env)::starEach [] X.env:=by rfl) (q2:(backTo cp2 (starEach [] X.env)).any (·.1)=false:=by rfl)
  (hs:swapsWith (.Call (.Attribute (.Subscript (.Name x p) (.UnaryOp .USub (.Constant (.int 1) j1 p1) p3) ps1) "append" ap2) [e] [] cp2) none pos.line X.env=pure false:=by rfl) :
  SV X T (.Expr (.Call (.Attribute (.Subscript (.Name x p) (.UnaryOp .USub (.Constant (.int 1) j1 p1) p3) ps1) "append" ap2) [e] [] cp2) pos) (wTkl i we):=by
 obtain ⟨te,pe,ge⟩:=he
 refine ⟨_,Qek (Qo0 PySem.F.plainAttrs_list PySem.F.slot_list_append PySem.F.type_list_append Qdd (Qox Qjc (Y4 hN hvis hd hcd) (Qut Qqf Qm0) hs1) (Zp pe Qa7 s2) b2 f2 l2 s2 q2) hs,λz R σ H W ρ P E s hw l=>?_⟩
 obtain ⟨sd,hl0,hw⟩:=Ql hw
 obtain ⟨ds,xs,rfl,hpx,hz,hw⟩:=Qmj hw
 obtain ⟨fp,s0⟩:=id s
 obtain ⟨v0,hv0,r0⟩:=s0.at_ i _ hl0
 obtain ⟨nd0,sw0⟩:=s0.own i _ hl0 ht
 have hds:(ds++[D.lst xs])[ds.length]? = some (.lst xs):=by simp
 have inv:∃(tp l0:Addr) (vs ys:List V) (A C:List Addr),v0=.ref tp/\H tp=some (.lst vs)/\vs.length=ds.length+1/\vs[ds.length]? = some (.ref l0)/\H l0=some (.lst ys)/\Reps X.K H xs ys []/\fp i=tp::(A++[l0]++C)/\Reps X.K H ((ds++[D.lst xs]).take ds.length) (vs.take ds.length) A/\Reps X.K H ((ds++[D.lst xs]).drop (ds.length+1)) (vs.drop (ds.length+1)) C:=by
  generalize fp i=Fi at r0
  cases r0 with
  | @lst tp vs _ F e1 r =>
   obtain ⟨y,A,B,C,hy,hF,rB,rA,rC⟩:=r.split hds
   obtain ⟨l0,ys,G,rfl,rfl,e2,r3⟩:=rB.iLst
   obtain ⟨hG,r3⟩:=r3.pure hpx
   subst hG
   exact ⟨tp,l0,vs,ys,A,C,rfl,e1,by rw [r.length];simp,hy,e2,r3,by rw [hF],rA,rC⟩
 obtain ⟨tp,l0,vs,ys,A,C,rfl,e1,hvl,hy,e2,r3,hF,rA,rC⟩:=inv
 have hm:l0∈fp i:=by rw [hF];simp
 have hWl:=sw0 l0 hm
 rw [hF] at nd0
 obtain ⟨ntp,nd1⟩:=List.nodup_cons.mp nd0
 have hlt:l0≠tp:=λz=>ntp (by rw [← z];simp)
 have nA:l0∉A/\l0∉C:=by
  simp only [List.append_assoc,List.nodup_append,List.mem_append,List.mem_singleton,List.nodup_cons,List.singleton_append,List.mem_cons] at nd1
  obtain ⟨_,⟨h1,_⟩,h2⟩:=nd1
  exact ⟨λh=>h2 l0 h l0 (.inl rfl) rfl,h1⟩
 have hat:L2.atI vs (-1)=some (.ref l0):=by
  unfold L2.atI
  rw [show ixN vs.length (-1)=some ds.length by unfold ixN;rw [hvl,if_neg (by omega),if_pos (by omega)];congr 1;omega]
  exact hy
 refine ⟨_,hv0,1,rfl,tp,_,-1,.ref l0,rfl,rfl,.of e1,hat,.inl ⟨rfl,_,.of e2⟩,ge z R σ H W ρ _ _ s hw λve H1 W1 d1 ρ1 F1 pp q1=>?_⟩
 obtain ⟨hpe,qn⟩:=q1
 obtain ⟨sm,hW1,hρ1⟩:=pp.calm rfl
 subst hW1 hρ1
 obtain ⟨-,re⟩:=pp.rep.pure hpe
 have e2':=sm _ _ e2
 refine ⟨l0,ys,ve,rfl,rfl,e2',by rw [r3.length];exact hz,?_⟩
 have im:ImmK H1 (upd H1 l0 (.lst (ys++[ve]))):=Vl e2' rfl
 have hvs:vs=vs.take ds.length ++ .ref l0::vs.drop (ds.length+1):=by
  have jv:ds.length<vs.length:=by omega
  have h1:vs[ds.length] = .ref l0:=(List.getElem?_eq_some_iff.mp hy).2
  have h2:=List.set_getElem_self (as:=vs) jv
  rw [h1,Qqo jv] at h2
  exact h2.symm
 have hrep:Rep X.K (upd H1 l0 (.lst (ys++[ve]))) (.lst (ds++[.lst (xs++[d1])])) (.ref tp) (fp i):=by
  rw [hF,List.append_assoc]
  refine .lst (xs:=vs) ((Qg (Ne.symm hlt)).trans (sm _ _ e1)) ?_
  rw [hvs]
  have t1:(ds++[D.lst xs]).take ds.length=ds:=by simp
  have t2:(ds++[D.lst xs]).drop (ds.length+1)=[]:=by simp
  rw [t1] at rA
  rw [t2] at rC
  refine Reps.append (((rA.same sm)).frame im λa ha=>Qg λz=>nA.1 (z ▸ ha)) (.cons (F:=[l0]) (.lst (F:=[]) Qi (Reps.append (F:=[]) (G:=[]) ((r3.same sm).frame im λa m=>nomatch m) (Reps.one (re.frame im λa m=>nomatch m)))) (((rC.same sm)).frame im λa ha=>Qg λz=>nA.2 (z ▸ ha)))
 have s1:SR0 X.K T z R H1 W1 σ ρ1 fp:=s0.sameH sm
 have sF:=s1.write hl0 ht hv0 hm Zy ⟨_,Qi,rfl⟩ hrep (by rw [hF];exact nd0) (λa ha=>.inl ha)
 have fF:=(FrW.same W1 sm).write hWl (s1.wd l0 hWl) (H':=upd H1 l0 (.lst (ys++[ve]))) (λb u hb hne=>by rw [Qg hne];exact hb) ⟨_,Qi,rfl⟩ (F':=fp i) (λa ha=>.inl (sw0 a ha))
 exact l.nx R σ _ _ _ sF fF qn
end
end PV
namespace L2
open PySem PySem.Spec PyProof.Rows
open Builtin.Str (occurrences strSub subAt strSliceIndices)
def toS (y:Str) (b:Nat):Str:=⟨(y.cps.toList.take b).toArray⟩
theorem Qef:Txt.slice y (some (a:Int)) none=G3 y a:=by
 by_cases h:a<=y.length
 ·exact Qa3 h
 ·have e:strSliceIndices (some (a:Int)) none 1 y.length=strSliceIndices (some (y.length:Int)) none 1 y.length:=by
   unfold strSliceIndices
   simp only [show ¬((a:Int)<0) by omega,show ¬((y.length:Int)<0) by omega,if_false,show ((1:Int) > 0)=True by simp,if_true]
   have:min (a:Int) (y.length:Int)=min (y.length:Int) (y.length:Int):=by omega
   rw [this]
  have e2:Txt.slice y (some (a:Int)) none=Txt.slice y (some (y.length:Int)) none:=by
   unfold Txt.slice
   rw [e]
  rw [e2,Qa3 (Nat.le_refl _)]
  unfold G3
  rw [List.drop_eq_nil_iff.mpr (by rw [Array.length_toList];exact Nat.le_refl _),List.drop_eq_nil_iff.mpr (by rw [Array.length_toList];have:y.cps.size=y.length:=rfl;omega)]
theorem Qkt:Txt.slice y none (some (b:Int))=toS y b:=by
 have ok:∀b:Nat,b<=y.length->Txt.slice y none (some (b:Int))=toS y b:=λb h=>by
  have h2:b<=y.cps.toList.length:=by rw [Array.length_toList];exact h
  show StrLaws.sliceText y none (some (b:Int))=_
  rw [StrLaws.sliceText_to ⟨by omega,by omega⟩]
  unfold toS
  rw [show ((b:Int)-0).toNat=b by omega,List.drop_zero]
 by_cases h:b<=y.length
 ·exact ok b h
 ·have e:strSliceIndices none (some (b:Int)) 1 y.length=strSliceIndices none (some (y.length:Int)) 1 y.length:=by
   unfold strSliceIndices
   simp only [show ¬((b:Int)<0) by omega,show ¬((y.length:Int)<0) by omega,if_false,show ((1:Int) > 0)=True by simp,if_true]
   have:min (b:Int) (y.length:Int)=min (y.length:Int) (y.length:Int):=by omega
   rw [this]
  have e2:Txt.slice y none (some (b:Int))=Txt.slice y none (some (y.length:Int)):=by
   unfold Txt.slice
   rw [e]
  rw [e2,ok _ (Nat.le_refl _)]
  unfold toS
  have hs:y.cps.size=y.length:=rfl
  rw [List.take_of_length_le (by rw [Array.length_toList];exact Nat.le_refl _),List.take_of_length_le (by rw [Array.length_toList];omega)]
def rSlF:V->Option Int->Option Int->Hp->VK->Prop:=λx lo hi H Q=>∃(y:Str) (a:Nat),x=.str y/\lo=some (a:Int)/\hi=none/\y.length<=sizeLine/\Q (.str (G3 y a)) H
theorem Qn6:SlR X rSlF:=by
 intro pins s σ H x v vl vu lo hi sl Q I rx hs pl pu h
 obtain ⟨y,a,rfl,rfl,rfl,hz,q⟩:=h
 obtain ⟨t,rfl⟩:=rx
 cases pu
 cases pl with
 | int i tk =>
  refine ⟨"str",_,F.slot_str_getitem.lookup,typeIs_str _ _ _,wpAny_getItem_str_slice (l:=some ((a:Int),tk)) (u:=none) (st:=none) hs rfl ?_⟩
  refine post_val_or_str ⟨Nat.le_trans (Txt.slice_le y (some (a:Int)) none) hz,λt' k=>?_⟩
  refine ⟨.str (G3 y a),H,I.tok _,⟨t',?_⟩,q⟩
  rw [← Qef]
  rfl
def Qud:V->Option Int->Option Int->Hp->VK->Prop:=λx lo hi H Q=>∃(y:Str) (b:Nat),x=.str y/\lo=none/\hi=some (b:Int)/\y.length<=sizeLine/\Q (.str (toS y b)) H
theorem Qku:SlR X Qud:=by
 intro pins s σ H x v vl vu lo hi sl Q I rx hs pl pu h
 obtain ⟨y,b,rfl,rfl,rfl,hz,q⟩:=h
 obtain ⟨t,rfl⟩:=rx
 cases pl
 cases pu with
 | int i tk =>
  refine ⟨"str",_,F.slot_str_getitem.lookup,typeIs_str _ _ _,wpAny_getItem_str_slice (l:=none) (u:=some ((b:Int),tk)) (st:=none) hs rfl ?_⟩
  refine post_val_or_str ⟨Nat.le_trans (Txt.slice_le y none (some (b:Int))) hz,λt' k=>?_⟩
  refine ⟨.str (toS y b),H,I.tok _,⟨t',?_⟩,q⟩
  rw [← Qkt]
  rfl
def atS (x y:Str):Int:=match occurrences x y 0 x.length 1 with
 | i::_=>(i:Int)
 | []=>-1
end L2
variable {g:PySem.Str->PV.GA} {lo hi:Option PySem.Expr} {wl:PV.WO}
namespace PV
open PySem PySem.Spec L2
section
variable {m1:Bool} {w:WE} {p2:Pos}
def gFind:GS:=λy ds k=>match ds with
 | [.str z]=>k (.int (atS y z))
 | _=>False
def dSlF:D->Option Int->(D->Prop)->Prop
 | .str y,some i,k=>0<=i/\y.length<=sizeLine/\k (.str (G3 y i.toNat))
 | _,_,_=>False
def Qtc:D->Option Int->(D->Prop)->Prop
 | .str y,some i,k=>0<=i/\y.length<=sizeLine/\k (.str (toS y i.toNat))
 | _,_,_=>False
def wSlF (w:WE) (wl:WO):WE:=λρ Q=>w ρ λd ρ1=>wl ρ1 λlo ρ2=>dSlF d lo λd'=>Q d' ρ2
def Qge (w:WE) (wl:WO):WE:=λρ Q=>w ρ λd ρ1=>wl ρ1 λlo ρ2=>Qtc d lo λd'=>Q d' ρ2
theorem Qju (he:EV X T m1 o1 e w) (hl:OV X T m2 lo wl):EV X T (m1 || m2) true (.Subscript e (.Slice lo none none p2) pos) (wSlF w wl):=by
 obtain ⟨te,pe,ge⟩:=he
 obtain ⟨tl,pl,gl⟩:=hl
 refine ⟨_,Xb Qn6 pe pl Qel,λz R σ H W ρ Q Q' s hw k=>?_⟩
 refine ge z R σ H W ρ _ _ s hw λv H1 W1 d ρ1 F p q=>?_
 refine gl z R σ H1 W1 ρ1 _ _ p.sr q λlo H2 W2 ρ2 p2 q2=>?_
 match d,lo,p.rep,q2 with
 | .str y,some i,r,q2 =>
  obtain ⟨h0,h2,q2⟩:=q2
  cases r
  refine ⟨y,i.toNat,rfl,by rw [Int.toNat_of_nonneg h0],rfl,h2,k _ H2 W2 _ ρ2 [] (Post.fin p2.sr (p.fr.trans p2.fr) (λh=>?_) (Same.refl H2) (.str _) (by simp) (λb m=>nomatch m)) q2⟩
  rw [Bool.or_eq_false_iff] at h
  obtain ⟨a1,a2,a3⟩:=p.calm h.1
  obtain ⟨b1,b2,b3⟩:=p2.calm h.2
  exact ⟨a1.trans b1,b2.trans a2,b3.trans a3⟩
theorem Qca (he:EV X T m1 o1 e w) (hl:OV X T m2 hi wl):EV X T (m1 || m2) true (.Subscript e (.Slice none hi none p2) pos) (Qge w wl):=by
 obtain ⟨te,pe,ge⟩:=he
 obtain ⟨tl,pl,gl⟩:=hl
 refine ⟨_,Xb Qku pe Qel pl,λz R σ H W ρ Q Q' s hw k=>?_⟩
 refine ge z R σ H W ρ _ _ s hw λv H1 W1 d ρ1 F p q=>?_
 refine gl z R σ H1 W1 ρ1 _ _ p.sr q λlo H2 W2 ρ2 p2 q2=>?_
 match d,lo,p.rep,q2 with
 | .str y,some i,r,q2 =>
  obtain ⟨h0,h2,q2⟩:=q2
  cases r
  refine ⟨y,i.toNat,rfl,rfl,by rw [Int.toNat_of_nonneg h0],h2,k _ H2 W2 _ ρ2 [] (Post.fin p2.sr (p.fr.trans p2.fr) (λh=>?_) (Same.refl H2) (.str _) (by simp) (λb m=>nomatch m)) q2⟩
  rw [Bool.or_eq_false_iff] at h
  obtain ⟨a1,a2,a3⟩:=p.calm h.1
  obtain ⟨b1,b2,b3⟩:=p2.calm h.2
  exact ⟨a1.trans b1,b2.trans a2,b3.trans a3⟩
end
section
variable {i:Int}
theorem Qom:dSlF (.str x) (some i) k=(0<=i/\x.length<=sizeLine/\k (.str (G3 x i.toNat))):=rfl
theorem Qk1:Qtc (.str x) (some i) k=(0<=i/\x.length<=sizeLine/\k (.str (toS x i.toNat))):=rfl
end
section
variable {b:Expr}
theorem Qs8 {g:G2} (hg:IxD X g) (hb:EV X T m2 o2 b wb) (hs:Qci b:=by intro _ _;rfl) (hN:X.N[i]? = some x:=by rfl) (hv:Vis X.env.scope x:=by first | exact Or.inl rfl | exact Or.inr (Or.inl rfl) | exact Or.inr (Or.inr rfl))
  (hd:(x == ("__debug__" : Str))=false:=by decide) (hcd:(x == ("__classdict__" : Str))=false:=by decide):EV X T m2 false (.Subscript (.Name x p) b pos) (Qnt i g wb):=by
 obtain ⟨r,ro,gr⟩:=hg
 obtain ⟨tb,pb,gb⟩:=hb
 refine ⟨_,Qox ro (Y4 hN hv hd hcd) pb hs,λz R σ H W ρ Q Q' s hw k=>?_⟩
 obtain ⟨d1,hl,hw⟩:=Ql hw
 obtain ⟨fp,s0⟩:=id s
 obtain ⟨v,h1,h2⟩:=s0.at_ i d1 hl
 refine ⟨v,h1,gb z R σ H W ρ _ _ s hw λv2 H2 W2 d2 ρ2 F2 q q2=>?_⟩
 obtain ⟨hl2,q2⟩:=q2
 obtain ⟨fp2,s2⟩:=id q.sr
 obtain ⟨v',h3,h4⟩:=s2.at_ i d1 hl2
 have:v'=v:=by rw [h1] at h3;cases h3;rfl
 subst this
 exact gr H2 d1 d2 v' v2 (fp2 i) F2 _ Q' h4 q.rep q2 λu d F rd sub hk=>k u H2 W2 d ρ2 F ⟨q.sr,q.fr,q.calm,rd,λh=>nomatch h⟩ hk
end
end PV
namespace PV
open PySem PySem.Spec L2
open PyProof.Rows (envOfC)
structure ClN (K:PySem.W.Frag) (mg:Str->Option Value) (x:Str) (C:Addr):Prop where
 mg:mg x=some (.ref C)
 ns:PySem.W.nsIn K mainGlobals x=some (some (.ref C))
 d:ClsD K C
def Qhz (C:Addr) (n:Nat):Sp:=λvs H Q _=>∃a dx ys,vs=.ref a::ys/\ys.length=n/\H a=some (.ins C dx [])/\Q .non (upd H a (.ins C dx ((fldN n).zip ys)))
def IniN (P:Program) (w:World) (K:PySem.W.Frag) (mg:Str->Option Value) (base:Heap) (x:Str) (n k:Nat):Prop :=
 ∃C f fd,ClN K mg x C/\Mk K C f/\FnOk P w K mg base CX0 k f fd ("self" :: fldN n) (Qhz C n)/\Zi K fd ("self" :: fldN n) []
def Qjf (d:D) (k:Str->List D->Prop):Prop:=match d with
 | .ist x ds=>k x ds
 | _=>False
theorem Qdk {k:Str->List D->Prop} (h:Qjf d k):∃x ds,d=.ist x ds/\k x ds:=by
 cases d with
 | ist x ds=>exact ⟨x,ds,rfl,h⟩
 | _=>exact (show False from h).elim
theorem Rep.iIst {F:List Addr} (r:Rep K H (.ist x ds) v F):∃a C dx fs,v=.ref a/\F=[]/\H a=some (.ins C dx fs)/\PySem.W.nsIn K mainGlobals x=some (some (.ref C))/\fs.map (·.1)=fldN ds.length/\Reps K H ds (fs.map (·.2)) []:=by
 cases r with | ist e hc hn r=>exact ⟨_,_,_,_,rfl,rfl,e,hc,hn,r⟩
theorem Yi {D:Addr} (h:PySem.W.nsIn K mainGlobals x=some (some (.ref C))) (h':PySem.W.nsIn K mainGlobals x=some (some (.ref D))):C=D:=by
 rw [h] at h';cases h';rfl
section
variable {w:WE} {p2:Pos} {f:Str} {k:Nat}
theorem Qjv (h:ClN X.K X.mg x C) (hi:PySem.W.findIn X.K (.ref C) "__init__" = some (some (.builtin "object.__init__"))) (hg:Gl X x:=by rfl) (hdb:(x == ("__debug__" : Str))=false:=by decide):EV X T false true (.Call (.Name x p) [] [] pos) (wC (.ist x [])):=by
 refine ⟨_,Qrl h.d hi hg h.mg hdb,λz R σ H W ρ Q Q' s hw kk a dx ha hdx hne=>?_⟩
 have sm:Same H (upd (upd H dx (.own a)) a (.ins C dx [])):=(Qo hdx).trans (Qo (by rw [Qg (Ne.symm hne)];exact ha))
 exact kk (.ref a) _ W (.ist x []) ρ [] (Post.fin s (FrW.refl H W) (λ_=>⟨Same.refl H,rfl,rfl⟩) sm (.ist (fs:=[]) Qi h.ns rfl .nil) List.nodup_nil λa m=>nomatch m) hw
def wMk (x:Str) (n:Nat) (wr:WA):WE:=λρ Q=>wr ρ λds ρ1=>ds.length=n/\Qn ds=true/\Q (.ist x ds) ρ1
theorem Qf3 {n:Nat} (I:IniN X.prog X.w X.K X.mg X.base x n k) (hr:Room (k+1) X.A) (ha:AV X T m o (e::es) wr) (hn:(fldN n).length=n:=by rfl) (hg:Gl X x:=by rfl) (hdb:(x == ("__debug__" : Str))=false:=by decide)
  (he:starEach (e::es) X.env=(false,eval e X.env)::starEach es X.env:=by rfl) (hpl:(backTo pos (starEach es X.env)).any (·.1)=false:=by rfl):EV X T m true (.Call (.Name x p) (e::es) [] pos) (wMk x n wr):=by
 obtain ⟨C,f,fd,h,M,F,hb⟩:=I
 obtain ⟨ta,pa,ga⟩:=ha
 refine ⟨_,Qow M F hr hg h.mg hb .nil Qiq pa hdb he hpl,λz R σ H W ρ Q Q' s hw kk=>?_⟩
 refine ga z R σ H W ρ _ _ s hw λvs H1 W1 ds ρ1 Fp pp q=>?_
 obtain ⟨hl,hp,q⟩:=q
 obtain ⟨hF,rp⟩:=pp.rep.pure hp
 intro a dx ha hdx hne
 have hlv:vs.length=n:=by rw [pp.rep.length];exact hl
 have sm:Same H1 (upd (upd (upd H1 dx (.own a)) a (.ins C dx [])) a (.ins C dx ((fldN n).zip vs))):=λb ob eb=>by
  have n1:b≠a:=λz=>by rw [z,ha] at eb;cases eb
  have n2:b≠dx:=λz=>by rw [z,hdx] at eb;cases eb
  rw [Qg n1,Qg n1,Qg n2];exact eb
 refine ⟨a,dx,vs,by simp,hlv,Qi,rfl,kk (.ref a) _ W1 (.ist x ds) ρ1 [] (Post.fin pp.sr pp.fr pp.calm sm (.ist Qi h.ns ?_ ?_) List.nodup_nil λa m=>nomatch m) q⟩
 ·rw [List.map_fst_zip (by omega),hl]
 ·rw [List.map_snd_zip (by omega)];exact rp.same sm
def fldS:Nat->Str
 | 0=>"one"
 | _=>"other"
theorem Qly (hn:fs.map (·.1)=fldN ds.length) (r:Reps K H ds (fs.map (·.2)) []) (h2:ds.length<=2) (hd:ds[i]? = some d):∃v,fs.lookup (fldS i)=some v/\Rep K H d v []:=by
 obtain ⟨v,B,h1,h3,h4⟩:=r.get hd
 have:=List.sublist_nil.mp h4
 subst this
 refine ⟨v,?_,h3⟩
 have hi:=(List.getElem?_eq_some_iff.mp hd).1
 have e:fs=(fldN ds.length).zip (fs.map (·.2)):=by rw [← hn];exact List.zip_of_prod rfl rfl
 have hl:=r.length
 generalize fs.map (·.2)=vs at e h1 hl
 clear hn r
 subst e
 match ds,h2,hi,vs,hl,h1 with
 | [d0],_,hi,[u],_,h1 =>
  have:i=0:=by simp at hi;exact hi
  subst this
  simp at h1;subst h1;rfl
 | [d0,d1],_,hi,[u,u'],_,h1 =>
  match i,hi,h1 with
  | 0,_,h1=>simp at h1;subst h1;rfl
  | 1,_,h1=>simp at h1;subst h1;rfl
def wFld (isC:Str->Bool) (i:Nat) (w:WE):WE:=λρ Q=>w ρ λd ρ1=>Qjf d λx ds=>isC x=true/\ds.length<=2/\oget (ds[i]?) λv=>Q v ρ1
theorem Qbf {isC:Str->Bool} (i:Nat) (hC:∀x C,isC x=true->atN X.K x C->ClsD X.K C/\Jg X.K C (fldS i)) (he:EV X T m o e w) (hb:attributeBase e (fldS i) X.env (eval e X.env)=eval e X.env:=by rfl):EV X T m true (.Attribute e (fldS i) pos) (wFld isC i w):=by
 obtain ⟨te,pe,ge⟩:=he
 refine ⟨_,Qrn pe hb,λz R σ H W ρ Q Q' s hw kk=>?_⟩
 refine ge z R σ H W ρ _ _ s hw λv H1 W1 d ρ1 F p q=>?_
 obtain ⟨x,ds,rfl,hx,h2,q⟩:=Qdk q
 obtain ⟨v0,hd,q⟩:=Ql q
 obtain ⟨a,C,dx,fs,rfl,rfl,ea,hc,hn,r⟩:=p.rep.iIst
 obtain ⟨cd,na⟩:=hC x C hx hc
 obtain ⟨u,hl,ru⟩:=Qly hn r h2 hd
 exact ⟨a,C,dx,fs,u,rfl,ea,cd.cls,na,hl,kk u H1 W1 v0 ρ1 [] ⟨p.sr,p.fr,p.calm,ru,λ_=>⟨List.nodup_nil,λa m=>nomatch m⟩⟩ q⟩
def U6 (isC:Str->Bool) (g:Str->GA) (w:WE):WE:=λρ Q=>w ρ λd ρ1=>Qjf d λx ds=>isC x=true/\ds.length<=2/\g x [d] λr=>Q r ρ1
theorem Ud {isC:Str->Bool} (hC:∀x C,isC x=true->atN X.K x C->ClsD X.K C/\∃f fd,Meth X.K C y f/\FnOk X.prog X.w X.K X.mg X.base CX0 k f fd ["self"] (spR X.K (g x))/\Zi X.K fd ["self"] []) (hr:Room k X.A) (he:EV X T m o e w) (hy:y ≠ "one" /\ y ≠ "other":=by decide)
  (ht:eval (.Call (.Attribute e y apos) [] [] pos) X.env=(do
   let ov ← eval e X.env
   standAt apos.atName
   let (f,first) ← holding [ov] (getMethod ov y pl)
   callWith pos f first (backTo pos (starEach [] X.env)) (backToKw pos (keywordEach [] X.env))):=by rfl) :
  EV X T m true (.Call (.Attribute e y apos) [] [] pos) (U6 isC g w):=by
 obtain ⟨te,pe,ge⟩:=he
 refine ⟨_,Qk8 pe hr ht,λz R σ H W ρ Q Q' s hw kk=>?_⟩
 refine ge z R σ H W ρ _ _ s hw λv H1 W1 d ρ1 F p q=>?_
 obtain ⟨x,ds,rfl,hx,h2,q⟩:=Qdk q
 obtain ⟨a,C,dx,fs,rfl,rfl,ea,hc,hn,r⟩:=p.rep.iIst
 obtain ⟨cd,f,fd,hm,Fk,hb⟩:=hC x C hx hc
 have hl:fs.lookup y=none:=by
  have gen:∀fs:List (Str × V),y∉fs.map (·.1)->fs.lookup y=none:=λfs=>by
   induction fs with
   | nil=>intro _;rfl
   | cons q fs ih =>
    intro h
    obtain ⟨q1,q2⟩:=q
    rw [List.lookup_cons,show (y == q1)=false by simpa using λz:y=q1=>h (by rw [z];exact List.mem_cons_self)]
    exact ih λz=>h (List.mem_cons_of_mem _ z)
  refine gen fs ?_
  rw [hn]
  match ds.length,h2 with
  | 0,_=>simp [fldN]
  | 1,_=>simpa [fldN] using hy.1
  | 2,_=>simpa [fldN] using hy
 exact ⟨a,C,dx,fs,f,fd,_,rfl,ea,cd.cls,hm,Fk,hb,hl,[.ist x ds],_,_,.cons p.rep .nil,q,λv H' dd F' fi hk=>kk v H' W1 dd ρ1 F' (Post.fin p.sr p.fr p.calm fi.same fi.rep fi.nd fi.new) hk⟩
def wIsC (isC:Str->Bool) (sub:Str->Bool) (w:WE):WE:=λρ Q=>w ρ λd ρ1=>match d with
 | .ist x _=>isC x=true/\Q (.bl (sub x)) ρ1
 | .str _=>Q (.bl false) ρ1
 | _=>False
theorem Qs9 {isC sub:Str->Bool} {D':Addr} (hb:X.mg "isinstance" = none) (ob:ObjD X.K) (hD:X.mg y=some (.ref D')) (hC:∀x C,isC x=true->atN X.K x C->ClsD X.K C/\PySem.W.kitOne X.K (.ref C) (.ref D')=some (sub x)) (hS:PySem.W.kitOne X.K (.type "str") (.ref D')=some false)
  (he:EV X T m o e w) (hg:Gl X "isinstance":=by rfl) (hgy:Gl X y:=by rfl) (hdy:(y == ("__debug__" : Str))=false:=by decide)
  (hs:starEach [e,.Name y p2] X.env=(false,eval e X.env)::starEach [.Name y p2] X.env:=by rfl) (hs2:starEach [.Name y p2] X.env=(false,eval (.Name y p2) X.env)::starEach [] X.env:=by rfl) (hpl:(backTo pos (starEach [.Name y p2] X.env)).any (·.1)=false:=by rfl) :
  EV X T m true (.Call (.Name "isinstance" p) [e,.Name y p2] [] pos) (wIsC isC sub w):=by
 obtain ⟨te,pe,ge⟩:=he
 refine ⟨_,Qby (Qmf (D:=D') ob) hg hb Z3 (Zp pe (Zp (Ga hgy hD (v:=.ref D') rfl hdy) Qa7 hs2) hs) (by decide) (by decide) hs hpl,λz R σ H W ρ Q Q' s hw kk=>?_⟩
 refine ge z R σ H W ρ _ _ s hw λv H1 W1 d ρ1 F pp q=>?_
 cases d with
 | ist x ds =>
  obtain ⟨hx,q⟩:=q
  obtain ⟨a,C,dx,fs,rfl,rfl,ea,hc,hn,r⟩:=pp.rep.iIst
  obtain ⟨cd,hk⟩:=hC x C hx hc
  exact ⟨.ref a,D',sub x,rfl,⟨_,cd.ty ob ea,hk⟩,kk _ H1 W1 (.bl (sub x)) ρ1 [] (Post.flat pp.sr pp.fr pp.calm (.bl _)) q⟩
 | str x =>
  have hv:=pp.rep.iStr
  subst hv
  exact ⟨.str x,D',false,rfl,⟨_,.str x,hS⟩,kk _ H1 W1 (.bl false) ρ1 [] (Post.flat pp.sr pp.fr pp.calm (.bl _)) q⟩
 | _=>exact (show False from q).elim
def Qcp (ρ:Env) (i:Nat) (k:Str->Prop):Prop:=oget (look ρ i) λd=>Qee d k
theorem Xo {k:Str->Prop} (h:Qcp ρ i k):∃x,look ρ i=some (.str x)/\k x:=by
 obtain ⟨d,hl,h⟩:=Ql h
 cases d with
 | str x=>exact ⟨x,hl,h⟩
 | _=>exact (show False from h).elim
def wFs1 (c:Str) (i:Nat) (d:Str):WE:=λρ Q=>Qcp ρ i λx=>(c++x++d).length<=sizeLine/\Q (.str (c++x++d)) ρ
def wFs2 (c:Str) (i:Nat) (d:Str) (j:Nat) (g:Str):WE:=λρ Q=>Qcp ρ i λx=>Qcp ρ j λy=>(c++x++d++y++g).length<=sizeLine/\Q (.str (c++x++d++y++g)) ρ
theorem Qb5 {W:Addr->Prop} (s:SR K T z R H W σ ρ) (h:look ρ i=some (.str x)):σ[i]? = some (some (.str x)):=by
 obtain ⟨fp,s0⟩:=s
 obtain ⟨v,h1,h2⟩:=s0.at_ i _ h
 generalize fp i=Fi at h2
 cases h2
 exact h1
theorem Jm (a b:Str):(a++b).length=a.length+b.length:=strLen_append a b
theorem Qnb {c d:Str} {q1 q2 q3 q4:Pos} (hN:X.N[i]? = some x:=by rfl) (hv:Vis X.env.scope x:=by first | exact Or.inl rfl | exact Or.inr (Or.inl rfl) | exact Or.inr (Or.inr rfl)) (hd:(x == ("__debug__" : Str))=false:=by decide) (hcd:(x == ("__classdict__" : Str))=false:=by decide) :
  EV X T false true (.JoinedStr [.Constant (.str c) k1 q1,.FormattedValue (.Name x q2) (-1) none q3,.Constant (.str d) k2 q4] pos) (wFs1 c i d):=by
 refine ⟨_,Qin (pj_c (pj_v (Y4 hN hv hd hcd) (pj_c Qmv))),λz R σ H W ρ Q Q' s hw kk=>?_⟩
 obtain ⟨x,hl,hz,q⟩:=Xo hw
 have h1:=Jm (c++x) d
 have h2:=Jm c x
 rw [Str.empty_append]
 refine ⟨by omega,_,Qb5 s hl,x,rfl,by omega,by omega,hz,hz,kk _ H W (.str _) ρ [] (Post.flat s (FrW.refl H W) (λ_=>⟨Same.refl H,rfl,rfl⟩) (.str _)) q⟩
theorem Qna {c d g:Str} {k3:Nat} {q1 q2 q3 q4 q5 q6 q7:Pos} (hN:X.N[i]? = some x:=by rfl) (hM:X.N[j]? = some y:=by rfl) (hv:Vis X.env.scope x:=by first | exact Or.inl rfl | exact Or.inr (Or.inl rfl) | exact Or.inr (Or.inr rfl)) (hv2:Vis X.env.scope y:=by first | exact Or.inl rfl | exact Or.inr (Or.inl rfl) | exact Or.inr (Or.inr rfl))
  (hd:(x == ("__debug__" : Str))=false:=by decide) (hcd:(x == ("__classdict__" : Str))=false:=by decide) (hd2:(y == ("__debug__" : Str))=false:=by decide) (hcd2:(y == ("__classdict__" : Str))=false:=by decide) :
  EV X T false true (.JoinedStr [.Constant (.str c) k1 q1,.FormattedValue (.Name x q2) (-1) none q3,.Constant (.str d) k2 q4,.FormattedValue (.Name y q5) (-1) none q6,.Constant (.str g) k3 q7] pos) (wFs2 c i d j g):=by
 refine ⟨_,Qin (pj_c (pj_v (Y4 hN hv hd hcd) (pj_c (pj_v (Y4 hM hv2 hd2 hcd2) (pj_c Qmv))))),λz R σ H W ρ Q Q' s hw kk=>?_⟩
 obtain ⟨x,hl,hw⟩:=Xo hw
 obtain ⟨y,hl2,hz,q⟩:=Xo hw
 have h1:=Jm (c++x++d++y) g
 have h2:=Jm (c++x++d) y
 have h3:=Jm (c++x) d
 have h4:=Jm c x
 rw [Str.empty_append]
 refine ⟨by omega,_,Qb5 s hl,x,rfl,by omega,by omega,by omega,_,Qb5 s hl2,y,rfl,by omega,by omega,hz,hz,kk _ H W (.str _) ρ [] (Post.flat s (FrW.refl H W) (λ_=>⟨Same.refl H,rfl,rfl⟩) (.str _)) q⟩
end
end PV
namespace PV
open PySem PySem.Spec L2
def Qns (i:Nat):WE:=λρ Q=>oget (look ρ i) λd=>tlOf d λds xs=>Qn xs=true/\Q (.lst xs) (ρ.set i (some (.lst ds)))
theorem Qpx (ht:T.own i=true:=by rfl) (hN:X.N[i]? = some x:=by rfl) (hv:Vis X.env.scope x:=by first | exact Or.inl rfl | exact Or.inr (Or.inl rfl) | exact Or.inr (Or.inr rfl)) (hd:(x == ("__debug__" : Str))=false:=by decide)
  (hcd:(x == ("__classdict__" : Str))=false:=by decide)
  (hbase:attributeBase (.Name x p) "pop" X.env (eval (.Name x p) X.env)=eval (.Name x p) X.env:=by rfl) (hline:(apos.endLine == cpos.line)=true:=by rfl) :
  EV X T true false (.Call (.Attribute (.Name x p) "pop" apos) [] [] cpos) (Qns i):=by
 refine ⟨_,Qro PySem.F.plainAttrs_list PySem.F.slot_list_pop PySem.F.type_list_pop Qr8 (Y4 hN hv hd hcd) hbase hline,λz R σ H W ρ Q Q' s hw k=>?_⟩
 obtain ⟨sd,hl0,hw⟩:=Ql hw
 obtain ⟨ds,xs,rfl,hpx,hw⟩:=Qmj hw
 obtain ⟨fp,s0⟩:=id s
 obtain ⟨v0,hv0,r0⟩:=s0.at_ i _ hl0
 obtain ⟨nd0,sw0⟩:=s0.own i _ hl0 ht
 have hds:(ds++[D.lst xs])[ds.length]? = some (.lst xs):=by simp
 have inv:∃(tp l0:Addr) (vs:List V) (A C:List Addr),v0=.ref tp/\H tp=some (.lst vs)/\vs.length=ds.length+1/\vs[ds.length]? = some (.ref l0)/\Rep X.K H (.lst xs) (.ref l0) [l0]/\fp i=tp::(A++[l0]++C)/\Reps X.K H ((ds++[D.lst xs]).take ds.length) (vs.take ds.length) A:=by
  generalize fp i=Fi at r0
  cases r0 with
  | @lst tp vs _ F e1 r =>
   obtain ⟨y,A,B,C,hy,hF,rB,rA,rC⟩:=r.split hds
   obtain ⟨l0,ys,G,rfl,rfl,e2,r3⟩:=rB.iLst
   obtain ⟨hG,r3⟩:=r3.pure hpx
   subst hG
   exact ⟨tp,l0,vs,A,C,rfl,e1,by rw [r.length];simp,hy,.lst e2 r3,by rw [hF],rA⟩
 obtain ⟨tp,l0,vs,A,C,rfl,e1,hvl,hy,rB,hF,rA⟩:=inv
 have hm:tp∈fp i:=by rw [hF];simp
 have hWl:=sw0 tp hm
 rw [hF] at nd0
 obtain ⟨ntp,nd1⟩:=List.nodup_cons.mp nd0
 have hlt:tp∉[l0]:=λz=>ntp (by rw [List.mem_singleton.mp z];simp)
 have hA:tp∉A:=λz=>ntp (by simp [z])
 refine ⟨_,hv0,.inl ⟨rfl,_,.of e1⟩,tp,vs,.ref l0,rfl,rfl,e1,by rw [hvl];exact hy,?_⟩
 have hdl:vs.dropLast=vs.take ds.length:=by rw [List.dropLast_eq_take,hvl];rfl
 have t1:(ds++[D.lst xs]).take ds.length=ds:=by simp
 rw [t1] at rA
 have hrep:Rep X.K (upd H tp (.lst vs.dropLast)) (.lst ds) (.ref tp) (tp::A):=by
  refine .lst Qi ?_
  rw [hdl]
  exact rA.upd e1 rfl hA
 have sub:∀a∈tp::A,a∈fp i:=λa ha=>by
  rw [hF]
  rcases List.mem_cons.mp ha with rfl | ha
  ·exact List.mem_cons_self
  ·simp [ha]
 have nd2:(tp::A).Nodup:=List.nodup_cons.mpr ⟨hA,by rw [List.append_assoc] at nd1;exact (List.nodup_append.mp nd1).1⟩
 exact k (.ref l0) _ _ (.lst xs) _ [l0] ⟨s0.write hl0 ht hv0 hm Zy ⟨_,Qi,rfl⟩ hrep nd2 (λa ha=>.inl (sub a ha)),(FrW.refl H W).write hWl (s0.wd tp hWl) Zy ⟨_,Qi,rfl⟩ (λa ha=>.inl (sw0 a (sub a ha))),(λh=>nomatch h),rB.upd e1 rfl hlt,λh=>nomatch h⟩ hw
theorem Qjt {k:Nat} {g:GX} (C:CalD X.prog X.w X.K X.mg X.base x k ps (spXD X.K g)) (hr:Room k X.A) (hX:Vn X T) (ha:AV X.nox T m o (e₀::es) wr) (hg:Gl X x:=by rfl) (hdb:(x == ("__debug__" : Str))=false:=by decide)
  (he:starEach (e₀::es) X.env=(false,eval e₀ X.env)::starEach es X.env:=by rfl) (hpl:(backTo pos (starEach es X.env)).any (·.1)=false:=by rfl) :
  EVX X T m true (.Call (.Name x p) (e₀::es) [] pos) (Yy g wr):=by
 obtain ⟨fa,fd,F,h1,h2,h3⟩:=C
 obtain ⟨ta,pa,ga⟩:=ha
 refine ⟨λσ H Q=>ta σ H λvs H1=>spXD X.K g vs H1 Q (XiD X.K T σ),λpins s σ H Q I h=>wpAny_mono (Qaj F hr hg h1 h2 h3 pa I h hdb he hpl) (λ_ _ z=>z) λe s' ⟨s1,H1,I1,q⟩=>hX _ _ _ _ _ _ I1 q,λz R σ H W ρ Q Q' xc s hx hw k=>?_⟩
 exact ga z R σ H W ρ _ _ s hw λvs H1 W1 ds ρ1 Fp p q=>⟨ds,Fp,_,_,p.rep,q,λv H' d F' fi hk=>k v H' W1 d ρ1 F' (Post.fin p.sr p.fr p.calm fi.same fi.rep fi.nd fi.new) hk,λx C dx fs H' hn sm hfl hk=>⟨C,rfl,x,fs,hn,hfl,hx R H' W1 ρ1 _ (p.sr.same sm) (p.fr.trans (FrW.same W1 sm)) hk⟩⟩
def dEqI (isC:Str->Bool):G2:=λa b k=>match a,b with
 | .str i,.str j=>k (.bl (decide (i=j)))
 | .ist x _,.str _=>isC x=true/\k (.bl false)
 | _,_=>False
theorem Qft {isC:Str->Bool} (hC:∀x C,isC x=true->atN X.K x C->EqC X.K C) (hu:X.A.units<cLine):OpD X (compareOp .Eq) (dEqI isC):=by
 refine ⟨_,OpR.or Qr0 (Qry hu),λH a b x y F1 F2 k Q ra rb g q=>?_⟩
 cases b with
 | str j =>
  obtain rfl:=rb.iStr
  cases a with
  | str i =>
   obtain rfl:=ra.iStr
   refine .inl ⟨rfl,?_⟩
   have e:decide (V.str i=V.str j)=decide (i=j):=by simp
   rw [e]
   exact q _ _ _ _ (.flat (.bl _)) g
  | ist x ds =>
   obtain ⟨hx,g⟩:=g
   obtain ⟨a,C,dx,fs,rfl,rfl,ea,hc,hn,r⟩:=ra.iIst
   exact .inr ⟨a,C,dx,fs,j,rfl,rfl,ea,hC x C hx hc,q _ _ _ _ (.flat (.bl _)) g⟩
  | _=>exact (show False from g).elim
 | _=>cases a <;> exact (show False from g).elim
def Ql5:G2:=λa b k=>match a,b with
 | .str x,.int n=>0<n/\n<=1000/\x.length<=1000/\k (.str (Txt.mul x n))
 | _,_=>False
theorem Qix:OpD X (binaryOp .Mult) Ql5:=by
 refine ⟨_,Qo2,λH a b x y F1 F2 k Q ra rb g q=>?_⟩
 cases b with
 | int n =>
  obtain rfl:=rb.iInt
  cases a with
  | str i =>
   obtain rfl:=ra.iStr
   obtain ⟨h1,h2,h3,g⟩:=g
   refine ⟨i,n,rfl,rfl,⟨?_,λ_ _ z=>?_,λ_ _=>?_⟩,q _ _ _ _ (.flat (.str _)) g⟩
   ·rw [Bool.or_eq_false_iff]
    exact ⟨decide_eq_false (by omega),decide_eq_false (by omega)⟩
   ·have h4:(1000:Int)<=(2 ^ 63-1) / n:=(Int.le_ediv_iff_mul_le h1).mpr (by
     have:(1000:Int)*n<=1000*1000:=Int.mul_le_mul_of_nonneg_left h2 (by decide)
     omega)
    omega
   ·unfold Builtin.Str.tooLong
    have h5:i.length*n.toNat<=1000*1000:=Nat.mul_le_mul h3 (by omega)
    exact decide_eq_false (by rw [sizeLine_eq];omega)
  | _=>exact (show False from g).elim
 | _=>cases a <;> exact (show False from g).elim
def dIn2:G2:=λa b k=>match b with
 | .tup [.lst xs,.lst ys]=>eqOk 9 a=true/\eqOk 9 (.lst xs)=true/\eqOk 9 (.lst ys)=true/\(a=.lst xs\/a=.lst ys->k (.bl true))/\(a ≠ .lst xs->a ≠ .lst ys->k (.bl false))
 | _=>False
theorem Ql6 {a b:D} (g:dIn2 a b k):∃xs ys,b=.tup [.lst xs,.lst ys]/\eqOk 9 a=true/\eqOk 9 (.lst xs)=true/\eqOk 9 (.lst ys)=true/\(a=.lst xs\/a=.lst ys->k (.bl true))/\(a ≠ .lst xs->a ≠ .lst ys->k (.bl false)):=by
 unfold dIn2 at g
 split at g
 ·exact ⟨_,_,rfl,g⟩
 ·exact g.elim
open Classical in
theorem Qr4 (hu:X.A.units+64<cLine):OpD X (compareOp .In) dIn2:=by
 refine ⟨_,Qrx hu,λH a b x y F1 F2 k Q ra rb g q=>?_⟩
 obtain ⟨xs,ys,rfl,h0,h1,h2,g1,g2⟩:=Ql6 g
 obtain ⟨p,zs,rfl,e,r⟩:=rb.iTup
 obtain ⟨v1,B1,hv1,r1,_⟩:=r.get (i:=0) rfl
 obtain ⟨v2,B2,hv2,r2,_⟩:=r.get (i:=1) rfl
 have hl:=r.length
 obtain ⟨a1,ws1,G1,rfl,_,_,_⟩:=id r1.iLst
 obtain ⟨a2,ws2,G2,rfl,_,_,_⟩:=id r2.iLst
 have hz:zs=[.ref a1,.ref a2]:=by
  match zs,hl,hv1,hv2 with
  | [u,v],_,h,h'=>simp at h h';rw [h,h']
 subst hz
 refine ⟨p,a1,a2,Jn a,Jn (.lst xs),Jn (.lst ys),9,rfl,.of e,ra.dv 9 h0,r1.dv 9 h1,r2.dv 9 h2,Vu _ _ h0,Vu _ _ h1,Vu _ _ h2,Nat.le_refl _,?_⟩
 by_cases c1:a=.lst xs
 ·have:(decide (Jn (.lst xs)=Jn a) || decide (Jn (.lst ys)=Jn a))=true:=by rw [c1];simp
  rw [this]
  exact q _ _ _ _ (.flat (.bl _)) (g1 (.inl c1))
 ·by_cases c2:a=.lst ys
  ·have:(decide (Jn (.lst xs)=Jn a) || decide (Jn (.lst ys)=Jn a))=true:=by rw [c2];simp
   rw [this]
   exact q _ _ _ _ (.flat (.bl _)) (g1 (.inr c2))
  ·have:(decide (Jn (.lst xs)=Jn a) || decide (Jn (.lst ys)=Jn a))=false:=by
    rw [Bool.or_eq_false_iff]
    exact ⟨decide_eq_false λz=>c1 (Ur 9 9 _ _ h1 h0 z).symm,decide_eq_false λz=>c2 (Ur 9 9 _ _ h2 h0 z).symm⟩
   rw [this]
   exact q _ _ _ _ (.flat (.bl _)) (g2 c1 c2)
theorem Qf0 {k:Nat} (hr:Room k A):A.units<cLine:=Nat.lt_of_le_of_lt (Nat.le_add_right _ 64) hr.units
end PV
namespace L2
open PySem PySem.Spec PyProof.Rows
open Builtin.Str (occurrences strSub subAt strSliceIndices)
def cutS (y:Str) (a b:Nat):Str:=⟨((y.cps.toList.drop a).take (b-a)).toArray⟩
theorem Qh1 (ha:a<=y.length) (hab:a<=b):Txt.slice y (some (a:Int)) (some (b:Int))=cutS y a b:=by
 have hs:y.cps.toList.length=y.length:=Array.length_toList
 have ok:∀b:Nat,a<=b->b<=y.length->Txt.slice y (some (a:Int)) (some (b:Int))=cutS y a b:=λb h1 h=>by
  show StrLaws.sliceText y (some (a:Int)) (some (b:Int))=_
  rw [StrLaws.sliceText_plain ⟨by omega,by omega,by omega⟩]
  unfold cutS
  rw [show ((b:Int)-(a:Int)).toNat=b-a by omega,Int.toNat_natCast]
 by_cases h:b<=y.length
 ·exact ok b hab h
 ·have e:strSliceIndices (some (a:Int)) (some (b:Int)) 1 y.length=strSliceIndices (some (a:Int)) (some (y.length:Int)) 1 y.length:=by
   unfold strSliceIndices
   simp only [show ¬((a:Int)<0) by omega,show ¬((b:Int)<0) by omega,show ¬((y.length:Int)<0) by omega,if_false,show ((1:Int) > 0)=True by simp,if_true]
   have:min (b:Int) (y.length:Int)=min (y.length:Int) (y.length:Int):=by omega
   rw [this]
  have e2:Txt.slice y (some (a:Int)) (some (b:Int))=Txt.slice y (some (a:Int)) (some (y.length:Int)):=by
   unfold Txt.slice
   rw [e]
  rw [e2,ok _ ha (Nat.le_refl _)]
  unfold cutS
  rw [List.take_of_length_le (by rw [List.length_drop];omega),List.take_of_length_le (by rw [List.length_drop];omega)]
def rSlC:V->Option Int->Option Int->Hp->VK->Prop:=λx lo hi H Q=>∃(y:Str) (a b:Nat),x=.str y/\lo=some (a:Int)/\hi=some (b:Int)/\a<=y.length/\a<=b/\y.length<=sizeLine/\Q (.str (cutS y a b)) H
theorem Qn7:SlR X rSlC:=by
 intro pins s σ H x v vl vu lo hi sl Q I rx hs pl pu h
 obtain ⟨y,a,b,rfl,rfl,rfl,ha,hab,hz,q⟩:=h
 obtain ⟨t,rfl⟩:=rx
 cases pl with
 | int i tk =>
  cases pu with
  | int j tj =>
   refine ⟨"str",_,F.slot_str_getitem.lookup,typeIs_str _ _ _,wpAny_getItem_str_slice (l:=some ((a:Int),tk)) (u:=some ((b:Int),tj)) (st:=none) hs rfl ?_⟩
   refine post_val_or_str ⟨Nat.le_trans (Txt.slice_le y (some (a:Int)) (some (b:Int))) hz,λt' k=>?_⟩
   refine ⟨.str (cutS y a b),H,I.tok _,⟨t',?_⟩,q⟩
   rw [← Qh1 ha hab]
   rfl
end L2
namespace PV
open PySem PySem.Spec L2
section
variable {m1 m3:Bool} {w:WE} {p2:Pos}
def dSlC:D->Option Int->Option Int->(D->Prop)->Prop
 | .str y,some i,some j,k=>0<=i/\i<=(y.length:Int)/\i<=j/\y.length<=sizeLine/\k (.str (cutS y i.toNat j.toNat))
 | _,_,_,_=>False
def wSlC (w:WE) (wl wh:WO):WE:=λρ Q=>w ρ λd ρ1=>wl ρ1 λlo ρ2=>wh ρ2 λhi ρ3=>dSlC d lo hi λd'=>Q d' ρ3
theorem Qs5 {wh:WO} (he:EV X T m1 o1 e w) (hl:OV X T m2 lo wl) (hh:OV X T m3 hi wh):EV X T (m1 || m2 || m3) true (.Subscript e (.Slice lo hi none p2) pos) (wSlC w wl wh):=by
 obtain ⟨te,pe,ge⟩:=he
 obtain ⟨tl,pl,gl⟩:=hl
 obtain ⟨th,ph,gh⟩:=hh
 refine ⟨_,Xb Qn7 pe pl ph,λz R σ H W ρ Q Q' s hw k=>?_⟩
 refine ge z R σ H W ρ _ _ s hw λv H1 W1 d ρ1 F p q=>?_
 refine gl z R σ H1 W1 ρ1 _ _ p.sr q λlo H2 W2 ρ2 p2 q2=>?_
 refine gh z R σ H2 W2 ρ2 _ _ p2.sr q2 λhi H3 W3 ρ3 p3 q3=>?_
 match d,lo,hi,p.rep,q3 with
 | .str y,some i,some j,r,q3 =>
  obtain ⟨h0,h1,h2,h3,q3⟩:=q3
  cases r
  refine ⟨y,i.toNat,j.toNat,rfl,by rw [Int.toNat_of_nonneg h0],by rw [Int.toNat_of_nonneg (by omega)],by omega,by omega,h3,k _ H3 W3 _ ρ3 [] (Post.fin p3.sr ((p.fr.trans p2.fr).trans p3.fr) (λh=>?_) (Same.refl H3) (.str _) (by simp) (λb m=>nomatch m)) q3⟩
  rw [Bool.or_eq_false_iff,Bool.or_eq_false_iff] at h
  obtain ⟨a1,a2,a3⟩:=p.calm h.1.1
  obtain ⟨b1,b2,b3⟩:=p2.calm h.1.2
  obtain ⟨c1,c2,c3⟩:=p3.calm h.2
  exact ⟨a1.trans (b1.trans c1),c2.trans (b2.trans a2),c3.trans (b3.trans a3)⟩
end
section
variable {i j:Int}
theorem Qol:dSlC (.str x) (some i) (some j) k=(0<=i/\i<=(x.length:Int)/\i<=j/\x.length<=sizeLine/\k (.str (cutS x i.toNat j.toNat))):=rfl
end
end PV
variable {p:Nat} {z:PySem.Str} {C_Level C_Single C_Upright:PySem.Addr}
namespace K61
open PySem PySem.Spec L2 PV P58
open P61 (El)
open S03 (Qej G9 Qbw V8 Qfm Qig)
open PyProof.Rows (envOfC)
def top (i:Nat):Stmt:=PySem.Challenge.pw_tanglehouse_k61_whole_any_text_of_a_part.main.body.getD i (.Pass ⟨0,0,0,0⟩)
def tbF (x:Str):Option Bool:=if x=(Str.ofString "NoText") then some false else none
theorem Qnw {k:Bool} (h:tbF x=some k):(x=(Str.ofString "NoText")/\k=false):=by
 unfold tbF at h
 split at h
 ·rename_i h1;exact ⟨h1,by cases h;rfl⟩
 ·cases h
def Zs (x:Str):Option Bool:=if x=(Str.ofString "NoText") then some true else none
theorem Qd9 {k:Bool} (h:Zs x=some k):(x=(Str.ofString "NoText")/\k=true):=by
 unfold Zs at h
 split at h
 ·rename_i h1;exact ⟨h1,by cases h;rfl⟩
 ·cases h
def J7 (x:Str):Option Bool:=if x=(Str.ofString "NoText") then some true else none
theorem Xk {k:Bool} (h:J7 x=some k):(x=(Str.ofString "NoText")/\k=true):=by
 unfold J7 at h
 split at h
 ·rename_i h1;exact ⟨h1,by cases h;rfl⟩
 ·cases h
def isR (x:Str):Bool:=decide (x=(Str.ofString "NoText"))
theorem Qu9 (h:isR x=true):x=(Str.ofString "NoText"):=by
 simpa [isR] using h
def Qlw (x:Str):Bool:=decide (x=(Str.ofString "NoText"))
abbrev J0:Stmt:=Qti (top 5)
def isC (x:Str):Bool:=decide (x=(Str.ofString "Level")) || decide (x=(Str.ofString "Upright")) || decide (x=(Str.ofString "Single")) || decide (x=(Str.ofString "Beside")) || decide (x=(Str.ofString "Above")) || decide (x=(Str.ofString "Turned")) || decide (x=(Str.ofString "Mirrored"))
def G6 (x:Str):Bool:=true
structure Bn (K:PySem.W.Frag) (mg:Str->Option Value):Prop where
 nb_all:mg "all" = none
 nb_int:mg "int" = none
 nb_isinstance:mg "isinstance" = none
 nb_len:mg "len" = none
 nb_range:mg "range" = none
 nb_str:mg "str" = none
 c_MOST_OPEN:∃t:Tok,mg "MOST_OPEN" = some (.int 8 t)
 ob:ObjD K
 fl:∀(i:Nat) (x:Str) (C:Addr),isC x=true->atN K x C->ClsD K C/\Jg K C (fldS i)
 ec:∀x C,isC x=true->atN K x C->EqC K C
 d_Part:∃D,mg "Part" = some (.ref D)/\(∀x C,isC x=true->atN K x C->ClsD K C/\PySem.W.kitOne K (.ref C) (.ref D)=some (G6 x))/\PySem.W.kitOne K (.type "str") (.ref D)=some false
 h_TangleError:∃C0,mg "TangleError" = some (.ref C0)/\∀x C,isR x=true->atN K x C->PySem.W.exmOne K (.ref C) (.ref C0)=some true
 i_NoWeb:∃C,mg "NoWeb" = some (.ref C)/\∀x k R,tbF x=some k->atN K x R->ExcQ K R/\PySem.W.kitOne K (.ref R) (.ref C)=some k
 i_Odd:∃C,mg "Odd" = some (.ref C)/\∀x k R,tbF x=some k->atN K x R->ExcQ K R/\PySem.W.kitOne K (.ref R) (.ref C)=some k
 i_NoText:∃C,mg "NoText" = some (.ref C)/\∀x k R,Zs x=some k->atN K x R->ExcQ K R/\PySem.W.kitOne K (.ref R) (.ref C)=some k
 i_NotFlat:∃C,mg "NotFlat" = some (.ref C)/\∀x k R,tbF x=some k->atN K x R->ExcQ K R/\PySem.W.kitOne K (.ref R) (.ref C)=some k
 i_ValueError:mg "ValueError" = none/\∀x k R,J7 x=some k->atN K x R->ExcQ K R/\PySem.W.kitOne K (.ref R) (.type "ValueError")=some k
 a_at:∀x C,Qlw x=true->atN K x C->ExcC K C/\ExcQ K C/\PySem.W.findIn K (.ref C) "at" = some none
def Qy:GI:=λds k=>∃c n b,ds=[rowD c n,.int b]/\0<b/\b<1073741824/\0<=n/\n<=1000000/\∀c' r,0<=r->r<b->k (.int r) (rowD c' (n+1))
abbrev Yt:Stmt:=top 43
theorem Zl:FnScope ["_law_row","_law_base","_law_rest","_law_number"] ["_law_row","_law_base"] (Qa Yt):=⟨rfl,rfl,rfl,by decide +kernel,rfl,by decide +kernel,by decide +kernel⟩
def Xn:Tg:={ own:=λi=>i == 0 || i == 2 || i == 3,io:=[0] }
def Xh:WS:=(wSeq (Qe5 0 (wBin Q9 (wBin dIx (wVar 0) (wC (.int 1))) (wC (.int 1))) (wC (.int 1)))
 (wSeq (wIf (wBl (wBin (dCmp λi j=>decide (j<i)) (wBin dIx (wVar 0) (wC (.int 0))) (wBin dPow (wC (.int 10)) (wC (.int 18))))) (wSeq (wSet 2 (wBin dSub (wBin dIx (wVar 0) (wC (.int 0))) (wBin dPow (wC (.int 10)) (wC (.int 18)))))
 (wSeq (Qe5 0 (wBin Q9 (wBin dPow (wC (.int 10)) (wC (.int 18))) (wBin dDiv (wVar 2) (wVar 1))) (wC (.int 0)))
 (wRet (wBin dMod (wVar 2) (wVar 1))))) Qz)
 (wSeq (wSet 3 (wBin dMod (wBin Q9 (wBin Q9 (wBin dMul (wBin dIx (wVar 0) (wC (.int 0))) (wC (.int 48271))) (wBin dMul (wBin dMul (wC (.int 7919)) (wBin dIx (wVar 0) (wC (.int 1)))) (wBin dIx (wVar 0) (wC (.int 1))))) (wC (.int 11))) (wC (.int 2147483629))))
 (wSeq (wSet 3 (wBin dMod (wBin Q9 (wBin Q9 (wBin dMul (wVar 3) (wVar 3)) (wBin dMul (wC (.int 69621)) (wBin dIx (wVar 0) (wC (.int 1))))) (wC (.int 7))) (wC (.int 2147483587))))
 (wRet (wBin dMod (wBin dDiv (wVar 3) (wC (.int 5))) (wVar 1)))))))
theorem Qe0 (B:Bn K mg):∀(cdv:Value) (A:Around) (outer:List PySem.Env) (s:Shared) (H:Hp) (E:XK),Room 0 (A.deeper (envOfC "_law_take" (Qa Yt) s.heap.objs.size f cdv))->SVs (cxOf CX0 P w K mg base ["_law_row","_law_base","_law_rest","_law_number"] "_law_take" (Qa Yt) f cdv A outer s H E).nox Xn (Qu Yt) Xh:=λcdv A outer s H E hr =>
  (Qe (Qfb (i:=0) (Yk hr) (Qt Qp (Y3 (Yw (Yk hr)) (Qc 0) Qf) Qf) Qf)
  (Qe (Yf (Q3 Qle (Y3 (Yw (Yk hr)) (Qc 0) Qf) (Qt Qiw Qf Qf)) (Qe (Q4 (i:=2) (Qt X2 (Y3 (Yw (Yk hr)) (Qc 0) Qf) (Qt Qiw Qf Qf)) Zl.nd)
  (Qe (Qfb (i:=0) (Yk hr) (Qt Qp (Qt Qiw Qf Qf) (Qt Qm5 (Qc 2) (Qc 1))) Qf)
  (Qj (Q5 (Qt Qdc (Qc 2) (Qc 1)))))) Q1)
  (Qe (Q4 (i:=3) (Qt Qdc (Qt Qp (Qt Qp (Qt Qdb (Y3 (Yw (Yk hr)) (Qc 0) Qf) Qf) (Qt Qdb (Qt Qdb Qf (Y3 (Yw (Yk hr)) (Qc 0) Qf)) (Y3 (Yw (Yk hr)) (Qc 0) Qf))) Qf) Qf) Zl.nd)
  (Qe (Q4 (i:=3) (Qt Qdc (Qt Qp (Qt Qp (Qt Qdb (Qc 3) (Qc 3)) (Qt Qdb Qf (Y3 (Yw (Yk hr)) (Qc 0) Qf))) Qf) Qf) Zl.nd)
  (Qj (Q5 (Qt Qdc (Qt Qm5 (Qc 3) Qf) (Qc 1))))))))
theorem Qda (F:Fun K "_law_take" "_law_take" Yt f fd) (B:Bn K mg):FnOk P w K mg base CX0 1 f fd ["_law_row","_law_base"] (spI K 0 Qy):=by
 refine Qpt (T:=Xn) F Zl rfl rfl (λds kk h=>?_) (Qe0 B) (λds kk h=>?_)
 ·obtain ⟨c,n,b,rfl,_⟩:=h
  exact ⟨rfl,_,rfl,rfl⟩
 ·obtain ⟨c,n,b,rfl,hb,hb2,hn,hn2,k⟩:=h
  have hn1:-18446744073709551616<n+1:=by omega
  have hn2':n+1<18446744073709551616:=by omega
  simp only [Xh,wSeq,Qe5,wBin,env0,rowD,List.map_cons,List.map_nil,List.length_cons,List.length_nil,Nat.zero_add,Nat.reduceAdd,List.replicate,List.cons_append,List.nil_append,wC,wIf,wSet,wRet,Jf,Int.reduceLE,Int.reduceNeg,Int.reduceLT,Qqw,Int.reduceToNat,Int.reducePow,Qz,r_bl,look,Option.isSome_some,List.set_cons_zero,List.set_cons_succ,Qm,true_and,Qqu,Nat.lt_add_one,Qu7,List.length_set,Nat.zero_lt_succ,Qu8,Zo,V7,Qe3,Qkl,List.getElem?_cons_zero,Qn,Bool.and_true,Qgs,hb,Qib,hb2,Qmq,Vi,D.pure,Bool.true_and,List.getElem?_cons_succ,Qqx,Qgt,Ji,Qmp,hn1,hn2']
  split
  ·exact k _ _ (Int.emod_nonneg _ (by omega)) (Int.emod_lt_of_pos _ hb)
  ·have hx:-18446744073709551616<(c*48271+7919*(n+1)*(n+1)+11) % 2147483629/\(c*48271+7919*(n+1)*(n+1)+11) % 2147483629<18446744073709551616:=by omega
   generalize (c*48271+7919*(n+1)*(n+1)+11) % 2147483629=x at hx
   simp only [Int.reduceNeg,hx.1,hx.2,Qmp,Vi,Int.reduceLT,Qib,Qmq,hb]
   exact k _ _ (Int.emod_nonneg _ (by omega)) (Int.emod_lt_of_pos _ hb)
def lfC:Nat->Str
 | 0=>Str.ofString "Single"
 | 1=>Str.ofString "Level"
 | _=>Str.ofString "Upright"
def unC:Bool->Str
 | false=>Str.ofString "Turned"
 | true=>Str.ofString "Mirrored"
def biC:Bool->Str
 | false=>Str.ofString "Beside"
 | true=>Str.ofString "Above"
def oD:Tr->D
 | .lf k=>.ist (lfC k) []
 | .un b t=>.ist (unC b) [oD t]
 | .bi b t u=>.ist (biC b) [oD t,oD u]
theorem Gd:∀t,(oD t).pure=true
 | .lf _=>rfl
 | .un _ _=>rfl
 | .bi _ _ _=>rfl
theorem Qtl (F:Fun K x x st f fd) (hm:mg x=some (.ref f)) (hk:PySem.W.keepIn K (.ref f)=true) (hb:Zi K fd ps []):Cal P w K mg base x 0 ps (spI K p λ_ _=>False) :=
 ⟨f,fd,⟨λvs H Q E h=>by obtain ⟨ds,_,_,_,_,h,_⟩:=h;exact h.elim,λA outer s H args us vs Q E _ _ _ _ h=>by obtain ⟨ds,_,_,_,_,h,_⟩:=h;exact h.elim⟩,hm,hk,hb⟩
def Qma (t:Tr):Str:=match t with
 | .lf k=>lfC k
 | .un b _=>unC b
 | .bi b _ _=>biC b
theorem Yo (i:Nat) {p:Str->Str->Prop} (h0:p (lfC 0) (lfW 0)) (h1:p (lfC 1) (lfW 1)) (h2:p (lfC 2) (lfW 2)):p (lfC i) (lfW i):=match i with
 | 0=>h0
 | 1=>h1
 | _+2=>h2
def eD:El->D
 | .w x=>.str x
 | .o t=>oD t
theorem Ue (e:El):(eD e).pure=true:=by
 cases e with
 | w x=>rfl
 | o t=>exact Gd t
theorem Uy:∀row:List El,Qn (row.map eD)=true
 | []=>rfl
 | e::r=>by
  show ((eD e).pure && Qn (r.map eD))=true
  rw [Uy r,Ue e];rfl
theorem Qfu:∀t,∃ds,oD t=.ist (Qma t) ds/\isC (Qma t)=true/\ds.length<=2
 | .lf i=>⟨[],rfl,Yo i (p:=λx _=>isC x=true) (by decide +kernel) (by decide +kernel) (by decide +kernel),Nat.zero_le _⟩
 | .un b t=>⟨_,rfl,by show isC (unC b)=true;cases b <;> decide +kernel,(by decide:1<=2)⟩
 | .bi b t u=>⟨_,rfl,by show isC (biC b)=true;cases b <;> decide +kernel,Nat.le_refl 2⟩
def Yd:GA:=λds k=>∃x,ds=[.str x]/\k (eD (P61.pwE x))
abbrev Jv:Stmt:=top 33
theorem Xp:FnScope ["word"] ["word"] (Qa Jv):=⟨rfl,rfl,rfl,by decide +kernel,rfl,by decide +kernel,by decide +kernel⟩
def Vy:Tg:={ own:=λi=>false,io:=[] }
def Vw:WS:=(wSeq (wIf (wBl (wBin dEq (wVar 0) (wC (.str (Str.ofString "level"))))) (wRet (wC (.ist (Str.ofString "Level") []))) Qz)
 (wSeq (wIf (wBl (wBin dEq (wVar 0) (wC (.str (Str.ofString "upright"))))) (wRet (wC (.ist (Str.ofString "Upright") []))) Qz)
 (wSeq (wIf (wBl (wBin dEq (wVar 0) (wC (.str (Str.ofString "single"))))) (wRet (wC (.ist (Str.ofString "Single") []))) Qz)
 (wRet (Zr (wVar 0))))))
theorem Qay (B:Bn K mg) (K_Level:ClN K mg "Level" C_Level) (J_Level:PySem.W.findIn K (.ref C_Level) "__init__" = some (some (.builtin "object.__init__"))) (K_Single:ClN K mg "Single" C_Single) (J_Single:PySem.W.findIn K (.ref C_Single) "__init__" = some (some (.builtin "object.__init__"))) (K_Upright:ClN K mg "Upright" C_Upright) (J_Upright:PySem.W.findIn K (.ref C_Upright) "__init__" = some (some (.builtin "object.__init__"))):∀(cdv:Value) (A:Around) (outer:List PySem.Env) (s:Shared) (H:Hp) (E:XK),Room 0 (A.deeper (envOfC "part_or_word" (Qa Jv) s.heap.objs.size f cdv))->SVs (cxOf CX0 P w K mg base ["word"] "part_or_word" (Qa Jv) f cdv A outer s H E).nox Vy (Qu Jv) Vw:=λcdv A outer s H E hr =>
  (Qe (Yf (Q3 (Zj hr.units) (Qc 0) Qk) (Qj (Q5 (Qjv K_Level J_Level))) Q1)
  (Qe (Yf (Q3 (Zj hr.units) (Qc 0) Qk) (Qj (Q5 (Qjv K_Upright J_Upright))) Q1)
  (Qe (Yf (Q3 (Zj hr.units) (Qc 0) Qk) (Qj (Q5 (Qjv K_Single J_Single))) Q1)
  (Qj (Q5 (Zg (Qc 0)))))))
theorem Xz (F:Fun K "part_or_word" "part_or_word" Jv f fd) (B:Bn K mg) (K_Level:ClN K mg "Level" C_Level) (J_Level:PySem.W.findIn K (.ref C_Level) "__init__" = some (some (.builtin "object.__init__"))) (K_Single:ClN K mg "Single" C_Single) (J_Single:PySem.W.findIn K (.ref C_Single) "__init__" = some (some (.builtin "object.__init__"))) (K_Upright:ClN K mg "Upright" C_Upright) (J_Upright:PySem.W.findIn K (.ref C_Upright) "__init__" = some (some (.builtin "object.__init__"))) :
  FnOk P w K mg base CX0 1 f fd ["word"] (spR K Yd):=by
 refine U3 (T:=Vy) F Xp rfl (by decide) (λds kk h=>?_) (Qay B K_Level J_Level K_Single J_Single K_Upright J_Upright) (λds kk h=>?_)
 ·obtain ⟨x,rfl,_⟩:=h
  rfl
 ·obtain ⟨x,rfl,k⟩:=h
  simp only [Vw,wSeq,wIf,env0,List.map_cons,List.map_nil,List.length_cons,List.length_nil,Nat.zero_add,List.cons_append,List.nil_append,wRet,wC,Qz,Zr,Jf,r_bl,wBin,look,Qm,D.pure,true_and,Qid,Ji]
  unfold P61.pwE at k
  by_cases h1:x=Str.ofString "level"
  ·simp only [h1,decide_true,reduceIte] at k ⊢;exact k
  ·simp only [h1,decide_false,Bool.false_eq_true,reduceIte] at k ⊢
   by_cases h2:x=Str.ofString "upright"
   ·simp only [h2,decide_true,reduceIte] at k ⊢;exact k
   ·simp only [h2,decide_false,Bool.false_eq_true,reduceIte] at k ⊢
    by_cases h3:x=Str.ofString "single"
    ·simp only [h3,decide_true,reduceIte] at k ⊢;exact k
    ·simp only [h3,decide_false,Bool.false_eq_true,reduceIte] at k ⊢;exact k
def isO:El->Bool
 | .w _=>false
 | .o _=>true
def Js:GA:=λds k=>∃row:List El,ds=[.lst (row.map eD)]/\row.length<=100000/\k (.bl (row.all isO))
abbrev Yg:Stmt:=top 34
theorem Qcu:FnScope ["things"] ["things"] (Qa Yg):=⟨rfl,rfl,rfl,by decide +kernel,rfl,by decide +kernel,by decide +kernel⟩
def Xl:Tg:={ own:=λi=>false,io:=[] }
def Xf:WS:=(wRet (Q0 dAll (Qd (Qhq (Qcj (wVar 0)) wAll (wIsC isC G6 (wVar 0)) []) wNil)))
theorem Qey (B:Bn K mg):∀(cdv:Value) (A:Around) (outer:List PySem.Env) (s:Shared) (H:Hp) (E:XK),Room 0 (A.deeper (envOfC "are_parts" (Qa Yg) s.heap.objs.size f cdv))->SVs (cxOf CX0 P w K mg base ["things"] "are_parts" (Qa Yg) f cdv A outer s H E).nox Xl (Qu Yg) Xf:=λcdv A outer s H E hr =>
  (Qj (Q5 (Yv (Qtk rfl) B.nb_all Qtn (Qb (Qf4 (Qeu [] (Qje (Qc 0)) (λ_ _ _ _ _=>Qng) (λ_ _ _ _ _=>(Qs9 (isC:=isC) (sub:=G6) B.nb_isinstance B.ob B.d_Part.choose_spec.1 B.d_Part.choose_spec.2.1 B.d_Part.choose_spec.2.2 (Qc 0)))) (Xd (Qa Yg) ["things"] (by decide +kernel))) Qh))))
def isB:D->D
 | .ist _ _=>.bl true
 | _=>.bl false
theorem Qva (e:El):isB (eD e)=.bl (isO e):=by
 cases e with
 | w x=>rfl
 | o t =>
  obtain ⟨ds,h,_⟩:=Qfu t
  show isB (oD t)=_
  rw [h];rfl
theorem Qc8 (F:Fun K "are_parts" "are_parts" Yg f fd) (B:Bn K mg):FnOk P w K mg base CX0 1 f fd ["things"] (spR K Js):=by
 refine U3 (T:=Xl) F Qcu rfl (by decide) (λds kk h=>?_) (Qey B) (λds kk h=>?_)
 ·obtain ⟨row,rfl,_⟩:=h
  rfl
 ·obtain ⟨row,rfl,hl,k⟩:=h
  simp only [Xf,wRet,Q0,Qd,env0,List.map_cons,List.map_nil,List.length_cons,List.length_nil,Nat.zero_add,List.cons_append,List.nil_append,wNil,Qie,Qkz,Jf,look,Qm,Qh9]
  refine Qdw isB (by rw [List.length_map];exact Nat.lt_of_le_of_lt hl (by decide)) (λd hd Q' hQ=>?_) ?_
  ·obtain ⟨e,_,rfl⟩:=List.mem_map.mp hd
   simp only [wIsC,blkE,Jf,look,Qm]
   cases e with
   | w x=>exact hQ
   | o t =>
    obtain ⟨ds,e,h1,_⟩:=Qfu t
    simp only [blkE,eD,e] at hQ ⊢
    exact ⟨h1,hQ⟩
  ·refine ⟨row.map isO,?_,?_⟩
   ·rw [List.map_map,List.map_map]
    exact List.map_congr_left λe _=>Qva e
   ·rw [List.all_map];exact k
abbrev nNT:Str:=Str.ofString "NoText"
def nt (i:Nat):D:=.obj nNT [(Str.ofString "at",(i:Int))]
theorem sm0:(0:Int).natAbs.log2<1920/\(toString (0:Int)).length<=700:=by decide +kernel
theorem eqW:dEqI isC (eD (.w x)) (.str z) k=k (.bl (decide (x=z))):=rfl
theorem eqO:dEqI isC (eD (.o t)) (.str z) k=k (.bl false):=by
 obtain ⟨ds,h,h1,_⟩:=Qfu t
 show dEqI isC (oD t) (.str z) k=_
 rw [h]
 show (isC (Qma t)=true/\k (.bl false))=_
 rw [h1];simp
def mk1 (e:El) (t:Tr):Option Tr:=P61.mkE [e,.o t]
def Yq:GX:=λds k kx=>∃e t,ds=[eD e,oD t]/\(∀u,mk1 e t=some u->k (oD u))/\(mk1 e t=none->kx (nt 0))
abbrev Q8:Stmt:=top 35
theorem Qap:FnScope ["word","one"] ["word","one"] (Qa Q8):=⟨rfl,rfl,rfl,by decide +kernel,rfl,by decide +kernel,by decide +kernel⟩
def Qw:Tg:={ own:=λi=>false,io:=[] }
def Ui:WS:=(wSeq (wIf (wBl (wBin (dEqI isC) (wVar 0) (wC (.str (Str.ofString "turned"))))) (wRet (wMk (Str.ofString "Turned") 1 (Qd (wVar 1) wNil))) Qz)
 (wSeq (wIf (wBl (wBin (dEqI isC) (wVar 0) (wC (.str (Str.ofString "mirrored"))))) (wRet (wMk (Str.ofString "Mirrored") 1 (Qd (wVar 1) wNil))) Qz)
 (Jd (Str.ofString "NoText") (Str.ofString "at") (Qd (wC (.int 0)) wNil))))
theorem Qcf (B:Bn K mg) (I_Mirrored:IniN P w K mg base "Mirrored" 1 1) (I_Turned:IniN P w K mg base "Turned" 1 1) (I_NoText:Z9 P w K mg base "NoText" "at" 1):∀(cdv:Value) (A:Around) (outer:List PySem.Env) (s:Shared) (H:Hp) (E:XK) (XE:D->St->Hp->Prop),Room 2 (A.deeper (envOfC "made_of_one" (Qa Q8) s.heap.objs.size f cdv))->(∀x C,atN K x C->Gi (cxOf (CXD P w base) P w K mg base ["word","one"] "made_of_one" (Qa Q8) f cdv A outer s H E) ⟨Qw.own,Qw.io,XE⟩ x C)->(∀x attr C,atN K x C->Z4 (cxOf (CXD P w base) P w K mg base ["word","one"] "made_of_one" (Qa Q8) f cdv A outer s H E) ⟨Qw.own,Qw.io,XE⟩ x C attr)->Vn (cxOf (CXD P w base) P w K mg base ["word","one"] "made_of_one" (Qa Q8) f cdv A outer s H E) ⟨Qw.own,Qw.io,XE⟩->Qbg (cxOf (CXD P w base) P w K mg base ["word","one"] "made_of_one" (Qa Q8) f cdv A outer s H E) ⟨Qw.own,Qw.io,XE⟩->SVs (cxOf (CXD P w base) P w K mg base ["word","one"] "made_of_one" (Qa Q8) f cdv A outer s H E) ⟨Qw.own,Qw.io,XE⟩ (Qu Q8) Ui:=λcdv A outer s H E XE hr hX hXI hP hH =>
  (Qe (Yf (Q3 (Qft (isC:=isC) B.ec (Qf0 hr)) (Qc 0) Qk) (Qj (Q5 (Qf3 I_Turned (hr.mono (by decide)) (Qb (Qc 1) Qh)))) Q1)
  (Qe (Yf (Q3 (Qft (isC:=isC) B.ec (Qf0 hr)) (Qc 0) Qk) (Qj (Q5 (Qf3 I_Mirrored (hr.mono (by decide)) (Qb (Qc 1) Qh)))) Q1)
  (Qj (Y8 I_NoText (hr.mono (by decide)) (λC h=>hXI _ _ C h) (Qb Qf Qh)))))
theorem Qas (F:Fun K "made_of_one" "made_of_one" Q8 f fd) (B:Bn K mg) (I1:IniN P w K mg base "Mirrored" 1 1) (I2:IniN P w K mg base "Turned" 1 1) (I3:Z9 P w K mg base "NoText" "at" 1):FnOk P w K mg base (CXD P w base) 3 f fd ["word","one"] (spXD K Yq):=by
 refine Qjn (T:=Qw) F Qap rfl (by decide) (λds kk kx h=>?_) (Qcf B I1 I2 I3) (λds kk kx h=>?_)
 ·obtain ⟨e,t,rfl,_⟩:=h
  rfl
 ·obtain ⟨e,t,rfl,h1,h2⟩:=h
  have hp:=Gd t
  simp only [Ui,wSeq,wIf,env0,List.map_cons,List.map_nil,List.length_cons,List.length_nil,Nat.zero_add,Nat.reduceAdd,List.cons_append,List.nil_append,wRet,wMk,Qd,wNil,Qn,Bool.and_true,true_and,Jf,Qz,Jd,wC,r_bl,wBin,look,Qm]
  cases e with
  | o t' =>
   simp only [eqO,Ji,Bool.false_eq_true,reduceIte]
   exact ⟨sm0,h2 rfl⟩
  | w x =>
   simp only [eqW,Ji]
   by_cases c1:x=Str.ofString "turned"
   ·rw [if_pos (decide_eq_true c1)]
    exact ⟨hp,h1 (.un false t) (if_pos c1)⟩
   ·rw [if_neg (by simpa using c1)]
    by_cases c2:x=Str.ofString "mirrored"
    ·rw [if_pos (decide_eq_true c2)]
     exact ⟨hp,h1 (.un true t) ((if_neg c1).trans (if_pos c2))⟩
    ·rw [if_neg (by simpa using c2)]
     exact ⟨sm0,h2 ((if_neg c1).trans (if_neg c2))⟩
def mk2 (t:Tr) (e:El) (u:Tr):Option Tr:=P61.mkE [.o t,e,.o u]
def Yp:GX:=λds k kx=>∃t e u,ds=[oD t,eD e,oD u]/\(∀v,mk2 t e u=some v->k (oD v))/\(mk2 t e u=none->kx (nt 0))
abbrev Q7:Stmt:=top 36
theorem Qao:FnScope ["one","word","other"] ["one","word","other"] (Qa Q7):=⟨rfl,rfl,rfl,by decide +kernel,rfl,by decide +kernel,by decide +kernel⟩
def Qv:Tg:={ own:=λi=>false,io:=[] }
def Uh:WS:=(wSeq (wIf (wBl (wBin (dEqI isC) (wVar 1) (wC (.str (Str.ofString "beside"))))) (wRet (wMk (Str.ofString "Beside") 2 (Qd (wVar 0) (Qd (wVar 2) wNil)))) Qz)
 (wSeq (wIf (wBl (wBin (dEqI isC) (wVar 1) (wC (.str (Str.ofString "above"))))) (wRet (wMk (Str.ofString "Above") 2 (Qd (wVar 0) (Qd (wVar 2) wNil)))) Qz)
 (Jd (Str.ofString "NoText") (Str.ofString "at") (Qd (wC (.int 0)) wNil))))
theorem Qce (B:Bn K mg) (I_Above:IniN P w K mg base "Above" 2 1) (I_Beside:IniN P w K mg base "Beside" 2 1) (I_NoText:Z9 P w K mg base "NoText" "at" 1):∀(cdv:Value) (A:Around) (outer:List PySem.Env) (s:Shared) (H:Hp) (E:XK) (XE:D->St->Hp->Prop),Room 2 (A.deeper (envOfC "made_of_two" (Qa Q7) s.heap.objs.size f cdv))->(∀x C,atN K x C->Gi (cxOf (CXD P w base) P w K mg base ["one","word","other"] "made_of_two" (Qa Q7) f cdv A outer s H E) ⟨Qv.own,Qv.io,XE⟩ x C)->(∀x attr C,atN K x C->Z4 (cxOf (CXD P w base) P w K mg base ["one","word","other"] "made_of_two" (Qa Q7) f cdv A outer s H E) ⟨Qv.own,Qv.io,XE⟩ x C attr)->Vn (cxOf (CXD P w base) P w K mg base ["one","word","other"] "made_of_two" (Qa Q7) f cdv A outer s H E) ⟨Qv.own,Qv.io,XE⟩->Qbg (cxOf (CXD P w base) P w K mg base ["one","word","other"] "made_of_two" (Qa Q7) f cdv A outer s H E) ⟨Qv.own,Qv.io,XE⟩->SVs (cxOf (CXD P w base) P w K mg base ["one","word","other"] "made_of_two" (Qa Q7) f cdv A outer s H E) ⟨Qv.own,Qv.io,XE⟩ (Qu Q7) Uh:=λcdv A outer s H E XE hr hX hXI hP hH =>
  (Qe (Yf (Q3 (Qft (isC:=isC) B.ec (Qf0 hr)) (Qc 1) Qk) (Qj (Q5 (Qf3 I_Beside (hr.mono (by decide)) (Qb (Qc 0) (Qb (Qc 2) Qh))))) Q1)
  (Qe (Yf (Q3 (Qft (isC:=isC) B.ec (Qf0 hr)) (Qc 1) Qk) (Qj (Q5 (Qf3 I_Above (hr.mono (by decide)) (Qb (Qc 0) (Qb (Qc 2) Qh))))) Q1)
  (Qj (Y8 I_NoText (hr.mono (by decide)) (λC h=>hXI _ _ C h) (Qb Qf Qh)))))
theorem Qar (F:Fun K "made_of_two" "made_of_two" Q7 f fd) (B:Bn K mg) (I1:IniN P w K mg base "Above" 2 1) (I2:IniN P w K mg base "Beside" 2 1) (I3:Z9 P w K mg base "NoText" "at" 1):FnOk P w K mg base (CXD P w base) 3 f fd ["one","word","other"] (spXD K Yp):=by
 refine Qjn (T:=Qv) F Qao rfl (by decide) (λds kk kx h=>?_) (Qce B I1 I2 I3) (λds kk kx h=>?_)
 ·obtain ⟨t,e,u,rfl,_⟩:=h
  rfl
 ·obtain ⟨t,e,u,rfl,h1,h2⟩:=h
  have hp:=Gd t
  have hq:=Gd u
  simp only [Uh,wSeq,wIf,env0,List.map_cons,List.map_nil,List.length_cons,List.length_nil,Nat.zero_add,Nat.reduceAdd,List.cons_append,List.nil_append,wRet,wMk,Qd,wNil,Qn,Bool.and_true,true_and,Jf,Qz,Jd,wC,r_bl,wBin,look,Qm]
  cases e with
  | o t' =>
   simp only [eqO,Ji,Bool.false_eq_true,reduceIte]
   exact ⟨sm0,h2 rfl⟩
  | w x =>
   simp only [eqW,Ji]
   by_cases c1:x=Str.ofString "beside"
   ·rw [if_pos (decide_eq_true c1)]
    exact ⟨by rw [hp,hq];rfl,h1 (.bi false t u) (if_pos c1)⟩
   ·rw [if_neg (by simpa using c1)]
    by_cases c2:x=Str.ofString "above"
    ·rw [if_pos (decide_eq_true c2)]
     exact ⟨by rw [hp,hq];rfl,h1 (.bi true t u) ((if_neg c1).trans (if_pos c2))⟩
    ·rw [if_neg (by simpa using c2)]
     exact ⟨sm0,h2 ((if_neg c1).trans (if_neg c2))⟩
theorem Qql {α:Type} {a b c:α}:Gw [a,b,c] (some 0) none (some 2)=[a,c]:=by
 have e:sliceRange (sliceBounds (some 0) none (some 2) 3).1 (sliceBounds (some 0) none (some 2) 3).2.1 (sliceBounds (some 0) none (some 2) 3).2.2=[0,2]:=by decide +kernel
 show (sliceRange (sliceBounds (some 0) none (some 2) 3).1 (sliceBounds (some 0) none (some 2) 3).2.1 (sliceBounds (some 0) none (some 2) 3).2.2).filterMap ([a,b,c][·]?)=_
 rw [e];rfl
def Qdo:GX:=λds k kx=>∃row:List El,ds=[.lst (row.map eD)]/\row.length<=100000/\(∀t,P61.mkE row=some t->k (oD t))/\(P61.mkE row=none->kx (nt 0))
abbrev V1:Stmt:=top 37
theorem Qoe:FnScope ["row"] ["row"] (Qa V1):=⟨rfl,rfl,rfl,by decide +kernel,rfl,by decide +kernel,by decide +kernel⟩
def Vc:Tg:={ own:=λi=>false,io:=[] }
def Qe4:WS:=(wSeq (wIf (wAnd (wBl (wBin dEq (Q0 dLen (Qd (wVar 0) wNil)) (wC (.int 2)))) (wTru (Q0 Js (Qd (wSlT (wVar 0) (Jj (wC (.int 1))) Yx) wNil)))) (Qgf (Yy Yq (Qd (wBin dIx (wVar 0) (wC (.int 0))) (Qd (wBin dIx (wVar 0) (wC (.int 1))) wNil)))) Qz)
 (wSeq (wIf (wAnd (wBl (wBin dEq (Q0 dLen (Qd (wVar 0) wNil)) (wC (.int 3)))) (wTru (Q0 Js (Qd (wSt (wVar 0) (Jj (wC (.int 0))) Yx (Jj (wC (.int 2)))) wNil)))) (Qgf (Yy Yp (Qd (wBin dIx (wVar 0) (wC (.int 0))) (Qd (wBin dIx (wVar 0) (wC (.int 1))) (Qd (wBin dIx (wVar 0) (wC (.int 2))) wNil))))) Qz)
 (Jd (Str.ofString "NoText") (Str.ofString "at") (Qd (wC (.int 0)) wNil))))
theorem Qtp (B:Bn K mg) (C_are_parts:Cal P w K mg base "are_parts" 1 ["things"] (spR K Js)) (C_made_of_one:CalD P w K mg base "made_of_one" 3 ["word","one"] (spXD K Yq)) (C_made_of_two:CalD P w K mg base "made_of_two" 3 ["one","word","other"] (spXD K Yp)) (I_NoText:Z9 P w K mg base "NoText" "at" 1):∀(cdv:Value) (A:Around) (outer:List PySem.Env) (s:Shared) (H:Hp) (E:XK) (XE:D->St->Hp->Prop),Room 3 (A.deeper (envOfC "made" (Qa V1) s.heap.objs.size f cdv))->(∀x C,atN K x C->Gi (cxOf (CXD P w base) P w K mg base ["row"] "made" (Qa V1) f cdv A outer s H E) ⟨Vc.own,Vc.io,XE⟩ x C)->(∀x attr C,atN K x C->Z4 (cxOf (CXD P w base) P w K mg base ["row"] "made" (Qa V1) f cdv A outer s H E) ⟨Vc.own,Vc.io,XE⟩ x C attr)->Vn (cxOf (CXD P w base) P w K mg base ["row"] "made" (Qa V1) f cdv A outer s H E) ⟨Vc.own,Vc.io,XE⟩->Qbg (cxOf (CXD P w base) P w K mg base ["row"] "made" (Qa V1) f cdv A outer s H E) ⟨Vc.own,Vc.io,XE⟩->SVs (cxOf (CXD P w base) P w K mg base ["row"] "made" (Qa V1) f cdv A outer s H E) ⟨Vc.own,Vc.io,XE⟩ (Qu V1) Qe4:=λcdv A outer s H E XE hr hX hXI hP hH =>
  (Qe (Yf (Y7 (U5 (Q3 (Zj hr.units) (Yv Gu B.nb_len Gv (Qb (Qc 0) Qh)) Qf) (Ug (Vb (Ye C_are_parts (hr.mono (by decide)) (Qb (Zx (Qc 0) (Q6 Qf) Zd) Qh)))))) (Qj (Qhv (Qb9 C_made_of_one (hr.mono (by decide)) hP (Qb (Y3 (Yw (Yk hr)) (Qc 0) Qf) (Qb (Y3 (Yw (Yk hr)) (Qc 0) Qf) Qh))))) Q1)
  (Qe (Yf (Y7 (U5 (Q3 (Zj hr.units) (Yv Gu B.nb_len Gv (Qb (Qc 0) Qh)) Qf) (Ug (Vb (Ye C_are_parts (hr.mono (by decide)) (Qb (Qvg (Qc 0) (Q6 Qf) Zd (Q6 Qf)) Qh)))))) (Qj (Qhv (Qb9 C_made_of_two (hr.mono (by decide)) hP (Qb (Y3 (Yw (Yk hr)) (Qc 0) Qf) (Qb (Y3 (Yw (Yk hr)) (Qc 0) Qf) (Qb (Y3 (Yw (Yk hr)) (Qc 0) Qf) Qh)))))) Q1)
  (Qj (Y8 I_NoText (hr.mono (by decide)) (λC h=>hXI _ _ C h) (Qb Qf Qh)))))
theorem Qsb (h2:row.length≠2) (h3:row.length≠3):P61.mkE row=none:=by
 unfold P61.mkE
 split
 ·exact absurd rfl h2
 ·exact absurd rfl h3
 ·rfl
theorem Qo8 (F:Fun K "made" "made" V1 f fd) (B:Bn K mg) (C1:Cal P w K mg base "are_parts" 1 ["things"] (spR K Js)) (C2:CalD P w K mg base "made_of_one" 3 ["word","one"] (spXD K Yq)) (C3:CalD P w K mg base "made_of_two" 3 ["one","word","other"] (spXD K Yp)) (I3:Z9 P w K mg base "NoText" "at" 1):FnOk P w K mg base (CXD P w base) 4 f fd ["row"] (spXD K Qdo):=by
 refine Qjn (T:=Vc) F Qoe rfl (by decide) (λds kk kx h=>?_) (Qtp B C1 C2 C3 I3) (λds kk kx h=>?_)
 ·obtain ⟨_,rfl,_⟩:=h
  rfl
 ·obtain ⟨row,rfl,hl,h1,h2⟩:=h
  have hp:=Uy row
  by_cases l2:row.length=2
  ·obtain ⟨a,b,rfl⟩:=len2 l2
   have ea:=Ue a
   have eb:=Ue b
   simp only [Qe4,wSeq,wIf,wAnd,env0,List.map_cons,List.map_nil,List.length_cons,List.length_nil,Nat.zero_add,List.cons_append,List.nil_append,Qgf,Yy,Qd,wBin,wC,wNil,Jf,Qz,Jd,Ux,Q0,wSt,Yx,Go,Vh,Bool.false_eq_true,reduceIte,r_bl,wSlT,look,Qm,V7,Qkl,List.getElem?_cons_succ,List.getElem?_cons_zero,Qe3,Qp9,Qcx,Nat.reduceAdd,Qei,Ji,Qcy,Qn,Bool.and_true]
   refine (if_pos (by decide)).mpr ⟨by rw [ea,eb];rfl,[b],rfl,(by decide:1<=100000),?_⟩
   cases b with
   | o t =>
    simp only [List.all_cons,isO,List.all_nil,Bool.and_self,Yc,reduceIte]
    exact ⟨a,t,rfl,h1,h2⟩
   | w x =>
    simp only [List.all_cons,isO,List.all_nil,Bool.and_true,Yc,Bool.false_eq_true,reduceIte]
    refine (if_neg (by decide)).mpr ⟨sm0,h2 ?_⟩
    cases a <;> rfl
  ·by_cases l3:row.length=3
   ·obtain ⟨a,b,c,rfl⟩:=len3 l3
    have ea:=Ue a
    have eb:=Ue b
    have ec:=Ue c
    simp only [Qe4,wSeq,wIf,wAnd,env0,List.map_cons,List.map_nil,List.length_cons,List.length_nil,Nat.zero_add,List.cons_append,List.nil_append,Qgf,Yy,Qd,wBin,wC,wNil,Jf,Qz,Jd,Ux,Q0,wSt,Yx,Go,Vh,Bool.false_eq_true,reduceIte,r_bl,wSlT,look,Qm,V7,Qkl,List.getElem?_cons_succ,List.getElem?_cons_zero,Qe3,Qp9,Qcx,Nat.reduceAdd,Qei,Ji,Qcy,Qn,Bool.and_true]
    refine (if_neg (by decide)).mpr ((if_pos (by decide)).mpr ⟨by simp only [Qn,ea,eb,ec];rfl,by decide,by decide,by rw [Qql];exact (by decide:2<=sizeLine),[a,c],by rw [Qql];rfl,(by decide:2<=100000),?_⟩)
    have bad:P61.mkE [a,b,c]=none->((Int.natAbs 0).log2<1920/\(toString (0:Int)).length<=700)/\kx (D.obj (Str.ofString "NoText") [(Str.ofString "at",0)]):=λz=>⟨sm0,h2 z⟩
    cases a with
    | w x =>
     simp only [List.all_cons,isO,List.all_nil,Bool.and_true,Bool.false_and,Yc,Bool.false_eq_true,reduceIte]
     refine bad ?_
     cases b <;> cases c <;> rfl
    | o t =>
     cases c with
     | w y =>
      simp only [List.all_cons,isO,List.all_nil,Bool.and_true,Bool.and_false,Yc,Bool.false_eq_true,reduceIte]
      refine bad ?_
      cases b <;> rfl
     | o u =>
      simp only [List.all_cons,isO,List.all_nil,Bool.and_self,Yc,reduceIte]
      exact ⟨t,b,u,rfl,h1,h2⟩
   ·have n2:((row.length:Nat):Int)≠2:=by omega
    have n3:((row.length:Nat):Int)≠3:=by omega
    simp only [Qe4,wSeq,wIf,wAnd,env0,List.map_cons,List.map_nil,List.length_cons,List.length_nil,Nat.zero_add,List.cons_append,List.nil_append,Qgf,Yy,Qd,wBin,wC,wNil,Jf,Qz,Jd,Ux,Q0,wSt,Yx,Go,Vh,Bool.false_eq_true,reduceIte,r_bl,wSlT,look,Qm,V7,Qkl,Qe3,Qp9,Qcx,List.length_map,Qei,n3,decide_false,Ji,Qcy,n2]
    exact ⟨sm0,h2 (Qsb l2 l3)⟩
theorem Qhx (c:Nat) {z:List Nat} (hz:z.length<=2):∀l:List Nat,(P58.sub c z l).length<=2*l.length
 | []=>Nat.zero_le _
 | k::r=>by
  have ih:=Qhx c hz r
  unfold P58.sub at ih ⊢
  rw [List.flatMap_cons,List.length_append,List.length_cons]
  split
  ·omega
  ·rw [List.length_singleton];omega
theorem Qh6 (hz:z.length<=2):(Txt.replace x ⟨#[c]⟩ z).length<=2*x.length:=by
 have h:=Qhx c (z:=z.cps.toList) (by rw [Array.length_toList];exact hz) x.cps.toList
 rw [← Qbv,Array.length_toList,Array.length_toList] at h
 exact h
def FT (x:Str):Str:=Txt.replace (Txt.replace x (Str.ofString "(") (Str.ofString "( ")) (Str.ofString ")") (Str.ofString " )")
theorem Qnl (x:Str):(Txt.replace x (Str.ofString "(") (Str.ofString "( ")).length<=2*x.length/\(FT x).length<=4*x.length:=by
 have e1:Str.ofString "(" = ⟨#[40]⟩:=by decide +kernel
 have e2:Str.ofString ")" = ⟨#[41]⟩:=by decide +kernel
 have z1:(Str.ofString "( ").length=2:=by decide +kernel
 have z2:(Str.ofString " )").length=2:=by decide +kernel
 have l1:(Txt.replace x (Str.ofString "(") (Str.ofString "( ")).length<=2*x.length:=by rw [e1];exact Qh6 (by rw [z1];exact Nat.le_refl 2)
 have l2:(FT x).length<=2*(Txt.replace x (Str.ofString "(") (Str.ofString "( ")).length:=by unfold FT;rw [e2];exact Qh6 (by rw [z2];exact Nat.le_refl 2)
 exact ⟨l1,by omega⟩
theorem Xv:Builtin.Str.glued (Str.ofString " ") (Y1 x (Str.ofString " "))=x:=StrLaws.glued_between_self _ _ _
theorem Gf (x:Str):x.length=x.cps.toList.length:=Array.length_toList.symm
theorem Qgv:(Y1 x (Str.ofString " ")).length<=x.length+1:=by
 have e:=Xv (x:=x)
 have e2:x.cps.toList=S03.jl 32 ((Y1 x (Str.ofString " ")).map λw=>w.cps.toList):=by
  have:=congrArg (λs:Str=>s.cps.toList) e
  rw [StrLaws.glued_eq_join,S03.Qvo] at this
  simp only [S03.Qeq] at this
  rw [← this];rfl
 have key:∀l:List (List Nat),l.length<=(S03.jl 32 l).length+1:=by
  intro l
  induction l with
  | nil=>simp
  | cons a r ih =>
   cases r with
   | nil=>simp
   | cons b r =>
    have e:S03.jl 32 (a::b::r)=a++32::S03.jl 32 (b::r):=rfl
    rw [e]
    simp at ih ⊢
    omega
 have:=key ((Y1 x (Str.ofString " ")).map λw=>w.cps.toList)
 rw [← e2,List.length_map] at this
 rw [Gf];exact this
def wds (x:Str):List Str:=if (FT x).length=0 then [FT x] else Y1 (FT x) (Str.ofString " ")
theorem Qhj (x:Str):(wds x).length<=4*x.length+1:=by
 have h:=(Qnl x).2
 unfold wds
 split
 ·simp
 ·have:=Qgv (x:=FT x)
  omega
theorem Qkm (x:Str):Builtin.Str.glued (Str.ofString " ") (wds x)=FT x:=by
 unfold wds
 split
 ·rfl
 ·exact Xv
def J4:GA:=λds k=>∃x,ds=[.str x]/\x.length<=5000/\k (.lst ((wds x).map .str))
abbrev Zc:Stmt:=top 38
theorem Gx:FnScope ["text"] ["text"] (Qa Zc):=⟨rfl,rfl,rfl,by decide +kernel,rfl,by decide +kernel,by decide +kernel⟩
theorem G0 (F:Fun K "bracket_words" "bracket_words" Zc f fd) (B:Bn K mg):FnOk P w K mg base CX0 2 f fd ["text"] (spR K J4):=by
 refine (Qps (k:=0) F Gx rfl rfl (λvs H Q E h=>?_) (λcdv A outer s H vs Q E hr h=>?_)).mono (by decide)
 ·obtain ⟨ds,Fp,kk,rep,⟨x,rfl,_⟩,_⟩:=h
  rw [rep.length];rfl
 ·obtain ⟨ds,Fp,kk,rep,⟨x,rfl,hx,k⟩,q⟩:=h
  obtain ⟨v,rfl,rd⟩:=rep.at1
  have hv:=rd.iStr
  subst hv
  refine ⟨_,Qur PySem.F.plainAttrs_str PySem.F.slot_str_split PySem.F.type_str_split Qi0 (Qmu (by decide +kernel) (Qmu (by decide +kernel) (Qrd (i:=0) rfl (Or.inl rfl)))) (Zp Qmz Qa7),?_⟩
  have z1:(Str.ofString "( ").length=2:=by decide +kernel
  have z2:(Str.ofString " )").length=2:=by decide +kernel
  obtain ⟨l1,l2⟩:=Qnl x
  refine ⟨_,rfl,_,rfl,by rw [z1];omega,_,rfl,by rw [z2];omega,rfl,?_⟩
  have sz:∀{n:Nat},n<=5242880->n<=sizeLine:=λh=>Nat.le_trans h (by decide)
  have wl:=Qhj x
  unfold wds at k wl
  by_cases h0:(FT x).length=0
  ·rw [if_pos h0] at k
   refine .inl ⟨_,_,rfl,rfl,by decide +kernel,h0,λl hl=>?_⟩
   exact q _ _ _ [l] ⟨Qo hl,.lst Qi (Reps.strs [FT x]),by simp,λc m=>by rw [List.mem_singleton.mp m];exact hl⟩ k
  ·rw [if_neg h0] at k wl
   refine .inr ⟨_,_,rfl,rfl,by decide +kernel,by decide +kernel,Nat.pos_of_ne_zero h0,sz (by show (FT x).length<=_;omega),sz (by show (Y1 (FT x) (Str.ofString " ")).length<=_;omega),λl hl=>?_⟩
   exact q _ _ _ [l] ⟨Qo hl,.lst Qi (Reps.strs _),by simp,λc m=>by rw [List.mem_singleton.mp m];exact hl⟩ k
theorem Qcc {w:Str} (h:ws[i]? = some w):ws.drop i=w::ws.drop (i+1):=by
 obtain ⟨hi,e⟩:=List.getElem?_eq_some_iff.mp h
 rw [List.drop_eq_getElem_cons hi,e]
theorem Jx:∀ws:List Str,Qn (ws.map D.str)=true
 | []=>rfl
 | w::r=>by
  show (true && Qn (r.map D.str))=true
  rw [Jx r];rfl
def Jt:GX:=λds k kx=>∃ws:List Str,ds=[.lst (ws.map .str)]/\(P61.okB 0 ws=true->k .non)/\(P61.okB 0 ws=false->kx (nt 0))
abbrev Qs:Stmt:=top 39
theorem Jo:FnScope ["words","many","word"] ["words"] (Qa Qs):=⟨rfl,rfl,rfl,by decide +kernel,rfl,by decide +kernel,by decide +kernel⟩
def Qr:Tg:={ own:=λi=>i == 1 || i == 2,io:=[] }
def Z5:WS:=(wSeq (wSet 1 (wC (.int 0)))
 (wSeq (wFor (Qcj (wVar 0)) (gN 2) (wSeq (wIf (wBl (wBin dEq (wVar 2) (wC (.str (Str.ofString "("))))) (wSet 1 (wBin Q9 (wVar 1) (wC (.int 1)))) (wIf (wBl (wBin dEq (wVar 2) (wC (.str (Str.ofString ")"))))) (wSet 1 (wBin dSub (wVar 1) (wC (.int 1)))) Qz))
 (wIf (wOr (wBl (wBin (dCmp λi j=>decide (i<j)) (wVar 1) (wC (.int 0)))) (wBl (wBin (dCmp λi j=>decide (j<i)) (wVar 1) (wC (.int 8))))) (Jd (Str.ofString "NoText") (Str.ofString "at") (Qd (wC (.int 0)) wNil)) Qz)))
 (wIf (wBl (wBin (dCmp λi j=>decide (j<i)) (wVar 1) (wC (.int 0)))) (Jd (Str.ofString "NoText") (Str.ofString "at") (Qd (wC (.int 0)) wNil)) Qz)))
theorem G4 (B:Bn K mg) (I_NoText:Z9 P w K mg base "NoText" "at" 1):∀(cdv:Value) (A:Around) (outer:List PySem.Env) (s:Shared) (H:Hp) (E:XK) (XE:D->St->Hp->Prop),Room 2 (A.deeper (envOfC "check_brackets" (Qa Qs) s.heap.objs.size f cdv))->(∀x C,atN K x C->Gi (cxOf (CXD P w base) P w K mg base ["words","many","word"] "check_brackets" (Qa Qs) f cdv A outer s H E) ⟨Qr.own,Qr.io,XE⟩ x C)->(∀x attr C,atN K x C->Z4 (cxOf (CXD P w base) P w K mg base ["words","many","word"] "check_brackets" (Qa Qs) f cdv A outer s H E) ⟨Qr.own,Qr.io,XE⟩ x C attr)->Vn (cxOf (CXD P w base) P w K mg base ["words","many","word"] "check_brackets" (Qa Qs) f cdv A outer s H E) ⟨Qr.own,Qr.io,XE⟩->Qbg (cxOf (CXD P w base) P w K mg base ["words","many","word"] "check_brackets" (Qa Qs) f cdv A outer s H E) ⟨Qr.own,Qr.io,XE⟩->SVs (cxOf (CXD P w base) P w K mg base ["words","many","word"] "check_brackets" (Qa Qs) f cdv A outer s H E) ⟨Qr.own,Qr.io,XE⟩ (Qu Qs) Z5:=λcdv A outer s H E XE hr hX hXI hP hH =>
  (Qe (Q4 (i:=1) Qf Jo.nd (hio:=List.not_mem_nil))
  (Qe (Qa1 PassesOwn.leaving (Qsv (i:=0)) (Gg (i:=2) Jo.nd (hio:=List.not_mem_nil)) (Qe (Yf (Q3 (Zj hr.units) (Qc 2) Qk) (Qj (Q4 (i:=1) (Qt Qp (Qc 1) Qf) Jo.nd (hio:=List.not_mem_nil))) (Qj (Yf (Q3 (Zj hr.units) (Qc 2) Qk) (Qj (Q4 (i:=1) (Qt X2 (Qc 1) Qf) Jo.nd (hio:=List.not_mem_nil))) Q1)))
  (Qj (Yf (Y7 (Qki (Q3 Qpc (Qc 1) Qf) (Qga (Q3 Qle (Qc 1) (Qpy B.c_MOST_OPEN.choose_spec))))) (Qj (Y8 I_NoText (hr.mono (by decide)) (λC h=>hXI _ _ C h) (Qb Qf Qh))) Q1))))
  (Qj (Yf (Q3 Qle (Qc 1) Qf) (Qj (Y8 I_NoText (hr.mono (by decide)) (λC h=>hXI _ _ C h) (Qb Qf Qh))) Q1))))
theorem Gb (F:Fun K "check_brackets" "check_brackets" Qs f fd) (B:Bn K mg) (I3:Z9 P w K mg base "NoText" "at" 1):FnOk P w K mg base (CXD P w base) 3 f fd ["words"] (spXD K Jt):=by
 refine Qjn (T:=Qr) F Jo rfl (by decide) (λds kk kx h=>?_) (G4 B I3) (λds kk kx h=>?_)
 ·obtain ⟨ws,rfl,_⟩:=h
  rfl
 ·obtain ⟨ws,rfl,h1,h2⟩:=h
  have bad:P61.okB 0 ws=false->((Int.natAbs 0).log2<1920/\(toString (0:Int)).length<=700)/\kx (D.obj (Str.ofString "NoText") [(Str.ofString "at",0)]):=λz=>⟨sm0,h2 z⟩
  simp only [Z5,wSeq,wSet,wC,env0,List.map_cons,List.map_nil,List.length_cons,List.length_nil,Nat.zero_add,Nat.reduceAdd,List.replicate,List.cons_append,List.nil_append,List.set_cons_succ,List.set_cons_zero,Gz,Qkz,Jf,look,Qm,Qh9]
  refine ⟨Jx ws,λi ρ=>∃(m:Nat) (o:Option D),m<=8/\P61.okB m (ws.drop i)=P61.okB 0 ws/\ρ=[some (.lst (ws.map .str)),some (.int m),o],⟨0,none,by decide,rfl,rfl⟩,?_,?_⟩
  ·rintro i d ρ hd ⟨m,o,hm,ho,rfl⟩
   rw [List.getElem?_map] at hd
   obtain ⟨u,hu,rfl⟩:=Option.map_eq_some_iff.mp hd
   rw [Qcc hu] at ho
   simp only [gN,wSeq,wIf,List.set_cons_succ,List.set_cons_zero,wSet,wBin,wC,wOr,Jd,Qd,wNil,Qz,reduceIte,r_bl,Jf,look,Qm,Vi,Qgt,Ji,Qgs,Qid]
   by_cases c1:u=Str.ofString "("
   ·rw [show u=P61.op from c1,P61.Qfq] at ho
    simp only [c1,decide_true,reduceIte]
    by_cases h8:m+1<=8
    ·rw [if_neg (by simp;omega),if_neg (by simp;omega)]
     exact ⟨m+1,_,h8,by rw [← ho];simp [h8],rfl⟩
    ·rw [if_neg (by simp;omega),if_pos (by simp;omega)]
     exact bad (by rw [← ho];simp [h8])
   ·simp only [c1,decide_false,Bool.false_eq_true,reduceIte]
    by_cases c2:u=Str.ofString ")"
    ·rw [show u=P61.cp from c2,P61.Qfr] at ho
     simp only [c2,decide_true,reduceIte]
     by_cases h0:1<=m
     ·rw [if_neg (by simp;omega),if_neg (by simp;omega)]
      exact ⟨m-1,_,by omega,by rw [← ho];simp [h0],by rw [show ((m-1:Nat):Int)=(m:Int)-1 by omega]⟩
     ·rw [if_pos (by simp;omega)]
      exact bad (by rw [← ho];simp [h0])
    ·rw [P61.Qiu c1 c2] at ho
     simp only [c2,decide_false,Bool.false_eq_true,reduceIte]
     rw [if_neg (by simp),if_neg (by simp;omega)]
     exact ⟨m,_,hm,ho,rfl⟩
  ·rintro ρ ⟨m,o,hm,ho,rfl⟩
   rw [List.length_map,List.drop_length] at ho
   have ho:decide (m=0)=P61.okB 0 ws:=ho
   simp only [wIf,Jd,Qd,wC,wNil,Qz,r_bl,wBin,Jf,look,Qm,Qgt,Ji]
   by_cases h0:m=0
   ·subst h0
    exact h1 ho.symm
   ·rw [if_pos (by simp;omega)]
    exact bad (by rw [← ho];simp [h0])
def noS (d:D):Prop:=d=.non\/(∃i,d=.int i)\/(∃b,d=.bl b)\/d=.tup []\/(∃xs,d=.fls xs)\/d=.fdk []
def J2:GX:=λds k kx=>∃d,ds=[d]/\((noS d/\kx (nt 0))\/∃x,d=.str x/\x.length<=5000/\(∀t,P61.rd (wds x)=some t->k (oD t))/\(P61.rd (wds x)=none->kx (nt 0)))
abbrev Jl:Stmt:=top 40
theorem Yz:FnScope ["text","words","rows","word","part"] ["text"] (Qa Jl):=⟨rfl,rfl,rfl,by decide +kernel,rfl,by decide +kernel,by decide +kernel⟩
def Je:Tg:={ own:=λi=>i == 1 || i == 2 || i == 3 || i == 4,io:=[] }
def Jy:WS:=(wSeq (wIf (wNot (wTru (Q0 dIsi (Qd (wVar 0) (Qd (wC (.ty .str)) wNil))))) (Jd (Str.ofString "NoText") (Str.ofString "at") (Qd (wC (.int 0)) wNil)) Qz)
 (wSeq (wSet 1 (Q0 J4 (Qd (wVar 0) wNil)))
 (wSeq (Um (Yy Jt (Qd (wVar 1) wNil)))
 (wSeq (wSet 2 (wLst (Qd (wLst wNil) wNil)))
 (wSeq (wFor (Xi 1) (gN 3) (wIf (wBl (wBin dEq (wVar 3) (wC (.str (Str.ofString "("))))) (Qho (wMt 2 "list" Qb8 (Qd (wLst wNil) wNil))) (wIf (wBl (wBin dEq (wVar 3) (wC (.str (Str.ofString ")"))))) (wSeq (Qno 4 (Yy Qdo (Qd (Qns 2) wNil)))
 (wTkl 2 (wVar 4))) (wTkl 2 (Q0 Yd (Qd (wVar 3) wNil))))))
 (wSeq (wIf (wOr (wBl (wBin dNe (Q0 dLen (Qd (wBin dIx (wVar 2) (wC (.int 0))) wNil)) (wC (.int 1)))) (wNot (wTru (Q0 Js (Qd (wBin dIx (wVar 2) (wC (.int 0))) wNil))))) (Jd (Str.ofString "NoText") (Str.ofString "at") (Qd (wC (.int 0)) wNil)) Qz)
 (wRet (Zr (wBin dIx (wBin dIx (wVar 2) (wC (.int 0))) (wC (.int 0)))))))))))
theorem Qex (B:Bn K mg) (C_part_or_word:Cal P w K mg base "part_or_word" 1 ["word"] (spR K Yd)) (C_are_parts:Cal P w K mg base "are_parts" 1 ["things"] (spR K Js)) (C_made:CalD P w K mg base "made" 4 ["row"] (spXD K Qdo)) (C_bracket_words:Cal P w K mg base "bracket_words" 2 ["text"] (spR K J4)) (C_check_brackets:CalD P w K mg base "check_brackets" 3 ["words"] (spXD K Jt)) (I_NoText:Z9 P w K mg base "NoText" "at" 1):∀(cdv:Value) (A:Around) (outer:List PySem.Env) (s:Shared) (H:Hp) (E:XK) (XE:D->St->Hp->Prop),Room 4 (A.deeper (envOfC "read_part" (Qa Jl) s.heap.objs.size f cdv))->(∀x C,atN K x C->Gi (cxOf (CXD P w base) P w K mg base ["text","words","rows","word","part"] "read_part" (Qa Jl) f cdv A outer s H E) ⟨Je.own,Je.io,XE⟩ x C)->(∀x attr C,atN K x C->Z4 (cxOf (CXD P w base) P w K mg base ["text","words","rows","word","part"] "read_part" (Qa Jl) f cdv A outer s H E) ⟨Je.own,Je.io,XE⟩ x C attr)->Vn (cxOf (CXD P w base) P w K mg base ["text","words","rows","word","part"] "read_part" (Qa Jl) f cdv A outer s H E) ⟨Je.own,Je.io,XE⟩->Qbg (cxOf (CXD P w base) P w K mg base ["text","words","rows","word","part"] "read_part" (Qa Jl) f cdv A outer s H E) ⟨Je.own,Je.io,XE⟩->SVs (cxOf (CXD P w base) P w K mg base ["text","words","rows","word","part"] "read_part" (Qa Jl) f cdv A outer s H E) ⟨Je.own,Je.io,XE⟩ (Qu Jl) Jy:=λcdv A outer s H E XE hr hX hXI hP hH =>
  (Qe (Yf (Qcn (Vb (Yv Qtj B.nb_isinstance Z3 (Qb (Qc 0) (Qb (Qvf .str B.nb_str Qtm) Qh))))) (Qj (Y8 I_NoText (hr.mono (by decide)) (λC h=>hXI _ _ C h) (Qb Qf Qh))) Q1)
  (Qe (Q4 (i:=1) (Ye C_bracket_words (hr.mono (by decide)) (Qb (Qc 0) Qh)) Yz.nd (hio:=List.not_mem_nil))
  (Qe (Qkr (Qb9 C_check_brackets (hr.mono (by decide)) hP (Qb (Qc 1) Qh)))
  (Qe (Q4 (i:=2) (Ju (Qb (Ju Qh) Qh)) Yz.nd (hio:=List.not_mem_nil))
  (Qe (Qa1 PassesOwn.leaving (Qjd (s:=1)) (Gg (i:=3) Yz.nd (hio:=List.not_mem_nil)) (Qj (Yf (Q3 (Zj hr.units) (Qc 3) Qk) (Qj (Qhw (Qs7 (i:=2) Qde PySem.F.plainAttrs_list PySem.F.slot_list_append PySem.F.type_list_append (Qb (Ju Qh) Qh)))) (Qj (Yf (Q3 (Zj hr.units) (Qc 3) Qk) (Qe (Qn0 (i:=4) (Qjt C_made (hr.mono (by decide)) hP (Qb (Qpx (i:=2)) Qh)) Yz.nd)
  (Qj (Qmk (i:=2) (Qc 4)))) (Qj (Qmk (i:=2) (Ye C_part_or_word (hr.mono (by decide)) (Qb (Qc 3) Qh)))))))))
  (Qe (Yf (Y7 (Qki (Q3 (Qpb hr.units) (Yv Gu B.nb_len Gv (Qb (Y3 (Yw (Yk hr)) (Qc 2) Qf) Qh)) Qf) (Qga (Qcn (Vb (Ye C_are_parts (hr.mono (by decide)) (Qb (Y3 (Yw (Yk hr)) (Qc 2) Qf) Qh))))))) (Qj (Y8 I_NoText (hr.mono (by decide)) (λC h=>hXI _ _ C h) (Qb Qf Qh))) Q1)
  (Qj (Q5 (Zg (Y3 (Yw (Yk hr)) (Y3 (Yw (Yk hr)) (Qc 2) Qf) Qf))))))))))
def rD (st:List (List El)):List D:=st.reverse.map λrow=>.lst (row.map eD)
theorem U8:rD (row::rest)=rD rest++[.lst (row.map eD)]:=by
 unfold rD;rw [List.reverse_cons,List.map_append];rfl
theorem Qq2 {st:List (List El)}:(rD st).length=st.length:=by unfold rD;rw [List.length_map,List.length_reverse]
theorem Qc6 (F:Fun K "read_part" "read_part" Jl f fd) (B:Bn K mg) (C1:Cal P w K mg base "part_or_word" 1 ["word"] (spR K Yd)) (C2:Cal P w K mg base "are_parts" 1 ["things"] (spR K Js)) (C3:CalD P w K mg base "made" 4 ["row"] (spXD K Qdo)) (C4:Cal P w K mg base "bracket_words" 2 ["text"] (spR K J4)) (C5:CalD P w K mg base "check_brackets" 3 ["words"] (spXD K Jt)) (I3:Z9 P w K mg base "NoText" "at" 1):FnOk P w K mg base (CXD P w base) 5 f fd ["text"] (spXD K J2):=by
 refine Qjn (T:=Je) F Yz rfl (by decide) (λds kk kx h=>?_) (Qex B C1 C2 C3 C4 C5 I3) (λds kk kx h=>?_)
 ·obtain ⟨d,rfl,_⟩:=h
  rfl
 ·obtain ⟨d,rfl,⟨hn,hk⟩ | ⟨x,rfl,hx,h1,h2⟩⟩:=h
  ·rcases hn with rfl | ⟨i,rfl⟩ | ⟨b,rfl⟩ | rfl | ⟨xs,rfl⟩ | rfl
   ·simp only [Jy,wSeq,wIf,wNot,env0,List.map_cons,List.map_nil,List.length_cons,List.length_nil,Nat.zero_add,Nat.reduceAdd,List.replicate,List.cons_append,List.nil_append,Jd,Qd,wC,wNil,Qz,wSet,Q0,Um,Yy,wLst,sz0,sz1,Gz,Xi,true_and,Jf,Ux,Qeh,isiD,Yc,look,List.set_cons_succ,List.set_cons_zero,Qm,Bool.not_false,reduceIte]
    exact ⟨sm0,hk⟩
   ·simp only [Jy,wSeq,wIf,wNot,env0,List.map_cons,List.map_nil,List.length_cons,List.length_nil,Nat.zero_add,Nat.reduceAdd,List.replicate,List.cons_append,List.nil_append,Jd,Qd,wC,wNil,Qz,wSet,Q0,Um,Yy,wLst,sz0,sz1,Gz,Xi,true_and,Jf,Ux,Qeh,isiD,Yc,look,List.set_cons_succ,List.set_cons_zero,Qm]
    exact ⟨sm0,hk⟩
   ·simp only [Jy,wSeq,wIf,wNot,env0,List.map_cons,List.map_nil,List.length_cons,List.length_nil,Nat.zero_add,Nat.reduceAdd,List.replicate,List.cons_append,List.nil_append,Jd,Qd,wC,wNil,Qz,wSet,Q0,Um,Yy,wLst,sz0,sz1,Gz,Xi,true_and,Jf,Ux,Qeh,isiD,Yc,look,List.set_cons_succ,List.set_cons_zero,Qm]
    exact ⟨sm0,hk⟩
   ·simp only [Jy,wSeq,wIf,wNot,env0,List.map_cons,List.map_nil,List.length_cons,List.length_nil,Nat.zero_add,Nat.reduceAdd,List.replicate,List.cons_append,List.nil_append,Jd,Qd,wC,wNil,Qz,wSet,Q0,Um,Yy,wLst,sz0,sz1,Gz,Xi,true_and,Jf,Ux,Qeh,isiD,Yc,look,List.set_cons_succ,List.set_cons_zero,Qm]
    exact ⟨sm0,hk⟩
   ·simp only [Jy,wSeq,wIf,wNot,env0,List.map_cons,List.map_nil,List.length_cons,List.length_nil,Nat.zero_add,Nat.reduceAdd,List.replicate,List.cons_append,List.nil_append,Jd,Qd,wC,wNil,Qz,wSet,Q0,Um,Yy,wLst,sz0,sz1,Gz,Xi,true_and,Jf,Ux,Qeh,isiD,Yc,look,List.set_cons_succ,List.set_cons_zero,Qm]
    exact ⟨sm0,hk⟩
   ·simp only [Jy,wSeq,wIf,wNot,env0,List.map_cons,List.map_nil,List.length_cons,List.length_nil,Nat.zero_add,Nat.reduceAdd,List.replicate,List.cons_append,List.nil_append,Jd,Qd,wC,wNil,Qz,wSet,Q0,Um,Yy,wLst,sz0,sz1,Gz,Xi,true_and,Jf,Ux,Qeh,isiD,Yc,look,List.set_cons_succ,List.set_cons_zero,Qm]
    exact ⟨sm0,hk⟩
  ·have hl:=Qhj x
   have big:∀{n:Nat},n<=30000->n<sizeLine:=λh=>Nat.lt_of_le_of_lt h (by decide)
   simp only [Jy,wSeq,wIf,wNot,env0,List.map_cons,List.map_nil,List.length_cons,List.length_nil,Nat.zero_add,Nat.reduceAdd,List.replicate,List.cons_append,List.nil_append,Jd,Qd,wC,wNil,Qz,wSet,Q0,Um,Yy,wLst,sz0,sz1,Gz,Xi,true_and,Jf,Ux,Qeh,isiD,Yc,look,List.set_cons_succ,List.set_cons_zero,Qm,BEq.rfl,Bool.not_true,Bool.false_eq_true,reduceIte]
   refine ⟨x,rfl,hx,?_⟩
   simp only [Qms]
   generalize wds x=ws at hl h1 h2
   refine ⟨ws,rfl,λho=>?_,λho=>h2 (by unfold P61.rd;rw [ho];rfl)⟩
   have bad:P61.rd ws=none->((Int.natAbs 0).log2<1920/\(toString (0:Int)).length<=700)/\kx (D.obj (Str.ofString "NoText") [(Str.ofString "at",0)]):=λz=>⟨sm0,h2 z⟩
   have rdN:P61.run [[]] ws=none->P61.rd ws=none:=λz=>by unfold P61.rd;rw [if_pos ho,z]
   have rdS:∀t,P61.run [[]] ws=some [[.o t]]->P61.rd ws=some t:=λt z=>by unfold P61.rd;rw [if_pos ho,z]
   have rdB:∀row,P61.run [[]] ws=some [row]->(∀t,row≠[.o t])->P61.rd ws=none:=λrow z hn=>by
    unfold P61.rd
    rw [if_pos ho,z]
    match row,hn with
    | [],_=>rfl
    | [.w x],_=>rfl
    | [.o t],hn=>exact absurd rfl (hn t)
    | a::b::r,_=>cases a <;> rfl
   refine ⟨Jx _,Jx _,λi ρ=>∃(st:List (List El)) (o3 o4:Option D),P61.run st (ws.drop i)=P61.run [[]] ws/\P61.okB (st.length-1) (ws.drop i)=true/\1<=st.length/\st.length<=i+1/\(∀row∈st,row.length<=i)/\ρ=[some (.str x),some (.fls (ws.map .str)),some (.lst (rD st)),o3,o4],⟨[[]],none,none,rfl,ho,Nat.le_refl _,Nat.le_refl _,by simp,rfl⟩,?_,?_⟩
   ·rintro i d ρ hd ⟨st,o3,o4,hr,hb,hs1,hs2,hrow,rfl⟩
    rw [List.getElem?_map] at hd
    obtain ⟨u,hu,rfl⟩:=Option.map_eq_some_iff.mp hd
    have hi:=(List.getElem?_eq_some_iff.mp hu).1
    rw [Qcc hu] at hr hb
    simp only [gN,wIf,List.set_cons_succ,List.set_cons_zero,Qho,wMt,Qd,wLst,wNil,List.length_nil,sz0,true_and,wSeq,Qno,Yy,r_bl,wBin,wC,Jf,look,Qqt,BEq.rfl,Qm,Qq0,Qid,Ji]
    by_cases c1:u=Str.ofString "("
    ·rw [show u=P61.op from c1,P61.Qfj] at hr
     rw [show u=P61.op from c1,P61.Qfq,Bool.and_eq_true] at hb
     simp only [c1,decide_true,reduceIte]
     refine ⟨by rw [Qq2];exact big (by omega),[]::st,_,_,hr,by rw [List.length_cons,Nat.add_sub_cancel,show st.length=st.length-1+1 by omega];exact hb.2,by simp,by rw [List.length_cons];omega,λrow hm=>?_,by rw [U8];rfl⟩
     rcases List.mem_cons.mp hm with rfl | hm
     ·exact Nat.zero_le _
     ·exact Nat.le_succ_of_le (hrow row hm)
    ·simp only [c1,decide_false,Bool.false_eq_true,reduceIte]
     by_cases c2:u=Str.ofString ")"
     ·rw [show u=P61.cp from c2] at hr
      rw [show u=P61.cp from c2,P61.Qfr,Bool.and_eq_true] at hb
      have h2':=of_decide_eq_true hb.1
      obtain ⟨row,up,rest,rfl⟩:∃row up rest,st=row::up::rest:=by
       match st,h2' with
       | a::b::c,_=>exact ⟨a,b,c,rfl⟩
       | [a],h=>simp at h
       | [],h=>simp at h
      have hr1:=hrow row (by simp)
      have hu1:=hrow up (by simp)
      simp only [c2,decide_true,Qns,look,wTkl,List.set_cons_succ,List.set_cons_zero,Jf,Qm,Q0,Qd,wNil,reduceIte]
      rw [U8]
      refine ⟨_,_,rfl,Uy row,?_⟩
      refine ⟨row,rfl,by omega,λt' hmk=>?_,λhmk=>?_⟩
      ·rw [P61.Qh5 hmk] at hr
       rw [U8]
       refine ⟨_,_,rfl,Uy up,by rw [List.length_map];exact big (by omega),?_⟩
       refine ⟨Gd t',(up++[.o t'])::rest,_,_,hr,hb.2,by simp,by simp only [List.length_cons] at hs2 ⊢;omega,λq hm=>?_,by rw [U8,List.map_append];rfl⟩
       rcases List.mem_cons.mp hm with rfl | hm
       ·rw [List.length_append,List.length_singleton];omega
       ·exact Nat.le_succ_of_le (hrow q (by simp [hm]))
      ·refine h2 (rdN ?_)
       rw [← hr]
       have:P61.run (row::up::rest) (P61.cp::List.drop (i+1) ws)=none:=by
        cases hz:P61.run (row::up::rest) (P61.cp::List.drop (i+1) ws) with
        | none=>rfl
        | some z =>
         obtain ⟨r1,r2,r3,t,e,hm,_⟩:=P61.Qa5 hz
         cases e
         rw [hmk] at hm;cases hm
       exact this
     ·obtain ⟨row,rest,rfl⟩:∃row rest,st=row::rest:=by
       match st,hs1 with
       | a::b,_=>exact ⟨a,b,rfl⟩
      rw [P61.Qh4 c1 c2] at hr
      rw [P61.Qiu c1 c2] at hb
      simp only [c2,decide_false,Bool.false_eq_true,wTkl,Jf,look,Q0,Qd,wNil,List.set_cons_succ,List.set_cons_zero,Qm,reduceIte]
      rw [U8]
      have hu1:=hrow row (by simp)
      refine ⟨_,_,rfl,Uy row,by rw [List.length_map];exact big (by omega),u,rfl,?_⟩
      refine ⟨Ue _,(row++[P61.pwE u])::rest,_,_,hr,hb,by simp,by simp only [List.length_cons] at hs2 ⊢;omega,λq hm=>?_,by rw [U8,List.map_append];rfl⟩
      rcases List.mem_cons.mp hm with rfl | hm
      ·rw [List.length_append,List.length_singleton];omega
      ·exact Nat.le_succ_of_le (hrow q (by simp [hm]))
   ·rintro ρ ⟨st,o3,o4,hr,hb,hs1,hs2,hrow,rfl⟩
    rw [List.length_map,List.drop_length] at hr hb
    have hz:st.length-1=0:=of_decide_eq_true hb
    obtain ⟨row,rfl⟩:∃row,st=[row]:=List.length_eq_one_iff.mp (by omega)
    have hr:some [row]=P61.run [[]] ws:=hr
    have hlr:=hrow row (by simp)
    rw [List.length_map] at hlr
    have e:rD [row]=[.lst (row.map eD)]:=rfl
    rw [e]
    simp only [wSeq,wIf,wOr,Jd,Qd,wC,wNil,Qz,wRet,Zr,wBin,Jf,reduceIte,wNot,Ux,Q0,r_bl,look,Qm,V7,Qe3,List.getElem?_cons_zero,Qcx,List.length_map,Qt8,Ji]
    by_cases hl1:row.length=1
    ·rw [if_neg (by simp [hl1])]
     clear e
     obtain ⟨e,rfl⟩:=List.length_eq_one_iff.mp hl1
     refine ⟨[e],rfl,(by decide:1<=100000),?_⟩
     cases e with
     | o t =>
      simp only [List.all_cons,isO,List.all_nil,Bool.and_self,List.map_cons,List.map_nil,List.getElem?_cons_zero,Qm,Yc,Bool.not_true,Bool.false_eq_true,reduceIte]
      exact ⟨Gd t,h1 t (rdS t hr.symm)⟩
     | w y =>
      simp only [List.all_cons,isO,List.all_nil,Bool.and_true,Yc,Bool.not_false,reduceIte]
      exact bad (rdB _ hr.symm λt z=>by cases z)
    ·rw [if_pos (by simp;omega)]
     exact bad (rdB _ hr.symm λt z=>hl1 (by rw [z];rfl))
end K61
variable {k d:Nat}
namespace K61
open PySem PySem.Spec L2 PV P58
open P61 (El)
open PyProof.Rows (envOfC)
def Qah (s:Stmt) (i:Nat):Stmt:=match s with
 | .ClassDef _ _ _ b _ _ _ _ _ _ _=>b.getD i (.Pass ⟨0,0,0,0⟩)
 | s=>s
abbrev Vg:Stmt:=Qah (top 29) 0
theorem Qbt:FnScope ["self","one","other"] ["self","one","other"] (Qa Vg):=⟨rfl,rfl,rfl,by decide +kernel,rfl,by decide +kernel,by decide +kernel⟩
theorem Qb1 (F:Fun K "__init__" "Beside.__init__" Vg f fd) (hc:Cls K C) (hn:∀i,Jg K C (fldS i)):FnOk P w K mg base CX0 1 f fd ("self" :: fldN 2) (Qhz C 2):=by
 refine F.ok Qbt (λvs H Q E h=>by obtain ⟨a,dx,ys,rfl,hl,_⟩:=h;show ys.length+1=_;rw [hl];rfl) λcdv A outer s H vs Q E hr h=>?_
 obtain ⟨a,dx,ys,rfl,hl,ha,q⟩:=h
 obtain ⟨y,z,rfl⟩:=len2 hl
 refine ⟨_,Xa (Qa6 (pv 0) (pv 1) rfl) (U9 (Qa6 (pv 0) (pv 2) rfl)),?_⟩
 refine ⟨_,rfl,_,rfl,a,C,dx,[],rfl,ha,hc,hn 0,by decide,_,rfl,_,rfl,a,C,dx,_,rfl,Qi,hc,hn 1,by show 1<1000;decide,?_⟩
 rw [Qhs]
 exact q
abbrev V5:Stmt:=Qah (top 30) 0
theorem Qct:FnScope ["self","one","other"] ["self","one","other"] (Qa V5):=⟨rfl,rfl,rfl,by decide +kernel,rfl,by decide +kernel,by decide +kernel⟩
theorem Qc7 (F:Fun K "__init__" "Above.__init__" V5 f fd) (hc:Cls K C) (hn:∀i,Jg K C (fldS i)):FnOk P w K mg base CX0 1 f fd ("self" :: fldN 2) (Qhz C 2):=by
 refine F.ok Qct (λvs H Q E h=>by obtain ⟨a,dx,ys,rfl,hl,_⟩:=h;show ys.length+1=_;rw [hl];rfl) λcdv A outer s H vs Q E hr h=>?_
 obtain ⟨a,dx,ys,rfl,hl,ha,q⟩:=h
 obtain ⟨y,z,rfl⟩:=len2 hl
 refine ⟨_,Xa (Qa6 (pv 0) (pv 1) rfl) (U9 (Qa6 (pv 0) (pv 2) rfl)),?_⟩
 refine ⟨_,rfl,_,rfl,a,C,dx,[],rfl,ha,hc,hn 0,by decide,_,rfl,_,rfl,a,C,dx,_,rfl,Qi,hc,hn 1,by show 1<1000;decide,?_⟩
 rw [Qhs]
 exact q
abbrev Vf:Stmt:=Qah (top 31) 0
theorem Qbr:FnScope ["self","one"] ["self","one"] (Qa Vf):=⟨rfl,rfl,rfl,by decide +kernel,rfl,by decide +kernel,by decide +kernel⟩
theorem Qbz (F:Fun K "__init__" "Turned.__init__" Vf f fd) (hc:Cls K C) (hn:∀i,Jg K C (fldS i)):FnOk P w K mg base CX0 1 f fd ("self" :: fldN 1) (Qhz C 1):=by
 refine F.ok Qbr (λvs H Q E h=>by obtain ⟨a,dx,ys,rfl,hl,_⟩:=h;show ys.length+1=_;rw [hl];rfl) λcdv A outer s H vs Q E hr h=>?_
 obtain ⟨a,dx,ys,rfl,hl,ha,q⟩:=h
 obtain ⟨y,rfl⟩:=len1 hl
 refine ⟨_,U9 (Qa6 (pv 0) (pv 1) rfl),?_⟩
 exact ⟨_,rfl,_,rfl,a,C,dx,[],rfl,ha,hc,hn 0,by decide,q⟩
abbrev Zn:Stmt:=Qah (top 32) 0
theorem Xq:FnScope ["self","one"] ["self","one"] (Qa Zn):=⟨rfl,rfl,rfl,by decide +kernel,rfl,by decide +kernel,by decide +kernel⟩
theorem X0 (F:Fun K "__init__" "Mirrored.__init__" Zn f fd) (hc:Cls K C) (hn:∀i,Jg K C (fldS i)):FnOk P w K mg base CX0 1 f fd ("self" :: fldN 1) (Qhz C 1):=by
 refine F.ok Xq (λvs H Q E h=>by obtain ⟨a,dx,ys,rfl,hl,_⟩:=h;show ys.length+1=_;rw [hl];rfl) λcdv A outer s H vs Q E hr h=>?_
 obtain ⟨a,dx,ys,rfl,hl,ha,q⟩:=h
 obtain ⟨y,rfl⟩:=len1 hl
 refine ⟨_,U9 (Qa6 (pv 0) (pv 1) rfl),?_⟩
 exact ⟨_,rfl,_,rfl,a,C,dx,[],rfl,ha,hc,hn 0,by decide,q⟩
def gwrd (d:Nat) (x:Str):GA:=λds k=>∃t,ds=[oD t]/\Qma t=x/\t.h<=d/\k (.str (tx t))
def gwr (x:Str):GA:=gwrd 8 x
def WrD (P:Program) (w:World) (K:PySem.W.Frag) (mg:Str->Option Value) (base:Heap) (g:Str->GA) (k:Nat):Prop:=∀x C,isC x=true->atN K x C->ClsD K C/\∃f fd,Meth K C "written" f/\FnOk P w K mg base CX0 k f fd ["self"] (spR K (g x))/\Zi K fd ["self"] []
abbrev WrN (P:Program) (w:World) (K:PySem.W.Frag) (mg:Str->Option Value) (base:Heap):Prop:=WrD P w K mg base gwr 12
theorem Qlr {k:Str->List D->Prop}:Qjf (.ist x ds) k=k x ds:=rfl
theorem Ua {Q:D->Prop} (hg:g=gwrd d) (h:t.h<=d) (k:Q (.str (tx t))):Qjf (oD t) λx ds=>isC x=true/\ds.length<=2/\g x [oD t] λr=>Q r:=by
 subst hg
 obtain ⟨ds,e,h1,h2⟩:=Qfu t
 rw [e]
 exact ⟨h1,h2,t,by rw [e],rfl,h,k⟩
abbrev Zt:Stmt:=Qah (top 26) 2
theorem Qeg:FnScope ["self"] ["self"] (Qa Zt):=⟨rfl,rfl,rfl,by decide +kernel,rfl,by decide +kernel,by decide +kernel⟩
def Qgm:Tg:={ own:=λi=>false,io:=[] }
theorem Xx (F:Fun K "written" "Level.written" Zt f fd):FnOk P w K mg base CX0 1 f fd ["self"] (spR K (gwrd d (Str.ofString "Level"))):=by
 refine U3 (k:=0) (T:=Qgm) (ww:=wRet (wC (.str (Str.ofString "level")))) F Qeg rfl (by decide) (λds kk h=>?_) (λcdv A outer s H E hr=>Qj (Q5 Qk)) (λds kk h=>?_)
 ·obtain ⟨t,rfl,_⟩:=h
  rfl
 ·obtain ⟨t,rfl,hc,ht,k⟩:=h
  rw [show tx t=Str.ofString "level" from ?_] at k
  ·exact k
  ·cases t with
   | lf i=>exact Yo i (p:=λx y=>x=Str.ofString "Level" -> y=Str.ofString "level") (by decide +kernel) (by decide +kernel) (by decide +kernel) hc
   | un b u=>exact absurd (show unC b=_ from hc) (by cases b <;> decide +kernel)
   | bi b u v=>exact absurd (show biC b=_ from hc) (by cases b <;> decide +kernel)
abbrev Y0:Stmt:=Qah (top 27) 2
theorem Qbq:FnScope ["self"] ["self"] (Qa Y0):=⟨rfl,rfl,rfl,by decide +kernel,rfl,by decide +kernel,by decide +kernel⟩
def Qco:Tg:={ own:=λi=>false,io:=[] }
theorem Uz (F:Fun K "written" "Upright.written" Y0 f fd):FnOk P w K mg base CX0 1 f fd ["self"] (spR K (gwrd d (Str.ofString "Upright"))):=by
 refine U3 (k:=0) (T:=Qco) (ww:=wRet (wC (.str (Str.ofString "upright")))) F Qbq rfl (by decide) (λds kk h=>?_) (λcdv A outer s H E hr=>Qj (Q5 Qk)) (λds kk h=>?_)
 ·obtain ⟨t,rfl,_⟩:=h
  rfl
 ·obtain ⟨t,rfl,hc,ht,k⟩:=h
  rw [show tx t=Str.ofString "upright" from ?_] at k
  ·exact k
  ·cases t with
   | lf i=>exact Yo i (p:=λx y=>x=Str.ofString "Upright" -> y=Str.ofString "upright") (by decide +kernel) (by decide +kernel) (by decide +kernel) hc
   | un b u=>exact absurd (show unC b=_ from hc) (by cases b <;> decide +kernel)
   | bi b u v=>exact absurd (show biC b=_ from hc) (by cases b <;> decide +kernel)
abbrev Za:Stmt:=Qah (top 28) 2
theorem Qcs:FnScope ["self"] ["self"] (Qa Za):=⟨rfl,rfl,rfl,by decide +kernel,rfl,by decide +kernel,by decide +kernel⟩
def Qeb:Tg:={ own:=λi=>false,io:=[] }
theorem Gr (F:Fun K "written" "Single.written" Za f fd):FnOk P w K mg base CX0 1 f fd ["self"] (spR K (gwrd d (Str.ofString "Single"))):=by
 refine U3 (k:=0) (T:=Qeb) (ww:=wRet (wC (.str (Str.ofString "single")))) F Qcs rfl (by decide) (λds kk h=>?_) (λcdv A outer s H E hr=>Qj (Q5 Qk)) (λds kk h=>?_)
 ·obtain ⟨t,rfl,_⟩:=h
  rfl
 ·obtain ⟨t,rfl,hc,ht,k⟩:=h
  rw [show tx t=Str.ofString "single" from ?_] at k
  ·exact k
  ·cases t with
   | lf i=>exact Yo i (p:=λx y=>x=Str.ofString "Single" -> y=Str.ofString "single") (by decide +kernel) (by decide +kernel) (by decide +kernel) hc
   | un b u=>exact absurd (show unC b=_ from hc) (by cases b <;> decide +kernel)
   | bi b u v=>exact absurd (show biC b=_ from hc) (by cases b <;> decide +kernel)
abbrev Zb:Stmt:=Qah (top 29) 3
theorem Ve:FnScope ["self","one","other"] ["self"] (Qa Zb):=⟨rfl,rfl,rfl,by decide +kernel,rfl,by decide +kernel,by decide +kernel⟩
def Qec:Tg:={ own:=λi=>i == 1 || i == 2,io:=[] }
theorem Gs (F:Fun K "written" "Beside.written" Zb f fd) (B:Bn K mg) (Wr:WrD P w K mg base g k) (hg:0<d->g=gwrd (d-1)) (h8:d<=8):FnOk P w K mg base CX0 (k+1) f fd ["self"] (spR K (gwrd d (Str.ofString "Beside"))):=by
 refine U3 (T:=Qec) (ww:=(wSeq (wSet 1 (U6 isC g (wFld isC 0 (wVar 0)))) (wSeq (wSet 2 (U6 isC g (wFld isC 1 (wVar 0)))) (wRet (wFs2 (Str.ofString "(") 1 (Str.ofString " beside ") 2 (Str.ofString ")")))))) F Ve rfl (by decide) (λds kk h=>?_) (λcdv A outer s H E hr=>Qe (Q4 (i:=1) (Ud (isC:=isC) (g:=g) Wr hr (Qbf (isC:=isC) 0 (B.fl 0) (Qc 0))) Ve.nd) (Qe (Q4 (i:=2) (Ud (isC:=isC) (g:=g) Wr hr (Qbf (isC:=isC) 1 (B.fl 1) (Qc 0))) Ve.nd) (Qj (Q5 (Qna (i:=1) (j:=2)))))) (λds kk h=>?_)
 ·obtain ⟨t,rfl,_⟩:=h
  rfl
 ·obtain ⟨t,rfl,hc,ht,k⟩:=h
  have hz:(tx t).length<=1310720:=Nat.le_trans (Xj t) (Nat.le_trans (Nat.mul_le_mul_left 20 (Nat.pow_le_pow_right (by decide) (Nat.le_trans ht h8))) (by decide))
  have sz:∀{n:Nat},n<=1310720->n<=sizeLine:=λh=>Nat.le_trans h (by decide)
  cases t with
  | lf i=>exact absurd hc (Yo i (p:=λx _=>x≠Str.ofString "Beside") (by decide +kernel) (by decide +kernel) (by decide +kernel))
  | un b t =>
   exact absurd (show unC b=_ from hc) (by cases b <;> decide +kernel)
  | bi b t u =>
   obtain rfl:b=false:=by
    have hc:biC b=_:=hc
    revert hc;cases b <;> decide +kernel
   have hG:=hg (by simp only [Tr.h] at ht;omega)
   have ht':t.h<=d-1:=by simp only [Tr.h] at ht;omega
   have hu':u.h<=d-1:=by simp only [Tr.h] at ht;omega
   have e:tx (.bi false t u)=Str.ofString "(" ++ tx t++Str.ofString " beside " ++ tx u++Str.ofString ")":=by
    show Str.ofString "(" ++ tx t++Str.ofString " " ++ biW false++Str.ofString " " ++ tx u++Str.ofString ")" = _
    rw [show Str.ofString " beside " = Str.ofString " " ++ biW false++Str.ofString " " by decide +kernel]
    simp only [Str.append_assoc]
   rw [e] at hz k
   have hi:isC (biC false)=true:=by decide +kernel
   simp only [wSeq,wSet,U6,wFld,env0,oD,List.map_cons,List.map_nil,List.length_cons,List.length_nil,Nat.zero_add,Nat.reduceAdd,List.replicate,List.cons_append,List.nil_append,wRet,wFs2,Qcp,Jf,look,List.set_cons_succ,List.set_cons_zero,Qm,Qlr,hi,Nat.le_refl,List.getElem?_cons_succ,List.getElem?_cons_zero,true_and]
   refine Ua hG ht' ?_
   refine Ua hG hu' ?_
   simp only [Qee]
   exact ⟨sz hz,k⟩
abbrev Zu:Stmt:=Qah (top 30) 3
theorem V4:FnScope ["self","one","other"] ["self"] (Qa Zu):=⟨rfl,rfl,rfl,by decide +kernel,rfl,by decide +kernel,by decide +kernel⟩
def Qgn:Tg:={ own:=λi=>i == 1 || i == 2,io:=[] }
theorem Xy (F:Fun K "written" "Above.written" Zu f fd) (B:Bn K mg) (Wr:WrD P w K mg base g k) (hg:0<d->g=gwrd (d-1)) (h8:d<=8):FnOk P w K mg base CX0 (k+1) f fd ["self"] (spR K (gwrd d (Str.ofString "Above"))):=by
 refine U3 (T:=Qgn) (ww:=(wSeq (wSet 1 (U6 isC g (wFld isC 0 (wVar 0)))) (wSeq (wSet 2 (U6 isC g (wFld isC 1 (wVar 0)))) (wRet (wFs2 (Str.ofString "(") 1 (Str.ofString " above ") 2 (Str.ofString ")")))))) F V4 rfl (by decide) (λds kk h=>?_) (λcdv A outer s H E hr=>Qe (Q4 (i:=1) (Ud (isC:=isC) (g:=g) Wr hr (Qbf (isC:=isC) 0 (B.fl 0) (Qc 0))) V4.nd) (Qe (Q4 (i:=2) (Ud (isC:=isC) (g:=g) Wr hr (Qbf (isC:=isC) 1 (B.fl 1) (Qc 0))) V4.nd) (Qj (Q5 (Qna (i:=1) (j:=2)))))) (λds kk h=>?_)
 ·obtain ⟨t,rfl,_⟩:=h
  rfl
 ·obtain ⟨t,rfl,hc,ht,k⟩:=h
  have hz:(tx t).length<=1310720:=Nat.le_trans (Xj t) (Nat.le_trans (Nat.mul_le_mul_left 20 (Nat.pow_le_pow_right (by decide) (Nat.le_trans ht h8))) (by decide))
  have sz:∀{n:Nat},n<=1310720->n<=sizeLine:=λh=>Nat.le_trans h (by decide)
  cases t with
  | lf i=>exact absurd hc (Yo i (p:=λx _=>x≠Str.ofString "Above") (by decide +kernel) (by decide +kernel) (by decide +kernel))
  | un b t =>
   exact absurd (show unC b=_ from hc) (by cases b <;> decide +kernel)
  | bi b t u =>
   obtain rfl:b=true:=by
    have hc:biC b=_:=hc
    revert hc;cases b <;> decide +kernel
   have hG:=hg (by simp only [Tr.h] at ht;omega)
   have ht':t.h<=d-1:=by simp only [Tr.h] at ht;omega
   have hu':u.h<=d-1:=by simp only [Tr.h] at ht;omega
   have e:tx (.bi true t u)=Str.ofString "(" ++ tx t++Str.ofString " above " ++ tx u++Str.ofString ")":=by
    show Str.ofString "(" ++ tx t++Str.ofString " " ++ biW true++Str.ofString " " ++ tx u++Str.ofString ")" = _
    rw [show Str.ofString " above " = Str.ofString " " ++ biW true++Str.ofString " " by decide +kernel]
    simp only [Str.append_assoc]
   rw [e] at hz k
   have hi:isC (biC true)=true:=by decide +kernel
   simp only [wSeq,wSet,U6,wFld,env0,oD,List.map_cons,List.map_nil,List.length_cons,List.length_nil,Nat.zero_add,Nat.reduceAdd,List.replicate,List.cons_append,List.nil_append,wRet,wFs2,Qcp,Jf,look,List.set_cons_succ,List.set_cons_zero,Qm,Qlr,hi,Nat.le_refl,List.getElem?_cons_succ,List.getElem?_cons_zero,true_and]
   refine Ua hG ht' ?_
   refine Ua hG hu' ?_
   simp only [Qee]
   exact ⟨sz hz,k⟩
abbrev Y9:Stmt:=Qah (top 31) 3
theorem Gn:FnScope ["self","one"] ["self"] (Qa Y9):=⟨rfl,rfl,rfl,by decide +kernel,rfl,by decide +kernel,by decide +kernel⟩
def Qea:Tg:={ own:=λi=>i == 1,io:=[] }
theorem Gq (F:Fun K "written" "Turned.written" Y9 f fd) (B:Bn K mg) (Wr:WrD P w K mg base g k) (hg:0<d->g=gwrd (d-1)) (h8:d<=8):FnOk P w K mg base CX0 (k+1) f fd ["self"] (spR K (gwrd d (Str.ofString "Turned"))):=by
 refine U3 (T:=Qea) (ww:=(wSeq (wSet 1 (U6 isC g (wFld isC 0 (wVar 0)))) (wRet (wFs1 (Str.ofString "(turned ") 1 (Str.ofString ")"))))) F Gn rfl (by decide) (λds kk h=>?_) (λcdv A outer s H E hr=>Qe (Q4 (i:=1) (Ud (isC:=isC) (g:=g) Wr hr (Qbf (isC:=isC) 0 (B.fl 0) (Qc 0))) Gn.nd) (Qj (Q5 (Qnb (i:=1))))) (λds kk h=>?_)
 ·obtain ⟨t,rfl,_⟩:=h
  rfl
 ·obtain ⟨t,rfl,hc,ht,k⟩:=h
  have hz:(tx t).length<=1310720:=Nat.le_trans (Xj t) (Nat.le_trans (Nat.mul_le_mul_left 20 (Nat.pow_le_pow_right (by decide) (Nat.le_trans ht h8))) (by decide))
  have sz:∀{n:Nat},n<=1310720->n<=sizeLine:=λh=>Nat.le_trans h (by decide)
  cases t with
  | lf i=>exact absurd hc (Yo i (p:=λx _=>x≠Str.ofString "Turned") (by decide +kernel) (by decide +kernel) (by decide +kernel))
  | un b t =>
   obtain rfl:b=false:=by
    have hc:unC b=_:=hc
    revert hc;cases b <;> decide +kernel
   have hG:=hg (by simp only [Tr.h] at ht;omega)
   have ht':t.h<=d-1:=by simp only [Tr.h] at ht;omega
   have e:tx (.un false t)=Str.ofString "(turned " ++ tx t++Str.ofString ")":=by
    show Str.ofString "(" ++ unW false++Str.ofString " " ++ tx t++Str.ofString ")" = _
    rw [show Str.ofString "(turned " = Str.ofString "(" ++ unW false++Str.ofString " " by decide +kernel]
   rw [e] at hz k
   have hi:isC (unC false)=true:=by decide +kernel
   simp only [wSeq,wSet,U6,wFld,env0,oD,List.map_cons,List.map_nil,List.length_cons,List.length_nil,Nat.zero_add,Nat.reduceAdd,List.replicate,List.cons_append,List.nil_append,wRet,wFs1,Qcp,Jf,look,List.set_cons_succ,List.set_cons_zero,Qm,Qlr,hi,List.getElem?_cons_zero,true_and]
   refine ⟨by decide,Ua hG ht' ?_⟩
   simp only [Qee]
   exact ⟨sz hz,k⟩
  | bi b t u =>
   exact absurd (show biC b=_ from hc) (by cases b <;> decide +kernel)
abbrev Ym:Stmt:=Qah (top 32) 3
theorem V0:FnScope ["self","one"] ["self"] (Qa Ym):=⟨rfl,rfl,rfl,by decide +kernel,rfl,by decide +kernel,by decide +kernel⟩
def Qbk:Tg:={ own:=λi=>i == 1,io:=[] }
theorem V2 (F:Fun K "written" "Mirrored.written" Ym f fd) (B:Bn K mg) (Wr:WrD P w K mg base g k) (hg:0<d->g=gwrd (d-1)) (h8:d<=8):FnOk P w K mg base CX0 (k+1) f fd ["self"] (spR K (gwrd d (Str.ofString "Mirrored"))):=by
 refine U3 (T:=Qbk) (ww:=(wSeq (wSet 1 (U6 isC g (wFld isC 0 (wVar 0)))) (wRet (wFs1 (Str.ofString "(mirrored ") 1 (Str.ofString ")"))))) F V0 rfl (by decide) (λds kk h=>?_) (λcdv A outer s H E hr=>Qe (Q4 (i:=1) (Ud (isC:=isC) (g:=g) Wr hr (Qbf (isC:=isC) 0 (B.fl 0) (Qc 0))) V0.nd) (Qj (Q5 (Qnb (i:=1))))) (λds kk h=>?_)
 ·obtain ⟨t,rfl,_⟩:=h
  rfl
 ·obtain ⟨t,rfl,hc,ht,k⟩:=h
  have hz:(tx t).length<=1310720:=Nat.le_trans (Xj t) (Nat.le_trans (Nat.mul_le_mul_left 20 (Nat.pow_le_pow_right (by decide) (Nat.le_trans ht h8))) (by decide))
  have sz:∀{n:Nat},n<=1310720->n<=sizeLine:=λh=>Nat.le_trans h (by decide)
  cases t with
  | lf i=>exact absurd hc (Yo i (p:=λx _=>x≠Str.ofString "Mirrored") (by decide +kernel) (by decide +kernel) (by decide +kernel))
  | un b t =>
   obtain rfl:b=true:=by
    have hc:unC b=_:=hc
    revert hc;cases b <;> decide +kernel
   have hG:=hg (by simp only [Tr.h] at ht;omega)
   have ht':t.h<=d-1:=by simp only [Tr.h] at ht;omega
   have e:tx (.un true t)=Str.ofString "(mirrored " ++ tx t++Str.ofString ")":=by
    show Str.ofString "(" ++ unW true++Str.ofString " " ++ tx t++Str.ofString ")" = _
    rw [show Str.ofString "(mirrored " = Str.ofString "(" ++ unW true++Str.ofString " " by decide +kernel]
   rw [e] at hz k
   have hi:isC (unC true)=true:=by decide +kernel
   simp only [wSeq,wSet,U6,wFld,env0,oD,List.map_cons,List.map_nil,List.length_cons,List.length_nil,Nat.zero_add,Nat.reduceAdd,List.replicate,List.cons_append,List.nil_append,wRet,wFs1,Qcp,Jf,look,List.set_cons_succ,List.set_cons_zero,Qm,Qlr,hi,List.getElem?_cons_zero,true_and]
   refine ⟨by decide,Ua hG ht' ?_⟩
   simp only [Qee]
   exact ⟨sz hz,k⟩
  | bi b t u =>
   exact absurd (show biC b=_ from hc) (by cases b <;> decide +kernel)
structure HW (K:PySem.W.Frag) (x q:Str) (st:Stmt):Prop where
 ex:∃C f fd,atN K x C/\ClsD K C/\Meth K C "written" f/\Fun K "written" q st f fd/\Zi K fd ["self"] []
theorem Qjg (h:isC x=true):x=Str.ofString "Level" \/ x=Str.ofString "Upright" \/ x=Str.ofString "Single" \/ x=Str.ofString "Beside" \/ x=Str.ofString "Above" \/ x=Str.ofString "Turned" \/ x=Str.ofString "Mirrored":=by
 simpa only [isC,Bool.or_eq_true,decide_eq_true_eq,or_assoc] using h
theorem Yb {g:GA} (h:HW K x q st) (hc:atN K x C) (F:∀f fd,Fun K "written" q st f fd->FnOk P w K mg base CX0 k f fd ["self"] (spR K g)):ClsD K C/\∃f fd,Meth K C "written" f/\FnOk P w K mg base CX0 k f fd ["self"] (spR K g)/\Zi K fd ["self"] []:=by
 obtain ⟨C',f,fd,h1,h2,h3,h4,h5⟩:=h.ex
 obtain rfl:=Yi hc h1
 exact ⟨h2,f,fd,h3,F f fd h4,h5⟩
theorem wrN (B:Bn K mg) (h_Level:HW K "Level" "Level.written" Zt) (h_Upright:HW K "Upright" "Upright.written" Y0) (h_Single:HW K "Single" "Single.written" Za) (h_Beside:HW K "Beside" "Beside.written" Zb) (h_Above:HW K "Above" "Above.written" Zu) (h_Turned:HW K "Turned" "Turned.written" Y9) (h_Mirrored:HW K "Mirrored" "Mirrored.written" Ym):WrN P w K mg base:=by
 have n0:WrD P w K mg base (λ_ _ _=>False) 0:=λx C hx hc=>by
  have no:∀f fd,FnOk P w K mg base CX0 0 f fd ["self"] (spR K λ_ _=>False):=λf fd=>⟨λvs H Q E h=>by obtain ⟨ds,_,_,_,h,_⟩:=h;exact h.elim,λA outer s H args us vs Q E _ _ _ _ h=>by obtain ⟨ds,_,_,_,h,_⟩:=h;exact h.elim⟩
  rcases Qjg hx with rfl | rfl | rfl | rfl | rfl | rfl | rfl
  ·exact Yb h_Level hc λf fd _=>no f fd
  ·exact Yb h_Upright hc λf fd _=>no f fd
  ·exact Yb h_Single hc λf fd _=>no f fd
  ·exact Yb h_Beside hc λf fd _=>no f fd
  ·exact Yb h_Above hc λf fd _=>no f fd
  ·exact Yb h_Turned hc λf fd _=>no f fd
  ·exact Yb h_Mirrored hc λf fd _=>no f fd
 have st:∀d,d<=8->WrD P w K mg base (gwrd d) (d+1):=λd=>by
  induction d with
  | zero =>
   intro _ x C hx hc
   rcases Qjg hx with rfl | rfl | rfl | rfl | rfl | rfl | rfl
   ·exact Yb h_Level hc λf fd F=>(Xx F).mono (by omega)
   ·exact Yb h_Upright hc λf fd F=>(Uz F).mono (by omega)
   ·exact Yb h_Single hc λf fd F=>(Gr F).mono (by omega)
   ·exact Yb h_Beside hc λf fd F=>(Gs F B n0 (λh=>absurd h (by decide)) (by decide)).mono (by omega)
   ·exact Yb h_Above hc λf fd F=>(Xy F B n0 (λh=>absurd h (by decide)) (by decide)).mono (by omega)
   ·exact Yb h_Turned hc λf fd F=>(Gq F B n0 (λh=>absurd h (by decide)) (by decide)).mono (by omega)
   ·exact Yb h_Mirrored hc λf fd F=>(V2 F B n0 (λh=>absurd h (by decide)) (by decide)).mono (by omega)
  | succ d ih =>
   intro hd x C hx hc
   rcases Qjg hx with rfl | rfl | rfl | rfl | rfl | rfl | rfl
   ·exact Yb h_Level hc λf fd F=>(Xx F).mono (by omega)
   ·exact Yb h_Upright hc λf fd F=>(Uz F).mono (by omega)
   ·exact Yb h_Single hc λf fd F=>(Gr F).mono (by omega)
   ·exact Yb h_Beside hc λf fd F=>(Gs F B (ih (by omega)) (λ_=>rfl) hd).mono (by omega)
   ·exact Yb h_Above hc λf fd F=>(Xy F B (ih (by omega)) (λ_=>rfl) hd).mono (by omega)
   ·exact Yb h_Turned hc λf fd F=>(Gq F B (ih (by omega)) (λ_=>rfl) hd).mono (by omega)
   ·exact Yb h_Mirrored hc λf fd F=>(V2 F B (ih (by omega)) (λ_=>rfl) hd).mono (by omega)
 intro x C hx hc
 obtain ⟨h1,f,fd,h2,h3,h4⟩:=st 8 (by decide) x C hx hc
 exact ⟨h1,f,fd,h2,h3.mono (by decide),h4⟩
end K61
variable {GR:PV.GI}
namespace K61
open PySem PySem.Spec L2 PV P58
open P61 (El)
open S03 (Qej G9 Qbw V8 Qfm Qig)
open PyProof.Rows (envOfC)
def g_tt (d:Nat):GI:=λds k=>∃(c n:Int) (m:Nat),ds=[rowD c n,.int m]/\m<=d/\0<=n/\n+((4*4 ^ m:Nat):Int)<=100000/\∀(c' n':Int) (x:Str),x.length<=20*4 ^ m->n<=n'->n'<=n+((4*4 ^ m:Nat):Int)->k (.str x) (rowD c' n')
def J3:GI:=g_tt 3
abbrev Jb:Stmt:=top 44
theorem Ys:FnScope ["_law_row","_law_deep","_law_way","_law_one"] ["_law_row","_law_deep"] (Qa Jb):=⟨rfl,rfl,rfl,by decide +kernel,rfl,by decide +kernel,by decide +kernel⟩
def Z7:Tg:={ own:=λi=>i == 0 || i == 2 || i == 3,io:=[0] }
def Z6 (GR:GI):WS:=(wSeq (wSet 2 (Y6 0 Qy (Ul 0 (Qd (wC (.int 8)) wNil))))
 (wSeq (wIf (wOr (wBl (wBin dEq (wVar 1) (wC (.int 0)))) (wBl (wBin dEq (wVar 2) (wC (.int 0))))) (wRet (wBin dIx (wLst (Qd (wC (.str (Str.ofString "single"))) (Qd (wC (.str (Str.ofString "single"))) (Qd (wC (.str (Str.ofString "level"))) (Qd (wC (.str (Str.ofString "upright"))) wNil))))) (Y6 0 Qy (Ul 0 (Qd (wC (.int 4)) wNil))))) Qz)
 (wSeq (wSet 3 (Y6 0 GR (Ul 0 (Qd (wBin dSub (wVar 1) (wC (.int 1))) wNil))))
 (wSeq (wIf (wBl (wBin (dCmp λi j=>decide (i<j)) (wVar 2) (wC (.int 3)))) (wRet (wBin Q9 (wBin Q9 (wBin Q9 (wBin Q9 (wC (.str (Str.ofString "("))) (wBin dIx (wLst (Qd (wC (.str (Str.ofString "turned"))) (Qd (wC (.str (Str.ofString "mirrored"))) wNil))) (wBin dSub (wVar 2) (wC (.int 1))))) (wC (.str (Str.ofString " ")))) (wVar 3)) (wC (.str (Str.ofString ")"))))) Qz)
 (wRet (wBin Q9 (wBin Q9 (wBin Q9 (wBin Q9 (wC (.str (Str.ofString "("))) (wVar 3)) (wBin dIx (wLst (Qd (wC (.str (Str.ofString " beside "))) (Qd (wC (.str (Str.ofString " above "))) wNil))) (wBin dMod (wVar 2) (wC (.int 2))))) (Y6 0 GR (Ul 0 (Qd (wBin dSub (wVar 1) (wC (.int 1))) wNil)))) (wC (.str (Str.ofString ")")))))))))
theorem G5 (B:Bn K mg) (C__law_take:Cal P w K mg base "_law_take" 1 ["_law_row","_law_base"] (spI K 0 Qy)) (C__law_tree_text:Cal P w K mg base "_law_tree_text" j ["_law_row","_law_deep"] (spI K 0 GR)):∀(cdv:Value) (A:Around) (outer:List PySem.Env) (s:Shared) (H:Hp) (E:XK),Room (max j 1) (A.deeper (envOfC "_law_tree_text" (Qa Jb) s.heap.objs.size f cdv))->SVs (cxOf CX0 P w K mg base ["_law_row","_law_deep","_law_way","_law_one"] "_law_tree_text" (Qa Jb) f cdv A outer s H E).nox Z7 (Qu Jb) (Z6 GR):=λcdv A outer s H E hr =>
  (Qe (Q4 (i:=2) (J6 C__law_take (hr.mono (by omega)) (Zh (i:=0) (Qb Qf Qh))) Ys.nd)
  (Qe (Yf (Y7 (Qki (Q3 (Zj hr.units) (Qc 1) Qf) (Qga (Q3 (Zj hr.units) (Qc 2) Qf)))) (Qj (Q5 (Y3 (Yw (Yk hr)) (Ju (Qb Qk (Qb Qk (Qb Qk (Qb Qk Qh))))) (J6 C__law_take (hr.mono (by omega)) (Zh (i:=0) (Qb Qf Qh)))))) Q1)
  (Qe (Q4 (i:=3) (J6 C__law_tree_text (hr.mono (by omega)) (Zh (i:=0) (Qb (Qt X2 (Qc 1) Qf) Qh))) Ys.nd)
  (Qe (Yf (Q3 Qpc (Qc 2) Qf) (Qj (Q5 (Qt Qp (Qt Qp (Qt Qp (Qt Qp Qk (Y3 (Yw (Yk hr)) (Ju (Qb Qk (Qb Qk Qh))) (Qt X2 (Qc 2) Qf))) Qk) (Qc 3)) Qk))) Q1)
  (Qj (Q5 (Qt Qp (Qt Qp (Qt Qp (Qt Qp Qk (Qc 3)) (Y3 (Yw (Yk hr)) (Ju (Qb Qk (Qb Qk Qh))) (Qt Qdc (Qc 2) Qf))) (J6 C__law_tree_text (hr.mono (by omega)) (Zh (i:=0) (Qb (Qt X2 (Qc 1) Qf) Qh)))) Qk)))))))
theorem Qbj (F:Fun K "_law_tree_text" "_law_tree_text" Jb f fd) (B:Bn K mg) (C1:Cal P w K mg base "_law_take" 1 ["_law_row","_law_base"] (spI K 0 Qy)) (C2:Cal P w K mg base "_law_tree_text" j ["_law_row","_law_deep"] (spI K 0 GR)) (hd:0<d->GR=g_tt (d-1)) (h3:d<=3) :
  FnOk P w K mg base CX0 (max j 1+1) f fd ["_law_row","_law_deep"] (spI K 0 (g_tt d)):=by
 refine Qpt (T:=Z7) F Ys rfl rfl (λds kk h=>?_) (G5 B C1 C2) (λds kk h=>?_)
 ·obtain ⟨c,n,m,rfl,_⟩:=h
  exact ⟨rfl,_,rfl,rfl⟩
 ·obtain ⟨c,n,m,rfl,hm,hn,hn2,k⟩:=h
  have hp:0<4 ^ m:=Nat.pow_pos (by decide)
  have hpb:4 ^ m<=4 ^ 3:=Nat.pow_le_pow_right (by decide) (by omega)
  simp only [Z6,wSeq,wSet,Y6,Ul,env0,rowD,List.map_cons,List.map_nil,List.length_cons,List.length_nil,Nat.zero_add,Nat.reduceAdd,List.replicate,List.cons_append,List.nil_append,look,Option.isSome_some,Qd,wC,wNil,Qn,D.pure,Bool.and_self,wIf,wOr,List.set_cons_zero,List.set_cons_succ,wRet,wBin,wLst,true_and,Qz,Bool.and_true,Jf,r_bl,reduceIte,Qm,Qgs,Qei,Ji,Zo]
  refine ⟨c,n,8,rfl,by decide,by decide,hn,by omega,λc1 r1 h1 h2=>?_⟩
  simp only [rowD,Zo,Qn,D.pure,Bool.and_self,true_and,Qgs,V7,Int.reduceLT,Qib,Qgt,Ji,Qei]
  have sz:∀{i:Nat},i<=100000->i<=sizeLine:=λhi=>Nat.le_trans hi (by decide)
  have leaf:Qy [D.lst [D.int c1,D.int (n+1)],D.int 4] λd d'=>dIx (D.lst [D.str (Str.ofString "single"),D.str (Str.ofString "single"),D.str (Str.ofString "level"),D.str (Str.ofString "upright")]) d λd=>Va d'=true/\kk d d':=by
   refine ⟨c1,n+1,4,rfl,by decide,by decide,by omega,by omega,λc2 r2 a1 a2=>?_⟩
   have fin:∀x:Str,x.length<=20->kk (.str x) (rowD c2 (n+1+1)):=λx hx=>k c2 (n+1+1) x (by omega) (by omega) (by omega)
   rcases Qus (a:=D.str (Str.ofString "single")) (b:=D.str (Str.ofString "single")) (c:=D.str (Str.ofString "level")) (d:=D.str (Str.ofString "upright")) a1 a2 with q | q | q | q
   ·simp only [rowD,Zo,Qn,D.pure,Bool.and_self,true_and,V7,q,Qm];exact fin _ (by decide +kernel)
   ·simp only [rowD,Zo,Qn,D.pure,Bool.and_self,true_and,V7,q,Qm];exact fin _ (by decide +kernel)
   ·simp only [rowD,Zo,Qn,D.pure,Bool.and_self,true_and,V7,q,Qm];exact fin _ (by decide +kernel)
   ·simp only [rowD,Zo,Qn,D.pure,Bool.and_self,true_and,V7,q,Qm];exact fin _ (by decide +kernel)
  by_cases hm0:(m:Int)=0
  ·simp only [hm0,decide_true,reduceIte]
   exact ⟨sz (by decide),leaf⟩
  ·simp only [hm0,decide_false,Bool.false_eq_true,reduceIte]
   by_cases hr0:r1=0
   ·simp only [hr0,decide_true,reduceIte]
    exact ⟨sz (by decide),leaf⟩
   ·simp only [hr0,decide_false,Bool.false_eq_true,reduceIte]
    obtain ⟨m',rfl⟩:∃m',m=m'+1:=⟨m-1,by omega⟩
    have hG:=hd (by omega)
    subst hG
    have e1:((m'+1:Nat):Int)-1=(m':Int):=by omega
    rw [e1]
    have hpow:4 ^ (m'+1)=4 ^ m'*4:=Nat.pow_succ ..
    rw [hpow] at k hn2 hpb
    have hp:0<4 ^ m':=Nat.pow_pos (by decide)
    refine ⟨c1,n+1,m',rfl,by omega,by omega,by omega,λc2 n2 x hx b1 b2=>?_⟩
    have o1:(Str.ofString "(").length=1:=by decide +kernel
    have o2:(Str.ofString ")").length=1:=by decide +kernel
    have o3:(Str.ofString " ").length=1:=by decide +kernel
    by_cases hr3:r1<3
    ·simp only [hr3,decide_true,reduceIte]
     obtain ⟨z,hb,hz⟩:∃z:Str,L2.atI [D.str (Str.ofString "turned"),D.str (Str.ofString "mirrored")] (r1-1)=some (.str z)/\z.length<=8:=by
      have:r1=1\/r1=2:=by omega
      rcases this with rfl | rfl
      ·exact ⟨_,rfl,by decide +kernel⟩
      ·exact ⟨_,rfl,by decide +kernel⟩
     rw [hb]
     simp only [rowD,Zo,Qn,D.pure,Bool.and_self,true_and,Qm,V9,Jm]
     refine ⟨sz (by decide),sz (by omega),sz (by omega),sz (by omega),sz (by omega),?_⟩
     exact k c2 n2 _ (by simp only [Jm];omega) (by omega) (by omega)
    ·simp only [hr3,decide_false,Bool.false_eq_true,reduceIte]
     obtain ⟨z,hb,hz⟩:∃z:Str,L2.atI [D.str (Str.ofString " beside "),D.str (Str.ofString " above ")] (r1 % 2)=some (.str z)/\z.length<=8:=by
      have:r1 % 2=0\/r1 % 2=1:=by omega
      rcases this with e | e
      ·exact ⟨_,by rw [e];rfl,by decide +kernel⟩
      ·exact ⟨_,by rw [e];rfl,by decide +kernel⟩
     rw [hb]
     simp only [rowD,Zo,Qn,D.pure,Bool.and_self,true_and,Qm,V9,Jm]
     refine ⟨sz (by omega),sz (by decide),sz (by omega),c2,n2,m',rfl,by omega,by omega,by omega,λc3 n3 y hy b3 b4=>?_⟩
     simp only [rowD,Zo,Qn,D.pure,Bool.and_self,true_and,V9,Jm]
     refine ⟨sz (by omega),sz (by omega),?_⟩
     exact k c3 n3 _ (by simp only [Jm];omega) (by omega) (by omega)
theorem Gc (F:Fun K "_law_tree_text" "_law_tree_text" Jb f fd) (B:Bn K mg) (C1:Cal P w K mg base "_law_take" 1 ["_law_row","_law_base"] (spI K 0 Qy)) (hm:mg "_law_tree_text" = some (.ref f)) (hb:Zi K fd ["_law_row","_law_deep"] []) :
  FnOk P w K mg base CX0 14 f fd ["_law_row","_law_deep"] (spI K 0 J3):=by
 have s0:=Qbj (d:=0) F B C1 (Qtl F hm F.kp hb) (λh=>nomatch h) (by decide)
 have s1:=Qbj (d:=1) F B C1 ⟨f,fd,s0,hm,F.kp,hb⟩ (λ_=>rfl) (by decide)
 have s2:=Qbj (d:=2) F B C1 ⟨f,fd,s1,hm,F.kp,hb⟩ (λ_=>rfl) (by decide)
 have s3:=Qbj (d:=3) F B C1 ⟨f,fd,s2,hm,F.kp,hb⟩ (λ_=>rfl) (by decide)
 exact s3.mono (by decide)
def Zw:GI:=λds k=>∃c,ds=[rowD c 0]/\∀(c' n':Int) (x:Str),x.length<=5000->k (.str x) (rowD c' n')
def Yj:GA:=λds k=>∃x,ds=[.str x]/\x.length<=5000/\(P61.Prt x->k (.bl true))/\(¬P61.Prt x->k (.bl false))
theorem t1:Zs nNT=some true:=by decide
theorem t5:tbF nNT=some false:=by decide
theorem t7:J7 nNT=some true:=by decide
theorem isR1:isR nNT=true:=by decide
theorem hf1:Qlw nNT=true:=by decide
def J9:GA:=λds k=>∃d,ds=[d]/\((noS d/\k (.bl true))\/∃x,d=.str x/\x.length<=5000/\k (.bl (P61.rd (wds x)).isNone))
abbrev Jw:Stmt:=top 49
theorem Jz:FnScope ["_law_text_here","_law_word","error"] ["_law_text_here"] (Qa Jw):=⟨rfl,rfl,rfl,by decide +kernel,rfl,by decide +kernel,by decide +kernel⟩
def Vz:Tg:={ own:=λi=>i == 1 || i == 2,io:=[] }
def Vx:WS:=(wSeq (wSet 1 (wC (.bl false)))
 (wSeq (Qhm J2 (Qd (wVar 0) wNil) isR 2 (wSeq (wSet 1 (Qkn (wIsx 2 Zs) (Qkn (wIsx 2 J7) (wBin dEq (Qhk 2 (Str.ofString "at") Qlw) (wC (.int 0))))))
 (wIf (wOr (wTru (wIsx 2 tbF)) (wOr (wTru (wIsx 2 tbF)) (wTru (wIsx 2 tbF)))) (wSet 1 (wC (.bl false))) Qz)))
 (wRet (Zr (wVar 1)))))
theorem Qaz (B:Bn K mg) (C_read_part:CalD P w K mg base "read_part" 5 ["text"] (spXD K J2)):∀(cdv:Value) (A:Around) (outer:List PySem.Env) (s:Shared) (H:Hp) (E:XK),Room 5 (A.deeper (envOfC "_law_refused" (Qa Jw) s.heap.objs.size f cdv))->SVs (cxOf CX0 P w K mg base ["_law_text_here","_law_word","error"] "_law_refused" (Qa Jw) f cdv A outer s H E).nox Vz (Qu Jw) Vx:=λcdv A outer s H E hr =>
  (Qe (Q4 (i:=1) Qcb Jz.nd)
  (Qe (Qks (j:=2) (cat:=isR) C_read_part (hr.mono (by decide)) ⟨rfl,rfl,rfl⟩ (Qb (Qc 0) Qh) B.h_TangleError.choose_spec.1 B.h_TangleError.choose_spec.2 (λea=>(SVs.j (Qe (Q4 (i:=1) (Qnd (Qdt (i:=2) (tab:=Zs) B.nb_isinstance (by exact Ga rfl B.i_NoText.choose_spec.1 (v:=.ref B.i_NoText.choose) rfl) rfl B.i_NoText.choose_spec.2) (Qnd (Qdt (i:=2) (tab:=J7) B.nb_isinstance (by exact Qip rfl B.i_ValueError.1 PyProof.Rows.Boot.«ValueError» (v:=.ty "ValueError") rfl) rfl B.i_ValueError.2) (Qs6 (Qdu (Zj hr.units) (Qlz (i:=2) (has:=Qlw) B.a_at) Qf)))) Jz.nd)
  (Qj (Yf (Y7 (Qki (Vb (Qdt (i:=2) (tab:=tbF) B.nb_isinstance (by exact Ga rfl B.i_NoWeb.choose_spec.1 (v:=.ref B.i_NoWeb.choose) rfl) rfl B.i_NoWeb.choose_spec.2)) (Qki (Vb (Qdt (i:=2) (tab:=tbF) B.nb_isinstance (by exact Ga rfl B.i_Odd.choose_spec.1 (v:=.ref B.i_Odd.choose) rfl) rfl B.i_Odd.choose_spec.2)) (Qga (Vb (Qdt (i:=2) (tab:=tbF) B.nb_isinstance (by exact Ga rfl B.i_NotFlat.choose_spec.1 (v:=.ref B.i_NotFlat.choose) rfl) rfl B.i_NotFlat.choose_spec.2)))))) (Qj (Q4 (i:=1) Qcb Jz.nd)) Q1))))) Jz.nd)
  (Qj (Q5 (Zg (Qc 1))))))
theorem X1 (F:Fun K "_law_refused" "_law_refused" Jw f fd) (B:Bn K mg) (C1:CalD P w K mg base "read_part" 5 ["text"] (spXD K J2)):FnOk P w K mg base CX0 6 f fd ["_law_text_here"] (spR K J9):=by
 refine U3 (T:=Vz) F Jz rfl (by decide) (λds kk h=>?_) (Qaz B C1) (λds kk h=>?_)
 ·obtain ⟨d,rfl,_⟩:=h
  rfl
 ·obtain ⟨d,rfl,h⟩:=h
  have lk:∀x:Int,List.lookup (Str.ofString "at") [(Str.ofString "at",x)]=some x:=λx=>by simp [List.lookup]
  simp only [Vx,wSeq,wSet,wC,Qhm,Qd,env0,List.map_cons,List.map_nil,List.length_cons,List.length_nil,Nat.zero_add,Nat.reduceAdd,List.replicate,List.cons_append,List.nil_append,List.set_cons_succ,List.set_cons_zero,wNil,wRet,Zr,Jf,wIf,wOr,EndsP.un,Qz,reduceIte,Ux,wIsx,Yc,Qq1,wBin,Qhk,Qei,Ji,look,Qm,D.pure,true_and]
  refine ⟨d,rfl,?_⟩
  rcases h with ⟨h1,h2⟩ | ⟨x,rfl,hl,h2⟩
  ·refine .inl ⟨h1,isR1,?_⟩
   simp only [t1,t7,lk,t5,Qm,Bool.false_eq_true,reduceIte]
   exact ⟨hf1,h2⟩
  ·refine .inr ⟨x,rfl,hl,λts hts=>?_,λhn=>⟨isR1,?_⟩⟩
   ·rw [hts] at h2
    exact h2
   ·rw [hn] at h2
    simp only [t1,t7,lk,t5,Qm,Bool.false_eq_true,reduceIte]
    exact ⟨hf1,h2⟩
theorem Qrc (h:P61.Prt x):∃t,P61.rd (wds x)=some t:=by
 obtain ⟨t,rfl,ht⟩:=h
 have e3:Str.ofString " " = ⟨#[32]⟩:=by decide +kernel
 have hw:FT (tx t)=Builtin.Str.glued (Str.ofString " ") (toks t):=Qqc t
 have hp:Y1 (FT (tx t)) (Str.ofString " ")=toks t:=by rw [hw,e3];exact S03.Qc2 (Qd8 t) (Qbo t)
 refine ⟨P61.nrm t,?_⟩
 have:wds (tx t)=toks t:=by
  unfold wds
  rw [hp]
  by_cases h0:(FT (tx t)).length=0
  ·exfalso
   have h1:=P61.Qh8 ht
   have e:(FT (tx t)).cps.toList=[]:=List.length_eq_zero_iff.mp (by rw [Array.length_toList];exact h0)
   rw [hw,e3] at e
   rw [show (Builtin.Str.glued ⟨#[32]⟩ (toks t)).cps.toList=_ from Qpn (toks t)] at e
   cases t with
   | lf k=>exact absurd e (Yo k (p:=λ_ y=>js ([y].map cl)≠[]) (by decide +kernel) (by decide +kernel) (by decide +kernel))
   | un b t=>rw [show (toks (.un b t)).map cl=cl (Str.ofString "(")::_ from rfl,Vk (by simp)] at e;simp at e
   | bi b t u=>rw [show (toks (.bi b t u)).map cl=cl (Str.ofString "(")::_ from rfl,Vk (by simp [Qd8])] at e;simp at e
  ·rw [if_neg h0]
 rw [this]
 exact P61.Qh8 ht
theorem rd_x (h:P61.rd (wds x)=some t):x=tx t/\t.h<=8:=P61.Qqq (Qkm x) h
def Qjl:GA:=λds k=>∃ns:List Int,ds=[.kls (ns.map .int)]/\ns.length<=63/\k (.bl true)
abbrev Gy:Stmt:=top 50
theorem Qfg:FnScope ["_law_script","_law_cell","_law_text_here","_law_thing"] ["_law_script"] (Qa Gy):=⟨rfl,rfl,rfl,by decide +kernel,rfl,by decide +kernel,by decide +kernel⟩
def Qqj:Tg:={ own:=λi=>i == 1 || i == 2 || i == 3,io:=[] }
def Qqd:WS:=(wSeq (wFor (Qcj (wBin Q9 (wLst (Qd (wC (.int 0)) wNil)) (wSlT (wVar 0) Yx (Jj (wC (.int 6)))))) (gN 1) (wSeq (wSet 2 (Qe6 Zw (Qd (wLst (Qd (Zr (wVar 1)) (Qd (wC (.int 0)) wNil))) wNil)))
 (wSeq (wIf (wAnd (wTru (Q0 Yj (Qd (wVar 2) wNil))) (wBl (wBin dNe (U6 isC gwr (Q0 (Qmc J2) (Qd (wVar 2) wNil))) (wVar 2)))) (wRet (wC (.bl false))) Qz)
 (wIf (wAnd (wNot (wTru (Q0 Yj (Qd (wVar 2) wNil)))) (wNot (wTru (Q0 J9 (Qd (wVar 2) wNil))))) (wRet (wC (.bl false))) Qz))))
 (wSeq (wFor (Qnp (Qgg (wLst (Qd (wC .non) (Qd (wC (.int 0)) (Qd (wC (.bl true)) (Qd (wTup wNil) (Qd (wFrz (wLst (Qd (wC (.str (Str.ofString "single"))) wNil))) (Qd (wC (.fdk [])) wNil))))))))) (gN 3) (wIf (wNot (wTru (Q0 J9 (Qd (wVar 3) wNil)))) (wRet (wC (.bl false))) Qz))
 (wRet (wC (.bl true)))))
theorem Qvp (B:Bn K mg) (C_read_part:CalD P w K mg base "read_part" 5 ["text"] (spXD K J2)) (C__law_text:Cal P w K mg base "_law_text" 15 ["_law_row"] (spI K 0 Zw)) (C__law_writes:Cal P w K mg base "_law_writes" 2 ["_law_text_here"] (spR K Yj)) (C__law_refused:Cal P w K mg base "_law_refused" 6 ["_law_text_here"] (spR K J9)) (Wr:WrN P w K mg base):∀(cdv:Value) (A:Around) (outer:List PySem.Env) (s:Shared) (H:Hp) (E:XK),Room 15 (A.deeper (envOfC "law" (Qa Gy) s.heap.objs.size f cdv))->SVs (cxOf CX0 P w K mg base ["_law_script","_law_cell","_law_text_here","_law_thing"] "law" (Qa Gy) f cdv A outer s H E).nox Qqj (Qu Gy) Qqd:=λcdv A outer s H E hr =>
  (Qe (Qa1 PassesOwn.never (Qje (Qt Qp (Ju (Qb Qf Qh)) (Zx (Qc 0) Zd (Q6 Qf)))) (Gg (i:=1) Qfg.nd) (Qe (Q4 (i:=2) (Ql2 C__law_text (hr.mono (by decide)) (Qb (Ju (Qb (Zg (Qc 1)) (Qb Qf Qh))) Qh)) Qfg.nd)
  (Qe (Yf (Y7 (U5 (Vb (Ye C__law_writes (hr.mono (by decide)) (Qb (Qc 2) Qh))) (Ug (Q3 (Qpb hr.units) (Ud (isC:=isC) (g:=gwr) Wr (hr.mono (by decide)) (Ye C_read_part.calm (hr.mono (by decide)) (Qb (Qc 2) Qh))) (Qc 2))))) (Qj (Q5 Qcb)) Q1)
  (Qj (Yf (Y7 (U5 (Qcn (Vb (Ye C__law_writes (hr.mono (by decide)) (Qb (Qc 2) Qh)))) (Ug (Qcn (Vb (Ye C__law_refused (hr.mono (by decide)) (Qb (Qc 2) Qh))))))) (Qj (Q5 Qcb)) Q1)))))
  (Qe (Qa1 PassesOwn.never (Qsw (Qjw (Ju (Qb Qbe (Qb Qf (Qb Qcb (Qb (Qds Qh) (Qb (Qnc (Ju (Qb Qk Qh))) (Qb Ql0 Qh))))))))) (Gg (i:=3) Qfg.nd) (Qj (Yf (Qcn (Vb (Ye C__law_refused (hr.mono (by decide)) (Qb (Qc 3) Qh)))) (Qj (Q5 Qcb)) Q1)))
  (Qj (Q5 Qcb))))
theorem Qr3 (F:Fun K "law" "law" Gy f fd) (B:Bn K mg) (C1:CalD P w K mg base "read_part" 5 ["text"] (spXD K J2)) (C2:Cal P w K mg base "_law_text" 15 ["_law_row"] (spI K 0 Zw)) (C3:Cal P w K mg base "_law_writes" 2 ["_law_text_here"] (spR K Yj)) (C4:Cal P w K mg base "_law_refused" 6 ["_law_text_here"] (spR K J9)) (Wr:WrN P w K mg base):FnOk P w K mg base CX0 16 f fd ["_law_script"] (spR K Qjl):=by
 refine U3 (T:=Qqj) F Qfg rfl (by decide) (λds kk h=>?_) (Qvp B C1 C2 C3 C4 Wr) (λds kk h=>?_)
 ·obtain ⟨ns,rfl,_⟩:=h
  rfl
 ·obtain ⟨ns,rfl,hl,k⟩:=h
  obtain ⟨cs,hc,hcl⟩:∃cs:List Int,cutD (ns.map D.int) none (some 6)=cs.map D.int/\cs.length<=63:=by
   unfold cutD
   rw [← List.map_drop,← List.map_take]
   exact ⟨_,rfl,by rw [List.length_take,List.length_drop];omega⟩
  simp only [Qqd,wSeq,env0,List.map_cons,List.map_nil,List.length_cons,List.length_nil,Nat.zero_add,Nat.reduceAdd,List.replicate,List.cons_append,List.nil_append,Gz,Qkz,wBin,wLst,Qd,wC,wNil,sz1,wSlT,Yx,Go,Vh,Jf,look,Qm,Qq6,hc,Qbx,Qn,D.pure,Bool.and_self,Qh9,Bool.true_and,true_and]
  refine ⟨Xs,Xs,by rw [List.length_map];exact Nat.le_of_lt (Qh0 (by omega)),Xs,λi ρ=>∃o1 o2:Option D,ρ=[some (.kls (ns.map .int)),o1,o2,none],⟨none,none,rfl⟩,?_,?_⟩
  ·rintro i d ρ hd ⟨o1,o2,rfl⟩
   obtain ⟨c,rfl⟩:∃c:Int,d=.int c:=by
    have:=List.mem_of_getElem? hd
    rcases List.mem_cons.mp this with rfl | h
    ·exact ⟨_,rfl⟩
    ·obtain ⟨c,_,rfl⟩:=List.mem_map.mp h
     exact ⟨c,rfl⟩
   simp only [gN,wSeq,wSet,List.set_cons_succ,List.set_cons_zero,wIf,wAnd,wRet,wC,Qz,wNot,Ux,Q0,Qd,wNil,Jf,Bool.false_eq_true,reduceIte,r_bl,wBin,Qk0,wLst,Zr,List.length_cons,List.length_nil,Nat.zero_add,Nat.reduceAdd,sz2,Quj,Zo,Qn,D.pure,Bool.and_self,Bool.and_true,true_and,look,Qm]
   refine ⟨c,rfl,λc' n' x hx=>?_⟩
   simp only [U6,Q0,Qd,wNil,Qmc,Jf,look,Qm]
   by_cases hp:P61.Prt x
   ·refine ⟨x,rfl,hx,λ_=>?_,λz=>absurd hp z⟩
    simp only [Yc,reduceIte]
    refine ⟨.str x,rfl,.inr ⟨x,rfl,hx,λt ht=>?_,λhn=>?_⟩⟩
    ·obtain ⟨e,h8⟩:=rd_x ht
     subst e
     refine Ua (g:=gwr) (d:=8) rfl h8 ?_
     simp only [Qt6,Ji]
     refine ⟨tx t,rfl,hx,λ_=>?_,λz=>absurd hp z⟩
     simp only [Yc,Bool.not_true,Bool.false_eq_true,reduceIte]
     exact ⟨_,_,rfl⟩
    ·obtain ⟨t,ht⟩:=Qrc hp
     rw [hn] at ht;cases ht
   ·refine ⟨x,rfl,hx,λz=>absurd z hp,λ_=>?_⟩
    simp only [Yc,Bool.false_eq_true,reduceIte]
    refine ⟨x,rfl,hx,λz=>absurd z hp,λ_=>?_⟩
    simp only [Yc,Bool.not_false,reduceIte]
    refine ⟨.str x,rfl,.inr ⟨x,rfl,hx,?_⟩⟩
    cases hr:P61.rd (wds x) with
    | none =>
     simp only [Option.isNone_none,Yc,Bool.not_true,Bool.false_eq_true,reduceIte]
     exact ⟨_,_,rfl⟩
    | some t =>
     obtain ⟨e,h8⟩:=rd_x hr
     exact absurd ⟨t,e,h8⟩ hp
  ·rintro ρ ⟨o1,o2,rfl⟩
   simp only [wSeq,Gz,Qua,Qgg,wLst,Qd,wC,wTup,wNil,List.length_nil,sz0,wFrz,List.length_cons,Nat.zero_add,sz1,Nat.reduceAdd,Qfn,Qn,D.pure,Bool.and_true,Bool.true_and,Qqz,Qq3,Bool.and_self,true_and]
   refine ⟨by decide,rfl,rfl,λi ρ=>∃o3:Option D,ρ=[some (.kls (ns.map .int)),o1,o2,o3],⟨_,rfl⟩,?_,?_⟩
   ·rintro i d ρ hd ⟨o3,rfl⟩
    have hn:noS d:=by
     have:=List.mem_of_getElem? hd
     simp only [List.mem_cons,List.not_mem_nil,or_false] at this
     rcases this with rfl | rfl | rfl | rfl | rfl | rfl
     ·exact .inl rfl
     ·exact .inr (.inl ⟨_,rfl⟩)
     ·exact .inr (.inr (.inl ⟨_,rfl⟩))
     ·exact .inr (.inr (.inr (.inl rfl)))
     ·exact .inr (.inr (.inr (.inr (.inl ⟨_,rfl⟩))))
     ·exact .inr (.inr (.inr (.inr (.inr rfl))))
    simp only [gN,wIf,wNot,List.set_cons_succ,List.set_cons_zero,wRet,wC,Qz,Ux,Q0,Qd,wNil,Jf,look,Qm]
    refine ⟨d,rfl,.inl ⟨hn,?_⟩⟩
    simp only [Yc,Bool.not_true,Bool.false_eq_true,reduceIte]
    exact ⟨_,rfl⟩
   ·rintro ρ ⟨o3,rfl⟩
    simp only [wRet,wC]
    exact k
abbrev sL (ws:List Str):D:=.lst (ws.map .str)
theorem cutG:cutD (ws.map D.str) (some (a:Int)) (some (b:Int))=((ws.drop a).take (b-a)).map D.str:=by
 unfold cutD
 rw [HT.Qbu,HT.Qbu,List.length_map,List.map_take,List.map_drop]
 apply List.ext_getElem?
 intro i
 simp only [List.getElem?_take,List.getElem?_drop]
 by_cases ha:a<=ws.length
 ·rw [Nat.min_eq_left ha]
  by_cases hb:b<=ws.length
  ·rw [Nat.min_eq_left hb]
  ·rw [Nat.min_eq_right (by omega)]
   by_cases h:i<ws.length-a
   ·rw [if_pos h,if_pos (by omega)]
   ·rw [if_neg h]
    split
    ·rw [List.getElem?_eq_none (by rw [List.length_map];omega)]
    ·rfl
 ·rw [Nat.min_eq_right (by omega:ws.length<=a),if_neg (by omega)]
  split
  ·rw [List.getElem?_eq_none (by rw [List.length_map];omega)]
  ·rfl
theorem cutF:cutD (ws.map D.str) (some (a:Int)) none=(ws.drop a).map D.str:=by
 unfold cutD
 rw [HT.Qbu,HT.Qfh,List.length_map,List.map_drop]
 by_cases ha:a<=ws.length
 ·rw [Nat.min_eq_left ha,List.take_of_length_le (by simp)]
 ·rw [Nat.min_eq_right (by omega:ws.length<=a),List.drop_eq_nil_of_le (by simp),List.drop_eq_nil_of_le (by simp;omega),List.take_nil]
theorem cutT:cutD (ws.map D.str) none (some (b:Int))=(ws.take b).map D.str:=by rw [Qte,List.map_take]
theorem Qcv {a b:List Str}:(sL a=sL b)=(a=b):=propext ⟨λh=>by injection h with h;exact (List.map_inj_right λx y z=>by injection z).mp h,λh=>by rw [h]⟩
end K61
variable {R:List PySem.Str} {r:Int} {k:PV.D->Prop} {o3:Option PV.D} {Pn:PV.EndsP}
namespace K61
open PySem PySem.Spec L2 PV P58
open P61 (El)
open S03 (Qej G9 Qbw V8 Qfm Qig)
open S24 (Qif Qok Qq5 Quk Qoj Qul)
open PyProof.Rows (envOfC)
theorem Qp8 {α:Type} {xs:List α} (h0:0<=r) (h1:r<xs.length):∃d,L2.atI xs r=some d/\d∈xs:=by
 obtain ⟨n,rfl⟩:=Int.eq_ofNat_of_zero_le h0
 rw [Vm]
 have:n<xs.length:=by omega
 exact ⟨xs[n],List.getElem?_eq_getElem this,List.getElem_mem this⟩
theorem Qb3 {α:Type} {xs:List α} {k:α->Prop} (h0:0<=r) (h1:r<xs.length) (hk:∀d∈xs,k d):oget (L2.atI xs r) k:=by
 obtain ⟨d,h,m⟩:=Qp8 h0 h1
 rw [h]
 exact hk d m
theorem Qfl (a:Array Nat):∀(k:Nat) (b:Array Nat),((List.replicate k a).foldl (· ++ ·) b).size=b.size+k*a.size
 | 0,b=>by simp
 | k+1,b=>by rw [List.replicate_succ,List.foldl_cons,Qfl a k,Array.size_append,Nat.succ_mul];omega
theorem Qiz {m:Nat} (hn:n.toNat<=m) (hm:1<=m):(Txt.mul z n).length<=m*z.length:=by
 unfold Txt.mul
 have h1:z.length<=m*z.length:=Nat.le_mul_of_pos_left _ hm
 split
 ·exact Nat.zero_le _
 ·split
  ·exact h1
  ·show ((List.replicate n.toNat z.cps).foldl (· ++ ·) #[]).size<=_
   rw [Qfl]
   have:=Nat.mul_le_mul_right z.cps.size hn
   simp
   exact this
theorem Qfz {c:Str} {B:Nat}:∀{ws:List Str},(∀w∈ws,w.length<=B)->(Str.join c ws).length<=ws.length*(B+c.length)
 | [],_=>Nat.zero_le _
 | [w],h=>by
  have:=h w (by simp)
  show w.length<=1*(B+c.length)
  omega
 | w::v::r,h=>by
  have h1:=h w (by simp)
  have ih:=Qfz (c:=c) (ws:=v::r) λx hx=>h x (List.mem_cons_of_mem _ hx)
  show (w++c++Str.join c (v::r)).length<=_
  rw [Jm,Jm,List.length_cons,Nat.succ_mul]
  omega
theorem Qjm {B:Nat} {c:Nat}:∀{ws:List Str} {n:Nat},(∀w∈ws,w.length<=B)->ws.foldl (λn w=>n+w.length+c) n<=n+ws.length*(B+c)
 | [],n,_=>by simp
 | w::r,n,h=>by
  have h1:=h w (by simp)
  have ih:=Qjm (c:=c) (ws:=r) (n:=n+w.length+c) λx hx=>h x (List.mem_cons_of_mem _ hx)
  rw [List.foldl_cons,List.length_cons,Nat.succ_mul]
  omega
theorem Qg9 (y:Str) (a:Nat):(G3 y a).cps.toList=y.cps.toList.drop a:=rfl
theorem Qkp (y:Str) (a:Nat):(toS y a).cps.toList=y.cps.toList.take a:=rfl
theorem Qqi (x:Str) (a:Nat):(toS x a).length<=x.length:=by rw [Gf,Gf,Qkp,List.length_take];omega
theorem Qf2 (x:Str) (a:Nat):(G3 x a).length<=x.length:=by rw [Gf,Gf,Qg9,List.length_drop];omega
abbrev Yh:Stmt:=top 45
theorem Jh:FnScope ["_law_row","_law_way","_law_menu","_law_found","_law_many","_law_at","_law_sign","_law_some"] ["_law_row"] (Qa Yh):=⟨rfl,rfl,rfl,by decide +kernel,rfl,by decide +kernel,by decide +kernel⟩
def Xm:Tg:={ own:=λi=>i == 0 || i == 1 || i == 2 || i == 3 || i == 4 || i == 5 || i == 6 || i == 7,io:=[0] }
def Xg:WS:=(wSeq (wSet 1 (Y6 0 Qy (Ul 0 (Qd (wC (.int 9)) wNil))))
 (wSeq (wIf (wBl (wBin dEq (wVar 1) (wC (.int 0)))) (wSeq (wSet 2 (Qgg (wLst (Qd (wC (.str (Str.ofString "("))) (Qd (wC (.str (Str.ofString ")"))) (Qd (wC (.str (Str.ofString " "))) (Qd (wC (.str (Str.ofString "single"))) (Qd (wC (.str (Str.ofString "level"))) (Qd (wC (.str (Str.ofString "upright"))) (Qd (wC (.str (Str.ofString "turned "))) (Qd (wC (.str (Str.ofString "mirrored "))) (Qd (wC (.str (Str.ofString " beside "))) (Qd (wC (.str (Str.ofString " above "))) (Qd (wC (.str (Str.ofString "(turned "))) wNil))))))))))))))
 (wRet (wMs Qsz (wC (.str (Str.ofString ""))) (Qd (Qhp 0 1 (Qhn (Qd (Y6 0 Qy (Ul 0 (Qd (wC (.int 13)) wNil))) wNil)) (wBin dIx (Zr (wVar 1)) (Y6 2 Qy (Ul 2 (Qd (wC (.int 11)) wNil)))) [2,0]) wNil)))) Qz)
 (wSeq (wSet 3 (Y6 0 J3 (Ul 0 (Qd (wC (.int 3)) wNil))))
 (wSeq (wIf (wBl (wBin dEq (wVar 1) (wC (.int 1)))) (wSeq (wSet 4 (wBin Q9 (wC (.int 5)) (Y6 0 Qy (Ul 0 (Qd (wC (.int 5)) wNil)))))
 (wRet (wBin Q9 (wBin Q9 (wBin Ql5 (wC (.str (Str.ofString "(turned "))) (wVar 4)) (wVar 3)) (wBin Ql5 (wC (.str (Str.ofString ")"))) (wVar 4))))) Qz)
 (wSeq (wSet 5 (Y6 0 Qy (Ul 0 (Qd (wBin Q9 (Q0 dLen (Qd (wVar 3) wNil)) (wC (.int 1))) wNil))))
 (wSeq (wSet 6 (wBin dIx (wC (.str (Str.ofString "() sluabt"))) (Y6 0 Qy (Ul 0 (Qd (wC (.int 9)) wNil)))))
 (wSeq (wSet 7 (wLst (Qd (Zr (wVar 3)) (Qd (Zr (wVar 3)) (Qd (wBin Q9 (wVar 3) (wVar 3)) (Qd (Qge (wVar 3) (Jj (wVar 5))) (Qd (wBin Q9 (Qge (wVar 3) (Jj (wVar 5))) (wSlF (wVar 3) (Jj (wBin Q9 (wVar 5) (wC (.int 1)))))) wNil)))))))
 (wSeq (wSet 7 (wBin Q9 (wVar 7) (wLst (Qd (wBin Q9 (wBin Q9 (Qge (wVar 3) (Jj (wVar 5))) (wVar 6)) (wSlF (wVar 3) (Jj (wVar 5)))) (Qd (wBin Q9 (wBin Q9 (Qge (wVar 3) (Jj (wVar 5))) (wVar 6)) (wSlF (wVar 3) (Jj (wBin Q9 (wVar 5) (wC (.int 1)))))) wNil)))))
 (wRet (Zr (Qnt 7 dIx (wBin dSub (wVar 1) (wC (.int 2))))))))))))))
theorem Qez (B:Bn K mg) (C__law_take:Cal P w K mg base "_law_take" 1 ["_law_row","_law_base"] (spI K 0 Qy)) (C__law_tree_text:Cal P w K mg base "_law_tree_text" 14 ["_law_row","_law_deep"] (spI K 0 J3)):∀(cdv:Value) (A:Around) (outer:List PySem.Env) (s:Shared) (H:Hp) (E:XK),Room 14 (A.deeper (envOfC "_law_text" (Qa Yh) s.heap.objs.size f cdv))->SVs (cxOf CX0 P w K mg base ["_law_row","_law_way","_law_menu","_law_found","_law_many","_law_at","_law_sign","_law_some"] "_law_text" (Qa Yh) f cdv A outer s H E).nox Xm (Qu Yh) Xg:=λcdv A outer s H E hr =>
  (Qe (Q4 (i:=1) (J6 C__law_take (hr.mono (by decide)) (Zh (i:=0) (Qb Qf Qh))) Jh.nd)
  (Qe (Yf (Q3 (Zj hr.units) (Qc 1) Qf) (Qe (Q4 (i:=2) (Qjw (Ju (Qb Qk (Qb Qk (Qb Qk (Qb Qk (Qb Qk (Qb Qk (Qb Qk (Qb Qk (Qb Qk (Qb Qk (Qb Qk Qh))))))))))))) Jh.nd)
  (Qj (Q5 (Qvi Qpf PySem.F.slot_str_join PySem.F.type_str_join Qk (Qb (Qf4 (Ql8 [2,0] 0 1 (Qdi B.nb_range (Qb (J6 C__law_take (hr.mono (by decide)) (Zh (i:=0) (Qb Qf Qh))) Qh)) (λ_ _ _ _ _=>(Y3 (Yw (Yk hr)) (Zg (Qc 1)) (J6 C__law_take (hr.mono (by decide)) (Zh (i:=2) (Qb Qf Qh)))))) (Xd (Qa Yh) ["_law_row","_law_way","_law_menu","_law_found","_law_many","_law_at","_law_sign","_law_some"] (by decide +kernel))) Qh))))) Q1)
  (Qe (Q4 (i:=3) (J6 C__law_tree_text (hr.mono (by decide)) (Zh (i:=0) (Qb Qf Qh))) Jh.nd)
  (Qe (Yf (Q3 (Zj hr.units) (Qc 1) Qf) (Qe (Q4 (i:=4) (Qt Qp Qf (J6 C__law_take (hr.mono (by decide)) (Zh (i:=0) (Qb Qf Qh)))) Jh.nd)
  (Qj (Q5 (Qt Qp (Qt Qp (Qt Qix Qk (Qc 4)) (Qc 3)) (Qt Qix Qk (Qc 4)))))) Q1)
  (Qe (Q4 (i:=5) (J6 C__law_take (hr.mono (by decide)) (Zh (i:=0) (Qb (Qt Qp (Yv Gu B.nb_len Gv (Qb (Qc 3) Qh)) Qf) Qh))) Jh.nd)
  (Qe (Q4 (i:=6) (Y3 (Yw (Yk hr)) Qk (J6 C__law_take (hr.mono (by decide)) (Zh (i:=0) (Qb Qf Qh)))) Jh.nd)
  (Qe (Q4 (i:=7) (Ju (Qb (Zg (Qc 3)) (Qb (Zg (Qc 3)) (Qb (Qt Qp (Qc 3) (Qc 3)) (Qb (Qca (Qc 3) (Q6 (Qc 5))) (Qb (Qt Qp (Qca (Qc 3) (Q6 (Qc 5))) (Qju (Qc 3) (Q6 (Qt Qp (Qc 5) Qf)))) Qh)))))) Jh.nd)
  (Qe (Q4 (i:=7) (Qt Qp (Qc 7) (Ju (Qb (Qt Qp (Qt Qp (Qca (Qc 3) (Q6 (Qc 5))) (Qc 6)) (Qju (Qc 3) (Q6 (Qc 5)))) (Qb (Qt Qp (Qt Qp (Qca (Qc 3) (Q6 (Qc 5))) (Qc 6)) (Qju (Qc 3) (Q6 (Qt Qp (Qc 5) Qf)))) Qh)))) Jh.nd)
  (Qj (Q5 (Zg (Qs8 (i:=7) (Yw (Yk hr)) (Qt X2 (Qc 1) Qf)))))))))))))
theorem Qc9 (F:Fun K "_law_text" "_law_text" Yh f fd) (B:Bn K mg) (C1:Cal P w K mg base "_law_take" 1 ["_law_row","_law_base"] (spI K 0 Qy)) (C2:Cal P w K mg base "_law_tree_text" 14 ["_law_row","_law_deep"] (spI K 0 J3)):FnOk P w K mg base CX0 15 f fd ["_law_row"] (spI K 0 Zw):=by
 refine Qpt (T:=Xm) F Jh rfl rfl (λds kk h=>?_) (Qez B C1 C2) (λds kk h=>?_)
 ·obtain ⟨c,rfl,_⟩:=h
  exact ⟨rfl,_,rfl,rfl⟩
 ·obtain ⟨c,rfl,k⟩:=h
  simp only [Xg,wSeq,wSet,Y6,Ul,env0,rowD,List.map_cons,List.map_nil,List.length_cons,List.length_nil,Nat.zero_add,Nat.reduceAdd,List.replicate,List.cons_append,List.nil_append,look,Option.isSome_some,Qd,wC,wNil,Qn,D.pure,Bool.and_self,wIf,List.set_cons_zero,List.set_cons_succ,Qgg,wLst,wRet,wMs,Qhp,wBin,Zr,true_and,Jf,Qmo,G9,Qfn,Qz,Q0,Bool.and_true,Qge,wSlF,sz5,sz2,Qnt,Go,r_bl,Qm,Qbx,Zo]
  refine ⟨c,0,9,rfl,by decide,by decide,Int.le_refl 0,by decide,λc1 r1 h1 h2=>?_⟩
  simp only [rowD,Int.reduceAdd,Zo,Qn,D.pure,Bool.and_self,true_and,Qgs,V7,Qei,Ji]
  have sz:∀{i:Nat},i<=100000->i<=sizeLine:=λhi=>Nat.le_trans hi (by decide)
  by_cases hr0:r1=0
  ·simp only [hr0,decide_true,reduceIte]
   refine ⟨by decide,c1,0+1,13,rfl,by decide,by decide,by decide,by decide,λc2 r2 a2 b2=>?_⟩
   simp only [rowD,Int.reduceAdd,Zo,Qn,D.pure,Bool.and_self,true_and,Qia,Int.reducePow,Int.reduceNeg]
   obtain ⟨R,rfl⟩:=Int.eq_ofNat_of_zero_le a2
   refine ⟨by omega,by omega,Qcz,λi ys dd=>i<=R/\∃(c' n':Int) (us:List Str),0<=n'/\n'<=100+(i:Int)/\us.length=i/\(∀u∈us,u.length<=9)/\dd=rowD c' n'/\ys=us.map .str,⟨Nat.zero_le _,c2,2,[],by decide,by decide,rfl,by simp,rfl,rfl⟩,?_,?_⟩
   ·rintro i d ys dd hd ⟨_,c',n',us,g1,g2,g3,g4,rfl,rfl⟩
    obtain ⟨hi,rfl⟩:=Qfk hd
    simp only [blkE,rowD,List.map_cons,look,List.map_nil,Option.isSome_some,List.set_cons_succ,List.set_cons_zero,Qm,Zo,Qn,D.pure,Bool.and_self,true_and]
    have hi:i<R:=by simpa using hi
    refine ⟨Nat.lt_of_le_of_lt (show _<=100 by rw [List.length_map];omega) (by decide),c',n',11,rfl,by decide,by decide,g1,by omega,λc3 r3 a3 b3=>?_⟩
    simp only [rowD,Zo,Qn,D.pure,Bool.and_self,true_and,Qub]
    refine Qb3 a3 b3 λd hd=>?_
    obtain ⟨u,rfl,hu⟩:∃u,d=.str u/\u.length<=9:=by
     simp only [List.mem_cons,List.not_mem_nil,or_false] at hd
     rcases hd with rfl | rfl | rfl | rfl | rfl | rfl | rfl | rfl | rfl | rfl | rfl <;> exact ⟨_,rfl,by decide +kernel⟩
    exact ⟨by omega,c3,n'+1,us++[u],by omega,by omega,by simp [g3],λz hz=>by
     rcases List.mem_append.mp hz with hz | hz
     ·exact g4 z hz
     ·rw [List.mem_singleton.mp hz];exact hu,rfl,by simp⟩
   ·rintro ys dd ⟨_,c',n',us,g1,g2,g3,g4,rfl,rfl⟩
    simp only [rowD,Zo,Qn,D.pure,Bool.and_self,true_and]
    have z0:(Str.ofString "").length=0:=by decide +kernel
    have hR:us.length<=12:=by rw [g3,V6];omega
    have j1:=Qfz (c:=Str.ofString "") g4
    have j2:=Qjm (c:=(Str.ofString "").length) (n:=0) g4
    rw [z0] at j1
    have hb:us.length*(9+0)<=12*9:=Nat.mul_le_mul_right 9 hR
    refine ⟨sz (by rw [List.length_map];omega),us,rfl,?_,sz (by rw [StrLaws.glued_eq_join];omega),k _ _ _ (by rw [StrLaws.glued_eq_join];omega)⟩
    unfold Builtin.Str.tooLong
    rw [sizeLine_eq]
    refine decide_eq_false ?_
    have ef:us.toArray.foldl (λn w=>n+w.length+(Str.ofString "").length) 0=us.foldl (λn w=>n+w.length+(Str.ofString "").length) 0:=by simp
    rw [ef]
    rw [z0] at j2 ⊢
    omega
  ·simp only [hr0,decide_false,Bool.false_eq_true,reduceIte]
   refine ⟨c1,0+1,3,rfl,Nat.le_refl 3,by decide,by decide,λc2 n2 x hx b1 b2=>?_⟩
   simp only [rowD,Zo,Qn,D.pure,Bool.and_self,true_and,Bool.true_and,V9,V8,Vi]
   by_cases hr1:r1=1
   ·simp only [hr1,decide_true,reduceIte]
    refine ⟨c2,n2,5,rfl,by decide,by decide,by omega,by omega,λc3 r3 a3 b3=>?_⟩
    simp only [Ql5,rowD,Zo,Qn,D.pure,Bool.and_self,true_and,V9,Vi]
    have m1:(Txt.mul (Str.ofString "(turned ") (5+r3)).length<=10*(Str.ofString "(turned ").length:=Qiz (by omega) (by decide)
    have m2:(Txt.mul (Str.ofString ")") (5+r3)).length<=10*(Str.ofString ")").length:=Qiz (by omega) (by decide)
    have q1:(Str.ofString "(turned ").length=8:=by decide +kernel
    have q2:(Str.ofString ")").length=1:=by decide +kernel
    refine ⟨by omega,by omega,by omega,sz (by omega),by omega,by omega,by omega,sz (by rw [Jm];omega),k _ _ _ (by simp only [Jm];omega)⟩
   ·simp only [hr1,decide_false,Bool.false_eq_true,reduceIte]
    refine ⟨sz (by omega),c2,n2,_,rfl,by omega,by omega,by omega,by omega,λc3 r3 a3 b3=>?_⟩
    obtain ⟨at_,rfl⟩:=Int.eq_ofNat_of_zero_le a3
    simp only [rowD,Zo,Qn,D.pure,Bool.and_self,Vi,Vh,Qom,Qk1,Int.toNat_natCast,V9,Bool.and_true,true_and]
    refine ⟨c3,n2+1,9,rfl,by decide,by decide,by omega,by omega,λc4 r4 a4 b4=>?_⟩
    simp only [rowD,Zo,Qn,D.pure,Bool.and_self,true_and,Qfm,V9,Bool.and_true]
    refine ⟨by decide +kernel,Qb3 a4 (by rw [show (Str.ofString "() sluabt").cps.toList.length=9 by decide +kernel];exact b4) λch _=>?_⟩
    have e1:((at_:Int)+1).toNat=at_+1:=by omega
    rw [e1]
    have q1:=Qqi x at_
    have q2:=Qf2 x at_
    have q3:=Qf2 x (at_+1)
    have q4:(⟨#[ch]⟩:Str).length=1:=rfl
    refine ⟨sz (by omega),by omega,sz (by omega),by omega,sz (by omega),by omega,sz (by omega),sz (by omega),by omega,sz (by omega),sz (by omega),by omega,sz (by omega),sz (by rw [Jm];omega),by omega,sz (by omega),sz (by omega),by omega,sz (by omega),sz (by rw [Jm];omega),sz (by decide),Qb3 (by omega) (by show r1-2<7;omega) λd hd=>?_⟩
    simp only [List.mem_cons,List.not_mem_nil,or_false] at hd
    rcases hd with rfl | rfl | rfl | rfl | rfl | rfl | rfl
    ·exact ⟨rfl,k _ _ _ (by omega)⟩
    ·exact ⟨rfl,k _ _ _ (by omega)⟩
    ·exact ⟨rfl,k _ _ _ (by simp only [Jm];omega)⟩
    ·exact ⟨rfl,k _ _ _ (by omega)⟩
    ·exact ⟨rfl,k _ _ _ (by simp only [Jm];omega)⟩
    ·exact ⟨rfl,k _ _ _ (by simp only [Jm];omega)⟩
    ·exact ⟨rfl,k _ _ _ (by simp only [Jm];omega)⟩
def mn (ws:List Str):Prop:=∀w∈ws,w∈P61.menu
theorem Qaq (h:mn ws):eqOk 9 (sL ws)=true:=by
 show U4 8 (ws.map D.str)=true
 rw [Qjy]
 intro d hd
 obtain ⟨w,hw,rfl⟩:=List.mem_map.mp hd
 have:∀w∈P61.menu,PyData.strOk w=true:=by decide +kernel
 exact this w (h w hw)
def Zf:GA:=λds k=>∃x:Str,ds=[.str x]/\x.length<=5000/\(∀ws,mn ws->cl x=P61.cc ws->ws.length<=5000->k (sL ws))/\((∀ws,mn ws->cl x≠P61.cc ws)->k .non)
def Y2:GA:=λds k=>∃ws:List Str,ds=[sL ws]/\mn ws/\ws.length<=6000/\(∀v,P61.les ws=some v->k (sL v))/\(P61.les ws=none->k .non)
abbrev Jq:Stmt:=top 48
theorem Jk:FnScope ["_law_text_here","_law_words_here","_law_open_here","_law_word"] ["_law_text_here"] (Qa Jq):=⟨rfl,rfl,rfl,by decide +kernel,rfl,by decide +kernel,by decide +kernel⟩
def Ut:Tg:={ own:=λi=>i == 1 || i == 2 || i == 3,io:=[] }
def Uj:WS:=(wSeq (wSet 1 (Q0 Zf (Qd (wVar 0) wNil)))
 (wSeq (wIf (wBl (wBin (dIs false) (wVar 1) (wC .non))) (wRet (wC (.bl false))) Qz)
 (wSeq (wSet 2 (wC (.int 0)))
 (wSeq (wFor (Xi 1) (gN 3) (wSeq (wSet 2 (wBin dSub (wBin Q9 (wVar 2) (Q0 dInt (Qd (wBin dEq (wVar 3) (wC (.str (Str.ofString "(")))) wNil))) (Q0 dInt (Qd (wBin dEq (wVar 3) (wC (.str (Str.ofString ")")))) wNil))))
 (wIf (wBl (wBin (dCmp λi j=>decide (j<i)) (wVar 2) (wC (.int 8)))) (wRet (wC (.bl false))) Qz)))
 (wSeq (wSet 1 (Qhq (Qnq (wVar 1)) wAll (wBin dIx (wLst (Qd (Zr (wVar 0)) (Qd (wC (.str (Str.ofString "single"))) wNil))) (Q0 dInt (Qd (wBin (dIn false) (wVar 0) (wTup (Qd (wC (.str (Str.ofString "level"))) (Qd (wC (.str (Str.ofString "upright"))) wNil)))) wNil))) []))
 (wSeq (Qhl (wAnd (wBl (wBin (dIs true) (wVar 1) (wC .non))) (wBl (wBin dNe (wVar 1) (wLst (Qd (wC (.str (Str.ofString "single"))) wNil))))) (wSet 1 (Q0 Y2 (Qd (wVar 1) wNil))))
 (wRet (wBin (dIs true) (wVar 1) (wC .non)))))))))
theorem Qcg (B:Bn K mg) (C__law_words:Cal P w K mg base "_law_words" 1 ["_law_text_here"] (spR K Zf)) (C__law_lesser:Cal P w K mg base "_law_lesser" 1 ["_law_words_here"] (spR K Y2)):∀(cdv:Value) (A:Around) (outer:List PySem.Env) (s:Shared) (H:Hp) (E:XK),Room 1 (A.deeper (envOfC "_law_writes" (Qa Jq) s.heap.objs.size f cdv))->SVs (cxOf CX0 P w K mg base ["_law_text_here","_law_words_here","_law_open_here","_law_word"] "_law_writes" (Qa Jq) f cdv A outer s H E).nox Ut (Qu Jq) Uj:=λcdv A outer s H E hr =>
  (Qe (Q4 (i:=1) (Ye C__law_words (hr.mono (by decide)) (Qb (Qc 0) Qh)) Jk.nd)
  (Qe (Yf (Q3 Qu0 (Qc 1) Qbe) (Qj (Q5 Qcb)) Q1)
  (Qe (Q4 (i:=2) Qf Jk.nd)
  (Qe (Qa1 PassesOwn.never (Qjd (s:=1)) (Gg (i:=3) Jk.nd) (Qe (Q4 (i:=2) (Qt X2 (Qt Qp (Qc 2) (Qae Qkc B.nb_int Qkj (Qb (Qdu (Zj hr.units) (Qc 3) Qk) Qh))) (Qae Qkc B.nb_int Qkj (Qb (Qdu (Zj hr.units) (Qc 3) Qk) Qh))) Jk.nd)
  (Qj (Yf (Q3 Qle (Qc 2) Qf) (Qj (Q5 Qcb)) Q1))))
  (Qe (Qfc (j:=1) (Qeu [] (Qsx (Qc 1)) (λ_ _ _ _ _=>Qng) (λ_ _ _ _ _=>(Y3 (Yw (Yk hr)) (Ju (Qb (Zg (Qc 0)) (Qb Qk Qh))) (Qae Qkc B.nb_int Qkj (Qb (Qdu (Qr6 (Yk hr)) (Qc 0) (Qds (Qb Qk (Qb Qk Qh)))) Qh))))) (Xd (Qa Jq) ["_law_text_here","_law_words_here","_law_open_here","_law_word"] (by decide +kernel)) Jk.nd)
  (Qe (Qfa PassesOwn.never (Y7 (U5 (Q3 Qfs (Qc 1) Qbe) (Ug (Q3 (Qpb hr.units) (Qc 1) (Ju (Qb Qk Qh)))))) (Qj (Q4 (i:=1) (Ye C__law_lesser (hr.mono (by decide)) (Qb (Qc 1) Qh)) Jk.nd)))
  (Qj (Q5 (Qdu Qfs (Qc 1) Qbe)))))))))
def phD:D->D
 | .str w=>.str (P61.phi w)
 | d=>d
theorem isN:dIs false (sL ws) .non k=k (.bl false):=rfl
theorem isN2:dIs true (sL ws) .non k=k (.bl true):=rfl
theorem Qsa {v:List Str} (h:mn ws) (e:P61.les ws=some v):mn v:=by
 obtain ⟨p,q,s,e1,e2,_⟩:=P61.Qb6 e
 intro w hw
 rw [e2] at hw
 rcases List.mem_append.mp hw with hw | hw
 ·exact h w (by rw [e1];simp [hw])
 ·rcases List.mem_cons.mp hw with rfl | hw
  ·decide +kernel
  ·exact h w (by rw [e1];simp [hw])
theorem Qat (F:Fun K "_law_writes" "_law_writes" Jq f fd) (B:Bn K mg) (C1:Cal P w K mg base "_law_words" 1 ["_law_text_here"] (spR K Zf)) (C2:Cal P w K mg base "_law_lesser" 1 ["_law_words_here"] (spR K Y2)):FnOk P w K mg base CX0 2 f fd ["_law_text_here"] (spR K Yj):=by
 refine U3 (T:=Ut) F Jk rfl (by decide) (λds kk h=>?_) (Qcg B C1 C2) (λds kk h=>?_)
 ·obtain ⟨x,rfl,_⟩:=h
  rfl
 ·obtain ⟨x,rfl,hx,h1,h2⟩:=h
  simp only [Uj,wSeq,wSet,Q0,Qd,env0,List.map_cons,List.map_nil,List.length_cons,List.length_nil,Nat.zero_add,Nat.reduceAdd,List.replicate,List.cons_append,List.nil_append,wNil,wIf,wRet,wC,Qz,Gz,Xi,r_bl,wBin,Jf,look,List.set_cons_succ,List.set_cons_zero,Qm]
  refine ⟨x,rfl,hx,λws hm hc hl=>?_,λhn=>?_⟩
  ·simp only [Qms,isN,Ji,Bool.false_eq_true,reduceIte]
   refine ⟨Jx _,Jx _,λi ρ=>∃(n:Int) (o:Option D),n<=8 /\ -10000<=n+(i:Int) /\ -(i:Int)<=n/\P61.dpB 0 ws=P61.dpB n (ws.drop i)/\ρ=[some (.str x),some (.fls (ws.map .str)),some (.int n),o],⟨0,none,by decide,by decide,by decide,rfl,rfl⟩,?_,?_⟩
   ·rintro i d ρ hd ⟨n,o,hn,_,hn2,he,rfl⟩
    rw [List.getElem?_map] at hd
    obtain ⟨u,hu,rfl⟩:=Option.map_eq_some_iff.mp hd
    rw [Qcc hu,P61.dpB] at he
    simp only [gN,wSeq,wSet,wBin,List.set_cons_succ,List.set_cons_zero,Q0,Qd,wC,wNil,wIf,wRet,Qz,Int.reduceNeg,r_bl,Jf,look,Qm,Qid,Qic,Vi,Qgs,Qgt,Ji]
    have eo:((n+if decide (u=Str.ofString "(")=true then 1 else 0)-if decide (u=Str.ofString ")")=true then 1 else 0)=n+P61.opI u:=by
     unfold P61.opI P61.op P61.cp
     simp only [decide_eq_true_eq]
     omega
    have ob:-1<=P61.opI u/\P61.opI u<=1:=by unfold P61.opI;split <;> split <;> decide
    rw [eo]
    by_cases h8:n+P61.opI u<=8
    ·rw [if_neg (by simp;omega)]
     exact ⟨n+P61.opI u,_,h8,by omega,by omega,by rw [he];simp [h8],rfl⟩
    ·rw [if_pos (by simp;omega)]
     refine h2 λhp=>?_
     have:=((P61.Xu hm hc).mp hp).1
     rw [he] at this
     simp [h8] at this
   ·rintro ρ ⟨n,o,hn,_,hn2,he,rfl⟩
    rw [List.length_map,List.drop_length,P61.dpB] at he
    simp only [wSeq,wSet,Qie,Qnq,Jf,look,Qm,Qq4]
    refine Qdw phD (by rw [List.length_map];exact Nat.lt_of_le_of_lt hl (by decide)) (λd hd Q' hQ=>?_) ?_
    ·obtain ⟨u,hu,rfl⟩:=List.mem_map.mp hd
     simp only [blkE,List.map_nil,wBin,wLst,Qd,Zr,wC,wNil,List.length_cons,List.length_nil,Nat.zero_add,Nat.reduceAdd,sz2,Q0,wTup,true_and,Jf,look,Qm,D.pure] at hQ ⊢
     have hin:∀k:D->Prop,dIn false (D.str u) (D.tup [D.str (Str.ofString "level"),D.str (Str.ofString "upright")]) k=k (.bl (decide (u=Str.ofString "level" \/ u=Str.ofString "upright"))):=λk=>by
      show k (.bl (xor false ((Str.ofString "level" == u) || ((Str.ofString "upright" == u) || false))))=_
      congr 2
      by_cases c1:u=Str.ofString "level"
      ·simp [c1]
      ·by_cases c2:u=Str.ofString "upright"
       ·simp [c2]
       ·have n1:(Str.ofString "level" == u)=false:=beq_eq_false_iff_ne.mpr λz=>c1 z.symm
        have n2:(Str.ofString "upright" == u)=false:=beq_eq_false_iff_ne.mpr λz=>c2 z.symm
        rw [n1,n2];simp [c1,c2]
     rw [hin]
     by_cases c:u=Str.ofString "level" \/ u=Str.ofString "upright"
     ·have ep:P61.phi u=Str.ofString "single":=if_pos c
      simp only [decide_eq_true c,Qic,reduceIte,V7,Qkl,List.getElem?_cons_succ,List.getElem?_cons_zero,Qm]
      simp only [phD,ep] at hQ
      exact hQ
     ·have ep:P61.phi u=u:=if_neg c
      simp only [decide_eq_false c,Qic,Bool.false_eq_true,reduceIte,V7,Qe3,List.getElem?_cons_zero,Qm]
      simp only [phD,ep] at hQ
      exact hQ
    ·have em:(ws.map D.str).map phD=(ws.map P61.phi).map D.str:=by rw [List.map_map,List.map_map];rfl
     rw [em]
     have mp:mn (ws.map P61.phi):=by
      intro z hz
      obtain ⟨y,hy,rfl⟩:=List.mem_map.mp hz
      have:∀y∈P61.menu,P61.phi y∈P61.menu:=by decide +kernel
      exact this y (hm y hy)
     have yes:P61.isW (ws.map P61.phi)->kk (.bl true):=λz=>h1 ((P61.Xu hm hc).mpr ⟨he,z⟩)
     have no:¬P61.isW (ws.map P61.phi)->kk (.bl false):=λz=>h2 λhp=>z ((P61.Xu hm hc).mp hp).2
     refine ⟨λq ρ=>(∃cur:List Str,q=cur.length+1/\mn cur/\cur.length<=6000/\(P61.isW cur↔P61.isW (ws.map P61.phi))/\ρ=[some (.str x),some (sL cur),some (.int n),o])\/(q=0/\¬P61.isW (ws.map P61.phi)/\ρ=[some (.str x),some .non,some (.int n),o]),⟨_,.inl ⟨ws.map P61.phi,rfl,mp,by rw [List.length_map];omega,Iff.rfl,rfl⟩⟩,?_⟩
     rintro q ρ (⟨cur,rfl,mc,lc,wc,rfl⟩ | ⟨rfl,nw,rfl⟩)
     ·simp only [wAnd,wSet,Q0,Qd,wNil,Jf,wRet,wBin,wC,r_bl,wLst,List.length_cons,List.length_nil,Nat.zero_add,sz1,true_and,Bool.false_eq_true,reduceIte,look,List.set_cons_succ,List.set_cons_zero,Qm,isN2,Qt7,Ji]
      refine ⟨Qaq mc,Qaq (ws:=[P61.sgl]) (λz hz=>by rw [List.mem_singleton.mp hz];decide +kernel),λe=>?_,λe=>?_⟩
      ·have e:cur=[P61.sgl]:=by
        have:sL cur=sL [P61.sgl]:=e
        rw [Qcv] at this;exact this
       exact yes (wc.mp ⟨.lf 0,e⟩)
      ·have e:cur≠[P61.sgl]:=λz=>e (by rw [z];rfl)
       refine ⟨cur,rfl,mc,lc,λv hv=>?_,λhv=>?_⟩
       ·obtain ⟨_,_,_,_,_,lt⟩:=P61.Qb6 hv
        exact ⟨v.length+1,by omega,.inl ⟨v,rfl,Qsa mc hv,by omega,(P61.Qlt e hv).trans wc,rfl⟩⟩
       ·exact ⟨0,by omega,.inr ⟨rfl,λz=>P61.Qls e hv (wc.mpr z),rfl⟩⟩
     ·simp only [wAnd,wSet,Q0,Qd,wNil,Jf,wRet,wBin,wC,r_bl,wLst,List.length_cons,List.length_nil,Nat.zero_add,sz1,true_and,Bool.false_eq_true,reduceIte,look,List.set_cons_succ,List.set_cons_zero,Qm]
      rw [show ∀k:D->Prop,dIs true D.non D.non k=k (.bl false) from λk=>rfl]
      exact no nw
  ·simp only [Qon,Ji,reduceIte]
   exact h2 (P61.Qk4 hn)
abbrev J8:Stmt:=top 47
theorem Yu:FnScope ["_law_words_here","_law_at","_law_two","_law_more"] ["_law_words_here"] (Qa J8):=⟨rfl,rfl,rfl,by decide +kernel,rfl,by decide +kernel,by decide +kernel⟩
def Uu:Tg:={ own:=λi=>i == 1 || i == 2 || i == 3,io:=[] }
def Uk:WS:=(wSeq (wFor (Qhn (Qd (Q0 dLen (Qd (wVar 0) wNil)) wNil)) (gN 1) (wSeq (wSet 2 (wSlT (wVar 0) (Jj (wVar 1)) (Jj (wBin Q9 (wVar 1) (wC (.int 5))))))
 (wSeq (wIf (wAnd (wBl (wBin dEq (wSlT (wVar 2) Yx (Jj (wC (.int 1)))) (wLst (Qd (wC (.str (Str.ofString "("))) wNil)))) (wAnd (wBl (wBin dIn2 (wSlT (wVar 2) (Jj (wC (.int 1))) (Jj (wC (.int 2)))) (wTup (Qd (wLst (Qd (wC (.str (Str.ofString "turned"))) wNil)) (Qd (wLst (Qd (wC (.str (Str.ofString "mirrored"))) wNil)) wNil))))) (wBl (wBin dEq (wSlT (wVar 2) (Jj (wC (.int 2))) Yx) (wLst (Qd (wC (.str (Str.ofString " "))) (Qd (wC (.str (Str.ofString "single"))) (Qd (wC (.str (Str.ofString ")"))) wNil)))))))) (wRet (wBin Q9 (wBin Q9 (wSlT (wVar 0) Yx (Jj (wVar 1))) (wLst (Qd (wC (.str (Str.ofString "single"))) wNil))) (wSlT (wVar 0) (Jj (wBin Q9 (wVar 1) (wC (.int 5)))) Yx))) Qz)
 (wSeq (wSet 3 (wSlT (wVar 0) (Jj (wVar 1)) (Jj (wBin Q9 (wVar 1) (wC (.int 7))))))
 (wIf (wAnd (wBl (wBin dEq (wSlT (wVar 3) Yx (Jj (wC (.int 3)))) (wLst (Qd (wC (.str (Str.ofString "("))) (Qd (wC (.str (Str.ofString "single"))) (Qd (wC (.str (Str.ofString " "))) wNil)))))) (wAnd (wBl (wBin dEq (wSlT (wVar 3) (Jj (wC (.int 4))) Yx) (wLst (Qd (wC (.str (Str.ofString " "))) (Qd (wC (.str (Str.ofString "single"))) (Qd (wC (.str (Str.ofString ")"))) wNil)))))) (wBl (wBin (dIn false) (wBin dIx (wVar 3) (wC (.int 3))) (wTup (Qd (wC (.str (Str.ofString "beside"))) (Qd (wC (.str (Str.ofString "above"))) wNil))))))) (wRet (wBin Q9 (wBin Q9 (wSlT (wVar 0) Yx (Jj (wVar 1))) (wLst (Qd (wC (.str (Str.ofString "single"))) wNil))) (wSlT (wVar 0) (Jj (wBin Q9 (wVar 1) (wC (.int 7)))) Yx))) Qz)))))
 (wRet (wC .non)))
theorem Qch (B:Bn K mg):∀(cdv:Value) (A:Around) (outer:List PySem.Env) (s:Shared) (H:Hp) (E:XK),Room 0 (A.deeper (envOfC "_law_lesser" (Qa J8) s.heap.objs.size f cdv))->SVs (cxOf CX0 P w K mg base ["_law_words_here","_law_at","_law_two","_law_more"] "_law_lesser" (Qa J8) f cdv A outer s H E).nox Uu (Qu J8) Uk:=λcdv A outer s H E hr =>
  (Qe (Qa1 PassesOwn.never (Qdi B.nb_range (Qb (Yv Gu B.nb_len Gv (Qb (Qc 0) Qh)) Qh)) (Gg (i:=1) Yu.nd) (Qe (Q4 (i:=2) (Zx (Qc 0) (Q6 (Qc 1)) (Q6 (Qt Qp (Qc 1) Qf))) Yu.nd)
  (Qe (Yf (Y7 (U5 (Q3 (Zj hr.units) (Zx (Qc 2) Zd (Q6 Qf)) (Ju (Qb Qk Qh))) (U5 (Q3 (Qr4 hr.units) (Zx (Qc 2) (Q6 Qf) (Q6 Qf)) (Qds (Qb (Ju (Qb Qk Qh)) (Qb (Ju (Qb Qk Qh)) Qh)))) (Ug (Q3 (Zj hr.units) (Zx (Qc 2) (Q6 Qf) Zd) (Ju (Qb Qk (Qb Qk (Qb Qk Qh))))))))) (Qj (Q5 (Qt Qp (Qt Qp (Zx (Qc 0) Zd (Q6 (Qc 1))) (Ju (Qb Qk Qh))) (Zx (Qc 0) (Q6 (Qt Qp (Qc 1) Qf)) Zd)))) Q1)
  (Qe (Q4 (i:=3) (Zx (Qc 0) (Q6 (Qc 1)) (Q6 (Qt Qp (Qc 1) Qf))) Yu.nd)
  (Qj (Yf (Y7 (U5 (Q3 (Zj hr.units) (Zx (Qc 3) Zd (Q6 Qf)) (Ju (Qb Qk (Qb Qk (Qb Qk Qh))))) (U5 (Q3 (Zj hr.units) (Zx (Qc 3) (Q6 Qf) Zd) (Ju (Qb Qk (Qb Qk (Qb Qk Qh))))) (Ug (Q3 (Qr6 (Yk hr)) (Y3 (Yw (Yk hr)) (Qc 3) Qf) (Qds (Qb Qk (Qb Qk Qh)))))))) (Qj (Q5 (Qt Qp (Qt Qp (Zx (Qc 0) Zd (Q6 (Qc 1))) (Ju (Qb Qk Qh))) (Zx (Qc 0) (Q6 (Qt Qp (Qc 1) Qf)) Zd)))) Q1))))))
  (Qj (Q5 Qbe)))
def w_b2:WS:=(wSeq (wSet 3 (wSlT (wVar 0) (Jj (wVar 1)) (Jj (wBin Q9 (wVar 1) (wC (.int 7))))))
 (wIf (wAnd (wBl (wBin dEq (wSlT (wVar 3) Yx (Jj (wC (.int 3)))) (wLst (Qd (wC (.str (Str.ofString "("))) (Qd (wC (.str (Str.ofString "single"))) (Qd (wC (.str (Str.ofString " "))) wNil)))))) (wAnd (wBl (wBin dEq (wSlT (wVar 3) (Jj (wC (.int 4))) Yx) (wLst (Qd (wC (.str (Str.ofString " "))) (Qd (wC (.str (Str.ofString "single"))) (Qd (wC (.str (Str.ofString ")"))) wNil)))))) (wBl (wBin (dIn false) (wBin dIx (wVar 3) (wC (.int 3))) (wTup (Qd (wC (.str (Str.ofString "beside"))) (Qd (wC (.str (Str.ofString "above"))) wNil))))))) (wRet (wBin Q9 (wBin Q9 (wSlT (wVar 0) Yx (Jj (wVar 1))) (wLst (Qd (wC (.str (Str.ofString "single"))) wNil))) (wSlT (wVar 0) (Jj (wBin Q9 (wVar 1) (wC (.int 7)))) Yx))) Qz))
def w_b1:WS:=(wSeq (wSet 2 (wSlT (wVar 0) (Jj (wVar 1)) (Jj (wBin Q9 (wVar 1) (wC (.int 5))))))
 (wSeq (wIf (wAnd (wBl (wBin dEq (wSlT (wVar 2) Yx (Jj (wC (.int 1)))) (wLst (Qd (wC (.str (Str.ofString "("))) wNil)))) (wAnd (wBl (wBin dIn2 (wSlT (wVar 2) (Jj (wC (.int 1))) (Jj (wC (.int 2)))) (wTup (Qd (wLst (Qd (wC (.str (Str.ofString "turned"))) wNil)) (Qd (wLst (Qd (wC (.str (Str.ofString "mirrored"))) wNil)) wNil))))) (wBl (wBin dEq (wSlT (wVar 2) (Jj (wC (.int 2))) Yx) (wLst (Qd (wC (.str (Str.ofString " "))) (Qd (wC (.str (Str.ofString "single"))) (Qd (wC (.str (Str.ofString ")"))) wNil)))))))) (wRet (wBin Q9 (wBin Q9 (wSlT (wVar 0) Yx (Jj (wVar 1))) (wLst (Qd (wC (.str (Str.ofString "single"))) wNil))) (wSlT (wVar 0) (Jj (wBin Q9 (wVar 1) (wC (.int 5)))) Yx))) Qz)
 w_b2))
theorem Qsf:Uk=(wSeq (wFor (Qhn (Qd (Q0 dLen (Qd (wVar 0) wNil)) wNil)) (gN 1) w_b1)
 (wRet (wC .non))):=rfl
theorem X5 {a b:List Str} (h:mn b) (s:∀w∈a,w∈b):mn a:=λw hw=>h w (s w hw)
theorem Qse (h2:P61.p2 R=false) (h3:P61.p3 R=false) (hR:R≠[]):P61.les R=(P61.les (R.drop 1)).map (R.take 1 ++ ·):=by
 cases R with
 | nil=>exact absurd rfl hR
 | cons w r =>
  rw [P61.les,h2,h3]
  rfl
theorem Qvb {u a b:Str}:dIn false (D.str u) (D.tup [D.str a,D.str b]) k=k (.bl (decide (u=a\/u=b))):=by
 show k (.bl (xor false ((a == u) || ((b == u) || false))))=_
 congr 2
 by_cases c1:u=a
 ·simp [c1]
 ·by_cases c2:u=b
  ·simp [c2]
  ·have n1:(a == u)=false:=beq_eq_false_iff_ne.mpr λz=>c1 z.symm
   have n2:(b == u)=false:=beq_eq_false_iff_ne.mpr λz=>c2 z.symm
   rw [n1,n2];simp [c1,c2]
section
variable {two:D}
theorem Qvn:(∀{v:List Str},cutD (v.map D.str) none (some 1)=(v.take 1).map D.str)/\(∀{v:List Str},cutD (v.map D.str) none (some 3)=(v.take 3).map D.str)/\(∀{v:List Str},cutD (v.map D.str) (some 1) (some 2)=((v.drop 1).take 1).map D.str)/\(∀{v:List Str},cutD (v.map D.str) (some 2) none=(v.drop 2).map D.str)/\(∀{v:List Str},cutD (v.map D.str) (some 4) none=(v.drop 4).map D.str) :=
 ⟨cutT (b:=1),cutT (b:=3),cutG (a:=1) (b:=2),cutF (a:=2),cutF (a:=4)⟩
theorem Qvq (hm:mn ws) (hl:ws.length<=6000) (hi:i<ws.length) (hy:P61.p3 (ws.drop i)=true->Pn.rt (sL (ws.take i++P61.sgl::ws.drop (i+7))) [some (sL ws),some (.int i),some two,some (sL ((ws.drop i).take 7))]) (hn:P61.p3 (ws.drop i)=false->Pn.nx [some (sL ws),some (.int i),some two,some (sL ((ws.drop i).take 7))]):w_b2 Pn [some (sL ws),some (.int i),some two,o3]:=by
 have e7:(i:Int)+7=((i+7:Nat):Int):=by omega
 obtain ⟨c1,c3,c12,c2,c4⟩:=Qvn
 have ps:=λv=>Jx v
 have n7:i+7-i=7:=by omega
 simp only [w_b2,wSeq,wSet,wSlT,wIf,wAnd,wRet,wBin,Yx,wLst,Qd,wC,wNil,List.length_cons,List.length_nil,Nat.zero_add,sz1,Go,Jf,true_and,Qz,r_bl,wTup,Nat.reduceAdd,sz2,Bool.false_eq_true,reduceIte,sz3,Vh,look,List.set_cons_succ,List.set_cons_zero,Qm,Vi,e7,Qcy,ps,cutF,cutT,Qbx,Qn,D.pure,Bool.and_self,cutG,n7,V7,Qvs,c4,Qog,Ji,c3]
 have hR:mn (ws.drop i):=X5 hm λw h=>List.mem_of_mem_drop h
 have t3:List.take 3 (List.take 7 (List.drop i ws))=(ws.drop i).take 3:=by rw [List.take_take];rfl
 have d4:List.drop 4 (List.take 7 (List.drop i ws))=((ws.drop i).drop 4).take 3:=by rw [List.drop_take]
 rw [t3,d4]
 generalize hRd:ws.drop i=R at *
 have mm:∀l:List Str,(∀w∈l,w∈P61.menu)->eqOk 9 (sL l)=true:=λl h=>Qaq h
 have k1:eqOk 9 (sL [P61.op,P61.sgl,P61.sp])=true:=mm _ (by decide +kernel)
 have k2:eqOk 9 (sL [P61.sp,P61.sgl,P61.cp])=true:=mm _ (by decide +kernel)
 refine ⟨Qaq (X5 hR λw h=>List.mem_of_mem_take h),k1,λa=>⟨Qaq (X5 hR λw h=>List.mem_of_mem_drop (List.mem_of_mem_take h)),k2,λb=>?_,λb=>hn ?_⟩,λa=>hn ?_⟩
 ·have a:R.take 3=[P61.op,P61.sgl,P61.sp]:=by
   have:sL (R.take 3)=sL [P61.op,P61.sgl,P61.sp]:=a
   rw [Qcv] at this;exact this
  have b:(R.drop 4).take 3=[P61.sp,P61.sgl,P61.cp]:=by
   have:sL ((R.drop 4).take 3)=sL [P61.sp,P61.sgl,P61.cp]:=b
   rw [Qcv] at this;exact this
  have lR:7<=R.length:=by
   have:=congrArg List.length b
   rw [List.length_take,List.length_drop] at this
   simp at this
   omega
  have g3:(R.take 7)[3]? = some R[3]:=by rw [List.getElem?_take,if_pos (by decide),List.getElem?_eq_getElem (by omega)]
  have t1:(R.drop 3).take 1=[R[3]]:=by rw [List.drop_eq_getElem_cons (by omega)];rfl
  rw [List.getElem?_map,g3]
  simp only [Option.map_some,Qm,Qvb,Ji]
  have p:P61.p3 R=decide (R[3]=Str.ofString "beside" \/ R[3]=Str.ofString "above"):=by
   unfold P61.p3
   rw [a,b,t1]
   simp [biW]
  have sz:∀{n:Nat},n<=100000->n<=sizeLine:=λh=>Nat.le_trans h (by decide)
  cases hp:P61.p3 R with
  | true =>
   rw [← p,hp,if_pos rfl]
   refine ⟨sz (by rw [List.length_map,List.length_take];omega),?_,sz (by simp;omega),?_⟩
   ·have:=Jx (ws.take i++[P61.sgl])
    rw [List.map_append] at this
    exact this
   ·have:=hy hp
    rw [show ws.take i++P61.sgl::ws.drop (i+7)=ws.take i++[P61.sgl]++ws.drop (i+7) by simp] at this
    simpa [sL,P61.sgl] using this
  | false =>
   rw [← p,hp,if_neg (by decide)]
   exact hn hp
 ·have b:(R.drop 4).take 3≠[P61.sp,P61.sgl,P61.cp]:=λz=>b (by rw [z];rfl)
  unfold P61.p3;simp [b]
 ·have a:R.take 3≠[P61.op,P61.sgl,P61.sp]:=λz=>a (by rw [z];rfl)
  unfold P61.p3;simp [a]
end
theorem Qu6 (h2:P61.p2 R=true):P61.les R=some (P61.sgl::R.drop 5):=by
 cases R with
 | nil=>exact absurd h2 (by decide +kernel)
 | cons w r=>rw [P61.les,h2];rfl
theorem Qu5 (h2:P61.p2 R=false) (h3:P61.p3 R=true):P61.les R=some (P61.sgl::R.drop 7):=by
 cases R with
 | nil=>exact absurd h3 (by decide +kernel)
 | cons w r=>rw [P61.les,h2,h3];rfl
theorem Qtg:(∀{v:List Str},cutD (v.map D.str) none (some 1)=(v.take 1).map D.str)/\(∀{v:List Str},cutD (v.map D.str) (some 1) (some 2)=((v.drop 1).take 1).map D.str)/\(∀{v:List Str},cutD (v.map D.str) (some 2) none=(v.drop 2).map D.str) :=
 ⟨cutT (b:=1),cutG (a:=1) (b:=2),cutF (a:=2)⟩
section
variable {o2:Option D}
theorem Qvr (hm:mn ws) (hl:ws.length<=6000) (hi:i<ws.length) (hy:∀v ρ,P61.les (ws.drop i)=some v->Pn.rt (sL (ws.take i++v)) ρ) (hn:P61.p2 (ws.drop i)=false->P61.p3 (ws.drop i)=false->∀o2 o3,Pn.nx [some (sL ws),some (.int i),o2,o3]):w_b1 Pn [some (sL ws),some (.int i),o2,o3]:=by
 have e5:(i:Int)+5=((i+5:Nat):Int):=by omega
 obtain ⟨c1,c12,c2⟩:=Qtg
 have ps:=λv=>Jx v
 have n5:i+5-i=5:=by omega
 have go:P61.p2 (ws.drop i)=false->∀two o3,w_b2 Pn [some (sL ws),some (.int i),some two,o3]:=λh2 two o3 =>
  Qvq hm hl hi (λh3=>hy _ _ (by rw [Qu5 h2 h3,List.drop_drop])) (λh3=>hn h2 h3 _ _)
 simp only [w_b1,wSeq,wSet,wSlT,wIf,wAnd,wRet,wBin,Yx,wLst,Qd,wC,wNil,List.length_cons,List.length_nil,Nat.zero_add,sz1,Go,Jf,true_and,Qz,r_bl,Nat.reduceAdd,sz3,Vh,Bool.false_eq_true,reduceIte,wTup,sz2,look,List.set_cons_succ,List.set_cons_zero,Qm,Vi,e5,Qcy,ps,cutF,cutT,Qbx,Qn,D.pure,Bool.and_self,cutG,n5,c2,Qog,Ji,c12,c1]
 have hR:mn (ws.drop i):=X5 hm λw h=>List.mem_of_mem_drop h
 have t1:List.take 1 (List.take 5 (List.drop i ws))=(ws.drop i).take 1:=by rw [List.take_take];rfl
 have d1:List.take 1 (List.drop 1 (List.take 5 (List.drop i ws)))=((ws.drop i).drop 1).take 1:=by rw [List.drop_take,List.take_take];rfl
 have d2:List.drop 2 (List.take 5 (List.drop i ws))=((ws.drop i).drop 2).take 3:=by rw [List.drop_take]
 rw [t1,d1,d2]
 generalize hRd:ws.drop i=R at *
 have mm:∀l:List Str,(∀w∈l,w∈P61.menu)->eqOk 9 (sL l)=true:=λl h=>Qaq h
 have k1:eqOk 9 (sL [P61.op])=true:=mm _ (by decide +kernel)
 have k2:eqOk 9 (sL [P61.sp,P61.sgl,P61.cp])=true:=mm _ (by decide +kernel)
 have k3:eqOk 9 (sL [unW false])=true:=mm _ (by decide +kernel)
 have k4:eqOk 9 (sL [unW true])=true:=mm _ (by decide +kernel)
 have sz:∀{n:Nat},n<=100000->n<=sizeLine:=λh=>Nat.le_trans h (by decide)
 refine ⟨Qaq (X5 hR λw h=>List.mem_of_mem_take h),k1,λa=>⟨Qaq (X5 hR λw h=>List.mem_of_mem_drop (List.mem_of_mem_take h)),k3,k4,λb=>?_,λb1 b2=>go ?_ _ _⟩,λa=>go ?_ _ _⟩
 ·have a:R.take 1=[P61.op]:=by
   have:sL (R.take 1)=sL [P61.op]:=a
   rw [Qcv] at this;exact this
  have b:(R.drop 1).take 1=[unW false]\/(R.drop 1).take 1=[unW true]:=by
   have:sL ((R.drop 1).take 1)=sL [unW false]\/sL ((R.drop 1).take 1)=sL [unW true]:=b
   rw [Qcv,Qcv] at this;exact this
  simp only [Ji,reduceIte]
  refine ⟨Qaq (X5 hR λw h=>List.mem_of_mem_drop (List.mem_of_mem_take h)),k2,λc=>?_,λc=>go ?_ _ _⟩
  ·have c:(R.drop 2).take 3=[P61.sp,P61.sgl,P61.cp]:=by
    have:sL ((R.drop 2).take 3)=sL [P61.sp,P61.sgl,P61.cp]:=c
    rw [Qcv] at this;exact this
   have p:P61.p2 R=true:=by unfold P61.p2;simp only [a,b,c,decide_true,Bool.true_and,Bool.and_true,Bool.or_eq_true,decide_eq_true_eq]
   refine ⟨sz (by rw [List.length_map,List.length_take];omega),?_,sz (by simp;omega),?_⟩
   ·have:=Jx (ws.take i++[P61.sgl])
    rw [List.map_append] at this
    exact this
   ·have:=hy _ [some (sL ws),some (.int i),some (sL (R.take 5)),o3] (Qu6 p)
    rw [← hRd,List.drop_drop,show ws.take i++P61.sgl::ws.drop (i+5)=ws.take i++[P61.sgl]++ws.drop (i+5) by simp] at this
    rw [← hRd]
    simpa [sL,P61.sgl] using this
  ·have c:(R.drop 2).take 3≠[P61.sp,P61.sgl,P61.cp]:=λz=>c (by rw [z];rfl)
   unfold P61.p2;simp [c]
 ·have c1:(R.drop 1).take 1≠[unW false]:=λz=>b1 (by rw [z];rfl)
  have c2:(R.drop 1).take 1≠[unW true]:=λz=>b2 (by rw [z];rfl)
  have:(decide ((R.drop 1).take 1=[unW false]) || decide ((R.drop 1).take 1=[unW true]))=false:=by rw [decide_eq_false c1,decide_eq_false c2];rfl
  unfold P61.p2;rw [this,Bool.and_false,Bool.false_and]
 ·have a:R.take 1≠[P61.op]:=λz=>a (by rw [z];rfl)
  unfold P61.p2;simp [a]
end
theorem Qau (F:Fun K "_law_lesser" "_law_lesser" J8 f fd) (B:Bn K mg):FnOk P w K mg base CX0 1 f fd ["_law_words_here"] (spR K Y2):=by
 refine U3 (T:=Uu) F Yu rfl (by decide) (λds kk h=>?_) (Qch B) (λds kk h=>?_)
 ·obtain ⟨x,rfl,_⟩:=h
  rfl
 ·obtain ⟨ws,rfl,hm,hl,h1,h2⟩:=h
  rw [Qsf]
  simp only [wSeq,env0,List.map_cons,List.map_nil,List.length_cons,List.length_nil,Nat.zero_add,Nat.reduceAdd,List.replicate,List.cons_append,List.nil_append,Gz,Qmo,Qd,Q0,wNil,Jf,look,Qm,Qcx,Qia,Int.reducePow,Int.reduceNeg,Int.toNat_natCast]
  have lb:(ws.map D.str).length=ws.length:=List.length_map ..
  rw [lb]
  refine ⟨by omega,by omega,Qcz,λi ρ=>i<=ws.length/\P61.les ws=(P61.les (ws.drop i)).map (ws.take i ++ ·)/\∃o1 o2 o3:Option D,ρ=[some (sL ws),o1,o2,o3],⟨Nat.zero_le _,by simp,none,none,none,rfl⟩,?_,?_⟩
  ·rintro i d ρ hd ⟨hi,he,o1,o2,o3,rfl⟩
   obtain ⟨hi,rfl⟩:=Qfk hd
   simp only [gN,Int.zero_add,List.set_cons_succ,List.set_cons_zero]
   refine Qvr (i:=i) hm hl hi (λv ρ hv=>?_) (λh2 h3 o2 o3=>⟨hi,?_,_,_,_,rfl⟩)
   ·exact h1 _ (by rw [he,hv];rfl)
   ·rw [he,Qse h2 h3 (by intro z;rw [List.drop_eq_nil_iff] at z;omega),List.drop_drop,Option.map_map]
    congr 1
    funext v
    show ws.take i++((ws.drop i).take 1++v)=ws.take (i+1)++v
    rw [← List.append_assoc,← List.take_add]
  ·rintro ρ ⟨hi,he,o1,o2,o3,rfl⟩
   simp only [wRet,wC]
   refine h2 ?_
   rw [he,V6,List.drop_length];rfl
abbrev J1:Stmt:=top 46
theorem Yl:FnScope ["_law_text_here","_law_found","_law_at","_law_here"] ["_law_text_here"] (Qa J1):=⟨rfl,rfl,rfl,by decide +kernel,rfl,by decide +kernel,by decide +kernel⟩
def Gm:Tg:={ own:=λi=>i == 1 || i == 2 || i == 3,io:=[] }
def Gk:WS:=(wSeq (wSet 1 (wLst wNil))
 (wSeq (wSet 2 (wC (.int 0)))
 (wSeq (Qhl (wBl (wBin (dCmp λi j=>decide (i<j)) (wVar 2) (Q0 dLen (Qd (wVar 0) wNil)))) (wSeq (wSet 3 (Qhq (Qcj (wTup (Qd (wC (.str (Str.ofString "("))) (Qd (wC (.str (Str.ofString ")"))) (Qd (wC (.str (Str.ofString " "))) (Qd (wC (.str (Str.ofString "single"))) (Qd (wC (.str (Str.ofString "level"))) (Qd (wC (.str (Str.ofString "upright"))) (Qd (wC (.str (Str.ofString "turned"))) (Qd (wC (.str (Str.ofString "mirrored"))) (Qd (wC (.str (Str.ofString "beside"))) (Qd (wC (.str (Str.ofString "above"))) wNil)))))))))))) (wBl (wBin dEq (wSlC (wVar 2) (Jj (wVar 1)) (Jj (wBin Q9 (wVar 1) (Q0 dLen (Qd (wVar 0) wNil))))) (wVar 0))) (Zr (wVar 0)) [2,0]))
 (wSeq (wIf (wBl (wBin dEq (wVar 3) (wLst wNil))) (wRet (wC .non)) Qz)
 (wSeq (Qho (wMt 1 "list" Qb8 (Qd (Zr (wBin dIx (wVar 3) (wC (.int 0)))) wNil)))
 (wSet 2 (wBin Q9 (wVar 2) (Q0 dLen (Qd (wBin dIx (wVar 3) (wC (.int 0))) wNil))))))))
 (Qnr 1))))
theorem Qd4 (B:Bn K mg):∀(cdv:Value) (A:Around) (outer:List PySem.Env) (s:Shared) (H:Hp) (E:XK),Room 0 (A.deeper (envOfC "_law_words" (Qa J1) s.heap.objs.size f cdv))->SVs (cxOf CX0 P w K mg base ["_law_text_here","_law_found","_law_at","_law_here"] "_law_words" (Qa J1) f cdv A outer s H E).nox Gm (Qu J1) Gk:=λcdv A outer s H E hr =>
  (Qe (Q4 (i:=1) (Ju Qh) Yl.nd)
  (Qe (Q4 (i:=2) Qf Yl.nd)
  (Qe (Qfa PassesOwn.never (Q3 Qpc (Qc 2) (Yv Gu B.nb_len Gv (Qb (Qc 0) Qh))) (Qe (Qfc (j:=3) (Qeu [2,0] (Qje (Qds (Qb Qk (Qb Qk (Qb Qk (Qb Qk (Qb Qk (Qb Qk (Qb Qk (Qb Qk (Qb Qk (Qb Qk Qh)))))))))))) (λ_ _ _ _ _=>Qtd (Q3 (Zj hr.units) (Qs5 (Qc 2) (Q6 (Qc 1)) (Q6 (Qt Qp (Qc 1) (Yv Gu B.nb_len Gv (Qb (Qc 0) Qh))))) (Qc 0))) (λ_ _ _ _ _=>(Zg (Qc 0)))) (Xd (Qa J1) ["_law_text_here","_law_found","_law_at","_law_here"] (by decide +kernel)) Yl.nd)
  (Qe (Yf (Q3 (Zj hr.units) (Qc 3) (Ju Qh)) (Qj (Q5 Qbe)) Q1)
  (Qe (Qhw (Qs7 (i:=1) Qde PySem.F.plainAttrs_list PySem.F.slot_list_append PySem.F.type_list_append (Qb (Zg (Y3 (Yw (Yk hr)) (Qc 3) Qf)) Qh)))
  (Qj (Q4 (i:=2) (Qt Qp (Qc 2) (Yv Gu B.nb_len Gv (Qb (Y3 (Yw (Yk hr)) (Qc 3) Qf) Qh))) Yl.nd))))))
  (Qj (Qn2 (i:=1))))))
theorem Qhf {L:List Str} {wt:WT} {Q:D->PV.Env->Prop} (p:Str->Bool) (hz:L.length<sizeLine) (ht:∀t∈L,∀k:Bool->PV.Env->Prop,k (p t) (blkE ρ1 (.str t) ix)->wt (blkE ρ1 (.str t) ix) k)
  (he:∀t∈L,∀Q':D->PV.Env->Prop,Q' (.str t) (blkE ρ1 (.str t) ix)->we (blkE ρ1 (.str t) ix) Q') (hQ:Q (sL (L.filter p)) ρ1):Qp6 (L.map D.str) wt we ρ1 ix Q:=by
 refine ⟨λi ys=>ys=((L.take i).filter p).map D.str/\i<=L.length,⟨by simp,Nat.zero_le _⟩,λi d ys hd ⟨hy,hi⟩=>?_,λys ⟨hy,_⟩=>?_⟩
 ·rw [List.getElem?_map] at hd
  obtain ⟨t,ht',rfl⟩:=Option.map_eq_some_iff.mp hd
  have hlt:=(List.getElem?_eq_some_iff.mp ht').1
  have lt:((L.take i).filter p).length<=L.length:=Nat.le_trans (List.length_filter_le _ _) (by rw [List.length_take];exact Nat.min_le_right _ _)
  refine ⟨by rw [hy,List.length_map];omega,?_⟩
  refine ht t (List.mem_of_getElem? ht') _ ?_
  have e:(L.take (i+1)).filter p=(L.take i).filter p++[t].filter p:=by rw [List.take_add_one,ht',List.filter_append];rfl
  cases hp:p t with
  | true =>
   rw [if_pos rfl]
   refine he t (List.mem_of_getElem? ht') _ ⟨?_,hlt⟩
   rw [hy,e,List.filter_cons_of_pos hp]
   simp
  | false =>
   rw [if_neg (by decide)]
   refine ⟨?_,hlt⟩
   rw [hy,e,List.filter_cons_of_neg (by rw [hp];decide)]
   simp
 ·rw [List.length_map,List.take_length] at hy
  have lt:(L.filter p).length<=L.length:=List.length_filter_le _ _
  refine ⟨by rw [hy,List.length_map];omega,?_⟩
  rw [hy]
  exact hQ
theorem Qkb (x:Str):(cl x).length=x.length:=Array.length_toList
theorem Qtf {w:Str}:cutS x a (a+w.length)=w↔((cl x).drop a).take w.length=cl w:=by
 have e:cl (cutS x a (a+w.length))=((cl x).drop a).take w.length:=by
  show (((x.cps.toList.drop a).take (a+w.length-a)).toArray).toList=_
  rw [Nat.add_sub_cancel_left]
 constructor
 ·intro h
  rw [← e,h]
 ·intro h
  exact S24.Qcd (e.trans h)
theorem Qb2 (F:Fun K "_law_words" "_law_words" J1 f fd) (B:Bn K mg):FnOk P w K mg base CX0 1 f fd ["_law_text_here"] (spR K Zf):=by
 refine U3 (T:=Gm) F Yl rfl (by decide) (λds kk h=>?_) (Qd4 B) (λds kk h=>?_)
 ·obtain ⟨x,rfl,_⟩:=h
  rfl
 ·obtain ⟨x,rfl,hx,h1,h2⟩:=h
  simp only [Gk,wSeq,wSet,wLst,wNil,List.length_nil,sz0,wC,env0,List.map_cons,List.map_nil,List.length_cons,Nat.zero_add,Nat.reduceAdd,List.replicate,List.cons_append,List.nil_append,List.set_cons_succ,List.set_cons_zero,true_and]
  have sz:∀{n:Nat},n<=100000->n<=sizeLine:=λh=>Nat.le_trans h (by decide)
  refine ⟨λn ρ=>∃(fo:List Str) (rest:List Nat) (o:Option D),mn fo/\cl x=P61.cc fo++rest/\fo.length<=(P61.cc fo).length/\n=rest.length/\ρ=[some (.str x),some (sL fo),some (.int ((P61.cc fo).length:Int)),o],⟨_,[],cl x,none,(λ_ h=>absurd h List.not_mem_nil),rfl,Nat.le_refl _,rfl,rfl⟩,?_⟩
  rintro n ρ ⟨fo,rest,o,hm,hc,hl,rfl,rfl⟩
  have lx:x.length=(P61.cc fo).length+rest.length:=by rw [← Qkb,hc,List.length_append]
  simp only [wSeq,wSet,wIf,wRet,wC,Qz,Qho,wMt,Qd,Zr,wBin,wNil,Q0,Jf,r_bl,wLst,List.length_nil,sz0,true_and,Qie,Qkz,wTup,List.length_cons,Nat.zero_add,Nat.reduceAdd,Qqv,Qn,D.pure,Bool.and_self,Qnr,look,Qm,V8,Qgt,Ji]
  refine ⟨sz (by omega),?_⟩
  cases rest with
  | nil =>
   rw [if_neg (by simp [lx])]
   exact h1 fo hm (by rw [hc,List.append_nil]) (by simp at lx;omega)
  | cons c rest =>
   rw [if_pos (by simp [lx];omega)]
   refine ⟨by decide,?_⟩
   have hdr:(cl x).drop (P61.cc fo).length=c::rest:=by rw [hc,List.drop_left]
   let p:Str->Bool:=λw=>decide (((cl x).drop (P61.cc fo).length).take w.length=cl w)
   have mlen:∀w∈P61.menu,w.length<=8/\1<=w.length:=by decide +kernel
   refine Qhf (L:=P61.menu) p (by decide) (λw hw k hk=>?_) (λw hw Q' hQ=>?_) ?_
   ·simp only [blkE,List.map_cons,look,List.map_nil,r_bl,wBin,wSlC,Jf,Go,Q0,Qd,wNil,Qm,V8,Vi,Vh,Qol,Int.toNat_natCast,Qid,Ji]
    have e1:((P61.cc fo).length:Int)+(w.length:Int)=(((P61.cc fo).length+w.length:Nat):Int):=by omega
    rw [e1]
    refine ⟨sz (Nat.le_trans (mlen w hw).1 (by decide)),by omega,by omega,by omega,sz (by omega),?_⟩
    rw [Int.toNat_natCast]
    have e2:decide (cutS x (P61.cc fo).length ((P61.cc fo).length+w.length)=w)=p w:=decide_eq_decide.mpr Qtf
    rw [e2]
    exact hk
   ·simp only [Zr,blkE,List.map_cons,look,List.map_nil,Jf,Qm,D.pure,true_and]
    exact hQ
   ·simp only [List.set_cons_succ,List.set_cons_zero,look,Qqt,BEq.rfl,List.length_cons,Qm,V7,Qe3,Qq0,true_and,Qog,Ji,reduceIte,Bool.false_eq_true]
    have mf:mn (P61.menu.filter p):=λw hw=>(List.mem_filter.mp hw).1
    refine ⟨Qaq mf,rfl,λe=>?_,λe=>?_⟩
    ·have e:P61.menu.filter p=[]:=by
      have:sL (P61.menu.filter p)=sL []:=e
      rw [Qcv] at this;exact this
     refine h2 λws hw hx2=>?_
     obtain ⟨ws',e1,e2⟩:=P61.Qpr hm hw (hc.symm.trans hx2)
     cases ws' with
     | nil=>exact nomatch e2
     | cons w r =>
      have hwm:w∈P61.menu:=hw w (by rw [e1];simp)
      have:w∈P61.menu.filter p:=by
       refine List.mem_filter.mpr ⟨hwm,?_⟩
       show decide (((cl x).drop (P61.cc fo).length).take w.length=cl w)=true
       rw [hdr,e2,P61.Yr,← Qkb,List.take_left]
       simp
      rw [e] at this
      exact absurd this List.not_mem_nil
    ·cases hf:P61.menu.filter p with
     | nil=>exact absurd (show sL (P61.menu.filter p)=sL [] by rw [hf]) e
     | cons w r =>
      have hw:=List.mem_filter.mp (show w∈P61.menu.filter p by rw [hf];simp)
      have ht:(c::rest).take w.length=cl w:=by
       have:=of_decide_eq_true (show decide (((cl x).drop (P61.cc fo).length).take w.length=cl w)=true from hw.2)
       rw [hdr] at this;exact this
      have hrs:c::rest=cl w++(c::rest).drop w.length:=by rw [← ht,List.take_append_drop]
      have l1:=mlen w hw.1
      simp only [List.map_cons,List.getElem?_cons_zero,Qm,V8,Vi,D.pure,true_and]
      have lf:(P61.cc fo).length<=5000:=by omega
      have lw:(P61.cc (fo++[w])).length=(P61.cc fo).length+w.length:=by rw [P61.Qdz,P61.Yr,List.length_append,List.length_append,Qkb];simp [P61.cc]
      have ld:((c::rest).drop w.length).length=rest.length+1-w.length:=by rw [List.length_drop];rfl
      refine ⟨Nat.lt_of_le_of_lt (show _<=5000 by rw [List.length_map];omega) (by decide),sz (Nat.le_trans l1.1 (by decide)),((c::rest).drop w.length).length,by omega,fo++[w],(c::rest).drop w.length,some (sL (w::r)),?_,?_,?_,rfl,?_⟩
      ·intro z hz
       rcases List.mem_append.mp hz with hz | hz
       ·exact hm z hz
       ·rw [List.mem_singleton.mp hz];exact hw.1
      ·rw [P61.Qdz,P61.Yr,hc,List.append_assoc,List.append_assoc]
       congr 1
      ·rw [lw,List.length_append];simp;omega
      ·rw [lw]
       simp [sL]
theorem Qpa (i:Int):(Str.ofString (toString i)).length=(toString i).length:=by
 show (Str.ofString _).cps.size=_
 rw [← Array.length_toList,PyProof.Rows.signs_ofString,List.length_map,String.length_toList]
theorem Qbs:FnScope ["self","at"] ["self","at"] (Qa J0):=⟨rfl,rfl,rfl,by decide +kernel,rfl,by decide +kernel,by decide +kernel⟩
theorem Qb0 (F:Fun K "__init__" "NoText.__init__" J0 f fd) (hm:mg "TangleError" = some (.ref tE))
  (hsp:PySem.W.specialIn K (.ref tE) "__getattribute__" = some (some (.builtin "type.__getattribute__"))) (hrd:PySem.W.readsIn K tE (.type "type")=true)
  (hfc:PySem.W.findCls K (.ref tE) (.type "type") "__init__" = some (.val (.builtin "ValueError.__init__"))) (kc:ExcC K C) (hna:PySem.W.findIn K (.ref C) "at" = some none):FnOk P w K mg base CX0 1 f fd ["self","at"] (L2.spS K C "at"):=by
 refine F.ok Qbs (λvs H Q E h=>by obtain ⟨a,v,rfl,_⟩:=h;rfl) λcdv A outer s H vs Q E hr h=>?_
 obtain ⟨a,v,rfl,⟨i,rfl,h1,h2⟩,ha,q⟩:=h
 refine ⟨_,Xa (Qii (tE:=tE) rfl hm hsp hrd hfc (Zp (pv 0) (Zp (Qk9 (pv 1)) Qa7))) (U9 (Qor (pv 0) (pv 1))),?_⟩
 have z0:=Qpa i
 have z1:(Str.ofString "it can't be read from word " ++ Str.ofString (toString i)).length<=800:=by
  rw [Str.length_append,show (Str.ofString "it can't be read from word ").length=27 by decide];omega
 have z2:(Str.ofString "it can't be read from word " ++ Str.ofString (toString i)++Str.ofString " on").length<=900:=by
  rw [Str.length_append,show (Str.ofString " on").length=3 by decide];omega
 exact ⟨_,rfl,by decide,_,rfl,i,rfl,h1,Nat.le_trans (show _<=900 by omega) (by decide),Nat.le_trans (show _<=900 by omega) (by decide),a,C,_,rfl,ha,kc,_,rfl,_,rfl,a,C,rfl,ha,kc,hna,q⟩
end K61
variable {l:PySem.W.OpenLaw}
namespace K61
open PySem PySem.Spec L2 PV P58
open PyProof.Rows (envOfC)
def Lk (K:PySem.W.Frag) (f:Addr) (x:Str) (st:Stmt):Prop:=∃oc od kV dc pm an cd ct sl,K.lookup f=some ⟨oc,od,.func (PySem.W.fnOf x x (Z2 st) (Qu st) (Qa st) .none kV dc pm an cd ct),sl⟩/\PySem.W.codeIn K cd x=true
theorem Lk.fn (h:Lk K f x st) (k:PySem.W.keepIn K (.ref f)=true):∃fd,Fun K x x st f fd:=by
 obtain ⟨oc,od,kV,dc,pm,an,cd,ct,sl,l,c⟩:=h
 exact ⟨_,Qdp l c k⟩
theorem na2 {K:PySem.W.Frag} {C:Addr} (h0:Jg K C "one") (h1:Jg K C "other"):∀i,Jg K C (fldS i)
 | 0=>h0
 | _+1=>h1
def fnB (K:PySem.W.Frag) (f:Addr):Bool:=PySem.W.isFn K (.ref f) && PySem.W.keepIn K (.ref f)
theorem Qx (h:fnB K f=true):PySem.W.isFn K (.ref f)=true/\PySem.W.keepIn K (.ref f)=true:=by
 simpa only [fnB,Bool.and_eq_true] using h
def LkQ (K:PySem.W.Frag) (f:Addr) (x q:Str) (st:Stmt):Prop:=∃oc od kV dc pm an cd ct sl,K.lookup f=some ⟨oc,od,.func (PySem.W.fnOf x q (Z2 st) (Qu st) (Qa st) .none kV dc pm an cd ct),sl⟩/\PySem.W.codeIn K cd q=true
theorem LkQ.fn (h:LkQ K f x q st) (k:PySem.W.keepIn K (.ref f)=true):∃fd,Fun K x q st f fd:=by
 obtain ⟨oc,od,kV,dc,pm,an,cd,ct,sl,l,c⟩:=h
 exact ⟨_,Qdp l c k⟩
theorem Qtq (X:K.In h) (G:h.Ns mainGlobals mg) (hfa:mg "law" = some (.ref fa))
  {f1:Addr} (a1:atN K "part_or_word" f1) (l1:Lk K f1 "part_or_word" Jv) (k1:PySem.W.keepIn K (.ref f1)=true)
  {f2:Addr} (a2:atN K "are_parts" f2) (l2:Lk K f2 "are_parts" Yg) (k2:PySem.W.keepIn K (.ref f2)=true)
  {f3:Addr} (a3:atN K "made_of_one" f3) (l3:Lk K f3 "made_of_one" Q8) (k3:PySem.W.keepIn K (.ref f3)=true)
  {f4:Addr} (a4:atN K "made_of_two" f4) (l4:Lk K f4 "made_of_two" Q7) (k4:PySem.W.keepIn K (.ref f4)=true)
  {f5:Addr} (a5:atN K "made" f5) (l5:Lk K f5 "made" V1) (k5:PySem.W.keepIn K (.ref f5)=true)
  {f6:Addr} (a6:atN K "bracket_words" f6) (l6:Lk K f6 "bracket_words" Zc) (k6:PySem.W.keepIn K (.ref f6)=true)
  {f7:Addr} (a7:atN K "check_brackets" f7) (l7:Lk K f7 "check_brackets" Qs) (k7:PySem.W.keepIn K (.ref f7)=true)
  {f8:Addr} (a8:atN K "read_part" f8) (l8:Lk K f8 "read_part" Jl) (k8:PySem.W.keepIn K (.ref f8)=true)
  {f9:Addr} (a9:atN K "_law_take" f9) (l9:Lk K f9 "_law_take" Yt) (k9:PySem.W.keepIn K (.ref f9)=true)
  {f10:Addr} (a10:atN K "_law_tree_text" f10) (l10:Lk K f10 "_law_tree_text" Jb) (k10:PySem.W.keepIn K (.ref f10)=true)
  {f11:Addr} (a11:atN K "_law_text" f11) (l11:Lk K f11 "_law_text" Yh) (k11:PySem.W.keepIn K (.ref f11)=true)
  {f12:Addr} (a12:atN K "_law_words" f12) (l12:Lk K f12 "_law_words" J1) (k12:PySem.W.keepIn K (.ref f12)=true)
  {f13:Addr} (a13:atN K "_law_lesser" f13) (l13:Lk K f13 "_law_lesser" J8) (k13:PySem.W.keepIn K (.ref f13)=true)
  {f14:Addr} (a14:atN K "_law_writes" f14) (l14:Lk K f14 "_law_writes" Jq) (k14:PySem.W.keepIn K (.ref f14)=true)
  {f15:Addr} (a15:atN K "_law_refused" f15) (l15:Lk K f15 "_law_refused" Jw) (k15:PySem.W.keepIn K (.ref f15)=true)
  {f16:Addr} {od16 an16:Option Addr} {sl16:Array (Option Value)} {oc16 kV16 dc16 pm16 cd16 ct16:Value}
  (a16:PySem.W.nsIn K mainGlobals "law" = some (some (.ref f16))) (l16:K.lookup f16=some ⟨oc16,od16,.func (PySem.W.fnOf "law" "law" (Z2 Gy) (Qu Gy) (Qa Gy) .none kV16 dc16 pm16 an16 cd16 ct16),sl16⟩) (c16:PySem.W.codeIn K cd16 "law" = true) (k16:PySem.W.keepIn K (.ref f16)=true)
  (z_all:PySem.W.nsIn K mainGlobals "all" = some none)
  (z_int:PySem.W.nsIn K mainGlobals "int" = some none)
  (z_isinstance:PySem.W.nsIn K mainGlobals "isinstance" = some none)
  (z_len:PySem.W.nsIn K mainGlobals "len" = some none)
  (z_range:PySem.W.nsIn K mainGlobals "range" = some none)
  (z_str:PySem.W.nsIn K mainGlobals "str" = some none)
  {tk_MOST_OPEN:Tok} (z_MOST_OPEN:PySem.W.nsIn K mainGlobals "MOST_OPEN" = some (some (.int 8 tk_MOST_OPEN)))
  {C_NoText:Addr} {cd_NoText:ClassData} (zx_NoText:atN K "NoText" C_NoText) (zc_NoText:PySem.W.clsIn K C_NoText=some cd_NoText) (zt_NoText:PySem.W.typeIn K (.ref C_NoText)=some (.type "type"))
  {C_TangleError:Addr} {cd_TangleError:ClassData} (zx_TangleError:atN K "TangleError" C_TangleError) (zc_TangleError:PySem.W.clsIn K C_TangleError=some cd_TangleError) (zt_TangleError:PySem.W.typeIn K (.ref C_TangleError)=some (.type "type"))
  {C_NoWeb:Addr} {cd_NoWeb:ClassData} (zx_NoWeb:atN K "NoWeb" C_NoWeb) (zc_NoWeb:PySem.W.clsIn K C_NoWeb=some cd_NoWeb) (zt_NoWeb:PySem.W.typeIn K (.ref C_NoWeb)=some (.type "type"))
  {C_Odd:Addr} {cd_Odd:ClassData} (zx_Odd:atN K "Odd" C_Odd) (zc_Odd:PySem.W.clsIn K C_Odd=some cd_Odd) (zt_Odd:PySem.W.typeIn K (.ref C_Odd)=some (.type "type"))
  {C_NotFlat:Addr} {cd_NotFlat:ClassData} (zx_NotFlat:atN K "NotFlat" C_NotFlat) (zc_NotFlat:PySem.W.clsIn K C_NotFlat=some cd_NotFlat) (zt_NotFlat:PySem.W.typeIn K (.ref C_NotFlat)=some (.type "type"))
  (zb_TangleError:PySem.W.subIn K (.ref C_TangleError) (.type "BaseException")=some true)
  {dd2_ od2_:Option Addr} {c0_ oc2_:Value} {cdT_:ClassData} {slT_ sl2_:Array (Option Value)} {es2_:Array DictEntry} {ep2_:Nat} (xl2:K.lookup C_TangleError=some ⟨c0_,dd2_,.cls cdT_,slT_⟩) (xn2:K.lookup cdT_.ns=some ⟨oc2_,od2_,.dict es2_ ep2_,sl2_⟩) (xs2:G7 es2_=true) (xi2:nsFind es2_ "__init__" = none)
  (xsp:PySem.W.specialIn K (.ref C_TangleError) "__getattribute__" = some (some (.builtin "type.__getattribute__"))) (xrd:PySem.W.readsIn K C_TangleError (.type "type")=true) (xfc:PySem.W.findCls K (.ref C_TangleError) (.type "type") "__init__" = some (.val (.builtin "ValueError.__init__")))
  (zs_NoText_TangleError:PySem.W.subIn K (.ref C_NoText) (.ref C_TangleError)=some true) (zn_NoText_TangleError:(Value.ref C_NoText == Value.ref C_TangleError)=false)
  (zs_NoText_NoWeb:PySem.W.subIn K (.ref C_NoText) (.ref C_NoWeb)=some false) (zn_NoText_NoWeb:(Value.ref C_NoText == Value.ref C_NoWeb)=false)
  (zs_NoText_Odd:PySem.W.subIn K (.ref C_NoText) (.ref C_Odd)=some false) (zn_NoText_Odd:(Value.ref C_NoText == Value.ref C_Odd)=false)
  (zs_NoText_NotFlat:PySem.W.subIn K (.ref C_NoText) (.ref C_NotFlat)=some false) (zn_NoText_NotFlat:(Value.ref C_NoText == Value.ref C_NotFlat)=false)
  {nm_NoText q_NoText:Str} {bs_NoText sub_NoText:List Value} {N_NoText:Addr} {ab_NoText:Bool} {sn_NoText:List Str} {col_NoText:Option Bool} {dd_NoText:Option Addr} {k0_NoText k1_NoText k2_NoText k3_NoText k5_NoText:Option Value}
  (xl1_NoText:K.lookup C_NoText=some (excClassObj nm_NoText q_NoText C_NoText N_NoText bs_NoText (.ref C_TangleError::[.type "ValueError",.type "Exception",.type "BaseException",.type "object"]) true sn_NoText sub_NoText ab_NoText col_NoText dd_NoText k0_NoText k1_NoText k2_NoText k3_NoText k5_NoText "ValueError.__new__"))
  (xq1_NoText:PySem.W.findIn K (.ref C_NoText) "__getattribute__" = some (some (.builtin "BaseException.__getattribute__"))) (xq2_NoText:PySem.W.findIn K (.ref C_NoText) "__getattr__" = some none) (xq3_NoText:PySem.W.findIn K (.ref C_NoText) "__class__" = some (some (.builtin "object.__class__"))) (xq4_NoText:PySem.W.subIn K (.ref C_NoText) (.type "object")=some true) (xq5_NoText:PySem.W.subIn K (.ref C_NoText) (.type "BaseException")=some true)
  {fi_NoText:Addr} {odi_NoText ani_NoText:Option Addr} {sli_NoText:Array (Option Value)} {oci_NoText kVi_NoText dci_NoText pmi_NoText cdi_NoText cti_NoText:Value} (xsa_NoText:PySem.W.findIn K (.ref C_NoText) "__setattr__" = some (some (.builtin "object.__setattr__"))) (xii_NoText:PySem.W.findIn K (.ref C_NoText) "__init__" = some (some (.ref fi_NoText))) (xti_NoText:PySem.W.typeIn K (.ref fi_NoText)=some (.type "function")) (xkp_NoText:PySem.W.keepIn K (.ref C_NoText)=true) (xna_NoText:PySem.W.findIn K (.ref C_NoText) "at" = some none)
  (li_NoText:K.lookup fi_NoText=some ⟨oci_NoText,odi_NoText,.func (PySem.W.fnOf "__init__" "NoText.__init__" (Z2 J0) (Qu J0) (Qa J0) .none kVi_NoText dci_NoText pmi_NoText ani_NoText cdi_NoText cti_NoText),sli_NoText⟩) (ci_NoText:PySem.W.codeIn K cdi_NoText "NoText.__init__" = true) (ki_NoText:PySem.W.keepIn K (.ref fi_NoText)=true)
  (zV:PySem.W.nsIn K mainGlobals "ValueError" = some none)
  (zVs_NoText:PySem.W.subIn K (.ref C_NoText) (.type "ValueError")=some true)
  {fw_Level:Addr} (zx_Level:atN K "Level" C_Level) (xhb_Level:clsB K C_Level=true) (xsa_Level:PySem.W.findIn K (.ref C_Level) "__setattr__" = some (some (.builtin "object.__setattr__"))) (xca_Level:PySem.W.findIn K (.ref C_Level) "__class__" = some (some (.builtin "object.__class__"))) (xmr_Level:PySem.W.mroIn K C_Level (.type "object")=some true) (xn0_Level:Jg K C_Level "one") (xn1_Level:Jg K C_Level "other")
  (xw_Level:PySem.W.findIn K (.ref C_Level) "written" = some (some (.ref fw_Level))) (xhw_Level:fnB K fw_Level=true) (lw_Level:LkQ K fw_Level "written" "Level.written" Zt)
  (zi_Level:PySem.W.findIn K (.ref C_Level) "__init__" = some (some (.builtin "object.__init__")))
  {fw_Upright:Addr} (zx_Upright:atN K "Upright" C_Upright) (xhb_Upright:clsB K C_Upright=true) (xsa_Upright:PySem.W.findIn K (.ref C_Upright) "__setattr__" = some (some (.builtin "object.__setattr__"))) (xca_Upright:PySem.W.findIn K (.ref C_Upright) "__class__" = some (some (.builtin "object.__class__"))) (xmr_Upright:PySem.W.mroIn K C_Upright (.type "object")=some true) (xn0_Upright:Jg K C_Upright "one") (xn1_Upright:Jg K C_Upright "other")
  (xw_Upright:PySem.W.findIn K (.ref C_Upright) "written" = some (some (.ref fw_Upright))) (xhw_Upright:fnB K fw_Upright=true) (lw_Upright:LkQ K fw_Upright "written" "Upright.written" Y0)
  (zi_Upright:PySem.W.findIn K (.ref C_Upright) "__init__" = some (some (.builtin "object.__init__")))
  {fw_Single:Addr} (zx_Single:atN K "Single" C_Single) (xhb_Single:clsB K C_Single=true) (xsa_Single:PySem.W.findIn K (.ref C_Single) "__setattr__" = some (some (.builtin "object.__setattr__"))) (xca_Single:PySem.W.findIn K (.ref C_Single) "__class__" = some (some (.builtin "object.__class__"))) (xmr_Single:PySem.W.mroIn K C_Single (.type "object")=some true) (xn0_Single:Jg K C_Single "one") (xn1_Single:Jg K C_Single "other")
  (xw_Single:PySem.W.findIn K (.ref C_Single) "written" = some (some (.ref fw_Single))) (xhw_Single:fnB K fw_Single=true) (lw_Single:LkQ K fw_Single "written" "Single.written" Za)
  (zi_Single:PySem.W.findIn K (.ref C_Single) "__init__" = some (some (.builtin "object.__init__")))
  {C_Beside fw_Beside:Addr} (zx_Beside:atN K "Beside" C_Beside) (xhb_Beside:clsB K C_Beside=true) (xsa_Beside:PySem.W.findIn K (.ref C_Beside) "__setattr__" = some (some (.builtin "object.__setattr__"))) (xca_Beside:PySem.W.findIn K (.ref C_Beside) "__class__" = some (some (.builtin "object.__class__"))) (xmr_Beside:PySem.W.mroIn K C_Beside (.type "object")=some true) (xn0_Beside:Jg K C_Beside "one") (xn1_Beside:Jg K C_Beside "other")
  (xw_Beside:PySem.W.findIn K (.ref C_Beside) "written" = some (some (.ref fw_Beside))) (xhw_Beside:fnB K fw_Beside=true) (lw_Beside:LkQ K fw_Beside "written" "Beside.written" Zb)
  {fi_Beside:Addr} (xi_Beside:PySem.W.findIn K (.ref C_Beside) "__init__" = some (some (.ref fi_Beside))) (xhi_Beside:fnB K fi_Beside=true) (li_Beside:LkQ K fi_Beside "__init__" "Beside.__init__" Vg)
  {C_Above fw_Above:Addr} (zx_Above:atN K "Above" C_Above) (xhb_Above:clsB K C_Above=true) (xsa_Above:PySem.W.findIn K (.ref C_Above) "__setattr__" = some (some (.builtin "object.__setattr__"))) (xca_Above:PySem.W.findIn K (.ref C_Above) "__class__" = some (some (.builtin "object.__class__"))) (xmr_Above:PySem.W.mroIn K C_Above (.type "object")=some true) (xn0_Above:Jg K C_Above "one") (xn1_Above:Jg K C_Above "other")
  (xw_Above:PySem.W.findIn K (.ref C_Above) "written" = some (some (.ref fw_Above))) (xhw_Above:fnB K fw_Above=true) (lw_Above:LkQ K fw_Above "written" "Above.written" Zu)
  {fi_Above:Addr} (xi_Above:PySem.W.findIn K (.ref C_Above) "__init__" = some (some (.ref fi_Above))) (xhi_Above:fnB K fi_Above=true) (li_Above:LkQ K fi_Above "__init__" "Above.__init__" V5)
  {C_Turned fw_Turned:Addr} (zx_Turned:atN K "Turned" C_Turned) (xhb_Turned:clsB K C_Turned=true) (xsa_Turned:PySem.W.findIn K (.ref C_Turned) "__setattr__" = some (some (.builtin "object.__setattr__"))) (xca_Turned:PySem.W.findIn K (.ref C_Turned) "__class__" = some (some (.builtin "object.__class__"))) (xmr_Turned:PySem.W.mroIn K C_Turned (.type "object")=some true) (xn0_Turned:Jg K C_Turned "one") (xn1_Turned:Jg K C_Turned "other")
  (xw_Turned:PySem.W.findIn K (.ref C_Turned) "written" = some (some (.ref fw_Turned))) (xhw_Turned:fnB K fw_Turned=true) (lw_Turned:LkQ K fw_Turned "written" "Turned.written" Y9)
  {fi_Turned:Addr} (xi_Turned:PySem.W.findIn K (.ref C_Turned) "__init__" = some (some (.ref fi_Turned))) (xhi_Turned:fnB K fi_Turned=true) (li_Turned:LkQ K fi_Turned "__init__" "Turned.__init__" Vf)
  {C_Mirrored fw_Mirrored:Addr} (zx_Mirrored:atN K "Mirrored" C_Mirrored) (xhb_Mirrored:clsB K C_Mirrored=true) (xsa_Mirrored:PySem.W.findIn K (.ref C_Mirrored) "__setattr__" = some (some (.builtin "object.__setattr__"))) (xca_Mirrored:PySem.W.findIn K (.ref C_Mirrored) "__class__" = some (some (.builtin "object.__class__"))) (xmr_Mirrored:PySem.W.mroIn K C_Mirrored (.type "object")=some true) (xn0_Mirrored:Jg K C_Mirrored "one") (xn1_Mirrored:Jg K C_Mirrored "other")
  (xw_Mirrored:PySem.W.findIn K (.ref C_Mirrored) "written" = some (some (.ref fw_Mirrored))) (xhw_Mirrored:fnB K fw_Mirrored=true) (lw_Mirrored:LkQ K fw_Mirrored "written" "Mirrored.written" Ym)
  {fi_Mirrored:Addr} (xi_Mirrored:PySem.W.findIn K (.ref C_Mirrored) "__init__" = some (some (.ref fi_Mirrored))) (xhi_Mirrored:fnB K fi_Mirrored=true) (li_Mirrored:LkQ K fi_Mirrored "__init__" "Mirrored.__init__" Zn)
  {C_Part:Addr} (zx_Part:atN K "Part" C_Part)
  (xht_Part:([(Str.ofString "Level",C_Level),(Str.ofString "Upright",C_Upright),(Str.ofString "Single",C_Single),(Str.ofString "Beside",C_Beside),(Str.ofString "Above",C_Above),(Str.ofString "Turned",C_Turned),(Str.ofString "Mirrored",C_Mirrored)].all λp=>PySem.W.kitOne K (.ref p.2) (.ref C_Part) == some (G6 p.1))=true) (xs_Part:PySem.W.kitOne K (.type "str") (.ref C_Part)=some false)
  (xo1:PySem.W.specialIn K (.builtin "object.__class__") "__get__" = some (some (.builtin "getset_descriptor.__get__"))) (xo2:PySem.W.takesIn K (.builtin "object.__class__")=some true)
  (xe1_Level:PySem.W.findIn K (.ref C_Level) "__eq__" = some (some (.builtin "object.__eq__"))) (xe2_Level:PySem.W.subIn K (.ref C_Level) (.type "object")=some true) (xe3_Level:PySem.W.subIn K (.type "str") (.ref C_Level)=some false)
  (xe1_Upright:PySem.W.findIn K (.ref C_Upright) "__eq__" = some (some (.builtin "object.__eq__"))) (xe2_Upright:PySem.W.subIn K (.ref C_Upright) (.type "object")=some true) (xe3_Upright:PySem.W.subIn K (.type "str") (.ref C_Upright)=some false)
  (xe1_Single:PySem.W.findIn K (.ref C_Single) "__eq__" = some (some (.builtin "object.__eq__"))) (xe2_Single:PySem.W.subIn K (.ref C_Single) (.type "object")=some true) (xe3_Single:PySem.W.subIn K (.type "str") (.ref C_Single)=some false)
  (xe1_Beside:PySem.W.findIn K (.ref C_Beside) "__eq__" = some (some (.builtin "object.__eq__"))) (xe2_Beside:PySem.W.subIn K (.ref C_Beside) (.type "object")=some true) (xe3_Beside:PySem.W.subIn K (.type "str") (.ref C_Beside)=some false)
  (xe1_Above:PySem.W.findIn K (.ref C_Above) "__eq__" = some (some (.builtin "object.__eq__"))) (xe2_Above:PySem.W.subIn K (.ref C_Above) (.type "object")=some true) (xe3_Above:PySem.W.subIn K (.type "str") (.ref C_Above)=some false)
  (xe1_Turned:PySem.W.findIn K (.ref C_Turned) "__eq__" = some (some (.builtin "object.__eq__"))) (xe2_Turned:PySem.W.subIn K (.ref C_Turned) (.type "object")=some true) (xe3_Turned:PySem.W.subIn K (.type "str") (.ref C_Turned)=some false)
  (xe1_Mirrored:PySem.W.findIn K (.ref C_Mirrored) "__eq__" = some (some (.builtin "object.__eq__"))) (xe2_Mirrored:PySem.W.subIn K (.ref C_Mirrored) (.type "object")=some true) (xe3_Mirrored:PySem.W.subIn K (.type "str") (.ref C_Mirrored)=some false)
  : ∃fd:FuncData,(∀(s:Shared) (v:Value),BindsTo s fd ⟨[v],[]⟩ [("_law_script",v)])/\∀base:Heap,K.In base->base.Ns mainGlobals mg->FnOk l.prog w K mg base CX0 16 fa fd ["_law_script"] (spR K Qjl):=by
 have e:=hfa.symm.trans (PySem.W.mg_of X G a16)
 cases e
 have xQ_NoText:ExcQ K C_NoText:=⟨xq1_NoText,xq2_NoText,xq3_NoText,xq4_NoText,xq5_NoText,by rw [zc_NoText];rfl⟩
 have xR_NoText:∀C,atN K "NoText" C->C=C_NoText:=λC h=>by have:=h.symm.trans zx_NoText;cases this;rfl
 have xC_NoText:ExcC K C_NoText:=Qpw xl1_NoText xl2 xn2 xs2 xi2 xsa_NoText
 have D_Level:ClsD K C_Level:=⟨xhb_Level,xsa_Level,xca_Level,xmr_Level⟩
 have K_Level:ClN K mg "Level" C_Level:=⟨PySem.W.mg_of X G zx_Level,zx_Level,D_Level⟩
 have D_Upright:ClsD K C_Upright:=⟨xhb_Upright,xsa_Upright,xca_Upright,xmr_Upright⟩
 have K_Upright:ClN K mg "Upright" C_Upright:=⟨PySem.W.mg_of X G zx_Upright,zx_Upright,D_Upright⟩
 have D_Single:ClsD K C_Single:=⟨xhb_Single,xsa_Single,xca_Single,xmr_Single⟩
 have K_Single:ClN K mg "Single" C_Single:=⟨PySem.W.mg_of X G zx_Single,zx_Single,D_Single⟩
 have D_Beside:ClsD K C_Beside:=⟨xhb_Beside,xsa_Beside,xca_Beside,xmr_Beside⟩
 have K_Beside:ClN K mg "Beside" C_Beside:=⟨PySem.W.mg_of X G zx_Beside,zx_Beside,D_Beside⟩
 have D_Above:ClsD K C_Above:=⟨xhb_Above,xsa_Above,xca_Above,xmr_Above⟩
 have K_Above:ClN K mg "Above" C_Above:=⟨PySem.W.mg_of X G zx_Above,zx_Above,D_Above⟩
 have D_Turned:ClsD K C_Turned:=⟨xhb_Turned,xsa_Turned,xca_Turned,xmr_Turned⟩
 have K_Turned:ClN K mg "Turned" C_Turned:=⟨PySem.W.mg_of X G zx_Turned,zx_Turned,D_Turned⟩
 have D_Mirrored:ClsD K C_Mirrored:=⟨xhb_Mirrored,xsa_Mirrored,xca_Mirrored,xmr_Mirrored⟩
 have K_Mirrored:ClN K mg "Mirrored" C_Mirrored:=⟨PySem.W.mg_of X G zx_Mirrored,zx_Mirrored,D_Mirrored⟩
 have hfl:∀(i:Nat) (x:Str) (C:Addr),isC x=true->atN K x C->(x,C)∈[(Str.ofString "Level",C_Level),(Str.ofString "Upright",C_Upright),(Str.ofString "Single",C_Single),(Str.ofString "Beside",C_Beside),(Str.ofString "Above",C_Above),(Str.ofString "Turned",C_Turned),(Str.ofString "Mirrored",C_Mirrored)]/\ClsD K C/\Jg K C (fldS i):=λi x C h1 h2=>by
  rcases Qjg h1 with rfl | rfl | rfl | rfl | rfl | rfl | rfl
  ·obtain rfl:=Yi h2 zx_Level;exact ⟨by simp,D_Level,na2 xn0_Level xn1_Level i⟩
  ·obtain rfl:=Yi h2 zx_Upright;exact ⟨by simp,D_Upright,na2 xn0_Upright xn1_Upright i⟩
  ·obtain rfl:=Yi h2 zx_Single;exact ⟨by simp,D_Single,na2 xn0_Single xn1_Single i⟩
  ·obtain rfl:=Yi h2 zx_Beside;exact ⟨by simp,D_Beside,na2 xn0_Beside xn1_Beside i⟩
  ·obtain rfl:=Yi h2 zx_Above;exact ⟨by simp,D_Above,na2 xn0_Above xn1_Above i⟩
  ·obtain rfl:=Yi h2 zx_Turned;exact ⟨by simp,D_Turned,na2 xn0_Turned xn1_Turned i⟩
  ·obtain rfl:=Yi h2 zx_Mirrored;exact ⟨by simp,D_Mirrored,na2 xn0_Mirrored xn1_Mirrored i⟩
 have hec:∀x C,isC x=true->atN K x C->EqC K C:=λx C h1 h2=>by
  rcases Qjg h1 with rfl | rfl | rfl | rfl | rfl | rfl | rfl
  ·obtain rfl:=Yi h2 zx_Level;exact ⟨xe1_Level,xe2_Level,xe3_Level⟩
  ·obtain rfl:=Yi h2 zx_Upright;exact ⟨xe1_Upright,xe2_Upright,xe3_Upright⟩
  ·obtain rfl:=Yi h2 zx_Single;exact ⟨xe1_Single,xe2_Single,xe3_Single⟩
  ·obtain rfl:=Yi h2 zx_Beside;exact ⟨xe1_Beside,xe2_Beside,xe3_Beside⟩
  ·obtain rfl:=Yi h2 zx_Above;exact ⟨xe1_Above,xe2_Above,xe3_Above⟩
  ·obtain rfl:=Yi h2 zx_Turned;exact ⟨xe1_Turned,xe2_Turned,xe3_Turned⟩
  ·obtain rfl:=Yi h2 zx_Mirrored;exact ⟨xe1_Mirrored,xe2_Mirrored,xe3_Mirrored⟩
 have B:Bn K mg:=⟨PySem.W.mg_none_of X G z_all,PySem.W.mg_none_of X G z_int,PySem.W.mg_none_of X G z_isinstance,PySem.W.mg_none_of X G z_len,PySem.W.mg_none_of X G z_range,PySem.W.mg_none_of X G z_str,⟨tk_MOST_OPEN,PySem.W.mg_of X G z_MOST_OPEN⟩,⟨xo1,xo2⟩,λi x C h1 h2=>(hfl i x C h1 h2).2,hec,⟨C_Part,PySem.W.mg_of X G zx_Part,λx C h1 h2=>⟨(hfl 0 x C h1 h2).2.1,eq_of_beq (List.all_eq_true.mp xht_Part _ (hfl 0 x C h1 h2).1)⟩,xs_Part⟩,⟨C_TangleError,PySem.W.mg_of X G zx_TangleError,λx C h1 h2=>by
  rcases Qu9 h1 with rfl
  ·obtain rfl:=xR_NoText C h2;exact Qs2 zb_TangleError zc_TangleError zt_TangleError zs_NoText_TangleError⟩,⟨C_NoWeb,PySem.W.mg_of X G zx_NoWeb,λx k R h1 h2=>by
  rcases Qnw h1 with ⟨rfl,rfl⟩
  ·obtain rfl:=xR_NoText R h2;exact ⟨xQ_NoText,Qb7 zn_NoText_NoWeb zc_NoWeb zt_NoWeb zs_NoText_NoWeb⟩⟩,⟨C_Odd,PySem.W.mg_of X G zx_Odd,λx k R h1 h2=>by
  rcases Qnw h1 with ⟨rfl,rfl⟩
  ·obtain rfl:=xR_NoText R h2;exact ⟨xQ_NoText,Qb7 zn_NoText_Odd zc_Odd zt_Odd zs_NoText_Odd⟩⟩,⟨C_NoText,PySem.W.mg_of X G zx_NoText,λx k R h1 h2=>by
  rcases Qd9 h1 with ⟨rfl,rfl⟩
  ·obtain rfl:=xR_NoText R h2;exact ⟨xQ_NoText,Qll⟩⟩,⟨C_NotFlat,PySem.W.mg_of X G zx_NotFlat,λx k R h1 h2=>by
  rcases Qnw h1 with ⟨rfl,rfl⟩
  ·obtain rfl:=xR_NoText R h2;exact ⟨xQ_NoText,Qb7 zn_NoText_NotFlat zc_NotFlat zt_NotFlat zs_NoText_NotFlat⟩⟩,⟨PySem.W.mg_none_of X G zV,λx k R h1 h2=>by
  rcases Xk h1 with ⟨rfl,rfl⟩
  ·obtain rfl:=xR_NoText R h2;exact ⟨xQ_NoText,Qpj zVs_NoText⟩⟩,λx C h1 h2=>by obtain rfl:=of_decide_eq_true h1;obtain rfl:=xR_NoText C h2;exact ⟨xC_NoText,xQ_NoText,xna_NoText⟩⟩
 obtain ⟨_,F1⟩:=l1.fn k1
 obtain ⟨_,F2⟩:=l2.fn k2
 obtain ⟨_,F3⟩:=l3.fn k3
 obtain ⟨_,F4⟩:=l4.fn k4
 obtain ⟨_,F5⟩:=l5.fn k5
 obtain ⟨_,F6⟩:=l6.fn k6
 obtain ⟨_,F7⟩:=l7.fn k7
 obtain ⟨_,F8⟩:=l8.fn k8
 obtain ⟨_,F9⟩:=l9.fn k9
 obtain ⟨_,F10⟩:=l10.fn k10
 obtain ⟨_,F11⟩:=l11.fn k11
 obtain ⟨_,F12⟩:=l12.fn k12
 obtain ⟨_,F13⟩:=l13.fn k13
 obtain ⟨_,F14⟩:=l14.fn k14
 obtain ⟨_,F15⟩:=l15.fn k15
 have F16:=Qdp (st:=Gy) l16 c16 k16
 refine ⟨PySem.W.fnOf "law" "law" (Z2 Gy) (Qu Gy) (Qa Gy) .none kV16 dc16 pm16 an16 cd16 ct16,λs v=>.of_eq rfl,λbase _ _=>?_⟩
 obtain ⟨_,FW_Level⟩:=lw_Level.fn (Qx xhw_Level).2
 have H_Level:HW K "Level" "Level.written" Zt:=⟨⟨C_Level,fw_Level,_,zx_Level,D_Level,⟨xw_Level,(Qx xhw_Level).1,(Qx xhw_Level).2⟩,FW_Level,FW_Level.binds λ_ _ _ _ _ _ us hl=>by obtain ⟨_,rfl⟩:=len1 hl;rfl⟩⟩
 obtain ⟨_,FW_Upright⟩:=lw_Upright.fn (Qx xhw_Upright).2
 have H_Upright:HW K "Upright" "Upright.written" Y0:=⟨⟨C_Upright,fw_Upright,_,zx_Upright,D_Upright,⟨xw_Upright,(Qx xhw_Upright).1,(Qx xhw_Upright).2⟩,FW_Upright,FW_Upright.binds λ_ _ _ _ _ _ us hl=>by obtain ⟨_,rfl⟩:=len1 hl;rfl⟩⟩
 obtain ⟨_,FW_Single⟩:=lw_Single.fn (Qx xhw_Single).2
 have H_Single:HW K "Single" "Single.written" Za:=⟨⟨C_Single,fw_Single,_,zx_Single,D_Single,⟨xw_Single,(Qx xhw_Single).1,(Qx xhw_Single).2⟩,FW_Single,FW_Single.binds λ_ _ _ _ _ _ us hl=>by obtain ⟨_,rfl⟩:=len1 hl;rfl⟩⟩
 obtain ⟨_,FW_Beside⟩:=lw_Beside.fn (Qx xhw_Beside).2
 have H_Beside:HW K "Beside" "Beside.written" Zb:=⟨⟨C_Beside,fw_Beside,_,zx_Beside,D_Beside,⟨xw_Beside,(Qx xhw_Beside).1,(Qx xhw_Beside).2⟩,FW_Beside,FW_Beside.binds λ_ _ _ _ _ _ us hl=>by obtain ⟨_,rfl⟩:=len1 hl;rfl⟩⟩
 obtain ⟨_,FI_Beside⟩:=li_Beside.fn (Qx xhi_Beside).2
 have I_Beside:IniN l.prog w K mg base "Beside" 2 1:=⟨C_Beside,fi_Beside,_,K_Beside,⟨D_Beside.all.2.2.2.1,xi_Beside,(Qx xhi_Beside).1,D_Beside.all.2.2.2.2⟩,Qb1 FI_Beside D_Beside.cls (na2 xn0_Beside xn1_Beside),FI_Beside.binds λ_ _ _ _ _ _ us hl=>by obtain ⟨_,_,_,rfl⟩:=len3 hl;rfl⟩
 obtain ⟨_,FW_Above⟩:=lw_Above.fn (Qx xhw_Above).2
 have H_Above:HW K "Above" "Above.written" Zu:=⟨⟨C_Above,fw_Above,_,zx_Above,D_Above,⟨xw_Above,(Qx xhw_Above).1,(Qx xhw_Above).2⟩,FW_Above,FW_Above.binds λ_ _ _ _ _ _ us hl=>by obtain ⟨_,rfl⟩:=len1 hl;rfl⟩⟩
 obtain ⟨_,FI_Above⟩:=li_Above.fn (Qx xhi_Above).2
 have I_Above:IniN l.prog w K mg base "Above" 2 1:=⟨C_Above,fi_Above,_,K_Above,⟨D_Above.all.2.2.2.1,xi_Above,(Qx xhi_Above).1,D_Above.all.2.2.2.2⟩,Qc7 FI_Above D_Above.cls (na2 xn0_Above xn1_Above),FI_Above.binds λ_ _ _ _ _ _ us hl=>by obtain ⟨_,_,_,rfl⟩:=len3 hl;rfl⟩
 obtain ⟨_,FW_Turned⟩:=lw_Turned.fn (Qx xhw_Turned).2
 have H_Turned:HW K "Turned" "Turned.written" Y9:=⟨⟨C_Turned,fw_Turned,_,zx_Turned,D_Turned,⟨xw_Turned,(Qx xhw_Turned).1,(Qx xhw_Turned).2⟩,FW_Turned,FW_Turned.binds λ_ _ _ _ _ _ us hl=>by obtain ⟨_,rfl⟩:=len1 hl;rfl⟩⟩
 obtain ⟨_,FI_Turned⟩:=li_Turned.fn (Qx xhi_Turned).2
 have I_Turned:IniN l.prog w K mg base "Turned" 1 1:=⟨C_Turned,fi_Turned,_,K_Turned,⟨D_Turned.all.2.2.2.1,xi_Turned,(Qx xhi_Turned).1,D_Turned.all.2.2.2.2⟩,Qbz FI_Turned D_Turned.cls (na2 xn0_Turned xn1_Turned),FI_Turned.binds λ_ _ _ _ _ _ us hl=>by obtain ⟨_,_,rfl⟩:=len2 hl;rfl⟩
 obtain ⟨_,FW_Mirrored⟩:=lw_Mirrored.fn (Qx xhw_Mirrored).2
 have H_Mirrored:HW K "Mirrored" "Mirrored.written" Ym:=⟨⟨C_Mirrored,fw_Mirrored,_,zx_Mirrored,D_Mirrored,⟨xw_Mirrored,(Qx xhw_Mirrored).1,(Qx xhw_Mirrored).2⟩,FW_Mirrored,FW_Mirrored.binds λ_ _ _ _ _ _ us hl=>by obtain ⟨_,rfl⟩:=len1 hl;rfl⟩⟩
 obtain ⟨_,FI_Mirrored⟩:=li_Mirrored.fn (Qx xhi_Mirrored).2
 have I_Mirrored:IniN l.prog w K mg base "Mirrored" 1 1:=⟨C_Mirrored,fi_Mirrored,_,K_Mirrored,⟨D_Mirrored.all.2.2.2.1,xi_Mirrored,(Qx xhi_Mirrored).1,D_Mirrored.all.2.2.2.2⟩,X0 FI_Mirrored D_Mirrored.cls (na2 xn0_Mirrored xn1_Mirrored),FI_Mirrored.binds λ_ _ _ _ _ _ us hl=>by obtain ⟨_,_,rfl⟩:=len2 hl;rfl⟩
 have Wr:WrN l.prog w K mg base:=wrN B H_Level H_Upright H_Single H_Beside H_Above H_Turned H_Mirrored
 have I_NoText:Z9 l.prog w K mg base "NoText" "at" 1:=⟨C_NoText,fi_NoText,_,["self","at"],PySem.W.mg_of X G zx_NoText,zx_NoText,xkp_NoText,xC_NoText,xii_NoText,xti_NoText,Qb0 (Qdp (st:=J0) li_NoText ci_NoText ki_NoText) (PySem.W.mg_of X G zx_TangleError) xsp xrd xfc xC_NoText xna_NoText,(Qdp (st:=J0) li_NoText ci_NoText ki_NoText).binds λ_ _ _ _ _ _ us hl=>by obtain ⟨_,_,rfl⟩:=len2 hl;rfl⟩
 have C_part_or_word:Cal l.prog w K mg base "part_or_word" 1 ["word"] (spR K Yd):=⟨f1,_,Xz F1 B K_Level zi_Level K_Single zi_Single K_Upright zi_Upright,PySem.W.mg_of X G a1,k1,F1.binds λ_ _ _ _ _ _ us hl=>by obtain ⟨_,rfl⟩:=len1 hl;rfl⟩
 have C_are_parts:Cal l.prog w K mg base "are_parts" 1 ["things"] (spR K Js):=⟨f2,_,Qc8 F2 B,PySem.W.mg_of X G a2,k2,F2.binds λ_ _ _ _ _ _ us hl=>by obtain ⟨_,rfl⟩:=len1 hl;rfl⟩
 have C_made_of_one:CalD l.prog w K mg base "made_of_one" 3 ["word","one"] (spXD K Yq):=⟨f3,_,Qas F3 B I_Mirrored I_Turned I_NoText,PySem.W.mg_of X G a3,k3,F3.binds λ_ _ _ _ _ _ us hl=>by obtain ⟨_,_,rfl⟩:=len2 hl;rfl⟩
 have C_made_of_two:CalD l.prog w K mg base "made_of_two" 3 ["one","word","other"] (spXD K Yp):=⟨f4,_,Qar F4 B I_Above I_Beside I_NoText,PySem.W.mg_of X G a4,k4,F4.binds λ_ _ _ _ _ _ us hl=>by obtain ⟨_,_,_,rfl⟩:=len3 hl;rfl⟩
 have C_made:CalD l.prog w K mg base "made" 4 ["row"] (spXD K Qdo):=⟨f5,_,Qo8 F5 B C_are_parts C_made_of_one C_made_of_two I_NoText,PySem.W.mg_of X G a5,k5,F5.binds λ_ _ _ _ _ _ us hl=>by obtain ⟨_,rfl⟩:=len1 hl;rfl⟩
 have C_bracket_words:Cal l.prog w K mg base "bracket_words" 2 ["text"] (spR K J4):=⟨f6,_,G0 F6 B,PySem.W.mg_of X G a6,k6,F6.binds λ_ _ _ _ _ _ us hl=>by obtain ⟨_,rfl⟩:=len1 hl;rfl⟩
 have C_check_brackets:CalD l.prog w K mg base "check_brackets" 3 ["words"] (spXD K Jt):=⟨f7,_,Gb F7 B I_NoText,PySem.W.mg_of X G a7,k7,F7.binds λ_ _ _ _ _ _ us hl=>by obtain ⟨_,rfl⟩:=len1 hl;rfl⟩
 have C_read_part:CalD l.prog w K mg base "read_part" 5 ["text"] (spXD K J2):=⟨f8,_,Qc6 F8 B C_part_or_word C_are_parts C_made C_bracket_words C_check_brackets I_NoText,PySem.W.mg_of X G a8,k8,F8.binds λ_ _ _ _ _ _ us hl=>by obtain ⟨_,rfl⟩:=len1 hl;rfl⟩
 have C__law_take:Cal l.prog w K mg base "_law_take" 1 ["_law_row","_law_base"] (spI K 0 Qy):=⟨f9,_,Qda F9 B,PySem.W.mg_of X G a9,k9,F9.binds λ_ _ _ _ _ _ us hl=>by obtain ⟨_,_,rfl⟩:=len2 hl;rfl⟩
 have C__law_tree_text:Cal l.prog w K mg base "_law_tree_text" 14 ["_law_row","_law_deep"] (spI K 0 J3):=⟨f10,_,Gc F10 B C__law_take (PySem.W.mg_of X G a10) (F10.binds λ_ _ _ _ _ _ us hl=>by obtain ⟨_,_,rfl⟩:=len2 hl;rfl),PySem.W.mg_of X G a10,k10,F10.binds λ_ _ _ _ _ _ us hl=>by obtain ⟨_,_,rfl⟩:=len2 hl;rfl⟩
 have C__law_text:Cal l.prog w K mg base "_law_text" 15 ["_law_row"] (spI K 0 Zw):=⟨f11,_,Qc9 F11 B C__law_take C__law_tree_text,PySem.W.mg_of X G a11,k11,F11.binds λ_ _ _ _ _ _ us hl=>by obtain ⟨_,rfl⟩:=len1 hl;rfl⟩
 have C__law_words:Cal l.prog w K mg base "_law_words" 1 ["_law_text_here"] (spR K Zf):=⟨f12,_,Qb2 F12 B,PySem.W.mg_of X G a12,k12,F12.binds λ_ _ _ _ _ _ us hl=>by obtain ⟨_,rfl⟩:=len1 hl;rfl⟩
 have C__law_lesser:Cal l.prog w K mg base "_law_lesser" 1 ["_law_words_here"] (spR K Y2):=⟨f13,_,Qau F13 B,PySem.W.mg_of X G a13,k13,F13.binds λ_ _ _ _ _ _ us hl=>by obtain ⟨_,rfl⟩:=len1 hl;rfl⟩
 have C__law_writes:Cal l.prog w K mg base "_law_writes" 2 ["_law_text_here"] (spR K Yj):=⟨f14,_,Qat F14 B C__law_words C__law_lesser,PySem.W.mg_of X G a14,k14,F14.binds λ_ _ _ _ _ _ us hl=>by obtain ⟨_,rfl⟩:=len1 hl;rfl⟩
 have C__law_refused:Cal l.prog w K mg base "_law_refused" 6 ["_law_text_here"] (spR K J9):=⟨f15,_,X1 F15 B C_read_part,PySem.W.mg_of X G a15,k15,F15.binds λ_ _ _ _ _ _ us hl=>by obtain ⟨_,rfl⟩:=len1 hl;rfl⟩
 exact Qr3 F16 B C_read_part C__law_text C__law_writes C__law_refused Wr
theorem Qsg {a:Addr} (hl:ns.length<=63) (ho:Only H) (hS:SqL K H a (ns.map V.int)):spR K Qjl [.ref a] H (λv _=>v=.bl true) λ_ _ _=>False:=by
 have fz:FzL K H a (ns.map V.int):=by
  rcases hS with (h | h) | h
  ·rcases ho a with z | ⟨o,xs,z⟩
   ·rw [z] at h;cases h
   ·rw [z] at h;cases h
  ·exact .inl h
  ·exact .inr h
 refine ⟨[.kls (ns.map .int)],[],λd=>d=.bl true,?_,⟨ns,rfl,hl,rfl⟩,λv H' d F' fi hd=>?_⟩
 ·exact .cons (F:=[]) (G:=[]) (.kls fz (Reps.ints ns)) .nil
 ·subst hd
  exact Qh7 fi.rep
theorem walk {q:Program} {d:DefRec} {K:Params->PySem.W.Frag} (hn:l.most=some 63) (hdf:d.params.defaults=[])
  (hY:∀(w:World) (h:Heap),YP w h->(K w.params).In h)
  (F:∀(w:World) (mg:Str->Option Value) (fa:Addr) (h:Heap),(K w.params).In h->h.Ns mainGlobals mg->mg d.name=some (.ref fa) ->
   ∃fd:FuncData,(∀(s:Shared) (u:Value),BindsTo s fd ⟨[u],[]⟩ [("_law_script",u)])/\∀base:Heap,(K w.params).In base->base.Ns mainGlobals mg->FnOk l.prog w (K w.params) mg base CX0 16 fa fd ["_law_script"] (spR (K w.params) Qjl)) :
  PySem.W.WalkO q loose XP YP l.row.toRowW d [] (λf vs=>PySem.call f vs) :=
 L2.Qnn (n:=63) (k:=16) (x:="_law_script") (CX:=λ_=>CX0) (sp:=λw=>spR (K w.params) Qjl) hn (by decide) hdf ⟨rfl,by decide,by decide⟩ hY F (λ_ _ a ns hl ho hS=>Qsg hl ho hS) λ_ _ _ _ _ z=>z
end K61
open PySem PySem.W PyProof.Rows
def PySem.W.Fast.tw13283824579729555625:=0
def PySem.W.Fast.tw12897925251167892696:=0
def PySem.W.Fast.tw74799707232215772:=0
def PySem.W.Fast.tw16839120907933837271:=0
def PySem.W.Fast.tw11826657066494615925:=0
def PySem.W.Fast.tw3970302306334765646:=0
def PySem.W.Fast.tw4012698027149578430:=0
def PySem.W.Fast.tw6875328584495378821:=0
def PySem.W.Fast.tw16466855517859193060:=0
def PySem.W.Fast.tw6843913405684421171:=0
def PySem.W.Fast.tw6048439014202879641:=0
def PySem.W.Fast.tw16035345350994923805:=0
def PySem.W.Fast.tw8571742356812546729:=0
def PySem.W.Fast.tw11193289111493022678:=0
def PySem.W.Fast.tw11505414933364576321:=0
def PySem.W.Fast.tw6902227423429363047:=0
def PySem.W.Fast.tw13157031187727796735:=0
def PySem.W.Fast.tw4006519178679094228:=0
def PySem.W.Fast.tw7649597271924402315:=0
def PySem.W.Fast.tw9650258036873576864:=0
def PySem.W.Fast.tw9934838916218235064:=0
def PySem.W.Fast.tw9116568439266486408:=0
def PySem.W.Fast.tw18350512204659010767:=0
def PySem.W.Fast.tw11735855510972086026:=0
def PySem.W.Fast.tw11217629574169397739:=0
def PySem.W.Fast.tw411968592367052691:=0
def PySem.W.Fast.tw3344141549172621535:=0
def PySem.W.Fast.tw17780744307986609936:=0
def PySem.W.Fast.tw8591916855400686641:=0
def PySem.W.Fast.tw10092700738881093099:=0
def PySem.W.Fast.tw560494523744025092:=0
def PySem.W.Fast.tw16858622108367191661:=0
def PySem.W.Fast.tw16433666699457647643:=0
def PySem.W.Fast.tw5329375654025452303:=0
def PySem.W.Fast.tw12481662962636935823:=0
def PySem.W.Fast.tw6142906761321277022:=0
def PySem.W.Fast.tw9669875015517477464:=0
def PySem.W.Fast.tw3068256218004808104:=0
def PySem.W.Fast.tw2824435941705994112:=0
def PySem.W.Fast.tw17930156050318205839:=0
def PySem.W.Fast.tw71654390063923595:=0
def PySem.W.Fast.tw14866729386999988611:=0
def PySem.W.Fast.tw17156348496144067173:=0
def PySem.W.Fast.tw16813380170939493629:=0
def PySem.W.Fast.tw8474561929796639106:=0
def PySem.W.Fast.tw7708169215950211735:=0
def PySem.W.Fast.tw12716285994391906536:=0
def PySem.W.Fast.tw287770442438677807:=0
def PySem.W.Fast.tw928124230765787611:=0
def PySem.W.Fast.tw13353045443818882412:=0
def PySem.W.Fast.tw10773186971368103338:=0
def PySem.W.Fast.tw7321162036256951563:=0
def PySem.W.Fast.tw11500764950933585741:=0
def PySem.W.Fast.tw317808326725620114:=0
def PySem.W.Fast.tw7050668740872610663:=0
def PySem.W.Fast.tw18063239910153293520:=0
def PySem.W.Fast.tw12015490647286968029:=0
def PySem.W.Fast.tw17141539007696886373:=0
def PySem.W.Fast.tw15950078947959496957:=0
def PySem.W.Fast.tw9716237069619877745:=0
def PySem.W.Fast.tw16948459258820797044:=0
def PySem.W.Fast.tw8928885709465320178:=0
def PySem.W.Fast.tw4767895440595319532:=0
def PySem.W.Fast.tw1000743688683076154:=0
def PySem.W.Fast.tw3582784205684196895:=0
def PySem.W.Fast.tw14613404225921477830:=0
def PySem.W.Fast.tw9117603287260642426:=0
def PySem.W.Fast.tw2960318837136478829:=0
def PySem.W.Fast.tw651875835946410296:=0
def PySem.W.Fast.tw4641001543279865794:=0
def PySem.W.Fast.tw8241285238183076938:=0
def PySem.W.Fast.tw14782556494684005245:=0
def PySem.W.Fast.tw6625174921249932062:=0
def PySem.W.Fast.tw10029825414399467320:=0
def PySem.W.Fast.tw13651322430343684137:=0
def PySem.W.Fast.tw15660513852585062392:=0
def PySem.W.Fast.tw13249144825362674948:=0
def PySem.W.Fast.tw9535351078615515330:=0
def PySem.W.Fast.tw7720396087325188453:=0
def PySem.W.Fast.tw1123443268501512814:=0
def PySem.W.Fast.tw4622308719585046246:=0
def PySem.W.Fast.tw17916077291364298314:=0
def PySem.W.Fast.tw8537773274434603614:=0
def PySem.W.Fast.tw2597974981754820594:=0
def PySem.W.Fast.tw3342248781026664059:=0
def PySem.W.Fast.tw1827457432519253715:=0
def PySem.W.Fast.tw16528581853535347219:=0
def PySem.W.Fast.tw9020805943266218048:=0
def PySem.W.Fast.tw6680664543192905023:=0
def PySem.W.Fast.tw16172996253105620684:=0
def PySem.W.Fast.tw1607080362169619203:=0
def PySem.W.Fast.tw6226326819123709267:=0
def PySem.W.Fast.tw7637654550179419586:=0
def PySem.W.Fast.tw6928764937843118532:=0
def PySem.W.Fast.tw14021435352813093145:=0
def PySem.W.Fast.tw13520643091185052286:=0
def PySem.W.Fast.tw12634601830954136776:=0
def PySem.W.Fast.tw5751761185735086670:=0
def PySem.W.Fast.tw13593790208483112315:=0
def PySem.W.Fast.tw17125737107615140869:=0
def PySem.W.Fast.tw11462609105830362990:=0
def PySem.W.Fast.tw12605800847056371021:=0
def PySem.W.Fast.tw5903172412232240250:=0
def PySem.W.Fast.tw3677977007034276426:=0
def PySem.W.Fast.tw13064630194947348905:=0
def PySem.W.Fast.tw14326271098864738452:=0
def PySem.W.Fast.tw15630238797749389106:=0
def PySem.W.Fast.tw17385619580769056363:=0
def PySem.W.Fast.tw12631323424541198937:=0
def PySem.W.Fast.tw11860520366309377240:=0
def PySem.W.Fast.tw10393848086872633562:=0
def PySem.W.Fast.tw4169781974669305406:=0
def PySem.W.Fast.tw9533370617905934501:=0
def PySem.W.Fast.tw6542943673620260275:=0
def PySem.W.Fast.tw2202603501318312251:=0
def PySem.W.Fast.tw15037231975498428739:=0
def PySem.W.Fast.tw13655845777084218071:=0
def PySem.W.Fast.tw11088940045875385606:=0
def PySem.W.Fast.tw14327225776323484711:=0
def PySem.W.Fast.tw15347725648552128968:=0
def PySem.W.Fast.tw6479486730872334205:=0
def PySem.W.Fast.tw10597255606430510295:=0
def PySem.W.Fast.tw6158704433976963475:=0
def PySem.W.Fast.tw9043042790663263850:=0
def PySem.W.Fast.tw2019300717396062526:=0
def PySem.W.Fast.tw16869324362597423172:=0
def PySem.W.Fast.tw3621290497749725658:=0
def PySem.W.Fast.tw10148015668399170911:=0
def PySem.W.Fast.tw13603383228322060255:=0
def PySem.W.Fast.tw1276839344142602743:=0
def PySem.W.Fast.tw13314477317495389844:=0
def PySem.W.Fast.tw4465514486645718082:=0
def PySem.W.Fast.tw4955444683680587247:=0
def PySem.W.Fast.tw7587127133391676897:=0
def PySem.W.Fast.tw14101488408014545732:=0
def PySem.W.Fast.tw221957321405442378:=0
def PySem.W.Fast.tw1539004810291651525:=0
def PySem.W.Fast.tw16002259684219474450:=0
def PySem.W.Fast.tw2050374625822064280:=0
def PySem.W.Fast.tw2099057288359376128:=0
def PySem.W.Fast.tw2561042352103079938:=0
def PySem.W.Fast.tw9304081069039083451:=0
def PySem.W.Fast.tw3487723414268575910:=0
def PySem.W.Fast.tw1663965323995498565:=0
def PySem.W.Fast.tw4171212555431570205:=0
def PySem.W.Fast.tw3883038158754738175:=0
def PySem.W.Fast.tw2351329507891371818:=0
def PySem.W.Fast.tw16888143411417884510:=0
def PySem.W.Fast.tw3802471187448874633:=0
def PySem.W.Fast.tw18150681297733514079:=0
def PySem.W.Fast.tw9318354614895349295:=0
def PySem.W.Fast.tw15471038795661069918:=0
def PySem.W.Fast.tw17066334482711003524:=0
def PySem.W.Fast.tw8864599245957516147:=0
def PySem.W.Fast.tw8285465412525039155:=0
def PySem.W.Fast.tw15319915178566340570:=0
def PySem.W.Fast.tw14156148392646562565:=0
def PySem.W.Fast.tw15486083034431481180:=0
def PySem.W.Fast.tw14302236850020940791:=0
def PySem.W.Fast.tw18329984688622966047:=0
def PySem.W.Fast.tw14504352536006563186:=0
def PySem.W.Fast.tw1719507624689783812:=0
def PySem.W.Fast.tw2827894983478118317:=0
def PySem.W.Fast.tw8012792293429712480:=0
def PySem.W.Fast.tw15338714301480185929:=0
def PySem.W.Fast.tw11842571661376398949:=0
def PySem.W.Fast.tw16912322185021419490:=0
def PySem.W.Fast.tw1785587840455787465:=0
def PySem.W.Fast.tw1153005614745600380:=0
def PySem.W.Fast.tw15500762149985916510:=0
def PySem.W.Fast.tw4685874197094757396:=0
def PySem.W.Fast.tw2880162895668638354:=0
def PySem.W.Fast.tw5200915265754086168:=0
def PySem.W.Fast.tw9838137313808804020:=0
def PySem.W.Fast.tw979444423163890910:=0
def PySem.W.Fast.tw1374166383110933333:=0
def PySem.W.Fast.tw14915648974662673601:=0
def PySem.W.Fast.tw4071838381670644175:=0
def PySem.W.Fast.tw14418670712233013747:=0
def PySem.W.Fast.tw5974493749373403631:=0
def PySem.W.Fast.tw3491679989729468740:=0
def PySem.W.Fast.tw16043678434874472156:=0
def PySem.W.Fast.tw13408253048768208749:=0
def PySem.W.Fast.tw12920156594955065109:=0
def PySem.W.Fast.tw9953198920711099122:=0
def PySem.W.Fast.tw2244726971861872327:=0
def PySem.W.Fast.tw16962170818094801027:=0
def PySem.W.Fast.tw4616240273631245202:=0
def PySem.W.Fast.tw15971880856179811163:=0
def PySem.W.Fast.tw18178125386233282748:=0
def PySem.W.Fast.tw14384593908717031309:=0
def PySem.W.Fast.tw4033249256019555786:=0
def PySem.W.Fast.tw16538681864866497887:=0
def PySem.W.Fast.tw17871524504483162744:=0
def PySem.W.Fast.tw3714295164286976218:=0
def PySem.W.Fast.tw12634003480135310358:=0
def PySem.W.Fast.tw2469346340365102932:=0
def PySem.W.Fast.tw9062691090152897931:=0
def PySem.W.Fast.tw58000949499778908:=0
def PySem.W.Fast.tw3583302710031424260:=0
def PySem.W.Fast.tw6972522199064688155:=0
def PySem.W.Fast.tw13371935759315814611:=0
def PySem.W.Fast.tw1480354323982095553:=0
def PySem.W.Fast.tw10502774416656809984:=0
def PySem.W.Fast.tw8345897468770029949:=0
def PySem.W.Fast.tw17126558487341546424:=0
def PySem.W.Fast.tw5868823329586251010:=0
def PySem.W.Fast.tw16336161782880089156:=0
def PySem.W.Fast.tw8389112250764090398:=0
def PySem.W.Fast.tw13035628732577217049:=0
def PySem.W.Fast.tw13269579370840934947:=0
def PySem.W.Fast.tw13258686418372837609:=0
def PySem.W.Fast.tw2854519979248941260:=0
def PySem.W.Fast.tw13762110595100801822:=0
def PySem.W.Fast.tw16831042768447733291:=0
def PySem.W.Fast.tw1376234702030310736:=0
def PySem.W.Fast.tw4624870785127204697:=0
def PySem.W.Fast.tw755002124476276421:=0
def PySem.W.Fast.tw7329323486572899316:=0
def PySem.W.Fast.tw3405072448349094327:=0
def PySem.W.Fast.tw13227296213016504857:=0
def PySem.W.Fast.tw12051804216917232682:=0
def PySem.W.Fast.tw11347319129928201603:=0
def PySem.W.Fast.tw1075954399894232918:=0
def PySem.W.Fast.tw11879748724233166058:=0
def PySem.W.Fast.tw13204582912544693132:=0
def PySem.W.Fast.tw8091075961114892782:=0
def PySem.W.Fast.tw11645259050492610249:=0
def PySem.W.Fast.tw4917243381298246217:=0
def PySem.W.Fast.tw14055211194136390678:=0
def PySem.W.Fast.tw2341011034252431840:=0
def PySem.W.Fast.tw922719980553095868:=0
def PySem.W.Fast.tw12198017456558385679:=0
def PySem.W.Fast.tw11295608628876088686:=0
def PySem.W.Fast.tw3106866780961416915:=0
def PySem.W.Fast.tw8289980257254251921:=0
def PySem.W.Fast.tw10240068137151457533:=0
def PySem.W.Fast.tw9881552787722000328:=0
def PySem.W.Fast.tw7447310137496608093:=0
def PySem.W.Fast.tw15530489214092461485:=0
def PySem.W.Fast.tw2833392657175062177:=0
def PySem.W.Fast.tw10346784895912972630:=0
def PySem.W.Fast.tw11029460740341890639:=0
def PySem.W.Fast.tw17035466691949376161:=0
def PySem.W.Fast.tw2504060518197443700:=0
def PySem.W.Fast.tw17143591729650881101:=0
def PySem.W.Fast.tw1759344999804890877:=0
def PySem.W.Fast.tw2137298648579157459:=0
def PySem.W.Fast.tw549377697708446160:=0
def PySem.W.Fast.tw5495784970104421765:=0
def PySem.W.Fast.tw10200200304264532521:=0
def PySem.W.Fast.tw8837563699182803455:=0
def PySem.W.Fast.tw1449558963718103783:=0
def PySem.W.Fast.tw15201540021622300063:=0
def PySem.W.Fast.tw9997646467473971578:=0
def PySem.W.Fast.tw12623454898672951828:=0
def PySem.W.Fast.tw9521712878142863596:=0
def PySem.W.Fast.tw8726514733184823409:=0
def PySem.W.Fast.tw8392055958765689391:=0
def PySem.W.Fast.tw3780554441324706333:=0
def PySem.W.Fast.tw11267099600977248715:=0
def PySem.W.Fast.tw9896424169397535897:=0
def PySem.W.Fast.tw5308255431349685771:=0
def PySem.W.Fast.tw12991951190903438502:=0
def PySem.W.Fast.tw2634997011905448624:=0
def PySem.W.Fast.tw12857945028562930394:=0
def PySem.W.Fast.tw18046928032650898630:=0
def PySem.W.Fast.tw12811240618052960277:=0
def PySem.W.Fast.tw16637224942216520884:=0
def PySem.W.Fast.tw9311048179599132983:=0
def PySem.W.Fast.tw5990994469513369765:=0
def PySem.W.Fast.tw17959534055384084911:=0
def PySem.W.Fast.tw6215870966879864189:=0
def PySem.W.Fast.tw14567580736453843815:=0
def PySem.W.Fast.tw6846330993692064139:=0
def PySem.W.Fast.tw6389458875163222600:=0
def PySem.W.Fast.tw4209852707626376776:=0
def PySem.W.Fast.tw1887704007998118012:=0
def PySem.W.Fast.tw10696771520695914125:=0
def PySem.W.Fast.tw9662657231961174725:=0
def PySem.W.Fast.tw11361619362787607470:=0
def PySem.W.Fast.tw9054590466908863587:=0
def PySem.W.Fast.tw8340222978430121155:=0
def PySem.W.Fast.tw3806649956161325026:=0
def PySem.W.Fast.tw1509147365353178394:=0
def PySem.W.Fast.tw11261228534002272467:=0
def PySem.W.Fast.tw3657214108446263100:=0
def PySem.W.Fast.tw10395578974350772107:=0
def PySem.W.Fast.tw13022795642361366064:=0
def PySem.W.Fast.tw5646829860977720778:=0
def PySem.W.Fast.tw16326153894306435786:=0
def PySem.W.Fast.tw1482466971109657428:=0
def PySem.W.Fast.tw16115207756234213632:=0
def PySem.W.Fast.tw9336780561800421473:=0
def PySem.W.Fast.tw5469447833620619554:=0
def PySem.W.Fast.tw5079645715982397711:=0
def PySem.W.Fast.tw10237903342848099022:=0
def PySem.W.Fast.tw124779148582407395:=0
def PySem.W.Fast.tw3356118573301506829:=0
def PySem.W.Fast.tw5615683686994037702:=0
def PySem.W.Fast.tw7286258391136513511:=0
def PySem.W.Fast.tw8230960303292313441:=0
def PySem.W.Fast.tw8783445813567352529:=0
def PySem.W.Fast.tw855556576808999324:=0
def PySem.W.Fast.tw6917427135882773436:=0
def PySem.W.Fast.tw8746829476532386017:=0
def PySem.W.Fast.tw3969163635103964051:=0
def PySem.W.Fast.tw5736670332469973130:=0
def PySem.W.Fast.tw5871671202396088073:=0
def PySem.W.Fast.tw7533106770290771934:=0
def PySem.W.Fast.tw7339198648878875824:=0
def PySem.W.Fast.tw10503760786323896375:=0
def PySem.W.Fast.tw11145425008364125534:=0
def PySem.W.Fast.tw17729881450990712997:=0
def PySem.W.Fast.tw10856368513805781476:=0
def PySem.W.Fast.tw6004341120898086631:=0
def PySem.W.Fast.tw4139137963570627405:=0
def PySem.W.Fast.tw2308172845066012289:=0
def PySem.W.Fast.tw5981458202518637841:=0
def PySem.W.Fast.tw2989217464153735274:=0
def PySem.W.Fast.tw13269161216263715849:=0
def PySem.W.Fast.tw7881818675596323121:=0
def PySem.W.Fast.tw15422190790870101628:=0
def PySem.W.Fast.tw9082121012633183369:=0
def PySem.W.Fast.tw16933381611356213541:=0
def PySem.W.Fast.tw3711846686715157471:=0
def PySem.W.Fast.tw12451867826022625059:=0
def PySem.W.Fast.tw14617173466333152177:=0
def PySem.W.Fast.tw10680349364525574423:=0
def PySem.W.Fast.tw6494895202225290722:=0
def PySem.W.Fast.tw11164364270682913858:=0
def PySem.W.Fast.tw7947913037607720598:=0
def PySem.W.Fast.tw579659161814125983:=0
def PySem.W.Fast.tw1577763247087123658:=0
def PySem.W.Fast.tw11825439318913826825:=0
def PySem.W.Fast.tw17975270904638337420:=0
def PySem.W.Fast.tw15740060800178160076:=0
def PySem.W.Fast.tw17868725239964669451:=0
def PySem.W.Fast.tw3642231377612747775:=0
def PySem.W.Fast.tw5698367170613618611:=0
def PySem.W.Fast.tw7670221554693121095:=0
def PySem.W.Fast.tw11942937859982051661:=0
def PySem.W.Fast.tw4141462755429329401:=0
def PySem.W.Fast.tw8883535077924850564:=0
def PySem.W.Fast.tw2115546415600169699:=0
def PySem.W.Fast.tw16283189301631338536:=0
def PySem.W.Fast.tw5178077340967107248:=0
def PySem.W.Fast.tw5975003637459212601:=0
def PySem.W.Fast.tw13011893818093511018:=0
def PySem.W.Fast.tw12910710927414287466:=0
def PySem.W.Fast.tw12249198722942165368:=0
def PySem.W.Fast.tw3010211981007236190:=0
def PySem.W.Fast.tw11953550047438670060:=0
def PySem.W.Fast.tw355170677031568980:=0
def PySem.W.Fast.tw15492656901770543815:=0
def PySem.W.Fast.tw2971303931691175550:=0
def PySem.W.Fast.tw7036324323268294334:=0
def PySem.W.Fast.tw5632764145363698393:=0
def PySem.W.Fast.tw3116706406687691355:=0
def PySem.W.Fast.tw2292743285183367326:=0
def PySem.W.Fast.tw13070229304067034296:=0
def PySem.W.Fast.tw13400096888222599138:=0
def PySem.W.Fast.tw6282711079334180399:=0
def PySem.W.Fast.tw9786905614909780001:=0
def PySem.W.Fast.tw780235913098152362:=0
def PySem.W.Fast.tw10102671788670542651:=0
def PySem.W.Fast.tw12106199642936770097:=0
def PySem.W.Fast.tw594040856238212315:=0
def PySem.W.Fast.tw3363682319095193362:=0
def PySem.W.Fast.tw597723575943892062:=0
def PySem.W.Fast.tw18078436152831303557:=0
def PySem.W.Fast.tw11301978871687003146:=0
def PySem.W.Fast.tw10478849546239115745:=0
def PySem.W.Fast.tw14975900383519718744:=0
def PySem.W.Fast.tw9215418790127867724:=0
def PySem.W.Fast.tw2634237155308923301:=0
def PySem.W.Fast.tw1190385185972174598:=0
def PySem.W.Fast.tw13696753455214091326:=0
def PySem.W.Fast.tw240025443985094389:=0
def PySem.W.Fast.tw2194481121163744632:=0
def PySem.W.Fast.tw2870168972027526610:=0
def PySem.W.Fast.tw18299684364382752620:=0
def PySem.W.Fast.tw14626642367141912930:=0
def PySem.W.Fast.tw9620800947112369857:=0
def PySem.W.Fast.tw13026253778777495679:=0
def PySem.W.Fast.tw13953785351782604013:=0
def PySem.W.Fast.tw5542347882761956022:=0
def PySem.W.Fast.tw14165969510639711124:=0
def PySem.W.Fast.tw11901114335688648312:=0
def PySem.W.Fast.tw12457616742481626993:=0
def PySem.W.Fast.tw10788765562897880313:=0
def PySem.W.Fast.tw13306068881635310421:=0
def PySem.W.Fast.tw11229323410993487226:=0
def PySem.W.Fast.tw9138996391661644764:=0
def PySem.W.Fast.tw709228733438892067:=0
def PySem.W.Fast.tw15952245858505926270:=0
def PySem.W.Fast.tw10166495311974150203:=0
def PySem.W.Fast.tw16650624939316389803:=0
def PySem.W.Fast.tw14491018694624169753:=0
def PySem.W.Fast.tw8171200065954263677:=0
def PySem.W.Fast.tw3865922493869254423:=0
def PySem.W.Fast.tw14596304341078647209:=0
def PySem.W.Fast.tw9687283789199026735:=0
def PySem.W.Fast.tw2288943331597056872:=0
def PySem.W.Fast.tw16341047638310176300:=0
def PySem.W.Fast.tw2452391970977316706:=0
def PySem.W.Fast.tw9288516934842059788:=0
def PySem.W.Fast.tw13262159803980987065:=0
def PySem.W.Fast.tw8390535991136428076:=0
def PySem.W.Fast.tw1214233682695358992:=0
def PySem.W.Fast.tw10503748709423678254:=0
def PySem.W.Fast.tw9333739708068938653:=0
def PySem.W.Fast.tw6343193379799296832:=0
def PySem.W.Fast.tw13134334827684314980:=0
def PySem.W.Fast.tw602048165671081538:=0
def PySem.W.Fast.tw14958650599344395635:=0
def PySem.W.Fast.tw15362290263813290757:=0
def PySem.W.Fast.tw6617150190703941427:=0
def PySem.W.Fast.tw17242793814786378802:=0
def PySem.W.Fast.tw3748011517602110490:=0
def PySem.W.Fast.tw2398782804338652125:=0
def PySem.W.Fast.tw7142088197204373608:=0
def PySem.W.Fast.tw4881567920736430276:=0
def PySem.W.Fast.tw4799775275510811562:=0
def PySem.W.Fast.tw7646530458619634317:=0
def PySem.W.Fast.tw17859907393223797763:=0
def PySem.W.Fast.tw8652259205377997700:=0
def PySem.W.Fast.tw14029286701423237816:=0
def PySem.W.Fast.tw590603261775857675:=0
def PySem.W.Fast.tw9505784188836345494:=0
def PySem.W.Fast.tw3490886854741649186:=0
def PySem.W.Fast.tw17048800376834312863:=0
def PySem.W.Fast.tw9206400006086305179:=0
def PySem.W.Fast.tw8712229948223515502:=0
def PySem.W.Fast.tw5219640782494049131:=0
def PySem.W.Fast.tw14807155845513040917:=0
def PySem.W.Fast.tw2981501231518245375:=0
def PySem.W.Fast.tw14709842517636128517:=0
def PySem.W.Fast.tw9458370539327393909:=0
def PySem.W.Fast.tw2034318276627366161:=0
def PySem.W.Fast.tw8452223140498730568:=0
def PySem.W.Fast.tw574848237025618902:=0
def PySem.W.Fast.tw17318936165208109353:=0
def PySem.W.Fast.tw11844662511676355869:=0
def PySem.W.Fast.tw9881397903397541171:=0
def PySem.W.Fast.tw14874450061611279589:=0
def PySem.W.Fast.tw12844735589291781105:=0
def PySem.W.Fast.tw2864452491480152031:=0
def PySem.W.Fast.tw143841040072046680:=0
def PySem.W.Fast.tw6283153413768708550:=0
def PySem.W.Fast.tw793150554446273017:=0
def PySem.W.Fast.tw14105508928970567428:=0
def PySem.W.Fast.tw5483113653715915512:=0
def PySem.W.Fast.tw15874859260347911155:=0
def PySem.W.Fast.tw7960081722033874391:=0
def PySem.W.Fast.tw12301661362560991521:=0
def PySem.W.Fast.tw4944874979005709594:=0
def PySem.W.Fast.tw18015912686079533362:=0
def PySem.W.Fast.tw12579692991879486790:=0
def PySem.W.Fast.tw2747824080663661893:=0
def PySem.W.Fast.tw7050444418833732119:=0
def PySem.W.Fast.tw16109452528601603128:=0
def PySem.W.Fast.tw9905138056035356265:=0
def PySem.W.Fast.tw12892700611367621857:=0
def PySem.W.Fast.tw17048236555914092499:=0
def PySem.W.Fast.tw3199988358140997457:=0
def PySem.W.Fast.tw13707062658010345027:=0
def PySem.W.Fast.tw17253300876288913401:=0
def PySem.W.Fast.tw16843498912415807663:=0
def PySem.W.Fast.tw1553505761303962649:=0
def PySem.W.Fast.tw756169424005211803:=0
def PySem.W.Fast.tw6411941922880413535:=0
def PySem.W.Fast.tw12527912406001920771:=0
def PySem.W.Fast.tw10449011154887662581:=0
def PySem.W.Fast.tw14172234135241201798:=0
def PySem.W.Fast.tw17237327398428667936:=0
def PySem.W.Fast.tw3631125604598303361:=0
def PySem.W.Fast.tw16868858797187434337:=0
def PySem.W.Fast.tw9155625282204642290:=0
def PySem.W.Fast.tw17047601359800022694:=0
def PySem.W.Fast.tw1511346423162797251:=0
def PySem.W.Fast.tw18191212055425874061:=0
def PySem.W.Fast.tw15207429811317813547:=0
def PySem.W.Fast.tw6539357966146760759:=0
def PySem.W.Fast.tw16576966593752267337:=0
def PySem.W.Fast.tw15419907683125198046:=0
def PySem.W.Fast.tw11087879910429366358:=0
def PySem.W.Fast.tw17050692427820079230:=0
def PySem.W.Fast.tw7698603861053353564:=0
def PySem.W.Fast.tw111880741347930907:=0
def PySem.W.Fast.tw18361306157820978537:=0
def PySem.W.Fast.tw2193631512930505870:=0
def PySem.W.Fast.tw15157921428494698518:=0
def PySem.W.Fast.tw15254309685957565581:=0
def PySem.W.Fast.tw12789792845696327698:=0
def PySem.W.Fast.tw10020096335107202882:=0
def PySem.W.Fast.tw4053557360885193921:=0
def PySem.W.Fast.tw10051900459181989236:=0
def PySem.W.Fast.tw13213589795364208547:=0
def PySem.W.Fast.tw393475071774598148:=0
def PySem.W.Fast.tw16742072113675895366:=0
def PySem.W.Fast.tw6259061296361490621:=0
def PySem.W.Fast.tw13086134601162530055:=0
def PySem.W.Fast.tw12790565409742855679:=0
def PySem.W.Fast.tw8830817634613009875:=0
def PySem.W.Fast.tw4851319898894342375:=0
def PySem.W.Fast.tw5739477241119080449:=0
def PySem.W.Fast.tw12882765274508351404:=0
def PySem.W.Fast.tw4333091515426261186:=0
def PySem.W.Fast.tw7266322222443268558:=0
def PySem.W.Fast.tw5911347614780882967:=0
def PySem.W.Fast.tw435844350957872192:=0
def PySem.W.Fast.tw14707564395324661108:=0
def PySem.W.Fast.tw13515055940178312036:=0
def PySem.W.Fast.tw12002993333656295090:=0
def PySem.W.Fast.tw5601730690194806399:=0
def PySem.W.Fast.tw2345055764895516276:=0
def PySem.W.Fast.tw16900473079713706130:=0
def PySem.W.Fast.tw10984361265287758296:=0
def PySem.W.Fast.tw6965294603503865196:=0
def PySem.W.Fast.tw15748267474176344255:=0
def PySem.W.Fast.tw2880076428973051588:=0
def PySem.W.Fast.tw1213543682407087914:=0
def PySem.W.Fast.tw14654876219644106578:=0
def PySem.W.Fast.tw8505794845943995770:=0
def PySem.W.Fast.tw11333768318338289190:=0
def PySem.W.Fast.tw11637790918581178251:=0
def PySem.W.Fast.tw192909954388547325:=0
def PySem.W.Fast.tw15636334498579042887:=0
def PySem.W.Fast.tw5258908988910802887:=0
def PySem.W.Fast.tw3130213332130515764:=0
def PySem.W.Fast.tw12922494825043525854:=0
def PySem.W.Fast.tw6800651465766008321:=0
def PySem.W.Fast.tw5682083183394845758:=0
def PySem.W.Fast.tw15863531316832633131:=0
def PySem.W.Fast.tw7554416033789706346:=0
def PySem.W.Fast.tw2795244131178846038:=0
def PySem.W.Fast.tw7615897692409030055:=0
def PySem.W.Fast.tw8414830698514398852:=0
def PySem.W.Fast.tw10046947253279353101:=0
def PySem.W.Fast.tw17935223733074525839:=0
def PySem.W.Fast.tw11343988590773516473:=0
def PySem.W.Fast.tw16459959871555915935:=0
def PySem.W.Fast.tw17178054377758458139:=0
def PySem.W.Fast.tw1859573364407863713:=0
def PySem.W.Fast.tw15420394709525680288:=0
def PySem.W.Fast.tw15960319670309718061:=0
def PySem.W.Fast.tw18292819699485804646:=0
set_option maxRecDepth 100000 in
set_option maxHeartbeats 0 in
theorem PySem.Challenge.cw_tanglehouse_k61_whole_any_text_of_a_part_holds : PySem.Challenge.rw_tanglehouse_k61_whole_any_text_of_a_part.Holds := by
 w_on;o_law;k_head;(case hw=>w_witness2)
 k_fill
 refine K61.walk (l:=PySem.Challenge.rw_tanglehouse_k61_whole_any_text_of_a_part) rfl rfl (λw h Y=>PySem.W.kIn_of Y) ?F
 case F =>
  intro w mg fa h KX G hmg
  refine' K61.Qtq KX G hmg ?a1 ?L1 ?k1 ?a2 ?L2 ?k2 ?a3 ?L3 ?k3 ?a4 ?L4 ?k4 ?a5 ?L5 ?k5 ?a6 ?L6 ?k6 ?a7 ?L7 ?k7 ?a8 ?L8 ?k8 ?a9 ?L9 ?k9 ?a10 ?L10 ?k10 ?a11 ?L11 ?k11 ?a12 ?L12 ?k12 ?a13 ?L13 ?k13 ?a14 ?L14 ?k14 ?a15 ?L15 ?k15 ?a16 ?l16 ?c16 ?k16 ?z_all ?z_int ?z_isinstance ?z_len ?z_range ?z_str ?z_MOST_OPEN ?zx_NoText ?zc_NoText ?zt_NoText ?zx_TangleError ?zc_TangleError ?zt_TangleError ?zx_NoWeb ?zc_NoWeb ?zt_NoWeb ?zx_Odd ?zc_Odd ?zt_Odd ?zx_NotFlat ?zc_NotFlat ?zt_NotFlat ?zb_TangleError ?xl2 ?xn2 ?xs2 ?xi2 ?xsp ?xrd ?xfc ?zs_NoText_TangleError ?zn_NoText_TangleError ?zs_NoText_NoWeb ?zn_NoText_NoWeb ?zs_NoText_Odd ?zn_NoText_Odd ?zs_NoText_NotFlat ?zn_NoText_NotFlat ?xl1_NoText ?xq1_NoText ?xq2_NoText ?xq3_NoText ?xq4_NoText ?xq5_NoText ?xsa_NoText ?xii_NoText ?xti_NoText ?xkp_NoText ?xna_NoText ?li_NoText ?ci_NoText ?ki_NoText ?zV ?zVs_NoText ?zx_Level ?xhb_Level ?xsa_Level ?xca_Level ?xmr_Level ?xn0_Level ?xn1_Level ?xw_Level ?xhw_Level ?Lw_Level ?zi_Level ?zx_Upright ?xhb_Upright ?xsa_Upright ?xca_Upright ?xmr_Upright ?xn0_Upright ?xn1_Upright ?xw_Upright ?xhw_Upright ?Lw_Upright ?zi_Upright ?zx_Single ?xhb_Single ?xsa_Single ?xca_Single ?xmr_Single ?xn0_Single ?xn1_Single ?xw_Single ?xhw_Single ?Lw_Single ?zi_Single ?zx_Beside ?xhb_Beside ?xsa_Beside ?xca_Beside ?xmr_Beside ?xn0_Beside ?xn1_Beside ?xw_Beside ?xhw_Beside ?Lw_Beside ?xi_Beside ?xhi_Beside ?Li_Beside ?zx_Above ?xhb_Above ?xsa_Above ?xca_Above ?xmr_Above ?xn0_Above ?xn1_Above ?xw_Above ?xhw_Above ?Lw_Above ?xi_Above ?xhi_Above ?Li_Above ?zx_Turned ?xhb_Turned ?xsa_Turned ?xca_Turned ?xmr_Turned ?xn0_Turned ?xn1_Turned ?xw_Turned ?xhw_Turned ?Lw_Turned ?xi_Turned ?xhi_Turned ?Li_Turned ?zx_Mirrored ?xhb_Mirrored ?xsa_Mirrored ?xca_Mirrored ?xmr_Mirrored ?xn0_Mirrored ?xn1_Mirrored ?xw_Mirrored ?xhw_Mirrored ?Lw_Mirrored ?xi_Mirrored ?xhi_Mirrored ?Li_Mirrored ?zx_Part ?xht_Part ?xs_Part ?xo1 ?xo2 ?xe1_Level ?xe2_Level ?xe3_Level ?xe1_Upright ?xe2_Upright ?xe3_Upright ?xe1_Single ?xe2_Single ?xe3_Single ?xe1_Beside ?xe2_Beside ?xe3_Beside ?xe1_Above ?xe2_Above ?xe3_Above ?xe1_Turned ?xe2_Turned ?xe3_Turned ?xe1_Mirrored ?xe2_Mirrored ?xe3_Mirrored
  (case a1=>first | k_is | rfl | decide +kernel)
  (case L1=>exact ⟨_,_,_,_,_,_,_,_,_,by k_is,by k_is⟩)
  (case k1=>k_is)
  (case a2=>first | k_is | rfl | decide +kernel)
  (case L2=>exact ⟨_,_,_,_,_,_,_,_,_,by k_is,by k_is⟩)
  (case k2=>k_is)
  (case a3=>first | k_is | rfl | decide +kernel)
  (case L3=>exact ⟨_,_,_,_,_,_,_,_,_,by k_is,by k_is⟩)
  (case k3=>k_is)
  (case a4=>first | k_is | rfl | decide +kernel)
  (case L4=>exact ⟨_,_,_,_,_,_,_,_,_,by k_is,by k_is⟩)
  (case k4=>k_is)
  (case a5=>first | k_is | rfl | decide +kernel)
  (case L5=>exact ⟨_,_,_,_,_,_,_,_,_,by k_is,by k_is⟩)
  (case k5=>k_is)
  (case a6=>first | k_is | rfl | decide +kernel)
  (case L6=>exact ⟨_,_,_,_,_,_,_,_,_,by k_is,by k_is⟩)
  (case k6=>k_is)
  (case a7=>first | k_is | rfl | decide +kernel)
  (case L7=>exact ⟨_,_,_,_,_,_,_,_,_,by k_is,by k_is⟩)
  (case k7=>k_is)
  (case a8=>first | k_is | rfl | decide +kernel)
  (case L8=>exact ⟨_,_,_,_,_,_,_,_,_,by k_is,by k_is⟩)
  (case k8=>k_is)
  (case a9=>first | k_is | rfl | decide +kernel)
  (case L9=>exact ⟨_,_,_,_,_,_,_,_,_,by k_is,by k_is⟩)
  (case k9=>k_is)
  (case a10=>first | k_is | rfl | decide +kernel)
  (case L10=>exact ⟨_,_,_,_,_,_,_,_,_,by k_is,by k_is⟩)
  (case k10=>k_is)
  (case a11=>first | k_is | rfl | decide +kernel)
  (case L11=>exact ⟨_,_,_,_,_,_,_,_,_,by k_is,by k_is⟩)
  (case k11=>k_is)
  (case a12=>first | k_is | rfl | decide +kernel)
  (case L12=>exact ⟨_,_,_,_,_,_,_,_,_,by k_is,by k_is⟩)
  (case k12=>k_is)
  (case a13=>first | k_is | rfl | decide +kernel)
  (case L13=>exact ⟨_,_,_,_,_,_,_,_,_,by k_is,by k_is⟩)
  (case k13=>k_is)
  (case a14=>first | k_is | rfl | decide +kernel)
  (case L14=>exact ⟨_,_,_,_,_,_,_,_,_,by k_is,by k_is⟩)
  (case k14=>k_is)
  (case a15=>first | k_is | rfl | decide +kernel)
  (case L15=>exact ⟨_,_,_,_,_,_,_,_,_,by k_is,by k_is⟩)
  (case k15=>k_is)
  (case a16=>first | k_is | rfl | decide +kernel)
  (case l16=>k_is)
  (case c16=>k_is)
  (case k16=>k_is)
  (case z_all=>first | k_is | rfl | decide +kernel)
  (case z_int=>first | k_is | rfl | decide +kernel)
  (case z_isinstance=>first | k_is | rfl | decide +kernel)
  (case z_len=>first | k_is | rfl | decide +kernel)
  (case z_range=>first | k_is | rfl | decide +kernel)
  (case z_str=>first | k_is | rfl | decide +kernel)
  (case z_MOST_OPEN=>first | k_is | rfl | decide +kernel)
  (case zx_NoText=>first | k_is | rfl | decide +kernel)
  (case zc_NoText=>first | k_is | rfl | decide +kernel)
  (case zt_NoText=>first | k_is | rfl | decide +kernel)
  (case zx_TangleError=>first | k_is | rfl | decide +kernel)
  (case zc_TangleError=>first | k_is | rfl | decide +kernel)
  (case zt_TangleError=>first | k_is | rfl | decide +kernel)
  (case zx_NoWeb=>first | k_is | rfl | decide +kernel)
  (case zc_NoWeb=>first | k_is | rfl | decide +kernel)
  (case zt_NoWeb=>first | k_is | rfl | decide +kernel)
  (case zx_Odd=>first | k_is | rfl | decide +kernel)
  (case zc_Odd=>first | k_is | rfl | decide +kernel)
  (case zt_Odd=>first | k_is | rfl | decide +kernel)
  (case zx_NotFlat=>first | k_is | rfl | decide +kernel)
  (case zc_NotFlat=>first | k_is | rfl | decide +kernel)
  (case zt_NotFlat=>first | k_is | rfl | decide +kernel)
  (case zb_TangleError=>first | k_is | rfl | decide +kernel)
  (case xl2=>first | k_is | rfl | decide +kernel)
  (case xn2=>first | k_is | rfl | decide +kernel)
  (case xs2=>first | k_is | rfl | decide +kernel)
  (case xi2=>first | k_is | rfl | decide +kernel)
  (case xsp=>first | k_is | rfl | decide +kernel)
  (case xrd=>first | k_is | rfl | decide +kernel)
  (case xfc=>first | k_is | rfl | decide +kernel)
  (case zs_NoText_TangleError=>first | k_is | rfl | decide +kernel)
  (case zn_NoText_TangleError=>first | k_is | rfl | decide +kernel)
  (case zs_NoText_NoWeb=>first | k_is | rfl | decide +kernel)
  (case zn_NoText_NoWeb=>first | k_is | rfl | decide +kernel)
  (case zs_NoText_Odd=>first | k_is | rfl | decide +kernel)
  (case zn_NoText_Odd=>first | k_is | rfl | decide +kernel)
  (case zs_NoText_NotFlat=>first | k_is | rfl | decide +kernel)
  (case zn_NoText_NotFlat=>first | k_is | rfl | decide +kernel)
  (case xl1_NoText=>first | k_is | rfl | decide +kernel)
  (case xq1_NoText=>first | k_is | rfl | decide +kernel)
  (case xq2_NoText=>first | k_is | rfl | decide +kernel)
  (case xq3_NoText=>first | k_is | rfl | decide +kernel)
  (case xq4_NoText=>first | k_is | rfl | decide +kernel)
  (case xq5_NoText=>first | k_is | rfl | decide +kernel)
  (case xsa_NoText=>first | k_is | rfl | decide +kernel)
  (case xii_NoText=>first | k_is | rfl | decide +kernel)
  (case xti_NoText=>first | k_is | rfl | decide +kernel)
  (case xkp_NoText=>first | k_is | rfl | decide +kernel)
  (case xna_NoText=>first | k_is | rfl | decide +kernel)
  (case li_NoText=>k_is)
  (case ci_NoText=>k_is)
  (case ki_NoText=>k_is)
  (case zV=>first | k_is | rfl | decide +kernel)
  (case zVs_NoText=>first | k_is | rfl | decide +kernel)
  (case zx_Level=>first | k_is | rfl | decide +kernel)
  (case xhb_Level=>kernel_rfl)
  (case xsa_Level=>first | k_is | rfl | decide +kernel)
  (case xca_Level=>first | k_is | rfl | decide +kernel)
  (case xmr_Level=>first | k_is | rfl | decide +kernel)
  (case xn0_Level=>first | k_is | rfl | decide +kernel)
  (case xn1_Level=>first | k_is | rfl | decide +kernel)
  (case xw_Level=>first | k_is | rfl | decide +kernel)
  (case xhw_Level=>kernel_rfl)
  (case Lw_Level=>exact ⟨_,_,_,_,_,_,_,_,_,by k_is,by k_is⟩)
  (case zi_Level=>first | k_is | rfl | decide +kernel)
  (case zx_Upright=>first | k_is | rfl | decide +kernel)
  (case xhb_Upright=>kernel_rfl)
  (case xsa_Upright=>first | k_is | rfl | decide +kernel)
  (case xca_Upright=>first | k_is | rfl | decide +kernel)
  (case xmr_Upright=>first | k_is | rfl | decide +kernel)
  (case xn0_Upright=>first | k_is | rfl | decide +kernel)
  (case xn1_Upright=>first | k_is | rfl | decide +kernel)
  (case xw_Upright=>first | k_is | rfl | decide +kernel)
  (case xhw_Upright=>kernel_rfl)
  (case Lw_Upright=>exact ⟨_,_,_,_,_,_,_,_,_,by k_is,by k_is⟩)
  (case zi_Upright=>first | k_is | rfl | decide +kernel)
  (case zx_Single=>first | k_is | rfl | decide +kernel)
  (case xhb_Single=>kernel_rfl)
  (case xsa_Single=>first | k_is | rfl | decide +kernel)
  (case xca_Single=>first | k_is | rfl | decide +kernel)
  (case xmr_Single=>first | k_is | rfl | decide +kernel)
  (case xn0_Single=>first | k_is | rfl | decide +kernel)
  (case xn1_Single=>first | k_is | rfl | decide +kernel)
  (case xw_Single=>first | k_is | rfl | decide +kernel)
  (case xhw_Single=>kernel_rfl)
  (case Lw_Single=>exact ⟨_,_,_,_,_,_,_,_,_,by k_is,by k_is⟩)
  (case zi_Single=>first | k_is | rfl | decide +kernel)
  (case zx_Beside=>first | k_is | rfl | decide +kernel)
  (case xhb_Beside=>kernel_rfl)
  (case xsa_Beside=>first | k_is | rfl | decide +kernel)
  (case xca_Beside=>first | k_is | rfl | decide +kernel)
  (case xmr_Beside=>first | k_is | rfl | decide +kernel)
  (case xn0_Beside=>first | k_is | rfl | decide +kernel)
  (case xn1_Beside=>first | k_is | rfl | decide +kernel)
  (case xw_Beside=>first | k_is | rfl | decide +kernel)
  (case xhw_Beside=>kernel_rfl)
  (case Lw_Beside=>exact ⟨_,_,_,_,_,_,_,_,_,by k_is,by k_is⟩)
  (case xi_Beside=>first | k_is | rfl | decide +kernel)
  (case xhi_Beside=>kernel_rfl)
  (case Li_Beside=>exact ⟨_,_,_,_,_,_,_,_,_,by k_is,by k_is⟩)
  (case zx_Above=>first | k_is | rfl | decide +kernel)
  (case xhb_Above=>kernel_rfl)
  (case xsa_Above=>first | k_is | rfl | decide +kernel)
  (case xca_Above=>first | k_is | rfl | decide +kernel)
  (case xmr_Above=>first | k_is | rfl | decide +kernel)
  (case xn0_Above=>first | k_is | rfl | decide +kernel)
  (case xn1_Above=>first | k_is | rfl | decide +kernel)
  (case xw_Above=>first | k_is | rfl | decide +kernel)
  (case xhw_Above=>kernel_rfl)
  (case Lw_Above=>exact ⟨_,_,_,_,_,_,_,_,_,by k_is,by k_is⟩)
  (case xi_Above=>first | k_is | rfl | decide +kernel)
  (case xhi_Above=>kernel_rfl)
  (case Li_Above=>exact ⟨_,_,_,_,_,_,_,_,_,by k_is,by k_is⟩)
  (case zx_Turned=>first | k_is | rfl | decide +kernel)
  (case xhb_Turned=>kernel_rfl)
  (case xsa_Turned=>first | k_is | rfl | decide +kernel)
  (case xca_Turned=>first | k_is | rfl | decide +kernel)
  (case xmr_Turned=>first | k_is | rfl | decide +kernel)
  (case xn0_Turned=>first | k_is | rfl | decide +kernel)
  (case xn1_Turned=>first | k_is | rfl | decide +kernel)
  (case xw_Turned=>first | k_is | rfl | decide +kernel)
  (case xhw_Turned=>kernel_rfl)
  (case Lw_Turned=>exact ⟨_,_,_,_,_,_,_,_,_,by k_is,by k_is⟩)
  (case xi_Turned=>first | k_is | rfl | decide +kernel)
  (case xhi_Turned=>kernel_rfl)
  (case Li_Turned=>exact ⟨_,_,_,_,_,_,_,_,_,by k_is,by k_is⟩)
  (case zx_Mirrored=>first | k_is | rfl | decide +kernel)
  (case xhb_Mirrored=>kernel_rfl)
  (case xsa_Mirrored=>first | k_is | rfl | decide +kernel)
  (case xca_Mirrored=>first | k_is | rfl | decide +kernel)
  (case xmr_Mirrored=>first | k_is | rfl | decide +kernel)
  (case xn0_Mirrored=>first | k_is | rfl | decide +kernel)
  (case xn1_Mirrored=>first | k_is | rfl | decide +kernel)
  (case xw_Mirrored=>first | k_is | rfl | decide +kernel)
  (case xhw_Mirrored=>kernel_rfl)
  (case Lw_Mirrored=>exact ⟨_,_,_,_,_,_,_,_,_,by k_is,by k_is⟩)
  (case xi_Mirrored=>first | k_is | rfl | decide +kernel)
  (case xhi_Mirrored=>kernel_rfl)
  (case Li_Mirrored=>exact ⟨_,_,_,_,_,_,_,_,_,by k_is,by k_is⟩)
  (case zx_Part=>first | k_is | rfl | decide +kernel)
  (case xht_Part=>kernel_rfl)
  (case xs_Part=>first | k_is | rfl | decide +kernel)
  (case xo1=>first | k_is | rfl | decide +kernel)
  (case xo2=>first | k_is | rfl | decide +kernel)
  (case xe1_Level=>first | k_is | rfl | decide +kernel)
  (case xe2_Level=>first | k_is | rfl | decide +kernel)
  (case xe3_Level=>first | k_is | rfl | decide +kernel)
  (case xe1_Upright=>first | k_is | rfl | decide +kernel)
  (case xe2_Upright=>first | k_is | rfl | decide +kernel)
  (case xe3_Upright=>first | k_is | rfl | decide +kernel)
  (case xe1_Single=>first | k_is | rfl | decide +kernel)
  (case xe2_Single=>first | k_is | rfl | decide +kernel)
  (case xe3_Single=>first | k_is | rfl | decide +kernel)
  (case xe1_Beside=>first | k_is | rfl | decide +kernel)
  (case xe2_Beside=>first | k_is | rfl | decide +kernel)
  (case xe3_Beside=>first | k_is | rfl | decide +kernel)
  (case xe1_Above=>first | k_is | rfl | decide +kernel)
  (case xe2_Above=>first | k_is | rfl | decide +kernel)
  (case xe3_Above=>first | k_is | rfl | decide +kernel)
  (case xe1_Turned=>first | k_is | rfl | decide +kernel)
  (case xe2_Turned=>first | k_is | rfl | decide +kernel)
  (case xe3_Turned=>first | k_is | rfl | decide +kernel)
  (case xe1_Mirrored=>first | k_is | rfl | decide +kernel)
  (case xe2_Mirrored=>first | k_is | rfl | decide +kernel)
  (case xe3_Mirrored=>first | k_is | rfl | decide +kernel)
