import PyProof.Rows.All
import Wide.All
import OpenK.AllK
import Wide.FinOn
import Lean
import PyProof.EqAt
import PyProof.EqKinds
import PyProof.TupleCall
import PyProof.EnumMake
import PyProof.EnumFor
import PyProof.Draws
import PyProof.DictWalks
import PyProof.ListRange
import PyProof.ZipIter
import PyProof.Rows.SortWalk
import PyProof.Rows.SumAny
import PyProof.TupleIter
import PyProof.MeetsStr2
import PyProof.StrWalks
import Wide.Txt
import PyProof.Rows.SortRuns
import PyProof.Rows.MinMaxN
import PyProof.ExcClass2
import PyProof.NsDelKeeps
import PyProof.ExcArgsOwn
import PyProof.ExcAttrAll.ValueError
import PyProof.ExcBaseAll.ValueError
import PyProof.ExcInit
import PyProof.InstStoreFacts
import PyProof.Rows.MatchSeqLen
import PyProof.CollectIter
import PyProof.TupleOfStr
import PySem.Challenge.RW_tanglehouse_k15_whole_what_is_drawn_is_f
open PySem.W (methodObj Frag keepIn callWith_K cellsFrom_some fnOf codeIn KdlSrc KatTups nsIn noTabs mg_of mg_none_of)
set_option Elab.async false
set_option linter.all false
set_option maxRecDepth 100000
set_option maxHeartbeats 4000000
noncomputable section
open PySem renaming wpAny_bind → Ah, wpAny_pure → As, Spec → Bl, Addr → Dj, Env → Do, mem_of_lookup → Dp, wpAny_newObj_type → Dv, wpAny_call_entry → D7, wpAny_callSpecial?_slot → Fe, Value → Fg, builtinLookup_eq_fast → Fs, wpAny_mono → Fw, sizeLine_eq → Md, wpAny_field → Me, Expr → Nb, typeLookup_type → Ng, wpAny_of_eq → Nm, wpAny_holding → Nq, wpAny_Call_Name_kw → Nu, wpAny_typeNameOfWhole_keyiter → N7, wpAny_rule → Rc, Str → Re, wpAny_passesOwn → Ri, wpAny_attempt → Rl, wpAny_setField → Rr, wpAny_typeNameOf_keyiter → Rs, wpAny_specialOf → R0, isSubtype_type → Sc, wpAny_isInstance → Sf, wpAny_loadPart' → Su, wpAny_ite_split → Sv, Shared → Sw, Pos → Sx, tupleKind_room_in1 → Sz, wpAny_pyIter_tuple → S0, wpAny_pyIter_enum → Ta, wpAny_execs_nil → Tn, codeAny_mono → Tp, wpAny_typeOf → Tq, codeAny_builtin → Tx, wpAny_letOwnedTupleGo_enum → Iw, wpAny_newList → Iy, wpAny_dictEntries → Kc, Heap → Kf, call_meets → Kg, noFill_tuple_add → Kk, wpAny_comprehension_free → Kl, wpAny_Call_method0_late → Kw, wpAny_dictEpoch → K0, isSubtype_stop → Lb, Program → Lq, wpAny_standAt → Lr, seq_tuple_add → Ls, wpAny_handled → Lu, signature?_of → Lv, plainId_quiet → Lx, evalArgs_none → Lz, list_append → Ol, World → Oo, Stmt → Ow, call → Oy
open List renaming range → Ai, mem_append → Aj, mem_cons_self → Ak, mem_cons_of_mem → Al, length_cons → Am, length_map → Ao, mem_singleton → Ap, mem_map → Aq, mem_cons → Ar, getElem?_map → Au, set_cons_succ → Av, set_cons_zero → Aw, mem_range → Ay, length_nil → Az, map_cons → Bc, nodup_cons → Bd, getElem?_eq_some_iff → Be, getElem?_cons_zero → Bh, append_assoc → Bm, getElem?_eq_getElem → Bo, replicate → Bt, size_toArray → Bu, length_append → Bx, map_map → By, cons_append → Bz, getElem?_cons_succ → B0, map_nil → B1, getElem?_range → B2, nil_append → B5, pairwise_append → B6, getElem?_eq_none → B7, map_congr_left → B8, length_range → Db, take_of_length_le → Dc, take_append_drop → Dd, mem_filter → Df, getElem?_append_left → Dg, length_take → Dh, mem_append_right → Dk, pairwise_map → Dl, nodup_append → Dm, getElem_of_mem → Dq, getElem?_append_right → Dt, mem_of_getElem? → Du, length_set → Dw, lookup_cons → D2, mem_of_mem_take → D3, append_nil → D6, nodup_nil → D8, mem_of_mem_drop → Fa, length_drop → Fb, sublist_append_right → Ff, any_cons → Ft, pairwise_lt_range → Fu, getElem?_take_of_lt → Mb, perm_append_comm → Mc, map_append → Mi, length_eq_zero_iff → Ml, filter_cons_of_pos → Mn, filter_cons_of_neg → Mo, getElem?_set_ne → Mp, take_add_one → Mu, ext_getElem? → Mv, replicate_succ → Mw, pairwise_iff_getElem → Mz, sublist_nil → M6, getElem?_set_self → Nk, nodup_range → Nr, length_filter_le → Nw, range_succ → Nz, flatten_cons → N0, getElem_drop → N2, getElem_take → N3, drop_drop → N9, any_eq_true → Ra, length → Rb, drop_eq_getElem_cons → Rq, sublist_append_left → Rt, all_cons → Rw, find?_cons → Rz, pairwise_cons → R3, drop_of_length_le → R7, getElem_mem → Sh, getElem?_of_mem → Si, reverse_append → So, of_mem_zip → Sr, filter_append → S1, getElem?_drop → S3, drop_take → S6, reverse_cons → Td, sublist_cons_self → Tj, mem_append_left → Tl, drop_append_of_le_length → T4, take_append_of_le_length → T5, count_eq_zero_of_not_mem → T7, getLast?_eq_some_getLast → T8, filterMap_cons → T9, lookup → Ii, map_id → Ik, nodup_iff_pairwise_ne → I8, filter_congr → Kd, extract_eq_take_drop → Ki, getElem_inj → Kj, any_map → Ko, all_eq_true → Kq, take_length → Kr, contains_eq_any_beq → Kv, take → K2, find?_cons_of_pos → K7, find?_cons_of_neg → K8, take_take → Ld, drop_left → Le, getElem?_reverse → Lg, concat_eq_append → Lj, reverse_reverse → Lp, flatten_append → L1, length_pos_iff → L3, length_reverse → L4, mem_map_of_mem → L5, mem_filterMap → L8, getElem?_take → Oe, zip_cons_cons → Oi, take_sublist → Oj, foldl → Ox
open PySem.Heap renaming get?_push_of_some → An, lt_size → Bf, get?_push_size → Bp, get?_update_other → Ms, get?_update_self → M0, SameBut → Sa, size_push → K9, get?_none_of_le → Ll, get?_push_ne → Om, ExtBut → Oq
open Nat renaming le_refl → At, zero_add → Bk, lt_of_lt_of_le → Bs, ne_of_lt → Bv, mod_eq_of_lt → Dn, zero_le → Dx, le_trans → Dy, ne_of_gt → D1, lt_succ_self → M5, add_sub_cancel_left → Nd, le_of_lt → Nj, add_zero → Nn, lt_irrefl → Np, add_assoc → N6, lt_of_le_of_lt → Rf, add_lt_add_left → Ru, min_eq_left → R5, min_eq_right → Sj, le_add_right → Sk, mod_lt → S7, lt_succ_of_lt → Tb, lt_trichotomy → Te, lt_of_succ_lt → Tf, succ_mul → Tr, not_lt → Tt, lt_or_ge → Tu, lt_add_one → Ih, le_succ → Ij, add_mod_right → Ke, mod_self → Kn, lt_trans → Oa, sub_add_cancel → Of, le_total → Og, mod_eq_sub_mod → Oh
open PyProof.Rows renaming wpS_bind → Ax, wpS_pure → Bi, slot_tuple_getitem → Dz, wpS_forRange → Fl, callWith_type1 → Mj, Keyed → Nt, wpS_mono → Ny, SortSt → N8, wpS_modify → S4, wpS_get → S5, wpS_lift → Ie, IsTup → Ip, subscriptTail_builtinR → K4, len_tuple → K5
open Array renaming getElem?_eq_getElem → Bg, length_toList → De, toList_append → Dr, getElem?_toList → Fm, toList_push → N4, perm_iff_toList_perm → Rm, getD_eq_getD_getElem? → Se, toList_reverse → Sg, getElem?_append_left → Sn, toArray_toList → T0, append_assoc → Il, toList_setIfInBounds → Iz, getElem?_eq_none → K6, toList_extract → Lo, append_empty → Oc
open Bool renaming false_eq_true → Bj, false_ne_true → Bw, and_eq_true → B4, and_true → Fh, or_eq_false_iff → Mq, and_self → Na, not_true → N5, not_eq_true' → Tc, eq_iff_iff → To, not_eq_false' → Io, false_or → Iv, true_and → Ix, xor_false → Li, xor_true → Ly
open Option.some renaming inj → Bq, injEq → N1
open PySem.Value renaming ref → Br, none → My, type → Tk, int → Ky
open Or renaming inr → B9, inl → Ds
open Option renaming isSome_some → Di, isSome_iff_exists → Ma, map_eq_some_iff → Nl, map_some → Rj, isSome_map → Ka, getD_none → Ot
open List.Pairwise renaming imp_of_mem → D4, nil → Rn, sublist → Lc, imp → On
open PySem.PassesOwn renaming never → D5
open PySem.NameKind renaming free → D9, cell → Rx
open List.Perm renaming append_left → Fq, append_right → R8
open False renaming elim → Fx
open PySem.Obj renaming mapSeq → Fz, data_mapFields → M4, isFreed_of_fields → Sb, cls_mapFields → Kb, mapFields → Lw
open ForInStep renaming yield → Mf
open Ne renaming symm → Mk
open PySem.F renaming plainAttrs_list → Mm, slot_list_append → M7, type_list_append → M8, slot_dict_keyiterator_next → Nc, slot_tuple_iterator_next → Rk, args_tuple_add_2 → Sy, entry_tuple_add → S8, slot_tuple_add → Th, args_object_init_2 → Tv, args_dict_keyiterator_next_1 → T3, entry_dict_keyiterator_next → T6, args_tuple_iterator_next_1 → Ib, slot_dict_setdefault → Ic, entry_tuple_iterator_next → Im, slot_dict_values → Km, plainAttrs_dict → Kx, slot_enumerate_next → La, args_list_append_2 → Ln
open Int renaming le_refl → Mt, toNat_natCast → Nf, le_of_lt → Rg, emod_lt_of_pos → Rh, emod_nonneg → R6, ne_of_lt → Ku, le_antisymm → K1
open PySem.Str renaming ofString → M2, empty → Ob
open PySem.Builtin.Tuple renaming tupleExact → M3, tupleItemsOf → Iu
open PySem.W renaming codeHdIn → M9, mg_none_of → Sl, tabObj → Lh
open Sum renaming inl → Nh, inr → Ia
open PySem.Heap.SameBut renaming update → Ni
open PySem.Paired renaming length → No
open Classical renaming choose_spec → Nv, choose → Kp
open PySem.Builtin.List renaming listTooLong → Nx, listExtendWith → Sd, listFitsIndex → Sm, listLengthHint → Iq, listSameRef → Kt
open PySem.Builtin.Slice renaming slicePlaces → Ro, sliceAdjust → Ss, sliceApplied → Is
open PySem.Builtin.SmallTypes renaming nextOf → Rp
open PySem.Builtin.Str renaming occurrences → Rv
open PySem.Calls renaming spliced_cons → Ry, spliced_nil → S9, callWith_builtin → Ti, Name_function_global → Ir, call_function_entry → Kh
open List.Sublist renaming refl → R9, append → Sq, slnil → S2
open True renaming intro → Ts
open PySem.Around renaming under_plainId → Tz, frames_deeper → Lm
open PySem.Builtin.Dict_items renaming ownsTuple → Ig
open Function renaming comp → I9
open PySem.Data renaming cell → Kz, fields → Op
open PyProof renaming noPylong_small → K3
open PySem.Builtin.Dict renaming showsAll → Lf
open PySem.SeqAt.EqAt renaming int_str → L6, str_int → L7, int_int → L9
open Nat.succ renaming inj → Od
open PySem.IsL renaming update → Ou
open PySem.Builtin renaming sorted → Ov
variable {us:List Fg}
namespace L2
open PySem PySem.Spec PyProof.Rows
abbrev Key:=Sum Int Str
def Qgd:Key->Value->Bool
 | .inl k,v=>Value.isInt k v
 | .inr x,v=>Value.isStrOf x v
def keyH(w:World):Key->Int
 | .inl k=>hashInt k
 | .inr x=>hashStr w x
theorem Jd:∀{k:Key}{v:Value},Qgd k v=true->(∃i t,k=Nh i/\v=Ky i t)\/(∃x t,k=Ia x/\v=Value.str x t)
 | .inl i,v,h=>by
  obtain⟨t,e⟩:=Value.isInt_shape (k:=i) (v:=v) h;exact .inl ⟨i,t,rfl,e⟩
 | .inr x,v,h=>by
  obtain⟨t,e⟩:=Value.isStrOf_shape (x:=x) (v:=v) h;exact .inr ⟨x,t,rfl,e⟩
theorem Qml(i:Int)(t:Tok):Qgd (.inl i) (.int i t)=true:=by simp[Qgd,Value.isInt]
theorem Qmk(x:Str)(t:Tok):Qgd (.inr x) (.str x t)=true:=by simp[Qgd,Value.isStrOf]
theorem Qwy(a b:Int):decide ((Nh a:Key)=Nh b)=(a==b):=by
 by_cases e:a=b
 ·subst e;simp
 ·have h:¬(Nh a:Key)=Nh b:=λq=>e (Nh.inj q);rw[decide_eq_false h];exact(beq_eq_false_iff_ne.mpr e).symm
theorem Qwv(a b:Str):decide ((Ia a:Key)=Ia b)=decide (a=b):=by
 by_cases e:a=b
 ·subst e;simp
 ·have h:¬(Ia a:Key)=Ia b:=λq=>e (Ia.inj q);rw[decide_eq_false h,decide_eq_false e]
theorem Qwx(a:Int)(b:Str):decide ((Nh a:Key)=Ia b)=false:=decide_eq_false (λq=>nomatch q)
theorem Qww(a:Str)(b:Int):decide ((Ia a:Key)=Nh b)=false:=decide_eq_false (λq=>nomatch q)
noncomputable def Q1(prog:Program)(w:World):PySem.KeyKind prog w Key where
 is:=Qgd
 hash:=keyH w
 inj:=λv a b ha hb=>by
  rcases Jd ha with⟨i,t,rfl,rfl⟩|⟨x,t,rfl,rfl⟩
  ·rcases Jd hb with⟨j,u,rfl,e⟩|⟨y,u,rfl,e⟩
   ·injection e with e1 _;rw[e1]
   ·exact nomatch e
  ·rcases Jd hb with⟨j,u,rfl,e⟩|⟨y,u,rfl,e⟩
   ·exact nomatch e
   ·injection e with e1 _;rw[e1]
 byValue:=λk v h=>by
  rcases Jd h with⟨i,t,rfl,rfl⟩|⟨x,t,rfl,rfl⟩<;>rfl
 pyHash:=λhv h=>by
  rcases Jd hv with⟨i,t,rfl,rfl⟩|⟨x,t,rfl,rfl⟩
  ·exact wpAny_pyHash_int h
  ·exact wpAny_pyHash_str h
 eqBool:=λhu hv h=>by
  rcases Jd hu with⟨i,t,rfl,rfl⟩|⟨x,t,rfl,rfl⟩
  ·rcases Jd hv with⟨j,u,rfl,rfl⟩|⟨y,u,rfl,rfl⟩
   ·rw[Qwy]at h;exact wpAny_eqBool_int h
   ·rw[Qwx]at h;exact L6 i t y u _ _ _ _ h
  ·rcases Jd hv with⟨j,u,rfl,rfl⟩|⟨y,u,rfl,rfl⟩
   ·rw[Qww]at h;exact L7 x t j u _ _ _ _ h
   ·rw[Qwv]at h;exact wpAny_eqBool_str h
 «strs»:=λk x t v h=>by
  rcases Jd h with⟨i,u,rfl,e⟩|⟨y,u,rfl,e⟩
  ·exact nomatch e
  ·injection e with e1 _;subst e1;cases v<;>rfl
theorem Qjh(prog:Program)(w:World)(k:Key)(v:Value):(Q1 prog w).is k v=Qgd k v:=rfl
theorem Qf8(prog:Program)(w:World)(i:Int)(t:Tok):(Q1 prog w).is (.inl i) (.int i t)=true:=Qml i t
theorem Qf7(prog:Program)(w:World)(x:Str)(t:Tok):(Q1 prog w).is (.inr x) (.str x t)=true:=Qmk x t
inductive V where
 |non|bl (b:Bool)|int (i:Int)|str (x:Str)|byt (b:Array UInt8)|flt (b:UInt64)|ref (a:Addr)|ty (n:String)
 deriving DecidableEq
noncomputable def RelV:V->Value->Prop
 | .non,u=>u=My
 | .bl b,u=>u=Value.bool b
 | .int i,u=>∃t,u=Ky i t
 | .str x,u=>∃t,u=Value.str x t
 | .byt b,u=>∃t,u=Value.bytes b t
 | .flt b,u=>∃t,u=Value.float b t
 | .ref a,u=>u=Br a
 | .ty n,u=>u=Tk n
abbrev Vals:List V->List Value->Prop:=Paired RelV
theorem Vals.length{xs:List V}(r:Vals xs us):xs.length=us.length:=No r
theorem Vals.get:∀{xs:List V}{us:List Value}{i:Nat}{x:V},Vals xs us->xs[i]? = some x->∃u,us[i]? = some u/\RelV x u
 |_,_,_,_,.nil,e=>by simp at e
 |_,_,0,_,.cons r _,e=>by simp at e;subst e;exact⟨_,rfl,r⟩
 | _,_,i+1,x,.cons _ t,e=>by
  obtain⟨u,h1,h2⟩:=Vals.get (i:=i) (x:=x) t (by simpa using e);exact⟨u,by simpa using h1,h2⟩
theorem Vals.set{x:V}{u:Value}(r:RelV x u):∀{xs:List V}{us:List Value}(i:Nat),Vals xs us->Vals (xs.set i x) (us.set i u)
 |_,_,_,.nil=>.nil
 |_,_,0,.cons _ t=>.cons r t
 |_,_,i+1,.cons q t=>.cons q (Vals.set r i t)
theorem Vals.append:∀{xs ys:List V}{us ws:List Value},Vals xs us->Vals ys ws->Vals (xs++ys) (us++ws)
 |_,_,_,_,.nil,s=>s
 |_,_,_,_,.cons r t,s=>.cons r (Vals.append t s)
theorem Vals.take:∀{xs:List V}{us:List Value}(n:Nat),Vals xs us->Vals (xs.take n) (us.take n)
 |_,_,0,_=>.nil
 |_,_,_+1,.nil=>.nil
 |_,_,n+1,.cons r t=>.cons r (Vals.take n t)
theorem Vals.drop:∀{xs:List V}{us:List Value}(n:Nat),Vals xs us->Vals (xs.drop n) (us.drop n)
 |_,_,0,r=>r
 |_,_,_+1,.nil=>.nil
 |_,_,n+1,.cons _ t=>Vals.drop n t
def RelO:Option V->Option Value->Prop
 |some v,some u=>RelV v u
 |none,none=>True
 |_,_=>False
def KV{κ:Type}:List (κ×V)->List (κ×Value)->Prop:=Paired λ(p:κ×V)(q:κ×Value)=>p.1=q.1/\RelV p.2 q.2
def kV:Key->V
 | .inl i=>.int i
 | .inr x=>.str x
inductive HO where
 |lst (xs:List V)
 |tup (xs:List V)
 |dK (kvs:List (Key×V))|dT (kvs:List (List Key×V))
 |set (S:Int->Bool) (n:Nat)
 |ins (C dx:Addr) (fs:List (Str×V))
 |own (x:Addr)
 |xd (fs:List (Str×V))
 |met (f x:Addr)
 |rng (lo hi:Int)
 |frz (o:Obj) (u:HO)
 |tbl (ps:Array Value)
 |ext (φ:Heap->Prop)
abbrev Hp:=Addr->Option HO
end L2
variable {H H' H1 H2:L2.Hp}{a b e:Dj}{o u ob:L2.HO}{P:Lq}{w:Oo}{h h':Kf}{x:Re}{ex:List Dj}
namespace L2
open PySem PySem.Spec PyProof.Rows
def upd(H:Hp)(a:Addr)(o:HO):Hp:=λb=>if b=a then some o else H b
theorem Qf:upd H a o a=some o:=by unfold upd;rw[if_pos rfl]
theorem Ql(h:b≠a):upd H a o b=H b:=by unfold upd;rw[if_neg h]
theorem Qyy(h:H a=some o)(h':H b=some u)(d:o≠u):a≠b:=by
 intro e;subst e;rw[h]at h';exact d (Bq h')
theorem Qw(h:H a=some o)(h':H b=none):a≠b:=by
 intro e;subst e;rw[h]at h';cases h'
section
variable (P:Program)(w:World)
noncomputable def Yj(H:Hp)(h:Heap)(a:Addr):HO->Prop
 | .lst xs=>xs.length<=sizeLine/\∃(its:List Value)(n:Nat),Vals xs its/\h.get? a=some { cls:=.type "list",data:=.seq its.toArray n }
 | .tup xs=>xs.length<=sizeLine/\∃its:List Value,Vals xs its/\IsTup h a its.toArray
 | .dK kvs=>kvs.length<=sizeLine/\(a==sysModules)=false/\∃vs,KV kvs vs/\h.DictOf (Q1 P w) a vs
 | .dT kvs=>kvs.length<=sizeLine/\(a==sysModules)=false/\∃xs:List (List Key×Addr×Value),
   Paired (λ(p:List Key×V)(q:List Key×Addr×Value)=>p.1=q.1/\H q.2.1=some (.tup (p.1.map kV))/\RelV p.2 q.2.2) kvs xs /\
   ∃o es ep,h.get? a=some o/\o.ExactDict/\o.data=.dict es ep/\es.toList=xs.map (entryOfKey (tupleKind (Q1 P w)))/\(xs.map (·.1)).Nodup
 | .set S n=>h.SetOf (intKind P w) a S n
 | .ins C dx fs=>H dx=some (.own a)/\fs.length<=1000/\dx≠a/\h.get? a=some (PySem.W.instObj C dx) /\
   ∃mA,h.Ns1 dx mA/\(∀f,RelO (fs.lookup f) (mA f))/\PySem.Within mA (fs.map (·.1))
 | .own _=>∃o,h.get? a=some o
 | .xd fs=>∃mA,h.Ns1 a mA/\∀f,RelO (fs.lookup f) (mA f)
 | .rng lo hi=>∃t u v,h.get? a=some { cls:=.type "range",data:=.fields #[.int lo t,.int hi u,.int 1 v] }
 | .frz o u=>h.get? a=some o/\Yj H h a u
 | .tbl ps=>∃ts:Array Value,h.get? a=some { cls:=.none,data:=.fields ts }/\(ts = #[]\/∃(b:Addr)(oc:Obj)(u:HO)(vs:Array Value)(t:Tok)(q:Str)(t':Tok),ts = #[ps.getD 0 .none,ps.getD 1 .none,.ref b]/\H b=some (.frz oc u)/\oc.data=.fields vs/\ps.getD 2 .none=.str q t'/\vs[1]? = some (.str q t))
 | .met f x=>h.get? a=some (methodObj (.ref f) (.ref x))
 | .ext φ=>φ h/\(∃o,h.get? a=some o)/\∀h1 h2:Heap,φ h1->(∀o,h1.get? a=some o->h2.get? a=some o)->φ h2
def HOk(H:Hp)(h:Heap):Prop:=∀a o,H a=some o->Yj P w H h a o
end
theorem Yj.lt(x:Yj P w H h a o):a<h.objs.size:=by
 cases o with
 |lst xs=>obtain⟨_,_,_,_,e⟩:=x;exact Bf e
 |tup xs=>obtain⟨_,_,_,p⟩:=x;exact p.lt
 |dK kvs=>obtain⟨_,_,_,_,o,_,_,e,_⟩:=x;exact Bf e
 |dT kvs=>obtain⟨_,_,_,_,o,_,_,e,_⟩:=x;exact Bf e
 |set S n=>obtain⟨o,_,_,_,e,_⟩:=x;exact Bf e
 |ins C dx fs=>obtain⟨_,_,_,e,_⟩:=x;exact Bf e
 |own y=>obtain⟨_,e⟩:=x;exact Bf e
 |xd fs=>obtain⟨_,⟨_,_,_,e,_⟩,_⟩:=x;exact Bf e
 |rng lo hi=>obtain⟨_,_,_,e⟩:=x;exact Bf e
 |frz ob u=>obtain⟨e,_⟩:=x;exact Bf e
 |tbl ps=>obtain⟨_,e,_⟩:=x;exact Bf e
 |met f y=>exact Bf (show h.get? a=some _ from x)
 |ext φ=>obtain⟨_,⟨_,e⟩,_⟩:=x;exact Bf e
theorem Paired.mapP{α β:Type}{F G:α->β->Prop}:∀{l₁:List α}{l₂:List β},Paired F l₁ l₂->(∀a b,F a b->G a b)->Paired G l₁ l₂
 |_,_,.nil,_=>.nil
 |_,_,.cons r t,f=>.cons (f _ _ r) (Paired.mapP t f)
theorem Yj.stay(x:Yj P w H h a o)(k:∀b u,(b=a\/H b=some (.own a))->h.get? b=some u->h'.get? b=some u)
  (ho:∀b,H b=some (.own a)->H' b=some (.own a)) (ht:∀b xs,H b=some (.tup xs)->H' b=some (.tup xs)) (hf:∀b u v vs,H b=some (.frz u v)->u.data=.fields vs->H' b=some (.frz u v):=by exactλ_ _ _ _ q _=>q):Yj P w H' h' a o:=by
 induction o with
 |lst xs=>obtain⟨z,its,n,r,e⟩:=x;exact⟨z,its,n,r,k _ _ (.inl rfl) e⟩
 |tup xs=>obtain⟨z,its,r,ob,e,c⟩:=x;exact⟨z,its,r,ob,k _ _ (.inl rfl) e,c⟩
 |dK kvs=>obtain⟨z,y,vs,r,ob,es,ep,e,c⟩:=x;exact⟨z,y,vs,r,ob,es,ep,k _ _ (.inl rfl) e,c⟩
 | dT kvs=>
  obtain⟨z,y,xs,r,ob,es,ep,e,c⟩:=x;exact⟨z,y,xs,Paired.mapP r λp q z=>⟨z.1,ht _ _ z.2.1,z.2.2⟩,ob,es,ep,k _ _ (.inl rfl) e,c⟩
 |set S n=>obtain⟨ob,es,ep,t,e,c⟩:=x;exact⟨ob,es,ep,t,k _ _ (.inl rfl) e,c⟩
 | ins C dx fs=>
  obtain⟨d,z,ne,e,mA,⟨od,es,ep,e2,c⟩,r⟩:=x;exact⟨ho _ d,z,ne,k _ _ (.inl rfl) e,mA,⟨od,es,ep,k _ _ (.inr d) e2,c⟩,r⟩
 |own y=>obtain⟨ob,e⟩:=x;exact⟨ob,k _ _ (.inl rfl) e⟩
 |xd fs=>obtain⟨mA,⟨od,es,ep,e,c⟩,r⟩:=x;exact⟨mA,⟨od,es,ep,k _ _ (.inl rfl) e,c⟩,r⟩
 |rng lo hi=>obtain⟨t,u,v,e⟩:=x;exact⟨t,u,v,k _ _ (.inl rfl) e⟩
 |frz ob u ih=>obtain⟨e,q⟩:=x;exact⟨k _ _ (.inl rfl) e,ih q⟩
 | tbl ps=>
  obtain⟨ts,e,r⟩:=x;exact⟨ts,k _ _ (.inl rfl) e,r.imp id λ⟨b,oc,u,vs,t,q,t',z1,z2,z3⟩=>⟨b,oc,u,vs,t,q,t',z1,hf _ _ _ _ z2 z3.1,z3⟩⟩
 | met f y=>
  have e:h.get? a=some (methodObj (.ref f) (.ref y)):=x;show h'.get? a=some (methodObj (.ref f) (.ref y));exact k a _ (.inl rfl) e
 |ext φ=>obtain⟨p,⟨o,e⟩,st⟩:=x;exact⟨st _ _ p λo q=>k _ _ (.inl rfl) q,⟨o,k _ _ (.inl rfl) e⟩,st⟩
theorem HOk.lt(x:HOk P w H h)(e:H a=some o):a<h.objs.size:=(x a o e).lt
theorem HOk.fresh(x:HOk P w H h)(e:h.objs.size<=a):H a=none:=by
 cases q:H a with
 |none=>rfl
 |some u=>exact absurd (Bs (x.lt q) e) (Np _)
theorem HOk.kept(x:HOk P w H h)(k:∀b u,h.get? b=some u->h'.get? b=some u):HOk P w H h':=λa o e=>
 (x a o e).stay (λb u _ q=>k b u q) (λ_ q=>q) λ_ _ q=>q
theorem HOk.laid(x:HOk P w H h)(k:∀b u,h.get? b=some u->h'.get? b=some u)(hp:h.objs.size<=a)(new:Yj P w (upd H a o) h' a o):HOk P w (upd H a o) h':=λb u e=>by
 have hn:=x.fresh hp;by_cases hb:b=a
 ·subst hb;rw[Qf]at e;cases e;exact new
 ·rw[Ql hb]at e;exact(x b u e).stay (λc v _ q=>k c v q) (λc q=>by rw[Ql (Qw q hn)];exact q) (λc xs q=>by rw[Ql (Qw q hn)];exact q) λc _ _ _ q _=>by rw[Ql (Qw q hn)];exact q
def Rd(H:Hp)(a:Addr)(u:HO):Prop:=H a=some u\/∃o,H a=some (.frz o u)
theorem Rd.of(h:H a=some u):Rd H a u:=.inl h
theorem Rd.ok(r:Rd H a u)(x:HOk P w H h):Yj P w H h a u:=by
 rcases r with r|⟨o,r⟩
 ·exact x a u r
 ·obtain⟨_,q⟩:=x a _ r;exact q
def Mut:Option HO->Prop
 |some (.lst _)=>True
 |some (.dK _)=>True
 |some (.dT _)=>True
 |some (.set _ _)=>True
 |some (.ins _ _ _)=>True
 |some (.ext _)=>True
 |_=>False
section
variable {x:Addr}{o':HO}
theorem HOk.write(ok:HOk P w H h)(mu:Mut (H x))(he:e=x\/H e=some (.own x))(k:∀b u,b≠e->h.get? b=some u->h'.get? b=some u)(heo:∃u,h'.get? e=some u)
  (new:Yj P w (upd H x o') h' x o'):HOk P w (upd H x o') h':=λb u q=>by
 have nown:∀c y,H c=some (.own y)->c≠x:=λc y r z=>by subst z;rw[r]at mu;exact mu
 have ntup:∀c xs,H c=some (.tup xs)->c≠x:=λc xs r z=>by subst z;rw[r]at mu;exact mu
 have nfrz:∀c o v,H c=some (.frz o v)->c≠x:=λc o v r z=>by subst z;rw[r]at mu;exact mu
 by_cases hb:b=x
 ·subst hb;rw[Qf]at q;cases q;exact new
 ·rw [Ql hb]at q;by_cases hbe:b=e
  ·have q':H b=some (.own x):=by
    rcases he with z|z
    ·exact absurd (hbe.trans z) hb
    ·rw[hbe];exact z
   rw[q]at q';cases q';obtain⟨v,hv⟩:=heo;exact⟨v,by rw[hbe];exact hv⟩
  ·refine (ok b u q).stay (λc v hc r=>k c v ?_ r) (λc r=>by rw[Ql (nown c b r)];exact r) (λc xs r=>by rw[Ql (ntup c xs r)];exact r) λc o v _ r _=>by rw[Ql (nfrz c o v r)];exact r
   rcases hc with rfl|hc
   ·exact hbe
   ·rintro rfl;rcases he with z|z
    ·exact nown c b hc z
    ·rw[hc]at z;cases z;exact hb rfl
end
structure Un(fs ex:List Addr)(H H':Hp)(h h':Heap):Prop where
 keep:∀b o,h.get? b=some o->H b=none->b∉fs->b∉ex->h'.get? b=some o
 slot:∀b o,h.get? b=some o->H b=none->b∈fs->b∉ex->∃sl,h'.get? b=some { o with slots:=sl }
 free:∀b o,h.get? b=some o->H b=none->b∉ex->H' b=none
 there:∀b o,h.get? b=some o->b∉ex->∃o',h'.get? b=some o'
 tups:∀b xs,H b=some (.tup xs)->H' b=some (.tup xs)
 frzs:∀b o u,H b=some (.frz o u)->H' b=some (.frz o u)
 tbls:∀b ps,H b=some (.tbl ps)->∃more,H' b=some (.tbl (ps++more))
section
variable {fs:List Addr}{h1:Heap}{x:Addr}
theorem Un.any(u:Un fs ex H H1 h h1){ob:Obj}(q:h.get? b=some ob)(n:H b=none)(hx:b∉ex):∃sl,h1.get? b=some { ob with slots:=sl }:=by
 by_cases hb:b∈fs
 ·exact u.slot b ob q n hb hx
 ·exact⟨ob.slots,u.keep b ob q n hb hx⟩
theorem Un.kept(k:∀b u,h.get? b=some u->h'.get? b=some u):Un fs ex H H h h' :=
 ⟨λb ob q _ _ _=>k b ob q,λb ob q _ _ _=>⟨ob.slots,k b ob q⟩,λ_ _ _ n _=>n,λb ob q _=>⟨ob,k b ob q⟩,λ_ _ q=>q,λ_ _ _ q=>q,λ_ ps q=>⟨#[],by rw[q];simp⟩⟩
theorem Un.refl:Un fs ex H H h h:=Un.kept λ_ _ q=>q
theorem Un.laid(k:∀b u,h.get? b=some u->h'.get? b=some u)(hp:h.objs.size<=a)(hn:H a=none):Un fs ex H (upd H a o) h h' where
 keep:=λb u q _ _ _=>k b u q
 slot:=λb u q _ _ _=>⟨u.slots,k b u q⟩
 free:=λb u q n _=>by rw[Ql (Bv (Bs (Bf q) hp))];exact n
 there:=λb u q _=>⟨u,k b u q⟩
 tups:=λb xs q=>by rw[Ql (Qw q hn)];exact q
 frzs:=λb u xs q=>by rw[Ql (Qw q hn)];exact q
 tbls:=λb ps q=>⟨#[],by rw[Ql (Qw q hn),q];simp⟩
theorem Un.write(mu:Mut (H x))(he:e=x\/H e=some (.own x))(k:∀b u,b≠e->h.get? b=some u->h'.get? b=some u)(heo:∃u,h'.get? e=some u):Un fs ex H (upd H x o) h h':=by
 have hx:∀b,H b=none->b≠x:=λb n z=>by subst z;rw[n]at mu;exact mu
 have hb:∀b,H b=none->b≠e:=λb n z=>by
  subst z;rcases he with r|r
  ·exact hx b n r
  ·rw[n]at r;cases r
 have hm:∀b u,H b=some u->¬Mut (some u)->b≠x:=λb u q nm z=>by subst z;rw[q]at mu;exact nm mu
 refine ⟨λb u q n _ _=>k b u (hb b n) q,λb u q n _ _=>⟨u.slots,k b u (hb b n) q⟩,λb u q n _=>by rw[Ql (hx b n)];exact n,λb u q _=>?_,
  λb xs q=>by rw[Ql (hm b _ q λz=>z)];exact q,λb u xs q=>by rw[Ql (hm b _ q λz=>z)];exact q,λb ps q=>⟨#[],by rw[Ql (hm b _ q λz=>z),q];simp⟩⟩
 by_cases hbe:b=e
 ·subst hbe;exact heo
 ·exact⟨u,k b u hbe q⟩
end
def trk(h:Heap)(H:Hp):List Addr:=(Ai h.objs.size).filter λa=>(H a).isSome
def hidT(h:Heap)(H:Hp):Heap:=PySem.W.hideAll h (trk h H)
theorem Qmx(h:Heap)(H:Hp):(hidT h H).objs.size=h.objs.size:=PySem.W.hideAll_size _ _
theorem Qpy{o:Obj}(e:h.get? b=some o)(n:H b=none):(hidT h H).get? b=some o :=
 PySem.W.hideAll_get _ e λhm=>by
  have q:(H b).isSome=true:=(Df.mp hm).2;rw[n]at q;simp at q
theorem Qto{o:Obj}(e:(hidT h H).get? b=some o):h.get? b=some o/\H b=none:=by
 have e':h.get? b=some o:=PySem.W.of_hideAll (trk h H) e;refine⟨e',?_⟩;cases q:H b with
 |none=>rfl
 | some x=>
  have hm:b∈trk h H:=Df.mpr ⟨Ay.mpr (Bf e'),by simp[q]⟩;have z:(hidT h H).get? b=none:=PySem.W.hideAll_none (trk h H) hm;rw[z]at e;cases e
structure Mod(K:Frag)(mg:Str->Option Value)(base:Heap):Prop where
 kin:K.In base
 glob:base.Ns mainGlobals mg
 blt:∃mb,base.Ns builtinsNs mb/\∀x:Str,x ≠ "__name__" -> mb x=bootBuiltins x
 nolimit:base.NoLimit
structure Cx where
 prog:Program
 w:World
 K:Frag
 mg:Str->Option Value
 base:Heap
 A:Around
 N:List Str
 s₀:Shared
 H₀:Hp
 env:Env
 outer:List Env
 stack:List Env
 ex:List Addr
 fn:Str->Bool
 calm:Bool
 pn:List (Addr×Obj)
 xe:Value->Shared->Prop
end L2
variable {u:Fg}{g':Array PySem.GenState}{t' i j:Nat}{d':PySem.Drawn}{ch:List Dj}{N:List Re}{A:PySem.Around}{E:Fg->Sw->Prop}{v:L2.V}{Q:Unit->Sw->Prop}{s' s:Sw}{X:L2.Cx}{pins:List (Dj×PySem.Obj)}
namespace L2
open PySem PySem.Spec PyProof.Rows
def frs(l:List Env):List Addr:=l.filterMap (·.frame)
abbrev Cx.fs(X:Cx):List Addr:=frs X.outer
def Vis(sc:Scope)(x:Str):Prop:=sc.names.lookup x=some .local\/sc.names.lookup x=some .cell\/sc.names.lookup x=some .free
def Loc(sc:Scope)(x:Str):Prop:=sc.names.lookup x=some .local\/sc.names.lookup x=some .cell
def Look(env:Env)(h:Heap)(m:Str->Option Value)(x:Str)(u:Value):Prop :=
 (env.kindOf x=some .local/\m x=some u)\/((env.kindOf x=some .cell\/env.kindOf x=some .free)/\∃c,env.cells.lookup x=some c/\h.IsCell c (some u))
structure Cx.Ok(X:Cx):Prop where
 mod:Mod X.K X.mg X.base
 kind:X.env.scope.kind=.function
 glob:X.env.globals=mainGlobals
 blt:X.env.builtins=builtinsNs
 above:X.s₀.heap.objs.size<=X.env.locals
 inj:∀x y c,X.env.cells.lookup x=some c->X.env.cells.lookup y=some c->x=y
 has:∀x,(X.env.kindOf x=some .cell\/X.env.kindOf x=some .free)->∃c,X.env.cells.lookup x=some c
 cab:∀x c,X.fn x=true->X.env.cells.lookup x=some c->X.s₀.heap.objs.size<=c
 hd:X.calm=true->X.A.handled=none
 frames:X.A.frames=some X.stack
 stk:X.stack=X.outer\/(X.stack=X.env::X.outer/\X.env.frame=some X.env.locals)
 exf:∀b∈X.ex,b≠X.env.locals/\∀x c,X.env.cells.lookup x=some c->c≠b
 bs:∀b o,X.base.get? b=some o->X.s₀.heap.get? b=some o/\X.H₀ b=none
 bsz:X.base.objs.size<=X.s₀.heap.objs.size
 noex:∀b o,X.base.get? b=some o->b∉X.ex
 exfs:∀b∈X.ex,b∉X.fs
 funs:X.s₀.heap.FunFrames X.base X.outer
 frf:∀b∈X.fs,X.H₀ b=none
structure Inv(X:Cx)(pins:List (Addr×Obj))(σ:List (Option V))(H:Hp)(s:Shared):Prop where
 ok:X.Ok
 os:s.os=X.s₀.os
 bare:AllBare s.gens
 base:Un X.fs X.ex X.H₀ H X.s₀.heap s.heap
 loc:∃m,s.heap.Ns X.env.locals m/\∀(i:Nat)(x:Str)(v:V),X.N[i]? = some x->σ[i]? = some (some v)->Vis X.env.scope x->∃u,RelV v u/\Look X.env s.heap m x u
 cell:∀x c,X.env.cells.lookup x=some c->∃v,s.heap.IsCell c v
 free:H X.env.locals=none
 freeC:∀x c,X.env.cells.lookup x=some c->H c=none
 pin:∀p∈X.pn++pins,s.heap.get? p.1=some p.2/\H p.1=none/\p.1≠X.env.locals/\p.1∉X.fs/\∀v,p.2.data ≠ .cell v
 hok:HOk X.prog X.w H s.heap
 len:σ.length=X.N.length
section
variable {σ:List (Option V)}
theorem Cx.Ok.nofr(ok:X.Ok){o:Obj}(e:X.base.get? b=some o):b∉X.fs:=λhb=>by
 have:=(ok.funs.mem hb).1;rw[e]at this;cases this
theorem Inv.bs(I:Inv X pins σ H s):∀b o,X.base.get? b=some o->s.heap.get? b=some o/\H b=none:=λb o e=>
 ⟨I.base.keep b o (I.ok.bs b o e).1 (I.ok.bs b o e).2 (I.ok.nofr e) (I.ok.noex b o e),I.base.free b o (I.ok.bs b o e).1 (I.ok.bs b o e).2 (I.ok.noex b o e)⟩
theorem Inv.bk(I:Inv X pins σ H s):∀b o,X.base.get? b=some o->s.heap.get? b=some o:=λb o e=>(I.bs b o e).1
theorem Inv.mod(I:Inv X pins σ H s):Mod X.K X.mg X.base:=I.ok.mod
theorem Inv.kIn(I:Inv X pins σ H s):X.K.In s.heap:=I.ok.mod.kin.keeps I.bk
theorem Inv.lt(I:Inv X pins σ H s):X.env.locals<s.heap.objs.size:=let ⟨_,hn,_⟩:=I.loc;hn.lt
theorem Inv.sz(I:Inv X pins σ H s):X.s₀.heap.objs.size<=s.heap.objs.size:=Dy I.ok.above (Nj I.lt)
theorem Inv.nofs(I:Inv X pins σ H s)(h:s.heap.objs.size<=a):a∉X.fs:=λhb=>by
 obtain⟨_,o,ho,_⟩:=I.ok.funs.mem hb;exact absurd (Bs (Bf ho) (Dy I.sz h)) (Np _)
theorem Inv.cne(I:Inv X pins σ H s):∀x c,X.env.cells.lookup x=some c->c≠X.env.locals:=λx c e z=>by
 obtain⟨v,o,ho,hd⟩:=I.cell x c e;obtain⟨m,⟨o',es,ep,ho',hd',_⟩,_⟩:=I.loc;rw[z,ho']at ho;cases ho;rw[hd']at hd;cases hd
theorem Inv.funs(I:Inv X pins σ H s):s.heap.FunFrames X.base X.outer:=by
 have all:∀(l:List Env),(∀b∈frs l,b∈X.fs)->X.s₀.heap.FunFrames X.base l->s.heap.FunFrames X.base l:=by
  intro l
  induction l with
  |nil=>intro _ _;trivial
  | cons env r ih=>
   intro hs hl;obtain⟨hk,⟨L,o,hf,hn,ho,hd⟩,hr⟩:=hl;have hL:L∈X.fs:=hs L (by unfold frs;rw[T9,hf];exact Ak);obtain⟨sl,e⟩:=I.base.slot L o ho (I.ok.frf L hL) hL λz=>I.ok.exfs L z hL;exact⟨hk,⟨L,_,hf,hn,e,hd⟩,ih (λb hb=>hs b (by unfold frs;rw[T9,hf];exact Al _ hb)) hr⟩
 exact all X.outer (λ_ hb=>hb) I.ok.funs
theorem Inv.stack(I:Inv X pins σ H s):s.heap.FunFrames X.base X.stack:=by
 rcases I.ok.stk with e|⟨e,hf⟩
 ·rw[e];exact I.funs
 ·rw[e];obtain⟨m,hn,_⟩:=I.loc;refine .cons (by rw[I.ok.kind];decide) hf hn ?_ I.funs;exact Ll (Dy I.ok.bsz I.ok.above)
theorem Inv.stkSub(I:Inv X pins σ H s):∀b∈frs X.stack,b∈X.env.locals::X.fs:=λb hb=>by
 rcases I.ok.stk with e|⟨e,hf⟩
 ·rw[e]at hb;exact Al _ hb
 ·rw[e]at hb;unfold frs at hb;rw[T9,hf]at hb;exact hb
theorem Inv.stkFree(I:Inv X pins σ H s):∀b∈frs X.stack,H b=none:=λb hb=>by
 rcases Ar.mp (I.stkSub b hb)with e|hb
 ·rw[e];exact I.free
 ·obtain⟨_,o,ho,_⟩:=I.ok.funs.mem hb;exact I.base.free b o ho (I.ok.frf b hb) λz=>I.ok.exfs b z hb
theorem Inv.step(I:Inv X pins σ H s)
  (hch:∀b∈ch,(b∈X.ex\/X.s₀.heap.objs.size<=b)/\b≠X.env.locals/\(∀x c,X.env.cells.lookup x=some c->c≠b)/\∀p∈X.pn++pins,p.1≠b)
  (keep:∀b o,b≠X.env.locals->b∉X.fs->b∉ch->s.heap.get? b=some o->H b=none->h'.get? b=some o)
  (slot:∀b o,b≠X.env.locals->b∈X.fs->b∉ch->s.heap.get? b=some o->H b=none->∃sl,h'.get? b=some { o with slots:=sl }) (free:∀b o,b∉ch->s.heap.get? b=some o->H b=none->H' b=none)
  (there:∀b o,b∉ch->s.heap.get? b=some o->∃o',h'.get? b=some o')
  (tups:∀b xs,H b=some (.tup xs)->H' b=some (.tup xs)) (frzs:∀b o u,H b=some (.frz o u)->H' b=some (.frz o u)) (tbls:∀b ps,H b=some (.tbl ps)->∃more,H' b=some (.tbl (ps++more)))
  (ns:∀m,s.heap.Ns X.env.locals m->h'.Ns X.env.locals m) (hok:HOk X.prog X.w H' h') (hg:AllBare g') :
  Inv X pins σ H' { s with heap:=h',gens:=g',drawn:=d',toks:=t' }:=by
 have neL:∀b o,X.s₀.heap.get? b=some o->b≠X.env.locals:=λb o e=>Bv (Bs (Bf e) I.ok.above);have neC:∀b o,X.s₀.heap.get? b=some o->b∉X.ex->b∉ch:=λb o e hx hb=>by
  rcases(hch b hb).1 with z|z
  ·exact hx z
  ·exact absurd (Bs (Bf e) z) (Np _)
 have cellK:∀x c,X.env.cells.lookup x=some c->∀v,s.heap.IsCell c v->h'.IsCell c v:=λx c e v ⟨o,ho,hd⟩=>by
  have nch:c∉ch:=λz=>(hch c z).2.2.1 x c e rfl;by_cases hc:c∈X.fs
  ·obtain⟨sl,q⟩:=slot c o (I.cne x c e) hc nch ho (I.freeC x c e);exact⟨_,q,hd⟩
  ·exact⟨o,keep c o (I.cne x c e) hc nch ho (I.freeC x c e),hd⟩
 refine⟨I.ok,I.os,hg,⟨λb o e n hb hx=>?_,λb o e n hb hx=>?_,λb o e n hx=>?_,λb o e hx=>?_,λb xs e=>tups b xs (I.base.tups b xs e),λb o xs e=>frzs b o xs (I.base.frzs b o xs e),λb ps e=>?_⟩,?_,λx c e=>?_,?_,λx c e=>?_,λp hp=>?_,hok,I.len⟩
 ·exact keep b o (neL b o e) hb (neC b o e hx) (I.base.keep b o e n hb hx) (I.base.free b o e n hx)
 ·obtain⟨sl,e1⟩:=I.base.slot b o e n hb hx;obtain⟨sl',e2⟩:=slot b _ (neL b o e) hb (neC b o e hx) e1 (I.base.free b o e n hx);exact⟨sl',e2⟩
 ·obtain⟨o',e1⟩:=I.base.there b o e hx;exact free b o' (neC b o e hx) e1 (I.base.free b o e n hx)
 ·obtain⟨o',e1⟩:=I.base.there b o e hx;exact there b o' (neC b o e hx) e1
 ·obtain⟨m1,e1⟩:=I.base.tbls b ps e;obtain⟨m2,e2⟩:=tbls b _ e1;exact⟨m1++m2,by rw[e2,Il]⟩
 ·obtain⟨m,hn,hl⟩:=I.loc;refine⟨m,ns m hn,λi x v e1 e2 e3=>?_⟩;obtain⟨u,r,l⟩:=hl i x v e1 e2 e3;refine⟨u,r,?_⟩;rcases l with l|⟨k,c,e,z⟩
  ·exact .inl l
  ·exact .inr ⟨k,c,e,cellK x c e _ z⟩
 ·obtain⟨v,z⟩:=I.cell x c e;exact⟨v,cellK x c e v z⟩
 ·obtain⟨m,⟨o,_,_,ho,_⟩,_⟩:=I.loc;exact free _ o (λz=>(hch _ z).2.1 rfl) ho I.free
 ·obtain⟨v,o,ho,hd⟩:=I.cell x c e;exact free c o (λz=>(hch c z).2.2.1 x c e rfl) ho (I.freeC x c e)
 ·obtain⟨e,n,ne,nf,d⟩:=I.pin p hp;have nch:p.1∉ch:=λz=>(hch p.1 z).2.2.2 p hp rfl;exact⟨keep p.1 p.2 ne nf nch e n,free p.1 p.2 nch e n,ne,nf,d⟩
theorem Inv.un(I:Inv X pins σ H s)(u:Un X.fs [] H H' s.heap h')(hok:HOk X.prog X.w H' h'):Inv X pins σ H' { s with heap:=h',toks:=t' }:=by
 obtain ⟨m,⟨o,es,ep,ho,r⟩,_⟩:=id I.loc;obtain⟨sl,hL⟩:=u.any ho I.free (by simp);exact I.step (g':=s.gens) (d':=s.drawn) (ch:=[]) (λ_ z=>nomatch z) (λb o _ hb _ e n=>u.keep b o e n hb (by simp)) (λb o _ hb _ e n=>u.slot b o e n hb (by simp)) (λb o _ e n=>u.free b o e n (by simp)) (λb o _ e=>u.there b o e (by simp)) u.tups u.frzs u.tbls (λm' hm=>by
  obtain⟨o',es',ep',ho',r'⟩:=hm;rw[ho]at ho';cases ho';exact⟨_,es',ep',hL,r'⟩) hok I.bare
theorem Inv.call(I:Inv X pins σ H s)(u:Un (frs X.stack) ch H H' s.heap h')(hok:HOk X.prog X.w H' h')(hg:AllBare g')
  (hch:∀b∈ch,(b∈X.ex\/X.s₀.heap.objs.size<=b)/\b≠X.env.locals/\(∀x c,X.env.cells.lookup x=some c->c≠b)/\∀p∈X.pn++pins,p.1≠b) :
  Inv X pins σ H' { s with heap:=h',gens:=g',drawn:=d',toks:=t' }:=by
 obtain ⟨m,⟨o,es,ep,ho,r⟩,_⟩:=id I.loc;obtain⟨sl,hL⟩:=u.any ho I.free λz=>(hch _ z).2.1 rfl;exact I.step (ch:=ch) hch (λb o hL hb hc e n=>u.keep b o e n (λz=>(Ar.mp (I.stkSub b z)).elim hL hb) hc) (λb o _ _ hc e n=>u.any e n hc) (λb o hc e n=>u.free b o e n hc) (λb o hc e=>u.there b o e hc) u.tups u.frzs u.tbls (λm' hm=>by
  obtain⟨o',es',ep',ho',r'⟩:=hm;rw[ho]at ho';cases ho';exact⟨_,es',ep',hL,r'⟩) hok hg
theorem Inv.turned{it:Addr}(I:Inv X pins σ H s)(k:∀b o,b≠it->s.heap.get? b=some o->h'.get? b=some o)(hn:H it=none)(hL:it≠X.env.locals)
  (h1:it∈X.ex\/X.s₀.heap.objs.size<=it) (h2:∀x c,X.env.cells.lookup x=some c->c≠it) (h3:∀p∈X.pn++pins,p.1≠it):Inv X pins σ H { s with heap:=h',toks:=t' }:=by
 have nit:∀b u,H b=some u->b≠it:=λb u e z=>by rw[z,hn]at e;cases e
 refine I.step (g':=s.gens) (d':=s.drawn) (ch:=[it]) (λb hb=>?_) (λb o _ _ hc e _=>k b o (λz=>hc (by simp[z])) e) (λb o _ _ hc e _=>⟨o.slots,k b o (λz=>hc (by simp[z])) e⟩) (λ_ _ _ _ n=>n)
  (λb o hc e=>⟨o,k b o (λz=>hc (by simp[z])) e⟩) (λ_ _ e=>e) (λ_ _ _ e=>e) (λb ps e=>⟨#[],by rw[e];simp⟩) (λm hm=>?_) (λb u e=>?_) I.bare
 ·have e:b=it:=by simpa using hb
  subst e;exact⟨h1,hL,h2,h3⟩
 ·obtain⟨o,es,ep,ho,r⟩:=hm;exact⟨o,es,ep,k _ o (Mk hL) ho,r⟩
 ·refine(I.hok b u e).stay (λc v hc q=>k c v ?_ q) (λ_ q=>q) λ_ _ q=>q;rcases hc with z|z
  ·rw[z];exact nit b u e
  ·exact nit c _ z
theorem Inv.tok(I:Inv X pins σ H s)(t:Nat):Inv X pins σ H { s with toks:=t }:=I.un (h':=s.heap) (t':=t) Un.refl I.hok
theorem Inv.kept(I:Inv X pins σ H s)(k:∀b u,s.heap.get? b=some u->h'.get? b=some u):Inv X pins σ H { s with heap:=h',toks:=t' }:=I.un (Un.kept k) (I.hok.kept k)
theorem Inv.laid(I:Inv X pins σ H s)(k:∀b u,s.heap.get? b=some u->h'.get? b=some u)(hp:s.heap.objs.size<=a)(new:Yj X.prog X.w (upd H a o) h' a o) :
  Inv X pins σ (upd H a o) { s with heap:=h',toks:=t' }:=I.un (Un.laid k hp (I.hok.fresh hp)) (I.hok.laid k hp new)
theorem Inv.write{x:Addr}(I:Inv X pins σ H s)(mu:Mut (H x))(he:e=x\/H e=some (.own x))(k:∀b u,b≠e->s.heap.get? b=some u->h'.get? b=some u)(heo:∃u,h'.get? e=some u)
  (new:Yj X.prog X.w (upd H x o) h' x o):Inv X pins σ (upd H x o) { s with heap:=h',toks:=t' }:=I.un (Un.write mu he k heo) (I.hok.write mu he k heo new)
theorem Inv.pins_of{pins':List (Addr×Obj)}(I:Inv X pins σ H s)(h:∀p∈pins',s.heap.get? p.1=some p.2/\H p.1=none/\p.1≠X.env.locals/\p.1∉X.fs/\∀v,p.2.data ≠ .cell v):Inv X pins' σ H s :=
 ⟨I.ok,I.os,I.bare,I.base,I.loc,I.cell,I.free,I.freeC,λp hp=>(Aj.mp hp).elim (λz=>I.pin p (Tl _ z)) (h p),I.hok,I.len⟩
theorem Qhx(hN:N.Nodup)(a:N[i]? = some x)(b:N[j]? = some x):i=j:=by
 obtain⟨h1,e1⟩:=Be.mp a;obtain⟨h2,e2⟩:=Be.mp b;exact(Kj hN).mp (e1.trans e2.symm)
theorem Qef{M:Model}(I:Inv X pins σ H s)(hN:X.N.Nodup)(hi:X.N[i]? = some x)(hx:Loc X.env.scope x)(r:RelV v u)
  (h:∀s',Inv X pins (σ.set i (some v)) H s'->(∃a,Sa a s.heap s'.heap/\(a=X.env.locals\/X.env.cells.lookup x=some a))->Q () s') (hf:X.fn x=true\/X.env.scope.names.lookup x=some .local:=by first|exact .inl rfl|exact .inr rfl|assumption):wpAny M A (storeName X.env x u) Q E s:=by
 obtain⟨m,hn,hl⟩:=id I.loc;have hcls:(X.env.scope.kind == .class||(X.env.scope.kind == .module&&X.env.locals != X.env.globals))=false:=by rw[I.ok.kind];rfl
 have hiσ:i<σ.length:=by rw[I.len];exact(Be.mp hi).1
 have cne:=I.cne;have tracked:∀{a:Addr}{h':Heap},(∃o,s.heap.get? a=some o/\H a=none)->Sa a s.heap h'->HOk X.prog X.w H h':=λ{a h'} ha hs b ob e=>by
  obtain⟨_,_,hfree⟩:=ha;refine(I.hok b ob e).stay (λc w' hc q=>(hs.2 c ?_).trans q) (λ_ q=>q) λ_ _ q=>q;rintro rfl;rcases hc with rfl|hc
  ·rw[hfree]at e;cases e
  ·rw[hfree]at hc;cases hc
 rcases hx with hk|hk
 ·refine wpAny_storeName_local hk hn (λh' hn' hs=>?_) hcls;obtain⟨oL,_,_,hoL,_⟩:=id hn;refine h _ ⟨I.ok,I.os,I.bare,⟨λb o e n hb hx=>?_,λb o e n hb hx=>?_,I.base.free,λb o e hx=>?_,I.base.tups,I.base.frzs,I.base.tbls⟩,⟨_,hn',λj y v' e1 e2 e3=>?_⟩,λy c e=>?_,I.free,I.freeC,λp hp=>?_,tracked ⟨oL,hoL,I.free⟩ hs,by simpa using I.len⟩ ⟨_,hs,.inl rfl⟩
  ·exact(hs.2 b (Bv (Bs (Bf e) I.ok.above))).trans (I.base.keep b o e n hb hx)
  ·obtain⟨sl,e1⟩:=I.base.slot b o e n hb hx;exact⟨sl,(hs.2 b (Bv (Bs (Bf e) I.ok.above))).trans e1⟩
  ·obtain⟨o',e1⟩:=I.base.there b o e hx;exact⟨o',(hs.2 b (Bv (Bs (Bf e) I.ok.above))).trans e1⟩
  ·by_cases hj:j=i
   ·subst hj;rw[hi]at e1;cases e1;rw[Nk hiσ]at e2;cases e2;exact⟨u,r,.inl ⟨hk,by simp⟩⟩
   ·rw[Mp (Mk hj)]at e2;obtain⟨u',r',q⟩:=hl j y v' e1 e2 e3;refine⟨u',r',?_⟩;rcases q with⟨k,e⟩|⟨k,c,e,z⟩
    ·refine .inl ⟨k,?_⟩;have:y≠x:=λe=>hj (Qhx hN e1 (e ▸ hi));simp[this,e]
    ·exact .inr ⟨k,c,e,z.sameBut hs (cne y c e)⟩
  ·obtain⟨w',z⟩:=I.cell y c e;exact⟨w',z.sameBut hs (cne y c e)⟩
  ·obtain⟨e,n,ne,nf,d⟩:=I.pin p hp;exact⟨(hs.2 p.1 ne).trans e,n,ne,nf,d⟩
 ·have hfn:X.fn x=true:=by
   rcases hf with z|z
   ·exact z
   ·rw[z]at hk;cases hk
  obtain⟨c,hc⟩:=I.ok.has x (.inl hk);obtain⟨w',z⟩:=I.cell x c hc;refine wpAny_storeName_cell I.ok.kind hk hc z (λh' hc' hs=>?_);obtain⟨oc,hoc,hocd⟩:=id z;refine h { s with heap:=h' } ⟨I.ok,I.os,I.bare,⟨λb o e n hb hx=>?_,λb o e n hb hx=>?_,I.base.free,λb o e hx=>?_,I.base.tups,I.base.frzs,I.base.tbls⟩,⟨m,hn.sameBut hs (Mk (cne x c hc)),λj y v' e1 e2 e3=>?_⟩,λy c' e=>?_,I.free,I.freeC,λp hp=>?_,tracked ⟨oc,hoc,I.freeC x c hc⟩ hs,by simpa using I.len⟩ ⟨c,hs,.inr hc⟩
  ·exact(hs.2 b (Bv (Bs (Bf e) (I.ok.cab x c hfn hc)))).trans (I.base.keep b o e n hb hx)
  ·obtain⟨sl,e1⟩:=I.base.slot b o e n hb hx;exact⟨sl,(hs.2 b (Bv (Bs (Bf e) (I.ok.cab x c hfn hc)))).trans e1⟩
  ·obtain⟨o',e1⟩:=I.base.there b o e hx;exact⟨o',(hs.2 b (Bv (Bs (Bf e) (I.ok.cab x c hfn hc)))).trans e1⟩
  ·by_cases hj:j=i
   ·subst hj;rw[hi]at e1;cases e1;rw[Nk hiσ]at e2;cases e2;exact⟨u,r,.inr ⟨.inl hk,c,hc,hc'⟩⟩
   ·rw[Mp (Mk hj)]at e2;obtain⟨u',r',q⟩:=hl j y v' e1 e2 e3;refine⟨u',r',?_⟩;rcases q with q|⟨k,c',e,z'⟩
    ·exact .inl q
    ·refine .inr ⟨k,c',e,z'.sameBut hs ?_⟩;rintro rfl;exact hj (Qhx hN e1 (I.ok.inj _ _ _ e hc ▸ hi))
  ·by_cases hcc:c'=c
   ·subst hcc;exact⟨_,hc'⟩
   ·obtain⟨w2,z2⟩:=I.cell y c' e;exact⟨w2,z2.sameBut hs hcc⟩
  ·obtain⟨e,n,ne,nf,d⟩:=I.pin p hp;refine⟨(hs.2 p.1 ?_).trans e,n,ne,nf,d⟩;intro q;rw[q,hoc]at e;have q':oc=p.2:=Bq e;exact d w' (by rw[← q'];exact hocd)
theorem Qhe{M:Model}(I:Inv X pins σ H s)(hN:X.N.Nodup)(hi:X.N[i]? = some x)(hx:Loc X.env.scope x)(r:RelV v u)
  (h:∀s',Inv X pins (σ.set i (some v)) H s'->Q () s') (hf:X.fn x=true\/X.env.scope.names.lookup x=some .local:=by first|exact .inl rfl|exact .inr rfl|assumption):wpAny M A (storeName X.env x u) Q E s :=
 Qef I hN hi hx r (λs' I' _=>h s' I') hf
theorem Inv.call'(I:Inv X pins σ H s)(ho:s'.os=s.os)(u:Un (frs X.stack) ch H H' s.heap s'.heap)(hok:HOk X.prog X.w H' s'.heap)(hg:AllBare s'.gens)
  (hch:∀b∈ch,(b∈X.ex\/X.s₀.heap.objs.size<=b)/\b≠X.env.locals/\(∀x c,X.env.cells.lookup x=some c->c≠b)/\∀p∈X.pn++pins,p.1≠b):Inv X pins σ H' s':=by
 obtain⟨h',g',d',t',o'⟩:=s';have e:o'=s.os:=ho;subst e;exact I.call (g':=g') (t':=t') (d':=d') u hok hg hch
end
abbrev XK:=Value->Option Addr->Hp->Prop
abbrev St:=List (Option V)
abbrev VK:=V->Hp->Prop
abbrev TE:=St->Hp->VK->Prop
abbrev TT:=St->Hp->(Bool->Hp->Prop)->Prop
abbrev TA:=St->Hp->(List V->Hp->Prop)->Prop
structure Ends where
 nx:St->Hp->Prop
 rt:VK
 bk:St->Hp->Prop:=λ_ _=>False
 ct:St->Hp->Prop:=λ_ _=>False
abbrev TS:=Ends->St->Hp->Prop
end L2
variable {xs ys:List L2.V}{e c:Nb}{Q:Fg->Sw->Prop}{pos:Sx}{σ:L2.St}{y:L2.V}{f:Fg->Fg->PySem.Sem Fg}{st:Ow}{tc:L2.TT}{te tb ta:L2.TE}{rest:List Nb}
namespace L2
open PySem PySem.Spec PyProof.Rows
def EP(X:Cx)(pins:List (Addr×Obj))(σ:St)(Q:VK)(u:Value)(s':Shared):Prop:=∃v H',Inv X pins σ H' s'/\RelV v u/\Q v H'
def TP(X:Cx)(pins:List (Addr×Obj))(σ:St)(Q:Bool->Hp->Prop)(b:Bool)(s':Shared):Prop:=∃H',Inv X pins σ H' s'/\Q b H'
def AP(X:Cx)(pins:List (Addr×Obj))(σ:St)(Q:List V->Hp->Prop)(us:List Value)(s':Shared):Prop:=∃vs H',Inv X pins σ H' s'/\Vals vs us/\Q vs H'
def SP(X:Cx)(pins:List (Addr×Obj))(D:Ends)(f:Flow)(s':Shared):Prop :=
 match f with
 | .next=>∃σ' H',Inv X pins σ' H' s'/\D.nx σ' H'
 | .brk=>∃σ' H',Inv X pins σ' H' s'/\D.bk σ' H'
 | .cont=>∃σ' H',Inv X pins σ' H' s'/\D.ct σ' H'
 | .ret u=>∃v σ' H',Inv X pins σ' H' s'/\RelV v u/\D.rt v H'
def PE(X:Cx)(e:Expr)(t:TE):Prop :=
 ∀(pins:List (Addr×Obj)) (s:Shared) (σ:St) (H:Hp) (Q:VK),Inv X pins σ H s->t σ H Q->wpAny (model X.prog X.w) X.A (eval e X.env) (EP X pins σ Q) X.xe s
def PT(X:Cx)(e:Expr)(t:TT):Prop :=
 ∀(pins:List (Addr×Obj)) (s:Shared) (σ:St) (H:Hp) (Q:Bool->Hp->Prop),Inv X pins σ H s->t σ H Q->wpAny (model X.prog X.w) X.A (isTrue e X.env (eval e X.env)) (TP X pins σ Q) X.xe s
def PW(X:Cx)(e:Expr)(t:TT):Prop :=
 ∀(whole:Sem Value)(pins:List (Addr×Obj)) (s:Shared) (σ:St) (H:Hp) (Q:Bool->Hp->Prop),Inv X pins σ H s->t σ H Q->wpAny (model X.prog X.w) X.A (isTrue e X.env whole) (TP X pins σ Q) X.xe s
theorem PW.pt{t:TT}(h:PW X e t):PT X e t:=h _
def PA(X:Cx)(es:List Expr)(t:TA):Prop :=
 ∀(pos:Pos)(pins:List (Addr×Obj)) (s:Shared) (σ:St) (H:Hp) (Q:List V->Hp->Prop),Inv X pins σ H s->t σ H Q->wpAny (model X.prog X.w) X.A (spliced (backTo pos (starEach es X.env))) (AP X pins σ Q) X.xe s
def PS(X:Cx)(st:Stmt)(t:TS):Prop :=
 ∀(pins:List (Addr×Obj)) (s:Shared) (σ:St) (H:Hp) (D:Ends),Inv X pins σ H s->t D σ H->wpAny (model X.prog X.w) X.A (exec st X.env) (SP X pins D) X.xe s
def PSs(X:Cx)(st:List Stmt)(t:TS):Prop :=
 ∀(pins:List (Addr×Obj)) (s:Shared) (σ:St) (H:Hp) (D:Ends),Inv X pins σ H s->t D σ H->wpAny (model X.prog X.w) X.A (execs st X.env) (SP X pins D) X.xe s
theorem thn{α:Type}{t:Sem α}{Q Q':α->Shared->Prop}{M:Model}(h:wpAny M A t Q E s)(hQ:∀a s,Q a s->Q' a s):wpAny M A t Q' E s:=Fw h hQ λ_ _ x=>x
def tVar(i:Nat):TE:=λσ H Q=>∃v,σ[i]? = some (some v)/\Q v H
def tC(v:V):TE:=λ_ H Q=>Q v H
theorem Yc(hN:X.N[i]? = some x)(hv:Vis X.env.scope x)(hd:(x==("__debug__":Str))=false:=by decide)(hcd:(x==("__classdict__":Str))=false:=by decide):PE X (.Name x pos) (tVar i):=by
 intro pins s σ H Q I h;obtain⟨v,e,h⟩:=h;obtain⟨m,hn,hl⟩:=I.loc;obtain⟨u,r,l⟩:=hl i x v hN e hv;have fin:EP X pins σ Q u s:=⟨v,H,I,r,h⟩
 rcases l with⟨hk,hm⟩|⟨hk,c,hc,hcell⟩
 ·exact wpAny_Name (wpAny_loadName_local I.ok.kind hk hn hm fin) hd
 ·rcases hk with hk|hk
  ·exact wpAny_Name (wpAny_loadName_cell I.ok.kind hk hc hcell fin) hd
  ·exact wpAny_Name (wpAny_loadName_free I.ok.kind hk hc hcell fin hcd) hd
theorem Qlq{i j pos}:PE X (.Constant (.int i) j pos) (tC (.int i)):=λ_ _ _ H _ I h=>wpAny_Constant_int ⟨.int i,H,I.tok _,⟨_,rfl⟩,h⟩
theorem Qvx{b j pos}:PE X (.Constant (.bool b) j pos) (tC (.bl b)):=λ_ _ _ H _ I h=>Constant_bool ⟨.bl b,H,I,rfl,h⟩
theorem Qvu{j pos}:PE X (.Constant .none j pos) (tC .non):=λ_ _ _ H _ I h=>Constant_none ⟨.non,H,I,rfl,h⟩
def Gl(X:Cx)(x:Str):Prop:=X.env.kindOf x=some .globalImplicit
theorem Qdi(I:Inv X pins σ H s)(hg:Gl X x)(hm:X.mg x=some u)(h:Q u s)
  (hd:(x==("__debug__":Str))=false:=by decide):wpAny (model X.prog X.w) X.A (eval (.Name x pos) X.env) Q E s :=
 Ir I.ok.kind hg (Calls.loadGlobal_global (by rw[I.ok.glob];exact I.mod.glob.keeps I.bk) hm h) hd
theorem Qba(I:Inv X pins σ H s)(hg:Gl X x)(hm:X.mg x=none)(hv:bootBuiltins x=some u)(h:Q u s)
  (hn:x ≠ "__name__":=by decide) (hd:(x==("__debug__":Str))=false:=by decide):wpAny (model X.prog X.w) X.A (eval (.Name x pos) X.env) Q E s:=by
 obtain⟨mb,h1,h2⟩:=I.mod.blt;exact Ir I.ok.kind hg (Calls.loadGlobal_builtin (by rw[I.ok.glob];exact I.mod.glob.keeps I.bk) hm (by rw[I.ok.blt];exact h1.keeps I.bk) ((h2 x hn).trans hv) h) hd
theorem Qtd(hg:Gl X x)(hm:X.mg x=some u)(r:RelV v u)(hd:(x==("__debug__":Str))=false:=by decide):PE X (.Name x pos) (tC v) :=
 λ_ _ _ H _ I h=>Qdi I hg hm ⟨v,H,I,r,h⟩ hd
section
variable {a b:Expr}{tA tB':TT}
def tAnd(t u:TT):TT:=λσ H Q=>t σ H λc H1=>if c=true then u σ H1 Q else Q false H1
def tOr(t u:TT):TT:=λσ H Q=>t σ H λc H1=>if c=true then Q true H1 else u σ H1 Q
theorem Qsx(ha:PT X a tA):PW X (.BoolOp .And [a] pos) tA:=by
 intro wh pins s σ H Q I h;refine isTrue_and (thn (ha pins s σ H Q I h) λc s1 e=>?_);cases c with
 |true=>exact isTrue_and_nil e
 |false=>exact e
theorem Qvl(ha:PT X a tA):PW X (.BoolOp .Or [a] pos) tA:=by
 intro wh pins s σ H Q I h;refine isTrue_or (thn (ha pins s σ H Q I h) λc s1 e=>?_);cases c with
 |false=>exact isTrue_or_nil e
 |true=>exact e
theorem Qvm(ha:PT X a tA)(hb:PW X (.BoolOp .And (b::rest) pos) tB'):PW X (.BoolOp .And (a::b::rest) pos) (tAnd tA tB'):=by
 intro wh pins s σ H Q I h;refine isTrue_and (thn (ha pins s σ H _ I h) λc s1 ⟨H1,I1,q1⟩=>?_);cases c with
 |true=>exact hb wh pins s1 σ H1 Q I1 q1
 |false=>exact⟨H1,I1,q1⟩
theorem Qyp(ha:PT X a tA)(hb:PW X (.BoolOp .Or (b::rest) pos) tB'):PW X (.BoolOp .Or (a::b::rest) pos) (tOr tA tB'):=by
 intro wh pins s σ H Q I h;refine isTrue_or (thn (ha pins s σ H _ I h) λc s1 ⟨H1,I1,q1⟩=>?_);cases c with
 |true=>exact⟨H1,I1,q1⟩
 |false=>exact hb wh pins s1 σ H1 Q I1 q1
def tIf(t:TT)(ta tb:TE):TE:=λσ H Q=>t σ H λc H1=>if c=true then ta σ H1 Q else tb σ H1 Q
theorem Qo7(hc:PT X c tA)(ha:PE X a ta)(hb:PE X b tb):PE X (.IfExp c a b pos) (tIf tA ta tb):=by
 intro pins s σ H Q I h;refine wpAny_IfExp (thn (hc pins s σ H _ I h) λd s1 ⟨H1,I1,q1⟩=>?_);cases d with
 |true=>exact ha pins s1 σ H1 Q I1 q1
 |false=>exact hb pins s1 σ H1 Q I1 q1
end
def SqL(K:Frag)(H:Hp)(a:Addr)(xs:List V):Prop :=
 Rd H a (.lst xs) \/
  ∃(o:Obj)(its:Array Value)(n:Nat),K.lookup a=some o/\o.cls=.type "list" /\ o.dict=none/\o.data=.seq its n/\its.size<=sizeLine/\Vals xs its.toList
def SqT(K:Frag)(H:Hp)(a:Addr)(xs:List V):Prop :=
 Rd H a (.tup xs) \/
  ∃(o:Obj)(its:Array Value)(n:Nat),K.lookup a=some o/\o.cls=.type "tuple" /\ o.data=.seq its n/\its.size<=sizeLine/\Vals xs its.toList
noncomputable def absV:Value->Option V
 | .none=>some .non
 | .bool b=>some (.bl b)
 | .int i _=>some (.int i)
 | .str x _=>some (.str x)
 | .bytes b _=>some (.byt b)
 | .float b _=>some (.flt b)
 | .ref a=>some (.ref a)
 | .type n=>some (.ty n)
 |_=>none
theorem RelV.abs{x:V}(r:RelV x u):absV u=some x:=by
 cases x with
 |non=>cases r;rfl
 |bl _=>cases r;rfl
 |int _=>obtain⟨t,rfl⟩:=r;rfl
 |str _=>obtain⟨t,rfl⟩:=r;rfl
 |byt _=>obtain⟨t,rfl⟩:=r;rfl
 |flt _=>obtain⟨t,rfl⟩:=r;rfl
 |ref _=>cases r;rfl
 |ty _=>cases r;rfl
theorem RelV.inj{x:V}(r:RelV x u)(q:RelV y u):x=y:=Bq (r.abs.symm.trans q.abs)
theorem Vals.inj:∀{xs ys:List V}{us:List Value},Vals xs us->Vals ys us->xs=ys
 |_,_,_,.nil,.nil=>rfl
 |_,_,_,.cons r t,.cons r' t'=>by rw[r.inj r',Vals.inj t t']
theorem SqL.of{K:Frag}(h:H a=some (.lst xs)):SqL K H a xs:=.inl (.inl h)
theorem SqT.of{K:Frag}(h:H a=some (.tup xs)):SqT K H a xs:=.inl (.inl h)
theorem Inv.list(I:Inv X pins σ H s)(h:SqL X.K H a xs):∃its:List Value,Vals xs its/\PlainL s.heap a its.toArray/\xs.length<=sizeLine:=by
 rcases h with h|⟨o,its,n,hk,hc,hd,hs,hz,r⟩
 ·obtain⟨z,its,n,r,e⟩:=h.ok I.hok;exact⟨its,r,⟨_,n,e,rfl,rfl,rfl⟩,z⟩
 ·refine⟨its.toList,r,⟨o,n,I.kIn a o hk,hc,hd,by simpa using hs⟩,?_⟩;have e:=r.length;simp only[De]at e;lia
theorem Inv.tuple(I:Inv X pins σ H s)(h:SqT X.K H a xs):∃its:List Value,Vals xs its/\IsTup s.heap a its.toArray/\xs.length<=sizeLine:=by
 rcases h with h|⟨o,its,n,hk,hc,hs,hz,r⟩
 ·obtain⟨z,its,r,p⟩:=h.ok I.hok;exact⟨its,r,p,z⟩
 ·refine⟨its.toList,r,⟨o,I.kIn a o hk,hc,n,by simpa using hs⟩,?_⟩;have e:=r.length;simp only[De]at e;lia
theorem Inv.list_inj(I:Inv X pins σ H s)(h:SqL X.K H a xs)(h':SqL X.K H a ys):xs=ys:=by
 obtain⟨its,r,⟨o,n,e,_,_,d⟩,_⟩:=I.list h;obtain⟨its',r',⟨o',n',e',_,_,d'⟩,_⟩:=I.list h';rw[e]at e';cases e';rw[d]at d';injection d' with d1 _;have:its=its':=by simpa using congrArg Array.toList d1
 subst this;exact r.inj r'
theorem Inv.tuple_inj(I:Inv X pins σ H s)(h:SqT X.K H a xs)(h':SqT X.K H a ys):xs=ys:=by
 obtain⟨its,r,⟨o,e,_,n,d⟩,_⟩:=I.tuple h;obtain⟨its',r',⟨o',e',_,n',d'⟩,_⟩:=I.tuple h';rw[e]at e';cases e';rw[d]at d';injection d' with d1 _;have:its=its':=by simpa using congrArg Array.toList d1
 subst this;exact r.inj r'
abbrev Cx.wish(X:Cx)(E:Value->Shared->Prop):Cx:={ X with xe:=E }
abbrev Cx.nox(X:Cx):Cx:=X.wish λ_ _=>False
theorem Cx.Ok.wish(ok:X.Ok)(E:Value->Shared->Prop):(X.wish E).Ok :=
 ⟨ok.mod,ok.kind,ok.glob,ok.blt,ok.above,ok.inj,ok.has,ok.cab,ok.hd,ok.frames,ok.stk,ok.exf,ok.bs,ok.bsz,ok.noex,ok.exfs,ok.funs,ok.frf⟩
theorem Cx.Ok.unwish(ok:(X.wish E).Ok):X.Ok :=
 ⟨ok.mod,ok.kind,ok.glob,ok.blt,ok.above,ok.inj,ok.has,ok.cab,ok.hd,ok.frames,ok.stk,ok.exf,ok.bs,ok.bsz,ok.noex,ok.exfs,ok.funs,ok.frf⟩
theorem Inv.wish(I:Inv X pins σ H s)(E:Value->Shared->Prop):Inv (X.wish E) pins σ H s:=⟨I.ok.wish E,I.os,I.bare,I.base,I.loc,I.cell,I.free,I.freeC,I.pin,I.hok,I.len⟩
theorem Inv.unwish(I:Inv (X.wish E) pins σ H s):Inv X pins σ H s:=⟨I.ok.unwish,I.os,I.bare,I.base,I.loc,I.cell,I.free,I.freeC,I.pin,I.hok,I.len⟩
theorem SP.unwish{D:Ends}{f:Flow}(h:SP (X.wish E) pins D f s'):SP X pins D f s':=by
 cases f with
 |next=>obtain⟨σ',H',I,q⟩:=h;exact⟨σ',H',I.unwish,q⟩
 |brk=>obtain⟨σ',H',I,q⟩:=h;exact⟨σ',H',I.unwish,q⟩
 |cont=>obtain⟨σ',H',I,q⟩:=h;exact⟨σ',H',I.unwish,q⟩
 |ret u=>obtain⟨v,σ',H',I,r,q⟩:=h;exact⟨v,σ',H',I.unwish,r,q⟩
theorem PE.nox{t:TE}(h:PE X.nox e t):PE X e t:=λpins s σ H Q I hw=>
 Fw (h pins s σ H Q (I.wish _) hw) (λ_ _ ⟨v,H',I',r,q⟩=>⟨v,H',I'.unwish,r,q⟩) λ_ _ z=>Fx z
theorem PSs.nox{st:List Stmt}{t:TS}(h:PSs X.nox st t):PSs X st t:=λpins s σ H D I hw=>
 Fw (h pins s σ H D (I.wish _) hw) (λ_ _ q=>q.unwish) λ_ _ z=>Fx z
section
variable {rest:List Stmt}{t u:TS}
def Qx7:TS:=λD σ H=>D.nx σ H
def tSeq(t u:TS):TS:=λD σ H=>t { D with nx:=u D } σ H
theorem Qs4:PSs X [] Qx7:=λ_ _ σ H _ I h=>Tn ⟨σ,H,I,h⟩
theorem Qow(h1:PS X st t)(h2:PSs X rest u):PSs X (st::rest) (tSeq t u):=by
 intro pins s σ H D I h;refine wpAny_execs_cons (thn (h1 pins s σ H { D with nx:=u D } I h) λf s1 q=>?_);cases f with
 | next=>
  obtain⟨σ',H',I',q⟩:=q;exact h2 pins s1 σ' H' D I' q
 |ret v=>exact q
 |brk=>exact q
 |cont=>exact q
theorem Qli(h1:PS X st t):PSs X [st] t:=by
 intro pins s σ H D I h;refine wpAny_execs_cons (thn (h1 pins s σ H D I h) λf s1 q=>?_);cases f with
 |next=>exact Tn q
 |ret v=>exact q
 |brk=>exact q
 |cont=>exact q
theorem Inv.quiet(I:Inv X pins σ H s):interactive X.env=false:=by simp[interactive,I.ok.kind]
def Qx8(te:TE):TS:=λD σ H=>te σ H λ_ H1=>D.nx σ H1
theorem Qaz(he:PE X e te)(hs:swapsWith e none pos.line X.env=pure false:=by rfl):PS X (.Expr e pos) (Qx8 te):=by
 intro pins s σ H D I h;exact wpAny_Expr_any (thn (he pins s σ H _ I h) λv s1 ⟨x,H1,I1,r1,q1⟩=>⟨σ,H1,I1,q1⟩) I.quiet hs
def tRet(te:TE):TS:=λD σ H=>te σ H D.rt
theorem Qq3(he:PE X e te):PS X (.Return (some e) pos) (tRet te):=by
 intro pins s σ H D I h;exact wpAny_Return_some (thn (he pins s σ H _ I h) λv s1 ⟨x,H1,I1,r1,q1⟩=>⟨x,σ,H1,I1,r1,q1⟩)
def tIfS(c:TT)(t u:TS):TS:=λD σ H=>c σ H λb H1=>if b=true then t D σ H1 else u D σ H1
theorem Qyq{a b:List Stmt}(hc:PT X c tc)(ha:PSs X a t)(hb:PSs X b u):PS X (.If c a b pos) (tIfS tc t u):=by
 intro pins s σ H D I h;refine wpAny_If (thn (hc pins s σ H _ I h) λd s1 ⟨H1,I1,q1⟩=>?_);cases d with
 |true=>exact ha pins s1 σ H1 D I1 q1
 |false=>exact hb pins s1 σ H1 D I1 q1
end
abbrev TG:=V->St->Hp->(St->Hp->Prop)->Prop
abbrev TGs:=List V->St->Hp->(St->Hp->Prop)->Prop
def PG(X:Cx)(target:Expr)(t:TG):Prop :=
 ∀(pins:List (Addr×Obj)) (s:Shared) (σ:St) (H:Hp) (v:V) (u:Value) (Q:St->Hp->Prop),Inv X pins σ H s->RelV v u->t v σ H Q ->
  wpAny (model X.prog X.w) X.A (assign target X.env u) (λ_ s'=>∃σ' H',Inv X pins σ' H' s'/\Q σ' H') X.xe s
def PGs(X:Cx)(ts:List Expr)(t:TGs):Prop :=
 ∀(pins:List (Addr×Obj)) (s:Shared) (σ:St) (H:Hp) (vs:List V) (us:List Value) (Q:St->Hp->Prop),Inv X pins σ H s->Vals vs us->t vs σ H Q ->
  wpAny (model X.prog X.w) X.A (assignInOrder ((assignEach ts X.env).map (·.2)) us) (λ_ s'=>∃σ' H',Inv X pins σ' H' s'/\Q σ' H') X.xe s
abbrev TSet:=V->V->V->Hp->(Hp->Prop)->Prop
end L2
variable {o:PySem.Obj}{es:List Nb}{n:Nat}{to:L2.TE}{tg:Nb}{g:L2.TG}{pos':Sx}{body:List Ow}
namespace L2
open PySem PySem.Spec PyProof.Rows
def PSet(X:Cx)(t:TSet):Prop :=
 ∀(pins:List (Addr×Obj)) (s:Shared) (σ:St) (H:Hp) (o i v:V) (ov iv u:Value) (Q:Hp->Prop),Inv X pins σ H s->RelV o ov->RelV i iv->RelV v u->t o i v H Q ->
  wpAny (model X.prog X.w) X.A (setItem ov iv u) (λ_ s'=>∃H',Inv X pins σ H' s'/\Q H') X.xe s
def Qjp(i:Nat):TG:=λv σ H Q=>Q (σ.set i (some v)) H
theorem Qc4(hN:X.N.Nodup)(hi:X.N[i]? = some x)(hx:Loc X.env.scope x)(hf:X.fn x=true\/X.env.scope.names.lookup x=some .local:=by first|exact .inl rfl|exact .inr rfl|assumption):PG X (.Name x pos) (Qjp i):=by
 intro pins s σ H v u Q I r h;exact wpAny_assign_Name (Qhe I hN hi hx r (λs' I'=>⟨_,H,I',h⟩) hf)
def gNil:TGs:=λvs σ H Q=>vs=[]/\Q σ H
def Qy8(t:TG)(u:TGs):TGs:=λvs σ H Q=>∃v r,vs=v::r/\t v σ H λσ' H'=>u r σ' H' Q
theorem Qtc:PGs X [] gNil:=by
 intro pins s σ H vs us Q I r h;obtain⟨e,h⟩:=h;subst e;cases r;exact assignInOrder_nil ⟨σ,H,I,h⟩
theorem Qo4{t:TG}{u:TGs}(h1:PG X e t)(h2:PGs X es u)
  (hs:(assignEach (e::es) X.env).map (·.2)=assign e X.env::(assignEach es X.env).map (·.2):=by rfl):PGs X (e::es) (Qy8 t u):=by
 intro pins s σ H vs us Q I r h;obtain⟨v,vr,e1,h⟩:=h;subst e1;cases r with
 | cons r rr=>
  rw[hs];refine assignInOrder_cons (thn (h1 pins s σ H _ _ _ I r h) λ_ s1 ⟨σ1,H1,I1,q1⟩=>?_);exact h2 pins s1 σ1 H1 _ _ Q I1 rr q1
def gTup(K:Frag)(n:Nat)(t:TGs):TG:=λv σ H Q=>∃a xs,v=.ref a/\SqT K H a xs/\xs.length=n/\t xs σ H Q
theorem Qvs{k:Nat}{t:TGs}(hc:X.calm=true)(h:PGs X es t)
  (hn:(assignEach es X.env).length=n:=by rfl) (hst:(assignEach es X.env).findIdx? (·.1)=none:=by rfl):PG X (.Tuple es k pos) (gTup X.K n t):=by
 intro pins s σ H v u Q I r hw;obtain⟨a,xs,e1,hq,hl,hw⟩:=hw;subst e1;cases r;obtain⟨its,rv,ht,hz⟩:=I.tuple hq;refine assign_Tuple_tuple (I.ok.hd hc) ht (by simp[hn,← hl,rv.length]) hst λh' hx=>?_;have I1:Inv X pins σ H { s with heap:=h' }:=I.kept (t':=s.toks) λb o e=>hx b o (Bv (Bf e)) e;exact h pins _ σ H xs _ Q I1 (by simpa using rv) hw
def gSub(to ti:TE)(t:TSet):TG:=λv σ H Q=>to σ H λo H1=>ti σ H1 λi H2=>t o i v H2 λH3=>Q σ H3
theorem Qht{o i:Expr}{ti:TE}{t:TSet}(ho:PE X o to)(hi:PE X i ti)(hs:PSet X t)
  (ha:∀v,assign (.Subscript o i pos) X.env v=(do
   let ov ← holding [v] (eval o X.env)
   let iv ← holding [v,ov] (eval i X.env)
   standAt pos
   holding [v,ov,iv] (setItem ov iv v)
   release [v,ov,iv] []):=by intro _;rfl):PG X (.Subscript o i pos) (gSub to ti t):=by
 intro pins s σ H v u Q I r h
 rw[ha]
 refine Ah (Nq (thn (ho pins s σ H _ I h) λov s1 ⟨x,H1,I1,r1,q1⟩=>?_))
 refine Ah (Nq (thn (hi pins s1 σ H1 _ I1 q1) λiv s2 ⟨y,H2,I2,r2,q2⟩=>?_))
 refine Ah (Lr (Ah (Nq (thn (hs pins s2 σ H2 x y v ov iv u _ I2 r1 r2 r q2) λ_ s3 ⟨H3,I3,q3⟩=>?_))))
 exact wpAny_release ⟨σ,H3,I3,q3⟩
def tAsg(te:TE)(g:TG):TS:=λD σ H=>te σ H λx H1=>g x σ H1 D.nx
theorem Qhr(he:PE X e te)(hg:PG X tg g)(hs:swapsWithSole [tg] e pos.line X.env=pure false:=by rfl)(hw:swappedStores [tg] e X.env=pure none:=by rfl)
  (h1:(assignEach [tg] X.env).map (·.2)=[assign tg X.env]:=by rfl):PS X (.Assign [tg] e pos) (tAsg te g):=by
 intro pins s σ H D I h;refine wpAny_Assign_stores (thn (he pins s σ H _ I h) λv s1 ⟨x,H1,I1,r1,q1⟩=>?_) hs hw;rw[h1];exact thn (hg pins s1 σ H1 x v _ I1 r1 q1) λ_ s2 q=>q
theorem Qvq(hN:X.N.Nodup)(hi:X.N[i]? = some x)(hx:Loc X.env.scope x)(he:PE X e te)(hs:swapsWith e (some (.Name x pos')) pos.line X.env=pure false:=by rfl)(hf:X.fn x=true\/X.env.scope.names.lookup x=some .local:=by first|exact .inl rfl|exact .inr rfl|assumption) :
  PS X (.Assign [.Name x pos'] e pos) (tAsg te (Qjp i)):=by
 intro pins s σ H D I h;refine wpAny_Assign_Name (thn (he pins s σ H _ I h) λv s1 ⟨y,H1,I1,r1,q1⟩=>?_) hs;exact Qhe I1 hN hi hx r1 (λs2 I2=>⟨_,H1,I2,q1⟩) hf
noncomputable def Qur(c:TT)(tb:TS):TS:=λD σ H=>∃W:Nat->St->Hp->Prop,(∃m,W m σ H)/\∀m σ H,W m σ H ->
 c σ H λb H1=>if b=true then ∃N:St->Hp->Prop,(∀σ' H',N σ' H'->∃m',m' < m/\W m' σ' H')/\tb { D with nx:=N,ct:=N,bk:=D.nx } σ H1 else D.nx σ H1
theorem Qox{tb:TS}(hp:PassesOwn (model X.prog X.w) X.A X.env X.xe)(hc:PT X c tc)(hb:PSs X body tb):PS X (.While c body [] pos) (Qur tc tb):=by
 intro pins s σ H D I h;obtain⟨W,⟨m0,w0⟩,turn⟩:=h;refine wpAny_While (codeAny_whileLoop (λn s'=>∃σ' H',Inv X pins σ' H' s'/\W n σ' H') ?_ m0 ⟨σ,H,I,w0⟩);rintro n s1 ⟨σ1,H1,I1,w1⟩;refine Ri hp (thn (hc pins s1 σ1 H1 _ I1 (turn n σ1 H1 w1)) λb s2 ⟨H2,I2,q2⟩=>?_);cases b with
 | true=>
  obtain⟨N,hN,q2⟩:=q2;rw[if_pos rfl];refine Ri hp (thn (hb pins s2 σ1 H2 _ I2 q2) λf s3 q3=>?_);cases f with
  | next=>
   obtain⟨σ3,H3,I3,n3⟩:=q3;obtain⟨m',hm,w3⟩:=hN σ3 H3 n3;exact⟨m',hm,σ3,H3,I3,w3⟩
  | cont=>
   obtain⟨σ3,H3,I3,n3⟩:=q3;obtain⟨m',hm,w3⟩:=hN σ3 H3 n3;exact⟨m',hm,σ3,H3,I3,w3⟩
  |brk=>exact q3
  |ret v=>exact q3
 | false=>
  rw[if_neg Bw];exact Tn ⟨σ1,H2,I2,q2⟩
structure It where
 go:Nat->Hp->Prop
 yld:Nat->Hp->V->Hp->Prop
 stop:Nat->Hp->Prop
def FpOk(X:Cx)(pins:List (Addr×Obj))(H:Hp)(b:Addr):Prop :=
 H b=none/\b≠X.env.locals/\b∉X.fs/\(b∈X.ex\/X.s₀.heap.objs.size<=b)/\(∀x c,X.env.cells.lookup x=some c->c≠b)/\∀p∈X.pn++pins,p.1≠b
theorem Inv.fpOk(I:Inv X pins σ H s)(hb:s.heap.objs.size<=b)(hn:H' b=none):FpOk X pins H' b:=by
 refine⟨hn,D1 (Bs I.lt hb),I.nofs hb,.inr (Dy I.sz hb),λx c e z=>?_,λp hp z=>?_⟩
 ·obtain⟨v,q⟩:=I.cell x c e;exact absurd (Bs q.lt (by rw[z];exact hb)) (Np _)
 ·exact absurd (Bs (Bf (I.pin p hp).1) (by rw[z];exact hb)) (Np _)
structure Turn(P:Program)(w:World)(K:Frag)(tg:Expr)(J:It)(fp:List Addr)(it:Addr)(tn:Nat->Heap->Prop):Prop where
 mem:it∈fp
 obj:∀i h,tn i h->∀b∈fp,∃o,h.get? b=some o/\∀v,o.data ≠ .cell v
 keep:∀i h h',tn i h->(∀b∈fp,∀o,h.get? b=some o->h'.get? b=some o)->tn i h'
 item:∀(X:Cx),X.prog=P->X.w=w->X.K=K->X.calm=true->∀(i:Nat)(pins:List (Addr×Obj)) (s:Shared) (σ:St) (H:Hp) (E:Value->Shared->Prop),Inv X pins σ H s->(∀b∈fp,FpOk X pins H b)->tn i s.heap->J.go i H ->
  wpAny (model P w) X.A (pyNext (.ref it)) (λr s1=>∃u,r=some u /\
   wpAny (model P w) X.A (letOwnedTupleGo tg (.ref it) u) (λ_ s2=>∃x H',Inv X pins σ H' s2/\RelV x u/\J.yld i H x H'/\tn (i+1) s2.heap/\∀b∈fp,H' b=none) E s1) E s
 done:∀(X:Cx),X.prog=P->X.w=w->X.K=K->X.calm=true->∀(i:Nat)(pins:List (Addr×Obj)) (s:Shared) (σ:St) (H:Hp) (E:Value->Shared->Prop),Inv X pins σ H s->(∀b∈fp,FpOk X pins H b)->tn i s.heap->J.stop i H ->
  wpAny (model P w) X.A (pyNext (.ref it)) (λr s1=>r=none/\Inv X pins σ H s1) E s
 self:∀(A:Around)(i:Nat)(s:Shared)(Q:Value->Shared->Prop)(E:Value->Shared->Prop),tn i s.heap->Q (.ref it) s->wpAny (model P w) A (pyIter (.ref it)) Q E s
abbrev TI:=St->Hp->(It->Hp->Prop)->Prop
end L2
variable {vs:List L2.V}{R:List Nt}{lo hi:Option Int}{p:Sx}{fp:List Dj}{iter:Nb}{wi:L2.TI}
namespace L2
open PySem PySem.Spec PyProof.Rows
def PIE(X:Cx)(pins:List (Addr×Obj))(σ:St)(tg:Expr)(R:It->Hp->Prop)(itv:Value)(s2:Shared):Prop :=
 ∃(it:Addr)(fp:List Addr)(tn:Nat->Heap->Prop)(J:It)(H':Hp),itv=.ref it/\Inv X pins σ H' s2/\Turn X.prog X.w X.K tg J fp it tn/\tn 0 s2.heap/\(∀b∈fp,FpOk X pins H' b)/\R J H'
def PI(X:Cx)(tg iter:Expr)(wi:TI):Prop :=
 ∀(pins:List (Addr×Obj)) (s:Shared) (σ:St) (H:Hp) (R:It->Hp->Prop),Inv X pins σ H s->wi σ H R ->
  wpAny (model X.prog X.w) X.A (eval iter X.env) (λv s1=>wpAny (model X.prog X.w) X.A (pyIter v) (PIE X pins σ tg R) X.xe s1) X.xe s
theorem Qmz{M:Model}{it:Addr}{n:String}{vs:Array Value}{Q:Unit->Shared->Prop}(ho:s.heap.get? it=some o)(hc:o.cls=.type n)(hd:o.data=.fields vs)
    (hn:["enumerate","zip","dict_itemiterator","dict_reverseitemiterator","odict_iterator","itertools.zip_longest","itertools.pairwise"].contains n=false) (hQ:Q () s):wpAny M A (letOwnedTupleGo tg (.ref it) u) Q E s:=by
  unfold letOwnedTupleGo;cases tg<;>first
    |exact As hQ
    | (cases u<;>first
        |exact As hQ
        | (refine Ah (wpAny_load ho ?_)
           rw[hc,hd];show wpAny M A (if (["enumerate","zip","dict_itemiterator","dict_reverseitemiterator","odict_iterator","itertools.zip_longest","itertools.pairwise"].contains n&&vs[0]? == some (rawInt _))=true then _ else _) Q E s;rw[if_neg (by intro h;rw[hn,Bool.false_and]at h;cases h)];exact As hQ))
def Itl(K:Frag)(a:Addr):It :=
 ⟨λi H=>∃xs x,SqL K H a xs/\xs[i]? = some x,λi H x H'=>H'=H/\∀xs,SqL K H a xs->xs[i]? = some x,λi H=>∃xs,SqL K H a xs/\xs.length<=i⟩
def Itt(K:Frag)(a:Addr):It :=
 ⟨λi H=>∃xs x,SqT K H a xs/\xs[i]? = some x,λi H x H'=>H'=H/\∀xs,SqT K H a xs->xs[i]? = some x,λi H=>∃xs,SqT K H a xs/\xs.length<=i⟩
def Itr(lo:Int)(n:Nat):It:=⟨λi _=>i<n,λi H x H'=>H'=H/\x=.int (lo+i),λi _=>n<=i⟩
theorem Qkp{K:Frag}(a it:Addr):Turn P w K tg (Itl K a) [it] it (λi h=>h.IsListIter it a i) where
 mem:=by simp
 obj:=λi h st b hb=>by
  have e:b=it:=by simpa using hb
  subst e;obtain⟨o,e,c,d⟩:=st;exact⟨o,e,λv z=>by rw[d]at z;cases z⟩
 keep:=λi h h' st k=>st.at λo e=>k it (by simp) o e
 item:=by
  intro X hP hw hK hc i pins s σ H E I hf st hg;subst hP hw hK;obtain⟨xs,x,hq,hx⟩:=hg;obtain⟨its,rv,p,hz⟩:=I.list hq;obtain⟨u,hu,ru⟩:=rv.get hx;obtain⟨f0,f1,f2,f3,f4,f5⟩:=hf it (by simp);refine wpAny_pyNext_list_item st p.isList (x:=u) (by simpa using hu) λh' st' sb=>?_;have I1:Inv X pins σ H { s with heap:=h' }:=I.turned (t':=s.toks) (λb o hb e=>(sb.2 b hb).trans e) f0 f1 f3 f4 f5;obtain⟨o,e,c,d⟩:=id st';exact⟨u,rfl,Qmz (s:={ s with heap:=h' }) e c d (by decide) ⟨x,H,I1,ru,⟨rfl,λys hy=>by rw[I.list_inj hy hq];exact hx⟩,st',λb hb=>(hf b hb).1⟩⟩
 done:=by
  intro X hP hw hK hc i pins s σ H E I hf st hg;subst hP hw hK;obtain⟨xs,hq,hx⟩:=hg;obtain⟨its,rv,p,hz⟩:=I.list hq;obtain⟨f0,f1,f2,f3,f4,f5⟩:=hf it (by simp);have hl:=rv.length;exact wpAny_pyNext_list_end (I.ok.hd hc) st p.isList (by simp;lia) λh' eb=>⟨rfl,I.turned (t':=s.toks) (λb o hb e=>eb b o hb e) f0 f1 f3 f4 f5⟩
 self:=λ_ _ _ _ _ st h=>wpAny_pyIter_listiter st h
theorem Qi1{K:Frag}(a it:Addr):Turn P w K tg (Itt K a) [it] it (λi h=>h.IsTupleIter it a i) where
 mem:=by simp
 obj:=λi h st b hb=>by
  have e:b=it:=by simpa using hb
  subst e;obtain⟨o,e,c,d⟩:=st;exact⟨o,e,λv z=>by rw[d]at z;cases z⟩
 keep:=λi h h' st k=>st.at λo e=>k it (by simp) o e
 item:=by
  intro X hP hw hK hc i pins s σ H E I hf st hg;subst hP hw hK;obtain⟨xs,x,hq,hx⟩:=hg;obtain⟨its,rv,p,hz⟩:=I.tuple hq;obtain⟨u,hu,ru⟩:=rv.get hx;obtain⟨f0,f1,f2,f3,f4,f5⟩:=hf it (by simp);refine wpAny_pyNext_tuple_item st (show s.heap.IsTuple a its.toArray from p) (x:=u) (by simpa using hu) λh' st' sb=>?_;have I1:Inv X pins σ H { s with heap:=h' }:=I.turned (t':=s.toks) (λb o hb e=>(sb.2 b hb).trans e) f0 f1 f3 f4 f5;obtain⟨o,e,c,d⟩:=id st';exact⟨u,rfl,Qmz (s:={ s with heap:=h' }) e c d (by decide) ⟨x,H,I1,ru,⟨rfl,λys hy=>by rw[I.tuple_inj hy hq];exact hx⟩,st',λb hb=>(hf b hb).1⟩⟩
 done:=by
  intro X hP hw hK hc i pins s σ H E I hf st hg;subst hP hw hK;obtain⟨xs,hq,hx⟩:=hg;obtain⟨its,rv,p,hz⟩:=I.tuple hq;obtain⟨f0,f1,f2,f3,f4,f5⟩:=hf it (by simp);have hl:=rv.length;exact wpAny_pyNext_tuple_end (I.ok.hd hc) st (show s.heap.IsTuple a its.toArray from p) (by simp;lia) λh' eb=>⟨rfl,I.turned (t':=s.toks) (λb o hb e=>eb b o hb e) f0 f1 f3 f4 f5⟩
 self:=λ_ _ _ _ _ st h=>wpAny_pyIter_tupleiter st h
theorem Qi2{K:Frag}(it:Addr)(lo:Int)(n:Nat):Turn P w K tg (Itr lo n) [it] it (λi h=>IsRangeIter h it (lo+(i:Nat)*1) ((n:Int)-(i:Nat)) 1) where
 mem:=by simp
 obj:=λi h st b hb=>by
  have e:b=it:=by simpa using hb
  subst e;exact⟨_,st,λv z=>by
   have z':Op _=Kz v:=z;cases z'⟩
 keep:=λi h h' st k=>k it (by simp) _ st
 item:=by
  intro X hP hw hK hc i pins s σ H E I hf st hg;subst hP hw hK;obtain⟨f0,f1,f2,f3,f4,f5⟩:=hf it (by simp);have W:=Walks.range (prog:=X.prog) (w:=X.w) (I.ok.hd hc) it lo 1 n;refine W.item i s _ _ hg st λv h' tk hv st' kk=>?_;obtain⟨t,rfl⟩:=hv;have I1:Inv X pins σ H { s with heap:=h',toks:=tk }:=I.turned (λb o hb e=>kk b o (by simpa using hb) e) f0 f1 f3 f4 f5;refine⟨_,rfl,Qmz (s:={ s with heap:=h',toks:=tk }) (n:="range_iterator") st' rfl rfl (by decide) ⟨.int (lo+i),H,I1,⟨t,?_⟩,⟨rfl,rfl⟩,st',λb hb=>(hf b hb).1⟩⟩;rw[Int.mul_one]
 done:=by
  intro X hP hw hK hc i pins s σ H E I hf st hg;subst hP hw hK;obtain⟨f0,f1,f2,f3,f4,f5⟩:=hf it (by simp);exact wpAny_pyNext_range_end (I.ok.hd hc) st (by have:n<=i:=hg;lia) λh' eb=>⟨rfl,I.turned (t':=s.toks) (λb o hb e=>eb b o hb e) f0 f1 f3 f4 f5⟩
 self:=λ_ _ _ _ _ st h=>wpAny_pyIter_rangeiter st h
theorem Qon{R:It->Hp->Prop}{lo hi:Int}{t u v:Tok}{tk:Nat}(I:Inv X pins σ H s)(h1:-(2 ^ 62)<=lo)(h2:lo<2 ^ 62)(h3:-(2 ^ 62)<=hi)(h4:hi<2 ^ 62)
  (q:R (Itr lo (hi-lo).toNat) H):wpAny (model X.prog X.w) X.A (pyIter (.ref s.heap.objs.size)) (PIE X pins σ tg R) E { s with heap:=s.heap.push { cls:=.type "range",data:=.fields #[.int lo t,.int hi u,.int 1 v] },toks:=tk }:=by
 refine wpAny_pyIter_range (IsRange.new ..) (small_one h1 h2 h3 h4) ?_;have I1:Inv X pins σ H { s with heap:=s.heap.push { cls:=.type "range",data:=.fields #[.int lo t,.int hi u,.int 1 v] },toks:=tk }:=I.kept λb o e=>An _ e;refine⟨(s.heap.push { cls:=.type "range",data:=.fields #[.int lo t,.int hi u,.int 1 v] }).objs.size,[(s.heap.push { cls:=.type "range",data:=.fields #[.int lo t,.int hi u,.int 1 v] }).objs.size],_,_,H,rfl,
  I1.kept (t':=tk) λb o e=>An _ e,Qi2 _ lo (hi-lo).toNat,?_,λb hb=>?_,q⟩
 ·have e1:lo+((0:Nat):Int)*1=lo:=by simp
  have e2:(((hi-lo).toNat:Nat):Int)-((0:Nat):Int)=Builtin.Range.rangeSize lo hi 1:=by rw[rangeSize_one];split<;>lia
  show IsRangeIter _ _ (lo+((0:Nat):Int)*1) ((((hi-lo).toNat:Nat):Int)-((0:Nat):Int)) 1;rw[e1,e2];exact Bp _ rfl
 ·have e:b=(s.heap.push { cls:=.type "range",data:=.fields #[.int lo t,.int hi u,.int 1 v] }).objs.size:=by simpa using hb
  subst e;exact I1.fpOk (At _) (I1.hok.fresh (At _))
def Qy4(ta:TA):TI:=λσ H R=>ta σ H λvs H1=>∃j:Int,vs=[.int j] /\ -(2 ^ 62)<=j/\j<2 ^ 62/\R (Itr 0 j.toNat) H1
theorem Qln{a:Expr}{ta:TA}(hg:Gl X "range")(hm:X.mg "range" = none)(ha:PA X [a] ta)(hs:starEach [a] X.env=[(false,eval a X.env)]:=by rfl):PI X tg (.Call (.Name "range" p) [a] [] pos) (Qy4 ta):=by
 intro pins s σ H R I h;refine Call_ (Qba I hg hm boot_range (Mj (thn (ha pos pins s σ H _ I h) λus s1 ⟨vs,H1,I1,r1,q1⟩=>?_) hs rfl));obtain⟨j,e,q1,q2,q⟩:=q1;subst e;cases r1 with
 | cons r rr=>
  cases rr;obtain⟨t,rfl⟩:=r;exact call_range_1 (Qon I1 (by lia) (by lia) q1 q2 (by simpa using q))
noncomputable def tFor(wi:TI)(g:TG)(tb:TS):TS:=λD σ H=>wi σ H λJ H1=>∃W:Nat->Nat->St->Hp->Prop,(∃m,W 0 m σ H1)/\∀i m σ H,W i m σ H ->
 (J.stop i H/\D.nx σ H)\/(J.go i H/\∃N:St->Hp->Prop,(∀σ' H',N σ' H'->∃m',m' < m/\W (i+1) m' σ' H')/\∀x H',J.yld i H x H'->g x σ H' λσ2 H2=>tb { D with nx:=N,ct:=N,bk:=D.nx } σ2 H2)
def Qet(fp:List Addr)(h:Heap):List (Addr×Obj):=fp.filterMap λb=>(h.get? b).map λo=>(b,o)
theorem V6(hb:b∈fp)(e:h.get? b=some o):(b,o)∈Qet fp h:=L8.mpr ⟨b,hb,by rw[e];rfl⟩
theorem Ql2{p:Addr×Obj}(hp:p∈Qet fp h):p.1∈fp/\h.get? p.1=some p.2:=by
 obtain⟨b,hb,e⟩:=L8.mp hp;cases q:h.get? b with
 |none=>rw[q]at e;cases e
 | some o=>
  rw[q]at e;have e':(b,o)=p:=Bq e;subst e';exact⟨hb,q⟩
theorem Inv.pinned(I:Inv X pins σ H s)(hf:∀b∈fp,FpOk X pins H b)(ho:∀b∈fp,∃o,s.heap.get? b=some o/\∀v,o.data ≠ .cell v):Inv X (pins++Qet fp s.heap) σ H s :=
 I.pins_of λp hp=>(Aj.mp hp).elim (λz=>I.pin p (Dk _ z)) λz=>by
  obtain⟨hb,e⟩:=Ql2 z;obtain⟨f0,f1,f2,_⟩:=hf p.1 hb;obtain⟨o,e',d⟩:=ho p.1 hb;rw[e]at e';cases e';exact⟨e,f0,f1,f2,d⟩
theorem Inv.unpinned{pl:List (Addr×Obj)}(I:Inv X (pins++pl) σ H s):Inv X pins σ H s:=I.pins_of λp hp=>I.pin p (Dk _ (Tl _ hp))
theorem Qlj{tb:TS}(hp:PassesOwn (model X.prog X.w) X.A X.env X.xe)(hc:X.calm=true)(hi:PI X tg iter wi)(hg:PG X tg g)(hb:PSs X body tb)
  (hs:∀x,foldedSetIterable iter X.env x=pure x:=by intro _;rfl):PS X (.For tg iter body [] pos) (tFor wi g tb):=by
 intro pins s σ H D I h;refine wpAny_For (thn (hi pins s σ H _ I h) λv s1 h1=>thn h1 λitv s2 h2=>?_) hs;obtain⟨it,fp,tn,J,H2,e,I2,T,st2,f2,W,⟨m0,w0⟩,turn⟩:=h2;subst e
 -- what stays true of the iterator's objects through the loop
 have stat:∀{H':Hp},(∀b∈fp,H' b=none)->∀b∈fp,FpOk X pins H' b:=λhn b hb=>⟨hn b hb,(f2 b hb).2⟩
 refine codeAny_forLoop_any (λn s'=>∃i σ' H',Inv X pins σ' H' s'/\tn i s'.heap/\(∀b∈fp,H' b=none)/\W i n σ' H') ?_ m0 ⟨0,σ,H2,I2,st2,λb hb=>(f2 b hb).1,w0⟩;rintro n s3 ⟨i,σ3,H3,I3,st3,fr3,w3⟩;rcases turn i n σ3 H3 w3 with⟨stop,qn⟩|⟨go,N,hN,step⟩
 ·refine Ri hp (thn (T.done X rfl rfl rfl hc i pins s3 σ3 H3 X.xe I3 (stat fr3) st3 stop) λr s4 ⟨hr,I4⟩=>?_);subst hr;exact Tn ⟨σ3,H3,I4,qn⟩
 ·refine Ri hp (thn (T.item X rfl rfl rfl hc i pins s3 σ3 H3 X.xe I3 (stat fr3) st3 go) λr s4 ⟨u,hr,h4⟩=>?_);subst hr;refine Ri hp (thn h4 λ_ s5 ⟨x,H5,I5,r5,y5,st5,fr5⟩=>?_);have I5':=I5.pinned (stat fr5) (T.obj _ _ st5);refine Ri hp (thn (hg _ s5 σ3 H5 x u _ I5' r5 (step x H5 y5)) λ_ s6 ⟨σ6,H6,I6,q6⟩=>?_);refine Ri hp (thn (hb _ s6 σ6 H6 _ I6 q6) λf s7 q7=>?_);have again:∀{σ7:St}{H7:Hp},Inv X (pins++Qet fp s5.heap) σ7 H7 s7->N σ7 H7->∃m,m<n/\∃i σ' H',Inv X pins σ' H' s7/\tn i s7.heap/\(∀b∈fp,H' b=none)/\W i m σ' H':=λ{σ7 H7} I7 n7=>by
   obtain⟨m',hm,w7⟩:=hN σ7 H7 n7;refine⟨m',hm,i+1,σ7,H7,I7.unpinned,T.keep _ _ _ st5 λb hb o e=>(I7.pin (b,o) (Dk _ (Dk _ (V6 hb e)))).1,λb hb=>?_,w7⟩;obtain⟨o,e,d⟩:=T.obj _ _ st5 b hb;exact(I7.pin (b,o) (Dk _ (Dk _ (V6 hb e)))).2.1
  cases f with
  |next=>obtain⟨σ7,H7,I7,n7⟩:=q7;exact again I7 n7
  |cont=>obtain⟨σ7,H7,I7,n7⟩:=q7;exact again I7 n7
  |brk=>obtain⟨σ7,H7,I7,q7⟩:=q7;exact⟨σ7,H7,I7.unpinned,q7⟩
  |ret v=>obtain⟨x7,σ7,H7,I7,r7,q7⟩:=q7;exact⟨x7,σ7,H7,I7.unpinned,r7,q7⟩
abbrev R2:=V->V->Hp->VK->Prop
end L2
variable {o:Option L2.V}{i:Int}{g:Int->Int->Int}{op:PySem.CmpOp}{r:L2.R2}{C:Dj}{its:List Fg}
namespace L2
open PySem PySem.Spec PyProof.Rows
def OpR(X:Cx)(f:Value->Value->Sem Value)(r:R2):Prop :=
 ∀(pins:List (Addr×Obj)) (s:Shared) (σ:St) (H:Hp) (x y:V) (v u:Value) (Q:VK),Inv X pins σ H s->RelV x v->RelV y u->r x y H Q ->
  wpAny (model X.prog X.w) X.A (f v u) (EP X pins σ Q) X.xe s
def Uz(X:Cx)(f:Value)(r:List V->Hp->VK->Prop):Prop :=
 ∀(pins:List (Addr×Obj)) (s:Shared) (σ:St) (H:Hp) (xs:List V) (us:List Value) (Q:VK),Inv X pins σ H s->Vals xs us->r xs H Q ->
  wpAny (model X.prog X.w) X.A (call f us) (EP X pins σ Q) X.xe s
def TruR(X:Cx)(r:V->Hp->(Bool->Hp->Prop)->Prop):Prop :=
 ∀(pins:List (Addr×Obj)) (s:Shared) (σ:St) (H:Hp) (x:V) (v:Value) (Q:Bool->Hp->Prop),Inv X pins σ H s->RelV x v->r x H Q ->
  wpAny (model X.prog X.w) X.A (truthy v) (TP X pins σ Q) X.xe s
def tOp(r:R2)(ta tb:TE):TE:=λσ H Q=>ta σ H λx H1=>tb σ H1 λy H2=>r x y H2 Q
def rI(C:Int->Int->Prop)(g:Int->Int->V):R2:=λx y H Q=>∃i j,x=.int i/\y=.int j/\C i j/\Q (g i j) H
def rI0(g:Int->Int->V):R2:=λx y H Q=>∃i j,x=.int i/\y=.int j/\Q (g i j) H
section
variable {a b:Expr}
theorem binT(ha:PE X a ta)(hb:PE X b tb){R:V->V->Hp->Prop}(I:Inv X pins σ H s)
  (h:ta σ H λx H1=>tb σ H1 λy H2=>R x y H2)
  (hf:∀v u s2 x y H2,Inv X pins σ H2 s2->RelV x v->RelV y u->R x y H2->wpAny (model X.prog X.w) X.A (f v u) Q X.xe s2) :
  wpAny (model X.prog X.w) X.A (eval a X.env) (λv s₁=>wpAny (model X.prog X.w) X.A (eval b X.env) (λu s₂=>wpAny (model X.prog X.w) X.A (f v u) Q X.xe s₂) X.xe s₁) X.xe s:=by
 refine thn (ha pins s σ H _ I h) λv s1 ⟨x,H1,I1,r1,q1⟩=>?_;refine thn (hb pins s1 σ H1 _ I1 q1) λu s2 ⟨y,H2,I2,r2,q2⟩=>?_;exact hf v u s2 x y H2 I2 r1 r2 q2
theorem Qyr{op:Operator}(ho:OpR X (binaryOp op) r)(ha:PE X a ta)(hb:PE X b tb):PE X (.BinOp a op b pos) (tOp r ta tb):=by
 intro pins s σ H Q I h;exact wpAny_BinOp (binT ha hb I h λv u s2 x y H2 I2 rx ry q=>ho pins s2 σ H2 x y v u Q I2 rx ry q)
theorem opI{C:Int->Int->Prop}
  (rule:∀(i j:Int)(t u:Tok)(s:Shared)(Q:Value->Shared->Prop)(E:Value->Shared->Prop),C i j->Q (.int (g i j) s.toks) { s with toks:=s.toks+1 }->wpAny (model X.prog X.w) X.A (f (.int i t) (.int j u)) Q E s) :
  OpR X f (rI C λi j=>.int (g i j)):=by
 intro pins s σ H x y v u Q I rx ry h;obtain⟨i,j,rfl,rfl,hc,q⟩:=h;obtain⟨t,rfl⟩:=rx;obtain⟨t',rfl⟩:=ry;exact rule i j t t' s _ _ hc ⟨.int (g i j),H,I.tok _,⟨_,rfl⟩,q⟩
theorem opI0
  (rule:∀(i j:Int)(t u:Tok)(s:Shared)(Q:Value->Shared->Prop)(E:Value->Shared->Prop),Q (.int (g i j) s.toks) { s with toks:=s.toks+1 }->wpAny (model X.prog X.w) X.A (f (.int i t) (.int j u)) Q E s) :
  OpR X f (rI0 λi j=>.int (g i j)):=by
 intro pins s σ H x y v u Q I rx ry h;obtain⟨i,j,rfl,rfl,q⟩:=h;obtain⟨t,rfl⟩:=rx;obtain⟨t',rfl⟩:=ry;exact rule i j t t' s _ _ ⟨.int (g i j),H,I.tok _,⟨_,rfl⟩,q⟩
theorem opB0{g:Int->Int->Bool}
  (rule:∀(i j:Int)(t u:Tok)(s:Shared)(Q:Value->Shared->Prop)(E:Value->Shared->Prop),Q (.bool (g i j)) s->wpAny (model X.prog X.w) X.A (f (.int i t) (.int j u)) Q E s) :
  OpR X f (rI0 λi j=>.bl (g i j)):=by
 intro pins s σ H x y v u Q I rx ry h;obtain⟨i,j,rfl,rfl,q⟩:=h;obtain⟨t,rfl⟩:=rx;obtain⟨t',rfl⟩:=ry;exact rule i j t t' s _ _ ⟨.bl (g i j),H,I,rfl,q⟩
def CDiv(i j:Int):Prop:=0<j/\j<1073741824
def Qzp(i j:Int):Prop:=j≠0/\j.natAbs<1073741824
def CMul(i j:Int):Prop:=(-(2 ^ 64)<i/\i<2 ^ 64)\/(-(2 ^ 64)<j/\j<2 ^ 64)
theorem CMul.ok{j:Int}(h:CMul i j):IntMulOk i j:=by
 rcases h with⟨h1,h2⟩|⟨h1,h2⟩
 ·exact .of_left (intBits_le_64 h1 h2)
 ·exact .of_right (intBits_le_64 h1 h2)
theorem Qv6:OpR X (binaryOp .Add) (rI0 λi j=>.int (i+j)):=opI0 λ_ _ _ _ _ _ _ q=>add_int q
theorem Qvz:OpR X (binaryOp .Sub) (rI0 λi j=>.int (i-j)):=opI0 λ_ _ _ _ _ _ _ q=>sub_int q
theorem Qv2:OpR X (binaryOp .Mult) (rI CMul λi j=>.int (i*j)):=opI λ_ _ _ _ _ _ _ hc q=>mul_int q hc.ok
theorem Qtj:OpR X (binaryOp .FloorDiv) (rI CDiv λi j=>.int (i/j)):=opI λi j _ _ _ _ _ hc q=>by
 have h1:(0:Int)<j:=hc.1;have h2:j<1073741824:=hc.2;exact floordiv_int (by lia) (by rw[Int.fdiv_eq_ediv_of_nonneg i (by lia)];exact q) (.inl (K3 (by lia)))
theorem Qpd:OpR X (binaryOp .FloorDiv) (rI Qzp λi j=>.int (i.fdiv j)):=opI λ_ _ _ _ _ _ _ hc q=>floordiv_int hc.1 q (.inl (K3 hc.2))
theorem Qv3:OpR X (binaryOp .Mod) (rI (λ_ j=>0<j) λi j=>.int (i%j)):=opI λi j _ _ _ _ _ hc q=>by
 have h1:(0:Int)<j:=hc;exact mod_int' (by lia) (by rw[Int.fmod_eq_emod_of_nonneg i (by lia)];exact q)
theorem Qti:OpR X (binaryOp .Mod) (rI (λ_ j=>j≠0) λi j=>.int (i.fmod j)):=opI λ_ _ _ _ _ _ _ hc q=>mod_int' hc q
end
noncomputable def scal:V->V->Bool
 | .non,.non=>true | .non,.int _=>true | .int _,.non=>true | .non,.bl _=>true | .bl _,.non=>true | .non,.str _=>true | .str _,.non=>true
 | .int _,.int _=>true | .bl _,.bl _=>true | .str _,.str _=>true | .byt _,.byt _=>true
 | .int _,.str _=>true | .str _,.int _=>true | .bl _,.str _=>true | .str _,.bl _=>true
 |_,_=>false
def rEq:R2:=λx y H Q=>scal x y=true/\Q (.bl (decide (x=y))) H
def rNe:R2:=λx y H Q=>scal x y=true/\Q (.bl (!decide (x=y))) H
theorem Qni{j:Int}:decide (V.int i=V.int j)=(i==j):=by
 rw[To];simp
theorem Qir{i j:Bool}:decide (V.bl i=V.bl j)=(i==j):=by
 rw[To];simp
theorem Qnh{i j:Str}:decide (V.str i=V.str j)=(i==j):=by
 rw[To];simp
theorem Qnj{i j:Array UInt8}:decide (V.byt i=V.byt j)=(i.toList==j.toList):=by
 rw[To];cases i;cases j;simp
section
variable {a b:Expr}
theorem Q6{Q:VK}{k k':Bool}(I:Inv X pins σ H s)(q:Q (.bl k) H)(e:k=k'):EP X pins σ Q (.bool k') s:=by
 subst e;exact⟨.bl k,H,I,rfl,q⟩
theorem Qyv:OpR X (compareOp .Eq) rEq:=by
 intro pins s σ H x y v u Q I rx ry h;obtain⟨hs,q⟩:=h;cases x with
 | non=>
  cases rx;cases y with
  |non=>cases ry;exact PySem.EqNone.eq_none_none (Q6 I q (by simp))
  |bl j=>cases ry;exact PySem.EqNone.eq_none_bool (Q6 I q (by simp))
  |int j=>obtain⟨t',rfl⟩:=ry;exact PySem.EqNone.eq_none_int (Q6 I q (by simp))
  |str j=>obtain⟨t',rfl⟩:=ry;exact PySem.EqNone.eq_none_str (Q6 I q (by simp))
  |_=>exact absurd (show false=true from hs) Bw
 | bl i=>
  cases rx;cases y with
  |non=>cases ry;exact PySem.EqNone.eq_bool_none (Q6 I q (by simp))
  |bl j=>cases ry;exact eq_bool (Q6 I q Qir)
  |str j=>obtain⟨t',rfl⟩:=ry;exact PySem.EqMixed.eq_bool_str (Q6 I q (by simp))
  |_=>exact absurd (show false=true from hs) Bw
 | int i=>
  obtain⟨t,rfl⟩:=rx;cases y with
  |non=>cases ry;exact PySem.EqNone.eq_int_none (Q6 I q (by simp))
  |int j=>obtain⟨t',rfl⟩:=ry;exact eq_int (Q6 I q Qni)
  |str j=>obtain⟨t',rfl⟩:=ry;exact PySem.EqMixed.eq_int_str (Q6 I q (by simp))
  |_=>exact absurd (show false=true from hs) Bw
 | str i=>
  obtain⟨t,rfl⟩:=rx;cases y with
  |non=>cases ry;exact PySem.EqNone.eq_str_none (Q6 I q (by simp))
  |bl j=>cases ry;exact PySem.EqMixed.eq_str_bool (Q6 I q (by simp))
  |int j=>obtain⟨t',rfl⟩:=ry;exact PySem.EqMixed.eq_str_int (Q6 I q (by simp))
  |str j=>obtain⟨t',rfl⟩:=ry;exact eq_str (Q6 I q Qnh)
  |_=>exact absurd (show false=true from hs) Bw
 | byt i=>
  obtain⟨t,rfl⟩:=rx;cases y with
  |byt j=>obtain⟨t',rfl⟩:=ry;exact PySem.W.eq_bytes (Q6 I q Qnj)
  |_=>exact absurd (show false=true from hs) Bw
 |_=>cases y<;>exact absurd (show false=true from hs) Bw
theorem Qys:OpR X (compareOp .NotEq) rNe:=by
 intro pins s σ H x y v u Q I rx ry h;obtain⟨hs,q⟩:=h;cases x with
 | non=>
  cases rx;cases y with
  |non=>cases ry;exact PySem.EqNone.ne_none_none (Q6 I q (by simp))
  |bl j=>cases ry;exact PySem.EqNone.ne_none_bool (Q6 I q (by simp))
  |int j=>obtain⟨t',rfl⟩:=ry;exact PySem.EqNone.ne_none_int (Q6 I q (by simp))
  |str j=>obtain⟨t',rfl⟩:=ry;exact PySem.EqNone.ne_none_str (Q6 I q (by simp))
  |_=>exact absurd (show false=true from hs) Bw
 | bl i=>
  cases rx;cases y with
  |non=>cases ry;exact PySem.EqNone.ne_bool_none (Q6 I q (by simp))
  |bl j=>cases ry;exact ne_bool (Q6 I q (congrArg not Qir))
  |str j=>obtain⟨t',rfl⟩:=ry;exact PySem.EqMixed.ne_bool_str (Q6 I q (by simp))
  |_=>exact absurd (show false=true from hs) Bw
 | int i=>
  obtain⟨t,rfl⟩:=rx;cases y with
  |non=>cases ry;exact PySem.EqNone.ne_int_none (Q6 I q (by simp))
  |int j=>obtain⟨t',rfl⟩:=ry;exact ne_int (Q6 I q (congrArg not Qni))
  |str j=>obtain⟨t',rfl⟩:=ry;exact PySem.EqMixed.ne_int_str (Q6 I q (by simp))
  |_=>exact absurd (show false=true from hs) Bw
 | str i=>
  obtain⟨t,rfl⟩:=rx;cases y with
  |non=>cases ry;exact PySem.EqNone.ne_str_none (Q6 I q (by simp))
  |bl j=>cases ry;exact PySem.EqMixed.ne_str_bool (Q6 I q (by simp))
  |int j=>obtain⟨t',rfl⟩:=ry;exact PySem.EqMixed.ne_str_int (Q6 I q (by simp))
  |str j=>obtain⟨t',rfl⟩:=ry;exact ne_str (Q6 I q (congrArg not Qnh))
  |_=>exact absurd (show false=true from hs) Bw
 | byt i=>
  obtain⟨t,rfl⟩:=rx;cases y with
  |byt j=>obtain⟨t',rfl⟩:=ry;exact PySem.W.ne_bytes (Q6 I q (congrArg not Qnj))
  |_=>exact absurd (show false=true from hs) Bw
 |_=>cases y<;>exact absurd (show false=true from hs) Bw
theorem Qyt:OpR X (compareOp .Lt) (rI0 λi j=>.bl (decide (i<j))):=opB0 λ_ _ _ _ _ _ _ q=>lt_int q
theorem Qyu:OpR X (compareOp .Gt) (rI0 λi j=>.bl (decide (j<i))):=opB0 λ_ _ _ _ _ _ _ q=>gt_int q
theorem Qlw:OpR X (compareOp .In) (λx y H Q=>∃i j,x=.str i/\y=.str j/\Q (.bl (!(Rv j i 0 j.length 1).isEmpty)) H):=by
 intro pins s σ H x y v u Q I rx ry h;obtain⟨i,j,rfl,rfl,q⟩:=h;obtain⟨t,rfl⟩:=rx;obtain⟨t',rfl⟩:=ry;exact in_str (Q6 I q rfl)
theorem Qth:OpR X (compareOp .IsNot) (λx y H Q=>y=.non/\Q (.bl (!decide (x=.non))) H):=by
 intro pins s σ H x y v u Q I rx ry h;obtain⟨rfl,q⟩:=h;cases ry;refine isnot_none_gen (Q6 I q ?_);cases x<;>first
  | (cases rx;rfl)
  | (obtain⟨t,rfl⟩:=rx;rfl)
theorem OpR.or{r':R2}(h:OpR X f r)(h':OpR X f r'):OpR X f (λx y H Q=>r x y H Q\/r' x y H Q):=by
 intro pins s σ H x y v u Q I rx ry q;rcases q with q|q
 ·exact h pins s σ H x y v u Q I rx ry q
 ·exact h' pins s σ H x y v u Q I rx ry q
theorem Qq9(b:Expr)(h:op ≠ .In:=by decide)(h2:op ≠ .NotIn:=by decide):behindInMarks op b=false:=by
 have e1:(op==CmpOp.In)=false:=by cases op<;>first|rfl|exact absurd rfl h
 have e2:(op==CmpOp.NotIn)=false:=by cases op<;>first|rfl|exact absurd rfl h2
 cases b<;>simp[behindInMarks,e1,e2]
theorem Qtg(ho:OpR X (compareOp op) r)(ha:PE X a ta)(hb:PE X b tb)(hm:behindInMarks op b=false):PE X (.Compare a [op] [b] pos) (tOp r ta tb):=by
 intro pins s σ H Q I h;exact wpAny_Compare1 (binT ha hb I h λv u s2 x y H2 I2 rx ry q=>ho pins s2 σ H2 x y v u Q I2 rx ry q) hm
def Qx5(t:TE):TT:=λσ H Q=>t σ H λx H'=>∃k,x=.bl k/\Q k H'
theorem Qs3(ho:OpR X (compareOp op) r)(ha:PE X a ta)(hb:PE X b tb)(hm:behindInMarks op b=false):PT X (.Compare a [op] [b] pos) (Qx5 (tOp r ta tb)):=by
 intro pins s σ H Q I h;refine wpAny_isTrue_Compare1 (thn (ha pins s σ H _ I h) λv s1 ⟨x,H1,I1,r1,q1⟩=>thn (hb pins s1 σ H1 _ I1 q1) λu s2 ⟨y,H2,I2,r2,q2⟩=>
  thn (ho pins s2 σ H2 x y v u _ I2 r1 r2 q2) λc s3 ⟨z,H3,I3,r3,k,e,q3⟩=>?_) hm
 subst e;cases r3;exact wpAny_truthy_bool ⟨H3,I3,q3⟩
def TruV(K:Frag)(x:V)(H:Hp)(k:Bool):Prop :=
 match x with
 | .non=>k=false
 | .bl b=>k=b
 | .int i=>k=(i != 0)
 | .str y=>y.length<=sizeLine/\k=((y.length:Int) != 0)
 | .byt y=>y.size<=sizeLine/\k=((y.size:Int) != 0)
 | .ref p=>(∃xs,SqL K H p xs/\k = !xs.isEmpty)\/(∃xs,SqT K H p xs/\k = !xs.isEmpty)\/∃kvs,H p=some (.dK kvs)/\k = !kvs.isEmpty
 |_=>False
theorem Qjm{κ:Type}{kvs:List (κ×V)}{vs:List (κ×Value)}(r:KV kvs vs):(!vs.isEmpty) = !kvs.isEmpty:=by
 cases r<;>rfl
theorem Qcg(r:Vals xs its):(!its.toArray.isEmpty) = !xs.isEmpty:=by
 cases r<;>simp
theorem Qce:(sizeLine:Nat)<2 ^ 63:=by rw[Md];decide
theorem Qup:TruR X (λx H Q=>∃k,TruV X.K x H k/\Q k H):=by
 intro pins s σ H x v Q I rx h;obtain⟨k,e,q⟩:=h;have hl:=Qce;have hs:sizeLine=16777216:=Md;cases x with
 | non=>
  cases rx;have e':k=false:=e;subst e';exact truthy_none ⟨H,I,q⟩
 | bl b=>
  cases rx;have e':k=b:=e;subst e';exact wpAny_truthy_bool ⟨H,I,q⟩
 | int i=>
  obtain⟨t,rfl⟩:=rx;have e':k=(i != 0):=e;subst e';exact PySem.P.truthy_int ⟨H,I,q⟩
 | str y=>
  obtain⟨t,rfl⟩:=rx;obtain⟨hy,e'⟩:y.length<=sizeLine/\k=((y.length:Int) != 0):=e;subst e';exact PySem.P.truthy_str (by lia) ⟨H,I.tok _,q⟩
 | byt y=>
  obtain⟨t,rfl⟩:=rx;obtain⟨hy,e'⟩:y.size<=sizeLine/\k=((y.size:Int) != 0):=e;subst e';exact PySem.W.truthy_bytes (by lia) ⟨H,I.tok _,q⟩
 | ref p=>
  cases rx;have e':(∃xs,SqL X.K H p xs/\k = !xs.isEmpty)\/(∃xs,SqT X.K H p xs/\k = !xs.isEmpty)\/∃kvs,H p=some (.dK kvs)/\k = !kvs.isEmpty:=e;rcases e' with⟨xs,hx,e'⟩|⟨xs,hx,e'⟩|⟨kvs,hx,e'⟩
  ·subst e';obtain⟨its,r,pl,hz⟩:=I.list hx;have hlen:=r.length;exact wpAny_truthy_list pl.isList (by simp only[Bu];lia) ⟨H,I.tok _,by rw[Qcg r];exact q⟩
  ·subst e';obtain⟨its,r,pl,hz⟩:=I.tuple hx;have hlen:=r.length;exact truthy_tuple pl (by simp only[Bu];lia) ⟨H,I.tok _,by rw[Qcg r];exact q⟩
  ·subst e';obtain⟨hz,hS,vs,r,m⟩:kvs.length<=sizeLine/\(p==sysModules)=false/\∃vs,KV kvs vs/\s.heap.DictOf (Q1 X.prog X.w) p vs:=I.hok p _ hx;have hlen:kvs.length=vs.length:=No r;exact wpAny_truthy_dict hS m (by lia) ⟨H,I.tok _,by rw[Qjm r];exact q⟩
 |_=>exact(show False from e).elim
theorem Qov(ha:PE X a ta)(he:∀whole,isTrue a X.env whole=(do let v ← whole;standAt a.pos;holding [v] (truthy v))) :
  PT X a (λσ H Q=>ta σ H λx H'=>∃k,TruV X.K x H' k/\Q k H'):=by
 intro pins s σ H Q I h
 exact isTrue_plain (thn (ha pins s σ H _ I h) λv s1 ⟨x,H1,I1,r1,q1⟩=>Qup pins s1 σ H1 x v Q I1 r1 q1) (he _)
theorem Qjd:OpR X (binaryOp .Add) (λx y H Q=>∃i j,x=.str i/\y=.str j/\i.length+j.length<=sizeLine/\Q (.str (i++j)) H):=by
 intro pins s σ H x y v u Q I rx ry h;obtain⟨i,j,rfl,rfl,hz,q⟩:=h;obtain⟨t,rfl⟩:=rx;obtain⟨t',rfl⟩:=ry;exact add_str (λt' tk=>⟨.str (i++j),H,I.tok _,⟨_,rfl⟩,q⟩) hz
theorem Qbr{x:V}(r:Vals [x] us):∃u,us=[u]/\RelV x u:=by
 cases r with
 |cons r1 r2=>cases r2;exact⟨_,rfl,r1⟩
theorem Qnw:Uz X (.type "int") (λxs H Q=>(∃i,xs=[.int i]/\Q (.int i) H)\/∃k,xs=[.bl k]/\Q (.int (if k then 1 else 0)) H):=by
 intro pins s σ H xs us Q I r h;rcases h with⟨i,rfl,q⟩|⟨k,rfl,q⟩
 ·obtain⟨u,rfl,t,rfl⟩:=Qbr r;exact call_int_int ⟨.int i,H,I,⟨_,rfl⟩,q⟩
 ·obtain⟨u,rfl,r1⟩:=Qbr r;cases r1;exact call_int_bool ⟨.int (if k then 1 else 0),H,I.tok _,⟨_,rfl⟩,q⟩
def LenV(K:Frag)(x:V)(H:Hp)(n:Nat):Prop :=
 match x with
 | .str y=>y.length<=sizeLine/\n=y.length
 | .byt y=>y.size<=sizeLine/\n=y.size
 | .ref p=>(∃xs,SqL K H p xs/\n=xs.length)\/∃xs,SqT K H p xs/\n=xs.length
 |_=>False
theorem Qqc:Uz X (.builtin "len") (λxs H Q=>∃x n,xs=[x]/\LenV X.K x H n/\Q (.int n) H):=by
 intro pins s σ H xs us Q I r h;obtain⟨x,n,rfl,e,q⟩:=h;obtain⟨u,rfl,rx⟩:=Qbr r;have hl:=Qce;have hs:sizeLine=16777216:=Md;cases x with
 | str y=>
  obtain⟨t,rfl⟩:=rx;obtain⟨hy,e'⟩:y.length<=sizeLine/\n=y.length:=e;subst e';exact len_str (by lia) ⟨.int _,H,I.tok _,⟨_,rfl⟩,q⟩
 | byt y=>
  obtain⟨t,rfl⟩:=rx;obtain⟨hy,e'⟩:y.size<=sizeLine/\n=y.size:=e;subst e';exact PySem.W.len_bytes (by lia) ⟨.int _,H,I.tok _,⟨_,rfl⟩,q⟩
 | ref p=>
  cases rx;have e':(∃xs,SqL X.K H p xs/\n=xs.length)\/∃xs,SqT X.K H p xs/\n=xs.length:=e;rcases e' with⟨xs,hx,e'⟩|⟨xs,hx,e'⟩
  ·subst e';obtain⟨its,r',pl,hz⟩:=I.list hx;have hlen:=r'.length;exact Calls.call_len_list pl.isList (by simp only[Bu];lia) ⟨.int xs.length,H,I.tok _,⟨_,by simp only[Bu];rw[hlen]⟩,q⟩
  ·subst e';obtain⟨its,r',pl,hz⟩:=I.tuple hx;have hlen:=r'.length;exact len_tuple pl (by simp only[Bu];lia) ⟨.int xs.length,H,I.tok _,⟨_,by simp only[Bu];rw[hlen]⟩,q⟩
 |_=>exact(show False from e).elim
end
theorem RelO.some_of{o:Option Value}(r:RelO (some v) o):∃u,o=some u/\RelV v u:=by
 cases o with
 |none=>exact(show False from r).elim
 |some u=>exact⟨u,rfl,r⟩
structure Con(K:Frag)(C:Addr)(f:Str)(v:V)(u:Value):Prop where
 at_:PySem.W.findIn K (.ref C) f=some (some u)
 rel:RelV v u
 get:PySem.W.specialIn K u "__get__" = some none
 cp:PySem.W.copiedNames.contains f=false
structure Room(k:Nat)(A:Around):Prop where
 hd:A.handled=none
 dp:A.depth+3*k+5<recursionLimit
 un:A.units+16*k+200<cLine
theorem Room.mono{k:Nat}(r:Room k A)(h:j<=k):Room j A:=⟨r.hd,by have:=r.dp;lia,by have:=r.un;lia⟩
theorem Room.deeper{k:Nat}(r:Room (k+1) A)(env:Env):Room k (A.deeper env) :=
 ⟨r.hd,by have:=r.dp;show A.depth+1+3*k+5<_;lia,by have:=r.un;show A.units+3+16*k+200<_;lia⟩
theorem Room.depth{k:Nat}(r:Room k A):A.depth<recursionLimit:=by have:=r.dp;lia
theorem Room.units{k:Nat}(r:Room k A):A.units+64<cLine:=by have:=r.un;lia
def tNil:TA:=λ_ H Q=>Q [] H
def Quu(ta:TE)(tr:TA):TA:=λσ H Q=>ta σ H λx H1=>tr σ H1 λxs H2=>Q (x::xs) H2
section
variable {t:TA}
theorem Xs:PA X [] tNil:=λ_ _ _ _ H Q I h=>S9 ⟨[],H,I,.nil,h⟩
theorem Z5(ha:PE X e te)(hr:PA X es t)(hs:starEach (e::es) X.env=(false,eval e X.env)::starEach es X.env:=by rfl):PA X (e::es) (Quu te t):=by
 intro pos pins s σ H Q I h;rw[hs];show wpAny _ _ (spliced ((false,eval e X.env)::backTo pos (starEach es X.env))) _ _ s;refine Ry (thn (ha pins s σ H _ I h) λu s1 ⟨x,H1,I1,r1,q1⟩=>?_);exact thn (hr pos pins s1 σ H1 _ I1 q1) λus s2 ⟨xs,H2,I2,r2,q2⟩=>⟨x::xs,H2,I2,.cons r1 r2,q2⟩
def tTup(t:TA):TE:=λσ H Q=>t σ H λxs H1=>xs.length<=sizeLine/\∀p,H1 p=none->Q (.ref p) (upd H1 p (.tup xs))
def tLst(t:TA):TE:=λσ H Q=>t σ H λxs H1=>xs.length<=sizeLine/\∀p,H1 p=none->Q (.ref p) (upd H1 p (.lst xs))
theorem Qvt{x1}(h:PA X es t):PE X (.Tuple es x1 pos) (tTup t):=by
 intro pins s σ H Q I hq;refine wpAny_Tuple_spliced (thn (h pos pins s σ H _ I hq) λus s1 ⟨xs,H1,I1,r,z,q⟩=>⟨by rw[← r.length];exact z,?_⟩);have hf:H1 s1.heap.objs.size=none:=I1.hok.fresh (At _);refine⟨.ref s1.heap.objs.size,upd H1 s1.heap.objs.size (.tup xs),I1.laid (t':=s1.toks) (λb u e=>An _ e) (At _) ?_,rfl,q _ hf⟩;exact⟨z,us,r,⟨_,Bp _ rfl,rfl,_,rfl⟩⟩
theorem Qq4(h:PA X es t):PE X (.List es pos) (tLst t):=by
 intro pins s σ H Q I hq;refine wpAny_List_spliced (thn (h pos pins s σ H _ I hq) λus s1 ⟨xs,H1,I1,r,z,q⟩=>⟨by rw[← r.length];exact z,?_⟩);have hf:H1 s1.heap.objs.size=none:=I1.hok.fresh (At _);refine⟨.ref s1.heap.objs.size,upd H1 s1.heap.objs.size (.lst xs),I1.laid (t':=s1.toks) (λb u e=>An _ e) (At _) ?_,rfl,q _ hf⟩;exact⟨z,us,0,r,Bp _ rfl⟩
end
abbrev Sp:=List V->Hp->VK->XK->Prop
abbrev CXT:=List Env->Hp->Shared->XK->Value->Shared->Prop
end L2
variable {f:Dj}{r:L2.V->List L2.V->L2.Hp->L2.VK->Prop}{fd:PySem.FuncData}{ps:List Re}{CX:L2.CXT}{mg:Re->Option Fg}{base:Kf}{qual name:Re}{scope:PySem.Scope}{outer:List Do}{od:PySem.Obj}{osl:Array (Option Fg)}{T:String}{apos:Sx}{m:Nat}
namespace L2
open PySem PySem.Spec PyProof.Rows
structure Env0(P:Program)(w:World)(K:Frag)(mg:Str->Option Value)(base:Heap)(A:Around)(outer:List Env)(s:Shared)(H:Hp):Prop where
 frames:A.frames=some outer
 mod:Mod K mg base
 bs:∀b o,base.get? b=some o->s.heap.get? b=some o/\H b=none
 bsz:base.objs.size<=s.heap.objs.size
 funs:s.heap.FunFrames base outer
 frf:∀b∈frs outer,H b=none
 hok:HOk P w H s.heap
 bare:AllBare s.gens
def CE(outer:List Env)(P:Program)(w:World)(H:Hp)(s:Shared)(Q:VK)(u:Value)(s':Shared):Prop :=
 ∃v H',s'.os=s.os/\AllBare s'.gens/\Un (frs outer) [] H H' s.heap s'.heap/\HOk P w H' s'.heap/\RelV v u/\Q v H'
def CR(CX:CXT)(outer:List Env)(P:Program)(w:World)(H:Hp)(s:Shared)(Q:VK)(E:XK)(r:Result)(s':Shared):Prop :=
 match r with
 | .ok (.ret u)=>CE outer P w H s Q u s'
 | .ok _=>False
 | .error e=>CX outer H s E e s'
structure FnOk(P:Program)(w:World)(K:Frag)(mg:Str->Option Value)(base:Heap)(CX:CXT)(k:Nat)(f:Addr)(fd:FuncData)(ps:List Str)(sp:Sp):Prop where
 len:∀vs H Q E,sp vs H Q E->vs.length=ps.length
 run:∀(A:Around)(outer:List Env)(s:Shared)(H:Hp)(args:Args)(us:List Value)(vs:List V)(Q:VK)(E:XK),Room k A->Env0 P w K mg base A outer s H->BindsTo s fd args (ps.zip us)->Vals vs us->sp vs H Q E ->
  codeAny (model P w) A (.call (.ref f) args) (CR CX outer P w H s Q E) s
theorem Inv.env0(I:Inv X pins σ H s):Env0 X.prog X.w X.K X.mg X.base X.A X.stack s H :=
 ⟨I.ok.frames,I.ok.mod,I.bs,Dy I.ok.bsz I.sz,I.stack,I.stkFree,I.hok,I.bare⟩
theorem Inv.after{Q:VK}(I:Inv X pins σ H s)(h:CE X.stack X.prog X.w H s Q u s'):EP X pins σ Q u s':=by
 obtain⟨v,H',os,bare,un,hok,r,q⟩:=h;obtain⟨hh,g,d,t,os'⟩:=s';obtain rfl:os'=s.os:=os;exact⟨v,H',I.call (h':=hh) (g':=g) (d':=d) (t':=t) (ch:=[]) un hok bare (λb z=>absurd z (by simp)),r,q⟩
def Qya(sp:Sp)(dvs:List V)(E:XK)(t:TA):TE:=λσ H Q=>t σ H λvs H1=>sp (vs++dvs) H1 Q E
def Qfp(K:Frag)(fd:FuncData)(ps:List Str)(ds:List Value):Prop :=
 ∀(s:Shared)(us:List Value),K.In s.heap->(us++ds).length=ps.length->BindsTo s fd ⟨us,[]⟩ (ps.zip (us++ds))
theorem Qfp.all{K:Frag}(h:∀us:List Value,us.length=ps.length->bindArgs fd ⟨us,[]⟩=pure (ps.zip us)):Qfp K fd ps []:=λs us _ hl=>by
 rw[D6]at hl ⊢;exact .of_eq (h us hl)
def Qn6(CX:CXT)(X:Cx)(E:XK):Prop:=∀(pins:List (Addr×Obj)) (σ:St) (H:Hp) (s:Shared) (e:Value) (s':Shared),Inv X pins σ H s->CX X.stack H s E e s'->X.xe e s'
section
variable {k:Nat}{sp:Sp}{dvs:List V}{ds:List Value}{E:XK}{t:TA}
theorem Qqs{Q:VK}(F:FnOk X.prog X.w X.K X.mg X.base CX k f fd ps sp)(hr:Room k X.A)(hb:Qfp X.K fd ps ds)(hd:Vals dvs ds)(hx:Qn6 CX X E)
  (I:Inv X pins σ H s) (r:Vals vs us) (h:sp (vs++dvs) H Q E):wpAny (model X.prog X.w) X.A (call (.ref f) us) (EP X pins σ Q) X.xe s:=by
 have r2:Vals (vs++dvs) (us++ds):=r.append hd;have hl:(us++ds).length=ps.length:=by rw[← r2.length];exact F.len _ _ _ _ h
 refine wpAny_call (Tp (F.run X.A X.stack s H ⟨us,[]⟩ (us++ds) (vs++dvs) Q E hr I.env0 (hb s us I.kIn hl) r2 h) λr s' hq=>?_);cases r with
 |error e=>exact hx pins σ H s e s' I hq
 | ok fl=>
  cases fl with
  |ret u=>exact I.after hq
  |next=>exact Fx hq
  |brk=>exact Fx hq
  |cont=>exact Fx hq
theorem Qls(F:FnOk X.prog X.w X.K X.mg X.base CX k f fd ps sp)(hr:Room k X.A)(hg:Gl X x)(hm:X.mg x=some (.ref f))(hk:keepIn X.K (.ref f)=true)(hb:Qfp X.K fd ps ds)(hd:Vals dvs ds)(hx:Qn6 CX X E)
  (ha:PA X (e::es) t) (hdb:(x==("__debug__":Str))=false:=by decide) (he:starEach (e::es) X.env=(false,eval e X.env)::starEach es X.env:=by rfl) (hpl:(backTo pos (starEach es X.env)).any (·.1)=false:=by rfl) :
  PE X (.Call (.Name x p) (e::es) [] pos) (Qya sp dvs E t):=by
 intro pins s σ H Q I h;refine Nu (Qdi I hg hm ?_ hdb);refine callWith_K (h₀:=X.base) I.ok.mod.kin hk (thn (ha pos pins s σ H _ I h) λus s1 ⟨vs,H1,I1,r,q⟩=>⟨I1.kIn,?_⟩) he hpl;exact Qqs F hr hb hd hx I1 r q
end
structure FnScope(N P:List Str)(sc:Scope):Prop where
 kind:sc.kind=.function
 co:sc.isCoroutine=false
 gen:sc.isGenerator=false
 nd:N.Nodup
 pre:N.take P.length=P
 par:∀x∈P,sc.names.lookup x=some .local\/sc.names.lookup x=some .cell
 nofree:∀y∈sc.names,y.2 ≠ .free
theorem Qe8{kindOf:Str->Option NameKind}{x:Str}:∀{binds:List (Str×Value)} {m:Str->Option Value},(∀v,(x,v)∉binds)->bindL kindOf binds m x=m x
 | [],_,_=>rfl
 | (n,v)::r,m,h=>by
  unfold bindL;rw[Qe8 λw hw=>h w (Al _ hw)];split
  ·have:x≠n:=by rintro rfl;exact h v Ak
   simp[this]
  ·rfl
theorem Qfa{kindOf:Str->Option NameKind}{x:Str}:∀{binds:List (Str×Value)} {m:Str->Option Value},(∀v,(x,v)∉binds)->bindC kindOf binds m x=m x
 | [],_,_=>rfl
 | (n,v)::r,m,h=>by
  unfold bindC;rw[Qfa λw hw=>h w (Al _ hw)];split
  ·rfl
  ·have:x≠n:=by rintro rfl;exact h v Ak
   simp[this]
theorem Qe9{kindOf:Str->Option NameKind}{x:Str}{v:Value}:∀{P:List Str}{vs:List Value}{i:Nat}{m:Str->Option Value},P.Nodup->P[i]? = some x->vs[i]? = some v->kindOf x=some .local ->
  bindL kindOf (P.zip vs) m x=some v
 | [],_,_,_,_,h,_,_=>by simp at h
 |_::_,[],_,_,_,_,h,_=>by simp at h
 | p::P,w::vs,0,m,nd,h1,h2,hk=>by
  simp at h1 h2;subst h1;subst h2;show bindL kindOf ((p,w)::P.zip vs) m p=_;unfold bindL;rw[Qe8 λv hv=>(Bd.mp nd).1 (Sr hv).1,if_pos hk];simp
 | p::P,w::vs,i+1,m,nd,h1,h2,hk=>by
  show bindL kindOf ((p,w)::P.zip vs) m x=_;unfold bindL;exact Qe9 (i:=i) (Bd.mp nd).2 (by simpa using h1) (by simpa using h2) hk
theorem Qfb{kindOf:Str->Option NameKind}{x:Str}{v:Value}:∀{P:List Str}{vs:List Value}{i:Nat}{m:Str->Option Value},P.Nodup->P[i]? = some x->vs[i]? = some v->kindOf x≠some .local ->
  bindC kindOf (P.zip vs) m x=some v
 | [],_,_,_,_,h,_,_=>by simp at h
 |_::_,[],_,_,_,_,h,_=>by simp at h
 | p::P,w::vs,0,m,nd,h1,h2,hk=>by
  simp at h1 h2;subst h1;subst h2;show bindC kindOf ((p,w)::P.zip vs) m p=_;unfold bindC;rw[Qfa λv hv=>(Bd.mp nd).1 (Sr hv).1,if_neg hk];simp
 | p::P,w::vs,i+1,m,nd,h1,h2,hk=>by
  show bindC kindOf ((p,w)::P.zip vs) m x=_;unfold bindC;exact Qfb (i:=i) (Bd.mp nd).2 (by simpa using h1) (by simpa using h2) hk
def start(N:List Str)(vs:List V):St:=vs.map some++Bt (N.length-vs.length) none
noncomputable def cxOf(CX:CXT)(P:Program)(w:World)(K:Frag)(mg:Str->Option Value)(base:Heap)(N:List Str)(qual:Str)(scope:Scope)(f:Addr)(cd:Value)(A:Around)(outer:List Env)(s:Shared)(H:Hp)(E:XK):Cx where
 prog:=P
 w:=w
 K:=K
 mg:=mg
 base:=base
 A:=A.deeper (envOfC qual scope s.heap.objs.size f cd)
 N:=N
 s₀:=s
 H₀:=H
 env:=envOfC qual scope s.heap.objs.size f cd
 outer:=outer
 stack:=envOfC qual scope s.heap.objs.size f cd::outer
 ex:=[]
 calm:=true
 fn:=λ_=>true
 pn:=[]
 xe:=λe s'=>wpAny (model P w) (A.deeper (envOfC qual scope s.heap.objs.size f cd)) (leaving (envOfC qual scope s.heap.objs.size f cd) e) (λ_ s''=>CX outer H s E e s'') (λe' s''=>CX outer H s E e' s'') s'
theorem Qit{sc:Scope}(h:sc.names.lookup x=some .cell):∃c,(cellsFrom n sc.names []).lookup x=some c:=by
 have q:=cellsFrom_some sc.names n [] (.inl h);exact Ma.mp q
theorem Qms{K:Frag}{cd:Value}{s1:Shared}{E:XK}
  (S:FnScope N ps scope) (hd:A.handled=none) (e0:Env0 P w K mg base A outer s H) (hl:vs.length=ps.length) (r:Vals vs us)
  (x:InCallC s s.heap.objs.size (bindL (envOfC qual scope s.heap.objs.size f cd).kindOf (ps.zip us) λ_=>none) (cellsFrom (s.heap.objs.size+1) scope.names []) (bindC (envOfC qual scope s.heap.objs.size f cd).kindOf (ps.zip us) λ_=>none) s1) :
  Inv (cxOf CX P w K mg base N qual scope f cd A outer s H E) [] (start N vs) H s1:=by
 have hpl:ps.length<=N.length:=by have:=congrArg Rb S.pre;rw[Dh]at this;lia
 obtain ⟨h1,tk,rfl,hk⟩:=x.done;have noA:∀b:Addr,b∉(cxOf CX P w K mg base N qual scope f cd A outer s H E).ex:=λb z=>absurd (show b∈([]:List Addr)from z) (by simp);refine⟨⟨e0.mod,S.kind,rfl,rfl,At _,λy z c h1 h2=>?_,λy hy=>?_,λy c _ h=>?_,λ_=>hd,Lm e0.frames,.inr ⟨rfl,rfl⟩,λb z=>absurd z (noA b),e0.bs,e0.bsz,λb _ _=>noA b,λb z=>absurd z (noA b),e0.funs,e0.frf⟩,
  rfl,e0.bare,Un.kept hk,⟨_,x.toInCall.ns,λi y v h1 h2 h3=>?_⟩,λy c h=>⟨_,x.cell y c h⟩,e0.hok.fresh (At _),λy c h=>?_,λp hp=>absurd (show p∈([]:List (Addr×Obj))from hp) (by simp),e0.hok.kept hk,?_⟩
 ·exact name_of_addr x.apart (Dp h1) (Dp h2)
 ·have hy:scope.names.lookup y=some .cell\/scope.names.lookup y=some .free:=hy;rcases hy with hy|hy
  ·exact Qit hy
  ·exact absurd rfl (S.nofree _ (Dp hy))
 ·exact Nj (x.above y c (Dp h))
 ·have hi:i<vs.length:=by
   unfold start at h2;by_cases hi:i<vs.length
   ·exact hi
   ·rw[Dt (by simpa using hi)]at h2;rw[List.getElem?_replicate]at h2
    split at h2<;>cases h2
  have ha:vs[i]? = some v:=by
   unfold start at h2;rw[Dg (by simpa using hi),Au]at h2;cases e:vs[i]? with
   |none=>rw[e]at h2;cases h2
   |some a=>rw[e]at h2;cases h2;rfl
  obtain ⟨u,hu,rv⟩:=r.get ha;have hp:ps[i]? = some y:=by
   rw[← S.pre,Mb (by lia)];exact h1
  have ndP:ps.Nodup:=by rw[← S.pre];exact S.nd.sublist (Oj _ _)
  refine⟨u,rv,?_⟩;rcases S.par y (Du hp)with k|k
  ·exact .inl ⟨k,Qe9 ndP hp hu k⟩
  ·obtain⟨c,e⟩:=Qit (n:=s.heap.objs.size+1) k;refine .inr ⟨.inl k,c,e,?_⟩;have q:=x.cell y c e;rw[Qfb ndP hp hu (by show scope.names.lookup y≠_;rw[k];decide)]at q;exact q
 ·exact e0.hok.fresh (Nj (x.above y c (Dp h)))
 ·unfold start;show _=N.length;rw[Bx,Ao,List.length_replicate];lia
theorem Qxa{K:Frag}{k:Nat}{params:Arguments}{dV kV doc pm cdv ct oc:Value}{an od:Option Addr}{sp:Sp}(lk:K.lookup f=some ⟨oc,od,.func (fnOf name qual params body scope dV kV doc pm an cdv ct),osl⟩)(hcd:codeIn K cdv qual=true)(S:FnScope N ps scope)
  (len:∀vs H Q E,sp vs H Q E->vs.length=ps.length)
  (hbody:∀(A:Around)(outer:List Env)(s:Shared)(H:Hp)(vs:List V)(Q:VK)(E:XK),Room k (A.deeper (envOfC qual scope s.heap.objs.size f cdv))->sp vs H Q E ->
   ∃t,PSs (cxOf CX P w K mg base N qual scope f cdv A outer s H E) body t/\t { nx:=λ_ H'=>Q .non H',rt:=Q } (start N vs) H) :
  FnOk P w K mg base CX (k+1) f (fnOf name qual params body scope dV kV doc pm an cdv ct) ps sp:=by
 refine ⟨len,λA outer s H args us vs Q E hr e0 hb r hsp=>?_⟩;have hl:=len _ _ _ _ hsp;have KX:K.In s.heap:=e0.mod.kin.keeps λb o e=>(e0.bs b o e).1;have lim:s.heap.NoLimit:=e0.mod.nolimit.keeps λb o e=>(e0.bs b o e).1;have hkind:∀y∈ps.zip us,scope.names.lookup y.1=some .local\/(scope.names.lookup y.1=some .cell/\((cellsFrom (s.heap.objs.size+1) scope.names []).lookup y.1).isSome=true):=λ⟨n,v⟩ hy=>by
  rcases S.par n (Sr hy).1 with q|q
  ·exact .inl q
  ·exact .inr ⟨q,cellsFrom_some _ _ _ (.inl q)⟩
 refine codeAny_call_function hr.depth (KX _ _ lk) rfl S.co S.gen rfl (PySem.W.codeRec_of KX hcd) (hb _ _ _ _ ?_);refine wpAny_newFunctionEnv_cells S.kind hkind λenv he s1 x=>?_;subst he;refine⟨lim.keeps x.toInCall.keep,codeAny_func ?_⟩;obtain⟨t,ht,hq⟩:=hbody A outer s H vs Q E (hr.deeper _) hsp;have I:Inv (cxOf CX P w K mg base N qual scope f cdv A outer s H E) [] (start N vs) H s1:=Qms S hr.hd e0 hl r x;refine Fw (ht [] s1 (start N vs) H _ I hq) (λfl s' hs=>?_) λe s' hs=>hs;have fin:∀{σ':St}{H':Hp}{v:V}{u:Value},Inv (cxOf CX P w K mg base N qual scope f cdv A outer s H E) [] σ' H' s'->RelV v u->Q v H'->CE outer P w H s Q u s' :=
  λ{σ' H' v u} J rv q=>⟨v,H',J.os,J.bare,J.base,J.hok,rv,q⟩
 cases fl with
 | ret u=>
  obtain⟨v,σ',H',J,rv,q⟩:=hs;exact fin J rv q
 | next=>
  obtain⟨σ',H',J,q⟩:=hs;exact fin (v:=V.non) (u:=My) J rfl q
 | brk=>
  obtain⟨_,_,_,q⟩:=hs;exact Fx q
 | cont=>
  obtain⟨_,_,_,q⟩:=hs;exact Fx q
section
variable {t:TA}{id:String}{r:List V->Hp->VK->Prop}
def tCB(r:List V->Hp->VK->Prop)(t:TA):TE:=λσ H Q=>t σ H λvs H1=>r vs H1 Q
theorem Qpa(hc:Uz X (.builtin id) r)(hg:Gl X x)(hm:X.mg x=none)(hv:bootBuiltins x=some (.builtin id))(ha:PA X (e::es) t)(hn:x ≠ "__name__":=by decide)(hdb:(x==("__debug__":Str))=false:=by decide)
  (he:starEach (e::es) X.env=(false,eval e X.env)::starEach es X.env:=by rfl) (hpl:(backTo pos (starEach es X.env)).any (·.1)=false:=by rfl):PE X (.Call (.Name x p) (e::es) [] pos) (tCB r t):=by
 intro pins s σ H Q I h;refine Nu (Qba I hg hm hv ?_ hn hdb);exact PyProof.Rows.callWith_builtin1 (thn (ha pos pins s σ H _ I h) λus s1 ⟨vs,H1,I1,r1,q1⟩=>hc pins s1 σ H1 vs us Q I1 r1 q1) he hpl
theorem Qlr(hc:Uz X (.type T) r)(hg:Gl X x)(hm:X.mg x=none)(hv:bootBuiltins x=some (.type T))(ha:PA X (e::es) t)(hn:x ≠ "__name__":=by decide)(hdb:(x==("__debug__":Str))=false:=by decide)
  (he:starEach (e::es) X.env=(false,eval e X.env)::starEach es X.env:=by rfl) (hpl:(backTo pos (starEach es X.env)).any (·.1)=false:=by rfl):PE X (.Call (.Name x p) (e::es) [] pos) (tCB r t):=by
 intro pins s σ H Q I h;refine Nu (Qba I hg hm hv ?_ hn hdb);exact Mj (thn (ha pos pins s σ H _ I h) λus s1 ⟨vs,H1,I1,r1,q1⟩=>hc pins s1 σ H1 vs us Q I1 r1 q1) he hpl
end
end L2
variable {ws:List Fg}{sl:Dj}{vl vu:Fg}{items:Array Fg}{prog:Lq}
namespace HT
open PySem PyProof.Rows
def Zg:List Int->List Int->Bool
 | [],[]=>false
 | [],_::_=>true
 |_::_,[]=>false
 |x::xs,y::ys=>if x=y then Zg xs ys else decide (x<y)
theorem Y6(x y:Int)(xs ys:List Int):Zg (x::xs) (y::ys)=if x=y then Zg xs ys else decide (x<y):=rfl
theorem Qdh:Zg [] []=false:=rfl
theorem Qug{t:Addr}{vs:List Value}(ht:IsTup s.heap t vs.toArray)(hb:IsTup s.heap b ws.toArray)(hv:vs≠[])
  (h1:ws=[]->Q (.ref t) s) (h2:ws≠[]->Q (.ref s.heap.objs.size) { s with heap:=s.heap.push { cls:=.type "tuple",data:=.seq (vs++ws).toArray } })
  (hsz:vs.length+ws.length<=sizeLine):wpAny (model prog w) A (binaryOp .Add (.ref t) (.ref b)) Q E s:=by
 obtain⟨⟨cls,dd,data,sl⟩,ho,hc,n,hd⟩:=id ht;obtain⟨⟨cls2,dd2,data2,sl2⟩,ho2,hc2,n2,hd2⟩:=id hb;simp only at hc hd hc2 hd2;subst hc hd hc2 hd2;have e:vs.toArray++ws.toArray=(vs++ws).toArray:=by simp
 by_cases hw:ws=[]
 ·exact concat_meets ⟨_,ho,rfl⟩ ⟨_,ho2,rfl⟩ Kk Ls Th S8 (Sy _ _)
   (tuple_addW1 t b vs.toArray ws.toArray n n2 dd dd2 sl sl2 (by simpa using hv) (by simp[hw])) ⟨ho,ho2,h1 hw⟩
 ·refine concat_meets ⟨_,ho,rfl⟩ ⟨_,ho2,rfl⟩ Kk Ls Th S8 (Sy _ _)
   (tuple_addW2 t b vs.toArray ws.toArray n n2 dd dd2 sl sl2 (by simpa using hv) (by simpa using hw) (by rw[Bu,Bu];exact hsz)) ⟨ho,ho2,?_⟩
  rw[e];exact h2 hw
def sIx(n d:Nat):Option Int->Nat
 |none=>d
 |some v=>if v<0 then (v+(n:Int)).toNat else min v.toNat n
theorem Qhi(n d:Nat):sIx n d none=d:=rfl
theorem Qk3(n d k:Nat):sIx n d (some (k:Int))=min k n:=by
 show(if (k:Int)<0 then ((k:Int)+(n:Int)).toNat else min (k:Int).toNat n)=min k n;rw[if_neg (by lia),Nf]
theorem Qu1(n d:Nat)(hd:d<=n)(o:Option Int):sIx n d o<=n:=by
 cases o with
 |none=>exact hd
 | some v=>
  show(if v<0 then (v+(n:Int)).toNat else min v.toNat n)<=n;by_cases hv:v<0
  ·rw[if_pos hv];lia
  ·rw[if_neg hv];exact Nat.min_le_right _ _
theorem Qnr(v:Int)(n d:Nat):(if v<0 then max (v+(n:Int)) 0 else min v (n:Int))=((sIx n d (some v):Nat):Int):=by
 show(if v<0 then max (v+(n:Int)) 0 else min v (n:Int))=(((if v<0 then (v+(n:Int)).toNat else min v.toNat n):Nat):Int)
 by_cases hv:v<0
 ·simp only[if_pos hv];lia
 ·simp only[if_neg hv];lia
theorem Qjy(lo hi:Option Int)(n:Nat):Ss lo hi 1 (n:Int)=(((sIx n 0 lo:Nat):Int),((sIx n n hi:Nat):Int)):=by
 have h1:¬((1:Int)<0):=by lia
 unfold Ss;simp only[h1,if_false];refine Prod.ext ?_ ?_
 ·cases lo with
  |none=>rfl
  |some v=>exact Qnr v n 0
 ·cases hi with
  |none=>rfl
  |some v=>exact Qnr v n n
theorem Qi8(i j:Nat):Ro (i:Int) (j:Int) 1=j-i:=by
 unfold Ro;have h1:(1:Int) > 0:=by lia
 simp only[h1,if_true,Int.ediv_one]
 split<;>lia
theorem Qb6{v:Value}{o:Option Int}{Q:Option Int->Shared->Prop}(p:IsPart v o)(h:Q o s):wpAny (model prog w) A (Builtin.Slice.slicePartIndex v) Q E s:=by
 cases p with
 |none=>exact slicePart_none h
 |int i t=>exact slicePart_int h
theorem Vh{Q:Int×Int×Nat->Shared->Prop}(hs:s.heap.IsSliceOf sl vl vu .none)(pl:IsPart vl lo)(pu:IsPart vu hi)
  (h:Q (((sIx n 0 lo:Nat):Int),1,sIx n n hi-sIx n 0 lo) s):wpAny (model prog w) A (Is (.ref sl) (pure (n:Int))) Q E s:=by
 obtain⟨os,hos,hcs,hds⟩:=id hs;unfold Is Builtin.Slice.sliceFields;refine Ah (Ah (Me hos hds (x:=vl) rfl (Ah (Me hos hds (x:=vu) rfl (Ah (Me hos hds (x:=.none) rfl (As ?_)))))));refine Ah (slicePart_none ?_);show wpAny _ _ (if ((1:Int)==0)=true then _ else _) _ _ s;rw[if_neg (by decide)];refine Ah (Qb6 pl (Ah (Qb6 pu (Ah (As ?_)))));show wpAny _ _ (match Ss lo hi 1 (n:Int)with|(lo,hi)=>pure (lo,(1:Int),Ro lo hi 1)) _ _ s;rw[Qjy lo hi n];show wpAny _ _ (pure (((sIx n 0 lo:Nat):Int),(1:Int),Ro ((sIx n 0 lo:Nat):Int) ((sIx n n hi:Nat):Int) 1)) _ _ s;rw[Qi8];exact As h
theorem Qo2(xs:Array Value)(i k:Nat):((Ai k).filterMap λ(m:Nat)=>xs[((i:Int)+(m:Int)*1).toNat]?).toArray=((xs.toList.drop i).take k).toArray:=by
 have e:(λ(m:Nat)=>xs[((i:Int)+(m:Int)*1).toNat]?)=λm=>xs[i+m]?:=by
  funext m;have:((i:Int)+(m:Int)*1).toNat=i+m:=by lia
  rw[this]
 rw[e];have:=pick_run xs i k;rw[List.filterMap_map]at this;have e2:((λx=>xs[x]?) ∘ λx=>i+x)=λm=>xs[i+m]?:=rfl;rw[e2]at this;rw[this]
theorem Xb{t:Addr}(ht:IsTup s.heap t items)(hs:s.heap.IsSliceOf sl vl vu .none)(pl:IsPart vl lo)(pu:IsPart vu hi)
  (hw:¬(sIx items.size 0 lo=0/\sIx items.size items.size hi=items.size))
  (h:Q (.ref s.heap.objs.size) { s with heap:=s.heap.push { cls:=.type "tuple",data:=.seq ((items.toList.drop (sIx items.size 0 lo)).take (sIx items.size items.size hi-sIx items.size 0 lo)).toArray } })
  (hsz:items.size<=sizeLine):wpAny (model prog w) A (getItem (.ref t) (.ref sl)) Q E s:=by
 have htake:sizeOk (.seq ((items.toList.drop (sIx items.size 0 lo)).take (sIx items.size items.size hi-sIx items.size 0 lo)).toArray):=by
  show((items.toList.drop (sIx items.size 0 lo)).take (sIx items.size items.size hi-sIx items.size 0 lo)).toArray.size<=sizeLine;rw[Bu,Dh,Fb,De];lia
 have hj:sIx items.size items.size hi<=items.size:=Qu1 _ _ (At _) hi;obtain⟨os,hos,hcs,hds⟩:=id hs;have hTs:s.TypeIs (.ref sl) "slice":=⟨os,hos,hcs⟩
 unfold getItem
 try with_reducible refine Nq ?_
 first|refine Ah (As ?_)|skip
 refine Ah (wpAny_sequenceKey ht.typeIs (by decide) ?_);refine Ah (Fe (name:=M2 "__getitem__") ht.typeIs Dz
  (D7 Dz ht.typeIs entry_tuple_getitem ?_ (args_tuple_getitem _ _)))
 show wpAny _ _ (Iu (.ref t) >>= _) _ _ s;refine Ah (tupleItemsOf_ ht ?_);refine Ah (Tq hTs ?_);rw[if_pos (by decide)];refine Ah (Vh hs pl pu ?_);have hno:¬((((sIx items.size 0 lo:Nat):Int)==0&&(1:Int)==1&&(sIx items.size items.size hi-sIx items.size 0 lo)==items.size)=true):=by
  intro q;rw[B4,B4]at q;have q1:((sIx items.size 0 lo:Nat):Int)=0:=eq_of_beq q.1.1;have q2:sIx items.size items.size hi-sIx items.size 0 lo=items.size:=eq_of_beq q.2;exact hw ⟨by lia,by lia⟩
 show wpAny _ _ (if (((sIx items.size 0 lo:Nat):Int)==0&&(1:Int)==1&&(sIx items.size items.size hi-sIx items.size 0 lo)==items.size)=true then _ else _) _ _ s;rw[if_neg hno,Qo2]
 first
  |exact Ah (m:=M3 _) (Dv (As ⟨_,rfl,As h⟩) htake)
  |exact Ah (m:=M3 _) (Dv (Ah (As (As ⟨_,rfl,As h⟩))) htake)
  |exact Ah (Ah (m:=M3 _) (Dv (As (As ⟨_,rfl,As h⟩)) htake))
  |exact Ah (Ah (m:=M3 _) (Dv (As ⟨_,rfl,As h⟩) htake))
end HT
namespace L2
open PySem PySem.Spec PyProof.Rows
abbrev TO:=St->Hp->(Option Int->Hp->Prop)->Prop
end L2
variable {xs:List (List L2.Key×Dj×Fg)}{kvs:List (List L2.Key×L2.V)}{trs:List (L2.TE×L2.TE)}{l:Dj}{cpos p2:Sx}
namespace L2
open PySem PySem.Spec PyProof.Rows
def PO(X:Cx)(e:Option Expr)(t:TO):Prop :=
 ∀(pins:List (Addr×Obj)) (s:Shared) (σ:St) (H:Hp) (Q:Option Int->Hp->Prop),Inv X pins σ H s->t σ H Q ->
  wpAny (model X.prog X.w) X.A (evalPart e X.env) (λu s'=>∃o H',Inv X pins σ H' s'/\IsPart u o/\Q o H') X.xe s
def Qr9:TO:=λ_ H Q=>Q none H
def Qx6(t:TE):TO:=λσ H Q=>t σ H λx H1=>∃i,x=.int i/\Q (some i) H1
section
variable {lo hi:Option Expr}{tl th:TO}
theorem Qs8:PO X none Qr9:=by
 intro pins s σ H Q I h;rw[evalPart_none];exact As ⟨none,H,I,.none,h⟩
theorem Qs7(h:PE X e te):PO X (some e) (Qx6 te):=by
 intro pins s σ H Q I hw;rw[evalPart_some];refine thn (h pins s σ H _ I hw) λu s1 ⟨x,H1,I1,r1,q1⟩=>?_;obtain⟨i,rfl,q⟩:=q1;obtain⟨t,rfl⟩:=r1;exact⟨some i,H1,I1,.int i t,q⟩
def SlR(X:Cx)(r:V->Option Int->Option Int->Hp->VK->Prop):Prop :=
 ∀(pins:List (Addr×Obj)) (s:Shared) (σ:St) (H:Hp) (x:V) (v vl vu:Value) (lo hi:Option Int) (sl:Addr) (Q:VK),Inv X pins σ H s->RelV x v->s.heap.IsSliceOf sl vl vu .none->IsPart vl lo->IsPart vu hi->r x lo hi H Q ->
  ∃T id,typeLookup (.type T) "__getitem__" = pure (some (.builtin id))/\s.TypeIs v T/\wpAny (model X.prog X.w) X.A (getItem v (.ref sl)) (EP X pins σ Q) X.xe s
theorem SlR.or{r r':V->Option Int->Option Int->Hp->VK->Prop}(h:SlR X r)(h':SlR X r'):SlR X (λx lo hi H Q=>r x lo hi H Q\/r' x lo hi H Q):=by
 intro pins s σ H x v vl vu lo hi sl Q I rx hs pl pu q;rcases q with q|q
 ·exact h pins s σ H x v vl vu lo hi sl Q I rx hs pl pu q
 ·exact h' pins s σ H x v vl vu lo hi sl Q I rx hs pl pu q
def tSl(r:V->Option Int->Option Int->Hp->VK->Prop)(te:TE)(tl th:TO):TE:=λσ H Q=>te σ H λx H1=>tl σ H1 λl H2=>th σ H2 λu H3=>r x l u H3 Q
theorem Qo5{r:V->Option Int->Option Int->Hp->VK->Prop}(hr:SlR X r)(he:PE X e te)(hl:PO X lo tl)(hu:PO X hi th):PE X (.Subscript e (.Slice lo hi none p2) pos) (tSl r te tl th):=by
 intro pins s σ H Q I h;refine Subscript_ (thn (he pins s σ H _ I h) λv s1 ⟨x,H1,I1,r1,q1⟩=>?_);refine wpAny_Slice (thn (hl pins s1 σ H1 _ I1 q1) λvl s2 ⟨l,H2,I2,pl,q2⟩=>thn (hu pins s2 σ H2 _ I2 q2) λvu s3 ⟨u,H3,I3,pu,q3⟩=>?_);rw[evalPart_none];refine As ?_;have I4:Inv X pins σ H3 { s3 with heap:=s3.heap.push { cls:=.type "slice",data:=.fields #[vl,vu,.none] } }:=I3.kept (t':=s3.toks) λb ob q=>An _ q;obtain⟨T,id,hT,ht,hg⟩:=hr pins { s3 with heap:=s3.heap.push { cls:=.type "slice",data:=.fields #[vl,vu,.none] } } σ H3 x v vl vu l u s3.heap.objs.size Q I4 r1 (Heap.IsSliceOf.new ..) pl pu q3;show wpAny (model X.prog X.w) X.A (subscriptTail e (.Slice lo hi none p2) v (.ref s3.heap.objs.size)) (EP X pins σ Q) X.xe { s3 with heap:=s3.heap.push { cls:=.type "slice",data:=.fields #[vl,vu,.none] } };exact tail_any (ops:=[.ref s3.heap.objs.size,v]) ht hT hg (by with_unfolding_all rfl)
def cutV(xs:List V)(lo hi:Option Int):List V:=(xs.drop (HT.sIx xs.length 0 lo)).take (HT.sIx xs.length xs.length hi-HT.sIx xs.length 0 lo)
theorem Qbj(xs:List V)(lo hi:Option Int):(cutV xs lo hi).length<=xs.length:=by
 unfold cutV;rw[Dh,Fb];lia
noncomputable def rSlT(K:Frag):V->Option Int->Option Int->Hp->VK->Prop:=λx lo hi H Q=>∃a xs,x=.ref a/\SqT K H a xs /\
 ¬(HT.sIx xs.length 0 lo=0/\HT.sIx xs.length xs.length hi=xs.length)/\∀p,H p=none->Q (.ref p) (upd H p (.tup (cutV xs lo hi)))
theorem Qux:SlR X (rSlT X.K):=by
 intro pins s σ H x v vl vu lo hi sl Q I rx hs pl pu h;obtain⟨a,xs,rfl,hx,hw,q⟩:=h;cases rx;obtain⟨its,r,ht,hz⟩:=I.tuple hx;have hlen:its.toArray.size=xs.length:=by rw[Bu];exact r.length.symm
 refine⟨"tuple",_,Dz.lookup,ht.typeIs,?_⟩;refine HT.Xb ht hs pl pu (by rw[hlen];exact hw) ?_ (by rw[hlen];exact hz);rw[hlen];refine⟨.ref s.heap.objs.size,_,I.laid (t':=s.toks) (o:=.tup (cutV xs lo hi)) (λb ob q=>An _ q) (At _) ?_,rfl,q _ (I.hok.fresh (At _))⟩;exact⟨Dy (Qbj xs lo hi) hz,_,(r.drop (HT.sIx xs.length 0 lo)).take (HT.sIx xs.length xs.length hi-HT.sIx xs.length 0 lo),IsTup.new _ _⟩
noncomputable def Qyn(K:Frag):R2:=λx y H Q=>∃a b xs ys,x=.ref a/\y=.ref b/\SqT K H a xs/\SqT K H b ys/\xs≠[]/\xs.length+ys.length<=sizeLine /\
 (ys=[]->Q (.ref a) H)/\(ys≠[]->∀p,H p=none->Q (.ref p) (upd H p (.tup (xs++ys))))
theorem Vals.nil_iff{xs:List V}(r:Vals xs us):us=[]↔xs=[]:=by
 cases r with
 |nil=>simp
 |cons _ _=>simp
theorem Qtl:OpR X (binaryOp .Add) (Qyn X.K):=by
 intro pins s σ H x y v u Q I rx ry h;obtain⟨a,b,xs,ys,rfl,rfl,ha,hb,hx,hz,q1,q2⟩:=h;cases rx;cases ry;obtain⟨its,r1,p1,_⟩:=I.tuple ha;obtain⟨its2,r2,p2,_⟩:=I.tuple hb;refine HT.Qug p1 p2 (λz=>hx (r1.nil_iff.mp z)) (λz=>⟨.ref a,H,I,rfl,q1 (r2.nil_iff.mp z)⟩) (λz=>?_) (by rw[← r1.length,← r2.length];exact hz);refine⟨.ref s.heap.objs.size,_,I.laid (t':=s.toks) (o:=.tup (xs++ys)) (λb ob q=>An _ q) (At _) ?_,rfl,q2 (λw=>z (r2.nil_iff.mpr w)) _ (I.hok.fresh (At _))⟩;exact⟨by rw[Bx];exact hz,_,r1.append r2,IsTup.new _ _⟩
end
def ixN(n:Nat)(i:Int):Option Nat:=if 0<=i then (if i<n then some i.toNat else none)else if -(n:Int)<=i then some (i+n).toNat else none
def atI{α:Type}(xs:List α)(i:Int):Option α:=(ixN xs.length i).bind λj=>xs[j]?
theorem Qgg(h:ixN n i=some j):seqIndex? i n=some j/\j<n /\ -(n:Int)<=i/\i<n:=by
 unfold ixN at h;by_cases h0:0<=i
 ·rw[if_pos h0]at h;by_cases h1:i<n
  ·rw[if_pos h1]at h;have e:i.toNat=j:=Bq h;exact⟨by rw[seqIndex_of h0 h1,e],by lia,by lia,h1⟩
  ·rw[if_neg h1]at h;cases h
 ·rw[if_neg h0]at h;by_cases h1:-(n:Int)<=i
  ·rw[if_pos h1]at h;have e:(i+n).toNat=j:=Bq h;exact⟨by rw[seqIndex_neg (by lia) h1,e],by lia,h1,by lia⟩
  ·rw[if_neg h1]at h;cases h
theorem Qgv{α:Type}{xs:List α}{v:α}(h:atI xs i=some v):∃j,seqIndex? i xs.length=some j/\xs[j]? = some v/\j<xs.length /\ -(xs.length:Int)<=i/\i<xs.length:=by
 unfold atI at h;cases e:ixN xs.length i with
 |none=>rw[e]at h;cases h
 | some j=>
  rw[e]at h;obtain⟨h1,h2,h3,h4⟩:=Qgg e;exact⟨j,h1,h,h2,h3,h4⟩
theorem Qbo{α:Type}{xs:List α}{v:α}(h:xs[j]? = some v):atI xs (j:Int)=some v:=by
 have hj:j<xs.length:=(Be.mp h).1;have e:ixN xs.length (j:Int)=some j:=by
  unfold ixN;rw[if_pos (by lia),if_pos (by lia)];simp
 unfold atI;rw[e];exact h
def Qbq(b:Expr):Prop:=∀o i,subscripted b false o i=operate [o,i] (getItem o i)
def IxR(X:Cx)(r:R2):Prop :=
 ∀(value slice:Expr) (pins:List (Addr×Obj)) (s:Shared) (σ:St) (H:Hp) (x y:V) (v u:Value) (Q:VK),Inv X pins σ H s->RelV x v->RelV y u->r x y H Q ->
  subscripted slice false v u=operate [v,u] (getItem v u)->wpAny (model X.prog X.w) X.A (subscriptTail value slice v u) (EP X pins σ Q) X.xe s
def MtR(X:Cx)(id:String)(r:V->List V->Hp->VK->Prop):Prop :=
 ∀(pins:List (Addr×Obj)) (s:Shared) (σ:St) (H:Hp) (x:V) (xs:List V) (v:Value) (us:List Value) (Q:VK),Inv X pins σ H s->RelV x v->Vals xs us->r x xs H Q ->
  wpAny (model X.prog X.w) X.A (call (.builtin id) (v::us)) (EP X pins σ Q) X.xe s
section
variable {a b:Expr}
theorem IxR.or{r r':R2}(h:IxR X r)(h':IxR X r'):IxR X (λx y H Q=>r x y H Q\/r' x y H Q):=by
 intro value slice pins s σ H x y v u Q I rx ry q hs;rcases q with q|q
 ·exact h value slice pins s σ H x y v u Q I rx ry q hs
 ·exact h' value slice pins s σ H x y v u Q I rx ry q hs
theorem Qo6{r:R2}(hr:IxR X r)(ha:PE X a ta)(hb:PE X b tb)(hs:Qbq b):PE X (.Subscript a b pos) (tOp r ta tb):=by
 intro pins s σ H Q I h;exact Subscript_ (binT ha hb I h λv u s2 x y H2 I2 rx ry q=>hr a b pins s2 σ H2 x y v u Q I2 rx ry q (hs _ _))
def rIxL(K:Frag):R2:=λx y H Q=>∃p xs i v,x=.ref p/\y=.int i/\SqL K H p xs/\atI xs i=some v/\Q v H
def rIxT(K:Frag):R2:=λx y H Q=>∃p xs i v,x=.ref p/\y=.int i/\SqT K H p xs/\atI xs i=some v/\Q v H
def rIxS:R2:=λx y H Q=>∃z i c,x=.str z/\y=.int i/\z.length<=sizeLine/\atI z.cps.toList i=some c/\Q (.str ⟨#[c]⟩) H
theorem Qmo:IxR X (rIxL X.K):=by
 intro value slice pins s σ H x y v u Q I rx ry h hs;obtain⟨p,xs,i,z,rfl,rfl,hq,he,q⟩:=h;cases rx;obtain⟨t,rfl⟩:=ry;obtain⟨its,r,pl,hz⟩:=I.list hq;obtain⟨j,h1,h2,h3,h4,h5⟩:=Qgv he;obtain⟨w,ew,rw'⟩:=r.get h2;have hl:=r.length;have hn:=Qce;have fin:EP X pins σ Q w s:=⟨z,H,I,rw',q⟩
 by_cases h0:0<=i
 ·have hj:i.toNat=j:=by
   rw[seqIndex_of h0 h5]at h1;exact Bq h1
  exact item_listR pl.isList h0 (by lia) (by rw[hj];simpa using ew) fin hs
 ·have hj:(i+(its.toArray.size:Int)).toNat=j:=by
   rw[seqIndex_neg (by lia) h4]at h1;rw[Bu,← hl];exact Bq h1
  exact K4 (x:=w) pl.isList.typeIs slot_list_getitem.lookup
   (wpAny_getItem_list_neg (Q:=λr s'=>r=w/\EP X pins σ Q r s') pl.isList (by lia) (by rw[Bu]<;>lia) (by lia) (by rw[hj];simpa using ew) ⟨rfl,fin⟩) hs
theorem Qwz:IxR X (rIxT X.K):=by
 intro value slice pins s σ H x y v u Q I rx ry h hs;obtain⟨p,xs,i,z,rfl,rfl,hq,he,q⟩:=h;cases rx;obtain⟨t,rfl⟩:=ry;obtain⟨its,r,pl,hz⟩:=I.tuple hq;obtain⟨j,h1,h2,h3,h4,h5⟩:=Qgv he;obtain⟨w,ew,rw'⟩:=r.get h2;have hl:=r.length;have hn:=Qce;have fin:EP X pins σ Q w s:=⟨z,H,I,rw',q⟩
 exact K4 (x:=w) pl.typeIs slot_tuple_getitem.lookup
  (getItem_tuple (j:=j) (Q:=λr s'=>r=w/\EP X pins σ Q r s') pl (by lia) (by lia) (by rw[Bu,← hl];exact h1) (by simpa using ew) ⟨rfl,fin⟩) hs
theorem Qw0:IxR X rIxS:=by
 intro value slice pins s σ H x y v u Q I rx ry h hs;obtain⟨z,i,c,rfl,rfl,hz,he,q⟩:=h;obtain⟨t,rfl⟩:=rx;obtain⟨t',rfl⟩:=ry;obtain⟨j,h1,h2,h3,h4,h5⟩:=Qgv he;have hl:z.cps.toList.length=z.length:=by simp[Str.length]
 rw [hl]at h1 h4 h5;have hn:=Qce;exact tail_any (typeIs_str s z t) slot_str_getitem.lookup (getItem_str (c:=c) (by
  have e1:decide (i < -(2 ^ 63:Int))=false:=decide_eq_false (by lia);have e2:decide (i≥2 ^ 63)=false:=decide_eq_false (by lia);rw[e1,e2,Bool.or_false]) (by rw[h1];simpa using h2) ⟨.str ⟨#[c]⟩,H,I.tok _,⟨_,rfl⟩,q⟩) hs
def rIx(K:Frag):R2:=λx y H Q=>rIxL K x y H Q\/rIxT K x y H Q\/rIxS x y H Q
theorem Qw1:IxR X (rIx X.K):=Qmo.or (Qwz.or Qw0)
theorem Qjj(its:List Value)(n j:Nat)(u:Value):Fz (·.setIfInBounds j u) { cls:=.type "list",data:=.seq its.toArray n }={ cls:=.type "list",data:=.seq (its.set j u).toArray n }:=by
 simp[Fz]
theorem Inv.lst{pins:List (Addr×Obj)}{σ:St}{H:Hp}{s:Shared}{p:Addr}{xs:List V}(I:Inv X pins σ H s)(h:H p=some (.lst xs)) :
  ∃(its:List Value)(n:Nat),Vals xs its/\s.heap.get? p=some { cls:=.type "list",data:=.seq its.toArray n }/\xs.length<=sizeLine:=by
 obtain⟨z,its,n,r,e⟩:=I.hok p _ h;exact⟨its,n,r,e,z⟩
theorem Inv.lstUpd{p:Addr}{xs:List V}{its':List Value}{n':Nat}{f:Obj->Obj}(I:Inv X pins σ H s)(h:H p=some (.lst xs))
  (ho:s.heap.get? p=some { cls:=.type "list",data:=.seq its.toArray n }) (hf:f { cls:=.type "list",data:=.seq its.toArray n }={ cls:=.type "list",data:=.seq its'.toArray n' }) (r:Vals ys its') (hz:ys.length<=sizeLine) (t:Nat) :
  Inv X pins σ (upd H p (.lst ys)) { s with heap:=s.heap.update p f,toks:=t }:=by
 have e:(s.heap.update p f).get? p=some { cls:=.type "list",data:=.seq its'.toArray n' }:=by
  rw[M0 f ho (by rw[hf]<;>rfl),hf]
 refine I.write (x:=p) (e:=p) (by rw[h];trivial) (.inl rfl) (λb u hb q=>(Ms _ _ (Mk hb)).trans q) ⟨_,e⟩ ?_;exact⟨hz,its',n',r,e⟩
def Qyl:V->V->V->Hp->(Hp->Prop)->Prop:=λo i v H Q=>∃p xs k j,o=.ref p/\i=.int k/\H p=some (.lst xs)/\ixN xs.length k=some j/\Q (upd H p (.lst (xs.set j v)))
theorem Qcw:PSet X Qyl:=by
 intro pins s σ H o i v ov iv u Q I ro ri rv h;obtain⟨p,xs,k,j,rfl,rfl,hp,hj,q⟩:=h;cases ro;obtain⟨t,rfl⟩:=ri;obtain⟨its,n,r,ho,hz⟩:=I.lst hp;obtain⟨h1,h2,h3,h4⟩:=Qgg hj;have hl:=r.length;have hn:=Qce;have I':Inv X pins σ (upd H p (.lst (xs.set j v))) { s with heap:=s.heap.update p (Fz (·.setIfInBounds j u)) } :=
  I.lstUpd hp ho (Qjj its n j u) (r.set rv j) (by rw[Dw];exact hz) s.toks
 by_cases h0:0<=k
 ·have hk:k.toNat=j:=by
   rw[seqIndex_of h0 h4]at h1;exact Bq h1
  exact PySem.W.ki_setAt ho h0 (by lia) (by rw[Bu,← hl];exact h4) (by rw[hk];exact⟨_,I',q⟩)
 ·have hk:(k+(its.toArray.size:Int)).toNat=j:=by
   rw[seqIndex_neg (by lia) h3]at h1;rw[Bu,← hl];exact Bq h1
  exact PySem.W.ki_setBack ho (by lia) (by rw[Bu,← hl];exact h3) (by lia) (by rw[hk];exact⟨_,I',q⟩)
theorem Qej(lo hi:Option Int)(n:Nat):(sliceBounds lo hi none n).1=((HT.sIx n 0 lo:Nat):Int)/\(sliceBounds lo hi none n).2.1=((HT.sIx n n hi:Nat):Int)/\(sliceBounds lo hi none n).2.2=1:=by
 refine⟨?_,?_,rfl⟩
 ·cases lo with
  |none=>simp[sliceBounds,HT.sIx]
  | some i=>
   simp only[sliceBounds,HT.sIx,Ot,show(1:Int) > 0 by decide,if_true];by_cases h:i<0
   ·simp only[h,if_true]<;>lia
   ·simp only[h,if_false]<;>lia
 ·cases hi with
  |none=>simp[sliceBounds,HT.sIx]
  | some i=>
   simp only[sliceBounds,HT.sIx,Ot,show(1:Int) > 0 by decide,if_true];by_cases h:i<0
   ·simp only[h,if_true]<;>lia
   ·simp only[h,if_false]<;>lia
theorem Qcv(its:List Value)(lo hi:Option Int):slicePick its.toArray lo hi none=((its.drop (HT.sIx its.length 0 lo)).take (HT.sIx its.length its.length hi-HT.sIx its.length 0 lo)).toArray:=by
 obtain⟨h1,h2,h3⟩:=Qej lo hi its.toArray.size;unfold slicePick;rw[h1,h2,h3];simp only[sliceRange_one,pick_run,Bu]<;>rfl
def rSlL(K:Frag):V->Option Int->Option Int->Hp->VK->Prop:=λx lo hi H Q=>∃a xs,x=.ref a/\SqL K H a xs/\∀p,H p=none->Q (.ref p) (upd H p (.lst (cutV xs lo hi)))
theorem Qsi:SlR X (rSlL X.K):=by
 intro pins s σ H x v vl vu lo hi sl Q I rx hs pl pu h;obtain⟨a,xs,rfl,hx,q⟩:=h;cases rx;obtain⟨its,r,ht,hz⟩:=I.list hx;have hlen:=r.length;refine⟨"list",_,slot_list_getitem.lookup,ht.isList.typeIs,?_⟩;refine wpAny_getItem_list_slice ht.isList hs pl pu .none (by simp) ?_ (by rw[Bu]<;>lia);rw[Qcv,← hlen];refine⟨.ref s.heap.objs.size,_,I.laid (t':=s.toks) (o:=.lst (cutV xs lo hi)) (λb ob q=>An _ q) (At _) ?_,rfl,q _ (I.hok.fresh (At _))⟩;exact⟨Dy (Qbj xs lo hi) hz,_,0,(r.drop (HT.sIx xs.length 0 lo)).take (HT.sIx xs.length xs.length hi-HT.sIx xs.length 0 lo),Bp _ rfl⟩
def Qby:V->Bool
 | .non=>true
 | .bl _=>true
 | .int _=>true
 | .str _=>true
 |_=>false
noncomputable def eqV:V->V->Bool
 | .non,.non=>true
 | .bl a,.bl b=>a==b
 | .bl a,.int b=>(if a then 1 else 0)==b
 | .int a,.bl b=>a==(if b then 1 else 0)
 | .int a,.int b=>a==b
 | .str a,.str b=>a==b
 |_,_=>false
theorem Qxj{x:V}{v:Value}(ry:RelV y u)(rx:RelV x v)(fy:Qby y=true)(fx:Qby x=true):SeqAt.EqAt A s u v (eqV y x):=by
 cases y with
 | non=>
  cases ry;cases x with
  |non=>cases rx;exact SeqAt.EqAt.same _
  |bl b=>cases rx;exact SeqAt.EqAt.none_bool b
  |int b=>obtain⟨t,rfl⟩:=rx;exact SeqAt.EqAt.none_int b t
  |str b=>obtain⟨t,rfl⟩:=rx;exact SeqAt.EqAt.none_str b t
  |_=>exact absurd (show false=true from fx) Bw
 | bl a=>
  cases ry;cases x with
  |non=>cases rx;exact SeqAt.EqAt.bool_none a
  |bl b=>cases rx;exact SeqAt.EqAt.bool_bool a b
  |int b=>obtain⟨t,rfl⟩:=rx;exact SeqAt.EqAt.bool_int a b t
  |str b=>obtain⟨t,rfl⟩:=rx;exact SeqAt.EqAt.bool_str a b t
  |_=>exact absurd (show false=true from fx) Bw
 | int a=>
  obtain⟨t',rfl⟩:=ry;cases x with
  |non=>cases rx;exact SeqAt.EqAt.int_none a t'
  |bl b=>cases rx;exact SeqAt.EqAt.int_bool a t' b
  |int b=>obtain⟨t,rfl⟩:=rx;exact L9 a t' b t
  |str b=>obtain⟨t,rfl⟩:=rx;exact L6 a t' b t
  |_=>exact absurd (show false=true from fx) Bw
 | str a=>
  obtain⟨t',rfl⟩:=ry;cases x with
  |non=>cases rx;exact SeqAt.EqAt.str_none a t'
  |bl b=>cases rx;exact SeqAt.EqAt.str_bool a t' b
  |int b=>obtain⟨t,rfl⟩:=rx;exact L7 a t' b t
  |str b=>obtain⟨t,rfl⟩:=rx;exact SeqAt.EqAt.str_str a t' b t
  |_=>exact absurd (show false=true from fx) Bw
 |_=>exact absurd (show false=true from fy) Bw
def eqU(x:V)(u:Value):Bool:=match u with
 | .none=>eqV .non x
 | .bool b=>eqV (.bl b) x
 | .int i _=>eqV (.int i) x
 | .str z _=>eqV (.str z) x
 |_=>false
theorem Qrm{x:V}(r:RelV y u)(f:Qby y=true):eqU x u=eqV y x:=by
 cases y with
 |non=>cases r;rfl
 |bl b=>cases r;rfl
 |int i=>obtain⟨t,rfl⟩:=r;rfl
 |str z=>obtain⟨t,rfl⟩:=r;rfl
 |_=>exact absurd (show false=true from f) Bw
theorem Qbp{x:V}:∀{xs:List V}{us:List Value},Vals xs us->xs.all Qby=true->us.any (eqU x)=xs.any λy=>eqV y x
 |_,_,.nil,_=>rfl
 | y::xs,u::us,.cons r t,f=>by
  rw[Rw,B4]at f;rw[Ft,Ft,Qrm r f.1,Qbp t f.2]
theorem Ge{A:Around}{s:Shared}{x:V}{v:Value}(rx:RelV x v)(fx:Qby x=true):∀{xs:List V}{us:List Value},Vals xs us->xs.all Qby=true->∀u∈us,SeqAt.EqAt A s u v (eqU x u)
 |_,_,.nil,_=>λu hu=>by cases hu
 | y::xs,u::us,.cons r t,f=>λu' hu=>by
  rw[Rw,B4]at f;rcases Ar.mp hu with rfl|hu
  ·rw[Qrm r f.1];exact Qxj r rx f.1 fx
  ·exact Ge rx fx t f.2 u' hu
def inV(x:V)(xs:List V):Bool:=xs.any λy=>eqV y x
def rIn(K:Frag)(neg:Bool):R2:=λx y H Q=>∃p xs,y=.ref p/\(SqL K H p xs\/SqT K H p xs)/\Qby x=true/\xs.all Qby=true/\Q (.bl (if neg then !inV x xs else inV x xs)) H
theorem Qlx:OpR X (compareOp .In) (rIn X.K false):=by
 intro pins s σ H x y v u Q I rx ry h;obtain⟨p,xs,rfl,hq,fx,fs,q⟩:=h;cases ry;rcases hq with hq|hq
 ·obtain⟨its,r,pl,hz⟩:=I.list hq;refine SeqAt.in_listAt (eqU x) pl.isList (λw hw=>Ge rx fx r fs w (by simpa using hw)) ⟨.bl _,H,I,rfl,?_⟩;rw[show its.toArray.any (eqU x)=its.any (eqU x) by simp,Qbp r fs];exact q
 ·obtain⟨its,r,pl,hz⟩:=I.tuple hq;refine SeqAt.in_tupleAt (eqU x) pl (λw hw=>Ge rx fx r fs w (by simpa using hw)) ⟨.bl _,H,I,rfl,?_⟩;rw[show its.toArray.any (eqU x)=its.any (eqU x) by simp,Qbp r fs];exact q
theorem Qev:OpR X (compareOp .NotIn) (rIn X.K true):=by
 intro pins s σ H x y v u Q I rx ry h;obtain⟨p,xs,rfl,hq,fx,fs,q⟩:=h;cases ry;rcases hq with hq|hq
 ·obtain⟨its,r,pl,hz⟩:=I.list hq;refine SeqAt.notIn_listAt (eqU x) pl.isList (λw hw=>Ge rx fx r fs w (by simpa using hw)) ⟨.bl _,H,I,rfl,?_⟩;rw[show its.toArray.any (eqU x)=its.any (eqU x) by simp,Qbp r fs];exact q
 ·obtain⟨its,r,pl,hz⟩:=I.tuple hq;refine SeqAt.notIn_tupleAt (eqU x) pl (λw hw=>Ge rx fx r fs w (by simpa using hw)) ⟨.bl _,H,I,rfl,?_⟩;rw[show its.toArray.any (eqU x)=its.any (eqU x) by simp,Qbp r fs];exact q
theorem Qeu:OpR X (compareOp .NotIn) (λx y H Q=>∃i j,x=.str i/\y=.str j/\Q (.bl (!(!(Rv j i 0 j.length 1).isEmpty))) H):=by
 intro pins s σ H x y v u Q I rx ry h;obtain⟨i,j,rfl,rfl,q⟩:=h;obtain⟨t,rfl⟩:=rx;obtain⟨t',rfl⟩:=ry;exact notIn_str ⟨.bl _,H,I,rfl,q⟩
theorem Uz.or{f:Value}{r r':List V->Hp->VK->Prop}(h:Uz X f r)(h':Uz X f r'):Uz X f (λxs H Q=>r xs H Q\/r' xs H Q):=by
 intro pins s σ H xs us Q I rs q;rcases q with q|q
 ·exact h pins s σ H xs us Q I rs q
 ·exact h' pins s σ H xs us Q I rs q
theorem Qdw:Uz X (.type "tuple") (λxs H Q=>∃p ys,xs=[.ref p]/\((SqL X.K H p ys/\∀l,H l=none->Q (.ref l) (upd H l (.tup ys)))\/(SqT X.K H p ys/\Q (.ref p) H))):=by
 intro pins s σ H xs us Q I r h;obtain⟨p,ys,rfl,h⟩:=h;obtain⟨u,rfl,rx⟩:=Qbr r;cases rx;rcases h with⟨hq,q⟩|⟨hq,q⟩
 ·obtain ⟨its,r',pl,hz⟩:=I.list hq;have hlen:=r'.length;refine call_tuple_list pl.isList (λh' kp=>?_) (by simp only[Bu]<;>lia);have I1:Inv X pins σ H { s with heap:=h' }:=I.kept (t':=s.toks) kp;have I2:Inv X pins σ (upd H h'.objs.size (.tup ys)) { s with heap:=h'.push { cls:=.type "tuple",data:=.seq its.toArray } } :=
   I1.laid (t':=s.toks) (λb o e=>An _ e) (At _) (show Yj X.prog X.w _ _ _ (.tup ys) from⟨hz,its,r',IsTup.new _ _⟩)
  exact⟨.ref h'.objs.size,_,I2,rfl,q _ (I1.hok.fresh (At _))⟩
 ·obtain⟨its,r',pl,hz⟩:=I.tuple hq;exact call_tuple_same pl ⟨.ref p,H,I,rfl,q⟩
def tyV(K:Frag)(T:String)(x:V)(H:Hp):Prop:=match x with
 | .str _=>T = "str"
 | .int _=>T = "int"
 | .ref p=>(T = "list" /\ ∃xs,SqL K H p xs)\/(T = "tuple" /\ ∃o,K.lookup p=some o/\o.cls=.type "tuple" /\ o.dict=none) \/
   (T = "dict" /\ ((∃kvs,H p=some (.dK kvs))\/∃kvs,H p=some (.dT kvs)))\/(T = "set" /\ ∃S n,H p=some (.set S n))\/∃φ,H p=some (.ext φ)/\∀h,φ h->∃o,h.get? p=some o/\o.cls=.type T/\o.dict=none
 |_=>False
theorem Qkm{x:V}{v:Value}(I:Inv X pins σ H s)(r:RelV x v)(ty:tyV X.K T x H) :
  s.TypeIs v T/\∀a,v=.ref a->∃ob,s.heap.get? a=some ob/\ob.dict=none:=by
 cases x with
 | str z=>
  obtain⟨t,rfl⟩:=r;cases(show T = "str" from ty);exact⟨typeIs_str s z t,λ_ e=>nomatch e⟩
 | int i=>
  obtain⟨t,rfl⟩:=r;cases(show T = "int" from ty);exact⟨typeIs_int s i t,λ_ e=>nomatch e⟩
 | ref p=>
  cases r;rcases ty with⟨rfl,xs,hq⟩|⟨rfl,o,hk,hc,hd⟩|⟨rfl,hk⟩|⟨rfl,S,n,hk⟩|⟨φ,hk,hf⟩
  ·obtain⟨its,_,pl,_⟩:=I.list hq;refine⟨pl.isList.typeIs,λa e=>?_⟩;cases e;obtain⟨o,n,e,c,hd,_⟩:=pl;exact⟨o,e,hd⟩
  ·refine⟨⟨o,I.kIn p o hk,hc⟩,λa e=>?_⟩;cases e;exact⟨o,I.kIn _ o hk,hd⟩
  ·have z:∃o,s.heap.get? p=some o/\o.ExactDict:=by
    rcases hk with⟨kvs,hk⟩|⟨kvs,hk⟩
    ·obtain⟨_,_,_,_,o,_,_,e,ex,_⟩:=I.hok p _ hk;exact⟨o,e,ex⟩
    ·obtain⟨_,_,_,_,o,_,_,e,ex,_⟩:=I.hok p _ hk;exact⟨o,e,ex⟩
   obtain⟨o,e,ex⟩:=z;refine⟨⟨o,e,ex.1⟩,λa e2=>?_⟩;cases e2;exact⟨o,e,ex.2.1⟩
  ·obtain⟨o,_,_,_,e,ex,_⟩:=I.hok p _ hk;refine⟨⟨o,e,ex.1⟩,λa e2=>?_⟩;cases e2;exact⟨o,e,ex.2.1⟩
  ·obtain⟨h1,_⟩:=I.hok p _ hk;obtain⟨o,e,c,d⟩:=hf _ h1;refine⟨⟨o,e,c⟩,λa e2=>?_⟩;cases e2;exact⟨o,e,d⟩
 |_=>exact Fx ty
def tBM0(K:Frag)(T:String)(r:V->List V->Hp->VK->Prop)(to:TE):TE:=λσ H Q=>to σ H λx H1=>tyV K T x H1/\r x [] H1 Q
def tBM(K:Frag)(T:String)(r:V->List V->Hp->VK->Prop)(to:TE)(t:TA):TE:=λσ H Q=>to σ H λx H1=>tyV K T x H1/\t σ H1 λxs H2=>r x xs H2 Q
end
section
variable {o:Expr}{t:TA}{id:String}
theorem Qvw(pa:PlainAttrs T)(slot:Slot T name id)(hty:typeOf (.builtin id)=pure (.type "method_descriptor"))(hm:MtR X id r)(ho:PE X o to)
  (hbase:attributeBase o name X.env (eval o X.env)=eval o X.env:=by rfl) (hline:(apos.endLine==cpos.line)=true:=by rfl):PE X (.Call (.Attribute o name apos) [] [] cpos) (tBM0 X.K T r to):=by
 intro pins s σ H Q I h;refine Kw hbase hline (thn (ho pins s σ H _ I h) λv s1 ⟨x,H1,I1,r1,ty,q1⟩=>?_);obtain⟨h1,h2⟩:=Qkm I1 r1 ty;exact⟨T,id,pa,slot,hty,h1,h2,Ti rfl (Lz (hm pins s1 σ H1 x [] v [] Q I1 r1 .nil q1))⟩
theorem Qjc(pa:PlainAttrs T)(slot:Slot T name id)(hty:typeOf (.builtin id)=pure (.type "method_descriptor"))(hm:MtR X id r)(ho:PE X o to)(ha:PA X (e::es) t)
  (hbase:attributeBase o name X.env (eval o X.env)=eval o X.env:=by rfl)
  (hfew:((backTo cpos (starEach (e::es) X.env)).all (λx=>!x.1)&&(backToKw cpos (keywordEach [] X.env)).all (λx=>x.1.isSome)
   && decide ((e::es).length+([]:List Keyword).length+(if ([]:List Keyword).isEmpty then 0 else 1)<30))=true:=by rfl)
  (hline:(apos.endLine==cpos.line)=true:=by rfl) (hs:starEach (e::es) X.env=(false,eval e X.env)::starEach es X.env:=by rfl) (hplain:(backTo cpos (starEach es X.env)).any (·.1)=false:=by rfl) :
  PE X (.Call (.Attribute o name apos) (e::es) [] cpos) (tBM X.K T r to t):=by
 intro pins s σ H Q I h;refine wpAny_Call_method_late hbase hfew hline rfl (thn (ho pins s σ H _ I h) λv s1 ⟨x,H1,I1,r1,ty,q1⟩=>?_);obtain⟨h1,h2⟩:=Qkm I1 r1 ty;refine⟨T,id,pa,slot,hty,h1,h2,?_⟩;have hA:=ha cpos pins s1 σ H1 _ I1 q1;rw[hs]at hA ⊢;refine Ti (by show(false||(backTo cpos (starEach es X.env)).any (·.1))=false;rw[hplain]<;>rfl) (Calls.evalArgs_plain ?_);exact thn hA λus s2 ⟨vs,H2,I2,r2,q2⟩=>hm pins s2 σ H2 x vs v us Q I2 r1 r2 q2
end
def MtM(X:Cx)(id:String)(r:V->List V->Hp->VK->Prop):Prop :=
 ∀(pins:List (Addr×Obj)) (s:Shared) (σ:St) (H:Hp) (x:V) (xs:List V) (v:Value) (us:List Value) (Q:VK),Inv X pins σ H s->RelV x v->Vals xs us->r x xs H Q ->
  wpAny (model X.prog X.w) X.A (call (.builtin id) (v::us)) (EP X pins σ Q) X.xe s
theorem Vals.one:∀{x:V}{us:List Value},Vals [x] us->∃u,us=[u]/\RelV x u
 |_,_,.cons r .nil=>⟨_,rfl,r⟩
theorem Vals.two:∀{x y:V}{us:List Value},Vals [x,y] us->∃u v,us=[u,v]/\RelV x u/\RelV y v
 |_,_,_,.cons r (.cons q .nil)=>⟨_,_,rfl,r,q⟩
theorem Vals.zero:∀{us:List Value},Vals [] us->us=[]
 |_,.nil=>rfl
theorem Vals.dropLast{xs:List V}(h:Vals xs us):Vals xs.dropLast us.dropLast:=by
 induction h with
 |nil=>exact .nil
 | cons r t ih=>
  cases t with
  |nil=>exact .nil
  |cons q t'=>exact .cons r ih
theorem Vals.rep{xs:List V}{us:List Value}(h:Vals xs us):∀k:Nat,Vals (Bt k xs).flatten (Bt k us).flatten
 |0=>.nil
 | k+1=>by
  rw[Mw,Mw,N0,N0];exact Vals.append h (Vals.rep h k)
theorem Xd{α:Type}(l:List α):l.eraseIdx (l.length-1)=l.dropLast:=by
 induction l with
 |nil=>rfl
 | cons a r ih=>
  cases r with
  |nil=>rfl
  | cons b r=>
   have e:(a::b::r).length-1=((b::r).length-1)+1:=by
    have h1:(a::b::r).length=r.length+2:=rfl;have h2:(b::r).length=r.length+1:=rfl;lia
   rw[e,List.eraseIdx_cons_succ,ih]
   all_goals rfl
theorem Qe4(its:List Value):∀(k:Nat)(acc:List Value),
  Ox (λx1 x2=>x1++x2) acc.toArray (Bt k its.toArray)=(acc++(Bt k its).flatten).toArray
 |0,acc=>by simp
 | k+1,acc=>by
  have e:acc.toArray++its.toArray=(acc++its).toArray:=by simp
  have e2:(acc++its)++(Bt k its).flatten=acc++(Bt (k+1) its).flatten:=by
   rw[Mw,N0,Bm]
  rw[← e2,← Qe4 its k (acc++its),← e,Mw,List.foldl_cons]
section
variable {xs:List V}
theorem Inv.lset{its':List Value}{f:Array Value->Array Value}(I:Inv X pins σ H s)(hH:H l=some (.lst xs))
  (e:s.heap.get? l=some { cls:=.type "list",data:=.seq its.toArray n }) (hf:f its.toArray=its'.toArray) (hv:Vals ys its') (hz:ys.length<=sizeLine) :
  Inv X pins σ (upd H l (.lst ys)) { s with heap:=s.heap.update l (Fz f),toks:=t' }:=by
 have q:=Ou e f;rw[hf]at q;refine I.write (x:=l) (e:=l) (by rw[hH];exact trivial) (.inl rfl) (λb' u hb hu=>(Ms s.heap (Fz f) (Mk hb)).trans hu) ⟨_,q⟩ ?_;exact⟨hz,its',_,hv,q⟩
theorem Inv.lnew(I:Inv X pins σ H s)(hv:Vals ys its)(hz:ys.length<=sizeLine) :
  Inv X pins σ (upd H s.heap.objs.size (.lst ys)) { s with heap:=s.heap.push { cls:=.type "list",data:=.seq its.toArray },toks:=t' } :=
 I.laid (λ_ _ q=>An _ q) (At _) ⟨hz,its,0,hv,Bp _ rfl⟩
theorem Inv.fresh(I:Inv X pins σ H s):H s.heap.objs.size=none:=I.hok.fresh (At _)
theorem Inv.lstM(I:Inv X pins σ H s)(hH:H l=some (.lst xs)):xs.length<=sizeLine/\∃(its:List Value)(n:Nat),Vals xs its/\xs.length=its.length/\s.heap.get? l=some { cls:=.type "list",data:=.seq its.toArray n }:=by
 obtain⟨z,its,n,r,e⟩:=I.hok l _ hH;exact⟨z,its,n,r,r.length,e⟩
theorem Qpj(h:n<=sizeLine):Nx n=false:=by
 unfold Nx;exact decide_eq_false (by lia)
end
def Qlb:V->List V->Hp->VK->Prop:=λx vs H Q=>∃l xs y,x=.ref l/\vs=[y]/\H l=some (.lst xs)/\xs.length<sizeLine/\Q .non (upd H l (.lst (xs++[y])))
theorem Vq:MtM X "list.append" Qlb:=by
 intro pins s σ H x vs v us Q I rx rv h;obtain⟨l,xs,y,rfl,rfl,hH,hz,q⟩:=h;cases rx;obtain⟨u,rfl,ru⟩:=rv.one;obtain⟨z,its,n,r,hl,e⟩:=I.lstM hH;refine Kg F.slot_list_append ⟨_,e,rfl⟩ F.entry_list_append (Ln _ _) (Ol l its.toArray n u (by rw[Bu];lia)) ⟨e,?_⟩;refine⟨.non,_,I.lset (its':=its++[u]) hH e (by simp) (r.append (.cons ru .nil)) ?_,rfl,q⟩;rw[Bx,List.length_singleton];lia
def rPop:V->List V->Hp->VK->Prop:=λx vs H Q=>∃l xs y,x=.ref l/\vs=[]/\H l=some (.lst xs)/\xs[xs.length-1]? = some y/\Q y (upd H l (.lst xs.dropLast))
theorem Qwc:MtM X "list.pop" rPop:=by
 intro pins s σ H x vs v us Q I rx rv h;obtain⟨l,xs,y,rfl,rfl,hH,hy,q⟩:=h;cases rx;have hus:=rv.zero;subst hus;obtain⟨z,its,n,r,hl,e⟩:=I.lstM hH;obtain⟨u,hu,ru⟩:=r.get hy;have hy':its.toArray[its.toArray.size-1]? = some u:=by
  show its.toArray[its.length-1]? = some u;rw[← Fm,← hl];exact hu
 refine Kg F.slot_list_pop ⟨_,e,rfl⟩ F.entry_list_pop (F.args_list_pop_1 _) (MeetsSeq.list_pop_last l its.toArray n u hy' (by rw[Bu];lia)) ⟨e,?_⟩;refine⟨y,_,I.lset (its':=its.dropLast) hH e ?_ r.dropLast ?_,ru,q⟩
 ·show its.toArray.eraseIdxIfInBounds (its.toArray.size-1)=its.dropLast.toArray;rw[Bu,List.eraseIdxIfInBounds_toArray,Xd]
 ·rw[List.length_dropLast];lia
def rCat:R2:=λx y H Q=>∃l b xs zs,x=.ref l/\y=.ref b/\H l=some (.lst xs)/\H b=some (.lst zs)/\xs.length+zs.length<=sizeLine/\∀p,H p=none->Q (.ref p) (upd H p (.lst (xs++zs)))
theorem Qv5:OpR X (binaryOp .Add) rCat:=by
 intro pins s σ H x y v u Q I rx ry h;obtain⟨l,b,xs,zs,rfl,rfl,hH,hB,hz,q⟩:=h;cases rx;cases ry;obtain⟨z,its,n,r,hl,e⟩:=I.lstM hH;obtain⟨z2,its2,n2,r2,hl2,e2⟩:=I.lstM hB;refine PySem.P.add_list e e2 ?_ (by rw[Bu,Bu];lia);have ea:its.toArray++its2.toArray=(its++its2).toArray:=by simp
 rw[ea];exact⟨.ref _,_,I.lnew (t':=s.toks) (r.append r2) (by rw[Bx];lia),rfl,q _ I.fresh⟩
def rRep:R2:=λx y H Q=>∃l k xs,x=.ref l/\y=.int k/\H l=some (.lst xs) /\ -(2 ^ 63)<=k/\k<2 ^ 63/\xs.length*k.toNat<=sizeLine /\
 ∀p,H p=none->Q (.ref p) (upd H p (.lst (Bt k.toNat xs).flatten))
theorem Qtw{α:Type}(xs:List α)(k:Nat):(Bt k xs).flatten.length=k*xs.length:=by
 induction k with
 |zero=>simp
 |succ k ih=>rw[Mw,N0,Bx,ih,Tr,Nat.add_comm]
theorem Qv0:OpR X (binaryOp .Mult) rRep:=by
 intro pins s σ H x y v u Q I rx ry h;obtain⟨l,k,xs,rfl,rfl,hH,h1,h2,hz,q⟩:=h;cases rx;obtain⟨t,rfl⟩:=ry;obtain⟨z,its,n,r,hl,e⟩:=I.lstM hH;have hlen:its.toArray.size*k.toNat<=sizeLine:=by rw[Bu,← hl];exact hz
 have hcap:¬its.toArray.size*k.toNat > (2 ^ 63-1)/8:=by
  have:(sizeLine:Nat)<=(2 ^ 63-1)/8:=by decide
  lia
 have hfit:¬(!Sm k)=true:=by
  rw[fitsIndex_both h1 h2];exact Bw
 have hlong:¬Nx (its.toArray.size*k.toNat)=true:=by
  rw[Qpj hlen];exact Bw
 have hnew:Ox (λx1 x2=>x1++x2) #[] (Bt (if its.toArray.isEmpty=true then 0 else k.toNat) its.toArray)=(Bt k.toNat its).flatten.toArray:=by
  have f0:∀m:Nat,Ox (λx1 x2=>x1++x2) #[] (Bt m its.toArray)=(Bt m its).flatten.toArray:=λm=>by
   have:=Qe4 its m [];rw[B5]at this;exact this
  rw[f0];cases its with
  |nil=>simp
  |cons a r'=>rw[if_neg (by simp)]
 refine wpAny_binaryOp_repeat_ref (T:="list") (U:="int") (by decide) ⟨_,e,rfl⟩ (λs'=>typeIs_int s' k t) noFill_list_mul F.fills_int_mul F.slot_int_rmul repeat_list F.slot_int_index.lookup
  (Kg F.slot_int_rmul (typeIs_int s k t) F.entry_int_rmul (F.args_int_rmul_2 _ _) (int___rmul___int_list k t l its.toArray n)
   ⟨e,rfl,⟨_,e,rfl⟩,Kg F.slot_list_mul ⟨_,e,rfl⟩ F.entry_list_mul (F.args_list_mul_2 _ _) (AutoListH.list___mul___list_int_3 l its.toArray n k t hfit hcap hlong) ⟨e,?_⟩⟩)
 rw[hnew];exact⟨.ref _,_,I.lnew (t':=s.toks) (r.rep k.toNat) (by rw[Qtw,Nat.mul_comm];exact hz),rfl,q _ I.fresh⟩
section
variable {κ:Type}[DecidableEq κ]
def valV(kvs:List (κ×V))(k:κ):Option V:=(kvs.find? λkv=>decide (kv.1=k)).map (·.2)
def putK(kvs:List (κ×V))(k:κ)(v:V):List (κ×V) :=
 if (kvs.any λkv=>decide (kv.1=k))=true then kvs.map (λkv=>if kv.1=k then (kv.1,v)else kv)else kvs++[(k,v)]
theorem Jn{p:κ×V}{r:List (κ×V)}{k:κ}(e:p.1=k):valV (p::r) k=some p.2:=by simp[valV,Rz,e]
theorem Jo{p:κ×V}{r:List (κ×V)}{k:κ}(e:¬p.1=k):valV (p::r) k=valV r k:=by simp[valV,Rz,e]
theorem U4(k:κ):∀kvs:List (κ×V),(kvs.any λkv=>decide (kv.1=k))=(valV kvs k).isSome
 | []=>rfl
 | p::r=>by
  rw[Ft];by_cases e:p.1=k
  ·simp only[Jn e,decide_eq_true e,Bool.true_or,Di]
  ·rw[Jo e,decide_eq_false e,Iv];exact U4 k r
theorem Qg5(k j:κ)(y:V):∀kvs:List (κ×V),valV (kvs.map λkv=>if kv.1=k then (kv.1,y)else kv) j=(valV kvs j).map λx=>if j=k then y else x
 | []=>rfl
 | p::r=>by
  have ih:=Qg5 k j y r;rw[Bc];by_cases h:p.1=k
  ·rw[if_pos h];by_cases e:p.1=j
   ·rw[Jn (p:=(p.1,y)) e,Jn e,Rj,if_pos (e.symm.trans h)]
   ·rw[Jo (p:=(p.1,y)) e,Jo e,ih]
  ·rw[if_neg h];by_cases e:p.1=j
   ·rw[Jn (p:=p) e,Jn e,Rj,if_neg (λz=>h (e.trans z))]
   ·rw[Jo (p:=p) e,Jo e,ih]
theorem Qea(k j:κ)(y:V):∀kvs:List (κ×V),valV kvs k=none->valV (kvs++[(k,y)]) j=if j=k then some y else valV kvs j
 | [],_=>by
  by_cases e:k=j
  ·rw[if_pos e.symm];exact Jn (p:=(k,y)) e
  ·rw[if_neg (λz=>e z.symm)];exact Jo (p:=(k,y)) e
 | p::r,hn=>by
  rw[Bz];have hk:¬p.1=k:=λz=>by rw[Jn z]at hn;cases hn
  rw[Jo hk]at hn;have ih:=Qea k j y r hn;by_cases e:p.1=j
  ·rw[Jn e,Jn e,if_neg (λz=>hk (e.trans z))]
  ·rw[Jo e,Jo e,ih]
theorem Qoe(kvs:List (κ×V))(k j:κ)(y:V):valV (putK kvs k y) j=if j=k then some y else valV kvs j:=by
 unfold putK;by_cases a:(kvs.any λkv=>decide (kv.1=k))=true
 ·rw [if_pos a,Qg5];rw[U4]at a;by_cases e:j=k
  ·obtain⟨x,hx⟩:=Ma.mp a;rw[if_pos e,e,hx,Rj,if_pos rfl]
  ·rw[if_neg e];cases valV kvs j with
   |none=>rfl
   |some x=>rw[Rj,if_neg e]
 ·rw[if_neg a];refine Qea k j y kvs ?_;rw[U4]at a;cases q:valV kvs k with
  |none=>rfl
  |some x=>rw[q]at a;exact(a rfl).elim
theorem Z8(kvs:List (κ×V))(k:κ)(v:V):(putK kvs k v).length<=kvs.length+1:=by
 unfold putK;split
 ·rw[Ao];lia
 ·rw[Bx,Am,Az];lia
theorem Qos{kvs:List (κ×V)}{k:κ}(v:V)(h:valV kvs k=none):putK kvs k v=kvs++[(k,v)]:=by
 unfold putK;rw[U4,h];exact if_neg (by decide)
theorem RelO.isSome_eq{u:Option Value}(r:RelO o u):o.isSome=u.isSome:=by
 cases o with
 | none=>cases u with
  |none=>rfl
  |some _=>exact(show False from r).elim
 | some _=>cases u with
  |none=>exact(show False from r).elim
  |some _=>rfl
theorem KV.val{kvs:List (κ×V)}{vs:List (κ×Value)}(r:KV kvs vs)(k:κ):RelO (valV kvs k) (valueAt vs k):=by
 unfold KV at r
 induction r with
 |nil=>exact Ts
 | @cons p q ps qs h t ih=>
  obtain⟨h1,h2⟩:=h;by_cases e:p.1=k
  ·have e':q.1=k:=h1.symm.trans e;have b:valueAt (q::qs) k=some q.2:=by simp[valueAt,Rz,e']
   rw[Jn e,b];exact h2
  ·have e':¬q.1=k:=λz=>e (h1.trans z);have b:valueAt (q::qs) k=valueAt qs k:=by simp[valueAt,Rz,e']
   rw[Jo e,b];exact ih
theorem KV.any{kvs:List (κ×V)}{vs:List (κ×Value)}(r:KV kvs vs)(k:κ):(kvs.any λkv=>decide (kv.1=k))=vs.any λkv=>decide (kv.1=k):=by
 unfold KV at r
 induction r with
 |nil=>rfl
 |cons h t ih=>rw[Ft,Ft,ih,h.1]
theorem KV.repl{kvs:List (κ×V)}{vs:List (κ×Value)}(r:KV kvs vs)(k:κ)(ry:RelV y u) :
  KV (kvs.map λkv=>if kv.1=k then (kv.1,y)else kv) (vs.map λkv=>if kv.1=k then (kv.1,u)else kv):=by
 unfold KV at r ⊢
 induction r with
 |nil=>exact .nil
 | @cons p q ps qs h t ih=>
  rw[Bc,Bc];refine .cons ?_ ih;obtain⟨h1,h2⟩:=h;by_cases e:p.1=k
  ·rw[if_pos e,if_pos (h1.symm.trans e)];exact⟨h1,ry⟩
  ·rw[if_neg e,if_neg (λz=>e (h1.trans z))];exact⟨h1,h2⟩
theorem KV.put{kvs:List (κ×V)}{vs:List (κ×Value)}(r:KV kvs vs)(k:κ)(ry:RelV y u):KV (putK kvs k y) (stored vs k u):=by
 unfold putK stored;rw[r.any k];by_cases e:(vs.any λkv=>decide (kv.1=k))=true
 ·rw[if_pos e,if_pos e];exact r.repl k ry
 ·rw[if_neg e,if_neg e];exact Paired.snoc r ⟨rfl,ry⟩
theorem KV.length{kvs:List (κ×V)}{vs:List (κ×Value)}(r:KV kvs vs):kvs.length=vs.length:=No r
end
theorem Qge{k:Key}(r:RelV (kV k) u):(Q1 P w).is k u=true:=by
 cases k with
 |inl i=>obtain⟨t,e⟩:=(show ∃t,u=Ky i t from r);subst e;exact Qf8 P w i t
 |inr x=>obtain⟨t,e⟩:=(show ∃t,u=Value.str x t from r);subst e;exact Qf7 P w x t
theorem Qe2{P:Program}{w:World}:∀{ks:List Key}{us:List Value},Vals (ks.map kV) us->ItemsAre (Q1 P w) ks us
 | [],_,r=>by rw[B1]at r;cases r;exact .nil
 | k::ks,_,r=>by
  rw[Bc]at r;cases r with
  |cons h t=>exact .cons (Qge h) (Qe2 t)
abbrev KT(H:Hp):List (List Key×V)->List (List Key×Addr×Value)->Prop:=Paired λp q=>p.1=q.1/\H q.2.1=some (.tup (p.1.map kV))/\RelV p.2 q.2.2
theorem KT.val(r:KT H kvs xs)(k:List Key):RelO (valV kvs k) ((atKey xs k).map (·.2)):=by
 induction r with
 |nil=>exact Ts
 | @cons p q ps qs h t ih=>
  obtain⟨h1,_,h2⟩:=h;by_cases e:p.1=k
  ·have e':q.1=k:=h1.symm.trans e;have b:atKey (q::qs) k=some q.2:=by simp[atKey,Rz,e']
   rw[Jn e,b];exact h2
  ·have e':¬q.1=k:=λz=>e (h1.trans z);have b:atKey (q::qs) k=atKey qs k:=by simp[atKey,Rz,e']
   rw[Jo e,b];exact ih
theorem KT.repl(r:KT H kvs xs)(k:List Key)(ry:RelV y u) :
  KT H (kvs.map λkv=>if kv.1=k then (kv.1,y)else kv) (xs.map (putAt k u)):=by
 induction r with
 |nil=>exact .nil
 | @cons p q ps qs h t ih=>
  rw[Bc,Bc];refine .cons ?_ ih;obtain⟨h1,h2,h3⟩:=h;unfold putAt;by_cases e:p.1=k
  ·rw[if_pos e,if_pos (h1.symm.trans e)];exact⟨h1,h2,ry⟩
  ·rw[if_neg e,if_neg (λz=>e (h1.trans z))];exact⟨h1,h2,h3⟩
theorem KT.put(r:KT H kvs xs)(k:List Key)(hb:H b=some (.tup (k.map kV)))(ry:RelV y u) :
  KT H (putK kvs k y) (storedH xs k b u):=by
 have e:(kvs.any λkv=>decide (kv.1=k))=(atKey xs k).isSome:=by
  rw[U4,(r.val k).isSome_eq,Ka]
 unfold putK storedH;rw[e];by_cases q:(atKey xs k).isSome=true
 ·rw[if_pos q,if_pos q];exact r.repl k ry
 ·rw[if_neg q,if_neg q];exact Paired.snoc r ⟨rfl,hb,ry⟩
theorem KT.keeps(r:KT H kvs xs)(ht:∀b ys,H b=some (.tup ys)->H' b=some (.tup ys)):KT H' kvs xs :=
 Paired.mapP r λ_ _ z=>⟨z.1,ht _ _ z.2.1,z.2.2⟩
theorem Qu3{u:HO}(ok:HOk P w H h)(e:Rd H a u):Yj P w H h a u:=e.ok ok
theorem Qgl{kvs:List (Key×V)}(ok:HOk P w H h)(e:Rd H a (.dK kvs)):kvs.length<=sizeLine/\(a==sysModules)=false/\∃vs,KV kvs vs/\h.DictOf (Q1 P w) a vs :=
 show Yj P w H h a (.dK kvs)from Qu3 ok e
theorem Qnf{kvs:List (Key×V)}(ok:HOk P w H h)(e:H a=some (.dK kvs)):kvs.length<=sizeLine/\(a==sysModules)=false/\∃vs,KV kvs vs/\h.DictOf (Q1 P w) a vs:=Qgl ok (.inl e)
theorem Qe0{ks:List Key}(ok:HOk P w H h)(e:H a=some (.tup (ks.map kV))):(tupleKind (Q1 P w)).is h ks a:=by
 obtain⟨_,its,r,o,h1,h2,n,h3⟩:=(show Yj P w H h a (.tup (ks.map kV))from ok a _ e)
 exact⟨o,its.toArray,n,h1,h2,h3,by simpa using Qe2 r⟩
theorem Qju(ok:HOk P w H h)(e:Rd H a (.dT kvs)):kvs.length<=sizeLine/\(a==sysModules)=false /\
  ∃xs,KT H kvs xs/\h.DictOfH (tupleKind (Q1 P w)) a xs:=by
 obtain⟨z,y,xs,r,o,es,ep,h1,h2,h3,h4,h5⟩:=(show Yj P w H h a (.dT kvs)from Qu3 ok e)
 refine ⟨z,y,xs,r,o,es,ep,h1,h2,h3,h4,λx hx=>?_,h5⟩;have all:∀{l:List (List Key×V)} {m:List (List Key×Addr×Value)},KT H l m->∀x∈m,(tupleKind (Q1 P w)).is h x.1 x.2.1:=by
  intro l m q
  induction q with
  |nil=>intro x hx;exact nomatch hx
  | @cons p q ps qs hq t ih=>
   intro x hx;rcases Ar.mp hx with e|hx
   ·subst e;exact Qe0 ok (by rw[← hq.1];exact hq.2.1)
   ·exact ih x hx
 exact all r x hx
theorem Qzc(ok:HOk P w H h)(e:H a=some (.dT kvs)):kvs.length<=sizeLine/\(a==sysModules)=false /\
  ∃xs,KT H kvs xs/\h.DictOfH (tupleKind (Q1 P w)) a xs:=Qju ok (.inl e)
def DGet(H:Hp)(a:Addr)(y:V)(r:Option V):Prop :=
 (∃kvs k,Rd H a (.dK kvs)/\y=kV k/\r=valV kvs k)\/∃kvs k b,Rd H a (.dT kvs)/\y=.ref b/\H b=some (.tup (k.map kV))/\r=valV kvs k
def DPut(H:Hp)(a:Addr)(y v:V)(H':Hp):Prop :=
 (∃kvs k,H a=some (.dK kvs)/\y=kV k/\kvs.length<sizeLine/\H'=upd H a (.dK (putK kvs k v))) \/
 ∃kvs k b,H a=some (.dT kvs)/\y=.ref b/\H b=some (.tup (k.map kV))/\kvs.length<sizeLine/\H'=upd H a (.dT (putK kvs k v))
theorem DGet.k{H:Hp}{a:Addr}{kvs:List (Key×V)}{k:Key}(e:H a=some (.dK kvs)):DGet H a (kV k) (valV kvs k):=.inl ⟨kvs,k,.inl e,rfl,rfl⟩
theorem DGet.t{k:List Key}(e:H a=some (.dT kvs))(eb:H b=some (.tup (k.map kV))):DGet H a (.ref b) (valV kvs k):=.inr ⟨kvs,k,b,.inl e,rfl,eb,rfl⟩
theorem DPut.k{H:Hp}{a:Addr}{kvs:List (Key×V)}{k:Key}{v:V}(e:H a=some (.dK kvs))(hl:kvs.length<sizeLine):DPut H a (kV k) v (upd H a (.dK (putK kvs k v))):=.inl ⟨kvs,k,e,rfl,hl,rfl⟩
theorem DPut.t{k:List Key}(e:H a=some (.dT kvs))(eb:H b=some (.tup (k.map kV)))(hl:kvs.length<sizeLine) :
  DPut H a (.ref b) v (upd H a (.dT (putK kvs k v))):=.inr ⟨kvs,k,b,e,rfl,eb,hl,rfl⟩
section
variable {r:Value}
theorem Inv.big(I:Inv X pins σ H s):sysModules<s.heap.objs.size:=by
 have h:mainGlobals<s.heap.objs.size:=(I.mod.glob.keeps I.bk).lt;exact Oa (by decide) h
theorem Qnm(hu:A.units+1<cLine)(I:Inv X pins σ H s)(g:DGet H a y (some v))(ry:RelV y u)(h:∀w' s',Inv X pins σ H s'->RelV v w'->Q w' s') :
  wpAny (model X.prog X.w) A (getItem (.ref a) u) Q E s:=by
 rcases g with⟨kvs,k,e,ey,l⟩|⟨kvs,k,b,e,ey,eb,l⟩
 ·subst ey;obtain⟨z,hd,vs,rel,dd⟩:=Qgl I.hok e;obtain⟨w',hw,rw'⟩:=RelO.some_of (v:=v) (o:=valueAt vs k) (by rw[l];exact rel.val k);exact wpAny_getItem_of (Qge ry) dd.mapOf hw (h w' _ (I.tok _) rw')
 ·subst ey;cases(show u=Br b from ry);obtain⟨z,hd,xs,rel,dd⟩:=Qju I.hok e;obtain⟨w',hw,rw'⟩:=RelO.some_of (v:=v) (o:=(atKey xs k).map (·.2)) (by rw[l];exact rel.val k);obtain⟨p,hp,hp2⟩:=Nl.mp hw;refine wpAny_getItem_heap (Sz hu) (Qe0 I.hok eb) dd hp ?_;rw[hp2];exact h w' _ (I.tok _) rw'
theorem d_in(hu:A.units+1<cLine)(I:Inv X pins σ H s)(g:DGet H a y o)(ry:RelV y u)(h:∀s',Inv X pins σ H s'->Q (.bool o.isSome) s') :
  wpAny (model X.prog X.w) A (compareOp .In u (.ref a)) Q E s:=by
 rcases g with⟨kvs,k,e,ey,l⟩|⟨kvs,k,b,e,ey,eb,l⟩
 ·subst ey;obtain⟨z,hd,vs,rel,dd⟩:=Qgl I.hok e;refine wpAny_in_of (Qge ry) hd dd.mapOf ?_;rw[← (rel.val k).isSome_eq,← l];exact h _ (I.tok _)
 ·subst ey;cases(show u=Br b from ry);obtain⟨z,hd,xs,rel,dd⟩:=Qju I.hok e;refine wpAny_in_heap (Sz hu) (Qe0 I.hok eb) hd dd ?_;have q:=(rel.val k).isSome_eq;rw[Ka]at q;rw[← q,← l];exact h _ (I.tok _)
theorem Qua(hu:A.units+1<cLine)(I:Inv X pins σ H s)(g:DGet H a y o)(ry:RelV y u)(h:∀s',Inv X pins σ H s'->Q (.bool (!o.isSome)) s') :
  wpAny (model X.prog X.w) A (compareOp .NotIn u (.ref a)) Q E s:=by
 rcases g with⟨kvs,k,e,ey,l⟩|⟨kvs,k,b,e,ey,eb,l⟩
 ·subst ey;obtain⟨z,hd,vs,rel,dd⟩:=Qgl I.hok e;refine wpAny_notIn_of (Qge ry) hd dd.mapOf ?_;rw[← (rel.val k).isSome_eq,← l];exact h _ (I.tok _)
 ·subst ey;cases(show u=Br b from ry);obtain⟨z,hd,xs,rel,dd⟩:=Qju I.hok e;refine wpAny_notIn_heap (Sz hu) (Qe0 I.hok eb) hd dd ?_;have q:=(rel.val k).isSome_eq;rw[Ka]at q;rw[← q,← l];exact h _ (I.tok _)
theorem Qdt(I:Inv X pins σ H s)(mu:Mut (H a))(hs:Sa a s.heap h')(he:∃q,h'.get? a=some q)(new:Yj X.prog X.w (upd H a ob) h' a ob) :
  Inv X pins σ (upd H a ob) { s with heap:=h',toks:=t' } :=
 I.write (x:=a) (e:=a) mu (.inl rfl) (λb q hb z=>(hs.2 b hb).trans z) he new
theorem Qng{kvs:List (Key×V)}{vs:List (Key×Value)}(z:kvs.length<=sizeLine)(hd:(a==sysModules)=false)(rel:KV kvs vs)(dd:h'.DictOf (Q1 P w) a vs) :
  Yj P w H' h' a (.dK kvs):=⟨z,hd,vs,rel,dd⟩
theorem Qnl{Q:Unit->Shared->Prop}(hu:A.units+1<cLine)(I:Inv X pins σ H s)(g:DPut H a y v H')(ry:RelV y u)(rv:RelV v r)(h:∀s',Inv X pins σ H' s'->Q () s') :
  wpAny (model X.prog X.w) A (setItem (.ref a) u r) Q E s:=by
 rcases g with⟨kvs,k,e,ey,l,eH⟩|⟨kvs,k,b,e,ey,eb,l,eH⟩
 ·subst ey eH;obtain⟨z,hd,vs,rel,dd⟩:=Qnf I.hok e;have hz:vs.length<=sizeLine:=by rw[← rel.length];exact z
  have hl:(putK kvs k v).length<=sizeLine:=by have:=Z8 kvs k v;lia
  refine wpAny_setItem_pairs (hsz:=hz) (Qge ry) dd λh' dd' hs=>h _ ?_;have he:∃q,h'.get? a=some q:=let ⟨q,_,_,hq,_⟩:=dd';⟨q,hq⟩;exact Qdt I (by rw[e];exact Ts) hs he (Qng hl hd (rel.put k rv) dd')
 ·subst ey eH;cases(show u=Br b from ry);obtain⟨z,hd,xs,rel,dd⟩:=Qzc I.hok e;have hz:xs.length<=sizeLine:=by rw[← No rel];exact z
  have hl:(putK kvs k v).length<=sizeLine:=by have:=Z8 kvs k v;lia
  refine wpAny_setItem_heap (hsz:=hz) (Sz hu) (Qe0 I.hok eb) dd λh' dd' hs=>h _ ?_;obtain⟨q,es,ep,hq,h2,h3,h4,_,h5⟩:=dd';refine Qdt I (by rw[e];exact Ts) hs ⟨q,hq⟩ ⟨hl,hd,_,(rel.put k eb rv).keeps λc ys ec=>?_,q,es,ep,hq,h2,h3,h4,h5⟩;rw[Ql (Qyy ec e (λz=>nomatch z))];exact ec
end
section
variable {kvs:List (Key×V)}
theorem Qzd(I:Inv X pins σ H s)(e:Rd H a (.dK kvs))(h:∀t s',Inv X pins σ H s'->Q (.int kvs.length t) s'):wpAny (model X.prog X.w) A (call (.builtin "len") [.ref a]) Q E s:=by
 obtain⟨z,hd,vs,rel,dd⟩:=Qgl I.hok e;refine call_len_dict hd dd (by rw[← rel.length];rw[Md]at z;lia) ?_;rw[← rel.length];exact h _ _ (I.tok _)
end
theorem Qgm(I:Inv X pins σ H s)(g:DGet H a y o):s.TypeIs (.ref a) "dict":=by
 rcases g with⟨kvs,k,e,_,_⟩|⟨kvs,k,b,e,_,_,_⟩
 ·obtain⟨_,_,vs,_,dd⟩:=Qgl I.hok e;exact dd.typeIs
 ·obtain⟨_,_,xs,_,dd⟩:=Qju I.hok e;exact dd.typeIs
theorem Qiq(h:Heap)(hb:sysModules<h.objs.size):Yj P w H (h.push { cls:=.type "dict",data:=.dict #[] }) h.objs.size (.dK []) :=
 ⟨Dx _,beq_eq_false_iff_ne.mpr (Mk (Bv hb)),[],.nil,Heap.DictOf.new h⟩
theorem Qp3(h:Heap)(hb:sysModules<h.objs.size):Yj P w H (h.push { cls:=.type "dict",data:=.dict #[] }) h.objs.size (.dT []) :=
 ⟨Dx _,beq_eq_false_iff_ne.mpr (Mk (Bv hb)),[],.nil,_,#[],0,Bp _ rfl,⟨rfl,rfl,rfl⟩,rfl,rfl,D8⟩
def Qut:TE:=λ_ H Q=>∀p,H p=none->Q (.ref p) (upd H p (.dK []))
def Qus:TE:=λ_ H Q=>∀p,H p=none->Q (.ref p) (upd H p (.dT []))
theorem Qo9:PE X (.Dict [] [] pos) Qut:=λpins s σ H Q I h=>
 wpAny_Dict_empty ⟨.ref s.heap.objs.size,_,I.laid (a:=s.heap.objs.size) (o:=.dK []) (t':=s.toks) (λ_ _ q=>An _ q) (At _) (Qiq s.heap I.big),rfl,h _ (I.hok.fresh (At _))⟩
theorem Qo8:PE X (.Dict [] [] pos) Qus:=λpins s σ H Q I h=>
 wpAny_Dict_empty ⟨.ref s.heap.objs.size,_,I.laid (a:=s.heap.objs.size) (o:=.dT []) (t':=s.toks) (λ_ _ q=>An _ q) (At _) (Qp3 s.heap I.big),rfl,h _ (I.hok.fresh (At _))⟩
def Qkw:List (TE×TE)->St->Hp->(List (V×V)->Hp->Prop)->Prop
 | [],_,H,Q=>Q [] H
 | (tk,tv)::r,σ,H,Q=>tk σ H λx H1=>tv σ H1 λy H2=>Qkw r σ H2 λps H3=>Q ((x,y)::ps) H3
abbrev VV:List (V×V)->List (Value×Value)->Prop:=Paired λp q=>RelV p.1 q.1/\RelV p.2 q.2
def PPs(X:Cx)(pos:Pos)(keys:List (Option Expr))(values:List Expr)(trs:List (TE×TE)):Prop :=
 ∀(pins:List (Addr×Obj)) (s:Shared) (σ:St) (H:Hp) (Q:List (V×V)->Hp->Prop),Inv X pins σ H s->Qkw trs σ H Q ->
  wpAny (model X.prog X.w) X.A (evalPairs (pairTrees keys values X.env pos)) (λvs s'=>∃ps H',Inv X pins σ H' s'/\VV ps vs/\Q ps H') X.xe s
theorem Qs6:PPs X pos [] [] []:=λpins s σ H Q I h=>pairTrees_nil_walk ⟨[],H,I,.nil,h⟩
theorem Qoy{k v:Expr}{ks:List (Option Expr)}{vs:List Expr}{tk tv:TE}(hk:PE X k tk)(hv:PE X v tv)(hr:PPs X pos ks vs trs) :
  PPs X pos (some k::ks) (v::vs) ((tk,tv)::trs):=λpins s σ H Q I h=>
 pairTrees_cons_walk (thn (hk pins s σ H _ I h) λu s1 ⟨x,H1,I1,rx,q1⟩=>thn (hv pins s1 σ H1 _ I1 q1) λw2 s2 ⟨y,H2,I2,ry,q2⟩=>
  thn (hr pins s2 σ H2 _ I2 q2) λws s3 ⟨ps,H3,I3,rel,q3⟩=>⟨(x,y)::ps,H3,I3,.cons ⟨rx,ry⟩ rel,q3⟩)
def Qa8(kvs more:List (Key×V)):List (Key×V):=more.foldl (λacc kv=>putK acc kv.1 kv.2) kvs
theorem KV.merge:∀{more:List (Key×V)} {rs:List (Key×Value)} {kvs:List (Key×V)} {vs:List (Key×Value)},KV more rs->KV kvs vs->KV (Qa8 kvs more) (merged vs rs):=by
 intro more rs kvs vs r;unfold KV at r
 induction r generalizing kvs vs with
 |nil=>intro q;exact q
 | @cons p q ps qs h t ih=>
  intro r0;have e:KV (putK kvs p.1 p.2) (stored vs q.1 q.2):=by
   have:=r0.put p.1 h.2;rw[← h.1];exact this
  exact ih e
theorem Gg:∀(more kvs:List (Key×V)),(Qa8 kvs more).length<=kvs.length+more.length
 | [],kvs=>by show kvs.length<=kvs.length+0;lia
 | p::r,kvs=>by
  have h1:=Gg r (putK kvs p.1 p.2);have h2:=Z8 kvs p.1 p.2;show(Qa8 (putK kvs p.1 p.2) r).length<=_;rw[Am];lia
theorem Qco{P:Program}{w:World}:∀{kvs:List (Key×V)} {ws:List (Value×Value)},VV (kvs.map λkv=>(kV kv.1,kv.2)) ws->∃rs,Carries (Q1 P w) ws rs/\KV kvs rs
 | [],_,r=>by rw[B1]at r;cases r;exact⟨[],Ts,.nil⟩
 | p::kvs,_,r=>by
  rw[Bc]at r;cases r with
  | @cons a b as bs h t=>
   obtain⟨rs,c,q⟩:=Qco (P:=P) (w:=w) t;obtain⟨b1,b2⟩:=b;exact⟨(p.1,b2)::rs,⟨Qge h.1,rfl,c⟩,.cons ⟨rfl,h.2⟩ q⟩
noncomputable def Qx9(trs:List (TE×TE)):TE:=λσ H Q=>∀p,H p=none->Qkw trs σ (upd H p (.dK [])) λps H2=>H2 p=some (.dK [])/\∃kvs:List (Key×V),ps=kvs.map (λkv=>(kV kv.1,kv.2))/\kvs.length<=15/\Q (.ref p) (upd H2 p (.dK (Qa8 [] kvs)))
theorem Qte{keys:List (Option Expr)}{values:List Expr}(h:PPs X pos keys values trs)(hall:keys.all (·.isSome)=true)(hl:keys.length=values.length)(h0:keys≠[])
  (h15:keys.length<=15):PE X (.Dict keys values pos) (Qx9 trs):=by
 intro pins s σ H Q I q;have hn:=I.hok.fresh (At s.heap.objs.size);have I1:=I.laid (a:=s.heap.objs.size) (o:=.dK []) (h':=s.heap.push { cls:=.type "dict",data:=.dict #[] }) (t':=s.toks) (λ_ _ q=>An _ q) (At _) (Qiq s.heap I.big);refine wpAny_Dict_walk (knd:=Q1 X.prog X.w) hall hl h0 h15 (thn (h pins _ σ _ _ I1 (q _ hn)) λws s2 ⟨ps,H2,I2,rel,e,kvs,ep,lk,q2⟩=>?_);subst ep;obtain⟨rs,c,rk⟩:=Qco (P:=X.prog) (w:=X.w) rel;obtain⟨z,hd,vs0,r0,dd⟩:=Qnf I2.hok e;cases r0;refine⟨rs,c,dd,λh' dd' hs=>⟨.ref s.heap.objs.size,_,?_,rfl,q2⟩⟩;have hz:(Qa8 [] kvs).length<=sizeLine:=by
  have h1:=Gg kvs [];rw[Az]at h1;rw[Md];lia
 have he:∃q,h'.get? s.heap.objs.size=some q:=let ⟨q,_,_,hq,_⟩:=dd';⟨q,hq⟩;exact Qdt I2 (by rw[e];exact Ts) hs he (Qng hz hd (rk.merge .nil) dd')
structure M1(X:Cx)(o:Expr)(m:Str)(apos:Pos)(e:Expr)(cpos:Pos):Prop where
 base:attributeBase o m X.env (eval o X.env)=eval o X.env
 few:((backTo cpos (starEach [e] X.env)).all (λx=>!x.1)&&(backToKw cpos (keywordEach [] X.env)).all (λx=>x.1.isSome)
  && decide (([e]:List Expr).length+([]:List Keyword).length+(if ([]:List Keyword).isEmpty then 0 else 1)<30))=true
 line:(apos.endLine==cpos.line)=true
 trees:backTo cpos (starEach [e] X.env)=[(false,eval e X.env)]
end L2
variable {q:Nt}{loose:List Re}{XP:(Re->Option Fg)->Kf->Prop}{YP:Oo->Kf->Prop}{d:Dj}
namespace Att
open PySem PySem.W PySem.Calls PyProof.Rows
theorem Qbc{P:Params}:∀(ns:List Int)(vs:List Value),WellAll P h vs (ns.map WData.int)->IntsAre vs ns:=by
 intro ns
 induction ns with
 | nil=>
  intro vs w;rw[B1]at w;cases w;exact .nil
 | cons n ns ih=>
  intro vs w;rw[Bc]at w;cases w with
  | cons a b=>
   cases a;exact .cons _ _ (ih _ b)
theorem Qk2{l:OpenLaw}(hn:l.most=some n){P:Params}{args:List WData}{vals:List Value}
  (hpre:l.row.toRowW.claim.pre args=true) (hwl:WellAll P h vals args) :
  ∃a vs ns,vals=[Br a]/\args=[WData.list (ns.map WData.int)]/\h.get? a=some { cls:=.type "list",data:=.seq vs.toArray }/\IntsAre vs ns/\ns.length<=n:=by
 have hsh:WShape.hasAll [] args [.list .int]=true:=(pre_splitW hpre).1;have hc:l.pre.holds [] { args:=args }=true:=(pre_splitW hpre).2;obtain⟨d,r,rfl,h1,h2⟩:=hasAllW_cons hsh;obtain rfl:=hasAllW_nil h2;obtain⟨xs,rfl,h3⟩:=hasW_list h1;obtain⟨ns,rfl⟩:=items_int h3;have hlen:ns.length<=n:=by
  unfold OpenLaw.pre at hc;have h4:(WTm.not (.lt (.lit (.int (n:Int))) (.len (.arg 0)))).holds [] { args:=[.list (ns.map .int)] }=true:=by
   have h4:=(holds_andW hc).1;rw[hn]at h4;exact h4
  have h5:=condW_of h4 (w_not (w_lt w_lit (w_len_list (w_arg rfl))));rw[Ao]at h5;refine Nat.le_of_not_lt λq=>?_;have q':(n:Int)<((ns.length:Nat):Int):=by lia
  first
   | (rw[decide_eq_true q']at h5;exact absurd h5 (by decide))
   | (simp at h5;lia)
 cases hwl with
 | cons w1 w2=>
  cases w2;cases w1 with
  |list ho hall=>exact⟨_,_,ns,rfl,rfl,ho,Qbc ns _ hall,hlen⟩
theorem Qlk(l:OpenLaw)(args:List WData):l.row.toRowW.claim.post args (.bool true) args=true :=
 postW_of (r:=l.row.toRowW) (X:=(true==true))
  (show WShape.has [] (.bool true) .bool=true by first|rfl|decide|simp[WShape.has,WShape.arms,WShape.armsAll])
  (show(WTm.eq .res (.lit (.bool true))).value [] { args:=args,res:=some (.bool true),after:=args }=some (.bool (true==true))from w_eq_bool (w_res rfl) w_lit) rfl
theorem Qgu{l:OpenLaw}{q:Program}{d:DefRec}
  (hn:l.most=some n) (hdf:d.params.defaults=[])
  (call:∀(w:World)(s₀ s₁:Shared)(mg mb:Str->Option Value)(fa:Addr)(o:Obj)(pm cd doc:Value)(a:Addr)(vs:List Value)(ns:List Int),
   Ground q loose [] XP w s₀ mg mb s₁.heap->YP w s₁.heap ->
   s₁.heap.get? fa=some o->o.data=.func (docDef d.name d.params d.body d.scope pm cd doc)->s₁.heap.CodeRec cd d.name->mg d.name=some (.ref fa) ->
   s₁.heap.get? a=some { cls:=.type "list",data:=.seq vs.toArray }->IntsAre vs ns->ns.length<=n->s₁.gens = #[] ->
   codeAny (model l.prog w) callerA (.call (.ref fa) ⟨[.ref a],[]⟩) (λr s'=>r=.ok (.ret (.bool true))/\OldK s₁.heap s'.heap/\s'.os=s₁.os/\AllBare s'.gens) s₁) :
  WalkO q loose XP YP l.row.toRowW d [] (λf vs=>Oy f vs):=by
 intro w s₀ s₁ mg mb G Y fa o pm cd doc dV kV ho hd hcd hD hmg hg args vals as hpre hlay hrd hwl hlo;obtain rfl:dV=.none:=Dflts.none hD hdf;obtain rfl:kV=.none:=Dflts.noKw hD;obtain⟨a,vs,ns,rfl,rfl,hobj,hints,hlen⟩:=Qk2 hn hpre hwl;refine enter_call (Tp (call w s₀ s₁ mg mb fa o pm cd doc a vs ns G Y ho (fd_plain hd) hcd hmg hobj hints hlen hg) λr s' hq=>?_);obtain⟨rfl,h2,h3,h4⟩:=hq;exact⟨.inl ⟨.bool true,.bool true,[],rfl,λ_=>rfl,.bool true,Qlk l _,λ_=>⟨Rn,λ_ hm=>(nomatch hm)⟩⟩,h2,h3,h4⟩
end Att
variable {o:L2.HO}{i k kt:Nat}{t:Dj}{y:Re}{ta:L2.TA}{env:Do}{cl:List (Re×Dj)}{elt:Nb}{ifs:List Nb}{ts:List Re}{gt:L2.TG}{tt:L2.TT}{J:L2.It}{tn:Nat->Kf->Prop}{G:List L2.V->L2.Hp->Prop}{px spos pt:Sx}
namespace L2
open PySem PySem.Spec PyProof.Rows
theorem Qd9:∀{vs:List Value}{ns:List Int},IntsAre vs ns->Vals (ns.map V.int) vs
 |_,_,.nil=>.nil
 |_,_,.cons n t h=>.cons ⟨t,rfl⟩ (Qd9 h)
def Only(H:Hp):Prop:=∀b,H b=none\/∃o xs,H b=some (.frz o (.lst xs))
def Vb(s:Stmt):Arguments:=match s with
 | .FunctionDef _ a _ _ _ _ _ _ _ _=>a
 |_=>{ posonlyargs:=[],args:=[],vararg:=none,kwonlyargs:=[],kw_defaults:=[],kwarg:=none,defaults:=[] }
def Qs(s:Stmt):List Stmt:=match s with
 | .FunctionDef _ _ b _ _ _ _ _ _ _=>b
 |_=>[]
def Qc(s:Stmt):Scope:=match s with
 | .FunctionDef _ _ _ _ _ _ sc _ _ _=>sc
 |_=>{ kind:=.function,names:=[],isGenerator:=false,isCoroutine:=false }
abbrev CX0:CXT:=λ_ _ _ _ _ _=>False
abbrev E0:XK:=λ_ _ _=>False
theorem Qvy:Qn6 CX0 X E0:=λ_ _ _ _ _ _ _ h=>h.elim
structure Fun(K:Frag)(x qual:Str)(st:Stmt)(f:Addr)(fd:FuncData):Prop where
 ex:∃(oc:Value)(od:Option Addr)(kV doc pm:Value)(an:Option Addr)(cdv ct:Value)(osl:Array (Option Value)),
  fd=fnOf x qual (Vb st) (Qs st) (Qc st) .none kV doc pm an cdv ct/\K.lookup f=some ⟨oc,od,.func fd,osl⟩/\codeIn K cdv qual=true
 kp:keepIn K (.ref f)=true
section
variable {K:Frag}
theorem Fun.ok{sp:Sp}(F:Fun K x qual st f fd)(S:FnScope N ps (Qc st))(len:∀vs H Q E,sp vs H Q E->vs.length=ps.length)
  (hbody:∀(cdv:Value)(A:Around)(outer:List Env)(s:Shared)(H:Hp)(vs:List V)(Q:VK)(E:XK),Room k (A.deeper (envOfC qual (Qc st) s.heap.objs.size f cdv))->sp vs H Q E ->
   ∃t,PSs (cxOf CX0 P w K mg base N qual (Qc st) f cdv A outer s H E).nox (Qs st) t/\t { nx:=λ_ H'=>Q .non H',rt:=Q } (start N vs) H):FnOk P w K mg base CX0 (k+1) f fd ps sp:=by
 obtain⟨oc,od,kV,doc,pm,an,cdv,ct,osl,rfl,lk,hcd⟩:=F.ex;refine Qxa lk hcd S len λA outer s H vs Q E hr hsp=>?_;obtain⟨t,h,q⟩:=hbody cdv A outer s H vs Q E hr hsp;exact⟨t,h.nox,q⟩
theorem Fun.binds(F:Fun K x qual st f fd)
  (h:∀(kV doc pm:Value)(an:Option Addr)(cdv ct:Value)(us:List Value),us.length=ps.length->bindArgs (fnOf x qual (Vb st) (Qs st) (Qc st) .none kV doc pm an cdv ct) ⟨us,[]⟩=pure (ps.zip us)):Qfp K fd ps []:=by
 obtain⟨oc,od,kV,doc,pm,an,cdv,ct,osl,rfl,lk,hcd⟩:=F.ex;exact .all (h kV doc pm an cdv ct)
theorem Qig{oc:Value}{od an:Option Addr}{kV doc pm cdv ct:Value}(l:K.lookup f=some ⟨oc,od,.func (fnOf x qual (Vb st) (Qs st) (Qc st) .none kV doc pm an cdv ct),osl⟩)
  (c:codeIn K cdv qual=true) (k:keepIn K (.ref f)=true):Fun K x qual st f (fnOf x qual (Vb st) (Qs st) (Qc st) .none kV doc pm an cdv ct):=⟨⟨oc,od,kV,doc,pm,an,cdv,ct,osl,rfl,l,c⟩,k⟩
end
theorem Qp(hr:Room k A):A.units+1<cLine:=Rf (Nat.add_le_add_left (by decide:1<=64) _) hr.units
theorem Qnv:Uz X (.builtin "len") (λxs H Q=>∃a kvs,xs=[V.ref a]/\H a=some (.dK kvs)/\Q (.int kvs.length) H):=by
 intro pins s σ H xs us Q I r h;obtain⟨a,kvs,rfl,ha,q⟩:=h;obtain⟨u,rfl,ru⟩:=Qbr r;cases ru;exact Qzd I (.inl ha) λt s' I'=>⟨.int kvs.length,H,I',⟨t,rfl⟩,q⟩
def Same(H H':Hp):Prop:=∀b o,H b=some o->H' b=some o
theorem Same.refl(H:Hp):Same H H:=λ_ _ h=>h
theorem Same.trans(a:Same H H1)(b:Same H1 H2):Same H H2:=λc o h=>b c o (a c o h)
theorem Same.free(e:Same H H')(h:H' l=Option.none):H l=Option.none:=by
 cases q:H l with
 |none=>rfl
 | some o=>
  rw[e l o q]at h;cases h
theorem Uy{env:Env}:∀(names:List (Str×NameKind)) (acc:List (Str×Addr)),
  (∀x∈names,x.2=.free->∃c,env.cells.lookup x.1=some c)->(∀y c,acc.lookup y=some c->env.cells.lookup y=some c) ->
  ∃cl:List (Str×Addr),(forIn names acc (λ(x:Str×NameKind)(cs:List (Str×Addr))=>
    if (x.2==D9)=true then do
     let c ← cellOf env x.1
     pure (Mf ((x.1,c)::cs))
    else pure (Mf cs)):Sem (List (Str×Addr)))=pure cl /\
   (∀y c,cl.lookup y=some c->env.cells.lookup y=some c)/\(∀y,(acc.lookup y).isSome=true->(cl.lookup y).isSome=true) /\
   ∀x∈names,x.2=.free->(cl.lookup x.1).isSome=true
 | [],acc,_,ha=>⟨acc,by rw[List.forIn_nil],ha,λ_ h=>h,λ_ h=>nomatch h⟩
 | (n,k)::r,acc,hn,ha=>by
  rw[List.forIn_cons]
  by_cases hk:k=.free
  ·subst hk
   obtain⟨c,hc⟩:=hn (n,.free) Ak rfl
   have hc':env.cells.lookup n=some c:=hc
   obtain ⟨cl,e,h1,h2,h3⟩:=Uy r ((n,c)::acc) (λx hx=>hn x (Al _ hx)) (λy c' h=>by
    rw[D2]at h
    cases q:y==n with
    |true=>rw[q]at h;cases h;rw[beq_iff_eq.mp q];exact hc'
    |false=>rw[q]at h;exact ha y c' h)
   refine⟨cl,?_,h1,λy hy=>h2 y ?_,λx hx hf=>?_⟩
   ·have e0:cellOf env n=pure c:=by unfold cellOf;rw[hc']
    show((if ((D9==D9)=true)then (cellOf env n >>= λc=>pure (Mf ((n,c)::acc)))else pure (Mf acc)) >>= _)=_
    rw[if_pos (by decide),e0]
    exact e
   ·rw[D2]
    cases q:y==n with
    |true=>rfl
    |false=>exact hy
   ·rcases Ar.mp hx with rfl|hx
    ·exact h2 n (by simp[D2])
    ·exact h3 x hx hf
  ·obtain ⟨cl,e,h1,h2,h3⟩:=Uy r acc (λx hx=>hn x (Al _ hx)) ha
   refine⟨cl,?_,h1,h2,λx hx hf=>?_⟩
   ·show((if ((k==D9)=true)then (cellOf env n >>= λc=>pure (Mf ((n,c)::acc)))else pure (Mf acc)) >>= _)=_
    rw[if_neg (by simpa using hk)]
    exact e
   ·rcases Ar.mp hx with rfl|hx
    ·exact absurd hf hk
    ·exact h3 x hx hf
theorem Qbk(h:∀x∈scope.names,x.2=.free->∃c,env.cells.lookup x.1=some c) :
  ∃cl,closureFor scope env=pure cl/\(∀y c,cl.lookup y=some c->env.cells.lookup y=some c)/\∀x∈scope.names,x.2=.free->∃c,cl.lookup x.1=some c:=by
 obtain⟨cl,e,h1,_,h3⟩:=Uy scope.names [] h (λy c q=>by simp at q);refine⟨cl,?_,h1,λx hx hf=>Ma.mp (h3 x hx hf)⟩;simp only[closureFor];show(forIn scope.names [] _ >>= λr=>pure r)=_;rw[e];rfl
theorem Y9{env:Env}{x:Str}:∀{names:List (Str×NameKind)},names.lookup x=some .free ->
  (names.map λ(n,k)=>if (k==D9&&env.scope.kind == .function&&env.kindOf n==some .cell)then (n,Rx)else (n,k)).lookup x=some .cell \/
  (names.map λ(n,k)=>if (k==D9&&env.scope.kind == .function&&env.kindOf n==some .cell)then (n,Rx)else (n,k)).lookup x=some .free
 | [],h=>by simp at h
 | (n,k)::r,h=>by
  have ih:=@Y9 env x r;show Ii x ((if (k==D9&&env.scope.kind == .function&&env.kindOf n==some .cell)=true then (n,Rx)else (n,k))::_)=_\/Ii x ((if (k==D9&&env.scope.kind == .function&&env.kindOf n==some .cell)=true then (n,Rx)else (n,k))::_)=_;cases hx:x==n with
  | true=>
   simp only[D2,hx]at h;cases h;by_cases hc:(D9==D9&&env.scope.kind == .function&&env.kindOf n==some .cell)=true
   ·rw[if_pos hc];left;simp only[D2,hx]
   ·rw[if_neg hc];right;simp only[D2,hx]
  | false=>
   simp only[D2,hx]at h;by_cases hc:(k==D9&&env.scope.kind == .function&&env.kindOf n==some .cell)=true
   ·rw[if_pos hc];simp only[D2,hx];exact ih h
   ·rw[if_neg hc];simp only[D2,hx];exact ih h
theorem Zj{env:Env}{x:Str}{q:NameKind}:∀{names:List (Str×NameKind)},(∀y∈names,y.2 ≠ .cell)->q=.cell\/q=.free ->
  (names.map λ(n,k)=>if (k==D9&&env.scope.kind == .function&&env.kindOf n==some .cell)then (n,Rx)else (n,k)).lookup x=some q->(x,D9)∈names
 | [],_,_,h=>by simp at h
 | (n,k)::r,hn,hq,h=>by
  have h:Ii x ((if (k==D9&&env.scope.kind == .function&&env.kindOf n==some .cell)=true then (n,Rx)else (n,k))::(r.map λ(n,k)=>if (k==D9&&env.scope.kind == .function&&env.kindOf n==some .cell)then (n,Rx)else (n,k)))=some q:=h;by_cases hc:(k==D9&&env.scope.kind == .function&&env.kindOf n==some .cell)=true
  ·rw [if_pos hc]at h;cases hx:x==n with
   | true=>
    have hk:k=.free:=by
     cases k<;>first|rfl|(simp at hc)
    rw[beq_iff_eq.mp hx,hk];exact Ak
   | false=>
    simp only[D2,hx]at h;exact Al _ (Zj (λy hy=>hn y (Al _ hy)) hq h)
  ·rw [if_neg hc]at h;cases hx:x==n with
   | true=>
    simp only[D2,hx]at h;have hk:k=q:=Bq h;have hk2:k=.free:=by
     rcases hq with rfl|rfl
     ·exact absurd hk (hn (n,k) Ak)
     ·exact hk
    rw[beq_iff_eq.mp hx,hk2];exact Ak
   | false=>
    simp only[D2,hx]at h;exact Al _ (Zj (λy hy=>hn y (Al _ hy)) hq h)
noncomputable def Z1(X:Cx)(scope:Scope)(cl:List (Str×Addr))(C:Addr)(N:List Str)(s₀:Shared)(H₀:Hp)(fp:List Addr):Cx :=
 { X with N:=N,s₀:=s₀,H₀:=H₀,env:=compEnvC scope cl C X.env,outer:=X.stack,stack:=X.stack,ex:=fp,fn:=λ_=>false,pn:=[],xe:=λ_ _=>False }
structure BlkScope(env:Env)(scope:Scope)(x:Str):Prop where
 kind:scope.kind=.function
 cells:∀y∈scope.names,y.2 ≠ .cell
 names:∀y∈scope.names,y.2=.local->scope.names.lookup y.1=some .local
 lx:scope.names.lookup x=some .local
 free:∀y∈scope.names,y.2=.free->env.kindOf y.1=some .cell\/env.kindOf y.1=some .free
def bN(N:List Str)(x:Str)(ix:List Nat):List Str:=x::ix.map λi=>N.getD i Ob
def bS(σ:St)(o:Option V)(ix:List Nat):St:=o::ix.map λi=>(σ[i]?).getD none
def PIfs(X:Cx)(ifs:List Expr)(tt:TT):Prop :=
 ∀(pins:List (Addr×Obj)) (s:Shared) (σ:St) (H:Hp) (Q:Bool->Hp->Prop),Inv X pins σ H s->tt σ H Q ->
  wpAny (model X.prog X.w) X.A (forIn ifs true λc r=>if r=true then do let ok ← isTrue c X.env (eval c X.env);pure (Mf ok)else pure (Mf r)) (TP X pins σ Q) X.xe s
def tAll:TT:=λ_ H Q=>Q true H
theorem Qo1:PIfs X [] tAll:=by
 intro pins s σ H Q I h;rw[List.forIn_nil];exact As ⟨H,I,h⟩
theorem Qxv(I:Inv X pins σ H s)(B:BlkScope X.env scope x)
  (h1:∀y c,cl.lookup y=some c->X.env.cells.lookup y=some c) (h3:∀y∈scope.names,y.2=.free->∃c,cl.lookup y.1=some c) (hC:s.heap.objs.size<=C) (hf:∀b∈fp,FpOk X pins H b) (hl:∀b∈fp,b<s.heap.objs.size) :
  (Z1 X scope cl C N s H fp).Ok where
 mod:=I.ok.mod
 kind:=by show(relabel scope X.env).kind=_;exact B.kind
 glob:=I.ok.glob
 blt:=I.ok.blt
 above:=hC
 inj:=λy z c q r=>I.ok.inj y z c (h1 y c q) (h1 z c r)
 has:=λy hy=>by
  have hy:(relabel scope X.env).names.lookup y=some .cell\/(relabel scope X.env).names.lookup y=some .free:=hy;have m:(y,D9)∈scope.names:=by
   rcases hy with q|q
   ·exact Zj B.cells (.inl rfl) q
   ·exact Zj B.cells (.inr rfl) q
  exact h3 _ m rfl
 cab:=λy c q=>by cases(show false=true from q)
 hd:=I.ok.hd
 frames:=I.ok.frames
 stk:=.inl rfl
 exf:=λb hb=>⟨Bv (Bs (hl b hb) hC),λy c q=>(hf b hb).2.2.2.2.1 y c (h1 y c q)⟩
 bs:=I.bs
 bsz:=Dy I.ok.bsz I.sz
 noex:=λb o e hb=>by
  rcases(hf b hb).2.2.2.1 with z|z
  ·exact I.ok.noex b o e z
  ·exact absurd (Bs (Bf e) (Dy I.ok.bsz z)) (Np _)
 exfs:=λb hb z=>by
  have z':=I.stkSub b z;rcases Ar.mp z' with q|q
  ·exact(hf b hb).2.1 q
  ·exact(hf b hb).2.2.1 q
 funs:=I.stack
 frf:=I.stkFree
theorem HOk.add(x:HOk P w H h)(hn:H a=none)(new:Yj P w (upd H a o) h a o):HOk P w (upd H a o) h:=λb u e=>by
 by_cases hb:b=a
 ·subst hb;rw[Qf]at e;cases e;exact new
 ·rw[Ql hb]at e;exact(x b u e).stay (λc v _ q=>q) (λc q=>by rw[Ql (Qw q hn)];exact q) (λc xs q=>by rw[Ql (Qw q hn)];exact q) λc _ _ _ q _=>by rw[Ql (Qw q hn)];exact q
theorem Un.add{fs:List Addr}(u:Un fs ex H H' h h')(hn:h.get? a=none)(hH:H a=none):Un fs ex H (upd H' a o) h h' where
 keep:=u.keep
 slot:=u.slot
 free:=λb ob e n hx=>by
  have:b≠a:=λz=>by rw[z,hn]at e;cases e
  rw[Ql this];exact u.free b ob e n hx
 there:=u.there
 tups:=λb xs e=>by rw[Ql (Qw e hH)];exact u.tups b xs e
 frzs:=λb ob w e=>by rw[Ql (Qw e hH)];exact u.frzs b ob w e
 tbls:=λb ps e=>by rw[Ql (Qw e hH)];exact u.tbls b ps e
section
variable {R:Result->Shared->Prop}
theorem Qbz{target:Expr}{it acc:Value}(I:Nat->Shared->Prop)
  (turn:∀n s,I n s->wpAny (model prog w) A (pyNext it) (λr s₁=>match r with
   |none=>R (.ok .next) s₁
   | some v=>wpAny (model prog w) A (letOwnedTupleGo target it v) (λ_ s₀=>wpAny (model prog w) A (assign target env v) (λ_ s₂=>
     wpAny (model prog w) A (forIn ifs true λc r=>if r=true then do let ok ← isTrue c env (eval c env);pure (Mf ok)else pure (Mf r)) (λok s₃=>
      if ok=true then wpAny (model prog w) A (eval elt env) (λx s₄=>
       wpAny (model prog w) A (call (.builtin "list.append") [acc,x]) (λ_ s₅=>∃m,m<n/\I m s₅) (notedBy (model prog w) A env λe s'=>R (.error e) s') s₄) (notedBy (model prog w) A env λe s'=>R (.error e) s') s₃
      else ∃m,m<n/\I m s₃) (notedBy (model prog w) A env λe s'=>R (.error e) s') s₂) (notedBy (model prog w) A env λe s'=>R (.error e) s') s₀) (notedBy (model prog w) A env λe s'=>R (.error e) s') s₁) (notedBy (model prog w) A env λe s'=>R (.error e) s') s)
  (n:Nat) (h:I n s):codeAny (model prog w) A (.compLoop (.ListComp elt [⟨target,iter,ifs,0⟩] scope pos) 0 it acc env) R s:=by
 refine codeAny_loop rfl I (λn s hI=>?_) n h
 show wpAny _ A ((compTurn (.ListComp elt [⟨target,iter,ifs,0⟩] scope pos) 0 it acc env).onRaise (λx=>do noteFrame x env;theTreesLotGoes x)) _ _ s
 refine wpAny_noted ?_
 rw[compTurn_list]
 refine Ah (Lr (Ah (Fw (turn n s hI) (λr s₁ h₁=>?_) λ_ _ h'=>h')))
 cases r with
 |none=>exact As h₁
 | some v=>
  refine Ah (Fw h₁ (λ_ s₀ h₀=>?_) λ_ _ h'=>h')
  refine Ah (Fw h₀ (λ_ s₂ h₂=>Ah (Fw h₂ (λok s₃ h₃=>?_) λ_ _ h'=>h')) λ_ _ h'=>h')
  cases ok with
  |false=>exact As ⟨rfl,h₃⟩
  | true=>
   exact Ah (Ah (Fw h₃ (λx s₄ h₄=>Ah (Fw h₄ (λ_ s₅ h₅=>As (As ⟨rfl,h₅⟩)) λ_ _ h'=>h')) λ_ _ h'=>h'))
end
def bN2(N:List Str)(ts:List Str)(ix:List Nat):List Str:=ts++ix.map λi=>N.getD i Ob
def bS2(σ:St)(o:List (Option V))(ix:List Nat):St:=o++ix.map λi=>(σ[i]?).getD none
theorem Qnp{ix:List Nat}{it:Addr}{RR:Value->Do->Result->Shared->Prop}{Px:Hp->Shared->Value->Shared->Prop}
  (I:Inv X pins σ H s) (hc:X.calm=true) (B:BlkScope X.env scope x) (h1:∀y c,cl.lookup y=some c->X.env.cells.lookup y=some c) (h3:∀y∈scope.names,y.2=.free->∃c,cl.lookup y.1=some c)
  (hix:∀i∈ix,∃y,X.N[i]? = some y/\scope.names.lookup y=some .free) (hN:(bN2 X.N ts ix).Nodup)
  (T:Turn X.prog X.w X.K tg J fp it tn) (st:tn 0 s.heap) (hf:∀b∈fp,FpOk X pins H b)
  (hg:∀cl C s₀ H₀ fp,PG (Z1 X scope cl C (bN2 X.N ts ix) s₀ H₀ fp) tg gt)
  (he:∀cl C s₀ H₀ fp xe,(∀pins σ' H s e s',Inv (Z1 X scope cl C (bN2 X.N ts ix) s₀ H₀ fp) pins σ' H s->Px H s e s'->xe e s')->PE ((Z1 X scope cl C (bN2 X.N ts ix) s₀ H₀ fp).wish xe) elt te)
  (hi:∀cl C s₀ H₀ fp,PIfs (Z1 X scope cl C (bN2 X.N ts ix) s₀ H₀ fp) ifs tt)
  (W:Nat->Nat->List V->Hp->Prop) (m₀:Nat) (w0:W 0 m₀ [] H)
  (turn:∀i m ys H,W i m ys H->(J.stop i H/\ys.length<=sizeLine/\G ys H)\/(J.go i H/\ys.length<sizeLine/\∀v H',J.yld i H v H'->∀o:List (Option V),o.length=ts.length->gt v (bS2 σ o ix) H' λσ2 H2=>∃o2:List (Option V),σ2=bS2 σ o2 ix/\o2.length=ts.length /\
    tt σ2 H2 λb H1=>if b=true then te σ2 H1 λy H2=>∃m',m' < m/\W (i+1) m' (ys++[y]) H2 else ∃m',m' < m/\W (i+1) m' ys H1))
  (hRR:∀D C cenv s' ys H',cenv.locals=C->Inv X pins σ (upd H' D (.lst ys)) s'->H' D=none->H' C=none->(∃m,s'.heap.Ns C m)->s.heap.objs.size<=C->D≠C->G ys H'->RR (.ref D) cenv (.ok .next) s')
  (hXX:∀D C cenv s' H' e s'',cenv.locals=C->cenv.frame=X.env.frame->Inv X pins σ H' s'->H' C=none->(∃m,s'.heap.Ns C m)->s.heap.objs.size<=C->C∉frs X.stack->Px H' s' e s''->notedBy (model X.prog X.w) X.A (compEnvC scope cl C X.env) (λe s'=>RR (.ref D) cenv (.error e) s') e s'') :
  wpAny (model X.prog X.w) X.A (newList []) (λacc s₃=>wpAny (model X.prog X.w) X.A (newFunctionEnv scope X.env.globals cl [] X.env.qual none .none (some X.env)) (λcenv s₄=>
   codeAny (model X.prog X.w) X.A (.compStart (.ListComp elt [⟨tg,iter,ifs,0⟩] scope pos) 0 (.ref it) acc { cenv with scope:=relabel scope X.env }) (RR acc { cenv with scope:=relabel scope X.env }) s₄) E s₃) E s:=by
 have hl:∀b∈fp,b<s.heap.objs.size:=λb hb=>by obtain⟨o,e,_⟩:=T.obj 0 _ st b hb;exact Bf e
 refine Dv (wpAny_newFunctionEnv B.cells (by intro y hy;simp at hy) (λh₁ hns₁ hsb₁=>?_) B.kind);dsimp only at hns₁ hsb₁ ⊢;generalize hH2:s.heap.push { cls:=.type "list",dict:=none,data:=.seq ([]:List Value).toArray }=H2 at hns₁ hsb₁ ⊢;have hC:H2.objs.size=s.heap.objs.size+1:=by rw[← hH2,K9]
 generalize hD:s.heap.objs.size=D at hC hl hRR hXX ⊢;generalize hCC:H2.objs.size=C at hC hns₁ hsb₁ ⊢;have hDC:D≠C:=by lia
 have old:∀b o,s.heap.get? b=some o->h₁.get? b=some o:=λb o e=>hsb₁.extBut b o (Bv (by have z:=Bf e;rw[hD]at z;exact Bs z (by rw[hC];exact Ij _))) (An _ (hH2 ▸ An _ e));have hacc:h₁.get? D=some { cls:=.type "list",data:=.seq ([]:List Value).toArray 0 }:=hsb₁.extBut _ _ hDC (An _ (hH2 ▸ (by rw[← hD];exact Bp _ rfl)));have hfr:∀a,D<=a->s.heap.get? a=none:=λa ha=>by
  cases e:s.heap.get? a with
  |none=>rfl
  |some o=>exact absurd (Bf e) (by rw[hD];exact Tt.mpr ha)
 have hHn:∀a,D<=a->H a=none:=λa ha=>I.hok.fresh (by lia);have ok:(Z1 X scope cl C (bN2 X.N ts ix) s H fp).Ok:=Qxv I B h1 h3 (by lia) hf (by rw[hD];exact hl);generalize hK:Z1 X scope cl C (bN2 X.N ts ix) s H fp=K at ok;have kp:K.prog=X.prog:=by rw[← hK];rfl
 have kw:K.w=X.w:=by rw[← hK];rfl
 have kK:K.K=X.K:=by rw[← hK];rfl
 have kA:K.A=X.A:=by rw[← hK];rfl
 have kc:K.calm=true:=by rw[← hK];exact hc
 have kN:K.N=bN2 X.N ts ix:=by rw[← hK];rfl
 have kenv:K.env=compEnvC scope cl C X.env:=by rw[← hK];rfl
 have kloc:K.env.locals=C:=by rw[← hK];rfl
 have kfs:K.fs=frs X.stack:=by rw[← hK];rfl
 have kex:K.ex=fp:=by rw[← hK];rfl
 have kpn:K.pn=[]:=by rw[← hK];rfl
 have ks:K.s₀=s:=by rw[← hK];rfl
 have kH:K.H₀=H:=by rw[← hK];rfl
 have kx:K.xe=λ_ _=>False:=by rw[← hK];rfl
 have kcl:K.env.cells=cl:=by rw[← hK];rfl
 have cellLt:∀y c,cl.lookup y=some c->c<D:=λy c q=>by obtain⟨v,z⟩:=I.cell y c (h1 y c q);rw[← hD];exact z.lt
 have stkLt:∀b∈frs X.stack,b<D:=λb hb=>by
  rcases Ar.mp (I.stkSub b hb)with q|q
  ·rw[q,← hD];exact I.lt
  ·rcases Tu b D with z|z
   ·exact z
   ·exact absurd q (I.nofs (by lia))
 -- the state at the block's begin
 have I0:∀tk,Inv K [(D,{ cls:=.type "list",data:=.seq ([]:List Value).toArray 0 })] (bS2 σ (ts.map λ_=>none) ix) H { s with heap:=h₁,toks:=tk }:=λtk=>by
  refine⟨ok,by rw[ks],I.bare,by rw[ks,kH];exact Un.kept old,?_,?_,?_,?_,?_,by rw[kp,kw];exact I.hok.kept old,?_⟩
  ·refine ⟨_,by rw[kloc];exact hns₁,λi y v e1 e2 e3=>?_⟩;rw[kN]at e1;by_cases hlt:i<ts.length
   ·unfold bS2 at e2;rw[Dg (by simpa using hlt),Au]at e2;cases hts:ts[i]? with
    |none=>rw[hts]at e2;cases e2
    |some y'=>rw[hts]at e2;have e2:(some (none:Option V))=some (some v):=e2;cases e2
   ·obtain ⟨i,rfl⟩:∃i',i=ts.length+i':=⟨i-ts.length,by lia⟩
    have e1':(ix.map λi=>X.N.getD i Ob)[i]? = some y:=by
     unfold bN2 at e1;rw[Dt (by lia),show ts.length+i-ts.length=i by lia]at e1;exact e1
    have e2':(ix.map λi=>(σ[i]?).getD none)[i]? = some (some v):=by
     unfold bS2 at e2;rw[Dt (by rw[Ao];lia),Ao,show ts.length+i-ts.length=i by lia]at e2;exact e2
    rw[Au]at e1' e2';cases q:ix[i]? with
    |none=>rw[q]at e1';cases e1'
    | some j=>
     rw[q]at e1' e2';obtain⟨y',a1,a2⟩:=hix j (Du q);have a3:X.N.getD j Ob=y':=by simp[List.getD,a1]
     have ey:y'=y:=by rw[← a3];exact Bq e1'
     subst ey;have es:σ[j]? = some (some v):=by
      have z:(σ[j]?).getD none=some v:=Bq e2';cases w:σ[j]? with
      |none=>rw[w]at z;cases z
      |some o=>rw[w]at z;have z':o=some v:=z;rw[z']
     obtain⟨m,hn,hlk⟩:=I.loc;have hk:=B.free (y',.free) (Dp a2) rfl;have hk:X.env.kindOf y'=some .cell\/X.env.kindOf y'=some .free:=hk;have vis:Vis X.env.scope y':=hk.elim (λz=>.inr (.inl z)) λz=>.inr (.inr z);obtain⟨u,ru,lk⟩:=hlk j y' v a1 es vis;refine⟨u,ru,?_⟩;rcases lk with⟨k,_⟩|⟨_,c,ec,ce⟩
     ·rcases hk with z|z<;>(rw[k]at z;cases z)
     ·obtain⟨c',ec'⟩:=h3 (y',.free) (Dp a2) rfl;have ec':cl.lookup y'=some c':=ec';have:c'=c:=Bq ((h1 y' c' ec').symm.trans ec);subst this;refine .inr ⟨?_,c',by rw[kcl];exact ec',?_⟩
      ·show K.env.scope.names.lookup y'=_\/K.env.scope.names.lookup y'=_;rw[kenv];exact Y9 a2
      ·obtain⟨oc,hoc,r⟩:=ce;exact⟨oc,old _ _ hoc,r⟩
  ·intro y c q;rw[kcl]at q;obtain⟨v,oc,hoc,r⟩:=I.cell y c (h1 y c q);exact⟨v,oc,old _ _ hoc,r⟩
  ·rw[kloc];exact hHn _ (by lia)
  ·intro y c q;rw[kcl]at q;exact I.freeC y c (h1 y c q)
  ·intro p hp;rw[kpn]at hp;have e:p=(D,{ cls:=.type "list",data:=.seq ([]:List Value).toArray 0 }):=by simpa using hp
   subst e;refine⟨hacc,hHn _ (At _),by rw[kloc];exact hDC,?_,λv z=>?_⟩
   ·rw[kfs];intro z;exact absurd (stkLt D z) (Np _)
   ·have z':Data.seq _ _=Kz v:=z;cases z'
  ·rw[kN];simp[bS2,bN2]
 have stat:∀{H':Hp}{ob:Obj},(∀b∈fp,H' b=none)->∀b∈fp,FpOk K [(D,ob)] H' b:=λ{H' ob} hn b hb=>by
  refine⟨hn b hb,?_,?_,.inl (by rw[kex];exact hb),?_,?_⟩
  ·rw[kloc];exact Bv (Bs (hl b hb) (by rw[hC];exact Ij _))
  ·rw[kfs];intro z;rcases Ar.mp (I.stkSub b z)with q|q
   ·exact(hf b hb).2.1 q
   ·exact(hf b hb).2.2.1 q
  ·intro y c q;rw[kcl]at q;exact(hf b hb).2.2.2.2.1 y c (h1 y c q)
  ·intro p hp;rw[kpn]at hp;have e:p=(D,ob):=by simpa using hp
   subst e;exact D1 (hl b hb)
 have st₁:tn 0 h₁:=T.keep _ _ _ st λb hb o e=>old b o e;have loop:∀tk,codeAny (model X.prog X.w) X.A (.compLoop (.ListComp elt [⟨tg,iter,ifs,0⟩] scope pos) 0 (.ref it) (.ref D) (compEnvC scope cl C X.env)) (RR (.ref D) (compEnvC scope cl C X.env)) { s with heap:=h₁,toks:=tk }:=by
  intro tk;refine Qbz (λn s'=>∃i o H' ys its c,o.length=ts.length/\Inv K [(D,{ cls:=.type "list",data:=.seq (its:List Value).toArray c })] (bS2 σ o ix) H' s'/\Vals ys its/\tn i s'.heap/\(∀b∈fp,H' b=none)/\W i n ys H') ?_ m₀
   ⟨0,ts.map (λ_=>none),H,[],[],0,by simp,I0 tk,.nil,st₁,λb hb=>(hf b hb).1,w0⟩
  rintro n s1 ⟨i,o,H1,ys,its,c,ol,I1,rv,t1,f1,w1⟩;rcases turn i n ys H1 w1 with⟨stop,hz,g⟩|⟨go,hz,step⟩
  ·have dn:=T.done K kp kw kK kc i _ s1 _ H1 (notedBy (model X.prog X.w) X.A (compEnvC scope cl C X.env) λe s'=>RR (.ref D) (compEnvC scope cl C X.env) (.error e) s') I1 (stat f1) t1 stop;rw[kA]at dn;refine thn dn λr s2 ⟨hr,I2⟩=>?_;subst hr;obtain⟨p1,p2,p3,p4,p5⟩:=I2.pin (D,{ cls:=.type "list",data:=.seq its.toArray c }) (Dk _ (Ap.mpr rfl))
   have u2:=I2.base;rw[kfs,kex,kH,ks]at u2;refine hRR D C (compEnvC scope cl C X.env) s2 ys H1 rfl ?_ p2 (by rw[← kloc];exact I2.free) (by obtain⟨m,hm,_⟩:=I2.loc;rw[kloc]at hm;exact⟨m,hm⟩) (by lia) hDC g;have hk2:HOk X.prog X.w H1 s2.heap:=by have:=I2.hok;rw[kp,kw]at this;exact this
   refine I.call' (ch:=fp) (by have:=I2.os;rw[ks]at this;exact this) (u2.add (hfr D (At _)) (hHn D (At _))) (hk2.add p2 ⟨hz,its,c,rv,p1⟩) I2.bare λb hb=>?_;exact⟨(hf b hb).2.2.2.1,(hf b hb).2.1,(hf b hb).2.2.2.2.1,(hf b hb).2.2.2.2.2⟩
  ·have im:=T.item K kp kw kK kc i _ s1 _ H1 (notedBy (model X.prog X.w) X.A (compEnvC scope cl C X.env) λe s'=>RR (.ref D) (compEnvC scope cl C X.env) (.error e) s') I1 (stat f1) t1 go;rw[kA]at im;refine thn im λr s2 ⟨u,hr,h2⟩=>?_;subst hr;refine thn h2 λ_ s3 ⟨v,H3,I3,r3,y3,t3,f3⟩=>?_;have q3:=step v H3 y3 o ol;have I3':=I3.pinned (stat f3) (T.obj _ _ t3);have hg':=hg cl C s H fp;rw[hK]at hg';have hgv:=hg' _ s3 _ H3 v u _ I3' r3 q3;rw[kx,kp,kw,kA,kenv]at hgv;refine Fw hgv (λ_ s4 ⟨σ4,H4,I4,o4,e4,l4,q4⟩=>?_) λ_ _ z=>z.elim;subst e4;have hi':=hi cl C s H fp;rw[hK]at hi';have hiv:=hi' _ s4 _ H4 _ I4 q4;rw[kx,kp,kw,kA,kenv]at hiv;refine Fw hiv (λok s5 ⟨H5,I5,q5⟩=>?_) λ_ _ z=>z.elim;have back:∀{H7:Hp}{s7:Shared}{o7:List (Option V)},Inv K ([(D,{ cls:=.type "list",data:=.seq its.toArray c })]++Qet fp s3.heap) (bS2 σ o7 ix) H7 s7->tn (i+1) s7.heap/\∀b∈fp,H7 b=none:=λ{H7 s7 o7} I7=>by
    refine⟨T.keep _ _ _ t3 λb hb o e=>(I7.pin (b,o) (Dk _ (Dk _ (V6 hb e)))).1,λb hb=>?_⟩;obtain⟨ob,e,d⟩:=T.obj _ _ t3 b hb;exact(I7.pin (b,ob) (Dk _ (Dk _ (V6 hb e)))).2.1
   cases ok with
   | false=>
    rw[if_neg Bw];have q5:∃m',m' < n/\W (i+1) m' ys H5:=q5;obtain⟨m',hm,w5⟩:=q5;obtain⟨b1,b2⟩:=back I5;exact⟨m',hm,i+1,o4,H5,ys,its,c,l4,I5.unpinned,rv,b1,b2,w5⟩
   | true=>
    rw [if_pos rfl];have q5:te (bS2 σ o4 ix) H5 λy H2=>∃m',m' < n/\W (i+1) m' (ys++[y]) H2:=q5;have hxe:∀pins' σ' H5 s5 e s',Inv K pins' σ' H5 s5->Px H5 s5 e s'->notedBy (model X.prog X.w) X.A (compEnvC scope cl C X.env) (λe s'=>RR (.ref D) (compEnvC scope cl C X.env) (.error e) s') e s':=by
     intro pins' σ' H5 s5 e s' J5 q;have u5:=J5.base;rw[kfs,kex,kH,ks]at u5;refine hXX D C _ s5 H5 e s' rfl rfl ?_ (by rw[← kloc];exact J5.free) (by obtain⟨m,hm,_⟩:=J5.loc;rw[kloc]at hm;exact⟨m,hm⟩) (by lia) (λz=>Np C (Oa (stkLt C z) (by lia))) q;exact I.call' (ch:=fp) (by have:=J5.os;rw[ks]at this;exact this) u5 (by have:=J5.hok;rw[kp,kw]at this;exact this) J5.bare λb hb=>⟨(hf b hb).2.2.2.1,(hf b hb).2.1,(hf b hb).2.2.2.2.1,(hf b hb).2.2.2.2.2⟩
    have he':=he cl C s H fp _ (hK ▸ hxe);rw[hK]at he';have hev:=he' _ s5 _ H5 _ (I5.wish _) q5;change wpAny (model K.prog K.w) K.A (eval elt K.env) _ _ s5 at hev;rw[kp,kw,kA,kenv]at hev;refine Fw hev (λy s6 ⟨yv,H6,I6,r6,m',hm,w6⟩=>?_) λ_ _ z=>z;have I6:=I6.unwish;obtain⟨b1,b2⟩:=back I6;have I6':=I6.unpinned;obtain⟨p1,p2,p3,p4,p5⟩:=I6'.pin (D,{ cls:=.type "list",data:=.seq its.toArray c }) (Dk _ (Ap.mpr rfl))
    have hlen:=rv.length;refine Kg F.slot_list_append ⟨_,p1,rfl⟩ F.entry_list_append (Ln _ _) (Ol D its.toArray c y (by rw[Bu];lia)) ⟨p1,?_⟩;have ea:its.toArray.push y=(its++[y]).toArray:=by simp
    obtain⟨c',q⟩:∃c',(s6.heap.update D (Fz (·.push y))).get? D=some { cls:=.type "list",data:=.seq (its++[y]).toArray c' }:=⟨_,by rw[← ea];exact Ou p1 (·.push y)⟩
    refine⟨m',hm,i+1,o4,H6,ys++[yv],its++[y],c',l4,?_,rv.append (.cons r6 .nil),T.keep _ _ _ b1 λb hb o e=>?_,b2,w6⟩
    ·have Id:Inv K [] (bS2 σ o4 ix) H6 s6:=I6'.pins_of λp hp=>by simp at hp
     have It:Inv K [] (bS2 σ o4 ix) H6 { s6 with heap:=s6.heap.update D (Fz (·.push y)) }:=Id.turned (t':=s6.toks) (it:=D) (λb o hb e=>(Ms _ _ (Mk hb)).trans e) p2 p3
      (.inr (by rw[ks];lia)) (λy' c' e=>by rw[kcl]at e;exact Bv (cellLt y' c' e)) (λp hp=>by rw[kpn]at hp;simp at hp)
     refine It.pins_of λp hp=>?_;obtain rfl:p=(D,{ cls:=.type "list",data:=.seq (its++[y]).toArray c' }):=by simpa using hp
     refine⟨q,p2,p3,p4,λv z=>?_⟩;have z':Data.seq _ _=Kz v:=z;cases z'
    ·exact(Ms _ _ (D1 (hl b hb))).trans e
 have selfs:wpAny (model X.prog X.w) X.A (pyIter (.ref it)) (λit' s'=>codeAny (model X.prog X.w) X.A (.compLoop (.ListComp elt [⟨tg,iter,ifs,0⟩] scope pos) 0 it' (.ref D) (compEnvC scope cl C X.env)) (RR (.ref D) (compEnvC scope cl C X.env)) s')
   (notedBy (model X.prog X.w) X.A (compEnvC scope cl C X.env) λe s'=>RR (.ref D) (compEnvC scope cl C X.env) (.error e) s') { s with heap:=h₁,toks:=s.toks+([]:List (Str×Value)).length }:=T.self X.A 0 _ _ _ st₁ (loop _)
 exact codeAny_compStart_list (loop _) selfs
theorem Qnq{ix:List Nat}{it:Addr}{RR:Value->Addr->Result->Shared->Prop}
  (I:Inv X pins σ H s) (hc:X.calm=true) (B:BlkScope X.env scope x) (h1:∀y c,cl.lookup y=some c->X.env.cells.lookup y=some c) (h3:∀y∈scope.names,y.2=.free->∃c,cl.lookup y.1=some c)
  (hix:∀i∈ix,∃y,X.N[i]? = some y/\scope.names.lookup y=some .free) (hN:(bN2 X.N ts ix).Nodup)
  (T:Turn X.prog X.w X.K tg J fp it tn) (st:tn 0 s.heap) (hf:∀b∈fp,FpOk X pins H b)
  (hg:∀cl C s₀ H₀ fp,PG (Z1 X scope cl C (bN2 X.N ts ix) s₀ H₀ fp) tg gt)
  (he:∀cl C s₀ H₀ fp,PE (Z1 X scope cl C (bN2 X.N ts ix) s₀ H₀ fp) elt te)
  (hi:∀cl C s₀ H₀ fp,PIfs (Z1 X scope cl C (bN2 X.N ts ix) s₀ H₀ fp) ifs tt)
  (W:Nat->Nat->List V->Hp->Prop) (m₀:Nat) (w0:W 0 m₀ [] H)
  (turn:∀i m ys H,W i m ys H->(J.stop i H/\ys.length<=sizeLine/\G ys H)\/(J.go i H/\ys.length<sizeLine/\∀v H',J.yld i H v H'->∀o:List (Option V),o.length=ts.length->gt v (bS2 σ o ix) H' λσ2 H2=>∃o2:List (Option V),σ2=bS2 σ o2 ix/\o2.length=ts.length /\
    tt σ2 H2 λb H1=>if b=true then te σ2 H1 λy H2=>∃m',m' < m/\W (i+1) m' (ys++[y]) H2 else ∃m',m' < m/\W (i+1) m' ys H1))
  (hRR:∀D C s' ys H',Inv X pins σ (upd H' D (.lst ys)) s'->H' D=none->H' C=none->(∃m,s'.heap.Ns C m)->s.heap.objs.size<=C->D≠C->G ys H'->RR (.ref D) C (.ok .next) s') :
  wpAny (model X.prog X.w) X.A (newList []) (λacc s₃=>wpAny (model X.prog X.w) X.A (newFunctionEnv scope X.env.globals cl [] X.env.qual none .none (some X.env)) (λcenv s₄=>
   codeAny (model X.prog X.w) X.A (.compStart (.ListComp elt [⟨tg,iter,ifs,0⟩] scope pos) 0 (.ref it) acc { cenv with scope:=relabel scope X.env }) (RR acc cenv.locals) s₄) E s₃) E s :=
 Qnp (RR:=λacc cenv r s=>RR acc cenv.locals r s) (Px:=λ_ _ _ _=>False) I hc B h1 h3 hix hN T st hf hg (λcl C s₀ H₀ fp xe _=>PE.nox (he cl C s₀ H₀ fp)) hi W m₀ w0 turn (λD C cenv s' ys H' e=>by subst e;exact hRR _ _ _ _ _) λ_ _ _ _ _ _ _ _ _ _ _ _ _ _ z=>z.elim
theorem Qis{ix:List Nat}{it:Addr}{RR:Value->Addr->Result->Shared->Prop}
  (I:Inv X pins σ H s) (hc:X.calm=true) (B:BlkScope X.env scope x) (h1:∀y c,cl.lookup y=some c->X.env.cells.lookup y=some c) (h3:∀y∈scope.names,y.2=.free->∃c,cl.lookup y.1=some c)
  (hix:∀i∈ix,∃y,X.N[i]? = some y/\scope.names.lookup y=some .free) (hN:(bN X.N x ix).Nodup)
  (T:Turn X.prog X.w X.K (.Name x px) J fp it tn) (st:tn 0 s.heap) (hf:∀b∈fp,FpOk X pins H b)
  (he:∀cl C s₀ H₀ fp,PE (Z1 X scope cl C (bN X.N x ix) s₀ H₀ fp) elt te)
  (hi:∀cl C s₀ H₀ fp,PIfs (Z1 X scope cl C (bN X.N x ix) s₀ H₀ fp) ifs tt)
  (W:Nat->Nat->List V->Hp->Prop) (m₀:Nat) (w0:W 0 m₀ [] H)
  (turn:∀i m ys H,W i m ys H->(J.stop i H/\ys.length<=sizeLine/\G ys H)\/(J.go i H/\ys.length<sizeLine/\∀v H',J.yld i H v H' ->
    tt (bS σ (some v) ix) H' λb H1=>if b=true then te (bS σ (some v) ix) H1 λy H2=>∃m',m' < m/\W (i+1) m' (ys++[y]) H2 else ∃m',m' < m/\W (i+1) m' ys H1))
  (hRR:∀D C s' ys H',Inv X pins σ (upd H' D (.lst ys)) s'->H' D=none->H' C=none->(∃m,s'.heap.Ns C m)->s.heap.objs.size<=C->D≠C->G ys H'->RR (.ref D) C (.ok .next) s') :
  wpAny (model X.prog X.w) X.A (newList []) (λacc s₃=>wpAny (model X.prog X.w) X.A (newFunctionEnv scope X.env.globals cl [] X.env.qual none .none (some X.env)) (λcenv s₄=>
   codeAny (model X.prog X.w) X.A (.compStart (.ListComp elt [⟨.Name x px,iter,ifs,0⟩] scope pos) 0 (.ref it) acc { cenv with scope:=relabel scope X.env }) (RR acc cenv.locals) s₄) E s₃) E s :=
 Qnq (ts:=[x]) (gt:=Qjp 0) I hc B h1 h3 hix hN T st hf (λcl C s₀ H₀ fp=>Qc4 hN rfl (.inl (lookup_relabel_local B.lx)) (.inr (lookup_relabel_local B.lx))) he hi W m₀ w0 (λi m ys H hw=>(turn i m ys H hw).imp id λ⟨a,b,c⟩=>⟨a,b,λv H' hy o ho=>by
  match o,ho with
  | [o],_=>exact⟨[some v],rfl,rfl,c v H' hy⟩⟩) hRR
noncomputable def Qsa(wi:TI)(tt:TT)(te:TE)(ix:List Nat):TE:=λσ H Q=>wi σ H λJ H1=>∃(W:Nat->Nat->List V->Hp->Prop)(m₀:Nat),W 0 m₀ [] H1 /\
 ∀i m ys H,W i m ys H->(J.stop i H/\ys.length<=sizeLine/\∀l,H l=none->Q (.ref l) (upd H l (.lst ys)))\/(J.go i H/\ys.length<sizeLine/\∀v H',J.yld i H v H' ->
  tt (bS σ (some v) ix) H' λb H1=>if b=true then te (bS σ (some v) ix) H1 λy H2=>∃m',m' < m/\W (i+1) m' (ys++[y]) H2 else ∃m',m' < m/\W (i+1) m' ys H1)
theorem Qiw(I:Inv X pins σ H s)(B:BlkScope X.env scope x):∀y∈scope.names,y.2=.free->∃c,X.env.cells.lookup y.1=some c :=
 λy hy hf=>I.ok.has y.1 (B.free y hy hf)
theorem Inv.blkGone{s₀:Shared}{H₀:Hp}{σ₀:St}(I₀:Inv X pins σ₀ H₀ s₀)(I:Inv X pins σ H s)(hC:s₀.heap.objs.size<=C)(hn:H C=none)(hs:Sa C s.heap h'):Inv X pins σ H { s with heap:=h' } :=
 I.turned (t':=s.toks) (it:=C) (λb o hb e=>(hs.2 b hb).trans e) hn (D1 (Bs I₀.lt hC)) (.inr (Dy I₀.sz hC))
  (λx c e=>by obtain⟨v,z⟩:=I₀.cell x c e;exact Bv (Bs z.lt hC)) (λp hp=>Bv (Bs (Bf (I₀.pin p hp).1) hC))
theorem Qtf(ix:List Nat)(hc:X.calm=true)(B:BlkScope X.env scope x)
  (hix:∀i∈ix,∃y,X.N[i]? = some y/\scope.names.lookup y=some .free) (hN:(bN X.N x ix).Nodup) (hi:PI X (.Name x px) iter wi)
  (ht:∀cl C s₀ H₀ fp,PIfs (Z1 X scope cl C (bN X.N x ix) s₀ H₀ fp) ifs tt)
  (he:∀cl C s₀ H₀ fp,PE (Z1 X scope cl C (bN X.N x ix) s₀ H₀ fp) elt te)
  (hs:∀x,foldedSetIterable iter X.env x=pure x:=by intro _;rfl) :
  PE X (.ListComp elt [⟨.Name x px,iter,ifs,0⟩] scope pos) (Qsa wi tt te ix):=by
 intro pins s σ H Q I h;obtain⟨cl,hcl,h1,h3⟩:=Qbk (Qiw I B);rw[eval_ListComp];refine Kl (use:=none) rfl hs hcl B.kind B.names (thn (hi pins s σ H _ I h) λv s1 h1'=>thn h1' λitv s2 h2=>?_);obtain⟨it,fp,tn,J,H2,e,I2,T,st2,f2,W,m0,w0,turn⟩:=h2;subst e;refine Qis (G:=λys H'=>∀l,H' l=none->Q (.ref l) (upd H' l (.lst ys))) I2 hc B h1 h3 hix hN T st2 f2 he ht W m0 w0 turn λD C s' ys H' I' hD hC hm hCs hDC g=>?_;obtain⟨m,hm⟩:=hm;refine⟨m,hm,λh' hsb=>⟨.ref D,upd H' D (.lst ys),I2.blkGone I' hCs (by rw[Ql (Mk hDC)];exact hC) hsb,rfl,g D hD⟩⟩
theorem Qs5{py:Pos}(ix:List Nat)(hc:X.calm=true)(B:BlkScope X.env scope x)
  (hNd:X.N.Nodup) (hj:X.N[j]? = some y) (hy:Loc X.env.scope y)
  (hsw:swapsWith (.ListComp elt [⟨.Name x px,iter,ifs,0⟩] scope pos) (some (.Name y py)) spos.line X.env=pure true)
  (hix:∀i∈ix,∃y,X.N[i]? = some y/\scope.names.lookup y=some .free) (hN:(bN X.N x ix).Nodup) (hi:PI X (.Name x px) iter wi)
  (ht:∀cl C s₀ H₀ fp,PIfs (Z1 X scope cl C (bN X.N x ix) s₀ H₀ fp) ifs tt)
  (he:∀cl C s₀ H₀ fp,PE (Z1 X scope cl C (bN X.N x ix) s₀ H₀ fp) elt te)
  (hf:X.fn y=true\/X.env.scope.names.lookup y=some .local:=by first|exact .inl rfl|exact .inr rfl|assumption)
  (hs:∀x,foldedSetIterable iter X.env x=pure x:=by intro _;rfl) :
  PS X (.Assign [.Name y py] (.ListComp elt [⟨.Name x px,iter,ifs,0⟩] scope pos) spos) (tAsg (Qsa wi tt te ix) (Qjp j)):=by
 intro pins s σ H D0 I h
 obtain⟨cl,hcl,h1,h3⟩:=Qbk (Qiw I B)
 rw[exec_Assign_Name_used _ _ _ _ hsw]
 refine Ah (Lr (Ah ?_))
 show wpAny _ X.A (do let _ ← comprehension (.ListComp elt [⟨.Name x px,iter,ifs,0⟩] scope pos) scope X.env _ (newList []) false (eval iter X.env) (some (assign (.Name y py) X.env))) _ _ s
 refine Ah (Fw (Kl (use:=some (assign (.Name y py) X.env)) (Q:=λ_ s'=>SP X pins D0 .next s') rfl hs hcl B.kind B.names
  (thn (hi pins s σ H _ I h) λv s1 h1'=>thn h1' λitv s2 h2=>?_)) (λ_ s' hq=>As (As hq)) λ_ _ e=>e)
 obtain⟨it,fp,tn,J,H2,e,I2,T,st2,f2,W,m0,w0,turn⟩:=h2
 subst e
 refine Qis (G:=λys H'=>∀l,H' l=none->Qjp j (.ref l) σ (upd H' l (.lst ys)) D0.nx) I2 hc B h1 h3 hix hN T st2 f2 he ht W m0 w0 turn λD C s' ys H' I' hD hC hm hCs hDC g=>?_
 obtain⟨m,hm⟩:=hm
 have hCn:upd H' D (.lst ys) C=none:=by rw[Ql (Mk hDC)];exact hC
 show wpAny _ _ (assign (.Name y py) X.env (.ref D)) _ _ s'
 refine wpAny_assign_Name (Qef I' hNd hj hy (show RelV (.ref D) (.ref D)from rfl) (λs3 I3 ⟨a,hsa,ha⟩=>?_) hf)
 have hCa:C≠a:=by
  rcases ha with z|z
  ·rw[z];exact D1 (Bs I2.lt hCs)
  ·obtain⟨v,q⟩:=I2.cell y a z;exact D1 (Bs q.lt hCs)
 exact⟨m,hm.sameBut hsa hCa,λh' hsb=>⟨_,_,I2.blkGone I3 hCs hCn hsb,g D hD⟩⟩
theorem Inv.turnNew{T:Addr}(I:Inv X pins σ H s)(hT:s.heap.objs.size<=T)
  (k:∀b u,b∉ch->s.heap.get? b=some u->h'.get? b=some u) (hch:∀b∈ch,FpOk X pins H b) (new:Yj X.prog X.w (upd H T o) h' T o):Inv X pins σ (upd H T o) { s with heap:=h',toks:=t' }:=by
 have hn:H T=none:=I.hok.fresh hT;have hg:s.heap.get? T=none:=by
  cases e:s.heap.get? T with
  |none=>rfl
  |some u=>exact absurd (Bf e) (Tt.mpr hT)
 have u:Un (frs X.stack) ch H H s.heap h':=⟨λb q e _ _ hx=>k b q hx e,λb q e _ _ hx=>⟨q.slots,k b q hx e⟩,λb q e n _=>n,λb q e hx=>⟨q,k b q hx e⟩,λ_ _ e=>e,λ_ _ _ e=>e,λb ps e=>⟨#[],by rw[Oc];exact e⟩⟩
 have hok:HOk X.prog X.w H h':=λb q e=>(I.hok b q e).stay (λc v hc z=>k c v (λm=>by
  have q1:=(hch c m).1;rcases hc with rfl|hc
  ·rw[q1]at e;cases e
  ·rw[q1]at hc;cases hc) z) (λ_ z=>z) λ_ _ z=>z
 exact I.call' (s':={ s with heap:=h',toks:=t' }) rfl (u.add hg hn) (hok.add hn new) I.bare λb hb=>⟨(hch b hb).2.2.2.1,(hch b hb).2.1,(hch b hb).2.2.2.2.1,(hch b hb).2.2.2.2.2⟩
theorem Inv.turnAll(I:Inv X pins σ H s)
  (k:∀b u,b∉ch->s.heap.get? b=some u->h'.get? b=some u) (hch:∀b∈ch,FpOk X pins H b):Inv X pins σ H { s with heap:=h',toks:=t' }:=by
 have u:Un (frs X.stack) ch H H s.heap h':=⟨λb q e _ _ hx=>k b q hx e,λb q e _ _ hx=>⟨q.slots,k b q hx e⟩,λb q e n _=>n,λb q e hx=>⟨q,k b q hx e⟩,λ_ _ e=>e,λ_ _ _ e=>e,λb ps e=>⟨#[],by rw[Oc];exact e⟩⟩
 have hok:HOk X.prog X.w H h':=λb q e=>(I.hok b q e).stay (λc v hc z=>k c v (λm=>by
  have q1:=(hch c m).1;rcases hc with rfl|hc
  ·rw[q1]at e;cases e
  ·rw[q1]at hc;cases hc) z) (λ_ z=>z) λ_ _ z=>z
 exact I.call' (s':={ s with heap:=h',toks:=t' }) rfl u hok I.bare λb hb=>⟨(hch b hb).2.2.2.1,(hch b hb).2.1,(hch b hb).2.2.2.2.1,(hch b hb).2.2.2.2.2⟩
theorem Qr6{it:Addr}{x:Value}(hit:s.heap.IsTupleIter it t i)(ht:s.heap.IsTuple t items)(hx:items[i]? = some x)
  (hQ:∀h',h'.IsTupleIter it t (i+1)->Sa it s.heap h'->Q x { s with heap:=h' }):wpAny (model prog w) A (Rp (.ref it)) Q E s:=by
 obtain⟨o,ho,hc,hd⟩:=id hit;obtain⟨ol,hol,_,nl,hdl⟩:=ht;unfold Rp;refine Ah (Fe (name:=M2 "__next__") hit.typeIs Rk (D7 Rk hit.typeIs Im ?_ (Ib _)));show wpAny _ _ (field (.ref it) 0 >>= _) _ _ s;refine Ah (Me ho hd (x:=.ref t) rfl ?_);show wpAny _ _ (if (Br t==My)=true then _ else _) _ _ s;rw[if_neg (show ¬((Br t==My)=true)from Bw)];show wpAny _ _ (field (.ref it) 1 >>= _) _ _ s;refine Ah (Me ho hd (x:=.int i 0) rfl ?_);show wpAny _ _ (seqItems? (.ref t) >>= _) _ _ s;refine Ah (wpAny_seqItems hol hdl ?_);simp only[Nf,hx];refine Ah (Rr ho hd (by simp) (As ⟨x,rfl,As (hQ _ ⟨_,M0 _ ho (Sb (M4 hd _)),(Kb ..).trans hc,by rw[M4 hd];simp[rawInt]⟩ (Ni ..))⟩))
theorem Qqn{it:Addr}(hh:A.handled=none)(hit:s.heap.IsTupleIter it t i)(ht:s.heap.IsTuple t items)(hx:items[i]? = none)
  (hE:∀h' e,Oq it s.heap h'->(∃o,h'.get? e=some o/\o.cls=.type "StopIteration")->E (.ref e) { s with heap:=h' }):wpAny (model prog w) A (Rp (.ref it)) Q E s:=by
 obtain⟨o,ho,hc,hd⟩:=id hit;obtain⟨ol,hol,_,nl,hdl⟩:=ht;unfold Rp;refine Ah (Fe (name:=M2 "__next__") hit.typeIs Rk (D7 Rk hit.typeIs Im ?_ (Ib _)));show wpAny _ _ (field (.ref it) 0 >>= _) _ _ s;refine Ah (Me ho hd (x:=.ref t) rfl ?_);show wpAny _ _ (if (Br t==My)=true then _ else _) _ _ s;rw[if_neg (show ¬((Br t==My)=true)from Bw)];show wpAny _ _ (field (.ref it) 1 >>= _) _ _ s;refine Ah (Me ho hd (x:=.int i 0) rfl ?_);show wpAny _ _ (seqItems? (.ref t) >>= _) _ _ s;refine Ah (wpAny_seqItems hol hdl ?_);simp only[Nf,hx];refine Ah (Rc (Ah (Rr ho hd (by simp) ?_)));show wpAny _ _ (newExc (.type "StopIteration") [] >>= _) _ _ _;refine Ah ?_;simp only[newExc,newTuple];refine Ah (Dv ?_ (by size_fits));refine Ah (m:=firstArgMember _ _) (Nm (a:=My) (by first|rfl|(simp only[firstArgMember];rfl)) ?_);refine Dv ?_ (by size_fits);simp only[raiseNew];refine Ah (Lu ?_)
 first|rw[show A.in1.handled=none from hh]|rw[hh]
 refine Ah (As (wpAny_throw (hE _ _ (((Ni ..).extBut.push _).push _) ⟨_,Bp _ rfl,rfl⟩)))
theorem Qp4(hh:A.handled=none)(it t:Addr)(hne:t≠it)(items:Array Value) :
  Draws prog w A it [it,t] items.size (λi v=>items[i]? = some v) (λi h=>h.IsTupleIter it t i/\h.IsTuple t items) where
 live:=λ_ _ st=>let ⟨o,ho,_⟩:=st.1;⟨o,ho⟩
 frame:=λ_ _ _ st hk=>⟨st.1.at λo e=>hk it (by simp) o e,let ⟨o,ho,r⟩:=st.2;⟨o,hk t (by simp) o ho,r⟩⟩
 item:=λi s Q E hi st hQ=>Qr6 st.1 st.2 (x:=items[i]) (by simp[hi]) λh' hit' hs'=>hQ _ h' s.toks (by simp[hi]) ⟨hit',st.2.extBut hs'.extBut hne⟩ hs'
 done:=λs Q E st hE=>Qqn hh st.1 st.2 (by simp) hE
open AutoSeq1 (wpAny_loadPart') in
theorem Qp2(l:Addr)(items:Array Value)(n:Nat)(dct:Option Addr)(sl:Array (Option Value)) :
  Meets (Builtin.«enumerate.__new__» ⟨[.type "enumerate",.ref l],[]⟩) (λ_ R s=>s.heap.get? l=some { cls:=.type "tuple",dict:=dct,data:=.seq items n,slots:=sl } /\
   R (.ok (.ret (.ref (s.heap.push { cls:=.type "tuple_iterator",data:=.fields #[.ref l,.int 0 0] }).objs.size)))
    { s with heap:=(s.heap.push { cls:=.type "tuple_iterator",data:=.fields #[.ref l,.int 0 0] }).push { cls:=.type "enumerate",data:=.fields #[.none,.bool false,.ref s.heap.objs.size,rawInt 0,.none,.none] } }) :=
 .of_wp λprog w A R s h=>by
  obtain⟨hp,g,d,tk,os⟩:=s;obtain⟨hl,h⟩:=h;have hsub:=sub_enumerate;have hL:Heap.IsTuple (Shared.heap ⟨hp,g,d,tk,os⟩) l items:=⟨_,hl,rfl,n,rfl⟩
  wp_walk using Su hl
  refine wpAny_stack_any λst=>As ?_;split
  ·rename_i c _ _ _ _ _;cases(c==Tk "enumerate")
   ·wp_walk using Su hl,S0 hL
    exact⟨_,rfl,h⟩
   ·wp_walk using Su hl,S0 hL
    exact⟨_,rfl,h⟩
  ·wp_walk using Su hl,S0 hL
   exact⟨_,rfl,h⟩
theorem Qny(hL:s.heap.IsTuple l items)
  (h:∀h',IsEnum h' (s.heap.objs.size+1) s.heap.objs.size 0 .none->h'.IsTupleIter s.heap.objs.size l 0->h'.objs.size=s.heap.objs.size+2->(∀b o,s.heap.get? b=some o->h'.get? b=some o)->Q (.ref (s.heap.objs.size+1)) { s with heap:=h' }) :
  wpAny (model prog w) A (call (.type "enumerate") [.ref l]) Q E s:=by
 obtain ⟨⟨c,dct,dt,sl⟩,hl,hc,n,hd⟩:=hL;obtain rfl:c=.type "tuple":=hc;obtain rfl:dt=.seq items n:=hd;refine callType_new F.called_enumerate (by decide) (F.typeCall_enumerate_1 _) (F.newCall_enumerate_1 _) (λobj=>Tv obj _) F.entry_enumerate_new (Qp2 l items n dct sl) ⟨hl,?_⟩;have hz:(s.heap.push { cls:=.type "tuple_iterator",data:=.fields #[.ref l,.int 0 0] }).objs.size=s.heap.objs.size+1:=K9 ..;show _/\_;rw[hz];have he:IsEnum ((s.heap.push { cls:=.type "tuple_iterator",data:=.fields #[.ref l,.int 0 0] }).push
   { cls:=.type "enumerate",data:=.fields #[.none,.bool false,.ref s.heap.objs.size,rawInt 0,.none,.none] }) (s.heap.objs.size+1) s.heap.objs.size 0 .none:=by
  have q:=Bp (s.heap.push { cls:=.type "tuple_iterator",data:=.fields #[.ref l,.int 0 0] }) (o:={ cls:=.type "enumerate",data:=.fields #[.none,.bool false,.ref s.heap.objs.size,rawInt 0,.none,.none] }) rfl;rw[hz]at q;exact q
 exact⟨⟨_,he,rfl⟩,h _ he ⟨_,An _ (Bp _ rfl),rfl,rfl⟩ (by rw[K9,hz]) λb o x=>An _ (An _ x)⟩
noncomputable def Ite(K:Frag)(a:Addr):It :=
 ⟨λi H=>∃xs x,SqT K H a xs/\xs[i]? = some x,λi H v H'=>∀xs,SqT K H a xs->∃x p,xs[i]? = some x/\v=.ref p/\H p=none/\H'=upd H p (.tup [.int i,x]),λi H=>∃xs,SqT K H a xs/\xs.length<=i⟩
theorem Qkr{K:Frag}(a e it:Addr)(hei:e≠it):Turn P w K (.Tuple es kt pt) (Ite K a) [e,it] e (λi h=>(∃old,IsEnum h e it i old)/\h.IsTupleIter it a i) where
 mem:=by simp
 obj:=λi h st b hb=>by
  obtain⟨⟨old,h1⟩,o,h2,c,d⟩:=st;rcases Ar.mp hb with z|z
  ·subst z;exact⟨_,h1,λv z=>by have z':Op _=Kz v:=z;cases z'⟩
  ·have z':b=it:=by simpa using z
   subst z';exact⟨o,h2,λv z=>by rw[d]at z;cases z⟩
 keep:=λi h h' st k=>⟨let ⟨old,h1⟩:=st.1;⟨old,k e (by simp) _ h1⟩,st.2.at λo q=>k it (by simp) o q⟩
 item:=by
  intro X hP hw hK hc i pins s σ H E I hf st hg;subst hP hw hK;obtain⟨⟨old,he⟩,hit⟩:=st;obtain⟨xs,x,hq,hx⟩:=hg;obtain⟨its,rv,p,hz⟩:=I.tuple hq;have hlen:=rv.length;have hi:i<its.toArray.size:=by rw[Bu,← hlen];exact(Be.mp hx).1
  have hai:a≠it:=λz=>by
   obtain⟨o,h1,h2,_⟩:=p;obtain⟨o',h1',h2',_⟩:=hit;rw[z,h1']at h1;cases h1;rw[h2']at h2;exact absurd h2 (by decide)
  have hae:e∉[it,a]:=λz=>by
   rcases Ar.mp z with q|q
   ·exact hei q
   ·have q':e=a:=by simpa using q
    obtain⟨o,h1,h2,_⟩:=p;rw[← q',he]at h1;cases h1;exact absurd h2 (by show ¬(Tk "enumerate" = Tk "tuple");decide)
  refine wpAny_pyNext_enum_itemD (Qp4 (A:=X.A.in1) (I.ok.hd hc) it a hai its.toArray) he ⟨hit,show s.heap.IsTuple a its.toArray from p⟩ hi hei hae λu h' tk hu ho hst' hT hsz hk=>?_;refine⟨_,rfl,Iw ho λh2 he2 hs2=>?_⟩;obtain⟨u',hu',ru⟩:=rv.get hx;have euu:u'=u:=by
   have z:its.toArray[i]? = some u:=hu;have z2:its[i]? = some u:=by simpa using z
   rw[hu']at z2;exact Bq z2
  subst euu;have hTe:s.heap.objs.size≠e:=D1 (Bf he);have hT2:h2.get? s.heap.objs.size=some { cls:=.type "tuple",data:=.seq #[.int i tk,u'] }:=(hs2.2 _ hTe).trans hT;have hn:H s.heap.objs.size=none:=I.hok.fresh (At _);refine⟨.ref s.heap.objs.size,upd H s.heap.objs.size (.tup [.int i,x]),I.turnNew (ch:=[e,it]) (t':=tk+1) (At _) (λb o hb q=>?_) hf ?_,rfl,λys hy=>?_,⟨⟨_,he2⟩,hst'.1.at λo q=>?_⟩,λb hb=>?_⟩
  ·have h1:b≠e:=λz=>hb (by simp[z]);have h2':b≠it:=λz=>hb (by simp[z]);exact(hs2.2 b h1).trans (hk b o h1 h2' q)
  ·exact⟨by show 2<=sizeLine;decide,[.int i tk,u'],.cons ⟨_,rfl⟩ (.cons ru .nil),⟨_,hT2,rfl,_,rfl⟩⟩
  ·rw[I.tuple_inj hy hq];exact⟨x,_,hx,rfl,hn,rfl⟩
  ·exact(hs2.2 it (Mk hei)).trans q
  ·obtain ⟨o,q,_⟩:∃o,s.heap.get? b=some o/\True:=by
    rcases Ar.mp hb with z|z
    ·exact⟨_,z ▸ he,trivial⟩
    ·have z':b=it:=by simpa using z
     obtain⟨o,q,_⟩:=hit;exact⟨o,z' ▸ q,trivial⟩
   rw[Ql (Bv (Bf q))];exact(hf b hb).1
 done:=by
  intro X hP hw hK hc i pins s σ H E I hf st hg;subst hP hw hK;obtain⟨⟨old,he⟩,hit⟩:=st;obtain⟨xs,hq,hx⟩:=hg;obtain⟨its,rv,p,hz⟩:=I.tuple hq;have hlen:=rv.length;have hT:s.TypeIs (.ref e) "enumerate":=⟨_,he,rfl⟩
  unfold pyNext;refine Ah (Rl (Fe (name:=M2 "__next__") hT La (D7 La hT F.entry_enumerate_next ?_ (F.args_enumerate_next_1 _))));show wpAny _ _ (field (.ref e) 2 >>= _) _ _ _;refine Ah (Me he rfl (x:=.ref it) rfl ?_);refine Ah (Qqn (I.ok.hd hc) hit (show s.heap.IsTuple a its.toArray from p) (by simp;lia) λh' x he' hx'=>?_);obtain⟨o,ho,hc⟩:=hx';refine Ah (Sf (T:="StopIteration") (b:=true) ⟨o,ho,hc⟩ Lb ?_);exact As ⟨rfl,I.turnAll (ch:=[e,it]) (t':=s.toks) (λb u hb q=>he' b u (λz=>hb (by simp[z])) q) hf⟩
 self:=λ_ _ _ _ _ st h=>by
  obtain⟨⟨old,q⟩,_⟩:=st;exact Ta q h
def Qy6(K:Frag)(ta:TA):TI:=λσ H R=>ta σ H λvs H1=>∃a,vs=[.ref a]/\(∃xs,SqT K H1 a xs)/\R (Ite K a) H1
theorem Qtb{a:Expr}(hg:Gl X "enumerate")(hm:X.mg "enumerate" = none)(ha:PA X [a] ta)(hs:starEach [a] X.env=[(false,eval a X.env)]:=by rfl) :
  PI X (.Tuple es kt pt) (.Call (.Name "enumerate" p) [a] [] pos) (Qy6 X.K ta):=by
 intro pins s σ H R I h;refine Call_ (Qba I hg hm boot_enumerate (Mj (thn (ha pos pins s σ H _ I h) λus s1 ⟨vs,H1,I1,r1,q1⟩=>?_) hs rfl));obtain⟨x,e,⟨xs,hq⟩,q⟩:=q1;subst e;obtain⟨u,rfl,ru⟩:=Qbr r1;cases ru;obtain⟨its,rv,pl,hz⟩:=I1.tuple hq;refine Qny (show s1.heap.IsTuple x its.toArray from pl) λh' he hit hz kp=>?_;have I2:Inv X pins σ H1 { s1 with heap:=h' }:=I1.kept (t':=s1.toks) kp;refine Ta he ⟨s1.heap.objs.size+1,[s1.heap.objs.size+1,s1.heap.objs.size],_,_,H1,rfl,I2,Qkr x _ _ (D1 (M5 _)),⟨⟨_,he⟩,hit⟩,λb hb=>?_,q⟩;have hb':s1.heap.objs.size<=b:=by
  rcases Ar.mp hb with z|z
  ·rw[z];exact Ij _
  ·have z':b=s1.heap.objs.size:=by simpa using z
   rw[z'];exact At _
 exact I1.fpOk hb' (I1.hok.fresh hb')
noncomputable def Qym:V->List V->Hp->VK->Prop:=λx vs H Q=>∃a kvs k v,x=.ref a/\vs=[kV k,v]/\H a=some (.dK kvs)/\kvs.length<sizeLine /\
 (∀y,valV kvs k=some y->Q y H)/\(valV kvs k=none->Q v (upd H a (.dK (putK kvs k v))))
theorem Qdb:MtM X "dict.setdefault" Qym:=by
 intro pins s σ H x vs v us Q I rx rv h;obtain⟨a,kvs,k,y,rfl,rfl,hH,hz,q1,q2⟩:=h;cases rx;obtain⟨ku,vu,rfl,rk,ry⟩:=rv.two;obtain⟨z,hd,xs,rel,dd⟩:=Qnf I.hok hH;have hl:xs.length<=sizeLine:=by rw[← rel.length];exact z
 refine call_meetsIn Ic dd.typeIs PySem.F.entry_dict_setdefault (PySem.F.args_dict_setdefault_3 _ _ _) (kt_meets_setdefault (Q1 X.prog X.w) a (Qge rk) hd vu) ⟨xs,dd,hl,λw hw=>?_,λhn h' dd' hs=>?_⟩
 ·have ro:=rel.val k;rw[hw]at ro;cases e:valV kvs k with
  |none=>rw[e]at ro;exact ro.elim
  |some b=>rw[e]at ro;exact⟨b,H,I.tok _,ro,q1 b e⟩
 ·have ro:=rel.val k;rw[hn]at ro;cases e:valV kvs k with
  |some b=>rw[e]at ro;exact ro.elim
  | none=>
   have hlp:(putK kvs k y).length<=sizeLine:=by have:=Z8 kvs k y;lia
   refine⟨y,upd H a (.dK (putK kvs k y)),Qdt (t':=s.toks+1) I (by rw[hH];trivial) hs ?_ (Qng hlp hd (rel.put k ry) dd'),ry,q2 e⟩;obtain⟨o,_,_,e',_⟩:=dd';exact⟨o,e'⟩
theorem X9{α β:Type}{F:α->β->Prop}:∀{l₁:List α}{l₂:List β}{i:Nat}{a:α}{b:β},Paired F l₁ l₂->l₁[i]? = some a->l₂[i]? = some b->F a b
 |_,_,_,_,_,.nil,e,_=>by simp at e
 |_,_,0,_,_,.cons r _,e,e'=>by simp at e e';subst e;subst e';exact r
 |_,_,i+1,_,_,.cons _ t,e,e'=>X9 (i:=i) t (by simpa using e) (by simpa using e')
noncomputable def Itv(d:Addr)(o:Obj)(kvs:List (Key×V)):It :=
 ⟨λi H=>H d=some (.frz o (.dK kvs))/\i<kvs.length,λi H x H'=>H'=H/\∃k,kvs[i]? = some (k,x),λi H=>H d=some (.frz o (.dK kvs))/\kvs.length<=i⟩
theorem Qko{K:Frag}(d it:Addr)(o:Obj)(kvs:List (Key×V))(vs:List (Key×Value))(ep:Nat)(rel:KV kvs vs)(hdi:d≠it)
  (hd:∀h:Heap,h.get? d=some o->h.DictAt (Q1 P w) d vs ep) :
  Turn P w K tg (Itv d o kvs) [it] it (λi h=>h.IsValIter it d i vs.length ep) where
 mem:=by simp
 obj:=λi h st b hb=>by
  have e:b=it:=by simpa using hb
  subst e;obtain⟨o,e,c,d⟩:=st;exact⟨o,e,λv z=>by rw[d]at z;cases z⟩
 keep:=λi h h' st k=>st.at λo e=>k it (by simp) o e
 item:=by
  intro X hP hw hK hc i pins s σ H E I hf st hg;subst hP hw hK;obtain⟨hH,hlt⟩:=hg;obtain⟨e1,_⟩:=I.hok d _ hH;obtain⟨⟨k,y⟩,hx⟩:∃p,kvs[i]? = some p:=⟨kvs[i],by simp[hlt]⟩
  have hlen:kvs.length=vs.length:=No rel;obtain⟨⟨k',u⟩,hu⟩:∃p,vs[i]? = some p:=⟨vs[i]'(by omega),by simp[show i<vs.length by lia]⟩
  have ru:RelV y u:=(X9 rel hx hu).2;obtain⟨f0,f1,f2,f3,f4,f5⟩:=hf it (by simp);refine wpAny_pyNext_values_item st (hd _ e1) hu λh' st' sb=>?_;have I1:Inv X pins σ H { s with heap:=h' }:=I.turned (t':=s.toks) (λb o hb e=>(sb.2 b hb).trans e) f0 f1 f3 f4 f5;obtain⟨oi,e,c,dd⟩:=id st';exact⟨u,rfl,Qmz (s:={ s with heap:=h' }) e c dd (by decide) ⟨y,H,I1,ru,⟨rfl,k,hx⟩,st',λb hb=>(hf b hb).1⟩⟩
 done:=by
  intro X hP hw hK hc i pins s σ H E I hf st hg;subst hP hw hK;obtain⟨hH,hge⟩:=hg;obtain⟨e1,_⟩:=I.hok d _ hH;have hlen:kvs.length=vs.length:=No rel;obtain⟨f0,f1,f2,f3,f4,f5⟩:=hf it (by simp);exact wpAny_pyNext_values_end (I.ok.hd hc) st (hd _ e1) (B7 (by lia)) λh' eb=>⟨rfl,I.turned (t':=s.toks) (λb o hb e=>eb b o hb e) f0 f1 f3 f4 f5⟩
 self:=λ_ _ _ _ _ st h=>wpAny_pyIter_valiter st h
def Qy3(to:TE):TI:=λσ H R=>to σ H λx H1=>∃d kvs,x=.ref d/\H1 d=some (.dK kvs)/\∀o,R (Itv d o kvs) (upd H1 d (.frz o (.dK kvs)))
theorem Qs9{o:Expr}(ho:PE X o to)(hbase:attributeBase o "values" X.env (eval o X.env)=eval o X.env:=by rfl)(hline:(apos.endLine==cpos.line)=true:=by rfl) :
  PI X tg (.Call (.Attribute o "values" apos) [] [] cpos) (Qy3 to):=by
 intro pins s σ H R I h;refine Kw hbase hline (thn (ho pins s σ H _ I h) λv s1 ⟨x,H1,I1,r1,d,kvs,e,hd,q⟩=>?_);subst e;cases r1;obtain⟨h1,h2⟩:=Qkm (T:="dict") I1 (show RelV (.ref d) (.ref d)from rfl) (.inr (.inr (.inl ⟨rfl,.inl ⟨kvs,hd⟩⟩)));refine⟨"dict",_,Kx,Km,PySem.F.type_dict_values,h1,h2,Ti rfl (Lz ?_)⟩;obtain⟨z,hs,vs,rel,dd⟩:=Qnf I1.hok hd;refine call_meetsIn Km dd.typeIs PySem.F.entry_dict_values (PySem.F.args_dict_values_1 _) (meets_dict_values (Q1 X.prog X.w) d hs) ⟨⟨vs,dd⟩,?_⟩;have I2:Inv X pins σ H1 { s1 with heap:=s1.heap.push { cls:=.type "dict_values",data:=.fields #[.ref d] } }:=I1.kept (t':=s1.toks) λb u e=>An _ e;obtain⟨ep,da⟩:=dd.dictAt;obtain⟨ob,es,hob,dr⟩:=id da;have hob2:(s1.heap.push { cls:=.type "dict_values",data:=.fields #[.ref d] }).get? d=some ob:=An _ hob;refine wpAny_pyIter_values (knd:=Q1 X.prog X.w) (d:=d) (kvs:=vs) (ep:=ep) ⟨_,Bp _ rfl,rfl,rfl⟩ ⟨ob,es,hob2,dr⟩ ?_;have I3:=I2.kept (h':=(s1.heap.push { cls:=.type "dict_values",data:=.fields #[.ref d] }).push { cls:=.type "dict_valueiterator",data:=.fields #[.ref d,.int 0 0,.int vs.length 0,.int ep 0] }) (t':=s1.toks) λb u e=>An _ e;have hob3:=An (h:=s1.heap.push { cls:=.type "dict_values",data:=.fields #[.ref d] }) { cls:=.type "dict_valueiterator",data:=.fields #[.ref d,.int 0 0,.int vs.length 0,.int ep 0] } hob2;have I4:=I3.write (x:=d) (e:=d) (o:=.frz ob (.dK kvs)) (t':=s1.toks) (by rw[hd];trivial) (.inl rfl) (λb u _ q=>q) ⟨_,hob3⟩
  (show Yj X.prog X.w _ _ d (.frz ob (.dK kvs)) from⟨hob3,z,hs,vs,rel,ob,es,ep,hob3,dr⟩)
 have hlt:d<(s1.heap.push { cls:=.type "dict_values",data:=.fields #[.ref d] }).objs.size:=Bf hob2;refine⟨(s1.heap.push { cls:=.type "dict_values",data:=.fields #[.ref d] }).objs.size,[(s1.heap.push { cls:=.type "dict_values",data:=.fields #[.ref d] }).objs.size],_,_,_,rfl,I4,
  Qko d _ ob kvs vs ep rel (Bv hlt) (λh e=>⟨ob,es,e,dr⟩),⟨_,Bp _ rfl,rfl,rfl⟩,λb hb=>?_,q ob⟩
 have e:b=(s1.heap.push { cls:=.type "dict_values",data:=.fields #[.ref d] }).objs.size:=by simpa using hb
 subst e;exact I2.fpOk (At _) (by rw[Ql (D1 hlt)];exact I2.hok.fresh (At _))
end L2
namespace L2
open PySem PySem.Spec PyProof.Rows
open PySem.W (Dat kqdP kqdPs kqdOk)
mutual
inductive DV(H:Hp):V->Dat->Prop
 |non:DV H .non .none
 |int (i:Int):DV H (.int i) (.int i)
 |str (x:Str):DV H (.str x) (.str x)
 |tup {a:Addr} {xs:List V} {ds:List Dat} (e:H a=some (.tup xs)) (r:DVs H xs ds):DV H (.ref a) (.tuple ds)
 |lst {a:Addr} {xs:List V} {ds:List Dat} (e:H a=some (.lst xs)) (r:DVs H xs ds):DV H (.ref a) (.list ds)
inductive DVs(H:Hp):List V->List Dat->Prop
 |nil:DVs H [] []
 |cons {x:V} {d:Dat} {xs:List V} {ds:List Dat} (h:DV H x d) (r:DVs H xs ds):DVs H (x::xs) (d::ds)
end
mutual
theorem DV.reads{P:Program}{w:World}{H:Hp}{h:Heap}(ok:HOk P w H h):∀{x:V}{d:Dat}{u:Value},DV H x d->RelV x u->∃as,Reads h u (kqdP d) as
 |_,_,_,.non,r=>by cases r;exact⟨_,by rw[kqdP];exact Reads.none⟩
 |_,_,_,.int i,r=>by obtain⟨t,rfl⟩:=r;exact⟨_,by rw[kqdP];exact Reads.int i t⟩
 |_,_,_,.str x,r=>by obtain⟨t,rfl⟩:=r;exact⟨_,by rw[kqdP];exact Reads.str x t⟩
 | _,_,_,.tup (a:=a) e q,r=>by
  cases r;obtain⟨_,its,rv,o,h1,h2,n,h3⟩:=ok a _ e;obtain⟨as,z⟩:=DVs.reads ok q rv;rw[kqdP];exact⟨as,reads_tuple_at h1 h2 h3 (by simpa using z)⟩
 | _,_,_,.lst (a:=a) e q,r=>by
  cases r;obtain⟨_,its,n,rv,h1⟩:=ok a _ e;obtain⟨as,z⟩:=DVs.reads ok q rv;rw[kqdP];exact⟨_,reads_list_at h1 rfl rfl (by simpa using z)⟩
theorem DVs.reads{P:Program}{w:World}{H:Hp}{h:Heap}(ok:HOk P w H h):∀{xs:List V}{ds:List Dat}{us:List Value},DVs H xs ds->Vals xs us->∃as,ReadsAll h us (kqdPs ds) as
 |_,_,_,.nil,r=>by cases r;exact⟨_,by rw[kqdPs];exact ReadsAll.nil⟩
 | _,_,_,.cons p q,r=>by
  cases r with
  | cons r1 r2=>
   obtain⟨as,z⟩:=DV.reads ok p r1;obtain⟨bs,y⟩:=DVs.reads ok q r2;rw[kqdPs];exact⟨_,ReadsAll.cons z y⟩
end
theorem Ua{d:Dat}(h:kqdOk n d=true)(hn:n<=9):SeqAt.shaped (kqdP d)=true:=by
 have l:=PySem.W.kqd_lay n d h;unfold SeqAt.shaped;rw[l.1,Ix];exact decide_eq_true (Dy l.2 (Dy hn (by decide)))
open Classical in
theorem Qnk{d e:Dat}(h:kqdOk n d=true)(h':kqdOk k e=true):PyData.eqv (kqdP d) (kqdP e)=decide (d=e):=by
 have q:=PySem.W.kqd_eqv n d e k h h';by_cases hq:d=e
 ·rw[decide_eq_true hq];exact q.mpr hq
 ·rw[decide_eq_false hq];exact Bool.eq_false_iff.mpr λx=>hq (q.mp x)
def rDat(neg:Bool):R2:=λx y H Q=>∃d e n,DV H x d/\DV H y e/\kqdOk n d=true/\kqdOk n e=true/\n<=9/\((d=e->Q (.bl (!neg)) H)/\(d≠e->Q (.bl neg) H))
theorem Qv4(hu:X.A.units+64<cLine):OpR X (compareOp .Eq) (rDat false):=by
 classical
 intro pins s σ H x y v u Q I rx ry h;obtain⟨d,e,n,dx,dy,hd,he,hn,q1,q2⟩:=h;obtain⟨as,ra⟩:=dx.reads I.hok rx;obtain⟨bs,rb⟩:=dy.reads I.hok ry;refine eq_dataH ra rb (Ua hd hn) (Ua he hn) hu ?_;rw[Qnk hd he];by_cases hq:d=e
 ·rw[decide_eq_true hq];exact⟨.bl true,H,I,rfl,q1 hq⟩
 ·rw[decide_eq_false hq];exact⟨.bl false,H,I,rfl,q2 hq⟩
theorem Qv1(hu:X.A.units+64<cLine):OpR X (compareOp .NotEq) (rDat true):=by
 classical
 intro pins s σ H x y v u Q I rx ry h;obtain⟨d,e,n,dx,dy,hd,he,hn,q1,q2⟩:=h;obtain⟨as,ra⟩:=dx.reads I.hok rx;obtain⟨bs,rb⟩:=dy.reads I.hok ry;refine ne_dataH ra rb (Ua hd hn) (Ua he hn) hu ?_;rw[Qnk hd he];by_cases hq:d=e
 ·rw[decide_eq_true hq];exact⟨.bl false,H,I,rfl,q1 hq⟩
 ·rw[decide_eq_false hq];exact⟨.bl true,H,I,rfl,q2 hq⟩
end L2
namespace SortT
open PySem PySem.W PyProof.Rows
structure Ord(f:Nat->Nat->Bool):Prop where
 asym:∀i j,f i j=true->f j i=false
 tr:∀i j k,f j i=false->f k j=false->f k i=false
section
variable {f:Nat->Nat->Bool}(O:Ord f)
include O in
abbrev at_(p:Array Nat)(i:Nat):Nat:=p.getD i 0
end
theorem Qdg:∀a b:List Int,HT.Zg a b=true->HT.Zg b a=false
 | [],[],h=>by cases h
 | [],_::_,_=>rfl
 |_::_,[],h=>by cases h
 | x::xs,y::ys,h=>by
  rw[HT.Y6]at h ⊢;by_cases e:x=y
  ·rw[if_pos e]at h;rw[if_pos e.symm];exact Qdg xs ys h
  ·rw[if_neg e]at h;rw[if_neg (λz=>e z.symm)];have:=of_decide_eq_true h;exact decide_eq_false (by lia)
theorem Qh8:∀a b:List Int,HT.Zg a b=false->HT.Zg b a=false->a=b
 | [],[],_,_=>rfl
 | [],_::_,h,_=>by cases h
 |_::_,[],_,h=>by cases h
 | x::xs,y::ys,h1,h2=>by
  rw[HT.Y6]at h1 h2;by_cases e:x=y
  ·rw[if_pos e]at h1;rw[if_pos e.symm]at h2;rw[e,Qh8 xs ys h1 h2]
  ·rw[if_neg e]at h1;rw[if_neg (λz=>e z.symm)]at h2;have q1:=of_decide_eq_false h1;have q2:=of_decide_eq_false h2;lia
theorem Qrg{Q:Bool->Shared->Prop}:∀{us vs:List Value}{ns ms:List Int}(i:Nat),IntsAre us ns->IntsAre vs ms->∀{fin:Bool},fin=decide (ns.length<ms.length)->Q (HT.Zg ns ms) s->KatLex prog w A true fin Q (us.zip vs) i s
 |_,_,_,_,i,.nil,.nil,fin,hf,h=>by rw[hf];exact h
 | _,_,_,_,i,.nil,.cons m t r,fin,hf,h=>by
  rw[hf];exact h
 | _,_,_,_,i,.cons n t r,.nil,fin,hf,h=>by
  rw[hf];exact h
 | _,_,_,_,i,.cons (ns:=ns) n t r,.cons (ns:=ms) m u q,fin,hf,h=>by
  refine kat_cons (L9 n t m u prog w _ _ (kat_go (λe=>?_) λe=>?_))
  ·have e':n=m:=by simpa using e
   refine kat_yes (Qrg (i+1) r q (by rw[hf];simp) ?_);rw[HT.Y6,if_pos e']at h;exact h
  ·have e':n≠m:=by simpa using e
   rw[HT.Y6,if_neg e']at h;refine kat_no ?_;cases hi:(true&&i==0) with
   |true=>exact oneLt_int h
   |false=>exact kat_one _ _ (PyProof.Rows.lt_int h)
end SortT
variable {o:Array Nt}
namespace L2
open PySem PySem.Spec PyProof.Rows
theorem Qmm{k:Key}(h:(Q1 P w).is k u=true):RelV (kV k) u:=by
 rw[Qjh]at h;rcases Jd h with⟨i,t,rfl,rfl⟩|⟨x,t,rfl,rfl⟩
 ·exact⟨t,rfl⟩
 ·exact⟨t,rfl⟩
noncomputable def Itk(d:Addr)(o:Obj)(kvs:List (Key×V)):It :=
 ⟨λi H=>H d=some (.frz o (.dK kvs))/\i<kvs.length,λi H x H'=>H'=H/\∃k v,kvs[i]? = some (k,v)/\x=kV k,λi H=>H d=some (.frz o (.dK kvs))/\kvs.length<=i⟩
theorem Qkq{K:Frag}(d it:Addr)(o:Obj)(kvs:List (Key×V))(vs:List (Key×Value))(ep:Nat)(rel:KV kvs vs)(hdi:d≠it)
  (hd:∀h:Heap,h.get? d=some o->h.DictAt (Q1 P w) d vs ep) :
  Turn P w K tg (Itk d o kvs) [it] it (λi h=>h.IsKeyIter it d i vs.length ep) where
 mem:=by simp
 obj:=λi h st b hb=>by
  have e:b=it:=by simpa using hb
  subst e;obtain⟨o,e,c,d⟩:=st;exact⟨o,e,λv z=>by rw[d]at z;cases z⟩
 keep:=λi h h' st k=>by
  obtain⟨o,e,c,d⟩:=st;exact⟨o,k it (by simp) o e,c,d⟩
 item:=by
  intro X hP hw hK hc i pins s σ H E I hf st hg;subst hP hw hK;obtain⟨hH,hlt⟩:=hg;obtain⟨e1,_⟩:=I.hok d _ hH;obtain⟨⟨k,y⟩,hx⟩:∃p,kvs[i]? = some p:=⟨kvs[i],by simp[hlt]⟩
  have hlen:kvs.length=vs.length:=No rel;obtain⟨⟨k',u⟩,hu⟩:∃p,vs[i]? = some p:=⟨vs[i]'(by omega),by simp[show i<vs.length by lia]⟩
  have rk:k=k':=(X9 rel hx hu).1;subst rk;obtain⟨f0,f1,f2,f3,f4,f5⟩:=hf it (by simp);refine wpAny_pyNext_dict_item st (hd _ e1) hu λkey h' hk st' sb=>?_;have I1:Inv X pins σ H { s with heap:=h' }:=I.turned (t':=s.toks) (λb o hb e=>(sb.2 b hb).trans e) f0 f1 f3 f4 f5;obtain⟨oi,e,c,dd⟩:=id st';exact⟨key,rfl,Qmz (s:={ s with heap:=h' }) e c dd (by decide) ⟨kV k,H,I1,Qmm hk,⟨rfl,k,y,hx,rfl⟩,st',λb hb=>(hf b hb).1⟩⟩
 done:=by
  intro X hP hw hK hc i pins s σ H E I hf st hg;subst hP hw hK;obtain⟨hH,hge⟩:=hg;obtain⟨e1,_⟩:=I.hok d _ hH;have hlen:kvs.length=vs.length:=No rel;obtain⟨f0,f1,f2,f3,f4,f5⟩:=hf it (by simp);exact wpAny_pyNext_dict_end (I.ok.hd hc) st (hd _ e1) (B7 (by lia)) λh' eb=>⟨rfl,I.turned (t':=s.toks) (λb o hb e=>eb b o hb e) f0 f1 f3 f4 f5⟩
 self:=λ_ _ _ _ _ st h=>wpAny_pyIter_keyiter st h
def Qy5(to:TE):TI:=λσ H R=>to σ H λx H1=>∃d kvs,x=.ref d/\H1 d=some (.dK kvs)/\∀o,R (Itk d o kvs) (upd H1 d (.frz o (.dK kvs)))
theorem Qta{o:Expr}(ho:PE X o to):PI X tg o (Qy5 to):=by
 intro pins s σ H R I h;refine thn (ho pins s σ H _ I h) λv s1 ⟨x,H1,I1,r1,d,kvs,e,hd,q⟩=>?_;subst e;cases r1;obtain⟨z,hs,vs,rel,dd⟩:=Qnf I1.hok hd;obtain⟨ep,da⟩:=dd.dictAt;obtain⟨ob,es,hob,dr⟩:=id da;refine wpAny_pyIter_dict (knd:=Q1 X.prog X.w) (d:=d) (kvs:=vs) (ep:=ep) hs ⟨ob,es,hob,dr⟩ ?_;have I3:=I1.kept (h':=s1.heap.push { cls:=.type "dict_keyiterator",data:=.fields #[.ref d,.int 0 0,.int vs.length 0,.int ep 0] }) (t':=s1.toks) λb u e=>An _ e;have hob3:=An (h:=s1.heap) { cls:=.type "dict_keyiterator",data:=.fields #[.ref d,.int 0 0,.int vs.length 0,.int ep 0] } hob;have I4:=I3.write (x:=d) (e:=d) (o:=.frz ob (.dK kvs)) (t':=s1.toks) (by rw[hd];trivial) (.inl rfl) (λb u _ q=>q) ⟨_,hob3⟩
  (show Yj X.prog X.w _ _ d (.frz ob (.dK kvs)) from⟨hob3,z,hs,vs,rel,ob,es,ep,hob3,dr⟩)
 have hlt:d<s1.heap.objs.size:=Bf hob;refine⟨s1.heap.objs.size,[s1.heap.objs.size],_,_,_,rfl,I4,
  Qkq d _ ob kvs vs ep rel (Bv hlt) (λh e=>⟨ob,es,e,dr⟩),⟨_,Bp _ rfl,rfl,rfl⟩,λb hb=>?_,q ob⟩
 have e:b=s1.heap.objs.size:=by simpa using hb
 subst e;exact I1.fpOk (At _) (by rw[Ql (D1 hlt)];exact I1.hok.fresh (At _))
end L2
namespace HT
open PySem PySem.Spec PyProof.Rows L2
theorem Qqa(ht:IsTup s.heap t ([]:List Value).toArray)(hb:IsTup s.heap b ws.toArray)(h1:Q (.ref b) s):wpAny (model prog w) A (binaryOp .Add (.ref t) (.ref b)) Q E s:=by
 obtain ⟨⟨cls,dd,data,sl⟩,ho,hc,n,hd⟩:=id ht;obtain⟨⟨cls2,dd2,data2,sl2⟩,ho2,hc2,n2,hd2⟩:=id hb;simp only at hc hd hc2 hd2;subst hc hd hc2 hd2;exact concat_meets ⟨_,ho,rfl⟩ ⟨_,ho2,rfl⟩ Kk Ls Th S8 (Sy _ _)
   (tuple_addW0 t b ([]:List Value).toArray ws.toArray n n2 dd dd2 sl sl2 rfl) ⟨ho,ho2,h1⟩
theorem Ut(ht:IsTup s.heap t items)(hs:s.heap.IsSliceOf sl vl vu .none)(pl:IsPart vl lo)(pu:IsPart vu hi)
  (hw:sIx items.size 0 lo=0/\sIx items.size items.size hi=items.size)
  (h:Q (.ref t) s):wpAny (model prog w) A (getItem (.ref t) (.ref sl)) Q E s:=by
 obtain⟨os,hos,hcs,hds⟩:=id hs;have hTs:s.TypeIs (.ref sl) "slice":=⟨os,hos,hcs⟩
 unfold getItem
 try with_reducible refine Nq ?_
 first|refine Ah (As ?_)|skip
 refine Ah (wpAny_sequenceKey ht.typeIs (by decide) ?_);refine Ah (Fe (name:=M2 "__getitem__") ht.typeIs Dz
  (D7 Dz ht.typeIs entry_tuple_getitem ?_ (args_tuple_getitem _ _)))
 show wpAny _ _ (Iu (.ref t) >>= _) _ _ s;refine Ah (tupleItemsOf_ ht ?_);refine Ah (Tq hTs ?_);rw[if_pos (by decide)];refine Ah (Vh hs pl pu ?_);have hyes:(((sIx items.size 0 lo:Nat):Int)==0&&(1:Int)==1&&(sIx items.size items.size hi-sIx items.size 0 lo)==items.size)=true:=by
  rw[hw.1,hw.2];simp
 show wpAny _ _ (if (((sIx items.size 0 lo:Nat):Int)==0&&(1:Int)==1&&(sIx items.size items.size hi-sIx items.size 0 lo)==items.size)=true then _ else _) _ _ s;rw[if_pos hyes];refine Ah (Ah (Tq ht.typeIs (As ?_)));rw[if_pos (by decide)];refine Ah (Rc ?_)
 first
  |exact Ah (As (As ⟨_,rfl,As h⟩))
  |exact As ⟨_,rfl,As h⟩
  |exact Ah (As ⟨_,rfl,As h⟩)
end HT
variable {Q:Option Bool->N8->Prop}
namespace L2
open PySem PySem.Spec PyProof.Rows
def Qyo(K:Frag):R2:=λx y H Q=>∃a b ys,x=.ref a/\y=.ref b/\SqT K H a []/\SqT K H b ys/\Q (.ref b) H
theorem Qtm:OpR X (binaryOp .Add) (Qyo X.K):=by
 intro pins s σ H x y v u Q I rx ry h;obtain⟨a,b,ys,rfl,rfl,ha,hb,q⟩:=h;cases rx;cases ry;obtain⟨its,r1,p1,_⟩:=I.tuple ha;obtain⟨its2,r2,p2,_⟩:=I.tuple hb;have:its=[]:=by cases r1;rfl
 subst this;exact HT.Qqa p1 p2 ⟨.ref b,H,I,rfl,q⟩
def rSlW(K:Frag):V->Option Int->Option Int->Hp->VK->Prop:=λx lo hi H Q=>∃a xs,x=.ref a/\SqT K H a xs /\
 (HT.sIx xs.length 0 lo=0/\HT.sIx xs.length xs.length hi=xs.length)/\Q (.ref a) H
theorem Qsh:SlR X (rSlW X.K):=by
 intro pins s σ H x v vl vu lo hi sl Q I rx hs pl pu h;obtain⟨a,xs,rfl,hx,hw,q⟩:=h;cases rx;obtain⟨its,r,ht,hz⟩:=I.tuple hx;have hlen:its.toArray.size=xs.length:=by rw[Bu];exact r.length.symm
 refine⟨"tuple",_,Dz.lookup,ht.typeIs,?_⟩;exact HT.Ut ht hs pl pu (by rw[hlen];exact hw) ⟨.ref a,H,I,rfl,q⟩
theorem Qd8{P:Program}{w:World}:∀{kvs:List (Key×V)} {vs:List (Key×Value)} {us:List Value},KV kvs vs->us.length=vs.length ->
  (∀(j:Nat) v,us[j]? = some v->∃k x,vs[j]? = some (k,x)/\(Q1 P w).is k v=true)->Vals (kvs.map λkv=>kV kv.1) us
 | [],_,us,.nil,hl,_=>by
  cases us with
  |nil=>exact .nil
  |cons _ _=>simp at hl
 | p::r,q::t,us,.cons h rel,hl,hv=>by
  cases us with
  |nil=>simp at hl
  | cons u us=>
   obtain⟨k,x,e,hk⟩:=hv 0 u rfl;simp only[Bh,N1]at e;refine .cons ?_ (Qd8 (P:=P) (w:=w) rel (by simpa using hl) λj v e=>?_)
   ·show RelV (kV p.1) u;rw[h.1,e];exact Qmm hk
   ·obtain⟨k,x,e',hk⟩:=hv (j+1) v (by simpa using e);exact⟨k,x,by simpa using e',hk⟩
theorem Qae:∀{ns:List Int}{its:List Value},Vals (ns.map V.int) its->IntsAre its ns
 | [],_,r=>by rw[B1]at r;cases r;exact .nil
 | n::ns,_,r=>by
  rw[Bc]at r;cases r with
  |cons h t=>obtain⟨tk,rfl⟩:=h;exact .cons n tk (Qae t)
theorem Qe3:∀{ns:List Int}{its:List Value},IntsAre its ns->Vals (ns.map V.int) its
 |_,_,.nil=>.nil
 |_,_,.cons n t h=>.cons ⟨t,rfl⟩ (Qe3 h)
section
variable {o:Expr}
def isN(n:Int):Value->Bool
 | .int m _=>m==n
 |_=>false
theorem Xu{r:Addr}{Pv:Nat->Value->Prop}{OK:Heap->Prop}{Q:List Value->Shared->Prop}(K:KdlSrc P w T r d n Pv OK)(hh:A.handled=none)(hok:OK s.heap)(hn:n<=sizeLine)
  (h:∀h' tk (vs:List Value),(∀b o,s.heap.get? b=some o->h'.get? b=some o)->vs.length=n->(∀j v,vs[j]? = some v->Pv j v)->Q vs { s with heap:=h',toks:=tk }) :
  wpAny (model P w) A (collect (.ref r)) Q E s:=by
 unfold collect
 refine Ah (wpAny_runValue (Tx entry_proto_collect' ?_))
 show wpAny _ _ (do again (.builtin "list.__iadd__" ⟨[← newList [],.ref r],[]⟩)) _ _ s
 refine Ah (Iy (As ⟨Code.quiet_builtin _ (by decide +kernel),Tx entry_list_iadd' ?_⟩))
 show wpAny _ _ (Sd (.ref s.heap.objs.size) (.ref r) (.ref s.heap.objs.size)) _ _ { s with heap:=s.heap.push (seqObj "list" #[] 0) }
 have hlt:=K.there _ hok
 rw[Tz (by decide +kernel) _]
 refine PySem.W.kdl_extend (R:=λr s'=>match r with
  | .ok (.ret v)=>wpAny (model P w) A (match v with
   | .ref a=>do
    let o ← load a
    match o.data with
    | .seq xs _=>pure xs.toList
    |_=>unsupported "internal:collect"
   |_=>unsupported "internal:collect") Q E s'
  | .ok _=>False
  | .error e=>E e s') (s:={ s with heap:=s.heap.push (seqObj "list" #[] 0) }) K hh (K.keep _ _ hok λb _ o e=>An _ e) s.heap.objs.size (D1 hlt.1) (D1 hlt.2) (.ref s.heap.objs.size) 0 (Bp _ rfl) (λh' tk acc' c' hk hS' hacc=>?_) hn
 show wpAny (model P w) A (do
   let o ← load s.heap.objs.size
   match o.data with
   | .seq xs _=>pure xs.toList
   |_=>unsupported "internal:collect") Q E { s with heap:=h',toks:=tk }
 refine Ah (wpAny_load hS' ?_)
 show wpAny _ _ (pure acc'.toList) Q E _
 exact As (h h' tk acc'.toList (λb o e=>hk b o (Bv (Bf e)) (An _ e)) (by rw[De];exact hacc.1) λj v e=>hacc.2 j v (by rw[← Fm];exact e))
noncomputable def Qvh:List V->Hp->VK->Prop:=λxs H Q=>∃(a:Addr)(kvs:List (Key×V)) (ns:List Int),xs=[.ref a]/\Rd H a (.dK kvs)/\kvs.map (·.1)=ns.map Nh/\kvs.length<64 /\
 ∀(out:List Int) D,out.Perm ns->out.Pairwise (· <= ·)->H D=none->Q (.ref D) (upd H D (.lst (out.map V.int)))
theorem Qjw(hc:X.calm=true):Uz X (.builtin "sorted") Qvh:=by
 intro pins s σ H xs us Q I r h;obtain⟨a,kvs,ns,rfl,ha,hks,h64,q⟩:=h;obtain⟨u,rfl,ru⟩:=Qbr r;cases ru;obtain⟨z,hs,vs,rel,dd⟩:=Qgl I.hok ha;obtain⟨ep,da⟩:=dd.dictAt;have hlen:kvs.length=vs.length:=No rel;refine Kh kind_sorted plain_sorted entry_sorted (args_sorted1 _) ?_;unfold Ov;refine Ah (m:=checkCount "sorted" 1 1 _) (As ?_);refine Ah (Xu (PySem.W.kdl_dict (knd:=Q1 X.prog X.w) (kvs:=vs) (ep:=ep) hs) (I.ok.hd hc) da (by lia) λh1 tk us hk hul hit=>?_);have rv:Vals (kvs.map λkv=>kV kv.1) us:=Qd8 (P:=X.prog) (w:=X.w) rel hul λj v e=>hit j v e;have rv':Vals (ns.map V.int) us:=by
  have:(kvs.map λkv=>kV kv.1)=ns.map V.int:=by
   have h0:(kvs.map λkv=>kV kv.1)=(kvs.map (·.1)).map kV:=by rw[By];rfl
   rw[h0,hks,By];rfl
  rw[← this];exact rv
 have hI:=Qae rv';have hus:us.length<64:=by lia
 refine Ah (Iy ?_);have hoL:(h1.push (seqObj "list" us.toArray 0)).get? h1.objs.size=some (seqObj "list" us.toArray 0):=Bp _ rfl;refine Ah (Nq (D7 slot_list_sort ⟨_,hoL,rfl⟩ entry_list_sort (list_sort_tree hoL hI hus λout ns' a1 a2 a3=>⟨_,rfl,?_⟩) (args_list_sort _)));refine As ⟨_,rfl,?_⟩;obtain⟨e,he⟩:=sortedHeap_at (out:=out) hoL;have I1:Inv X pins σ H { s with heap:=h1,toks:=tk }:=I.kept (t':=tk) hk;have I2:Inv X pins σ (upd H h1.objs.size (.lst (ns'.map V.int))) { s with heap:=sortedHeap (h1.push (seqObj "list" us.toArray 0)) h1.objs.size us out,toks:=tk }:=by
  refine I1.laid (t':=tk) (λb o eb=>?_) (At _) ⟨?_,out.toList,e,Qe3 a1,?_⟩
  ·have hb:=Bf eb;rw[sortedHeap_old (Bv hb) (by rw[size_push'];exact Tb hb)];exact An _ eb
  ·have:=a2.length_eq;have h2:=rv'.length;rw[Ao]at h2 ⊢;rw[this,h2,Md];lia
  ·rw[T0];exact he
 exact⟨.ref h1.objs.size,_,I2,rfl,q ns' _ a2 a3 (I1.hok.fresh (At _))⟩
end
end L2
namespace L2
open PySem PySem.Spec PyProof.Rows
open Builtin.Str (glued partsBetween occurrences tooLong strSub)
def Qzt(x sep:Str):List Str:=partsBetween x (occurrences x sep 0 x.length (x.length+1)) sep.length
end L2
namespace Srt
open PySem PyProof.Rows
class KN where
 nk:Keyed->Int
 isN:Keyed->Prop
 kind:SortKind
end Srt
variable {xs x:Array Nt}{a g:Nat}{X l Y O:List Nt}{st:N8}
namespace Srt
open PySem PyProof.Rows
open KN (nk isN kind)
class KL [KN] (prog:Program) (w:World) (A:Around) (E:Value->Shared->Prop) (s:Shared):Prop where
 lt:∀{st:SortSt}{x y:Keyed}{Q:Option Bool->SortSt->Prop},kindOf st=kind->isN x->isN y->Q (some (decide (nk x<nk y))) st->wpS (model prog w) A E s (lt' x y) Q st
section
variable [KN]
def K(xs:Array Keyed)(i:Nat):Int:=match xs[i]? with
 |some p=>nk p
 |none=>0
def Qix(xs:Array Keyed)(k:Nat):Prop:=∀i j,i<=j->j<k->K xs i<=K xs j
theorem Qn7{ys:Array Keyed}(h:xs[i]? = ys[j]?):K xs i=K ys j:=by unfold K;rw[h]
theorem Qxz{r d:Nat}(hr:r<x.size)(hd:d<=r)(n:Nat):K (bubble x r d) n=if n=r-d then K x r else if r-d<n/\n<=r then K x (n-1)else K x n:=by
 have q:=getElem?_bubble hr d hd n;split
 ·rename_i z;rw[if_pos z]at q;exact Qn7 q
 ·rename_i z;rw[if_neg z]at q;split
  ·rename_i y;rw[if_pos y]at q;exact Qn7 q
  ·rename_i y;rw[if_neg y]at q;exact Qn7 q
theorem Qxy{b:Nat}(hb:b<=x.size)(n:Nat):K (mirror x a b ((b-a)/2)) n=if a<=n/\n<b then K x (a+b-1-n)else K x n:=by
 have q:=getElem?_mirror_all (i:=a) hb n;split
 ·rename_i z;rw[if_pos z]at q;exact Qn7 q
 ·rename_i z;rw[if_neg z]at q;exact Qn7 q
theorem Qjz{b:Nat}(hb:b<=x.size)(h:∀n,a<=n->n<b->K x n=K x (b-1))(n:Nat):K (mirror x a b ((b-a)/2)) n=K x n:=by
 rw[Qxy hb];split
 ·rw[h _ (by lia) (by lia),h n (by lia) (by lia)]
 ·rfl
end
section
variable [KN][KL prog w A E s]
theorem Qai{x y:Keyed}(hk:kindOf st=kind)(hx:isN x)(hy:isN y)(h:Q (some (decide (nk x<nk y))) st):wpS (model prog w) A E s (lt' x y) Q st:=KL.lt hk hx hy h
theorem Qx{p:Keyed}{Q:Keyed->SortSt->Prop}(hi:xs[i]? = some p)(h:Q p st):wpS (model prog w) A E s (elem' xs i) Q st:=by
 rw[elem'_eq,hi];exact Bi h
def leap:Bool->Keyed->Array Keyed->Nat->Nat->Nat->StateT SortSt Sem (Option Nat):=sortPriv% PySem.Builtin.gallop
def past(left:Bool)(key:Keyed)(xs:Array Keyed)(b i:Nat):StateT SortSt Sem (Option Bool):=do
 let p ← elem' xs (b+i)
 if left then lt' p key else return (← lt' key p).map (!·)
def pv(left:Bool)(key:Keyed)(xs:Array Keyed)(b i:Nat):Bool:=if left then decide (K xs (b+i)<nk key)else !decide (nk key<K xs (b+i))
theorem X5{left:Bool}{key:Keyed}{b:Nat}(hk:kindOf st=kind)(hx:∀p∈xs.toList,isN p)(hy:isN key)(hi:b+i<xs.size)(h:Q (some (pv left key xs b i)) st):wpS (model prog w) A E s (past left key xs b i) Q st:=by
 have e:xs[b+i]? = some (xs[b+i]'hi):=Bg hi;have hp:isN xs[b+i]:=hx _ (by simp);have ek:K xs (b+i)=nk xs[b+i]:=by unfold K;rw[e]
 unfold past;refine Ax (Qx e ?_);unfold pv at h;rw[ek]at h;cases left with
 | true=>
  simp only[if_true]at h ⊢;exact Qai hk hp hy h
 | false=>
  simp only[Bj,if_false]at h ⊢;exact Ax (Qai hk hy hp (Bi h))
theorem Qtx(left:Bool)(key:Keyed)(xs:Array Keyed)(b n hint:Nat):leap left key xs b n hint=(do
 let mut la:=0
 let mut of:=1
 let mut l:=0
 let mut h:=0
 let some r ← past left key xs b hint|return none
 if r then
  let mx:=n-hint
  for _ in [0:n] do
   if of≥mx then break
   let some m ← past left key xs b (hint+of)|return none
   if !m then break
   la:=of
   of:=2*of+1
  l:=hint+la+1
  h:=hint+min of mx
 else
  let mx:=hint+1
  for _ in [0:n] do
   if of≥mx then break
   let some m ← past left key xs b (hint-of)|return none
   if m then break
   la:=of
   of:=2*of+1
  l:=hint+1-min of mx
  h:=hint-la
 for _ in [0:n] do
  if l≥h then break
  let mid:=l+(h-l)/2
  let some m ← past left key xs b mid|return none
  if m then l:=mid+1 else h:=mid
 return some h):=rfl
noncomputable def half(left:Bool)(key:Keyed)(xs:Array Keyed)(b n l0 h0:Nat):StateT SortSt Sem (Option Nat):=do
 let mut l:=l0
 let mut h:=h0
 for _ in [0:n] do
  if l≥h then break
  let mid:=l+(h-l)/2
  let some m ← past left key xs b mid|return none
  if m then l:=mid+1 else h:=mid
 return some h
structure Ask(st:SortSt)(key:Keyed)(xs:Array Keyed)(b n:Nat):Prop where
 k:kindOf st=kind
 x:∀p∈xs.toList,isN p
 y:isN key
 s:∀i j,i<=j->j<n->K xs (b+i)<=K xs (b+j)
 z:b+n<=xs.size
end
section
variable [KN][KL prog w A E s]{left:Bool}{key:Keyed}{b hint:Nat}
theorem Ask.down(h:Ask st key xs b n)(hij:i<=j)(hj:j<n)(hp:pv left key xs b j=true):pv left key xs b i=true:=by
 have:=h.s i j hij hj;unfold pv at hp ⊢;cases left with
 |true=>simp only[if_true,decide_eq_true_eq]at hp ⊢;lia
 |false=>simp only[Bj,if_false,Tc,decide_eq_false_iff_not]at hp ⊢;lia
theorem Ask.up(h:Ask st key xs b n)(hij:i<=j)(hj:j<n)(hp:pv left key xs b i=false):pv left key xs b j=false:=by
 cases hq:pv left key xs b j with
 |false=>rfl
 |true=>rw[h.down hij hj hq]at hp;cases hp
def Cut(left:Bool)(key:Keyed)(xs:Array Keyed)(b n k:Nat):Prop:=k<=n/\(∀i,i<k->pv left key xs b i=true)/\∀i,k<=i->i<n->pv left key xs b i=false
theorem Qg1{l h:Nat}{Q:Option Nat->SortSt->Prop}(a:Ask st key xs b n)(h1:l<=h)(h2:h<=n)(h3:∀i,i<l->pv left key xs b i=true)(h4:∀i,h<=i->i<n->pv left key xs b i=false)
  (hQ:∀k,Cut left key xs b n k->Q (some k) st):wpS (model prog w) A E s (half left key xs b n l h) Q st:=by
 unfold half;refine Ax (Ny (Fl (I:=λx c st'=>st'=st/\∃l h,c=(none,l,h)/\l<=h/\h<=n/\h-l<=n-x/\(∀i,i<l->pv left key xs b i=true)/\∀i,h<=i->i<n->pv left key xs b i=false)
  (Q:=λc st'=>st'=st/\∃k,c=(none,k,k)/\Cut left key xs b n k) ?step ?fin ⟨rfl,l,h,rfl,h1,h2,by lia,h3,h4⟩) ?post)
 case fin=>
  rintro c st' ⟨rfl,l,h,rfl,a1,a2,a3,a4,a5⟩;have:l=h:=by lia
  subst this;exact⟨rfl,l,rfl,a2,a4,a5⟩
 case step=>
  rintro x c st' _ hx ⟨rfl,l,h,rfl,a1,a2,a3,a4,a5⟩;dsimp only;by_cases hge:l≥h
  ·rw[if_pos hge];have:l=h:=by lia
   subst this;exact Bi ⟨rfl,l,rfl,a2,a4,a5⟩
  ·rw [if_neg hge];refine Ax (X5 a.k a.x a.y (by have:=a.z;lia) ?_);dsimp only;cases hp:pv left key xs b (l+(h-l)/2) with
   | true=>
    simp only[if_true];exact Bi ⟨rfl,_,_,rfl,by lia,by lia,by lia,λi hi=>a.down (by lia) (by lia) hp,a5⟩
   | false=>
    simp only[Bj,if_false];exact Bi ⟨rfl,_,_,rfl,by lia,by lia,by lia,a4,λi hi hn=>a.up hi hn hp⟩
 case post=>
  rintro c st' ⟨rfl,k,rfl,hc⟩;exact Bi (hQ k hc)
theorem Vz{Q:Option Nat->SortSt->Prop}(a:Ask st key xs b n)(hh:hint<n)(hQ:∀k,Cut left key xs b n k->Q (some k) st):wpS (model prog w) A E s (leap left key xs b n hint) Q st:=by
 have hz:=a.z;rw[Qtx];dsimp only;refine Ax (X5 a.k a.x a.y (by lia) ?_);dsimp only;cases hr:pv left key xs b hint with
 | true=>
  simp only[if_true];refine Ax (Ny (Fl (I:=λx c st'=>st'=st/\∃la of,c=(none,la,of)/\la<of/\x+1<=of/\hint+la<n/\pv left key xs b (hint+la)=true)
   (Q:=λc st'=>st'=st/\∃la of,c=(none,la,of)/\la<of/\hint+la<n/\pv left key xs b (hint+la)=true/\(n-hint<=of\/pv left key xs b (hint+of)=false)) ?step ?fin ⟨rfl,0,1,rfl,by lia,by lia,by lia,hr⟩) ?post)
  case fin=>
   rintro c st' ⟨rfl,la,of,rfl,a1,a2,a3,a4⟩;exact⟨rfl,la,of,rfl,a1,a3,a4,.inl (by lia)⟩
  case step=>
   rintro x c st' _ hx ⟨rfl,la,of,rfl,a1,a2,a3,a4⟩;dsimp only;by_cases hge:of≥n-hint
   ·rw[if_pos hge];exact Bi ⟨rfl,la,of,rfl,a1,a3,a4,.inl hge⟩
   ·rw [if_neg hge];refine Ax (X5 a.k a.x a.y (by lia) ?_);dsimp only;cases hp:pv left key xs b (hint+of) with
    | true=>
     simp only[N5,Bj,if_false];exact Bi ⟨rfl,_,_,rfl,by lia,by lia,by lia,hp⟩
    | false=>
     simp only[Bool.not_false,if_true];exact Bi ⟨rfl,la,of,rfl,a1,a3,a4,.inr hp⟩
  case post=>
   rintro c st' ⟨rfl,la,of,rfl,a1,a3,a4,a5⟩;refine Qg1 (h:=hint+min of (n-hint)) (l:=hint+la+1) a (by lia) (by lia) (λi hi=>a.down (by lia) a3 a4) (λi hi hn=>?_) hQ;rcases a5 with q|q
   ·lia
   ·exact a.up (by lia) hn q
 | false=>
  simp only[Bj,if_false];refine Ax (Ny (Fl (I:=λx c st'=>st'=st/\∃la of,c=(none,la,of)/\la<of/\x+1<=of/\la<=hint/\pv left key xs b (hint-la)=false)
   (Q:=λc st'=>st'=st/\∃la of,c=(none,la,of)/\la<of/\la<=hint/\pv left key xs b (hint-la)=false/\(hint+1<=of\/(of<=hint/\pv left key xs b (hint-of)=true))) ?step ?fin ⟨rfl,0,1,rfl,by lia,by lia,by lia,hr⟩) ?post)
  case fin=>
   rintro c st' ⟨rfl,la,of,rfl,a1,a2,a3,a4⟩;exact⟨rfl,la,of,rfl,a1,a3,a4,.inl (by lia)⟩
  case step=>
   rintro x c st' _ hx ⟨rfl,la,of,rfl,a1,a2,a3,a4⟩;dsimp only;by_cases hge:of≥hint+1
   ·rw[if_pos hge];exact Bi ⟨rfl,la,of,rfl,a1,a3,a4,.inl hge⟩
   ·rw [if_neg hge];refine Ax (X5 a.k a.x a.y (by lia) ?_);dsimp only;cases hp:pv left key xs b (hint-of) with
    | true=>
     simp only[if_true];exact Bi ⟨rfl,la,of,rfl,a1,a3,a4,.inr ⟨by lia,hp⟩⟩
    | false=>
     simp only[Bj,if_false];exact Bi ⟨rfl,_,_,rfl,by lia,by lia,by lia,hp⟩
  case post=>
   rintro c st' ⟨rfl,la,of,rfl,a1,a3,a4,a5⟩;refine Qg1 (h:=hint-la) (l:=hint+1-min of (hint+1)) a (by lia) (by lia) (λi hi=>?_) (λi hi hn=>a.up hi hn a4) hQ;rcases a5 with q|⟨q1,q2⟩
   ·lia
   ·exact a.down (by lia) (by lia) q2
end
section
variable [KN]
def mLo:Array Keyed->Array Keyed->StateT SortSt Sem (Array Keyed):=sortPriv% PySem.Builtin.mergeLo
def setG:Nat->StateT SortSt Sem Unit:=sortPriv% PySem.Builtin.setMinGallop
theorem Qsm(g:Nat):setG g=modify λs=>SortSt.mk' (kindOf s) (arrOf s) (pendingOf s) g (failedOf s):=rfl
theorem Qwl(x y:Array Keyed):∃u:StateT SortSt Sem (Array Keyed),mLo x y=(do
 rule "list.sort.merge-lo"
 let tot:=x.size+y.size
 let fin (o:Array Keyed) (i j:Nat):=o++x.extract i x.size++y.extract j y.size
 let las (o:Array Keyed) (i j:Nat):=o++y.extract j y.size++x.extract i x.size
 let mut o:Array Keyed:=#[← elem' y 0]
 let mut i:=0
 let mut j:=1
 if j==y.size then return fin o i j
 if i+1==x.size then return las o i j
 let mut g:=gallopOf (← get)
 for _ in [0:tot] do
  let mut ca:=0
  let mut cb:=0
  for _ in [0:tot] do
   let some bw ← lt' (← elem' y j) (← elem' x i)|return fin o i j
   if bw then
    o:=o.push (← elem' y j);j:=j+1;cb:=cb+1;ca:=0
    if j==y.size then return fin o i j
    if cb≥g then break
   else
    o:=o.push (← elem' x i);i:=i+1;ca:=ca+1;cb:=0
    if i+1==x.size then return las o i j
    if ca≥g then break
  rule "list.sort.gallop"
  g:=g+1
  for _ in [0:tot] do
   if g > 1 then g:=g-1
   setG g
   let some k ← leap false (← elem' y j) x i (x.size-i) 0|return fin o i j
   ca:=k
   if k > 0 then
    o:=o++x.extract i (i+k);i:=i+k
    if i+1==x.size then return las o i j
    if i==x.size then return fin o i j
   o:=o.push (← elem' y j);j:=j+1
   if j==y.size then return fin o i j
   let some k ← leap true (← elem' x i) y j (y.size-j) 0|return fin o i j
   cb:=k
   if k > 0 then
    o:=o++y.extract j (j+k);j:=j+k
    if j==y.size then return fin o i j
   o:=o.push (← elem' x i);i:=i+1
   if i+1==x.size then return las o i j
   if ca<7&&cb<7 then break
  g:=g+1
  setG g
 u):=⟨_,rfl⟩
def Inc(l:List Keyed):Prop:=l.Pairwise λp q=>nk p<=nk q
structure Mg(X Y:List Keyed)(i j:Nat)(O:List Keyed):Prop where
 perm:O.Perm (X.take i++Y.take j)
 inc:Inc O
 le:∀p∈O,∀q,(q∈X.drop i\/q∈Y.drop j)->nk p<=nk q
theorem Inc.drop(h:Inc l)(k:Nat):Inc (l.drop k):=Lc (List.drop_sublist _ _) h
theorem Inc.take(h:Inc l)(k:Nat):Inc (l.take k):=Lc (Oj _ _) h
theorem Inc.split(h:Inc l)(k:Nat):∀p∈l.take k,∀q∈l.drop k,nk p<=nk q:=by
 have:Inc (l.take k++l.drop k):=by rw[Dd];exact h
 exact(B6.mp this).2.2
theorem Qio(h:q∈l.drop (i+k)):q∈l.drop i:=by
 rw[← N9]at h;exact Fa h
theorem Mg.stepX(h:Mg X Y i j O)(hX:Inc X)(hc:∀p∈(X.drop i).take k,∀q∈Y.drop j,nk p<=nk q):Mg X Y (i+k) j (O++(X.drop i).take k):=by
 refine⟨?_,?_,λp hp q hq=>?_⟩
 ·rw[List.take_add];refine(h.perm.append_right _).trans ?_;rw[Bm,Bm];exact Fq _ Mc
 ·refine B6.mpr ⟨h.inc,(hX.drop i).take k,λp hp q hq=>h.le p hp q (.inl (D3 hq))⟩
 ·rcases Aj.mp hp with hp|hp
  ·rcases hq with hq|hq
   ·exact h.le p hp q (.inl (Qio hq))
   ·exact h.le p hp q (.inr hq)
  ·rcases hq with hq|hq
   ·rw[← N9]at hq;exact(hX.drop i).split k p hp q hq
   ·exact hc p hp q hq
theorem Mg.stepY(h:Mg X Y i j O)(hY:Inc Y)(hc:∀p∈(Y.drop j).take k,∀q∈X.drop i,nk p<=nk q):Mg X Y i (j+k) (O++(Y.drop j).take k):=by
 refine⟨?_,?_,λp hp q hq=>?_⟩
 ·rw[List.take_add,← Bm];exact h.perm.append_right _
 ·refine B6.mpr ⟨h.inc,(hY.drop j).take k,λp hp q hq=>h.le p hp q (.inr (D3 hq))⟩
 ·rcases Aj.mp hp with hp|hp
  ·rcases hq with hq|hq
   ·exact h.le p hp q (.inl hq)
   ·exact h.le p hp q (.inr (Qio hq))
  ·rcases hq with hq|hq
   ·exact hc p hp q hq
   ·rw[← N9]at hq;exact(hY.drop j).split k p hp q hq
def Out(X Y O:List Keyed):Prop:=O.Perm (X++Y)/\Inc O
theorem Mg.endX(h:Mg X Y i j O)(hX:Inc X)(hj:Y.length<=j):Out X Y (O++X.drop i):=by
 have ht:Y.take j=Y:=Dc hj;refine⟨?_,B6.mpr ⟨h.inc,hX.drop i,λp hp q hq=>h.le p hp q (.inl hq)⟩⟩;have:=h.perm;rw[ht]at this;refine(this.append_right _).trans ?_;have e:X++Y=X.take i++(X.drop i++Y):=by rw[← Bm,Dd]
 rw[Bm,e];exact Fq _ Mc
theorem Mg.endY(h:Mg X Y i j O)(hY:Inc Y)(hi:X.length<=i):Out X Y (O++Y.drop j):=by
 have ht:X.take i=X:=Dc hi;refine⟨?_,B6.mpr ⟨h.inc,hY.drop j,λp hp q hq=>h.le p hp q (.inr hq)⟩⟩;have:=h.perm;rw[ht]at this;refine(this.append_right _).trans ?_;rw[Bm,Dd]
theorem Mg.endL(h:Mg X Y i j O)(hX:Inc X)(hY:Inc Y)(hi:i+1=X.length)(hl:∀p∈X.drop i,∀q∈Y,nk q<=nk p):Out X Y (O++Y.drop j++X.drop i):=by
 refine⟨?_,?_⟩
 ·refine((h.perm.append_right _).append_right _).trans ?_;rw[Bm (X.take i),Dd];have e:X++Y=X.take i++(X.drop i++Y):=by rw[← Bm,Dd]
  rw[Bm,e];exact Fq _ Mc
 ·refine B6.mpr ⟨B6.mpr ⟨h.inc,hY.drop j,λp hp q hq=>h.le p hp q (.inr hq)⟩,hX.drop i,λp hp q hq=>?_⟩;rcases Aj.mp hp with hp|hp
  ·exact h.le p hp q (.inl hq)
  ·exact hl q hq p (Fa hp)
theorem Mg.start:Mg X Y 0 0 []:=⟨by simp,Rn,λp hp=>nomatch hp⟩
theorem Ym(h:i<x.size):(x.toList.drop i).take 1=[x[i]]:=by
 have h':i<x.toList.length:=by simpa using h
 rw[Rq h'];simp
theorem Qij(x:Array Keyed)(i k:Nat):(x.extract i (i+k)).toList=(x.toList.drop i).take k:=by
 simp
theorem Xc(x:Array Keyed)(i:Nat):(x.extract i x.size).toList=x.toList.drop i:=by
 rw[Lo,Ki,Dc];simp
theorem K_nk(h:i<x.size):K x i=nk x[i]:=by
 unfold K;rw[Bg h]
theorem Qbx(h:Inc x.toList)(hij:i<=j)(hj:j<x.size):K x i<=K x j:=by
 rw[K_nk (by lia),K_nk hj];by_cases e:i=j
 ·subst e;exact Mt _
 ·have:=Mz.mp h i j (by simp;lia) (by simpa using hj) (by lia);simpa using this
structure Keep(st st':SortSt):Prop where
 k:kindOf st'=kindOf st
 a:arrOf st'=arrOf st
 p:pendingOf st'=pendingOf st
 f:failedOf st'=failedOf st
theorem Keep.refl(st:SortSt):Keep st st:=⟨rfl,rfl,rfl,rfl⟩
structure Mr(x y:Array Keyed):Prop where
 nx:∀p∈x.toList,isN p
 ny:∀p∈y.toList,isN p
 ix:Inc x.toList
 iy:Inc y.toList
 x0:0<x.size
 y0:0<y.size
 fst:∀p∈y.toList.take 1,∀q∈x.toList,nk p<=nk q
 lst:∀p∈x.toList.drop (x.size-1),∀q∈y.toList,nk q<=nk p
end
section
variable [KN][KL prog w A E s]{y:Array Keyed}
theorem Mr.askX(h:Mr x y)(hk:kindOf st=kind){key:Keyed}(hy:isN key)(hi:i<=x.size):Ask st key x i (x.size-i) :=
 ⟨hk,h.nx,hy,λa b hab hb=>Qbx h.ix (by lia) (by lia),by lia⟩
theorem Mr.askY(h:Mr x y)(hk:kindOf st=kind){key:Keyed}(hy:isN key)(hi:i<=y.size):Ask st key y i (y.size-i) :=
 ⟨hk,h.ny,hy,λa b hab hb=>Qbx h.iy (by lia) (by lia),by lia⟩
theorem Vy{Q:Unit->SortSt->Prop}(h:∀st',Keep st st'->Q () st'):wpS (model prog w) A E s (setG g) Q st:=by
 rw[Qsm];exact S4 (h _ ⟨rfl,rfl,rfl,rfl⟩)
theorem Keep.trans{a b c:SortSt}(h:Keep a b)(k:Keep b c):Keep a c:=⟨k.k.trans h.k,k.a.trans h.a,k.p.trans h.p,k.f.trans h.f⟩
theorem V7(h:q∈x.toList.drop i):∃t,∃(h:i+t<x.size),q=x[i+t]:=by
 obtain⟨t,ht,e⟩:=Dq h;rw[Fb,De]at ht;exact⟨t,by lia,by rw[← e,N2];simp⟩
theorem Qh0(h:q∈(x.toList.drop i).take k):∃t,t<k/\∃(h:i+t<x.size),q=x[i+t]:=by
 obtain⟨t,ht,e⟩:=Dq h;rw[Dh,Fb,De]at ht;exact⟨t,by lia,by lia,by rw[← e,N3,N2];simp⟩
abbrev R1:=Option (Array Keyed)×Array Keyed×Nat×Nat×Nat×Nat
abbrev LoS:=ForInStep (Option (Array Keyed)×Array Keyed×Nat×Nat×Nat×Nat×Nat)
abbrev LoS1:=ForInStep (Option (Array Keyed)×Array Keyed×Nat×Nat×Nat×Nat)
abbrev LoS2:=ForInStep (Option (Array Keyed)×Array Keyed×Nat×Nat×Nat)
end
end Srt
variable {v ca cb tot:Nat}{Q:Srt.LoS->N8->Prop}
namespace Srt
open PySem PyProof.Rows
open KN (nk isN kind)
section
variable [KN][KL prog w A E s]{y:Array Keyed}
noncomputable def loC(x y o:Array Keyed)(i j g ca cb:Nat):StateT SortSt Sem LoS:=do
 let a ← elem' x i
 if i+1+1==x.size then pure (.done (some (o.push a++y.extract j y.size++x.extract (i+1) x.size),o.push a,i+1,j,g,ca,cb))
 else if ca<7&&cb<7 then pure (.done (none,o.push a,i+1,j,g,ca,cb))
 else pure (.yield (none,o.push a,i+1,j,g,ca,cb))
noncomputable def loB(x y o:Array Keyed)(i j g ca cb:Nat):StateT SortSt Sem LoS:=do
 let a ← elem' y j
 if j+1==y.size then pure (.done (some (o.push a++x.extract i x.size++y.extract (j+1) y.size),o.push a,i,j+1,g,ca,cb))
 else do
  let b ← elem' x i
  let z ← leap true b y (j+1) (y.size-(j+1)) 0
  match z with
  | some k=>
   if k > 0 then
    if j+1+k==y.size then pure (.done (some (o.push a++y.extract (j+1) (j+1+k)++x.extract i x.size++y.extract (j+1+k) y.size),o.push a++y.extract (j+1) (j+1+k),i,j+1+k,g,ca,k))
    else loC x y (o.push a++y.extract (j+1) (j+1+k)) i (j+1+k) g ca k
   else loC x y (o.push a) i (j+1) g ca k
  |_=>pure (.done (some (o.push a++x.extract i x.size++y.extract (j+1) y.size),o.push a,i,j+1,g,ca,cb))
noncomputable def loA(x y o:Array Keyed)(i j g ca cb:Nat):StateT SortSt Sem LoS:=do
 let a ← elem' y j
 let z ← leap false a x i (x.size-i) 0
 match z with
 | some k=>
  if k > 0 then
   if i+k+1==x.size then pure (.done (some (o++x.extract i (i+k)++y.extract j y.size++x.extract (i+k) x.size),o++x.extract i (i+k),i+k,j,g,k,cb))
   else if i+k==x.size then pure (.done (some (o++x.extract i (i+k)++x.extract (i+k) x.size++y.extract j y.size),o++x.extract i (i+k),i+k,j,g,k,cb))
   else loB x y (o++x.extract i (i+k)) (i+k) j g k cb
  else loB x y o i j g k cb
 |_=>pure (.done (some (o++x.extract i x.size++y.extract j y.size),o,i,j,g,ca,cb))
noncomputable def lo1(x y:Array Keyed)(g:Nat)(o:Array Keyed)(i j ca cb:Nat):StateT SortSt Sem LoS1:=do
 let a ← elem' y j
 let b ← elem' x i
 let z ← lt' a b
 match z with
 | some bw=>
  if bw then do
   let c ← elem' y j
   if j+1==y.size then pure (.done (some (o.push c++x.extract i x.size++y.extract (j+1) y.size),o.push c,i,j+1,0,cb+1))
   else if cb+1≥g then pure (.done (none,o.push c,i,j+1,0,cb+1))
   else pure (.yield (none,o.push c,i,j+1,0,cb+1))
  else do
   let c ← elem' x i
   if i+1+1==x.size then pure (.done (some (o.push c++y.extract j y.size++x.extract (i+1) x.size),o.push c,i+1,j,ca+1,0))
   else if ca+1≥g then pure (.done (none,o.push c,i+1,j,ca+1,0))
   else pure (.yield (none,o.push c,i+1,j,ca+1,0))
 |_=>pure (.done (some (o++x.extract i x.size++y.extract j y.size),o,i,j,ca,cb))
def lo3(x y o:Array Keyed)(i j g ca cb:Nat):StateT SortSt Sem LoS :=
 if g > 1 then (do setG (g-1);loA x y o i j (g-1) ca cb)else (do setG g;loA x y o i j g ca cb)
noncomputable def lo2b(x y:Array Keyed)(tot:Nat)(o:Array Keyed)(i j g ca cb:Nat):StateT SortSt Sem LoS2:=do
 rule "list.sort.gallop"
 let c ← forIn [:tot] ((none,o,i,j,g+1,ca,cb):Option (Array Keyed)×Array Keyed×Nat×Nat×Nat×Nat×Nat) λ_ c=>lo3 x y c.2.1 c.2.2.1 c.2.2.2.1 c.2.2.2.2.1 c.2.2.2.2.2.1 c.2.2.2.2.2.2
 match c.1 with
 |some r=>pure (.done (some r,c.2.1,c.2.2.1,c.2.2.2.1,c.2.2.2.2.1))
 | none=>do
  setG (c.2.2.2.2.1+1)
  pure (.yield (none,c.2.1,c.2.2.1,c.2.2.2.1,c.2.2.2.2.1+1))
noncomputable def lo2(x y:Array Keyed)(tot:Nat)(o:Array Keyed)(i j g:Nat):StateT SortSt Sem LoS2:=do
 let c ← forIn [:tot] ((none,o,i,j,0,0):Option (Array Keyed)×Array Keyed×Nat×Nat×Nat×Nat) λ_ c=>lo1 x y g c.2.1 c.2.2.1 c.2.2.2.1 c.2.2.2.2.1 c.2.2.2.2.2
 match c.1 with
 |some r=>pure (.done (some r,c.2.1,c.2.2.1,c.2.2.2.1,g))
 |none=>lo2b x y tot c.2.1 c.2.2.1 c.2.2.2.1 g c.2.2.2.2.1 c.2.2.2.2.2
theorem Qwk(x y:Array Keyed):∃u:StateT SortSt Sem (Array Keyed),mLo x y=(do
 rule "list.sort.merge-lo"
 let a ← elem' y 0
 if 1==y.size then pure ((#[a]:Array Keyed)++x.extract 0 x.size++y.extract 1 y.size)
 else if 0+1==x.size then pure ((#[a]:Array Keyed)++y.extract 1 y.size++x.extract 0 x.size)
 else do
  let st ← get
  let c ← forIn [:x.size+y.size] ((none,#[a],0,1,gallopOf st):Option (Array Keyed)×Array Keyed×Nat×Nat×Nat) λ_ c=>lo2 x y (x.size+y.size) c.2.1 c.2.2.1 c.2.2.2.1 c.2.2.2.2
  match c.1 with
  |some r=>pure r
  |none=>u):=by
 obtain⟨u,e⟩:=Qwl x y
 refine⟨u,e.trans ?_⟩
 clear e
 dsimp only[lo2,lo2b,lo3,loA,loB,loC,lo1]
 refine congrArg (bind _) (funext λ_=>?_)
 refine congrArg (bind _) (funext λa=>?_)
 refine congrArg (ite _ _) (congrArg (ite _ _) ?_)
 refine congrArg (bind _) (funext λb=>?_)
 refine congr (congrArg _ ?_) (funext λz=>?_)
 ·refine congrArg _ (funext λ_=>funext λc=>?_)
  refine congr (congrArg _ ?_) (funext λd=>?_)
  ·rfl
  ·match d.1 with
   |some r=>rfl
   | none=>
    refine congrArg (bind _) (funext λ_=>?_)
    refine congr (congrArg _ ?_) (funext λz=>?_)
    ·refine congrArg _ (funext λ_=>funext λc=>?_)
     rfl
    ·match z.1 with
     |some r=>rfl
     |none=>rfl
 ·match z.1 with
  |some r=>rfl
  |none=>rfl
structure LoQ(x y:Array Keyed)(n:Nat)(Q:LoS->Prop):Prop where
 out:∀r c,Out x.toList y.toList r.toList->Q (.done (some r,c))
 brk:∀o i j g ca cb,Mg x.toList y.toList i j o.toList->i+1<x.size->j<y.size->n<=i+j->Q (.done (none,o,i,j,g,ca,cb))
 go:∀o i j g ca cb,Mg x.toList y.toList i j o.toList->i+1<x.size->j<y.size->n<=i+j->Q (.yield (none,o,i,j,g,ca,cb))
theorem Mr.eX(h:Mr x y)(m:Mg x.toList y.toList i j o.toList)(hj:j=y.size):Out x.toList y.toList (o++x.extract i x.size++y.extract j y.size).toList:=by
 have:=m.endX h.ix (by simp;lia);rw[Dr,Dr,Xc,Xc,hj,R7 (l:=y.toList) (by simp),D6];exact this
theorem Mr.eY(h:Mr x y)(m:Mg x.toList y.toList i j o.toList)(hi:i=x.size):Out x.toList y.toList (o++x.extract i x.size++y.extract j y.size).toList:=by
 have:=m.endY h.iy (by simp;lia);rw[Dr,Dr,Xc,Xc,hi,R7 (l:=x.toList) (by simp),D6];exact this
theorem Mr.eL(h:Mr x y)(m:Mg x.toList y.toList i j o.toList)(hi:i+1=x.size):Out x.toList y.toList (o++y.extract j y.size++x.extract i x.size).toList:=by
 have:=m.endL h.ix h.iy (by simpa using hi) (by rw[show i=x.size-1 by lia];exact h.lst);rw[Dr,Dr,Xc,Xc];exact this
theorem Qj1(h:Mr x y)(q:LoQ x y n (Q · st))(n2:i+1<x.size)(n4:j<y.size)(p4:n<=i+j)(m:Mg x.toList y.toList i j o.toList)(cx:∀p∈(x.toList.drop i).take 1,∀q∈y.toList.drop j,nk p<=nk q) :
  wpS (model prog w) A E s (loC x y o i j g ca cb) Q st:=by
 have hi2:i<x.size:=by lia
 refine Ax (Qx (Bg hi2) ?_);have m5:=m.stepX (k:=1) h.ix cx;rw[Ym hi2,← N4]at m5;by_cases q5:i+1+1=x.size
 ·rw[if_pos (by simpa using q5)];exact Bi (q.out _ _ (h.eL m5 q5))
 rw[if_neg (by simpa using q5)];split
 ·exact Bi (q.brk _ _ _ _ _ _ m5 (by lia) n4 (by lia))
 ·exact Bi (q.go _ _ _ _ _ _ m5 (by lia) n4 (by lia))
theorem Qj2(hk:kindOf st=kind)(h:Mr x y)(q:LoQ x y n (Q · st))(n2:i+1<x.size)(b2:j<y.size)(p2:n<=i+j)(mk:Mg x.toList y.toList i j o.toList)(cy:∀p∈(y.toList.drop j).take 1,∀q∈x.toList.drop i,nk p<=nk q) :
  wpS (model prog w) A E s (loB x y o i j g ca cb) Q st:=by
 refine Ax (Qx (Bg b2) ?_);have m3:=mk.stepY (k:=1) h.iy cy;rw[Ym b2,← N4]at m3;by_cases q3:j+1=y.size
 ·rw[if_pos (by simpa using q3)];exact Bi (q.out _ _ (h.eX m3 q3))
 rw[if_neg (by simpa using q3)];have hi2:i<x.size:=by lia
 refine Ax (Qx (Bg hi2) ?_);refine Ax (Vz (h.askY hk (h.nx _ (by simp)) (by lia)) (by lia) λk2 hc2=>?_);dsimp only;obtain⟨d1,d2,d3⟩:=hc2;have m4:Mg x.toList y.toList i (j+1+k2) (o.push y[j]++y.extract (j+1) (j+1+k2)).toList:=by
  have:=m3.stepY (k:=k2) h.iy (λp hp q hq=>by
   obtain⟨t,ht,hts,rfl⟩:=Qh0 hp;obtain⟨v,hv,rfl⟩:=V7 hq;have h1:=d2 t ht;have h2:=Qbx h.ix (show i<=i+v by lia) hv;rw[K_nk hi2,K_nk hv]at h2;unfold pv at h1;simp only[if_true,decide_eq_true_eq]at h1;rw[K_nk hts]at h1;lia)
  rw[Dr,Qij];exact this
 have cx:∀p∈(x.toList.drop i).take 1,∀q∈y.toList.drop (j+1+k2),nk p<=nk q:=λp hp q hq=>by
  rw[Ym hi2]at hp;rw[Ap.mp hp];obtain⟨v,hv,rfl⟩:=V7 hq;have h1:=d3 (k2+v) (by lia) (by lia);unfold pv at h1;simp only[if_true,decide_eq_false_iff_not]at h1;rw[← N6,K_nk hv]at h1;lia
 by_cases k20:k2 > 0
 ·rw[if_pos k20];by_cases q4:j+1+k2=y.size
  ·rw[if_pos (by simpa using q4)];exact Bi (q.out _ _ (h.eX m4 q4))
  rw[if_neg (by simpa using q4)];exact Qj1 h q n2 (by lia) (by lia) m4 cx
 ·rw[if_neg k20];have k00:k2=0:=by lia
  subst k00;rw[Nn]at cx;exact Qj1 h q n2 (by lia) (by lia) m3 cx
theorem Qj3(hk:kindOf st=kind)(h:Mr x y)(q:LoQ x y n (Q · st))(b1:i+1<x.size)(b2:j<y.size)(b3:n<=i+j)(m:Mg x.toList y.toList i j o.toList) :
  wpS (model prog w) A E s (loA x y o i j g ca cb) Q st:=by
 refine Ax (Qx (Bg b2) ?_);refine Ax (Vz (h.askX hk (h.ny _ (by simp)) (by lia)) (by lia) λk hc=>?_);dsimp only;obtain⟨c1,c2,c3⟩:=hc;have mk:Mg x.toList y.toList (i+k) j (o++x.extract i (i+k)).toList:=by
  have:=m.stepX (k:=k) h.ix (λp hp q hq=>by
   obtain⟨t,ht,hts,rfl⟩:=Qh0 hp;obtain⟨v,hv,rfl⟩:=V7 hq;have h1:=c2 t ht;have h2:=Qbx h.iy (show j<=j+v by lia) hv;rw[K_nk b2,K_nk hv]at h2;unfold pv at h1;simp only[Bj,if_false,Tc,decide_eq_false_iff_not]at h1;rw[K_nk hts]at h1;lia)
  rw[Dr,Qij];exact this
 have cy:∀p∈(y.toList.drop j).take 1,∀q∈x.toList.drop (i+k),nk p<=nk q:=λp hp q hq=>by
  rw[Ym b2]at hp;rw[Ap.mp hp];obtain⟨v,hv,rfl⟩:=V7 hq;have h1:=c3 (k+v) (by lia) (by lia);unfold pv at h1;simp only[Bj,if_false,Io,decide_eq_true_eq]at h1;rw[← N6,K_nk hv]at h1;lia
 by_cases k0:k > 0
 ·rw[if_pos k0];by_cases q1:i+k+1=x.size
  ·rw[if_pos (by simpa using q1)];exact Bi (q.out _ _ (h.eL mk q1))
  rw[if_neg (by simpa using q1)];by_cases q2:i+k=x.size
  ·rw[if_pos (by simpa using q2)];exact Bi (q.out _ _ (h.eY mk q2))
  rw[if_neg (by simpa using q2)];exact Qj2 hk h q (by lia) b2 (by lia) mk cy
 ·rw[if_neg k0];have k00:k=0:=by lia
  subst k00;rw[Nn]at cy;exact Qj2 hk h q b1 b2 b3 m cy
theorem Qrx{Q:LoS1->SortSt->Prop}(hk:kindOf st=kind)(h:Mr x y)(m:Mg x.toList y.toList i j o.toList)(b1:i+1<x.size)(b2:j<y.size)(qo:∀r c,Out x.toList y.toList r.toList->Q (.done (some r,c)) st)
  (qn:∀o' i' j' ca cb,Mg x.toList y.toList i' j' o'.toList->i'+1<x.size->j' < y.size->i+j+1<=i'+j'->Q (.done (none,o',i',j',ca,cb)) st/\Q (.yield (none,o',i',j',ca,cb)) st):wpS (model prog w) A E s (lo1 x y g o i j ca cb) Q st:=by
 have hi:i<x.size:=by lia
 refine Ax (Qx (Bg b2) (Ax (Qx (Bg hi) (Ax (Qai hk (h.ny _ (by simp)) (h.nx _ (by simp)) ?_)))));dsimp only;by_cases hw:nk y[j] < nk x[i]
 ·simp only[hw,decide_true,if_true];refine Ax (Qx (Bg b2) ?_);have m2:Mg x.toList y.toList i (j+1) (o.push y[j]).toList:=by
   have:=m.stepY (k:=1) h.iy (λp hp q hq=>by
    rw[Ym b2]at hp;rw[Ap.mp hp];obtain⟨t,ht,rfl⟩:=V7 hq;have:=Qbx h.ix (show i<=i+t by lia) ht;rw[K_nk (by lia),K_nk ht]at this;lia)
   rw[Ym b2]at this;rw[N4];exact this
  by_cases q1:j+1=y.size
  ·rw[if_pos (by simpa using q1)];exact Bi (qo _ _ (h.eX m2 q1))
  ·rw[if_neg (by simpa using q1)];have z:=λca cb=>qn _ _ _ ca cb m2 b1 (by lia) (by lia);split
   ·exact Bi (z _ _).1
   ·exact Bi (z _ _).2
 ·simp only[hw,decide_false,Bj,if_false];refine Ax (Qx (Bg hi) ?_);have m2:Mg x.toList y.toList (i+1) j (o.push x[i]).toList:=by
   have:=m.stepX (k:=1) h.ix (λp hp q hq=>by
    rw[Ym hi]at hp;rw[Ap.mp hp];obtain⟨t,ht,rfl⟩:=V7 hq;have:=Qbx h.iy (show j<=j+t by lia) ht;rw[K_nk (by lia),K_nk ht]at this;lia)
   rw[Ym hi]at this;rw[N4];exact this
  by_cases q1:i+1+1=x.size
  ·rw[if_pos (by simpa using q1)];exact Bi (qo _ _ (h.eL m2 q1))
  ·rw[if_neg (by simpa using q1)];have z:=λca cb=>qn _ _ _ ca cb m2 (by lia) b2 (by lia);split
   ·exact Bi (z _ _).1
   ·exact Bi (z _ _).2
theorem Qn9{Q:LoS2->SortSt->Prop}(hk:kindOf st=kind)(h:Mr x y)(m:Mg x.toList y.toList i j o.toList)(b1:i+1<x.size)(b2:j<y.size)(b3:n<=i+j)(qo:∀r c st',Keep st st'->Out x.toList y.toList r.toList->Q (.done (some r,c)) st')
  (qn:∀o' i' j' g' st',Keep st st'->Mg x.toList y.toList i' j' o'.toList->i'+1<x.size->j' < y.size->n<=i'+j'->Q (.yield (none,o',i',j',g')) st'):wpS (model prog w) A E s (lo2b x y tot o i j g ca cb) Q st:=by
 refine Ax (Ie (Rc ⟨rfl,?_⟩));refine Ax (Ny (Fl (I:=λt3 c st3=>Keep st st3/\∃o i' j' g ca cb,c=(none,o,i',j',g,ca,cb)/\Mg x.toList y.toList i' j' o.toList/\i'+1<x.size/\j' < y.size/\n<=i'+j')
  (Q:=λc st3=>Keep st st3/\((∃r c2,c=(some r,c2)/\Out x.toList y.toList r.toList)\/∃o i' j' g ca cb,c=(none,o,i',j',g,ca,cb)/\Mg x.toList y.toList i' j' o.toList/\i'+1<x.size/\j' < y.size/\n<=i'+j')) ?step2 ?fin2 ⟨Keep.refl st,_,_,_,_,_,_,rfl,m,b1,b2,b3⟩) ?post2)
 case fin2=>
  rintro c st3 ⟨kp3,o,i',j',g,ca,cb,rfl,m,b⟩;exact⟨kp3,.inr ⟨o,i',j',g,ca,cb,rfl,m,b⟩⟩
 case post2=>
  rintro c st3 ⟨kp3,⟨r,c2,rfl,ho⟩|⟨o,i',j',g,ca,cb,rfl,m,b1,b2,b3⟩⟩
  ·exact Bi (qo _ _ _ kp3 ho)
  ·exact Ax (Vy λst4 kp4=>Bi (qn _ _ _ _ _ (kp3.trans kp4) m b1 b2 b3))
 case step2=>
  rintro t3 c st3 _ ht3 ⟨kp3,o,i',j',g,ca,cb,rfl,m,b1,b2,b3⟩;show wpS (model prog w) A E s (lo3 x y o i' j' g ca cb) _ st3;unfold lo3;by_cases hg:g > 1
  ·rw[if_pos hg];exact Ax (Vy λst4 kp4=>Qj3 (n:=n) ((kp3.trans kp4).k.trans hk) h ⟨λr c ho=>⟨kp3.trans kp4,.inl ⟨_,_,rfl,ho⟩⟩,λo i j g ca cb m h1 h2 h3=>⟨kp3.trans kp4,.inr ⟨_,_,_,_,_,_,rfl,m,h1,h2,h3⟩⟩,λo i j g ca cb m h1 h2 h3=>⟨kp3.trans kp4,_,_,_,_,_,_,rfl,m,h1,h2,h3⟩⟩ b1 b2 b3 m)
  ·rw[if_neg hg];exact Ax (Vy λst4 kp4=>Qj3 (n:=n) ((kp3.trans kp4).k.trans hk) h ⟨λr c ho=>⟨kp3.trans kp4,.inl ⟨_,_,rfl,ho⟩⟩,λo i j g ca cb m h1 h2 h3=>⟨kp3.trans kp4,.inr ⟨_,_,_,_,_,_,rfl,m,h1,h2,h3⟩⟩,λo i j g ca cb m h1 h2 h3=>⟨kp3.trans kp4,_,_,_,_,_,_,rfl,m,h1,h2,h3⟩⟩ b1 b2 b3 m)
theorem Qrw{Q:LoS2->SortSt->Prop}(htot:1<=tot)(hk:kindOf st=kind)(h:Mr x y)(m:Mg x.toList y.toList i j o.toList)(a1:i+1<x.size)(a2:j<y.size)(qo:∀r c st',Keep st st'->Out x.toList y.toList r.toList->Q (.done (some r,c)) st')
  (qn:∀o' i' j' g' st',Keep st st'->Mg x.toList y.toList i' j' o'.toList->i'+1<x.size->j' < y.size->i+j+1<=i'+j'->Q (.yield (none,o',i',j',g')) st'):wpS (model prog w) A E s (lo2 x y tot o i j g) Q st:=by
 refine Ax (Ny (Fl (I:=λt2 c st2=>st2=st/\∃o i' j' ca cb,c=(none,o,i',j',ca,cb)/\Mg x.toList y.toList i' j' o.toList/\i'+1<x.size/\j' < y.size/\i+j+t2<=i'+j')
  (Q:=λc st2=>st2=st/\((∃r c2,c=(some r,c2)/\Out x.toList y.toList r.toList)\/∃o i' j' ca cb,c=(none,o,i',j',ca,cb)/\Mg x.toList y.toList i' j' o.toList/\i'+1<x.size/\j' < y.size/\i+j+1<=i'+j')) ?step1 ?fin1 ⟨rfl,_,_,_,_,_,rfl,m,a1,a2,by lia⟩) ?post1)
 case fin1=>
  rintro c st2 ⟨rfl,o,i',j',ca,cb,rfl,m,b1,b2,b3⟩;exact⟨rfl,.inr ⟨o,i',j',ca,cb,rfl,m,b1,b2,by lia⟩⟩
 case step1=>
  rintro t2 c st2 _ ht2 ⟨rfl,o,i',j',ca,cb,rfl,m,b1,b2,b3⟩;show wpS (model prog w) A E s (lo1 x y g o i' j' ca cb) _ _;refine Qrx hk h m b1 b2 (λr c ho=>⟨rfl,.inl ⟨_,_,rfl,ho⟩⟩) λo2 i2 j2 ca cb m2 c1 c2 c3=>⟨⟨rfl,.inr ⟨_,_,_,_,_,rfl,m2,c1,c2,by lia⟩⟩,rfl,_,_,_,_,_,rfl,m2,c1,c2,by lia⟩
 case post1=>
  rintro c st2 ⟨rfl,⟨r,c2,rfl,ho⟩|⟨o,i',j',ca,cb,rfl,m,b1,b2,b3⟩⟩
  ·exact Bi (qo _ _ _ (Keep.refl _) ho)
  ·exact Qn9 hk h m b1 b2 b3 qo qn
theorem Qrt{Q:Array Keyed->SortSt->Prop}(hk:kindOf st=kind)(h:Mr x y)(hQ:∀o st',Keep st st'->Out x.toList y.toList o.toList->Q o st'):wpS (model prog w) A E s (mLo x y) Q st:=by
 obtain ⟨u,e⟩:=Qwk x y;rw[e];refine Ax (Ie (Rc ⟨rfl,?_⟩));have hx0:=h.x0;have hy0:=h.y0;refine Ax (Qx (Bg hy0) ?_);have M1:Mg x.toList y.toList 0 1 [y[0]]:=by
  have:=Mg.start.stepY (X:=x.toList) (k:=1) h.iy (λp hp q hq=>h.fst p hp q hq);rw[Ym hy0]at this;exact this
 by_cases h1:1=y.size
 ·rw[if_pos (by simpa using h1)];exact Bi (hQ _ _ (Keep.refl st) (h.eX M1 h1))
 rw[if_neg (by simpa using h1)];by_cases h2:0+1=x.size
 ·rw[if_pos (by simpa using h2)];exact Bi (hQ _ _ (Keep.refl st) (h.eL M1 h2))
 rw [if_neg (by simpa using h2)];refine Ax (S5 ?_);refine Ax (Ny (Fl (I:=λt c st'=>Keep st st'/\∃o i j g,c=(none,o,i,j,g)/\Mg x.toList y.toList i j o.toList/\i+1<x.size/\j<y.size/\t+1<=i+j)
  (Q:=λc st'=>Keep st st'/\∃r,c.1=some r/\Out x.toList y.toList r.toList) ?step ?fin ⟨Keep.refl st,_,_,_,_,rfl,M1,by lia,by lia,by lia⟩) ?post)
 case fin=>
  rintro c st' ⟨_,o,i,j,g,rfl,_,a1,a2,a3⟩;lia
 case post=>
  rintro⟨c1,c2⟩ st' ⟨kp,r,e,ho⟩;cases e;exact Bi (hQ r st' kp ho)
 case step=>
  rintro t c st' _ ht ⟨kp,o,i,j,g,rfl,m,a1,a2,a3⟩;show wpS (model prog w) A E s (lo2 x y (x.size+y.size) o i j g) _ _;exact Qrw (by lia) (kp.k.trans hk) h m a1 a2 (λr c st2 kp2 ho=>⟨kp.trans kp2,_,rfl,ho⟩) λo2 i2 j2 g2 st2 kp2 m2 c1 c2 c3=>⟨kp.trans kp2,_,_,_,_,rfl,m2,c1,c2,by lia⟩
end
section
variable [KN]
def mHi:Array Keyed->Array Keyed->StateT SortSt Sem (Array Keyed):=sortPriv% PySem.Builtin.mergeHi
theorem Qwn(x y:Array Keyed):∃u:StateT SortSt Sem (Array Keyed),mHi x y=(do
 rule "list.sort.merge-hi"
 let tot:=x.size+y.size
 let fin (o:Array Keyed) (i j:Nat):=x.extract 0 i++y.extract 0 j++o.reverse
 let frs (o:Array Keyed) (i j:Nat):=y.extract 0 j++x.extract 0 i++o.reverse
 let mut i:=x.size-1
 let mut j:=y.size
 let mut o:Array Keyed:=#[← elem' x i]
 if i==0 then return fin o i j
 if j==1 then return frs o i j
 let mut g:=gallopOf (← get)
 for _ in [0:tot] do
  let mut ca:=0
  let mut cb:=0
  for _ in [0:tot] do
   let some aw ← lt' (← elem' y (j-1)) (← elem' x (i-1))|return fin o i j
   if aw then
    i:=i-1;o:=o.push (← elem' x i);ca:=ca+1;cb:=0
    if i==0 then return fin o i j
    if ca≥g then break
   else
    j:=j-1;o:=o.push (← elem' y j);cb:=cb+1;ca:=0
    if j==1 then return frs o i j
    if cb≥g then break
  rule "list.sort.gallop"
  g:=g+1
  for _ in [0:tot] do
   if g > 1 then g:=g-1
   setG g
   let some v ← leap false (← elem' y (j-1)) x 0 i (i-1)|return fin o i j
   let k:=i-v
   ca:=k
   if k > 0 then
    o:=o++(x.extract v i).reverse;i:=v
    if i==0 then return fin o i j
   j:=j-1;o:=o.push (← elem' y j)
   if j==1 then return frs o i j
   let some v ← leap true (← elem' x (i-1)) y 0 j (j-1)|return fin o i j
   let k:=j-v
   cb:=k
   if k > 0 then
    o:=o++(y.extract v j).reverse;j:=v
    if j==1 then return frs o i j
    if j==0 then return fin o i j
   i:=i-1;o:=o.push (← elem' x i)
   if i==0 then return fin o i j
   if ca<7&&cb<7 then break
  g:=g+1
  setG g
 u):=⟨_,rfl⟩
structure Mh(X Y:List Keyed)(i j:Nat)(R:List Keyed):Prop where
 perm:R.Perm (X.drop i++Y.drop j)
 inc:Inc R
 le:∀p,(p∈X.take i\/p∈Y.take j)->∀q∈R,nk p<=nk q
theorem Qip(h:v<=i):X.drop v=(X.take i).drop v++X.drop i:=by
 rw[S6];have:X.drop i=(X.drop v).drop (i-v):=by rw[N9];congr 1;lia
 rw[this,Dd]
theorem Qg7(h:v<=i){p:Keyed}(hp:p∈X.take v):p∈X.take i:=by
 have:X.take v=(X.take i).take v:=by rw[Ld];congr 1;lia
 rw[this]at hp;exact D3 hp
theorem Qg8(hX:Inc X)(h:v<=i):∀p∈X.take v,∀q∈(X.take i).drop v,nk p<=nk q:=λp hp q hq=>by
 have e:X.take v=(X.take i).take v:=by rw[Ld];congr 1;lia
 rw[e]at hp;exact(hX.take i).split v p hp q hq
theorem Mh.stepX(h:Mh X Y i j R)(hX:Inc X)(hv:v<=i)(hc:∀p∈Y.take j,∀q∈(X.take i).drop v,nk p<=nk q):Mh X Y v j ((X.take i).drop v++R):=by
 refine⟨?_,?_,λp hp q hq=>?_⟩
 ·rw[Qip (X:=X) hv,Bm];exact Fq _ h.perm
 ·exact B6.mpr ⟨(hX.take i).drop v,h.inc,λp hp q hq=>h.le p (.inl (Fa hp)) q hq⟩
 ·rcases Aj.mp hq with hq|hq
  ·rcases hp with hp|hp
   ·exact Qg8 hX hv p hp q hq
   ·exact hc p hp q hq
  ·rcases hp with hp|hp
   ·exact h.le p (.inl (Qg7 hv hp)) q hq
   ·exact h.le p (.inr hp) q hq
theorem Mh.stepY(h:Mh X Y i j R)(hY:Inc Y)(hv:v<=j)(hc:∀p∈X.take i,∀q∈(Y.take j).drop v,nk p<=nk q):Mh X Y i v ((Y.take j).drop v++R):=by
 refine⟨?_,?_,λp hp q hq=>?_⟩
 ·rw[Qip (X:=Y) hv];refine(Fq _ h.perm).trans ?_;rw[← Bm,← Bm];exact R8 _ Mc
 ·exact B6.mpr ⟨(hY.take j).drop v,h.inc,λp hp q hq=>h.le p (.inr (Fa hp)) q hq⟩
 ·rcases Aj.mp hq with hq|hq
  ·rcases hp with hp|hp
   ·exact hc p hp q hq
   ·exact Qg8 hY hv p hp q hq
  ·rcases hp with hp|hp
   ·exact h.le p (.inl hp) q hq
   ·exact h.le p (.inr (Qg7 hv hp)) q hq
theorem Mh.end0(h:Mh X Y i j R)(hX:Inc X)(hY:Inc Y)(hc:∀p∈X.take i,∀q∈Y.take j,nk p<=nk q):Out X Y (X.take i++Y.take j++R):=by
 refine⟨?_,B6.mpr ⟨B6.mpr ⟨hX.take i,hY.take j,hc⟩,h.inc,λp hp q hq=>h.le p (Aj.mp hp) q hq⟩⟩;refine(Fq _ h.perm).trans ?_;have e:X++Y=X.take i++X.drop i++(Y.take j++Y.drop j):=by rw[Dd,Dd]
 rw[e,Bm,Bm];refine Fq _ ?_;rw[← Bm,← Bm];exact R8 _ Mc
theorem Mh.end1(h:Mh X Y i j R)(hX:Inc X)(hY:Inc Y)(hc:∀p∈Y.take j,∀q∈X.take i,nk p<=nk q):Out X Y (Y.take j++X.take i++R):=by
 refine⟨?_,B6.mpr ⟨B6.mpr ⟨hY.take j,hX.take i,hc⟩,h.inc,λp hp q hq=>h.le p ((Aj.mp hp).symm) q hq⟩⟩;refine(Fq _ h.perm).trans ?_;have e:X++Y=X.take i++X.drop i++(Y.take j++Y.drop j):=by rw[Dd,Dd]
 rw[e];have e2:Y.take j++X.take i++(X.drop i++Y.drop j)=Y.take j++(X.take i++X.drop i)++Y.drop j:=by simp only[Bm]
 rw[e2,← Bm (X.take i++X.drop i)];exact R8 _ Mc
theorem Gc(h0:0<i)(h:i<=x.size):(x.toList.take i).drop (i-1)=[x[i-1]'(by omega)]:=by
 rw[S6,show i-(i-1)=1 by lia];exact Ym (by lia)
theorem Qp0(x:Array Keyed)(i:Nat):(x.extract 0 i).toList=x.toList.take i:=by simp
theorem Qii(x:Array Keyed)(v i:Nat):(x.extract v i).toList=(x.toList.take i).drop v:=by
 rw[Lo,Ki,S6]
theorem Qmc(h:q∈x.toList.take i):∃t,t<i/\∃(h:t<x.size),q=x[t]:=by
 obtain⟨t,ht,e⟩:=Dq h;rw[Dh,De]at ht;exact⟨t,by lia,by lia,by rw[← e,N3];simp⟩
theorem Qrc(h:q∈(x.toList.take i).drop v):∃t,v<=t/\t<i/\∃(h:t<x.size),q=x[t]:=by
 obtain⟨t,ht,e⟩:=Dq h;rw[Fb,Dh,De]at ht;exact⟨v+t,by lia,by lia,by lia,by rw[← e,N2,N3];simp⟩
end
section
variable [KN][KL prog w A E s]{y:Array Keyed}
theorem Mr.ask0X(h:Mr x y)(hk:kindOf st=kind){key:Keyed}(hy:isN key)(hi:i<=x.size):Ask st key x 0 i :=
 ⟨hk,h.nx,hy,λa b hab hb=>Qbx h.ix (by lia) (by lia),by lia⟩
theorem Mr.ask0Y(h:Mr x y)(hk:kindOf st=kind){key:Keyed}(hy:isN key)(hi:i<=y.size):Ask st key y 0 i :=
 ⟨hk,h.ny,hy,λa b hab hb=>Qbx h.iy (by lia) (by lia),by lia⟩
abbrev HiS:=ForInStep (Option (Array Keyed)×Nat×Nat×Array Keyed×Nat×Nat×Nat)
end
end Srt
variable {Q:Srt.HiS->N8->Prop}
namespace Srt
open PySem PyProof.Rows
open KN (nk isN kind)
section
variable [KN][KL prog w A E s]{y:Array Keyed}
noncomputable def hiC(x y:Array Keyed)(i j:Nat)(o:Array Keyed)(g ca cb:Nat):StateT SortSt Sem HiS:=do
 let a ← elem' x (i-1)
 if i-1==0 then pure (.done (some (x.extract 0 (i-1)++y.extract 0 j++(o.push a).reverse),i-1,j,o.push a,g,ca,cb))
 else if ca<7&&cb<7 then pure (.done (none,i-1,j,o.push a,g,ca,cb))
 else pure (.yield (none,i-1,j,o.push a,g,ca,cb))
noncomputable def hiB(x y:Array Keyed)(i j:Nat)(o:Array Keyed)(g ca cb:Nat):StateT SortSt Sem HiS:=do
 let a ← elem' y (j-1)
 if j-1==1 then pure (.done (some (y.extract 0 (j-1)++x.extract 0 i++(o.push a).reverse),i,j-1,o.push a,g,ca,cb))
 else do
  let b ← elem' x (i-1)
  let z ← leap true b y 0 (j-1) (j-1-1)
  match z with
  | some v=>
   if j-1-v > 0 then
    if v==1 then pure (.done (some (y.extract 0 v++x.extract 0 i++(o.push a++(y.extract v (j-1)).reverse).reverse),i,v,o.push a++(y.extract v (j-1)).reverse,g,ca,j-1-v))
    else if v==0 then pure (.done (some (x.extract 0 i++y.extract 0 v++(o.push a++(y.extract v (j-1)).reverse).reverse),i,v,o.push a++(y.extract v (j-1)).reverse,g,ca,j-1-v))
    else hiC x y i v (o.push a++(y.extract v (j-1)).reverse) g ca (j-1-v)
   else hiC x y i (j-1) (o.push a) g ca (j-1-v)
  |_=>pure (.done (some (x.extract 0 i++y.extract 0 (j-1)++(o.push a).reverse),i,j-1,o.push a,g,ca,cb))
noncomputable def hiA(x y:Array Keyed)(i j:Nat)(o:Array Keyed)(g ca cb:Nat):StateT SortSt Sem HiS:=do
 let a ← elem' y (j-1)
 let z ← leap false a x 0 i (i-1)
 match z with
 | some v=>
  if i-v > 0 then
   if v==0 then pure (.done (some (x.extract 0 v++y.extract 0 j++(o++(x.extract v i).reverse).reverse),v,j,o++(x.extract v i).reverse,g,i-v,cb))
   else hiB x y v j (o++(x.extract v i).reverse) g (i-v) cb
  else hiB x y i j o g (i-v) cb
 |_=>pure (.done (some (x.extract 0 i++y.extract 0 j++o.reverse),i,j,o,g,ca,cb))
structure HiQ(x y:Array Keyed)(n:Nat)(Q:HiS->Prop):Prop where
 out:∀r c,Out x.toList y.toList r.toList->Q (.done (some r,c))
 brk:∀i j o g ca cb,Mh x.toList y.toList i j o.toList.reverse->0<i->1<j->i<=x.size->j<=y.size->i+j+1<=n->Q (.done (none,i,j,o,g,ca,cb))
 go:∀i j o g ca cb,Mh x.toList y.toList i j o.toList.reverse->0<i->1<j->i<=x.size->j<=y.size->i+j+1<=n->Q (.yield (none,i,j,o,g,ca,cb))
theorem Mr.e0(h:Mr x y)(m:Mh x.toList y.toList i j o.toList.reverse)(hi:i=0\/j=0):Out x.toList y.toList (x.extract 0 i++y.extract 0 j++o.reverse).toList:=by
 have:=m.end0 h.ix h.iy (λp hp q hq=>by
  rcases hi with rfl|rfl
  ·cases hp
  ·cases hq)
 rw[Dr,Dr,Qp0,Qp0,Sg];exact this
theorem Mr.e1(h:Mr x y)(m:Mh x.toList y.toList i j o.toList.reverse)(hj:j=1):Out x.toList y.toList (y.extract 0 j++x.extract 0 i++o.reverse).toList:=by
 have:=m.end1 h.ix h.iy (λp hp q hq=>by
  subst hj;exact h.fst p hp q (D3 hq))
 rw[Dr,Dr,Qp0,Qp0,Sg];exact this
theorem Mr.pushX(h:Mr x y)(hi:0<i)(hi2:i<=x.size)(m:Mh x.toList y.toList i j o.toList.reverse)(hc:∀p∈y.toList.take j,nk p<=nk (x[i-1]'(by omega))):Mh x.toList y.toList (i-1) j (o.push (x[i-1]'(by omega))).toList.reverse:=by
 have:=m.stepX h.ix (v:=i-1) (by lia) (λp hp q hq=>by
  rw[Gc hi hi2]at hq;rw[Ap.mp hq];exact hc p hp)
 rw[Gc hi hi2]at this;rw[N4,So];exact this
theorem Mr.pushY(h:Mr x y)(hi:0<j)(hi2:j<=y.size)(m:Mh x.toList y.toList i j o.toList.reverse)(hc:∀p∈x.toList.take i,nk p<=nk (y[j-1]'(by omega))):Mh x.toList y.toList i (j-1) (o.push (y[j-1]'(by omega))).toList.reverse:=by
 have:=m.stepY h.iy (v:=j-1) (by lia) (λp hp q hq=>by
  rw[Gc hi hi2]at hq;rw[Ap.mp hq];exact hc p hp)
 rw[Gc hi hi2]at this;rw[N4,So];exact this
theorem topA(h:Inc x.toList)(hi:0<i)(hi2:i<=x.size):∀p∈x.toList.take i,nk p<=nk (x[i-1]'(by omega)):=λp hp=>by
 obtain⟨t,ht,hts,rfl⟩:=Qmc hp;have:=Qbx h (show t<=i-1 by lia) (by lia);rw[K_nk hts,K_nk (by lia)]at this;exact this
theorem Qj4(h:Mr x y)(q:HiQ x y n (Q · st))(n2:0<i)(n3:i<=x.size)(n4:1<j)(n5:j<=y.size)(p4:i+j+1<=n)(m:Mh x.toList y.toList i j o.toList.reverse)(cx:∀p∈y.toList.take j,nk p<=nk (x[i-1]'(by omega))) :
  wpS (model prog w) A E s (hiC x y i j o g ca cb) Q st:=by
 refine Ax (Qx (Bg (show i-1<x.size by lia)) ?_);have m5:=h.pushX n2 n3 m cx;by_cases q5:i-1=0
 ·rw[if_pos (by simpa using q5)];exact Bi (q.out _ _ (h.e0 m5 (.inl q5)))
 rw[if_neg (by simpa using q5)];split
 ·exact Bi (q.brk _ _ _ _ _ _ m5 (by lia) n4 (by lia) n5 (by lia))
 ·exact Bi (q.go _ _ _ _ _ _ m5 (by lia) n4 (by lia) n5 (by lia))
theorem Qj5(hk:kindOf st=kind)(h:Mr x y)(q:HiQ x y n (Q · st))(n2:0<i)(n3:i<=x.size)(b2:1<j)(b4:j<=y.size)(p2:i+j+1<=n)(mk:Mh x.toList y.toList i j o.toList.reverse)(cy:∀p∈x.toList.take i,nk p<=nk (y[j-1]'(by omega))) :
  wpS (model prog w) A E s (hiB x y i j o g ca cb) Q st:=by
 refine Ax (Qx (Bg (show j-1<y.size by lia)) ?_);have m3:=h.pushY (by lia) b4 mk cy;by_cases q3:j-1=1
 ·rw[if_pos (by simpa using q3)];exact Bi (q.out _ _ (h.e1 m3 q3))
 rw[if_neg (by simpa using q3)];have hi1:i-1<x.size:=by lia
 refine Ax (Qx (Bg hi1) ?_);refine Ax (Vz (h.ask0Y hk (h.nx _ (by simp)) (show j-1<=y.size by lia)) (by lia) λv2 hc2=>?_);dsimp only;obtain⟨d1,d2,d3⟩:=hc2;have m4:Mh x.toList y.toList i v2 (o.push y[j-1]++(y.extract v2 (j-1)).reverse).toList.reverse:=by
  have:=m3.stepY h.iy (v:=v2) d1 (λp hp q hq=>by
   obtain⟨t,ht1,ht2,hts,rfl⟩:=Qrc hq;have h1:=d3 t ht1 ht2;have h2:=topA h.ix n2 n3 p hp;unfold pv at h1;simp only[if_true,decide_eq_false_iff_not,Bk]at h1;rw[K_nk hts]at h1;lia)
  rw[Dr,So,Sg,Lp,Qii];exact this
 have cx:∀p∈y.toList.take v2,nk p<=nk (x[i-1]):=λp hp=>by
  obtain⟨t,ht,hts,rfl⟩:=Qmc hp;have h1:=d2 t ht;unfold pv at h1;simp only[if_true,decide_eq_true_eq,Bk]at h1;rw[K_nk hts]at h1;lia
 by_cases k20:j-1-v2 > 0
 ·rw[if_pos k20];by_cases q4:v2=1
  ·rw[if_pos (by simpa using q4)];exact Bi (q.out _ _ (h.e1 m4 q4))
  rw[if_neg (by simpa using q4)];by_cases q6:v2=0
  ·rw[if_pos (by simpa using q6)];exact Bi (q.out _ _ (h.e0 m4 (.inr q6)))
  rw[if_neg (by simpa using q6)];exact Qj4 h q n2 n3 (by lia) (by lia) (by lia) m4 cx
 ·rw[if_neg k20];have k00:v2=j-1:=by lia
  subst k00;exact Qj4 h q n2 n3 (by lia) (by lia) (by lia) m3 cx
theorem Qj6(hk:kindOf st=kind)(h:Mr x y)(q:HiQ x y n (Q · st))(b1:0<i)(b2:1<j)(b3:i<=x.size)(b4:j<=y.size)(b5:i+j+1<=n)(m:Mh x.toList y.toList i j o.toList.reverse) :
  wpS (model prog w) A E s (hiA x y i j o g ca cb) Q st:=by
 refine Ax (Qx (Bg (show j-1<y.size by lia)) ?_);refine Ax (Vz (h.ask0X hk (h.ny _ (by simp)) b3) (by lia) λv hc=>?_);dsimp only;obtain⟨c1,c2,c3⟩:=hc;have mk:Mh x.toList y.toList v j (o++(x.extract v i).reverse).toList.reverse:=by
  have:=m.stepX h.ix (v:=v) c1 (λp hp q hq=>by
   obtain⟨t,ht1,ht2,hts,rfl⟩:=Qrc hq;have h1:=c3 t ht1 ht2;have h2:=topA h.iy (by lia) b4 p hp;unfold pv at h1;simp only[Bj,if_false,Io,decide_eq_true_eq,Bk]at h1;rw[K_nk hts]at h1;lia)
  rw[Dr,So,Sg,Lp,Qii];exact this
 have cy:∀p∈x.toList.take v,nk p<=nk (y[j-1]):=λp hp=>by
  obtain⟨t,ht,hts,rfl⟩:=Qmc hp;have h1:=c2 t ht;unfold pv at h1;simp only[Bj,if_false,Tc,decide_eq_false_iff_not,Bk]at h1;rw[K_nk hts]at h1;lia
 by_cases k0:i-v > 0
 ·rw[if_pos k0];by_cases q1:v=0
  ·rw[if_pos (by simpa using q1)];exact Bi (q.out _ _ (h.e0 mk (.inl q1)))
  rw[if_neg (by simpa using q1)];exact Qj5 hk h q (by lia) (by lia) b2 b4 (by lia) mk cy
 ·rw[if_neg k0];have k00:v=i:=by lia
  subst k00;exact Qj5 hk h q b1 b3 b2 b4 b5 m cy
abbrev HiS1:=ForInStep (Option (Array Keyed)×Nat×Nat×Array Keyed×Nat×Nat)
abbrev HiS2:=ForInStep (Option (Array Keyed)×Nat×Nat×Array Keyed×Nat)
end
end Srt
variable {a:Array Nt}{Q:Bool->N8->Prop}{lo pw nrem:Nat}{C:List Nt}{B:Nat->Int}{S:Dj->Prop}{st0:N8}{T':String}
namespace Srt
open PySem PyProof.Rows
open KN (nk isN kind)
section
variable [KN][KL prog w A E s]{y:Array Keyed}
noncomputable def hi1(x y:Array Keyed)(g i j:Nat)(o:Array Keyed)(ca cb:Nat):StateT SortSt Sem HiS1:=do
 let a ← elem' y (j-1)
 let b ← elem' x (i-1)
 let z ← lt' a b
 match z with
 | some aw=>
  if aw then do
   let c ← elem' x (i-1)
   if i-1==0 then pure (.done (some (x.extract 0 (i-1)++y.extract 0 j++(o.push c).reverse),i-1,j,o.push c,ca+1,0))
   else if ca+1≥g then pure (.done (none,i-1,j,o.push c,ca+1,0))
   else pure (.yield (none,i-1,j,o.push c,ca+1,0))
  else do
   let c ← elem' y (j-1)
   if j-1==1 then pure (.done (some (y.extract 0 (j-1)++x.extract 0 i++(o.push c).reverse),i,j-1,o.push c,0,cb+1))
   else if cb+1≥g then pure (.done (none,i,j-1,o.push c,0,cb+1))
   else pure (.yield (none,i,j-1,o.push c,0,cb+1))
 |_=>pure (.done (some (x.extract 0 i++y.extract 0 j++o.reverse),i,j,o,ca,cb))
def hi3(x y:Array Keyed)(i j:Nat)(o:Array Keyed)(g ca cb:Nat):StateT SortSt Sem HiS :=
 if g > 1 then (do setG (g-1);hiA x y i j o (g-1) ca cb)else (do setG g;hiA x y i j o g ca cb)
noncomputable def hi2b(x y:Array Keyed)(tot i j:Nat)(o:Array Keyed)(g ca cb:Nat):StateT SortSt Sem HiS2:=do
 rule "list.sort.gallop"
 let c ← forIn [:tot] ((none,i,j,o,g+1,ca,cb):Option (Array Keyed)×Nat×Nat×Array Keyed×Nat×Nat×Nat) λ_ c=>hi3 x y c.2.1 c.2.2.1 c.2.2.2.1 c.2.2.2.2.1 c.2.2.2.2.2.1 c.2.2.2.2.2.2
 match c.1 with
 |some r=>pure (.done (some r,c.2.1,c.2.2.1,c.2.2.2.1,c.2.2.2.2.1))
 | none=>do
  setG (c.2.2.2.2.1+1)
  pure (.yield (none,c.2.1,c.2.2.1,c.2.2.2.1,c.2.2.2.2.1+1))
noncomputable def hi2(x y:Array Keyed)(tot i j:Nat)(o:Array Keyed)(g:Nat):StateT SortSt Sem HiS2:=do
 let c ← forIn [:tot] ((none,i,j,o,0,0):Option (Array Keyed)×Nat×Nat×Array Keyed×Nat×Nat) λ_ c=>hi1 x y g c.2.1 c.2.2.1 c.2.2.2.1 c.2.2.2.2.1 c.2.2.2.2.2
 match c.1 with
 |some r=>pure (.done (some r,c.2.1,c.2.2.1,c.2.2.2.1,g))
 |none=>hi2b x y tot c.2.1 c.2.2.1 c.2.2.2.1 g c.2.2.2.2.1 c.2.2.2.2.2
theorem Qwm(x y:Array Keyed):∃u:StateT SortSt Sem (Array Keyed),mHi x y=(do
 rule "list.sort.merge-hi"
 let a ← elem' x (x.size-1)
 if x.size-1==0 then pure (x.extract 0 (x.size-1)++y.extract 0 y.size++(#[a]:Array Keyed).reverse)
 else if y.size==1 then pure (y.extract 0 y.size++x.extract 0 (x.size-1)++(#[a]:Array Keyed).reverse)
 else do
  let st ← get
  let c ← forIn [:x.size+y.size] ((none,x.size-1,y.size,#[a],gallopOf st):Option (Array Keyed)×Nat×Nat×Array Keyed×Nat) λ_ c=>hi2 x y (x.size+y.size) c.2.1 c.2.2.1 c.2.2.2.1 c.2.2.2.2
  match c.1 with
  |some r=>pure r
  |none=>u):=by
 obtain⟨u,e⟩:=Qwn x y
 refine⟨u,e.trans ?_⟩
 clear e
 dsimp only[hi2,hi2b,hi3,hiA,hiB,hiC,hi1]
 refine congrArg (bind _) (funext λ_=>?_)
 refine congrArg (bind _) (funext λa=>?_)
 refine congrArg (ite _ _) (congrArg (ite _ _) ?_)
 refine congrArg (bind _) (funext λb=>?_)
 refine congr (congrArg _ ?_) (funext λz=>?_)
 ·refine congrArg _ (funext λ_=>funext λc=>?_)
  refine congr (congrArg _ ?_) (funext λd=>?_)
  ·rfl
  ·match d.1 with
   |some r=>rfl
   | none=>
    refine congrArg (bind _) (funext λ_=>?_)
    refine congr (congrArg _ ?_) (funext λz=>?_)
    ·refine congrArg _ (funext λ_=>funext λc=>?_)
     rfl
    ·match z.1 with
     |some r=>rfl
     |none=>rfl
 ·match z.1 with
  |some r=>rfl
  |none=>rfl
theorem Qrz{Q:HiS1->SortSt->Prop}(hk:kindOf st=kind)(h:Mr x y)(m:Mh x.toList y.toList i j o.toList.reverse)(b1:0<i)(b2:1<j)(b3:i<=x.size)(b4:j<=y.size)(qo:∀r c,Out x.toList y.toList r.toList->Q (.done (some r,c)) st)
  (qn:∀i' j' o' ca cb,Mh x.toList y.toList i' j' o'.toList.reverse->0<i'->1<j'->i'<=x.size->j'<=y.size->i'+j'+1<=i+j->Q (.done (none,i',j',o',ca,cb)) st/\Q (.yield (none,i',j',o',ca,cb)) st):wpS (model prog w) A E s (hi1 x y g i j o ca cb) Q st:=by
 have hj1:j-1<y.size:=by lia
 have hi1:i-1<x.size:=by lia
 refine Ax (Qx (Bg hj1) (Ax (Qx (Bg hi1) (Ax (Qai hk (h.ny _ (by simp)) (h.nx _ (by simp)) ?_)))));dsimp only;by_cases hw:nk y[j-1] < nk x[i-1]
 ·simp only[hw,decide_true,if_true];refine Ax (Qx (Bg hi1) ?_);have m2:=h.pushX b1 b3 m (λp hp=>by have:=topA h.iy (by lia) b4 p hp;lia);by_cases q1:i-1=0
  ·rw[if_pos (by simpa using q1)];exact Bi (qo _ _ (h.e0 m2 (.inl q1)))
  ·rw[if_neg (by simpa using q1)];have z:=λca cb=>qn _ _ _ ca cb m2 (by lia) b2 (by lia) b4 (by lia);split
   ·exact Bi (z _ _).1
   ·exact Bi (z _ _).2
 ·simp only[hw,decide_false,Bj,if_false];refine Ax (Qx (Bg hj1) ?_);have m2:=h.pushY (by lia) b4 m (λp hp=>by have:=topA h.ix b1 b3 p hp;lia);by_cases q1:j-1=1
  ·rw[if_pos (by simpa using q1)];exact Bi (qo _ _ (h.e1 m2 q1))
  ·rw[if_neg (by simpa using q1)];have z:=λca cb=>qn _ _ _ ca cb m2 b1 (by lia) b3 (by lia) (by lia);split
   ·exact Bi (z _ _).1
   ·exact Bi (z _ _).2
theorem Qoa{Q:HiS2->SortSt->Prop}(hk:kindOf st=kind)(h:Mr x y)(m:Mh x.toList y.toList i j o.toList.reverse)(b1:0<i)(b2:1<j)(b3:i<=x.size)(b4:j<=y.size)(b5:i+j+1<=n)(qo:∀r c st',Keep st st'->Out x.toList y.toList r.toList->Q (.done (some r,c)) st')
  (qn:∀i' j' o' g' st',Keep st st'->Mh x.toList y.toList i' j' o'.toList.reverse->0<i'->1<j'->i'<=x.size->j'<=y.size->i'+j'+1<=n->Q (.yield (none,i',j',o',g')) st'):wpS (model prog w) A E s (hi2b x y tot i j o g ca cb) Q st:=by
 refine Ax (Ie (Rc ⟨rfl,?_⟩));refine Ax (Ny (Fl (I:=λt3 c st3=>Keep st st3/\∃i' j' o g ca cb,c=(none,i',j',o,g,ca,cb)/\Mh x.toList y.toList i' j' o.toList.reverse/\0<i'/\1<j'/\i'<=x.size/\j'<=y.size/\i'+j'+1<=n)
  (Q:=λc st3=>Keep st st3/\((∃r c2,c=(some r,c2)/\Out x.toList y.toList r.toList)\/∃i' j' o g ca cb,c=(none,i',j',o,g,ca,cb)/\Mh x.toList y.toList i' j' o.toList.reverse/\0<i'/\1<j'/\i'<=x.size/\j'<=y.size/\i'+j'+1<=n)) ?step2 ?fin2 ⟨Keep.refl st,_,_,_,_,_,_,rfl,m,b1,b2,b3,b4,b5⟩) ?post2)
 case fin2=>
  rintro c st3 ⟨kp3,i',j',o,g,ca,cb,rfl,m,b⟩;exact⟨kp3,.inr ⟨i',j',o,g,ca,cb,rfl,m,b⟩⟩
 case post2=>
  rintro c st3 ⟨kp3,⟨r,c2,rfl,ho⟩|⟨i',j',o,g,ca,cb,rfl,m,b1,b2,b3,b4,b5⟩⟩
  ·exact Bi (qo _ _ _ kp3 ho)
  ·exact Ax (Vy λst4 kp4=>Bi (qn _ _ _ _ _ (kp3.trans kp4) m b1 b2 b3 b4 b5))
 case step2=>
  rintro t3 c st3 _ ht3 ⟨kp3,i',j',o,g,ca,cb,rfl,m,b1,b2,b3,b4,b5⟩;show wpS (model prog w) A E s (hi3 x y i' j' o g ca cb) _ st3;unfold hi3;by_cases hg:g > 1
  ·rw[if_pos hg];exact Ax (Vy λst4 kp4=>Qj6 (n:=n) ((kp3.trans kp4).k.trans hk) h ⟨λr c ho=>⟨kp3.trans kp4,.inl ⟨_,_,rfl,ho⟩⟩,λi j o g ca cb m h1 h2 h3 h4 h5=>⟨kp3.trans kp4,.inr ⟨_,_,_,_,_,_,rfl,m,h1,h2,h3,h4,h5⟩⟩,λi j o g ca cb m h1 h2 h3 h4 h5=>⟨kp3.trans kp4,_,_,_,_,_,_,rfl,m,h1,h2,h3,h4,h5⟩⟩ b1 b2 b3 b4 b5 m)
  ·rw[if_neg hg];exact Ax (Vy λst4 kp4=>Qj6 (n:=n) ((kp3.trans kp4).k.trans hk) h ⟨λr c ho=>⟨kp3.trans kp4,.inl ⟨_,_,rfl,ho⟩⟩,λi j o g ca cb m h1 h2 h3 h4 h5=>⟨kp3.trans kp4,.inr ⟨_,_,_,_,_,_,rfl,m,h1,h2,h3,h4,h5⟩⟩,λi j o g ca cb m h1 h2 h3 h4 h5=>⟨kp3.trans kp4,_,_,_,_,_,_,rfl,m,h1,h2,h3,h4,h5⟩⟩ b1 b2 b3 b4 b5 m)
theorem Qry{Q:HiS2->SortSt->Prop}(htot:1<=tot)(hk:kindOf st=kind)(h:Mr x y)(m:Mh x.toList y.toList i j o.toList.reverse)(a1:0<i)(a2:1<j)(a3:i<=x.size)(a4:j<=y.size)(qo:∀r c st',Keep st st'->Out x.toList y.toList r.toList->Q (.done (some r,c)) st')
  (qn:∀i' j' o' g' st',Keep st st'->Mh x.toList y.toList i' j' o'.toList.reverse->0<i'->1<j'->i'<=x.size->j'<=y.size->i'+j'+1<=i+j->Q (.yield (none,i',j',o',g')) st'):wpS (model prog w) A E s (hi2 x y tot i j o g) Q st:=by
 refine Ax (Ny (Fl (I:=λt2 c st2=>st2=st/\∃i' j' o ca cb,c=(none,i',j',o,ca,cb)/\Mh x.toList y.toList i' j' o.toList.reverse/\0<i'/\1<j'/\i'<=x.size/\j'<=y.size/\i'+j'+t2<=i+j)
  (Q:=λc st2=>st2=st/\((∃r c2,c=(some r,c2)/\Out x.toList y.toList r.toList)\/∃i' j' o ca cb,c=(none,i',j',o,ca,cb)/\Mh x.toList y.toList i' j' o.toList.reverse/\0<i'/\1<j'/\i'<=x.size/\j'<=y.size/\i'+j'+1<=i+j)) ?step1 ?fin1 ⟨rfl,_,_,_,_,_,rfl,m,a1,a2,a3,a4,by lia⟩) ?post1)
 case fin1=>
  rintro c st2 ⟨rfl,i',j',o,ca,cb,rfl,m,b1,b2,b3,b4,b5⟩;exact⟨rfl,.inr ⟨i',j',o,ca,cb,rfl,m,b1,b2,b3,b4,by lia⟩⟩
 case step1=>
  rintro t2 c st2 _ ht2 ⟨rfl,i',j',o,ca,cb,rfl,m,b1,b2,b3,b4,b5⟩;show wpS (model prog w) A E s (hi1 x y g i' j' o ca cb) _ _;refine Qrz hk h m b1 b2 b3 b4 (λr c ho=>⟨rfl,.inl ⟨_,_,rfl,ho⟩⟩) λi2 j2 o2 ca cb m2 c1 c2 c3 c4 c5=>⟨⟨rfl,.inr ⟨_,_,_,_,_,rfl,m2,c1,c2,c3,c4,by lia⟩⟩,rfl,_,_,_,_,_,rfl,m2,c1,c2,c3,c4,by lia⟩
 case post1=>
  rintro c st2 ⟨rfl,⟨r,c2,rfl,ho⟩|⟨i',j',o,ca,cb,rfl,m,b1,b2,b3,b4,b5⟩⟩
  ·exact Bi (qo _ _ _ (Keep.refl _) ho)
  ·exact Qoa hk h m b1 b2 b3 b4 b5 qo qn
theorem Qru{Q:Array Keyed->SortSt->Prop}(hk:kindOf st=kind)(h:Mr x y)(hQ:∀o st',Keep st st'->Out x.toList y.toList o.toList->Q o st'):wpS (model prog w) A E s (mHi x y) Q st:=by
 obtain ⟨u,e⟩:=Qwm x y;rw[e];refine Ax (Ie (Rc ⟨rfl,?_⟩));have hx0:=h.x0;have hy0:=h.y0;refine Ax (Qx (Bg (show x.size-1<x.size by lia)) ?_);have M1:Mh x.toList y.toList (x.size-1) y.size (#[x[x.size-1]]:Array Keyed).toList.reverse:=by
  have m0:Mh x.toList y.toList x.size y.size []:=⟨by simp,Rn,λ_ _ _ hq=>nomatch hq⟩
  have:=m0.stepX h.ix (v:=x.size-1) (by lia) (λp hp q hq=>h.lst q (by
   have e:x.toList.take x.size=x.toList:=Dc (by simp);rw[e]at hq;exact hq) p (D3 hp))
  rw[Gc hx0 (At _)]at this;exact this
 by_cases h1:x.size-1=0
 ·rw[if_pos (by simpa using h1)];exact Bi (hQ _ _ (Keep.refl st) (h.e0 M1 (.inl h1)))
 rw[if_neg (by simpa using h1)];by_cases h2:y.size=1
 ·rw[if_pos (by simpa using h2)];exact Bi (hQ _ _ (Keep.refl st) (h.e1 M1 h2))
 rw [if_neg (by simpa using h2)];refine Ax (S5 ?_);refine Ax (Ny (Fl (I:=λt c st'=>Keep st st'/\∃i j o g,c=(none,i,j,o,g)/\Mh x.toList y.toList i j o.toList.reverse/\0<i/\1<j/\i<=x.size/\j<=y.size/\i+j+t+1<=x.size+y.size)
  (Q:=λc st'=>Keep st st'/\∃r,c.1=some r/\Out x.toList y.toList r.toList) ?step ?fin ⟨Keep.refl st,_,_,_,_,rfl,M1,by lia,by lia,by lia,by lia,by lia⟩) ?post)
 case fin=>
  rintro c st' ⟨_,i,j,o,g,rfl,_,a1,a2,a3,a4,a5⟩;lia
 case post=>
  rintro⟨c1,c2⟩ st' ⟨kp,r,e,ho⟩;cases e;exact Bi (hQ r st' kp ho)
 case step=>
  rintro t c st' _ ht ⟨kp,i,j,o,g,rfl,m,a1,a2,a3,a4,a5⟩;show wpS (model prog w) A E s (hi2 x y (x.size+y.size) i j o g) _ _;exact Qry (by lia) (kp.k.trans hk) h m a1 a2 a3 a4 (λr c st2 kp2 ho=>⟨kp.trans kp2,_,rfl,ho⟩) λi2 j2 o2 g2 st2 kp2 m2 c1 c2 c3 c4 c5=>⟨kp.trans kp2,_,_,_,_,rfl,m2,c1,c2,c3,c4,by lia⟩
end
section
variable [KN]
theorem Qwo(i:Nat):∃u:StateT SortSt Sem Bool,mergeAt' i=(do
 let s ← get
 let (some (sa,na,pw),some (sb,nb,_)):=((pendingOf s)[i]?,(pendingOf s)[i+1]?)|u
 set (setPending s (((pendingOf s).setIfInBounds i (sa,na+nb,pw)).eraseIdxIfInBounds (i+1)))
 let some k ← leap false (← elem' (arrOf s) sb) (arrOf s) sa na 0|return false
 let (sa,na):=(sa+k,na-k)
 if na==0 then return true
 let some nb ← leap true (← elem' (arrOf s) (sa+na-1)) (arrOf s) sb nb (nb-1)|return false
 if nb==0 then return true
 let x:=(arrOf s).extract sa sb
 let y:=(arrOf s).extract sb (sb+nb)
 let o ← if na<=nb then mLo x y else mHi x y
 modify λs=>setArr s (o.toList.zipIdx.foldl (λa (p,j)=>a.setIfInBounds (sa+j) p) (arrOf s))
 return (failedOf (← get)).isNone):=⟨_,rfl⟩
theorem Qia:∀(o:List Keyed)(a:Array Keyed)(sa c:Nat),sa+c+o.length<=a.size->((o.zipIdx c).foldl (λa (p,j)=>a.setIfInBounds (sa+j) p) a).toList=a.toList.take (sa+c)++o++a.toList.drop (sa+c+o.length)
 | [],a,sa,c,h=>by simp
 | p::o,a,sa,c,h=>by
  rw[List.zipIdx_cons,List.foldl_cons];simp only[Am]at h;have ih:=Qia o (a.setIfInBounds (sa+c) p) sa (c+1) (by rw[Array.size_setIfInBounds];lia);rw[ih,Iz,← N6];have h1:sa+c<a.toList.length:=by simp;(clear ih;lia)
  have e1:(a.toList.set (sa+c) p).take (sa+c+1)=a.toList.take (sa+c)++[p]:=by
   rw[Mu,List.take_set_of_le (At _),Nk h1];rfl
  have e2:(a.toList.set (sa+c) p).drop (sa+c+1+o.length)=a.toList.drop (sa+c+(o.length+1)):=by
   rw[List.drop_set_of_lt (by(clear e1 h1 ih h;lia))];congr 1;(clear e1 h1 ih h;lia)
  rw[e1,e2,Am];simp
end
section
variable [KN][KL prog w A E s]
structure Ok(st:SortSt):Prop where
 k:kindOf st=kind
 n:∀p∈(arrOf st).toList,isN p
 f:failedOf st=none
theorem Qrr{st1:SortSt}{Q:PUnit->SortSt->Prop}(h:Q ⟨⟩ st1):wpS (model prog w) A E s (set st1:StateT SortSt Sem PUnit) Q st:=by
 unfold wpS;rw[StateT.run_set];exact As ⟨rfl,h⟩
theorem seg{P T:List Keyed}(hl:a.toList=P++C++T){t:Nat}(ht:t<C.length):a[P.length+t]? = some C[t]:=by
 rw[← Fm,hl,Bm,Dt (by(clear ht hl;lia)),Dg (by(clear hl;lia))];rw[show P.length+t-P.length=t by(clear ht hl;lia),Bo ht]
theorem Qu0{P T:List Keyed}(hl:a.toList=P++C++T){t:Nat}(ht:t<C.length):K a (P.length+t)=nk C[t]:=by
 unfold K;rw[seg hl ht]
theorem Qdn(h:Inc C)(hij:i<=j)(hj:j<C.length):nk (C[i]'(by(clear h;omega)))<=nk C[j]:=by
 by_cases e:i=j
 ·subst e;exact Mt _
 ·exact Mz.mp h i j (by(clear e h;lia)) hj (by(clear hj h;lia))
theorem Qrv{pw':Nat}{P B S:List Keyed}(ok:Ok st)(hp:(pendingOf st)[i]? = some (P.length,C.length,pw))(hq:(pendingOf st)[i+1]? = some (P.length+C.length,B.length,pw'))
  (hl:(arrOf st).toList=P++C++B++S) (c0:0<C.length) (b0:0<B.length) (iC:Inc C) (iB:Inc B)
  (hQ:∀st' R,Ok st'->pendingOf st'=((pendingOf st).setIfInBounds i (P.length,C.length+B.length,pw)).eraseIdxIfInBounds (i+1)->(arrOf st').toList=P++R++S->R.Perm (C++B)->Inc R->Q true st'):wpS (model prog w) A E s (mergeAt' i) Q st:=by
 obtain⟨u,e⟩:=Qwo i
 rw[e]
 refine Ax (S5 ?_)
 rw[hp,hq]
 dsimp only
 refine Ax (Qrr ?_)
 have hlC:(arrOf st).toList=P++C++(B++S):=by rw[hl];simp
 have hlB:(arrOf st).toList=(P++C)++B++S:=hl
 have lPC:(P++C).length=P.length+C.length:=Bx
 have hsz:(arrOf st).size=P.length+C.length+B.length+S.length:=by
  rw[← De,hl];simp;(clear lPC hlB hlC e hQ iB iC b0 c0 hl hq hp ok;lia)
 have kC:∀{t:Nat}(h:t<C.length),K (arrOf st) (P.length+t)=nk C[t]:=λh=>Qu0 hlC h
 have kB:∀{t:Nat}(h:t<B.length),K (arrOf st) (P.length+C.length+t)=nk B[t]:=λ{t} h=>by rw[← lPC];exact Qu0 hlB h
 have eB:(arrOf st)[P.length+C.length]? = some B[0]:=by
  have:=seg hlB b0
  rw[lPC,Nn]at this;exact this
 have nC:∀p∈C,isN p:=λp hp=>ok.n p (by rw[hl];simp[hp])
 have nB:∀p∈B,isN p:=λp hp=>ok.n p (by rw[hl];simp[hp])
 have ok1:Ok (setPending st (((pendingOf st).setIfInBounds i (P.length,C.length+B.length,pw)).eraseIdxIfInBounds (i+1))):=⟨ok.k,ok.n,ok.f⟩
 refine Ax (Qx eB ?_)
 refine Ax (Vz (⟨ok1.k,ok.n,nB _ (Sh _),λa b hab hb=>by rw[kC (by lia),kC hb];exact Qdn iC hab hb,by(clear ok1 nB nC eB kB kC lPC hlB hlC e hQ iB iC c0 hl hq hp ok;lia)⟩:Ask _ B[0] (arrOf st) P.length C.length) c0 λk hc=>?_)
 obtain⟨k1,k2,k3⟩:=hc
 dsimp only
 have lowC:∀p∈C.take k,∀q∈B,nk p<=nk q:=λp hp q hq=>by
  obtain⟨t,ht,e⟩:=Dq hp
  rw[Dh]at ht
  rw[N3]at e
  obtain⟨v,hv,e2⟩:=Dq hq
  have h1:=k2 t (by lia)
  have h2:=Qdn iB (Dx v) hv
  unfold pv at h1
  simp only[Bj,if_false,Tc,decide_eq_false_iff_not]at h1
  rw[kC (by lia),e]at h1
  rw[e2]at h2
  (clear e2 e ht hq hp k3 k2 k1 ok1 nB nC eB kB kC hsz lPC hlB hlC hQ iB iC c0 hl ok;lia)
 have hiC:∀p∈C.drop k,nk B[0]<=nk p:=λp hp=>by
  obtain⟨t,ht,e⟩:=Dq hp
  rw[Fb]at ht
  rw[N2]at e
  have h1:=k3 (k+t) (by lia) (by lia)
  unfold pv at h1
  simp only[Bj,if_false,Io,decide_eq_true_eq]at h1
  rw[kC (by lia),e]at h1
  (clear e ht hp lowC k3 k2 k1 ok1 nB nC eB kB kC hsz lPC hlB hlC hQ iB iC c0 hl hq ok;lia)
 have whole:(∀p∈C,∀q∈B,nk p<=nk q)->∀st',Ok st'->pendingOf st'=((pendingOf st).setIfInBounds i (P.length,C.length+B.length,pw)).eraseIdxIfInBounds (i+1)->arrOf st'=arrOf st->Q true st':=λhc st' o1 o2 o3=>
  hQ st' (C++B) o1 o2 (by rw[o3,hl];simp) (List.Perm.refl _) (B6.mpr ⟨iC,iB,hc⟩)
 by_cases q1:C.length-k=0
 ·rw[if_pos (by simpa using q1)]
  refine Bi (whole ?_ _ ok1 rfl rfl)
  have:C.take k=C:=Dc (by lia)
  rw[this]at lowC
  exact lowC
 rw[if_neg (by simpa using q1)]
 have hlast:P.length+k+(C.length-k)-1=P.length+(C.length-1):=by lia
 have eL:(arrOf st)[P.length+k+(C.length-k)-1]? = some (C[C.length-1]'(by lia)):=by rw[hlast];exact seg hlC (by lia)
 refine Ax (Qx eL ?_)
 refine Ax (Vz (⟨ok1.k,ok.n,nC _ (Sh _),λa b hab hb=>by rw[kB (by lia),kB hb];exact Qdn iB hab hb,by lia⟩:Ask _ (C[C.length-1]'(by lia)) (arrOf st) (P.length+C.length) B.length) (by lia) λv hc=>?_)
 obtain⟨v1,v2,v3⟩:=hc
 dsimp only
 have topC:∀p∈C,nk p<=nk (C[C.length-1]'(by lia)):=λp hp=>by
  obtain⟨t,ht,e⟩:=Dq hp
  have:=Qdn iC (show t<=C.length-1 by lia) (by lia)
  rw[e]at this;exact this
 have hiB:∀q∈B.drop v,nk (C[C.length-1]'(by lia))<=nk q:=λq hq=>by
  obtain⟨t,ht,e⟩:=Dq hq
  rw[Fb]at ht
  rw[N2]at e
  have h1:=v3 (v+t) (by lia) (by lia)
  unfold pv at h1
  simp only[if_true,decide_eq_false_iff_not]at h1
  rw[kB (by lia),e]at h1
  (clear e ht hq topC v3 v2 v1 eL q1 whole hiC lowC k3 k2 k1 ok1 nB nC eB kB kC hsz hlB hlC hQ iB iC hl hp ok;lia)
 have loB:∀q∈B.take v,nk q<=nk (C[C.length-1]'(by lia)):=λq hq=>by
  obtain⟨t,ht,e⟩:=Dq hq
  rw[Dh]at ht
  rw[N3]at e
  have h1:=v2 t (by lia)
  unfold pv at h1
  simp only[if_true,decide_eq_true_eq]at h1
  rw[kB (by lia),e]at h1
  (clear e ht hq hiB topC v3 v2 v1 eL q1 whole hiC lowC k3 k2 k1 ok1 nB nC eB kB kC hsz hlB hlC hQ iB iC hl hp ok;lia)
 by_cases q2:v=0
 ·rw[if_pos (by simpa using q2)]
  refine Bi (whole (λp hp q hq=>?_) _ ok1 rfl rfl)
  have h1:=topC p hp
  have h2:=hiB q (by rw[q2];exact hq)
  (clear hq hp q2 loB hiB topC v3 v2 v1 eL q1 whole hiC lowC k3 k2 k1 ok1 nB nC eB kB kC hsz hlB hlC e hQ iB iC hl ok;lia)
 rw[if_neg (by simpa using q2)]
 have ex:((arrOf st).extract (P.length+k) (P.length+C.length)).toList=C.drop k:=by
  rw[Qii,S6,hlC,Bm,← N9,Le,T4 k1,show P.length+C.length-(P.length+k)=(C.drop k).length by rw[Fb];(clear q2 loB hiB topC v3 v2 v1 eL q1 whole hiC lowC k3 k2 k1 ok1 nB nC eB kB kC hsz hlB hlC e hQ iB iC hl hq hp ok;lia),List.take_left]
 have ey:((arrOf st).extract (P.length+C.length) (P.length+C.length+v)).toList=B.take v:=by
  rw[Qii,S6,hlB,← lPC,Bm,Le,show(P++C).length+v-(P++C).length=v by lia,T5 v1]
 generalize hx:(arrOf st).extract (P.length+k) (P.length+C.length)=x at ex ⊢
 generalize hy:(arrOf st).extract (P.length+C.length) (P.length+C.length+v)=y at ey ⊢
 have zx:x.size=C.length-k:=by rw[← De,ex,Fb]
 have zy:y.size=v:=by rw[← De,ey,Dh];(clear zx ey hy ex hx q2 loB hiB topC v3 v2 eL q1 whole hiC lowC k3 k2 k1 ok1 nB nC eB kB kC hsz hlB hlC e hQ iB iC hl hq hp ok;lia)
 have mr:Mr x y:=by
  refine⟨λp hp=>nC p (by rw[ex]at hp;exact Fa hp),λp hp=>nB p (by rw[ey]at hp;exact D3 hp),by rw[ex];exact iC.drop k,by rw[ey];exact iB.take v,by lia,by lia,λp hp q hq=>?_,λp hp q hq=>?_⟩
  ·rw[ey,Ld]at hp
   rw[ex]at hq
   have h1:=hiC q hq
   obtain⟨t,ht,e⟩:=Dq hp
   rw[Dh]at ht
   rw[N3]at e
   have:t=0:=by lia
   subst this
   rw[← e];exact h1
  ·rw[ex]at hp
   rw[ey]at hq
   have h1:=loB q hq
   rw[N9]at hp
   obtain⟨t,ht,e⟩:=Dq hp
   rw[Fb]at ht
   rw[N2]at e
   have e3:k+(x.size-1)+t=C.length-1:=by lia
   have e4:nk p=nk (C[C.length-1]'(by lia)):=by rw[← e];congr 2
   lia
 have done:∀(o:Array Keyed)(st':SortSt),Keep (setPending st (((pendingOf st).setIfInBounds i (P.length,C.length+B.length,pw)).eraseIdxIfInBounds (i+1))) st'->Out x.toList y.toList o.toList ->
   wpS (model prog w) A E s (do
    modify λs=>setArr s (o.toList.zipIdx.foldl (λa (p,j)=>a.setIfInBounds (P.length+k+j) p) (arrOf s))
    return (failedOf (← get)).isNone:StateT SortSt Sem Bool) Q st':=λo st' kp ho=>by
  obtain⟨hp,hi⟩:=ho
  rw[ex,ey]at hp
  have lo:o.toList.length=C.length-k+v:=by rw[hp.length_eq,Bx,Fb,Dh];(clear hi hp kp mr zy zx ey hy ex hx q2 loB hiB topC v3 v2 eL q1 whole hiC lowC k3 k2 k1 ok1 nB nC eB kB kC hsz hlB hlC e hQ iB iC hl hq ok;lia)
  refine Ax (S4 ?_)
  refine Ax (S5 ?_)
  have ea:arrOf st'=arrOf st:=kp.a
  have ef:failedOf st'=none:=kp.f.trans ok.f
  have el:(o.toList.zipIdx.foldl (λa (p,j)=>a.setIfInBounds (P.length+k+j) p) (arrOf st')).toList=P++(C.take k++o.toList++B.drop v)++S:=by
   rw[ea]
   have:=Qia o.toList (arrOf st) (P.length+k) 0 (by rw[hsz,lo];(clear ef ea lo hi hp kp mr zy zx ey hy ex hx q2 loB hiB topC v3 v2 eL q1 whole hiC lowC k3 k2 k1 ok1 nB nC eB kB kC hsz hlB hlC e hQ iB iC hl hq ok;lia))
   rw[Nn]at this
   rw[this,lo]
   have t1:(arrOf st).toList.take (P.length+k)=P++C.take k:=by
    rw[hlC,Bm,List.take_append,show P.length+k-P.length=k by lia,Dc (by lia),T5 k1]
   have t2:(arrOf st).toList.drop (P.length+k+(C.length-k+v))=B.drop v++S:=by
    rw[hlB,show P.length+k+(C.length-k+v)=(P++C).length+v by rw[lPC];(clear t1 this ef ea lo hi hp kp mr zy zx ey hy ex hx q2 loB hiB topC v3 v2 v1 eL q1 whole hiC lowC k3 k2 k1 ok1 nB nC eB kB kC hsz hlB hlC e hQ iB iC hl hq ok;lia),Bm,← N9,Le,T4 v1]
   rw[t1,t2];simp
  show wpS _ _ _ _ (pure ((failedOf st').isNone)) _ _
  rw[ef]
  refine Bi (hQ _ (C.take k++o.toList++B.drop v) ⟨kp.k.trans ok1.k,λp hp'=>?_,ef⟩ kp.p el ?_ ?_)
  ·have hp':p∈P++(C.take k++o.toList++B.drop v)++S:=by rw[← el];exact hp'
   refine ok.n p ?_
   rw[hl]
   simp only[Aj]at hp' ⊢
   rcases hp' with(h|(h|h)|h)|h
   ·exact .inl (.inl (.inl h))
   ·exact .inl (.inl (.inr (D3 h)))
   ·rcases Aj.mp (hp.mem_iff.mp h)with h|h
    ·exact .inl (.inl (.inr (Fa h)))
    ·exact .inl (.inr (D3 h))
   ·exact .inl (.inr (Fa h))
   ·exact .inr h
  ·refine((hp.append_left _).append_right _).trans ?_
   rw[← Bm,Dd,Bm,Dd]
  ·refine B6.mpr ⟨B6.mpr ⟨iC.take k,hi,λp hp' q hq=>?_⟩,iB.drop v,λp hp' q hq=>?_⟩
   ·rcases Aj.mp (hp.mem_iff.mp hq)with h|h
    ·exact iC.split k p hp' q h
    ·exact lowC p hp' q (D3 h)
   ·rcases Aj.mp hp' with h|h
    ·exact lowC p h q (Fa hq)
    ·rcases Aj.mp (hp.mem_iff.mp h)with h|h
     ·have h1:=topC p (Fa h)
      have h2:=hiB q hq
      (clear h hq hp' el ef ea lo hi hp kp mr zy zx ey hy ex hx q2 loB hiB topC v3 v2 v1 eL q1 whole hiC lowC k3 k2 k1 ok1 nB nC eB kB kC hsz hlB hlC e hQ iB iC hl ok;lia)
     ·exact iB.split v p h q hq
 by_cases hle:C.length-k<=v
 ·rw[if_pos hle]
  exact Ax (Qrt ok1.k mr λo st' kp ho=>done o st' kp ho)
 ·rw[if_neg hle]
  exact Ax (Qru ok1.k mr λo st' kp ho=>done o st' kp ho)
end
section
variable [KN]
structure SB(lo:Nat)(st0 st:SortSt):Prop where
 ok:Ok st
 perm:(arrOf st).Perm (arrOf st0)
 pend:pendingOf st=pendingOf st0
 pre:∀k,k<lo->(arrOf st)[k]? = (arrOf st0)[k]?
theorem SB.size(h:SB lo st0 st):(arrOf st).size=(arrOf st0).size:=h.perm.size_eq
theorem SB.arr(h:SB lo st0 st)(hp:xs.Perm (arrOf st))(hk:∀k,k<lo->xs[k]? = (arrOf st)[k]?):SB lo st0 (setArr st xs) :=
 ⟨⟨h.ok.k,λp hp'=>h.ok.n p ((Rm.mp hp).mem_iff.mp hp'),h.ok.f⟩,hp.trans h.perm,h.pend,λk hk'=>(hk k hk').trans (h.pre k hk')⟩
def SF(a:Array Keyed)(lo k:Nat):Prop:=∀i j,i<=j->j<k->K a (lo+i)<=K a (lo+j)
end
section
variable [KN][KL prog w A E s]
theorem Qd1{Q:Option Bool->SortSt->Prop}(ok:Ok st)(hi:i<(arrOf st).size)(hj:j<(arrOf st).size)(h:Q (some (decide (K (arrOf st) i<K (arrOf st) j))) st):wpS (model prog w) A E s (ltAt' i j) Q st:=by
 rw[ltAt'_eq];refine Ax (S5 ?_);refine Ax (Qx (Bg hi) (Ax (Qx (Bg hj) (Qai ok.k (ok.n _ (by simp)) (ok.n _ (by simp)) ?_))));rw[K_nk hi,K_nk hj]at h;exact h
theorem Qr0{o:Nat}(hB:SB lo st0 st)(hn:lo+n<=(arrOf st0).size)(ho:o<=n)(hs:SF (arrOf st) lo o)(h:∀st',SB lo st0 st'->SF (arrOf st') lo n->Q true st'):wpS (model prog w) A E s (binarySort' lo n o) Q st:=by
 rw[binarySort'_eq];refine Ax (Ny (Fl (I:=λk c st'=>c=(none,())/\SB lo st0 st'/\SF (arrOf st') lo (min k n)) (Q:=λc st'=>c=(none,())/\SB lo st0 st'/\SF (arrOf st') lo n) ?step ?fin ⟨rfl,hB,?init⟩) ?post)
 case post=>
  rintro c st' ⟨rfl,hB',hs'⟩;exact Bi (h st' hB' hs')
 case fin=>
  rintro c st' ⟨hc,hB',hs'⟩;rw[show min (max (max o 1) n) n=n by(clear hs' hB' hc h hs ho hn hB;lia)]at hs';exact⟨hc,hB',hs'⟩
 case init=>
  intro i j hij hj;by_cases h1:o=0
  ·have:i=j:=by(clear h hs ho hn hB;lia)
   subst this;exact Mt _
  ·exact hs i j hij (by(clear hij h hs ho hn hB;lia))
 case step=>
  rintro k c st' hak hkn ⟨rfl,hB',hs'⟩;have hsz:=hB'.size;rw[show min k n=k by(clear hsz hs' hB' hak h hs ho hn hB;lia)]at hs';refine Ax (Ny (Fl (I:=λt c st2=>st2=st'/\∃l r,c=(none,l,r)/\l<=r/\r<=k/\r-l<=k-t/\(∀i,i<l->K (arrOf st') (lo+i)<=K (arrOf st') (lo+k))/\∀i,r<=i->i<k->K (arrOf st') (lo+k)<K (arrOf st') (lo+i))
   (Q:=λc st2=>st2=st'/\∃l,c=(none,l,l)/\l<=k/\(∀i,i<l->K (arrOf st') (lo+i)<=K (arrOf st') (lo+k))/\∀i,l<=i->i<k->K (arrOf st') (lo+k)<K (arrOf st') (lo+i)) ?js ?jf ⟨rfl,0,k,rfl,by(clear hsz hs' hB' hkn hak h hs ho hn hB;lia),by(clear hsz hs' hB' hkn hak h hs ho hn hB;lia),by(clear hsz hs' hB' hkn hak h hs ho hn hB;lia),λi hi=>by(clear hsz hs' hB' hkn hak h hs ho hn hB;lia),λi h1 h2=>by(clear hsz hs' hB' hkn hak h hs ho hn hB;lia)⟩) ?jp)
  case jf=>
   rintro c st2 ⟨rfl,l,r,rfl,b1,b2,b3,b4,b5⟩;have:l=r:=by(clear b5 b4 b2 hsz hs' hB' hkn hak h hs ho hn hB;lia)
   subst this;exact⟨rfl,l,rfl,b2,b4,b5⟩
  case js=>
   rintro t c st2 _ ht ⟨rfl,l,r,rfl,b1,b2,b3,b4,b5⟩;dsimp only;by_cases hge:l≥r
   ·rw[if_pos hge];have:l=r:=by(clear b5 b4 b3 b2 hsz hs' hB' ht hkn hak h hs ho hn hB;lia)
    subst this;exact Bi ⟨rfl,l,rfl,b2,b4,b5⟩
   ·rw[if_neg hge];refine Ax (Qd1 hB'.ok (by(clear hge b5 b4 b3 b2 b1 hs' hB' ht hak h hs ho hB;lia)) (by(clear hge b5 b4 b3 hs' hB' ht hak h hs ho hB;lia)) ?_);dsimp only;by_cases hl:K (arrOf st2) (lo+k)<K (arrOf st2) (lo+(l+r)/2)
    ·simp only[hl,decide_true,if_true];exact Bi ⟨rfl,_,_,rfl,by(clear hl hge b5 b4 b3 b2 hsz hs' hB' ht hkn hak h hs ho hn hB;lia),by(clear hl hge b5 b4 b3 hsz hs' hB' ht hkn hak h hs ho hn hB;lia),by(clear hl hge b5 b4 b2 b1 hsz hs' hB' ht hkn hak h hs ho hn hB;lia),b4,λi h1 h2=>Int.lt_of_lt_of_le hl (hs' _ _ h1 h2)⟩
    ·simp only[hl,decide_false,Bj,if_false];exact Bi ⟨rfl,_,_,rfl,by(clear hl b5 b4 b3 b2 b1 hsz hs' hB' ht hkn hak h hs ho hn hB;lia),by(clear hl hge b5 b4 b3 b1 hsz hs' hB' ht hkn hak h hs ho hn hB;lia),by(clear hl hge b5 b4 b2 b1 hsz hs' hB' ht hkn hak h hs ho hn hB;lia),λi h1=>Int.le_trans (hs' i ((l+r)/2) (by(clear hl hge b5 b4 b3 b2 b1 hsz hs' hB' ht hkn hak h hs ho hn hB;lia)) (by(clear h1 hl b5 b4 b3 b1 hsz hs' hB' ht hkn hak h hs ho hn hB;lia))) (Int.not_lt.mp hl),b5⟩
  case jp=>
   rintro c st2 ⟨rfl,l,rfl,b1,b2,b3⟩;dsimp only;rw[moveDown'_eq];have hks:lo+k<(arrOf st2).size:=by(clear b3 b2 b1 hs' hB' hak h hs ho hB;lia)
   refine Ax (S4 (Bi ⟨rfl,hB'.arr (bubble_perm _ _ _) (λq hq=>?_),?_⟩))
   ·rw[getElem?_bubble hks _ (by(clear hq hks b3 b2 b1 hsz hs' hB' hkn hak h hs ho hn hB;lia)),if_neg (by(clear hks b3 b2 b1 hsz hs' hB' hkn hak h hs ho hn hB;lia)),if_neg (by(clear hks b3 b2 b1 hsz hs' hB' hkn hak h hs ho hn hB;lia))]
   ·rw [show min (k+1) n=k+1 by(clear hks b3 b2 b1 hsz hs' hB' hak h hs ho hn hB;lia)];intro i j hij hj;show K (bubble (arrOf st2) (lo+k) (lo+k-(lo+l))) (lo+i)<=K (bubble (arrOf st2) (lo+k) (lo+k-(lo+l))) (lo+j);rw[Qxz hks (by(clear hj hij hks b3 b2 b1 hsz hs' hB' hkn hak h hs ho hn hB;lia)),Qxz hks (by(clear hj hij hks b3 b2 b1 hsz hs' hB' hkn hak h hs ho hn hB;lia)),show lo+k-(lo+k-(lo+l))=lo+l by(clear hj hij hks b3 b2 hsz hs' hB' hkn hak h hs ho hn hB;lia)];by_cases i1:i<l
    ·rw [if_neg (by(clear hj hij hks b3 b2 b1 hsz hs' hB' hkn hak h hs ho hn hB;lia)),if_neg (by(clear hj hij hks b3 b2 b1 hsz hs' hB' hkn hak h hs ho hn hB;lia))];by_cases j1:j<l
     ·rw[if_neg (by(clear i1 hj hij hks b3 b2 b1 hsz hs' hB' hkn hak h hs ho hn hB;lia)),if_neg (by(clear i1 hj hij hks b3 b2 b1 hsz hs' hB' hkn hak h hs ho hn hB;lia))];exact hs' i j hij (by(clear i1 hj hij hks b3 b2 hsz hs' hB' hkn hak h hs ho hn hB;lia))
     ·by_cases j2:j=l
      ·rw[if_pos (by lia)];exact b2 i i1
      ·rw[if_neg (by lia),if_pos (by(clear i1 hij hks b3 b2 b1 hsz hs' hB' hkn hak h hs ho hn hB;lia)),show lo+j-1=lo+(j-1) by(clear j2 hj hij hks b3 b2 b1 hsz hs' hB' hkn hak h hs ho hn hB;lia)];exact hs' i (j-1) (by(clear j2 hj hij hks b3 b2 b1 hsz hs' hB' hkn hak h hs ho hn hB;lia)) (by(clear j2 j1 i1 hij hks b3 b2 b1 hsz hs' hB' hkn h hs ho hn hB;lia))
    ·by_cases i2:i=l
     ·rw[if_pos (by(clear i1 hj hij hks b3 b2 b1 hsz hs' hB' hkn hak h hs ho hn hB;lia))];by_cases j2:j=l
      ·rw[if_pos (by(clear i2 i1 hj hij hks b3 b2 b1 hsz hs' hB' hkn hak h hs ho hn hB;lia))];exact Mt _
      ·rw[if_neg (by(clear i2 i1 hj hij hks b3 b2 b1 hsz hs' hB' hkn hak h hs ho hn hB;lia)),if_pos (by(clear i2 hks b3 b2 b1 hsz hs' hB' hkn hak h hs ho hn hB;lia)),show lo+j-1=lo+(j-1) by(clear i2 hj hks b3 b2 b1 hsz hs' hB' hkn hak h hs ho hn hB;lia)];exact Rg (b3 _ (by(clear i2 hj hks b3 b2 b1 hsz hs' hB' hkn hak h hs ho hn hB;lia)) (by(clear j2 i2 i1 hij hks b3 b2 b1 hsz hs' hB' hkn h hs ho hn hB;lia)))
     ·rw[if_neg (by(clear i1 hj hij hks b3 b2 b1 hsz hs' hB' hkn hak h hs ho hn hB;lia)),if_pos (by(clear hks b3 b2 b1 hsz hs' hB' hkn hak h hs ho hn hB;lia)),if_neg (by(clear hj hks b3 b2 b1 hsz hs' hB' hkn hak h hs ho hn hB;lia)),if_pos (by(clear hks b3 b2 b1 hsz hs' hB' hkn hak h hs ho hn hB;lia)),show lo+j-1=lo+(j-1) by(clear hj hks b3 b2 b1 hsz hs' hB' hkn hak h hs ho hn hB;lia),show lo+i-1=lo+(i-1) by(clear hj hij hks b3 b2 b1 hsz hs' hB' hkn hak h hs ho hn hB;lia)];exact hs' _ _ (by(clear i2 i1 hj hks b3 b2 b1 hsz hs' hB' hkn hak h hs ho hn hB;lia)) (by(clear i2 i1 hij hks b3 b2 b1 hsz hs' hB' hkn h hs ho hn hB;lia))
def NI(a:Array Keyed)(lo k:Nat):Prop:=∀i j,i<=j->j<k->K a (lo+j)<=K a (lo+i)
theorem SF.one:SF a lo 1:=λi j hij hj=>by
 have:i=j:=by lia
 subst this;exact Mt _
theorem SF.more(h:SF a lo n)(h1:1<=n)(hn:¬K a (lo+n)<K a (lo+n-1)):SF a lo (n+1):=λi j hij hj=>by
 by_cases hjn:j<n
 ·exact h i j hij hjn
 ·have:j=n:=by(clear hij hn h1 h;lia)
  subst this;by_cases hi:i=j
  ·subst hi;exact Mt _
  ·have:=h i (j-1) (by(clear hjn hj hn h1 h;lia)) (by(clear hi hjn hj hn h hij;lia));rw[show lo+(j-1)=lo+j-1 by(clear this hi hjn hj hn h hij;lia)]at this
   (clear hi hjn hj h1 h hij;lia)
theorem NI.more(h:NI a lo n)(h1:1<=n)(hn:K a (lo+n)<=K a (lo+n-1)):NI a lo (n+1):=λi j hij hj=>by
 by_cases hjn:j<n
 ·exact h i j hij hjn
 ·have:j=n:=by(clear hij hn h1 h;lia)
  subst this;by_cases hi:i=j
  ·subst hi;exact Mt _
  ·have:=h i (j-1) (by(clear hjn hj hn h1 h;lia)) (by(clear hi hjn hj hn h hij;lia));rw[show lo+(j-1)=lo+j-1 by(clear this hi hjn hj hn h hij;lia)]at this
   (clear hi hjn hj h1 h hij;lia)
theorem SB.mir(h:SB lo st0 st)(hi:lo<=i)(hj:j<=(arrOf st).size):SB lo st0 (setArr st (mirror (arrOf st) i j ((j-i)/2))) :=
 h.arr (mirror_perm _ _ _ _) λk hk=>by rw[getElem?_mirror_all hj,if_neg (by(clear hj h;lia))]
theorem Qcs{Q:Unit->SortSt->Prop}(h:Q () (setArr st (mirror (arrOf st) i j ((j-i)/2)))):wpS (model prog w) A E s (reverseSlice' i j) Q st:=by
 rw[reverseSlice'_eq];exact S4 h
theorem Qj7{a:Nat}{Q:Option (Option Nat)×Nat->SortSt->Prop}(hB:SB lo st0 st)(hn:lo+nrem<=(arrOf st0).size)(ha:1<=a)(han:a<=nrem)(hs:SF (arrOf st) lo a)
  (h:∀n,a<=n->n<=nrem->SF (arrOf st) lo n->(n=nrem\/K (arrOf st) (lo+n)<K (arrOf st) (lo+n-1))->Q (none,n) st) :
  wpS (model prog w) A E s (forIn [a:nrem] ((none,a):Option (Option Nat)×Nat) λ_ c=>do
   let x ← ltAt' (lo+c.2) (lo+c.2-1)
   match x with
   |some m=>if m=true then pure (ForInStep.done (none,c.2))else pure (Mf (none,c.2+1))
   |_=>pure (ForInStep.done (some none,c.2))) Q st:=by
 have hsz:=hB.size
 refine Fl (I:=λx c st'=>st'=st/\c=(none,x)/\SF (arrOf st) lo x) ?step ?fin ⟨rfl,rfl,hs⟩
 case fin=>
  rintro c st' ⟨rfl,rfl,hs'⟩
  rw[show max a nrem=nrem by lia]at hs' ⊢
  exact h nrem han (At _) hs' (.inl rfl)
 case step=>
  rintro x c st' hax hxn ⟨rfl,rfl,hs'⟩
  dsimp only
  refine Ax (Qd1 hB.ok (by(clear hs' h hs hB hax han ha;lia)) (by(clear hs' h hs hB hax han ha;lia)) ?_)
  by_cases hl:K (arrOf st') (lo+x)<K (arrOf st') (lo+x-1)
  ·simp only[hl,decide_true,if_true]
   exact Bi (h x hax (by(clear hl hs' hsz h hs hB hax han ha hn;lia)) hs' (.inr hl))
  ·simp only[hl,decide_false,Bj,if_false]
   exact Bi ⟨rfl,rfl,hs'.more (by(clear hl hs' hsz h hs hB hxn han hn;lia)) hl⟩
theorem Qwh(hj:j<=xs.size)(k:Nat):K (mirror xs i j ((j-i)/2)) k=if i<=k/\k<j then K xs (i+j-1-k)else K xs k:=Qxy hj k
theorem V5(hj:j<=xs.size)(he:∀k,i<=k->k<j->K xs k=K xs (j-1))(k:Nat):K (mirror xs i j ((j-i)/2)) k=K xs k:=Qjz hj he k
theorem Qrs{Q:Option Nat->SortSt->Prop}(hB:SB lo st0 st)(hn:lo+nrem<=(arrOf st0).size)(h1:1<=nrem)
  (h:∀m st',SB lo st0 st'->1<=m->m<=nrem->SF (arrOf st') lo m->Q (some m) st'):wpS (model prog w) A E s (countRun' lo nrem) Q st:=by
 rw[countRun'_eq];dsimp only;have hsz:=hB.size;refine Ax (Qj7 hB hn (At 1) h1 SF.one λn n1 n2 n3 n4=>?_);dsimp only;by_cases q1:n=nrem
 ·rw[if_pos (by simpa using q1)];exact Bi (h n st hB n1 n2 n3)
 rw[if_neg (by simpa using q1)];have hlt:=n4.resolve_left q1;refine' (λ(fin:∀st1,SB lo st0 st1->NI (arrOf st1) lo (n+1)->wpS (model prog w) A E s _ Q st1)=>?main) ?later
 case main=>
  by_cases q2:n > 1
  ·rw [if_pos q2];refine Ax (Qd1 hB.ok (by(clear fin q2 hlt q1 n4 n3 n2 n1 h hB;lia)) (by(clear fin q2 hlt q1 n4 n3 n1 h hB;lia)) ?_);dsimp only;by_cases q3:K (arrOf st) lo<K (arrOf st) (lo+n-1)
   ·simp only[q3,decide_true,if_true];exact Bi (h n st hB n1 n2 n3)
   simp only[q3,decide_false,Bj,if_false];have hall:∀k,lo<=k->k<lo+n->K (arrOf st) k=K (arrOf st) (lo+n-1):=λk a b=>by
    have a1:=n3 0 (k-lo) (by(clear fin b a q3 q2 hlt q1 n4 n3 n2 n1 hsz h h1 hn hB;lia)) (by(clear fin a q3 q2 hlt q1 n4 n3 n2 hsz h h1 hn hB;lia));have a2:=n3 (k-lo) (n-1) (by(clear fin a1 a q3 q2 hlt q1 n4 n3 n2 n1 hsz h h1 hn hB;lia)) (by(clear fin a1 b a q3 q2 hlt q1 n4 n3 n2 hsz h h1 hn hB;lia));rw[Nn,show lo+(k-lo)=k by(clear fin a2 a1 b q3 q2 hlt q1 n4 n3 n2 n1 hsz h h1 hn hB;lia)]at a1;rw[show lo+(k-lo)=k by(clear fin a2 a1 b q3 q2 hlt q1 n4 n3 n2 n1 hsz h h1 hn hB;lia),show lo+(n-1)=lo+n-1 by(clear fin a2 a1 b a q3 q2 hlt q1 n4 n3 n2 hsz h h1 hn hB;lia)]at a2
    (clear fin b a q2 hlt q1 n4 n3 n2 n1 hsz h h1 hn hB;lia)
   refine Ax (Qcs ?_);have hB1:=hB.mir (i:=lo) (j:=lo+n) (At _) (by(clear fin hall q3 q2 hlt q1 n4 n3 n1 h h1 hB;lia));have hN1:NI (arrOf (setArr st (mirror (arrOf st) lo (lo+n) ((lo+n-lo)/2)))) lo (n+1):=by
    intro i j hij hj;show K (mirror (arrOf st) lo (lo+n) ((lo+n-lo)/2)) (lo+j)<=K (mirror (arrOf st) lo (lo+n) ((lo+n-lo)/2)) (lo+i);rw[V5 (by(clear fin hj hij hB1 hall q3 q2 hlt q1 n4 n3 n1 h h1 hB;lia)) hall,V5 (by(clear fin hj hij hB1 hall q3 q2 hlt q1 n4 n3 n1 h h1 hB;lia)) hall];by_cases hjn:j<n
    ·rw[hall _ (by lia) (by(clear fin hj hij hB1 hall q3 q2 hlt q1 n4 n3 n2 n1 hsz h h1 hn hB;lia)),hall (lo+i) (by lia) (by(clear fin hj hB1 hall q3 q2 hlt q1 n4 n3 n2 n1 hsz h h1 hn hB;lia))];exact Mt _
    ·have:j=n:=by(clear fin hij hB1 hall q3 q2 hlt q1 n4 n3 n2 n1 hsz h h1 hn hB;lia)
     subst this;by_cases hi:i=j
     ·subst hi;exact Mt _
     ·rw[hall (lo+i) (by lia) (by(clear fin hjn hj hB1 hall q3 q2 hlt q1 n4 n3 n2 n1 hsz h h1 hn hB;lia))];exact Rg hlt
   exact fin _ hB1 hN1
  ·rw [if_neg q2];have hn1:n=1:=by(clear fin hlt q1 n4 n3 n2 hsz h h1 hn hB;lia)
   have hB1:=hB;have hN1:NI (arrOf st) lo (n+1):=NI.more (λi j hij hj=>by
    have:i=j:=by(clear fin hB1 hn1 hlt q1 n4 n3 n2 n1 hsz h h1 hn hB;lia)
    subst this;exact Mt _) (by(clear fin hB1 hn1 q2 hlt q1 n4 n3 n2 hsz h h1 hn hB;lia)) (Rg hlt)
   exact fin _ hB1 hN1
 case later=>
  intro st1 hB1 hN1;clear hB n3 n4 hlt hsz;have hsz1:=hB1.size;refine Ax (Ie (Rc ⟨rfl,?_⟩));refine Ax (Ny (Fl (I:=λx c st'=>∃q,c=(none,x,q)/\SB lo st0 st'/\NI (arrOf st') lo x/\q+1<=x/\∀i,lo+x-(q+1)<=i->i<lo+x->K (arrOf st') i=K (arrOf st') (lo+x-1))
   (Q:=λc st'=>∃x q,c=(none,x,q)/\n+1<=x/\x<=nrem/\SB lo st0 st'/\NI (arrOf st') lo x/\q+1<=x/\∀i,lo+x-(q+1)<=i->i<lo+x->K (arrOf st') i=K (arrOf st') (lo+x-1)) ?step ?fin ⟨0,rfl,hB1,hN1,by lia,λi a b=>by congr 1;lia⟩) ?post)
  case fin=>
   rintro c st' ⟨q,rfl,b1,b2,b3,b4⟩;rw[show max (n+1) nrem=nrem by lia]at *;exact⟨nrem,q,rfl,by lia,by lia,b1,b2,b3,b4⟩
  case step=>
   rintro x c st' hx1 hx2 ⟨q,rfl,b1,b2,b3,b4⟩;dsimp only;have hz:=b1.size;refine Ax (Qd1 b1.ok (by lia) (by lia) ?_);dsimp only;by_cases hl:K (arrOf st') (lo+x)<K (arrOf st') (lo+x-1)
   ·simp only[hl,decide_true,if_true];by_cases hq:q > 0
    ·rw[if_pos hq];refine Ax (Qcs (Bi ⟨0,rfl,b1.mir (by lia) (by lia),λi j hij hj=>?_,by lia,λi a b=>by congr 1;lia⟩));show K (mirror (arrOf st') _ _ _) _<=K (mirror (arrOf st') _ _ _) _;rw[V5 (by lia) (λk a b=>b4 k (by lia) b),V5 (by lia) (λk a b=>b4 k (by lia) b)];exact b2.more (by lia) (Rg hl) i j hij hj
    ·rw[if_neg hq];exact Bi ⟨0,rfl,b1,b2.more (by lia) (Rg hl),by lia,λi a b=>by congr 1;lia⟩
   ·simp only[hl,decide_false,Bj,if_false];refine Ax (Qd1 b1.ok (by lia) (by lia) ?_);dsimp only;by_cases hl2:K (arrOf st') (lo+x-1)<K (arrOf st') (lo+x)
    ·simp only[hl2,decide_true,if_true];exact Bi ⟨x,q,rfl,by lia,by lia,b1,b2,b3,b4⟩
    ·simp only[hl2,decide_false,Bj,if_false];have he:K (arrOf st') (lo+x)=K (arrOf st') (lo+x-1):=by lia
     refine Bi ⟨q+1,rfl,b1,b2.more (by lia) (by lia),by lia,λi a b=>?_⟩;rw[show lo+(x+1)-1=lo+x by lia];by_cases hi:i=lo+x
     ·rw[hi]
     ·rw[he];exact b4 i (by lia) (by lia)
  case post=>
   rintro c st' ⟨x,q,rfl,c1,c2,b1,b2,b3,b4⟩;dsimp only;have hz:=b1.size;by_cases hq:q > 0;rw[if_pos hq];refine Ax (Qcs ?_);have b1':=b1.mir (i:=lo+x-(q+1)) (j:=lo+x) (by lia) (by lia);have b2':NI (arrOf (setArr st' (mirror (arrOf st') (lo+x-(q+1)) (lo+x) ((lo+x-(lo+x-(q+1)))/2)))) lo x:=λi j hij hj=>by
    show K (mirror (arrOf st') _ _ _) _<=K (mirror (arrOf st') _ _ _) _;rw[V5 (by lia) b4,V5 (by lia) b4];exact b2 i j hij hj
   generalize setArr st' (mirror (arrOf st') (lo+x-(q+1)) (lo+x) ((lo+x-(lo+x-(q+1)))/2))=st2 at b1' b2' ⊢
   rotate_left
   rw[if_neg hq];have b1':=b1;have b2':=b2;clear b1 b2 b4 hz;generalize st'=st2 at b1' b2' ⊢
   all_goals
    have hz2:=b1'.size;refine Ax (Qcs ?_);have b3':=b1'.mir (i:=lo) (j:=lo+x) (At _) (by lia);refine Ax (Qj7 b3' hn (by lia) c2 (λi j hij hj=>?_) λm m1 m2 m3 _=>?_)
    ·show K (mirror (arrOf st2) lo (lo+x) _) _<=K (mirror (arrOf st2) lo (lo+x) _) _;rw[Qwh (by lia),Qwh (by lia),if_pos (by lia),if_pos (by lia),show lo+(lo+x)-1-(lo+i)=lo+(x-1-i) by lia,show lo+(lo+x)-1-(lo+j)=lo+(x-1-j) by lia];exact b2' _ _ (by lia) (by lia)
    ·exact Bi (h m _ b3' (by lia) m2 m3)
end
section
variable [KN]
def Pd:Nat->List (List Keyed)->List (Nat×Nat×Nat)->Prop
 |_,[],[]=>True
 |o,R::rs,(a,n,_)::ps=>a=o/\n=R.length/\Pd (o+R.length) rs ps
 |_,_,_=>False
theorem Pd.len:∀{o:Nat}{rs:List (List Keyed)} {ps:List (Nat×Nat×Nat)},Pd o rs ps->ps.length=rs.length
 |_,[],[],_=>rfl
 |_,R::rs,(a,n,w)::ps,h=>by rw[Am,Am,Pd.len h.2.2]
 |_,[],_::_,h=>h.elim
 |_,_::_,[],h=>h.elim
theorem Pd.merge:∀{o:Nat}{rs1:List (List Keyed)} {C B:List Keyed} {rs2:List (List Keyed)} {ps:List (Nat×Nat×Nat)},Pd o (rs1++C::B::rs2) ps ->
  ∃pw pw',ps[rs1.length]? = some (o+rs1.flatten.length,C.length,pw)/\ps[rs1.length+1]? = some (o+rs1.flatten.length+C.length,B.length,pw')/\∀R:List Keyed,R.length=C.length+B.length->Pd o (rs1++R::rs2) ((ps.set rs1.length (o+rs1.flatten.length,C.length+B.length,pw)).eraseIdx (rs1.length+1))
 | o,[],C,B,rs2,(a,n,w)::(a',n',w')::ps,h=>by
  obtain⟨rfl,rfl,rfl,rfl,h⟩:=h;refine⟨w,w',by simp,by simp,λR hR=>?_⟩;exact⟨by simp,by rw[hR],by rw[hR,← N6];exact h⟩
 | o,D::rs1,C,B,rs2,(a,n,w)::ps,h=>by
  obtain⟨rfl,rfl,h⟩:=h;obtain⟨pw,pw',h1,h2,h3⟩:=Pd.merge h;have e:a+(D::rs1).flatten.length=a+D.length+rs1.flatten.length:=by simp;(clear h3 h2 h1 h;lia)
  refine⟨pw,pw',?_,?_,λR hR=>⟨rfl,rfl,?_⟩⟩
  ·rw[e];exact h1
  ·rw[e];exact h2
  ·rw[e];exact h3 R hR
 |_,[],_,_,_,[],h=>h.elim
 |_,[],_,_,_,[_],h=>by obtain⟨_,_,h⟩:=h;exact h.elim
 |_,_::_,_,_,_,[],h=>h.elim
theorem Pd.snoc:∀{o:Nat}{rs:List (List Keyed)} {R:List Keyed} {ps:List (Nat×Nat×Nat)},Pd o rs ps->Pd o (rs++[R]) (ps++[(o+rs.flatten.length,R.length,0)])
 |o,[],R,[],_=>⟨by simp,rfl,trivial⟩
 | o,D::rs,R,(a,n,w)::ps,h=>by
  obtain⟨rfl,rfl,h⟩:=h;refine⟨rfl,rfl,?_⟩;have:=Pd.snoc (R:=R) h;rw[show a+(D::rs).flatten.length=a+D.length+rs.flatten.length by simp;(clear this h;lia)];exact this
 |_,[],_,_::_,h=>h.elim
 |_,_::_,_,[],h=>h.elim
theorem Pd.modify{o:Nat}{rs:List (List Keyed)}{pw:Nat}:∀{o:Nat}{rs:List (List Keyed)} {ps:List (Nat×Nat×Nat)} (i:Nat),Pd o rs ps->Pd o rs (ps.modify i λ(a,n,_)=>(a,n,pw))
 |o,[],[],i,_=>by simp;trivial
 |o,R::rs,(a,n,w)::ps,0,h=>h
 |o,R::rs,(a,n,w)::ps,i+1,h=>⟨h.1,h.2.1,Pd.modify (o:=o) (rs:=rs) i h.2.2⟩
 |_,[],_::_,_,h=>h.elim
 |_,_::_,[],_,h=>h.elim
structure RI(a₀:Array Keyed)(st:SortSt)(runs:List (List Keyed))(T:List Keyed):Prop where
 ok:Ok st
 perm:(arrOf st).Perm a₀
 lst:(arrOf st).toList=runs.flatten++T
 pd:Pd 0 runs (pendingOf st).toList
 inc:∀R∈runs,Inc R/\0<R.length
end
section
variable [KN][KL prog w A E s]{a₀:Array Keyed}{runs:List (List Keyed)}{T:List Keyed}
theorem RI.psize(h:RI a₀ st runs T):(pendingOf st).size=runs.length:=by rw[← De];exact h.pd.len
theorem RI.alen(h:RI a₀ st runs T):runs.flatten.length+T.length=a₀.size:=by
 have:=congrArg Rb h.lst;rw[Bx,De,h.perm.size_eq]at this
 (clear h;lia)
theorem Qg0(h:RI a₀ st runs T)(hi:i+1<runs.length)(hQ:∀st' runs',RI a₀ st' runs' T->runs'.length+1=runs.length->Q true st'):wpS (model prog w) A E s (mergeAt' i) Q st:=by
 obtain ⟨rs1,C,B,rs2,rfl,rfl⟩:∃rs1 C B rs2,runs=rs1++C::B::rs2/\rs1.length=i:=by
  refine⟨runs.take i,runs[i],runs[i+1],runs.drop (i+2),?_,by rw[Dh];(clear hQ h;lia)⟩;rw[← Rq,← Rq,Dd]
 obtain⟨pw,pw',h1,h2,h3⟩:=Pd.merge h.pd;rw[Bk]at h1 h2 h3;have iC:=h.inc C (by simp);have iB:=h.inc B (by simp);refine Qrv (P:=rs1.flatten) (C:=C) (B:=B) (S:=rs2.flatten++T) (pw:=pw) (pw':=pw') h.ok (by rw[← Fm];exact h1) (by rw[← Fm];exact h2) (by rw[h.lst];simp) iC.2 iB.2 iC.1 iB.1 λst' R o1 o2 o3 o4 o5=>?_;have lR:R.length=C.length+B.length:=by rw[o4.length_eq,Bx]
 refine hQ st' (rs1++R::rs2) ⟨o1,?_,by rw[o3];simp,?_,λD hD=>?_⟩ (by simp;(clear lR o5 o4 o3 o2 o1 iB iC h3 h2 h1 hi hQ h;lia))
 ·refine Rm.mpr ?_;refine List.Perm.trans ?_ (Rm.mp h.perm);rw[o3,h.lst];simp only[L1,N0,Bm];refine Fq _ ?_;rw[← Bm C];exact R8 _ o4
 ·rw[o2];have:=h3 R lR;rw[Array.toList_eraseIdxIfInBounds,Iz];exact this
 ·simp only[Aj,Ar]at hD;rcases hD with hD|rfl|hD
  ·exact h.inc D (by simp[hD])
  ·exact⟨o5,by(clear o5 o4 o3 o2 o1 iB h3 h2 h1 hi hQ h;lia)⟩
  ·exact h.inc D (by simp[hD])
theorem RI.cut{st2:SortSt}(h:RI a₀ st runs T)(b:SB runs.flatten.length st st2)(hs:SF (arrOf st2) runs.flatten.length n)(hn:runs.flatten.length+n<=a₀.size)(h0:0<n) :
  ∃R T',R.length=n/\Inc R/\RI a₀ st2 runs (R++T'):=by
 have hsz:(arrOf st2).size=a₀.size:=b.size.trans h.perm.size_eq;have hz2:(arrOf st2).toList.length=a₀.size:=by rw[De];exact hsz
 refine⟨((arrOf st2).toList.drop runs.flatten.length).take n,(arrOf st2).toList.drop (runs.flatten.length+n),?_,?_,b.ok,b.perm.trans h.perm,?_,by rw[b.pend];exact h.pd,h.inc⟩
 ·rw[Dh,Fb];(clear hsz h0 hs b h;lia)
 ·refine Mz.mpr λi j hi hj hij=>?_;rw[Dh,Fb]at hi hj;have:=hs i j (by(clear hj hi hz2 hsz h0 hn hs b h;lia)) (by(clear hij hi hz2 hsz h0 hn hs b h;lia));rw[K_nk (by(clear this hij hj hz2 h0 hs b h;lia)),K_nk (by(clear this hij h0 hs b h;lia))]at this;simpa[N3,N2]using this
 ·have e1:(arrOf st2).toList.take runs.flatten.length=runs.flatten:=by
   have:(arrOf st2).toList.take runs.flatten.length=(arrOf st).toList.take runs.flatten.length:=by
    apply Mv;intro k;by_cases hk:k<runs.flatten.length
    ·rw[Mb hk,Mb hk,Fm,Fm];exact b.pre k hk
    ·rw[B7 (by rw[Dh];(clear hz2 hsz h0 hn hs b h;lia)),B7 (by rw[Dh];(clear hz2 hsz h0 hn hs b h;lia))]
   rw[this,h.lst,List.take_left]
  have e2:((arrOf st2).toList.drop runs.flatten.length).take n++(arrOf st2).toList.drop (runs.flatten.length+n)=(arrOf st2).toList.drop runs.flatten.length:=by
   rw[← N9,Dd]
  rw[e2];have:=Dd runs.flatten.length (arrOf st2).toList;rw[e1]at this;exact this.symm
theorem RI.push{T':List Keyed}(h:RI a₀ st runs (R++T'))(iR:Inc R)(l0:0<R.length)(hlo:runs.flatten.length=lo):RI a₀ (setPending st ((pendingOf st).push (lo,R.length,0))) (runs++[R]) T':=by
 refine⟨⟨h.ok.k,h.ok.n,h.ok.f⟩,h.perm,by show(arrOf st).toList=_;rw[h.lst];simp,?_,λD hD=>?_⟩
 ·show Pd 0 (runs++[R]) ((pendingOf st).push (lo,R.length,0)).toList;rw[N4];have:=h.pd.snoc (R:=R);rw[Bk,hlo]at this;exact this
 ·rcases Aj.mp hD with hD|hD
  ·exact h.inc D hD
  ·rw[Ap.mp hD];exact⟨iR,l0⟩
theorem RI.mod(h:RI a₀ st runs T):RI a₀ (setPending st ((pendingOf st).modify i λ(a,n,_)=>(a,n,pw))) runs T:=by
 refine⟨⟨h.ok.k,h.ok.n,h.ok.f⟩,h.perm,h.lst,?_,h.inc⟩;show Pd 0 runs ((pendingOf st).modify i λ(a,n,_)=>(a,n,pw)).toList;rw[Array.toList_modify];exact Pd.modify (o:=0) (rs:=runs) i h.pd
theorem Qr1{Q:Unit->SortSt->Prop}(ok:Ok st)(hp:pendingOf st = #[])(h2:2<=(arrOf st).size)
  (h:∀st',(arrOf st').Perm (arrOf st)->failedOf st'=none->Qix (arrOf st') (arrOf st).size->Q () st'):wpS (model prog w) A E s sortRuns' Q st:=by
 rw[sortRuns'_eq];refine Ax (S5 ?_);dsimp only;generalize ha:arrOf st=a₀ at *;have hR0:RI a₀ st [] a₀.toList:=⟨ok,by rw[ha],by rw[ha];rfl,by rw[hp];trivial,λR hR=>nomatch hR⟩
 generalize minRun' a₀.size a₀.size 0=mr;refine Ax (Ny (Fl (I:=λx c st'=>∃lo runs T,c=(none,lo)/\RI a₀ st' runs T/\runs.flatten.length=lo/\x<=lo)
  (Q:=λc st'=>∃runs,c=(none,a₀.size)/\RI a₀ st' runs []) ?step ?fin ⟨0,[],_,rfl,hR0,rfl,At _⟩) ?post)
 case fin=>
  rintro c st' ⟨lo,runs,T,rfl,ri,hl,hx⟩;have:=ri.alen;have hT:T=[]:=Ml.mp (by(clear ri hR0 h h2 ha hp ok;lia));subst hT;rw[Az,Nn]at this;exact⟨runs,by rw[← this,hl],ri⟩
 case step=>
  rintro x c st' _ hx ⟨lo,runs,T,rfl,ri,hl,hxl⟩;have hal:=ri.alen;dsimp only;by_cases hge:lo≥a₀.size
  ·rw[if_pos hge];have hT:T=[]:=Ml.mp (by(clear hxl ri hx hR0 h h2 ha hp ok;lia));subst hT;rw[Az,Nn]at hal;exact Bi ⟨runs,by rw[← hal,hl],ri⟩
  rw[if_neg hge];have hz:(arrOf st').size=a₀.size:=ri.perm.size_eq;subst hl;have hB:SB runs.flatten.length st' st':=⟨ri.ok,Array.Perm.refl _,rfl,λ_ _=>rfl⟩
  refine Ax (Qrs hB (by(clear hB hge hxl ri hx hR0 h h2 ha hp ok;lia)) (by(clear hB hxl hz hal ri hx hR0 h h2 ha hp ok;lia)) λm st2 b m1 m2 m3=>?_);dsimp only;by_cases hmr:m<mr;rw[if_pos hmr];refine Ax (Ie (Rc ⟨rfl,?_⟩));refine Ax (Qr0 b (show runs.flatten.length+min (a₀.size-runs.flatten.length) mr<=(arrOf st').size by(clear hmr m3 m2 m1 b hB hge hxl ri hx hR0 h h2 ha hp ok;lia)) (by(clear m3 m1 b hB hge hxl hz hal ri hx hR0 h h2 ha hp ok;lia)) m3 λst3 b3 hs3=>?_);simp only[N5,Bj,if_false];have hn0:0<min (a₀.size-runs.flatten.length) mr:=by(clear hs3 b3 m3 m2 m1 b hB hxl hz hal ri hx hR0 h h2 ha hp ok;lia)
  have hn1:runs.flatten.length+min (a₀.size-runs.flatten.length) mr<=a₀.size:=by lia
  generalize min (a₀.size-runs.flatten.length) mr=n at hs3 hn0 hn1 ⊢
  rotate_left
  rw[if_neg hmr];have b3:=b;have hs3:=m3;have hn0:0<m:=by lia
  have hn1:runs.flatten.length+m<=a₀.size:=by lia
  clear b m3 m1 m2 hmr;generalize m=n at hs3 hn0 hn1 ⊢;generalize st2=st3 at b3 hs3 ⊢
  all_goals
   obtain⟨R,T',lR,iR,ri2⟩:=ri.cut b3 hs3 hn1 hn0;refine Ax (S5 ?_);cases hb:(pendingOf st3).back? with
   | none=>
    dsimp only;refine Ax (S4 (Bi ⟨_,runs++[R],T',rfl,?_,by simp;lia,by lia⟩));rw[← lR];exact ri2.push iR (by lia) rfl
   | some t=>
    obtain⟨s1,n1,w1⟩:=t;dsimp only;generalize power' a₀.size (2*s1+n1) (2*s1+n1+n1+n) a₀.size=pw;refine Ax (Ny (Fl (I:=λx c st4=>c=(none,())/\∃runs',RI a₀ st4 runs' (R++T')) (Q:=λc st4=>c=(none,())/\∃runs',RI a₀ st4 runs' (R++T')) ?_ (λc st4 q=>q) ⟨rfl,runs,ri2⟩) ?_)
    ·rintro x c st4 _ _ ⟨rfl,runs',ri4⟩;refine Ax (S5 ?_);have hps:=ri4.psize;by_cases hp1:(pendingOf st4).size > 1
     ·have e:(pendingOf st4)[(pendingOf st4).size-2]? = some ((pendingOf st4)[(pendingOf st4).size-2]'(by omega)):=Bg _;rw[if_pos hp1,e];dsimp only;split
      ·exact Bi ⟨rfl,runs',ri4⟩
      ·refine Ax (Qg0 ri4 (by lia) λst5 runs5 ri5 _=>?_);simp only[N5,Bj,if_false];exact Bi ⟨rfl,runs5,ri5⟩
     ·rw[if_neg hp1];exact Bi ⟨rfl,runs',ri4⟩
    ·rintro c st4 ⟨rfl,runs',ri4⟩;dsimp only;have hal2:=ri2.alen;have hal4:=ri4.alen;have hfl:runs'.flatten.length=runs.flatten.length:=by lia
     refine Ax (S4 (Ax (S4 (Bi ⟨_,runs'++[R],T',rfl,?_,by rw[L1,Bx,hfl];simp;lia,by lia⟩))));rw[← lR];exact(ri4.mod (pw:=pw)).push iR (by lia) hfl
 case post=>
  rintro c st' ⟨runs,rfl,ri⟩;dsimp only;have hal:=ri.alen;have hrl:runs.length<=a₀.size:=by
   rw [Az,Nn]at hal;rw[← hal];have:∀l:List (List Keyed),(∀R∈l,Inc R/\0<R.length)->l.length<=l.flatten.length:=by
    intro l
    induction l with
    |nil=>intro _;exact At _
    | cons D l ih=>
     intro hl;have a1:=(hl D Ak).2;have a2:=ih λR hR=>hl R (Al _ hR);rw[N0,Bx,Am];(clear hl ih hal ri hR0 h h2 ha hp ok;lia)
   exact this runs ri.inc
  refine Ax (Ny (Fl (I:=λx c st4=>c=(none,())/\∃runs',RI a₀ st4 runs' []/\(runs'.length<=1\/runs'.length+x<=a₀.size)) (Q:=λc st4=>c=(none,())/\∃runs',RI a₀ st4 runs' []/\runs'.length<=1) ?_ ?_ ⟨rfl,runs,ri,.inr (by(clear hal ri hR0 h h2 ha hp ok;lia))⟩) ?_)
  ·rintro x c st4 _ hx ⟨rfl,runs',ri4,hr⟩;refine Ax (S5 ?_);have hps:=ri4.psize;by_cases hp1:(pendingOf st4).size<=1
   ·rw[if_pos hp1];exact Bi ⟨rfl,runs',ri4,by(clear hr ri4 hx hrl hal ri hR0 h h2 ha hp ok;lia)⟩
   ·rw[if_neg hp1];refine Ax (Qg0 ri4 ?_ λst5 runs5 ri5 h5=>?_)
    ·split<;>split<;>lia
    ·simp only[N5,Bj,if_false];exact Bi ⟨rfl,runs5,ri5,.inr (by(clear ri5 hp1 hps ri4 hrl hal ri hR0 h h2 ha hp ok;lia))⟩
  ·rintro c st4 ⟨rfl,runs',ri4,hr⟩;refine⟨rfl,runs',ri4,?_⟩
   (clear ri4 hrl hal ri hR0 h h2 ha hp ok;lia)
  ·rintro c st4 ⟨rfl,runs',ri4,hr⟩;refine Bi (h st4 ri4.perm ri4.ok.f ?_);have hl:=ri4.lst;rw[D6]at hl;intro i j hij hj;have hz:(arrOf st4).size=a₀.size:=ri4.perm.size_eq;refine Qbx ?_ hij (by(clear hij hl hr ri4 hrl hal ri hR0 h h2 ha hp ok;lia));rw[hl]
   match runs',hr,ri4 with
   | [],_,_=>exact Rn
   | [R],_,ri4=>simpa using(ri4.inc R (by simp)).1
end
end Srt
variable {a:Dj}{as:List Dj}
namespace Srt
open PySem PyProof.Rows
def Qr7(S:Addr->Prop)(num:Addr->Int):KN:=⟨λp=>match p.1 with | .ref a=>num a|_=>0,λp=>∃a,p.1=.ref a/\S a,tuples' true⟩
def Qfl(h:Heap)(S:Addr->Prop)(key:Addr->List Int):Prop:=∀a,S a->∃(o:Obj)(us:List Value)(n:Nat),h.get? a=some o/\o.cls=.type "tuple" /\ o.data=.seq us.toArray n/\IntsAre us (key a)/\key a≠[]
theorem Qx4{num:Addr->Int}{key:Addr->List Int}(hS:Qfl s.heap S key)(hn:∀a b,S a->S b->HT.Zg (key a) (key b)=decide (num a<num b)):@KL (Qr7 S num) prog w A E s:=@KL.mk (Qr7 S num) prog w A E s λ{st x y Q} hk hx hy h=>by
 obtain⟨a,ea,sa⟩:=hx;obtain⟨b,eb,sb⟩:=hy;have hk:kindOf st=tuples' true:=hk;have h:Q (some (decide ((match x.1 with | .ref a=>num a|_=>0)<(match y.1 with | .ref a=>num a|_=>0)))) st:=h;rw[ea,eb]at h;have h:Q (some (decide (num a<num b))) st:=h;rw[← hn a b sa sb]at h;obtain⟨oa,us,na,ga,ca,da,ia,_⟩:=hS a sa;obtain⟨ob,vs,nb,gb,cb,db,ib,_⟩:=hS b sb;rw[lt'_eq];refine Ax (S5 ?_);rw[hk,ea,eb];refine Ax (Ie (Rl (PySem.W.kat_lt ga da gb db (SortT.Qrg 0 ia ib (by simp only[Bu];rw[ia.length,ib.length]) ⟨rfl,Bi h⟩))))
theorem Qrj{h:Heap}{S:Addr->Prop}{key:Addr->List Int}(hS:Qfl h S key):∀as:List Addr,(∀a∈as,S a)->∃fs:List Value,KatTups h (as.map Br) fs/\fs.length=as.length/\∀v∈fs,∃n t,v=Ky n t
 | [],_=>⟨[],KatTups.nil,rfl,λ_ h=>nomatch h⟩
 | a::as,hs=>by
  obtain⟨fs,h1,h2,h3⟩:=Qrj hS as λb hb=>hs b (Al _ hb);obtain⟨o,us,n,g,c,d,i,ne⟩:=hS a (hs a Ak);generalize key a=ka at i ne;cases i with
  |nil=>exact absurd rfl ne
  | cons k t r=>
   refine⟨Ky k t::fs,KatTups.cons g c d (by simp) h1,by simp[h2],λv hv=>?_⟩;rcases Ar.mp hv with rfl|hv
   ·exact⟨k,t,rfl⟩
   ·exact h3 v hv
theorem Qi4{P:Fin->Shared->Prop}{num:Addr->Int}{key:Addr->List Int}(ho:s.heap.get? a=some (seqObj "list" (as.map Br).toArray n))(hS:Qfl s.heap S key)(hn:∀x y,S x->S y->HT.Zg (key x) (key y)=decide (num x<num y))
  (has:∀x∈as,S x) (h2':as.length≠1) (hv:as.length<=100000) (h:∀out:List Addr,out.Perm as->out.Pairwise (λx y=>num x<=num y)->P (.done (.ret .none)) { s with heap:=sortedHeap s.heap a (as.map Br) (out.map Br).toArray }) :
  wpAny (model prog w) A (Builtin.«list.sort» ⟨[.ref a],[]⟩) P E s:=by
 by_cases h0:as=[]
 ·subst h0;refine list_sort_tree (vs:=[]) (ns:=[]) ho .nil (by decide) λout ns' a1 a2 a3=>?_;have e1:ns'=[]:=a2.eq_nil;subst e1;have e2:out.toList=[]:=by
   generalize out.toList=l at a1;cases a1;rfl
  have e3:out = #[]:=by cases out;simp at e2;subst e2;rfl
  subst e3;exact h [] (.refl _) .nil
 have h2:2<=as.length:=by
  have:=L3.mpr h0;lia
 letI:KN:=Qr7 S num
 have hna:¬S a:=λsa=>by
  obtain⟨o,us,m,g,c,d,_⟩:=hS a sa;rw[ho]at g;cases g;have c':Tk "list" = Tk "tuple":=c;exact absurd c' (by decide)
 rw[list_sort_plain];have hbig:100000<=sizeLine:=by decide
 have ha:a<s.heap.objs.size:=Bf ho;have hlen:(as.map Br).length=as.length:=Ao _;refine Ah (listItems_at ho rfl ?_);refine Ah (listUpdate_at ho rfl ?_);obtain⟨e1,ho1⟩:∃e1,(s.heap.update a (Fz λ_=>#[])).get? a=some (seqObj "list" #[] e1):=⟨_,get?_update_seq ho (λ_=>#[])⟩
 refine Ah (seqEpoch_at ho1 rfl ?_);refine Ah (wpAny_newTuple ?_ (by simp;lia));refine Ah (Iy ?_);refine Nq ?_;have ho6:(((s.heap.update a (Fz λ_=>#[])).push (seqObj "tuple" (as.map Br).toArray 0)).push (seqObj "list" #[] 0)).get? a=some (seqObj "list" #[] e1):=by
  rw[Om _ _ _ (by rw[size_push',Heap.size_update];exact Bv (Tb ha)),Om _ _ _ (by rw[Heap.size_update];exact Bv ha)];exact ho1
 have hS6:Qfl (((s.heap.update a (Fz λ_=>#[])).push (seqObj "tuple" (as.map Br).toArray 0)).push (seqObj "list" #[] 0)) S key:=λb sb=>by
  obtain⟨o,us,m,g,r⟩:=hS b sb;refine⟨o,us,m,An _ (An _ ?_),r⟩;rw[Ms _ _ (show a≠b fromλz=>hna (by rw[z];exact sb))];exact g
 show wpAny (model prog w) A _ P E { s with heap:=((s.heap.update a (Fz λ_=>#[])).push (seqObj "tuple" (as.map Br).toArray 0)).push (seqObj "list" #[] 0) }
 haveI:KL prog w A E { s with heap:=((s.heap.update a (Fz λ_=>#[])).push (seqObj "tuple" (as.map Br).toArray 0)).push (seqObj "list" #[] 0) }:=Qx4 hS6 hn
 dsimp only;have hsz:(as.map Br).toArray.size=as.length:=by simp
 rw [if_neg (by lia),if_neg (by lia)];obtain⟨fs,k1,k2,k3⟩:=Qrj hS6 as has;refine Ah (PySem.W.kat_kind (s:={ s with heap:=((s.heap.update a (Fz λ_=>#[])).push (seqObj "tuple" (as.map Br).toArray 0)).push (seqObj "list" #[] 0) }) (T:=.type "int") k1 (by lia) (λv hv=>by obtain⟨n,t,rfl⟩:=k3 v hv;exact PySem.W.Looks.of_pure rfl) (by decide) ?_);have keys:∀p∈(pairsOf (as.map Br)).toList,∃b,p=(Br b,Br b)/\b∈as:=λp hp=>by
  unfold pairsOf at hp;rw[List.zip_toArray]at hp;have:p∈(as.map Br).zip (as.map Br):=hp;rw[List.zip_map']at this;obtain⟨b,hb,rfl⟩:=Aq.mp this;exact⟨b,rfl,hb⟩
 refine Ah (Fw (Qr1 (st:=SortSt.mk' (tuples' true) (pairsOf (as.map Br)) #[] 7 none)
  (Q:=λ_ st'=>(arrOf st').Perm (pairsOf (as.map Br))/\failedOf st'=none/\Qix (arrOf st') (pairsOf (as.map Br)).size)
  ⟨rfl,λp hp=>?_,rfl⟩ rfl (by show 2<=(pairsOf (as.map Br)).size;rw[pairsOf_size];lia) λst' a1 a2 a3=>⟨a1,a2,a3⟩) ?_ λ_ _ e=>e)
 ·obtain⟨b,rfl,hb⟩:=keys p hp;exact⟨b,rfl,has b hb⟩
 rintro ⟨⟨⟩,st'⟩ s' ⟨rfl,hp,hf,hs⟩;dsimp only;obtain⟨out,eo,po⟩:∃out:List Addr,(arrOf st').toList=out.map (λb=>(Br b,Br b))/\out.Perm as:=by
  have hz:(pairsOf (as.map Br)).toList=as.map λb=>(Br b,Br b):=by
   unfold pairsOf;rw[List.zip_toArray];show(as.map Br).zip (as.map Br)=_;rw[List.zip_map',]
  have hp':=Rm.mp hp;rw[hz]at hp';refine⟨(arrOf st').toList.map λp=>match p.1 with | .ref b=>b|_=>0,?_,?_⟩
  ·rw[By]
   conv=>lhs;rw[← Ik (arrOf st').toList]
   refine B8 λp hpm=>?_;obtain⟨b,_,e⟩:=Aq.mp (hp'.mem_iff.mp hpm);subst e;rfl
  ·have:=hp'.map λp:Keyed=>(match p.1 with | .ref b=>b|_=>0:Addr)
   rw[By]at this;refine this.trans ?_;rw[show((λp:Keyed=>(match p.1 with | .ref b=>b|_=>0:Addr)) ∘ λb:Addr=>(Br b,Br b))=id from rfl,Ik]
 have so:out.Pairwise (λx y=>num x<=num y):=by
  refine Mz.mpr λi j hi hj hij=>?_;have hsz2:(pairsOf (as.map Br)).size=out.length:=by rw[pairsOf_size,hlen,po.length_eq]
  have q:=hs i j (by lia) (by lia);have at_:∀(i:Nat)(hi:i<out.length),K (arrOf st') i=num out[i]:=λi hi=>by
   unfold K;rw[← Fm,eo,Au,Bo hi];rfl
  rwa [at_ i hi,at_ j hj]at q
 have eout:(arrOf st').map (·.2)=(out.map Br).toArray:=by
  apply Array.toList_inj.mp;rw[Array.toList_map,eo,By];rfl
 refine Ah (seqEpoch_at ho6 rfl ?_);refine Ah (listUpdate_at ho6 rfl ?_ (hsz2:=by
  show((arrOf st').map (·.2)).size<=_;rw[eout];have:=po.length_eq;simp;lia))
 rw[hf];simp only[bne_self_eq_false,Bj,if_false];rw[eout];exact As (h out po so)
end Srt
variable {x:L2.V}{Q:Option Fg->Sw->Prop}
namespace RV
open PySem PySem.Spec
theorem Vm:Slot "reversed" "__next__" "reversed.__next__" :=
 .of (owner:="reversed") (n:="__next__") (by rw[Ng,Fs];kernel_rfl) (by decide +kernel) (by decide +kernel) (by decide +kernel)
  (by first|exact .inl (by decide +kernel)|exact .inr (by decide +kernel)) (by rw[Sc];kernel_rfl)
theorem Qeh:Slot "reversed" "__iter__" "reversed.__iter__" :=
 .of (owner:="reversed") (n:="__iter__") (by rw[Ng,Fs];kernel_rfl) (by decide +kernel) (by decide +kernel) (by decide +kernel)
  (by first|exact .inl (by decide +kernel)|exact .inr (by decide +kernel)) (by rw[Sc];kernel_rfl)
theorem Qk1:Slot "reversed" "__init__" "object.__init__" :=
 .of (owner:="object") (n:="__init__") (by rw[Ng,Fs];kernel_rfl) (by decide +kernel) (by decide +kernel) (by decide +kernel)
  (by first|exact .inl (by decide +kernel)|exact .inr (by decide +kernel)) (by rw[Sc];kernel_rfl)
theorem Qcm:entryFor table "reversed.__next__" = some Builtin.«reversed.__next__»:=entryFor_of_tree (by kernel_rfl)
theorem Qjs:entryFor table "reversed.__iter__" = some Builtin.«dict_keyiterator.__iter__» :=
 entryFor_alias (id':="dict_keyiterator.__iter__") (by kernel_rfl) (by first|rfl|decide +kernel|(unfold String.splitOn;simp +decide [String.splitOnAux])) (by decide +kernel) (by kernel_rfl)
theorem Qa1:Manifest.owners.lookup (String.ofList ['d','e','s','r','e','v','e','r'].reverse)=some Manifest.sig_reversed:=by kernel_rfl
theorem Qfj(a:Value):argsOk "reversed.__next__" ⟨[a],[]⟩:=by
 unfold argsOk;rw[Lv (id:="reversed.__next__") (n:=['_','_','t','x','e','n','_','_']) (o:=['d','e','s','r','e','v','e','r']) (by kernel_rfl) Qa1];kernel_rfl
theorem Qn4(a:Value):argsOk "reversed.__iter__" ⟨[a],[]⟩:=by
 unfold argsOk;rw[Lv (id:="reversed.__iter__") (n:=['_','_','r','e','t','i','_','_']) (o:=['d','e','s','r','e','v','e','r']) (by kernel_rfl) Qa1];kernel_rfl
theorem Qxr:TypeCalled "reversed" "reversed.__new__" "object.__init__" :=
 ⟨by decide +kernel,by decide +kernel,⟨_,_,F.mro_reversed⟩,F.made_reversed,by decide +kernel,F.sub_reversed_self,Qk1⟩
theorem Qv9:typeLookup (.type "tuple") "__reversed__" = pure none:=by rw[Ng,Fs];kernel_rfl
theorem Qtr:isSubtype (.type "tuple") (.type "dict")=pure false:=by rw[Sc];kernel_rfl
def rObj(t:Addr)(i:Int):Obj:={ cls:=.type "reversed",data:=.fields #[.ref t,rawInt i] }
def Vw(h:Heap)(a t:Addr)(i:Int):Prop:=∃o,h.get? a=some o/\o.cls=.type "reversed" /\ o.data=.fields #[.ref t,rawInt i]
theorem Vw.ty{i:Int}(x:Vw s.heap a t i):s.TypeIs (.ref a) "reversed":=let ⟨o,ho,hc,_⟩:=x;⟨o,ho,hc⟩
theorem Vw.at{i:Int}(x:Vw h a t i)(e:∀o,h.get? a=some o->h'.get? a=some o):Vw h' a t i:=let ⟨o,ho,r⟩:=x;⟨o,e _ ho,r⟩
theorem Ql9(hz:items.size<=sizeLine):MeetsIn prog w (Builtin.«reversed.__new__» ⟨[.type "reversed",.ref t],[]⟩)
  (λ_ R s=>s.heap.IsTuple t items/\∀tk,R (.ok (.ret (.ref s.heap.objs.size))) { s with heap:=s.heap.push (rObj t ((items.size:Int)-1)),toks:=tk }) :=
 .of_wp λA R s ⟨ht,h⟩=>by
  unfold Builtin.«reversed.__new__»;refine Ah (Nm (newClass_reversed _) ?_)
  try dsimp only
  refine Ah (Nm (a:=()) (by first|rfl|kernel_rfl) ?_);refine Ah (Nm (a:=()) (by first|rfl|kernel_rfl) ?_)
  try dsimp only
  refine Ah (R0 ht.typeIs Qv9 ?_)
  try dsimp only
  refine Ah ?_;refine Ah (m:=isInstance (.ref t) (.type "dict")) (Sf (T:="tuple") (b:=false) ht.typeIs Qtr ?_);refine Ah (m:=specialOf (.ref t) (M2 "__getitem__")) (R0 (name:=M2 "__getitem__") ht.typeIs Dz.lookup ?_);dsimp only;rw[if_pos (by decide +kernel)];refine As ?_;simp only[N5,Bj,if_false];refine Ah (K5 (show Ip s.heap t items from ht) (by rw[Md]at hz;lia) ?_);refine Ah (Nm (a:=some (items.size:Int)) rfl ?_);dsimp only;refine Ah (m:=newObj _ _) (Dv (data:=.fields #[.ref t,rawInt ((items.size:Int)-1)]) ?_ (by first|trivial|size_fits));exact As ⟨_,rfl,h _⟩
theorem Qqb{Q:Value->Shared->Prop}(hz:items.size<=sizeLine)(ht:s.heap.IsTuple t items)
  (h:∀tk,Q (.ref s.heap.objs.size) { s with heap:=s.heap.push (rObj t ((items.size:Int)-1)),toks:=tk }):wpAny (model prog w) A (call (.type "reversed") [.ref t]) Q E s:=by
 refine callType_newIn Qxr (by decide) (F.typeCall_reversed_1 _) (F.newCall_reversed_1 _) (λobj=>Tv obj _) F.entry_reversed_new (Ql9 (items:=items) hz) ⟨ht,λtk=>?_⟩;exact⟨⟨_,Bp _ rfl,rfl⟩,h tk⟩
theorem Ql8{it:Addr}{x:Value}(hit:Vw s.heap it t (i:Int))(ht:s.heap.IsTuple t items)(hz:items.size<=sizeLine)(hx:items[i]? = some x)
  (hQ:∀h' tk,Vw h' it t ((i:Int)-1)->Sa it s.heap h'->Q (some x) { s with heap:=h',toks:=tk }):wpAny (model prog w) A (pyNext (.ref it)) Q E s:=by
 obtain ⟨o,ho,hc,hd⟩:=id hit;unfold pyNext;refine Ah (Rl (Fe (name:=M2 "__next__") hit.ty Vm
  (D7 Vm hit.ty Qcm ?_ (Qfj _))))
 unfold Builtin.«reversed.__next__»;refine Ah (Nm (a:=(Br it,[])) rfl ?_)
 try dsimp only
 refine Ah (Me ho hd (x:=.ref t) rfl ?_);refine Ah (Me ho hd (x:=rawInt (i:Int)) rfl ?_);show wpAny _ _ (if (i:Int)<0 then _ else _) _ _ s;rw[if_neg (by lia)];refine Ah (R0 (name:=M2 "__getitem__") ht.typeIs Dz.lookup ?_);rw[if_neg (by simp)];refine Ah (wpAny_mkInt ?_);have hz':=hz;rw[Md]at hz';have hi:i<items.size:=by
  cases Tu i items.size with
  |inl h=>exact h
  |inr h=>rw[K6 h]at hx;cases hx
 refine Ah (Rl (PyProof.Rows.getItem_tuple (j:=i) (show Ip s.heap t items from ht) (by lia) (by lia) (by unfold seqIndex?;simp;lia) hx ?_));dsimp only;refine Ah (Me ho hd (x:=rawInt (i:Int)) rfl ?_);dsimp only[rawInt];refine Ah (Rr ho hd (by simp) ?_);refine As ⟨x,rfl,As (hQ _ _ ?_ (Ni ..))⟩;exact⟨_,M0 _ ho (Sb (M4 hd _)),(Kb ..).trans hc,by
  rw[M4 hd];simp;rfl⟩
theorem Qpk{it:Addr}(hh:A.handled=none)(hit:Vw s.heap it t (-1))
  (hQ:∀h',Oq it s.heap h'->Q none { s with heap:=h' }):wpAny (model prog w) A (pyNext (.ref it)) Q E s:=by
 obtain ⟨o,ho,hc,hd⟩:=id hit;unfold pyNext;refine Ah (Rl (Fe (name:=M2 "__next__") hit.ty Vm
  (D7 Vm hit.ty Qcm ?_ (Qfj _))))
 unfold Builtin.«reversed.__next__»;refine Ah (Nm (a:=(Br it,[])) rfl ?_)
 try dsimp only
 refine Ah (Me ho hd (x:=.ref t) rfl ?_);refine Ah (Me ho hd (x:=rawInt (-1)) rfl ?_);show wpAny _ _ (if (-1:Int)<0 then _ else _) _ _ s;rw[if_pos (by decide)];refine Ah (Rc ?_);refine Ah ?_;refine Ah (m:=setField (.ref it) 1 (rawInt (-1))) (Rr ho hd (by simp) ?_);have ho':=M0 (Lw λx=>x.setIfInBounds 1 (rawInt (-1))) ho (Sb (M4 hd _));refine Rr ho' (M4 hd _) (by simp) ?_;refine Ah ?_;unfold Builtin.SmallTypes.stopIteration;refine Ah ?_;simp only[newExc,newTuple];refine Ah (Dv ?_ (by size_fits));refine Ah (m:=firstArgMember _ _) (Nm (a:=My) (by first|rfl|(simp only[firstArgMember];rfl)) ?_);refine Dv ?_ (by size_fits);simp only[raiseNew];refine Ah (Lu ?_)
 first|rw[show A.in1.handled=none from hh]|rw[hh]
 refine Ah (As (wpAny_throw ?_));refine Ah (Sf (T:="StopIteration") (b:=true) ⟨_,Bp _ rfl,rfl⟩ Lb ?_);exact As (hQ _ λb u hb e=>An _ (An _ (((Ni ..).2 b hb).trans (((Ni ..).2 b hb).trans e))))
theorem Qid{it:Addr}{i:Int}{Q:Value->Shared->Prop}(hit:Vw s.heap it t i)(h:Q (.ref it) s):wpAny (model prog w) A (pyIter (.ref it)) Q E s:=by
 refine wpAny_pyIter_slot hit.ty Qeh (D7 Qeh hit.ty Qjs ?_ (Qn4 _));show wpAny _ _ (ret (.ref it)) _ _ s;exact As ⟨_,rfl,"reversed",_,hit.ty,Vm.lookup,h⟩
theorem boot:bootBuiltins "reversed" = some (.type "reversed"):=by decide +kernel
end RV
namespace Mx
open PySem PySem.Spec L2
abbrev MI:=Int ⊕ List Int
def Qy7:MI->Int
 | .inl i=>hashInt i
 | .inr l=>reduceHash (Builtin.Tuple.tupleHashOf (l.map hashInt))
abbrev KVM:=List (MI×V×V)
abbrev VM:=List (MI×Value×Value)
def RelE(p:MI×V×V)(q:MI×Value×Value):Prop:=p.1=q.1/\RelV p.2.1 q.2.1/\RelV p.2.2 q.2.2
def entI(q:MI×Value×Value):DictEntry:={ hash:=Qy7 q.1,key:=q.2.1,val:=q.2.2 }
def phi(a:Addr)(kvs:KVM)(h:Heap):Prop:=(a==sysModules)=false/\kvs.length<=sizeLine/\(kvs.map (·.1)).Nodup/\∃vs:VM,Paired RelE kvs vs/\∃o es ep,h.get? a=some o/\o.ExactDict/\o.data=.dict es ep/\es.toList=vs.map entI
def mixO(a:Addr)(kvs:KVM):HO:=.ext (phi a kvs)
def Qzo(H:Hp):MI->V->Prop
 | .inl i,y=>y=.int i
 | .inr l,y=>∃b,y=.ref b/\H b=some (.tup (l.map V.int))
def Keys(H:Hp)(kvs:KVM):Prop:=∀p∈kvs,Qzo H p.1 p.2.1
end Mx
variable {es:Array PySem.DictEntry}{ep:Nat}
namespace L2
open PySem PySem.Spec PyProof.Rows
theorem Qpw{Q:Value->Shared->Prop}(hd:(d==sysModules)=false)(ho:s.heap.get? d=some od)(hc:od.ExactDict)(hdat:od.data=.dict es ep)
  (hQ:Q (.ref s.heap.objs.size) { s with heap:=s.heap.push { cls:=.type "dict_keyiterator",data:=.fields #[.ref d,.int 0 0,.int es.size 0,.int ep 0] } }) :
  wpAny (model prog w) A (pyIter (.ref d)) Q E s:=by
 have hT:s.TypeIs (.ref d) "dict":=⟨od,ho,hc.1⟩
 refine wpAny_pyIter_slot hT F.slot_dict_iter (D7 F.slot_dict_iter hT F.entry_dict_iter ?_ (F.args_dict_iter_1 _));unfold Builtin.«dict.__iter__»;refine Ah ?_;unfold Builtin.Dict.dictSlotNone;refine Ah (wpAny_notOrdered_dict hT ?_);show wpAny _ _ (pure (Br d)) _ _ s;refine As ?_;show wpAny _ _ (Lf d >>= _) _ _ s;unfold Lf;rw[if_neg (by rw[hd];exact Bw)];refine Ah (As (Ah (Kc ho hdat (Ah (K0 ho hdat ?_)))));refine Ah (Dv (As ⟨_,rfl,"dict_keyiterator",_,⟨_,Bp _ rfl,rfl⟩,Nc.lookup,?_⟩));simpa[rawInt]using hQ
theorem Qpl{it:Addr}{e:DictEntry}(hit:s.heap.IsKeyIter it d i es.size ep)(hod:s.heap.get? d=some od)(hdd:od.data=.dict es ep)(hx:es[i]? = some e)
  (hQ:∀h',h'.IsKeyIter it d (i+1) es.size ep->Sa it s.heap h'->Q (some e.key) { s with heap:=h' }):wpAny (model prog w) A (pyNext (.ref it)) Q E s:=by
 obtain ⟨o,ho,hc,hd⟩:=id hit;unfold pyNext;refine Ah (Rl (Fe (name:=M2 "__next__") hit.typeIs Nc
  (D7 Nc hit.typeIs T6 ?_ (T3 _))))
 refine Ah (As (Ah (Ah ?_)))
 first|refine Ah (N7 hit.typeIs (As ?_))|refine Ah (Rs hit.typeIs (As ?_))
 refine Ah (wpAny_fieldsOf ho hd ?_);simp only[show Ig "dict_keyiterator" = false by decide,Bj,if_false];show wpAny _ _ (if (Br d==My)=true then _ else _) _ _ s;rw[if_neg (show ¬((Br d==My)=true)from Bw)];refine Ah (As (Ah (Kc hod hdd ?_)));rw[if_neg (by simp)];refine Ah (As (Ah (K0 hod hdd ?_)));rw[if_neg (by simp)];refine As ?_;simp only[show ¬((i:Int)<0)from by lia,if_false,Nf,hx];refine Ah ?_
 first|refine Ah (N7 hit.typeIs (As ?_))|refine Ah (Rs hit.typeIs (As ?_))
 refine Ah (wpAny_isOneOf_keyiter hit.typeIs ?_);show wpAny _ _ (setField (.ref it) 1 (rawInt ((i:Int)+1)) >>= _) _ _ s;refine Ah (Rr ho hd (by simp) ?_);have hit':(s.heap.update it (Lw (·.setIfInBounds 1 (rawInt ((i:Int)+1))))).IsKeyIter it d (i+1) es.size ep :=
  ⟨_,M0 _ ho (Sb (M4 hd _)),(Kb ..).trans hc,by rw[M4 hd];simp[rawInt]⟩
 refine Ah (Nq (Ah (wpAny_isOneOf_keyiter (s:={ s with heap:=s.heap.update it (Lw (·.setIfInBounds 1 (rawInt ((i:Int)+1)))) }) hit'.typeIs ?_)));show wpAny _ _ (pure e.key) _ _ _;exact As (As ⟨_,rfl,As (hQ _ hit' (Ni ..))⟩)
theorem Qt8{it:Addr}(hh:A.handled=none)(hit:s.heap.IsKeyIter it d i es.size ep)(hod:s.heap.get? d=some od)(hdd:od.data=.dict es ep)(hx:es.size<=i)
  (hQ:∀h',Oq it s.heap h'->Q none { s with heap:=h' }):wpAny (model prog w) A (pyNext (.ref it)) Q E s:=by
 obtain ⟨o,ho,hc,hd⟩:=id hit;unfold pyNext;refine Ah (Rl (Fe (name:=M2 "__next__") hit.typeIs Nc
  (D7 Nc hit.typeIs T6 ?_ (T3 _))))
 refine Ah (As (Ah (Ah ?_)))
 first|refine Ah (N7 hit.typeIs (As ?_))|refine Ah (Rs hit.typeIs (As ?_))
 refine Ah (wpAny_fieldsOf ho hd ?_);simp only[show Ig "dict_keyiterator" = false by decide,Bj,if_false];show wpAny _ _ (if (Br d==My)=true then _ else _) _ _ s;rw[if_neg (show ¬((Br d==My)=true)from Bw)];refine Ah (As (Ah (Kc hod hdd ?_)));rw[if_neg (by simp)];refine Ah (As (Ah (K0 hod hdd ?_)));rw[if_neg (by simp)];refine As ?_;simp only[show ¬((i:Int)<0)from by lia,if_false,Nf,K6 hx];refine Ah ?_
 first|refine Ah (N7 hit.typeIs (As ?_))|refine Ah (Rs hit.typeIs (As ?_))
 show wpAny _ _ (setField (.ref it) 0 .none >>= _) _ _ s;refine Ah (Rr ho hd (by simp) ?_);show wpAny _ _ (newExc (.type "StopIteration") [] >>= _) _ _ _;refine Ah ?_;simp only[newExc,newTuple];refine Ah (Dv ?_ (by size_fits));refine Ah (m:=firstArgMember _ _) (Nm (a:=My) (by first|rfl|(simp only[firstArgMember];rfl)) ?_);refine Dv ?_ (by size_fits);simp only[raiseNew];refine Ah (Lu ?_);rw[show A.in1.handled=none from hh];refine Ah (As (wpAny_throw ?_));refine Ah (Sf (T:="StopIteration") (b:=true) ⟨_,Bp _ rfl,rfl⟩ Lb ?_);exact As (hQ _ (((Ni ..).extBut.push _).push _))
end L2
namespace LR
open PySem PySem.Spec PyProof.Rows
theorem Qra:typeLookup (.type "list_reverseiterator") "__len__" = pure none:=by rw[Ng,Fs];kernel_rfl
theorem Qie:typeLookup (.type "list_reverseiterator") "__length_hint__" = pure (some (.builtin "list_reverseiterator.__length_hint__")):=by rw[Ng,Fs];kernel_rfl
abbrev Back(items:Array Value):Nat->Value->Prop:=λi v=>items[items.size-1-i]? = some v
end LR
variable {X:L2.Cx}{es:List Nb}
namespace L2
open PySem PySem.Spec PyProof.Rows
theorem Qkk:∀{xs:List V}{us ws:List Value},Vals xs us->ws.length=us.length->(∀(j:Nat) v,ws[j]? = some v->us[us.length-1-j]? = some v)->Vals xs.reverse ws:=by
 intro xs us ws r hl hw;have e:ws=us.reverse:=by
  refine Mv λj=>?_;by_cases hj:j<ws.length
  ·rw[Lg (by lia)];exact(Bo hj).trans (hw j _ (Bo hj)).symm
  ·rw[B7 (by lia),B7 (by rw[L4];lia)]
 subst e;clear hl hw
 induction r with
 |nil=>exact .nil
 | cons h _ ih=>
  rw[Td,Td];exact ih.append (.cons h .nil)
noncomputable def Itel(K:Frag)(a:Addr):It :=
 ⟨λi H=>∃xs x,SqL K H a xs/\xs[i]? = some x,λi H v H'=>∀xs,SqL K H a xs->∃x p,xs[i]? = some x/\v=.ref p/\H p=none/\H'=upd H p (.tup [.int i,x]),λi H=>∃xs,SqL K H a xs/\xs.length<=i⟩
theorem Qi3{K:Frag}(a e it:Addr)(hei:e≠it):Turn P w K (.Tuple es kt pt) (Itel K a) [e,it] e (λi h=>(∃old,IsEnum h e it i old)/\h.IsListIter it a i) where
 mem:=by simp
 obj:=λi h st b hb=>by
  obtain⟨⟨old,h1⟩,o,h2,c,d⟩:=st;rcases Ar.mp hb with z|z
  ·subst z;exact⟨_,h1,λv z=>by have z':Op _=Kz v:=z;cases z'⟩
  ·have z':b=it:=by simpa using z
   subst z';exact⟨o,h2,λv z=>by rw[d]at z;cases z⟩
 keep:=λi h h' st k=>⟨let ⟨old,h1⟩:=st.1;⟨old,k e (by simp) _ h1⟩,st.2.at λo q=>k it (by simp) o q⟩
 item:=by
  intro X hP hw hK hc i pins s σ H E I hf st hg;subst hP hw hK;obtain⟨⟨old,he⟩,hit⟩:=st;obtain⟨xs,x,hq,hx⟩:=hg;obtain⟨its,rv,⟨ol,nl,g1,g2,g3,g4⟩,hz⟩:=I.list hq;have p:s.heap.IsList a its.toArray:=⟨ol,g1,g2,nl,g4⟩
  obtain⟨u',hu',ru⟩:=rv.get hx;refine wpAny_pyNext_enum_item he hit p (x:=u') (by simpa using hu') hei λh' ho hst' hT hsz hk=>?_;refine⟨_,rfl,Iw ho λh2 he2 hs2=>?_⟩;have hTe:s.heap.objs.size≠e:=D1 (Bf he);have hT2:h2.get? s.heap.objs.size=some { cls:=.type "tuple",data:=.seq #[.int i s.toks,u'] }:=(hs2.2 _ hTe).trans hT;have hn:H s.heap.objs.size=none:=I.hok.fresh (At _);refine⟨.ref s.heap.objs.size,upd H s.heap.objs.size (.tup [.int i,x]),I.turnNew (ch:=[e,it]) (t':=s.toks+1) (At _) (λb o hb q=>?_) hf ?_,rfl,λys hy=>?_,⟨⟨_,he2⟩,hst'.at λo q=>?_⟩,λb hb=>?_⟩
  ·have h1:b≠e:=λz=>hb (by simp[z]);have h2':b≠it:=λz=>hb (by simp[z]);exact(hs2.2 b h1).trans (hk b o h1 h2' q)
  ·exact⟨by show 2<=sizeLine;decide,[.int i s.toks,u'],.cons ⟨_,rfl⟩ (.cons ru .nil),⟨_,hT2,rfl,_,rfl⟩⟩
  ·rw[I.list_inj hy hq];exact⟨x,_,hx,rfl,hn,rfl⟩
  ·exact(hs2.2 it (Mk hei)).trans q
  ·obtain ⟨o,q,_⟩:∃o,s.heap.get? b=some o/\True:=by
    rcases Ar.mp hb with z|z
    ·exact⟨_,z ▸ he,trivial⟩
    ·have z':b=it:=by simpa using z
     obtain⟨o,q,_⟩:=hit;exact⟨o,z' ▸ q,trivial⟩
   rw[Ql (Bv (Bf q))];exact(hf b hb).1
 done:=by
  intro X hP hw hK hc i pins s σ H E I hf st hg;subst hP hw hK;obtain⟨⟨old,he⟩,hit⟩:=st;obtain⟨xs,hq,hx⟩:=hg;obtain⟨its,rv,⟨ol,nl,g1,g2,g3,g4⟩,hz⟩:=I.list hq;have p:s.heap.IsList a its.toArray:=⟨ol,g1,g2,nl,g4⟩
  have hlen:=rv.length;refine wpAny_pyNext_enum_end (I.ok.hd hc) he hit p (by simp;lia) λh' he'=>?_;exact⟨rfl,I.turnAll (ch:=[e,it]) (t':=s.toks) (λb u hb q=>he' b u (λz=>hb (by simp[z])) q) hf⟩
 self:=λ_ _ _ _ _ st h=>by
  obtain⟨⟨old,q⟩,_⟩:=st;exact Ta q h
def Qw6(K:Frag)(ta:TA):TI:=λσ H R=>ta σ H λvs H1=>∃a,vs=[.ref a]/\(∃xs,SqL K H1 a xs)/\R (Itel K a) H1
theorem Qo3{a:Expr}(hg:Gl X "enumerate")(hm:X.mg "enumerate" = none)(ha:PA X [a] ta)(hs:starEach [a] X.env=[(false,eval a X.env)]:=by rfl) :
  PI X (.Tuple es kt pt) (.Call (.Name "enumerate" p) [a] [] pos) (Qw6 X.K ta):=by
 intro pins s σ H R I h;refine Call_ (Qba I hg hm boot_enumerate (Mj (thn (ha pos pins s σ H _ I h) λus s1 ⟨vs,H1,I1,r1,q1⟩=>?_) hs rfl));obtain⟨x,e,⟨xs,hq⟩,q⟩:=q1;subst e;obtain⟨u,rfl,ru⟩:=Qbr r1;cases ru;obtain⟨its,rv,⟨ol,nl,g1,g2,g3,g4⟩,hz⟩:=I1.list hq;refine call_enumerate_list (show s1.heap.IsList x its.toArray from⟨ol,g1,g2,nl,g4⟩) λh' he hit hz kp=>?_;have I2:Inv X pins σ H1 { s1 with heap:=h' }:=I1.kept (t':=s1.toks) kp;refine Ta he ⟨s1.heap.objs.size+1,[s1.heap.objs.size+1,s1.heap.objs.size],_,_,H1,rfl,I2,Qi3 x _ _ (D1 (M5 _)),⟨⟨_,he⟩,hit⟩,λb hb=>?_,q⟩;have hb':s1.heap.objs.size<=b:=by
  rcases Ar.mp hb with z|z
  ·rw[z];exact Ij _
  ·have z':b=s1.heap.objs.size:=by simpa using z
   rw[z'];exact At _
 exact I1.fpOk hb' (I1.hok.fresh hb')
theorem Qt1{es:Array DictEntry}(lo:(d==sysModules)=false):KdlSrc prog w "dict" d d es.size (λi v=>∃e,es[i]? = some e/\v=e.key) (λh=>∃od,h.get? d=some od/\od.ExactDict/\od.data=.dict es ep) where
 type:=λ_ ⟨od,ho,hc,_⟩=>⟨od,ho,hc.1⟩
 there:=λ_ ⟨_,ho,_⟩=>⟨Bf ho,Bf ho⟩
 keep:=λ_ _ ⟨od,ho,r⟩ hk=>⟨od,hk d (.inl rfl) od ho,r⟩
 notList:=by decide
 notTuple:=by decide
 hint:=λ_ _ s _ ⟨od,ho,hc,_⟩ hq=>PySem.W.kdl_hint_dict (s:=s) ⟨od,ho,hc.1⟩ hq
 iter:=λA s hh ⟨od,ho,hc,hd⟩=>⟨_,λi h=>h.IsKeyIter s.heap.objs.size d i es.size ep/\∃od,h.get? d=some od/\od.ExactDict/\od.data=.dict es ep,(λ_ _ hq=>Qpw lo ho hc hd hq),{
   sub:=λb hb=>by simp at hb;simp[hb]
   frame:=λ_ _ _ st hk=>⟨st.1.at λo e=>hk _ (by simp) o e,let ⟨od,e,r⟩:=st.2;⟨od,hk d (by simp) od e,r⟩⟩
   item:=λi s1 Q E hi st hQ=>by
    obtain⟨st1,od1,ho1,hc1,hd1⟩:=st;have hx:es[i]? = some es[i]:=Bg hi;refine Qpl st1 ho1 hd1 hx λh' hit' hs'=>hQ _ h' s1.toks ⟨_,hx,rfl⟩ ⟨hit',od1,?_,hc1,hd1⟩ λb o hb e=>hs'.extBut b o (λz=>hb (by simp[z])) e;exact hs'.extBut d od1 (Bv (Bf ho)) ho1
   done:=λs1 Q E st hQ=>by
    obtain⟨st1,od1,ho1,hc1,hd1⟩:=st;exact Qt8 hh st1 ho1 hd1 (At _) λh' he'=>hQ h' s1.toks λb o hb e=>he' b o (λz=>hb (by simp[z])) e
   self:=λ_ _ _ _ st hQ=>wpAny_pyIter_keyiter st.1 hQ },⟨⟨_,Bp _ rfl,rfl,rfl⟩,od,An _ ho,hc,hd⟩⟩
def Qri:V->Int
 | .int i=>i
 |_=>0
def Qt0(H:Hp)(b:Addr):List Int:=match H b with
 |some (.tup xs)=>xs.map Qri
 |_=>[]
noncomputable def Qsu:List V->Hp->VK->Prop:=λxs H Q=>∃(a:Addr)(kvs:List (List Key×V)) (ks:List (List Int)) (num:List Int->Int),xs=[.ref a]/\Rd H a (.dT kvs)/\kvs.map (·.1)=ks.map (λk=>k.map Nh)/\(∀k∈ks,k≠[])/\kvs.length≠1/\kvs.length<=100000 /\
 (∀x∈ks,∀y∈ks,HT.Zg x y=decide (num x<num y)) /\
 ∀(out:List (List Int)) (as:List Addr) D,out.Perm ks->out.Pairwise (λx y=>num x<=num y)->as.length=out.length->(∀(i:Nat) b k,as[i]? = some b->out[i]? = some k->H b=some (.tup (k.map V.int)))->H D=none->Q (.ref D) (upd H D (.lst (as.map V.ref)))
theorem Qgq(hc:X.calm=true):Uz X (.builtin "sorted") Qsu:=by
 intro pins s σ H xs us Q I r h;obtain⟨a,kvs,ks,num,rfl,ha,hks,hne,h2,hbig,hnum,q⟩:=h;obtain⟨u,rfl,ru⟩:=Qbr r;cases ru;obtain⟨z,hs,ps,rel,od,es,ep,ho,hex,hdat,hes,hnd⟩:=Qju I.hok ha;have hlen:kvs.length=ps.length:=No rel;have hesz:es.size=ps.length:=by rw[← De,hes,Ao]
 have hkl:kvs.length=ks.length:=by have:=congrArg Rb hks;simpa using this
 refine Kh kind_sorted plain_sorted entry_sorted (args_sorted1 _) ?_;unfold Ov;refine Ah (m:=checkCount "sorted" 1 1 _) (As ?_);refine Ah (Xu (Qt1 (ep:=ep) hs) (I.ok.hd hc) ⟨od,ho,hex,hdat⟩ (by rw[hesz,← hlen];exact Dy hbig (by decide)) λh1 tk us hk hul hit=>?_)
 -- the keys' addresses
 have I1:Inv X pins σ H { s with heap:=h1,toks:=tk }:=I.kept (t':=tk) hk;have eus:us=(ps.map λq=>q.2.1).map Br:=by
  apply Mv;intro i;by_cases hi:i<us.length
  ·obtain ⟨e,e1,e2⟩:=hit i us[i] (Bo hi);have hi':i<ps.length:=by lia
   have:es[i]? = some (entryOfKey (tupleKind (Q1 X.prog X.w)) ps[i]):=by
    rw[← Fm,hes,Au,Bo hi'];rfl
   rw[this]at e1;cases e1;rw[Bo hi,Au,Au,Bo hi',e2];rfl
  ·rw[B7 (by lia),B7 (by simp;lia)]
 have at_:∀(i:Nat) b,(ps.map λq=>q.2.1)[i]? = some b->∃k,ks[i]? = some k/\H b=some (.tup (k.map V.int)):=λi b hb=>by
  rw[Au]at hb;cases e:ps[i]? with
  |none=>rw[e]at hb;cases hb
  | some p=>
   rw[e]at hb;have hb:=(Bq hb)
   have hi:i<kvs.length:=by rw[hlen];exact(Be.mp e).1
   obtain⟨r1,r2,_⟩:=X9 rel (Bo hi) e;have hk:ks[i]? = some (ks[i]'(by omega)):=Bo (by lia);refine⟨_,hk,?_⟩;have e2:(kvs.map (·.1))[i]? = (ks.map λk=>k.map Nh)[i]?:=by rw[hks]
   rw[Au,Au,Bo hi,hk]at e2;have e2:kvs[i].1=(ks[i]'(by omega)).map Nh:=Bq e2;subst hb;rw[r2,e2,By];rfl
 -- a number for each address
 have inS:∀b∈ps.map (λq=>q.2.1),∃k∈ks,H b=some (.tup (k.map V.int)):=λb hb=>by
  obtain⟨i,hi⟩:=Si hb;obtain⟨k,h3,h4⟩:=at_ i b hi;exact⟨k,Du h3,h4⟩
 let key:Addr->List Int:=Qt0 H;have keyE:∀(b:Addr)(k:List Int),H b=some (.tup (k.map V.int))->key b=k:=λb k e=>by
  show Qt0 H b=k;unfold Qt0;rw[e];show(k.map V.int).map Qri=k;rw[By];exact Ik _
 have hS:∀h':Heap,(∀b o,h1.get? b=some o->h'.get? b=some o)->Srt.Qfl h' (λb=>b∈ps.map λq=>q.2.1) key:=λh' hk' b hb=>by
  obtain⟨k,hkm,hH⟩:=inS b hb;obtain⟨_,its,rv,o,e1,e2,n,e3⟩:=I1.hok b _ hH;rw[keyE b k hH];exact⟨o,its,n,hk' _ _ e1,e2,e3,Qae rv,hne k hkm⟩
 subst eus;have hlA:(ps.map λq=>q.2.1).length=kvs.length:=by rw[Ao,hlen]
 refine Ah (Iy ?_ (by rw[Ao,hlA];exact Dy hbig (by decide)));have hoL:(h1.push (seqObj "list" ((ps.map λq=>q.2.1).map Br).toArray 0)).get? h1.objs.size=some (seqObj "list" ((ps.map λq=>q.2.1).map Br).toArray 0):=Bp _ rfl;refine Ah (Nq (D7 slot_list_sort ⟨_,hoL,rfl⟩ entry_list_sort (Srt.Qi4 (num:=λb=>num (key b)) hoL (hS _ λb o e=>An _ e) (λx y hx hy=>?_) (λx hx=>hx) (by lia) (by lia) λout a1 a2=>⟨_,rfl,?_⟩) (args_list_sort _)))
 ·obtain⟨k1,m1,e1⟩:=inS x hx;obtain⟨k2,m2,e2⟩:=inS y hy;rw[keyE x k1 e1,keyE y k2 e2];exact hnum k1 m1 k2 m2
 refine As ⟨_,rfl,?_⟩;obtain⟨e,he⟩:=sortedHeap_at (out:=(out.map Br).toArray) hoL;have vr:∀l:List Addr,Vals (l.map V.ref) (l.map Br):=λl=>by
  induction l with
  |nil=>exact .nil
  |cons x l ih=>exact .cons rfl ih
 have I2:Inv X pins σ (upd H h1.objs.size (.lst (out.map V.ref))) { s with heap:=sortedHeap (h1.push (seqObj "list" ((ps.map λq=>q.2.1).map Br).toArray 0)) h1.objs.size ((ps.map λq=>q.2.1).map Br) (out.map Br).toArray,toks:=tk }:=by
  refine I1.laid (t':=tk) (λb o eb=>?_) (At _) ⟨?_,out.map Br,e,vr out,he⟩
  ·have hb:=Bf eb;rw[sortedHeap_old (Bv hb) (by rw[size_push'];exact Tb hb)];exact An _ eb
  ·rw[Ao,a1.length_eq,hlA,Md];lia
 refine⟨.ref h1.objs.size,_,I2,rfl,q (out.map key) out _ ?_ ?_ (by simp) (λi b k hb hk=>?_) (I1.hok.fresh (At _))⟩
 ·refine (a1.map key).trans (List.Perm.of_eq ?_);apply Mv;intro i;rw[Au];cases e:(ps.map λq=>q.2.1)[i]? with
  |none=>rw[B7 (by have:=List.getElem?_eq_none_iff.mp e;lia)];rfl
  | some b=>
   obtain⟨k,h3,h4⟩:=at_ i b e;rw[h3];show some (key b)=some k;rw[keyE b k h4]
 ·exact Dl.mpr a2
 ·have hbm:b∈ps.map λq=>q.2.1:=a1.mem_iff.mp (Du hb);obtain⟨k1,_,e1⟩:=inS b hbm;rw[Au,hb]at hk;have:key b=k:=Bq hk;rw[keyE b k1 e1]at this;rw[← this];exact e1
end L2
variable {g:Nat->Nat}
namespace M
def sp(m i:Nat):Int×Int:=if i<4*m then (((i/4:Nat):Int),((i%4:Nat):Int))else (-1,((i-4*m:Nat):Int))
theorem Quw(hk:k<m)(hj:j<4):sp m (4*k+j)=((k:Int),(j:Int)):=by
 unfold sp;rw[if_pos (by lia)];congr 1<;>lia
theorem Qk0(m j:Nat):sp m (4*m+j)=(-1,(j:Int)):=by
 unfold sp;rw[if_neg (by lia)];congr 1;lia
theorem Qqr(h:sp m i=sp m j):i=j:=by
 unfold sp at h;by_cases hi:i<4*m
 ·rw[if_pos hi]at h;by_cases hj:j<4*m
  ·rw[if_pos hj]at h;have h1:=congrArg Prod.fst h;have h2:=congrArg Prod.snd h;dsimp only at h1 h2;lia
  ·rw[if_neg hj]at h;have h1:=congrArg Prod.fst h;dsimp only at h1;lia
 ·rw[if_neg hi]at h;by_cases hj:j<4*m
  ·rw[if_pos hj]at h;have h1:=congrArg Prod.fst h;dsimp only at h1;lia
  ·rw[if_neg hj]at h;have h2:=congrArg Prod.snd h;dsimp only at h2;lia
structure Tw(n:Nat)(A:Nat->Int)(g:Nat->Nat):Prop where
 lt:∀i,i<n->g i<n
 ne:∀i,i<n->g i≠i
 eq:∀i,i<n->A (g i)=A i
 only:∀i k,i<n->k<n->A k=A i->k=i\/k=g i
theorem Tw.inv{A:Nat->Int}(T:Tw n A g)(h:i<n):g (g i)=i:=by
 rcases T.only (g i) i (T.lt i h) h (T.eq i h).symm with z|z
 ·exact absurd z.symm (T.ne i h)
 ·exact z.symm
def addP(P:List (Int×List Nat))(a:Int)(i:Nat):List (Int×List Nat) :=
 if (P.any λe=>decide (e.1=a))=true then P.map (λe=>if e.1=a then (e.1,e.2++[i])else e)else P++[(a,[i])]
def plc(A:Nat->Int)(t:Nat):List (Int×List Nat):=(Ai t).foldl (λP i=>addP P (A i) i) []
theorem X7(A:Nat->Int)(t:Nat):plc A (t+1)=addP (plc A t) (A t) t:=by
 unfold plc;rw[Nz,List.foldl_append];rfl
theorem Qfk(P:List (Int×List Nat))(a:Int)(i:Nat):(addP P a i).map (·.1)=if (P.any λe=>decide (e.1=a))=true then P.map (·.1)else P.map (·.1)++[a]:=by
 unfold addP;by_cases h:(P.any λe=>decide (e.1=a))=true
 ·rw[if_pos h,if_pos h,By];apply B8;intro e _;show(if e.1=a then (e.1,e.2++[i])else e).1=e.1
  split<;>rfl
 ·rw[if_neg h,if_neg h,Mi];rfl
theorem Qb9(A:Nat->Int):∀t,((plc A t).map (·.1)).Nodup/\(∀e∈plc A t,e.2=(Ai t).filter (λi=>decide (A i=e.1))/\e.2≠[])/\∀i,i<t->∃e∈plc A t,e.1=A i:=by
 intro t
 induction t with
 |zero=>exact⟨D8,(λe h=>by cases h),λi h=>absurd h (Nat.not_lt_zero _)⟩
 | succ t ih=>
  obtain ⟨h1,h2,h3⟩:=ih;rw[X7];have hr:∀(p:Nat->Bool),(Ai (t+1)).filter p=(Ai t).filter p++if p t then [t]else []:=λp=>by
   rw[Nz,S1];congr 1;by_cases hp:p t=true
   ·simp[hp]
   ·simp[hp]
  by_cases h:((plc A t).any λe=>decide (e.1=A t))=true
  ·refine ⟨by rw[Qfk,if_pos h];exact h1,λe he=>?_,λi hi=>?_⟩
   ·unfold addP at he;rw[if_pos h]at he;obtain⟨e',he',rfl⟩:=Aq.mp he;obtain⟨a1,a2⟩:=h2 e' he';by_cases hk:e'.1=A t
    ·rw[if_pos hk];refine⟨?_,by simp⟩;show e'.2++[t]=_;rw[hr,← a1,if_pos (by simp[hk])]
    ·rw[if_neg hk];refine⟨?_,a2⟩;rw[hr,← a1,if_neg (by simp;exactλz=>hk z.symm),D6]
   ·have hmem:∀e∈plc A t,∃e'∈addP (plc A t) (A t) t,e'.1=e.1:=λe he=>by
     have:e.1∈(addP (plc A t) (A t) t).map (·.1):=by rw[Qfk,if_pos h];exact Aq.mpr ⟨e,he,rfl⟩
     obtain⟨e',h1',h2'⟩:=Aq.mp this;exact⟨e',h1',h2'⟩
    by_cases hit:i<t
    ·obtain⟨e,he,q⟩:=h3 i hit;obtain⟨e',a1,a2⟩:=hmem e he;exact⟨e',a1,a2.trans q⟩
    ·have:i=t:=by lia
     subst this;obtain⟨e,he,q⟩:=Ra.mp h;obtain⟨e',a1,a2⟩:=hmem e he;exact⟨e',a1,a2.trans (of_decide_eq_true q)⟩
  ·have hno:∀e∈plc A t,e.1≠A t:=λe he z=>h (Ra.mpr ⟨e,he,decide_eq_true z⟩);have hadd:addP (plc A t) (A t) t=plc A t++[(A t,[t])]:=by unfold addP;rw[if_neg h]
   rw[hadd];refine⟨?_,λe he=>?_,λi hi=>?_⟩
   ·rw[Mi];refine Dm.mpr ⟨h1,by simp,λa ha b hb=>?_⟩;obtain⟨e,he,rfl⟩:=Aq.mp ha;have:b=A t:=by simpa using hb
    rw[this];exact hno e he
   ·rcases Aj.mp he with he|he
    ·obtain⟨a1,a2⟩:=h2 e he;refine⟨?_,a2⟩;rw[hr,← a1,if_neg (by simp;exactλz=>hno e he z.symm),D6]
    ·have ee:e=(A t,[t]):=by simpa using he
     subst ee;refine⟨?_,by simp⟩;rw[hr,if_pos (by simp)];have:(Ai t).filter (λi=>decide (A i=A t))=[]:=by
      rw[List.filter_eq_nil_iff];intro i hi;have hi':i<t:=Ay.mp hi;obtain⟨e,he,q⟩:=h3 i hi';simp;intro z;exact hno e he (q.trans z)
     show[t]=List.filter (λi=>decide (A i=A t)) (Ai t)++[t];rw[this];rfl
   ·by_cases hit:i<t
    ·obtain⟨e,he,q⟩:=h3 i hit;exact⟨e,Tl _ he,q⟩
    ·have:i=t:=by lia
     subst this;exact⟨_,Dk _ (Ap.mpr rfl),rfl⟩
theorem Qfz{A:Nat->Int}(T:Tw n A g):(∀e∈plc A n,∃i,i<n/\e.2=[i,g i])/\∀i,i<n->∃e∈plc A n,i∈e.2:=by
 obtain⟨_,h2,h3⟩:=Qb9 A n;constructor
 ·intro e he;obtain⟨a1,a2⟩:=h2 e he;have mem:∀k,k∈e.2↔k<n/\A k=e.1:=λk=>by rw[a1,Df,Ay];simp
  have nd:e.2.Nodup:=by rw[a1];exact Nr.sublist List.filter_sublist
  cases hl:e.2 with
  |nil=>exact absurd hl a2
  | cons i r=>
   rw [hl]at mem nd;obtain⟨hi,hA⟩:=(mem i).mp Ak;obtain⟨n1,n2⟩:=Bd.mp nd;refine⟨i,hi,?_⟩;have gm:g i∈i::r:=(mem (g i)).mpr ⟨T.lt i hi,(T.eq i hi).trans hA⟩;have gr:g i∈r:=(Ar.mp gm).resolve_left (T.ne i hi);have all:∀k∈r,k=g i:=λk hk=>by
    obtain⟨k1,k2⟩:=(mem k).mp (Al _ hk);rcases T.only i k hi k1 (k2.trans hA.symm)with z|z
    ·exact absurd (z ▸ hk) n1
    ·exact z
   have hr:r=[g i]:=by
    cases r with
    |nil=>cases gr
    | cons x r'=>
     have hx:=all x Ak;cases r' with
     |nil=>rw[hx]
     | cons y r''=>
      have hy:=all y (Al _ Ak);have:=(Bd.mp n2).1;exact absurd (by rw[hx,← hy];exact Ak) this
   rw[hr]
 ·intro i hi;obtain⟨e,he,q⟩:=h3 i hi;obtain⟨a1,_⟩:=h2 e he;exact⟨e,he,by rw[a1,Df];exact⟨Ay.mpr hi,by simp[q]⟩⟩
def nxt(e:Nat)(q:Int×Int):Int×Int:=if q.1 = -1 then (-1,(q.2+1)%(e:Int))else (q.1,(q.2-1)%4)
def nx(m e i:Nat):Nat:=if i<4*m then 4*(i/4)+(i%4+3)%4 else 4*m+(i-4*m+1)%e
theorem Qpi{e:Nat}(h:i<4*m+e):nx m e i<4*m+e:=by
 unfold nx;by_cases hi:i<4*m
 ·rw[if_pos hi];lia
 ·rw[if_neg hi];have:=S7 (i-4*m+1) (show 0<e by lia);lia
theorem Qyb{e:Nat}(h:i<4*m+e):sp m (nx m e i)=nxt e (sp m i):=by
 unfold nx;by_cases hi:i<4*m
 ·rw[if_pos hi,Quw (by lia) (by lia)];unfold sp nxt;rw[if_pos hi,if_neg (by dsimp only;lia)];congr 1;dsimp only;lia
 ·rw[if_neg hi,Qk0];unfold sp nxt;rw[if_neg hi,if_pos rfl];congr 1
theorem Qq7{e:Nat}(hi:i<4*m+e)(hj:j<4*m+e)(h:nx m e i=nx m e j):i=j:=by
 unfold nx at h;by_cases h1:i<4*m
 ·rw[if_pos h1]at h;by_cases h2:j<4*m
  ·rw[if_pos h2]at h;lia
  ·rw[if_neg h2]at h;lia
 ·rw [if_neg h1]at h;by_cases h2:j<4*m
  ·rw[if_pos h2]at h;lia
  ·rw [if_neg h2]at h;have a:(i-4*m+1)%e=(j-4*m+1)%e:=by lia
   have b1:(i-4*m+1)%e=if i-4*m+1=e then 0 else i-4*m+1:=by
    by_cases q:i-4*m+1=e
    ·rw[if_pos q,q,Kn]
    ·rw[if_neg q];exact Dn (by lia)
   have b2:(j-4*m+1)%e=if j-4*m+1=e then 0 else j-4*m+1:=by
    by_cases q:j-4*m+1=e
    ·rw[if_pos q,q,Kn]
    ·rw[if_neg q];exact Dn (by lia)
   rw[b1,b2]at a
   split at a<;>split at a<;>lia
theorem Qas:∀{l r:List (List Int)},l.Perm r->l.Pairwise (λa b=>HT.Zg b a=false)->r.Pairwise (λa b=>HT.Zg b a=false)->l=r
 | [],r,p,_,_=>(List.Perm.nil_eq p)
 |a::l,[],p,_,_=>by have:=p.length_eq;simp at this
 | a::l,b::r,p,ha,hb=>by
  obtain ⟨a1,a2⟩:=R3.mp ha;obtain⟨b1,b2⟩:=R3.mp hb;have hab:HT.Zg b a=false:=by
   rcases Ar.mp (p.mem_iff.mpr (Ak (a:=b)))with z|z
   ·rw[z];cases q:HT.Zg a a with
    |false=>rfl
    |true=>have:=SortT.Qdg _ _ q;rw[q]at this;cases this
   ·exact a1 b z
  have hba:HT.Zg a b=false:=by
   rcases Ar.mp (p.mem_iff.mp (Ak (a:=a)))with z|z
   ·rw[z];cases q:HT.Zg b b with
    |false=>rfl
    |true=>have:=SortT.Qdg _ _ q;rw[q]at this;cases this
   ·exact b1 a z
  have e:=SortT.Qh8 a b hba hab;subst e;rw[Qas (p.cons_inv) a2 b2]
end M
namespace L2
open PySem PySem.Spec PyProof.Rows
structure Lam where
 qual:Str
 args:Arguments
 body:Expr
 scope:Scope
 names:List Str
end L2
variable {xs:List L2.V}{Q Q':L2.VK}{cs:List Dj}{L:L2.Lam}
namespace L2
open PySem PySem.Spec PyProof.Rows
abbrev anyO:HO:=.ext λ_=>True
abbrev Lam.obj(L:Lam)(cl:List (Str×Addr))(pm:Value)(c':Addr)(ctv:Value):Obj:=PySem.W.kla_obj "<lambda>" L.qual L.args L.body L.scope cl pm c' ctv
def Xw(H:Hp)(L:Lam)(a:Addr)(cl:List (Str×Addr)):Prop :=
 ∃(c':Addr)(oc:Obj)(vs:Array Value)(t:Tok)(pm ctv:Value)(u:HO),H a=some (.frz (L.obj cl pm c' ctv) anyO)/\H c'=some (.frz oc u)/\oc.data=.fields vs/\vs[1]? = some (.str L.qual t)
def Jx(H:Hp):List (Str×Addr)->List V->Prop
 | [],[]=>True
 |p::cl,x::xs=>(∃oo v,H p.2=some (.frz oo anyO)/\oo.data=.cell (some v)/\RelV x v)/\Jx H cl xs
 |_,_=>False
def Qb3(H:Hp)(L:Lam)(a:Addr)(xs:List V):Prop :=
 ∃cl:List (Str×Addr),Xw H L a cl/\cl.map (·.1)=L.names/\(cl.map (·.2)).Nodup/\Jx H cl xs
theorem Xw.keeps(hi:∀b o u,H b=some (.frz o u)->H' b=some (.frz o u))(x:Xw H L a cl):Xw H' L a cl:=by
 obtain⟨c',oc,vs,t,pm,ctv,u,h1,h2,r⟩:=x;exact⟨c',oc,vs,t,pm,ctv,u,hi _ _ _ h1,hi _ _ _ h2,r⟩
theorem Jx.keeps(hi:∀b o u,H b=some (.frz o u)->H' b=some (.frz o u)):∀{cl:List (Str×Addr)} {xs:List V},Jx H cl xs->Jx H' cl xs
 | [],[],_=>trivial
 |p::cl,x::xs,⟨⟨oo,v,h1,r⟩,q⟩=>⟨⟨oo,v,hi _ _ _ h1,r⟩,Jx.keeps hi q⟩
 | [],_::_,h=>h.elim
 |_::_,[],h=>h.elim
theorem Qb3.keeps(hi:∀b o u,H b=some (.frz o u)->H' b=some (.frz o u))(x:Qb3 H L a xs):Qb3 H' L a xs:=by
 obtain⟨cl,h1,h2,h3,h4⟩:=x;exact⟨cl,h1.keeps hi,h2,h3,h4.keeps hi⟩
theorem Jx.mem:∀{cl:List (Str×Addr)} {xs:List V},Jx H cl xs->∀p∈cl,∃oo v,H p.2=some (.frz oo anyO)/\oo.data=.cell (some v)
 | p::cl,x::xs,⟨⟨oo,v,h1,h2,_⟩,q⟩,p',h=>by
  rcases Ar.mp h with rfl|h
  ·exact⟨oo,v,h1,h2⟩
  ·exact Jx.mem q p' h
 |_::_,[],h,_,_=>h.elim
theorem Jx.length:∀{cl:List (Str×Addr)} {xs:List V},Jx H cl xs->cl.length=xs.length
 | [],[],_=>rfl
 |p::cl,x::xs,⟨_,q⟩=>by rw[Am,Am,Jx.length q]
 | [],_::_,h=>h.elim
 |_::_,[],h=>h.elim
theorem Jx.get:∀{cl:List (Str×Addr)} {xs:List V} {i:Nat} {x:V},Jx H cl xs->xs[i]? = some x->∃p oo v,cl[i]? = some p/\H p.2=some (.frz oo anyO)/\oo.data=.cell (some v)/\RelV x v
 | p::cl,x::xs,0,y,⟨⟨oo,v,h⟩,q⟩,e=>by
  simp at e;subst e;exact⟨p,oo,v,by simp,h⟩
 | p::cl,x::xs,i+1,y,⟨_,q⟩,e=>by
  obtain⟨p',oo,v,h⟩:=Jx.get (i:=i) q (by simpa using e);exact⟨p',oo,v,by simpa using h⟩
 | [],[],_,_,_,e=>by simp at e
 | [],_::_,_,_,h,_=>h.elim
 |_::_,[],_,_,h,_=>h.elim
def rmC(H:Hp)(cs:List Addr):Hp:=λb=>if b∈cs then none else H b
def putC(H2 H:Hp)(cs:List Addr):Hp:=λb=>if b∈cs then H b else H2 b
theorem Qel(h:b∈cs):rmC H cs b=none:=if_pos h
theorem Jw(h:b∉cs):rmC H cs b=H b:=if_neg h
theorem V3(h:H b=none):rmC H cs b=none:=by unfold rmC;split<;>first|rfl|exact h
theorem Qfy(h:b∈cs):putC H2 H cs b=H b:=if_pos h
theorem Yk(h:b∉cs):putC H2 H cs b=H2 b:=if_neg h
def Y4(H:Hp)(cs:List Addr):Prop:=∀b∈cs,∃oo v,H b=some (.frz oo anyO)/\oo.data=.cell v
section
variable {K:Frag}
theorem Y4.out(c:Y4 H cs){o:HO}(e:H b=some o)(n:∀oo v,o=.frz oo anyO->oo.data=.cell v->False):b∉cs:=λhb=>by
 obtain⟨oo,v,e1,e2⟩:=c b hb;rw[e]at e1;cases e1;exact n oo v rfl e2
theorem HOk.rm(ok:HOk P w H h)(c:Y4 H cs):HOk P w (rmC H cs) h:=λa o e=>by
 have ha:a∉cs:=λz=>by rw[Qel z]at e;cases e
 rw[Jw ha]at e;refine(ok a o e).stay (λb u _ q=>q) (λb q=>?_) (λb xs q=>?_) λb u v vs q hd=>?_
 ·rw[Jw (c.out q λ_ _ z _=>by cases z)];exact q
 ·rw[Jw (c.out q λ_ _ z _=>by cases z)];exact q
 ·rw[Jw (c.out q λoo v z hd'=>by cases z;rw[hd]at hd';cases hd')];exact q
theorem Env0.rm(e:Env0 P w K mg base A outer s H)(c:Y4 H cs):Env0 P w K mg base A outer s (rmC H cs) :=
 ⟨e.frames,e.mod,λb o q=>⟨(e.bs b o q).1,V3 (e.bs b o q).2⟩,e.bsz,e.funs,λb hb=>V3 (e.frf b hb),e.hok.rm c,e.bare⟩
theorem CE.back(e:Env0 P w K mg base A outer s H)(c:Y4 H cs)(x:CE outer P w (rmC H cs) s Q' u s')(hq:∀v H2,(∀b∈cs,H2 b=none)->Q' v H2->Q v (putC H2 H cs)):CE outer P w H s Q u s':=by
 obtain ⟨v,H2,os,bare,un,hok,r,q⟩:=x;have gone:∀b∈cs,H2 b=none:=λb hb=>by
  obtain⟨oo,v,e1,_⟩:=c b hb;obtain⟨e2,_⟩:=e.hok b _ e1;exact un.free b _ e2 (Qel hb) (by simp)
 have outN:∀b,H b=none->b∉cs:=λb n hb=>by
  obtain⟨oo,v,e1,_⟩:=c b hb;rw[n]at e1;cases e1
 have out2:∀b o,H2 b=some o->b∉cs:=λb o q hb=>by rw[gone b hb]at q;cases q
 refine⟨v,putC H2 H cs,os,bare,⟨λb o q n=>un.keep b o q (V3 n),λb o q n=>un.slot b o q (V3 n),λb o q n hx=>?_,un.there,λb xs q=>?_,λb o v' q=>?_,λb ps q=>?_⟩,λa o q=>?_,r,hq v H2 gone q⟩
 ·rw[Yk (outN b n)];exact un.free b o q (V3 n) hx
 ·have z:=c.out q λ_ _ z _=>by cases z
  rw[Yk z];exact un.tups b xs (by rw[Jw z];exact q)
 ·by_cases z:b∈cs
  ·rw[Qfy z];exact q
  ·rw[Yk z];exact un.frzs b o v' (by rw[Jw z];exact q)
 ·have z:=c.out q λ_ _ z _=>by cases z
  obtain⟨more,e1⟩:=un.tbls b ps (by rw[Jw z];exact q);exact⟨more,by rw[Yk z];exact e1⟩
 ·by_cases z:a∈cs
  ·rw[Qfy z]at q;obtain⟨oo,v',e1,_⟩:=c a z;rw[e1]at q;cases q;obtain⟨e2,_⟩:=e.hok a _ e1;have e3:=un.keep a _ e2 (Qel z) (λhb=>by rw[e.frf a hb]at e1;cases e1) (by simp);exact⟨e3,trivial,⟨_,e3⟩,λ_ _ _ _=>trivial⟩
  ·rw[Yk z]at q;refine(hok a o q).stay (λb u _ q=>q) (λb q=>?_) (λb xs q=>?_) λb u v vs q _=>?_
   ·rw[Yk (out2 b _ q)];exact q
   ·rw[Yk (out2 b _ q)];exact q
   ·rw[Yk (out2 b _ q)];exact q
end
def addC(H:Hp)(h:Heap)(cs:List Addr):Hp:=λb=>if b∈cs then (h.get? b).map λo=>.frz o anyO else H b
section
variable {K:Frag}
theorem Qd0{o:Obj}(hb:b∈cs)(e:h.get? b=some o):addC H h cs b=some (.frz o anyO):=by unfold addC;rw[if_pos hb,e];rfl
theorem Yn(hb:b∉cs):addC H h cs b=H b:=if_neg hb
theorem Gx(n:∀b∈cs,H b=none):∀b o,H b=some o->addC H h cs b=some o:=λb o e=>by
 rw[Yn λhb=>by rw[n b hb]at e;cases e];exact e
theorem HOk.addC{h:Heap}(ok:HOk P w H h)(n:∀b∈cs,H b=none)(t:∀b∈cs,∃o,h.get? b=some o):HOk P w (addC H h cs) h:=λa o e=>by
 by_cases z:a∈cs
 ·obtain⟨ob,eb⟩:=t a z;rw[Qd0 z eb]at e;cases e;exact⟨eb,trivial,⟨_,eb⟩,λ_ _ _ _=>trivial⟩
 ·rw[Yn z]at e;exact(ok a o e).stay (λb u _ q=>q) (λb q=>Gx n b _ q) (λb xs q=>Gx n b _ q) λb u v vs q _=>Gx n b _ q
theorem Env0.addC(e:Env0 P w K mg base A outer s H)(n:∀b∈cs,H b=none)(t:∀b∈cs,∃o,s.heap.get? b=some o)(hb:∀b∈cs,base.get? b=none)(hf:∀b∈cs,b∉frs outer):Env0 P w K mg base A outer s (addC H s.heap cs) :=
 ⟨e.frames,e.mod,λb o q=>⟨(e.bs b o q).1,by rw[Yn λz=>by rw[hb b z]at q;cases q];exact(e.bs b o q).2⟩,e.bsz,e.funs,λb z=>by rw[Yn λy=>hf b y z];exact e.frf b z,e.hok.addC n t,e.bare⟩
theorem CE.unC(n:∀b∈cs,H b=none)(t:∀b∈cs,∃o,s.heap.get? b=some o/\∃v,o.data=.cell v)(x:CE outer P w (addC H s.heap cs) s Q' u s')(hq:∀v H2,Y4 H2 cs->Q' v H2->Q v (rmC H2 cs)):CE outer P w H s Q u s':=by
 obtain ⟨v,H2,os,bare,un,hok,r,q⟩:=x;have isC:Y4 H2 cs:=λb hb=>by
  obtain⟨o,e,v,hv⟩:=t b hb;exact⟨o,v,un.frzs b o _ (Qd0 hb e),hv⟩
 have outS:∀b o,H b=some o->b∉cs:=λb o q hb=>by rw[n b hb]at q;cases q
 have kept:∀b∈cs,∀o,s.heap.get? b=some o->s'.heap.get? b=some o:=λb hb o e=>(hok b _ (un.frzs b o _ (Qd0 hb e))).1;refine⟨v,rmC H2 cs,os,bare,⟨λb o q n' hb hx=>?_,λb o q n' hb hx=>?_,λb o q n' hx=>?_,λb o q hx=>?_,λb xs q=>?_,λb o v' q=>?_,λb ps q=>?_⟩,hok.rm isC,r,hq v H2 isC q⟩
 ·by_cases z:b∈cs
  ·exact kept b z o q
  ·exact un.keep b o q (by rw[Yn z];exact n') hb hx
 ·by_cases z:b∈cs
  ·exact⟨o.slots,kept b z o q⟩
  ·exact un.slot b o q (by rw[Yn z];exact n') hb hx
 ·by_cases z:b∈cs
  ·exact Qel z
  ·rw[Jw z];exact un.free b o q (by rw[Yn z];exact n') hx
 ·exact un.there b o q hx
 ·have z:=outS b _ q;rw[Jw z];exact un.tups b xs (by rw[Yn z];exact q)
 ·have z:=outS b _ q;rw[Jw z];exact un.frzs b o v' (by rw[Yn z];exact q)
 ·have z:=outS b _ q;obtain⟨more,e⟩:=un.tbls b ps (by rw[Yn z];exact q);exact⟨more,by rw[Jw z];exact e⟩
end
end L2
variable {v:L2.V}{more:Array Fg}{clos:List (Re×Dj)}{lam:Nb}
namespace L2
open PySem PySem.Spec PyProof.Rows
open PySem.W (kla_obj kla_fn envX CodeHd codeHd_of_K codeHdIn tabObj)
def Vx(mg:Str->Option Value)(base:Heap):Prop:=∃bm ob,mg "__builtins__" = some (.ref bm)/\bm≠builtinsNs/\base.get? bm=some ob/\ob.cls=.type "module" /\ ob.dict=some builtinsNs/\ob.data=.plain
def Tabs(TB:List (Addr×Array Value))(H:Hp):Prop:=∀p∈TB,∃more,H p.1=some (.tbl (p.2++more))
theorem Tabs.un{TB:List (Addr×Array Value)}{fs:List Addr}(t:Tabs TB H)(u:Un fs ex H H' h h'):Tabs TB H':=λp hp=>by
 obtain⟨m,e⟩:=t p hp;obtain⟨m2,e2⟩:=u.tbls _ _ e;exact⟨m++m2,by rw[e2,Il]⟩
abbrev tgOf(pos:Pos)(q:Str):Array Value:=#[rawInt pos.line,rawInt pos.col,.str q 0]
theorem tg0{a b c:Value}:(#[a,b,c]++more).getD 0 .none=a:=by rw[Se,Sn (by show 0<3;decide)];rfl
theorem tg1{a b c:Value}:(#[a,b,c]++more).getD 1 .none=b:=by rw[Se,Sn (by show 1<3;decide)];rfl
theorem tg2{a b c:Value}:(#[a,b,c]++more).getD 2 .none=c:=by rw[Se,Sn (by show 2<3;decide)];rfl
theorem Qq5{c P:Addr}{lpos:Pos}(hcode:X.env.code=.ref c)(hd:codeHdIn X.K c P=true)(hT:∃more,X.H₀ P=some (.tbl (tgOf lpos L.qual++more)))(hb:Vx X.mg X.base)
  (hq:X.env.qual ++ "<lambda>" = L.qual:=by rfl) (hcl:closureFor L.scope X.env=pure clos:=by rfl) (hdef:defaultsOf L.args X.env=([],[]):=by rfl) :
  PE X (.Lambda L.args L.body L.scope lpos) (λσ H Q=>∀f H',H f=none->Same H H'->Xw H' L f clos->Q (.ref f) H'):=by
 intro pins s σ H Q I h;refine PySem.W.kla_eval hdef ?_;rw[hq];obtain⟨more0,e0⟩:=hT;obtain⟨more,eP⟩:=I.base.tbls P _ e0;rw[Il]at eP;obtain⟨ts,eT,alt⟩:=I.hok P _ eP;rw[tg0,tg1,tg2]at alt;obtain⟨bm,ob,b1,b2,b3,b4,b5,b6⟩:=hb;have hbm:=I.bs bm ob b3;have hPbm:bm≠P:=λz=>by rw[z]at hbm;rw[eP]at hbm;cases hbm.2
 obtain ⟨og,esg,epg,eg,dg,rg⟩:=id I.mod.glob;have hGP:mainGlobals≠P:=λz=>by
  have:=(I.bs _ og eg).2;rw[z,eP]at this;cases this
 have hbmG:bm≠mainGlobals:=λz=>by
  rw[z,eg]at b3;cases b3;rw[dg]at b6;cases b6
 have hgl:s.heap.Ns mainGlobals X.mg:=I.mod.glob.keeps I.bk;have BA:s.heap.BuiltinsAt X.mg P:=⟨bm,ob,b1,b2,hbmG,hPbm,hbm.1,b4,b5,b6⟩
 have C:CodeHd s.heap c P:=codeHd_of_K I.kIn hd;rcases alt with rfl|⟨k,oc,u,vs,t,q,t',z1,z2,z3,z4,z5⟩
 ·refine PySem.W.kla_makeFunction hcl I.ok.glob hgl hcode C eT trivial rfl hGP BA λc' ctv h' tk hx hge hlt hrec htb=>?_;obtain⟨c2,oc,vs,t,e2,hoc,hod,hv⟩:=hrec;cases e2;generalize hpm:(X.mg "__name__").getD .none=pm;have hcn:H c'=none:=I.hok.fresh hge;have hfn:H h'.objs.size=none:=I.hok.fresh (Dy hge (Nj hlt));have hfc:h'.objs.size≠c':=D1 hlt;have old:∀b o,s.heap.get? b=some o->b≠P->(h'.push (L.obj clos pm c' ctv)).get? b=some o:=λb o e n=>An _ (hx b o n e);have lt:∀b o,s.heap.get? b=some o->b≠h'.objs.size/\b≠c':=λb o e=>⟨Bv (Oa (Bs (Bf e) hge) hlt),Bv (Bs (Bf e) hge)⟩
  have nP:∀b,H b=none->b≠P:=λb n z=>by rw[z,eP]at n;cases n
  have sm:∀b o,H b=some o->upd (upd H c' (.frz oc anyO)) h'.objs.size (.frz (L.obj clos pm c' ctv) anyO) b=some o:=λb o e=>by
   rw[Ql (Qw e hfn),Ql (Qw e hcn)];exact e
  have hc2:upd (upd H c' (.frz oc anyO)) h'.objs.size (.frz (L.obj clos pm c' ctv) anyO) c'=some (.frz oc anyO):=by rw[Ql (Mk hfc),Qf]
  have I':Inv X pins σ (upd (upd H c' (.frz oc anyO)) h'.objs.size (.frz (L.obj clos pm c' ctv) anyO)) { s with heap:=h'.push (L.obj clos pm c' ctv),toks:=tk }:=by
   refine I.un ⟨λb o e n _ _=>old b o e (nP b n),λb o e n _ _=>⟨o.slots,old b o e (nP b n)⟩,λb o e n _=>?_,λb o e _=>?_,λb xs e=>sm _ _ e,λb o v e=>sm _ _ e,λb ps e=>⟨#[],by rw[sm _ _ e];simp⟩⟩ λa o e=>?_
   ·rw[Ql (lt b o e).1,Ql (lt b o e).2];exact n
   ·by_cases z:b=P
    ·exact⟨_,by rw[z];exact An _ htb⟩
    ·exact⟨_,old b o e z⟩
   ·by_cases z1:a=h'.objs.size
    ·subst z1;rw[Qf]at e;cases e;have e3:=Bp h' (o:=L.obj clos pm c' ctv) rfl;exact⟨e3,trivial,⟨_,e3⟩,λ_ _ _ _=>trivial⟩
    ·rw [Ql z1]at e;by_cases z2:a=c'
     ·subst z2;rw[Qf]at e;cases e;have e3:=An (L.obj clos pm a ctv) hoc;exact⟨e3,trivial,⟨_,e3⟩,λ_ _ _ _=>trivial⟩
     ·rw [Ql z2]at e;by_cases z3:a=P
      ·subst z3;rw[eP]at e;cases e;refine⟨_,An _ htb,.inr ⟨c',oc,anyO,vs,t,L.qual,0,?_,hc2,hod,tg2,hv⟩⟩;rw[tg0,tg1];rfl
      ·refine(I.hok a o e).stay (λb u hb q=>old b u q λz=>?_) (λb q=>sm _ _ q) (λb xs q=>sm _ _ q) λb u v vs q _=>sm _ _ q;rcases hb with hb|hb
       ·exact z3 (hb ▸ z)
       ·rw[z,eP]at hb;cases hb
  exact⟨.ref h'.objs.size,_,I',rfl,h _ _ hfn sm ⟨c',oc,vs,t,pm,ctv,anyO,Qf,hc2,hod,hv⟩⟩
 ·cases z4;refine PySem.W.kla_makeFunctionHit (cv:=.ref k) hcl I.ok.glob hgl hcode C eT (by rw[z1];exact trivial) (by rw[z1];simp[codeAmong,rawInt]) BA λctv h' tk hk hsz=>?_;generalize hpm:(X.mg "__name__").getD .none=pm;have hfn:H h'.objs.size=none:=I.hok.fresh hsz;have e3:=Bp h' (o:=L.obj clos pm k ctv) rfl;have sm:∀b o,H b=some o->upd H h'.objs.size (.frz (L.obj clos pm k ctv) anyO) b=some o:=λb o e=>by rw[Ql (Qw e hfn)];exact e
  exact⟨.ref h'.objs.size,_,I.laid (o:=.frz (L.obj clos pm k ctv) anyO) (λb o e=>An _ (hk b o e)) hsz ⟨e3,trivial,⟨_,e3⟩,λ_ _ _ _=>trivial⟩,rfl,h _ _ hfn sm ⟨k,oc,vs,t,pm,ctv,u,Qf,sm _ _ z2,z3,z5⟩⟩
def X4(P:Program)(w:World)(K:Frag)(mg:Str->Option Value)(base:Heap)(k:Nat)(L:Lam)(sp:Sp):Prop :=
 ∀(A:Around) (outer:List Env) (s:Shared) (H:Hp) (u:Value) (y:V) (xs:List V) (a:Addr) (Q:VK),Room k A->Env0 P w K mg base A outer s H->Qb3 H L a xs->RelV y u->sp (y::xs) H Q E0 ->
  codeAny (model P w) A (.call (.ref a) ⟨[u],[]⟩) (CR CX0 outer P w H s Q E0) s
noncomputable def Qp9(P:Program)(w:World)(K:Frag)(mg:Str->Option Value)(base:Heap)(L:Lam)(p:Str)(f:Addr)(cd:Value)(cl:List (Str×Addr))(A:Around)(outer:List Env)(s:Shared)(H:Hp):Cx where
 prog:=P
 w:=w
 K:=K
 mg:=mg
 base:=base
 A:=A.deeper (envX L.qual L.scope s.heap.objs.size f cd cl)
 N:=p::L.names
 s₀:=s
 H₀:=H
 env:=envX L.qual L.scope s.heap.objs.size f cd cl
 outer:=outer
 stack:=envX L.qual L.scope s.heap.objs.size f cd cl::outer
 ex:=[]
 calm:=true
 fn:=λx=>decide (x=p)
 pn:=[]
 xe:=λ_ _=>False
structure LamScope(L:Lam)(p:Str):Prop where
 kind:L.scope.kind=.function
 co:L.scope.isCoroutine=false
 gen:L.scope.isGenerator=false
 cell:∀x∈L.scope.names,x.2 ≠ .cell
 par:L.scope.names.lookup p=some .local
 free:∀x∈L.scope.names,x.2=.free->x.1∈L.names
 vis:∀x∈L.names,L.scope.names.lookup x=some .free
 nd:(p::L.names).Nodup
theorem Qa9:∀{cl:List (Str×Addr)} {i:Nat} {q:Str×Addr},(cl.map (·.1)).Nodup->cl[i]? = some q->cl.lookup q.1=some q.2
 | p::cl,0,q,_,e=>by
  simp at e;subst e;simp[Ii]
 | p::cl,i+1,q,nd,e=>by
  have nd':=Bd.mp nd;have e':cl[i]? = some q:=by simpa using e
  have:q.1≠p.1:=λz=>nd'.1 (by show p.1∈_;rw[← z];exact L5 (f:=λx:Str×Addr=>x.1) (Du e'));obtain⟨p1,p2⟩:=p;rw[D2,show(q.1==p1)=false by simpa using this];exact Qa9 nd'.2 e'
 | [],_,_,_,e=>by simp at e
theorem Qwr{K:Frag}{p:Str}{sp:Sp}(S:LamScope L p)
  (hbind:∀(cl:List (Str×Addr)) (pm cdv ct u:Value),bindArgs (kla_fn "<lambda>" L.qual L.args L.body L.scope cl pm cdv ct) ⟨[u],[]⟩=pure [(p,u)])
  (hbody:∀(A:Around)(outer:List Env)(s:Shared)(H:Hp)(f:Addr)(cd:Value)(cl:List (Str×Addr)) (y:V) (xs:List V) (Q:VK),Room k (A.deeper (envX L.qual L.scope s.heap.objs.size f cd cl))->Y4 H (cl.map (·.2))->sp (y::xs) H Q E0 ->
   ∃t,PE (Qp9 P w K mg base L p f cd cl A outer s (rmC H (cl.map (·.2)))) L.body t/\t (some y::xs.map some) (rmC H (cl.map (·.2))) (λv H2=>(∀b∈cl.map (·.2),H2 b=none)->Q v (putC H2 H (cl.map (·.2))))) :
  X4 P w K mg base (k+1) L sp:=by
 intro A outer s H u y xs a Q hr e0 hc ry hsp;obtain⟨cl,⟨c',oc,vs,t,pm,ctv,u1,h1,h2,h3,h4⟩,hnm,hnd,hcs⟩:=hc;have ha:=(e0.hok a _ h1).1;have hcode:=(e0.hok c' _ h2).1;have isC:Y4 H (cl.map (·.2)):=λb hb=>by
  obtain⟨q,hq,rfl⟩:=Aq.mp hb;obtain⟨oo,v,e1,e2⟩:=hcs.mem q hq;exact⟨oo,_,e1,e2⟩
 have ndn:(cl.map (·.1)).Nodup:=by rw[hnm];exact(Bd.mp S.nd).2
 have KX:K.In s.heap:=e0.mod.kin.keeps λb o e=>(e0.bs b o e).1;have lim:s.heap.NoLimit:=e0.mod.nolimit.keeps λb o e=>(e0.bs b o e).1;refine PySem.W.kla_callFunE hr.depth ha rfl S.co S.gen rfl ⟨c',oc,vs,t,rfl,hcode,h3,h4⟩ ?_;rw[hbind];refine As (wpAny_newFunctionEnv S.cell (λz hz=>by rw[Ap.mp hz];exact S.par) (λh₁ hns hsb=>⟨lim.fresh _ hsb,?_⟩) S.kind);show codeAny _ _ (.expr L.body (envX L.qual L.scope s.heap.objs.size a (.ref c') cl)) _ _;have hk₁:∀b o,s.heap.get? b=some o->h₁.get? b=some o:=λb o e=>hsb.extBut b o (Bv (Bf e)) (An _ e);have er:=e0.rm isC;obtain⟨tt,ht,hq⟩:=hbody A outer s H a (.ref c') cl y xs Q (hr.deeper _) isC hsp;have cellAt:∀x c,cl.lookup x=some c->∃v,h₁.IsCell c v:=λx c e=>by
  obtain⟨oo,v,e1,e2⟩:=isC c (Aq.mpr ⟨(x,c),Dp e,rfl⟩);exact⟨_,oo,hk₁ _ _ (e0.hok c _ e1).1,e2⟩
 have noA:∀b:Addr,b∉(Qp9 P w K mg base L p a (.ref c') cl A outer s (rmC H (cl.map (·.2)))).ex:=λb z=>absurd (show b∈([]:List Addr)from z) (by simp);have lkN:∀y c,cl.lookup y=some c->y∈L.names:=λy c e=>by rw[← hnm];exact Aq.mpr ⟨(y,c),Dp e,rfl⟩
 have I:Inv (Qp9 P w K mg base L p a (.ref c') cl A outer s (rmC H (cl.map (·.2)))) [] (some y::xs.map some) (rmC H (cl.map (·.2))) { s with heap:=h₁,toks:=s.toks+1 }:=by
  refine ⟨⟨e0.mod,S.kind,rfl,rfl,At _,λy z c h1 h2=>?_,λy hy=>?_,λy c hf h=>?_,λ_=>hr.hd,Lm e0.frames,.inr ⟨rfl,rfl⟩,λb z=>absurd z (noA b),er.bs,er.bsz,λb _ _=>noA b,λb z=>absurd z (noA b),er.funs,er.frf⟩,
   rfl,e0.bare,Un.kept hk₁,⟨_,hns,λi z v h1 h2 h3=>?_⟩,cellAt,V3 (e0.hok.fresh (At _)),λy c h=>Qel (Aq.mpr ⟨(y,c),Dp h,rfl⟩),λq hq=>absurd (show q∈([]:List (Addr×Obj))from hq) (by simp),er.hok.kept hk₁,?_⟩
  ·have m1:=Dp h1;have m2:=Dp h2;obtain⟨i,hi,e1⟩:=Dq m1;obtain⟨j,hj,e2⟩:=Dq m2;have:i=j:=by
    have hi2:i<cl.length:=hi;have hj2:j<cl.length:=hj;have e1:cl[i]=_:=e1;have e2:cl[j]=_:=e2;have hi':i<(cl.map λq:Str×Addr=>q.2).length:=by rw[Ao];exact hi2
    have hj':j<(cl.map λq:Str×Addr=>q.2).length:=by rw[Ao];exact hj2
    exact(Kj (h₀:=hi') (h₁:=hj') hnd).mp (by rw[List.getElem_map,List.getElem_map,e1,e2])
   subst this;rw[e1]at e2;cases e2;rfl
  ·have hy:L.scope.names.lookup y=some .cell\/L.scope.names.lookup y=some .free:=hy;rcases hy with hy|hy
   ·exact absurd rfl (S.cell _ (Dp hy))
   ·have:=S.free _ (Dp hy) rfl;rw[← hnm]at this;obtain⟨q,hq,e⟩:=Aq.mp this;obtain⟨i,hi⟩:=Si hq;have e:q.1=y:=e;exact⟨q.2,by rw[← e];exact Qa9 ndn hi⟩
  ·have hf:decide (y=p)=true:=hf;have:=of_decide_eq_true hf;subst this;exact absurd (lkN _ _ h) (Bd.mp S.nd).1
  ·cases i with
   | zero=>
    simp at h2;subst h2;have:z=p:=by
     have h1:(p::L.names)[0]? = some z:=h1;simpa using h1.symm
    subst this;exact⟨u,ry,.inl ⟨S.par,by simp[Ii]⟩⟩
   | succ i=>
    have hx:xs[i]? = some v:=by
     rw[B0,Au]at h2;cases q:xs[i]? with
     |none=>rw[q]at h2;cases h2
     |some x=>rw[q]at h2;simp at h2;rw[h2]
    have hz:L.names[i]? = some z:=by
     have h1:(p::L.names)[i+1]? = some z:=h1;simpa using h1
    obtain ⟨q,oo,uv,e1,e2,e3,e4⟩:=hcs.get hx;have e5:q.1=z:=by
     rw[← hnm,Au,e1]at hz;simpa using hz
    refine⟨uv,e4,.inr ⟨.inr (S.vis z (Du hz)),q.2,by rw[← e5];exact Qa9 ndn e1,oo,hk₁ _ _ (e0.hok q.2 _ e2).1,e3⟩⟩
  ·show(some y::xs.map some).length=(p::L.names).length;rw[Am,Ao,Am,← hnm,Ao,hcs.length]
 refine PySem.W.kla_codeExpr (Fw (ht [] _ _ _ _ I hq) (λv s' hz=>?_) λe s' hz=>hz.elim);obtain⟨v',H2,J,rv,q⟩:=hz;have ce:CE outer P w (rmC H (cl.map (·.2))) s (λv H2=>(∀b∈cl.map (·.2),H2 b=none)->Q v (putC H2 H (cl.map (·.2)))) v s':=⟨v',H2,J.os,J.bare,J.base,J.hok,rv,q⟩
 exact CE.back e0 isC ce λv H2 hn hq=>hq hn
theorem Qjb{sp:Sp}{v:Str}(F:X4 X.prog X.w X.K X.mg X.base k L sp)(hr:Room k X.A)(he:PE X e te)(hN:X.N[i]? = some v)(hv:Vis X.env.scope v)(hd:(v==("__debug__":Str))=false:=by decide)(hcd:(v==("__classdict__":Str))=false:=by decide)
  (hs:starEach [e] X.env=(false,eval e X.env)::starEach [] X.env:=by rfl) (hpl:(backTo pos (starEach [] X.env)).any (·.1)=false:=by rfl) :
  PE X (.Call (.Name v p) [e] [] pos) (λσ H Q=>∃a xs,σ[i]? = some (some (.ref a))/\Qb3 H L a xs/\te σ H λy H1=>Qb3 H1 L a xs/\sp (y::xs) H1 Q E0):=by
 intro pins s σ H Q I h;obtain⟨a,xs,h1,h2,h3⟩:=h;refine Nu (thn (Yc hN hv hd hcd pins s σ H (λx H'=>x=.ref a/\H'=H) I ⟨_,h1,rfl,rfl⟩) λf s1 z=>?_);obtain⟨x,H0,I0,rx,rfl,rfl⟩:=z;cases rx;have fn:∀{H:Hp}{s:Shared},Inv X pins σ H s->Qb3 H L a xs->PySem.W.FnAt a s.heap:=λI ⟨cl,⟨c',oc,vs,t,pm,ctv,u,e1,_⟩,_⟩=>⟨_,_,_,_,(I.hok a _ e1).1⟩
 refine PySem.W.callWith_F (fn I0 h2) ?_ hs hpl;rw[hs];refine Ry (thn (he pins s1 σ H0 _ I0 h3) λu s2 ⟨y,H1,I1,r1,q1,q2⟩=>?_);refine S9 ⟨fn I1 q1,?_⟩;refine wpAny_call (Tp (F X.A X.stack s2 H1 u y xs a Q hr I1.env0 q1 r1 q2) λr s' hq=>?_);cases r with
 |error e=>exact hq.elim
 | ok fl=>
  cases fl with
  |ret u=>exact I1.after hq
  |next=>exact Fx hq
  |brk=>exact Fx hq
  |cont=>exact Fx hq
def capd(σ:St):List Nat->List V->Prop
 | [],[]=>True
 |i::ix,x::xs=>σ[i]? = some (some x)/\capd σ ix xs
 |_,_=>False
noncomputable def Qfn(X:Cx):List Nat->List (Str×Addr)->Prop
 | [],[]=>True
 |i::ix,p::cl=>X.N[i]? = some p.1/\X.env.scope.names.lookup p.1=some .cell/\X.env.cells.lookup p.1=some p.2/\X.fn p.1=true/\Qfn X ix cl
 |_,_=>False
theorem Qcq{pins:List (Addr×Obj)}{σ:St}{H H':Hp}{s:Shared}(I:Inv X pins σ H s):∀{ix:List Nat}{cl:List (Str×Addr)} {xs:List V},Qfn X ix cl->capd σ ix xs->(∀p∈cl,∀o,s.heap.get? p.2=some o->H' p.2=some (.frz o anyO))->Jx H' cl xs
 | [],[],[],_,_,_=>trivial
 | i::ix,p::cl,x::xs,⟨h1,h2,h3,_,h5⟩,⟨g1,g2⟩,hk=>by
  obtain⟨m,_,hl⟩:=I.loc;obtain⟨u,r,l⟩:=hl i p.1 x h1 g1 (.inr (.inl h2));refine⟨?_,Qcq I h5 g2 λq hq=>hk q (Al _ hq)⟩;rcases l with⟨k,_⟩|⟨_,c,e,oo,e1,e2⟩
  ·have k:X.env.scope.names.lookup p.1=some .local:=k;rw[h2]at k;cases k
  ·rw[h3]at e;cases e;exact⟨oo,u,hk p Ak oo e1,e2,r⟩
 | [],[],_::_,_,h,_=>h.elim
 |_::_,_::_,[],_,h,_=>h.elim
 | [],_::_,_,h,_,_=>h.elim
 |_::_,[],_,h,_,_=>h.elim
theorem Xe:∀{ix:List Nat}{cl:List (Str×Addr)},Qfn X ix cl->∀p∈cl,X.env.cells.lookup p.1=some p.2/\X.fn p.1=true
 | i::ix,q::cl,⟨_,_,h3,h4,h5⟩,p,h=>by
  rcases Ar.mp h with rfl|h
  ·exact⟨h3,h4⟩
  ·exact Xe h5 p h
 | [],_::_,h,_,_=>h.elim
theorem Qja{sp:Sp}{x:Str}{ix:List Nat}(F:FnOk X.prog X.w X.K X.mg X.base CX0 k f fd ps sp)(hr:Room k X.A)(hg:Gl X x)(hm:X.mg x=some (.ref f))(hk:keepIn X.K (.ref f)=true)(hb:Qfp X.K fd ps [])
  (he:PE X e te) (hlam:PE X lam (λσ H Q=>∀f H',H f=none->Same H H'->Xw H' L f clos->Q (.ref f) H')) (hc:Qfn X ix clos) (hn:clos.map (·.1)=L.names) (hnd:(clos.map (·.2)).Nodup) (hdb:(x==("__debug__":Str))=false:=by decide)
  (hs:starEach [e,lam] X.env=(false,eval e X.env)::starEach [lam] X.env:=by rfl) (hs2:starEach [lam] X.env=(false,eval lam X.env)::starEach [] X.env:=by rfl) (hpl:(backTo pos (starEach [lam] X.env)).any (·.1)=false:=by rfl) :
  PE X (.Call (.Name x p) [e,lam] [] pos) (λσ H Q=>te σ H λy H1=>∃xs,capd σ ix xs/\∀f H2,H1 f=none->Same H1 H2->Qb3 H2 L f xs->sp [y,.ref f] H2 (λv H3=>∀H4,(∀b ob,H3 b=some ob->(∀o u,ob ≠ .frz o u)->H4 b=some ob)->(∀b ob,H1 b=some ob->H3 b=some ob->H4 b=some ob)->Q v H4) E0):=by
 intro pins s σ H Q I h;refine Nu (Qdi I hg hm ?_ hdb);refine callWith_K (h₀:=X.base) I.ok.mod.kin hk ?_ hs hpl;rw[hs];show wpAny _ _ (spliced ((false,eval e X.env)::backTo pos (starEach [lam] X.env))) _ _ s;refine Ry (thn (he pins s σ H _ I h) λu s1 ⟨y,H1,I1,r1,xs,cx,q1⟩=>?_);rw[hs2];show wpAny _ _ (spliced ((false,eval lam X.env)::backTo pos (starEach [] X.env))) _ _ s1;refine Ry (thn (hlam pins s1 σ H1 (λv H2=>∃f,v=.ref f/\H1 f=none/\Same H1 H2/\Xw H2 L f clos) I1 λf H' n sm cp=>⟨f,rfl,n,sm,cp⟩) λu2 s2 z=>?_);obtain⟨v2,H2,I2,r2,f2,rfl,n2,sm2,cp2⟩:=z;cases r2;refine S9 ⟨I2.kIn,?_⟩;have cN:∀b∈clos.map (·.2),H2 b=none:=λb hb=>by
  obtain⟨q,hq,rfl⟩:=Aq.mp hb;exact I2.freeC q.1 q.2 (Xe hc q hq).1
 have cT:∀b∈clos.map (·.2),∃o,s2.heap.get? b=some o/\∃v,o.data=.cell v:=λb hb=>by
  obtain⟨q,hq,rfl⟩:=Aq.mp hb;obtain⟨v,o,ho,hd⟩:=I2.cell q.1 q.2 (Xe hc q hq).1;exact⟨o,ho,v,hd⟩
 have cU:∀b∈clos.map (·.2),X.s₀.heap.objs.size<=b:=λb hb=>by
  obtain⟨q,hq,rfl⟩:=Aq.mp hb;exact I2.ok.cab q.1 q.2 (Xe hc q hq).2 (Xe hc q hq).1
 have cB:∀b∈clos.map (·.2),X.base.get? b=none:=λb hb=>Ll (Dy I2.ok.bsz (cU b hb));have cF:∀b∈clos.map (·.2),b∉frs X.stack:=λb hb z=>by
  rcases Ar.mp (I2.stkSub b z)with z|z
  ·obtain⟨q,hq,rfl⟩:=Aq.mp hb;exact I2.cne q.1 q.2 (Xe hc q hq).1 z
  ·obtain⟨_,o,ho,_⟩:=I2.ok.funs.mem z;exact absurd (Bs (Bf ho) (cU b hb)) (Np _)
 have eA:=I2.env0.addC cN (λb hb=>let ⟨o,e,_⟩:=cT b hb;⟨o,e⟩) cB cF;have smA:Same H2 (addC H2 s2.heap (clos.map (·.2))):=Gx cN;have cA:Qb3 (addC H2 s2.heap (clos.map (·.2))) L f2 xs:=⟨clos,cp2.keeps λb o u e=>smA b _ e,hn,hnd,Qcq I2 hc cx λq hq o e=>Qd0 (L5 hq) e⟩
 have hsp:=q1 f2 _ n2 (sm2.trans smA) cA;have rv:Vals [y,V.ref f2] [u,.ref f2]:=.cons r1 (.cons rfl .nil);have hl:([u,Br f2]++[]).length=ps.length:=F.len _ _ _ _ hsp;have hbb:=hb s2 [u,.ref f2] I2.kIn hl;rw[D6]at hbb;refine wpAny_call (Tp (F.run X.A X.stack s2 _ ⟨[u,.ref f2],[]⟩ [u,.ref f2] [y,.ref f2] _ E0 hr eA hbb rv hsp) λr s' hq=>?_);cases r with
 |error e=>exact hq.elim
 | ok fl=>
  cases fl with
  |next=>exact Fx hq
  |brk=>exact Fx hq
  |cont=>exact Fx hq
  | ret u=>
   refine I2.after (CE.unC (Q:=Q) cN cT hq λv H3 isC hv=>hv _ (λb ob e nf=>?_) λb ob e e3=>?_)
   ·rw[Jw (isC.out e λo _ z _=>nf _ _ z)];exact e
   ·rw[Jw λhb=>by have:=sm2 b ob e;rw[cN b hb]at this;cases this];exact e3
end L2
namespace PV
open PySem PySem.Spec L2
inductive Ty where
 |int|bool|str|tuple|list|dict
 deriving DecidableEq
def Ty.nm:Ty->String
 | .int=>"int" | .bool=>"bool" | .str=>"str" | .tuple=>"tuple" | .list=>"list" | .dict=>"dict"
inductive KC where
 |any (a:Addr)
 |fn (x:Str)
 |int (i:Int)
 |tup (ks:List KC)
mutual
inductive IsKC(K:Frag):KC->V->Prop
 |any (a:Addr):IsKC K (.any a) (.ref a)
 |fn {x:Str} {f:Addr} (h:nsIn K mainGlobals x=some (some (.ref f))):IsKC K (.fn x) (.ref f)
 |int (i:Int):IsKC K (.int i) (.int i)
 |tup {a:Addr} {xs:List V} {ks:List KC} {o:Obj} {its:Array Value} {n:Nat} (h1:K.lookup a=some o) (h2:o.cls=.type "tuple") (h3:o.data=.seq its n) (h4:its.size<=sizeLine) (h5:Vals xs its.toList) (r:AreKC K ks xs):IsKC K (.tup ks) (.ref a)
inductive AreKC(K:Frag):List KC->List V->Prop
 |nil:AreKC K [] []
 |cons {c:KC} {v:V} {cs:List KC} {vs:List V} (h:IsKC K c v) (r:AreKC K cs vs):AreKC K (c::cs) (v::vs)
end
inductive D where
 |non
 |bl (b:Bool)
 |int (i:Int)
 |str (x:Str)
 |tup (xs:List D)
 |lst (xs:List D)
 |dik (kvs:List (Key×D))
 |dit (kvs:List (List Key×D))
 |kls (xs:List D)
 |ty (t:Ty)
 |fdk (kvs:List (Key×D))
 |ftp (xs:List D)
 |fls (xs:List D)
 |fdt (kvs:List (List Key×D))
 |obj (x:Str) (fs:List (Str×Int))
 |clo (L:Lam) (ds:List D)
 |kc (c:KC)
 |dmx (kvs:List (Mx.MI×D))
 |fmx (kvs:List (Mx.MI×D))
 |lsa (a:Addr) (xs:List D)
 |ist (x:Str) (ds:List D)
end PV
variable {o:Option PV.D}{k:PV.D->Prop}{ks:List PV.KC}{d:PV.D}{G F:List Dj}{ds:List (L2.Key×PV.D)}{ns:List Int}
namespace PV
open PySem PySem.Spec L2
def imm:HO->Bool
 | .tup _=>true
 | .frz _ _=>true
 | .ins _ _ _=>true
 |_=>false
def FzL(K:Frag)(H:Hp)(a:Addr)(xs:List V):Prop :=
 (∃o,H a=some (.frz o (.lst xs))) \/
  ∃(o:Obj)(its:Array Value)(n:Nat),K.lookup a=some o/\o.cls=.type "list" /\ o.dict=none/\o.data=.seq its n/\its.size<=sizeLine/\Vals xs its.toList
theorem FzL.sq{K:Frag}(h:FzL K H a xs):SqL K H a xs:=by
 rcases h with h|h
 ·exact .inl (.inr h)
 ·exact .inr h
def fldN:Nat->List Str
 |0=>[]
 |1=>["one"]
 |_=>["one","other"]
mutual
inductive Rep(K:Frag)(H:Hp):D->V->List Addr->Prop
 |non:Rep K H .non .non []
 |bl (b:Bool):Rep K H (.bl b) (.bl b) []
 |int (i:Int):Rep K H (.int i) (.int i) []
 |str (x:Str):Rep K H (.str x) (.str x) []
 |tup {a:Addr} {xs:List V} {ds:List D} {F:List Addr} (e:H a=some (.tup xs)) (r:Reps K H ds xs F):Rep K H (.tup ds) (.ref a) F
 |lst {a:Addr} {xs:List V} {ds:List D} {F:List Addr} (e:H a=some (.lst xs)) (r:Reps K H ds xs F):Rep K H (.lst ds) (.ref a) (a::F)
 |dik {a:Addr} {kvs:List (Key×V)} {ds:List (Key×D)} {F:List Addr} (e:H a=some (.dK kvs)) (r:RepK K H ds kvs F):Rep K H (.dik ds) (.ref a) (a::F)
 |dit {a:Addr} {kvs:List (List Key×V)} {ds:List (List Key×D)} {F:List Addr} (e:H a=some (.dT kvs)) (r:RepT K H ds kvs F):Rep K H (.dit ds) (.ref a) (a::F)
 |kls {a:Addr} {xs:List V} {ds:List D} (e:FzL K H a xs) (r:Reps K H ds xs []):Rep K H (.kls ds) (.ref a) []
 |ty (t:Ty):Rep K H (.ty t) (.ty t.nm) []
 |fdk {a:Addr} {o:Obj} {kvs:List (Key×V)} {ds:List (Key×D)} {F:List Addr} (e:H a=some (.frz o (.dK kvs))) (r:RepK K H ds kvs F):Rep K H (.fdk ds) (.ref a) F
 |ftp {a:Addr} {o:Obj} {xs:List V} {ds:List D} (e:H a=some (.frz o (.tup xs))) (hd:o.dict=none) (r:Reps K H ds xs []):Rep K H (.ftp ds) (.ref a) []
 |fls {a:Addr} {o:Obj} {xs:List V} {ds:List D} (e:H a=some (.frz o (.lst xs))) (r:Reps K H ds xs []):Rep K H (.fls ds) (.ref a) []
 |fdt {a:Addr} {o:Obj} {kvs:List (List Key×V)} {ds:List (List Key×D)} {F:List Addr} (e:H a=some (.frz o (.dT kvs))) (r:RepT K H ds kvs F):Rep K H (.fdt ds) (.ref a) F
 |obj {a:Addr} {x:Str} {o:Obj} {φ:Heap->Prop} {fs:List (Str×Int)} (e:H a=some (.frz o (.ext φ))) (hc:∃C,o.cls=.ref C/\nsIn K mainGlobals x=some (some (.ref C))) (hf:fs=[]\/∃dx od vs,o.dict=some dx/\o.data=.fields vs/\H dx=some (.frz od (.xd (fs.map λp=>(p.1,V.int p.2))))):Rep K H (.obj x fs) (.ref a) []
 |clo {a:Addr} {L:Lam} {xs:List V} {ds:List D} {F:List Addr} (e:Qb3 H L a xs) (r:Reps K H ds xs F):Rep K H (.clo L ds) (.ref a) F
 |kc {c:KC} {v:V} (h:IsKC K c v):Rep K H (.kc c) v []
 |dmx {a:Addr} {kvs:Mx.KVM} {ds:List (Mx.MI×D)} (e:H a=some (Mx.mixO a kvs)) (hk:Mx.Keys H kvs) (hm:kvs.map (·.1)=ds.map (·.1)) (r:Reps K H (ds.map (·.2)) (kvs.map (·.2.2)) []):Rep K H (.dmx ds) (.ref a) [a]
 |fmx {a:Addr} {o:Obj} {kvs:Mx.KVM} {ds:List (Mx.MI×D)} (e:H a=some (.frz o (Mx.mixO a kvs))) (hk:Mx.Keys H kvs) (hm:kvs.map (·.1)=ds.map (·.1)) (r:Reps K H (ds.map (·.2)) (kvs.map (·.2.2)) []):Rep K H (.fmx ds) (.ref a) []
 |lsa {a:Addr} {xs:List V} {ds:List D} {F:List Addr} (e:H a=some (.lst xs)) (r:Reps K H ds xs F):Rep K H (.lsa a ds) (.ref a) (a::F)
 |ist {a C dx:Addr} {x:Str} {fs:List (Str×V)} {ds:List D} (e:H a=some (.ins C dx fs)) (hc:nsIn K mainGlobals x=some (some (.ref C))) (hn:fs.map (·.1)=fldN ds.length) (r:Reps K H ds (fs.map (·.2)) []):Rep K H (.ist x ds) (.ref a) []
inductive Reps(K:Frag)(H:Hp):List D->List V->List Addr->Prop
 |nil:Reps K H [] [] []
 |cons {d:D} {v:V} {ds:List D} {vs:List V} {F G:List Addr} (h:Rep K H d v F) (r:Reps K H ds vs G):Reps K H (d::ds) (v::vs) (F++G)
inductive RepK(K:Frag)(H:Hp):List (Key×D)->List (Key×V)->List Addr->Prop
 |nil:RepK K H [] [] []
 |cons {k:Key} {d:D} {v:V} {ds:List (Key×D)} {vs:List (Key×V)} {F G:List Addr} (h:Rep K H d v F) (r:RepK K H ds vs G):RepK K H ((k,d)::ds) ((k,v)::vs) (F++G)
inductive RepT(K:Frag)(H:Hp):List (List Key×D)->List (List Key×V)->List Addr->Prop
 |nil:RepT K H [] [] []
 |cons {k:List Key} {d:D} {v:V} {ds:List (List Key×D)} {vs:List (List Key×V)} {F G:List Addr} (h:Rep K H d v F) (r:RepT K H ds vs G):RepT K H ((k,d)::ds) ((k,v)::vs) (F++G)
end
def ImmK(H H':Hp):Prop:=∀b ob,H b=some ob->imm ob=true->H' b=some ob
theorem ImmK.fzL{K:Frag}(hi:ImmK H H')(e:FzL K H a xs):FzL K H' a xs:=by
 rcases e with⟨o,e⟩|e
 ·exact .inl ⟨o,hi _ _ e rfl⟩
 ·exact .inr e
theorem ImmK.keys{H H':Hp}(hi:ImmK H H'){kvs:Mx.KVM}(h:Mx.Keys H kvs):Mx.Keys H' kvs:=λp hp=>by
 have:=h p hp;revert this;cases p.1 with
 |inl i=>exact id
 |inr l=>exactλ⟨b,e1,e2⟩=>⟨b,e1,hi _ _ e2 rfl⟩
theorem Rep.frame{K:Frag}(hi:ImmK H H')(r:Rep K H d v F):(∀a∈F,H' a=H a)->Rep K H' d v F:=by
 refine Rep.rec (motive_1:=λd v F _=>(∀a∈F,H' a=H a)->Rep K H' d v F) (motive_2:=λd v F _=>(∀a∈F,H' a=H a)->Reps K H' d v F) (motive_3:=λd v F _=>(∀a∈F,H' a=H a)->RepK K H' d v F) (motive_4:=λd v F _=>(∀a∈F,H' a=H a)->RepT K H' d v F) ?_ ?_ ?_ ?_ ?_ ?_ ?_ ?_ ?_ ?_ ?_ ?_ ?_ ?_ ?_ ?_ ?_ ?_ ?_ ?_ ?_ ?_ ?_ ?_ ?_ ?_ ?_ r
 ·exactλ_=>.non
 ·exactλb _=>.bl b
 ·exactλb _=>.int b
 ·exactλb _=>.str b
 ·exactλe _ ih k=>.tup (hi _ _ e rfl) (ih k)
 ·exactλe _ ih k=>.lst ((k _ (Ak)).trans e) (ih λa h=>k a (Al _ h))
 ·exactλe _ ih k=>.dik ((k _ (Ak)).trans e) (ih λa h=>k a (Al _ h))
 ·exactλe _ ih k=>.dit ((k _ (Ak)).trans e) (ih λa h=>k a (Al _ h))
 ·exactλe _ ih k=>.kls (hi.fzL e) (ih k)
 ·exactλt _=>.ty t
 ·exactλe _ ih k=>.fdk (hi _ _ e rfl) (ih k)
 ·exactλe hd _ ih k=>.ftp (hi _ _ e rfl) hd (ih k)
 ·exactλe _ ih k=>.fls (hi _ _ e rfl) (ih k)
 ·exactλe _ ih k=>.fdt (hi _ _ e rfl) (ih k)
 ·exactλe hc hf _=>.obj (hi _ _ e rfl) hc (hf.imp id λ⟨dx,od,vs,h1,h0,h2⟩=>⟨dx,od,vs,h1,h0,hi _ _ h2 rfl⟩)
 ·exactλe _ ih k=>.clo (e.keeps λ_ _ _ q=>hi _ _ q rfl) (ih k)
 ·exactλh _=>.kc h
 ·exactλe hk hm _ ih k=>.dmx ((k _ (Ak)).trans e) (hi.keys hk) hm (ih λa h=>nomatch h)
 ·exactλe hk hm _ ih k=>.fmx (hi _ _ e rfl) (hi.keys hk) hm (ih λa h=>nomatch h)
 ·exactλe _ ih k=>.lsa ((k _ (Ak)).trans e) (ih λa h=>k a (Al _ h))
 ·exactλe hc hn _ ih k=>.ist (hi _ _ e rfl) hc hn (ih λa h=>nomatch h)
 ·exactλ_=>.nil
 ·exactλ_ _ ih1 ih2 k=>.cons (ih1 λa q=>k a (Aj.mpr (.inl q))) (ih2 λa q=>k a (Aj.mpr (.inr q)))
 ·exactλ_=>.nil
 ·exactλ_ _ ih1 ih2 k=>.cons (ih1 λa q=>k a (Aj.mpr (.inl q))) (ih2 λa q=>k a (Aj.mpr (.inr q)))
 ·exactλ_=>.nil
 ·exactλ_ _ ih1 ih2 k=>.cons (ih1 λa q=>k a (Aj.mpr (.inl q))) (ih2 λa q=>k a (Aj.mpr (.inr q)))
theorem Reps.frame{K:Frag}(hi:ImmK H H'){d:List D}{v:List V}(r:Reps K H d v F)(k:∀a∈F,H' a=H a):Reps K H' d v F:=by
 induction d generalizing v F with
 |nil=>cases r;exact .nil
 |cons d ds ih=>cases r with|cons h r=>exact .cons (Rep.frame hi h λa q=>k a (Aj.mpr (.inl q))) (ih r λa q=>k a (Aj.mpr (.inr q)))
theorem RepK.frame{K:Frag}(hi:ImmK H H'){d:List (Key×D)}{v:List (Key×V)}(r:RepK K H d v F)(k:∀a∈F,H' a=H a):RepK K H' d v F:=by
 induction d generalizing v F with
 |nil=>cases r;exact .nil
 |cons d ds ih=>cases r with|cons h r=>exact .cons (Rep.frame hi h λa q=>k a (Aj.mpr (.inl q))) (ih r λa q=>k a (Aj.mpr (.inr q)))
theorem RepT.frame{K:Frag}(hi:ImmK H H'){d:List (List Key×D)}{v:List (List Key×V)}(r:RepT K H d v F)(k:∀a∈F,H' a=H a):RepT K H' d v F:=by
 induction d generalizing v F with
 |nil=>cases r;exact .nil
 |cons d ds ih=>cases r with|cons h r=>exact .cons (Rep.frame hi h λa q=>k a (Aj.mpr (.inl q))) (ih r λa q=>k a (Aj.mpr (.inr q)))
theorem Rep.dom{K:Frag}(r:Rep K H d v F):∀a∈F,∃ob,H a=some ob/\imm ob=false:=by
 have cn:∀{b:Addr}{F:List Addr}{ob:HO},H b=some ob->imm ob=false->(∀a∈F,∃ob,H a=some ob/\imm ob=false)->∀a∈b::F,∃ob,H a=some ob/\imm ob=false:=λe hb ih a m=>(Ar.mp m).elim (λz=>z ▸ ⟨_,e,hb⟩) (ih a);have ap:∀{F G:List Addr},(∀a∈F,∃ob,H a=some ob/\imm ob=false)->(∀a∈G,∃ob,H a=some ob/\imm ob=false)->∀a∈F++G,∃ob,H a=some ob/\imm ob=false:=λih1 ih2 a m=>(Aj.mp m).elim (ih1 a) (ih2 a);have no:∀a∈([]:List Addr),∃ob,H a=some ob/\imm ob=false:=λ_ m=>nomatch m
 refine Rep.rec (motive_1:=λ_ _ F _=>∀a∈F,∃ob,H a=some ob/\imm ob=false) (motive_2:=λ_ _ F _=>∀a∈F,∃ob,H a=some ob/\imm ob=false) (motive_3:=λ_ _ F _=>∀a∈F,∃ob,H a=some ob/\imm ob=false) (motive_4:=λ_ _ F _=>∀a∈F,∃ob,H a=some ob/\imm ob=false) no (λ_=>no) (λ_=>no) (λ_=>no) (λ_ _ ih=>ih) (λe _ ih=>cn e rfl ih) (λe _ ih=>cn e rfl ih) (λe _ ih=>cn e rfl ih) (λ_ _ _=>no) (λ_=>no) (λ_ _ ih=>ih) (λ_ _ _ _=>no) (λ_ _ _=>no) (λ_ _ ih=>ih) (λ_ _ _=>no) (λ_ _ ih=>ih) (λ_=>no) (λe _ _ _ _=>cn e rfl no) (λ_ _ _ _ _=>no) (λe _ ih=>cn e rfl ih) (λ_ _ _ _ _=>no) no (λ_ _=>ap) no (λ_ _=>ap) no (λ_ _=>ap) r
theorem Reps.dom{K:Frag}{d:List D}{v:List V}(r:Reps K H d v F):∀a∈F,∃ob,H a=some ob/\imm ob=false:=by
 induction d generalizing v F with
 |nil=>cases r;exactλ_ m=>nomatch m
 |cons d ds ih=>cases r with|cons h r=>exactλa m=>(Aj.mp m).elim (Rep.dom h a) (ih r a)
mutual
noncomputable def D.pure:D->Bool
 | .tup xs=>Qm xs
 | .lst _=>false
 | .dik _=>false
 | .dit _=>false
 | .kls _=>true
 | .non=>true
 | .bl _=>true
 | .int _=>true
 | .str _=>true
 | .ty _=>true
 | .fdk kvs=>kvs.isEmpty
 | .ftp _=>true
 | .fls _=>true
 | .fdt _=>false
 | .obj _ _=>true
 | .clo _ _=>false
 | .kc _=>true
 | .dmx _=>false
 | .fmx _=>false
 | .lsa _ _=>false
 | .ist _ _=>true
noncomputable def Qm:List D->Bool
 | []=>true
 |d::r=>d.pure&&Qm r
end
theorem Q5{xs:List D}:Qm xs=true↔∀x∈xs,x.pure=true:=by
 induction xs with
 |nil=>simp[Qm]
 |cons d r ih=>simp only[Qm,B4,ih,Ar,forall_eq_or_imp]
theorem Rep.pure{K:Frag}(r:Rep K H d v F):d.pure=true->F=[]/\Rep K H d v []:=by
 have no:∀{P:Prop}{b:Bool},b=false->b=true->P:=λh h'=>absurd (h.symm.trans h') (by simp);refine Rep.rec (motive_1:=λd v F _=>d.pure=true->F=[]/\Rep K H d v []) (motive_2:=λd v F _=>Qm d=true->F=[]/\Reps K H d v []) (motive_3:=λ_ _ _ _=>True) (motive_4:=λ_ _ _ _=>True) ?_ ?_ ?_ ?_ ?_ ?_ ?_ ?_ ?_ ?_ ?_ ?_ ?_ ?_ ?_ ?_ ?_ ?_ ?_ ?_ ?_ ?_ ?_ trivial (λ_ _ _ _=>trivial) trivial (λ_ _ _ _=>trivial) r
 ·exactλ_=>⟨rfl,.non⟩
 ·exactλb _=>⟨rfl,.bl b⟩
 ·exactλb _=>⟨rfl,.int b⟩
 ·exactλb _=>⟨rfl,.str b⟩
 ·exactλe _ ih p=>⟨(ih (by rw[D.pure]at p;exact p)).1,.tup e (ih (by rw[D.pure]at p;exact p)).2⟩
 ·exactλ_ _ _=>no (by rw[D.pure])
 ·exactλ_ _ _=>no (by rw[D.pure])
 ·exactλ_ _ _=>no (by rw[D.pure])
 ·exactλe r _ _=>⟨rfl,.kls e r⟩
 ·exactλb _=>⟨rfl,.ty b⟩
 ·intro a o kvs ds F e r _ p;have hd:ds=[]:=by rw[D.pure]at p;exact List.isEmpty_iff.mp p
  subst hd;cases r;exact⟨rfl,.fdk e .nil⟩
 ·exactλe hd r _ _=>⟨rfl,.ftp e hd r⟩
 ·exactλe r _ _=>⟨rfl,.fls e r⟩
 ·exactλ_ _ _=>no (by rw[D.pure])
 ·exactλe hc hf _=>⟨rfl,.obj e hc hf⟩
 ·exactλ_ _ _=>no (by rw[D.pure])
 ·exactλh _=>⟨rfl,.kc h⟩
 ·exactλ_ _ _ _ _=>no (by rw[D.pure])
 ·exactλ_ _ _ _ _=>no (by rw[D.pure])
 ·exactλ_ _ _=>no (by rw[D.pure])
 ·exactλe hc hn r _ _=>⟨rfl,.ist e hc hn r⟩
 ·exactλ_=>⟨rfl,.nil⟩
 ·intro _ _ _ _ _ _ _ _ ih1 ih2 p;rw[Qm,B4]at p;obtain⟨e1,r1⟩:=ih1 p.1;obtain⟨e2,r2⟩:=ih2 p.2;subst e1 e2;exact⟨rfl,.cons (F:=[]) (G:=[]) r1 r2⟩
theorem Reps.pure{K:Frag}{d:List D}{v:List V}(r:Reps K H d v F)(p:Qm d=true):F=[]/\Reps K H d v []:=by
 induction d generalizing v F with
 |nil=>cases r;exact⟨rfl,.nil⟩
 | cons d ds ih=>
  cases r with
  | cons h r=>
   rw[Qm,B4]at p;obtain⟨e1,r1⟩:=h.pure p.1;obtain⟨e2,r2⟩:=ih r p.2;subst e1 e2;exact⟨rfl,.cons (F:=[]) (G:=[]) r1 r2⟩
section
variable {K:Frag}
theorem Reps.length{ds:List D}(r:Reps K H ds xs F):xs.length=ds.length:=by
 induction ds generalizing xs F with
 |nil=>cases r;rfl
 |cons d ds ih=>cases r with|cons h r=>simp[ih r]
theorem Reps.append{ds es:List D}(r:Reps K H ds xs F)(q:Reps K H es ys G):Reps K H (ds++es) (xs++ys) (F++G):=by
 induction ds generalizing xs F with
 |nil=>cases r;exact q
 |cons d ds ih=>cases r with|cons h r=>rw[Bm];exact .cons h (ih r)
theorem Reps.one(h:Rep K H d x F):Reps K H [d] [x] F:=by
 have:=Reps.cons h (Reps.nil (K:=K) (H:=H))
 rwa [D6]at this
theorem Reps.snoc{ds:List D}(r:Reps K H ds xs F)(h:Rep K H d x G):Reps K H (ds++[d]) (xs++[x]) (F++G):=r.append (.one h)
theorem Reps.split{ds:List D}(r:Reps K H ds xs F)(h:ds[i]? = some d) :
  ∃x A B C,xs[i]? = some x/\F=A++B++C/\Rep K H d x B/\Reps K H (ds.take i) (xs.take i) A/\Reps K H (ds.drop (i+1)) (xs.drop (i+1)) C:=by
 induction ds generalizing xs F i with
 |nil=>simp at h
 | cons e ds ih=>
  cases r with
  | @cons _ v _ vs F G p r=>
   cases i with
   | zero=>
    simp at h;subst h;exact⟨v,[],F,G,rfl,by simp,p,.nil,by simpa using r⟩
   | succ i=>
    obtain⟨x,A,B,C,h1,h2,h3,h4,h5⟩:=ih r (i:=i) (by simpa using h);exact⟨x,F++A,B,C,by simpa using h1,by rw[h2];simp,h3,by simpa using Reps.cons p h4,by simpa using h5⟩
theorem Reps.get{ds:List D}(r:Reps K H ds xs F)(h:ds[i]? = some d):∃x B,xs[i]? = some x/\Rep K H d x B/\B.Sublist F:=by
 obtain⟨x,A,B,C,h1,h2,h3,_⟩:=r.split h;exact⟨x,B,h1,h3,h2 ▸ (Ff A B).trans (Rt _ C)⟩
theorem Y0{α:Type}{l:List α}{a:α}(h:i<l.length):l.set i a=l.take i++a::l.drop (i+1):=by
 rw[List.set_eq_take_append_cons_drop,if_pos h]
theorem Qim{α:Type}(l:List α)(i:Nat):l.eraseIdx i=l.take i++l.drop (i+1):=List.eraseIdx_eq_take_drop_succ l i
theorem Reps.take{ds:List D}(i:Nat)(r:Reps K H ds xs F):∃G,Reps K H (ds.take i) (xs.take i) G/\G.Sublist F:=by
 induction ds generalizing xs F i with
 |nil=>cases r;exact⟨[],by simpa using Reps.nil,S2⟩
 | cons d ds ih=>
  cases r with
  | @cons _ v _ vs F G p r=>
   cases i with
   |zero=>exact⟨[],by simpa using Reps.nil,List.nil_sublist _⟩
   | succ i=>
    obtain⟨G',q,s⟩:=ih i r;exact⟨F++G',by simpa using Reps.cons p q,Sq (R9 _) s⟩
theorem Reps.drop{ds:List D}(i:Nat)(r:Reps K H ds xs F):∃G,Reps K H (ds.drop i) (xs.drop i) G/\G.Sublist F:=by
 induction ds generalizing xs F i with
 |nil=>cases r;exact⟨[],by simpa using Reps.nil,S2⟩
 | cons d ds ih=>
  cases i with
  |zero=>exact⟨F,by simpa using r,R9 _⟩
  | succ i=>
   cases r with
   | @cons _ v _ vs F G p r=>
    obtain⟨G',q,s⟩:=ih i r;exact⟨G',by simpa using q,s.trans (Ff _ _)⟩
theorem Reps.ints(ns:List Int):Reps K H (ns.map D.int) (ns.map V.int) []:=by
 induction ns with
 |nil=>exact .nil
 |cons n ns ih=>exact .cons (F:=[]) (G:=[]) (.int n) ih
theorem Reps.of_ints(r:Reps K H (ns.map D.int) xs F):xs=ns.map V.int/\F=[]:=by
 induction ns generalizing xs F with
 |nil=>cases r;exact⟨rfl,rfl⟩
 | cons n ns ih=>
  cases r with
  | cons h r=>
   cases h;obtain⟨e1,e2⟩:=ih r;exact⟨by rw[e1];rfl,by rw[e2];rfl⟩
end
def kcD:KC->D
 | .int i=>.int i
 | .any a=>.kc (.any a)
 | .fn x=>.kc (.fn x)
 | .tup ks=>.kc (.tup ks)
section
variable {K:Frag}
theorem IsKC.rep{c:KC}(h:IsKC K c v):Rep K H (kcD c) v []:=by
 cases h with
 |int i=>exact .int i
 |any a=>exact .kc (.any a)
 |fn h=>exact .kc (.fn h)
 |tup h1 h2 h3 h4 h5 r=>exact .kc (.tup h1 h2 h3 h4 h5 r)
theorem AreKC.reps{cs:List KC}(h:AreKC K cs vs):Reps K H (cs.map kcD) vs []:=by
 induction cs generalizing vs with
 |nil=>cases h;exact .nil
 |cons c cs ih=>cases h with|cons h r=>exact .cons (F:=[]) (G:=[]) h.rep (ih r)
theorem IsKC.sqT(h:IsKC K (.tup ks) v):∃a xs,v=.ref a/\(∀H,SqT K H a xs)/\AreKC K ks xs:=by
 cases h with
 |tup h1 h2 h3 h4 h5 r=>exact⟨_,_,rfl,λH=>.inr ⟨_,_,_,h1,h2,h3,h4,h5⟩,r⟩
end
section
variable {K:Frag}
theorem Rep.iInt{i:Int}(r:Rep K H (.int i) v F):v=.int i:=by cases r;rfl
theorem Rep.iStr{i:Str}(r:Rep K H (.str i) v F):v=.str i:=by cases r;rfl
theorem Rep.iBl{i:Bool}(r:Rep K H (.bl i) v F):v=.bl i:=by cases r;rfl
theorem Rep.iTup{ds:List D}(r:Rep K H (.tup ds) v F):∃a xs,v=.ref a/\H a=some (.tup xs)/\Reps K H ds xs F:=by cases r with|tup e r=>exact⟨_,_,rfl,e,r⟩
theorem Rep.iLst{ds:List D}(r:Rep K H (.lst ds) v F):∃a xs G,v=.ref a/\F=a::G/\H a=some (.lst xs)/\Reps K H ds xs G:=by cases r with|lst e r=>exact⟨_,_,_,rfl,rfl,e,r⟩
theorem Rep.iDik(r:Rep K H (.dik ds) v F):∃a xs G,v=.ref a/\F=a::G/\H a=some (.dK xs)/\RepK K H ds xs G:=by cases r with|dik e r=>exact⟨_,_,_,rfl,rfl,e,r⟩
theorem Rep.iDit{ds:List (List Key×D)}(r:Rep K H (.dit ds) v F):∃a xs G,v=.ref a/\F=a::G/\H a=some (.dT xs)/\RepT K H ds xs G:=by cases r with|dit e r=>exact⟨_,_,_,rfl,rfl,e,r⟩
theorem Rep.iKls{ds:List D}(r:Rep K H (.kls ds) v F):∃a xs,v=.ref a/\F=[]/\FzL K H a xs/\Reps K H ds xs []:=by cases r with|kls e r=>exact⟨_,_,rfl,rfl,e,r⟩
theorem Rep.iFdk(r:Rep K H (.fdk ds) v F):∃a o xs,v=.ref a/\H a=some (.frz o (.dK xs))/\RepK K H ds xs F:=by cases r with|fdk e r=>exact⟨_,_,_,rfl,e,r⟩
end
section
variable {κ:Type}[DecidableEq κ]
def valD(kvs:List (κ×D))(k:κ):Option D:=(kvs.find? λkv=>decide (kv.1=k)).map (·.2)
def putD(kvs:List (κ×D))(k:κ)(v:D):List (κ×D) :=
 if (kvs.any λkv=>decide (kv.1=k))=true then kvs.map (λkv=>if kv.1=k then (kv.1,v)else kv)else kvs++[(k,v)]
theorem Qof{k:κ}:valD ([]:List (κ×D)) k=none:=rfl
theorem Ja{p:κ×D}{r:List (κ×D)}{k:κ}:valD (p::r) k=if p.1=k then some p.2 else valD r k:=by
 unfold valD;by_cases h:p.1=k
 ·rw[K7 (by simpa using h),if_pos h];rfl
 ·rw[K8 (by simpa using h),if_neg h]
theorem Zn(k:κ):∀kvs:List (κ×D),(kvs.any λkv=>decide (kv.1=k))=(valD kvs k).isSome
 | []=>rfl
 | p::r=>by
  rw[Ft,Ja,Zn k r];by_cases h:p.1=k<;>simp[h]
theorem Qc3{kvs:List (κ×D)}{k:κ}(v:D)(h:valD kvs k=none):putD kvs k v=kvs++[(k,v)]:=by
 unfold putD;rw[Zn,h];rfl
theorem Qg6(k j:κ)(y:D):∀kvs:List (κ×D),valD (kvs.map λkv=>if kv.1=k then (kv.1,y)else kv) j=(valD kvs j).map λx=>if j=k then y else x
 | []=>rfl
 | p::r=>by
  rw[Bc,Ja,Ja,Qg6 k j y r];by_cases h:p.1=k
  ·rw[if_pos h];by_cases h':p.1=j
   ·simp[h',← h]
   ·simp[h']
  ·rw[if_neg h];by_cases h':p.1=j
   ·subst h';simp[h]
   ·simp[h']
theorem Qam(k j:κ)(y:D):∀kvs:List (κ×D),valD (kvs++[(k,y)]) j=if (valD kvs j).isSome then valD kvs j else if k=j then some y else none
 | []=>by simp[Ja,Qof]
 | p::r=>by
  rw[Bz,Ja,Ja,Qam k j y r];by_cases h:p.1=j<;>simp[h]
theorem U5(kvs:List (κ×D))(k j:κ)(y:D):valD (putD kvs k y) j=if j=k then some y else valD kvs j:=by
 unfold putD;rw[Zn];cases h:(valD kvs k).isSome with
 | true=>
  rw[if_pos rfl,Qg6];by_cases e:j=k
  ·subst e;obtain⟨x,hx⟩:=Ma.mp h;simp[hx]
  ·rw[if_neg e];cases valD kvs j<;>simp[e]
 | false=>
  rw[if_neg (by simp),Qam];have hn:valD kvs k=none:=by simpa using h
  by_cases e:j=k
  ·subst e;simp[hn]
  ·have e':¬k=j:=λz=>e z.symm;rw[if_neg e];cases valD kvs j<;>simp[e']
theorem J1(kvs:List (κ×D))(k:κ)(v:D):(putD kvs k v).length<=kvs.length+1:=by
 unfold putD
 split<;>simp
end
section
variable {K:Frag}
theorem RepK.length{xs:List (Key×V)}(r:RepK K H ds xs F):xs.length=ds.length:=by
 induction ds generalizing xs F with
 |nil=>cases r;rfl
 |cons d ds ih=>cases r with|cons h r=>simp[ih r]
theorem RepK.keys{xs:List (Key×V)}(r:RepK K H ds xs F):xs.map (·.1)=ds.map (·.1):=by
 induction ds generalizing xs F with
 |nil=>cases r;rfl
 |cons d ds ih=>cases r with|cons h r=>simp[ih r]
theorem RepK.val{xs:List (Key×V)}(r:RepK K H ds xs F)(k:Key) :
  (valD ds k=none/\valV xs k=none)\/∃d v B,valD ds k=some d/\valV xs k=some v/\Rep K H d v B/\B.Sublist F:=by
 induction ds generalizing xs F with
 |nil=>cases r;exact .inl ⟨rfl,rfl⟩
 | cons d ds ih=>
  cases r with
  | @cons j d v _ vs F G h r=>
   rw[Ja];by_cases e:j=k
   ·rw[Jn e,if_pos e];exact .inr ⟨d,v,F,rfl,rfl,h,Rt _ _⟩
   ·rw[Jo e,if_neg e];rcases ih r with q|⟨d',v',B,h1,h2,h3,h4⟩
    ·exact .inl q
    ·exact .inr ⟨d',v',B,h1,h2,h3,h4.trans (Ff _ _)⟩
theorem RepK.append{es:List (Key×D)}{xs ys:List (Key×V)}(r:RepK K H ds xs F)(q:RepK K H es ys G):RepK K H (ds++es) (xs++ys) (F++G):=by
 induction ds generalizing xs F with
 |nil=>cases r;exact q
 |cons d ds ih=>cases r with|cons h r=>rw[Bm];exact .cons h (ih r)
theorem RepK.put{xs:List (Key×V)}{k:Key}(r:RepK K H ds xs F)(h:Rep K H d v []):∃G,RepK K H (putD ds k d) (putK xs k v) G/\G.Sublist F:=by
 have hk:(xs.any λkv=>decide (kv.1=k))=(ds.any λkv=>decide (kv.1=k)):=by
  have e:=r.keys;rw[show(xs.any λkv=>decide (kv.1=k))=(xs.map (·.1)).any (λj=>decide (j=k)) by rw[Ko];rfl,e,Ko];rfl
 unfold putD putK;rw[hk];split
 ·clear hk;rename_i hc;clear hc
  induction ds generalizing xs F with
  |nil=>cases r;exact⟨[],.nil,S2⟩
  | cons e ds ih=>
   cases r with
   | @cons j e u _ us F G p r=>
    obtain⟨G',q,s⟩:=ih r;by_cases ej:j=k
    ·exact⟨[]++G',by simpa[ej]using RepK.cons (k:=k) h q,s.trans (Ff _ _)⟩
    ·exact⟨F++G',by simpa[ej]using RepK.cons (k:=j) p q,Sq (R9 _) s⟩
 ·refine⟨F++[],r.append ?_,by simp⟩;exact RepK.cons (F:=[]) (G:=[]) h .nil
theorem RepT.length{ds:List (List Key×D)}{xs:List (List Key×V)}(r:RepT K H ds xs F):xs.length=ds.length:=by
 induction ds generalizing xs F with
 |nil=>cases r;rfl
 |cons d ds ih=>cases r with|cons h r=>simp[ih r]
theorem RepT.keys{ds:List (List Key×D)}{xs:List (List Key×V)}(r:RepT K H ds xs F):xs.map (·.1)=ds.map (·.1):=by
 induction ds generalizing xs F with
 |nil=>cases r;rfl
 |cons d ds ih=>cases r with|cons h r=>simp[ih r]
theorem RepT.val{ds:List (List Key×D)}{xs:List (List Key×V)}(r:RepT K H ds xs F)(k:List Key) :
  (valD ds k=none/\valV xs k=none)\/∃d v B,valD ds k=some d/\valV xs k=some v/\Rep K H d v B/\B.Sublist F:=by
 induction ds generalizing xs F with
 |nil=>cases r;exact .inl ⟨rfl,rfl⟩
 | cons d ds ih=>
  cases r with
  | @cons j d v _ vs F G h r=>
   rw[Ja];by_cases e:j=k
   ·rw[Jn e,if_pos e];exact .inr ⟨d,v,F,rfl,rfl,h,Rt _ _⟩
   ·rw[Jo e,if_neg e];rcases ih r with q|⟨d',v',B,h1,h2,h3,h4⟩
    ·exact .inl q
    ·exact .inr ⟨d',v',B,h1,h2,h3,h4.trans (Ff _ _)⟩
theorem RepT.append{ds es:List (List Key×D)}{xs ys:List (List Key×V)}(r:RepT K H ds xs F)(q:RepT K H es ys G):RepT K H (ds++es) (xs++ys) (F++G):=by
 induction ds generalizing xs F with
 |nil=>cases r;exact q
 |cons d ds ih=>cases r with|cons h r=>rw[Bm];exact .cons h (ih r)
theorem RepT.put{ds:List (List Key×D)}{xs:List (List Key×V)}{k:List Key}(r:RepT K H ds xs F)(h:Rep K H d v []):∃G,RepT K H (putD ds k d) (putK xs k v) G/\G.Sublist F:=by
 have hk:(xs.any λkv=>decide (kv.1=k))=(ds.any λkv=>decide (kv.1=k)):=by
  have e:=r.keys;rw[show(xs.any λkv=>decide (kv.1=k))=(xs.map (·.1)).any (λj=>decide (j=k)) by rw[Ko];rfl,e,Ko];rfl
 unfold putD putK;rw[hk];split
 ·clear hk;rename_i hc;clear hc
  induction ds generalizing xs F with
  |nil=>cases r;exact⟨[],.nil,S2⟩
  | cons e ds ih=>
   cases r with
   | @cons j e u _ us F G p r=>
    obtain⟨G',q,s⟩:=ih r;by_cases ej:j=k
    ·exact⟨[]++G',by simpa[ej]using RepT.cons (k:=k) h q,s.trans (Ff _ _)⟩
    ·exact⟨F++G',by simpa[ej]using RepT.cons (k:=j) p q,Sq (R9 _) s⟩
 ·refine⟨F++[],r.append ?_,by simp⟩;exact RepT.cons (F:=[]) (G:=[]) h .nil
end
abbrev Env:=List (Option D)
def look:Env->Nat->Option D
 | [],_=>none
 |a::_,0=>a
 |_::r,n+1=>look r n
theorem Qdf:∀{ρ:Env}{i:Nat}{d:D},look ρ i=some d->ρ[i]? = some (some d)
 |_::_,0,_,h=>by simpa[look]using h
 |_::r,n+1,_,h=>by simpa using Qdf (ρ:=r) (i:=n) (by simpa[look]using h)
theorem Us{ρ:Env}(h:look ρ i=some d):i<ρ.length:=by
 have:=Qdf h;exact(Be.mp this).1
theorem Z7{o:Option D}:∀{ρ:Env}{i j:Nat},look (ρ.set i o) j=if j=i/\i<ρ.length then o else look ρ j
 | [],i,j=>by simp[look]
 |a::r,0,0=>by simp[look]
 |a::r,0,j+1=>by simp[look]
 |a::r,i+1,0=>by simp[look]
 | a::r,i+1,j+1=>by
  have:=Z7 (o:=o) (ρ:=r) (i:=i) (j:=j);simp only[Av,look,this,Am,Nat.add_right_cancel_iff,Nat.add_lt_add_iff_right]
theorem Z6{ρ:Env}(h:i<ρ.length):look (ρ.set i o) i=o:=by rw[Z7,if_pos ⟨rfl,h⟩]
theorem Qr{ρ:Env}(h:j≠i):look (ρ.set i o) j=look ρ j:=by rw[Z7,if_neg (λz=>h z.1)]
structure Tg where
 own:Nat->Bool
 io:List Nat
 xe:D->St->Hp->Prop:=λ_ _ _=>False
end PV
variable {R W1 W':Dj->Prop}{T:PV.Tg}{ρ:PV.Env}{z:Nat->L2.V}
namespace PV
open PySem PySem.Spec L2
structure SR0(K:Frag)(T:Tg)(z:Nat->V)(R:Addr->Prop)(H:Hp)(W:Addr->Prop)(σ:St)(ρ:Env)(fp:Nat->List Addr):Prop where
 len:ρ.length=σ.length
 wd:∀a,W a->∃ob,H a=some ob/\imm ob=false
 at_:∀i d,look ρ i=some d->∃v,σ[i]? = some (some v)/\Rep K H d v (fp i)
 own:∀i d,look ρ i=some d->T.own i=true->(fp i).Nodup/\∀a∈fp i,W a
 ro:∀i d,look ρ i=some d->T.own i=false->∀a∈fp i,R a
 wr:∀a,W a->¬R a
 rd:∀a,R a->∃ob,H a=some ob/\imm ob=false
 dis:∀i j d e,look ρ i=some d->look ρ j=some e->T.own i=true->T.own j=true->i≠j->∀a∈fp i,a∉fp j
 fix:∀i∈T.io,σ[i]? = some (some (z i))
def SR(K:Frag)(T:Tg)(z:Nat->V)(R:Addr->Prop)(H:Hp)(W:Addr->Prop)(σ:St)(ρ:Env):Prop:=∃fp,SR0 K T z R H W σ ρ fp
structure FrW(H:Hp)(W:Addr->Prop)(H':Hp)(W':Addr->Prop):Prop where
 keep:∀b ob,H b=some ob->¬W b->H' b=some ob
 dom:∀b,H' b=none->H b=none
 imm:ImmK H H'
 new:∀b,W' b->W b\/H b=none
theorem FrW.refl(H:Hp)(W:Addr->Prop):FrW H W H W:=⟨λ_ _ h _=>h,λ_ h=>h,λ_ _ h _=>h,λ_ h=>.inl h⟩
theorem FrW.trans{W W2:Addr->Prop}(a:FrW H W H1 W1)(b:FrW H1 W1 H2 W2):FrW H W H2 W2 where
 keep:=λc ob h n=>b.keep c ob (a.keep c ob h n) λw=>by
  rcases a.new c w with w|w
  ·exact n w
  ·rw[w]at h;cases h
 dom:=λc h=>a.dom c (b.dom c h)
 imm:=λc ob h i=>b.imm c ob (a.imm c ob h i) i
 new:=λc h=>by
  rcases b.new c h with w|w
  ·exact a.new c w
  ·exact .inr (a.dom c w)
theorem Same.imm(s:Same H H'):ImmK H H':=λb ob h _=>s b ob h
theorem FrW.same(W:Addr->Prop)(s:Same H H'):FrW H W H' W:=⟨λb ob h _=>s b ob h,λb h=>s.free h,Same.imm s,λ_ h=>.inl h⟩
theorem Rep.same{K:Frag}(r:Rep K H d v F)(s:Same H H'):Rep K H' d v F :=
 r.frame (Same.imm s) λa m=>by
  obtain⟨ob,h,_⟩:=r.dom a m;rw[h];exact s _ _ h
theorem Reps.same{K:Frag}{d:List D}{v:List V}(r:Reps K H d v F)(s:Same H H'):Reps K H' d v F :=
 r.frame (Same.imm s) λa m=>by
  obtain⟨ob,h,_⟩:=r.dom a m;rw[h];exact s _ _ h
theorem Rep.keep{K:Frag}{W:Addr->Prop}(r:Rep K H d v F)(f:FrW H W H' W')(n:∀a∈F,¬W a):Rep K H' d v F :=
 r.frame f.imm λa m=>by
  obtain⟨ob,h,_⟩:=r.dom a m;rw[h];exact f.keep _ _ h (n a m)
section
variable {K:Frag}{W:Addr->Prop}
theorem SR.same(s:SR K T z R H W σ ρ)(k:Same H H'):SR K T z R H' W σ ρ:=by
 obtain⟨fp,r⟩:=s;exact⟨fp,r.len,λa h=>(r.wd a h).imp λob q=>⟨k _ _ q.1,q.2⟩,λi d h=>(r.at_ i d h).imp λv q=>⟨q.1,q.2.same k⟩,r.own,r.ro,r.wr,λa h=>(r.rd a h).imp λob q=>⟨k _ _ q.1,q.2⟩,r.dis,r.fix⟩
theorem SR.wd(s:SR K T z R H W σ ρ):∀a,W a->∃ob,H a=some ob/\imm ob=false:=by obtain⟨fp,r⟩:=s;exact r.wd
theorem SR.rd(s:SR K T z R H W σ ρ):∀a,R a->∃ob,H a=some ob/\imm ob=false:=by obtain⟨fp,r⟩:=s;exact r.rd
theorem SR.nr(s:SR K T z R H W σ ρ)(h:H a=none):¬R a:=λw=>by
 obtain⟨ob,q,_⟩:=s.rd a w;rw[h]at q;cases q
theorem SR.nw(s:SR K T z R H W σ ρ)(h:H a=none):¬W a:=λw=>by
 obtain⟨ob,q,_⟩:=s.wd a w;rw[h]at q;cases q
end
abbrev WE:=Env->(D->Env->Prop)->Prop
end PV
variable {a b:PV.D}{o m m0 o2 m1 m2 o1:Bool}{i:Int}{t:String}{ρ1:PV.Env}{wb wa:PV.WE}
namespace PV
open PySem PySem.Spec L2
structure Post(K:Frag)(T:Tg)(z:Nat->V)(R:Addr->Prop)(m o:Bool)(H:Hp)(W:Addr->Prop)(σ:St)(ρ:Env)(H':Hp)(W':Addr->Prop)(ρ':Env)(d:D)(v:V)(F:List Addr):Prop where
 sr:SR K T z R H' W' σ ρ'
 fr:FrW H W H' W'
 calm:m=false->Same H H'/\W'=W/\ρ'=ρ
 rep:Rep K H' d v F
 own:o=true->F.Nodup/\∀a∈F,H a=none/\¬W' a
def EV(X:Cx)(T:Tg)(m o:Bool)(e:Expr)(w:WE):Prop :=
 ∃te,PE X e te/\∀(z:Nat->V)(R:Addr->Prop)(σ:St)(H:Hp)(W:Addr->Prop)(ρ:Env)(Q:D->Env->Prop)(Q':VK),SR X.K T z R H W σ ρ->w ρ Q ->
  (∀v H' W' d ρ' F,Post X.K T z R m o H W σ ρ H' W' ρ' d v F->Q d ρ'->Q' v H')->te σ H Q'
section
variable {K:Frag}{W W2:Addr->Prop}{ρ2:Env}{d1 d2:D}{v1 v2:V}{F1 F2:List Addr}
theorem Post.first(p:Post K T z R m1 o1 H W σ ρ H1 W1 ρ1 d1 v1 F1)(q:Post K T z R m2 o2 H1 W1 σ ρ1 H2 W2 ρ2 d2 v2 F2)(hc:o1=true\/m2=false):Rep K H2 d1 v1 F1:=by
 rcases hc with hc|hc
 ·exact p.rep.keep q.fr λa h=>((p.own hc).2 a h).2
 ·exact p.rep.same (q.calm hc).1
theorem Post.firstOwn(p:Post K T z R m1 o1 H W σ ρ H1 W1 ρ1 d1 v1 F1)(q:Post K T z R m2 o2 H1 W1 σ ρ1 H2 W2 ρ2 d2 v2 F2)(h:o1=true):F1.Nodup/\∀a∈F1,H a=none/\¬W2 a:=by
 obtain⟨h1,h2⟩:=p.own h;refine⟨h1,λa m=>⟨(h2 a m).1,λw=>?_⟩⟩;rcases q.fr.new a w with w|w
 ·exact(h2 a m).2 w
 ·obtain⟨ob,e,_⟩:=p.rep.dom a m;rw[e]at w;cases w
theorem Post.lastOwn(p:Post K T z R m1 o1 H W σ ρ H1 W1 ρ1 d1 v1 F1)(q:Post K T z R m2 o2 H1 W1 σ ρ1 H2 W2 ρ2 d2 v2 F2)(h:o2=true):F2.Nodup/\∀a∈F2,H a=none/\¬W2 a:=by
 obtain⟨h1,h2⟩:=q.own h;exact⟨h1,λa m=>⟨p.fr.dom a (h2 a m).1,(h2 a m).2⟩⟩
theorem Post.calm2(p:Post K T z R m1 o1 H W σ ρ H1 W1 ρ1 d1 v1 F1)(q:Post K T z R m2 o2 H1 W1 σ ρ1 H2 W2 ρ2 d2 v2 F2)(h:(m1||m2)=false):Same H H2/\W2=W/\ρ2=ρ:=by
 rw[Mq]at h;obtain⟨a1,a2,a3⟩:=p.calm h.1;obtain⟨b1,b2,b3⟩:=q.calm h.2;exact⟨a1.trans b1,b2.trans a2,b3.trans a3⟩
theorem Post.fin(s:SR K T z R H1 W1 σ ρ1)(f:FrW H W H1 W1)(c:m=false->Same H H1/\W1=W/\ρ1=ρ)(k:Same H1 H2)(r:Rep K H2 d v F)(nd:F.Nodup)(nw:∀a∈F,H1 a=none) :
  Post K T z R m true H W σ ρ H2 W1 ρ1 d v F where
 sr:=s.same k
 fr:=f.trans (FrW.same W1 k)
 calm:=λh=>⟨(c h).1.trans k,(c h).2⟩
 rep:=r
 own:=λ_=>⟨nd,λa m=>⟨f.dom a (nw a m),s.nw (nw a m)⟩⟩
theorem Post.flat(s:SR K T z R H1 W1 σ ρ1)(f:FrW H W H1 W1)(c:m=false->Same H H1/\W1=W/\ρ1=ρ)(r:Rep K H1 d v []):Post K T z R m true H W σ ρ H1 W1 ρ1 d v [] where
 sr:=s
 fr:=f
 calm:=c
 rep:=r
 own:=λ_=>⟨D8,λa m=>nomatch m⟩
end
section
variable {a b:Expr}{w:WE}
theorem EV.lift(h:EV X T m o e w):EV X T m true e (λρ Q=>w ρ λd ρ'=>d.pure=true/\Q d ρ'):=by
 obtain⟨te,p,g⟩:=h;refine⟨te,p,λz R σ H W ρ Q Q' s hw k=>g z R σ H W ρ _ Q' s hw λv H' W' d ρ' F q ⟨hp,hq⟩=>?_⟩;obtain⟨e,r⟩:=q.rep.pure hp;exact k v H' W' d ρ' [] ⟨q.sr,q.fr,q.calm,r,λ_=>⟨D8,λa m=>nomatch m⟩⟩ hq
def wVar(i:Nat):WE:=λρ Q=>match look ρ i with
 |some d=>Q d ρ
 |none=>False
def wC(d:D):WE:=λρ Q=>Q d ρ
theorem Qy9(i:Nat)(h:PE X e (tVar i)):EV X T false false e (wVar i):=by
 refine⟨_,h,λz R σ H W ρ Q Q' s hw k=>?_⟩;unfold wVar at hw;cases hl:look ρ i with
 |none=>rw[hl]at hw;exact hw.elim
 | some d=>
  rw[hl]at hw;obtain⟨fp,r⟩:=s;obtain⟨v,h1,h2⟩:=r.at_ i d hl;exact⟨v,h1,k v H W d ρ (fp i) ⟨⟨fp,r⟩,FrW.refl H W,λ_=>⟨Same.refl H,rfl,rfl⟩,h2,λh=>nomatch h⟩ hw⟩
theorem Qa(i:Nat){x:Str}(hN:X.N[i]? = some x:=by rfl)(hv:Vis X.env.scope x:=by first|exact Ds rfl|exact B9 (Ds rfl)|exact B9 (B9 rfl))(hd:(x==("__debug__":Str))=false:=by decide)
  (hcd:(x==("__classdict__":Str))=false:=by decide):EV X T false false (.Name x pos) (wVar i):=Qy9 i (Yc hN hv hd hcd)
theorem Qah(h:PE X e (tC v))(r:∀H,Rep X.K H d v []):EV X T false true e (wC d) :=
 ⟨_,h,λz R σ H W ρ Q Q' s hw k=>k v H W d ρ [] (Post.flat s (FrW.refl H W) (λ_=>⟨Same.refl H,rfl,rfl⟩) (r H)) hw⟩
theorem Qd{j pos}:EV X T false true (.Constant (.int i) j pos) (wC (.int i)):=Qah Qlq λ_=>.int i
theorem Qnb{i:Bool}{j pos}:EV X T false true (.Constant (.bool i) j pos) (wC (.bl i)):=Qah Qvx λ_=>.bl i
theorem Qxe{j pos}:EV X T false true (.Constant .none j pos) (wC .non):=Qah Qvu λ_=>.non
theorem Qdq{x:Str}{t:Tok}(hm:X.mg x=some (.int i t))(hg:Gl X x:=by rfl)(hd:(x==("__debug__":Str))=false:=by decide):EV X T false true (.Name x pos) (wC (.int i)) :=
 Qah (Qtd hg hm (v:=.int i) ⟨t,rfl⟩ hd) λ_=>.int i
abbrev G2:=D->D->(D->Prop)->Prop
structure Fin(K:Frag)(H H':Hp)(d:D)(v:V)(F:List Addr):Prop where
 same:Same H H'
 rep:Rep K H' d v F
 nd:F.Nodup
 new:∀a∈F,H a=none
theorem Fin.flat{K:Frag}(r:Rep K H d v []):Fin K H H d v []:=⟨Same.refl H,r,D8,λ_ m=>nomatch m⟩
theorem Qo{p:Addr}(h:H p=none):Same H (upd H p ob):=λb u e=>by rw[Ql (Qw e h)];exact e
def OpD(X:Cx)(f:Value->Value->Sem Value)(g:G2):Prop :=
 ∃r,OpR X f r/\∀(H:Hp)(a b:D)(x y:V)(F1 F2:List Addr)(k:D->Prop)(Q:VK),Rep X.K H a x F1->Rep X.K H b y F2->g a b k ->
  (∀v H' d F,Fin X.K H H' d v F->k d->Q v H')->r x y H Q
def wBin(g:G2)(wa wb:WE):WE:=λρ Q=>wa ρ λx ρ1=>wb ρ1 λy ρ2=>g x y λd=>Q d ρ2
theorem two{ta:TE}{W:Addr->Prop}{RR:V->V->Hp->Prop}{Q2:D->D->Env->Prop}
  (ga:∀(z:Nat->V)(R:Addr->Prop)(σ:St)(H:Hp)(W:Addr->Prop)(ρ:Env)(Q:D->Env->Prop)(Q':VK),SR X.K T z R H W σ ρ->wa ρ Q->(∀v H' W' d ρ' F,Post X.K T z R m1 o1 H W σ ρ H' W' ρ' d v F->Q d ρ'->Q' v H')->ta σ H Q')
  (gb:∀(z:Nat->V)(R:Addr->Prop)(σ:St)(H:Hp)(W:Addr->Prop)(ρ:Env)(Q:D->Env->Prop)(Q':VK),SR X.K T z R H W σ ρ->wb ρ Q->(∀v H' W' d ρ' F,Post X.K T z R m2 o2 H W σ ρ H' W' ρ' d v F->Q d ρ'->Q' v H')->tb σ H Q')
  (hc:o1=true\/m2=false) (s:SR X.K T z R H W σ ρ) (hw:wa ρ λx ρ1=>wb ρ1 λy ρ2=>Q2 x y ρ2)
  (k:∀x y H2 W2 d1 d2 ρ2 F1 F2,SR X.K T z R H2 W2 σ ρ2->FrW H W H2 W2->((m1||m2)=false->Same H H2/\W2=W/\ρ2=ρ)->Rep X.K H2 d1 x F1->Rep X.K H2 d2 y F2 ->
   (o1=true->F1.Nodup/\∀a∈F1,H a=none/\¬W2 a)->(o2=true->F2.Nodup/\∀a∈F2,H a=none/\¬W2 a)->(o2=true->∀a∈F1,a∉F2)->Q2 d1 d2 ρ2->RR x y H2) :
  ta σ H λx H1=>tb σ H1 λy H2=>RR x y H2:=by
 refine ga z R σ H W ρ _ _ s hw λv1 H1 W1 d1 ρ1 F1 p q1=>?_;refine gb z R σ H1 W1 ρ1 _ _ p.sr q1 λv2 H2 W2 d2 ρ2 F2 q q2=>?_;refine k v1 v2 H2 W2 d1 d2 ρ2 F1 F2 q.sr (p.fr.trans q.fr) (p.calm2 q) (p.first q hc) q.rep (p.firstOwn q) (p.lastOwn q) (λh a m1 m2=>?_) q2;obtain⟨ob,e,_⟩:=p.rep.dom a m1;rw[((q.own h).2 a m2).1]at e;cases e
theorem Qy{op:Operator}{g:G2}(ho:OpD X (binaryOp op) g)(ha:EV X T m1 o1 a wa)(hb:EV X T m2 o2 b wb)(hc:o1=true\/m2=false:=by first|exact .inl rfl|exact .inr rfl) :
  EV X T (m1||m2) true (.BinOp a op b pos) (wBin g wa wb):=by
 obtain⟨r,ro,gr⟩:=ho;obtain⟨ta,pa,ga⟩:=ha;obtain⟨tb,pb,gb⟩:=hb;refine⟨_,Qyr ro pa pb,λz R σ H W ρ Q Q' s hw k=>?_⟩;refine two ga gb hc s hw λx y H2 W2 d1 d2 ρ2 F1 F2 s2 f2 c2 r1 r2 _ _ _ q2=>?_;exact gr H2 d1 d2 x y F1 F2 _ Q' r1 r2 q2 λv H' d F fi hk=>k v H' W2 d ρ2 F (Post.fin s2 f2 c2 fi.same fi.rep fi.nd fi.new) hk
theorem Qxi{g:G2}(ho:OpD X (compareOp op) g)(ha:EV X T m1 o1 a wa)(hb:EV X T m2 o2 b wb)(hc:o1=true\/m2=false:=by first|exact .inl rfl|exact .inr rfl)
  (hm:behindInMarks op b=false:=by first|exact Qq9 _|with_unfolding_all rfl):EV X T (m1||m2) true (.Compare a [op] [b] pos) (wBin g wa wb):=by
 obtain⟨r,ro,gr⟩:=ho;obtain⟨ta,pa,ga⟩:=ha;obtain⟨tb,pb,gb⟩:=hb;refine⟨_,Qtg ro pa pb hm,λz R σ H W ρ Q Q' s hw k=>?_⟩;refine two ga gb hc s hw λx y H2 W2 d1 d2 ρ2 F1 F2 s2 f2 c2 r1 r2 _ _ _ q2=>?_;exact gr H2 d1 d2 x y F1 F2 _ Q' r1 r2 q2 λv H' d F fi hk=>k v H' W2 d ρ2 F (Post.fin s2 f2 c2 fi.same fi.rep fi.nd fi.new) hk
abbrev WT:=Env->(Bool->Env->Prop)->Prop
structure PostT(K:Frag)(T:Tg)(z:Nat->V)(R:Addr->Prop)(m:Bool)(H:Hp)(W:Addr->Prop)(σ:St)(ρ:Env)(H':Hp)(W':Addr->Prop)(ρ':Env):Prop where
 sr:SR K T z R H' W' σ ρ'
 fr:FrW H W H' W'
 calm:m=false->Same H H'/\W'=W/\ρ'=ρ
def TV(X:Cx)(T:Tg)(m:Bool)(e:Expr)(w:WT):Prop :=
 ∃tt,PT X e tt/\∀(z:Nat->V)(R:Addr->Prop)(σ:St)(H:Hp)(W:Addr->Prop)(ρ:Env)(Q:Bool->Env->Prop)(Q':Bool->Hp->Prop),SR X.K T z R H W σ ρ->w ρ Q ->
  (∀b H' W' ρ',PostT X.K T z R m H W σ ρ H' W' ρ'->Q b ρ'->Q' b H')->tt σ H Q'
noncomputable def truD:D->Option Bool
 | .non=>some false
 | .bl b=>some b
 | .int i=>some (i != 0)
 | .str y=>if y.length<=sizeLine then some ((y.length:Int) != 0)else none
 | .lst xs=>some (!xs.isEmpty)
 | .tup xs=>some (!xs.isEmpty)
 | .dik kvs=>some (!kvs.isEmpty)
 | .kls xs=>some (!xs.isEmpty)
 | .dit _=>none
 | .ty _=>none
 | .fdk _=>none
 | .ftp _=>none
 | .fls _=>none
 | .fdt _=>none
 | .obj _ _=>none
 | .clo _ _=>none
 | .kc _=>none
 | .dmx _=>none
 | .fmx _=>none
 | .lsa _ _=>none
 | .ist _ _=>none
def wTru(wa:WE):WT:=λρ Q=>wa ρ λd ρ'=>match truD d with
 |some b=>Q b ρ'
 |none=>False
theorem Reps.emp{K:Frag}{ds:List D}(r:Reps K H ds xs F):ds.isEmpty=xs.isEmpty:=by
 have:=r.length;cases ds<;>cases xs<;>simp at this<;>rfl
theorem RepK.emp{K:Frag}{xs:List (Key×V)}(r:RepK K H ds xs F):ds.isEmpty=xs.isEmpty:=by
 have:=r.length;cases ds<;>cases xs<;>simp at this<;>rfl
theorem Qr8{K:Frag}{b:Bool}(r:Rep K H d x F)(h:truD d=some b):TruV K x H b:=by
 cases r with
 |non=>exact(Bq h).symm
 |bl c=>exact(Bq h).symm
 |int c=>exact(Bq h).symm
 | str y=>
  have h:(if y.length<=sizeLine then some ((y.length:Int) != 0)else none)=some b:=h
  split at h
  ·rename_i hl;exact⟨hl,(Bq h).symm⟩
  ·cases h
 | tup e r=>
  refine .inr (.inl ⟨_,.of e,?_⟩);rw[← Bq h,r.emp]
 | lst e r=>
  refine .inl ⟨_,.of e,?_⟩;rw[← Bq h,r.emp]
 | kls e r=>
  refine .inl ⟨_,e.sq,?_⟩;rw[← Bq h,r.emp]
 | dik e r=>
  refine .inr (.inr ⟨_,e,?_⟩);rw[← Bq h,r.emp]
 |dit e r=>cases h
 |ty t=>cases h
 |fdk e r=>cases h
 |ftp e hd r=>cases h
 |fls e r=>cases h
 |fdt e r=>cases h
 |obj e hc hf=>cases h
 |clo e r=>cases h
 |kc a=>cases h
 |dmx e hk hm r=>cases h
 |fmx e hk hm r=>cases h
 |lsa e r=>cases h
 |ist e hc hn r=>cases h
theorem Qkn(ha:EV X T m o a wa)(he:∀whole,isTrue a X.env whole=(do let v ← whole;standAt a.pos;holding [v] (truthy v)):=by intro _;rfl):TV X T m a (wTru wa):=by
 obtain⟨ta,pa,ga⟩:=ha
 refine⟨_,Qov pa he,λz R σ H W ρ Q Q' s hw k=>?_⟩
 refine ga z R σ H W ρ _ _ s hw λv1 H1 W1 d1 ρ1 F1 p q1=>?_
 cases ht:truD d1 with
 |none=>rw[ht]at q1;exact q1.elim
 | some b=>
  rw[ht]at q1
  exact⟨b,Qr8 p.rep ht,k b H1 W1 ρ1 ⟨p.sr,p.fr,p.calm⟩ q1⟩
def wBl(wa:WE):WT:=λρ Q=>wa ρ λd ρ'=>match d with
 | .bl b=>Q b ρ'
 |_=>False
theorem Qqv{K:Frag}{b:Bool}(r:Rep K H (.bl b) x F):x=.bl b:=by cases r;rfl
theorem Yo{g:G2}(ho:OpD X (compareOp op) g)(ha:EV X T m1 o1 a wa)(hb:EV X T m2 o2 b wb)(hc:o1=true\/m2=false:=by first|exact .inl rfl|exact .inr rfl)
  (hm:behindInMarks op b=false:=by first|exact Qq9 _|with_unfolding_all rfl):TV X T (m1||m2) (.Compare a [op] [b] pos) (wBl (wBin g wa wb)):=by
 obtain⟨r,ro,gr⟩:=ho;obtain⟨ta,pa,ga⟩:=ha;obtain⟨tb,pb,gb⟩:=hb;refine⟨_,Qs3 ro pa pb hm,λz R σ H W ρ Q Q' s hw k=>?_⟩;refine two ga gb hc s hw λx y H2 W2 d1 d2 ρ2 F1 F2 s2 f2 c2 r1 r2 _ _ _ q2=>?_;refine gr H2 d1 d2 x y F1 F2 _ _ r1 r2 q2 λv H' d F fi hk=>?_;cases d with
 |bl b=>exact⟨b,Qqv fi.rep,k b H' W2 ρ2 ⟨s2.same fi.same,f2.trans (FrW.same W2 fi.same),λh=>⟨(c2 h).1.trans fi.same,(c2 h).2⟩⟩ hk⟩
 |_=>exact hk.elim
end
section
variable {a b:Expr}{w:WE}{wt wu:WT}
def wAnd(wt wu:WT):WT:=λρ Q=>wt ρ λb ρ'=>if b=true then wu ρ' Q else Q false ρ'
def wOr(wt wu:WT):WT:=λρ Q=>wt ρ λb ρ'=>if b=true then Q true ρ' else wu ρ' Q
def BV(X:Cx)(T:Tg)(m:Bool)(e:Expr)(w:WT):Prop :=
 ∃tt,PW X e tt/\∀(z:Nat->V)(R:Addr->Prop)(σ:St)(H:Hp)(W:Addr->Prop)(ρ:Env)(Q:Bool->Env->Prop)(Q':Bool->Hp->Prop),SR X.K T z R H W σ ρ->w ρ Q ->
  (∀b H' W' ρ',PostT X.K T z R m H W σ ρ H' W' ρ'->Q b ρ'->Q' b H')->tt σ H Q'
theorem PostT.seq{K:Frag}{W W2:Addr->Prop}{ρ2:Env}(p:PostT K T z R m1 H W σ ρ H1 W1 ρ1)(q:PostT K T z R m2 H1 W1 σ ρ1 H2 W2 ρ2):PostT K T z R (m1||m2) H W σ ρ H2 W2 ρ2 where
 sr:=q.sr
 fr:=p.fr.trans q.fr
 calm:=λh=>by
  rw[Mq]at h;obtain⟨a1,a2,a3⟩:=p.calm h.1;obtain⟨b1,b2,b3⟩:=q.calm h.2;exact⟨a1.trans b1,b2.trans a2,b3.trans a3⟩
theorem PostT.left{K:Frag}{W:Addr->Prop}(p:PostT K T z R m1 H W σ ρ H1 W1 ρ1):PostT K T z R (m1||m2) H W σ ρ H1 W1 ρ1 :=
 ⟨p.sr,p.fr,λh=>p.calm (Mq.mp h).1⟩
theorem Qgr(ha:TV X T m a wt):BV X T m (.BoolOp .And [a] pos) wt:=by
 obtain⟨ta,pa,ga⟩:=ha;exact⟨_,Qsx pa,ga⟩
theorem Qro(ha:TV X T m a wt):BV X T m (.BoolOp .Or [a] pos) wt:=by
 obtain⟨ta,pa,ga⟩:=ha;exact⟨_,Qvl pa,ga⟩
theorem Qnz(ha:TV X T m1 a wt)(hb:BV X T m2 (.BoolOp .And (b::rest) pos) wu):BV X T (m1||m2) (.BoolOp .And (a::b::rest) pos) (wAnd wt wu):=by
 obtain⟨ta,pa,ga⟩:=ha;obtain⟨tb,pb,gb⟩:=hb;refine⟨_,Qvm pa pb,λz R σ H W ρ Q Q' s hw k=>ga z R σ H W ρ _ _ s hw λc H1 W1 ρ1 p q1=>?_⟩;cases c with
 |true=>exact gb z R σ H1 W1 ρ1 Q Q' p.sr q1 λb H2 W2 ρ2 q q2=>k b H2 W2 ρ2 (p.seq q) q2
 |false=>exact k false H1 W1 ρ1 p.left q1
theorem Qxs(ha:TV X T m1 a wt)(hb:BV X T m2 (.BoolOp .Or (b::rest) pos) wu):BV X T (m1||m2) (.BoolOp .Or (a::b::rest) pos) (wOr wt wu):=by
 obtain⟨ta,pa,ga⟩:=ha;obtain⟨tb,pb,gb⟩:=hb;refine⟨_,Qyp pa pb,λz R σ H W ρ Q Q' s hw k=>ga z R σ H W ρ _ _ s hw λc H1 W1 ρ1 p q1=>?_⟩;cases c with
 |false=>exact gb z R σ H1 W1 ρ1 Q Q' p.sr q1 λb H2 W2 ρ2 q q2=>k b H2 W2 ρ2 (p.seq q) q2
 |true=>exact k true H1 W1 ρ1 p.left q1
theorem Qan(h:BV X T m e wt):TV X T m e wt:=by
 obtain⟨ta,pa,ga⟩:=h;exact⟨_,pa.pt,ga⟩
def wIfE(wt:WT)(wa wb:WE):WE:=λρ Q=>wt ρ λc ρ1=>if c=true then wa ρ1 Q else wb ρ1 Q
theorem Qza(hc:TV X T m0 c wt)(ha:EV X T m1 o a wa)(hb:EV X T m2 o b wb):EV X T (m0||(m1||m2)) o (.IfExp c a b pos) (wIfE wt wa wb):=by
 obtain ⟨tc,pc,gc⟩:=hc;obtain⟨ta,pa,ga⟩:=ha;obtain⟨tb,pb,gb⟩:=hb;refine⟨_,Qo7 pc pa pb,λz R σ H W ρ Q Q' s hw k=>gc z R σ H W ρ _ _ s hw λc H1 W1 ρ1 p q1=>?_⟩;have fin:∀{m':Bool} v H' W' d ρ' F,Post X.K T z R m' o H1 W1 σ ρ1 H' W' ρ' d v F->((m1||m2)=false->m'=false)->Q d ρ'->Q' v H':=λv H' W' d ρ' F q hm hq=>by
  refine k v H' W' d ρ' F ⟨q.sr,p.fr.trans q.fr,λh=>?_,q.rep,λh=>⟨(q.own h).1,λa ma=>⟨p.fr.dom a ((q.own h).2 a ma).1,((q.own h).2 a ma).2⟩⟩⟩ hq;rw[Mq]at h;obtain⟨a1,a2,a3⟩:=p.calm h.1;obtain⟨b1,b2,b3⟩:=q.calm (hm h.2);exact⟨a1.trans b1,b2.trans a2,b3.trans a3⟩
 cases c with
 |true=>exact ga z R σ H1 W1 ρ1 Q Q' p.sr q1 λv H' W' d ρ' F q hq=>fin v H' W' d ρ' F q (λh=>(Mq.mp h).1) hq
 |false=>exact gb z R σ H1 W1 ρ1 Q Q' p.sr q1 λv H' W' d ρ' F q hq=>fin v H' W' d ρ' F q (λh=>(Mq.mp h).2) hq
end
end PV
variable {neg:Bool}
namespace PV
open PySem PySem.Spec L2
open PySem.W (Dat kqdP kqdPs kqdOk)
mutual
noncomputable def Yf:D->Dat
 | .non=>.none
 | .bl b=>.bool b
 | .int i=>.int i
 | .str x=>.str x
 | .tup xs=>.tuple (Zh xs)
 | .lst xs=>.list (Zh xs)
 | .dik _=>.none
 | .dit _=>.none
 | .kls _=>.none
 | .ty _=>.none
 | .fdk _=>.none
 | .ftp _=>.none
 | .fls _=>.none
 | .fdt _=>.none
 | .obj _ _=>.none
 | .clo _ _=>.none
 | .kc _=>.none
 | .dmx _=>.none
 | .fmx _=>.none
 | .lsa _ _=>.none
 | .ist _ _=>.none
noncomputable def Zh:List D->List Dat
 | []=>[]
 |d::r=>Yf d::Zh r
end
mutual
noncomputable def eqOk:Nat->D->Bool
 |_,.non=>true
 |_,.int _=>true
 |_,.str x=>PyData.strOk x
 |n+1,.tup xs=>Qbh n xs
 |n+1,.lst xs=>Qbh n xs
 |_,_=>false
noncomputable def Qbh:Nat->List D->Bool
 |_,[]=>true
 |n,d::r=>eqOk n d&&Qbh n r
end
mutual
theorem Qds:∀(n:Nat)(d:D),eqOk n d=true->kqdOk n (Yf d)=true
 |_,.non,_=>by simp[Yf,kqdOk]
 |_,.bl _,h=>by cases ‹Nat›<;>simp[eqOk]at h
 |_,.int _,_=>by simp[Yf,kqdOk]
 | _,.str x,h=>by
  cases ‹Nat›<;>(simp only[eqOk]at h;simpa[Yf,kqdOk]using h)
 |0,.tup _,h=>by simp[eqOk]at h
 |0,.lst _,h=>by simp[eqOk]at h
 | n+1,.tup xs,h=>by
  simp only[eqOk]at h;rw[Yf];simp only[kqdOk];exact Qbg n xs h
 | n+1,.lst xs,h=>by
  simp only[eqOk]at h;rw[Yf];simp only[kqdOk];exact Qbg n xs h
 |n,.dik _,h=>by cases n<;>simp[eqOk]at h
 |n,.dit _,h=>by cases n<;>simp[eqOk]at h
 |n,.kls _,h=>by cases n<;>simp[eqOk]at h
 |n,.ty _,h=>by cases n<;>simp[eqOk]at h
 |n,.fdk _,h=>by cases n<;>simp[eqOk]at h
 |n,.ftp _,h=>by cases n<;>simp[eqOk]at h
 |n,.fls _,h=>by cases n<;>simp[eqOk]at h
 |n,.fdt _,h=>by cases n<;>simp[eqOk]at h
 |n,.obj _ _,h=>by cases n<;>simp[eqOk]at h
 |n,.clo _ _,h=>by cases n<;>simp[eqOk]at h
 |n,.kc _,h=>by cases n<;>simp[eqOk]at h
theorem Qbg:∀(n:Nat)(xs:List D),Qbh n xs=true->(Zh xs).all (kqdOk n)=true
 |_,[],_=>by simp[Zh]
 | n,d::r,h=>by
  simp only[Qbh,B4]at h;rw[Zh,Rw,Qds n d h.1,Qbg n r h.2];rfl
end
mutual
theorem Qeb:∀(n k:Nat)(a b:D),eqOk n a=true->eqOk k b=true->Yf a=Yf b->a=b
 | n,k,a,b,ha,hb,h=>by
  cases a with
  |non=>cases b<;>first|rfl|(simp[Yf]at h;done)|(cases k<;>simp[eqOk]at hb)
  |bl x=>cases n<;>simp[eqOk]at ha
  |int x=>cases b<;>first|(simp[Yf]at h;rw[h])|(simp[Yf]at h)
  |str x=>cases b<;>first|(simp[Yf]at h;rw[h])|(simp[Yf]at h)
  | tup xs=>
   cases b with
   | tup ys=>
    cases n with
    |zero=>simp[eqOk]at ha
    | succ n=>
     cases k with
     |zero=>simp[eqOk]at hb
     | succ k=>
      simp only[eqOk]at ha hb;simp only[Yf,Dat.tuple.injEq]at h;rw[G5 n k xs ys ha hb h]
   |_=>simp[Yf]at h
  | lst xs=>
   cases b with
   | lst ys=>
    cases n with
    |zero=>simp[eqOk]at ha
    | succ n=>
     cases k with
     |zero=>simp[eqOk]at hb
     | succ k=>
      simp only[eqOk]at ha hb;simp only[Yf,Dat.list.injEq]at h;rw[G5 n k xs ys ha hb h]
   |_=>simp[Yf]at h
  |dik x=>cases n<;>simp[eqOk]at ha
  |dit x=>cases n<;>simp[eqOk]at ha
  |kls x=>cases n<;>simp[eqOk]at ha
  |ty x=>cases n<;>simp[eqOk]at ha
  |fdk x=>cases n<;>simp[eqOk]at ha
  |ftp x=>cases n<;>simp[eqOk]at ha
  |fls x=>cases n<;>simp[eqOk]at ha
  |fdt x=>cases n<;>simp[eqOk]at ha
  |obj x y=>cases n<;>simp[eqOk]at ha
  |clo x y=>cases n<;>simp[eqOk]at ha
  |kc x=>cases n<;>simp[eqOk]at ha
  |dmx x=>cases n<;>simp[eqOk]at ha
  |fmx x=>cases n<;>simp[eqOk]at ha
  |lsa x y=>cases n<;>simp[eqOk]at ha
  |ist x y=>cases n<;>simp[eqOk]at ha
theorem G5:∀(n k:Nat)(a b:List D),Qbh n a=true->Qbh k b=true->Zh a=Zh b->a=b
 | n,k,[],b,ha,hb,h=>by
  cases b with
  |nil=>rfl
  |cons=>simp[Zh]at h
 | n,k,x::a,b,ha,hb,h=>by
  cases b with
  |nil=>simp[Zh]at h
  | cons y b=>
   simp only[Zh,List.cons.injEq]at h;simp only[Qbh,B4]at ha hb;rw[Qeb n k x y ha.1 hb.1 h.1,G5 n k a b ha.2 hb.2 h.2]
end
theorem Rep.dv{K:Frag}(n:Nat)(r:Rep K H d v F):eqOk n d=true->DV H v (Yf d):=by
 have no:∀{P:Prop}{n:Nat}{d:D},(∀n,eqOk n d=false)->eqOk n d=true->P:=λh h'=>absurd ((h _).symm.trans h') (by simp);refine Rep.rec (motive_1:=λd v _ _=>∀n,eqOk n d=true->DV H v (Yf d)) (motive_2:=λd v _ _=>∀n,Qbh n d=true->DVs H v (Zh d)) (motive_3:=λ_ _ _ _=>True) (motive_4:=λ_ _ _ _=>True) ?_ ?_ ?_ ?_ ?_ ?_ ?_ ?_ ?_ ?_ ?_ ?_ ?_ ?_ ?_ ?_ ?_ ?_ ?_ ?_ ?_ ?_ ?_ trivial (λ_ _ _ _=>trivial) trivial (λ_ _ _ _=>trivial) r n
 ·exactλ_ _=>by rw[Yf];exact .non
 ·exactλb n=>no λn=>by cases n<;>rfl
 ·exactλi _ _=>by rw[Yf];exact .int i
 ·exactλi _ _=>by rw[Yf];exact .str i
 ·intro _ _ _ _ e _ ih n h;cases n with
  |zero=>simp[eqOk]at h
  |succ n=>rw[eqOk]at h;rw[Yf];exact .tup e (ih n h)
 ·intro _ _ _ _ e _ ih n h;cases n with
  |zero=>simp[eqOk]at h
  |succ n=>rw[eqOk]at h;rw[Yf];exact .lst e (ih n h)
 ·exactλ_ _ _ n=>no λn=>by cases n<;>rfl
 ·exactλ_ _ _ n=>no λn=>by cases n<;>rfl
 ·exactλ_ _ _ n=>no λn=>by cases n<;>rfl
 ·exactλ_ n=>no λn=>by cases n<;>rfl
 ·exactλ_ _ _ n=>no λn=>by cases n<;>rfl
 ·exactλ_ _ _ _ n=>no λn=>by cases n<;>rfl
 ·exactλ_ _ _ n=>no λn=>by cases n<;>rfl
 ·exactλ_ _ _ n=>no λn=>by cases n<;>rfl
 ·exactλ_ _ _ n=>no λn=>by cases n<;>rfl
 ·exactλ_ _ _ n=>no λn=>by cases n<;>rfl
 ·exactλ_ n=>no λn=>by cases n<;>rfl
 ·exactλ_ _ _ _ _ n=>no λn=>by cases n<;>rfl
 ·exactλ_ _ _ _ _ n=>no λn=>by cases n<;>rfl
 ·exactλ_ _ _ n=>no λn=>by cases n<;>rfl
 ·exactλ_ _ _ _ _ n=>no λn=>by cases n<;>rfl
 ·exactλ_ _=>by rw[Zh];exact .nil
 ·intro _ _ _ _ _ _ _ _ ih1 ih2 n q;rw[Qbh,B4]at q;rw[Zh];exact .cons (ih1 n q.1) (ih2 n q.2)
noncomputable def dAdd:G2
 | .int i,.int j,k=>k (.int (i+j))
 | .str x,.str y,k=>x.length+y.length<=sizeLine/\k (.str (x++y))
 | .tup xs,.tup ys,k=>Qm xs=true/\Qm ys=true/\xs≠[]/\xs.length+ys.length<=sizeLine/\k (.tup (xs++ys))
 | .lst xs,.lst ys,k=>Qm xs=true/\Qm ys=true/\xs.length+ys.length<=sizeLine/\k (.lst (xs++ys))
 |_,_,_=>False
def dSub:G2
 | .int i,.int j,k=>k (.int (i-j))
 |_,_,_=>False
def dMul:G2
 | .int i,.int j,k=>CMul i j/\k (.int (i*j))
 | .lst xs,.int n,k=>Qm xs=true /\ -(2 ^ 63)<=n/\n<2 ^ 63/\xs.length*n.toNat<=sizeLine/\k (.lst (Bt n.toNat xs).flatten)
 |_,_,_=>False
def dDiv:G2
 | .int i,.int j,k=>(0<j/\j<1073741824/\k (.int (i/j)))\/(j<0/\j.natAbs<1073741824/\k (.int (i.fdiv j)))
 |_,_,_=>False
def dMod:G2
 | .int i,.int j,k=>(0<j/\k (.int (i%j)))\/(j<0/\k (.int (i.fmod j)))
 |_,_,_=>False
noncomputable def dEq:G2
 | .int i,.int j,k=>k (.bl (decide (i=j)))
 | .bl i,.bl j,k=>k (.bl (i==j))
 | .str i,.str j,k=>k (.bl (decide (i=j)))
 |a,b,k=>eqOk 9 a=true/\eqOk 9 b=true/\(a=b->k (.bl true))/\(a≠b->k (.bl false))
noncomputable def dNe:G2
 | .int i,.int j,k=>k (.bl (!decide (i=j)))
 | .bl i,.bl j,k=>k (.bl (!(i==j)))
 | .str i,.str j,k=>k (.bl (!decide (i=j)))
 |a,b,k=>eqOk 9 a=true/\eqOk 9 b=true/\(a=b->k (.bl false))/\(a≠b->k (.bl true))
def dCmp(f:Int->Int->Bool):G2
 | .int i,.int j,k=>k (.bl (f i j))
 |_,_,_=>False
theorem Qsp{K:Frag}(r:Rep K H (.int i) x F):x=.int i:=by cases r;rfl
theorem Reps.flatten{K:Frag}{H:Hp}{ds:List D}{xs:List V}(r:Reps K H ds xs []):∀n:Nat,Reps K H (Bt n ds).flatten (Bt n xs).flatten []
 |0=>.nil
 | n+1=>by
  have:=r.append (Reps.flatten r n);simpa[Mw,N0]using this
theorem Qp8(g:dAdd a b k):(∃i j,a=.int i/\b=.int j)\/(∃i j,a=.str i/\b=.str j)\/(∃i j,a=.tup i/\b=.tup j)\/∃i j,a=.lst i/\b=.lst j:=by
 cases a with
 | int i=>cases b with
  |int j=>exact .inl ⟨i,j,rfl,rfl⟩
  |_=>exact(show False from g).elim
 | str i=>cases b with
  |str j=>exact .inr (.inl ⟨i,j,rfl,rfl⟩)
  |_=>exact(show False from g).elim
 | tup i=>cases b with
  |tup j=>exact .inr (.inr (.inl ⟨i,j,rfl,rfl⟩))
  |_=>exact(show False from g).elim
 | lst i=>cases b with
  |lst j=>exact .inr (.inr (.inr ⟨i,j,rfl,rfl⟩))
  |_=>exact(show False from g).elim
 |_=>exact(show False from g).elim
theorem Qq6:OpD X (binaryOp .Add) dAdd:=by
 refine⟨_,OpR.or Qv6 (OpR.or Qv5 (OpR.or Qtl Qjd)),λH a b x y F1 F2 k Q ra rb g q=>?_⟩;rcases Qp8 g with⟨i,j,rfl,rfl⟩|⟨i,j,rfl,rfl⟩|⟨ds,es,rfl,rfl⟩|⟨ds,es,rfl,rfl⟩
 ·exact .inl ⟨_,_,ra.iInt,rb.iInt,q _ _ _ _ (.flat (.int _)) g⟩
 ·exact .inr (.inr (.inr ⟨_,_,ra.iStr,rb.iStr,g.1,q _ _ _ _ (.flat (.str _)) g.2⟩))
 ·obtain⟨a,xs,rfl,e1,r1⟩:=ra.iTup;obtain⟨b,ys,rfl,e2,r2⟩:=rb.iTup;obtain⟨p1,p2,hne,hz,g⟩:=g;obtain⟨-,r1⟩:=r1.pure p1;obtain⟨-,r2⟩:=r2.pure p2;have l1:=r1.length;have l2:=r2.length;refine .inr (.inr (.inl ⟨a,b,xs,ys,rfl,rfl,.of e1,.of e2,λz=>hne (Ml.mp (by rw[← l1,z];rfl)),by lia,λz=>?_,λz p hp=>?_⟩))
  ·have:es=[]:=Ml.mp (by rw[← l2,z];rfl);subst this;rw[D6]at g;exact q _ _ _ _ (.flat (.tup e1 r1)) g
  ·refine q _ _ _ [] ⟨Qo hp,.tup Qf ?_,D8,λ_ m=>nomatch m⟩ g;exact(r1.append r2).same (Qo hp)
 ·obtain⟨a,xs,_,rfl,_,e1,r1⟩:=ra.iLst;obtain⟨b,ys,_,rfl,_,e2,r2⟩:=rb.iLst;obtain⟨p1,p2,hz,g⟩:=g;obtain⟨-,r1⟩:=r1.pure p1;obtain⟨-,r2⟩:=r2.pure p2;have l1:=r1.length;have l2:=r2.length;refine .inr (.inl ⟨a,b,xs,ys,rfl,rfl,e1,e2,by lia,λp hp=>?_⟩);refine q _ _ _ [p] ⟨Qo hp,.lst Qf ((r1.append r2).same (Qo hp)),by simp,λc m=>by rw[Ap.mp m];exact hp⟩ g
theorem Qca:OpD X (binaryOp .Sub) dSub:=by
 refine⟨_,Qvz,λH a b x y F1 F2 k Q ra rb g q=>?_⟩
 (cases ra<;>first|exact(show False from g).elim|skip)<;>(cases rb<;>first|exact(show False from g).elim|skip)
 exact⟨_,_,rfl,rfl,q _ _ _ _ (.flat (.int _)) g⟩
theorem Qp7(g:dMul a b k):(∃i j,a=.int i/\b=.int j)\/∃i j,a=.lst i/\b=.int j:=by
 cases a with
 | int i=>cases b with
  |int j=>exact .inl ⟨i,j,rfl,rfl⟩
  |_=>exact(show False from g).elim
 | lst i=>cases b with
  |int j=>exact .inr ⟨i,j,rfl,rfl⟩
  |_=>exact(show False from g).elim
 |_=>exact(show False from g).elim
theorem Qcb:OpD X (binaryOp .Mult) dMul:=by
 refine⟨_,OpR.or Qv2 Qv0,λH a b x y F1 F2 k Q ra rb g q=>?_⟩;rcases Qp7 g with⟨i,j,rfl,rfl⟩|⟨ds,n,rfl,rfl⟩
 ·exact .inl ⟨_,_,ra.iInt,rb.iInt,g.1,q _ _ _ _ (.flat (.int _)) g.2⟩
 ·obtain⟨a,xs,_,rfl,_,e1,r1⟩:=ra.iLst;obtain rfl:=rb.iInt;obtain⟨p1,h1,h2,hz,g⟩:=g;obtain⟨-,r1⟩:=r1.pure p1;have l1:=r1.length;refine .inr ⟨a,n,xs,rfl,rfl,e1,h1,h2,by rw[l1];exact hz,λp hp=>?_⟩;refine q _ _ _ [p] ⟨Qo hp,.lst Qf ((r1.flatten _).same (Qo hp)),by simp,λc m=>by rw[Ap.mp m];exact hp⟩ g
theorem Qhu:OpD X (binaryOp .FloorDiv) dDiv:=by
 refine⟨_,OpR.or Qtj Qpd,λH a b x y F1 F2 k Q ra rb g q=>?_⟩
 (cases ra<;>first|exact(show False from g).elim|skip)<;>(cases rb<;>first|exact(show False from g).elim|skip)
 rcases(show _\/_ from g) with⟨h1,h2,g⟩|⟨h1,h2,g⟩
 ·exact .inl ⟨_,_,rfl,rfl,⟨h1,h2⟩,q _ _ _ _ (.flat (.int _)) g⟩
 ·exact .inr ⟨_,_,rfl,rfl,⟨by lia,h2⟩,q _ _ _ _ (.flat (.int _)) g⟩
theorem Zk:OpD X (binaryOp .Mod) dMod:=by
 refine⟨_,OpR.or Qv3 Qti,λH a b x y F1 F2 k Q ra rb g q=>?_⟩
 (cases ra<;>first|exact(show False from g).elim|skip)<;>(cases rb<;>first|exact(show False from g).elim|skip)
 rcases(show _\/_ from g) with⟨h1,g⟩|⟨h1,g⟩
 ·exact .inl ⟨_,_,rfl,rfl,h1,q _ _ _ _ (.flat (.int _)) g⟩
 ·exact .inr ⟨_,_,rfl,rfl,by lia,q _ _ _ _ (.flat (.int _)) g⟩
theorem Ql6{f:Int->Int->Bool}(h:OpR X (compareOp op) (rI0 λi j=>.bl (f i j))):OpD X (compareOp op) (dCmp f):=by
 refine⟨_,h,λH a b x y F1 F2 k Q ra rb g q=>?_⟩
 (cases ra<;>first|exact(show False from g).elim|skip)<;>(cases rb<;>first|exact(show False from g).elim|skip)
 exact⟨_,_,rfl,rfl,q _ _ _ _ (.flat (.bl _)) g⟩
theorem Ql4:OpD X (compareOp .Lt) (dCmp λi j=>decide (i<j)):=Ql6 Qyt
theorem Qyw:OpD X (compareOp .Gt) (dCmp λi j=>decide (j<i)):=Ql6 Qyu
theorem Qnc{y:V}{F1 F2:List Addr}(ra:Rep X.K H a x F1)(rb:Rep X.K H b y F2)
  (h1:eqOk 9 a=true) (h2:eqOk 9 b=true) (g1:a=b->k (.bl (!neg))) (g2:a≠b->k (.bl neg)) (q:∀v H' d F,Fin X.K H H' d v F->k d->Q v H'):rDat neg x y H Q:=by
 refine⟨Yf a,Yf b,9,ra.dv 9 h1,rb.dv 9 h2,Qds _ _ h1,Qds _ _ h2,At _,λe=>?_,λe=>?_⟩
 ·exact q _ _ _ _ (.flat (.bl _)) (g1 (Qeb 9 9 a b h1 h2 e))
 ·exact q _ _ _ _ (.flat (.bl _)) (g2 λz=>e (by rw[z]))
theorem Que(g:dEq a b k):(∃i j,a=.int i/\b=.int j)\/(∃i j,a=.bl i/\b=.bl j)\/(∃i j,a=.str i/\b=.str j)\/(eqOk 9 a=true/\eqOk 9 b=true/\(a=b->k (.bl true))/\(a≠b->k (.bl false))):=by
 cases a with
 | int i=>cases b with
  |int j=>exact .inl ⟨i,j,rfl,rfl⟩
  |_=>exact .inr (.inr (.inr g))
 | bl i=>cases b with
  |bl j=>exact .inr (.inl ⟨i,j,rfl,rfl⟩)
  |_=>exact .inr (.inr (.inr g))
 | str i=>cases b with
  |str j=>exact .inr (.inr (.inl ⟨i,j,rfl,rfl⟩))
  |_=>exact .inr (.inr (.inr g))
 |_=>exact .inr (.inr (.inr g))
theorem Ql5(hu:X.A.units+64<cLine):OpD X (compareOp .Eq) dEq:=by
 refine⟨_,OpR.or Qyv (Qv4 hu),λH a b x y F1 F2 k Q ra rb g q=>?_⟩;rcases Que g with⟨i,j,rfl,rfl⟩|⟨i,j,rfl,rfl⟩|⟨i,j,rfl,rfl⟩|⟨h1,h2,g1,g2⟩
 ·obtain rfl:=ra.iInt;obtain rfl:=rb.iInt;refine .inl ⟨rfl,?_⟩;have e:decide (V.int i=V.int j)=decide (i=j):=by simp
  rw[e];exact q _ _ _ _ (.flat (.bl _)) g
 ·obtain rfl:=ra.iBl;obtain rfl:=rb.iBl;refine .inl ⟨rfl,?_⟩;rw[Qir];exact q _ _ _ _ (.flat (.bl _)) g
 ·obtain rfl:=ra.iStr;obtain rfl:=rb.iStr;refine .inl ⟨rfl,?_⟩;have e:decide (V.str i=V.str j)=decide (i=j):=by simp
  rw[e];exact q _ _ _ _ (.flat (.bl _)) g
 ·exact .inr (Qnc ra rb h1 h2 g1 g2 q)
theorem Quc(g:dNe a b k):(∃i j,a=.int i/\b=.int j)\/(∃i j,a=.bl i/\b=.bl j)\/(∃i j,a=.str i/\b=.str j)\/(eqOk 9 a=true/\eqOk 9 b=true/\(a=b->k (.bl false))/\(a≠b->k (.bl true))):=by
 cases a with
 | int i=>cases b with
  |int j=>exact .inl ⟨i,j,rfl,rfl⟩
  |_=>exact .inr (.inr (.inr g))
 | bl i=>cases b with
  |bl j=>exact .inr (.inl ⟨i,j,rfl,rfl⟩)
  |_=>exact .inr (.inr (.inr g))
 | str i=>cases b with
  |str j=>exact .inr (.inr (.inl ⟨i,j,rfl,rfl⟩))
  |_=>exact .inr (.inr (.inr g))
 |_=>exact .inr (.inr (.inr g))
theorem Qtp(hu:X.A.units+64<cLine):OpD X (compareOp .NotEq) dNe:=by
 refine⟨_,OpR.or Qys (Qv1 hu),λH a b x y F1 F2 k Q ra rb g q=>?_⟩;rcases Quc g with⟨i,j,rfl,rfl⟩|⟨i,j,rfl,rfl⟩|⟨i,j,rfl,rfl⟩|⟨h1,h2,g1,g2⟩
 ·obtain rfl:=ra.iInt;obtain rfl:=rb.iInt;refine .inl ⟨rfl,?_⟩;have e:(!decide (V.int i=V.int j)) = !decide (i=j):=by simp
  rw[e];exact q _ _ _ _ (.flat (.bl _)) g
 ·obtain rfl:=ra.iBl;obtain rfl:=rb.iBl;refine .inl ⟨rfl,?_⟩;rw[Qir];exact q _ _ _ _ (.flat (.bl _)) g
 ·obtain rfl:=ra.iStr;obtain rfl:=rb.iStr;refine .inl ⟨rfl,?_⟩;have e:(!decide (V.str i=V.str j)) = !decide (i=j):=by simp
  rw[e];exact q _ _ _ _ (.flat (.bl _)) g
 ·exact .inr (Qnc (neg:=true) ra rb h1 h2 g1 g2 q)
end PV
variable {a:Nb}{x:Re}{Q:PV.D->PV.Env->Prop}{kvs:List (L2.Key×PV.D)}{m3:Bool}
namespace PV
open PySem PySem.Spec L2
open PyProof.Rows (subscriptTail)
def Zb:List D->Option (List Key)
 | []=>some []
 | .int i::r=>(Zb r).map λl=>.inl i::l
 | .str x::r=>(Zb r).map λl=>.inr x::l
 |_::_=>none
theorem Reps.keys{K:Frag}{H:Hp}:∀{ds:List D}{xs:List V}{F:List Addr}{l:List Key},Reps K H ds xs F->Zb ds=some l->xs=l.map kV
 | [],_,_,_,r,h=>by
  cases r;simp only[Zb,N1]at h;subst h;rfl
 | d::ds,_,_,_,r,h=>by
  cases r with
  | cons p r=>
   cases d with
   | int i=>
    simp only[Zb,Nl]at h;obtain⟨l',h1,rfl⟩:=h;cases p;rw[Reps.keys r h1];rfl
   | str i=>
    simp only[Zb,Nl]at h;obtain⟨l',h1,rfl⟩:=h;cases p;rw[Reps.keys r h1];rfl
   |_=>simp[Zb]at h
theorem Reps.atI{K:Frag}{ds:List D}(r:Reps K H ds xs F)(h:L2.atI ds i=some d):∃x B,L2.atI xs i=some x/\Rep K H d x B/\B.Sublist F:=by
 unfold L2.atI at h;cases hj:ixN ds.length i with
 |none=>rw[hj]at h;cases h
 | some j=>
  rw[hj]at h;obtain⟨x,B,h1,h2,h3⟩:=r.get (i:=j) h;refine⟨x,B,?_,h2,h3⟩;unfold L2.atI;rw[r.length,hj];exact h1
def oget{α:Type}(o:Option α)(k:α->Prop):Prop:=match o with
 |some d=>k d
 |none=>False
def onI(b:D)(k:Int->Prop):Prop:=match b with
 | .int i=>k i
 |_=>False
def onK(b:D)(k:Key->Prop):Prop:=match b with
 | .int i=>k (.inl i)
 | .str i=>k (.inr i)
 |_=>False
def onT(b:D)(k:List D->Prop):Prop:=match b with
 | .tup l=>k l
 |_=>False
theorem Qa2{k:Int->Prop}(h:onI b k):∃i,b=.int i/\k i:=by
 cases b with
 |int i=>exact⟨i,rfl,h⟩
 |_=>exact(show False from h).elim
theorem Qly{k:List D->Prop}(h:onT b k):∃i,b=.tup i/\k i:=by
 cases b with
 |tup i=>exact⟨i,rfl,h⟩
 |_=>exact(show False from h).elim
theorem Qf1{k:Key->Prop}(h:onK b k):∃key,k key/\∀{K:Frag}{H:Hp}{v:V}{F:List Addr},Rep K H b v F->v=kV key:=by
 cases b with
 |int i=>exact⟨.inl i,h,λr=>r.iInt⟩
 |str i=>exact⟨.inr i,h,λr=>r.iStr⟩
 |_=>exact(show False from h).elim
noncomputable def dIx:G2:=λa b k=>match a with
 | .lst xs=>onI b λi=>oget (L2.atI xs i) k
 | .tup xs=>onI b λi=>oget (L2.atI xs i) k
 | .kls xs=>onI b λi=>oget (L2.atI xs i) k
 | .str z=>onI b λi=>z.length<=sizeLine/\oget (L2.atI z.cps.toList i) λc=>k (.str ⟨#[c]⟩)
 | .dik kvs=>onK b λkey=>oget (valD kvs key) k
 | .dit kvs=>onT b λl=>oget (Zb l) λks=>oget (valD kvs ks) k
 | .fdk kvs=>onK b λkey=>oget (valD kvs key) k
 |_=>False
theorem Qi{α:Type}{o:Option α}{k:α->Prop}(h:oget o k):∃d,o=some d/\k d:=by
 cases o with
 |none=>exact h.elim
 |some d=>exact⟨d,rfl,h⟩
theorem Qtn{α:Type}{o:Option α}{k:α->Prop}{d:α}(e:o=some d)(h:k d):oget o k:=by rw[e];exact h
theorem Qks{s₂:Shared}{value slice:Expr}{o i:Value}{T id:String}{Q:Value->Shared->Prop}
  (hl:typeLookup (.type T) "__getitem__" = pure (some (.builtin id))) (hs:subscripted slice false o i=operate [o,i] (getItem o i)) (hT:s₂.TypeIs o T) (h₂:wpAny (model prog w) A (getItem o i) Q E s₂) :
  wpAny (model prog w) A (subscriptTail value slice o i) Q E s₂:=by
 unfold subscriptTail;refine Ah ?_;rw[getitemInPython_of_ne hT.not_modules];refine Ah (R0 hT hl ?_);have fin:wpAny (model prog w) A (subscripted slice false o i) (λr s₃=>wpAny (model prog w) A (letTemporaryGo value o r >>= λ_=>pure r) Q E s₃) E s₂:=by
  rw[hs];exact wpAny_operating (Fw h₂ (λr s₃ h₃=>Ah (wpAny_letTemporaryGo (As h₃))) λ_ _ x=>x)
 first
  |exact As (Ah fin)
  |exact Ah (As (Ah fin))
  |exact Ah fin
theorem Qgf(hu:X.A.units+1<cLine):IxR X (λx y H Q=>∃a v,x=.ref a/\DGet H a y (some v)/\Q v H):=by
 intro value slice pins s σ H x y v u Q I rx ry h hs;obtain⟨a,z,rfl,g,q⟩:=h;cases rx;exact Qks PySem.F.slot_dict_getitem.lookup hs (Qgm I g) (Qnm hu I g ry λw' s3 I3 rw'=>⟨z,H,I3,rw',q⟩)
def IxD(X:Cx)(g:G2):Prop :=
 ∃r,IxR X r/\∀(H:Hp)(a b:D)(x y:V)(F1 F2:List Addr)(k:D->Prop)(Q:VK),Rep X.K H a x F1->Rep X.K H b y F2->g a b k ->
  (∀v d F,Rep X.K H d v F->F.Sublist F1->k d->Q v H)->r x y H Q
theorem Qt(hu:X.A.units+1<cLine):IxD X dIx:=by
 refine⟨_,IxR.or Qw1 (Qgf hu),λH a b x y F1 F2 k Q ra rb g q=>?_⟩;cases a with
 | str z=>
  obtain⟨i,rfl,hz,g⟩:=Qa2 g;obtain⟨c,e,g⟩:=Qi g;exact .inl (.inr (.inr ⟨_,_,c,ra.iStr,rb.iInt,hz,e,q _ _ _ (.str _) (List.nil_sublist _) g⟩))
 | tup ds=>
  obtain⟨i,rfl,g⟩:=Qa2 g;obtain⟨a,xs,rfl,e,r⟩:=ra.iTup;obtain⟨d,h,g⟩:=Qi g;obtain⟨v,B,h1,h2,h3⟩:=r.atI h;exact .inl (.inr (.inl ⟨a,xs,i,v,rfl,rb.iInt,.of e,h1,q _ _ _ h2 h3 g⟩))
 | lst ds=>
  obtain⟨i,rfl,g⟩:=Qa2 g;obtain⟨a,xs,G,rfl,rfl,e,r⟩:=ra.iLst;obtain⟨d,h,g⟩:=Qi g;obtain⟨v,B,h1,h2,h3⟩:=r.atI h;exact .inl (.inl ⟨a,xs,i,v,rfl,rb.iInt,.of e,h1,q _ _ _ h2 (h3.trans (Tj _ _)) g⟩)
 | dik ds=>
  obtain⟨key,g,hy⟩:=Qf1 (show onK b (λkey=>oget (valD ds key) k)from g);obtain⟨a,kvs,G,rfl,rfl,e,r⟩:=ra.iDik;obtain rfl:=hy rb;obtain⟨d,h,g⟩:=Qi g;rcases r.val key with⟨z,_⟩|⟨d',v,B,h1,h2,h3,h4⟩
  ·rw[h]at z;cases z
  ·rw[h]at h1;cases h1;exact .inr ⟨a,v,rfl,h2 ▸ DGet.k (k:=key) e,q _ _ _ h3 (h4.trans (Tj _ _)) g⟩
 | dit ds=>
  obtain⟨l,rfl,g⟩:=Qly g;obtain⟨a,kvs,G,rfl,rfl,e,r⟩:=ra.iDit;obtain⟨b,xs,rfl,e2,r2⟩:=rb.iTup;obtain⟨ks,hk,g⟩:=Qi g;obtain⟨d,h,g⟩:=Qi g;have hx:=r2.keys hk;subst hx;rcases r.val ks with⟨z,_⟩|⟨d',v,B,h1,h2,h3,h4⟩
  ·rw[h]at z;cases z
  ·rw[h]at h1;cases h1;exact .inr ⟨a,v,rfl,h2 ▸ DGet.t (k:=ks) e e2,q _ _ _ h3 (h4.trans (Tj _ _)) g⟩
 | kls ds=>
  obtain⟨i,rfl,g⟩:=Qa2 g;obtain⟨a,xs,rfl,rfl,e,r⟩:=ra.iKls;obtain⟨d,h,g⟩:=Qi g;obtain⟨v,B,h1,h2,h3⟩:=r.atI h;exact .inl (.inl ⟨a,xs,i,v,rfl,rb.iInt,e.sq,h1,q _ _ _ h2 h3 g⟩)
 | fdk ds=>
  obtain⟨key,g,hy⟩:=Qf1 (show onK b (λkey=>oget (valD ds key) k)from g);obtain⟨a,ob,kvs,rfl,e,r⟩:=ra.iFdk;obtain rfl:=hy rb;obtain⟨d,h,g⟩:=Qi g;rcases r.val key with⟨z,_⟩|⟨d',v,B,h1,h2,h3,h4⟩
  ·rw[h]at z;cases z
  ·rw[h]at h1;cases h1;exact .inr ⟨a,v,rfl,.inl ⟨kvs,key,.inr ⟨ob,e⟩,rfl,h2.symm⟩,q _ _ _ h3 h4 g⟩
 |_=>exact(show False from g).elim
section
variable {b:Expr}{w:WE}
theorem Qu{g:G2}(hg:IxD X g)(ha:EV X T m1 o1 a wa)(hb:EV X T m2 o2 b wb)(hc:o1=true\/m2=false:=by first|exact .inl rfl|exact .inr rfl)(hs:Qbq b:=by intro _ _;rfl) :
  EV X T (m1||m2) o1 (.Subscript a b pos) (wBin g wa wb):=by
 obtain⟨r,ro,gr⟩:=hg;obtain⟨ta,pa,ga⟩:=ha;obtain⟨tb,pb,gb⟩:=hb;refine⟨_,Qo6 ro pa pb hs,λz R σ H W ρ Q Q' s hw k=>?_⟩;refine two ga gb hc s hw λx y H2 W2 d1 d2 ρ2 F1 F2 s2 f2 c2 r1 r2 o1 _ _ q2=>?_;exact gr H2 d1 d2 x y F1 F2 _ Q' r1 r2 q2 λv d F rd sub hk=>k v H2 W2 d ρ2 F ⟨s2,f2,c2,rd,λh=>⟨(o1 h).1.sublist sub,λa m=>(o1 h).2 a (sub.subset m)⟩⟩ hk
noncomputable def inD:D->List D->Option Bool
 | .int i,[]=>some false
 | .int i,.int j::r=>(inD (.int i) r).map λb=>(j==i)||b
 | .str i,[]=>some false
 | .str i,.str j::r=>(inD (.str i) r).map λb=>(j==i)||b
 |_,_=>none
noncomputable def dIn(neg:Bool):G2
 | .int i,.dik kvs,k=>k (.bl (xor neg (valD kvs (.inl i)).isSome))
 | .str i,.dik kvs,k=>k (.bl (xor neg (valD kvs (.inr i)).isSome))
 | .tup l,.dit kvs,k=>oget (Zb l) λks=>k (.bl (xor neg (valD kvs ks).isSome))
 | .int i,.lst xs,k=>oget (inD (.int i) xs) λb=>k (.bl (xor neg b))
 | .int i,.tup xs,k=>oget (inD (.int i) xs) λb=>k (.bl (xor neg b))
 | .str i,.lst xs,k=>oget (inD (.str i) xs) λb=>k (.bl (xor neg b))
 | .str i,.tup xs,k=>oget (inD (.str i) xs) λb=>k (.bl (xor neg b))
 | .str i,.str j,k=>k (.bl (xor neg (!(Rv j i 0 j.length 1).isEmpty)))
 |_,_,_=>False
theorem Qmw{K:Frag}{H:Hp}{i:Int}:∀{ds:List D}{xs:List V}{F:List Addr}{b:Bool},Reps K H ds xs F->inD (.int i) ds=some b->xs.all Qby=true/\inV (.int i) xs=b
 | [],_,_,_,r,h=>by
  cases r;simp only[inD,N1]at h;subst h;exact⟨rfl,rfl⟩
 | d::ds,_,_,_,r,h=>by
  cases r with
  | cons p r=>
   cases d with
   | int j=>
    simp only[inD,Nl]at h;obtain⟨b',h1,rfl⟩:=h;cases p;obtain⟨e1,e2⟩:=Qmw r h1;refine⟨by rw[Rw,e1];rfl,?_⟩;unfold inV at e2 ⊢;rw[Ft,e2];rfl
   |_=>simp[inD]at h
theorem Qmv{K:Frag}{H:Hp}{i:Str}:∀{ds:List D}{xs:List V}{F:List Addr}{b:Bool},Reps K H ds xs F->inD (.str i) ds=some b->xs.all Qby=true/\inV (.str i) xs=b
 | [],_,_,_,r,h=>by
  cases r;simp only[inD,N1]at h;subst h;exact⟨rfl,rfl⟩
 | d::ds,_,_,_,r,h=>by
  cases r with
  | cons p r=>
   cases d with
   | str j=>
    simp only[inD,Nl]at h;obtain⟨b',h1,rfl⟩:=h;cases p;obtain⟨e1,e2⟩:=Qmv r h1;refine⟨by rw[Rw,e1];rfl,?_⟩;unfold inV at e2 ⊢;rw[Ft,e2];rfl
   |_=>simp[inD]at h
theorem Qtk(neg:Bool)(hu:X.A.units+1<cLine):OpR X (compareOp (if neg then .NotIn else .In)) (λy x H Q=>∃a o,x=.ref a/\DGet H a y o/\Q (.bl (xor neg o.isSome)) H):=by
 intro pins s σ H y x u v Q I ry rx h;obtain⟨a,ov,rfl,g,q⟩:=h;cases rx;cases neg with
 |false=>exact d_in hu I g ry λs3 I3=>⟨.bl ov.isSome,H,I3,rfl,by simpa using q⟩
 |true=>exact Qua hu I g ry λs3 I3=>⟨.bl (!ov.isSome),H,I3,rfl,by simpa using q⟩
theorem Qpc(neg:Bool):OpR X (compareOp (if neg then .NotIn else .In)) (rIn X.K neg):=by
 cases neg with
 |false=>exact Qlx
 |true=>exact Qev
theorem Qpb(neg:Bool):OpR X (compareOp (if neg then .NotIn else .In)) (λx y H Q=>∃i j,x=.str i/\y=.str j/\Q (.bl (xor neg (!(Rv j i 0 j.length 1).isEmpty))) H):=by
 cases neg with
 |false=>simpa using Qlw (X:=X)
 |true=>simpa using Qeu (X:=X)
theorem Qem{a:Addr}{kvs:List (Key×V)}{k:Key}(e:H a=some (.dK kvs))(r:RepK X.K H ds kvs F):∃o,DGet H a (kV k) o/\o.isSome=(valD ds k).isSome:=by
 refine⟨_,DGet.k (k:=k) e,?_⟩;rcases r.val k with⟨h1,h2⟩|⟨d,v,B,h1,h2,_⟩<;>simp[h1,h2]
theorem Qud{a b:D}(g:dIn neg a b k):(∃i z,a=.int i/\b=.tup z)\/(∃i z,a=.int i/\b=.lst z)\/(∃i z,a=.int i/\b=.dik z)\/(∃i z,a=.str i/\b=.str z)\/(∃i z,a=.str i/\b=.tup z)\/(∃i z,a=.str i/\b=.lst z)\/(∃i z,a=.str i/\b=.dik z)\/∃i z,a=.tup i/\b=.dit z:=by
 cases a with
 | int i=>cases b with
  |tup z=>exact .inl ⟨i,z,rfl,rfl⟩
  |lst z=>exact .inr (.inl ⟨i,z,rfl,rfl⟩)
  |dik z=>exact .inr (.inr (.inl ⟨i,z,rfl,rfl⟩))
  |_=>exact(show False from g).elim
 | str i=>cases b with
  |str z=>exact .inr (.inr (.inr (.inl ⟨i,z,rfl,rfl⟩)))
  |tup z=>exact .inr (.inr (.inr (.inr (.inl ⟨i,z,rfl,rfl⟩))))
  |lst z=>exact .inr (.inr (.inr (.inr (.inr (.inl ⟨i,z,rfl,rfl⟩)))))
  |dik z=>exact .inr (.inr (.inr (.inr (.inr (.inr (.inl ⟨i,z,rfl,rfl⟩))))))
  |_=>exact(show False from g).elim
 | tup i=>cases b with
  |dit z=>exact .inr (.inr (.inr (.inr (.inr (.inr (.inr ⟨i,z,rfl,rfl⟩))))))
  |_=>exact(show False from g).elim
 |_=>exact(show False from g).elim
theorem Qv8(neg:Bool)(hu:X.A.units+1<cLine):OpD X (compareOp (if neg then .NotIn else .In)) (dIn neg):=by
 refine ⟨_,OpR.or (Qtk neg hu) (OpR.or (Qpc neg) (Qpb neg)),λH a b x y F1 F2 k Q ra rb g q=>?_⟩;have seqI:∀{i:Int}{p:Addr}{ds:List D}{xs:List V}{F:List Addr},x=.int i->y=.ref p->Reps X.K H ds xs F->(SqL X.K H p xs\/SqT X.K H p xs)->oget (inD (.int i) ds) (λb=>k (.bl (xor neg b)))->rIn X.K neg x y H Q:=λ{i p ds xs F} ex ey r hs g=>by
  subst ex ey;obtain⟨b,h,g⟩:=Qi g;obtain⟨e1,e2⟩:=Qmw r h;refine⟨p,xs,rfl,hs,rfl,e1,?_⟩;rw[e2];have:=q _ _ _ _ (.flat (.bl _)) g;cases neg<;>simpa using this
 have seqS:∀{i:Str}{p:Addr}{ds:List D}{xs:List V}{F:List Addr},x=.str i->y=.ref p->Reps X.K H ds xs F->(SqL X.K H p xs\/SqT X.K H p xs)->oget (inD (.str i) ds) (λb=>k (.bl (xor neg b)))->rIn X.K neg x y H Q:=λ{i p ds xs F} ex ey r hs g=>by
  subst ex ey;obtain⟨b,h,g⟩:=Qi g;obtain⟨e1,e2⟩:=Qmv r h;refine⟨p,xs,rfl,hs,rfl,e1,?_⟩;rw[e2];have:=q _ _ _ _ (.flat (.bl _)) g;cases neg<;>simpa using this
 rcases Qud g with⟨i,z,rfl,rfl⟩|⟨i,z,rfl,rfl⟩|⟨i,ds,rfl,rfl⟩|⟨i,z,rfl,rfl⟩|⟨i,z,rfl,rfl⟩|⟨i,z,rfl,rfl⟩|⟨i,ds,rfl,rfl⟩|⟨l,ds,rfl,rfl⟩
 ·obtain⟨p,xs,ey,e,r⟩:=rb.iTup;exact .inr (.inl (seqI ra.iInt ey r (.inr (.of e)) g))
 ·obtain⟨p,xs,G,ey,_,e,r⟩:=rb.iLst;exact .inr (.inl (seqI ra.iInt ey r (.inl (.of e)) g))
 ·obtain⟨a,kvs,G,rfl,_,e,r⟩:=rb.iDik;obtain rfl:=ra.iInt;obtain⟨o,h1,h2⟩:=Qem (k:=.inl i) e r;refine .inl ⟨a,o,rfl,h1,?_⟩;rw[h2];exact q _ _ _ _ (.flat (.bl _)) g
 ·exact .inr (.inr ⟨_,_,ra.iStr,rb.iStr,q _ _ _ _ (.flat (.bl _)) g⟩)
 ·obtain⟨p,xs,ey,e,r⟩:=rb.iTup;exact .inr (.inl (seqS ra.iStr ey r (.inr (.of e)) g))
 ·obtain⟨p,xs,G,ey,_,e,r⟩:=rb.iLst;exact .inr (.inl (seqS ra.iStr ey r (.inl (.of e)) g))
 ·obtain⟨a,kvs,G,rfl,_,e,r⟩:=rb.iDik;obtain rfl:=ra.iStr;obtain⟨o,h1,h2⟩:=Qem (k:=.inr i) e r;refine .inl ⟨a,o,rfl,h1,?_⟩;rw[h2];exact q _ _ _ _ (.flat (.bl _)) g
 ·obtain ⟨b,xs,rfl,e2,r2⟩:=ra.iTup;obtain⟨a,kvs,G,rfl,_,e,r⟩:=rb.iDit;obtain⟨ks,hk,g⟩:=Qi g;have hx:=r2.keys hk;subst hx;refine .inl ⟨a,valV kvs ks,rfl,DGet.t (k:=ks) e e2,?_⟩;have h2:(valV kvs ks).isSome=(valD ds ks).isSome:=by
   rcases r.val ks with⟨h1,h2⟩|⟨d,v,B,h1,h2,_⟩<;>simp[h1,h2]
  rw[h2];exact q _ _ _ _ (.flat (.bl _)) g
theorem Ql3(hu:X.A.units+1<cLine):OpD X (compareOp .NotIn) (dIn true):=Qv8 true hu
abbrev WA:=Env->(List D->Env->Prop)->Prop
structure PostA(K:Frag)(T:Tg)(z:Nat->V)(R:Addr->Prop)(m o:Bool)(H:Hp)(W:Addr->Prop)(σ:St)(ρ:Env)(H':Hp)(W':Addr->Prop)(ρ':Env)(ds:List D)(vs:List V)(F:List Addr):Prop where
 sr:SR K T z R H' W' σ ρ'
 fr:FrW H W H' W'
 calm:m=false->Same H H'/\W'=W/\ρ'=ρ
 rep:Reps K H' ds vs F
 own:o=true->F.Nodup/\∀a∈F,H a=none/\¬W' a
def AV(X:Cx)(T:Tg)(m o:Bool)(es:List Expr)(w:WA):Prop :=
 ∃ta,PA X es ta/\∀(z:Nat->V)(R:Addr->Prop)(σ:St)(H:Hp)(W:Addr->Prop)(ρ:Env)(Q:List D->Env->Prop)(Q':List V->Hp->Prop),SR X.K T z R H W σ ρ->w ρ Q ->
  (∀vs H' W' ds ρ' F,PostA X.K T z R m o H W σ ρ H' W' ρ' ds vs F->Q ds ρ'->Q' vs H')->ta σ H Q'
end
section
variable {b:Expr}{w:WE}{wr:WA}
def wNil:WA:=λρ Q=>Q [] ρ
def Qe(w:WE)(wr:WA):WA:=λρ Q=>w ρ λd ρ1=>wr ρ1 λds ρ2=>Q (d::ds) ρ2
theorem Qj:AV X T false true [] wNil:=⟨_,Xs,λz R σ H W ρ Q Q' s hw k=>k [] H W [] ρ [] ⟨s,FrW.refl H W,λ_=>⟨Same.refl H,rfl,rfl⟩,.nil,λ_=>⟨D8,λa m=>nomatch m⟩⟩ hw⟩
theorem Qb(he:EV X T m1 o1 e w)(hr:AV X T m2 o2 es wr)(hc:o1=true\/m2=false:=by first|exact .inl rfl|exact .inr rfl)(hs:starEach (e::es) X.env=(false,eval e X.env)::starEach es X.env:=by rfl) :
  AV X T (m1||m2) (o1&&o2) (e::es) (Qe w wr):=by
 obtain ⟨te,pe,ge⟩:=he;obtain⟨ta,pa,ga⟩:=hr;refine⟨_,Z5 pe pa hs,λz R σ H W ρ Q Q' s hw k=>?_⟩;refine ge z R σ H W ρ _ _ s hw λv1 H1 W1 d1 ρ1 F1 p q1=>?_;refine ga z R σ H1 W1 ρ1 _ _ p.sr q1 λvs H2 W2 ds ρ2 F2 q q2=>?_;have r1:Rep X.K H2 d1 v1 F1:=by
  rcases hc with hc|hc
  ·exact p.rep.keep q.fr λa h=>((p.own hc).2 a h).2
  ·exact p.rep.same (q.calm hc).1
 refine k (v1::vs) H2 W2 (d1::ds) ρ2 (F1++F2) ⟨q.sr,p.fr.trans q.fr,λh=>?_,.cons r1 q.rep,λh=>?_⟩ q2
 ·rw[Mq]at h;obtain⟨a1,a2,a3⟩:=p.calm h.1;obtain⟨b1,b2,b3⟩:=q.calm h.2;exact⟨a1.trans b1,b2.trans a2,b3.trans a3⟩
 ·rw [B4]at h;obtain⟨n1,k1⟩:=p.own h.1;obtain⟨n2,k2⟩:=q.own h.2;refine⟨Dm.mpr ⟨n1,n2,λa ma b mb e=>?_⟩,λa ma=>?_⟩
  ·subst e;obtain⟨ob,e,_⟩:=p.rep.dom a ma;rw[(k2 a mb).1]at e;cases e
  ·rcases Aj.mp ma with ma|ma
   ·refine⟨(k1 a ma).1,λw=>?_⟩;rcases q.fr.new a w with w|w
    ·exact(k1 a ma).2 w
    ·obtain⟨ob,e,_⟩:=p.rep.dom a ma;rw[w]at e;cases e
   ·exact⟨p.fr.dom a (k2 a ma).1,(k2 a ma).2⟩
def wTup(wr:WA):WE:=λρ Q=>wr ρ λds ρ'=>ds.length<=sizeLine/\Q (.tup ds) ρ'
def wLst(wr:WA):WE:=λρ Q=>wr ρ λds ρ'=>ds.length<=sizeLine/\Q (.lst ds) ρ'
theorem Gp{x1}(h:AV X T m o es wr):EV X T m o (.Tuple es x1 pos) (wTup wr):=by
 obtain⟨ta,pa,ga⟩:=h;refine⟨_,Qvt pa,λz R σ H W ρ Q Q' s hw k=>?_⟩;refine ga z R σ H W ρ _ _ s hw λvs H1 W1 ds ρ1 F p q=>?_;obtain⟨hz,q⟩:=q;refine⟨by rw[p.rep.length];exact hz,λa ha=>k _ _ W1 (.tup ds) ρ1 F ⟨p.sr.same (Qo ha),p.fr.trans (FrW.same W1 (Qo ha)),λh=>⟨(p.calm h).1.trans (Qo ha),(p.calm h).2⟩,.tup Qf (p.rep.same (Qo ha)),p.own⟩ q⟩
theorem Yz(h:AV X T m o es wr):EV X T m o (.List es pos) (wLst wr):=by
 obtain⟨ta,pa,ga⟩:=h;refine⟨_,Qq4 pa,λz R σ H W ρ Q Q' s hw k=>?_⟩;refine ga z R σ H W ρ _ _ s hw λvs H1 W1 ds ρ1 F p q=>?_;obtain⟨hz,q⟩:=q;refine⟨by rw[p.rep.length];exact hz,λa ha=>k _ _ W1 (.lst ds) ρ1 (a::F) ⟨p.sr.same (Qo ha),p.fr.trans (FrW.same W1 (Qo ha)),λh=>⟨(p.calm h).1.trans (Qo ha),(p.calm h).2⟩,.lst Qf (p.rep.same (Qo ha)),λh=>?_⟩ q⟩;obtain⟨n1,k1⟩:=p.own h;refine⟨Bd.mpr ⟨λm=>?_,n1⟩,λb mb=>?_⟩
 ·obtain⟨ob,e,_⟩:=p.rep.dom a m;rw[ha]at e;cases e
 ·rcases Ar.mp mb with rfl|mb
  ·exact⟨p.fr.dom _ ha,p.sr.nw ha⟩
  ·exact k1 b mb
theorem Qag:EV X T false true (.Dict [] [] pos) (wC (.dik [])) :=
 ⟨_,Qo9,λz R σ H W ρ Q Q' s hw k a ha=>k _ _ W (.dik []) ρ [a] (Post.fin s (FrW.refl H W) (λ_=>⟨Same.refl H,rfl,rfl⟩) (Qo ha) (.dik Qf .nil) (by simp) (λb m=>by rw[Ap.mp m];exact ha)) hw⟩
theorem Qik:EV X T false true (.Dict [] [] pos) (wC (.dit [])) :=
 ⟨_,Qo8,λz R σ H W ρ Q Q' s hw k a ha=>k _ _ W (.dit []) ρ [a] (Post.fin s (FrW.refl H W) (λ_=>⟨Same.refl H,rfl,rfl⟩) (Qo ha) (.dit Qf .nil) (by simp) (λb m=>by rw[Ap.mp m];exact ha)) hw⟩
abbrev GA:=List D->(D->Prop)->Prop
def Qfo(X:Cx)(f:Value)(g:GA):Prop :=
 ∃r,Uz X f r/\∀(H:Hp)(ds:List D)(xs:List V)(F:List Addr)(k:D->Prop)(Q:VK),Reps X.K H ds xs F->g ds k->(∀v H' d F',Fin X.K H H' d v F'->k d->Q v H')->r xs H Q
def Qq(g:GA)(wr:WA):WE:=λρ Q=>wr ρ λds ρ'=>g ds λd=>Q d ρ'
end
section
variable {b:Expr}{wr:WA}{id:String}
theorem Qiv{g:GA}{r:List V->Hp->VK->Prop}(gr:∀(H:Hp)(ds:List D)(xs:List V)(F:List Addr)(k:D->Prop)(Q:VK),Reps X.K H ds xs F->g ds k->(∀v H' d F',Fin X.K H H' d v F'->k d->Q v H')->r xs H Q)(ga:∀(z:Nat->V)(R:Addr->Prop)(σ:St)(H:Hp)(W:Addr->Prop)(ρ:Env)(Q:List D->Env->Prop)(Q':List V->Hp->Prop),SR X.K T z R H W σ ρ->wr ρ Q ->
   (∀vs H' W' ds ρ' F,PostA X.K T z R m o H W σ ρ H' W' ρ' ds vs F->Q ds ρ'->Q' vs H')->ta σ H Q') {W:Addr->Prop} (s:SR X.K T z R H W σ ρ) (hw:Qq g wr ρ Q)
  (k:∀v H' W' d ρ' F,Post X.K T z R m true H W σ ρ H' W' ρ' d v F->Q d ρ'->Q' v H'):ta σ H λvs H1=>r vs H1 Q':=by
 refine ga z R σ H W ρ _ _ s hw λvs H1 W1 ds ρ1 F p q=>?_;exact gr H1 ds vs F _ Q' p.rep q λv H' d F' fi hk=>k v H' W1 d ρ1 F' (Post.fin p.sr p.fr p.calm fi.same fi.rep fi.nd fi.new) hk
theorem Jq{g:GA}(hc:Qfo X (.builtin id) g)(hm:X.mg x=none)(hv:bootBuiltins x=some (.builtin id))(ha:AV X T m o (e::es) wr)(hg:Gl X x:=by rfl)(hn:x ≠ "__name__":=by decide)(hdb:(x==("__debug__":Str))=false:=by decide)
  (he:starEach (e::es) X.env=(false,eval e X.env)::starEach es X.env:=by rfl) (hpl:(backTo pos (starEach es X.env)).any (·.1)=false:=by rfl):EV X T m true (.Call (.Name x p) (e::es) [] pos) (Qq g wr):=by
 obtain⟨r,rc,gr⟩:=hc;obtain⟨ta,pa,ga⟩:=ha;exact⟨_,Qpa rc hg hm hv pa hn hdb he hpl,λz R σ H W ρ Q Q' s hw k=>Qiv gr ga s hw k⟩
theorem Yv{g:GA}(hc:Qfo X (.type T') g)(hm:X.mg x=none)(hv:bootBuiltins x=some (.type T'))(ha:AV X T m o (e::es) wr)(hg:Gl X x:=by rfl)(hn:x ≠ "__name__":=by decide)(hdb:(x==("__debug__":Str))=false:=by decide)
  (he:starEach (e::es) X.env=(false,eval e X.env)::starEach es X.env:=by rfl) (hpl:(backTo pos (starEach es X.env)).any (·.1)=false:=by rfl):EV X T m true (.Call (.Name x p) (e::es) [] pos) (Qq g wr):=by
 obtain⟨r,rc,gr⟩:=hc;obtain⟨ta,pa,ga⟩:=ha;exact⟨_,Qlr rc hg hm hv pa hn hdb he hpl,λz R σ H W ρ Q Q' s hw k=>Qiv gr ga s hw k⟩
theorem Reps.at1{K:Frag}(r:Reps K H [d] xs F):∃v,xs=[v]/\Rep K H d v F:=by
 cases r with
 |cons h r=>cases r;rw[D6];exact⟨_,rfl,h⟩
noncomputable def dLen:GA
 | [.lst xs],k=>k (.int xs.length)
 | [.tup xs],k=>k (.int xs.length)
 | [.kls xs],k=>k (.int xs.length)
 | [.dik xs],k=>k (.int xs.length)
 | [.str z],k=>z.length<=sizeLine/\k (.int z.length)
 |_,_=>False
theorem Um:Qfo X (.builtin "len") dLen:=by
 refine⟨_,Uz.or Qqc Qnv,λH ds xs F k Q r g q=>?_⟩;cases ds with
 |nil=>exact(show False from g).elim
 | cons d ds=>
  cases ds with
  |cons _ _=>cases d<;>exact(show False from g).elim
  | nil=>
   cases d with
   | lst es=>
    obtain⟨v,rfl,rd⟩:=r.at1;clear r;cases rd with
    |lst e r9=>exact .inl ⟨_,_,rfl,.inl ⟨_,.of e,rfl⟩,by rw[r9.length];exact q _ _ _ _ (.flat (.int _)) g⟩
   | tup es=>
    obtain⟨v,rfl,rd⟩:=r.at1;clear r;cases rd with
    |tup e r9=>exact .inl ⟨_,_,rfl,.inr ⟨_,.of e,rfl⟩,by rw[r9.length];exact q _ _ _ _ (.flat (.int _)) g⟩
   | kls es=>
    obtain⟨v,rfl,rd⟩:=r.at1;clear r;cases rd with
    |kls e r9=>exact .inl ⟨_,_,rfl,.inl ⟨_,e.sq,rfl⟩,by rw[r9.length];exact q _ _ _ _ (.flat (.int _)) g⟩
   | dik es=>
    obtain⟨v,rfl,rd⟩:=r.at1;clear r;cases rd with
    |dik e r9=>exact .inr ⟨_,_,rfl,e,by rw[r9.length];exact q _ _ _ _ (.flat (.int _)) g⟩
   | str es=>
    obtain⟨v,rfl,rd⟩:=r.at1;clear r;cases rd;exact .inl ⟨_,_,rfl,⟨g.1,rfl⟩,q _ _ _ _ (.flat (.int _)) g.2⟩
   |_=>exact(show False from g).elim
def dInt:GA
 | [.int i],k=>k (.int i)
 | [.bl b],k=>k (.int (if b then 1 else 0))
 |_,_=>False
theorem Qxq:Qfo X (.type "int") dInt:=by
 refine⟨_,Qnw,λH ds xs F k Q r g q=>?_⟩;cases ds with
 |nil=>exact(show False from g).elim
 | cons d ds=>
  cases ds with
  |cons _ _=>cases d<;>exact(show False from g).elim
  | nil=>
   cases d with
   | int i=>
    obtain⟨v,rfl,rd⟩:=r.at1;cases rd;exact .inl ⟨_,rfl,q _ _ _ _ (.flat (.int _)) g⟩
   | bl i=>
    obtain⟨v,rfl,rd⟩:=r.at1;cases rd;exact .inr ⟨_,rfl,q _ _ _ _ (.flat (.int _)) g⟩
   |_=>exact(show False from g).elim
def dList:GA
 | [.lst xs],k=>Qm xs=true/\k (.lst xs)
 | [.tup xs],k=>Qm xs=true/\k (.lst xs)
 | [.kls xs],k=>Qm xs=true/\k (.lst xs)
 |_,_=>False
def Gq:GA
 | [.lst xs],k=>Qm xs=true/\k (.tup xs)
 | [.tup xs],k=>Qm xs=true/\k (.tup xs)
 | [.kls xs],k=>Qm xs=true/\k (.tup xs)
 |_,_=>False
theorem Vd:Qfo X (.type "tuple") Gq:=by
 refine⟨_,Qdw,λH ds xs F k Q r g q=>?_⟩;cases ds with
 |nil=>exact(show False from g).elim
 | cons d ds=>
  cases ds with
  |cons _ _=>cases d<;>exact(show False from g).elim
  | nil=>
   cases d with
   | lst es=>
    obtain⟨v,rfl,rd⟩:=r.at1;clear r;cases rd with
    |lst e r9=>exact⟨_,_,rfl,.inl ⟨.of e,λl hl=>q _ _ _ [] ⟨Qo hl,.tup Qf ((r9.pure g.1).2.same (Qo hl)),by simp,λb m=>nomatch m⟩ g.2⟩⟩
   | tup es=>
    obtain⟨v,rfl,rd⟩:=r.at1;clear r;cases rd with
    |tup e r9=>exact⟨_,_,rfl,.inr ⟨.of e,q _ _ _ _ (.flat (.tup e (r9.pure g.1).2)) g.2⟩⟩
   | kls es=>
    obtain⟨v,rfl,rd⟩:=r.at1;clear r;cases rd with
    |kls e r9=>exact⟨_,_,rfl,.inl ⟨e.sq,λl hl=>q _ _ _ [] ⟨Qo hl,.tup Qf ((r9.pure g.1).2.same (Qo hl)),by simp,λb m=>nomatch m⟩ g.2⟩⟩
   |_=>exact(show False from g).elim
end
end PV
variable {b:Nb}{w:PV.WE}{i:Nat}{g:PV.GA}{fp:Nat->List Dj}{l:Dj}{F':List Dj}{ob':L2.HO}{wr:PV.WA}
namespace PV
open PySem PySem.Spec L2
noncomputable def isiD:D->Ty->Option Bool
 | .non,_=>some false
 | .bl _,t=>some (t == .bool||t == .int)
 | .int _,t=>some (t == .int)
 | .str _,t=>some (t == .str)
 | .tup _,t=>some (t == .tuple)
 | .lst _,t=>some (t == .list)
 | .dik _,t=>some (t == .dict)
 | .dit _,t=>some (t == .dict)
 | .kls _,_=>none
 | .ty _,_=>none
 | .fdk _,t=>some (t == .dict)
 | .ftp _,_=>none
 | .fls _,t=>some (t == .list)
 | .fdt _,_=>none
 | .obj _ _,_=>none
 | .clo _ _,_=>none
 | .kc _,_=>none
 | .dmx _,_=>none
 | .fmx _,_=>none
 | .lsa _ _,_=>none
 | .ist _ _,_=>none
def dIsi:GA
 | [d,.ty t],k=>oget (isiD d t) λb=>k (.bl b)
 |_,_=>False
theorem SR0.write{K:Frag}{W:Addr->Prop}{d':D}(s:SR0 K T z R H W σ ρ fp)
  (hl:look ρ i=some d) (ht:T.own i=true) (hv:σ[i]? = some (some v)) (hm:l∈fp i) (hk:∀b u,H b=some u->b≠l->H' b=some u) (hnew:∃ob,H' l=some ob/\imm ob=false) (r:Rep K H' d' v F') (nd:F'.Nodup)
  (sub:∀a∈F',a∈fp i\/(¬W a/\¬R a)):SR K T z R H' (λa=>W a\/a∈F') σ (ρ.set i (some d')):=by
 have hW:W l:=(s.own i d hl ht).2 l hm;have hi:ImmK H H':=λb ob' e im=>by
  obtain⟨ol,e1,e2⟩:=s.wd l hW;have:b≠l:=λz=>by rw[z,e1]at e;cases e;rw[e2]at im;cases im
  exact hk b _ e this
 refine⟨λj=>if j=i then F' else fp j,?_,?_,?_,?_,?_,?_,?_,?_,s.fix⟩
 ·rw[Dw];exact s.len
 ·intro a ha;by_cases e:a=l
  ·subst e;exact hnew
  ·rcases ha with ha|ha
   ·exact(s.wd a ha).imp λob q=>⟨hk a ob q.1 e,q.2⟩
   ·exact r.dom a ha
 ·intro j e hj;by_cases hji:j=i
  ·subst hji;rw[Z6 (Us hl)]at hj;cases hj;exact⟨v,hv,by rw[if_pos rfl];exact r⟩
  ·rw[Qr hji]at hj;obtain⟨u,h1,h2⟩:=s.at_ j e hj;refine⟨u,h1,?_⟩;rw[if_neg hji];refine h2.frame hi λa ha=>?_;obtain⟨oa,e1,_⟩:=h2.dom a ha;rw[e1];refine hk a _ e1 λz=>?_;subst z;cases hto:T.own j with
   |true=>exact s.dis i j d e hl hj ht hto (λz=>hji z.symm) _ hm ha
   |false=>exact s.wr _ hW (s.ro j e hj hto _ ha)
 ·intro j e hj hto;by_cases hji:j=i
  ·subst hji;simp only[if_pos];exact⟨nd,λa h=>.inr h⟩
  ·rw[Qr hji]at hj;simp only[if_neg hji];exact⟨(s.own j e hj hto).1,λa h=>.inl ((s.own j e hj hto).2 a h)⟩
 ·intro j e hj hto;have hji:j≠i:=λz=>by subst z;rw[ht]at hto;cases hto
  rw[Qr hji]at hj;simp only[if_neg hji];exact s.ro j e hj hto
 ·intro a ha hr;rcases ha with ha|ha
  ·exact s.wr a ha hr
  ·rcases sub a ha with h|h
   ·exact s.wr a ((s.own i d hl ht).2 a h) hr
   ·exact h.2 hr
 ·intro a hr;have:a≠l:=λz=>by subst z;exact s.wr _ hW hr
  exact(s.rd a hr).imp λob q=>⟨hk a ob q.1 this,q.2⟩
 ·intro j k e e' hj hk tj tk hne a ha ha';by_cases hji:j=i
  ·subst hji;have hkj:k≠j:=λz=>hne z.symm;rw[Qr hkj]at hk;simp only[if_pos,if_neg hkj]at ha ha';rcases sub a ha with h|h
   ·exact s.dis j k d e' hl hk ht tk hne a h ha'
   ·exact h.1 ((s.own k e' hk tk).2 a ha')
  ·rw [Qr hji]at hj;simp only[if_neg hji]at ha;by_cases hki:k=i
   ·subst hki;simp only[if_pos]at ha';rcases sub a ha' with h|h
    ·exact s.dis j k e d hj hl tj ht hne a ha h
    ·exact h.1 ((s.own j e hj tj).2 a ha)
   ·rw[Qr hki]at hk;simp only[if_neg hki]at ha';exact s.dis j k e e' hj hk tj tk hne a ha ha'
theorem FrW.write{H0:Hp}{W0 W:Addr->Prop}(f:FrW H0 W0 H W)(hl:W l)(hm:∃ol,H l=some ol/\PV.imm ol=false)(hk:∀b u,H b=some u->b≠l->H' b=some u)(hnew:∃ob,H' l=some ob/\PV.imm ob=false)
  (sub:∀a∈F',W a\/H0 a=none):FrW H0 W0 H' (λa=>W a\/a∈F') where
 keep:=λb ob' e n=>by
  have:b≠l:=λz=>by
   subst z;rcases f.new _ hl with h|h
   ·exact n h
   ·rw[h]at e;cases e
  exact hk b _ (f.keep b ob' e n) this
 dom:=λb e=>by
  by_cases h:b=l
  ·subst h;obtain⟨ob,e1,_⟩:=hnew;rw[e1]at e;cases e
  ·refine f.dom b ?_;cases q:H b with
   |none=>rfl
   |some u=>rw[hk b u q h]at e;cases e
 imm:=λb ob' e im=>by
  have e':=f.imm b ob' e im;obtain⟨ol,e1,e2⟩:=hm;have:b≠l:=λz=>by rw[z,e1]at e';cases e';rw[e2]at im;cases im
  exact hk b _ e' this
 new:=λb h=>by
  rcases h with h|h
  ·exact f.new b h
  ·rcases sub b h with h|h
   ·exact f.new b h
   ·exact .inr h
theorem Q8:∀b u,H b=some u->b≠l->upd H l ob b=some u:=λb u e n=>by rw[Ql n];exact e
abbrev GM:=D->List D->(D->D->Prop)->Prop
def MtD(X:Cx)(id:String)(g:GM):Prop :=
 ∃r,MtR X id r/\∀(H:Hp)(d:D)(ds:List D)(v:V)(xs:List V)(F G:List Addr)(k:D->D->Prop)(Q:VK),Rep X.K H d v F->F.Nodup->Reps X.K H ds xs G->G.Nodup->(∀a∈G,a∉F)->g d ds k ->
  (∀u l ob e d' F',l∈F->imm ob=false->Rep X.K (upd H l ob) d' v F'->F'.Nodup->(∀a∈F',a∈F\/a∈G)->Rep X.K (upd H l ob) e u []->k e d'->Q u (upd H l ob))->r v xs H Q
def tyD:Option D->String->Bool
 |some (.lst _),t=>t == "list"
 |some (.dik _),t=>t == "dict"
 |some (.dit _),t=>t == "dict"
 |some (.dmx _),t=>t == "dict"
 |_,_=>false
theorem Qqm{K:Frag}(r:Rep K H d v F)(h:tyD (some d) t=true):tyV K t v H:=by
 cases r<;>try (simp[tyD]at h)
 ·subst h;exact .inl ⟨rfl,_,.of ‹_›⟩
 ·subst h;exact .inr (.inr (.inl ⟨rfl,.inl ⟨_,‹_›⟩⟩))
 ·subst h;exact .inr (.inr (.inl ⟨rfl,.inr ⟨_,‹_›⟩⟩))
 ·rename_i e hk hm r;subst h;refine .inr (.inr (.inr (.inr ⟨Mx.phi _ _,e,λh p=>?_⟩)));obtain⟨_,_,_,_,_,o,_,_,e,x,_⟩:=p;exact⟨o,e,x.1,x.2.1⟩
def wMt(i:Nat)(t:String)(g:GM)(wr:WA):WE:=λρ Q=>tyD (look ρ i) t=true/\wr ρ λds ρ1=>oget (look ρ1 i) λd=>g d ds λe d'=>Q e (ρ1.set i (some d'))
theorem Qrb{g:GM}(ht:T.own i=true)
  (gr:∀(H:Hp)(d:D)(ds:List D)(v:V)(xs:List V)(F G:List Addr)(k:D->D->Prop)(Q:VK),Rep X.K H d v F->F.Nodup->Reps X.K H ds xs G->G.Nodup->(∀a∈G,a∉F)->g d ds k ->
   (∀u l ob e d' F',l∈F->imm ob=false->Rep X.K (upd H l ob) d' v F'->F'.Nodup->(∀a∈F',a∈F\/a∈G)->Rep X.K (upd H l ob) e u []->k e d'->Q u (upd H l ob))->r v xs H Q) (ga:∀(z:Nat->V)(R:Addr->Prop)(σ:St)(H:Hp)(W:Addr->Prop)(ρ:Env)(Q:List D->Env->Prop)(Q':List V->Hp->Prop),SR X.K T z R H W σ ρ->wr ρ Q ->
   (∀vs H' W' ds ρ' F,PostA X.K T z R m true H W σ ρ H' W' ρ' ds vs F->Q ds ρ'->Q' vs H')->ta σ H Q') {W:Addr->Prop} (s:SR X.K T z R H W σ ρ) (hw:wMt i t g wr ρ Q)
  (k:∀v H' W' d ρ' F,Post X.K T z R true true H W σ ρ H' W' ρ' d v F->Q d ρ'->Q' v H'):tVar i σ H λx H1=>tyV X.K t x H1/\ta σ H1 λxs H2=>r x xs H2 Q':=by
 obtain⟨hty,hw⟩:=hw;obtain⟨fp0,s0⟩:=id s;cases hl:look ρ i with
 |none=>rw[hl]at hty;cases hty
 | some d0=>
  obtain⟨v,hv,r0⟩:=s0.at_ i d0 hl;refine⟨v,hv,Qqm r0 (by rw[hl]at hty;exact hty),?_⟩;refine ga z R σ H W ρ _ _ s hw λvs H1 W1 ds ρ1 G p q=>?_;obtain⟨d,hd,q⟩:=Qi q;obtain⟨fp,s1⟩:=id p.sr;obtain⟨v',hv',r1⟩:=s1.at_ i d hd;have:v'=v:=by rw[hv]at hv';cases hv';rfl
  subst this;obtain⟨nd1,sw⟩:=s1.own i d hd ht;obtain⟨ndG,kG⟩:=p.own rfl;refine gr H1 d ds v' vs (fp i) G _ Q' r1 nd1 p.rep ndG (λa ha hf=>(kG a ha).2 (sw a hf)) q λu l ob e d' F' hlF him rd' ndF sub re hk=>?_;have hWl:=sw l hlF;refine k u _ (λa=>W1 a\/a∈F') e _ [] ⟨s1.write hd ht hv' hlF Q8 ⟨ob,Qf,him⟩ rd' ndF (λa ha=>?_),p.fr.write hWl (s1.wd l hWl) Q8 ⟨ob,Qf,him⟩ (λa ha=>?_),(λh=>nomatch h),re,λ_=>⟨D8,λa m=>nomatch m⟩⟩ hk
  ·rcases sub a ha with h|h
   ·exact .inl h
   ·exact .inr ⟨(kG a h).2,s.nr (kG a h).1⟩
  ·rcases sub a ha with h|h
   ·exact .inl (sw a h)
   ·exact .inr (kG a h).1
section
variable {id:String}
theorem Qxg{g:GM}(hm:MtD X id g)(pa:PlainAttrs T')(slot:Slot T' name id)(hty:typeOf (.builtin id)=pure (.type "method_descriptor"))(ha:AV X T m true (e::es) wr)
  (ht:T.own i=true:=by rfl) (hN:X.N[i]? = some x:=by rfl) (hv:Vis X.env.scope x:=by first|exact Ds rfl|exact B9 (Ds rfl)|exact B9 (B9 rfl)) (hd:(x==("__debug__":Str))=false:=by decide)
  (hcd:(x==("__classdict__":Str))=false:=by decide)
  (hbase:attributeBase (.Name x p) name X.env (eval (.Name x p) X.env)=eval (.Name x p) X.env:=by rfl)
  (hfew:((backTo cpos (starEach (e::es) X.env)).all (λx=>!x.1)&&(backToKw cpos (keywordEach [] X.env)).all (λx=>x.1.isSome)
   && decide ((e::es).length+([]:List Keyword).length+(if ([]:List Keyword).isEmpty then 0 else 1)<30))=true:=by rfl)
  (hline:(apos.endLine==cpos.line)=true:=by rfl) (hs:starEach (e::es) X.env=(false,eval e X.env)::starEach es X.env:=by rfl) (hplain:(backTo cpos (starEach es X.env)).any (·.1)=false:=by rfl) :
  EV X T true true (.Call (.Attribute (.Name x p) name apos) (e::es) [] cpos) (wMt i T' g wr):=by
 obtain⟨r,mr,gr⟩:=hm;obtain⟨ta,pa',ga⟩:=ha;exact⟨_,Qjc pa slot hty mr (Yc hN hv hd hcd) pa' hbase hfew hline hs hplain,λz R σ H W ρ Q Q' s hw k=>Qrb ht gr ga s hw k⟩
theorem Qxf{g:GM}(hm:MtD X id g)(pa:PlainAttrs T')(slot:Slot T' name id)(hty:typeOf (.builtin id)=pure (.type "method_descriptor"))
  (ht:T.own i=true:=by rfl) (hN:X.N[i]? = some x:=by rfl) (hv:Vis X.env.scope x:=by first|exact Ds rfl|exact B9 (Ds rfl)|exact B9 (B9 rfl)) (hd:(x==("__debug__":Str))=false:=by decide)
  (hcd:(x==("__classdict__":Str))=false:=by decide)
  (hbase:attributeBase (.Name x p) name X.env (eval (.Name x p) X.env)=eval (.Name x p) X.env:=by rfl) (hline:(apos.endLine==cpos.line)=true:=by rfl) :
  EV X T true true (.Call (.Attribute (.Name x p) name apos) [] [] cpos) (wMt i T' g wNil):=by
 obtain⟨r,mr,gr⟩:=hm;refine⟨_,Qvw pa slot hty mr (Yc hN hv hd hcd) hbase hline,λz R σ H W ρ Q Q' s hw k=>?_⟩;exact Qrb (m:=false) (ta:=tNil) ht gr (λz R σ H W ρ Q Q' s hw k=>k [] H W [] ρ [] ⟨s,FrW.refl H W,λ_=>⟨Same.refl H,rfl,rfl⟩,.nil,λ_=>⟨D8,λa m=>nomatch m⟩⟩ hw) s hw k
def Qdp:GM
 | .lst xs,[d],k=>xs.length<sizeLine/\k .non (.lst (xs++[d]))
 |_,_,_=>False
theorem Gd{α:Type}{F G:List α}(h:F.Nodup)(h':G.Nodup)(d:∀a∈G,a∉F):(F++G).Nodup :=
 Dm.mpr ⟨h,h',λa ha b hb e=>d b hb (e ▸ ha)⟩
theorem Vr(h:H l=some ob)(hi:imm ob=false):ImmK H (upd H l ob'):=λb u e im=>by
 have:b≠l:=λz=>by rw[z,h]at e;cases e;rw[hi]at im;cases im
 rw[Ql this];exact e
theorem Reps.upd{K:Frag}{ds:List D}(r:Reps K H ds xs F)(h:H l=some ob)(hi:imm ob=false)(hn:l∉F):Reps K (L2.upd H l ob') ds xs F :=
 r.frame (Vr h hi) λa ha=>Ql λz=>hn (z ▸ ha)
theorem Rep.upd{K:Frag}{x:V}(r:Rep K H d x F)(h:H l=some ob)(hi:imm ob=false)(hn:l∉F):Rep K (L2.upd H l ob') d x F :=
 r.frame (Vr h hi) λa ha=>Ql λz=>hn (z ▸ ha)
theorem RepK.upd{K:Frag}{xs:List (Key×V)}(r:RepK K H ds xs F)(h:H l=some ob)(hi:imm ob=false)(hn:l∉F):RepK K (L2.upd H l ob') ds xs F :=
 r.frame (Vr h hi) λa ha=>Ql λz=>hn (z ▸ ha)
theorem RepT.upd{K:Frag}{ds:List (List Key×D)}{xs:List (List Key×V)}(r:RepT K H ds xs F)(h:H l=some ob)(hi:imm ob=false)(hn:l∉F):RepT K (L2.upd H l ob') ds xs F :=
 r.frame (Vr h hi) λa ha=>Ql λz=>hn (z ▸ ha)
theorem Qey:MtD X "list.append" Qdp:=by
 refine⟨_,Vq,λH d ds v xs F G k Q r nd rs ndG dis g q=>?_⟩;cases d with
 | lst es=>
  cases ds with
  |nil=>exact(show False from g).elim
  | cons d ds=>
   cases ds with
   |cons _ _=>exact(show False from g).elim
   | nil=>
    obtain⟨u,rfl,rd⟩:=rs.at1;cases r with
    | @lst l ys _ F e r9=>
     obtain⟨hz,g⟩:=g;obtain⟨nl,nd⟩:=Bd.mp nd;have hG:l∉G:=λh=>dis l h Ak;refine⟨l,ys,u,rfl,rfl,e,by rw[r9.length];exact hz,?_⟩;refine q .non l _ .non _ (l::(F++G)) Ak rfl (.lst Qf ((r9.upd e rfl nl).snoc (rd.upd e rfl hG))) (Bd.mpr ⟨λh=>(Aj.mp h).elim nl hG,Gd nd ndG λa ha hf=>dis a ha (Al _ hf)⟩) (λa ha=>?_) .non g;rcases Ar.mp ha with rfl|ha
     ·exact .inl Ak
     ·rcases Aj.mp ha with ha|ha
      ·exact .inl (Al _ ha)
      ·exact .inr ha
 |_=>exact(show False from g).elim
theorem sub3{α:Type}{F A B C:List α}(h:F=A++B++C):(A++C).Sublist F:=by
 rw[h,Bm];exact Sq (R9 _) (Ff _ _)
def gPop:GM
 | .lst xs,[],k=>oget xs[xs.length-1]? λd=>d.pure=true/\k d (.lst xs.dropLast)
 |_,_,_=>False
theorem Qwj:MtD X "list.pop" gPop:=by
 refine⟨_,Qwc,λH d ds v xs F G k Q r nd rs ndG dis g q=>?_⟩;cases d with
 | lst es=>
  cases ds with
  | nil=>
   cases rs;cases r with
   | @lst l ys _ F e r9=>
    obtain⟨d,hd,hp,g⟩:=Qi g;obtain⟨nl,nd⟩:=Bd.mp nd;obtain⟨y,A,B,C,hy,hF,rB,rA,rC⟩:=r9.split hd;obtain⟨hB,rB⟩:=rB.pure hp;have sub:=sub3 hF;have nAC:l∉A++C:=λh=>nl (sub.subset h);have hlen:=r9.length;refine⟨l,ys,y,rfl,rfl,e,by rw[r9.length];exact hy,?_⟩;refine q y l _ d _ (l::(A++C)) Ak rfl (.lst Qf ?_) (Bd.mpr ⟨nAC,nd.sublist sub⟩) (λa ha=>?_) (rB.upd e rfl (λh=>nomatch h)) g
    ·rw[← Xd es,← Xd ys,Qim,Qim,hlen];exact(rA.append rC).upd e rfl nAC
    ·rcases Ar.mp ha with rfl|ha
     ·exact .inl Ak
     ·exact .inl (Al _ (sub.subset ha))
  |cons _ _=>exact(show False from g).elim
 |_=>exact(show False from g).elim
end
def spR(K:Frag)(g:GA):Sp:=λvs H Q _=>∃(ds:List D)(F:List Addr)(k:D->Prop),Reps K H ds vs F/\g ds k/\∀v H' d F',Fin K H H' d v F'->k d->Q v H'
abbrev GI:=List D->(D->D->Prop)->Prop
def X2:D->Bool
 | .lst xs=>Qm xs
 | .dik kvs=>kvs.all λkv=>kv.2.pure
 | .dit kvs=>kvs.all λkv=>kv.2.pure
 | .dmx _=>true
 |_=>false
theorem RepK.pure{K:Frag}{H:Hp}:∀{ds:List (Key×D)} {xs:List (Key×V)} {F:List Addr},RepK K H ds xs F->(ds.all λkv=>kv.2.pure)=true->F=[]
 | [],_,_,r,_=>by cases r;rfl
 | d::ds,_,_,r,h=>by
  rw[Rw,B4]at h;cases r with
  |cons p r=>rw[(p.pure h.1).1,RepK.pure r h.2];rfl
theorem RepT.pure{K:Frag}{H:Hp}:∀{ds:List (List Key×D)} {xs:List (List Key×V)} {F:List Addr},RepT K H ds xs F->(ds.all λkv=>kv.2.pure)=true->F=[]
 | [],_,_,r,_=>by cases r;rfl
 | d::ds,_,_,r,h=>by
  rw[Rw,B4]at h;cases r with
  |cons p r=>rw[(p.pure h.1).1,RepT.pure r h.2];rfl
theorem Rep.flat1{K:Frag}(r:Rep K H d v F)(h:X2 d=true):∃a,v=.ref a/\F=[a]:=by
 cases r with
 |lst e r=>exact⟨_,rfl,by rw[(r.pure (by simpa[X2]using h)).1]⟩
 |dik e r=>exact⟨_,rfl,by rw[r.pure (by simpa[X2]using h)]⟩
 |dit e r=>exact⟨_,rfl,by rw[r.pure (by simpa[X2]using h)]⟩
 |dmx e _ _ _=>exact⟨_,rfl,rfl⟩
 |_=>simp[X2]at h
section
variable {k:Nat}
theorem Qt7(F:FnOk X.prog X.w X.K X.mg X.base CX0 k f fd ps (spR X.K g))(hr:Room k X.A)(hm:X.mg x=some (.ref f))(hk:keepIn X.K (.ref f)=true)(hb:Qfp X.K fd ps [])(ha:AV X T m o (e::es) wr)(hg:Gl X x:=by rfl)
  (hdb:(x==("__debug__":Str))=false:=by decide) (he:starEach (e::es) X.env=(false,eval e X.env)::starEach es X.env:=by rfl) (hpl:(backTo pos (starEach es X.env)).any (·.1)=false:=by rfl) :
  EV X T m true (.Call (.Name x p) (e::es) [] pos) (Qq g wr):=by
 obtain⟨ta,pa,ga⟩:=ha;refine⟨_,Qls F hr hg hm hk hb .nil Qvy pa hdb he hpl,λz R σ H W ρ Q Q' s hw k=>?_⟩;refine ga z R σ H W ρ _ _ s hw λvs H1 W1 ds ρ1 F p q=>?_;refine⟨ds,F,_,by rw[D6];exact p.rep,q,λv H' d F' fi hk=>k v H' W1 d ρ1 F' (Post.fin p.sr p.fr p.calm fi.same fi.rep fi.nd fi.new) hk⟩
abbrev WI:=Env->(List D->List D->Env->Prop)->Prop
def AI(X:Cx)(T:Tg)(m:Bool)(i p:Nat)(es:List Expr)(w:WI):Prop :=
 ∃ta,PA X es ta/\∀(z:Nat->V)(R:Addr->Prop)(σ:St)(H:Hp)(W:Addr->Prop)(ρ:Env)(Q:List D->List D->Env->Prop)(Q':List V->Hp->Prop),SR X.K T z R H W σ ρ->w ρ Q ->
  (∀v xs ys H' W' pre post ρ',PostT X.K T z R m H W σ ρ H' W' ρ'->σ[i]? = some (some v)->Reps X.K H' pre xs []->Reps X.K H' post ys []->pre.length=p->Q pre post ρ'->Q' (xs++v::ys) H')->ta σ H Q'
def Qct(i:Nat)(wr:WA):WI:=λρ Q=>(look ρ i).isSome=true/\wr ρ λds ρ'=>Qm ds=true/\Q [] ds ρ'
theorem Qgx(hr:AV X T m o es wr)(hN:X.N[i]? = some x:=by rfl)(hv:Vis X.env.scope x:=by first|exact Ds rfl|exact B9 (Ds rfl)|exact B9 (B9 rfl))(hd:(x==("__debug__":Str))=false:=by decide)
  (hcd:(x==("__classdict__":Str))=false:=by decide) (hs:starEach (.Name x p::es) X.env=(false,eval (.Name x p) X.env)::starEach es X.env:=by rfl):AI X T m i 0 (.Name x p::es) (Qct i wr):=by
 obtain⟨ta,pa,ga⟩:=hr;refine⟨_,Z5 (Yc hN hv hd hcd) pa hs,λz R σ H W ρ Q Q' s hw k=>?_⟩;obtain⟨h1,hw⟩:=hw;obtain⟨d,hl⟩:=Ma.mp h1;obtain⟨fp,s0⟩:=id s;obtain⟨v,hv',_⟩:=s0.at_ i d hl;refine⟨v,hv',ga z R σ H W ρ _ _ s hw λvs H1 W1 ds ρ1 F p q=>?_⟩;exact k v [] vs H1 W1 [] ds ρ1 ⟨p.sr,p.fr,p.calm⟩ hv' .nil (p.rep.pure q.1).2 rfl q.2
abbrev WL:=Env->(List D->Env->Prop)->Prop
end
end PV
variable {st:Ow}{lo:Option Int}{l:List Int}{ts:List Nb}{wt:PV.WT}
namespace PV
open PySem PySem.Spec L2
def JD(K:Frag)(J:It)(H:Hp)(W:Addr->Prop)(ds:List D):Prop :=
 ∀(i:Nat)(H1:Hp)(W1:Addr->Prop),FrW H W H1 W1->(ds.length<=i->J.stop i H1)/\∀d,ds[i]? = some d->J.go i H1/\∀v H2,J.yld i H1 v H2->Same H1 H2/\∃F,Rep K H2 d v F/\∀a∈F,¬W1 a
def wz(pr:Bool)(W:Addr->Prop):Addr->Prop:=λa=>pr=true/\W a
def IV(X:Cx)(T:Tg)(m pr:Bool)(tg iter:Expr)(w:WL):Prop :=
 ∃wi,PI X tg iter wi/\∀(z:Nat->V)(R:Addr->Prop)(σ:St)(H:Hp)(W:Addr->Prop)(ρ:Env)(Q:List D->Env->Prop)(RR:It->Hp->Prop),SR X.K T z R H W σ ρ->w ρ Q ->
  (∀J H' W' ds ρ',PostT X.K T z R m H W σ ρ H' W' ρ'->JD X.K J H' (wz pr W') ds->Q ds ρ'->RR J H')->wi σ H RR
section
variable {k:Nat}
theorem Qhs{l:Expr}{tl:TE}(hl:PE X l tl):PI X tg l (λσ H R=>tl σ H λx H1=>∃a,x=.ref a/\(((∃xs,SqL X.K H1 a xs)/\R (Itl X.K a) H1)\/((∃xs,SqT X.K H1 a xs)/\R (Itt X.K a) H1))):=by
 intro pins s σ H R I h;refine thn (hl pins s σ H _ I h) λv s1 ⟨x,H1,I1,r1,q1⟩=>?_;obtain⟨a,e,q⟩:=q1;subst e;cases r1;rcases q with⟨⟨xs,hq⟩,q⟩|⟨⟨xs,hq⟩,q⟩
 ·obtain⟨its,rv,p,hz⟩:=I1.list hq;refine wpAny_pyIter_list p.isList ?_;refine⟨s1.heap.objs.size,[s1.heap.objs.size],_,_,H1,rfl,I1.kept (t':=s1.toks) λb o e=>An _ e,Qkp a _,⟨_,Bp _ rfl,rfl,rfl⟩,λb hb=>?_,q⟩;have e:b=s1.heap.objs.size:=by simpa using hb
  subst e;exact I1.fpOk (At _) (I1.hok.fresh (At _))
 ·obtain⟨its,rv,p,hz⟩:=I1.tuple hq;refine S0 (show s1.heap.IsTuple a its.toArray from p) ?_;refine⟨s1.heap.objs.size,[s1.heap.objs.size],_,_,H1,rfl,I1.kept (t':=s1.toks) λb o e=>An _ e,Qi1 a _,⟨_,Bp _ rfl,rfl,rfl⟩,λb hb=>?_,q⟩;have e:b=s1.heap.objs.size:=by simpa using hb
  subst e;exact I1.fpOk (At _) (I1.hok.fresh (At _))
def Qal(w:WE):WL:=λρ Q=>w ρ λd ρ'=>match d with
 | .tup ds=>Qm ds=true/\Q ds ρ'
 | .lst ds=>Q ds ρ'
 | .kc (.tup ks)=>Q (ks.map kcD) ρ'
 |_=>False
theorem Qyz{K:Frag}{W:Addr->Prop}{a:Addr}(hs:∀H,SqT K H a xs)(ar:AreKC K ks xs):JD K (Itt K a) H W (ks.map kcD):=by
 intro i H2 W2 f;have r:Reps K H2 (ks.map kcD) xs []:=ar.reps;refine⟨λhi=>⟨xs,hs H2,by rw[r.length];exact hi⟩,λd hd=>?_⟩;obtain⟨x,B,hx,rx,sx⟩:=r.get hd;refine⟨⟨xs,x,hs H2,hx⟩,λv H3 y=>?_⟩;obtain⟨rfl,y⟩:=y;have:=y xs (hs _);rw[hx]at this;cases this;exact⟨Same.refl _,B,rx,λa ha=>nomatch sx.subset ha⟩
theorem Gi(h:EV X T m o e w):IV X T m o tg e (Qal w):=by
 obtain⟨te,pe,ge⟩:=h;refine⟨_,Qhs pe,λz R σ H W ρ Q RR s hw k=>?_⟩;refine ge z R σ H W ρ _ _ s hw λv H1 W1 d ρ1 F p q=>?_;cases d with
 | tup ds=>
  obtain⟨hp,q⟩:=q;obtain⟨hF,rp⟩:=p.rep.pure (by simpa[D.pure]using hp);cases rp with
  | @tup a xs _ _ e1 r=>
   refine⟨a,rfl,.inr ⟨⟨xs,.of e1⟩,k _ H1 W1 ds ρ1 ⟨p.sr,p.fr,p.calm⟩ (λi H2 W2 f=>?_) q⟩⟩;have e2:H2 a=some (.tup xs):=f.imm _ _ e1 rfl;refine⟨λhi=>⟨xs,.of e2,by rw[r.length];exact hi⟩,λd hd=>?_⟩;obtain⟨x,B,hx,rx,sx⟩:=r.get hd;refine⟨⟨xs,x,.of e2,hx⟩,λv H3 y=>?_⟩;obtain⟨rfl,y⟩:=y;have:=y xs (.of e2);rw[hx]at this;cases this;exact⟨Same.refl _,B,rx.keep f (λa ha=>(nomatch sx.subset ha)),(λa ha=>(nomatch sx.subset ha))⟩
 | lst ds=>
  obtain⟨p1,p2,p3,p4,p5⟩:=p;cases p4 with
  | @lst a xs _ F e1 r=>
   refine ⟨a,rfl,.inl ⟨⟨xs,.of e1⟩,k _ H1 W1 ds ρ1 ⟨p1,p2,p3⟩ (λi H2 W2 f=>?_) q⟩⟩;have nW:∀b∈a::F,¬wz o W1 b:=λb hb hw=>by
    obtain⟨h1,h2⟩:=hw;exact((p5 h1).2 b hb).2 h2
   have e2:H2 a=some (.lst xs):=f.keep _ _ e1 (nW a Ak);refine⟨λhi=>⟨xs,.of e2,by rw[r.length];exact hi⟩,λd hd=>?_⟩;obtain⟨x,B,hx,rx,sx⟩:=r.get hd;refine⟨⟨xs,x,.of e2,hx⟩,λv H3 y=>?_⟩;obtain⟨rfl,y⟩:=y;have:=y xs (.of e2);rw[hx]at this;cases this;refine⟨Same.refl _,B,rx.keep f λb hb=>nW b (Al _ (sx.subset hb)),λb hb hw=>?_⟩;have hb':b∈a::F:=Al _ (sx.subset hb);rcases f.new b hw with h|h
   ·exact nW b hb' h
   ·obtain⟨ob,e3,_⟩:=rx.dom b hb;rw[h]at e3;cases e3
 | kc c=>
  cases c with
  | tup ks=>
   obtain⟨-,rp⟩:=p.rep.pure (by rw[D.pure]);cases rp with
   | kc h=>
    obtain⟨a,xs,rfl,hs,ar⟩:=h.sqT;exact⟨a,rfl,.inr ⟨⟨xs,hs H1⟩,k _ H1 W1 (ks.map kcD) ρ1 ⟨p.sr,p.fr,p.calm⟩ (Qyz hs ar) q⟩⟩
  |_=>exact(show False from q).elim
 |_=>exact q.elim
def Qr2(w:WE):WL:=λρ Q=>w ρ λd ρ'=>match d with
 | .kls ds=>Q ds ρ'
 |_=>False
theorem Qw3(h:EV X T m o e w):IV X T m true tg e (Qr2 w):=by
 obtain⟨te,pe,ge⟩:=h;refine⟨_,Qhs pe,λz R σ H W ρ Q RR s hw k=>?_⟩;refine ge z R σ H W ρ _ _ s hw λv H1 W1 d ρ1 F p q=>?_;cases d with
 | kls ds=>
  obtain⟨p1,p2,p3,p4,p5⟩:=p;cases p4 with
  | @kls a xs _ e1 r=>
   refine⟨a,rfl,.inl ⟨⟨xs,e1.sq⟩,k _ H1 W1 ds ρ1 ⟨p1,p2,p3⟩ (λi H2 W2 f=>?_) q⟩⟩;have e2:=f.imm.fzL e1;refine⟨λhi=>⟨xs,e2.sq,by rw[r.length];exact hi⟩,λd hd=>?_⟩;obtain⟨x,B,hx,rx,sx⟩:=r.get hd;refine⟨⟨xs,x,e2.sq,hx⟩,λv H3 y=>?_⟩;obtain⟨rfl,y⟩:=y;have:=y xs e2.sq;rw[hx]at this;cases this;exact⟨Same.refl _,B,rx.keep f (λa ha=>(nomatch sx.subset ha)),(λa ha=>(nomatch sx.subset ha))⟩
 |_=>exact q.elim
def rngD(lo:Int)(n:Nat):List D:=(Ai n).map λ(i:Nat)=>.int (lo+(i:Int))
theorem Qpt{K:Frag}{W:Addr->Prop}{lo:Int}:JD K (Itr lo n) H W (rngD lo n):=by
 intro i H1 W1 f;have hl:(rngD lo n).length=n:=by simp[rngD]
 refine⟨λh=>by rw[hl]at h;exact h,λd hd=>?_⟩;have hi:i<n:=by have:=(Be.mp hd).1;rwa [hl]at this
 have hd':d=.int (lo+(i:Int)):=by
  simp only[rngD,Au,B2 hi,Rj,N1]at hd;exact hd.symm
 refine⟨hi,λv H2 y=>?_⟩;obtain⟨rfl,rfl⟩:=y;exact⟨Same.refl _,[],by rw[hd'];exact .int _,λa m=>nomatch m⟩
def Qr3(wr:WA):WL:=λρ Q=>wr ρ λds ρ'=>match ds with
 | [.int j]=>-(2 ^ 62)<=j/\j<2 ^ 62/\Q (rngD 0 j.toNat) ρ'
 |_=>False
theorem Qmq(hm:X.mg "range" = none)(ha:AV X T m o [a] wr)(hg:Gl X "range":=by rfl)(hs:starEach [a] X.env=[(false,eval a X.env)]:=by rfl):IV X T m true tg (.Call (.Name "range" p) [a] [] pos) (Qr3 wr):=by
 obtain ⟨ta,pa,ga⟩:=ha;refine⟨_,Qln hg hm pa hs,λz R σ H W ρ Q RR s hw k=>?_⟩;refine ga z R σ H W ρ _ _ s hw λvs H1 W1 ds ρ1 F p q=>?_;obtain⟨j,rfl⟩:∃j,ds=[D.int j]:=by
  clear p;cases ds with
  |nil=>exact(show False from q).elim
  | cons d0 r0=>
   cases r0 with
   | nil=>
    cases d0 with
    |int j=>exact⟨j,rfl⟩
    |_=>exact(show False from q).elim
   |cons _ _=>cases d0<;>exact(show False from q).elim
 obtain⟨v,rfl,rd⟩:=p.rep.at1;cases rd;exact⟨j,rfl,q.1,q.2.1,k _ H1 W1 _ ρ1 ⟨p.sr,p.fr,p.calm⟩ Qpt q.2.2⟩
def Vk:Nat->List D->List D
 |_,[]=>[]
 |n,d::r=>.tup [.int (n:Int),d]::Vk (n+1) r
theorem Ze:∀{ds:List D}{n i:Nat},(Vk n ds)[i]? = ds[i]?.map λd=>.tup [.int ((n+i:Nat):Int),d]
 | [],_,_=>by simp[Vk]
 |d::r,n,0=>by simp[Vk]
 | d::r,n,i+1=>by
  simp only[Vk,B0];rw[Ze (ds:=r) (n:=n+1) (i:=i),show n+1+i=n+(i+1) by lia]
theorem Ya:∀{ds:List D}{n:Nat},(Vk n ds).length=ds.length
 | [],_=>rfl
 |d::r,n=>by simp[Vk,Ya]
def Qki(wr:WA):WL:=λρ Q=>wr ρ λds ρ'=>match ds with
 | [.tup es]=>Qm es=true/\Q (Vk 0 es) ρ'
 |_=>False
theorem Qgh(hm:X.mg "enumerate" = none)(ha:AV X T m o [a] wr)(hg:Gl X "enumerate":=by rfl)(hs:starEach [a] X.env=[(false,eval a X.env)]:=by rfl):IV X T m true (.Tuple ts kt pt) (.Call (.Name "enumerate" p) [a] [] pos) (Qki wr):=by
 obtain ⟨ta,pa,ga⟩:=ha;refine⟨_,Qtb hg hm pa hs,λz R σ H W ρ Q RR s hw k=>?_⟩;refine ga z R σ H W ρ _ _ s hw λvs H1 W1 ds ρ1 F p q=>?_;obtain⟨es,rfl⟩:∃es,ds=[D.tup es]:=by
  clear p;cases ds with
  |nil=>exact(show False from q).elim
  | cons d0 r0=>
   cases r0 with
   | nil=>
    cases d0 with
    |tup es=>exact⟨es,rfl⟩
    |_=>exact(show False from q).elim
   |cons _ _=>cases d0<;>exact(show False from q).elim
 obtain⟨hp,q⟩:=q;obtain⟨v,rfl,rd⟩:=p.rep.at1;obtain⟨hF,rd⟩:=rd.pure (by simpa[D.pure]using hp);cases rd with
 | @tup a xs _ _ e1 r=>
  refine⟨a,rfl,⟨xs,.of e1⟩,k _ H1 W1 _ ρ1 ⟨p.sr,p.fr,p.calm⟩ (λi H2 W2 f=>?_) q⟩;have e2:H2 a=some (.tup xs):=f.imm _ _ e1 rfl;refine⟨λhi=>⟨xs,.of e2,by rw[r.length];rwa [Ya]at hi⟩,λd hd=>?_⟩;rw[Ze]at hd;cases hd':es[i]? with
  |none=>rw[hd']at hd;cases hd
  | some d'=>
   rw[hd']at hd;obtain⟨x,B,hx,rx,sx⟩:=r.get hd';refine⟨⟨xs,x,.of e2,hx⟩,λv H3 y=>?_⟩;obtain⟨x',t,h1,rfl,h3,rfl⟩:=y xs (.of e2);rw[hx]at h1;cases h1;have hB:B=[]:=M6.mp sx;subst hB;refine⟨Qo h3,[],?_,λa m=>nomatch m⟩;cases hd;rw[Bk];exact .tup Qf (.cons (F:=[]) (G:=[]) (.int _) (Reps.one ((rx.keep f λa m=>nomatch m).same (Qo h3))))
end
structure EndsP where
 nx:Env->Prop
 rt:D->Env->Prop
 bk:Env->Prop:=λ_=>False
 ct:Env->Prop:=λ_=>False
 xc:D->Env->Prop:=λ_ _=>False
abbrev WS:=EndsP->Env->Prop
structure Lk(K:Frag)(T:Tg)(z:Nat->V)(H:Hp)(W:Addr->Prop)(P:EndsP)(E:Ends):Prop where
 nx:∀R σ' H' W' ρ',SR K T z R H' W' σ' ρ'->FrW H W H' W'->P.nx ρ'->E.nx σ' H'
 bk:∀R σ' H' W' ρ',SR K T z R H' W' σ' ρ'->FrW H W H' W'->P.bk ρ'->E.bk σ' H'
 ct:∀R σ' H' W' ρ',SR K T z R H' W' σ' ρ'->FrW H W H' W'->P.ct ρ'->E.ct σ' H'
 rt:∀R v σ' H' W' ρ' d F,SR K T z R H' W' σ' ρ'->FrW H W H' W'->Rep K H' d v F->F.Nodup->(∀a∈F,¬W' a/\(W a\/H a=none))->P.rt d ρ'->E.rt v H'
 xc:∀R σ' H' W' ρ' d,SR K T z R H' W' σ' ρ'->FrW H W H' W'->P.xc d ρ'->T.xe d σ' H'
theorem Lk.step{K:Frag}{W:Addr->Prop}{P:EndsP}{E:Ends}(l:Lk K T z H W P E)(f:FrW H W H1 W1):Lk K T z H1 W1 P E where
 nx:=λR σ' H' W' ρ' s g q=>l.nx R σ' H' W' ρ' s (f.trans g) q
 bk:=λR σ' H' W' ρ' s g q=>l.bk R σ' H' W' ρ' s (f.trans g) q
 ct:=λR σ' H' W' ρ' s g q=>l.ct R σ' H' W' ρ' s (f.trans g) q
 rt:=λR v σ' H' W' ρ' d F s g r nd k q=>l.rt R v σ' H' W' ρ' d F s (f.trans g) r nd (λa ha=>⟨(k a ha).1,by
  rcases(k a ha).2 with h|h
  ·exact f.new a h
  ·exact .inr (f.dom a h)⟩) q
 xc:=λR σ' H' W' ρ' d s g q=>l.xc R σ' H' W' ρ' d s (f.trans g) q
def SV(X:Cx)(T:Tg)(st:Stmt)(w:WS):Prop :=
 ∃ts,PS X st ts/\∀(z:Nat->V)(R:Addr->Prop)(σ:St)(H:Hp)(W:Addr->Prop)(ρ:Env)(P:EndsP)(E:Ends),SR X.K T z R H W σ ρ->w P ρ->Lk X.K T z H W P E->ts E σ H
def SVs(X:Cx)(T:Tg)(st:List Stmt)(w:WS):Prop :=
 ∃ts,PSs X st ts/\∀(z:Nat->V)(R:Addr->Prop)(σ:St)(H:Hp)(W:Addr->Prop)(ρ:Env)(P:EndsP)(E:Ends),SR X.K T z R H W σ ρ->w P ρ->Lk X.K T z H W P E->ts E σ H
section
variable {rest:List Stmt}{ws wu:WS}
def Z2:WS:=λP ρ=>P.nx ρ
def wSeq(w u:WS):WS:=λP ρ=>w { P with nx:=u P } ρ
theorem Z3:SVs X T [] Z2:=⟨_,Qs4,λz R σ H W ρ P E s hw l=>l.nx R σ H W ρ s (FrW.refl H W) hw⟩
theorem Qn(h:SV X T st ws):SVs X T [st] ws:=by
 obtain⟨t,pt,g⟩:=h;exact⟨_,Qli pt,g⟩
theorem Qg(h:SV X T st ws)(hr:SVs X T rest wu):SVs X T (st::rest) (wSeq ws wu):=by
 obtain⟨t,pt,g⟩:=h;obtain⟨u,pu,gu⟩:=hr;refine⟨_,Qow pt pu,λz R σ H W ρ P E s hw l=>g z R σ H W ρ _ _ s hw ⟨λR' σ' H' W' ρ' s' f q=>gu z R' σ' H' W' ρ' P E s' q (l.step f),l.bk,l.ct,l.rt,l.xc⟩⟩
def G4(w:WE):WS:=λP ρ=>w ρ λ_ ρ'=>P.nx ρ'
theorem Qaq(he:EV X T m o e w)(hs:swapsWith e none pos.line X.env=pure false:=by rfl):SV X T (.Expr e pos) (G4 w):=by
 obtain⟨te,pe,ge⟩:=he;exact⟨_,Qaz pe hs,λz R σ H W ρ P E s hw l=>ge z R σ H W ρ _ _ s hw λv H1 W1 d ρ1 F p q=>l.nx R σ H1 W1 ρ1 p.sr p.fr q⟩
def wRet(w:WE):WS:=λP ρ=>w ρ λd ρ'=>P.rt d ρ'
theorem Yy(he:EV X T m true e w):SV X T (.Return (some e) pos) (wRet w):=by
 obtain⟨te,pe,ge⟩:=he;exact⟨_,Qq3 pe,λz R σ H W ρ P E s hw l=>ge z R σ H W ρ _ _ s hw λv H1 W1 d ρ1 F p q=>l.rt R v σ H1 W1 ρ1 d F p.sr p.fr p.rep (p.own rfl).1 (λa ha=>⟨((p.own rfl).2 a ha).2,.inr ((p.own rfl).2 a ha).1⟩) q⟩
def U2(i:Nat):WS:=λP ρ=>oget (look ρ i) λd=>P.rt d (ρ.set i none)
theorem G6(ht:T.own i=true:=by rfl)(hN:X.N[i]? = some x:=by rfl)(hv:Vis X.env.scope x:=by first|exact Ds rfl|exact B9 (Ds rfl)|exact B9 (B9 rfl))(hd:(x==("__debug__":Str))=false:=by decide)
  (hcd:(x==("__classdict__":Str))=false:=by decide):SV X T (.Return (some (.Name x p)) pos) (U2 i):=by
 refine ⟨_,Qq3 (Yc hN hv hd hcd),λz R σ H W ρ P E s hw l=>?_⟩;obtain⟨d,hl,q⟩:=Qi hw;obtain⟨fp,s0⟩:=s;obtain⟨v,h1,h2⟩:=s0.at_ i d hl;have key:∀j e,look (ρ.set i none) j=some e->j≠i/\look ρ j=some e:=λj e h=>by
  rw[Z7]at h
  split at h
  ·cases h
  ·refine⟨λz=>?_,h⟩;subst z;rename_i hn;exact hn ⟨rfl,Us hl⟩
 refine⟨v,h1,l.rt R v σ H (λa=>W a/\a∉fp i) (ρ.set i none) d (fp i) ⟨fp,?_⟩ ?_ h2 (s0.own i d hl ht).1 (λa ha=>⟨λh=>h.2 ha,.inl ((s0.own i d hl ht).2 a ha)⟩) q⟩
 ·refine ⟨by rw[Dw];exact s0.len,λa h=>s0.wd a h.1,λj e h=>s0.at_ j e (key j e h).2,λj e h t=>⟨(s0.own j e (key j e h).2 t).1,λa ha=>⟨(s0.own j e (key j e h).2 t).2 a ha,λha'=>s0.dis j i e d (key j e h).2 hl t ht (key j e h).1 a ha ha'⟩⟩,
   λj e h t=>s0.ro j e (key j e h).2 t,λa h=>s0.wr a h.1,s0.rd,λj k e e' h h' t t'=>s0.dis j k e e' (key j e h).2 (key k e' h').2 t t',s0.fix⟩
 ·exact⟨λb ob e _=>e,λb e=>e,λb ob e _=>e,λb h=>.inl h.1⟩
theorem SR0.bindE{K:Frag}{W:Addr->Prop}(s:SR0 K T z R H W σ ρ fp)(hio:i∉T.io)(r:Rep K H d v F)(nd:F.Nodup)(nw:∀a∈F,¬W a/\¬R a) :
  SR K T z (λa=>R a\/(T.own i=false/\a∈F)) H (λa=>W a\/(T.own i=true/\a∈F)) (σ.set i (some v)) (ρ.set i (some d)):=by
 refine⟨λj=>if j=i then F else fp j,?_,?_,?_,?_,?_,?_,?_,?_,?_⟩
 ·rw[Dw,Dw];exact s.len
 ·intro a ha;rcases ha with ha|⟨_,ha⟩
  ·exact s.wd a ha
  ·exact r.dom a ha
 ·intro j e hj;rw[Z7]at hj
  split at hj
  ·rename_i h;obtain⟨rfl,hlt⟩:=h;cases hj;exact⟨v,by rw[Nk (by rw[← s.len];exact hlt)],by rw[if_pos rfl];exact r⟩
  ·rename_i h;obtain⟨u,h1,h2⟩:=s.at_ j e hj;have hji:j≠i:=λz=>h ⟨z,by rw[← z];exact Us hj⟩;exact⟨u,by rw[Mp (Mk hji)];exact h1,by rw[if_neg hji];exact h2⟩
 ·intro j e hj hto;by_cases hji:j=i
  ·subst hji;simp only[if_pos];exact⟨nd,λa h=>.inr ⟨hto,h⟩⟩
  ·rw[Qr hji]at hj;simp only[if_neg hji];exact⟨(s.own j e hj hto).1,λa h=>.inl ((s.own j e hj hto).2 a h)⟩
 ·intro j e hj hto;by_cases hji:j=i
  ·subst hji;simp only[if_pos];exactλa h=>.inr ⟨hto,h⟩
  ·rw[Qr hji]at hj;simp only[if_neg hji];exactλa h=>.inl (s.ro j e hj hto a h)
 ·intro a ha hr;rcases ha with ha|⟨t,ha⟩
  ·rcases hr with hr|⟨_,hr⟩
   ·exact s.wr a ha hr
   ·exact(nw a hr).1 ha
  ·rcases hr with hr|⟨t',hr⟩
   ·exact(nw a ha).2 hr
   ·rw[t]at t';cases t'
 ·intro a hr;rcases hr with hr|⟨_,hr⟩
  ·exact s.rd a hr
  ·exact r.dom a hr
 ·intro j k e e' hj hk tj tk hne a ha ha';by_cases hji:j=i
  ·subst hji;have hkj:k≠j:=λz=>hne z.symm;rw[Qr hkj]at hk;simp only[if_pos,if_neg hkj]at ha ha';exact(nw a ha).1 ((s.own k e' hk tk).2 a ha')
  ·rw[Qr hji]at hj;simp only[if_neg hji]at ha;by_cases hki:k=i
   ·subst hki;simp only[if_pos]at ha';exact(nw a ha').1 ((s.own j e hj tj).2 a ha)
   ·rw[Qr hki]at hk;simp only[if_neg hki]at ha';exact s.dis j k e e' hj hk tj tk hne a ha ha'
 ·intro j hj;have hji:j≠i:=λz=>hio (z ▸ hj);rw[Mp (Mk hji)];exact s.fix j hj
theorem SR0.bind{K:Frag}{W:Addr->Prop}(s:SR0 K T z R H W σ ρ fp)(hio:i∉T.io)(r:Rep K H d v F)(nd:F.Nodup)(nw:∀a∈F,¬W a/\¬R a) :
  ∃R',SR K T z R' H (λa=>W a\/(T.own i=true/\a∈F)) (σ.set i (some v)) (ρ.set i (some d)):=⟨_,s.bindE hio r nd nw⟩
def wSet(i:Nat)(w:WE):WS:=λP ρ=>w ρ λd ρ'=>P.nx (ρ'.set i (some d))
theorem Qaf{W:Addr->Prop}{G:Addr->Prop}(f:FrW H W H' W')(n:∀a,G a->H a=none):FrW H W H' (λa=>W' a\/G a) :=
 ⟨f.keep,f.dom,f.imm,λb h=>h.elim (f.new b) λh=>.inr (n b h)⟩
theorem Q4(he:EV X T m true e w)(hN:X.N.Nodup)(hi:X.N[i]? = some x:=by rfl)(hio:i∉T.io:=by decide)(hx:Loc X.env.scope x:=by first|exact Ds rfl|exact B9 rfl)(hs:swapsWith e (some (.Name x pos')) pos.line X.env=pure false:=by rfl)
  (hf:X.fn x=true\/X.env.scope.names.lookup x=some .local:=by first|exact .inl rfl|exact .inr rfl|assumption):SV X T (.Assign [.Name x pos'] e pos) (wSet i w):=by
 obtain⟨te,pe,ge⟩:=he;refine⟨_,Qvq hN hi hx pe hs hf,λz R σ H W ρ P E s hw l=>ge z R σ H W ρ _ _ s hw λv H1 W1 d ρ1 F p q=>?_⟩;obtain⟨fp,s1⟩:=p.sr;obtain⟨nd,nw⟩:=p.own rfl;obtain⟨R',s2⟩:=s1.bind (i:=i) hio p.rep nd (λa ha=>⟨(nw a ha).2,s.nr (nw a ha).1⟩);exact l.nx R' _ H1 _ _ s2 (Qaf p.fr λa h=>(nw a h.2).1) q
theorem Qsd(he:∃te,PS X (.Assign [.Name x pos'] e pos) (tAsg te (Qjp i))/\∀(z:Nat->V)(R:Addr->Prop)(σ:St)(H:Hp)(W:Addr->Prop)(ρ:Env)(Q:D->Env->Prop)(Q':VK),SR X.K T z R H W σ ρ->w ρ Q ->
  (∀v H' W' d ρ' F,Post X.K T z R m true H W σ ρ H' W' ρ' d v F->Q d ρ'->Q' v H')->te σ H Q') (hio:i∉T.io:=by decide):SV X T (.Assign [.Name x pos'] e pos) (wSet i w):=by
 obtain⟨te,pe,ge⟩:=he;refine⟨_,pe,λz R σ H W ρ P E s hw l=>ge z R σ H W ρ _ _ s hw λv H1 W1 d ρ1 F p q=>?_⟩;obtain⟨fp,s1⟩:=p.sr;obtain⟨nd,nw⟩:=p.own rfl;obtain⟨R',s2⟩:=s1.bind (i:=i) hio p.rep nd (λa ha=>⟨(nw a ha).2,s.nr (nw a ha).1⟩);exact l.nx R' _ H1 _ _ s2 (Qaf p.fr λa h=>(nw a h.2).1) q
abbrev WG:=D->Env->(Env->Prop)->Prop
end
end PV
variable {ds:List PV.D}{wg:PV.WG}{wgs:List PV.D->PV.Env->(PV.Env->Prop)->Prop}{wv:PV.WE}{ps':Sx}{wl:PV.WL}
namespace PV
open PySem PySem.Spec L2
section
variable {ws wu:WS}
def GV(X:Cx)(T:Tg)(tg:Expr)(wg:WG):Prop :=
 ∃t,PG X tg t/\∀(z:Nat->V)(R:Addr->Prop)(σ:St)(H:Hp)(W:Addr->Prop)(ρ:Env)(d:D)(v:V)(Q:Env->Prop) (Q':St->Hp->Prop),SR X.K T z R H W σ ρ->Rep X.K H d v []->d.pure=true->wg d ρ Q ->
  (∀R' W' σ' ρ',SR X.K T z R' H W' σ' ρ'->FrW H W H W'->Q ρ'->Q' σ' H)->t v σ H Q'
def GVs(X:Cx)(T:Tg)(tgs:List Expr)(wg:List D->Env->(Env->Prop)->Prop):Prop :=
 ∃t,PGs X tgs t/\∀(z:Nat->V)(R:Addr->Prop)(σ:St)(H:Hp)(W:Addr->Prop)(ρ:Env)(ds:List D)(vs:List V)(Q:Env->Prop) (Q':St->Hp->Prop),SR X.K T z R H W σ ρ->Reps X.K H ds vs []->Qm ds=true->wg ds ρ Q ->
  (∀R' W' σ' ρ',SR X.K T z R' H W' σ' ρ'->FrW H W H W'->Q ρ'->Q' σ' H)->t vs σ H Q'
def gN(i:Nat):WG:=λd ρ Q=>Q (ρ.set i (some d))
theorem Yd(hN:X.N.Nodup)(hi:X.N[i]? = some x:=by rfl)(hio:i∉T.io:=by decide)(hx:Loc X.env.scope x:=by first|exact Ds rfl|exact B9 rfl)(hf:X.fn x=true\/X.env.scope.names.lookup x=some .local:=by first|exact .inl rfl|exact .inr rfl|assumption):GV X T (.Name x pos) (gN i):=by
 refine⟨_,Qc4 hN hi hx hf,λz R σ H W ρ d v Q Q' s r hp hw k=>?_⟩;obtain⟨fp,s1⟩:=s;obtain⟨R',s2⟩:=s1.bind (i:=i) hio r D8 (λa ha=>nomatch ha);exact k R' _ _ _ s2 (Qaf (FrW.refl H W) λa h=>nomatch h.2) hw
def Qjo:List D->Env->(Env->Prop)->Prop
 | [],ρ,Q=>Q ρ
 |_,_,_=>False
def Ul(wg:WG)(wgs:List D->Env->(Env->Prop)->Prop):List D->Env->(Env->Prop)->Prop
 |d::r,ρ,Q=>wg d ρ λρ'=>wgs r ρ' Q
 |_,_,_=>False
theorem Reps.inv{K:Frag}(r:Reps K H (d::ds) vs F):∃v us F1 F2,vs=v::us/\Rep K H d v F1/\Reps K H ds us F2:=by
 cases r with
 |cons h r=>exact⟨_,_,_,_,rfl,h,r⟩
theorem Qdo:GVs X T [] Qjo:=by
 refine⟨_,Qtc,λz R σ H W ρ ds vs Q Q' s r hp hw k=>?_⟩;cases ds with
 |nil=>cases r;exact⟨rfl,k R W σ ρ s (FrW.refl H W) hw⟩
 |cons=>exact hw.elim
theorem Zl(h:GV X T e wg)(hr:GVs X T es wgs)(hs:(assignEach (e::es) X.env).map (·.2)=assign e X.env::(assignEach es X.env).map (·.2):=by rfl):GVs X T (e::es) (Ul wg wgs):=by
 obtain⟨t,pt,g⟩:=h;obtain⟨u,pu,gu⟩:=hr;refine⟨_,Qo4 pt pu hs,λz R σ H W ρ ds vs Q Q' s r hp hw k=>?_⟩;cases ds with
 |nil=>exact hw.elim
 | cons d ds=>
  obtain⟨v,vs,F,G,rfl,r1,r2⟩:=r.inv;simp only[Qm,B4]at hp;obtain⟨e1,r1⟩:=r1.pure hp.1;obtain⟨e2,r2⟩:=r2.pure hp.2;refine⟨v,vs,rfl,g z R σ H W ρ d v _ _ s r1 hp.1 hw λR' W' σ' ρ' s' f q=>?_⟩;exact gu z R' σ' H W' ρ' ds vs Q Q' s' r2 hp.2 q λR2 W2 σ2 ρ2 s2 f2 q2=>k R2 W2 σ2 ρ2 s2 (f.trans f2) q2
def Qjn(n:Nat)(wgs:List D->Env->(Env->Prop)->Prop):WG:=λd ρ Q=>match d with
 | .tup ds=>ds.length=n/\wgs ds ρ Q
 |_=>False
theorem Qif(h:GVs X T es wgs)(hc:X.calm=true:=by rfl)(hn:(assignEach es X.env).length=n:=by rfl)(hst:(assignEach es X.env).findIdx? (·.1)=none:=by rfl):GV X T (.Tuple es kt pos) (Qjn n wgs):=by
 obtain⟨t,pt,g⟩:=h;refine⟨_,Qvs hc pt hn hst,λz R σ H W ρ d v Q Q' s r hp hw k=>?_⟩;cases d with
 | tup ds=>
  cases r with
  | @tup a xs _ _ e1 r=>exact⟨a,xs,rfl,.of e1,by rw[r.length];exact hw.1,g z R σ H W ρ ds xs Q Q' s r (by simpa[D.pure]using hp) hw.2 k⟩
 |_=>exact hw.elim
def dSet(s c d:D)(k:D->Prop):Prop:=match s with
 | .lst xs=>onI c λj=>oget (ixN xs.length j) λn=>k (.lst (xs.set n d))
 | .dik kvs=>onK c λkey=>kvs.length<sizeLine/\k (.dik (putD kvs key d))
 | .dit kvs=>onT c λl=>kvs.length<sizeLine/\oget (Zb l) λks=>k (.dit (putD kvs ks d))
 |_=>False
theorem Qcx(hu:X.A.units+1<cLine):PSet X (λo i v H Q=>∃a H',o=.ref a/\DPut H a i v H'/\Q H'):=by
 intro pins s σ H o i v ov iv u Q I ro ri rv h;obtain⟨a,H',rfl,g,q⟩:=h;cases ro;exact Qnl hu I g ri rv λs' I'=>⟨H',I',q⟩
theorem PSet.or{t u:TSet}(h:PSet X t)(h':PSet X u):PSet X (λo i v H Q=>t o i v H Q\/u o i v H Q):=by
 intro pins s σ H o i v ov iv u Q I ro ri rv q;rcases q with q|q
 ·exact h pins s σ H o i v ov iv u Q I ro ri rv q
 ·exact h' pins s σ H o i v ov iv u Q I ro ri rv q
def Jr(i:Nat)(wv wi:WE):WS:=λP ρ=>wv ρ λd ρ1=>d.pure=true/\(look ρ1 i).isSome=true/\wi ρ1 λc ρ2=>oget (look ρ2 i) λs=>dSet s c d λs'=>P.nx (ρ2.set i (some s'))
theorem Jy{v ix:Expr}{wi:WE}(hu:X.A.units+1<cLine)(hv:EV X T m1 o1 v wv)(hi:EV X T m2 o2 ix wi)(ht:T.own i=true:=by rfl)(hN:X.N[i]? = some x:=by rfl)
  (hvis:Vis X.env.scope x:=by first|exact Ds rfl|exact B9 (Ds rfl)|exact B9 (B9 rfl)) (hd:(x==("__debug__":Str))=false:=by decide) (hcd:(x==("__classdict__":Str))=false:=by decide)
  (ha:∀v,assign (.Subscript (.Name x px) ix ps') X.env v=(do
   let ov ← holding [v] (eval (.Name x px) X.env)
   let iv ← holding [v,ov] (eval ix X.env)
   standAt ps'
   holding [v,ov,iv] (setItem ov iv v)
   release [v,ov,iv] []):=by intro _;rfl) (hs:swapsWithSole [.Subscript (.Name x px) ix ps'] v pos.line X.env=pure false:=by rfl) (hw:swappedStores [.Subscript (.Name x px) ix ps'] v X.env=pure none:=by rfl)
  (h1:(assignEach [.Subscript (.Name x px) ix ps'] X.env).map (·.2)=[assign (.Subscript (.Name x px) ix ps') X.env]:=by rfl):SV X T (.Assign [.Subscript (.Name x px) ix ps'] v pos) (Jr i wv wi):=by
 obtain⟨tv,pv,gv⟩:=hv
 obtain⟨ti,pi,gi⟩:=hi
 refine⟨_,Qhr pv (Qht (Yc hN hvis hd hcd) pi (PSet.or Qcw (Qcx hu)) ha) hs hw h1,λz R σ H W ρ P E s hw l=>?_⟩
 refine gv z R σ H W ρ _ _ s hw λv1 H1 W1 d ρ1 F1 p ⟨hp,hso,q⟩=>?_
 obtain⟨-,rv⟩:=p.rep.pure hp
 obtain⟨d0,hl0⟩:=Ma.mp hso
 obtain⟨fp0,s0⟩:=id p.sr
 obtain⟨u,hu',_⟩:=s0.at_ i d0 hl0
 refine⟨u,hu',gi z R σ H1 W1 ρ1 _ _ p.sr q λv2 H2 W2 c ρ2 F2 p2 q2=>?_⟩
 obtain⟨d1,hl,q2⟩:=Qi q2
 obtain⟨fp,s2⟩:=id p2.sr
 obtain⟨u',hu2,ru⟩:=s2.at_ i d1 hl
 have:u'=u:=by rw[hu']at hu2;cases hu2;rfl
 subst this
 have rv2:Rep X.K H2 d v1 []:=rv.keep p2.fr λa m=>nomatch m
 obtain⟨nd,sw⟩:=s2.own i d1 hl ht
 have fin:∀(lad:Addr)(ob:HO)(d':D)(F':List Addr),lad∈fp i->imm ob=false->Rep X.K (upd H2 lad ob) d' u' F'->F'.Nodup->(∀a∈F',a∈fp i)->P.nx (ρ2.set i (some d'))->E.nx σ (upd H2 lad ob):=λlad ob d' F' hm him r' nd' sub hq=>by
  have hW:=sw lad hm
  exact l.nx R σ _ _ _ (s2.write hl ht hu2 hm Q8 ⟨ob,Qf,him⟩ r' nd' λa ha=>.inl (sub a ha)) ((p.fr.trans p2.fr).write hW (s2.wd lad hW) Q8 ⟨ob,Qf,him⟩ λa ha=>.inl (sw a (sub a ha))) hq
 have nilnot:∀a:Addr,a∉([]:List Addr):=λa h=>nomatch h
 generalize hF:fp i=F at *
 cases d1 with
 | lst ds=>
  obtain⟨j,rfl,q2⟩:=Qa2 q2
  obtain⟨a,xs,G,rfl,rfl,e,r⟩:=ru.iLst
  obtain⟨n,hn,hq⟩:=Qi q2
  have rc:=p2.rep.iInt
  subst rc
  have hlt:=(Qgg hn).2.1
  obtain⟨dn,hdn⟩:∃dn,ds[n]? = some dn:=⟨ds[n],Bo hlt⟩
  obtain⟨y,A,B,C,hy,hG,rB,rA,rC⟩:=r.split hdn
  obtain⟨na,ndG⟩:=Bd.mp nd
  have sub:=sub3 hG
  have nAC:a∉A++C:=λh=>na (sub.subset h)
  have hxl:n<xs.length:=by rw[r.length];exact hlt
  refine .inl ⟨a,xs,j,n,rfl,rfl,e,by rw[r.length];exact hn,?_⟩
  refine fin a _ _ (a::(A++C)) Ak rfl (.lst Qf ?_) (Bd.mpr ⟨nAC,ndG.sublist sub⟩) (λb hb=>?_) hq
  ·rw[Y0 hlt,Y0 hxl]
   have:=(rA.upd (ob':=.lst (xs.take n++v1::xs.drop (n+1))) e rfl (λh=>nAC (Aj.mpr (.inl h)))).append (.cons (rv2.upd e rfl (nilnot a)) (rC.upd e rfl λh=>nAC (Aj.mpr (.inr h))))
   simpa using this
  ·rcases Ar.mp hb with rfl|hb
   ·exact Ak
   ·exact Al _ (sub.subset hb)
 | dik ds=>
  obtain⟨key,⟨hz,hq⟩,hy⟩:=Qf1 (show onK c (λkey=>ds.length<sizeLine/\P.nx (ρ2.set i (some (.dik (putD ds key d)))))from q2)
  obtain⟨a,kvs,G,rfl,rfl,e,r⟩:=ru.iDik
  obtain rfl:=hy p2.rep
  obtain⟨na,ndG⟩:=Bd.mp nd
  obtain⟨G',rp,sub⟩:=(r.upd (ob':=.dK (putK kvs key v1)) e rfl na).put (k:=key) (rv2.upd e rfl (nilnot a))
  refine .inr ⟨a,_,rfl,DPut.k (k:=key) e (by rw[r.length];exact hz),?_⟩
  refine fin a _ _ (a::G') Ak rfl (.dik Qf rp) (Bd.mpr ⟨λh=>na (sub.subset h),ndG.sublist sub⟩) (λb hb=>?_) hq
  rcases Ar.mp hb with rfl|hb
  ·exact Ak
  ·exact Al _ (sub.subset hb)
 | dit ds=>
  obtain⟨l',rfl,hz,q2⟩:=Qly q2
  obtain⟨a,kvs,G,rfl,rfl,e,r⟩:=ru.iDit
  obtain⟨na,ndG⟩:=Bd.mp nd
  obtain⟨ks,hk,hq⟩:=Qi q2
  obtain⟨b,ys,rfl,e2,r2⟩:=p2.rep.iTup
  have hx:=r2.keys hk
  subst hx
  obtain⟨G',rp,sub⟩:=(r.upd (ob':=.dT (putK kvs ks v1)) e rfl na).put (k:=ks) (rv2.upd e rfl (nilnot a))
  refine .inr ⟨a,_,rfl,DPut.t (k:=ks) e e2 (by rw[r.length];exact hz),?_⟩
  refine fin a _ _ (a::G') Ak rfl (.dit Qf rp) (Bd.mpr ⟨λh=>na (sub.subset h),ndG.sublist sub⟩) (λb hb=>?_) hq
  rcases Ar.mp hb with rfl|hb
  ·exact Ak
  ·exact Al _ (sub.subset hb)
 |_=>exact(show False from q2).elim
def wIf(wt:WT)(w u:WS):WS:=λP ρ=>wt ρ λb ρ'=>if b=true then w P ρ' else u P ρ'
theorem Xz{sa sb:List Stmt}(hc:TV X T m c wt)(ha:SVs X T sa ws)(hb:SVs X T sb wu):SV X T (.If c sa sb pos) (wIf wt ws wu):=by
 obtain⟨tc,pc,gc⟩:=hc;obtain⟨ta,pa,ga⟩:=ha;obtain⟨tb,pb,gb⟩:=hb;refine⟨_,Qyq pc pa pb,λz R σ H W ρ P E s hw l=>gc z R σ H W ρ _ _ s hw λb H1 W1 ρ1 p q=>?_⟩;cases b with
 |true=>exact ga z R σ H1 W1 ρ1 P E p.sr q (l.step p.fr)
 |false=>exact gb z R σ H1 W1 ρ1 P E p.sr q (l.step p.fr)
noncomputable def Qkb(wt:WT)(wb:WS):WS:=λP ρ=>∃I:Nat->Env->Prop,(∃n,I n ρ)/\∀n ρ,I n ρ->wt ρ λb ρ1=>if b=true then wb { P with nx:=λρ'=>∃n',n' < n/\I n' ρ',ct:=λρ'=>∃n',n' < n/\I n' ρ',bk:=P.nx } ρ1 else P.nx ρ1
theorem Qhc(hp:PassesOwn (model X.prog X.w) X.A X.env X.xe)(hc:TV X T m c wt)(hb:SVs X T body ws):SV X T (.While c body [] pos) (Qkb wt ws):=by
 obtain⟨tc,pc,gc⟩:=hc;obtain⟨tb,pb,gb⟩:=hb;refine⟨_,Qox hp pc pb,λz R σ H W ρ P E s hw l=>?_⟩;obtain⟨I,⟨n,h0⟩,hI⟩:=hw;refine⟨λn σ' H'=>∃R' W' ρ',SR X.K T z R' H' W' σ' ρ'/\FrW H W H' W'/\I n ρ',⟨n,R,W,ρ,s,FrW.refl H W,h0⟩,?_⟩;rintro n σ1 H1 ⟨R1,W1,ρ1,s1,f1,i1⟩;refine gc z R1 σ1 H1 W1 ρ1 _ _ s1 (hI n ρ1 i1) λb H2 W2 ρ2 p q=>?_;cases b with
 | true=>
  refine⟨λσ' H'=>∃n',n' < n/\∃R' W' ρ',SR X.K T z R' H' W' σ' ρ'/\FrW H W H' W'/\I n' ρ',λσ' H' ⟨n',h,r⟩=>⟨n',h,r⟩,?_⟩;refine gb z R1 σ1 H2 W2 ρ2 _ _ p.sr q ⟨?_,?_,?_,?_,?_⟩
  ·exactλR' σ' H' W' ρ' s' f' ⟨n',h,i'⟩=>⟨n',h,R',W',ρ',s',(f1.trans p.fr).trans f',i'⟩
  ·exactλR' σ' H' W' ρ' s' f' h=>l.nx R' σ' H' W' ρ' s' ((f1.trans p.fr).trans f') h
  ·exactλR' σ' H' W' ρ' s' f' ⟨n',h,i'⟩=>⟨n',h,R',W',ρ',s',(f1.trans p.fr).trans f',i'⟩
  ·exact((l.step f1).step p.fr).rt
  ·exact((l.step f1).step p.fr).xc
 |false=>exact l.nx R1 σ1 H2 W2 ρ2 p.sr (f1.trans p.fr) q
noncomputable def wFor(wl:WL)(wg:WG)(wb:WS):WS:=λP ρ=>wl ρ λds ρ1=>Qm ds=true/\∃I:Nat->Env->Prop,I 0 ρ1 /\
 (∀i d ρ,ds[i]? = some d->I i ρ->wg d ρ λρ'=>wb { P with nx:=I (i+1),ct:=I (i+1),bk:=P.nx } ρ')/\∀ρ,I ds.length ρ->P.nx ρ
theorem Gz(W:Addr->Prop):wz true W=W:=by funext a;simp[wz]
theorem Ui(hp:PassesOwn (model X.prog X.w) X.A X.env X.xe)(hi:IV X T m true tg iter wl)(hg:GV X T tg wg)(hb:SVs X T body ws)(hc:X.calm=true:=by rfl)
  (hs:∀x,foldedSetIterable iter X.env x=pure x:=by intro _;rfl):SV X T (.For tg iter body [] pos) (wFor wl wg ws):=by
 obtain⟨ti,pi,gi⟩:=hi;obtain⟨tt,pt,gt⟩:=hg;obtain⟨tb,pb,gb⟩:=hb;refine⟨_,Qlj hp hc pi pt pb hs,λz R σ H W ρ P E s hw l=>gi z R σ H W ρ _ _ s hw λJ H1 W1 ds ρ1 p jd q=>?_⟩;rw[Gz]at jd;obtain⟨hpu,I,h0,hI,hd⟩:=q;refine⟨λi n σ' H'=>n=ds.length-i/\i<=ds.length/\∃R' W' ρ',SR X.K T z R' H' W' σ' ρ'/\FrW H1 W1 H' W'/\I i ρ',⟨ds.length,by simp,Dx _,R,W1,ρ1,p.sr,FrW.refl _ _,h0⟩,?_⟩;rintro i n σ2 H2 ⟨rfl,hi,R2,W2,ρ2,s2,f2,i2⟩;obtain⟨j1,j2⟩:=jd i H2 W2 f2;by_cases hlt:i<ds.length
 ·have hdi:ds[i]? = some ds[i]:=Bo hlt;obtain⟨hgo,hy⟩:=j2 _ hdi;have hpd:(ds[i]).pure=true:=Q5.mp hpu _ (Sh hlt);refine .inr ⟨hgo,λσ' H'=>i+1<=ds.length/\∃R' W' ρ',SR X.K T z R' H' W' σ' ρ'/\FrW H1 W1 H' W'/\I (i+1) ρ',λσ' H' ⟨h1,h2⟩=>⟨ds.length-(i+1),by lia,rfl,h1,h2⟩,λv H3 yl=>?_⟩;obtain⟨sm,F,rv,_⟩:=hy v H3 yl;obtain⟨-,rv⟩:=rv.pure hpd;have f3:FrW H1 W1 H3 W2:=f2.trans (FrW.same W2 sm);refine gt z R2 σ2 H3 W2 ρ2 _ v _ _ (s2.same sm) rv hpd (hI i _ ρ2 hdi i2) λR4 W4 σ4 ρ4 s4 f4 q4=>?_;refine gb z R4 σ4 H3 W4 ρ4 _ _ s4 q4 ⟨?_,?_,?_,?_,?_⟩
  ·exactλR' σ' H' W' ρ' s' f' h=>⟨hlt,R',W',ρ',s',(f3.trans f4).trans f',h⟩
  ·exactλR' σ' H' W' ρ' s' f' h=>l.nx R' σ' H' W' ρ' s' (((p.fr.trans f3).trans f4).trans f') h
  ·exactλR' σ' H' W' ρ' s' f' h=>⟨hlt,R',W',ρ',s',(f3.trans f4).trans f',h⟩
  ·exact(((l.step p.fr).step f3).step f4).rt
  ·exact(((l.step p.fr).step f3).step f4).xc
 ·have e:i=ds.length:=by lia
  subst e;exact .inl ⟨j1 (At _),l.nx R2 σ2 H2 W2 ρ2 s2 (p.fr.trans f2) (hd ρ2 i2)⟩
end
end PV
variable {we:PV.WE}{ww:PV.WS}
namespace PV
open PySem PySem.Spec L2
open PyProof.Rows (envOfC)
def TR:Tg:={ own:=λ_=>false,io:=[] }
def Any(H:Hp):Addr->Prop:=λa=>∃ob,H a=some ob/\imm ob=false
theorem SR.readonly{K:Frag}(hio:T.io=[])(hlen:ρ.length=σ.length)(h:∀i d,look ρ i=some d->T.own i=false/\∃v F,σ[i]? = some (some v)/\Rep K H d v F) :
  SR K T z (Any H) H (λ_=>False) σ ρ:=by
 have ch:∀i,∃F,∀d,look ρ i=some d->∃v,σ[i]? = some (some v)/\Rep K H d v F:=λi=>by
  cases hl:look ρ i with
  |none=>exact⟨[],λd e=>nomatch e⟩
  | some d=>
   obtain⟨_,v,F,h1,h2⟩:=h i d hl;exact⟨F,λd' e=>by cases e;exact⟨v,h1,h2⟩⟩
 refine⟨λi=>Kp (ch i),hlen,λa h=>h.elim,λi d hl=>Nv (ch i) d hl,λi d hl ht=>?_,λi d hl ht a ha=>?_,λa h=>h.elim,λa h=>h,λi j d e hl hl' ht=>?_,λi hi=>?_⟩
 ·rw[(h i d hl).1]at ht;cases ht
 ·obtain⟨v,_,r⟩:=Nv (ch i) d hl;exact r.dom a ha
 ·rw[(h i d hl).1]at ht;cases ht
 ·rw[hio]at hi;cases hi
theorem Zv:∀{ds:List D}{n i:Nat},look (ds.map some++Bt n none) i=ds[i]?
 | [],0,i=>by simp[look]
 | [],n+1,0=>by simp[look,Mw]
 | [],n+1,i+1=>by
  have:=Zv (ds:=[]) (n:=n) (i:=i);simpa[look,Mw]using this
 |d::ds,n,0=>by simp[look]
 | d::ds,n,i+1=>by
  have:=Zv (ds:=ds) (n:=n) (i:=i);simpa[look]using this
theorem Vl(h:vs[i]? = some v):(L2.start N vs)[i]? = some (some v):=by
 have hi:=(Be.mp h).1;unfold L2.start;rw[Dg (by simpa using hi),Au,h];rfl
section
variable {w:World}{K:Frag}{k:Nat}
def env0(N:List Str)(ds:List D):Env:=ds.map some++Bt (N.length-ds.length) none
theorem Uu(F:Fun K x qual st f fd)(S:FnScope N ps (Qc st))(hio:T.io=[])(hown:∀i,i<ps.length->T.own i=false)(hg:∀ds kk,g ds kk->ds.length=ps.length)
  (hb:∀(cdv:Value)(A:Around)(outer:List Do)(s:Shared)(H:Hp)(E:XK),Room k (A.deeper (envOfC qual (Qc st) s.heap.objs.size f cdv))->SVs (cxOf CX0 P w K mg base N qual (Qc st) f cdv A outer s H E).nox T (Qs st) ww)
  (hr:∀ds kk,g ds kk->ww { nx:=λ_=>kk .non,rt:=λd _=>kk d } (env0 N ds)):FnOk P w K mg base CX0 (k+1) f fd ps (spR K g):=by
 refine F.ok S (λvs H Q E h=>?_) (λcdv A outer s H vs Q E hroom h=>?_)
 ·obtain⟨ds,Fp,kk,rep,hgk,_⟩:=h;rw[rep.length];exact hg ds kk hgk
 ·obtain⟨ds,Fp,kk,rep,hgk,q⟩:=h;obtain⟨ts,pts,gts⟩:=hb cdv A outer s H E hroom;have hl:=rep.length;have hds:=hg ds kk hgk;refine⟨ts,pts,gts (λ_=>.non) (Any H) (L2.start N vs) H (λ_=>False) (env0 N ds) _ _ (SR.readonly hio ?_ λi d hli=>?_) (hr ds kk hgk) ⟨?_,?_,?_,?_,λ_ _ _ _ _ _ _ _ hk=>hk.elim⟩⟩
  ·unfold env0 L2.start;simp[hl]
  ·unfold env0 at hli;rw[Zv]at hli;obtain⟨v,B,h1,h2,_⟩:=rep.get hli;exact⟨hown i (by rw[← hds];exact(Be.mp hli).1),v,B,Vl h1,h2⟩
  ·intro R' σ' H' W' ρ' s' fr hk;have sm:Same H H':=λb o e=>fr.keep b o e (λz=>z);exact q .non H' .non [] ⟨sm,.non,D8,λ_ m=>nomatch m⟩ hk
  ·exactλR' σ' H' W' ρ' s' fr hk=>hk.elim
  ·exactλR' σ' H' W' ρ' s' fr hk=>hk.elim
  ·intro R' v σ' H' W' ρ' d F' s' fr r nd nw hk;have sm:Same H H':=λb o e=>fr.keep b o e (λz=>z);exact q v H' d F' ⟨sm,r,nd,λa ha=>(nw a ha).2.resolve_left id⟩ hk
end
def CV(X:Cx)(ifs:List Expr)(w:WT):Prop :=
 ∃tt,PIfs X ifs tt/\∀(z:Nat->V)(R:Addr->Prop)(σ:St)(H:Hp)(W:Addr->Prop)(ρ:Env)(Q:Bool->Env->Prop)(Q':Bool->Hp->Prop),SR X.K TR z R H W σ ρ->w ρ Q ->
  (∀b H' W' ρ',PostT X.K TR z R false H W σ ρ H' W' ρ'->Q b ρ'->Q' b H')->tt σ H Q'
def wAll:WT:=λρ Q=>Q true ρ
theorem Qbi:CV X [] wAll:=⟨_,Qo1,λz R σ H W ρ Q Q' s hw k=>k true H W ρ ⟨s,FrW.refl H W,λ_=>⟨Same.refl H,rfl,rfl⟩⟩ hw⟩
def blkE(ρ:Env)(d:D)(ix:List Nat):Env:=some d::ix.map (look ρ)
theorem Qh7{f:Nat->Option D}:∀{ix:List Nat}{j:Nat},look (ix.map f) j=ix[j]?.bind f
 | [],_=>by simp[look]
 |i::r,0=>by simp[look]
 |i::r,j+1=>by simpa[look]using Qh7 (f:=f) (ix:=r) (j:=j)
noncomputable def Qcu(wl:WL)(wt:WT)(we:WE)(ix:List Nat):WE:=λρ Q=>wl ρ λds ρ1=>∃I:Nat->List D->Prop,I 0 [] /\
 (∀i d ys,ds[i]? = some d->I i ys->ys.length<sizeLine/\wt (blkE ρ1 d ix) λb _=>if b=true then we (blkE ρ1 d ix) (λy _=>I (i+1) (ys++[y]))else I (i+1) ys) /\
 ∀ys,I ds.length ys->ys.length<=sizeLine/\Q (.lst ys) ρ1
def Qfm(X:Cx)(T:Tg)(m:Bool)(elt iter:Expr)(x:Str)(px:Pos)(scope:Scope)(ifs:List Expr)(ix:List Nat)(w:WE):Prop :=
 ∃(wi:TI) (tt:TT) (te:TE),PI X (.Name x px) iter wi/\(∀cl C s₀ H₀ fp,PIfs (Z1 X scope cl C (bN X.N x ix) s₀ H₀ fp) ifs tt)/\(∀cl C s₀ H₀ fp,PE (Z1 X scope cl C (bN X.N x ix) s₀ H₀ fp) elt te) /\
  ∀(z:Nat->V) (R:Addr->Prop) (σ:St) (H:Hp) (W:Addr->Prop) (ρ:Env) (Q:D->Env->Prop) (Q':VK),SR X.K T z R H W σ ρ->w ρ Q ->
   (∀v H' W' d ρ' F,Post X.K T z R m true H W σ ρ H' W' ρ' d v F->Q d ρ'->Q' v H')->Qsa wi tt te ix σ H Q'
theorem Ux{pr:Bool}(ix:List Nat)(hi:IV X T m pr (.Name x px) iter wl)
  (ht:∀cl C s₀ H₀ fp,CV (Z1 X scope cl C (bN X.N x ix) s₀ H₀ fp) ifs wt) (he:∀cl C s₀ H₀ fp,EV (Z1 X scope cl C (bN X.N x ix) s₀ H₀ fp) TR false true elt we) :
  Qfm X T m elt iter x px scope ifs ix (Qcu wl wt we ix):=by
 obtain ⟨wi,pi,gi⟩:=hi;refine⟨wi,λσ H Q=>∀cl C s₀ H₀ fp,Kp (ht cl C s₀ H₀ fp) σ H Q,λσ H Q=>∀cl C s₀ H₀ fp,Kp (he cl C s₀ H₀ fp) σ H Q,pi,
  λcl C s₀ H₀ fp pins s σ H Q I h=>(Nv (ht cl C s₀ H₀ fp)).1 pins s σ H Q I (h cl C s₀ H₀ fp),λcl C s₀ H₀ fp pins s σ H Q I h=>(Nv (he cl C s₀ H₀ fp)).1 pins s σ H Q I (h cl C s₀ H₀ fp),?_⟩
 intro z R σ H W ρ Q Q' s hw k;refine gi z R σ H W ρ _ _ s hw λJ H1 W1 ds ρ1 p jd q=>?_;obtain⟨I,h0,hI,hd⟩:=q;refine⟨λi n ys H2=>n=ds.length-i/\i<=ds.length/\Same H1 H2/\∃es F,Reps X.K H2 es ys F/\F.Nodup/\(∀a∈F,H1 a=none)/\I i es,ds.length,⟨by simp,Dx _,Same.refl _,[],[],.nil,D8,(λa m=>(nomatch m)),h0⟩,?_⟩;rintro i n ys H2 ⟨rfl,hi,sm,es,F,re,nd,nw,i2⟩;obtain⟨j1,j2⟩:=jd i H2 (wz pr W1) (FrW.same _ sm);by_cases hlt:i<ds.length
 ·have hdi:ds[i]? = some ds[i]:=Bo hlt;obtain⟨hgo,hy⟩:=j2 _ hdi;obtain⟨hz,q1⟩:=hI i _ es hdi i2;refine .inr ⟨hgo,by rw[re.length];exact hz,λv H3 yl=>?_⟩;obtain⟨sm3,Fv,rv,_⟩:=hy v H3 yl;have srB:∀z',SR X.K TR z' (Any H3) H3 (λ_=>False) (bS σ (some v) ix) (blkE ρ1 ds[i] ix):=λz'=>by
   refine SR.readonly rfl (by simp[bS,blkE]) λj d hj=>⟨rfl,?_⟩
   cases j with
   | zero=>
    simp only[blkE,look,N1]at hj;subst hj;exact⟨v,Fv,rfl,rv⟩
   | succ j=>
    have hj':look (ix.map (look ρ1)) j=some d:=hj;rw[Qh7]at hj';cases hx:ix[j]? with
    |none=>rw[hx]at hj';cases hj'
    | some q=>
     rw[hx]at hj';obtain⟨fp,s1⟩:=(p.sr.same sm).same sm3;obtain⟨u,hu,ru⟩:=s1.at_ q d hj';refine⟨u,fp q,?_,ru⟩;show(ix.map λi=>(σ[i]?).getD none)[j]? = some (some u);rw[Au,hx];simp[hu]
  intro cl C s₀ H₀ fp;refine(Nv (ht cl C s₀ H₀ fp)).2 (λ_=>.non) (Any H3) (bS σ (some v) ix) H3 (λ_=>False) (blkE ρ1 ds[i] ix) _ _ (srB _) q1 λbb H4 W4 ρ4 p4 q4=>?_;obtain⟨sm4,hW4,hρ4⟩:=p4.calm rfl;have re4:=((re.same sm3).same sm4)
  cases bb with
  |false=>exact⟨ds.length-(i+1),by lia,rfl,hlt,(sm.trans sm3).trans sm4,es,F,re4,nd,nw,q4⟩
  | true=>
   show if true=true then _ else _
   rw[if_pos rfl];intro cl C s₀ H₀ fp;refine(Nv (he cl C s₀ H₀ fp)).2 (λ_=>.non) (Any H3) (bS σ (some v) ix) H4 W4 (blkE ρ1 ds[i] ix) _ _ (hρ4 ▸ p4.sr) (by simpa using q4) λu H5 W5 y ρ5 Fy p5 q5=>?_;obtain⟨sm5,_,_⟩:=p5.calm rfl;obtain⟨ny,ky⟩:=p5.own rfl;have sm15:Same H1 H5:=((sm.trans sm3).trans sm4).trans sm5;refine⟨ds.length-(i+1),by lia,rfl,hlt,sm15,es++[y],F++Fy,(re4.same sm5).snoc p5.rep,Gd nd ny λa ha hf=>?_,λa ha=>?_,q5⟩
   ·obtain⟨ob,e1,_⟩:=re4.dom a hf;rw[(ky a ha).1]at e1;cases e1
   ·rcases Aj.mp ha with ha|ha
    ·exact nw a ha
    ·exact((sm.trans sm3).trans sm4).free (ky a ha).1
 ·have e:i=ds.length:=by lia
  subst e;obtain⟨hz,q1⟩:=hd es i2;refine .inl ⟨j1 (At _),by rw[re.length];exact hz,λl hl=>?_⟩;have hl1:H1 l=none:=sm.free hl;refine k _ _ W1 (.lst es) ρ1 (l::F) ⟨(p.sr.same sm).same (Qo hl),(p.fr.trans (FrW.same W1 sm)).trans (FrW.same W1 (Qo hl)),λh=>⟨((p.calm h).1.trans sm).trans (Qo hl),(p.calm h).2⟩,.lst Qf (re.same (Qo hl)),λ_=>⟨Bd.mpr ⟨λh=>?_,nd⟩,λb hb=>?_⟩⟩ q1
  ·obtain⟨ob,e1,_⟩:=re.dom l h;rw[hl]at e1;cases e1
  ·rcases Ar.mp hb with rfl|hb
   ·exact⟨p.fr.dom _ hl1,p.sr.nw hl1⟩
   ·exact⟨p.fr.dom _ (nw b hb),p.sr.nw (nw b hb)⟩
theorem Qt6{ix:List Nat}(h:Qfm X T m elt iter x px scope ifs ix w)(B:BlkScope X.env scope x)
  (hix:∀i∈ix,∃y,X.N[i]? = some y/\scope.names.lookup y=some .free) (hN:(bN X.N x ix).Nodup) (hc:X.calm=true:=by rfl)
  (hs:∀x,foldedSetIterable iter X.env x=pure x:=by intro _;rfl):EV X T m true (.ListComp elt [⟨.Name x px,iter,ifs,0⟩] scope pos) w:=by
 obtain⟨wi,tt,te,h1,h2,h3,h4⟩:=h;exact⟨_,Qtf ix hc B hix hN h1 h2 h3 hs,h4⟩
theorem Qse{py:Pos}{ix:List Nat}(h:Qfm X T m elt iter x px scope ifs ix w)(B:BlkScope X.env scope x)(hNd:X.N.Nodup)
  (hix:∀i∈ix,∃y,X.N[i]? = some y/\scope.names.lookup y=some .free) (hN:(bN X.N x ix).Nodup) (hj:X.N[j]? = some y:=by rfl) (hy:Loc X.env.scope y:=by first|exact Ds rfl|exact B9 rfl) (hio:j∉T.io:=by decide)
  (hsw:swapsWith (.ListComp elt [⟨.Name x px,iter,ifs,0⟩] scope pos) (some (.Name y py)) spos.line X.env=pure true:=by rfl)
  (hf:X.fn y=true\/X.env.scope.names.lookup y=some .local:=by first|exact .inl rfl|exact .inr rfl|assumption) (hc:X.calm=true:=by rfl)
  (hs:∀x,foldedSetIterable iter X.env x=pure x:=by intro _;rfl):SV X T (.Assign [.Name y py] (.ListComp elt [⟨.Name x px,iter,ifs,0⟩] scope pos) spos) (wSet j w):=by
 obtain⟨wi,tt,te,h1,h2,h3,h4⟩:=h;exact Qsd ⟨_,Qs5 ix hc B hNd hj hy hsw hix hN h1 h2 h3 hf hs,h4⟩ hio
end PV
namespace PV
open PySem PySem.Spec L2
abbrev WO:=Env->(Option Int->Env->Prop)->Prop
end PV
variable {xs:List PV.D}{ws:PV.WS}{oe ek ev:Nb}{i₀:Nat}{wk:PV.WE}{ap2 cp2 ps1:Sx}
namespace PV
open PySem PySem.Spec L2
def OV(X:Cx)(T:Tg)(m:Bool)(e:Option Expr)(w:WO):Prop :=
 ∃t,PO X e t/\∀(z:Nat->V)(R:Addr->Prop)(σ:St)(H:Hp)(W:Addr->Prop)(ρ:Env)(Q:Option Int->Env->Prop)(Q':Option Int->Hp->Prop),SR X.K T z R H W σ ρ->w ρ Q ->
  (∀b H' W' ρ',PostT X.K T z R m H W σ ρ H' W' ρ'->Q b ρ'->Q' b H')->t σ H Q'
def Ye:WO:=λρ Q=>Q none ρ
def Zo(w:WE):WO:=λρ Q=>w ρ λd ρ'=>match d with
 | .int i=>Q (some i) ρ'
 |_=>False
theorem J0:OV X T false none Ye:=⟨_,Qs8,λz R σ H W ρ Q Q' s hw k=>k none H W ρ ⟨s,FrW.refl H W,λ_=>⟨Same.refl H,rfl,rfl⟩⟩ hw⟩
theorem Jz(h:EV X T m o e w):OV X T m (some e) (Zo w):=by
 obtain⟨t,pt,g⟩:=h;refine⟨_,Qs7 pt,λz R σ H W ρ Q Q' s hw k=>g z R σ H W ρ _ _ s hw λv H1 W1 d ρ1 F p q=>?_⟩;cases d with
 |int i=>exact⟨i,Qsp p.rep,k (some i) H1 W1 ρ1 ⟨p.sr,p.fr,p.calm⟩ q⟩
 |_=>exact q.elim
def cutD(xs:List D)(lo hi:Option Int):List D:=(xs.drop (HT.sIx xs.length 0 lo)).take (HT.sIx xs.length xs.length hi-HT.sIx xs.length 0 lo)
theorem Reps.cut{K:Frag}{xs:List V}(r:Reps K H ds xs []):Reps K H (cutD ds lo hi) (cutV xs lo hi) []:=by
 unfold cutD cutV;rw[r.length];obtain⟨G,r1,s1⟩:=r.drop (HT.sIx ds.length 0 lo);obtain⟨G',r2,s2⟩:=r1.take (HT.sIx ds.length ds.length hi-HT.sIx ds.length 0 lo);have:=M6.mp s1;subst this;have:=M6.mp s2;subst this;exact r2
theorem Quy:SlR X (λx lo hi H Q=>rSlL X.K x lo hi H Q\/rSlT X.K x lo hi H Q):=SlR.or Qsi Qux
def Qoc(w:WE):WL:=λρ Q=>w ρ λd ρ'=>match d with
 | .dik kvs=>Q (kvs.map (·.2)) ρ'
 |_=>False
theorem RepK.get{K:Frag}{H:Hp}:∀{ds:List (Key×D)} {xs:List (Key×V)} {F:List Addr} {i:Nat} {k:Key} {v:V},RepK K H ds xs F->xs[i]? = some (k,v)->∃d B,ds[i]? = some (k,d)/\Rep K H d v B/\B.Sublist F
 | [],_,_,_,_,_,r,h=>by cases r;simp at h
 | d::ds,_,_,i,_,_,r,h=>by
  cases r with
  | @cons j d v _ vs F G p r=>
   cases i with
   | zero=>
    simp at h;obtain⟨rfl,rfl⟩:=h;exact⟨d,F,rfl,p,Rt _ _⟩
   | succ i=>
    obtain⟨d',B,h1,h2,h3⟩:=RepK.get r (i:=i) (by simpa using h);exact⟨d',B,by simpa using h1,h2,h3.trans (Ff _ _)⟩
theorem Qmp(h:EV X T m true oe w)(hbase:attributeBase oe "values" X.env (eval oe X.env)=eval oe X.env:=by rfl)(hline:(apos.endLine==cpos.line)=true:=by rfl):IV X T m true tg (.Call (.Attribute oe "values" apos) [] [] cpos) (Qoc w):=by
 obtain ⟨te,pe,ge⟩:=h;refine⟨_,Qs9 pe hbase hline,λz R σ H W ρ Q RR s hw k=>?_⟩;refine ge z R σ H W ρ _ _ s hw λv H1 W1 d ρ1 F p q=>?_;obtain⟨es,rfl⟩:∃es,d=D.dik es:=by
  clear p;cases d with
  |dik es=>exact⟨es,rfl⟩
  |_=>exact(show False from q).elim
 obtain⟨p1,p2,p3,p4,p5⟩:=p;obtain⟨nd,kF⟩:=p5 rfl;cases p4 with
 | @dik dd kvs _ F e1 r=>
  have hd0:=kF dd Ak;obtain⟨nF,ndF⟩:=Bd.mp nd;refine⟨dd,kvs,rfl,e1,λob=>k _ _ W1 (es.map (·.2)) ρ1 ⟨?_,?_,λh=>?_⟩ ?_ q⟩
  ·-- the state: nobody's address
   obtain⟨fp,s1⟩:=p1;have hi:ImmK H1 (upd H1 dd (.frz ob (.dK kvs))):=Vr e1 rfl;refine⟨fp,s1.len,λa ha=>?_,λi d hl=>?_,s1.own,s1.ro,s1.wr,λa ha=>?_,s1.dis,s1.fix⟩
   ·have:a≠dd:=λz=>hd0.2 (z ▸ ha);rw[Ql this];exact s1.wd a ha
   ·obtain⟨u,h1,h2⟩:=s1.at_ i d hl;refine⟨u,h1,h2.frame hi λa ha=>Ql λz=>?_⟩;subst z;cases hto:T.own i with
    |true=>exact hd0.2 ((s1.own i d hl hto).2 _ ha)
    |false=>exact s.nr hd0.1 (s1.ro i d hl hto _ ha)
   ·have:a≠dd:=λz=>s.nr hd0.1 (z ▸ ha);rw[Ql this];exact s1.rd a ha
  ·refine ⟨λb u e n=>?_,λb e=>?_,λb u e im=>?_,p2.new⟩
   ·have:b≠dd:=λz=>by rw[z,hd0.1]at e;cases e
    rw[Ql this];exact p2.keep b u e n
   ·by_cases hb:b=dd
    ·rw[hb,Qf]at e;cases e
    ·rw[Ql hb]at e;exact p2.dom b e
   ·have:b≠dd:=λz=>by rw[z,hd0.1]at e;cases e
    rw[Ql this];exact p2.imm b u e im
  ·obtain⟨a1,a2,a3⟩:=p3 h;refine⟨λb u e=>?_,a2,a3⟩;have:b≠dd:=λz=>by rw[z,hd0.1]at e;cases e
   rw[Ql this];exact a1 b u e
  ·rw[Gz];intro i H2 W2 f;have e2:H2 dd=some (.frz ob (.dK kvs)):=f.imm _ _ Qf rfl;have hlen:kvs.length=es.length:=r.length;refine⟨λhi=>⟨e2,by rw[Ao]at hi;lia⟩,λd hd=>?_⟩;have hi:i<es.length:=by have:=(Be.mp hd).1;rwa [Ao]at this
   refine⟨⟨e2,by lia⟩,λv H3 y=>?_⟩;obtain⟨rfl,kk,hk⟩:=y;obtain⟨d',B,h1,h2,h3⟩:=r.get hk;rw[Au,h1]at hd;cases hd;have hB:∀a∈B,¬W1 a:=λa ha=>(kF a (Al _ (h3.subset ha))).2;have hBd:dd∉B:=λhb=>nF (h3.subset hb);have h2':=(h2.upd (ob':=.frz ob (.dK kvs)) e1 rfl hBd)
   refine⟨Same.refl _,B,h2'.keep f hB,λa ha hw=>?_⟩;rcases f.new a hw with h|h
   ·exact hB a ha h
   ·obtain⟨ob,e3,_⟩:=h2'.dom a ha;rw[h]at e3;cases e3
theorem SR0.see{K:Frag}{W:Addr->Prop}(s:SR0 K T z R H W σ ρ fp)(hio:i∉T.io)(ht:T.own i=false)(r:Rep K H d v F)(nw:∀a∈F,¬W a) :
  SR K T z (λa=>R a\/a∈F) H W (σ.set i (some v)) (ρ.set i (some d)):=by
 refine⟨λj=>if j=i then F else fp j,?_,s.wd,?_,?_,?_,?_,?_,?_,?_⟩
 ·rw[Dw,Dw];exact s.len
 ·intro j e hj;rw[Z7]at hj
  split at hj
  ·rename_i h;obtain⟨rfl,hlt⟩:=h;cases hj;exact⟨v,by rw[Nk (by rw[← s.len];exact hlt)],by rw[if_pos rfl];exact r⟩
  ·rename_i h;obtain⟨u,h1,h2⟩:=s.at_ j e hj;have hji:j≠i:=λz=>h ⟨z,by rw[← z];exact Us hj⟩;exact⟨u,by rw[Mp (Mk hji)];exact h1,by rw[if_neg hji];exact h2⟩
 ·intro j e hj hto;have hji:j≠i:=λz=>by subst z;rw[ht]at hto;cases hto
  rw[Qr hji]at hj;simp only[if_neg hji];exact s.own j e hj hto
 ·intro j e hj hto;by_cases hji:j=i
  ·subst hji;simp only[if_pos];exactλa h=>.inr h
  ·rw[Qr hji]at hj;simp only[if_neg hji];exactλa h=>.inl (s.ro j e hj hto a h)
 ·intro a ha hr;rcases hr with hr|hr
  ·exact s.wr a ha hr
  ·exact nw a hr ha
 ·intro a hr;rcases hr with hr|hr
  ·exact s.rd a hr
  ·exact r.dom a hr
 ·intro j k e e' hj hk tj tk hne a ha ha';have hji:j≠i:=λz=>by subst z;rw[ht]at tj;cases tj
  have hki:k≠i:=λz=>by subst z;rw[ht]at tk;cases tk
  rw[Qr hji]at hj;rw[Qr hki]at hk;simp only[if_neg hji]at ha;simp only[if_neg hki]at ha';exact s.dis j k e e' hj hk tj tk hne a ha ha'
 ·intro j hj;have hji:j≠i:=λz=>hio (z ▸ hj);rw[Mp (Mk hji)];exact s.fix j hj
noncomputable def Qod(wl:WL)(i₀:Nat)(wb:WS):WS:=λP ρ=>wl ρ λds ρ1=>∃I:Nat->Env->Prop,I 0 ρ1 /\
 (∀i d ρ,ds[i]? = some d->I i ρ->wb { P with nx:=I (i+1),ct:=I (i+1),bk:=P.nx } (ρ.set i₀ (some d)))/\∀ρ,I ds.length ρ->P.nx ρ
theorem Qkz(hp:PassesOwn (model X.prog X.w) X.A X.env X.xe)(hi:IV X T m true (.Name x p) iter wl)(hb:SVs X T body ws)(hN:X.N.Nodup)(hi₀:X.N[i₀]? = some x:=by rfl)(ht:T.own i₀=false:=by rfl)(hio:i₀∉T.io:=by decide)
  (hx:Loc X.env.scope x:=by first|exact Ds rfl|exact B9 rfl) (hf:X.fn x=true\/X.env.scope.names.lookup x=some .local:=by first|exact .inl rfl|exact .inr rfl|assumption) (hc:X.calm=true:=by rfl)
  (hs:∀x,foldedSetIterable iter X.env x=pure x:=by intro _;rfl):SV X T (.For (.Name x p) iter body [] pos) (Qod wl i₀ ws):=by
 obtain⟨ti,pi,gi⟩:=hi;obtain⟨tb,pb,gb⟩:=hb;refine⟨_,Qlj hp hc pi (Qc4 hN hi₀ hx hf) pb hs,λz R σ H W ρ P E s hw l=>gi z R σ H W ρ _ _ s hw λJ H1 W1 ds ρ1 p jd q=>?_⟩;rw[Gz]at jd;obtain⟨I,h0,hI,hd⟩:=q;refine⟨λi n σ' H'=>n=ds.length-i/\i<=ds.length/\∃R' W' ρ',SR X.K T z R' H' W' σ' ρ'/\FrW H1 W1 H' W'/\I i ρ',⟨ds.length,by simp,Dx _,R,W1,ρ1,p.sr,FrW.refl _ _,h0⟩,?_⟩;rintro i n σ2 H2 ⟨rfl,hi,R2,W2,ρ2,s2,f2,i2⟩;obtain⟨j1,j2⟩:=jd i H2 W2 f2;by_cases hlt:i<ds.length
 ·have hdi:ds[i]? = some ds[i]:=Bo hlt;obtain⟨hgo,hy⟩:=j2 _ hdi;refine .inr ⟨hgo,λσ' H'=>i+1<=ds.length/\∃R' W' ρ',SR X.K T z R' H' W' σ' ρ'/\FrW H1 W1 H' W'/\I (i+1) ρ',λσ' H' ⟨h1,h2⟩=>⟨ds.length-(i+1),by lia,rfl,h1,h2⟩,λv H3 yl=>?_⟩;obtain⟨sm,F,rv,nw⟩:=hy v H3 yl;have f3:FrW H1 W1 H3 W2:=f2.trans (FrW.same W2 sm);obtain⟨fp,s3⟩:=s2.same sm;refine gb z _ _ H3 W2 _ _ _ (s3.see hio ht rv nw) (hI i _ ρ2 hdi i2) ⟨?_,?_,?_,?_,?_⟩
  ·exactλR' σ' H' W' ρ' s' f' h=>⟨hlt,R',W',ρ',s',f3.trans f',h⟩
  ·exactλR' σ' H' W' ρ' s' f' h=>l.nx R' σ' H' W' ρ' s' ((p.fr.trans f3).trans f') h
  ·exactλR' σ' H' W' ρ' s' f' h=>⟨hlt,R',W',ρ',s',f3.trans f',h⟩
  ·exact((l.step p.fr).step f3).rt
  ·exact((l.step p.fr).step f3).xc
 ·have e:i=ds.length:=by lia
  subst e;exact .inl ⟨j1 (At _),l.nx R2 σ2 H2 W2 ρ2 s2 (p.fr.trans f2) (hd ρ2 i2)⟩
section
variable {κ:Type}[DecidableEq κ]
theorem Qlf{j k:κ}{y:D}{r:List (κ×D)}(h:¬j=k):putD ((j,d)::r) k y=(j,d)::putD r k y:=by
 unfold putD;by_cases q:(r.any λkv=>decide (kv.1=k))=true
 ·rw[if_pos (by rw[Ft,q];simp),if_pos q,Bc,if_neg h]
 ·rw[if_neg (by rw[Ft];simp only[h,decide_false,Iv];exact q),if_neg q];rfl
theorem Qh3{k:κ}{y:D}:∀{r:List (κ×D)},k∉r.map (·.1)->(r.map λkv=>if kv.1=k then (kv.1,y)else kv)=r
 | [],_=>rfl
 | p::r,h=>by
  simp only[Bc,Ar,not_or]at h;rw[Bc,if_neg (λz=>h.1 z.symm),Qh3 h.2]
theorem Qlg{k:κ}{y:D}{r:List (κ×D)}(h:k∉r.map (·.1)):putD ((k,d)::r) k y=(k,y)::r:=by
 unfold putD;rw[if_pos (by rw[Ft];simp),Bc,if_pos rfl,Qh3 h]
end
section
variable {K:Frag}
theorem RepK.app{k:Key}{xs:List D}:∀{ds:List (Key×D)} {kvs:List (Key×V)} {F:List Addr},RepK K H ds kvs F->F.Nodup->(ds.map (·.1)).Nodup->valD ds k=some (.lst xs) ->
  ∃l ys,valV kvs k=some (.ref l)/\H l=some (.lst ys)/\l∈F/\ys.length=xs.length/\∀v x,Rep K H x v []->RepK K (L2.upd H l (.lst (ys++[v]))) (putD ds k (.lst (xs++[x]))) kvs F
 | [],_,_,r,_,_,h=>by cases h
 | (j,d)::ds,_,_,r,nd,hk,h=>by
  cases r with
  | @cons _ _ v _ vs F G p r=>
   obtain⟨n1,n2,n3⟩:=Dm.mp nd;obtain⟨k1,k2⟩:=Bd.mp (show(j::ds.map (·.1)).Nodup from hk);rw[Ja]at h;by_cases e:j=k
   ·subst e;rw[if_pos rfl]at h;cases h;cases p with
    | @lst l ys _ F0 e1 r1=>
     obtain⟨nl,n0⟩:=Bd.mp n1;refine⟨l,ys,Jn rfl,e1,Aj.mpr (.inl Ak),r1.length,λv x rx=>?_⟩;rw[Qlg k1];refine .cons (.lst Qf ?_) (r.upd e1 rfl λh=>n3 l Ak l h rfl);have:=(r1.upd (ob':=.lst (ys++[v])) e1 rfl nl).snoc (rx.upd e1 rfl (λh=>nomatch h));simpa using this
   ·rw[if_neg e]at h;obtain⟨l,ys,h1,h2,h3,h4,h5⟩:=RepK.app r n2 k2 h;refine⟨l,ys,by rw[Jo e];exact h1,h2,Aj.mpr (.inr h3),h4,λv x rx=>?_⟩;rw[Qlf e];exact .cons (p.upd h2 rfl λh=>n3 l h l h3 rfl) (h5 v x rx)
end
def Qgc:D->Option Key
 | .int i=>some (.inl i)
 | .str i=>some (.inr i)
 |_=>none
theorem Rep.key{K:Frag}{k:Key}(r:Rep K H d v F)(h:Qgc d=some k):v=kV k:=by
 cases r<;>simp[Qgc]at h<;>subst h<;>rfl
def Zq(kvs:List (Key×D))(k:Key):List (Key×D):=if (valD kvs k).isNone then kvs++[(k,.lst [])]else kvs
noncomputable def wSda(i:Nat)(wk wv:WE):WS:=λP ρ=>oget (look ρ i) λs=>match s with
 | .dik kvs=>kvs.length<sizeLine/\(kvs.map (·.1)).Nodup/\wk ρ λkd _=>oget (Qgc kd) λk=>oget (valD (Zq kvs k) k) λl=>match l with
  | .lst xs=>xs.length<sizeLine/\wv (ρ.set i (some (.dik (Zq kvs k)))) λd _=>d.pure=true/\P.nx (ρ.set i (some (.dik (putD (Zq kvs k) k (.lst (xs++[d]))))))
  |_=>False
 |_=>False
theorem Qhg:∀{ρ:Env}{i:Nat}{d:D},look ρ i=some d->ρ.set i (some d)=ρ
 | [],_,_,h=>by simp[look]at h
 |a::r,0,d,h=>by simp only[look]at h;rw[h];rfl
 |a::r,i+1,d,h=>by simp only[Av];rw[Qhg (ρ:=r) (i:=i) h]
theorem Qwa{κ:Type}[DecidableEq κ]{kvs:List (κ×D)}{k:κ}(h:(kvs.map (·.1)).Nodup)(hn:valD kvs k=none):((kvs++[(k,d)]).map (·.1)).Nodup:=by
 rw[Mi];refine Dm.mpr ⟨h,by simp,λa ha b hb e=>?_⟩;have hb':b=k:=by simpa using hb
 subst e hb';obtain⟨q,hq,e⟩:=Aq.mp ha;have:(kvs.any λkv=>decide (kv.1=a))=true:=Ra.mpr ⟨q,hq,decide_eq_true e⟩;rw[Zn,hn]at this;cases this
theorem Qqp{ap1 cp1 pl:Pos}(hk:EV X T false o1 ek wk)(hv:EV X T false o2 ev wv)(ht:T.own i=true:=by rfl)(hN:X.N[i]? = some x:=by rfl)
  (hvis:Vis X.env.scope x:=by first|exact Ds rfl|exact B9 (Ds rfl)|exact B9 (B9 rfl)) (hd:(x==("__debug__":Str))=false:=by decide) (hcd:(x==("__classdict__":Str))=false:=by decide)
  (b1:attributeBase (.Name x p) "setdefault" X.env (eval (.Name x p) X.env)=eval (.Name x p) X.env:=by rfl)
  (f1:((backTo cp1 (starEach [ek,.List [] pl] X.env)).all (λx=>!x.1)&&(backToKw cp1 (keywordEach [] X.env)).all (λx=>x.1.isSome)
   && decide (([ek,.List [] pl]:List Expr).length+([]:List Keyword).length+(if ([]:List Keyword).isEmpty then 0 else 1)<30))=true:=by rfl)
  (l1:(ap1.endLine==cp1.line)=true:=by rfl) (s1:starEach [ek,.List [] pl] X.env=(false,eval ek X.env)::starEach [.List [] pl] X.env:=by rfl) (s1':starEach [.List [] pl] X.env=(false,eval (.List [] pl) X.env)::starEach [] X.env:=by rfl) (q1:(backTo cp1 (starEach [.List [] pl] X.env)).any (·.1)=false:=by rfl)
  (b2:attributeBase (.Call (.Attribute (.Name x p) "setdefault" ap1) [ek,.List [] pl] [] cp1) "append" X.env (eval (.Call (.Attribute (.Name x p) "setdefault" ap1) [ek,.List [] pl] [] cp1) X.env)=eval (.Call (.Attribute (.Name x p) "setdefault" ap1) [ek,.List [] pl] [] cp1) X.env:=by rfl)
  (f2:((backTo cp2 (starEach [ev] X.env)).all (λx=>!x.1)&&(backToKw cp2 (keywordEach [] X.env)).all (λx=>x.1.isSome)
   && decide (([ev]:List Expr).length+([]:List Keyword).length+(if ([]:List Keyword).isEmpty then 0 else 1)<30))=true:=by rfl)
  (l2:(ap2.endLine==cp2.line)=true:=by rfl) (s2:starEach [ev] X.env=(false,eval ev X.env)::starEach [] X.env:=by rfl) (q2:(backTo cp2 (starEach [] X.env)).any (·.1)=false:=by rfl)
  (hs:swapsWith (.Call (.Attribute (.Call (.Attribute (.Name x p) "setdefault" ap1) [ek,.List [] pl] [] cp1) "append" ap2) [ev] [] cp2) none pos.line X.env=pure false:=by rfl) :
  SV X T (.Expr (.Call (.Attribute (.Call (.Attribute (.Name x p) "setdefault" ap1) [ek,.List [] pl] [] cp1) "append" ap2) [ev] [] cp2) pos) (wSda i wk wv):=by
 obtain ⟨tk,pk,gk⟩:=hk;obtain⟨tv,pv,gv⟩:=hv;refine⟨_,Qaz (Qjc Mm M7 M8 Vq (Qjc Kx Ic PySem.F.type_dict_setdefault Qdb (Yc hN hvis hd hcd) (Z5 pk (Z5 (Qq4 Xs) Xs s1') s1) b1 f1 l1 s1 q1) (Z5 pv Xs s2) b2 f2 l2 s2 q2) hs,λz R σ H W ρ P E s hw l=>?_⟩;obtain⟨sd,hl0,hw⟩:=Qi hw;obtain⟨kvs,rfl⟩:∃kvs,sd=D.dik kvs:=by
  clear hl0;cases sd with
  |dik kvs=>exact⟨kvs,rfl⟩
  |_=>exact(show False from hw).elim
 obtain ⟨hz,hnd,hw⟩:=hw;obtain⟨fp,s0⟩:=id s;obtain⟨v0,hv0,r0⟩:=s0.at_ i _ hl0;refine⟨v0,hv0,Qqm r0 (t:="dict") rfl,?_⟩;refine gk z R σ H W ρ _ _ s hw λvk H1 W1 kd ρ1 Fk p q=>?_;obtain⟨sm1,hW1,hρ1⟩:=p.calm rfl;subst hW1 hρ1;obtain⟨k,hkey,q⟩:=Qi q;have ek:=p.rep.key hkey;subst ek;obtain⟨ld,hval,q⟩:=Qi q;obtain⟨xs,rfl⟩:∃xs,ld=D.lst xs:=by
  clear hval;cases ld with
  |lst xs=>exact⟨xs,rfl⟩
  |_=>exact(show False from q).elim
 obtain⟨hxz,q⟩:=q
 -- what is to be done with the list that comes
 have fin:∀(Hs:Hp)(Ws:Addr->Prop)(y:V),SR X.K T z R Hs Ws σ (ρ1.set i (some (.dik (Zq kvs k))))->FrW H W1 Hs Ws->((Zq kvs k).map (·.1)).Nodup->(∀a kv,v0=.ref a->Hs a=some (.dK kv)->valV kv k=some y) ->
   tyV X.K "list" y Hs/\Quu tv tNil σ Hs λxs H2=>Qlb y xs H2 λ_ H1=>E.nx σ H1:=λHs Ws y ss fs hns hy=>by
  obtain⟨fpS,sS⟩:=id ss;have hlS:look (ρ1.set i (some (.dik (Zq kvs k)))) i=some (.dik (Zq kvs k)):=Z6 (Us hl0);obtain⟨vS,hvS,rS⟩:=sS.at_ i _ hlS;have:vS=v0:=by rw[hv0]at hvS;cases hvS;rfl
  subst this;obtain⟨ndS,swS⟩:=sS.own i _ hlS ht;have app:∃(l:Addr)(ys:List V)(a:Addr)(kvS:List (Key×V)),y=.ref l/\Hs l=some (.lst ys)/\vS=.ref a/\Hs a=some (.dK kvS):=by
   generalize fpS i=Fi at rS ndS;cases rS with
   | @dik a kv _ F e1 r=>
    obtain⟨na,nF⟩:=Bd.mp ndS;obtain⟨l,ys,h1,h2,_⟩:=r.app nF hns hval;have:=hy a kv rfl e1;rw[h1]at this;cases this;exact⟨l,ys,a,kv,rfl,h2,rfl,e1⟩
  obtain⟨l0,ys0,aS,kvS,rfl,hl0',rfl,eS⟩:=app;refine⟨.inl ⟨rfl,_,.of hl0'⟩,?_⟩;refine gv z R σ Hs Ws _ _ _ ss q λvd H2 W2 d ρ2 Fd pd ⟨hp,qn⟩=>?_;obtain⟨sm2,hW2,hρ2⟩:=pd.calm rfl;subst hW2 hρ2;obtain⟨_,rd⟩:=pd.rep.pure hp;obtain⟨fp2,s2⟩:=id pd.sr;obtain⟨v2,hv2,r2⟩:=s2.at_ i _ hlS;have:v2=.ref aS:=by rw[hvS]at hv2;cases hv2;rfl
  subst this;obtain⟨nd2,sw2⟩:=s2.own i _ hlS ht;have h2l:H2 l0=some (.lst ys0):=sm2 _ _ hl0';have fin2:∃(ys:List V)(F':List Addr),H2 l0=some (.lst ys)/\ys.length=xs.length/\l0∈fp2 i/\Rep X.K (upd H2 l0 (.lst (ys++[vd]))) (.dik (putD (Zq kvs k) k (.lst (xs++[d])))) (.ref aS) F'/\F'=fp2 i:=by
   generalize fp2 i=Fi at r2 nd2;cases r2 with
   | @dik a kv _ F e1 r=>
    obtain ⟨na,nF⟩:=Bd.mp nd2;obtain⟨l,ys,h1,h2,h3,h4,h5⟩:=r.app nF hns hval;have hkv:kv=kvS:=by
     have:=sm2 _ _ eS;rw[e1]at this;cases this;rfl
    subst hkv;have:=hy aS kv rfl eS;rw[h1]at this;cases this;have hne:aS≠l0:=λz=>na (z ▸ h3);exact⟨ys,_,h2,h4,Al _ h3,.dik (by rw[Ql hne];exact e1) (h5 vd d rd),rfl⟩
  obtain⟨ys,F',h1,h2,h3,h4,rfl⟩:=fin2;refine⟨l0,ys,vd,rfl,rfl,h1,by rw[h2];exact hxz,?_⟩;have hWl:=sw2 l0 h3;have sF:=s2.write hlS ht hv2 h3 Q8 ⟨_,Qf,rfl⟩ h4 nd2 (λa ha=>.inl ha);have fF:=(fs.trans pd.fr).write hWl (s2.wd l0 hWl) (H':=upd H2 l0 (.lst (ys++[vd]))) Q8 ⟨_,Qf,rfl⟩ (F':=fp2 i) (λa ha=>.inl (sw2 a ha));rw[List.set_set]at sF;exact l.nx R σ _ _ _ sF fF qn
 refine⟨Dx _,λpn hpn=>?_⟩;have smn:Same H1 (upd H1 pn (.lst [])):=Qo hpn;have sn:=p.sr.same smn;have fn1:FrW H W1 (upd H1 pn (.lst [])) W1:=p.fr.trans (FrW.same W1 smn);obtain⟨fp1,s1⟩:=id sn;obtain⟨v1,hv1,r1⟩:=s1.at_ i _ hl0;have:v1=v0:=by rw[hv0]at hv1;cases hv1;rfl
 subst this;obtain⟨nd1,sw1⟩:=s1.own i _ hl0 ht;have hpnW:¬W1 pn:=p.sr.nw hpn;have hpnR:¬R pn:=p.sr.nr hpn;have hpn0:H pn=none:=sm1.free hpn;have rep1:∃(a:Addr)(kv:List (Key×V)) (F:List Addr),v1=.ref a/\upd H1 pn (.lst []) a=some (.dK kv)/\RepK X.K (upd H1 pn (.lst [])) kvs kv F/\fp1 i=a::F:=by
  generalize fp1 i=Fi at r1;cases r1 with
  | @dik a kv _ F e1 r=>exact⟨a,kv,F,rfl,e1,r,rfl⟩
 obtain⟨a,kv,F,rfl,e1,r,hfp⟩:=rep1;rw[hfp]at nd1 sw1;obtain⟨na,nF⟩:=Bd.mp nd1;refine⟨a,kv,k,.ref pn,rfl,rfl,e1,by rw[r.length];exact hz,λy hy=>?_,λhn=>?_⟩
 ·have hs:(valD kvs k).isNone=false:=by
   rcases r.val k with⟨_,h2⟩|⟨d,v,B,h1,_⟩
   ·rw[hy]at h2;cases h2
   ·rw[h1];rfl
  have e2:Zq kvs k=kvs:=by unfold Zq;rw[hs];rfl
  refine fin _ W1 y ?_ fn1 (by rw[e2];exact hnd) λa' kv' ea ha=>?_
  ·rw[e2,Qhg hl0];exact sn
  ·cases ea;rw[e1]at ha;cases ha;exact hy
 ·have hs:valD kvs k=none:=by
   rcases r.val k with⟨h1,_⟩|⟨d,v,B,_,h2,_⟩
   ·exact h1
   ·rw[hn]at h2;cases h2
  have e2:Zq kvs k=kvs++[(k,.lst [])]:=by unfold Zq;rw[hs];rfl
  have hapn:a≠pn:=λz=>hpnW (z ▸ sw1 a Ak);have hput:=Qos (V.ref pn) hn;have rN:Rep X.K (upd (upd H1 pn (.lst [])) a (.dK (putK kv k (.ref pn)))) (.dik (Zq kvs k)) (.ref a) (a::(F++[pn])):=by
   rw[e2,hput];refine .dik Qf ((r.upd e1 rfl na).append ?_);have:Rep X.K (upd (upd H1 pn (.lst [])) a (.dK (kv++[(k,.ref pn)]))) (.lst []) (.ref pn) [pn]:=.lst (by rw[Ql (Mk hapn),Qf]) .nil;have:=RepK.cons (k:=k) this .nil;simpa using this
  have ndN:(a::(F++[pn])).Nodup:=by
   refine Bd.mpr ⟨λh=>?_,Gd nF (by simp) λb hb hf=>?_⟩
   ·rcases Aj.mp h with h|h
    ·exact na h
    ·exact hapn (Ap.mp h)
   ·rw[Ap.mp hb]at hf;exact hpnW (sw1 pn (Al _ hf))
  have hWa:=sw1 a Ak;have sN:=s1.write hl0 ht hv1 (by rw[hfp];exact Ak) Q8 ⟨_,Qf,rfl⟩ rN ndN (λb hb=>by
   rcases Ar.mp hb with rfl|hb
   ·exact .inl (by rw[hfp];exact Ak)
   ·rcases Aj.mp hb with hb|hb
    ·exact .inl (by rw[hfp];exact Al _ hb)
    ·rw[Ap.mp hb];exact .inr ⟨hpnW,hpnR⟩)
  have fN:=fn1.write (H':=upd (upd H1 pn (.lst [])) a (.dK (putK kv k (.ref pn)))) (F':=a::(F++[pn])) hWa (s1.wd a hWa) Q8 ⟨_,Qf,rfl⟩ (λb hb=>by
   rcases Ar.mp hb with rfl|hb
   ·exact .inl hWa
   ·rcases Aj.mp hb with hb|hb
    ·exact .inl (sw1 b (Al _ hb))
    ·rw[Ap.mp hb];exact .inr hpn0)
  refine fin _ _ (.ref pn) sN fN (by rw[e2];exact Qwa hnd hs) λa' kv' ea ha=>?_;cases ea;rw[Qf]at ha;cases ha;rw[Qoe,if_pos rfl]
abbrev tupI(k:List Int):D:=.tup (k.map .int)
theorem Reps.of_tups{K:Frag}{H:Hp}:∀{keys:List (List Int)} {as:List Addr},as.length=keys.length->(∀(i:Nat) k a,keys[i]? = some k->as[i]? = some a->H a=some (.tup (k.map V.int)))->Reps K H (keys.map tupI) (as.map V.ref) []
 | [],[],_,_=>.nil
 |k::keys,a::as,hl,h=>.cons (F:=[]) (G:=[]) (.tup (h 0 k a rfl rfl) (Reps.ints k)) (Reps.of_tups (by simpa using hl) λi k' a' h1 h2=>h (i+1) k' a' (by simpa using h1) (by simpa using h2))
theorem Qbl:bootBuiltins "sorted" = some (.builtin "sorted"):=by decide +kernel
theorem Uo:bootBuiltins "len" = some (.builtin "len"):=by decide +kernel
theorem Qxt:bootBuiltins "sum" = some (.builtin "sum"):=by decide +kernel
theorem Qxu:bootBuiltins "int" = some (.type "int"):=by decide +kernel
theorem Ve:bootBuiltins "tuple" = some (.type "tuple"):=by decide +kernel
def Jb(w:WE):WE:=λρ Q=>w ρ λd ρ'=>d.pure=true/\Q d ρ'
def Cal(P:Program)(w:World)(K:Frag)(mg:Str->Option Value)(base:Heap)(x:Str)(k:Nat)(ps:List Str)(sp:Sp):Prop :=
 ∃f fd,FnOk P w K mg base CX0 k f fd ps sp/\mg x=some (.ref f)/\keepIn K (.ref f)=true/\Qfp K fd ps []
section
variable {k:Nat}
theorem Q7(h:EV X T m o e w):EV X T m true e (Jb w):=h.lift
theorem Q3(C:Cal X.prog X.w X.K X.mg X.base x k ps (spR X.K g))(hr:Room k X.A)(ha:AV X T m o (e::es) wr)(hg:Gl X x:=by rfl)
  (hdb:(x==("__debug__":Str))=false:=by decide) (he:starEach (e::es) X.env=(false,eval e X.env)::starEach es X.env:=by rfl) (hpl:(backTo pos (starEach es X.env)).any (·.1)=false:=by rfl) :
  EV X T m true (.Call (.Name x p) (e::es) [] pos) (Qq g wr):=by
 obtain⟨f,fd,F,h1,h2,h3⟩:=C;exact Qt7 F hr h1 h2 h3 ha hg hdb he hpl
def nonD:D->Bool
 | .non=>true
 |_=>false
def nonB(b:D)(k:Prop):Prop:=match b with
 | .non=>k
 |_=>False
def dIs(neg:Bool):G2:=λa b k=>nonB b (k (.bl (xor (nonD a) neg)))
theorem Qph:OpD X (compareOp .IsNot) (dIs true):=by
 refine⟨_,Qth,λH a b x y F1 F2 k Q ra rb g q=>?_⟩;cases rb<;>first|(exact(show False from g).elim)|(refine⟨rfl,?_⟩;cases ra<;>first|exact q _ _ _ _ (.flat (.bl _)) g|(rename_i h;cases h<;>exact q _ _ _ _ (.flat (.bl _)) g))
noncomputable def Qxo(sc scope:Scope)(N:List Str)(x:Str)(ix:List Nat):Bool :=
 (scope.kind == .function)&&scope.names.all (λy=>y.2 != .cell)&&scope.names.all (λy=>y.2 != .local||scope.names.lookup y.1==some .local)&&(scope.names.lookup x==some .local) &&
  scope.names.all (λy=>y.2 != .free||(sc.names.lookup y.1==some .cell||sc.names.lookup y.1==some .free)) &&
  ix.all (λi=>match N[i]? with|some y=>scope.names.lookup y==some .free|none=>false)&&decide (bN N x ix).Nodup
structure CompB(X:Cx)(scope:Scope)(x:Str)(ix:List Nat):Prop where
 B:BlkScope X.env scope x
 hix:∀i∈ix,∃y,X.N[i]? = some y/\scope.names.lookup y=some .free
 hN:(bN X.N x ix).Nodup
theorem Vc{ix:List Nat}(sc:Scope)(N:List Str)(h:Qxo sc scope N x ix=true)(h1:X.env.scope=sc:=by rfl)(h2:X.N=N:=by rfl):CompB X scope x ix:=by
 subst h1 h2;simp only[Qxo,B4,Kq,Bool.or_eq_true,decide_eq_true_eq,beq_iff_eq,bne_iff_ne]at h;obtain⟨⟨⟨⟨⟨⟨a1,a2⟩,a3⟩,a4⟩,a5⟩,a6⟩,a7⟩:=h;refine⟨⟨a1,a2,λy hy e=>(a3 y hy).resolve_left (λz=>z e),a4,λy hy e=>(a5 y hy).resolve_left (λz=>z e)⟩,λi hi=>?_,a7⟩;have:=a6 i hi;cases q:X.N[i]? with
 |none=>rw[q]at this;cases this
 | some y=>
  rw[q]at this;exact⟨y,rfl,by simpa using this⟩
theorem V8{ix:List Nat}(h:Qfm X T m elt iter x px scope ifs ix w)(B:CompB X scope x ix)(hc:X.calm=true:=by rfl)
  (hs:∀x,foldedSetIterable iter X.env x=pure x:=by intro _;rfl):EV X T m true (.ListComp elt [⟨.Name x px,iter,ifs,0⟩] scope pos) w:=Qt6 h B.B B.hix B.hN hc hs
theorem Qoj{py:Pos}{ix:List Nat}(h:Qfm X T m elt iter x px scope ifs ix w)(B:CompB X scope x ix)(hNd:X.N.Nodup)
  (hj:X.N[j]? = some y:=by rfl) (hy:Loc X.env.scope y:=by first|exact Ds rfl|exact B9 rfl) (hio:j∉T.io:=by decide)
  (hsw:swapsWith (.ListComp elt [⟨.Name x px,iter,ifs,0⟩] scope pos) (some (.Name y py)) spos.line X.env=pure true:=by rfl)
  (hf:X.fn y=true\/X.env.scope.names.lookup y=some .local:=by first|exact .inl rfl|exact .inr rfl|assumption) (hc:X.calm=true:=by rfl)
  (hs:∀x,foldedSetIterable iter X.env x=pure x:=by intro _;rfl):SV X T (.Assign [.Name y py] (.ListComp elt [⟨.Name x px,iter,ifs,0⟩] scope pos) spos) (wSet j w):=Qse h B.B hNd B.hix B.hN hj hy hio hsw hf hc hs
end
def kD:Key->D
 | .inl i=>.int i
 | .inr x=>.str x
theorem Qu2{K:Frag}(k:Key):Rep K H (kD k) (kV k) []:=by
 cases k with
 |inl i=>exact .int i
 |inr x=>exact .str x
def Qbw(kvs:List (Key×D)):List D:=kvs.map λkv=>kD kv.1
def Qr4(w:WE):WL:=λρ Q=>w ρ λd ρ'=>match d with
 | .dik kvs=>Q (Qbw kvs) ρ'
 |_=>False
theorem Qt3(h:EV X T m true oe w):IV X T m true tg oe (Qr4 w):=by
 obtain ⟨te,pe,ge⟩:=h;refine⟨_,Qta pe,λz R σ H W ρ Q RR s hw k=>?_⟩;refine ge z R σ H W ρ _ _ s hw λv H1 W1 d ρ1 F p q=>?_;obtain⟨es,rfl⟩:∃es,d=D.dik es:=by
  clear p;cases d with
  |dik es=>exact⟨es,rfl⟩
  |_=>exact(show False from q).elim
 obtain⟨p1,p2,p3,p4,p5⟩:=p;obtain⟨nd,kF⟩:=p5 rfl;cases p4 with
 | @dik dd kvs _ F e1 r=>
  have hd0:=kF dd Ak;obtain⟨nF,ndF⟩:=Bd.mp nd;refine⟨dd,kvs,rfl,e1,λob=>k _ _ W1 (Qbw es) ρ1 ⟨?_,?_,λh=>?_⟩ ?_ q⟩
  ·obtain ⟨fp,s1⟩:=p1;have hi:ImmK H1 (upd H1 dd (.frz ob (.dK kvs))):=Vr e1 rfl;refine⟨fp,s1.len,λa ha=>?_,λi d hl=>?_,s1.own,s1.ro,s1.wr,λa ha=>?_,s1.dis,s1.fix⟩
   ·have:a≠dd:=λz=>hd0.2 (z ▸ ha);rw[Ql this];exact s1.wd a ha
   ·obtain⟨u,h1,h2⟩:=s1.at_ i d hl;refine⟨u,h1,h2.frame hi λa ha=>Ql λz=>?_⟩;subst z;cases hto:T.own i with
    |true=>exact hd0.2 ((s1.own i d hl hto).2 _ ha)
    |false=>exact s.nr hd0.1 (s1.ro i d hl hto _ ha)
   ·have:a≠dd:=λz=>s.nr hd0.1 (z ▸ ha);rw[Ql this];exact s1.rd a ha
  ·refine ⟨λb u e n=>?_,λb e=>?_,λb u e im=>?_,p2.new⟩
   ·have:b≠dd:=λz=>by rw[z,hd0.1]at e;cases e
    rw[Ql this];exact p2.keep b u e n
   ·by_cases hb:b=dd
    ·rw[hb,Qf]at e;cases e
    ·rw[Ql hb]at e;exact p2.dom b e
   ·have:b≠dd:=λz=>by rw[z,hd0.1]at e;cases e
    rw[Ql this];exact p2.imm b u e im
  ·obtain⟨a1,a2,a3⟩:=p3 h;refine⟨λb u e=>?_,a2,a3⟩;have:b≠dd:=λz=>by rw[z,hd0.1]at e;cases e
   rw[Ql this];exact a1 b u e
  ·rw[Gz];intro i H2 W2 f;have e2:H2 dd=some (.frz ob (.dK kvs)):=f.imm _ _ Qf rfl;have hlen:kvs.length=es.length:=r.length;refine⟨λhi=>⟨e2,by rw[Qbw,Ao]at hi;lia⟩,λd hd=>?_⟩;have hi:i<es.length:=by have:=(Be.mp hd).1;rwa [Qbw,Ao]at this
   refine⟨⟨e2,by lia⟩,λv H3 y=>?_⟩;obtain⟨rfl,kk,vv,hk,rfl⟩:=y;obtain⟨d',B,h1,h2,h3⟩:=r.get hk;rw[Qbw,Au,h1]at hd;cases hd;exact⟨Same.refl _,[],Qu2 kk,λa ha=>nomatch ha⟩
noncomputable def Jm:G2
 | .int i,.int j,k=>k (.int (i+j))
 | .str x,.str y,k=>x.length+y.length<=sizeLine/\k (.str (x++y))
 | .tup xs,.tup ys,k=>Qm xs=true/\Qm ys=true/\xs.length+ys.length<=sizeLine/\k (.tup (xs++ys))
 | .lst xs,.lst ys,k=>Qm xs=true/\Qm ys=true/\xs.length+ys.length<=sizeLine/\k (.lst (xs++ys))
 |_,_,_=>False
theorem Qqi{a b:D}(g:Jm a b k):(∃i j,a=.int i/\b=.int j)\/(∃i j,a=.str i/\b=.str j)\/(∃i j,a=.lst i/\b=.lst j)\/∃i j,a=.tup i/\b=.tup j:=by
 cases a with
 | int i=>cases b with
  |int j=>exact .inl ⟨i,j,rfl,rfl⟩
  |_=>exact(show False from g).elim
 | str i=>cases b with
  |str j=>exact .inr (.inl ⟨i,j,rfl,rfl⟩)
  |_=>exact(show False from g).elim
 | lst i=>cases b with
  |lst j=>exact .inr (.inr (.inl ⟨i,j,rfl,rfl⟩))
  |_=>exact(show False from g).elim
 | tup i=>cases b with
  |tup j=>exact .inr (.inr (.inr ⟨i,j,rfl,rfl⟩))
  |_=>cases i<;>exact(show False from g).elim
 |_=>exact(show False from g).elim
theorem Q0:OpD X (binaryOp .Add) Jm:=by
 obtain⟨r0,o0,g0⟩:=Qq6 (X:=X);refine⟨_,OpR.or Qtm o0,λH a b x y F1 F2 k Q ra rb g q=>?_⟩;rcases Qqi g with⟨i,j,rfl,rfl⟩|⟨i,j,rfl,rfl⟩|⟨i,j,rfl,rfl⟩|⟨i,ys,rfl,rfl⟩
 ·exact .inr (g0 H _ _ x y F1 F2 k Q ra rb g q)
 ·exact .inr (g0 H _ _ x y F1 F2 k Q ra rb g q)
 ·exact .inr (g0 H _ _ x y F1 F2 k Q ra rb g q)
 ·cases i with
  | nil=>
   cases ra with
   | @tup p _ _ _ e1 r1=>
    cases r1;cases rb with
    | @tup p' us _ _ e2 r2=>exact .inl ⟨p,p',us,rfl,rfl,.of e1,.of e2,q _ _ _ _ (.flat (.tup e2 (r2.pure g.2.1).2)) g.2.2.2⟩
  |cons d xs=>exact .inr (g0 H _ _ x y F1 F2 k Q ra rb ⟨g.1,g.2.1,by simp,g.2.2⟩ q)
noncomputable def dSlT:D->Option Int->Option Int->(D->Prop)->Prop
 | .lst xs,lo,hi,k=>Qm xs=true/\k (.lst (cutD xs lo hi))
 | .kls xs,lo,hi,k=>Qm xs=true/\k (.lst (cutD xs lo hi))
 | .tup xs,lo,hi,k=>Qm xs=true/\k (.tup (cutD xs lo hi))
 |_,_,_,_=>False
theorem Qsk(g:dSlT d lo hi k):(∃ds,d=.lst ds)\/(∃ds,d=.kls ds)\/∃ds,d=.tup ds:=by
 cases d with
 |lst ds=>exact .inl ⟨ds,rfl⟩
 |kls ds=>exact .inr (.inl ⟨ds,rfl⟩)
 |tup ds=>exact .inr (.inr ⟨ds,rfl⟩)
 |_=>exact(show False from g).elim
theorem Qsj:SlR X (λx lo hi H Q=>(rSlL X.K x lo hi H Q\/rSlT X.K x lo hi H Q)\/rSlW X.K x lo hi H Q):=SlR.or Quy Qsh
def wSlT(w:WE)(wl wh:WO):WE:=λρ Q=>w ρ λd ρ1=>wl ρ1 λlo ρ2=>wh ρ2 λhi ρ3=>dSlT d lo hi λd'=>Q d' ρ3
theorem Qno(h:HT.sIx xs.length 0 lo=0/\HT.sIx xs.length xs.length hi=xs.length):cutD xs lo hi=xs:=by
 unfold cutD;rw[h.1,h.2];simp
theorem Zd{lo hi:Option Expr}{wl wh:WO}(he:EV X T m1 o1 e w)(hl:OV X T m2 lo wl)(hh:OV X T m3 hi wh)(hc:o1=true\/(m2||m3)=false:=by first|exact .inl rfl|exact .inr rfl) :
  EV X T (m1||(m2||m3)) true (.Subscript e (.Slice lo hi none p2) pos) (wSlT w wl wh):=by
 obtain ⟨te,pe,ge⟩:=he;obtain⟨tl,pl,gl⟩:=hl;obtain⟨th,ph,gh⟩:=hh;refine⟨_,Qo5 Qsj pe pl ph,λz R σ H W ρ Q Q' s hw k=>?_⟩;refine ge z R σ H W ρ _ _ s hw λv H1 W1 d ρ1 F p q=>?_;refine gl z R σ H1 W1 ρ1 _ _ p.sr q λlo H2 W2 ρ2 p2 q2=>?_;refine gh z R σ H2 W2 ρ2 _ _ p2.sr q2 λhi H3 W3 ρ3 p3 q3=>?_;have pp:=p2.seq p3;have r3:Rep X.K H3 d v F:=by
  rcases hc with hc|hc
  ·exact p.rep.keep pp.fr λa h=>((p.own hc).2 a h).2
  ·exact p.rep.same (pp.calm hc).1
 have fin:∀ad d' v' Fn,Fin X.K H3 ad d' v' Fn->Q d' ρ3->Q' v' ad:=λH' d' v' F' fi hq=>by
  refine k v' H' W3 d' ρ3 F' (Post.fin p3.sr (p.fr.trans pp.fr) (λh=>?_) fi.same fi.rep fi.nd fi.new) hq;rw[Mq]at h;obtain⟨a1,a2,a3⟩:=p.calm h.1;obtain⟨b1,b2,b3⟩:=pp.calm h.2;exact⟨a1.trans b1,b2.trans a2,b3.trans a3⟩
 have q4:dSlT d lo hi λd'=>Q d' ρ3:=q3;clear q3;rcases Qsk q4 with⟨ds,rfl⟩|⟨ds,rfl⟩|⟨ds,rfl⟩
 ·have q3:=q4;cases r3 with
  | @lst a xs _ F e1 r9=>
   obtain⟨hp,hq⟩:=q3;obtain⟨_,r9⟩:=r9.pure hp;exact .inl (.inl ⟨a,xs,rfl,.of e1,λl hl=>fin _ _ _ [l] ⟨Qo hl,.lst Qf (r9.cut.same (Qo hl)),by simp,λb m=>by rw[Ap.mp m];exact hl⟩ hq⟩)
 ·have q3:=q4;cases r3 with
  | @kls a xs _ e1 r9=>
   obtain⟨hp,hq⟩:=q3;exact .inl (.inl ⟨a,xs,rfl,e1.sq,λl hl=>fin _ _ _ [l] ⟨Qo hl,.lst Qf (r9.cut.same (Qo hl)),by simp,λb m=>by rw[Ap.mp m];exact hl⟩ hq⟩)
 ·have q3:=q4;cases r3 with
  | @tup a xs _ F e1 r9=>
   obtain⟨hp,hq⟩:=q3;obtain⟨_,r9⟩:=r9.pure hp;by_cases hn:HT.sIx ds.length 0 lo=0/\HT.sIx ds.length ds.length hi=ds.length
   ·rw[Qno hn]at hq;exact .inr ⟨a,xs,rfl,.of e1,by rw[r9.length];exact hn,fin _ _ _ [] (.flat (.tup e1 r9)) hq⟩
   ·exact .inl (.inr ⟨a,xs,rfl,.of e1,by rw[r9.length];exact hn,λl hl=>fin _ _ _ [] ⟨Qo hl,.tup Qf (r9.cut.same (Qo hl)),by simp,λb m=>nomatch m⟩ hq⟩)
section
variable {κ:Type}[DecidableEq κ]
theorem Qsz{j k:κ}{d y:V}{r:List (κ×V)}(h:¬j=k):putK ((j,d)::r) k y=(j,d)::putK r k y:=by
 unfold putK;rw[Ft,decide_eq_false h,Iv];split
 ·rw[Bc,if_neg h]
 ·rfl
theorem Qez{k:κ}{y:V}:∀{r:List (κ×V)},k∉r.map (·.1)->(r.map λkv=>if kv.1=k then (kv.1,y)else kv)=r
 | [],_=>rfl
 | p::r,h=>by
  rw[Bc,Ar,not_or]at h;rw[Bc,if_neg (λz=>h.1 z.symm),Qez h.2]
theorem Qs0{k:κ}{d y:V}{r:List (κ×V)}(h:k∉r.map (·.1)):putK ((k,d)::r) k y=(k,y)::r:=by
 unfold putK;rw[if_pos (by rw[Ft];simp),Bc,if_pos rfl,Qez h]
end
section
variable {K:Frag}
theorem RepK.putO{k:Key}{d:D}{v:V}{B:List Addr}(hb:Rep K H d v B):∀{ds:List (Key×D)} {kvs:List (Key×V)} {F:List Addr},RepK K H ds kvs F->(ds.map (·.1)).Nodup->(F++B).Nodup ->
  ∃G,RepK K H (putD ds k d) (putK kvs k v) G/\G.Nodup/\∀a∈G,a∈F\/a∈B
 | [],_,_,r,_,nd=>by
  cases r;refine⟨B++[],.cons hb .nil,by simpa using nd,λa ha=>.inr (by simpa using ha)⟩
 | (j,e)::ds,_,_,r,hk,nd=>by
  cases r with
  | @cons _ _ u _ us F G p r=>
   obtain⟨k1,k2⟩:=Bd.mp (show(j::ds.map (·.1)).Nodup from hk);rw[Bm]at nd;obtain⟨n1,n2,n3⟩:=Dm.mp nd;by_cases ej:j=k
   ·subst ej;rw[Qlg k1,Qs0 (by rw[r.keys];exact k1)];obtain⟨m1,m2,m3⟩:=Dm.mp n2;refine⟨B++G,.cons hb r,Dm.mpr ⟨m2,m1,λa ha b hb e=>m3 b hb a ha e.symm⟩,λa ha=>?_⟩;rcases Aj.mp ha with h|h
    ·exact .inr h
    ·exact .inl (Aj.mpr (.inr h))
   ·obtain ⟨G',h1,h2,h3⟩:=RepK.putO hb r k2 n2;rw[Qlf ej,Qsz ej];refine⟨F++G',.cons p h1,Dm.mpr ⟨n1,h2,λa ha b hb e=>?_⟩,λa ha=>?_⟩
    ·exact n3 a ha b (Aj.mpr (h3 b hb)) e
    ·rcases Aj.mp ha with h|h
     ·exact .inl (Aj.mpr (.inl h))
     ·rcases h3 a h with h|h
      ·exact .inl (Aj.mpr (.inr h))
      ·exact .inr h
end
def Qp5(d:D)(k:List (Key×D)->Prop):Prop:=match d with
 | .dik kvs=>k kvs
 |_=>False
noncomputable def Qkc(i:Nat)(wv wi:WE):WS:=λP ρ=>wv ρ λd ρ1=>(look ρ1 i).isSome=true/\wi ρ1 λc _=>oget (look ρ1 i) λs=>Qp5 s λkvs=>kvs.length<sizeLine/\(kvs.map (·.1)).Nodup /\
 oget (Qgc c) λk=>P.nx (ρ1.set i (some (.dik (putD kvs k d))))
theorem Qkx{v ix:Expr}{wi:WE}(hu:X.A.units+1<cLine)(hv:EV X T m1 true v wv)(hi:EV X T false o2 ix wi)(ht:T.own i=true:=by rfl)(hN:X.N[i]? = some x:=by rfl)
  (hvis:Vis X.env.scope x:=by first|exact Ds rfl|exact B9 (Ds rfl)|exact B9 (B9 rfl)) (hd:(x==("__debug__":Str))=false:=by decide) (hcd:(x==("__classdict__":Str))=false:=by decide)
  (ha:∀v,assign (.Subscript (.Name x px) ix ps') X.env v=(do
   let ov ← holding [v] (eval (.Name x px) X.env)
   let iv ← holding [v,ov] (eval ix X.env)
   standAt ps'
   holding [v,ov,iv] (setItem ov iv v)
   release [v,ov,iv] []):=by intro _;rfl) (hs:swapsWithSole [.Subscript (.Name x px) ix ps'] v pos.line X.env=pure false:=by rfl) (hw:swappedStores [.Subscript (.Name x px) ix ps'] v X.env=pure none:=by rfl)
  (h1:(assignEach [.Subscript (.Name x px) ix ps'] X.env).map (·.2)=[assign (.Subscript (.Name x px) ix ps') X.env]:=by rfl):SV X T (.Assign [.Subscript (.Name x px) ix ps'] v pos) (Qkc i wv wi):=by
 obtain⟨tv,pv,gv⟩:=hv
 obtain⟨ti,pi,gi⟩:=hi
 refine⟨_,Qhr pv (Qht (Yc hN hvis hd hcd) pi (Qcx hu) ha) hs hw h1,λz R σ H W ρ P E s hw l=>?_⟩
 refine gv z R σ H W ρ _ _ s hw λv1 H1 W1 d ρ1 F1 p ⟨hso,q⟩=>?_
 obtain⟨ndF,oF⟩:=p.own rfl
 obtain⟨d0,hl0⟩:=Ma.mp hso
 obtain⟨fp0,s0⟩:=id p.sr
 obtain⟨u,hu',_⟩:=s0.at_ i d0 hl0
 refine⟨u,hu',gi z R σ H1 W1 ρ1 _ _ p.sr q λv2 H2 W2 c ρ2 F2 p2 q2=>?_⟩
 obtain⟨sm,rfl,rfl⟩:=p2.calm rfl
 obtain⟨d1,hl,q2⟩:=Qi q2
 obtain⟨fp,s2⟩:=id p2.sr
 obtain⟨u',hu2,ru⟩:=s2.at_ i d1 hl
 have:u'=u:=by rw[hu']at hu2;cases hu2;rfl
 subst this
 have rv2:=p.rep.same sm
 obtain⟨nd,sw⟩:=s2.own i d1 hl ht
 match d1,ru,q2,hl with
 | .dik ds,ru,q2,hl=>
 obtain⟨hz,hk,q2⟩:=q2
 obtain⟨k,hkey,hq⟩:=Qi q2
 have ek:=p2.rep.key hkey
 subst ek
 obtain ⟨a,kvs,G,rfl,e,r,hF⟩:∃(a:Addr)(kvs:List (Key×V)) (G:List Addr),u' = .ref a/\H2 a=some (.dK kvs)/\RepK X.K H2 ds kvs G/\fp i=a::G:=by
  generalize fp i=Fi at ru
  cases ru with
  | @dik a kv _ F e1 r=>exact⟨a,kv,F,rfl,e1,r,rfl⟩
 rw[hF]at nd sw
 obtain⟨na,ndG⟩:=Bd.mp nd
 have hWa:=sw a Ak
 have naF:a∉F1:=λh=>(oF a h).2 hWa
 have ndGF:(G++F1).Nodup:=Dm.mpr ⟨ndG,ndF,λb hb c hc e=>(oF c hc).2 (e ▸ sw b (Al _ hb))⟩
 obtain⟨G',rp,ndG',sub⟩:=RepK.putO (k:=k) (rv2.upd (ob':=.dK (putK kvs k v1)) e rfl naF) (r.upd (ob':=.dK (putK kvs k v1)) e rfl na) hk ndGF
 have naG':a∉G':=λh=>(sub a h).elim na naF
 refine⟨a,_,rfl,DPut.k (k:=k) e (by rw[r.length];exact hz),?_⟩
 refine l.nx R σ _ _ _ (s2.write hl ht hu2 (by rw[hF];exact Ak) Q8 ⟨_,Qf,rfl⟩ (.dik Qf rp) (Bd.mpr ⟨naG',ndG'⟩) λb hb=>?_) ((p.fr.trans p2.fr).write hWa (s2.wd a hWa) Q8 ⟨_,Qf,rfl⟩ λb hb=>?_) hq
 ·rcases Ar.mp hb with rfl|hb
  ·exact .inl (by rw[hF];exact Ak)
  ·rcases sub b hb with h|h
   ·exact .inl (by rw[hF];exact Al _ h)
   ·exact .inr ⟨(oF b h).2,s.nr (oF b h).1⟩
 ·rcases Ar.mp hb with rfl|hb
  ·exact .inl hWa
  ·rcases sub b hb with h|h
   ·exact .inl (sw b (Al _ h))
   ·exact .inr (oF b h).1
def Qre(d:D)(k:List D->Prop):Prop:=match d with
 | .lst xs=>k xs
 |_=>False
noncomputable def wDka(i:Nat)(wk wv:WE):WS:=λP ρ=>oget (look ρ i) λs=>Qp5 s λkvs=>(kvs.map (·.1)).Nodup/\wk ρ λkd _=>oget (Qgc kd) λk=>oget (valD kvs k) λl=>Qre l λxs=>
 xs.length<sizeLine/\wv ρ λd _=>d.pure=true/\P.nx (ρ.set i (some (.dik (putD kvs k (.lst (xs++[d]))))))
theorem Qqq(hu:X.A.units+1<cLine)(hk:EV X T false o1 ek wk)(hv:EV X T false o2 ev wv)(ht:T.own i=true:=by rfl)(hN:X.N[i]? = some x:=by rfl)
  (hvis:Vis X.env.scope x:=by first|exact Ds rfl|exact B9 (Ds rfl)|exact B9 (B9 rfl)) (hd:(x==("__debug__":Str))=false:=by decide) (hcd:(x==("__classdict__":Str))=false:=by decide) (hs1:Qbq ek:=by intro _ _;rfl)
  (b2:attributeBase (.Subscript (.Name x p) ek ps1) "append" X.env (eval (.Subscript (.Name x p) ek ps1) X.env)=eval (.Subscript (.Name x p) ek ps1) X.env:=by rfl)
  (f2:((backTo cp2 (starEach [ev] X.env)).all (λx=>!x.1)&&(backToKw cp2 (keywordEach [] X.env)).all (λx=>x.1.isSome)
   && decide (([ev]:List Expr).length+([]:List Keyword).length+(if ([]:List Keyword).isEmpty then 0 else 1)<30))=true:=by rfl)
  (l2:(ap2.endLine==cp2.line)=true:=by rfl) (s2:starEach [ev] X.env=(false,eval ev X.env)::starEach [] X.env:=by rfl) (q2:(backTo cp2 (starEach [] X.env)).any (·.1)=false:=by rfl)
  (hs:swapsWith (.Call (.Attribute (.Subscript (.Name x p) ek ps1) "append" ap2) [ev] [] cp2) none pos.line X.env=pure false:=by rfl) :
  SV X T (.Expr (.Call (.Attribute (.Subscript (.Name x p) ek ps1) "append" ap2) [ev] [] cp2) pos) (wDka i wk wv):=by
 obtain ⟨tk,pk,gk⟩:=hk;obtain⟨tv,pv,gv⟩:=hv;refine⟨_,Qaz (Qjc Mm M7 M8 Vq (Qo6 (Qgf hu) (Yc hN hvis hd hcd) pk hs1) (Z5 pv Xs s2) b2 f2 l2 s2 q2) hs,λz R σ H W ρ P E s hw l=>?_⟩;obtain⟨sd,hl0,hw⟩:=Qi hw;obtain⟨kvs,rfl⟩:∃kvs,sd=D.dik kvs:=by
  clear hl0;cases sd with
  |dik kvs=>exact⟨kvs,rfl⟩
  |_=>exact(show False from hw).elim
 obtain ⟨hnd,hw⟩:=hw;obtain⟨fp,s0⟩:=id s;obtain⟨v0,hv0,r0⟩:=s0.at_ i _ hl0;refine⟨v0,hv0,?_⟩;refine gk z R σ H W ρ _ _ s hw λvk H1 W1 kd ρ1 Fk p q=>?_;obtain⟨sm1,hW1,hρ1⟩:=p.calm rfl;subst hW1 hρ1;obtain⟨k,hkey,q⟩:=Qi q;have ek:=p.rep.key hkey;subst ek;obtain⟨ld,hval,q⟩:=Qi q;obtain⟨xs,rfl⟩:∃xs,ld=D.lst xs:=by
  clear hval;cases ld with
  |lst xs=>exact⟨xs,rfl⟩
  |_=>exact(show False from q).elim
 obtain⟨hxz,q⟩:=q;obtain⟨fpS,sS⟩:=id p.sr;obtain⟨vS,hvS,rS⟩:=sS.at_ i _ hl0;have:vS=v0:=by rw[hv0]at hvS;cases hvS;rfl
 subst this;obtain⟨ndS,swS⟩:=sS.own i _ hl0 ht;obtain⟨l0,ys0,aS,kvS,hvk,hl0',rfl,eS⟩:∃(l:Addr)(ys:List V)(a:Addr)(kvS:List (Key×V)),valV kvS k=some (.ref l)/\H1 l=some (.lst ys)/\vS=.ref a/\H1 a=some (.dK kvS):=by
  generalize fpS i=Fi at rS ndS;cases rS with
  | @dik a kv _ F e1 r=>
   obtain⟨na,nF⟩:=Bd.mp ndS;obtain⟨l,ys,h1,h2,_⟩:=r.app nF hnd hval;exact⟨l,ys,a,kv,h1,h2,rfl,e1⟩
 refine⟨aS,.ref l0,rfl,hvk ▸ DGet.k (k:=k) eS,.inl ⟨rfl,_,.of hl0'⟩,?_⟩;refine gv z R σ H1 W1 _ _ _ p.sr q λvd H2 W2 d ρ2 Fd pd ⟨hp,qn⟩=>?_;obtain⟨sm2,hW2,hρ2⟩:=pd.calm rfl;subst hW2 hρ2;obtain⟨_,rd⟩:=pd.rep.pure hp;obtain⟨fp2,s2⟩:=id pd.sr;obtain⟨v2,hv2,r2⟩:=s2.at_ i _ hl0;have:v2=.ref aS:=by rw[hvS]at hv2;cases hv2;rfl
 subst this;obtain⟨nd2,sw2⟩:=s2.own i _ hl0 ht;have fin2:∃(ys:List V)(F':List Addr),H2 l0=some (.lst ys)/\ys.length=xs.length/\l0∈fp2 i/\Rep X.K (upd H2 l0 (.lst (ys++[vd]))) (.dik (putD kvs k (.lst (xs++[d])))) (.ref aS) F'/\F'=fp2 i:=by
  generalize fp2 i=Fi at r2 nd2;cases r2 with
  | @dik a kv _ F e1 r=>
   obtain ⟨na,nF⟩:=Bd.mp nd2;obtain⟨l,ys,h1,h2,h3,h4,h5⟩:=r.app nF hnd hval;have hkv:kv=kvS:=by
    have:=sm2 _ _ eS;rw[e1]at this;cases this;rfl
   subst hkv;rw[hvk]at h1;cases h1;have hne:aS≠l0:=λz=>na (z ▸ h3);exact⟨ys,_,h2,h4,Al _ h3,.dik (by rw[Ql hne];exact e1) (h5 vd d rd),rfl⟩
 obtain⟨ys,F',h1,h2,h3,h4,rfl⟩:=fin2;refine⟨l0,ys,vd,rfl,rfl,h1,by rw[h2];exact hxz,?_⟩;have hWl:=sw2 l0 h3;have sF:=s2.write hl0 ht hv2 h3 Q8 ⟨_,Qf,rfl⟩ h4 nd2 (λa ha=>.inl ha);have fF:=(p.fr.trans pd.fr).write hWl (s2.wd l0 hWl) (H':=upd H2 l0 (.lst (ys++[vd]))) Q8 ⟨_,Qf,rfl⟩ (F':=fp2 i) (λa ha=>.inl (sw2 a ha));exact l.nx R σ _ _ _ sF fF qn
def Qkf:WS:=λ_ _=>False
theorem Qoi:SV X T st Qkf:=⟨λ_ _ _=>False,λpins s σ H D I h=>h.elim,λz R σ H W ρ P E s hw l=>hw.elim⟩
def dSum:GA
 | [.lst ds],k=>∃ns:List Int,ds=ns.map D.int/\k (.int ns.sum)
 |_,_=>False
def Qnn:GA
 | [.dik kvs],k=>∃ns:List Int,kvs.map (·.1)=ns.map Nh/\kvs.length<64/\∀out:List Int,out.Perm ns->out.Pairwise (· <= ·)->k (.lst (out.map D.int))
 |_,_=>False
theorem Qiu(hc:X.calm=true):Qfo X (.builtin "sorted") Qnn:=by
 refine⟨_,Qjw hc,λH ds xs F k Q r g q=>?_⟩;cases ds with
 |nil=>exact(show False from g).elim
 | cons d ds=>
  cases ds with
  |cons _ _=>cases d<;>exact(show False from g).elim
  | nil=>
   cases d with
   | dik es=>
    obtain⟨v,rfl,rd⟩:=r.at1;obtain⟨ns,hk,h64,g⟩:=g;cases rd with
    |dik e r9=>
    refine⟨_,_,ns,rfl,.of e,by rw[r9.keys];exact hk,by rw[r9.length];exact h64,λout D hp ho hD=>?_⟩;exact q _ _ _ [D] ⟨Qo hD,.lst Qf (Reps.ints out),by simp,λc m=>by rw[Ap.mp m];exact hD⟩ (g out hp ho)
   |_=>exact(show False from g).elim
def Qkj(wk wv:WE):WE:=λρ Q=>wk ρ λkd ρ1=>wv ρ1 λd ρ2=>d.pure=true/\oget (Qgc kd) λk=>Q (.dik [(k,d)]) ρ2
theorem Qp1(hk:EV X T false o1 ek wk)(hv:EV X T false o2 ev wv):EV X T false true (.Dict [some ek] [ev] pos) (Qkj wk wv):=by
 obtain ⟨tk,pk,gk⟩:=hk;obtain⟨tv,pv,gv⟩:=hv;refine⟨_,Qte (Qoy pk pv Qs6) rfl rfl (by simp) (by simp),λz R σ H W ρ Q Q' s hw k=>?_⟩;intro a ha;refine gk z R σ _ W ρ _ _ (s.same (Qo ha)) hw λv1 H1 W1 d1 ρ1 F1 p q1=>?_;refine gv z R σ H1 W1 ρ1 _ _ p.sr q1 λv2 H2 W2 d2 ρ2 F2 q q2=>?_;obtain⟨c1,rfl,rfl⟩:=p.calm rfl;obtain⟨b1,rfl,rfl⟩:=q.calm rfl;obtain⟨hp,q2⟩:=q2;obtain⟨kk,hkk,q2⟩:=Qi q2;have e1:=p.rep.key hkk;subst e1;obtain⟨-,r2⟩:=q.rep.pure hp;have ha2:H2 a=some (.dK []):=b1 a _ (c1 a _ Qf);refine⟨ha2,[(kk,v2)],rfl,by simp,?_⟩;have sm:Same H (upd H2 a (.dK (Qa8 [] [(kk,v2)]))):=λb u eb=>by
  have hne:b≠a:=Qw eb ha;rw[Ql hne];exact b1 b u (c1 b u (by rw[Ql hne];exact eb))
 have em:Qa8 [] [(kk,v2)]=[(kk,v2)]:=rfl;rw[em]at sm ⊢;refine k _ _ _ (.dik [(kk,d2)]) _ [a] (Post.fin s (FrW.refl H _) (λ_=>⟨Same.refl H,rfl,rfl⟩) sm (.dik Qf ?_) (by simp) (λc m=>by rw[Ap.mp m];exact ha)) q2;have:=RepK.cons (k:=kk) (r2.upd (ob':=.dK [(kk,v2)]) ha2 rfl (by simp)) (RepK.nil (K:=X.K) (H:=L2.upd H2 a (.dK [(kk,v2)])));simpa using this
def TB(q:Nat):Tg:={ own:=λi=>i==q,io:=[q] }
end PV
variable {j:Int}{kk:PV.D->PV.D->Prop}
namespace PV
open PySem PySem.Spec L2 PyProof.Rows
theorem sz0:(0<=sizeLine)=True:=propext ⟨λ_=>trivial,λ_=>by decide⟩
theorem sz1:(1<=sizeLine)=True:=propext ⟨λ_=>trivial,λ_=>by decide⟩
theorem sz2:(2<=sizeLine)=True:=propext ⟨λ_=>trivial,λ_=>by decide⟩
theorem sz3:(3<=sizeLine)=True:=propext ⟨λ_=>trivial,λ_=>by decide⟩
end PV
namespace L2
open PySem PySem.Spec PyProof.Rows
def tFrz(te:TE):TE:=λσ H Q=>te σ H λv H1=>∃a xs,v=.ref a/\H1 a=some (.lst xs)/\∀o,Q v (upd H1 a (.frz o (.lst xs)))
theorem Qvv(he:PE X e te):PE X e (tFrz te):=by
 intro pins s σ H Q I h;refine thn (he pins s σ H _ I h) λv s1 ⟨x,H1,I1,r1,q⟩=>?_;obtain⟨a,xs,rfl,ha,q⟩:=q;obtain⟨z,its,n,rv,hob⟩:=(show Yj X.prog X.w H1 s1.heap a (.lst xs)from I1.hok a _ ha)
 exact⟨.ref a,_,I1.write (x:=a) (e:=a) (o:=.frz _ (.lst xs)) (t':=s1.toks) (by rw[ha];trivial) (.inl rfl) (λb u _ q=>q) ⟨_,hob⟩ (show Yj X.prog X.w _ s1.heap a (.frz _ (.lst xs)) from⟨hob,z,its,n,rv,hob⟩),r1,q _⟩
end L2
namespace PV
open PySem PySem.Spec L2 PyProof.Rows
def Qw9(d:D)(k:D->Prop):Prop:=match d with
 | .lst xs=>Qm xs=true/\k (.fls xs)
 |_=>False
def wFrz(w:WE):WE:=λρ Q=>w ρ λd ρ'=>Qw9 d λd'=>Q d' ρ'
theorem Qxh(h:EV X T m true e w):EV X T m true e (wFrz w):=by
 obtain⟨te,pe,ge⟩:=h;refine⟨_,Qvv pe,λz R σ H W ρ Q Q' s hw k=>?_⟩;refine ge z R σ H W ρ _ _ s hw λv H1 W1 d ρ1 F p q=>?_;cases d with
 | lst xs=>
  obtain⟨hp,q⟩:=q;obtain⟨sr,fr,calm,rep,own⟩:=p;obtain⟨nd,own⟩:=own rfl;cases rep with
  | @lst a ys _ G e1 r=>
   obtain⟨hG,r⟩:=r.pure hp;subst hG;obtain⟨ha,hW⟩:=own a Ak;have hR:¬R a:=s.nr ha;refine⟨a,ys,rfl,e1,λob=>?_⟩;have im:ImmK H1 (upd H1 a (.frz ob (.lst ys))):=Vr e1 rfl;have ne:∀{b:Addr}{u:HO},H b=some u->b≠a:=λ{b u} hb z=>by rw[z,ha]at hb;cases hb
   have sr':SR X.K T z R (upd H1 a (.frz ob (.lst ys))) W1 σ ρ1:=by
    obtain ⟨fp,s0⟩:=sr;have off:∀i d,look ρ1 i=some d->∀b∈fp i,b≠a:=λi d hl b hb hz=>by
     subst hz;cases ht:T.own i with
     |true=>exact hW ((s0.own i d hl ht).2 b hb)
     |false=>exact hR (s0.ro i d hl ht b hb)
    refine⟨fp,s0.len,λb hb=>?_,λi d hl=>?_,s0.own,s0.ro,s0.wr,λb hb=>?_,s0.dis,s0.fix⟩
    ·obtain⟨u,h1,h2⟩:=s0.wd b hb;exact⟨u,by rw[Ql (show b≠a fromλhz=>hW (by rw[← hz];exact hb))];exact h1,h2⟩
    ·obtain⟨v,h1,h2⟩:=s0.at_ i d hl;exact⟨v,h1,h2.frame im λb hb=>Ql (off i d hl b hb)⟩
    ·obtain⟨u,h1,h2⟩:=s0.rd b hb;exact⟨u,by rw[Ql (show b≠a fromλhz=>hR (by rw[← hz];exact hb))];exact h1,h2⟩
   have fr':FrW H W (upd H1 a (.frz ob (.lst ys))) W1:=by
    refine⟨λb u hb hn=>?_,λb hb=>?_,λb u hb hi=>?_,fr.new⟩
    ·rw[Ql (ne hb)];exact fr.keep b u hb hn
    ·by_cases hz:b=a
     ·rw[hz];exact ha
     ·rw[Ql hz]at hb;exact fr.dom b hb
    ·rw[Ql (ne hb)];exact fr.imm b u hb hi
   refine k _ _ W1 (.fls xs) ρ1 [] ⟨sr',fr',λhm=>?_,.fls Qf (r.frame im λb hb=>nomatch hb),λ_=>⟨D8,λb hb=>nomatch hb⟩⟩ q;obtain⟨c1,c2,c3⟩:=calm hm;exact⟨λb u hb=>by rw[Ql (ne hb)];exact c1 b u hb,c2,c3⟩
 |_=>exact(show False from q).elim
end PV
variable {b c:Bool}{P:PV.EndsP}{Q:List PV.D->PV.Env->Prop}{k:List PV.D->Prop}{r:Dj}{ys:List PV.D}
namespace PV
open PySem PySem.Spec L2
theorem Reps.back0{K:Frag}{xs:List V}(r:Reps K H ds xs F):F=[]->Reps K H ds.reverse xs.reverse []:=by
 induction r using Reps.rec (motive_1:=λ_ _ _ _=>True) (motive_3:=λ_ _ _ _=>True) (motive_4:=λ_ _ _ _=>True) with
 |nil=>exactλ_=>.nil
 | cons h r ih1 ih2=>
  intro e;obtain⟨rfl,rfl⟩:=List.append_eq_nil_iff.mp e;rw[Td,Td];exact Reps.append (F:=[]) (G:=[]) (ih2 rfl) (Reps.one h)
 |_=>trivial
theorem Reps.back{K:Frag}{xs:List V}(r:Reps K H ds xs []):Reps K H ds.reverse xs.reverse []:=r.back0 rfl
theorem Gv{α:Type}(xs:List α)(j:Nat):L2.atI xs (j:Int)=xs[j]?:=by
 unfold L2.atI ixN;rw[if_pos (by lia)];by_cases h:j<xs.length
 ·rw[if_pos (by lia)];simp
 ·rw[if_neg (by lia)];simp;lia
theorem Gw{α:Type}(xs:List α):L2.atI xs 0=xs[0]?:=Gv xs 0
theorem Vf{α:Type}(xs:List α):L2.atI xs 1=xs[1]?:=Gv xs 1
theorem Qgw{α:Type}(xs:List α):L2.atI xs 2=xs[2]?:=Gv xs 2
theorem Qxw{α:Type}(xs:List α):L2.atI xs 3=xs[3]?:=Gv xs 3
theorem Gh{j:Nat}(h:j<n):ixN n (j:Int)=some j:=by
 unfold ixN;rw[if_pos (by lia),if_pos (by lia)];simp
theorem Qjl(h:1<n):ixN n 1=some 1:=Gh h
theorem Qy0(h:2<n):ixN n 2=some 2:=Gh h
theorem Qw2(h:3<n):ixN n 3=some 3:=Gh h
theorem Qk{α:Type}{d:α}{k:α->Prop}:oget (some d) k=k d:=rfl
theorem Qz{Q:D->Env->Prop}:wVar i ρ Q=oget (look ρ i) λd=>Q d ρ:=by
 unfold wVar oget;cases look ρ i<;>rfl
section
variable {i:Int}{k:D->Prop}{kts:List (List Key×D)}
theorem Qyj:dAdd (.int i) (.int j) k=k (.int (i+j)):=rfl
theorem Qfw:dSub (.int i) (.int j) k=k (.int (i-j)):=rfl
theorem Qu8:dMul (.int i) (.int j) k=(CMul i j/\k (.int (i*j))):=rfl
theorem Qyi:dDiv (.int i) (.int j) k=((0<j/\j<1073741824/\k (.int (i/j)))\/(j<0/\j.natAbs<1073741824/\k (.int (i.fdiv j)))):=rfl
theorem Qye:dMod (.int i) (.int j) k=((0<j/\k (.int (i%j)))\/(j<0/\k (.int (i.fmod j)))):=rfl
theorem Qoo:dEq (.int i) (.int j) k=k (.bl (decide (i=j))):=rfl
theorem Qu6:dNe (.int i) (.int j) k=k (.bl (!decide (i=j))):=rfl
theorem Qyd:dNe (.tup xs) d k=(eqOk 9 (.tup xs)=true/\eqOk 9 d=true/\(.tup xs=d->k (.bl false))/\(.tup xs≠d->k (.bl true))):=by cases d<;>rfl
theorem Qvf{f:Int->Int->Bool}:dCmp f (.int i) (.int j) k=k (.bl (f i j)):=rfl
theorem X0:dIx (.lst xs) (.int i) k=oget (L2.atI xs i) k:=rfl
theorem Up:dIx (.tup xs) (.int i) k=oget (L2.atI xs i) k:=rfl
theorem Qvb:dIx (.kls xs) (.int i) k=oget (L2.atI xs i) k:=rfl
theorem Qvd:dIx (.dik kvs) (.int i) k=oget (valD kvs (.inl i)) k:=rfl
theorem Qvc:dIx (.dit kts) (.tup xs) k=oget (Zb xs) λks=>oget (valD kts ks) k:=rfl
theorem Qep:dLen [.lst xs] k=k (.int xs.length):=rfl
theorem Qhm:dLen [.tup xs] k=k (.int xs.length):=rfl
theorem Qu9:dLen [.kls xs] k=k (.int xs.length):=rfl
theorem Qk9:dLen [.dik kvs] k=k (.int kvs.length):=rfl
theorem Qve:dInt [.bl b] k=k (.int (if b then 1 else 0)):=rfl
theorem Qen:Gq [.lst xs] k=(Qm xs=true/\k (.tup xs)):=rfl
theorem Qb7:dSet (.lst xs) (.int i) d k=oget (ixN xs.length i) λn=>k (.lst (xs.set n d)):=rfl
theorem Qk8:dSet (.dik kvs) (.int i) d k=(kvs.length<sizeLine/\k (.dik (putD kvs (.inl i) d))):=rfl
theorem Qss:dSet (.dit kts) (.tup xs) d k=(kts.length<sizeLine/\oget (Zb xs) λks=>k (.dit (putD kts ks d))):=rfl
theorem Qqz{n:Bool}:dIn n (.int i) (.dik kvs) k=k (.bl (xor n (valD kvs (.inl i)).isSome)):=rfl
end
theorem Qvg:Qdp (.lst xs) [d] kk=(xs.length<sizeLine/\kk .non (.lst (xs++[d]))):=rfl
theorem Qyc:gPop (.lst xs) [] kk=oget xs[xs.length-1]? λd=>d.pure=true/\kk d (.lst xs.dropLast):=rfl
section
variable {i:Int}{k:D->Prop}
theorem Qeq(h:0<j)(h2:j<1073741824):dDiv (.int i) (.int j) k=k (.int (i/j)):=by
 rw[Qyi];apply propext;exact⟨λq=>q.elim (λz=>z.2.2) (λz=>absurd z.1 (by lia)),λq=>.inl ⟨h,h2,q⟩⟩
theorem Uk(h:0<j):dMod (.int i) (.int j) k=k (.int (i%j)):=by
 rw[Qye];apply propext;exact⟨λq=>q.elim (λz=>z.2) (λz=>absurd z.1 (by lia)),λq=>.inl ⟨h,q⟩⟩
theorem Qhl(h:-18446744073709551616<i)(h2:i<18446744073709551616):dMul (.int i) (.int j) k=k (.int (i*j)):=by
 rw[Qu8];exact propext ⟨λq=>q.2,λq=>⟨.inl ⟨by lia,by lia⟩,q⟩⟩
theorem Qu7(h:-18446744073709551616<j)(h2:j<18446744073709551616):dMul (.int i) (.int j) k=k (.int (i*j)):=by
 rw[Qu8];exact propext ⟨λq=>q.2,λq=>⟨.inr ⟨by lia,by lia⟩,q⟩⟩
end
def blOf(d:D)(k:Bool->Prop):Prop:=match d with
 | .bl b=>k b
 |_=>False
theorem r_bl{Q:Bool->Env->Prop}:wBl w ρ Q=w ρ λd ρ'=>blOf d λb=>Q b ρ':=by
 show(w ρ λd ρ'=>match d with | .bl b=>Q b ρ'|_=>False)=_;rfl
theorem Zu{k:Bool->Prop}:blOf (.bl b) k=k b:=rfl
def Qog(d:D)(k:Bool->Prop):Prop:=oget (truD d) k
theorem Qsr{Q:Bool->Env->Prop}:wTru w ρ Q=w ρ λd ρ'=>Qog d λb=>Q b ρ':=by
 unfold wTru;congr 1;funext d ρ';unfold Qog oget;cases truD d<;>rfl
theorem Qu4{k:Bool->Prop}:Qog (.lst xs) k=k (!xs.isEmpty):=rfl
theorem Qqy{k:Bool->Prop}:Qog (.tup xs) k=k (!xs.isEmpty):=rfl
def Qsn(d:D)(k:List D->Prop):Prop:=match d with
 | .tup ds=>Qm ds=true/\k ds
 | .lst ds=>k ds
 | .kc (.tup ks)=>k (ks.map kcD)
 |_=>False
theorem Qeo:Qal w ρ Q=w ρ λd ρ'=>Qsn d λds=>Q ds ρ':=by
 show(w ρ λd ρ'=>match d with | .tup ds=>Qm ds=true/\Q ds ρ' | .lst ds=>Q ds ρ' | .kc (.tup ks)=>Q (ks.map kcD) ρ'|_=>False)=_;rfl
theorem Qhj:Qsn (.tup xs) k=(Qm xs=true/\k xs):=rfl
theorem Qhk:Qsn (.lst xs) k=k xs:=rfl
def Qwu(d:D)(k:List D->Prop):Prop:=match d with
 | .kls ds=>k ds
 |_=>False
theorem Qyf:Qr2 w ρ Q=w ρ λd ρ'=>Qwu d λds=>Q ds ρ':=by
 show(w ρ λd ρ'=>match d with | .kls ds=>Q ds ρ'|_=>False)=_;rfl
theorem Qva:Qwu (.kls xs) k=k xs:=rfl
def Qkl(d:D)(k:List D->Prop):Prop:=match d with
 | .dik kvs=>k (kvs.map (·.2))
 |_=>False
theorem Qqx:Qoc w ρ Q=w ρ λd ρ'=>Qkl d λds=>Q ds ρ':=by
 show(w ρ λd ρ'=>match d with | .dik kvs=>Q (kvs.map (·.2)) ρ'|_=>False)=_;rfl
theorem Qk7:Qkl (.dik kvs) k=k (kvs.map (·.2)):=rfl
def Qw4(d:D)(k:Option Int->Prop):Prop:=match d with
 | .int i=>k (some i)
 |_=>False
theorem Qax{Q:Option Int->Env->Prop}:Zo w ρ Q=w ρ λd ρ'=>Qw4 d λi=>Q i ρ':=by
 show(w ρ λd ρ'=>match d with | .int i=>Q (some i) ρ'|_=>False)=_;rfl
theorem Uq{i:Int}{k:Option Int->Prop}:Qw4 (.int i) k=k (some i):=rfl
def Qqu(ds:List D)(k:List D->Prop):Prop:=match ds with
 | [.int j]=>-(2 ^ 62)<=j/\j<2 ^ 62/\k (rngD 0 j.toNat)
 |_=>False
theorem Qu5:Qr3 wr ρ Q=wr ρ λds ρ'=>Qqu ds λl=>Q l ρ':=by
 show(wr ρ λds ρ'=>match ds with | [.int j]=>-(2 ^ 62)<=j/\j<2 ^ 62/\Q (rngD 0 j.toNat) ρ'|_=>False)=_;rfl
theorem Qst:Qqu [.int j] k=(-(2 ^ 62)<=j/\j<2 ^ 62/\k (rngD 0 j.toNat)):=rfl
def Qrn(ds:List D)(k:List D->Prop):Prop:=match ds with
 | [.tup es]=>Qm es=true/\k (Vk 0 es)
 |_=>False
theorem Qla:Qki wr ρ Q=wr ρ λds ρ'=>Qrn ds λl=>Q l ρ':=by
 show(wr ρ λds ρ'=>match ds with | [.tup es]=>Qm es=true/\Q (Vk 0 es) ρ'|_=>False)=_;rfl
theorem Qfx:Qrn [.tup xs] k=(Qm xs=true/\k (Vk 0 xs)):=rfl
theorem Qhn{Q:Env->Prop}:Qjn n wgs (.tup xs) ρ Q=(xs.length=n/\wgs xs ρ Q):=rfl
theorem Qc0{r:List D}{Q:Env->Prop}:Ul wg wgs (d::r) ρ Q=wg d ρ λρ'=>wgs r ρ' Q:=rfl
theorem Qho{Q:Env->Prop}:Qjo [] ρ Q=Q ρ:=rfl
theorem Qsq:tyD (some (.lst xs)) t=(t == "list"):=rfl
theorem Qyh{xs:List (Key×D)}:X2 (.dik xs)=xs.all λkv=>kv.2.pure:=rfl
theorem Qyg{xs:List (List Key×D)}:X2 (.dit xs)=xs.all λkv=>kv.2.pure:=rfl
theorem Qh{α:Type}{f:α->D}{l:List α}(h:∀a∈l,(f a).pure=true):Qm (l.map f)=true:=by
 rw[Q5];intro x hx;obtain⟨a,ha,rfl⟩:=Aq.mp hx;exact h a ha
def Qxn(ds:List D)(wt:WT)(we:WE)(ρ1:Env)(ix:List Nat)(Q:D->Env->Prop):Prop:=∃I:Nat->List D->Prop,I 0 [] /\
 (∀i d ys,ds[i]? = some d->I i ys->ys.length<sizeLine/\wt (blkE ρ1 d ix) λb _=>if b=true then we (blkE ρ1 d ix) (λy _=>I (i+1) (ys++[y]))else I (i+1) ys) /\
 ∀ys,I ds.length ys->ys.length<=sizeLine/\Q (.lst ys) ρ1
theorem Qay{ix:List Nat}{Q:D->Env->Prop}:Qcu wl wt we ix ρ Q=wl ρ λds ρ1=>Qxn ds wt we ρ1 ix Q:=rfl
theorem Yw{ix:List Nat}{Q:D->Env->Prop}(f:D->D)(hz:ds.length<sizeLine)(he:∀d∈ds,∀Q':D->Env->Prop,Q' (f d) (blkE ρ1 d ix)->we (blkE ρ1 d ix) Q')(hQ:Q (.lst (ds.map f)) ρ1):Qxn ds wAll we ρ1 ix Q:=by
 refine⟨λi ys=>ys=(ds.take i).map f/\i<=ds.length,⟨by simp,Dx _⟩,λi d ys hd ⟨hy,hi⟩=>?_,λys ⟨hy,_⟩=>?_⟩
 ·have hlt:=(Be.mp hd).1;refine⟨by rw[hy];simp;lia,?_⟩;simp only[wAll,reduceIte];refine he d (Du hd) _ ⟨?_,hlt⟩;rw[hy,Mu,hd];simp
 ·rw[hy,Kr];exact⟨by simp;lia,hQ⟩
def forI(ds:List D)(wg:WG)(wb:WS)(P:EndsP)(ρ1:Env):Prop:=∃I:Nat->Env->Prop,I 0 ρ1 /\
 (∀i d ρ,ds[i]? = some d->I i ρ->wg d ρ λρ'=>wb { P with nx:=I (i+1),ct:=I (i+1),bk:=P.nx } ρ')/\∀ρ,I ds.length ρ->P.nx ρ
theorem Qbs{wb:WS}:wFor wl wg wb P ρ=wl ρ λds ρ1=>Qm ds=true/\forI ds wg wb P ρ1:=rfl
def forR(ds:List D)(i₀:Nat)(wb:WS)(P:EndsP)(ρ1:Env):Prop:=∃I:Nat->Env->Prop,I 0 ρ1 /\
 (∀i d ρ,ds[i]? = some d->I i ρ->wb { P with nx:=I (i+1),ct:=I (i+1),bk:=P.nx } (ρ.set i₀ (some d)))/\∀ρ,I ds.length ρ->P.nx ρ
theorem Qq0{wb:WS}:Qod wl i₀ wb P ρ=wl ρ λds ρ1=>forR ds i₀ wb P ρ1:=rfl
end PV
namespace PV
open PySem PySem.Spec L2
open PyProof.Rows (envOfC)
abbrev atN(K:Frag)(x:Str)(C:Addr):Prop:=nsIn K mainGlobals x=some (some (.ref C))
end PV
variable {a:Int}{b j m:Nat}{P:List (Int×List Nat)}{s:Nat->PV.D}
namespace PV
open PySem PySem.Spec L2
section
variable {i j:Int}{k:D->Prop}
theorem Xr:Jm (.int i) (.int j) k=k (.int (i+j)):=rfl
theorem Qld:Jm (.tup xs) (.tup ys) k=(Qm xs=true/\Qm ys=true/\xs.length+ys.length<=sizeLine/\k (.tup (xs++ys))):=rfl
theorem Xa:Jm (.lst xs) (.lst ys) k=(Qm xs=true/\Qm ys=true/\xs.length+ys.length<=sizeLine/\k (.lst (xs++ys))):=rfl
theorem Qvi:dSlT (.lst xs) lo hi k=(Qm xs=true/\k (.lst (cutD xs lo hi))):=rfl
theorem Qer:dSlT (.kls xs) lo hi k=(Qm xs=true/\k (.lst (cutD xs lo hi))):=rfl
theorem Qq1:dSlT (.tup xs) lo hi k=(Qm xs=true/\k (.tup (cutD xs lo hi))):=rfl
theorem Qlc{k:List (Key×D)->Prop}:Qp5 (.dik kvs) k=k kvs:=rfl
theorem Qq2{k:List D->Prop}:Qre (.lst xs) k=k xs:=rfl
theorem Qc1:Qgc (.int i)=some (.inl i):=rfl
end
def Qmj(d:D)(k:List D->Prop):Prop:=Qp5 d λkvs=>k (Qbw kvs)
theorem Qsv:Qr4 w ρ Q=w ρ λd ρ'=>Qmj d λds=>Q ds ρ':=by
 show(w ρ λd ρ'=>match d with | .dik kvs=>Q (Qbw kvs) ρ'|_=>False)=_
 first|rfl|(congr 1;funext d ρ';cases d<;>rfl)
theorem Qop:Qmj (.dik kvs) k=k (Qbw kvs):=rfl
theorem Qaw{lo:Int}:(rngD lo n).length=n:=by simp[rngD]
theorem Qom{lo:Int}(h:(rngD lo n)[i]? = some d):i<n/\d=.int (lo+(i:Int)):=by
 have hi:i<n:=by have:=(Be.mp h).1;rwa [Qaw]at this
 simp only[rngD,Au,B2 hi,Rj,N1]at h;exact⟨hi,h.symm⟩
theorem Qlh{lo:Int}:Qm (rngD lo n)=true:=Qh λ_ _=>rfl
theorem Ji:Qm (ns.map D.int)=true:=Qh λ_ _=>rfl
theorem Gu{a:Nat}(h:a<=ds.length):cutD ds (some (a:Int)) none=ds.drop a:=by
 unfold cutD;rw[HT.Qk3,HT.Qhi,R5 h,Dc (by simp)]
theorem Gs:cutD ds none (some (b:Int))=ds.take b:=by
 unfold cutD;rw[HT.Qk3,HT.Qhi,List.drop_zero,Nat.sub_zero];by_cases h:b<=ds.length
 ·rw[R5 h]
 ·rw[Sj (by lia),Dc (by lia),Dc (by lia)]
def webD(m e:Nat)(A:Nat->Int)(r:Int):D:=.tup [.tup ((Ai m).map λk=>.tup ((Ai 4).map λj=>.int (A (4*k+j)))),.tup ((Ai e).map λj=>.int (A (4*m+j))),.int r]
theorem len1{α:Type}:∀{us:List α},us.length=1->∃a,us=[a]
 | [a],_=>⟨a,rfl⟩
theorem len2{α:Type}{us:List α}(h:us.length=2):∃a b,us=[a,b]:=by
 cases us with
 |nil=>cases h
 |cons a us=>obtain⟨b,rfl⟩:=len1 (Od h);exact⟨a,b,rfl⟩
theorem len3{α:Type}{us:List α}(h:us.length=3):∃a b c,us=[a,b,c]:=by
 cases us with
 |nil=>cases h
 |cons a us=>obtain⟨b,c,rfl⟩:=len2 (Od h);exact⟨a,b,c,rfl⟩
def spD(m i:Nat):D:=.tup [.int (M.sp m i).1,.int (M.sp m i).2]
def ksP(m i:Nat):List Key:=[.inl (M.sp m i).1,.inl (M.sp m i).2]
theorem Qdk(h:ksP m i=ksP m j):i=j:=by
 unfold ksP at h;injection h with h1 h2;injection h2 with h2 _;injection h1 with h1;injection h2 with h2;exact M.Qqr (Prod.ext h1 h2)
theorem Qsf(h:spD m i=spD m j):i=j:=by
 unfold spD at h;injection h with h;injection h with h1 h2;injection h2 with h2 _;injection h1 with h1;injection h2 with h2;exact M.Qqr (Prod.ext h1 h2)
theorem Qmi:Zb [D.int (M.sp m i).1,D.int (M.sp m i).2]=some (ksP m i):=rfl
def encP(s:Nat->D)(P:List (Int×List Nat)):List (Key×D):=P.map λe=>((.inl e.1:Key),D.lst (e.2.map s))
theorem Qne(nd:(P.map (·.1)).Nodup):((encP s P).map (·.1)).Nodup:=by
 unfold encP;rw[By];have:(P.map ((λ(x:Key×D)=>x.1) ∘ λe=>((.inl e.1:Key),D.lst (e.2.map s))))=(P.map (·.1)).map (λa=>(.inl a:Key)):=by rw[By];rfl
 rw[this,I8,Dl];exact On (λh z=>h (by injection z)) (I8.mp nd)
theorem Qin{s:Nat->D}{a:Int}:∀{P:List (Int×List Nat)},valD (encP s P) (.inl a)=(P.find? λe=>decide (e.1=a)).map λe=>D.lst (e.2.map s)
 | []=>rfl
 | e::P=>by
  show valD (((.inl e.1:Key),D.lst (e.2.map s))::encP s P) (.inl a)=_;rw[Ja];by_cases h:e.1=a
  ·rw[if_pos (by rw[h]),K7 (by simp[h])];rfl
  ·rw[if_neg (λz=>h (by injection z)),Qin,K8 (by simp[h])]
theorem Qic{α β:Type}{f:α->β}:∀{l:List α}{a b:α},(l.map f).Nodup->a∈l->b∈l->f a=f b->a=b
 | [],_,_,_,h,_,_=>by cases h
 | x::l,a,b,nd,ha,hb,e=>by
  obtain⟨n1,n2⟩:=Bd.mp (show(f x::l.map f).Nodup from nd);rcases Ar.mp ha with za|ha
  ·rcases Ar.mp hb with zb|hb
   ·rw[za,zb]
   ·exact absurd (by rw[← za,e];exact Aq.mpr ⟨b,hb,rfl⟩) n1
  ·rcases Ar.mp hb with zb|hb
   ·exact absurd (by rw[← zb,← e];exact Aq.mpr ⟨a,ha,rfl⟩) n1
   ·exact Qic n2 ha hb e
theorem Qso(nd:(P.map (·.1)).Nodup):∃l:List Nat,(l=[]\/∃e∈P,l=e.2)/\valD (Zq (encP s P) (.inl a)) (.inl a)=some (.lst (l.map s)) /\
  putD (Zq (encP s P) (.inl a)) (.inl a) (.lst (l.map s++[s i]))=encP s (M.addP P a i):=by
 have hv:=Qin (s:=s) (a:=a) (P:=P)
 cases hf:P.find? λe=>decide (e.1=a) with
 | none=>
  rw[hf]at hv;have hv:valD (encP s P) (.inl a)=none:=hv;have e1:Zq (encP s P) (.inl a)=encP s P++[((.inl a:Key),.lst [])]:=by unfold Zq;rw[hv];rfl
  have hany:¬(P.any λe=>decide (e.1=a))=true:=λz=>by
   obtain⟨e,he,h⟩:=Ra.mp z;exact List.find?_eq_none.mp hf e he h
  refine⟨[],.inl rfl,?_,?_⟩
  ·rw[e1,Qam,hv];simp
  ·have hadd:M.addP P a i=P++[(a,[i])]:=by unfold M.addP;rw[if_neg hany]
   have hno:∀kv∈encP s P,kv.1≠(.inl a:Key):=λkv hkv z=>by
    obtain⟨e,he,rfl⟩:=Aq.mp hkv;exact hany (Ra.mpr ⟨e,he,by simpa using z⟩)
   rw [hadd,e1];unfold putD;rw[if_pos (by simp),Mi];have:(encP s P).map (λkv=>if kv.1=(.inl a:Key)then (kv.1,D.lst (([]:List Nat).map s++[s i]))else kv)=encP s P:=by
    conv=>rhs;rw[← Ik (encP s P)]
    apply B8;intro kv hkv;rw[if_neg (hno kv hkv)];rfl
   rw[this];simp[encP]
 | some e=>
  rw[hf]at hv;have hv:valD (encP s P) (.inl a)=some (.lst (e.2.map s)):=hv;have he:=List.mem_of_find?_eq_some hf;have hk:e.1=a:=by have:=List.find?_some hf;simpa using this
  have e1:Zq (encP s P) (.inl a)=encP s P:=by unfold Zq;rw[hv];rfl
  have hany:(P.any λe=>decide (e.1=a))=true:=Ra.mpr ⟨e,he,by simpa using hk⟩;refine⟨e.2,.inr ⟨e,he,rfl⟩,by rw[e1];exact hv,?_⟩;have hadd:M.addP P a i=P.map (λx=>if x.1=a then (x.1,x.2++[i])else x):=by unfold M.addP;rw[if_pos hany]
  rw[e1,hadd];unfold putD;rw[if_pos (by rw[Zn,hv];rfl)];unfold encP;rw[By,By];apply B8;intro x hx;show(if (.inl x.1:Key)=.inl a then ((.inl x.1:Key),D.lst (e.2.map s++[s i]))else ((.inl x.1:Key),D.lst (x.2.map s)))=((.inl (if x.1=a then (x.1,x.2++[i])else x).1:Key),D.lst ((if x.1=a then (x.1,x.2++[i])else x).2.map s))
  by_cases q:x.1=a
  ·have:x=e:=Qic nd hx he (q.trans hk.symm);subst this;rw[if_pos (by rw[q]),if_pos q];simp
  ·rw[if_neg (λz=>q (by injection z)),if_neg q]
theorem Qa0(A:Nat->Int):∀t,(M.plc A t).length<=t
 |0=>At _
 | t+1=>by
  rw[M.X7];have:=Qa0 A t;unfold M.addP
  split<;>simp<;>lia
theorem Qoz(A:Nat->Int)(t:Nat):∀e∈M.plc A t,e.2.length<=t:=λe he=>by
 obtain⟨_,h2,_⟩:=M.Qb9 A t;rw[(h2 e he).1];have:=Nw (λi=>decide (A i=e.1)) (Ai t);simpa using this
theorem Vp:∀{ds:List D}{n:Nat},Qm ds=true->Qm (Vk n ds)=true
 | [],_,_=>rfl
 | d::r,n,h=>by
  simp only[Qm,B4]at h;simp only[Vk,Qm,D.pure,B4];exact⟨⟨trivial,h.1,trivial⟩,Vp h.2⟩
theorem Qs1:(spD m i).pure=true:=rfl
theorem Qhq{l:List Nat}:Qm (l.map (spD m))=true:=Qh λ_ _=>rfl
end PV
variable {A:Nat->Int}{t:Nat}
namespace M
open PySem PySem.Spec L2 PV
def ix(a:Int):List Int->Nat
 | []=>0
 |x::l=>if x=a then 0 else ix a l+1
theorem Qrh{a b:Int}:∀{l:List Int},a∈l->b∈l->ix a l=ix b l->a=b
 | [],h,_,_=>by cases h
 | x::l,ha,hb,e=>by
  unfold ix at e
  split at e
  ·rename_i h1
   split at e
   ·rename_i h2;rw[← h1,← h2]
   ·lia
  ·rename_i h1
   split at e
   ·lia
   ·rename_i h2;rcases Ar.mp ha with z|ha
    ·exact absurd z.symm h1
    ·rcases Ar.mp hb with z|hb
     ·exact absurd z.symm h2
     ·exact Qrh ha hb (by lia)
def keys(A:Nat->Int)(t:Nat):List Int:=(plc A t).map (·.1)
theorem Qtz(A:Nat->Int)(t:Nat):(keys A t).Nodup:=(Qb9 A t).1
theorem Qdl(h:i<t):A i∈keys A t:=by
 obtain⟨e,he,hk⟩:=(Qb9 A t).2.2 i h;exact Aq.mpr ⟨e,he,hk⟩
theorem Qpq(A:Nat->Int)(t:Nat):(keys A t).length<=t:=by unfold keys;rw[Ao];exact Qa0 A t
theorem Qqj(nd:(P.map (·.1)).Nodup):((addP P a i).map λe=>e.2.length).sum=(P.map λe=>e.2.length).sum+1:=by
 unfold addP;split
 ·rename_i h
  induction P with
  |nil=>simp at h
  | cons p P ih=>
   obtain⟨n1,n2⟩:=Bd.mp (show(p.1::P.map (·.1)).Nodup from nd);by_cases e:p.1=a
   ·have hno:P.map (λe=>if e.1=a then (e.1,e.2++[i])else e)=P:=by
     conv=>rhs;rw[← Ik P]
     apply B8;intro x hx;rw[if_neg λz=>n1 (by rw[e,← z];exact Aq.mpr ⟨x,hx,rfl⟩)];rfl
    rw[Bc,hno,if_pos e];simp;lia
   ·have h':(P.any λe=>decide (e.1=a))=true:=by
     rw[Ft,decide_eq_false e,Iv]at h;exact h
    have:=ih n2 h';rw[Bc,if_neg e];simp only[Bc,List.sum_cons]at this ⊢;lia
 ·simp
theorem Qll(A:Nat->Int):∀t,((plc A t).map λe=>e.2.length).sum=t
 |0=>rfl
 |t+1=>by rw[X7,Qqj (Qb9 A t).1,Qll A t]
def anw(A:Nat->Int)(t:Nat)(i:Nat):Int:=(ix (A i) (keys A t):Nat)
end M
namespace PV
open PySem PySem.Spec L2
def num:Nat->List Int->List (Key×D)
 |_,[]=>[]
 |n,a::l=>(.inl a,.int (n:Nat))::num (n+1) l
theorem Qf3:∀{l:List Int}{n:Nat},(num n l).length=l.length
 | [],_=>rfl
 |a::l,n=>by simp[num,Qf3]
theorem Ql7{a:Int}:∀{l:List Int}{n:Nat},a∈l->valD (num n l) (.inl a)=some (.int ((n+M.ix a l:Nat):Int))
 | [],_,h=>by cases h
 | x::l,n,h=>by
  unfold num M.ix;rw[Ja];by_cases e:x=a
  ·rw[if_pos (by rw[e]),if_pos e];rfl
  ·rw[if_neg (λz=>e (by injection z)),if_neg e];rcases Ar.mp h with z|h
   ·exact absurd z.symm e
   ·rw[Ql7 h];congr 2;lia
theorem Qhw{a:Int}:∀{l:List Int}{n:Nat},a∉l->valD (num n l) (.inl a)=none
 | [],_,_=>rfl
 | x::l,n,h=>by
  rw[Ar,not_or]at h;unfold num;rw[Ja,if_neg (λz=>h.1 (by injection z with z;exact z.symm)),Qhw h.2]
theorem Qhv{a:Int}:∀{l:List Int}{n:Nat},num n (l++[a])=num n l++[(.inl a,.int ((n+l.length:Nat):Int))]
 | [],n=>by simp[num]
 | x::l,n=>by
  rw[Bz,num,num,Qhv,Bz];congr 3;simp;lia
theorem Qtq(h:a∉l):putD (num 0 l) (.inl a) (.int ((num 0 l).length:Nat))=num 0 (l++[a]):=by
 rw[Qc3 _ (Qhw h),Qhv,Qf3,Bk]
theorem Qpr:Qbw (encP s P)=(P.map (·.1)).map D.int:=by
 unfold Qbw encP;rw[By,By];rfl
end PV
variable {P:Lq}{m:Bool}
namespace PV
open PySem PySem.Spec L2
open PyProof.Rows (envOfC)
mutual
noncomputable def D.bare:D->Bool
 | .non=>true
 | .bl _=>true
 | .int _=>true
 | .str _=>true
 | .ty _=>true
 | .tup xs=>Ub xs
 | .lst xs=>Ub xs
 | .dik kvs=>Qbn kvs
 | .dit kvs=>Qfd kvs
 | .kls _=>false
 | .fdk _=>false
 | .ftp _=>false
 | .fls _=>false
 | .fdt _=>false
 | .obj _ _=>false
 | .clo _ _=>false
 | .kc _=>true
 | .dmx _=>false
 | .fmx _=>false
 | .lsa _ xs=>Ub xs
 | .ist _ xs=>Ub xs
noncomputable def Ub:List D->Bool
 | []=>true
 |d::r=>d.bare&&Ub r
noncomputable def Qbn:List (Key×D)->Bool
 | []=>true
 | (_,d)::r=>d.bare&&Qbn r
noncomputable def Qfd:List (List Key×D)->Bool
 | []=>true
 | (_,d)::r=>d.bare&&Qfd r
end
theorem Zf:Ub xs=true↔∀x∈xs,x.bare=true:=by
 induction xs with
 |nil=>simp[Ub]
 |cons d r ih=>simp only[Ub,B4,ih,Ar,forall_eq_or_imp]
theorem Qbm{xs:List (Key×D)}:Qbn xs=true↔∀x∈xs,x.2.bare=true:=by
 induction xs with
 |nil=>simp[Qbn]
 |cons d r ih=>simp only[Qbn,B4,ih,Ar,forall_eq_or_imp]
theorem Qn0{xs:List (List Key×D)}:Qfd xs=true↔∀x∈xs,x.2.bare=true:=by
 induction xs with
 |nil=>simp[Qfd]
 |cons d r ih=>simp only[Qfd,B4,ih,Ar,forall_eq_or_imp]
def Thaw(H H':Hp):Prop:=∀b ob,H b=some ob->(∀o u,ob ≠ .frz o u)->H' b=some ob
theorem Rep.bare{K:Frag}(hi:Thaw H H')(r:Rep K H d v F):d.bare=true->Rep K H' d v F:=by
 have no:∀{P:Prop}{b:Bool},b=false->b=true->P:=λh h'=>absurd (h.symm.trans h') (by simp);refine Rep.rec (motive_1:=λd v F _=>d.bare=true->Rep K H' d v F) (motive_2:=λd v F _=>Ub d=true->Reps K H' d v F) (motive_3:=λd v F _=>Qbn d=true->RepK K H' d v F) (motive_4:=λd v F _=>Qfd d=true->RepT K H' d v F) ?_ ?_ ?_ ?_ ?_ ?_ ?_ ?_ ?_ ?_ ?_ ?_ ?_ ?_ ?_ ?_ ?_ ?_ ?_ ?_ ?_ ?_ ?_ ?_ ?_ ?_ ?_ r
 ·exactλ_=>.non
 ·exactλb _=>.bl b
 ·exactλb _=>.int b
 ·exactλb _=>.str b
 ·exactλe _ ih k=>.tup (hi _ _ e λ_ _ z=>by cases z) (ih (by rw[D.bare]at k;exact k))
 ·exactλe _ ih k=>.lst (hi _ _ e λ_ _ z=>by cases z) (ih (by rw[D.bare]at k;exact k))
 ·exactλe _ ih k=>.dik (hi _ _ e λ_ _ z=>by cases z) (ih (by rw[D.bare]at k;exact k))
 ·exactλe _ ih k=>.dit (hi _ _ e λ_ _ z=>by cases z) (ih (by rw[D.bare]at k;exact k))
 ·exactλ_ _ _=>no (by rw[D.bare])
 ·exactλt _=>.ty t
 ·exactλ_ _ _=>no (by rw[D.bare])
 ·exactλ_ _ _ _=>no (by rw[D.bare])
 ·exactλ_ _ _=>no (by rw[D.bare])
 ·exactλ_ _ _=>no (by rw[D.bare])
 ·exactλ_ _ _=>no (by rw[D.bare])
 ·exactλ_ _ _=>no (by rw[D.bare])
 ·exactλh _=>.kc h
 ·exactλ_ _ _ _ _=>no (by rw[D.bare])
 ·exactλ_ _ _ _ _=>no (by rw[D.bare])
 ·exactλe _ ih k=>.lsa (hi _ _ e λ_ _ z=>by cases z) (ih (by rw[D.bare]at k;exact k))
 ·exactλe hc hn _ ih k=>.ist (hi _ _ e λ_ _ z=>by cases z) hc hn (ih (by rw[D.bare]at k;exact k))
 ·exactλ_=>.nil
 ·exactλ_ _ ih1 ih2 k=>by rw[Ub,B4]at k;exact .cons (ih1 k.1) (ih2 k.2)
 ·exactλ_=>.nil
 ·exactλ_ _ ih1 ih2 k=>by rw[Qbn,B4]at k;exact .cons (ih1 k.1) (ih2 k.2)
 ·exactλ_=>.nil
 ·exactλ_ _ ih1 ih2 k=>by rw[Qfd,B4]at k;exact .cons (ih1 k.1) (ih2 k.2)
theorem Reps.bare{K:Frag}(hi:Thaw H H'){d:List D}{v:List V}(r:Reps K H d v F)(k:Ub d=true):Reps K H' d v F:=by
 induction d generalizing v F with
 |nil=>cases r;exact .nil
 | cons d ds ih=>
  cases r with
  |cons h r=>rw[Ub,B4]at k;exact .cons (h.bare hi k.1) (ih r k.2)
section
variable {k:Nat}
def Qd6(i:Nat)(L:Lam)(g:GA)(w:WE):WE:=λρ Q=>oget (look ρ i) λc=>match c with
 | .clo L' cs=>L'=L/\w ρ λd ρ1=>g (d::cs) λr=>Q r ρ1
 |_=>False
theorem Qcl(F:X4 X.prog X.w X.K X.mg X.base k L (spR X.K g))(hr:Room k X.A)(he:EV X T false o e w)(hN:X.N[i]? = some x:=by rfl)
  (hv:Vis X.env.scope x:=by first|exact Ds rfl|exact B9 (Ds rfl)|exact B9 (B9 rfl)) (hd:(x==("__debug__":Str))=false:=by decide) (hcd:(x==("__classdict__":Str))=false:=by decide)
  (hs:starEach [e] X.env=(false,eval e X.env)::starEach [] X.env:=by rfl) (hpl:(backTo pos (starEach [] X.env)).any (·.1)=false:=by rfl) :
  EV X T false true (.Call (.Name x p) [e] [] pos) (Qd6 i L g w):=by
 obtain⟨te,pe,ge⟩:=he;refine⟨_,Qjb F hr pe hN hv hd hcd hs hpl,λz R σ H W ρ Q Q' s hw k=>?_⟩;obtain⟨c,hl,hw⟩:=Qi hw;obtain⟨fp,s0⟩:=id s;obtain⟨v,h1,h2⟩:=s0.at_ i c hl;generalize fp i=Fi at h2
 match c,h2,hw with
 | .clo L' cs,h2,hw=>
  obtain⟨e0,hw2⟩:L'=L/\w ρ λd ρ1=>g (d::cs) λr=>Q r ρ1:=hw;subst e0;cases h2 with
  | @clo a _ xs _ _ ec rc=>
   refine⟨a,xs,h1,ec,ge z R σ H W ρ _ _ s hw2 λy H1 W1 d ρ1 F1 pp q=>?_⟩;obtain⟨sm,hW,hρ⟩:=pp.calm rfl;exact⟨ec.keeps λb o u q=>sm b _ q,d::cs,_,_,.cons pp.rep (rc.same sm),q,λv H' dd F' fi hk=>k v H' W1 dd ρ1 F' (Post.fin pp.sr pp.fr pp.calm fi.same fi.rep fi.nd fi.new) hk⟩
def Qgp(ρ:Env):List Nat->Option (List D)
 | []=>some []
 | i::ix=>match look ρ i,Qgp ρ ix with
  |some d,some ds=>some (d::ds)
  |_,_=>none
theorem Qcp{K:Frag}{z:Nat->V}{R:Addr->Prop}{H:Hp}{W:Addr->Prop}{σ:L2.St}{ρ:Env}(s:SR K T z R H W σ ρ):∀{ix:List Nat}{ds:List D},Qgp ρ ix=some ds->∃xs F,capd σ ix xs/\Reps K H ds xs F
 | [],ds,h=>by cases h;exact⟨[],[],trivial,.nil⟩
 | i::ix,ds,h=>by
  unfold Qgp at h;cases h1:look ρ i with
  |none=>rw[h1]at h;cases h
  | some d=>
   cases h2:Qgp ρ ix with
   |none=>rw[h1,h2]at h;cases h
   | some es=>
    rw[h1,h2]at h;cases h;obtain⟨xs,F,c,r⟩:=Qcp s h2;obtain⟨fp,s0⟩:=s;obtain⟨v,e1,e2⟩:=s0.at_ i d h1;exact⟨v::xs,_,⟨e1,c⟩,.cons e2 r⟩
def Qd5(g:GA)(L:Lam)(ix:List Nat)(w:WE):WE:=λρ Q=>w ρ λd ρ1=>oget (Qgp ρ1 ix) λcs=>g [d,.clo L cs] λr=>r.bare=true/\Q r ρ1
theorem Qck{ix:List Nat}(C:Cal X.prog X.w X.K X.mg X.base x k ps (spR X.K g))(hr:Room k X.A)(he:EV X T m o e w)
  (hlam:PE X lam (λσ H Q=>∀f H',H f=none->Same H H'->Xw H' L f clos->Q (.ref f) H')) (hc:Qfn X ix clos) (hn:clos.map (·.1)=L.names) (hnd:(clos.map (·.2)).Nodup) (hg:Gl X x:=by rfl) (hdb:(x==("__debug__":Str))=false:=by decide)
  (hs:starEach [e,lam] X.env=(false,eval e X.env)::starEach [lam] X.env:=by rfl) (hs2:starEach [lam] X.env=(false,eval lam X.env)::starEach [] X.env:=by rfl) (hpl:(backTo pos (starEach [lam] X.env)).any (·.1)=false:=by rfl) :
  EV X T m true (.Call (.Name x p) [e,lam] [] pos) (Qd5 g L ix w):=by
 obtain⟨f,fd,F,h1,h2,h3⟩:=C;obtain⟨te,pe,ge⟩:=he;refine⟨_,Qja F hr hg h1 h2 h3 pe hlam hc hn hnd hdb hs hs2 hpl,λz R σ H W ρ Q Q' s hw k=>?_⟩;refine ge z R σ H W ρ _ _ s hw λy H1 W1 d ρ1 F1 pp q=>?_;obtain⟨cs,hcs,q⟩:=Qi q;obtain⟨xs,Fc,cx,rc⟩:=Qcp pp.sr hcs;refine⟨xs,cx,λf H2 n sm cA=>⟨[d,.clo L cs],_,_,.cons (pp.rep.same sm) (.cons (.clo cA (rc.same sm)) .nil),q,λv H3 dd F' fi hk H4 h4 h5=>?_⟩⟩;exact k v H4 W1 dd ρ1 F' (Post.fin pp.sr pp.fr pp.calm (λb ob e=>h5 b ob e (fi.same b ob (sm b ob e))) (fi.rep.bare h4 hk.1) fi.nd λa ha=>sm.free (fi.new a ha)) hk.2
def spT(TB:List (Addr×Array Value))(sp:Sp):Sp:=λvs H Q E=>Tabs TB H/\sp vs H Q E
theorem V9{TB:List (Addr×Array Value)}(C:Cal X.prog X.w X.K X.mg X.base x k ps (spT TB (spR X.K g)))(hr:Room k X.A)(hT:Tabs TB X.H₀)(ha:AV X T m o (e::es) wr)(hg:Gl X x:=by rfl)
  (hdb:(x==("__debug__":Str))=false:=by decide) (he:starEach (e::es) X.env=(false,eval e X.env)::starEach es X.env:=by rfl) (hpl:(backTo pos (starEach es X.env)).any (·.1)=false:=by rfl) :
  EV X T m true (.Call (.Name x p) (e::es) [] pos) (Qq g wr):=by
 obtain ⟨f,fd,F,h1,h2,h3⟩:=C;obtain⟨ta,pa,ga⟩:=ha;have pe:PE X (.Call (.Name x p) (e::es) [] pos) (λσ H Q=>ta σ H λvs H1=>spR X.K g vs H1 Q E0):=by
  intro pins s σ H Q I h;refine Nu (Qdi I hg h1 ?_ hdb);refine callWith_K (h₀:=X.base) I.ok.mod.kin h2 (thn (pa pos pins s σ H _ I h) λus s1 ⟨vs,H1,I1,r,q⟩=>⟨I1.kIn,?_⟩) he hpl;exact Qqs (E:=E0) F hr h3 .nil (λ_ _ _ _ _ _ _ z=>z.elim) I1 r (by rw[D6];exact⟨hT.un I1.base,q⟩)
 refine⟨_,pe,λz R σ H W ρ Q Q' s hw k=>?_⟩;refine ga z R σ H W ρ _ _ s hw λvs H1 W1 ds ρ1 Fp pp q=>?_;exact⟨ds,Fp,_,pp.rep,q,λv H' d F' fi hk=>k v H' W1 d ρ1 F' (Post.fin pp.sr pp.fr pp.calm fi.same fi.rep fi.nd fi.new) hk⟩
end
section
variable {w:World}{K:Frag}{k:Nat}{TB:List (Addr×Array Value)}
theorem Qe5(F:Fun K x qual st f fd)(S:FnScope N ps (Qc st))(hio:T.io=[])(hown:∀i,i<ps.length->T.own i=false)(hg:∀ds kk,g ds kk->ds.length=ps.length)
  (hb:∀(cdv:Value)(A:Around)(outer:List Do)(s:Shared)(H:Hp)(E:XK),Room k (A.deeper (envOfC qual (Qc st) s.heap.objs.size f cdv))->Tabs TB H->fd.code=cdv->SVs (cxOf CX0 P w K mg base N qual (Qc st) f cdv A outer s H E).nox T (Qs st) ww)
  (hr:∀ds kk,g ds kk->ww { nx:=λ_=>kk .non,rt:=λd _=>kk d } (env0 N ds)):FnOk P w K mg base CX0 (k+1) f fd ps (spT TB (spR K g)):=by
 obtain⟨oc,od,kV,doc,pm,an,cdv,ct,osl,rfl,lk,hcd⟩:=F.ex;refine Qxa lk hcd S (λvs H Q E h=>?_) λA outer s H vs Q E hroom h=>?_
 ·obtain⟨_,ds,Fp,kk,rep,hgk,_⟩:=h;rw[rep.length];exact hg ds kk hgk
 ·obtain⟨hT,ds,Fp,kk,rep,hgk,q⟩:=h;obtain⟨ts,pts,gts⟩:=hb cdv A outer s H E hroom hT rfl;have hl:=rep.length;have hds:=hg ds kk hgk;refine⟨ts,pts.nox,gts (λ_=>.non) (Any H) (L2.start N vs) H (λ_=>False) (env0 N ds) _ _ (SR.readonly hio ?_ λi d hli=>?_) (hr ds kk hgk) ⟨?_,?_,?_,?_,λ_ _ _ _ _ _ _ _ hk=>hk.elim⟩⟩
  ·unfold env0 L2.start;simp[hl]
  ·unfold env0 at hli;rw[Zv]at hli;obtain⟨v,B,h1,h2,_⟩:=rep.get hli;exact⟨hown i (by rw[← hds];exact(Be.mp hli).1),v,B,Vl h1,h2⟩
  ·intro R' σ' H' W' ρ' s' fr hk;have sm:Same H H':=λb o e=>fr.keep b o e (λz=>z);exact q .non H' .non [] ⟨sm,.non,D8,λ_ m=>nomatch m⟩ hk
  ·exactλR' σ' H' W' ρ' s' fr hk=>hk.elim
  ·exactλR' σ' H' W' ρ' s' fr hk=>hk.elim
  ·intro R' v σ' H' W' ρ' d F' s' fr r nd nw hk;have sm:Same H H':=λb o e=>fr.keep b o e (λz=>z);exact q v H' d F' ⟨sm,r,nd,λa ha=>(nw a ha).2.resolve_left id⟩ hk
theorem Qws{p:Str}(S:LamScope L p)(hbind:∀(cl:List (Str×Addr)) (pm cdv ct u:Value),bindArgs (PySem.W.kla_fn "<lambda>" L.qual L.args L.body L.scope cl pm cdv ct) ⟨[u],[]⟩=pure [(p,u)])
  (hg:∀ds kk,g ds kk->Ub ds=true/\ds.length=L.names.length+1)
  (hb:∀(A:Around)(outer:List Do)(s:Shared)(H:Hp)(f:Addr)(cd:Value)(cl:List (Str×Addr)),Room k (A.deeper (PySem.W.envX L.qual L.scope s.heap.objs.size f cd cl))->EV (Qp9 P w K mg base L p f cd cl A outer s H) TR m true L.body wb)
  (hr:∀ds kk,g ds kk->wb (ds.map some) λd _=>kk d):X4 P w K mg base (k+1) L (spR K g):=by
 refine Qwr S hbind λA outer s H f cd cl y xs Q hroom isC hsp=>?_;obtain⟨ds,Fp,kk,rep,hgk,q⟩:=hsp;obtain⟨hbr,hlen⟩:=hg ds kk hgk;obtain⟨t,pt,gt⟩:=hb A outer s (rmC H (cl.map (·.2))) f cd cl hroom;have repR:Reps K (rmC H (cl.map (·.2))) ds (y::xs) Fp:=rep.bare (λb ob e nf=>by rw[Jw (isC.out e λo _ z _=>nf _ _ z)];exact e) hbr;refine⟨t,pt,gt (λ_=>.non) (Any _) _ _ (λ_=>False) (ds.map some) (λd _=>kk d) _ (SR.readonly rfl ?_ λi d hli=>?_) (hr ds kk hgk) λv H2 W2 d ρ2 F2 pp hk hn=>?_⟩
 ·have:=repR.length;simp at this ⊢;lia
 ·have hli':ds[i]? = some d:=by
   have:=Qdf hli;rw[Au]at this;cases e:ds[i]? with
   |none=>rw[e]at this;cases this
   |some d'=>rw[e]at this;simp at this;rw[this]
  obtain⟨v,B,h1,h2,_⟩:=repR.get hli';refine⟨rfl,v,B,?_,h2⟩;rw[show some y::xs.map some=(y::xs).map some from rfl,Au,h1];rfl
 ·refine q v (putC H2 H (cl.map (·.2))) d F2 ⟨λb ob e=>?_,?_,(pp.own rfl).1,λa ha=>?_⟩ hk
  ·by_cases hb':b∈cl.map (·.2)
   ·rw[Qfy hb'];exact e
   ·rw[Yk hb'];exact pp.fr.keep b ob (by rw[Jw hb'];exact e) λz=>z
  ·exact pp.rep.same λb ob e=>by rw[Yk λhb'=>by rw[hn b hb']at e;cases e];exact e
  ·obtain⟨ob,e1,_⟩:=pp.rep.dom a ha;have:a∉cl.map (·.2):=λhb'=>by rw[hn a hb']at e1;cases e1
   have:=((pp.own rfl).2 a ha).1
   rwa [Jw ‹_›]at this
end
end PV
variable {a:Nb}{q:Nat}{sd sd':PV.D}
namespace PV
open PySem PySem.Spec L2
section
variable {q:Pos}{k:Nat}
noncomputable def Qgn:GA
 | [.dit kvs],k=>∃(ks:List (List Int)) (num:List Int->Int),kvs.map (·.1)=ks.map (λk=>k.map Nh)/\(∀k∈ks,k≠[])/\kvs.length≠1/\kvs.length<=100000/\(∀x∈ks,∀y∈ks,HT.Zg x y=decide (num x<num y)) /\
   ∀out:List (List Int),out.Perm ks->out.Pairwise (λx y=>num x<=num y)->k (.lst (out.map tupI))
 |_,_=>False
theorem Qns(hc:X.calm=true):Qfo X (.builtin "sorted") Qgn:=by
 refine⟨_,Qgq hc,λH ds xs F k Q r g q=>?_⟩;cases ds with
 |nil=>exact(show False from g).elim
 | cons d ds=>
  cases ds with
  |cons _ _=>cases d<;>exact(show False from g).elim
  | nil=>
   cases d with
   | dit kvs=>
    obtain⟨v,rfl,rd⟩:=r.at1;obtain⟨ks,num,h1,h2,h3,h4,h5,g⟩:=g;cases rd with
    | @dit a vs _ F e r9=>
    refine⟨a,vs,ks,num,rfl,.of e,by rw[r9.keys];exact h1,h2,by rw[r9.length];exact h3,by rw[r9.length];exact h4,h5,λout as D p1 p2 hl hb hD=>?_⟩;have sm:Same H (upd H D (.lst (as.map V.ref))):=Qo hD;exact q (.ref D) _ (.lst (out.map tupI)) [D] ⟨sm,.lst Qf (Reps.of_tups hl λi k b h6 h7=>sm _ _ (hb i b k h7 h6)),by simp,λb hb'=>by rw[Ap.mp hb'];exact hD⟩ (g out p1 p2)
   |_=>exact(show False from g).elim
def lsOf(d:D)(k:List D->Prop):Prop:=match d with
 | .lst xs=>k xs
 |_=>False
def Qd7(i j:Nat):WS:=λP ρ=>oget (look ρ i) λc=>lsOf c λxs=>xs.length<sizeLine/\oget (look ρ j) λd=>P.nx ((ρ.set j none).set i (some (.lst (xs++[d]))))
theorem Qhd{ap cp:Pos}(hij:i≠j:=by decide)(ti:T.own i=true:=by rfl)(tj:T.own j=true:=by rfl)(hi:X.N[i]? = some x:=by rfl)(hj:X.N[j]? = some y:=by rfl)
  (hv:Vis X.env.scope x:=by first|exact Ds rfl|exact B9 (Ds rfl)|exact B9 (B9 rfl)) (hd:(x==("__debug__":Str))=false:=by decide) (hcd:(x==("__classdict__":Str))=false:=by decide)
  (hv2:Vis X.env.scope y:=by first|exact Ds rfl|exact B9 (Ds rfl)|exact B9 (B9 rfl)) (hd2:(y==("__debug__":Str))=false:=by decide) (hcd2:(y==("__classdict__":Str))=false:=by decide)
  (b2:attributeBase (.Name x p) "append" X.env (eval (.Name x p) X.env)=eval (.Name x p) X.env:=by rfl)
  (f2:((backTo cp (starEach [.Name y q] X.env)).all (λx=>!x.1)&&(backToKw cp (keywordEach [] X.env)).all (λx=>x.1.isSome)
   && decide (([.Name y q]:List Expr).length+([]:List Keyword).length+(if ([]:List Keyword).isEmpty then 0 else 1)<30))=true:=by rfl)
  (l2:(ap.endLine==cp.line)=true:=by rfl) (s2:starEach [.Name y q] X.env=(false,eval (.Name y q) X.env)::starEach [] X.env:=by rfl) (q2:(backTo cp (starEach [] X.env)).any (·.1)=false:=by rfl)
  (hs:swapsWith (.Call (.Attribute (.Name x p) "append" ap) [.Name y q] [] cp) none pos.line X.env=pure false:=by rfl) :
  SV X T (.Expr (.Call (.Attribute (.Name x p) "append" ap) [.Name y q] [] cp) pos) (Qd7 i j):=by
 refine ⟨_,Qaz (Qjc Mm M7 M8 Vq (Yc hi hv hd hcd) (Z5 (Yc hj hv2 hd2 hcd2) Xs s2) b2 f2 l2 s2 q2) hs,λz R σ H W ρ P E s hw l=>?_⟩;obtain⟨c,hl0,hw⟩:=Qi hw;obtain⟨xs,rfl⟩:∃xs,c=D.lst xs:=by
  clear hl0;cases c with
  |lst xs=>exact⟨xs,rfl⟩
  |_=>exact(show False from hw).elim
 obtain ⟨hz,hw⟩:=hw;obtain⟨d,hlj,qn⟩:=Qi hw;obtain⟨fp,s0⟩:=s;obtain⟨v0,hv0,r0⟩:=s0.at_ i _ hl0;obtain⟨vj,hvj,rj⟩:=s0.at_ j d hlj;obtain⟨nd0,sw0⟩:=s0.own i _ hl0 ti;obtain⟨ndj,swj⟩:=s0.own j d hlj tj;have dij:=s0.dis i j _ d hl0 hlj ti tj hij;obtain⟨l0,ys,G,rfl,e0,hF,rG⟩:∃(l0:Addr)(ys:List V)(G:List Addr),v0=.ref l0/\H l0=some (.lst ys)/\fp i=l0::G/\Reps X.K H xs ys G:=by
  generalize fp i=Fi at r0;cases r0 with
  | @lst l0 ys _ G e r=>exact⟨l0,ys,G,rfl,e,rfl,r⟩
 refine⟨_,hv0,.inl ⟨rfl,_,.of e0⟩,vj,hvj,l0,ys,vj,rfl,rfl,e0,by rw[rG.length];exact hz,?_⟩;have hm0:l0∈fp i:=by rw[hF];exact Ak
 have hWl:=sw0 l0 hm0;have nl:l0∉fp j:=dij l0 hm0;have nG:l0∉G:=by rw[hF]at nd0;exact(Bd.mp nd0).1
 have key:∀k e,look (ρ.set j none) k=some e->k≠j/\look ρ k=some e:=λk e h=>by
  rw[Z7]at h
  split at h
  ·cases h
  ·refine⟨λz=>?_,h⟩;subst z;rename_i hn;exact hn ⟨rfl,Us hlj⟩
 have s1:SR0 X.K T z R H (λa=>W a/\a∉fp j) σ (ρ.set j none) fp :=
  ⟨by rw[Dw];exact s0.len,λa h=>s0.wd a h.1,λk e h=>s0.at_ k e (key k e h).2,λk e h t=>⟨(s0.own k e (key k e h).2 t).1,λa ha=>⟨(s0.own k e (key k e h).2 t).2 a ha,λha'=>s0.dis k j e d (key k e h).2 hlj t tj (key k e h).1 a ha ha'⟩⟩,
   λk e h t=>s0.ro k e (key k e h).2 t,λa h=>s0.wr a h.1,s0.rd,λk n e e' h h' t t'=>s0.dis k n e e' (key k e h).2 (key n e' h').2 t t',s0.fix⟩
 have hli:look (ρ.set j none) i=some (.lst xs):=by rw[Qr hij];exact hl0
 have rep:Rep X.K (upd H l0 (.lst (ys++[vj]))) (.lst (xs++[d])) (.ref l0) (l0::(G++fp j)):=.lst Qf ((rG.upd e0 rfl nG).snoc (rj.upd e0 rfl nl));have nd':(l0::(G++fp j)).Nodup:=by
  have:=Gd nd0 ndj λa ha ha'=>dij a ha' ha
  rwa [hF]at this
 have sF:=s1.write hli ti hv0 hm0 (H':=upd H l0 (.lst (ys++[vj]))) Q8 ⟨_,Qf,rfl⟩ rep nd' (λa ha=>by
  rcases Ar.mp ha with rfl|ha
  ·exact .inl hm0
  ·rcases Aj.mp ha with ha|ha
   ·exact .inl (by rw[hF];exact Al _ ha)
   ·exact .inr ⟨λh=>h.2 ha,s0.wr a (swj a ha)⟩)
 refine l.nx R σ _ _ _ sF ⟨λb ob e nb=>Q8 b ob e λz=>nb (by rw[z];exact hWl),λb e=>?_,Vr e0 rfl,λb hb=>.inl ?_⟩ qn
 ·by_cases hb:b=l0
  ·rw[hb,Qf]at e;cases e
  ·rw[Ql hb]at e;exact e
 ·rcases hb with hb|hb
  ·exact hb.1
  ·rcases Ar.mp hb with rfl|hb
   ·exact hWl
   ·rcases Aj.mp hb with hb|hb
    ·exact sw0 b (by rw[hF];exact Al _ hb)
    ·exact swj b hb
def mk1:D->D->Option D
 | .dik kvs,.int j=>some (.dik (putD kvs (.inl j) (.bl true)))
 | .dit kvs,.tup l=>(Zb l).map λks=>.dit (putD kvs ks (.bl true))
 |_,_=>none
def Vj:D->List D->Option D
 |d,[]=>some d
 |d,e::r=>(mk1 d e).bind λd'=>Vj d' r
def szD:D->Nat
 | .dik kvs=>kvs.length
 | .dit kvs=>kvs.length
 |_=>0
theorem Qc2{κ:Type}[DecidableEq κ]{kvs:List (κ×D)}{k:κ}{v:D}(h:(kvs.all λkv=>kv.2.pure)=true)(hv:v.pure=true):((putD kvs k v).all λkv=>kv.2.pure)=true:=by
 rw[Kq]at h ⊢;intro p hp;unfold putD at hp
 split at hp
 ·obtain⟨r,hr,rfl⟩:=Aq.mp hp;split
  ·exact hv
  ·exact h r hr
 ·rcases Aj.mp hp with hp|hp
  ·exact h p hp
  ·rw[Ap.mp hp];exact hv
theorem Qtt{ed:D}(h:mk1 sd ed=some sd'):(∃kvs j,sd=.dik kvs/\ed=.int j)\/∃kvs l,sd=.dit kvs/\ed=.tup l:=by
 cases sd with
 | dik kvs=>cases ed with
  |int j=>exact .inl ⟨kvs,j,rfl,rfl⟩
  |_=>cases h
 | dit kvs=>cases ed with
  |tup l=>exact .inr ⟨kvs,l,rfl,rfl⟩
  |_=>cases h
 |_=>cases h
theorem Qwe{K:Frag}{ed:D}{a:Addr}(r:Rep K H sd (.ref a) F)(hf:X2 sd=true)(hm:mk1 sd ed=some sd')(re:Rep K H ed v [])(hz:szD sd<sizeLine) :
  ∃ob,imm ob=false/\H a≠none/\(∃o0,H a=some o0/\imm o0=false)/\DPut H a v (.bl true) (upd H a ob)/\Rep K (upd H a ob) sd' (.ref a) [a]/\X2 sd'=true/\szD sd'<=szD sd+1:=by
 rcases Qtt hm with⟨kvs,j,rfl,rfl⟩|⟨kvs,l,rfl,rfl⟩
 ·cases hm;obtain rfl:=re.iInt;obtain⟨a',vs,G,e0,_,e,r9⟩:=r.iDik;cases e0;have hG:=r9.pure hf;subst hG;obtain⟨G',rp,sub⟩:=(r9.upd (ob':=.dK (putK vs (.inl j) (.bl true))) e rfl (by simp)).put (k:=.inl j) (.bl true);have:G'=[]:=M6.mp sub;subst this;exact⟨_,rfl,by rw[e];simp,⟨_,e,rfl⟩,DPut.k (k:=.inl j) e (by rw[r9.length];exact hz),.dik Qf rp,Qc2 hf rfl,J1 _ _ _⟩
 ·obtain⟨ks,hk,rfl⟩:=Nl.mp hm;obtain⟨b,ys,rfl,e2,r2⟩:=re.iTup;have hx:=r2.keys hk;subst hx;obtain⟨a',vs,G,e0,_,e,r9⟩:=r.iDit;cases e0;have hG:=r9.pure hf;subst hG;obtain⟨G',rp,sub⟩:=(r9.upd (ob':=.dT (putK vs ks (.bl true))) e rfl (by simp)).put (k:=ks) (.bl true);have:G'=[]:=M6.mp sub;subst this;exact⟨_,rfl,by rw[e];simp,⟨_,e,rfl⟩,DPut.t (k:=ks) e e2 (by rw[r9.length];exact hz),.dit Qf rp,Qc2 hf rfl,J1 _ _ _⟩
theorem Qcc:∀{ds:List D}{sd:D}{e:D},Vj sd (ds++[e])=(Vj sd ds).bind λd=>mk1 d e
 | [],sd,e=>by simp[Vj]
 | d::ds,sd,e=>by
  rw[Bz];show(mk1 sd d).bind (λd'=>Vj d' (ds++[e]))=((mk1 sd d).bind λd'=>Vj d' ds).bind λd=>mk1 d e;cases mk1 sd d with
  |none=>rfl
  |some d'=>exact Qcc
theorem Qji(h:Vj sd ds=some sd')(i:Nat):∃d,Vj sd (ds.take i)=some d:=by
 induction ds generalizing sd i with
 |nil=>exact⟨sd,by simp[Vj]⟩
 | cons e ds ih=>
  cases i with
  |zero=>exact⟨sd,rfl⟩
  | succ i=>
   have h:(mk1 sd e).bind (λd'=>Vj d' ds)=some sd':=h;obtain⟨d',h1,h2⟩:=Option.bind_eq_some_iff.mp h;obtain⟨d,h3⟩:=ih h2 i;exact⟨d,by show(mk1 sd e).bind (λd'=>Vj d' (ds.take i))=some d;rw[h1];exact h3⟩
noncomputable def Qkg(s j t:Nat):WS:=λP ρ=>oget (look ρ s) λsd=>oget (look ρ j) λg=>lsOf g λds=>t<ρ.length/\Qm ds=true/\X2 sd=true/\szD sd+ds.length<sizeLine/\oget (Vj sd ds) λsd'=>oget ds.getLast? λe=>P.nx ((ρ.set s (some sd')).set t (some e))
theorem Qky{s:Nat}{n:Str}{tp gp sp tp2 bp:Pos}{bj}(hu:X.A.units+1<cLine)(hp:PassesOwn (model X.prog X.w) X.A X.env X.xe)(hN:X.N.Nodup)(hsj:s≠j:=by decide)(hst:s≠t:=by decide)(hjt:j≠t:=by decide)
  (ts:T.own s=true:=by rfl) (tj:T.own j=true:=by rfl) (hs:X.N[s]? = some x:=by rfl) (hj:X.N[j]? = some y:=by rfl) (ht:X.N[t]? = some n:=by rfl) (hto:t∉T.io:=by decide)
  (vs:Vis X.env.scope x:=by first|exact Ds rfl|exact B9 (Ds rfl)|exact B9 (B9 rfl)) (vj:Vis X.env.scope y:=by first|exact Ds rfl|exact B9 (Ds rfl)|exact B9 (B9 rfl)) (vt:Vis X.env.scope n:=by first|exact Ds rfl|exact B9 (Ds rfl)|exact B9 (B9 rfl))
  (lt:Loc X.env.scope n:=by first|exact Ds rfl|exact B9 rfl) (hf:X.fn n=true\/X.env.scope.names.lookup n=some .local:=by first|exact .inl rfl|exact .inr rfl|assumption)
  (d1:(x==("__debug__":Str))=false:=by decide) (d2:(y==("__debug__":Str))=false:=by decide) (d3:(n==("__debug__":Str))=false:=by decide) (k1:(x==("__classdict__":Str))=false:=by decide) (k2:(y==("__classdict__":Str))=false:=by decide) (k3:(n==("__classdict__":Str))=false:=by decide)
  (ha:∀v,assign (.Subscript (.Name x sp) (.Name n tp2) ps') X.env v=(do
   let ov ← holding [v] (eval (.Name x sp) X.env)
   let iv ← holding [v,ov] (eval (.Name n tp2) X.env)
   standAt ps'
   holding [v,ov,iv] (setItem ov iv v)
   release [v,ov,iv] []):=by intro _;rfl) (a1:swapsWithSole [.Subscript (.Name x sp) (.Name n tp2) ps'] (.Constant (.bool true) bj bp) apos.line X.env=pure false:=by rfl) (a2:swappedStores [.Subscript (.Name x sp) (.Name n tp2) ps'] (.Constant (.bool true) bj bp) X.env=pure none:=by rfl)
  (a3:(assignEach [.Subscript (.Name x sp) (.Name n tp2) ps'] X.env).map (·.2)=[assign (.Subscript (.Name x sp) (.Name n tp2) ps') X.env]:=by rfl) (hc:X.calm=true:=by rfl) (hfs:∀x,foldedSetIterable (.Name y gp) X.env x=pure x:=by intro _;rfl) :
  SV X T (.For (.Name n tp) (.Name y gp) [.Assign [.Subscript (.Name x sp) (.Name n tp2) ps'] (.Constant (.bool true) bj bp) apos] [] pos) (Qkg s j t):=by
 refine⟨_,Qlj hp hc (Qhs (Yc hj vj d2 k2)) (Qc4 (i:=t) hN ht lt hf) (Qli (Qhr Qvx (Qht (Yc hs vs d1 k1) (Yc ht vt d3 k3) (PSet.or Qcw (Qcx hu)) ha) a1 a2 a3)) hfs,λz R σ H W ρ P E sr hw l=>?_⟩
 obtain⟨sd,hls,hw⟩:=Qi hw
 obtain⟨g,hlj,hw⟩:=Qi hw
 obtain ⟨ds,rfl⟩:∃ds,g=D.lst ds:=by
  clear hlj
  cases g with
  |lst ds=>exact⟨ds,rfl⟩
  |_=>exact(show False from hw).elim
 obtain⟨htl,hpu,hfl,hz,hw⟩:=hw
 obtain⟨sd',hmk,hw⟩:=Qi hw
 obtain⟨le,hle,qn⟩:=Qi hw
 obtain⟨fp,s0⟩:=sr
 obtain⟨vs0,hvs,rs⟩:=s0.at_ s _ hls
 obtain⟨vj0,hvj,rj⟩:=s0.at_ j _ hlj
 obtain⟨nds,sws⟩:=s0.own s _ hls ts
 obtain⟨ndj,swj⟩:=s0.own j _ hlj tj
 have dsj:=s0.dis s j _ _ hls hlj ts tj hsj
 obtain⟨a,rfl,hFs⟩:=rs.flat1 hfl
 obtain ⟨b,xs,rfl,eb,rx,hFj⟩:∃(b:Addr)(xs:List V),vj0=.ref b/\H b=some (.lst xs)/\Reps X.K H ds xs []/\fp j=[b]:=by
  generalize fp j=Fj at rj
  cases rj with
  | @lst b xs _ G e r=>
   obtain⟨hG,r⟩:=r.pure hpu
   exact⟨b,xs,rfl,e,r,by rw[hG]⟩
 have hab:b≠a:=λz=>dsj a (by rw[hFs];simp) (by rw[hFj,z];simp)
 have hxl:xs.length=ds.length:=rx.length
 have tlen:t<σ.length:=by rw[← s0.len];exact htl
 refine⟨.ref b,hvj,b,rfl,.inl ⟨⟨xs,.of eb⟩,λi mm σ' H'=>mm=ds.length-i/\i<=ds.length/\∃sdi,Vj sd (ds.take i)=some sdi/\σ'=(if i=0 then σ else σ.set t (xs[i-1]?))/\(∀c,c≠a->H' c=H c)/\Rep X.K H' sdi (.ref a) [a]/\X2 sdi=true/\szD sdi<=szD sd+i/\(∃o0,H' a=some o0/\imm o0=false),⟨ds.length,by simp,Dx _,sd,rfl,by simp,λ_ _=>rfl,by rw[hFs]at rs;exact rs,hfl,At _,?_⟩,?_⟩⟩
 ·exact s0.wd a (sws a (by rw[hFs];simp))
 rintro i mm σ2 H2 ⟨rfl,hi,sdi,m1,m2,m3,m4,m5,m6,m7⟩
 have e2:H2 b=some (.lst xs):=by rw[m3 b hab];exact eb
 by_cases hlt:i<ds.length
 ·refine .inr ⟨⟨xs,xs[i]'(by omega),.of e2,Bo (by lia)⟩,λσ' H'=>i+1<=ds.length/\∃sdi,Vj sd (ds.take (i+1))=some sdi/\σ'=σ.set t (xs[i]?)/\(∀c,c≠a->H' c=H c)/\Rep X.K H' sdi (.ref a) [a]/\X2 sdi=true/\szD sdi<=szD sd+(i+1)/\(∃o0,H' a=some o0/\imm o0=false),λσ' H' ⟨h1,h2⟩=>⟨ds.length-(i+1),by lia,rfl,h1,by simpa using h2⟩,λv H3 yl=>?_⟩
  obtain⟨rfl,yl⟩:=yl
  have hv:=yl xs (.of e2)
  obtain⟨dn,hdn⟩:=Qji hmk (i+1)
  rw[Mu,Bo hlt]at hdn
  have hdn':Vj sd (ds.take i++[ds[i]])=some dn:=hdn
  rw[Qcc,m1]at hdn'
  have hdn':mk1 sdi ds[i]=some dn:=hdn'
  obtain⟨x1,B,hx1,rx1,sx1⟩:=rx.get (Bo hlt)
  rw[hv]at hx1
  cases hx1
  have hB:B=[]:=M6.mp sx1
  subst hB
  have rv2:Rep X.K H3 ds[i] v []:=rx1.frame (λc ob e him=>by
   by_cases hc':c=a
   ·obtain⟨o1,g1,g2⟩:=s0.wd a (sws a (by rw[hFs];simp))
    rw[hc',g1]at e;cases e;rw[g2]at him;cases him
   ·rw[m3 c hc'];exact e) (λc hc'=>nomatch hc')
  obtain⟨ob,i1,_,i3,i4,i5,i6,i7⟩:=Qwe m4 m5 hdn' rv2 (by lia)
  have hts:((σ2.set t (some v)):L2.St)[s]? = some (some (.ref a)):=by
   rw[Mp (Mk hst),m2]
   split
   ·exact hvs
   ·rw[Mp (Mk hst)];exact hvs
  have l2t:t<σ2.length:=by
   rw[m2]
   split
   ·exact tlen
   ·rw[Dw];exact tlen
  refine⟨.ref a,hts,v,by rw[Nk l2t],.inr ⟨a,_,rfl,i4,by lia,dn,?_,?_,λc hc'=>?_,i5,i6,by lia,⟨ob,Qf,i1⟩⟩⟩
  ·rw[Mu,Bo hlt];exact hdn
  ·rw[hv,m2]
   split
   ·rfl
   ·rw[List.set_set]
  ·rw[Ql hc'];exact m3 c hc'
 ·have ei:i=ds.length:=by lia
  subst ei
  rw[Kr]at m1
  rw[hmk]at m1
  cases m1
  have hne:ds≠[]:=λz=>by rw[z]at hle;cases hle
  have hpos:0<ds.length:=L3.mpr hne
  have hlast:ds[ds.length-1]? = some le:=by rw[← hle,List.getLast?_eq_getElem?]
  obtain⟨xl,B,hxl1,rxl,sxl⟩:=rx.get hlast
  have hB:B=[]:=M6.mp sxl
  subst hB
  rw[if_neg (by lia),hxl1]at m2
  refine .inl ⟨⟨xs,.of e2,by lia⟩,?_⟩
  have hWa:=sws a (by rw[hFs];simp)
  have kp:∀c u,H c=some u->c≠a->H2 c=some u:=λc u e hc'=>by rw[m3 c hc'];exact e
  have sF:=s0.write hls ts hvs (by rw[hFs];simp) kp m7 m4 (by simp) (λc hc'=>.inl (by rw[hFs];exact hc'))
  have fF:=(FrW.refl H W).write hWa (s0.wd a hWa) (H':=H2) kp m7 (F':=[a]) (λc hc'=>.inl (by rw[Ap.mp hc'];exact hWa))
  have hpl:le.pure=true:=Q5.mp hpu le (Du hlast)
  have rl2:Rep X.K H2 le xl []:=rxl.frame (λc ob e him=>by
   by_cases hc':c=a
   ·obtain⟨o1,g1,g2⟩:=s0.wd a hWa
    rw[hc',g1]at e;cases e;rw[g2]at him;cases him
   ·exact kp c ob e hc') (λc hc'=>nomatch hc')
  obtain⟨fp2,sF0⟩:=sF
  obtain⟨R',sB⟩:=sF0.bind (i:=t) hto rl2 (by simp) (λc hc'=>nomatch hc')
  rw[m2]
  exact l.nx R' _ H2 _ _ sB (Qaf fF λc hc'=>nomatch hc'.2) qn
end
end PV
namespace PV
open PySem PySem.Spec L2 PyProof.Rows
section
variable {b:Expr}{q cp:Pos}
def frzK(d:D)(k:D->Prop):Prop:=match d with
 | .lst xs=>Qm xs=true/\k (.kls xs)
 |_=>False
def Vi(w:WE):WE:=λρ Q=>w ρ λd ρ'=>frzK d λd'=>Q d' ρ'
def asK(Q:D->Env->Prop)(d:D)(ρ:Env):Prop:=match d with
 | .fls xs=>Q (.kls xs) ρ
 |_=>False
theorem Vv(h:EV X T m true e w):EV X T m true e (Vi w):=by
 obtain⟨te,pe,ge⟩:=Qxh h;refine⟨te,pe,λz R σ H W ρ Q Q' s hw k=>ge z R σ H W ρ (asK Q) Q' s ?_ λv H1 W1 d ρ1 F pp qq=>?_⟩
 ·have:(λ(d:D)(ρ':Env)=>frzK d λd'=>Q d' ρ')=λd ρ'=>Qw9 d λd'=>asK Q d' ρ':=by
   funext d ρ';cases d<;>rfl
  unfold Vi at hw;rw[this]at hw;exact hw
 ·cases d with
  | fls xs=>
   obtain⟨sr,fr,calm,rep,own⟩:=pp;cases rep with
   |fls e1 r=>exact k _ H1 W1 (.kls xs) ρ1 [] ⟨sr,fr,calm,.kls (.inl ⟨_,e1⟩) r,own⟩ qq
  |_=>exact(show False from qq).elim
theorem V4{k:D->Prop}:frzK (.lst xs) k=(Qm xs=true/\k (.kls xs)):=rfl
def dInK(neg:Bool):G2
 | .int i,.kls xs,k=>oget (inD (.int i) xs) λb=>k (.bl (xor neg b))
 |_,_,_=>False
def dlOf(c d:D)(k:List D->Prop):Prop:=match c,d with
 | .dik kvs,.int n=>oget (valD kvs (.inl n)) λv=>lsOf v k
 |_,_=>False
def Qke(i j:Nat):WL:=λρ Q=>oget (look ρ i) λc=>oget (look ρ j) λd=>dlOf c d λds=>Q ds ρ
theorem Qpu(hu:X.A.units+1<cLine)(ht:T.own i=false:=by rfl)(hN:X.N[i]? = some x:=by rfl)(hM:X.N[j]? = some y:=by rfl)(hv:Vis X.env.scope x:=by first|exact Ds rfl|exact B9 (Ds rfl)|exact B9 (B9 rfl))(hd:(x==("__debug__":Str))=false:=by decide)
  (hcd:(x==("__classdict__":Str))=false:=by decide) (hv2:Vis X.env.scope y:=by first|exact Ds rfl|exact B9 (Ds rfl)|exact B9 (B9 rfl)) (hd2:(y==("__debug__":Str))=false:=by decide)
  (hcd2:(y==("__classdict__":Str))=false:=by decide) (hs:Qbq (.Name y q):=by intro _ _;rfl):IV X T false true tg (.Subscript (.Name x p) (.Name y q) cp) (Qke i j):=by
 refine ⟨_,Qhs (Qo6 (Qgf hu) (Yc hN hv hd hcd) (Yc hM hv2 hd2 hcd2) hs),λz R σ H W ρ Q RR s hw k=>?_⟩;obtain⟨c,hl,hw⟩:=Qi hw;obtain⟨d,hlj,hw⟩:=Qi hw;obtain⟨kvs,n,rfl,rfl,hw⟩:∃kvs n,c=D.dik kvs/\d=D.int n/\oget (valD kvs (.inl n)) λv=>lsOf v λds=>Q ds ρ:=by
  clear hl hlj;cases c with
  | dik kvs=>cases d with
   |int n=>exact⟨kvs,n,rfl,rfl,hw⟩
   |_=>exact(show False from hw).elim
  |_=>exact(show False from hw).elim
 obtain ⟨v,hval,hw⟩:=Qi hw;obtain⟨ds,rfl⟩:∃ds,v=D.lst ds:=by
  clear hval;cases v with
  |lst ds=>exact⟨ds,rfl⟩
  |_=>exact(show False from hw).elim
 have qn:Q ds ρ:=hw;obtain⟨fp,s0⟩:=id s;obtain⟨v0,h1,r0⟩:=s0.at_ i _ hl;obtain⟨v1,h2,r1⟩:=s0.at_ j _ hlj;have nW:∀b∈fp i,¬W b:=λb hb hw=>s0.wr b hw (s0.ro i _ hl ht b hb);obtain rfl:=r1.iInt;obtain⟨a0,ws,G,rfl,hG,e0,rk⟩:=r0.iDik;rcases rk.val (.inl n) with⟨zz,_⟩|⟨d',v,B,g1,g2,g3,g4⟩
 ·rw[hval]at zz;cases zz
 rw[hval]at g1;cases g1;obtain⟨a,xs,F,rfl,rfl,e1,r⟩:=g3.iLst;have inF:∀b∈a::F,b∈fp i:=λb hb=>by rw[hG];exact Al _ (g4.subset hb)
 refine⟨.ref a0,h1,.int n,h2,a0,.ref a,rfl,g2 ▸ DGet.k (k:=.inl n) e0,a,rfl,.inl ⟨⟨xs,.of e1⟩,k _ H W ds ρ ⟨s,FrW.refl H W,λ_=>⟨Same.refl H,rfl,rfl⟩⟩ (λi H2 W2 f=>?_) qn⟩⟩;rw[Gz]at f;have e2:H2 a=some (.lst xs):=f.keep _ _ e1 (nW a (inF a Ak));refine⟨λhi=>⟨xs,.of e2,by rw[r.length];exact hi⟩,λd hd=>?_⟩;obtain⟨x,B,hx,rx,sx⟩:=r.get hd;refine⟨⟨xs,x,.of e2,hx⟩,λv H3 y=>?_⟩;obtain⟨rfl,y⟩:=y;have:=y xs (.of e2);rw[hx]at this;cases this;refine⟨Same.refl _,B,rx.keep f λb hb=>nW b (inF b (Al _ (sx.subset hb))),λb hb hw=>?_⟩;have hb':b∈a::F:=Al _ (sx.subset hb);rcases f.new b hw with h|h
 ·exact nW b (inF b hb') h
 ·obtain⟨ob,e3,_⟩:=rx.dom b hb;rw[h]at e3;cases e3
theorem Qvk{n:Int}:dlOf (.dik kvs) (.int n) k=oget (valD kvs (.inl n)) λv=>lsOf v k:=rfl
end
section
variable {q:Pos}
def Qxk(d:D)(k:List D->Prop):Prop:=match d with
 | .kls es=>Qm es=true/\k (Vk 0 es)
 |_=>False
theorem Qsw{es:List D}:Qxk (.kls es) k=(Qm es=true/\k (Vk 0 es)):=rfl
theorem SR0.sameH{K:Frag}{W:Addr->Prop}(r:SR0 K T z R H W σ ρ fp)(k:Same H H'):SR0 K T z R H' W σ ρ fp :=
 ⟨r.len,λa h=>(r.wd a h).imp λob q=>⟨k _ _ q.1,q.2⟩,λi d h=>(r.at_ i d h).imp λv q=>⟨q.1,q.2.same k⟩,r.own,r.ro,r.wr,λa h=>(r.rd a h).imp λob q=>⟨k _ _ q.1,q.2⟩,r.dis,r.fix⟩
end
end PV
namespace L2
open PySem PySem.Spec PyProof.Rows
open PySem.Sem (wp)
def DK(h h':Heap):Prop:=∀b o,h.get? b=some o->∃o',h'.get? b=some o'/\o'.dict=o.dict/\∀vs,o.data=.fields vs->∃vs':Array Value,o'.data=.fields vs'/\vs'[2]? = vs[2]?
structure KD{α:Type}(t:Sem α):Prop where
 out:∀(M:Model)(Γ:PySem.Ctx)(Q:α->Pos->Shared->Prop)(E:Value->Pos->Shared->Prop)(p:Pos)(s:Shared),wp M Γ t Q E p s->wp M Γ t (λa p' s'=>Q a p' s'/\DK s.heap s'.heap) (λe p' s'=>E e p' s'/\DK s.heap s'.heap) p s
end L2
namespace PV
open PySem PySem.Spec L2
open PyProof.Rows (envOfC)
abbrev XC:=D->Env->Prop
abbrev WX:=Env->(D->Env->Prop)->XC->Prop
abbrev WAX:=Env->(List D->Env->Prop)->XC->Prop
end PV
variable {w:Oo}{Q:Fg->Sw->Prop}{t:Dj}
namespace RV
open PySem PySem.Spec PyProof.Rows
theorem Qra:typeLookup (.type "reversed") "__len__" = pure none:=by rw[Ng,Fs];kernel_rfl
theorem Qie:typeLookup (.type "reversed") "__length_hint__" = pure (some (.builtin "reversed.__length_hint__")):=by rw[Ng,Fs];kernel_rfl
section
variable {A:Around}{s:Shared}
theorem Qx2(hh:A.handled=none)(r t:Addr)(hne:t≠r)(items:Array Value)(hz:items.size<=sizeLine) :
  Walks prog w A r [r,t] [r] items.size (LR.Back items) (λi h=>i<=items.size/\Vw h r t ((items.size:Int)-1-(i:Int))/\h.IsTuple t items) where
 sub:=λb hb=>by simp at hb;simp[hb]
 frame:=λ_ _ _ x hk=>⟨x.1,x.2.1.at λo e=>hk r (by simp) o e,let ⟨o,ho,hc,m,hd⟩:=x.2.2;⟨o,hk t (by simp) o ho,hc,m,hd⟩⟩
 item:=λi s Q E hi x hQ=>by
  have e:(items.size:Int)-1-(i:Int)=((items.size-1-i:Nat):Int):=by lia
  have hit:=x.2.1;rw[e]at hit;have hx:items[items.size-1-i]? = some (items[items.size-1-i]'(by omega)):=Bg (by lia);refine Ql8 hit x.2.2 hz hx λh' tk hit' hs'=>?_;have e2:((items.size-1-i:Nat):Int)-1=(items.size:Int)-1-((i+1:Nat):Int):=by lia
  rw[e2]at hit';exact hQ _ h' tk hx ⟨hi,hit',let ⟨o,ho,hc,m,hd⟩:=x.2.2;⟨o,(hs'.2 t hne).trans ho,hc,m,hd⟩⟩ λb o hb eo=>hs'.extBut b o (λh=>hb (by simp[h])) eo
 done:=λs Q E x hQ=>by
  have e:(items.size:Int)-1-(items.size:Int) = -1:=by lia
  have hit:=x.2.1;rw[e]at hit;exact Qpk hh hit λh' he'=>hQ h' s.toks λb o hb eo=>he' b o (λh=>hb (by simp[h])) eo
 self:=λ_ _ _ _ x hQ=>Qid x.2.1 hQ
theorem Qei:Slot "reversed" "__length_hint__" "reversed.__length_hint__" :=
 .of (owner:="reversed") (n:="__length_hint__") (by rw[Ng,Fs];kernel_rfl) (by decide +kernel) (by decide +kernel) (by decide +kernel)
  (by first|exact .inl (by decide +kernel)|exact .inr (by decide +kernel)) (by rw[Sc];kernel_rfl)
theorem Qjt:entryFor table "reversed.__length_hint__" = some Builtin.«reversed.__length_hint__»:=entryFor_of_tree (by kernel_rfl)
theorem Qn5(a:Value):argsOk "reversed.__length_hint__" ⟨[a],[]⟩:=by
 unfold argsOk;rw[Lv (id:="reversed.__length_hint__") (n:=['_','_','t','n','i','h','_','h','t','g','n','e','l','_','_']) (o:=['d','e','s','r','e','v','e','r']) (by kernel_rfl) Qa1];kernel_rfl
theorem Qnx(hz:items.size<=sizeLine)(hr:Vw s.heap r t ((items.size:Int)-1))(ht:s.heap.IsTuple t items)
  (q:∀tk u,Q (.int (items.size:Int) u) { s with toks:=tk }):wpAny (model prog w) A (call (.builtin "reversed.__length_hint__") [.ref r]) Q E s:=by
 obtain⟨o,ho,hc,hd⟩:=id hr;refine D7 Qei hr.ty Qjt ?_ (Qn5 _);unfold Builtin.«reversed.__length_hint__»;refine Ah (Nm (a:=Br r) rfl ?_);refine Ah (Me ho hd (x:=.ref t) rfl ?_);rw[if_neg (by simp)];refine Ah (K5 (show Ip s.heap t items from ht) (by rw[Md]at hz;lia) ?_);refine Ah (Nm (a:=some (items.size:Int)) rfl ?_);dsimp only;refine Ah (Me (s:=_) ho hd (x:=rawInt ((items.size:Int)-1)) rfl ?_);dsimp only[rawInt];rw[if_neg (by lia)];rw[show(items.size:Int)-1+1=(items.size:Int) by lia];exact wpAny_ret_mkInt (q _ _)
theorem Qpx{Q:Bool->Shared->Prop}(hz:items.size<=1000000)(hr:Vw s.heap r t ((items.size:Int)-1))(ht:s.heap.IsTuple t items)(q:∀b tk,Q b { s with toks:=tk }):wpAny (model prog w) A (Iq (.ref r)) Q E s:=by
 have ty:=hr.ty;unfold Iq;refine Ah (R0 ty Qra ?_);refine Sv (λz=>absurd z (by decide)) (λ_=>?_);refine Sv (λz=>absurd z (by decide)) (λ_=>?_);refine Ah (R0 ty Qie ?_);generalize hid:("reversed.__length_hint__":String)=id0
 wp_delta
 rw [show splitId id0=some ("reversed","__length_hint__")from by subst hid;decide +kernel];subst hid;refine Ah (Sf (T:="reversed") (b:=true) ty (by rw[Sc];kernel_rfl) ?_);refine Sv (λz=>absurd z (by decide)) (λ_=>?_);refine Sv (λz=>absurd z (by decide +kernel)) (λ_=>?_);refine Ah (Rc ?_);refine Ah (Nm (Qei.bind (.ref r)) ?_);dsimp only;refine Ah (Rl (Qnx (by rw[Md];lia) hr ht λtk u=>?_));dsimp only;generalize hk:(items.size:Int)=k;refine Ah (m:=asInt? (.int k u)) (As ?_);dsimp only;subst hk;have k1:Sm (items.size:Int)=true:=by
  unfold Sm;rw[B4,decide_eq_true_iff,decide_eq_true_iff];constructor<;>lia
 have k2:Nx (Int.toNat (items.size:Int))=false:=by
  unfold Nx;rw[Nf,Md];exact decide_eq_false (by lia)
 rw[if_neg (by rw[k1];decide),if_neg (by lia),if_neg (by rw[k2];decide)];exact As (q _ _)
theorem Qgo{Q:List Value->Shared->Prop}(hh:A.handled=none)(hz:items.size<=1000000)(hr:Vw s.heap r t ((items.size:Int)-1))(ht:s.heap.IsTuple t items)(hne:t≠r)
  (hQ:∀(h':Heap)(tk:Nat)(acc:Array Value),s.heap.objs.size<h'.objs.size->(∀b o,b≠r->s.heap.get? b=some o->h'.get? b=some o)->ItemsOf (LR.Back items) acc items.size->Q acc.toList { s with heap:=h',toks:=tk }):wpAny (model prog w) A (collect (.ref r)) Q E s:=by
 have hzl:items.size<=sizeLine:=by rw[Md];lia
 have lr:r<s.heap.objs.size:=let ⟨_,ho,_⟩:=hr;Bf ho
 have lt:t<s.heap.objs.size:=let ⟨_,ho,_⟩:=ht;Bf ho
 have Wk:=Qx2 (prog:=prog) (w:=w) (A:=A.in1) hh r t hne items hzl
 have out:s.heap.objs.size∉[r,t]:=by simp[D1 lr,D1 lt]
 have hSI:s.heap.objs.size≠r:=D1 lr
 have atT:∀{h:Heap},(∀o,s.heap.get? t=some o->h.get? t=some o)->h.IsTuple t items:=λ{h} k=>let ⟨o,ho,hc,m,hd⟩:=ht;⟨o,k o ho,hc,m,hd⟩
 unfold collect
 refine Ah (wpAny_runValue (Tx F.entry_proto_collect ?_))
 rw[Tz F.plain_proto_collect _]
 show wpAny _ A.in1 (newList [] >>= λl=>again (.builtin "list.__iadd__" ⟨[l,.ref r],[]⟩)) _ _ s
 refine Ah (Dv ?_)
 refine As ⟨Lx F.plain_list_iadd _,Tx F.entry_list_iadd ?_⟩
 rw[Tz F.plain_list_iadd _]
 have hS₁:(s.heap.push { cls:=.type "list",data:=.seq ([]:List Value).toArray }).get? s.heap.objs.size=some { cls:=.type "list",data:=.seq ([]:List Value).toArray }:=Bp _ rfl
 have h1:Kt (.ref s.heap.objs.size) (.ref r)=false:=by simp[Kt,hSI]
 have hr1:Vw (s.heap.push { cls:=.type "list",data:=.seq ([]:List Value).toArray }) r t ((items.size:Int)-1):=hr.at λo e=>An _ e
 have ht1:=atT (h:=s.heap.push { cls:=.type "list",data:=.seq ([]:List Value).toArray }) λo e=>An _ e
 show wpAny _ A.in1 (Sd (.ref s.heap.objs.size) (.ref r) (.ref s.heap.objs.size)) _ _ _
 unfold Sd
 refine Ah (Tq (T:="reversed") (hr1.ty) ?_)
 rw[if_neg (by rw[h1];decide)]
 refine Ah (Qid hr1 ?_)
 refine Ah (Nq (Qpx hz hr1 ht1 λb tk=>?_))
 have key:∀(h:Heap)(c₁ tk:Nat)(R:Result->Shared->Prop),Vw h r t ((items.size:Int)-1)->h.IsTuple t items->(∀b o,b≠s.heap.objs.size->s.heap.get? b=some o->h.get? b=some o) ->
   h.get? s.heap.objs.size=some { cls:=.type "list",data:=.seq #[] c₁ }->(∀h' tk acc c,(∀b o,b≠r->s.heap.get? b=some o->h'.get? b=some o)->h'.get? s.heap.objs.size=some { cls:=.type "list",dict:=none,data:=.seq acc c,slots:=#[] }->ItemsOf (LR.Back items) acc items.size->R (.ok (.ret (.ref s.heap.objs.size))) { s with heap:=h',toks:=tk }) ->
   codeAny (model prog w) A (.builtin "list.extend.loop" ⟨[.ref s.heap.objs.size,.ref r,.ref s.heap.objs.size],[]⟩) R { s with heap:=h,toks:=tk }:=by
  intro h c₁ tk R x1 x2 hk x3 q
  refine codeAny_extend_loopS Wk.toS hzl s.heap.objs.size out _ items.size 0 _ #[] c₁ rfl (Dx _) ⟨Dx _,by rw[show(items.size:Int)-1-((0:Nat):Int)=(items.size:Int)-1 by lia];exact x1,x2⟩ x3 (ItemsOf.nil _) λs' acc c mv x4 x5=>?_
  rw[Moved.eq_with mv]
  exact q s'.heap s'.toks acc c (λb o b2 e=>mv.heap b o (λz=>by
   rcases Ar.mp z with z|z
   ·exact absurd z (Bv (Bf e))
   ·exact b2 (Ap.mp z)) (hk b o (Bv (Bf e)) e)) x4 x5
 have fin:∀(h':Heap)(tk:Nat)(acc:Array Value)(c:Nat),(∀b o,b≠r->s.heap.get? b=some o->h'.get? b=some o)->h'.get? s.heap.objs.size=some { cls:=.type "list",dict:=none,data:=.seq acc c,slots:=#[] }->ItemsOf (LR.Back items) acc items.size ->
   wpAny (model prog w) A (do
    let o ← load s.heap.objs.size
    match o.data with
    | .seq xs _=>pure xs.toList
    |_=>unsupported "internal:collect") Q E { s with heap:=h',toks:=tk }:=λh' tk acc c k1 k2 k3=>Ah (wpAny_load k2 (As (hQ h' tk acc (Bf k2) k1 k3)))
 refine Sv (λ_=>?_) (λ_=>As ⟨Lx F.plain_extend_loop _,key _ _ _ _ hr1 ht1 (λb o _ e=>An _ e) hS₁ fin⟩)
 refine Ah (Rc ?_)
 refine Ah ?_
 show wpAny _ _ (updateSeq s.heap.objs.size (·.push .none) >>= λ_=>updateSeq s.heap.objs.size (·.pop)) _ _ _
 refine Ah (wpAny_updateSeq hS₁ rfl ?_)
 have y1:=M0 (Fz (·.push My)) hS₁ rfl
 refine wpAny_updateSeq (hz:=by seq_fits) y1 rfl ?_
 have y2:=M0 (Fz (·.pop)) y1 rfl
 have oth:∀b o,b≠s.heap.objs.size->s.heap.get? b=some o->(((s.heap.push { cls:=.type "list",data:=.seq ([]:List Value).toArray }).update s.heap.objs.size (Fz (·.push My))).update s.heap.objs.size (Fz (·.pop))).get? b=some o:=λb o hb e=>
  (Ms _ _ (Mk hb)).trans ((Ms _ _ (Mk hb)).trans (An _ e))
 exact As ⟨Lx F.plain_extend_loop _,key _ _ _ _ (hr.at λo e=>oth r o (Bv lr) e) (atT λo e=>oth t o (Bv lt) e) oth y2 fin⟩
theorem Qf9(hz:items.size<=1000000)(hne:t≠r):MeetsIn prog w (Builtin.«tuple.__new__» ⟨[.type "tuple",.ref r],[]⟩)
  (λA R s=>A.handled=none/\Vw s.heap r t ((items.size:Int)-1)/\s.heap.IsTuple t items/\∀(h':Heap)(tk:Nat)(acc:Array Value),s.heap.objs.size<h'.objs.size->(∀b o,b≠r->s.heap.get? b=some o->h'.get? b=some o)->ItemsOf (LR.Back items) acc items.size ->
   R (.ok (.ret (.ref h'.objs.size))) { s with heap:=h'.push { cls:=.type "tuple",data:=.seq acc },toks:=tk }) :=
 .of_wp λA R s h=>by
  obtain⟨hh,hr,ht,h⟩:=h;have hsub:=sub_tuple_self;have hinit:=init_tuple_lookup;have hmh:=madeHere_tuple;have hT:=hr.ty;have hh1:A.in1.handled=none:=hh;have hzl:items.size<=sizeLine:=by rw[Md];lia
  wp_walk using Tq hT,Qgo hh1 hz hr ht hne
  intro h' tk acc hsz hk hacc;show wpAny _ _ (M3 acc.toList.toArray >>= λv=>ret v) _ _ _;unfold M3;refine Ah (Dv ?_ (show acc.toList.toArray.size<=sizeLine by simp only[T0];rw[hacc.1];exact hzl));refine As ⟨_,rfl,?_⟩;have e:acc.toList.toArray=acc:=by simp
  rw[e];exact h h' tk acc hsz hk hacc
theorem Qjv(hh:A.handled=none)(hz:items.size<=1000000)(hr:Vw s.heap r t ((items.size:Int)-1))(ht:s.heap.IsTuple t items)(hne:t≠r)
  (h:∀(h':Heap)(tk:Nat)(acc:Array Value),s.heap.objs.size<h'.objs.size->(∀b o,b≠r->s.heap.get? b=some o->h'.get? b=some o)->ItemsOf (LR.Back items) acc items.size->Q (.ref h'.objs.size) { s with heap:=h'.push { cls:=.type "tuple",data:=.seq acc },toks:=tk }) :
  wpAny (model prog w) A (call (.type "tuple") [.ref r]) Q E s :=
 callType_newIn F.called_tuple (by decide) (F.typeCall_tuple_1 _) (F.newCall_tuple_1 _) (λobj=>Tv obj _) F.entry_tuple_new (Qf9 hz hne) ⟨hh,hr,ht,λh' tk acc hsz hk hacc=>⟨⟨_,Bp _ rfl,rfl⟩,h h' tk acc hsz hk hacc⟩⟩
end
end RV
namespace L2
open PySem PySem.Spec PyProof.Rows
def tTR(K:Frag)(ta:TA):TE:=λσ H Q=>ta σ H λvs H1=>∃a xs,vs=[.ref a]/\SqT K H1 a xs/\xs.length<=1000000/\∀l,H1 l=none->Q (.ref l) (upd H1 l (.tup xs.reverse))
theorem Qlp{p1 pos2:Pos}(hc:X.calm=true)(hg:Gl X "reversed")(hm:X.mg "reversed" = none)(hg2:Gl X "tuple")(hm2:X.mg "tuple" = none)(ha:PA X [a] ta)(hs:starEach [a] X.env=[(false,eval a X.env)]:=by rfl)
  (hs2:starEach [.Call (.Name "reversed" p2) [a] [] pos2] X.env=(false,eval (.Call (.Name "reversed" p2) [a] [] pos2) X.env)::starEach [] X.env:=by rfl) :
  PE X (.Call (.Name "tuple" p1) [.Call (.Name "reversed" p2) [a] [] pos2] [] pos) (tTR X.K ta):=by
 intro pins s σ H Q I h;refine Nu (Qba I hg2 hm2 (by rfl) (Mj ?_ hs2 rfl));rw[hs2];show wpAny _ _ (spliced ((false,eval (.Call (.Name "reversed" p2) [a] [] pos2) X.env)::backTo pos (starEach [] X.env))) _ _ s;refine Ry ?_;refine Call_ (Qba I hg hm RV.boot (Mj (thn (ha pos2 pins s σ H _ I h) λus s1 ⟨vs,H1,I1,r1,q1⟩=>?_) hs rfl));obtain⟨t,xs,e,hq,hx,q⟩:=q1;subst e;obtain⟨u,rfl,ru⟩:=Vals.one r1;cases ru;obtain⟨its,rv,pd,hz⟩:=I1.tuple hq;have hl:=rv.length;have il:s1.heap.IsTuple t its.toArray:=pd;have hz2:its.toArray.size<=1000000:=by simp;lia
 refine RV.Qqb (items:=its.toArray) (by rw[Md];lia) il λtk=>?_;refine S9 ?_;have lt:t<s1.heap.objs.size:=let ⟨_,ho,_⟩:=il;Bf ho;refine RV.Qjv (s:={ s1 with heap:=s1.heap.push (RV.rObj t ((its.toArray.size:Int)-1)),toks:=tk }) (I1.ok.hd hc) hz2 ⟨_,Bp _ rfl,rfl,rfl⟩ (let ⟨o,ho,hc,m,hd⟩:=il;⟨o,An _ ho,hc,m,hd⟩) (Bv lt) λh' tk' acc hs' kp hacc=>?_;obtain⟨hsz,hit⟩:=hacc;have rv2:Vals xs.reverse acc.toList:=Qkk rv (by rw[De,hsz];simp) λj v e=>by
  have:=hit j v (by simpa using e);simpa[LR.Back]using this
 have sz:(s1.heap.push (RV.rObj t ((its.toArray.size:Int)-1))).objs.size=s1.heap.objs.size+1:=by simp[Heap.push]
 have le:s1.heap.objs.size<=h'.objs.size:=by
  have:(s1.heap.push (RV.rObj t ((its.toArray.size:Int)-1))).objs.size<h'.objs.size:=hs';lia
 refine⟨.ref _,_,I1.laid (o:=.tup xs.reverse) (t':=tk') (λb o e=>An _ (kp b o (Bv (Bf e)) (An _ e))) le ?_,rfl,q _ (I1.hok.fresh le)⟩;exact⟨by rw[L4];lia,acc.toList,rv2,by rw[T0];exact⟨_,Bp _ rfl,rfl,_,rfl⟩⟩
end L2
namespace PV
open PySem PySem.Spec L2
def Qwp(d:D)(k:List D->Prop):Prop:=match d with
 | .lst xs=>k xs
 |_=>False
def Qkd(i j:Nat)(wv:WE):WS:=λP ρ=>wv ρ λd ρ1=>oget (look ρ1 i) λs=>Qwp s λxs=>j<xs.length/\P.nx (ρ1.set i (some (.lst (xs.set j d))))
theorem Qle:Qwp (.lst xs) k=k xs:=rfl
theorem Qoh{v:Expr}{j1:Nat}{p1:Pos}(hv:EV X T m1 true v wv)(ht:T.own i=true:=by rfl)(hN:X.N[i]? = some x:=by rfl)
  (hvis:Vis X.env.scope x:=by first|exact Ds rfl|exact B9 (Ds rfl)|exact B9 (B9 rfl)) (hd:(x==("__debug__":Str))=false:=by decide) (hcd:(x==("__classdict__":Str))=false:=by decide)
  (ha:∀v,assign (.Subscript (.Name x px) (.Constant (.int (j:Int)) j1 p1) ps') X.env v=(do
   let ov ← holding [v] (eval (.Name x px) X.env)
   let iv ← holding [v,ov] (eval (.Constant (.int (j:Int)) j1 p1) X.env)
   standAt ps'
   holding [v,ov,iv] (setItem ov iv v)
   release [v,ov,iv] []):=by intro _;rfl) (hs:swapsWithSole [.Subscript (.Name x px) (.Constant (.int (j:Int)) j1 p1) ps'] v pos.line X.env=pure false:=by rfl) (hw:swappedStores [.Subscript (.Name x px) (.Constant (.int (j:Int)) j1 p1) ps'] v X.env=pure none:=by rfl)
  (h1:(assignEach [.Subscript (.Name x px) (.Constant (.int (j:Int)) j1 p1) ps'] X.env).map (·.2)=[assign (.Subscript (.Name x px) (.Constant (.int (j:Int)) j1 p1) ps') X.env]:=by rfl):SV X T (.Assign [.Subscript (.Name x px) (.Constant (.int (j:Int)) j1 p1) ps'] v pos) (Qkd i j wv):=by
 obtain⟨tv,pv,gv⟩:=hv
 refine⟨_,Qhr pv (Qht (Yc hN hvis hd hcd) Qlq Qcw ha) hs hw h1,λz R σ H W ρ P E s hw l=>?_⟩
 refine gv z R σ H W ρ _ _ s hw λv1 H1 W1 d ρ1 F1 p q=>?_
 obtain⟨ndF,oF⟩:=p.own rfl
 obtain⟨d1,hl,q⟩:=Qi q
 obtain⟨fp,s2⟩:=id p.sr
 obtain⟨u,hu2,ru⟩:=s2.at_ i d1 hl
 obtain⟨nd,sw⟩:=s2.own i d1 hl ht
 match d1,ru,q,hl with
 | .lst ds,ru,q,hl=>
 obtain⟨hlt,hq⟩:=q
 obtain⟨a,xs,G,rfl,hF,e,r⟩:=ru.iLst
 rw[hF]at nd sw
 obtain⟨na,ndG⟩:=Bd.mp nd
 have hWa:=sw a Ak
 have naF:a∉F1:=λh=>(oF a h).2 hWa
 obtain⟨dn,hdn⟩:∃dn,ds[j]? = some dn:=⟨ds[j],Bo hlt⟩
 obtain⟨y,A,B,C,hy,hG,rB,rA,rC⟩:=r.split hdn
 have sub:=sub3 hG
 have nAC:a∉A++C:=λh=>na (sub.subset h)
 have hxl:j<xs.length:=by rw[r.length];exact hlt
 have hin:ixN xs.length (j:Int)=some j:=Gh hxl
 refine⟨_,hu2,a,xs,(j:Int),j,rfl,rfl,e,hin,?_⟩
 have ndAC:(A++C).Nodup:=ndG.sublist sub
 have ndAll:(A++(F1++C)).Nodup:=by
  rw[Dm]at ndAC
  obtain⟨n1,n2,n3⟩:=ndAC
  have f1:∀b∈A++C,b∉F1:=λb hb h=>(oF b h).2 (sw b (Al _ (sub.subset hb)))
  refine Dm.mpr ⟨n1,Dm.mpr ⟨ndF,n2,λb hb c hc e=>f1 c (Aj.mpr (.inr hc)) (e ▸ hb)⟩,λb hb c hc e=>?_⟩
  rcases Aj.mp hc with h|h
  ·exact f1 b (Aj.mpr (.inl hb)) (e ▸ h)
  ·exact n3 b hb c h e
 have hrep:Rep X.K (upd H1 a (.lst (xs.set j v1))) (.lst (ds.set j d)) (.ref a) (a::(A++(F1++C))):=by
  refine .lst Qf ?_
  rw[Y0 hlt,Y0 hxl]
  exact(rA.upd e rfl (λh=>nAC (Aj.mpr (.inl h)))).append (.cons (p.rep.upd e rfl naF) (rC.upd e rfl λh=>nAC (Aj.mpr (.inr h))))
 have naAll:a∉A++(F1++C):=λh=>by
  rcases Aj.mp h with h|h
  ·exact nAC (Aj.mpr (.inl h))
  ·rcases Aj.mp h with h|h
   ·exact naF h
   ·exact nAC (Aj.mpr (.inr h))
 have wh:∀b∈a::(A++(F1++C)),b∈a::G\/b∈F1:=λb hb=>by
  rcases Ar.mp hb with rfl|hb
  ·exact .inl Ak
  ·rcases Aj.mp hb with h|h
   ·exact .inl (Al _ (sub.subset (Aj.mpr (.inl h))))
   ·rcases Aj.mp h with h|h
    ·exact .inr h
    ·exact .inl (Al _ (sub.subset (Aj.mpr (.inr h))))
 refine l.nx R σ _ _ _ (s2.write hl ht hu2 (by rw[hF];exact Ak) Q8 ⟨_,Qf,rfl⟩ hrep (Bd.mpr ⟨naAll,ndAll⟩) λb hb=>?_) (p.fr.write hWa (s2.wd a hWa) Q8 ⟨_,Qf,rfl⟩ λb hb=>?_) hq
 ·rcases wh b hb with h|h
  ·exact .inl (by rw[hF];exact h)
  ·exact .inr ⟨(oF b h).2,s.nr (oF b h).1⟩
 ·rcases wh b hb with h|h
  ·exact .inl (sw b h)
  ·exact .inr (oF b h).1
def hdOf(d:D)(k:List D->List D->Prop):Prop:=match d with
 | .lst (.lst xs::ds)=>k xs ds
 |_=>False
theorem Qw8{k:List D->List D->Prop}(h:hdOf d k):∃xs ds,d=.lst (.lst xs::ds)/\k xs ds:=by
 unfold hdOf at h
 split at h
 ·exact⟨_,_,rfl,h⟩
 ·exact h.elim
def wTkH(i:Nat)(we:WE):WS:=λP ρ=>oget (look ρ i) λd=>hdOf d λxs ds=>Qm xs=true/\xs.length<sizeLine/\we ρ λe _=>e.pure=true/\P.nx (ρ.set i (some (.lst (.lst (xs++[e])::ds))))
theorem Qvj{k:List D->List D->Prop}:hdOf (.lst (.lst xs::ds)) k=k xs ds:=rfl
theorem Quv{j1}{p1:Pos}(he:EV X T false o1 e we)(ht:T.own i=true:=by rfl)(hN:X.N[i]? = some x:=by rfl)
  (hvis:Vis X.env.scope x:=by first|exact Ds rfl|exact B9 (Ds rfl)|exact B9 (B9 rfl)) (hd:(x==("__debug__":Str))=false:=by decide) (hcd:(x==("__classdict__":Str))=false:=by decide) (hs1:Qbq (.Constant (.int 0) j1 p1):=by intro _ _;rfl)
  (b2:attributeBase (.Subscript (.Name x p) (.Constant (.int 0) j1 p1) ps1) "append" X.env (eval (.Subscript (.Name x p) (.Constant (.int 0) j1 p1) ps1) X.env)=eval (.Subscript (.Name x p) (.Constant (.int 0) j1 p1) ps1) X.env:=by rfl)
  (f2:((backTo cp2 (starEach [e] X.env)).all (λx=>!x.1)&&(backToKw cp2 (keywordEach [] X.env)).all (λx=>x.1.isSome)
   && decide (([e]:List Expr).length+([]:List Keyword).length+(if ([]:List Keyword).isEmpty then 0 else 1)<30))=true:=by rfl)
  (l2:(ap2.endLine==cp2.line)=true:=by rfl) (s2:starEach [e] X.env=(false,eval e X.env)::starEach [] X.env:=by rfl) (q2:(backTo cp2 (starEach [] X.env)).any (·.1)=false:=by rfl)
  (hs:swapsWith (.Call (.Attribute (.Subscript (.Name x p) (.Constant (.int 0) j1 p1) ps1) "append" ap2) [e] [] cp2) none pos.line X.env=pure false:=by rfl) :
  SV X T (.Expr (.Call (.Attribute (.Subscript (.Name x p) (.Constant (.int 0) j1 p1) ps1) "append" ap2) [e] [] cp2) pos) (wTkH i we):=by
 obtain⟨te,pe,ge⟩:=he;refine⟨_,Qaz (Qjc Mm M7 M8 Vq (Qo6 Qmo (Yc hN hvis hd hcd) Qlq hs1) (Z5 pe Xs s2) b2 f2 l2 s2 q2) hs,λz R σ H W ρ P E s hw l=>?_⟩;obtain⟨sd,hl0,hw⟩:=Qi hw;obtain⟨xs,ds,rfl,hpx,hz,hw⟩:=Qw8 hw;obtain⟨fp,s0⟩:=id s;obtain⟨v0,hv0,r0⟩:=s0.at_ i _ hl0;obtain⟨nd0,sw0⟩:=s0.own i _ hl0 ht;obtain⟨tp,vs,G,rfl,hF,e1,r⟩:=r0.iLst;cases r with
 | @cons _ v _ us F1 F2 ra rb=>
  obtain⟨l0,ys,F3,rfl,rfl,e2,r3⟩:=ra.iLst;obtain⟨z3,r3⟩:=r3.pure hpx;subst z3;have hm:l0∈fp i:=by rw[hF];simp
  rw [hF]at nd0;have n1:tp≠l0:=λz=>(Bd.mp nd0).1 (by rw[z];simp);have n2:l0∉F2:=by
   have:=(Bd.mp nd0).2;simp only[Bz,B5]at this;exact(Bd.mp this).1
  have hWl:=sw0 l0 hm;refine⟨_,hv0,tp,_,0,.ref l0,rfl,rfl,.of e1,Qbo (j:=0) rfl,.inl ⟨rfl,_,.of e2⟩,ge z R σ H W ρ _ _ s hw λve H1 W1 d1 ρ1 F1 pp q1=>?_⟩;obtain⟨hpe,qn⟩:=q1;obtain⟨sm,hW1,hρ1⟩:=pp.calm rfl;subst hW1 hρ1;obtain⟨-,re⟩:=pp.rep.pure hpe;have e2':=sm _ _ e2;refine⟨l0,ys,ve,rfl,rfl,e2',by rw[r3.length];exact hz,?_⟩;have hrep:Rep X.K (upd H1 l0 (.lst (ys++[ve]))) (.lst (.lst (xs++[d1])::ds)) (.ref tp) (tp::([l0]++F2)):=by
   refine .lst (by rw[Ql n1];exact sm _ _ e1) (.cons (.lst (F:=[]) Qf ?_) ((rb.same sm).upd e2' rfl n2));exact Reps.append (F:=[]) (G:=[]) ((r3.same sm).upd e2' rfl (by simp)) (Reps.one (re.upd e2' rfl (by simp)))
  have s1:SR0 X.K T z R H1 W1 σ ρ1 fp:=s0.sameH sm;have sF:=s1.write hl0 ht hv0 hm Q8 ⟨_,Qf,rfl⟩ hrep nd0 (λa ha=>.inl (by rw[hF];exact ha));have fF:=pp.fr.write hWl (s1.wd l0 hWl) (H':=upd H1 l0 (.lst (ys++[ve]))) Q8 ⟨_,Qf,rfl⟩ (F':=tp::([l0]++F2)) (λa ha=>.inl (sw0 a (by rw[hF];exact ha)));exact l.nx R σ _ _ _ sF fF qn
def Qp6:GA
 | [.tup ds],k=>Qm ds=true/\ds.length<=1000000/\k (.tup ds.reverse)
 |_,_=>False
theorem Qe7{p3 p4 pos2:Pos}(hm:X.mg "reversed" = none)(hm2:X.mg "tuple" = none)(ha:AV X T m o [a] wr)(hg:Gl X "reversed":=by rfl)(hg2:Gl X "tuple":=by rfl)(hc:X.calm=true:=by rfl)(hs:starEach [a] X.env=[(false,eval a X.env)]:=by rfl)
  (hs2:starEach [.Call (.Name "reversed" p4) [a] [] pos2] X.env=(false,eval (.Call (.Name "reversed" p4) [a] [] pos2) X.env)::starEach [] X.env:=by rfl) :
  EV X T m true (.Call (.Name "tuple" p3) [.Call (.Name "reversed" p4) [a] [] pos2] [] pos) (Qq Qp6 wr):=by
 obtain⟨ta,pa,ga⟩:=ha;refine⟨_,Qlp hc hg hm hg2 hm2 pa hs hs2,λz R σ H W ρ Q Q' s hw k=>?_⟩;refine ga z R σ H W ρ _ _ s hw λvs H1 W1 ds ρ1 F p q=>?_
 match ds,p,q with
 | [.tup es],p,q=>
  obtain⟨hp,hz,q⟩:=q;obtain⟨v,rfl,rd⟩:=p.rep.at1;obtain⟨a1,xs,rfl,e1,r9⟩:=rd.iTup;obtain⟨_,r9⟩:=r9.pure hp;refine⟨a1,xs,rfl,.of e1,by rw[r9.length];exact hz,λl hl=>?_⟩;exact k _ _ W1 (.tup es.reverse) ρ1 [] (Post.fin p.sr p.fr p.calm (Qo hl) (.tup Qf (r9.back.same (Qo hl))) (by simp) λb mb=>nomatch mb) q
theorem Qhp{k:D->Prop}:Qp6 [.tup ds] k=(Qm ds=true/\ds.length<=1000000/\k (.tup ds.reverse)):=rfl
end PV
variable {g:PV.GI}
namespace PV
open PySem PySem.Spec L2
open PyProof.Rows (envOfC)
def Qpn(d:D)(k:List D->Prop):Prop:=match d with
 | .lst xs=>k xs
 |_=>False
theorem Qtu(h:Qpn d k):∃xs,d=.lst xs/\k xs:=by
 unfold Qpn at h
 split at h
 ·exact⟨_,rfl,h⟩
 ·exact h.elim
noncomputable def spD0(K:Frag)(g:GI):Sp:=λvs H Q _=>∃(d0:D)(post:List D)(a:Addr)(ys:List V)(F:List Addr)(k:D->D->Prop),vs=.ref a::ys/\Rep K H d0 (.ref a) F/\F.Nodup/\Reps K H post ys []/\g (d0::post) k /\
 ∀v H' d d' G,Rep K H' d' (.ref a) G->G.Nodup->(∀b∈G,b∈F\/H b=none)->Rep K H' d v []->(∀b o,H b=some o->b∉F->H' b=some o)->(∀b,H' b=none->H b=none)->k d d'->Q v H'
theorem SR0.writes{K:Frag}{W:Addr->Prop}{d':D}(s:SR0 K T z R H W σ ρ fp)
  (hl:look ρ i=some d) (ht:T.own i=true) (hv:σ[i]? = some (some v)) (hk:∀b u,H b=some u->b∉fp i->H' b=some u) (r:Rep K H' d' v F') (nd:F'.Nodup)
  (sub:∀a∈F',a∈fp i\/H a=none):SR K T z R H' (λa=>(W a/\a∉fp i)\/a∈F') σ (ρ.set i (some d')):=by
 have hW:=(s.own i d hl ht).2;have hi:ImmK H H':=λb ob' e im=>hk b _ e λz=>by
  obtain⟨ol,e1,e2⟩:=s.wd b (hW b z);rw[e1]at e;cases e;rw[e2]at im;cases im
 have nR:∀{a},a∈F'->¬R a:=λ{a} ha hr=>by
  rcases sub a ha with h|h
  ·exact s.wr a (hW a h) hr
  ·obtain⟨ob,e,_⟩:=s.rd a hr;rw[h]at e;cases e
 have nW:∀{a},a∈F'->a∉fp i->¬W a:=λ{a} ha hn hw=>by
  rcases sub a ha with h|h
  ·exact hn h
  ·obtain⟨ob,e,_⟩:=s.wd a hw;rw[h]at e;cases e
 refine⟨λj=>if j=i then F' else fp j,?_,?_,?_,?_,?_,?_,?_,?_,s.fix⟩
 ·rw[Dw];exact s.len
 ·intro a ha;rcases ha with⟨ha,hn⟩|ha
  ·exact(s.wd a ha).imp λob q=>⟨hk a ob q.1 hn,q.2⟩
  ·exact r.dom a ha
 ·intro j e hj;by_cases hji:j=i
  ·subst hji;rw[Z6 (Us hl)]at hj;cases hj;exact⟨v,hv,by rw[if_pos rfl];exact r⟩
  ·rw[Qr hji]at hj;obtain⟨u,h1,h2⟩:=s.at_ j e hj;refine⟨u,h1,?_⟩;rw[if_neg hji];refine h2.frame hi λa ha=>?_;obtain⟨oa,e1,_⟩:=h2.dom a ha;rw[e1];refine hk a _ e1 λz=>?_;cases hto:T.own j with
   |true=>exact s.dis i j d e hl hj ht hto (λz=>hji z.symm) _ z ha
   |false=>exact s.wr _ (hW a z) (s.ro j e hj hto _ ha)
 ·intro j e hj hto;by_cases hji:j=i
  ·subst hji;simp only[if_pos];exact⟨nd,λa h=>.inr h⟩
  ·rw[Qr hji]at hj;simp only[if_neg hji];exact⟨(s.own j e hj hto).1,λa h=>.inl ⟨(s.own j e hj hto).2 a h,λz=>s.dis i j d e hl hj ht hto (λz=>hji z.symm) a z h⟩⟩
 ·intro j e hj hto;have hji:j≠i:=λz=>by subst z;rw[ht]at hto;cases hto
  rw[Qr hji]at hj;simp only[if_neg hji];exact s.ro j e hj hto
 ·intro a ha hr;rcases ha with ha|ha
  ·exact s.wr a ha.1 hr
  ·exact nR ha hr
 ·intro a hr;exact(s.rd a hr).imp λob q=>⟨hk a ob q.1 λz=>s.wr _ (hW a z) hr,q.2⟩
 ·intro j k e e' hj hk' tj tk hne a ha ha';by_cases hji:j=i
  ·subst hji;have hkj:k≠j:=λz=>hne z.symm;rw[Qr hkj]at hk';simp only[if_pos,if_neg hkj]at ha ha';rcases sub a ha with h|h
   ·exact s.dis j k d e' hl hk' ht tk hne a h ha'
   ·obtain⟨ob,e1,_⟩:=s.wd a ((s.own k e' hk' tk).2 a ha');rw[h]at e1;cases e1
  ·rw [Qr hji]at hj;simp only[if_neg hji]at ha;by_cases hki:k=i
   ·subst hki;simp only[if_pos]at ha';rcases sub a ha' with h|h
    ·exact s.dis j k e d hj hl tj ht hne a ha h
    ·obtain⟨ob,e1,_⟩:=s.wd a ((s.own j e hj tj).2 a ha);rw[h]at e1;cases e1
   ·rw[Qr hki]at hk';simp only[if_neg hki]at ha';exact s.dis j k e e' hj hk' tj tk hne a ha ha'
section
variable {k:Nat}
def U3(i:Nat)(g:GI)(wi:WI):WE:=λρ Q=>wi ρ λpre post ρ1=>pre=[]/\oget (look ρ1 i) λd0=>Qpn d0 λ_=>g (d0::post) λd d'=>d.pure=true/\Q d (ρ1.set i (some d'))
theorem Qdr{wi:WI}(C:Cal X.prog X.w X.K X.mg X.base x k ps (spD0 X.K g))(hr:Room k X.A)(ha:AI X T m i 0 (e::es) wi)(ht:T.own i=true:=by rfl)(hg:Gl X x:=by rfl)
  (hdb:(x==("__debug__":Str))=false:=by decide) (he:starEach (e::es) X.env=(false,eval e X.env)::starEach es X.env:=by rfl) (hpl:(backTo pos (starEach es X.env)).any (·.1)=false:=by rfl) :
  EV X T true true (.Call (.Name x p) (e::es) [] pos) (U3 i g wi):=by
 obtain⟨f,fd,F,hm,hk,hb⟩:=C;obtain⟨ta,pa,ga⟩:=ha;refine⟨_,Qls F hr hg hm hk hb .nil Qvy pa hdb he hpl,λz R σ H W ρ Q Q' s hw k=>?_⟩;refine ga z R σ H W ρ _ _ s hw λv xs ys H1 W1 pre post ρ1 p hv rp rq hl q=>?_;obtain⟨rfl,q⟩:=q;obtain⟨d0,hd,q⟩:=Qi q;obtain⟨ds,rfl,q⟩:=Qtu q;cases rp;obtain⟨fp,s1⟩:=id p.sr;obtain⟨v',hv',r0⟩:=s1.at_ i _ hd;have:v'=v:=by rw[hv]at hv';cases hv';rfl
 subst this;obtain⟨a,us,G0,rfl,hF,e1,r1⟩:=r0.iLst;obtain⟨nd,sw⟩:=s1.own i _ hd ht;refine⟨.lst ds,post,a,ys,fp i,_,by simp,r0,nd,rq,q,λv H' d d' G rd' ndG subG rd kp dm hk=>?_⟩;obtain⟨hpd,hk⟩:=hk;have sN:=s1.writes (H':=H') hd ht hv' kp rd' ndG subG;have fN:FrW H W H' λa=>(W1 a/\a∉fp i)\/a∈G:=by
  refine⟨λb ob e n=>kp b ob (p.fr.keep b ob e n) λz=>?_,λb hb=>p.fr.dom b (dm b hb),λb ob e im=>kp b ob (p.fr.imm b ob e im) λz=>?_,λb hb=>?_⟩
  ·rcases p.fr.new b (sw b z)with h|h
   ·exact n h
   ·rw[h]at e;cases e
  ·obtain⟨o1,q1,q2⟩:=s1.wd b (sw b z);have:=p.fr.imm b ob e im;rw[q1]at this;cases this;rw[q2]at im;cases im
  ·rcases hb with hb|hb
   ·exact p.fr.new b hb.1
   ·rcases subG b hb with h|h
    ·exact p.fr.new b (sw b h)
    ·exact .inr (p.fr.dom b h)
 exact k v H' _ d _ [] ⟨sN,fN,(λh=>nomatch h),rd,λ_=>⟨D8,λb hb=>nomatch hb⟩⟩ hk
end
section
variable {K:Frag}{k:Nat}
theorem Qm2(F:Fun K x qual st f fd)(S:FnScope N ps (Qc st))(hio:T.io=[0])(hown:T.own 0=true)(hg:∀ds kk,g ds kk->ds.length=ps.length)
  (hb:∀(cdv:Value)(A:Around)(outer:List Do)(s:Shared)(H:Hp)(E:XK),Room k (A.deeper (envOfC qual (Qc st) s.heap.objs.size f cdv))->SVs (cxOf CX0 P w K mg base N qual (Qc st) f cdv A outer s H E).nox T (Qs st) ww)
  (hr:∀ds kk,g ds kk->ww { nx:=λρ=>oget (look ρ 0) λd'=>kk .non d',rt:=λd ρ=>oget (look ρ 0) λd'=>d.pure=true/\kk d d' } (env0 N ds)):FnOk P w K mg base CX0 (k+1) f fd ps (spD0 K g):=by
 refine F.ok S (λvs H Q E h=>?_) (λcdv A outer s H vs Q E hroom h=>?_)
 ·obtain⟨d0,post,a,ys,Fo,kk,rfl,r0,nd,rp,hgk,_⟩:=h;have:=hg _ kk hgk;rw[Am]at this ⊢;rw[rp.length];exact this
 ·obtain ⟨d0,post,a,ys,Fo,kk,rfl,r0,nd,rp,hgk,q⟩:=h;obtain⟨ts,pts,gts⟩:=hb cdv A outer s H E hroom;have hl:=rp.length;have oth:∀i d,i≠0->(d0::post)[i]? = some d->∃v,(V.ref a::ys)[i]? = some v/\Rep K H d v []:=λi d hne hd=>by
   cases i with
   |zero=>exact absurd rfl hne
   | succ i=>
    obtain⟨v,B,h1,h2,h3⟩:=rp.get (i:=i) hd;have:=M6.mp h3;subst this;exact⟨v,h1,h2⟩
  have fin:∀R' v σ' H' W' ρ' d,SR K T (λ_=>.ref a) R' H' W' σ' ρ'->FrW H (λb=>b∈Fo) H' W'->Rep K H' d v []->(oget (look ρ' 0) λd'=>kk d d')->Q v H':=λR' v σ' H' W' ρ' d s' fr r hk=>by
   obtain⟨d',hl',hk⟩:=Qi hk;obtain⟨fp,s0⟩:=s';obtain⟨u,hu,ru⟩:=s0.at_ 0 d' hl';have hfx:=s0.fix 0 (by rw[hio];exact Ap.mpr rfl);rw[hu]at hfx;cases hfx;obtain⟨n1,n2⟩:=s0.own 0 d' hl' hown;exact q v H' d d' (fp 0) ru n1 (λb hb=>fr.new b (n2 b hb)) r (λb o e hne=>fr.keep b o e hne) fr.dom hk
  refine⟨ts,pts,gts (λ_=>.ref a) (λb=>b∉Fo/\Any H b) (L2.start N (V.ref a::ys)) H (λb=>b∈Fo) (env0 N (d0::post)) _ _ ⟨λi=>if i=0 then Fo else [],?_,?_,?_,?_,?_,?_,?_,?_,?_⟩ (hr _ kk hgk) ⟨?_,?_,?_,?_,λ_ _ _ _ _ _ _ _ hk=>hk.elim⟩⟩
  ·unfold env0 L2.start;simp[hl]
  ·exactλb hb=>r0.dom b hb
  ·intro i d hli;unfold env0 at hli;rw[Zv]at hli;by_cases hip:i=0
   ·subst hip;cases hli;exact⟨.ref a,Vl rfl,by rw[if_pos rfl];exact r0⟩
   ·obtain⟨v,h1,h2⟩:=oth i d hip hli;exact⟨v,Vl h1,by rw[if_neg hip];exact h2⟩
  ·intro i d _ _;by_cases hip:i=0
   ·rw[if_pos hip];exact⟨nd,λb hb=>hb⟩
   ·rw[if_neg hip];exact⟨by simp,λb hb=>nomatch hb⟩
  ·intro i d _ ht b hb;have hip:i≠0:=λz=>by subst z;rw[hown]at ht;cases ht
   rw[if_neg hip]at hb;cases hb
  ·exactλb hb h=>h.1 hb
  ·exactλb h=>h.2
  ·intro i j d e _ _ _ _ hne b hb hb';by_cases hip:i=0
   ·have hjp:j≠0:=λz=>hne (hip.trans z.symm);rw[if_neg hjp]at hb';cases hb'
   ·rw[if_neg hip]at hb;cases hb
  ·intro i hi;rw[hio]at hi;rw[Ap.mp hi];exact Vl rfl
  ·exactλR' σ' H' W' ρ' s' fr hk=>fin R' .non σ' H' W' ρ' .non s' fr .non hk
  ·exactλR' σ' H' W' ρ' s' fr hk=>hk.elim
  ·exactλR' σ' H' W' ρ' s' fr hk=>hk.elim
  ·intro R' v σ' H' W' ρ' d F' s' fr r nd nw hk;obtain⟨d',hl',hpd,hk⟩:=Qi hk;exact fin R' v σ' H' W' ρ' d s' fr (r.pure hpd).2 (by rw[hl'];exact hk)
end
end PV
namespace L2
open PySem PySem.Spec PyProof.Rows
def Qyk(K:Frag):List V->Hp->VK->Prop:=λxs H Q=>∃(l:Addr)(ns:List Int),xs=[.ref l]/\SqL K H l (ns.map V.int)/\Q (.int ns.sum) H
theorem Qnu(hc:X.calm=true):Uz X (.builtin "sum") (Qyk X.K):=by
 intro pins s σ H xs us Q I r h;obtain⟨l,ns,rfl,hl,q⟩:=h;obtain⟨u,rfl,ru⟩:=Qbr r;cases ru;obtain⟨its,rv,pd,hz⟩:=I.list hl;have hi:=Qae rv;have hlist:s.heap.IsList l its.toArray:=pd.isList;obtain⟨xs,hx⟩:=hi.allInts.items;have hns:ns=xs.toList.map (·.1):=by
  have h1:=hi.numsOf;have h2:its=(intItems xs).toList:=by rw[← hx]
  rw[h2,nums_intItems]at h1;exact h1.symm
 rw[hx]at hlist;refine sum_intListG (I.ok.hd hc) hlist λh' tk t' hk=>?_;refine⟨.int ns.sum,H,I.kept hk,⟨t',?_⟩,q⟩;rw[preSum_eq,Dc (by simp),hns]
end L2
variable {k:PV.D->Prop}
namespace PV
open PySem PySem.Spec L2
section
variable {w:WE}
def Qub:GA
 | [.kls ds],k=>∃ns:List Int,ds=ns.map D.int/\k (.int ns.sum)
 |_,_=>False
theorem Quf(hc:X.calm=true):Qfo X (.builtin "sum") Qub:=by
 refine⟨_,Qnu hc,λH ds xs F k Q r g q=>?_⟩
 match ds,r,g with
 | [.kls es],r,g=>
  obtain⟨v,rfl,rd⟩:=r.at1;obtain⟨ns,rfl,g⟩:=g;obtain⟨a,ys,rfl,rfl,e1,r9⟩:=rd.iKls;obtain⟨rfl,_⟩:=r9.of_ints;exact⟨_,ns,rfl,e1.sq,q _ _ _ _ (.flat (.int _)) g⟩
theorem Qoq:Qub [.kls (ns.map D.int)] k=k (.int ns.sum):=by
 refine propext ⟨λ⟨ns',h,q⟩=>?_,λh=>⟨ns,rfl,h⟩⟩;have:ns=ns':=(List.map_inj_right λx y z=>by injection z).mp h;rw[this];exact q
def Qkh(w:WE):WL:=λρ Q=>w ρ λd ρ'=>Qxk d λl=>Q l ρ'
theorem Qpv(hm:X.mg "enumerate" = none)(he:EV X T m o e w)(hg:Gl X "enumerate":=by rfl)(hs:starEach [e] X.env=[(false,eval e X.env)]:=by rfl)(hs2:starEach [e] X.env=(false,eval e X.env)::starEach [] X.env:=by rfl) :
  IV X T m true (.Tuple ts kt pt) (.Call (.Name "enumerate" p) [e] [] pos) (Qkh w):=by
 obtain⟨te,pe,ge⟩:=he;refine⟨_,Qo3 hg hm (Z5 pe Xs hs2) hs,λz R σ H W ρ Q RR s hw k=>?_⟩;refine ge z R σ H W ρ _ _ s hw λv H1 W1 d ρ1 F p q=>?_;cases d with
 | kls es=>
  obtain⟨hp,q⟩:=q;obtain⟨a,xs,rfl,_,e1,r⟩:=p.rep.iKls;refine⟨a,rfl,⟨xs,e1.sq⟩,k _ H1 W1 _ ρ1 ⟨p.sr,p.fr,p.calm⟩ (λi H2 W2 f=>?_) q⟩;rw[Gz]at f;have e2:=f.imm.fzL e1;refine⟨λhi=>⟨xs,e2.sq,by rw[r.length];rwa [Ya]at hi⟩,λd hd=>?_⟩;rw[Ze]at hd;cases hd':es[i]? with
  |none=>rw[hd']at hd;cases hd
  | some d'=>
   rw[hd']at hd;obtain⟨x,B,hx,rx,sx⟩:=r.get hd';refine⟨⟨xs,x,e2.sq,hx⟩,λv H3 y=>?_⟩;obtain⟨x',t,h1,rfl,h3,rfl⟩:=y xs e2.sq;rw[hx]at h1;cases h1;have hB:B=[]:=M6.mp sx;subst hB;refine⟨Qo h3,[],?_,λa m=>nomatch m⟩;cases hd;rw[Bk];exact .tup Qf (.cons (F:=[]) (G:=[]) (.int _) (Reps.one ((rx.keep f λa m=>nomatch m).same (Qo h3))))
 |_=>exact(show False from q).elim
end
end PV
variable {a p:Nat}{fa:Dj}
namespace L2
open PySem PySem.Spec PyProof.Rows
def Qqk(H:Hp):Prop:=∀b,H b=none\/(∃o xs,H b=some (.frz o (.lst xs)))\/∃ps,H b=some (.tbl ps)
def tabH(TB:List (Addr×Array Value))(H:Hp):Hp:=λb=>match TB.lookup b with
 |some ps=>some (.tbl ps)
 |none=>H b
theorem Za:∀{TB:List (Addr×Array Value)} {a:Addr} {ps:Array Value},TB.lookup a=some ps->(a,ps)∈TB
 | [],_,_,e=>by cases e
 | (b,x)::r,a,o,e=>by
  rw[D2]at e;cases hb:a==b with
  |true=>rw[hb]at e;cases e;rw[eq_of_beq hb];exact .head _
  |false=>rw[hb]at e;exact .tail _ (Za e)
theorem Qmg{K:Frag}{mb:Str->Option Value}{k:Nat}{a:Addr}{sp:Sp}{s₁:Shared}{vs:List Value}{TB:List (Addr×Array Value)}
  (KX:K.In s₁.heap) (hnt:noTabs K=true) (hTB:∀p∈TB,s₁.heap.get? p.1=some (Lh #[])) (hTC:∀p∈TB,isCodeTable s₁.heap p.1) (hTl:∀p∈TB,TB.lookup p.1=some p.2) (hbm:Vx mg s₁.heap)
  (hns:s₁.heap.Ns mainGlobals mg) (hb:s₁.heap.Ns builtinsNs mb) (hbb:∀x:Str,x ≠ "__name__" -> mb x=bootBuiltins x) (hlim:s₁.heap.NoLimit) (hg:s₁.gens = #[])
  (ha:s₁.heap.get? a=some { cls:=.type "list",data:=.seq vs.toArray }) (hi:IntsAre vs ns) (hl:ns.length<=sizeLine) (hr:Room k callerA)
  (F:∀base:Heap,K.In base->base.Ns mainGlobals mg->Vx mg base->FnOk P w K mg base CX k fa fd [x] sp) (hbind:∀(s:Shared)(u:Value),BindsTo s fd ⟨[u],[]⟩ [(x,u)])
  (hsp:∀H:Hp,Qqk H->Tabs TB H->SqL K H a (ns.map V.int)->sp [.ref a] H (λv _=>v=.bl true) λ_ _ _=>False)
  (hCX:∀H e s',CX [] H s₁ (λ_ _ _=>False) e s'->False) :
  codeAny (model P w) callerA (.call (.ref fa) ⟨[.ref a],[]⟩) (λr s'=>r=.ok (.ret (.bool true))/\OldK s₁.heap s'.heap/\s'.os=s₁.os/\AllBare s'.gens) s₁:=by
 have rv:=Qd9 hi;have lenV:=hi.length;have tabNo:∀{b:Addr}{o:Obj},s₁.heap.get? b=some o->o.cls ≠ .none\/(∃es ep,o.data=.dict es ep)->TB.lookup b=none:=λ{b o} e d=>by
  cases q:TB.lookup b with
  |none=>rfl
  | some ps=>
   have:=hTB _ (Za q);rw[e]at this;cases this;rcases d with d|⟨es,ep,d⟩
   ·exact absurd rfl d
   ·cases d
 have tabK:∀{b:Addr}{o:Obj},K.lookup b=some o->TB.lookup b=none:=λ{b o} e=>by
  cases q:TB.lookup b with
  |none=>rfl
  | some ps=>
   have h1:=hTB _ (Za q);rw[KX b o e]at h1;cases h1;have h2:=Kq.mp hnt (b,_) (PySem.W.mem_of_lookupK e);exact absurd (show false=true from h2) Bw
 have core:∀H:Hp,Only H->SqL K H a (ns.map V.int)->HOk P w H s₁.heap->(∀b,H b≠none->b=a)->(H a≠none->K.lookup a=none) ->
   codeAny (model P w) callerA (.call (.ref fa) ⟨[.ref a],[]⟩) (λr s'=>r=.ok (.ret (.bool true))/\OldK s₁.heap s'.heap/\s'.os=s₁.os/\AllBare s'.gens) s₁:=by
  intro H0 hO0 hS0 hok0 hA0 hK0;have tb0:∀{b:Addr},TB.lookup b=none->tabH TB H0 b=H0 b:=λ{b} e=>by unfold tabH;rw[e]
  have tb1:∀{b:Addr}{ps:Array Value},TB.lookup b=some ps->tabH TB H0 b=some (.tbl ps):=λ{b ps} e=>by unfold tabH;rw[e]
  have taN:TB.lookup a=none:=tabNo ha (.inl (by simp));have hOT:Qqk (tabH TB H0):=λb=>by
   cases q:TB.lookup b with
   |none=>rw[tb0 q];exact(hO0 b).imp id .inl
   |some ps=>exact .inr (.inr ⟨ps,tb1 q⟩)
  have hTT:Tabs TB (tabH TB H0):=λp hp=>⟨#[],by rw[tb1 (hTl p hp)];simp⟩
  have hST:SqL K (tabH TB H0) a (ns.map V.int):=by
   rcases hS0 with(h|⟨o,h⟩)|h
   ·exact .inl (.inl (by rw[tb0 taN];exact h))
   ·exact .inl (.inr ⟨o,by rw[tb0 taN];exact h⟩)
   ·exact .inr h
  have hok:HOk P w (tabH TB H0) s₁.heap:=λb o e=>by
   cases q:TB.lookup b with
   | some ps=>
    rw[tb1 q]at e;cases e;exact⟨#[],hTB _ (Za q),.inl rfl⟩
   | none=>
    rw[tb0 q]at e;have hb':b=a:=hA0 b (by rw[e];simp);rcases hO0 b with z|⟨ob,xs,z⟩
    ·rw[z]at e;cases e
    ·rw[z]at e;cases e;exact hok0 b _ z
  have hne:∀{b:Addr},tabH TB H0 b≠none->b=a\/∃ps,TB.lookup b=some ps:=λ{b} h=>by
   cases q:TB.lookup b with
   |some ps=>exact .inr ⟨ps,rfl⟩
   |none=>rw[tb0 q]at h;exact .inl (hA0 b h)
  generalize hH:tabH TB H0=H at hOT hTT hST hok hne;have base_of:∀{b:Addr}{o:Obj},s₁.heap.get? b=some o->H b=none->(hidT s₁.heap H).get? b=some o:=λe n=>Qpy e n;have noB:∀{b:Addr}{o:Obj},s₁.heap.get? b=some o->TB.lookup b=none->(b=a->False)->H b=none:=λ{b o} e q n=>by
   cases z:H b with
   |none=>rfl
   | some u=>
    rcases hne (b:=b) (by rw[z];simp)with e'|⟨ps,e'⟩
    ·exact(n e').elim
    ·rw[q]at e';cases e'
  have noA:∀{b:Addr}{o:Obj}{es:Array DictEntry}{ep:Nat},s₁.heap.get? b=some o->o.data=.dict es ep->H b=none:=λ{b o es ep} e d=>
   noB e (tabNo e (.inr ⟨_,_,d⟩)) λe'=>by
    subst e';rw[ha]at e;cases e;have d':Data.seq vs.toArray _=Data.dict es ep:=d;cases d'
  have nsK:∀{b:Addr}{m:Str->Option Value},s₁.heap.Ns b m->(hidT s₁.heap H).Ns b m:=λ{b m} ⟨o,es,ep,e,d,r⟩=>⟨o,es,ep,base_of e (noA e d),d,r⟩
  have hKb:K.In (hidT s₁.heap H):=λb o e=>base_of (KX b o e) (by
   cases z:H b with
   |none=>rfl
   | some u=>
    rcases hne (b:=b) (by rw[z];simp)with e'|⟨ps,e'⟩
    ·subst e';have:H0 b≠none:=by rw[← tb0 taN,hH,z];simp
     rw[hK0 this]at e;cases e
    ·rw[tabK e]at e';cases e')
  have hBb:Vx mg (hidT s₁.heap H):=by
   obtain⟨bm,ob,b1,b2,b3,b4,b5,b6⟩:=hbm;exact⟨bm,ob,b1,b2,base_of b3 (noB b3 (tabNo b3 (.inl (by rw[b4];simp))) λe'=>by subst e';rw[ha]at b3;cases b3;cases b6),b4,b5,b6⟩
  have hM:Mod K mg (hidT s₁.heap H):=⟨hKb,nsK hns,⟨mb,nsK hb,hbb⟩,let ⟨mc,h1,h2⟩:=hlim;⟨mc,nsK h1,h2⟩⟩
  have e0:Env0 P w K mg (hidT s₁.heap H) callerA [] s₁ H:=⟨rfl,hM,λb o e=>Qto e,Nat.le_of_eq (Qmx _ _),trivial,λb hb=>absurd (show b∈([]:List Addr)from hb) (by simp),hok,.of_eq hg⟩
  refine Tp ((F _ hKb (nsK hns) hBb).run callerA [] s₁ H ⟨[.ref a],[]⟩ [.ref a] [.ref a] _ _ hr e0 (hbind s₁ (.ref a)) (.cons rfl .nil) (hsp H hOT hTT hST)) λr s' h=>?_;cases r with
  |error e=>exact(hCX H e s' h).elim
  | ok fl=>
   cases fl with
   |next=>exact Fx h
   |brk=>exact Fx h
   |cont=>exact Fx h
   | ret u=>
    obtain ⟨v,H',os,bare,un,hok',r',q⟩:=h;have q':v=.bl true:=q;subst q';obtain rfl:u=Value.bool true:=r';have grown:∀{b:Addr}{ps:Array Value},H b=some (.tbl ps)->∃ts,s'.heap.get? b=some (Lh ts):=λ{b ps} z=>by
     obtain⟨more,z2⟩:=un.tbls b ps z;obtain⟨ts,e2,_⟩:=hok' b _ z2;exact⟨ts,e2⟩
    have tabIs:∀{b:Addr}{ps:Array Value},H b=some (.tbl ps)->(b,ps)∈TB:=λ{b ps} z=>by
     cases q:TB.lookup b with
     | some ps'=>
      have:=tb1 q;rw[hH,z]at this;cases this;exact Za q
     | none=>
      have:=tb0 q;rw[hH,z]at this;rcases hO0 b with z'|⟨ob,xs,z'⟩
      ·rw[z']at this;cases this
      ·rw[z']at this;cases this
    have keep:∀b o,s₁.heap.get? b=some o->(∀ps,H b≠some (.tbl ps))->s'.heap.get? b=some o:=λb o e nt=>by
     rcases hOT b with z|⟨ob,xs,z⟩|⟨ps,z⟩
     ·exact un.keep b o e z (by intro z;exact absurd (show b∈([]:List Addr)from z) (by simp)) (by simp)
     ·have z2:=un.frzs b ob _ z;obtain⟨e1,_⟩:=hok b _ z;obtain⟨e2,_⟩:=hok' b _ z2;rw[e]at e1;cases e1;exact e2
     ·exact absurd z (nt ps)
    have alt:∀b,(∃ps,H b=some (.tbl ps))\/∀ps,H b≠some (.tbl ps):=λb=>by
     rcases hOT b with z|⟨ob,xs,z⟩|⟨ps,z⟩
     ·exact .inr λps e=>by rw[z]at e;cases e
     ·exact .inr λps e=>by rw[z]at e;cases e
     ·exact .inl ⟨ps,z⟩
    refine⟨rfl,⟨λb o e=>?_,λb o e=>?_⟩,os,bare⟩
    ·rcases alt b with⟨ps,z⟩|z
     ·obtain⟨ts,e2⟩:=grown z;have m:=tabIs z;have e3:=hTB _ m;rw[show((b,ps):Addr×Array Value).1=b from rfl,e]at e3;cases e3;exact .inr (.inl ⟨hTC _ m,rfl,#[],ts,rfl,by rw[Array.empty_append];exact e2⟩)
     ·exact .inl (keep b o e z)
    ·rcases alt b with⟨ps,z⟩|z
     ·obtain⟨ts,e2⟩:=grown z;exact⟨_,e2⟩
     ·exact⟨o,keep b o e z⟩
 cases hk:K.lookup a with
 | some o=>
  have e:=KX a o hk;rw[ha]at e;cases e;refine core (λ_=>none) (λ_=>.inl rfl) (.inr ⟨_,vs.toArray,_,hk,rfl,rfl,rfl,by rw[Bu,lenV];exact hl,by simpa using rv⟩) (λb u z=>by have z':(none:Option HO)=some u:=z;cases z') (λb z=>absurd rfl z) λz=>absurd rfl z
 | none=>
  refine core (λb=>if b=a then some (.frz { cls:=.type "list",data:=.seq vs.toArray } (.lst (ns.map V.int)))else none) (λb=>?_) (.inl (.inr ⟨{ cls:=.type "list",data:=.seq vs.toArray },if_pos rfl⟩)) (λb u z=>?_) (λb z=>?_) λ_=>hk
  ·by_cases hb:b=a
   ·exact .inr ⟨_,_,if_pos hb⟩
   ·exact .inl (if_neg hb)
  ·by_cases hb:b=a
   ·have z':=(if_pos hb).symm.trans z;cases z';subst hb;exact⟨ha,by rw[Ao];exact hl,vs,_,rv,ha⟩
   ·have z':=(if_neg hb).symm.trans z;cases z'
  ·by_cases hb:b=a
   ·exact hb
   ·exact absurd (if_neg hb) z
theorem Qob{l:PySem.W.OpenLaw}{k:Nat}{q:Program}{d:DefRec}{K:Params->Frag}{CX:World->CXT}{sp:World->Sp}{TB:List (Addr×Array Value)}
  (hn:l.most=some n) (hn2:n<=sizeLine) (hdf:d.params.defaults=[]) (hr:Room k callerA)
  (hY:∀(w:World)(h:Heap),YP w h->(K w.params).In h) (hT:∀(w:World)(h:Heap),YP w h->∀p∈TB,h.get? p.1=some (Lh #[]))
  (hnt:∀w:World,noTabs (K w.params)=true) (hTl:∀p∈TB,TB.lookup p.1=some p.2)
  (F:∀(w:World)(mg:Str->Option Value)(fa:Addr)(h:Heap),(K w.params).In h->h.Ns mainGlobals mg->mg d.name=some (.ref fa) ->
   ∃fd:FuncData,(∀(s:Shared)(u:Value),BindsTo s fd ⟨[u],[]⟩ [(x,u)])/\(∀p∈TB,∃c,M9 (K w.params) c p.1=true) /\
    ∀base:Heap,(K w.params).In base->base.Ns mainGlobals mg->Vx mg base->FnOk l.prog w (K w.params) mg base (CX w) k fa fd [x] (sp w))
  (hsp:∀(w:World)(H:Hp)(a:Addr)(ns:List Int),ns.length<=n->Qqk H->Tabs TB H->SqL (K w.params) H a (ns.map V.int)->sp w [.ref a] H (λv _=>v=.bl true) λ_ _ _=>False)
  (hCX:∀(w:World)(H:Hp)(s:Shared)(e:Value)(s':Shared),CX w [] H s (λ_ _ _=>False) e s'->False) :
  PySem.W.WalkO q loose XP YP l.row.toRowW d [] (λf vs=>Oy f vs):=by
 refine Att.Qgu hn hdf λw s₀ s₁ mg mb fa o pm cd doc a vs ns G Y ho hd hcd hmg hobj hints hlen hg=>?_;have KX:=hY w _ Y;obtain⟨fd,hb,hTC,hF⟩:=F w mg fa _ KX G.T.g hmg;refine Qmg KX (hnt w) (hT w _ Y) (λp hp=>?_) hTl G.T.bmain G.T.g G.T.b G.T.builtins G.T.nolimit hg hobj hints (Dy hlen hn2) hr hF hb (λH hO ht hS=>hsp w H a ns hlen hO ht hS) λH e s'=>hCX w H s₁ e s';obtain⟨c,hc⟩:=hTC p hp;exact((PySem.W.codeHd_of_K KX hc).tab (hT w _ Y p hp)).isCodeTable
theorem Qnt:Qfn X [] []:=trivial
theorem Qdv{ix:List Nat}{p:Str×Addr}(h1:X.N[i]? = some p.1)(h2:X.env.scope.names.lookup p.1=some .cell)(h3:X.env.cells.lookup p.1=some p.2)(h4:X.fn p.1=true)(h5:Qfn X ix cl):Qfn X (i::ix) (p::cl):=⟨h1,h2,h3,h4,h5⟩
def Qy1:Expr->Bool
 | .Lambda _ _ _ _=>true
 |_=>false
def Qty:List Stmt->Expr
 | .Return (some (.Call _ as _ p)) _::r=>(as.find? Qy1).getD (.Name "" p)
 |_::r=>Qty r
 | []=>.Name "" ⟨0,0,0,0⟩
def Qwt(q:Str)(ns:List Str):Expr->Lam
 | .Lambda a b s _=>⟨q,a,b,s,ns⟩
 |e=>⟨q,⟨[],[],none,[],[],none,[]⟩,e,⟨.function,[],false,false,[]⟩,ns⟩
def Qrf:Expr->Pos
 | .Lambda _ _ _ p=>p
 |_=>⟨0,0,0,0⟩
end L2
variable {x r:Nat}{f:Nat->Nat}
namespace Orb
def it(f:Nat->Nat):Nat->Nat->Nat
 |0,i=>i
 |t+1,i=>f (it f t i)
theorem Qbb(f:Nat->Nat)(s t i:Nat):it f (s+t) i=it f s (it f t i):=by
 induction s with
 |zero=>simp[it]
 |succ s ih=>rw[Nat.succ_add];show f (it f (s+t) i)=f (it f s (it f t i));rw[ih]
structure Inj(n:Nat)(f:Nat->Nat):Prop where
 lt:∀i,i<n->f i<n
 inj:∀i j,i<n->j<n->f i=f j->i=j
theorem Inj.itlt(h:Inj n f):∀(t:Nat){i:Nat},i<n->it f t i<n
 |0,i,hi=>hi
 |t+1,i,hi=>h.lt _ (h.itlt t hi)
theorem Inj.down(h:Inj n f){i:Nat}(hi:i<n):∀(s t:Nat),it f s i=it f (s+t) i->it f t i=i
 |0,t,e=>by rw[Bk]at e;exact e.symm
 | s+1,t,e=>by
  rw[Nat.succ_add]at e;exact h.down hi s t (h.inj _ _ (h.itlt s hi) (h.itlt _ hi) e)
theorem pig:∀(n:Nat)(l:List Nat),l.Nodup->(∀x∈l,x<n)->l.length<=n
 | 0,l,_,h=>by
  cases l with
  |nil=>exact At _
  |cons a l=>exact absurd (h a Ak) (Nat.not_lt_zero _)
 | n+1,l,nd,h=>by
  have:=pig n (l.erase n) (nd.erase n) λx hx=>by
   have h1:=h x (List.mem_of_mem_erase hx);have h2:x≠n:=λz=>by subst z;exact(nd.not_mem_erase) hx
   lia
  have h3:=List.length_erase (a:=n) (l:=l)
  split at h3<;>lia
theorem Inj.back(h:Inj n f)(hi:i<n):∃p,0<p/\p<=n/\it f p i=i:=by
 by_cases hd:∃p,0<p/\p<=n/\it f p i=i
 ·exact hd
 ·exfalso;have nd:((Ai (n+1)).map λt=>it f t i).Nodup:=by
   unfold List.Nodup;rw[Dl];refine D4 (R:=λa b=>a<b) (λ{a b} ha hb hab e=>?_) Fu;have hb:=Ay.mp hb;have e:it f a i=it f b i:=e;refine hd ⟨b-a,by lia,by lia,h.down hi a (b-a) ?_⟩;rw[Nat.add_sub_cancel' (Nj hab)];exact e
  have:=pig n _ nd λx hx=>by
   obtain⟨t,_,rfl⟩:=Aq.mp hx;exact h.itlt t hi
  simp at this;lia
def lst(f:Nat->Nat)(i:Nat):Nat->Nat->Nat
 |0,p=>p
 |k+1,p=>if it f p i=i then p else lst f i k (p+1)
def per(n:Nat)(f:Nat->Nat)(i:Nat):Nat:=lst f i n 1
theorem Qh5(f:Nat->Nat)(i:Nat):∀k p,(∃q,p<=q/\q<p+k/\it f q i=i)->p<=lst f i k p/\it f (lst f i k p) i=i/\(∀q,p<=q->q<lst f i k p->it f q i≠i)/\lst f i k p<p+k
 |0,p,⟨q,h1,h2,_⟩=>by lia
 | k+1,p,⟨q,h1,h2,h3⟩=>by
  unfold lst;by_cases hp:it f p i=i
  ·rw[if_pos hp];exact⟨At _,hp,λq a b=>by lia,by lia⟩
  ·rw[if_neg hp];have hq:p≠q:=λz=>hp (by rw[z];exact h3);obtain⟨a1,a2,a3,a4⟩:=Qh5 f i k (p+1) ⟨q,by lia,by lia,h3⟩;refine⟨by lia,a2,λr b1 b2=>?_,by lia⟩;by_cases hr:r=p
   ·rw[hr];exact hp
   ·exact a3 r (by lia) b2
theorem Inj.per(h:Inj n f){i:Nat}(hi:i<n):0<per n f i/\per n f i<=n/\it f (per n f i) i=i/\∀q,0<q->q<per n f i->it f q i≠i:=by
 obtain⟨p,h1,h2,h3⟩:=h.back hi;obtain⟨a1,a2,a3,a4⟩:=Qh5 f i n 1 ⟨p,h1,by lia,h3⟩;exact⟨a1,by unfold Orb.per;lia,a2,a3⟩
def arc(f:Nat->Nat)(i t:Nat):List Nat:=(Ai t).map λs=>it f s i
theorem Qqh(f:Nat->Nat)(i t:Nat):arc f i (t+1)=arc f i t++[it f t i]:=by
 unfold arc;rw[Nz,Mi];rfl
theorem Xf(f:Nat->Nat)(i t:Nat):(arc f i t).length=t:=by unfold arc;simp
def orb(n:Nat)(f:Nat->Nat)(i:Nat):List Nat:=arc f i (per n f i)
theorem Inj.orb_closed(h:Inj n f)(hi:i<n)(hx:x∈orb n f i):f x∈orb n f i:=by
 obtain⟨s,hs,rfl⟩:=Aq.mp hx;have hs:=Ay.mp hs;by_cases hl:s+1<Orb.per n f i
 ·exact Aq.mpr ⟨s+1,Ay.mpr hl,rfl⟩
 ·have hse:Orb.per n f i=s+1:=by lia
  have e:f (it f s i)=i:=by
   have:=(h.per hi).2.2.1;rw[hse]at this;exact this
  rw[e];exact Aq.mpr ⟨0,Ay.mpr (h.per hi).1,rfl⟩
theorem Inj.orb_self(h:Inj n f)(hi:i<n):i∈orb n f i:=Aq.mpr ⟨0,Ay.mpr (h.per hi).1,rfl⟩
theorem Inj.orb_back(h:Inj n f)(hi:i<n)(hx:x<n)(hf:f x∈orb n f i):x∈orb n f i:=by
 obtain⟨s,hs,e⟩:=Aq.mp hf;have hs:=Ay.mp hs;have e:it f s i=f x:=e;cases s with
 | zero=>
  have hp:=(h.per hi)
  obtain⟨p,hpe⟩:∃p,Orb.per n f i=p+1:=⟨Orb.per n f i-1,by lia⟩
  have e2:f (it f p i)=i:=by have:=hp.2.2.1;rw[hpe]at this;exact this
  have:x=it f p i:=h.inj _ _ hx (h.itlt p hi) (by rw[← e,e2];rfl);rw[this];exact Aq.mpr ⟨p,Ay.mpr (by lia),rfl⟩
 | succ s=>
  have:x=it f s i:=h.inj _ _ hx (h.itlt s hi) e.symm;rw[this];exact Aq.mpr ⟨s,Ay.mpr (by lia),rfl⟩
def fcs(n:Nat)(f:Nat->Nat):Nat->List Nat->List (List Nat)
 |0,_=>[]
 |_+1,[]=>[]
 |k+1,i::r=>orb n f i::fcs n f k (r.filter λx=>!(orb n f i).contains x)
theorem Qih(n:Nat)(f:Nat->Nat):∀(k:Nat)(l:List Nat)(k':Nat),l.length<=k->l.length<=k'->fcs n f k l=fcs n f k' l
 | 0,l,k',h,h'=>by
  have:l=[]:=Ml.mp (by lia);subst this;cases k'<;>rfl
 |k+1,[],k',h,h'=>by cases k'<;>rfl
 | k+1,i::r,k',h,h'=>by
  simp only[Am]at h h';obtain⟨q,rfl⟩:∃q,k'=q+1:=⟨k' - 1,by lia⟩
  have:=Nw (λx=>!(orb n f i).contains x) r;show _::fcs n f k _=_::fcs n f q _;rw[Qih n f k _ q (by lia) (by lia)]
def X3(n:Nat)(f:Nat->Nat)(l:List Nat):List (List Nat):=fcs n f l.length l
theorem Qm6(n:Nat)(f:Nat->Nat):X3 n f []=[]:=rfl
theorem Qci(n:Nat)(f:Nat->Nat)(i:Nat)(r:List Nat):X3 n f (i::r)=orb n f i::X3 n f (r.filter λx=>!(orb n f i).contains x):=by
 have:=Nw (λx=>!(orb n f i).contains x) r;show _::fcs n f r.length _=_::fcs n f _ _;rw[Qih n f r.length _ _ this (At _)]
def Qcr(f:Nat->Nat)(l:List Nat):Prop:=∀x∈l,f x∈l
theorem Qcr.it{l:List Nat}(c:Qcr f l):∀(t:Nat){i:Nat},i∈l->it f t i∈l
 |0,i,h=>h
 |t+1,i,h=>c _ (c.it t h)
theorem Inj.closed_rest(h:Inj n f){r:List Nat}(hn:∀x∈i::r,x<n)(c:Qcr f (i::r)):Qcr f (r.filter λx=>!(orb n f i).contains x):=λx hx=>by
 obtain⟨h1,h2⟩:=Df.mp hx;have hi:=hn i Ak;have hxn:=hn x (Al _ h1);have h2:x∉orb n f i:=by simpa using h2
 have h3:f x∉orb n f i:=λz=>h2 (h.orb_back hi hxn z);have h4:=c x (Al _ h1);rcases Ar.mp h4 with z|z
 ·exact absurd (by rw[z];exact h.orb_self hi) h3
 ·exact Df.mpr ⟨z,by simpa using h3⟩
end Orb
variable {e m:Nat}{g:Nat->Nat}{out:Int->Prop}
namespace M
def ksI(m i:Nat):List Int:=[(sp m i).1,(sp m i).2]
def numK:List Int->Int
 | [a,b]=>a*1000+b
 |_=>0
theorem Qeg(he:e<=900)(hi:i<4*m+e):-1<=(sp m i).1/\0<=(sp m i).2/\(sp m i).2<1000:=by
 unfold sp;split
 ·dsimp only;lia
 ·dsimp only;lia
theorem Qgb(he:e<=900)(hi:i<4*m+e)(hj:j<4*m+e):HT.Zg (ksI m i) (ksI m j)=decide (numK (ksI m i)<numK (ksI m j)):=by
 obtain⟨a1,a2,a3⟩:=Qeg he hi;obtain⟨b1,b2,b3⟩:=Qeg he hj;unfold ksI numK;generalize sp m i=p at a1 a2 a3;generalize sp m j=q at b1 b2 b3;rw[HT.Y6,HT.Y6,HT.Qdh];dsimp only;by_cases h1:p.1=q.1
 ·rw[if_pos h1];by_cases h2:p.2=q.2
  ·rw[if_pos h2];exact(decide_eq_false (by lia)).symm
  ·rw[if_neg h2];exact decide_eq_decide.mpr (by lia)
 ·rw[if_neg h1];exact decide_eq_decide.mpr (by lia)
def L0(m e:Nat):List Nat:=(Ai e).map (λj=>4*m+j)++Ai (4*m)
theorem Qgy(m e:Nat):(L0 m e).Perm (Ai (4*m+e)):=by
 rw[List.range_add];exact Mc
theorem Qrq:i∈L0 m e↔i<4*m+e:=by rw[(Qgy m e).mem_iff,Ay]
theorem Qiz(m e:Nat):(L0 m e).length=4*m+e:=by rw[(Qgy m e).length_eq,Db]
theorem Qzn(he:e<=900):((L0 m e).map (ksI m)).Pairwise (λa b=>HT.Zg b a=false):=by
 have key:∀{i j:Nat},i<4*m+e->j<4*m+e->numK (ksI m i)<=numK (ksI m j)->HT.Zg (ksI m j) (ksI m i)=false:=λhi hj h=>by
  rw[Qgb he hj hi];exact decide_eq_false (by lia)
 have n1:∀j,numK (ksI m (4*m+j)) = -1000+(j:Int):=λj=>by unfold ksI;rw[Qk0];show(-1:Int)*1000+j=_;lia
 have n2:∀i,i<4*m->numK (ksI m i)=((i/4:Nat):Int)*1000+((i%4:Nat):Int):=λi hi=>by unfold ksI sp;rw[if_pos hi];rfl
 rw[Dl];unfold L0;refine B6.mpr ⟨?_,?_,λa ha b hb=>?_⟩
 ·rw[Dl];refine D4 (R:=λa b=>a<b) (λ{a b} ha hb hab=>?_) Fu;have ha:=Ay.mp ha;have hb:=Ay.mp hb;exact key (by lia) (by lia) (by rw[n1,n1];lia)
 ·refine D4 (R:=λa b=>a<b) (λ{a b} ha hb hab=>?_) Fu;have ha:=Ay.mp ha;have hb:=Ay.mp hb;exact key (by lia) (by lia) (by rw[n2 a ha,n2 b hb];lia)
 ·obtain⟨j,hj,rfl⟩:=Aq.mp ha;have hj:=Ay.mp hj;have hb:=Ay.mp hb;exact key (by lia) (by lia) (by rw[n1,n2 b hb];lia)
theorem Qsg(he:e<=900){out:List (List Int)}(hp:out.Perm ((Ai (4*m+e)).map (ksI m)))(hs:out.Pairwise (λx y=>numK x<=numK y)):out=(L0 m e).map (ksI m):=by
 refine Qas (hp.trans ((Qgy m e).map (ksI m)).symm) ?_ (Qzn he);refine D4 (λ{a b} ha hb hab=>?_) hs;obtain⟨i,hi,rfl⟩:=Aq.mp (hp.mem_iff.mp ha);obtain⟨j,hj,rfl⟩:=Aq.mp (hp.mem_iff.mp hb);rw[Qgb he (Ay.mp hj) (Ay.mp hi)];exact decide_eq_false (by lia)
def fx(m e:Nat)(g:Nat->Nat)(i:Nat):Nat:=nx m e (g i)
theorem Qm1(T:Tw (4*m+e) A g):Orb.Inj (4*m+e) (fx m e g) :=
 ⟨λi hi=>Qpi (T.lt i hi),λi j hi hj h=>by rw[← T.inv hi,← T.inv hj,Qq7 (T.lt i hi) (T.lt j hj) h]⟩
end M
variable {T:List (List L2.Key×PV.D)}
namespace PV
open PySem PySem.Spec L2
section
variable {κ:Type}[DecidableEq κ]
theorem Qh1{kvs:List (κ×D)}{k:κ}:k∈kvs.map (·.1)↔(valD kvs k).isSome=true:=by
 rw[← Zn,Ra];constructor
 ·intro h;obtain⟨p,hp,e⟩:=Aq.mp h;exact⟨p,hp,by simpa using e⟩
 ·rintro⟨p,hp,e⟩;exact Aq.mpr ⟨p,hp,by simpa using e⟩
theorem Qad(kvs:List (κ×D))(k:κ)(v:D):(putD kvs k v).map (·.1)=if (valD kvs k).isSome=true then kvs.map (·.1)else kvs.map (·.1)++[k]:=by
 unfold putD;rw[Zn];by_cases h:(valD kvs k).isSome=true
 ·rw[if_pos h,if_pos h,By];apply B8;intro p _;show(if p.1=k then (p.1,v)else p).1=p.1
  split<;>rfl
 ·rw[if_neg h,if_neg h,Mi];rfl
structure KeysIn(m n:Nat)(T:List (List Key×D)):Prop where
 nd:(T.map (·.1)).Nodup
 sub:∀k∈T.map (·.1),∃i,i<n/\k=ksP m i
theorem KeysIn.nil:KeysIn m n []:=⟨D8,λ_ h=>nomatch h⟩
theorem KeysIn.put(h:KeysIn m n T)(hi:i<n)(v:D):KeysIn m n (putD T (ksP m i) v):=by
 by_cases hs:(valD T (ksP m i)).isSome=true
 ·exact⟨by rw[Qad,if_pos hs];exact h.nd,by rw[Qad,if_pos hs];exact h.sub⟩
 ·refine ⟨?_,?_⟩
  ·rw[Qad,if_neg hs];refine Dm.mpr ⟨h.nd,by simp,λa ha b hb=>?_⟩;rw[Ap.mp hb];exactλz=>hs (Qh1.mp (z ▸ ha))
  ·rw[Qad,if_neg hs];intro k hk;rcases Aj.mp hk with hk|hk
   ·exact h.sub k hk
   ·exact⟨i,hi,Ap.mp hk⟩
theorem KeysIn.perm(h:KeysIn m n T)(hv:∀i,i<n->(valD T (ksP m i)).isSome=true):(T.map (·.1)).Perm ((Ai n).map (ksP m)):=by
 have nd2:((Ai n).map (ksP m)).Nodup:=by
  unfold List.Nodup;rw[Dl];exact On (R:=λa b=>a<b) (λhab e=>by have:=Qdk e;lia) Fu
 refine(List.perm_ext_iff_of_nodup h.nd nd2).mpr λk=>⟨λhk=>?_,λhk=>?_⟩
 ·obtain⟨i,hi,rfl⟩:=h.sub k hk;exact Aq.mpr ⟨i,Ay.mpr hi,rfl⟩
 ·obtain⟨i,hi,rfl⟩:=Aq.mp hk;exact Qh1.mpr (hv i (Ay.mp hi))
end
theorem Qfr(hm:m<=200)(he:e<=200)(he1:e%2=0)(hp:(T.map (·.1)).Perm ((Ai (4*m+e)).map (ksP m)))(h:k (.lst ((M.L0 m e).map (spD m)))):Qgn [.dit T] k:=by
 obtain ⟨is,hi1,hi2⟩:∃is:List Nat,T.map (·.1)=is.map (ksP m)/\is.Perm (Ai (4*m+e)):=by
  have:∀{l:List (List Key)} {r:List Nat},l.Perm (r.map (ksP m))->∃is:List Nat,l=is.map (ksP m)/\is.Perm r:=by
   intro l
   induction l with
   | nil=>
    intro r h;have:=h.length_eq;simp at this;have:r=[]:=Ml.mp this.symm;subst this;exact⟨[],rfl,.refl _⟩
   | cons a l ih=>
    intro r h;obtain⟨i,hi,e⟩:=Aq.mp (h.mem_iff.mp (Ak (a:=a)));have p:=List.perm_cons_erase hi;have h2:(a::l).Perm (a::(r.erase i).map (ksP m)):=by
     rw[← e];exact(e ▸ h).trans (p.map (ksP m))
    obtain⟨is,e1,p1⟩:=ih h2.cons_inv;exact⟨i::is,by rw[e1,← e];rfl,(p1.cons i).trans p.symm⟩
  exact this hp
 have hl:T.length=4*m+e:=by have:=hp.length_eq;simpa using this
 refine⟨is.map (M.ksI m),M.numK,?_,?_,by lia,by lia,?_,λout p1 p2=>?_⟩
 ·rw[hi1,By];rfl
 ·intro k hk;obtain⟨i,_,rfl⟩:=Aq.mp hk;simp[M.ksI]
 ·intro x hx y hy;obtain⟨i,hi,rfl⟩:=Aq.mp hx;obtain⟨j,hj,rfl⟩:=Aq.mp hy;exact M.Qgb (by lia) (Ay.mp (hi2.mem_iff.mp hi)) (Ay.mp (hi2.mem_iff.mp hj))
 ·rw[M.Qsg (by lia) (p1.trans (hi2.map (M.ksI m))) p2,By];exact h
end PV
variable {x y:Int}{E:Int->Int->Prop}{t z:Nat}{S:List Int}
namespace Hang
theorem Qar{α:Type}{le:α->α->Prop}{a b:List α}(p:a.Perm b)(ha:a.Pairwise le)(hb:b.Pairwise le)(h:∀x∈a,∀y∈a,le x y->le y x->x=y):a=b:=by
 induction a generalizing b with
 |nil=>exact p.nil_eq
 | cons x a ih=>
  cases b with
  |nil=>exact absurd p.length_eq (by simp)
  | cons y b=>
   obtain ⟨a1,a2⟩:=R3.mp ha;obtain⟨b1,b2⟩:=R3.mp hb;have hxy:x=y:=by
    have hx:x∈y::b:=p.mem_iff.mp Ak;have hy:y∈x::a:=p.mem_iff.mpr Ak;rcases Ar.mp hx with z|hx
    ·exact z
    ·rcases Ar.mp hy with z|hy
     ·exact z.symm
     ·exact h x Ak y (Al _ hy) (a1 y hy) (b1 x hx)
   subst hxy;rw[ih (List.perm_cons _ |>.mp p) a2 b2 λu hu v hv=>h u (Al _ hu) v (Al _ hv)]
theorem Ur{α:Type}[DecidableEq α]{a b:List α}(na:a.Nodup)(nb:b.Nodup)(h:∀x,x∈a↔x∈b):a.Perm b:=by
 rw[List.perm_iff_count];intro x;by_cases hx:x∈a
 ·rw[na.count,nb.count,if_pos hx,if_pos ((h x).mp hx)]
 ·rw[T7 hx,T7 λz=>hx ((h x).mpr z)]
inductive Con(E:Int->Int->Prop):Int->Int->Prop
 |refl (x:Int):Con E x x
 |step {x y z:Int} (h:Con E x y) (e:E y z):Con E x z
theorem Con.one(e:E x y):Con E x y:=.step (.refl x) e
theorem Con.trans{z:Int}(h:Con E x y)(k:Con E y z):Con E x z:=by
 induction k with
 |refl=>exact h
 |step _ e ih=>exact .step ih e
theorem Con.symm(sy:∀x y,E x y->E y x)(h:Con E x y):Con E y x:=by
 induction h with
 |refl=>exact .refl _
 |step _ e ih=>exact(Con.one (sy _ _ e)).trans ih
theorem Con.closed{S:Int->Prop}(h:Con E x y)(hx:S x)(cl:∀u v,S u->E u v->S v):S y:=by
 induction h with
 |refl=>exact hx
 |step _ e ih=>exact cl _ _ ih e
open Classical in
noncomputable def pc(E:Int->Int->Prop)(Vs:List Int)(x:Int):List Int:=Vs.filter λy=>decide (Con E x y)
open Classical in
noncomputable def isL(E:Int->Int->Prop)(Vs:List Int)(x:Int):Bool:=decide (∀y∈Vs,Con E x y->x<=y)
theorem Qgi{Vs:List Int}:isL E Vs x=true↔∀y∈Vs,Con E x y->x<=y:=by unfold isL;exact @decide_eq_true_iff _ (_)
noncomputable def pcs(E:Int->Int->Prop)(Vs L:List Int):List (List Int):=(L.filter (isL E Vs)).map (pc E Vs)
structure Gr(E:Int->Int->Prop)(Vs:List Int):Prop where
 up:Vs.Pairwise (· < ·)
 sy:∀x y,E x y->E y x
 inl:∀x y,E x y->x∈Vs
section
variable {Vs:List Int}
theorem Gr.con_mem(G:Gr E Vs)(h:Con E x y)(hx:x∈Vs):y∈Vs:=h.closed hx λu v _ e=>G.inl v u (G.sy u v e)
theorem Qmd:y∈pc E Vs x↔y∈Vs/\Con E x y:=by unfold pc;rw[Df];simp
theorem Gr.pc_up(G:Gr E Vs)(x:Int):(pc E Vs x).Pairwise (· < ·):=G.up.filter _
theorem Qh4(h:l.Pairwise (· < ·)):l.Nodup:=h.imp λh=>by lia
theorem Gr.pc_eq(G:Gr E Vs)(hx:x∈Vs)(hl:l.Pairwise (· <= ·))(nd:l.Nodup)(h:∀y,y∈l↔Con E x y):l=pc E Vs x:=by
 refine Qar (le:=(· <= ·)) (Ur nd (Qh4 (G.pc_up x)) λy=>?_) hl ((G.pc_up x).imp λh=>Rg h) λa _ b _ h1 h2=>K1 h1 h2;rw[h y,Qmd];exact⟨λq=>⟨G.con_mem q hx,q⟩,λq=>q.2⟩
theorem Gr.isL_iff(G:Gr E Vs)(ht:t<Vs.length):isL E Vs Vs[t]=true↔¬∃u∈Vs.take t,Con E u Vs[t]:=by
 rw[Qgi];constructor
 ·rintro h ⟨u,hu,hc⟩;have hlt:u<Vs[t]:=by
   obtain⟨i,hi⟩:=Si hu;rw[Oe]at hi
   split at hi
   ·rename_i hit;obtain⟨h1,h2⟩:=Be.mp hi;rw[← h2];exact Mz.mp G.up i t h1 ht hit
   ·cases hi
  have:=h u (D3 hu) (hc.symm G.sy);lia
 ·intro h y hy hc;obtain⟨i,hi⟩:=Si hy;obtain⟨h1,h2⟩:=Be.mp hi;by_cases hit:i<t
  ·exact absurd ⟨y,Du (i:=i) (by rw[Oe,if_pos hit];exact hi),hc.symm G.sy⟩ h
  ·rw [← h2];rcases Tu t i with z|z
   ·exact Rg (Mz.mp G.up t i ht h1 z)
   ·have:i=t:=by lia
    subst this;exact Mt _
theorem Xy{α:Type}{p:α->Bool}{l:List α}(ht:t<l.length):(l.take (t+1)).filter p=(l.take t).filter p++(if p l[t]then [l[t]]else []):=by
 rw[List.take_succ,Bo ht,S1];congr 1;cases h:p l[t]<;>simp[h]
end
end Hang
variable {x:Nat}{R:Nat->Nat->Prop}{ps:List (Nat×Nat)}{L:List Int}
namespace Eul
open Orb Classical
structure Eqv(n:Nat)(R:Nat->Nat->Prop):Prop where
 refl:∀i,i<n->R i i
 symm:∀i j,R i j->R j i
 trans:∀i j k,R i j->R j k->R i k
noncomputable def ncl(R:Nat->Nat->Prop)(n:Nat):Nat:=((Ai n).filter λi=>decide (∀j,j<i->¬R j i)).length
def mrg(R:Nat->Nat->Prop)(a b:Nat):Nat->Nat->Prop:=λx y=>R x y\/(R x a/\R b y)\/(R x b/\R a y)
theorem Qch{p:Nat->Bool}{x:Nat}:∀{l:List Nat},l.Nodup->x∈l->p x=true->(l.filter p).length=(l.filter λi=>p i && !decide (i=x)).length+1
 | [],_,h,_=>by cases h
 | y::l,hn,h,hp=>by
  have hn':=Bd.mp hn;by_cases e:y=x
  ·subst e;have:(l.filter λi=>p i && !decide (i=y))=l.filter p:=Kd λi hi=>by
    have:i≠y:=λz=>hn'.1 (z ▸ hi);simp[this]
   rw[Mn hp,Mo (by simp),this];rfl
  ·have hx:x∈l:=(Ar.mp h).resolve_left λz=>e z.symm;have ih:=Qch hn'.2 hx hp;cases hy:p y with
   |true=>rw[Mn hy,Mn (by simp[hy,e]),Am,Am,ih]
   |false=>rw[Mo (by simp[hy]),Mo (by simp[hy]),ih]
theorem Qac(E:Eqv n R)(ha:a<n):∃l,l<=a/\R l a/\∀j,j<l->¬R j a:=by
 have:∃l,R l a/\∀j,j<l->¬R j a:=by
  have key:∀k,R k a->∃l,R l a/\∀j,j<l->¬R j a:=by
   intro k
   induction k using Nat.strongRecOn with
   | _ k ih=>
    intro h;by_cases q:∃j,j<k/\R j a
    ·obtain⟨j,h1,h2⟩:=q;exact ih j h1 h2
    ·exact⟨k,h,λj hj hr=>q ⟨j,hj,hr⟩⟩
  exact key a (E.refl a ha)
 obtain⟨l,h1,h2⟩:=this;refine⟨l,?_,h1,h2⟩;rcases Tu a l with z|z
 ·exact absurd (E.refl a ha) (h2 a z)
 ·exact z
theorem Qpm:mrg R a b=mrg R b a:=by
 funext x y;exact propext ⟨λh=>h.elim .inl λh=>.inr h.symm,λh=>h.elim .inl λh=>.inr h.symm⟩
theorem Qhy{la lb:Nat}(E:Eqv n R)(hb:b<n)(hla:R la a)(hla2:∀j,j<la->¬R j a)(hlb:R lb b)(hlb2:∀j,j<lb->¬R j b)(hlbb:lb<=b)(h:la<lb):ncl R n=ncl (mrg R a b) n+1:=by
 unfold ncl;have e:((Ai n).filter λi=>decide (∀j,j<i->¬mrg R a b j i))=(Ai n).filter λi=>decide (∀j,j<i->¬R j i) && !decide (i=lb):=by
  refine Kd λi hi=>?_;rw[← decide_not,← Bool.decide_and];refine decide_eq_decide.mpr ⟨λhp=>⟨λj hj hr=>hp j hj (.inl hr),λz=>?_⟩,λ⟨hp,hne⟩ j hj hr=>?_⟩
  ·subst z;exact hp la h (.inr (.inl ⟨hla,E.symm _ _ hlb⟩))
  ·rcases hr with hr|⟨h1,h2⟩|⟨h1,h2⟩
   ·exact hp j hj hr
   ·have r1:R lb i:=E.trans _ _ _ hlb h2;rcases Te lb i with z|z|z
    ·exact hp lb z r1
    ·exact hne z.symm
    ·exact hlb2 i z (E.symm _ _ h2)
   ·have r1:R la i:=E.trans _ _ _ hla h2;rcases Tu la i with z|z
    ·exact hp la z r1
    ·exact hlb2 j (by lia) h1
 rw[e];refine Qch Nr (Ay.mpr (by lia)) (decide_eq_true λj hj hr=>hlb2 j hj (E.trans _ _ _ hr hlb))
theorem Qf6(E:Eqv n R)(ha:a<n)(hb:b<n)(hab:¬R a b):ncl R n=ncl (mrg R a b) n+1:=by
 obtain⟨la,a0,a1,a2⟩:=Qac E ha;obtain⟨lb,b0,b1,b2⟩:=Qac E hb;rcases Te la lb with h|h|h
 ·exact Qhy E hb a1 a2 b1 b2 b0 h
 ·subst h;exact absurd (E.trans _ _ _ (E.symm _ _ a1) b1) hab
 ·rw[Qpm];exact Qhy E ha b1 b2 a1 a2 a0 h
theorem Qa7(E:Eqv n R)(ha:a<n)(hb:b<n):Eqv n (mrg R a b):=by
 refine⟨λi hi=>.inl (E.refl i hi),λi j h=>?_,λi j k h1 h2=>?_⟩
 ·rcases h with h|⟨h1,h2⟩|⟨h1,h2⟩
  ·exact .inl (E.symm _ _ h)
  ·exact .inr (.inr ⟨E.symm _ _ h2,E.symm _ _ h1⟩)
  ·exact .inr (.inl ⟨E.symm _ _ h2,E.symm _ _ h1⟩)
 ·have t:=E.trans;have s:=E.symm;rcases h1 with h1|⟨h1,h1'⟩|⟨h1,h1'⟩<;>rcases h2 with h2|⟨h2,h2'⟩|⟨h2,h2'⟩
  ·exact .inl (t _ _ _ h1 h2)
  ·exact .inr (.inl ⟨t _ _ _ h1 h2,h2'⟩)
  ·exact .inr (.inr ⟨t _ _ _ h1 h2,h2'⟩)
  ·exact .inr (.inl ⟨h1,t _ _ _ h1' h2⟩)
  ·exact .inr (.inl ⟨h1,h2'⟩)
  ·exact .inl (t _ _ _ h1 h2')
  ·exact .inr (.inr ⟨h1,t _ _ _ h1' h2⟩)
  ·exact .inl (t _ _ _ h1 h2')
  ·exact .inr (.inr ⟨h1,h2'⟩)
def rch(n:Nat)(f:Nat->Nat):Nat->Nat->Prop:=λi j=>i<n/\∃k,it f k i=j
theorem Q9(h:Inj n f):Eqv n (rch n f):=by
 refine ⟨λi hi=>⟨hi,0,rfl⟩,λi j ⟨hi,k,e⟩=>?_,λi j k ⟨hi,s,e⟩ ⟨hj,t,e'⟩=>⟨hi,t+s,by rw[Qbb,e,e']⟩⟩;subst e;refine⟨h.itlt k hi,?_⟩;obtain⟨p,p0,_,pe⟩:=h.back hi;have pm:∀m,it f (m*p) i=i:=by
  intro m
  induction m with
  |zero=>rw[Nat.zero_mul];rfl
  |succ m ih=>rw[Tr,Qbb,pe,ih]
 refine⟨k*p-k,?_⟩;rw[← Qbb,Of (Nat.le_mul_of_pos_right k p0),pm]
def sw(a b x:Nat):Nat:=if x=a then b else if x=b then a else x
theorem Qsb(a b x:Nat):sw a b (sw a b x)=x:=by
 unfold sw;by_cases h1:x=a
 ·subst h1;rw[if_pos rfl];by_cases h2:b=x
  ·rw[if_pos h2];exact h2
  ·rw[if_neg h2,if_pos rfl]
 ·rw[if_neg h1];by_cases h2:x=b
  ·subst h2;rw[if_pos rfl,if_pos rfl]
  ·rw[if_neg h2,if_neg h1,if_neg h2]
def cm(f:Nat->Nat)(a b:Nat):Nat->Nat:=λx=>f (sw a b x)
theorem Qxp(f:Nat->Nat)(a b:Nat):cm (cm f a b) a b=f:=by
 funext x;unfold cm;rw[Qsb]
theorem cm_a(f:Nat->Nat)(a b:Nat):cm f a b a=f b:=by unfold cm sw;rw[if_pos rfl]
theorem cm_b(f:Nat->Nat)(a b:Nat):cm f a b b=f a:=by
 unfold cm sw;by_cases h:b=a
 ·rw[if_pos h,h]
 ·rw[if_neg h,if_pos rfl]
theorem cm_x(h1:x≠a)(h2:x≠b):cm f a b x=f x:=by unfold cm sw;rw[if_neg h1,if_neg h2]
theorem Qsc(ha:a<n)(hb:b<n)(hx:x<n):sw a b x<n:=by unfold sw;split<;>(try split)<;>lia
theorem Xv(h:Inj n f)(ha:a<n)(hb:b<n):Inj n (cm f a b) :=
 ⟨λi hi=>h.lt _ (Qsc ha hb hi),λi j hi hj e=>by
  have:=h.inj _ _ (Qsc ha hb hi) (Qsc ha hb hj) e;rw[← Qsb a b i,this,Qsb]⟩
theorem Qmn(h:Inj n f)(ha:a<n)(hb:b<n)(hn:¬rch n f a b):rch n (cm f a b) a b:=by
 obtain ⟨p0,_,pe,pmin⟩:=h.per hb;have key:∀j,j+1<=per n f b->it (cm f a b) (j+1) a=it f (j+1) b:=by
  intro j
  induction j with
  |zero=>intro _;exact cm_a f a b
  | succ j ih=>
   intro hj;show cm f a b (it (cm f a b) (j+1) a)=f (it f (j+1) b);rw[ih (by lia)];refine cm_x (λz=>hn ?_) (pmin (j+1) (by lia) (by lia));exact(Q9 h).symm _ _ ⟨hb,j+1,z⟩
 obtain⟨q,hq⟩:∃q,per n f b=q+1:=⟨per n f b-1,by lia⟩
 refine⟨ha,q+1,?_⟩;rw[key q (by lia),← hq,pe]
theorem V0(E:Eqv n R)(hg:Inj n g)(hs:∀x,x<n->R x (g x)):∀i j,rch n g i j->R i j:=by
 rintro i j ⟨hi,k,rfl⟩
 induction k with
 |zero=>exact E.refl i hi
 |succ k ih=>exact E.trans _ _ _ ih (hs _ (hg.itlt k hi))
theorem Qk6(h:Inj n f)(ha:a<n)(hb:b<n)(hn:¬rch n f a b):rch n (cm f a b)=mrg (rch n f) a b:=by
 have hg:=Xv h ha hb;have Ef:=Q9 h;have Eg:=Q9 hg;have ab:=Qmn h ha hb hn;have one:∀{g:Nat->Nat}{x:Nat},x<n->rch n g x (g x):=λhx=>⟨hx,1,rfl⟩
 have sub:∀i j,rch n f i j->rch n (cm f a b) i j:=V0 Eg h λx hx=>by
  by_cases h1:x=a
  ·subst h1;have:=one (g:=cm f x b) hb;rw[cm_b]at this;exact Eg.trans _ _ _ ab this
  ·by_cases h2:x=b
   ·subst h2;have:=one (g:=cm f a x) ha;rw[cm_a]at this;exact Eg.trans _ _ _ (Eg.symm _ _ ab) this
   ·have:=one (g:=cm f a b) hx;rw[cm_x h1 h2]at this;exact this
 funext x y;refine propext ⟨V0 (Qa7 Ef ha hb) hg (λx hx=>?_) x y,λhm=>?_⟩
 ·by_cases h1:x=a
  ·subst h1;rw[cm_a];exact .inr (.inl ⟨Ef.refl x hx,one hb⟩)
  ·by_cases h2:x=b
   ·subst h2;rw[cm_b];exact .inr (.inr ⟨Ef.refl x hx,one ha⟩)
   ·rw[cm_x h1 h2];exact .inl (one hx)
 ·rcases hm with hm|⟨h1,h2⟩|⟨h1,h2⟩
  ·exact sub _ _ hm
  ·exact Eg.trans _ _ _ (sub _ _ h1) (Eg.trans _ _ _ ab (sub _ _ h2))
  ·exact Eg.trans _ _ _ (sub _ _ h1) (Eg.trans _ _ _ (Eg.symm _ _ ab) (sub _ _ h2))
theorem Qlu(h:Inj n f)(ha:a<n)(hb:b<n)(hne:a≠b)(hr:rch n f a b):¬rch n (cm f a b) a b:=by
 obtain ⟨_,k,hk⟩:=hr;obtain⟨i,hi0,hib,hmin⟩:∃i,0<i/\it f i a=b/\∀j,0<j->j<i->it f j a≠b:=by
  have key:∀k,it f k a=b->∃i,0<i/\it f i a=b/\∀j,0<j->j<i->it f j a≠b:=by
   intro k
   induction k using Nat.strongRecOn with
   | _ k ih=>
    intro hk;have k0:0<k:=Nat.pos_of_ne_zero λz=>by subst z;exact hne hk
    by_cases q:∃j,0<j/\j<k/\it f j a=b
    ·obtain⟨j,_,j2,j3⟩:=q;exact ih j j2 j3
    ·exact⟨k,k0,hk,λj j1 j2 j3=>q ⟨j,j1,j2,j3⟩⟩
  exact key k hk
 have noa:∀j,0<j->j<i->it f j a≠a:=λj j1 j2 z=>by
  have:it f ((i-j)+j) a=b:=by rw[Of (by lia)];exact hib
  rw[Qbb,z]at this;exact hmin (i-j) (by lia) (by lia) this
 have key:∀j,j+1<=i->it (cm f a b) (j+1) b=it f (j+1) a:=by
  intro j
  induction j with
  |zero=>intro _;exact cm_b f a b
  | succ j ih=>
   intro hj;show cm f a b (it (cm f a b) (j+1) b)=f (it f (j+1) a);rw[ih (by lia)];exact cm_x (noa (j+1) (by lia) (by lia)) (hmin (j+1) (by lia) (by lia))
 have hback:it (cm f a b) i b=b:=by
  obtain⟨q,rfl⟩:∃q,i=q+1:=⟨i-1,by lia⟩
  rw[key q (by lia),hib]
 intro hr;obtain⟨_,k,hk⟩:=(Q9 (Xv h ha hb)).symm _ _ hr;have pm:∀m,it (cm f a b) (m*i) b=b:=by
  intro m
  induction m with
  |zero=>rw[Nat.zero_mul];rfl
  |succ m ih=>rw[Tr,Qbb,hback,ih]
 have hm:it (cm f a b) (k%i) b=a:=by
  have e:k=k%i+k/i*i:=by rw[Nat.mul_comm];exact(Nat.mod_add_div k i).symm
  rw[e,Qbb,pm]at hk;exact hk
 have hlt:=S7 k hi0;rcases Nat.eq_zero_or_pos (k%i)with z|z
 ·rw[z]at hm;exact hne hm.symm
 ·obtain⟨q,hq⟩:∃q,k%i=q+1:=⟨k%i-1,by lia⟩
  rw[hq,key q (by lia)]at hm;exact noa (q+1) (by lia) (by lia) hm
theorem Jt(h:Inj n f)(ha:a<n)(hb:b<n)(hn:¬rch n f a b):ncl (rch n f) n=ncl (rch n (cm f a b)) n+1:=by
 rw[Qk6 h ha hb hn];exact Qf6 (Q9 h) ha hb hn
theorem Xt(h:Inj n f)(ha:a<n)(hb:b<n)(hne:a≠b)(hr:rch n f a b):ncl (rch n (cm f a b)) n=ncl (rch n f) n+1:=by
 have:=Jt (Xv h ha hb) ha hb (Qlu h ha hb hne hr)
 rwa [Qxp]at this
def phi(f:Nat->Nat)(ps:List (Nat×Nat)):Nat->Nat:=ps.foldl (λf p=>cm f p.1 p.2) f
def rel(R:Nat->Nat->Prop)(ps:List (Nat×Nat)):Nat->Nat->Prop:=ps.foldl (λR p=>mrg R p.1 p.2) R
theorem Qdc(E:Eqv n R)(h:R a b):mrg R a b=R:=by
 funext x y;refine propext ⟨λhm=>?_,.inl⟩;rcases hm with hm|⟨h1,h2⟩|⟨h1,h2⟩
 ·exact hm
 ·exact E.trans _ _ _ h1 (E.trans _ _ _ h h2)
 ·exact E.trans _ _ _ h1 (E.trans _ _ _ (E.symm _ _ h) h2)
theorem Qil{n V:Nat}:∀(ps:List (Nat×Nat)) (f:Nat->Nat) (R:Nat->Nat->Prop) (k g:Nat),Inj n f->Eqv n R->(∀i j,rch n f i j->R i j)->(∀p∈ps,p.1<n/\p.2<n/\p.1≠p.2) ->
  2*ncl R n+k=V+ncl (rch n f) n+2*g->∃g',2*ncl (rel R ps) n+(k+ps.length)=V+ncl (rch n (phi f ps)) n+2*g'
 | [],f,R,k,g,_,_,_,_,h=>⟨g,h⟩
 | p::ps,f,R,k,g,hf,E,hs,hp,h=>by
  obtain ⟨p1,p2,p3⟩:=hp p (by simp);have hf':=Xv hf p1 p2;have E':=Qa7 E p1 p2 (R:=R);have hs':∀i j,rch n (cm f p.1 p.2) i j->mrg R p.1 p.2 i j:=V0 E' hf' λx hx=>by
   have one:∀{y:Nat},y<n->R y (f y):=λhy=>hs _ _ ⟨hy,1,rfl⟩;by_cases h1:x=p.1
   ·rw[h1,cm_a];exact .inr (.inl ⟨E.refl _ p1,one p2⟩)
   ·by_cases h2:x=p.2
    ·rw[h2,cm_b];exact .inr (.inr ⟨E.refl _ p2,one p1⟩)
    ·rw[cm_x h1 h2];exact .inl (one hx)
  have go:∃g',2*ncl (mrg R p.1 p.2) n+(k+1)=V+ncl (rch n (cm f p.1 p.2)) n+2*g':=by
   by_cases hr:R p.1 p.2
   ·rw[Qdc E hr];by_cases hc:rch n f p.1 p.2
    ·have:=Xt hf p1 p2 p3 hc;exact⟨g,by lia⟩
    ·have:=Jt hf p1 p2 hc;exact⟨g+1,by lia⟩
   ·have h1:=Qf6 E p1 p2 hr;have h2:=Jt hf p1 p2 λz=>hr (hs _ _ z);exact⟨g,by lia⟩
  obtain⟨g',hg'⟩:=go;obtain⟨g2,h2⟩:=Qil ps (cm f p.1 p.2) (mrg R p.1 p.2) (k+1) g' hf' E' hs' (λq hq=>hp q (by simp[hq])) hg';exact⟨g2,by rw[Am];show 2*ncl (rel (mrg R p.1 p.2) ps) n+_=V+ncl (rch n (phi (cm f p.1 p.2) ps)) n+_;lia⟩
theorem Qzb(hf:Inj n f)(hp:∀p∈ps,p.1<n/\p.2<n/\p.1≠p.2) :
  ∃g,2*ncl (rel (rch n f) ps) n+ps.length=ncl (rch n f) n+ncl (rch n (phi f ps)) n+2*g:=by
 obtain⟨g,h⟩:=Qil (V:=ncl (rch n f) n) ps f (rch n f) 0 0 hf (Q9 hf) (λ_ _ z=>z) hp (by lia);exact⟨g,by lia⟩
theorem Qlv(h:Inj n f)(hi:i<n):x∈orb n f i↔rch n f i x:=by
 constructor
 ·intro hx;obtain⟨s,_,rfl⟩:=Aq.mp hx;exact⟨hi,s,rfl⟩
 ·rintro⟨_,k,rfl⟩;exact Qcr.it (λy hy=>h.orb_closed hi hy) k (h.orb_self hi)
theorem Qaa(E:Eqv n R){L:List Nat}(hn:∀x∈L,x<n)(hd:L.Pairwise λx y=>¬R x y)(hc:∀x,x<n->∃r∈L,R r x):ncl R n=L.length:=by
 have hm:∀x:Nat,∃l,x<n->l<=x/\R l x/\∀j,j<l->¬R j x:=λx=>by
  by_cases h:x<n
  ·obtain⟨l,hl⟩:=Qac E h;exact⟨l,λ_=>hl⟩
  ·exact⟨0,λz=>absurd z h⟩
 let m:Nat->Nat:=λx=>choose (hm x);have ms:∀x,x<n->m x<=x/\R (m x) x/\∀j,j<m x->¬R j x:=λx=>choose_spec (hm x);have nd:(L.map m).Nodup:=by
  refine Dl.mpr ?_;refine D4 ?_ hd;intro x y hx hy hr e;have h1:=(ms x (hn x hx)).2.1;have h2:=(ms y (hn y hy)).2.1;rw[← e]at h2;exact hr (E.trans _ _ _ (E.symm _ _ h1) h2)
 have hp:((Ai n).filter λi=>decide (∀j,j<i->¬R j i)).Perm (L.map m):=by
  refine Hang.Ur (Nr.filter _) nd λx=>?_;rw[Df,Ay,Aq,decide_eq_true_iff];constructor
  ·rintro⟨hx,hl⟩;obtain⟨r,hr,e⟩:=hc x hx;refine⟨r,hr,?_⟩;obtain⟨_,h2,h3⟩:=ms r (hn r hr);rcases Te (m r) x with z|z|z
   ·exact absurd (E.trans _ _ _ h2 e) (hl (m r) z)
   ·exact z
   ·exact absurd (E.symm _ _ e) (h3 x z)
  ·rintro⟨r,hr,rfl⟩;obtain⟨h1,h2,h3⟩:=ms r (hn r hr);refine⟨Rf h1 (hn r hr),λj hj hjr=>h3 j hj (E.trans _ _ _ hjr h2)⟩
 unfold ncl;rw[hp.length_eq,Ao]
def sws:List (Nat×Nat)->Nat->Nat
 | [],x=>x
 |p::ps,x=>sw p.1 p.2 (sws ps x)
theorem Qlo:∀(ps:List (Nat×Nat)) (f:Nat->Nat) (x:Nat),phi f ps x=f (sws ps x)
 | [],f,x=>rfl
 | p::ps,f,x=>by
  show phi (cm f p.1 p.2) ps x=_;rw[Qlo ps];rfl
theorem Qqo(hgg:∀i,i<n->g (g i)=i)(hgn:∀i,i<n->g i<n):∀(l:List Nat),(∀i∈l,i<n/\i<g i)->l.Nodup->∀x,x<n->sws (l.map λi=>(i,g i)) x=if x∈l\/g x∈l then g x else x
 | [],_,_,x,_=>by simp[sws]
 | i::l,h,nd,x,hx=>by
  obtain ⟨hi,hig⟩:=h i Ak;obtain⟨nd1,nd2⟩:=Bd.mp nd;have ih:=Qqo hgg hgn l (λj hj=>h j (Al _ hj)) nd2 x hx;have gi:g i∉l:=λz=>by
   have:=(h (g i) (Al _ z)).2;rw[hgg i hi]at this;lia
  show sw i (g i) (sws (l.map λi=>(i,g i)) x)=_;rw[ih];by_cases e1:x=i
  ·subst e1;rw[if_neg (λz=>z.elim nd1 gi),if_pos (.inl Ak)];unfold sw;rw[if_pos rfl]
  ·by_cases e2:x=g i
   ·subst e2;rw[hgg i hi,if_neg (λz=>z.elim gi nd1),if_pos (.inr Ak)];unfold sw;rw[if_neg e1,if_pos rfl]
   ·have e3:g x≠i:=λz=>e2 (by rw[← z,hgg x hx]);have e4:g x≠g i:=λz=>e1 (by rw[← hgg x hx,z,hgg i hi]);by_cases q:x∈l\/g x∈l
    ·rw[if_pos q,if_pos (q.imp (Al _) (Al _))];unfold sw;rw[if_neg e3,if_neg e4]
    ·rw[if_neg q,if_neg (λz=>q (z.imp (λw=>(Ar.mp w).resolve_left e1) λw=>(Ar.mp w).resolve_left e3))];unfold sw;rw[if_neg e1,if_neg e2]
end Eul
variable {v:Int}{c y:Nat}{l:List Nat}
namespace Eul
open Orb Classical M
theorem Qjr(h:Inj n f):∀(k:Nat)(l:List Nat),l.length<=k->(∀x∈l,x<n)->Qcr f l->∃L:List Nat,L.length=(X3 n f l).length/\(∀x∈L,x∈l)/\(L.Pairwise λx y=>¬rch n f x y)/\∀x∈l,∃r∈L,rch n f r x:=by
 intro k
 induction k with
 | zero=>
  intro l hk _ _;have:l=[]:=Ml.mp (by lia);subst this;exact⟨[],rfl,λx hx=>hx,Rn,λx hx=>by cases hx⟩
 | succ k ih=>
  intro l hk hn hc;cases l with
  |nil=>exact⟨[],rfl,λx hx=>hx,Rn,λx hx=>by cases hx⟩
  | cons i r=>
   have hi:=hn i Ak;have hl:(r.filter λx=>!(orb n f i).contains x).length<=k:=Dy (Nw _ _) (by simp at hk;lia);obtain⟨L,h1,h2,h3,h4⟩:=ih _ hl (λx hx=>hn x (Al _ (Df.mp hx).1)) (h.closed_rest hn hc);refine⟨i::L,by rw[Qci,Am,Am,h1],λx hx=>?_,R3.mpr ⟨λy hy hr=>?_,h3⟩,λx hx=>?_⟩
   ·rcases Ar.mp hx with rfl|hx
    ·exact Ak
    ·exact Al _ (Df.mp (h2 x hx)).1
   ·have:=(Df.mp (h2 y hy)).2;have hno:y∉orb n f i:=by simpa using this
    exact hno ((Qlv h hi).mpr hr)
   ·by_cases ho:x∈orb n f i
    ·exact⟨i,Ak,(Qlv h hi).mp ho⟩
    ·rcases Ar.mp hx with rfl|hx
     ·exact absurd (h.orb_self hi) ho
     ·obtain⟨r',hr',e⟩:=h4 x (Df.mpr ⟨hx,by simpa using ho⟩);exact⟨r',Al _ hr',e⟩
theorem Qm7(h:Inj n f)(hl:∀x,x∈l↔x<n):(X3 n f l).length=ncl (rch n f) n:=by
 obtain⟨L,h1,h2,h3,h4⟩:=Qjr h l.length l (At _) (λx hx=>(hl x).mp hx) (λx hx=>(hl _).mpr (h.lt x ((hl x).mp hx)));rw[Qaa (Q9 h) (λx hx=>(hl x).mp (h2 x hx)) h3 (λx hx=>h4 x ((hl x).mpr hx)),h1]
theorem Vo(h:Inj n f)(e:∀x,x<n->f x=g x):rch n f=rch n g:=by
 have key:∀k i,i<n->it f k i=it g k i:=by
  intro k
  induction k with
  |zero=>intro i _;rfl
  | succ k ih=>
   intro i hi;show f (it f k i)=g (it g k i);rw[← ih i hi,e _ (h.itlt k hi)]
 funext i j;exact propext ⟨λ⟨hi,k,q⟩=>⟨hi,k,by rw[← key k i hi];exact q⟩,λ⟨hi,k,q⟩=>⟨hi,k,by rw[key k i hi];exact q⟩⟩
def lows(n:Nat)(g:Nat->Nat):List Nat:=(Ai n).filter λi=>decide (i<g i)
def prs(n:Nat)(g:Nat->Nat):List (Nat×Nat):=(lows n g).map λi=>(i,g i)
theorem Jp:i∈lows n g↔i<n/\i<g i:=by unfold lows;rw[Df,Ay,decide_eq_true_iff]
theorem Qb8(T:Tw n A g):∀p∈prs n g,p.1<n/\p.2<n/\p.1≠p.2:=λp hp=>by
 obtain⟨i,hi,rfl⟩:=Aq.mp hp;obtain⟨h1,h2⟩:=Jp.mp hi;exact⟨h1,T.lt i h1,λz=>T.ne i h1 z.symm⟩
theorem Qvr(T:Tw n A g)(f:Nat->Nat)(hx:x<n):phi f (prs n g) x=f (g x):=by
 rw[Qlo];unfold prs;rw[Qqo (λi hi=>T.inv hi) T.lt (lows n g) (λi hi=>Jp.mp hi) (Nr.filter _) x hx,if_pos];by_cases h:x<g x
 ·exact .inl (Jp.mpr ⟨hx,h⟩)
 ·have:=T.ne x hx;exact .inr (Jp.mpr ⟨T.lt x hx,by rw[T.inv hx];lia⟩)
theorem Qh6(T:Tw n A g):2*(prs n g).length=n:=by
 have h1:(lows n g).length+((Ai n).filter λi=>!decide (i<g i)).length=n:=by
  have key:∀(p:Nat->Bool)(l:List Nat),(l.filter p).length+(l.filter λi=>!p i).length=l.length:=by
   intro p l
   induction l with
   |nil=>rfl
   | cons a l ih=>
    cases hp:p a with
    |true=>rw[Mn hp,Mo (by simp[hp]),Am,Am];lia
    |false=>rw[Mo (by simp[hp]),Mn (by simp[hp]),Am,Am];lia
  have:=key (λi=>decide (i<g i)) (Ai n);rw[Db]at this;exact this
 have h2:((Ai n).filter λi=>!decide (i<g i)).Perm ((lows n g).map g):=by
  refine Hang.Ur (Nr.filter _) ?_ λx=>?_
  ·refine Dl.mpr (D4 ?_ (Nr.filter _:(lows n g).Nodup));intro a b ha hb hne z;exact hne (by rw[← T.inv (Jp.mp ha).1,z,T.inv (Jp.mp hb).1])
  ·rw [Df,Ay,Aq];constructor
   ·rintro⟨hx,hp⟩;have hp:¬x<g x:=by simpa using hp
    have:=T.ne x hx;exact⟨g x,Jp.mpr ⟨T.lt x hx,by rw[T.inv hx];lia⟩,T.inv hx⟩
   ·rintro⟨y,hy,rfl⟩;obtain⟨y1,y2⟩:=Jp.mp hy;refine⟨T.lt y y1,?_⟩;rw[T.inv y1];simp;lia
 have h3:=h2.length_eq;rw[Ao]at h3;unfold prs;rw[Ao];lia
def vt(m d:Nat):Nat:=if d<4*m then d/4 else m
theorem Y8:Inj (4*m+e) (nx m e):=⟨λi hi=>Qpi hi,λi j hi hj h=>Qq7 hi hj h⟩
theorem Qbv(hc:c<m)(hj:j<4):nx m e (4*c+j)=4*c+(j+3)%4:=by
 unfold nx;rw[if_pos (by lia)];lia
theorem Qa6(hj:j<e):nx m e (4*m+j)=4*m+(j+1)%e:=by
 unfold nx;rw[if_neg (by lia),show 4*m+j-4*m=j by lia]
theorem Qx3(hx:x<4*m+e):vt m (nx m e x)=vt m x:=by
 unfold vt nx;by_cases h:x<4*m
 ·rw[if_pos h,if_pos h,if_pos (by lia)];lia
 ·rw[if_neg h,if_neg h,if_neg (by lia)]
theorem Qk4(hr:rch (4*m+e) (nx m e) x y):vt m x=vt m y:=by
 obtain⟨hx,k,rfl⟩:=hr
 induction k with
 |zero=>rfl
 |succ k ih=>rw[ih];exact(Qx3 (Y8.itlt k hx)).symm
def hd(m d:Nat):Nat:=4*vt m d
theorem Qmy(hx:x<4*m+e):rch (4*m+e) (nx m e) (hd m x) x:=by
 unfold hd vt;by_cases h:x<4*m
 ·rw[if_pos h];have hc:x/4<m:=by lia
  have n0:nx m e (4*(x/4))=4*(x/4)+3:=by have:=Qbv (e:=e) hc (j:=0) (by lia);rw[Nn]at this;rw[this]
  have n3:nx m e (4*(x/4)+3)=4*(x/4)+2:=Qbv hc (by lia);have n2:nx m e (4*(x/4)+2)=4*(x/4)+1:=Qbv hc (by lia);refine⟨by lia,?_⟩;rcases(show x%4=0\/x%4=1\/x%4=2\/x%4=3 by lia)with q|q|q|q
  ·exact⟨0,by show 4*(x/4)=x;lia⟩
  ·exact⟨3,by show nx m e (nx m e (nx m e (4*(x/4))))=x;rw[n0,n3,n2];lia⟩
  ·exact⟨2,by show nx m e (nx m e (4*(x/4)))=x;rw[n0,n3];lia⟩
  ·exact⟨1,by show nx m e (4*(x/4))=x;rw[n0];lia⟩
 ·rw [if_neg h];refine⟨by lia,x-4*m,?_⟩;have key:∀j,j<e->it (nx m e) j (4*m)=4*m+j:=by
   intro j
   induction j with
   |zero=>intro _;rfl
   | succ j ih=>
    intro hj;show nx m e (it (nx m e) j (4*m))=_;rw[ih (by lia),Qa6 (by lia),Dn hj]
  rw[key _ (by lia)];lia
theorem Qk5(hx:x<4*m+e)(hy:y<4*m+e):rch (4*m+e) (nx m e) x y↔vt m x=vt m y:=by
 refine⟨Qk4,λh=>?_⟩;have E:=Q9 (Y8 (m:=m) (e:=e));have h1:=Qmy hx;have h2:=Qmy hy;unfold hd at h1 h2;rw[h]at h1;exact E.trans _ _ _ (E.symm _ _ h1) h2
def pts(m e:Nat):List Nat:=(Ai m).map (4 * ·)++if 0<e then [4*m]else []
theorem Qs2:(pts m e).length=m+if 0<e then 1 else 0:=by
 unfold pts;rw[Bx,Ao,Db]
 split<;>rfl
theorem Qdd:x∈pts m e↔∃v,x=4*v/\(v<m\/(v=m/\0<e)):=by
 unfold pts;rw[Aj,Aq];constructor
 ·rintro(⟨v,hv,rfl⟩|h)
  ·exact⟨v,rfl,.inl (Ay.mp hv)⟩
  ·split at h
   ·rename_i he;exact⟨m,Ap.mp h,.inr ⟨rfl,he⟩⟩
   ·cases h
 ·rintro⟨v,rfl,h|⟨rfl,he⟩⟩
  ·exact .inl ⟨v,Ay.mpr h,rfl⟩
  ·exact .inr (by rw[if_pos he];exact Ap.mpr rfl)
theorem vt_4{v:Nat}(h:v<=m):vt m (4*v)=v:=by
 unfold vt
 split<;>lia
theorem Qw7(hx:x<4*m+e):hd m x∈pts m e:=by
 refine Qdd.mpr ⟨vt m x,rfl,?_⟩;unfold vt;split
 ·exact .inl (by lia)
 ·exact .inr ⟨rfl,by lia⟩
theorem Qvo:(pts m e).Pairwise (· < ·):=by
 unfold pts;refine B6.mpr ⟨Dl.mpr (Fu.imp λh=>by lia),?_,λa ha b hb=>?_⟩
 ·split<;>simp
 ·obtain⟨v,hv,rfl⟩:=Aq.mp ha;have hv:=Ay.mp hv
  split at hb
  ·rw[Ap.mp hb];show 4*v<4*m;lia
  ·cases hb
theorem Qvp(h:x∈pts m e):x<4*m+e:=by
 obtain⟨v,rfl,q|⟨rfl,q⟩⟩:=Qdd.mp h<;>lia
theorem Qi7:ncl (rch (4*m+e) (nx m e)) (4*m+e)=m+if 0<e then 1 else 0:=by
 rw[Qaa (Q9 Y8) (L:=pts m e) (λx hx=>Qvp hx) ?_ (λx hx=>⟨hd m x,Qw7 hx,Qmy hx⟩),Qs2];refine D4 ?_ Qvo;intro a b ha hb hab hr;have:=Qk4 hr;obtain⟨v,rfl,hv⟩:=Qdd.mp ha;obtain⟨w,rfl,hw⟩:=Qdd.mp hb;rw[vt_4 (by lia),vt_4 (by lia)]at this;lia
end Eul
namespace Eul
open Orb Classical M Hang
theorem Qfu{n:Nat}:∀(ps:List (Nat×Nat)) (R:Nat->Nat->Prop),Eqv n R->(∀p∈ps,p.1<n/\p.2<n/\p.1≠p.2)->Eqv n (rel R ps)
 | [],R,E,_=>E
 |p::ps,R,E,h=>Qfu ps _ (Qa7 E (h p (by simp)).1 (h p (by simp)).2.1) λq hq=>h q (by simp[hq])
theorem Ga:∀(ps:List (Nat×Nat)) (R:Nat->Nat->Prop) {i j:Nat},R i j->rel R ps i j
 | [],R,i,j,h=>h
 |p::ps,R,i,j,h=>Ga ps (mrg R p.1 p.2) (.inl h)
theorem X6{n:Nat}:∀(ps:List (Nat×Nat)) (R:Nat->Nat->Prop),Eqv n R->(∀p∈ps,p.1<n/\p.2<n/\p.1≠p.2)->∀p∈ps,rel R ps p.1 p.2
 | [],R,E,_,p,hp=>by cases hp
 | q::ps,R,E,h,p,hp=>by
  obtain⟨h1,h2,h3⟩:=h q (by simp);rcases Ar.mp hp with rfl|hp
  ·exact Ga ps _ (.inr (.inl ⟨E.refl _ h1,E.refl _ h2⟩))
  ·exact X6 ps _ (Qa7 E h1 h2) (λq hq=>h q (by simp[hq])) p hp
theorem Qft{n:Nat}{C:Nat->Nat->Prop}(EC:Eqv n C):∀(ps:List (Nat×Nat)) (R:Nat->Nat->Prop),(∀i j,R i j->C i j)->(∀p∈ps,C p.1 p.2)->∀i j,rel R ps i j->C i j
 | [],R,h,_,i,j,hr=>h i j hr
 | p::ps,R,h,hp,i,j,hr=>Qft EC ps (mrg R p.1 p.2) (λx y hm=>by
   have hc:=hp p (by simp);rcases hm with hm|⟨h1,h2⟩|⟨h1,h2⟩
   ·exact h _ _ hm
   ·exact EC.trans _ _ _ (h _ _ h1) (EC.trans _ _ _ hc (h _ _ h2))
   ·exact EC.trans _ _ _ (h _ _ h1) (EC.trans _ _ _ (EC.symm _ _ hc) (h _ _ h2))) (λq hq=>hp q (by simp[hq])) i j hr
def pv(m d:Nat):Int:=(sp m d).1
theorem Qsy:pv m x=pv m y↔vt m x=vt m y:=by
 unfold pv sp vt;by_cases hx:x<4*m<;>by_cases hy:y<4*m<;>simp[hx,hy]<;>lia
def Ed(m e:Nat)(g:Nat->Nat)(x y:Int):Prop:=∃i,i<4*m+e/\pv m i=x/\pv m (g i)=y
theorem Qum(T:Tw (4*m+e) A g):∀x y,Ed m e g x y->Ed m e g y x:=λx y ⟨i,hi,h1,h2⟩=>⟨g i,T.lt i hi,h2,by rw[T.inv hi];exact h1⟩
abbrev RR(m e:Nat)(g:Nat->Nat):Nat->Nat->Prop:=rel (rch (4*m+e) (nx m e)) (prs (4*m+e) g)
theorem Qiy(T:Tw (4*m+e) A g):Eqv (4*m+e) (RR m e g):=Qfu _ _ (Q9 Y8) (Qb8 T)
theorem RR_g(T:Tw (4*m+e) A g)(hi:i<4*m+e):RR m e g i (g i):=by
 have P:=X6 _ _ (Q9 Y8) (Qb8 T);by_cases h:i<g i
 ·exact P (i,g i) (Aq.mpr ⟨i,Jp.mpr ⟨hi,h⟩,rfl⟩)
 ·have:=T.ne i hi;have q:=P (g i,g (g i)) (Aq.mpr ⟨g i,Jp.mpr ⟨T.lt i hi,by rw[T.inv hi];lia⟩,rfl⟩);have q:RR m e g (g i) (g (g i)):=q;rw[T.inv hi]at q;exact(Qiy T).symm _ _ q
theorem Qrp(T:Tw (4*m+e) A g)(hx:x<4*m+e)(hy:y<4*m+e):RR m e g x y↔Con (Ed m e g) (pv m x) (pv m y):=by
 constructor
 ·intro h;have EC:Eqv (4*m+e) λx y=>Con (Ed m e g) (pv m x) (pv m y):=⟨λi _=>.refl _,λi j h=>h.symm (Qum T),λi j k h1 h2=>h1.trans h2⟩
  refine Qft EC _ _ (λi j hr=>?_) (λp hp=>?_) x y h
  ·have:=Qsy.mpr (Qk4 hr);show Con _ _ _;rw[this];exact .refl _
  ·obtain⟨i,hi,rfl⟩:=Aq.mp hp;exact Con.one ⟨i,(Jp.mp hi).1,rfl,rfl⟩
 ·intro h;have key:∀u v:Int,Con (Ed m e g) u v->∀x y,x<4*m+e->y<4*m+e->pv m x=u->pv m y=v->RR m e g x y:=by
   intro u v h
   induction h with
   | refl=>
    intro x y hx hy h1 h2;exact Ga _ _ ((Qk5 hx hy).mpr (Qsy.mp (h1.trans h2.symm)))
   | step _ ed ih=>
    intro x y hx hy h1 h2;obtain⟨i,hi,e1,e2⟩:=ed;have a:=ih x i hx hi h1 e1;have b:=RR_g T hi;have c:RR m e g (g i) y:=Ga _ _ ((Qk5 (T.lt i hi) hy).mpr (Qsy.mp (e2.trans h2.symm)));exact(Qiy T).trans _ _ _ a ((Qiy T).trans _ _ _ b c)
  exact key _ _ h x y hx hy rfl rfl
def Vs(m e:Nat):List Int:=(if e=0 then []else [-1])++(Ai m).map λ(k:Nat)=>(k:Int)
theorem Qrd:v∈Vs m e↔(v = -1/\e≠0)\/∃k:Nat,k<m/\v=(k:Int):=by
 unfold Vs;rw[Aj,Aq];constructor
 ·rintro(h|⟨k,hk,rfl⟩)
  ·split at h
   ·cases h
   ·rename_i he;exact .inl ⟨Ap.mp h,he⟩
  ·exact .inr ⟨k,Ay.mp hk,rfl⟩
 ·rintro(⟨rfl,he⟩|⟨k,hk,rfl⟩)
  ·exact .inl (by rw[if_neg he];exact Ap.mpr rfl)
  ·exact .inr ⟨k,Ay.mpr hk,rfl⟩
theorem Qzm:(Vs m e).Pairwise (· < ·):=by
 unfold Vs;refine B6.mpr ⟨by split<;>simp,Dl.mpr (Fu.imp λh=>by lia),λa ha b hb=>?_⟩;obtain⟨k,_,rfl⟩:=Aq.mp hb
 split at ha
 ·cases ha
 ·rw[Ap.mp ha];lia
theorem Qvn(hx:x<4*m+e):pv m x∈Vs m e:=by
 refine Qrd.mpr ?_;unfold pv sp;by_cases h:x<4*m
 ·rw[if_pos h];exact .inr ⟨x/4,by lia,rfl⟩
 ·rw[if_neg h];exact .inl ⟨rfl,by lia⟩
def dart(m:Nat)(v:Int):Nat:=if v<0 then 4*m else 4*v.toNat
theorem Uw(h:v∈Vs m e):dart m v<4*m+e/\pv m (dart m v)=v:=by
 unfold dart pv sp;rcases Qrd.mp h with⟨rfl,he⟩|⟨k,hk,rfl⟩
 ·rw[if_pos (by lia)];refine⟨by lia,?_⟩;rw[if_neg (by lia)]
 ·rw[if_neg (by lia),Nf];refine⟨by lia,?_⟩;rw[if_pos (by lia)];show((4*k/4:Nat):Int)=k;lia
theorem Qh9{P:Int->Prop}:∀(l:List Int),(∃y∈l,P y)->∃w∈l,P w/\∀y∈l,P y->w<=y
 | [],h=>by obtain⟨y,hy,_⟩:=h;cases hy
 | a::l,h=>by
  by_cases hl:∃y∈l,P y
  ·obtain ⟨w,hw,hp,hm⟩:=Qh9 l hl;by_cases ha:P a/\a<=w
   ·refine⟨a,Ak,ha.1,λy hy hpy=>?_⟩;rcases Ar.mp hy with rfl|hy
    ·exact Mt _
    ·exact Int.le_trans ha.2 (hm y hy hpy)
   ·refine ⟨w,Al _ hw,hp,λy hy hpy=>?_⟩;rcases Ar.mp hy with rfl|hy
    ·rcases Int.lt_or_le w y with z|z
     ·exact Rg z
     ·exact absurd ⟨hpy,z⟩ ha
    ·exact hm y hy hpy
  ·obtain ⟨y,hy,hp⟩:=h;rcases Ar.mp hy with rfl|hy
   ·refine⟨y,Ak,hp,λz hz hpz=>?_⟩;rcases Ar.mp hz with rfl|hz
    ·exact Mt _
    ·exact absurd ⟨z,hz,hpz⟩ hl
   ·exact absurd ⟨y,hy,hp⟩ hl
theorem Qi9(T:Tw (4*m+e) A g):((Vs m e).filter (isL (Ed m e g) (Vs m e))).length=ncl (RR m e g) (4*m+e):=by
 have hL:∀v∈(Vs m e).filter (isL (Ed m e g) (Vs m e)),v∈Vs m e/\∀y∈Vs m e,Con (Ed m e g) v y->v<=y:=λv hv=>⟨(Df.mp hv).1,Qgi.mp (Df.mp hv).2⟩
 rw[Qaa (Qiy T) (L:=((Vs m e).filter (isL (Ed m e g) (Vs m e))).map (dart m)) ?_ ?_ ?_,Ao]
 ·intro x hx;obtain⟨v,hv,rfl⟩:=Aq.mp hx;exact(Uw (hL v hv).1).1
 ·refine Dl.mpr (D4 ?_ (Qzm.filter _));intro u v hu hv huv hr;obtain⟨u1,u2⟩:=hL u hu;obtain⟨v1,v2⟩:=hL v hv;have c:=(Qrp T (Uw u1).1 (Uw v1).1).mp hr;rw[(Uw u1).2,(Uw v1).2]at c;have:=v2 u u1 (c.symm (Qum T));lia
 ·intro x hx;obtain⟨w,hw,hp,hm⟩:=Qh9 (P:=λy=>Con (Ed m e g) (pv m x) y) (Vs m e) ⟨pv m x,Qvn hx,.refl _⟩;refine⟨dart m w,Aq.mpr ⟨w,Df.mpr ⟨hw,Qgi.mpr λy hy hc=>hm y hy (hp.trans hc)⟩,rfl⟩,?_⟩;refine(Qrp T (Uw hw).1 hx).mpr ?_;rw[(Uw hw).2];exact hp.symm (Qum T)
end Eul
variable {E R':Nat->Nat->Prop}{k f':Nat->Nat}{fr:Int}
namespace Flt
open Orb Eul Classical M
structure Sys(n:Nat)(f g:Nat->Nat):Prop where
 fi:Inj n f
 lt:∀i,i<n->g i<n
 ne:∀i,i<n->g i≠i
 inv:∀i,i<n->g (g i)=i
def Cn(n:Nat)(f g:Nat->Nat)(x y:Nat):Prop:=x<n/\y<n/\∀E:Nat->Nat->Prop,Eqv n E->(∀z,z<n->E z (f z))->(∀z,z<n->E z (g z))->E x y
theorem Qv:Eqv n (Cn n f g):=⟨λi hi=>⟨hi,hi,λE h _ _=>h.refl i hi⟩,λi j h=>⟨h.2.1,h.1,λE e a b=>e.symm _ _ (h.2.2 E e a b)⟩,λi j k h h'=>⟨h.1,h'.2.1,λE e a b=>e.trans _ _ _ (h.2.2 E e a b) (h'.2.2 E e a b)⟩⟩
theorem Cn_f(h:Inj n f)(hz:z<n):Cn n f g z (f z):=⟨hz,h.lt z hz,λE _ a _=>a z hz⟩
theorem Cn_g(h:Sys n f g)(hz:z<n):Cn n f g z (g z):=⟨hz,h.lt z hz,λE _ _ b=>b z hz⟩
theorem Gy(e:Eqv n E)(a:∀z,z<n->E z (f z))(b:∀z,z<n->E z (g z))(h:Cn n f g x y):E x y:=h.2.2 E e a b
theorem Qi0(h:Inj n f)(hr:rch n f x y):Cn n f g x y:=V0 Qv h (λz hz=>Cn_f h hz) x y hr
theorem Yr(h:∀x y,x<n->y<n->(R x y↔R' x y)):ncl R n=ncl R' n:=by
 unfold ncl;congr 1;refine Kd λi hi=>?_;have hi:=Ay.mp hi;exact decide_eq_decide.mpr ⟨λq j hj z=>q j hj ((h j i (by lia) hi).mpr z),λq j hj z=>q j hj ((h j i (by lia) hi).mp z)⟩
theorem Qf5(h:∀x y,x<n->y<n->(R x y↔R' x y))(hn:∀x,x<n->¬R x n):ncl R (n+1)=ncl R' n+1:=by
 rw[← Yr h];unfold ncl;rw[Nz,S1,Bx,Mn (by simpa using hn)];rfl
theorem Qf4(h:∀x y,x<n->y<n->(R x y↔R' x y))(hn:∃x,x<n/\R x n):ncl R (n+1)=ncl R' n:=by
 rw[← Yr h];unfold ncl;obtain⟨x,hx,hr⟩:=hn;rw[Nz,S1,Bx,Mo (by simp only[decide_eq_true_iff];exactλz=>z x hx hr)];rfl
noncomputable def Gn(n:Nat)(f g:Nat->Nat):Int:=4*(ncl (Cn n f g) n:Int)+(n:Int)-2*(ncl (rch n f) n:Int)-2*(ncl (rch n λx=>f (g x)) n:Int)
theorem Sys.tw(h:Sys n f g):Tw n (λi=>((min i (g i):Nat):Int)) g:=by
 refine⟨h.lt,h.ne,λi hi=>?_,λi k hi hk e=>?_⟩
 ·show((min (g i) (g (g i)):Nat):Int)=_;rw[h.inv i hi,Nat.min_comm]
 ·have e:min k (g k)=min i (g i):=by exact_mod_cast e
  have h1:=h.inv i hi;have h2:=h.inv k hk;rcases Og k (g k)with a|a
  ·rcases Og i (g i)with b|b
   ·rw[R5 a,R5 b]at e;exact .inl e
   ·rw[R5 a,Sj b]at e;exact .inr e
  ·rcases Og i (g i)with b|b
   ·rw[Sj a,R5 b]at e;exact .inr (by rw[← e,h2])
   ·rw[Sj a,Sj b]at e;exact .inl (by rw[← h2,e,h1])
theorem Sys.fg(h:Sys n f g):Inj n λx=>f (g x):=⟨λi hi=>h.fi.lt _ (h.lt i hi),λi j hi hj e=>by
 have:=h.fi.inj _ _ (h.lt i hi) (h.lt j hj) e;rw[← h.inv i hi,this,h.inv j hj]⟩
theorem Sys.rel(h:Sys n f g){x y:Nat}(hx:x<n)(hy:y<n):rel (rch n f) (prs n g) x y↔Cn n f g x y:=by
 have T:=h.tw;have Er:=Qfu (prs n g) (rch n f) (Q9 h.fi) (Qb8 T);constructor
 ·intro hr;refine Qft (n:=n) Qv (prs n g) (rch n f) (λi j z=>Qi0 h.fi z) (λp hp=>?_) x y hr;obtain⟨i,hi,rfl⟩:=Aq.mp hp;exact Cn_g h (Jp.mp hi).1
 ·intro hc;refine Gy Er (λz hz=>Ga _ _ ⟨hz,1,rfl⟩) (λz hz=>?_) hc;rcases Te z (g z)with q|q|q
  ·exact X6 _ _ (Q9 h.fi) (Qb8 T) (z,g z) (Aq.mpr ⟨z,Jp.mpr ⟨hz,q⟩,rfl⟩)
  ·exact absurd q.symm (h.ne z hz)
  ·have:=X6 _ _ (Q9 h.fi) (Qb8 T) (g z,g (g z)) (Aq.mpr ⟨g z,Jp.mpr ⟨h.lt z hz,by rw[h.inv z hz];exact q⟩,rfl⟩);rw[show(g z,g (g z))=(g z,z) by rw[h.inv z hz]]at this;exact Er.symm _ _ this
theorem Qx0(h:Sys n f g):0<=Gn n f g:=by
 have T:=h.tw;obtain⟨q,e⟩:=Qzb h.fi (Qb8 T);have e1:=Qh6 T;have e2:ncl (rel (rch n f) (prs n g)) n=ncl (Cn n f g) n:=Yr λx y hx hy=>h.rel hx hy;have e3:rch n (phi f (prs n g))=rch n λx=>f (g x):=(Vo h.fg λx hx=>(Qvr T f hx).symm).symm;rw[e2,e3]at e;unfold Gn;lia
theorem Qda(E:Eqv n R)(E':Eqv n R'){h:Nat->Nat}(hl:∀x,x<n->h x<n)(kl:∀x,x<n->k x<n)(hk:∀x,x<n->h (k x)=x)(hR:∀x y,x<n->y<n->(R x y↔R' (h x) (h y))):ncl R n=ncl R' n:=by
 let L:=(Ai n).filter λi=>decide (∀j,j<i->¬R j i);have hL:∀x∈L,x<n:=λx hx=>Ay.mp (Df.mp hx).1;have pw:L.Pairwise λx y=>¬R x y:=by
  have:L.Pairwise (· < ·):=List.Pairwise.filter _ Fu;refine D4 (λ{a b} ha hb hab hr=>?_) this;exact of_decide_eq_true (Df.mp hb).2 a hab hr
 have cv:∀x,x<n->∃r∈L,R r x:=λx hx=>by
  obtain⟨l,h1,h2,h3⟩:=Qac E hx;exact⟨l,Df.mpr ⟨Ay.mpr (by lia),decide_eq_true λj hj z=>h3 j hj (E.trans _ _ _ z h2)⟩,h2⟩
 have:=Qaa E' (L:=L.map h) (λx hx=>by obtain⟨y,hy,rfl⟩:=Aq.mp hx;exact hl y (hL y hy)) (Dl.mpr (D4 (λ{a b} ha hb hr z=>hr ((hR a b (hL a ha) (hL b hb)).mpr z)) pw)) (λx hx=>by
  obtain⟨r,hr,e⟩:=cv (k x) (kl x hx);refine⟨h r,Aq.mpr ⟨r,hr,rfl⟩,?_⟩;have:=(hR r (k x) (hL r hr) (kl x hx)).mp e;rw[hk x hx]at this;exact this)
 rw[this,Ao];rfl
theorem Qfv{h:Nat->Nat}(hi:Inj n f)(hf:∀x,x<n->h (f x)=f' (h x))(hl:∀x,x<n->h x<n)(hj:∀x y,x<n->y<n->h x=h y->x=y)(hx:x<n)(hy:y<n):rch n f x y↔rch n f' (h x) (h y):=by
 have key:∀t,h (it f t x)=it f' t (h x):=by
  intro t
  induction t with
  |zero=>rfl
  |succ t ih=>show h (f (it f t x))=f' (it f' t (h x));rw[hf _ (hi.itlt t hx),ih]
 exact⟨λ⟨_,t,e⟩=>⟨hl x hx,t,by rw[← key,e]⟩,λ⟨_,t,e⟩=>⟨hx,t,hj _ _ (hi.itlt t hx) hy (by rw[key,e])⟩⟩
structure Iso(n:Nat)(f g f' g' h k:Nat->Nat):Prop where
 hl:∀x,x<n->h x<n
 kl:∀x,x<n->k x<n
 kh:∀x,x<n->k (h x)=x
 hk:∀x,x<n->h (k x)=x
 hf:∀x,x<n->h (f x)=f' (h x)
 hg:∀x,x<n->h (g x)=g' (h x)
section
variable {g' h:Nat->Nat}
theorem Iso.hj(i:Iso n f g f' g' h k):∀x y,x<n->y<n->h x=h y->x=y:=λx y hx hy e=>by rw[← i.kh x hx,e,i.kh y hy]
theorem Iso.sys(i:Iso n f g f' g' h k)(s:Sys n f g):Sys n f' g':=by
 have F:∀x,x<n->f' x=h (f (k x)):=λx hx=>by rw[i.hf _ (i.kl x hx),i.hk x hx]
 have G:∀x,x<n->g' x=h (g (k x)):=λx hx=>by rw[i.hg _ (i.kl x hx),i.hk x hx]
 refine⟨⟨λx hx=>by rw[F x hx];exact i.hl _ (s.fi.lt _ (i.kl x hx)),λx y hx hy e=>?_⟩,λx hx=>by rw[G x hx];exact i.hl _ (s.lt _ (i.kl x hx)),λx hx e=>?_,λx hx=>?_⟩
 ·rw[F x hx,F y hy]at e;have:=s.fi.inj _ _ (i.kl x hx) (i.kl y hy) (i.hj _ _ (s.fi.lt _ (i.kl x hx)) (s.fi.lt _ (i.kl y hy)) e);rw[← i.hk x hx,this,i.hk y hy]
 ·rw[G x hx]at e;have:g (k x)=k x:=by rw[← i.kh _ (s.lt _ (i.kl x hx)),e]
  exact s.ne _ (i.kl x hx) this
 ·rw[G x hx,G _ (i.hl _ (s.lt _ (i.kl x hx))),i.kh _ (s.lt _ (i.kl x hx)),s.inv _ (i.kl x hx),i.hk x hx]
theorem Iso.Gn(i:Iso n f g f' g' h k)(s:Sys n f g):Gn n f g=Gn n f' g':=by
 have s':=i.sys s;have e1:ncl (rch n f) n=ncl (rch n f') n:=Qda (Q9 s.fi) (Q9 s'.fi) i.hl i.kl i.hk λx y hx hy=>Qfv s.fi i.hf i.hl i.hj hx hy;have e2:ncl (rch n λx=>f (g x)) n=ncl (rch n λx=>f' (g' x)) n:=Qda (Q9 s.fg) (Q9 s'.fg) i.hl i.kl i.hk λx y hx hy=>Qfv s.fg (λz hz=>by rw[i.hf _ (s.lt z hz),i.hg z hz]) i.hl i.hj hx hy;have e3:ncl (Cn n f g) n=ncl (Cn n f' g') n:=by
  refine Qda Qv Qv i.hl i.kl i.hk λx y hx hy=>⟨λc=>?_,λc=>?_⟩
  ·refine Gy (E:=λa b=>Cn n f' g' (h a) (h b)) ⟨λa ha=>Qv.refl _ (i.hl a ha),λa b q=>Qv.symm _ _ q,λa b c q q'=>Qv.trans _ _ _ q q'⟩ (λz hz=>?_) (λz hz=>?_) c
   ·show Cn n f' g' (h z) (h (f z));rw[i.hf z hz];exact Cn_f s'.fi (i.hl z hz)
   ·show Cn n f' g' (h z) (h (g z));rw[i.hg z hz];exact Cn_g s' (i.hl z hz)
  ·have:Cn n f g (k (h x)) (k (h y)):=by
    refine Gy (E:=λa b=>Cn n f g (k a) (k b)) ⟨λa ha=>Qv.refl _ (i.kl a ha),λa b q=>Qv.symm _ _ q,λa b c q q'=>Qv.trans _ _ _ q q'⟩ (λz hz=>?_) (λz hz=>?_) c
    ·show Cn n f g (k z) (k (f' z));have:f' z=h (f (k z)):=by rw[i.hf _ (i.kl z hz),i.hk z hz]
     rw[this,i.kh _ (s.fi.lt _ (i.kl z hz))];exact Cn_f s.fi (i.kl z hz)
    ·show Cn n f g (k z) (k (g' z));have:g' z=h (g (k z)):=by rw[i.hg _ (i.kl z hz),i.hk z hz]
     rw[this,i.kh _ (s.lt _ (i.kl z hz))];exact Cn_g s (i.kl z hz)
   rw[i.kh x hx,i.kh y hy]at this;exact this
 unfold Flt.Gn;rw[e1,e2,e3]
end
def f2(n:Nat)(f:Nat->Nat)(x:Nat):Nat:=if x<n then f x else if x=n then n+1 else n
def f0(n:Nat)(f:Nat->Nat)(x:Nat):Nat:=if x<n then f x else x
theorem Qna(h:Inj n f)(k:Nat):Inj (n+k) (f0 n f):=by
 refine⟨λi hi=>?_,λi j hi hj e=>?_⟩
 ·unfold f0;split
  ·have:=h.lt i ‹_›;lia
  ·exact hi
 ·unfold f0 at e;by_cases a:i<n
  ·by_cases b:j<n
   ·rw[if_pos a,if_pos b]at e;exact h.inj i j a b e
   ·rw[if_pos a,if_neg b]at e;have:=h.lt i a;lia
  ·by_cases b:j<n
   ·rw[if_neg a,if_pos b]at e;have:=h.lt j b;lia
   ·rw[if_neg a,if_neg b]at e;exact e
theorem Qxc(h:Inj n f)(hx:x<n):∀t,it (f0 n f) t x=it f t x:=by
 intro t
 induction t with
 |zero=>rfl
 |succ t ih=>show f0 n f (it (f0 n f) t x)=f (it f t x);rw[ih];exact if_pos (h.itlt t hx)
theorem Qxd(hx:n<=x):∀t,it (f0 n f) t x=x:=by
 intro t
 induction t with
 |zero=>rfl
 |succ t ih=>show f0 n f (it (f0 n f) t x)=x;rw[ih];exact if_neg (by lia)
theorem Qrl(h:Inj n f)(k:Nat)(hx:x<n):rch (n+k) (f0 n f) x y↔rch n f x y:=by
 unfold rch;constructor
 ·rintro⟨_,t,e⟩;exact⟨hx,t,by rw[← Qxc h hx];exact e⟩
 ·rintro⟨_,t,e⟩;exact⟨by lia,t,by rw[Qxc h hx];exact e⟩
theorem Qt5(h:Inj n f)(k:Nat)(hx:n<=x)(hxy:x≠y):¬rch (n+k) (f0 n f) x y:=λ⟨_,t,e⟩=>hxy (by rw[Qxd hx]at e;exact e)
theorem Qcj(h:Inj n f)(k:Nat)(hx:x<n)(hy:n<=y):¬rch (n+k) (f0 n f) x y:=λz=>by
 obtain⟨_,t,e⟩:=(Qrl h k hx).mp z;have:=h.itlt t hx;lia
theorem Qm9(h:Inj n f):ncl (rch (n+2) (f0 n f)) (n+2)=ncl (rch n f) n+2:=by
 have a:ncl (rch (n+2) (f0 n f)) (n+1)=ncl (rch n f) n+1:=Qf5 (λx y hx _=>Qrl h 2 hx) λx hx=>Qcj h 2 hx (At n);have b:ncl (rch (n+2) (f0 n f)) (n+1+1)=ncl (rch (n+2) (f0 n f)) (n+1)+1:=Qf5 (λx y _ _=>Iff.rfl) λx hx=>by
  by_cases q:x<n
  ·exact Qcj h 2 q (by lia)
  ·exact Qt5 h 2 (by lia) (by lia)
 rw[a]at b;exact b
theorem Qxb(n:Nat)(f:Nat->Nat)(hx:x<n+2):f2 n f x=cm (f0 n f) n (n+1) x:=by
 unfold f2;by_cases a:x<n
 ·rw[if_pos a,cm_x (by lia) (by lia)];exact(if_pos a).symm
 ·rw[if_neg a];by_cases b:x=n
  ·rw[if_pos b,b,cm_a];exact(if_neg (by lia)).symm
  ·rw[if_neg b,show x=n+1 by lia,cm_b];exact(if_neg (by lia)).symm
theorem Qmt(h:Inj n f)(e:∀x,x<n->f' x=f x):Inj n f':=⟨λi hi=>by rw[e i hi];exact h.lt i hi,λi j hi hj q=>h.inj i j hi hj (by rw[← e i hi,← e j hj];exact q)⟩
theorem Qm8(h:Inj n f):Inj (n+2) (f2 n f):=Qmt (Xv (Qna h 2) (by lia) (by lia)) λx hx=>Qxb n f hx
theorem Qrk(h:Inj n f):ncl (rch (n+2) (f2 n f)) (n+2)=ncl (rch n f) n+1:=by
 rw[Vo (Qm8 h) λx hx=>Qxb n f hx];have a:=Jt (n:=n+2) (Qna h 2) (a:=n) (b:=n+1) (by lia) (by lia) (Qt5 h 2 (At n) (by lia));have b:=Qm9 h;lia
def g1(n:Nat)(g:Nat->Nat)(x:Nat):Nat:=if x<n then g x else if x=n then n+1 else n
theorem Qde(s:Sys n f g):Sys (n+2) (f2 n f) (g1 n g):=by
 refine⟨Qm8 s.fi,λi hi=>?_,λi hi=>?_,λi hi=>?_⟩
 ·unfold g1;split
  ·have:=s.lt i ‹_›;lia
  ·split<;>lia
 ·unfold g1;split
  ·exact s.ne i ‹_›
  ·split<;>lia
 ·by_cases a:i<n
  ·have e:g1 n g i=g i:=if_pos a;rw[e];show(if g i<n then _ else _)=_;rw[if_pos (s.lt i a),s.inv i a]
  ·by_cases b:i=n
   ·subst b;have e:g1 i g i=i+1:=by unfold g1;rw[if_neg (by lia),if_pos rfl]
    rw[e];unfold g1;rw[if_neg (by lia),if_neg (by lia)]
   ·have:i=n+1:=by lia
    subst this;have e:g1 n g (n+1)=n:=by unfold g1;rw[if_neg (by lia),if_neg (by lia)]
    rw[e];unfold g1;rw[if_neg (by lia),if_pos rfl]
theorem Qga(s:Sys n f g):Cn (n+2) (f2 n f) (g1 n g) x y->(x<n/\y<n/\Cn n f g x y)\/(n<=x/\n<=y):=by
 intro c;refine Gy (E:=λx y=>(x<n/\y<n/\Cn n f g x y)\/(n<=x/\n<=y)) ⟨λi _=>?_,λi j q=>?_,λi j k q q'=>?_⟩ (λz hz=>?_) (λz hz=>?_) c
 ·by_cases a:i<n
  ·exact .inl ⟨a,a,Qv.refl i a⟩
  ·exact .inr ⟨by lia,by lia⟩
 ·rcases q with⟨a,b,c⟩|⟨a,b⟩
  ·exact .inl ⟨b,a,Qv.symm _ _ c⟩
  ·exact .inr ⟨b,a⟩
 ·rcases q with⟨a,b,c⟩|⟨a,b⟩
  ·rcases q' with⟨a',b',c'⟩|⟨a',b'⟩
   ·exact .inl ⟨a,b',Qv.trans _ _ _ c c'⟩
   ·lia
  ·rcases q' with⟨a',b',c'⟩|⟨a',b'⟩
   ·lia
   ·exact .inr ⟨a,b'⟩
 ·by_cases a:z<n
  ·have e:f2 n f z=f z:=if_pos a;rw[e];exact .inl ⟨a,s.fi.lt z a,Cn_f s.fi a⟩
  ·refine .inr ⟨by lia,?_⟩;unfold f2;rw[if_neg a];split<;>lia
 ·by_cases a:z<n
  ·have e:g1 n g z=g z:=if_pos a;rw[e];exact .inl ⟨a,s.lt z a,Cn_g s a⟩
  ·refine .inr ⟨by lia,?_⟩;unfold g1;rw[if_neg a];split<;>lia
theorem Eqv.less{k:Nat}(e:Eqv (n+k) E):Eqv n E:=⟨λi hi=>e.refl i (by lia),e.symm,e.trans⟩
theorem Qpp(c:Cn n f g x y):Cn (n+2) (f2 n f) (g1 n g) x y:=⟨by have:=c.1;lia,by have:=c.2.1;lia,λE e a b=>c.2.2 E (Eqv.less e) (λz hz=>by have:=a z (by lia);rwa [show f2 n f z=f z from if_pos hz]at this) λz hz=>by have:=b z (by lia);rwa [show g1 n g z=g z from if_pos hz]at this⟩
theorem Qmf(s:Sys n f g):Gn (n+2) (f2 n f) (g1 n g)=Gn n f g:=by
 have s':=Qde s;have e1:=Qrk s.fi;have e2:ncl (rch (n+2) λx=>f2 n f (g1 n g x)) (n+2)=ncl (rch n λx=>f (g x)) n+2:=by
  rw[← Qm9 s.fg,Vo s'.fg];intro x hx;unfold f0 g1;by_cases a:x<n
  ·rw[if_pos a,if_pos a];exact if_pos (s.lt x a)
  ·rw[if_neg a,if_neg a];by_cases b:x=n
   ·rw[if_pos b];unfold f2;rw[if_neg (by lia),if_neg (by lia)];exact b.symm
   ·rw[if_neg b];unfold f2;rw[if_neg (by lia),if_pos rfl];lia
 have iff:∀x y,x<n->y<n->(Cn (n+2) (f2 n f) (g1 n g) x y↔Cn n f g x y):=λx y hx hy=>⟨λc=>by
  rcases Qga s c with⟨_,_,c⟩|⟨a,_⟩
  ·exact c
  ·lia,Qpp⟩
 have a:ncl (Cn (n+2) (f2 n f) (g1 n g)) (n+1)=ncl (Cn n f g) n+1:=Qf5 iff λx hx c=>by
  rcases Qga s c with⟨_,z,_⟩|⟨z,_⟩<;>lia
 have b:ncl (Cn (n+2) (f2 n f) (g1 n g)) (n+1+1)=ncl (Cn (n+2) (f2 n f) (g1 n g)) (n+1):=Qf4 (λx y _ _=>Iff.rfl) ⟨n,by lia,by
  have:=Cn_f (g:=g1 n g) s'.fi (z:=n) (by lia)
  rwa [show f2 n f n=n+1 by unfold f2;rw[if_neg (by lia),if_pos rfl]]at this⟩
 have b:ncl (Cn (n+2) (f2 n f) (g1 n g)) (n+2)=ncl (Cn n f g) n+1:=b.trans a;unfold Gn;rw[e1,e2,b];lia
def g3(n:Nat)(g:Nat->Nat)(p x:Nat):Nat:=if x=p then n else if x=g p then n+1 else if x<n then g x else if x=n then p else g p
theorem g3_p:g3 n g p p=n:=if_pos rfl
theorem g3_q(s:Sys n f g)(hp:p<n):g3 n g p (g p)=n+1:=by unfold g3;rw[if_neg (s.ne p hp),if_pos rfl]
theorem g3_x(h1:x≠p)(h2:x≠g p)(hx:x<n):g3 n g p x=g x:=by unfold g3;rw[if_neg h1,if_neg h2,if_pos hx]
theorem g3_n(s:Sys n f g)(hp:p<n):g3 n g p n=p:=by
 have:=s.lt p hp;unfold g3;rw[if_neg (by lia),if_neg (by lia),if_neg (by lia),if_pos rfl]
theorem X1(s:Sys n f g)(hp:p<n):g3 n g p (n+1)=g p:=by
 have:=s.lt p hp;unfold g3;rw[if_neg (by lia),if_neg (by lia),if_neg (by lia),if_neg (by lia)]
theorem five(s:Sys n f g)(hp:p<n)(hx:x<n+2):x=p\/x=g p\/(x<n/\x≠p/\x≠g p)\/x=n\/x=n+1:=by lia
theorem X8(s:Sys n f g)(hp:p<n):Sys (n+2) (f2 n f) (g3 n g p):=by
 have hq:=s.lt p hp;have hne:=s.ne p hp;refine⟨Qm8 s.fi,λi hi=>?_,λi hi=>?_,λi hi=>?_⟩
 ·rcases five s hp hi with rfl|rfl|⟨a,b,c⟩|rfl|rfl
  ·rw[g3_p];lia
  ·rw[g3_q s hp];lia
  ·rw[g3_x b c a];have:=s.lt i a;lia
  ·rw[g3_n s hp];lia
  ·rw[X1 s hp];lia
 ·rcases five s hp hi with rfl|rfl|⟨a,b,c⟩|rfl|rfl
  ·rw[g3_p];lia
  ·rw[g3_q s hp];lia
  ·rw[g3_x b c a];exact s.ne i a
  ·rw[g3_n s hp];lia
  ·rw[X1 s hp];lia
 ·rcases five s hp hi with rfl|rfl|⟨a,b,c⟩|rfl|rfl
  ·rw[g3_p,g3_n s hp]
  ·rw[g3_q s hp,X1 s hp]
  ·rw[g3_x b c a,g3_x (λz=>c (by rw[← z,s.inv i a])) (λz=>b (by rw[← s.inv i a,z,s.inv p hp])) (s.lt i a),s.inv i a]
  ·rw[g3_n s hp,g3_p]
  ·rw[X1 s hp,g3_q s hp]
theorem Uv(h:x<n):f2 n f x=f x:=if_pos h
theorem f2_n:f2 n f n=n+1:=by unfold f2;rw[if_neg (by lia),if_pos rfl]
theorem Qe6:f2 n f (n+1)=n:=by unfold f2;rw[if_neg (by lia),if_neg (by lia)]
theorem Qf0(s:Sys n f g)(hp:p<n):Gn (n+2) (f2 n f) (g3 n g p)=Gn n f g:=by
 have s':=X8 s hp;have hq:=s.lt p hp;have hne:=s.ne p hp;have e1:=Qrk s.fi;have e2:ncl (rch (n+2) λx=>f2 n f (g3 n g p x)) (n+2)=ncl (rch n λx=>f (g x)) n:=by
  have i0:=Qna s.fg 2;have c1:=Jt (n:=n+2) i0 (a:=p) (b:=n+1) (by lia) (by lia) (Qcj s.fg 2 hp (by lia));have i1:=Xv i0 (a:=p) (b:=n+1) (by lia) (by lia);have no:¬rch (n+2) (cm (f0 n λx=>f (g x)) p (n+1)) (g p) n:=by
   rw[Qk6 i0 (by lia) (by lia) (Qcj s.fg 2 hp (by lia))];rintro(z|⟨_,z⟩|⟨z,_⟩)
   ·exact Qcj s.fg 2 hq (At n) z
   ·exact Qt5 s.fg 2 (by lia) (by lia) z
   ·exact Qcj s.fg 2 hq (by lia) z
  have c2:=Jt (n:=n+2) i1 (a:=g p) (b:=n) (by lia) (by lia) no;have c0:=Qm9 s.fg;have eq:rch (n+2) (λx=>f2 n f (g3 n g p x))=rch (n+2) (cm (cm (f0 n λx=>f (g x)) p (n+1)) (g p) n):=Vo s'.fg λx hx=>by
   show f2 n f (g3 n g p x)=_;rcases five s hp hx with rfl|rfl|⟨a,b,c⟩|rfl|rfl
   ·rw[g3_p,f2_n,cm_x (λz=>hne z.symm) (by lia),cm_a];exact(if_neg (by lia)).symm
   ·rw[g3_q s hp,Qe6,cm_a,cm_x (by lia) (by lia)];exact(if_neg (by lia)).symm
   ·rw[g3_x b c a,Uv (s.lt x a),cm_x c (by lia),cm_x b (by lia)];exact(if_pos a).symm
   ·rw[g3_n s hp,Uv hp,cm_b,cm_x (by lia) (by lia)];show f p=f0 x (λx=>f (g x)) (g p);unfold f0;rw[if_pos hq];show f p=f (g (g p));rw[s.inv p hp]
   ·rw[X1 s hp,Uv hq,cm_x (by lia) (by lia),cm_b];show f (g p)=f0 n (λx=>f (g x)) p;unfold f0;rw[if_pos hp]
  rw[eq];lia
 have up:∀{x y:Nat},Cn n f g x y->Cn (n+2) (f2 n f) (g3 n g p) x y:=λ{x y} c=>⟨by have:=c.1;lia,by have:=c.2.1;lia,λE e a b=>by
  have pq:E p (g p):=by
   have b1:=b p (by lia);rw[g3_p]at b1;have a1:=a n (by lia);rw[f2_n]at a1;have b2:=b (n+1) (by lia);rw[X1 s hp]at b2;exact e.trans _ _ _ b1 (e.trans _ _ _ a1 b2)
  refine c.2.2 E (Eqv.less e) (λz hz=>by have:=a z (by lia);rwa [Uv hz]at this) λz hz=>?_;by_cases h1:z=p
  ·rw[h1];exact pq
  ·by_cases h2:z=g p
   ·rw[h2,s.inv p hp];exact e.symm _ _ pq
   ·have:=b z (by lia)
    rwa [g3_x h1 h2 hz]at this⟩
 let π:Nat->Nat:=λa=>if a<n then a else if a=n then p else g p
 have πl:∀a,π a<n:=λa=>by
  show(if a<n then a else if a=n then p else g p)<n;split
  ·assumption
  ·split<;>lia
 have πx:∀{a},a<n->π a=a:=λh=>if_pos h;have πn:π n=p:=by show(if n<n then n else if n=n then p else g p)=p;rw[if_neg (by lia),if_pos rfl]
 have πn1:π (n+1)=g p:=by show(if n+1<n then n+1 else if n+1=n then p else g p)=g p;rw[if_neg (by lia),if_neg (by lia)]
 have dn:∀{x y:Nat},Cn (n+2) (f2 n f) (g3 n g p) x y->Cn n f g (π x) (π y):=λ{x y} c=>by
  refine Gy (E:=λa b=>Cn n f g (π a) (π b)) ⟨λa _=>Qv.refl _ (πl a),λa b q=>Qv.symm _ _ q,λa b c q q'=>Qv.trans _ _ _ q q'⟩ (λz hz=>?_) (λz hz=>?_) c
  ·show Cn n f g (π z) (π (f2 n f z));by_cases a:z<n
   ·rw[Uv a,πx a,πx (s.fi.lt z a)];exact Cn_f s.fi a
   ·by_cases b:z=n
    ·rw[b,f2_n,πn,πn1];exact Cn_g s hp
    ·rw[show z=n+1 by lia,Qe6,πn,πn1];exact Qv.symm _ _ (Cn_g s hp)
  ·show Cn n f g (π z) (π (g3 n g p z));rcases five s hp hz with rfl|rfl|⟨a,b,c⟩|rfl|rfl
   ·rw[g3_p,πx hp,πn];exact Qv.refl _ hp
   ·rw[g3_q s hp,πx hq,πn1];exact Qv.refl _ hq
   ·rw[g3_x b c a,πx a,πx (s.lt z a)];exact Cn_g s a
   ·rw[g3_n s hp,πx hp,πn];exact Qv.refl _ hp
   ·rw[X1 s hp,πx hq,πn1];exact Qv.refl _ hq
 have iff:∀x y,x<n->y<n->(Cn (n+2) (f2 n f) (g3 n g p) x y↔Cn n f g x y):=λx y hx hy=>⟨λc=>by have:=dn c;rwa [πx hx,πx hy]at this,up⟩
 have a:ncl (Cn (n+2) (f2 n f) (g3 n g p)) (n+1)=ncl (Cn n f g) n:=Qf4 iff ⟨p,hp,by
  have:=Cn_g s' (z:=p) (by lia)
  rwa [g3_p]at this⟩
 have b:ncl (Cn (n+2) (f2 n f) (g3 n g p)) (n+1+1)=ncl (Cn (n+2) (f2 n f) (g3 n g p)) (n+1):=Qf4 (λx y _ _=>Iff.rfl) ⟨n,by lia,by
  have:=Cn_f (g:=g3 n g p) s'.fi (z:=n) (by lia)
  rwa [f2_n]at this⟩
 have b:ncl (Cn (n+2) (f2 n f) (g3 n g p)) (n+2)=ncl (Cn n f g) n:=b.trans a;unfold Gn;rw[e1,e2,b];lia
theorem Qcn(s:Sys n f g)(hx:x<n)(hy:y<n):Sys n (cm f x y) g:=⟨Xv s.fi hx hy,s.lt,s.ne,s.inv⟩
theorem Qdu(s:Sys n f g)(hx:x<n)(hy:y<n):rch n (λz=>cm f x y (g z))=rch n (cm (λz=>f (g z)) (g x) (g y)):=by
 refine Vo (Qcn s hx hy).fg λz hz=>?_;show cm f x y (g z)=_;by_cases h1:z=g x
 ·rw[h1,cm_a,s.inv x hx,cm_a,s.inv y hy]
 ·by_cases h2:z=g y
  ·rw[h2,cm_b,s.inv y hy,cm_b,s.inv x hx]
  ·rw[cm_x h1 h2,cm_x (λq=>h1 (by rw[← q,s.inv z hz])) (λq=>h2 (by rw[← q,s.inv z hz]))]
theorem Qzk(s:Sys n f g)(hx:x<n)(hy:y<n)(hn:¬rch n f x y):Cn n (cm f x y) g a b↔mrg (Cn n f g) x y a b:=by
 have s':=Qcn s hx hy;have E':=Qa7 (Qv (n:=n) (f:=f) (g:=g)) hx hy;have sub:∀{a b},rch n f a b->rch n (cm f x y) a b:=λ{a b} r=>by rw[Qk6 s.fi hx hy hn];exact .inl r
 have le:∀{a b},Cn n f g a b->Cn n (cm f x y) g a b:=λ{a b} c=>Gy (Qv (n:=n)) (λz hz=>Qi0 s'.fi (sub ⟨hz,1,rfl⟩)) (λz hz=>Cn_g s' hz) c;have xy:Cn n (cm f x y) g x y:=Qi0 s'.fi (Qmn s.fi hx hy hn);constructor
 ·intro c;refine Gy E' (λz hz=>?_) (λz hz=>.inl (Cn_g s hz)) c;by_cases h1:z=x
  ·rw[h1,cm_a];exact .inr (.inl ⟨Qv.refl _ hx,Cn_f s.fi hy⟩)
  ·by_cases h2:z=y
   ·rw[h2,cm_b];exact .inr (.inr ⟨Qv.refl _ hy,Cn_f s.fi hx⟩)
   ·rw[cm_x h1 h2];exact .inl (Cn_f s.fi hz)
 ·rintro(c|⟨c1,c2⟩|⟨c1,c2⟩)
  ·exact le c
  ·exact Qv.trans _ _ _ (le c1) (Qv.trans _ _ _ xy (le c2))
  ·exact Qv.trans _ _ _ (le c1) (Qv.trans _ _ _ (Qv.symm _ _ xy) (le c2))
theorem cm_P(s:Sys n f g)(hx:x<n)(hy:y<n)(hn:¬rch n f x y):ncl (Cn n (cm f x y) g) n=ncl (mrg (Cn n f g) x y) n:=Yr λa b _ _=>Qzk s hx hy hn
theorem Qcf(s:Sys n f g)(hx:x<n)(hy:y<n)(hc:¬Cn n f g x y):Gn n (cm f x y) g=Gn n f g:=by
 have hn:¬rch n f x y:=λz=>hc (Qi0 s.fi z);have e1:=Jt s.fi hx hy hn;have e2:=cm_P s hx hy hn;have e3:=Qf6 (Qv (n:=n) (f:=f) (g:=g)) hx hy hc;have hg:¬rch n (λz=>f (g z)) (g x) (g y):=λz=>hc (by
  have:Cn n f g (g x) (g y):=V0 Qv s.fg (λq hq=>Qv.trans _ _ _ (Cn_g s hq) (Cn_f s.fi (s.lt q hq))) _ _ z;exact Qv.trans _ _ _ (Cn_g s hx) (Qv.trans _ _ _ this (Qv.symm _ _ (Cn_g s hy))))
 have e4:=Jt s.fg (s.lt x hx) (s.lt y hy) hg;have e5:=Qdu s hx hy;unfold Gn;rw[e5,e2];lia
theorem Qe1(s:Sys n f g)(hx:x<n)(hy:y<n)(hn:¬rch n f x y)(hc:Cn n f g x y)(hf:rch n (λz=>f (g z)) (g x) (g y)):Gn n (cm f x y) g=Gn n f g:=by
 have e1:=Jt s.fi hx hy hn;have e2:=cm_P s hx hy hn;rw[Qdc Qv hc]at e2;have ne:g x≠g y:=λz=>hn (by
  have:x=y:=by rw[← s.inv x hx,z,s.inv y hy]
  rw[this];exact⟨hy,0,rfl⟩)
 have e4:=Xt s.fg (s.lt x hx) (s.lt y hy) ne hf;have e5:=Qdu s hx hy;unfold Gn;rw[e5,e2];lia
theorem Qt2(s:Sys n f g)(hx:x<n)(hy:y<n)(hn:¬rch n f x y):Gn n f g<=Gn n (cm f x y) g:=by
 by_cases hc:Cn n f g x y
 ·by_cases hf:rch n (λz=>f (g z)) (g x) (g y)
  ·exact Int.le_of_eq (Qe1 s hx hy hn hc hf).symm
  ·have e1:=Jt s.fi hx hy hn;have e2:=cm_P s hx hy hn;rw[Qdc Qv hc]at e2;have e4:=Jt s.fg (s.lt x hx) (s.lt y hy) hf;have e5:=Qdu s hx hy;unfold Gn;rw[e5,e2];lia
 ·exact Int.le_of_eq (Qcf s hx hy hc).symm
theorem Qok(s:Sys n f g)(hx:x<n)(hy:y<n)(hne:x≠y)(hr:rch n f x y):Gn n (cm f x y) g<=Gn n f g:=by
 have:=Qt2 (Qcn s hx hy) hx hy (Qlu s.fi hx hy hne hr)
 rwa [Qxp]at this
theorem Quh(s:Sys n f g){b:Nat->Nat}(bl:∀x,x<n->b x<n)(fb:∀x,x<n->f (b x)=x):Sys n b g/\Gn n b g=Gn n f g:=by
 have bf:∀x,x<n->b (f x)=x:=λx hx=>s.fi.inj _ _ (bl _ (s.fi.lt x hx)) hx (fb _ (s.fi.lt x hx));have bi:Inj n b:=⟨bl,λi j hi hj e=>by rw[← fb i hi,e,fb j hj]⟩
 have s':Sys n b g:=⟨bi,s.lt,s.ne,s.inv⟩
 have inv_rch:∀{u v:Nat->Nat},Inj n u->Inj n v->(∀x,x<n->u (v x)=x)->∀x y,rch n v x y->rch n u x y:=λ{u v} hu hv e x y h=>
  V0 (Q9 hu) hv (λz hz=>(Q9 hu).symm _ _ ⟨hv.lt z hz,1,e z hz⟩) x y h
 have e1:ncl (rch n b) n=ncl (rch n f) n:=Yr λx y _ _=>⟨inv_rch s.fi bi fb x y,inv_rch bi s.fi bf x y⟩
 have e2:ncl (Cn n b g) n=ncl (Cn n f g) n:=Yr λx y _ _=>⟨λc=>Gy Qv (λz hz=>by
   have:=Cn_f (g:=g) s.fi (bl z hz);rw[fb z hz]at this;exact Qv.symm _ _ this) (λz hz=>Cn_g s hz) c,λc=>Gy Qv (λz hz=>by
   have:=Cn_f (g:=g) bi (s.fi.lt z hz);rw[bf z hz]at this;exact Qv.symm _ _ this) (λz hz=>Cn_g s' hz) c⟩
 -- the X3 of b are those of f,gone the other way
 have gf:Inj n λx=>g (f x):=⟨λi hi=>s.lt _ (s.fi.lt i hi),λi j hi hj e=>s.fi.inj _ _ hi hj (by rw[← s.inv _ (s.fi.lt i hi),← s.inv _ (s.fi.lt j hj)];exact congrArg g e)⟩
 have e3:ncl (rch n λx=>b (g x)) n=ncl (rch n λx=>g (f x)) n:=Yr λx y _ _=>⟨inv_rch gf s'.fg (λz hz=>by show g (f (b (g z)))=z;rw[fb _ (s.lt z hz),s.inv z hz]) x y,inv_rch s'.fg gf (λz hz=>by show b (g (g (f z)))=z;rw[s.inv _ (s.fi.lt z hz),bf z hz]) x y⟩
 have e4:ncl (rch n λx=>g (f x)) n=ncl (rch n λx=>f (g x)) n:=Qda (Q9 gf) (Q9 s.fg) (h:=g) (k:=g) s.lt s.lt s.inv λx y hx hy=>Qfv gf (λz hz=>by rw[s.inv _ (s.fi.lt z hz),s.inv z hz]) s.lt (λa b ha hb e=>by rw[← s.inv a ha,e,s.inv b hb]) hx hy;refine⟨s',?_⟩;unfold Gn;rw[e1,e2,e3,e4]
theorem Tw.sys(T:Tw n A g)(hf:Inj n f):Sys n f g:=⟨hf,T.lt,T.ne,λi hi=>T.inv hi⟩
theorem Vg{g':Nat->Nat}(s:Sys n f g)(hf:∀x,x<n->f x=f' x)(hg:∀x,x<n->g x=g' x):Sys n f' g'/\Gn n f g=Gn n f' g':=by
 have i:Iso n f g f' g' id id:=⟨λ_ h=>h,λ_ h=>h,λ_ _=>rfl,λ_ _=>rfl,hf,hg⟩
 exact⟨i.sys s,i.Gn s⟩
theorem Inj.bk(h:Inj n k):∃b:Nat->Nat,(∀x,x<n->b x<n)/\(∀x,x<n->b (k x)=x)/\∀x,x<n->k (b x)=x:=by
 have:∀x,∃y,x<n->y<n/\k y=x:=λx=>by
  by_cases hx:x<n
  ·obtain⟨_|q,h1,_,h3⟩:=h.back hx
   ·cases h1
   ·exact⟨it k q x,λ_=>⟨h.itlt q hx,h3⟩⟩
  ·exact⟨0,λz=>absurd z hx⟩
 obtain⟨b,hb⟩:=axiomOfChoice this;exact⟨b,λx hx=>(hb x hx).1,λx hx=>h.inj _ _ (hb _ (h.lt x hx)).1 hx (hb _ (h.lt x hx)).2,λx hx=>(hb x hx).2⟩
theorem Inj.it{n:Nat}{f:Nat->Nat}(h:Inj n f){x y:Nat}(hx:x<n)(hy:y<n):∀t,it f t x=it f t y->x=y
 |0,e=>e
 |t+1,e=>Inj.it h hx hy t (h.inj _ _ (h.itlt t hx) (h.itlt t hy) e)
def Flat(m e:Nat)(A:Nat->Int):Prop:=∃g,Tw (4*m+e) A g/\Gn (4*m+e) (nx m e) g=0
theorem Flat.of(hn:n=4*m+e)(s:Sys n f g)(G0:Gn n f g=0)(T:Tw n B g)(hk:Inj n k)
  (hf:∀y,y<n->k (nx m e y)=f (k y)) (hA:∀y,y<n->A y=B (k y)):Flat m e A:=by
 subst hn;obtain⟨b,bl,bk,kb⟩:=Inj.bk hk;have i:Iso (4*m+e) f g (nx m e) (λy=>b (g (k y))) b k:=⟨bl,hk.lt,kb,bk,λx hx=>by rw[← bk _ (Qpi (bl x hx)),hf _ (bl x hx),kb x hx],λx hx=>by rw[kb x hx]⟩
 refine⟨_,⟨λy hy=>bl _ (T.lt _ (hk.lt y hy)),λy hy q=>?_,λy hy=>?_,λy z hy hz q=>?_⟩,by rw[← i.Gn s];exact G0⟩
 ·exact T.ne _ (hk.lt y hy) (by rw[← kb _ (T.lt _ (hk.lt y hy)),q])
 ·show A (b (g (k y)))=A y;rw[hA _ (bl _ (T.lt _ (hk.lt y hy))),hA y hy,kb _ (T.lt _ (hk.lt y hy)),T.eq _ (hk.lt y hy)]
 ·rw[hA y hy,hA z hz]at q;rcases T.only _ _ (hk.lt y hy) (hk.lt z hz) q with q|q
  ·exact .inl (hk.inj _ _ hz hy q)
  ·exact .inr (by rw[← bk z hz,q])
theorem Qm3:Flat 0 0 A:=⟨id,⟨λi h=>absurd h (by lia),λi h=>absurd h (by lia),λi h=>absurd h (by lia),λi k h=>absurd h (by lia)⟩,by
 unfold Gn ncl;simp⟩
theorem up(h:x<n):x<n+2/\x<n+2+2/\x≠n/\x≠n+1/\x≠n+2/\x≠n+3:=by lia
theorem cn(n:Nat):n<n+2/\n+1<n+2/\n<n+2+2/\n+1<n+2+2/\n+3<n+2+2/\n≠n+1/\n≠n+3/\n+1≠n+3/\n+2≠n+3:=by lia
theorem dv(h:j<4):(4*c+j)/4=c/\(4*c+j)%4=j:=by lia
theorem cj(h:y<4*m):∃c j,c<m/\j<4/\y=4*c+j:=⟨y/4,y%4,by lia,by lia,by lia⟩
theorem rj(h:¬y<4*m)(hy:y<4*m+e):∃j,j<e/\y=4*m+j:=⟨y-4*m,by lia,by lia⟩
theorem nx_c(h:i<4*m):nx m e i=4*(i/4)+(i%4+3)%4:=if_pos h
theorem nx_1(h1:4*m<=i)(h2:i+1<4*m+e):nx m e i=i+1:=by
 obtain⟨j,rfl⟩:∃j,i=4*m+j:=⟨i-4*m,by lia⟩
 rw[Qa6 (by lia),Dn (by lia)];rfl
theorem nx_0(h1:4*m<=i)(h2:i+1=4*m+e):nx m e i=4*m:=by
 obtain⟨j,rfl⟩:∃j,i=4*m+j:=⟨i-4*m,by lia⟩
 rw[Qa6 (by lia),show j+1=e by lia,Kn];rfl
theorem nx_i(h:i<4*m):nx m e i<4*m:=by rw[nx_c h];lia
theorem nx_o(h:¬i<4*m):¬nx m e i<4*m:=by unfold nx;rw[if_neg h];lia
theorem Qt4{c j:Nat}(hc:c<m)(hj:j<4):∀t,it (nx m e) t (4*c+j)=4*c+(j+3*t)%4
 |0=>by rw[Nat.mul_zero,Nn,Dn hj];rfl
 |t+1=>by show nx m e (it _ t _)=_;rw[Qt4 hc hj t,Qbv hc (S7 _ (by decide)),Nat.mod_add_mod];rfl
theorem Qmr{j:Nat}(hj:j<e):∀t,it (nx m e) t (4*m+j)=4*m+(j+t)%e
 |0=>by rw[Nn,Dn hj];rfl
 |t+1=>by show nx m e (it _ t _)=_;rw[Qmr hj t,Qa6 (S7 _ (by lia)),Nat.mod_add_mod];rfl
theorem Qhf(τ:Nat->Nat)(ht:∀x,x<4*m+e->τ (nx m e x)=τ x):Inj (4*m+e) λy=>it (nx m e) (τ y) y:=by
 have I:=Y8 (m:=m) (e:=e);have tt:∀t {x},x<4*m+e->τ (it (nx m e) t x)=τ x:=λt=>by
  induction t with
  |zero=>exactλ_=>rfl
  |succ t ih=>exactλhx=>(ht _ (I.itlt t hx)).trans (ih hx)
 refine⟨λy hy=>I.itlt _ hy,λx y hx hy (q:it (nx m e) (τ x) x=it (nx m e) (τ y) y)=>?_⟩;have:τ x=τ y:=by rw[← tt (τ x) hx,q,tt _ hy]
 rw[this]at q;exact Inj.it I hx hy _ q
theorem spin(F:Flat m e A)(τ:Nat->Nat)(ht:∀x,x<4*m+e->τ (nx m e x)=τ x)(hB:∀y,y<4*m+e->B y=A (it (nx m e) (τ y) y)):Flat m e B:=by
 obtain⟨g,T,G0⟩:=F;refine Flat.of rfl (Tw.sys T Y8) G0 T (Qhf τ ht) (λy hy=>?_) hB;show it _ (τ (nx m e y)) (nx m e y)=nx m e (it _ (τ y) y);rw[ht y hy];exact(Qbb _ (τ y) 1 y).symm
theorem Qfs(r:Nat)(x:Nat)(_:x<4*m+e):(λi=>if i<4*m then a else r) (nx m e x)=(λi=>if i<4*m then a else r) x:=by
 dsimp only;by_cases h:x<4*m
 ·rw[if_pos h,if_pos (nx_i h)]
 ·rw[if_neg h,if_neg (nx_o h)]
def A4(m e r:Nat)(A:Nat->Int)(i:Nat):Int:=if i<4*m then A i else A (4*m+(i-4*m+r)%e)
theorem Qn8(h:i<4*m):A4 m e r A i=A i:=if_pos h
theorem Xx:A4 m e r A (4*m+j)=A (4*m+(j+r)%e):=by unfold A4;rw[if_neg (by lia),Nd]
theorem Z0(F:Flat m e A)(r:Nat):Flat m e (A4 m e r A):=by
 refine spin F (λi=>if i<4*m then 0 else r) (Qfs r) λy hy=>?_;by_cases h:y<4*m
 ·rw[if_pos h,Qn8 h];rfl
 ·obtain⟨j,hj,rfl⟩:=rj h hy;rw[if_neg h,Xx,Qmr hj]
def A5(m:Nat)(A:Nat->Int)(i:Nat):Int:=if i<4*m then A (4*(i/4)+(i%4+1)%4)else A i
theorem Qgk(F:Flat m e A):Flat m e (A5 m A):=by
 refine spin F (λi=>if i<4*m then 3 else 0) (Qfs 0) λy hy=>?_;unfold A5;by_cases h:y<4*m
 ·obtain⟨c,j,hc,hj,rfl⟩:=cj h;rw[if_pos h,if_pos h,Qt4 hc hj,(dv hj).1,(dv hj).2,← Ke,← Ke]
 ·rw[if_neg h,if_neg h];rfl
theorem Flat.congr(F:Flat m e A)(h:∀i,i<4*m+e->B i=A i):Flat m e B:=spin F (λ_=>0) (λ_ _=>rfl) h
theorem Flat.named(F:Flat m e A)(h:∀i j,i<4*m+e->j<4*m+e->(B i=B j↔A i=A j)):Flat m e B:=by
 obtain⟨g,T,G0⟩:=F;exact⟨g,⟨T.lt,T.ne,λi hi=>(h _ _ (T.lt i hi) hi).mpr (T.eq i hi),λi k hi hk e'=>T.only i k hi hk ((h k i hk hi).mp e')⟩,G0⟩
theorem md(h1:e<=a)(h2:a<e+e):a%e=a-e:=by rw[Oh h1,Dn (by lia)]
theorem Qtv(T:Tw n A g)(hfr:∀i,i<n->A i<fr):Tw (n+2) (λx=>if x<n then A x else fr) (g1 n g):=by
 have s:=Qde (Tw.sys T (f:=id) ⟨λ_ h=>h,λ_ _ _ _ h=>h⟩);refine⟨s.lt,s.ne,λi hi=>?_,λi k hi hk e=>?_⟩
 ·show (if g1 n g i<n then A (g1 n g i)else fr)=if i<n then A i else fr
  by_cases a:i<n
  ·have e:g1 n g i=g i:=if_pos a;rw[e,if_pos (T.lt i a),if_pos a,T.eq i a]
  ·have:¬g1 n g i<n:=by unfold g1;rw[if_neg a];split<;>lia
   rw[if_neg this,if_neg a]
 ·have e:(if k<n then A k else fr)=if i<n then A i else fr:=e
  by_cases a:i<n
  ·rw[if_pos a]at e;by_cases b:k<n
   ·rw[if_pos b]at e;exact(T.only i k a b e).imp id λz=>z.trans (if_pos a).symm
   ·rw[if_neg b]at e;exact absurd e (Int.ne_of_gt (hfr i a))
  ·rw[if_neg a]at e;by_cases b:k<n
   ·rw[if_pos b]at e;exact absurd e (Ku (hfr k b))
   ·unfold g1;rw[if_neg a];split<;>lia
theorem Qpo(F:Flat m e A)(hfr:∀i,i<4*m+e->A i<fr):Flat m (e+2) λi=>if i<4*m+e then A i else fr:=by
 obtain⟨g,T,G0⟩:=F;have s:=Tw.sys T Y8;have s1:=Qde s;have G1:=(Qmf s).trans G0;refine⟨_,Qtv T hfr,?_⟩;show Gn (4*m+e+2) (nx m (e+2)) (g1 (4*m+e) g)=0;by_cases e0:e=0
 ·subst e0;rw[← (Vg (f':=nx m 2) s1 (λx hx=>?_) (λ_ _=>rfl)).2]
  ·exact G1
  ·by_cases a:x<4*m
   ·exact(Uv a).trans (by rw[nx_c a,nx_c a])
   ·by_cases b:x=4*m
    ·rw[b,nx_1 (by lia) (by lia)];exact f2_n
    ·rw[show x=4*m+1 by lia,nx_0 (e:=2) (by lia) rfl];exact Qe6
 ·obtain ⟨n,hn⟩:∃n,4*m+e=n+1:=⟨4*m+e-1,by lia⟩
  rw [hn]at s s1 G1 ⊢;have G2:=Qcf s1 (x:=n) (y:=n+2) (by lia) (by lia) λc=>by
   rcases Qga s c with⟨_,z,_⟩|⟨z,_⟩<;>lia
  rw[← (Vg (f':=nx m (e+2)) (Qcn s1 (x:=n) (y:=n+2) (by lia) (by lia)) (λx hx=>?_) (λ_ _=>rfl)).2]
  ·exact G2.trans G1
  ·by_cases a:x=n
   ·rw[a,cm_a,Qe6,nx_1 (by lia) (by lia)]
   ·by_cases b:x=n+2
    ·rw[b,cm_b,Uv (by lia),nx_0 (by lia) hn.symm,nx_0 (by lia) (by lia)]
    ·rw [cm_x a b];by_cases c:x<n
     ·rw[Uv (by lia)];by_cases d:x<4*m
      ·rw[nx_c d,nx_c d]
      ·rw[nx_1 (by lia) (by lia),nx_1 (by lia) (by lia)]
     ·rw[show x=n+1 by lia,f2_n,nx_1 (by lia) (by lia)]
def A1(m q:Nat)(A:Nat->Int)(fr:Int)(i:Nat):Int:=if i<4*m+q then A i else if i<4*m+q+2 then fr else A (i-2)
theorem Qx1(h:∀i,i<4*m+e->A i<fr)(q:Nat):∀i,i<4*m+e->A4 m e q A i<fr:=λi hi=>by
 unfold A4;split
 ·exact h i hi
 ·exact h _ (Ru (S7 _ (by lia)) _)
theorem Qm4(F:Flat m e A)(hfr:∀i,i<4*m+e->A i<fr)(hq:q<=e):Flat m (e+2) (A1 m q A fr):=by
 refine(Z0 (Qpo (Z0 F q) (Qx1 hfr q)) (e-q)).congr λi hi=>?_;unfold A1;by_cases h:i<4*m
 ·rw[Qn8 h,if_pos (by lia),if_pos (by lia),Qn8 h]
 ·obtain ⟨j,rfl⟩:∃j,i=4*m+j:=⟨i-4*m,by lia⟩
  rw[Xx];by_cases a:j<q
  ·rw[if_pos (by lia),Dn (by lia),if_pos (by lia),Xx,show j+(e-q)+q=j+e by lia,Ke,Dn (by lia)]
  ·rw[if_neg (by lia)];by_cases b:j<q+2
   ·rw[if_pos (by lia),Dn (by lia),if_neg (by lia)]
   ·rw[if_neg (by lia),md (by lia) (by lia),if_pos (by lia),Xx,Dn (by lia)];congr 1;lia
def B3(n:Nat)(g:Nat->Nat)(p:Nat)(A:Nat->Int)(fr:Int)(x:Nat):Int:=if x=g p\/x=n+1 then fr else if x=n then A p else A x
theorem Qlt(T:Tw n A g)(hp:p<n)(hfr:∀i,i<n->A i<fr):Tw (n+2) (B3 n g p A fr) (g3 n g p):=by
 have s:Sys n id g:=Tw.sys T ⟨λ_ h=>h,λ_ _ _ _ h=>h⟩;have s':=X8 s hp;have hq:=s.lt p hp;have hne:=s.ne p hp;have b1:B3 n g p A fr p=A p:=by unfold B3;rw[if_neg (by lia),if_neg (by lia)]
 have b2:B3 n g p A fr (g p)=fr:=if_pos (.inl rfl);have b3:B3 n g p A fr n=A p:=by unfold B3;rw[if_neg (by lia),if_pos rfl]
 have b4:B3 n g p A fr (n+1)=fr:=if_pos (.inr rfl);have b5:∀{x},x<n->x≠g p->B3 n g p A fr x=A x:=λa b=>by unfold B3;rw[if_neg (by lia),if_neg (by lia)]
 have fp:=Ku (hfr p hp);have k1:∀{x},x<n+2->B3 n g p A fr x=fr->x=g p\/x=n+1:=λ{x} hx e=>by
  rcases five s hp hx with rfl|rfl|⟨a,b,c⟩|rfl|rfl
  ·exact absurd (b1.symm.trans e) fp
  ·exact .inl rfl
  ·exact absurd ((b5 a c).symm.trans e) (Ku (hfr x a))
  ·exact absurd (b3.symm.trans e) fp
  ·exact .inr rfl
 have k2:∀{x},x<n+2->B3 n g p A fr x=A p->x=p\/x=n:=λ{x} hx e=>by
  rcases five s hp hx with rfl|rfl|⟨a,b,c⟩|rfl|rfl
  ·exact .inl rfl
  ·exact absurd (e.symm.trans b2) fp
  ·exact((T.only p x hp a ((b5 a c).symm.trans e)).elim b c).elim
  ·exact .inr rfl
  ·exact absurd (e.symm.trans b4) fp
 refine⟨s'.lt,s'.ne,λi hi=>?_,λi k hi hk e=>?_⟩
 ·rcases five s hp hi with rfl|rfl|⟨a,b,c⟩|rfl|rfl
  ·rw[g3_p,b3,b1]
  ·rw[g3_q s hp,b4,b2]
  ·rw[g3_x b c a,b5 a c,b5 (s.lt i a) (λz=>b (by rw[← s.inv i a,z,s.inv p hp])),T.eq i a]
  ·rw[g3_n s hp,b1,b3]
  ·rw[X1 s hp,b2,b4]
 ·rcases five s hp hi with rfl|rfl|⟨a,b,c⟩|rfl|rfl
  ·rw[g3_p];exact k2 hk (e.trans b1)
  ·rw[g3_q s hp];exact k1 hk (e.trans b2)
  ·rw[b5 a c]at e;have n1:B3 n g p A fr k≠fr:=e ▸ Ku (hfr i a);have n2:B3 n g p A fr k≠A p:=λz=>(k2 hi ((b5 a c).trans (e.symm.trans z))).elim b (Bv a);rcases five s hp hk with rfl|rfl|⟨a',b',c'⟩|rfl|rfl
   ·exact absurd b1 n2
   ·exact absurd b2 n1
   ·rw[g3_x b c a];exact T.only i k a a' ((b5 a' c').symm.trans e)
   ·exact absurd b3 n2
   ·exact absurd b4 n1
  ·rw[g3_n s hp];exact(k2 hk (e.trans b3)).symm
  ·rw[X1 s hp];exact(k1 hk (e.trans b4)).symm
def C4(m q:Nat)(A:Nat->Int)(fr:Int)(j:Nat):Int:=if j=0 then A (4*m+q)else if j=1 then fr else if j=2 then fr+1 else A (4*m+q+1)
def A2(m q t:Nat)(A:Nat->Int)(fr:Int)(i:Nat):Int:=if i<4*m then A i else if i<4*m+4 then C4 m q A fr ((i-4*m+t)%4)else if i=4*m+4+q then fr else if i=4*m+4+q+1 then fr+1 else A (i-4)
theorem Qxl(F:Flat m e A)(hfr:∀i,i<4*m+e->A i<fr)(hq:q+1<e):Flat (m+1) e (A2 m q 0 A fr):=by
 obtain⟨g,T,G0⟩:=F;have s:=Tw.sys T (Y8 (m:=m) (e:=e));have fr1:nx m e (4*m+q)=4*m+q+1:=nx_1 (by lia) (by lia);have kI:=Xv (a:=4*m+2) (b:=4*m+3) (Qhf (m:=m) (e:=e+4) (λi=>if i<4*m then 0 else e) (Qfs e)) (by lia) (by lia);obtain⟨k,hk⟩:∃k,k=cm (λy=>it (nx m (e+4)) (if y<4*m then 0 else e) y) (4*m+2) (4*m+3):=⟨_,rfl⟩
 rw[← hk]at kI;change Inj (4*m+e+2+2) k at kI;have kk:∀{j},j<e+4->it (nx m (e+4)) (if 4*m+j<4*m then 0 else e) (4*m+j)=4*m+(j+e)%(e+4):=λh=>by rw[if_neg (by lia),Qmr h]
 have kn:∀{j},j<4->it (nx m (e+4)) (if 4*m+j<4*m then 0 else e) (4*m+j)=4*m+e+j:=λh=>by rw[kk (by lia),Dn (by lia)];lia
 have k1:∀{y},y<4*m->k y=y:=λa=>by rw[hk,cm_x (by lia) (by lia),if_pos a];rfl
 have k2:∀{j},j<e->k (4*(m+1)+j)=4*m+j:=λ{j} a=>by rw[hk,cm_x (by lia) (by lia),show 4*(m+1)+j=4*m+(j+4) by lia,kk (by lia),md (by lia) (by lia)];lia
 have k3:k (4*m)=4*m+e:=by rw[hk,cm_x (by lia) (by lia)];exact kn (j:=0) (by decide)
 have k4:k (4*m+1)=4*m+e+1:=by rw[hk,cm_x (by lia) (by lia)];exact kn (j:=1) (by decide)
 have k5:k (4*m+2)=4*m+e+3:=by rw[hk,cm_a];exact kn (j:=3) (by decide)
 have k6:k (4*m+3)=4*m+e+2:=by rw[hk,cm_b];exact kn (j:=2) (by decide)
 clear hk kk kn;generalize r1e:4*m+q=r1 at *;have nr:∀{x},x<4*m->x≠r1/\x≠r1+1:=λh=>by lia
 have r1l:r1+1<4*m+e:=by lia
 have mn:4*m<=4*m+e:=Sk _ _;generalize hn:4*m+e=n at *
 -- the first arc parted
 obtain⟨a1,a2,a3,a4,a5,a6⟩:=up (Tf r1l);obtain⟨d1,d2,d3,d4,d5,d6⟩:=up r1l;obtain⟨z1,z2,z3,z4,z5,z6,z7,z8,z9⟩:=cn n;have hp:=s.lt r1 (Tf r1l);have gp:=s.inv r1 (Tf r1l);generalize g r1=p at hp gp;have s1:=X8 s hp;have G1:=Qf0 s hp;have T1:=Qlt T hp hfr;have ga_n1:g3 n g p (n+1)=r1:=(X1 s hp).trans gp;have ba:∀{x},x<n->x≠r1->B3 n g p A fr x=A x:=λa b=>by unfold B3;rw[if_neg (gp ▸ λz=>z.elim b (up a).2.2.2.1),if_neg (Bv a)]
 have ba_r1:B3 n g p A fr r1=fr:=if_pos (.inl gp.symm);have ba_n:B3 n g p A fr n=A r1:=by unfold B3;rw[if_neg (gp ▸ λz=>z.elim a3.symm z6),if_pos rfl,← T.eq p hp,gp]
 have ba_n1:B3 n g p A fr (n+1)=fr:=if_pos (.inr rfl);have hfa:∀i,i<n+2->B3 n g p A fr i<fr+1:=λi hi=>by
  unfold B3;split
  ·lia
  ·split
   ·have:=hfr p hp;lia
   ·have:=hfr i (by lia);lia
 generalize g3 n g p=ga at *;generalize B3 n g p A fr=Ba at *
 -- the second
 have hp2:=s1.lt (r1+1) d1;have gp2:=s1.inv (r1+1) d1;generalize ga (r1+1)=p2 at hp2 gp2;have s2:=X8 s1 hp2;have G2:=Qf0 s1 hp2;have T2:=Qlt T1 hp2 hfa;have ne1:n+1≠p2:=λz=>by rw[← z,ga_n1]at gp2;exact Bv (M5 _) gp2
 have gb_n1:g3 (n+2) ga p2 (n+1)=r1:=(g3_x ne1 (gp2 ▸ λz=>a3 (Od z).symm) z2).trans ga_n1;have gb_n3:g3 (n+2) ga p2 (n+3)=r1+1:=(X1 s1 hp2).trans gp2;have gb_r2:g3 (n+2) ga p2 (r1+1)=n+3:=by have:=g3_q s1 hp2;rwa [gp2]at this
 have bb:∀{x},x<n+2->x≠r1+1->B3 (n+2) ga p2 Ba (fr+1) x=Ba x:=λa b=>by unfold B3;rw[if_neg (gp2 ▸ λz=>z.elim b (Bv (Tb a))),if_neg (Bv a)]
 have bb_r2:B3 (n+2) ga p2 Ba (fr+1) (r1+1)=fr+1:=if_pos (.inl gp2.symm);have bb_n2:B3 (n+2) ga p2 Ba (fr+1) (n+2)=A (r1+1):=by unfold B3;rw[if_neg (gp2 ▸ λz=>z.elim d5.symm (Bv (M5 _))),if_pos rfl,← T1.eq p2 hp2,gp2,ba r1l (D1 (M5 _))]
 have bb_n3:B3 (n+2) ga p2 Ba (fr+1) (n+3)=fr+1:=if_pos (.inr rfl);generalize g3 (n+2) ga p2=gb at *;generalize B3 (n+2) ga p2 Ba (fr+1)=Bb at *
 -- the two points made one
 have fb_x:∀{x},x<n->f2 (n+2) (f2 n (nx m e)) x=nx m e x:=λa=>by rw[Uv (up a).1,Uv a]
 have fb_n:f2 (n+2) (f2 n (nx m e)) n=n+1:=by rw[Uv z1,f2_n]
 have fb_n1:f2 (n+2) (f2 n (nx m e)) (n+1)=n:=by rw[Uv z2,Qe6]
 have fb_n2:f2 (n+2) (f2 n (nx m e)) (n+2)=n+3:=f2_n;have fb_n3:f2 (n+2) (f2 n (nx m e)) (n+3)=n+2:=Qe6;generalize f2 (n+2) (f2 n (nx m e))=fb at *;rw[← fb_x (Tf r1l)]at fr1;have no:¬rch (n+2+2) fb n (n+3):=λ⟨_,t,z⟩=>by
  have:∀t,it fb t n=n\/it fb t n=n+1:=λt=>by
   induction t with
   |zero=>exact .inl rfl
   |succ t ih=>exact ih.elim (λh=>.inr ((congrArg fb h).trans fb_n)) λh=>.inl ((congrArg fb h).trans fb_n1)
  exact(this t).elim (λq=>z7 (q.symm.trans z)) λq=>z8 (q.symm.trans z)
 have cc:Cn (n+2+2) fb gb n (n+3):=by
  have c1:=Cn_f (g:=gb) s2.fi (z:=n) z3;have c2:=Cn_g s2 (z:=n+1) z4;have c3:=Cn_f (g:=gb) s2.fi (z:=r1) a2;have c4:=Cn_g s2 (z:=r1+1) d2;rw[fb_n]at c1;rw[gb_n1]at c2;rw[fr1]at c3;rw[gb_r2]at c4;exact Qv.trans _ _ _ c1 (Qv.trans _ _ _ c2 (Qv.trans _ _ _ c3 c4))
 have ff:rch (n+2+2) (λz=>fb (gb z)) (gb n) (gb (n+3)):=⟨s2.lt n z3,2,by
  show fb (gb (fb (gb (gb n))))=gb (n+3);rw[s2.inv n z3,fb_n,gb_n1,fr1,gb_n3]⟩
 have s3:=Qcn s2 (x:=n) (y:=n+3) z3 z5;have G3:=Qe1 s2 (x:=n) (y:=n+3) z3 z5 no cc ff;have cs:∀{y},y<n+2+2->y<4*m\/y=4*m\/y=4*m+1\/y=4*m+2\/y=4*m+3\/∃j,j<e/\y=4*(m+1)+j:=λ{y} h=>by
  by_cases c:y<4*m+4
  ·lia
  ·exact .inr (.inr (.inr (.inr (.inr ⟨y-4*(m+1),by lia,by lia⟩))))
 refine Flat.of (n:=n+2+2) (by lia) s3 (G3.trans (G2.trans (G1.trans G0))) T2 kI (λy hy=>?_) λy hy=>?_
 ·rcases cs hy with a|rfl|rfl|rfl|rfl|⟨j,hj,rfl⟩
  ·have b:=Bs a mn;rw[k1 a,cm_x (up b).2.2.1 (up b).2.2.2.2.2,fb_x b,← k1 (nx_i a)];exact congrArg k (by rw[nx_c a,nx_c (Bs a (Nat.mul_le_mul_left 4 (Ij m)))])
  ·rw[k3,cm_a,fb_n3,← k6];exact congrArg k (Qbv (c:=m) (j:=0) (M5 m) (by decide))
  ·rw[k4,cm_x z6.symm z8,fb_n1,← k3];exact congrArg k (Qbv (c:=m) (j:=1) (M5 m) (by decide))
  ·rw[k5,cm_b,fb_n,← k4];exact congrArg k (Qbv (c:=m) (j:=2) (M5 m) (by decide))
  ·rw[k6,cm_x (D1 z1) z9,fb_n2,← k5];exact congrArg k (Qbv (c:=m) (j:=3) (M5 m) (by decide))
  ·have b:4*m+j<n:=hn ▸ Ru hj _;rw[k2 hj,cm_x (up b).2.2.1 (up b).2.2.2.2.2,fb_x b,Qa6 hj,Qa6 hj,k2 (S7 _ (Nat.zero_lt_of_lt hj))]
 ·unfold A2;rcases cs hy with a|rfl|rfl|rfl|rfl|⟨j,hj,rfl⟩
  ·have b:=Bs a mn;rw[k1 a,if_pos a,bb (up b).1 (nr a).2,ba b (nr a).1]
  ·rw[k3,if_neg (Np _),if_pos (Nat.lt_add_of_pos_right (by decide)),Nat.sub_self,bb z1 d3.symm,ba_n,← r1e];rfl
  ·rw[k4,if_neg (Tt.mpr (Sk _ 1)),if_pos (Ru (by decide) _),Nd,bb z2 d4.symm,ba_n1];rfl
  ·rw[k5,if_neg (Tt.mpr (Sk _ 2)),if_pos (Ru (by decide) _),Nd,bb_n3];rfl
  ·rw[k6,if_neg (Tt.mpr (Sk _ 3)),if_pos (Ru (by decide) _),Nd,bb_n2,← r1e];rfl
  ·clear z1 z2 z3 z4 z5 z6 z7 z8 z9 a1 a2 a3 a4 a5 a6 d1 d2 d3 d4 d5 d6 k3 k4 k5 k6 fr1 fb_n fb_n1 fb_n2 fb_n3 gb_n1 gb_n3 gb_r2 ga_n1 gp gp2 ne1 bb_n2 bb_n3 ba_n ba_n1 hp hp2 G0 G1 G2 G3;rw[k2 hj,if_neg (by lia),if_neg (by lia)];by_cases c:j=q
   ·rw[if_pos (by lia),c,r1e,bb (by lia) (by lia),ba_r1]
   ·by_cases d:j=q+1
    ·rw[if_neg (by lia),if_pos (by lia),d,← N6,r1e,bb_r2]
    ·rw[if_neg (by lia),if_neg (by lia),bb (by lia) (by lia),ba (by lia) (by lia)];congr 1;lia
theorem Qjq(F:Flat m e A)(hfr:∀i,i<4*m+e->A i<fr)(hq:q+1<e)(ht:t<4):Flat (m+1) e (A2 m q t A fr):=by
 refine spin (Qxl F hfr hq) (λi=>if i/4=m then 3*t else 0) (λx hx=>?_) λy hy=>?_
 ·by_cases h:x<4*(m+1)
  ·rw[nx_c h,show(4*(x/4)+(x%4+3)%4)/4=x/4 by lia]
  ·have:=nx_o (m:=m+1) (e:=e) h;rw[if_neg (by lia),if_neg (by lia)]
 ·by_cases h:y/4=m
  ·obtain⟨j,hj,rfl⟩:∃j,j<4/\y=4*m+j:=⟨y%4,by lia,by lia⟩
   rw[if_pos h,Qt4 (by lia) hj];unfold A2;rw[if_neg (by lia),if_pos (by lia),if_neg (by lia),if_pos (by lia)];congr 1;lia
  ·rw [if_neg h];show _=A2 m q 0 A fr y;unfold A2;by_cases c:y<4*m
   ·rw[if_pos c,if_pos c]
   ·have d:¬y<4*m+4:=by lia
    rw[if_neg c,if_neg c,if_neg d,if_neg d]
def rn(a b x:Int):Int:=if x=b then a else x
theorem Qps(F:Flat m (e+2) A):Flat m e λi=>rn (A (4*m+e)) (A (4*m+e+1)) (A i):=by
 obtain ⟨g,T,G0⟩:=F;have s:=Tw.sys T (Y8 (m:=m) (e:=e+2));have nxi:=Y8 (m:=m) (e:=e);change Tw (4*m+e+2) A g at T;change Gn (4*m+e+2) _ _=_ at G0;change Sys (4*m+e+2) _ _ at s;have key:Gn (4*m+e+2) (f2 (4*m+e) (nx m e)) g<=0/\Sys (4*m+e+2) (f2 (4*m+e) (nx m e)) g:=by
  by_cases e0:e=0
  ·subst e0;have:=Vg (f':=f2 (4*m+0) (nx m 0)) s (λx hx=>by
    by_cases a:x<4*m
    ·exact Eq.trans (by rw[nx_c a,nx_c a]) (Uv a).symm
    ·by_cases b:x=4*m
     ·rw[b,nx_1 (by lia) (by lia)];exact f2_n.symm
     ·rw[show x=4*m+1 by lia,nx_0 (e:=2) (by lia) rfl];exact Qe6.symm) λ_ _=>rfl
   exact⟨by rw[← this.2,G0];exact Mt _,this.1⟩
  ·obtain ⟨n,hn⟩:∃n,4*m+e=n+1:=⟨4*m+e-1,by lia⟩
   rw [hn]at s G0 ⊢;have x0:nx m (e+2) n=n+1:=nx_1 (by lia) (by lia);have x1:nx m (e+2) (n+1)=n+2:=nx_1 (by lia) (by lia);have le:=Qok s (x:=n) (y:=n+2) (by lia) (by lia) (by lia) ⟨by lia,2,by show nx m (e+2) (nx m (e+2) n)=_;rw[x0,x1]⟩;have:=Vg (f':=f2 (n+1) (nx m e)) (Qcn s (x:=n) (y:=n+2) (by lia) (by lia)) (λx hx=>by
    by_cases a:x=n
    ·rw[a,cm_a,Uv (by lia),nx_0 (by lia) hn.symm,nx_0 (by lia) (by lia)]
    ·by_cases b:x=n+2
     ·rw[b,cm_b,Qe6,x0]
     ·rw [cm_x a b];by_cases c:x<n
      ·rw[Uv (by lia)];by_cases d:x<4*m
       ·rw[nx_c d,nx_c d]
       ·rw[nx_1 (by lia) (by lia),nx_1 (by lia) (by lia)]
      ·rw[show x=n+1 by lia,f2_n,x1]) λ_ _=>rfl
   exact⟨by rw[← this.2];lia,this.1⟩
 obtain⟨le,sb⟩:=key;have G1:Gn (4*m+e+2) (f2 (4*m+e) (nx m e)) g=0:=K1 le (Qx0 sb);unfold Flat
 clear G0 le s;generalize 4*m+e=n at *;have c1:=sb.lt n (by lia);have c2:=sb.ne n (by lia);have c3:=sb.inv n (by lia);by_cases c:g n=n+1
 ·rw [c]at c3;have gl:∀x,x<n->g x<n:=λx hx=>by
   have h0:=sb.lt x (by lia);have hi:=sb.inv x (by lia);have h1:g x≠n:=λz=>by rw[z,c]at hi;lia
   have h2:g x≠n+1:=λz=>by rw[z,c3]at hi;lia
   lia
  have sc:Sys n (nx m e) g:=⟨nxi,gl,λx hx=>sb.ne x (by lia),λx hx=>sb.inv x (by lia)⟩
  have e1:=(Vg (f':=f2 n (nx m e)) (g':=g1 n g) sb (λ_ _=>rfl) (λx hx=>by
   unfold g1;split
   ·rfl
   ·split
    ·rw[‹x=n›,c]
    ·rw[show x=n+1 by lia,c3])).2
  have rid:∀a,rn (A n) (A (n+1)) a=a:=λa=>by
   unfold rn;rw[← c,T.eq n (by lia)];split
   ·exact Eq.symm ‹_›
   ·rfl
  refine⟨g,⟨gl,sc.ne,λx hx=>?_,λx y hx hy e'=>?_⟩,by rw[← Qmf sc,← e1,G1]⟩
  ·rw[T.eq x (by lia)]
  ·rw[rid,rid]at e';exact T.only x y (by lia) (by lia) e'
 ·have d1:=sb.lt (n+1) (by lia);have d2:=sb.ne (n+1) (by lia);have d3:=sb.inv (n+1) (by lia);have d4:g (n+1)≠n:=λz=>c (by rw[z]at d3;exact d3);have lp:=T.eq n (by lia);have lr:=T.eq (n+1) (by lia);have op:=T.only n;have or:=T.only (n+1);generalize hp:g n=p at *;generalize hr:g (n+1)=r at *;have pl:p<n:=by lia
  have rl:r<n:=by lia
  have pr:p≠r:=λz=>by rw[z,d3]at c3;lia
  let gc:Nat->Nat:=λx=>if x=p then r else if x=r then p else g x
  have gcp:gc p=r:=if_pos rfl;have gcr:gc r=p:=by show(if _ then _ else _)=_;rw[if_neg (λz=>pr z.symm),if_pos rfl]
  have gcx:∀{x},x≠p->x≠r->gc x=g x:=λa b=>by show(if _ then _ else _)=_;rw[if_neg a,if_neg b]
  have gl:∀x,x<n->x≠p->x≠r->g x<n/\g x≠p/\g x≠r:=λx hx a b=>by
   have h0:=sb.lt x (by lia);have hi:=sb.inv x (by lia);have h1:g x≠n:=λz=>a (by rw[← hi,z,hp]);have h2:g x≠n+1:=λz=>b (by rw[← hi,z,hr]);exact⟨by lia,λz=>by rw[z,c3]at hi;lia,λz=>by rw[z,d3]at hi;lia⟩
  have tri:∀x,x=p\/x=r\/(x≠p/\x≠r):=λx=>by lia
  have sc:Sys n (nx m e) gc:=by
   refine⟨nxi,λx hx=>?_,λx hx=>?_,λx hx=>?_⟩
   ·rcases tri x with rfl|rfl|⟨a,b⟩
    ·rw[gcp];exact rl
    ·rw[gcr];exact pl
    ·rw[gcx a b];exact(gl x hx a b).1
   ·rcases tri x with rfl|rfl|⟨a,b⟩
    ·rw[gcp];exactλz=>pr z.symm
    ·rw[gcr];exact pr
    ·rw[gcx a b];exact sb.ne x (by lia)
   ·rcases tri x with rfl|rfl|⟨a,b⟩
    ·rw[gcp,gcr]
    ·rw[gcr,gcp]
    ·obtain⟨_,g1',g2'⟩:=gl x hx a b;rw[gcx a b,gcx g1' g2',sb.inv x (by lia)]
  have e1:=(Vg (f':=f2 n (nx m e)) (g':=g3 n gc p) sb (λ_ _=>rfl) (λx hx=>by
   rcases five sc pl hx with a|a|⟨a,b,c2⟩|a|a
   ·rw[a,c3,g3_p]
   ·rw[a,g3_q sc pl,gcp,d3]
   ·rw[g3_x b c2 a,gcx b (by rw[gcp]at c2;exact c2)]
   ·rw[a,g3_n sc pl,hp]
   ·rw[a,X1 sc pl,gcp,hr])).2
  have ne:A n≠A (n+1):=λz=>by rcases op (n+1) (by lia) (by lia) z.symm with q'|q'<;>lia
  have at_p:∀x,x<n->A x=A n->x=p:=λx hx z=>by rcases op x (by lia) (by lia) z with q'|q'<;>lia
  have at_r:∀x,x<n->A x=A (n+1)->x=r:=λx hx z=>by rcases or x (by lia) (by lia) z with q'|q'<;>lia
  have rp:rn (A n) (A (n+1)) (A p)=A n:=by unfold rn;rw[lp,if_neg ne]
  have rr:rn (A n) (A (n+1)) (A r)=A n:=by unfold rn;rw[lr,if_pos rfl]
  have rx:∀x,x<n->x≠r->rn (A n) (A (n+1)) (A x)=A x:=λx hx a=>if_neg λz=>a (at_r x hx z);refine⟨gc,⟨sc.lt,sc.ne,λx hx=>?_,λx y hx hy e'=>?_⟩,by rw[← Qf0 sc pl,← e1,G1]⟩
  ·rcases tri x with rfl|rfl|⟨a,b⟩
   ·rw[gcp,rp,rr]
   ·rw[gcr,rp,rr]
   ·rw[gcx a b,T.eq x (by lia)]
  ·by_cases ax:x=r
   ·rw[ax,rr]at e';by_cases ay:y=r
    ·exact .inl (by rw[ax,ay])
    ·rw[rx y hy ay]at e';exact .inr (by rw[ax,gcr,at_p y hy e'])
   ·rw [rx x hx ax]at e';by_cases ay:y=r
    ·rw[ay,rr]at e';exact .inr (by rw[ay,at_p x hx e'.symm,gcp])
    ·rw [rx y hy ay]at e';rcases T.only x y (by lia) (by lia) e' with z|z
     ·exact .inl z
     ·by_cases ap:x=p
      ·rw[ap,c3]at z;lia
      ·exact .inr (by rw[gcx ap ax];exact z)
def A3(m q:Nat)(A:Nat->Int)(i:Nat):Int:=rn (A (4*m+q)) (A (4*m+q+1)) (if i<4*m+q then A i else A (i+2))
theorem Qm5(F:Flat m (e+2) A)(hq:q<e+1):Flat m e (A3 m q A):=by
 refine(Z0 (Qps (Z0 F (q+2))) (e-q)).congr λi hi=>?_;have e1:A4 m (e+2) (q+2) A (4*m+e)=A (4*m+q):=by rw[Xx,md (by lia) (by lia)];congr 1;lia
 have e2:A4 m (e+2) (q+2) A (4*m+e+1)=A (4*m+q+1):=by rw[N6,Xx,md (by lia) (by lia)];congr 1;lia
 rw[e1,e2];unfold A3;by_cases h:i<4*m
 ·rw[Qn8 h,Qn8 h,if_pos (by lia)]
 ·obtain⟨j,rfl⟩:∃j,i=4*m+j:=⟨i-4*m,by lia⟩
  rw[Xx,Xx];by_cases a:j<q
  ·rw[if_pos (by lia),Dn (show j+(e-q)<e by lia),md (by lia) (by lia),show j+(e-q)+(q+2)-(e+2)=j by lia]
  ·rw[if_neg (by lia),md (a:=j+(e-q)) (by lia) (by lia),Dn (by lia),show j+(e-q)-e+(q+2)=j+2 by lia];rfl
def A6(m e:Nat)(A:Nat->Int)(i:Nat):Int:=if i<4*m then A (4*(i/4)+(3-i%4))else A (4*m+(e-1-(i-4*m)))
theorem Qbf(F:Flat m e A):Flat m e (A6 m e A):=by
 obtain⟨g,T,G0⟩:=F;have s:=Tw.sys T (Y8 (m:=m) (e:=e));obtain⟨b,bl,bk,kb⟩:=Inj.bk (Y8 (m:=m) (e:=e));obtain⟨sb,Gb⟩:=Quh s bl kb;let h:Nat->Nat:=λx=>if x<4*m then 4*(x/4)+(3-x%4)else 4*m+(e-1-(x-4*m))
 have h1:∀{c j},c<m->j<4->h (4*c+j)=4*c+(3-j):=λ{c j} hc hj=>by show(if _ then _ else _)=_;rw[if_pos (show 4*c+j<4*m by lia),(dv hj).1,(dv hj).2]
 have h2:∀{j},h (4*m+j)=4*m+(e-1-j):=λ{j}=>by show(if _ then _ else _)=_;rw[if_neg (Tt.mpr (Sk _ _)),Nd]
 have hl:∀x,x<4*m+e->h x<4*m+e:=λx hx=>by
  by_cases a:x<4*m
  ·obtain⟨c,j,hc,hj,rfl⟩:=cj a;rw[h1 hc hj];lia
  ·obtain⟨j,hj,rfl⟩:=rj a hx;rw[h2];lia
 have hh:∀x,x<4*m+e->h (h x)=x:=λx hx=>by
  by_cases a:x<4*m
  ·obtain⟨c,j,hc,hj,rfl⟩:=cj a;rw[h1 hc hj,h1 hc (by lia),show 3-(3-j)=j by lia]
  ·obtain⟨j,hj,rfl⟩:=rj a hx;rw[h2,h2,show e-1-(e-1-j)=j by lia]
 have hn:∀x,x<4*m+e->nx m e (h (nx m e x))=h x:=λx hx=>by
  by_cases a:x<4*m
  ·obtain⟨c,j,hc,hj,rfl⟩:=cj a;rw[Qbv hc hj,h1 hc hj,h1 hc (S7 _ (by decide)),Qbv hc (Rf (Nat.sub_le _ _) (by decide))]
   match j,hj with
   |0,_=>rfl
   |1,_=>rfl
   |2,_=>rfl
   |3,_=>rfl
  ·obtain⟨j,hj,rfl⟩:=rj a hx;rw[Qa6 hj,h2,h2];by_cases c:j+1=e
   ·rw[c,Kn,Nat.sub_zero,nx_0 (by lia) (by lia),show e-1-j=0 by lia];rfl
   ·rw[Dn (by lia),nx_1 (by lia) (by lia),N6,show e-1-(j+1)+1=e-1-j by lia]
 refine Flat.of rfl sb (Gb.trans G0) T (k:=h) ⟨hl,λx y hx hy q=>by rw[← hh x hx,q,hh y hy]⟩ (λx hx=>?_) λy hy=>?_
 ·rw[← hn x hx,bk _ (hl _ (Qpi hx))]
 ·unfold A6;by_cases a:y<4*m
  ·rw[if_pos a];exact congrArg A (if_pos a).symm
  ·rw[if_neg a];exact congrArg A (if_neg a).symm
theorem Flat.holes(F:Flat m e A)(T:Tw (4*m+e) A g)(hl:∀x,x∈l↔x<4*m+e) :
  2*((Vs m e).filter (Hang.isL (Ed m e g) (Vs m e))).length+(4*m+e)/2=(m+if 0<e then 1 else 0)+(X3 (4*m+e) (fx m e g) l).length:=by
 obtain ⟨g',T',G0⟩:=F;have gg:∀x,x<4*m+e->g' x=g x:=λx hx=>by
  rcases T.only x (g' x) hx (T'.lt x hx) (T'.eq x hx)with z|z
  ·exact absurd z (T'.ne x hx)
  ·exact z
 have s:=Tw.sys T (Y8 (m:=m) (e:=e));have s':=Tw.sys T' (Y8 (m:=m) (e:=e));have G1:Gn (4*m+e) (nx m e) g=0:=by rw[← (Vg (f':=nx m e) (g':=g) s' (λ_ _=>rfl) gg).2];exact G0
 have hp:=Qh6 T;rw[Qi9 T,Qm7 (Qm1 T) hl];have e1:ncl (RR m e g) (4*m+e)=ncl (Cn (4*m+e) (nx m e) g) (4*m+e):=Yr λx y hx hy=>s.rel hx hy;have e2:=Qi7 (m:=m) (e:=e);unfold Gn at G1;rw[e1,← e2];have e3:ncl (rch (4*m+e) (fx m e g)) (4*m+e)=ncl (rch (4*m+e) λx=>nx m e (g x)) (4*m+e):=rfl;rw[e3];lia
end Flt
variable {a x r:Int}{f Wg Wb Wf Wa:Dj}{k:PV.D->Prop}{l:PySem.W.OpenLaw}{ts:List Dj}
namespace K15
open PySem PySem.Spec L2 PV
open PyProof.Rows (envOfC)
def BO(P:Program)(w:World)(K:Frag)(mg:Re->Option Fg)(base:Kf)(f:Addr)(k:Nat)(q:String)(st:Stmt)(N:List Str)(T:Tg)(ww:WS):Prop:=∀(cdv:Value)(A:Around)(outer:List Do)(s:Shared)(H:Hp)(E:XK),Room k (A.deeper (envOfC q (Qc st) s.heap.objs.size f cdv))->SVs (cxOf CX0 P w K mg base N q (Qc st) f cdv A outer s H E).nox T (Qs st) ww
def BT(P:Program)(w:World)(K:Frag)(mg:Re->Option Fg)(base:Kf)(f:Addr)(fd:FuncData)(TB:List (Addr×Array Value))(k:Nat)(q:String)(st:Stmt)(N:List Str)(T:Tg)(ww:WS):Prop:=∀(cdv:Value)(A:Around)(outer:List Do)(s:Shared)(H:Hp)(E:XK),Room k (A.deeper (envOfC q (Qc st) s.heap.objs.size f cdv))->Tabs TB H->fd.code=cdv->SVs (cxOf CX0 P w K mg base N q (Qc st) f cdv A outer s H E).nox T (Qs st) ww
def top(i:Nat):Stmt:=PySem.Challenge.pw_tanglehouse_k15_whole_what_is_drawn_is_f.main.body.getD i (.Pass ⟨0,0,0,0⟩)
def Qgz:Expr:=Qty (Qs (top 18))
def Jh:Lam:=Qwt "pieces.<locals>.<lambda>" ["beside"] Qgz
def Gf:Pos:=Qrf Qgz
def Qj0:Expr:=Qty (Qs (top 15))
def J2:Lam:=Qwt "faces.<locals>.<lambda>" ["web","others"] Qj0
def Qab:Pos:=Qrf Qj0
abbrev TBof(ts:List Addr):List (Addr×Array Value):=ts.zip [tgOf Gf Jh.qual,tgOf Qab J2.qual]
structure Bn(mg:Str->Option Value):Prop where
 nb_enumerate:mg "enumerate" = none
 nb_int:mg "int" = none
 nb_len:mg "len" = none
 nb_range:mg "range" = none
 nb_reversed:mg "reversed" = none
 nb_sorted:mg "sorted" = none
 nb_sum:mg "sum" = none
 nb_tuple:mg "tuple" = none
 c_RIM:∃t:Tok,mg "RIM" = some (.int (-1) t)
theorem big(h:n<=1000):n<sizeLine:=Rf h (by decide)
def crD(A:Nat->Int)(k:Nat):D:=.tup ((Ai 4).map λj=>.int (A (4*k+j)))
def Jg:GA:=λds k=>∃(m e:Nat)(A:Nat->Int)(r:Int),ds=[webD m e A r]/\m<=100/\e<=100/\k (.dik (encP (spD m) (M.plc A (4*m+e))))
abbrev V1:Stmt:=top 5
theorem Yp:FnScope ["web","told","k","crossing","j","arc"] ["web"] (Qc V1):=⟨rfl,rfl,rfl,by decide +kernel,rfl,by decide +kernel,by decide +kernel⟩
def Qg9:Tg:={ own:=λi=>i==1||i==2||i==3||i==4||i==5,io:=[] }
noncomputable def Qg2:WS:=(wSeq (wSet 1 (wC (.dik [])))
 (wSeq (wFor (Qki (Qe (wBin dIx (wVar 0) (wC (.int 0))) wNil)) (Qjn 2 (Ul (gN 2) (Ul (gN 3) Qjo))) (wFor (Qki (Qe (wVar 3) wNil)) (Qjn 2 (Ul (gN 4) (Ul (gN 5) Qjo))) (wSda 1 (wVar 5) (wTup (Qe (wVar 2) (Qe (wVar 4) wNil))))))
 (wSeq (wFor (Qki (Qe (wBin dIx (wVar 0) (wC (.int 1))) wNil)) (Qjn 2 (Ul (gN 4) (Ul (gN 5) Qjo))) (wSda 1 (wVar 5) (wTup (Qe (wC (.int (-1))) (Qe (wVar 4) wNil)))))
 (U2 1))))
theorem Qqe{K:Frag}(B:Bn mg):BO P w K mg base f 0 "places" V1 ["web","told","k","crossing","j","arc"] Qg9 Qg2:=λcdv A outer s H E hr=>
  (Qg (Q4 (i:=1) Qag Yp.nd)
  (Qg (Ui D5 (Qgh B.nb_enumerate (Qb (Qu (Qt (Qp hr)) (Qa 0) Qd) Qj)) (Qif (Zl (Yd (i:=2) Yp.nd) (Zl (Yd (i:=3) Yp.nd) Qdo))) (Qn (Ui D5 (Qgh B.nb_enumerate (Qb (Qa 3) Qj)) (Qif (Zl (Yd (i:=4) Yp.nd) (Zl (Yd (i:=5) Yp.nd) Qdo))) (Qn (Qqp (i:=1) (Qa 5) (Gp (Qb (Qa 2) (Qb (Qa 4) Qj))))))))
  (Qg (Ui D5 (Qgh B.nb_enumerate (Qb (Qu (Qt (Qp hr)) (Qa 0) Qd) Qj)) (Qif (Zl (Yd (i:=4) Yp.nd) (Zl (Yd (i:=5) Yp.nd) Qdo))) (Qn (Qqp (i:=1) (Qa 5) (Gp (Qb (Qdq B.c_RIM.choose_spec) (Qb (Qa 4) Qj))))))
  (Qn (G6 (i:=1))))))
theorem Qlm(ht:t<900){P:EndsP}(ha:a=A t)
  (h1:look ρ 1=some (.dik (encP (spD m) (M.plc A t)))) (hk:∀Q,Q (.int a) ρ->wk ρ Q) (hv:∀d Q,Q (spD m t) (ρ.set 1 d)->wv (ρ.set 1 d) Q) (hn:P.nx (ρ.set 1 (some (.dik (encP (spD m) (M.plc A (t+1))))))):wSda 1 wk wv P ρ:=by
 obtain ⟨k1,k2,_⟩:=M.Qb9 A t;unfold wSda;rw[h1];obtain⟨l,hl,v1,v2⟩:=Qso (s:=spD m) (P:=M.plc A t) (a:=a) (i:=t) k1;have hlen:l.length<=t:=by
  rcases hl with rfl|⟨e,he,rfl⟩
  ·exact Dx _
  ·exact Qoz A t e he
 refine⟨?_,Qne k1,hk _ ?_⟩
 ·have:=Qa0 A t;unfold encP;rw[Ao];exact big (by lia)
 ·show oget (valD (Zq (encP (spD m) (M.plc A t)) (.inl a)) (.inl a)) _;rw[v1];refine⟨by rw[Ao];exact big (by lia),hv _ _ ⟨Qs1,?_⟩⟩;rw[v2,ha,← M.X7];exact hn
theorem Qlz{K:Frag}(F:Fun K "places" "places" V1 f fd)(B:Bn mg):FnOk P w K mg base CX0 1 f fd ["web"] (spR K Jg):=by
 refine Uu (T:=Qg9) F Yp rfl (by decide) (λds kk h=>?_) (Qqe B) (λds kk h=>?_)
 ·obtain⟨m,e,A,r,rfl,_⟩:=h;rfl
 ·obtain ⟨m,e,A,r,rfl,hm,he,k⟩:=h;simp only[Qg2,wSeq,wSet,wC,Int.reduceNeg,env0,webD,Bc,B1,Am,Az,Bk,Nat.reduceAdd,Bt,Bz,B5,Av,Aw,Qbs,Qla,Qe,wBin,wNil,Qz,look,Qk,Up,Gw,Bh,Qfx];have pc:Qm ((Ai m).map λk=>D.tup ((Ai 4).map λj=>.int (A (4*k+j))))=true:=Qh λ_ _=>by simp only[D.pure];exact Qh λ_ _=>rfl
  have pe:Qm ((Ai e).map λj=>D.int (A (4*m+j)))=true:=Qh λ_ _=>rfl;refine⟨pc,Vp pc,λk ρ=>∃o2 o3 o4 o5:Option D,ρ=[some (webD m e A r),some (.dik (encP (spD m) (M.plc A (4*k)))),o2,o3,o4,o5],⟨none,none,none,none,rfl⟩,?_,?_⟩
  ·rintro i d ρ hd ⟨o2,o3,o4,o5,rfl⟩;rw[Ze]at hd;have hi:i<m:=by
    cases q:((Ai m).map λk=>D.tup ((Ai 4).map λj=>.int (A (4*k+j))))[i]? with
    |none=>rw[q]at hd;cases hd
    |some z=>simpa using(Be.mp q).1
   rw[Au,B2 hi]at hd;have hd:=(Bq hd).symm;subst hd;have pi:Qm ((Ai 4).map λj=>D.int (A (4*i+j)))=true:=Qh λ_ _=>rfl;simp only[Bk,Int.reduceNeg,Qbs,Qla,Qe,wNil,Qz,Qhn,Am,Az,Nat.reduceAdd,Qc0,gN,Av,Aw,Qho,look,Qk,Qfx,true_and];refine⟨pi,Vp pi,λj ρ=>∃o4 o5:Option D,ρ=[some (webD m e A r),some (.dik (encP (spD m) (M.plc A (4*i+j)))),some (.int (i:Int)),some (crD A i),o4,o5],⟨o4,o5,by simp[crD]⟩,?_,?_⟩
   ·rintro j d ρ hd ⟨o4,o5,rfl⟩;rw[Ze]at hd;have hj:j<4:=by
     cases q:((Ai 4).map λj=>D.int (A (4*i+j)))[j]? with
     |none=>rw[q]at hd;cases hd
     |some z=>simpa using(Be.mp q).1
    rw[Au,B2 hj]at hd;have hd:=(Bq hd).symm;subst hd;simp only[Bk,Qhn,Am,Az,Nat.reduceAdd,Qc0,gN,Av,Aw,Qho,true_and];refine Qlm (m:=m) (t:=4*i+j) (A:=A) (a:=A (4*i+j)) (by lia) rfl rfl (λQ hQ=>?_) (λd Q hQ=>?_) ?_
    ·simp only[Qz,look,Qk];exact hQ
    ·simp only[wTup,Qe,Av,Aw,wNil,Am,Az,Bk,Nat.reduceAdd,Qz,look,Qk];refine⟨by decide,?_⟩;simpa[spD,M.Quw hi hj]using hQ
    ·exact⟨some (.int (j:Int)),some (.int (A (4*i+j))),by simp[N6]⟩
   ·rintro ρ ⟨o4,o5,rfl⟩;have hl:(Vk 0 ((Ai 4).map λj=>D.int (A (4*i+j)))).length=4:=by rw[Ya];simp
    exact⟨some (.int (i:Int)),some (crD A i),o4,o5,by rw[hl,Nat.mul_add]⟩
  ·rintro ρ ⟨o2,o3,o4,o5,rfl⟩;have hl:(Vk 0 ((Ai m).map λk=>D.tup ((Ai 4).map λj=>.int (A (4*k+j))))).length=m:=by rw[Ya];simp
   rw[hl];simp only[wSeq,Int.reduceNeg,webD,Qbs,Qla,Qe,wBin,wC,wNil,Qz,look,Qk,Up,Vf,B0,Bh,Qfx];refine⟨pe,Vp pe,λj ρ=>∃o4 o5:Option D,ρ=[some (webD m e A r),some (.dik (encP (spD m) (M.plc A (4*m+j)))),o2,o3,o4,o5],⟨o4,o5,by simp[webD]⟩,?_,?_⟩
   ·rintro j d ρ hd ⟨o4,o5,rfl⟩;rw[Ze]at hd;have hj:j<e:=by
     cases q:((Ai e).map λj=>D.int (A (4*m+j)))[j]? with
     |none=>rw[q]at hd;cases hd
     |some z=>simpa using(Be.mp q).1
    rw[Au,B2 hj]at hd;have hd:=(Bq hd).symm;subst hd;simp only[Bk,Int.reduceNeg,Qhn,Am,Az,Nat.reduceAdd,Qc0,gN,Av,Aw,Qho,true_and];refine Qlm (m:=m) (t:=4*m+j) (A:=A) (a:=A (4*m+j)) (by lia) rfl rfl (λQ hQ=>?_) (λd Q hQ=>?_) ?_
    ·simp only[Qz,look,Qk];exact hQ
    ·simp only[wTup,Qe,wC,Av,Aw,wNil,Int.reduceNeg,Am,Az,Bk,Nat.reduceAdd,Qz,look,Qk];refine⟨by decide,?_⟩;simpa[spD,M.Qk0]using hQ
    ·exact⟨some (.int (j:Int)),some (.int (A (4*m+j))),by simp[N6]⟩
   ·rintro ρ ⟨o4,o5,rfl⟩;have hl:(Vk 0 ((Ai e).map λj=>D.int (A (4*m+j)))).length=e:=by rw[Ya];simp
    rw[hl];simp only[U2,look,Qk];exact k
def renF(f:Int->Int):D->D
 | .int i=>.int (f i)
 |d=>d
def Zx:GA:=λds k=>∃(ns:List Int)(T:List (Key×D)) (f:Int->Int),ds=[.tup (ns.map .int),.dik T]/\ns.length<=100/\(∀n∈ns,valD T (.inl n)=some (.int (f n)))/\k (.tup (ns.map λn=>.int (f n)))
abbrev Y7:Stmt:=top 6
theorem Qi6:FnScope ["arcs","names"] ["arcs","names"] (Qc Y7):=⟨rfl,rfl,rfl,by decide +kernel,rfl,by decide +kernel,by decide +kernel⟩
def Qed:Tg:={ own:=λi=>false,io:=[] }
def Qd3:WS:=(wRet (Qq Gq (Qe (Qcu (Qal (wVar 0)) wAll (Jb (wBin dIx (wVar 1) (wVar 0))) [1]) wNil)))
theorem Qn2{K:Frag}(B:Bn mg):BO P w K mg base f 0 "renamed" Y7 ["arcs","names"] Qed Qd3:=λcdv A outer s H E hr=>
  (Qn (Yy (Yv Vd B.nb_tuple Ve (Qb (V8 (Ux [1] (Gi (Qa 0)) (λ_ _ _ _ _=>Qbi) (λ_ _ _ _ _=>(Q7 (Qu (Qt (Qp hr)) (Qa 1) (Qa 0))))) (Vc (Qc Y7) ["arcs","names"] (by decide +kernel))) Qj))))
theorem Qjf{K:Frag}(F:Fun K "renamed" "renamed" Y7 f fd)(B:Bn mg):FnOk P w K mg base CX0 1 f fd ["arcs","names"] (spR K Zx):=by
 refine Uu (T:=Qed) F Qi6 rfl (by decide) (λds kk h=>?_) (Qn2 B) (λds kk h=>?_)
 ·obtain⟨ns,T,f,rfl,_⟩:=h;rfl
 ·obtain⟨ns,T,f,rfl,hl,hT,k⟩:=h;simp only[Qd3,wRet,Qq,Qe,env0,Bc,B1,Am,Az,Bk,Nat.reduceAdd,Bz,B5,wNil,Qay,Qeo,Qz,look,Qk,Qhj];refine⟨Ji,Yw (renF f) (by rw[Ao];exact big (by lia)) (λd hd Q' hQ=>?_) ?_⟩
  ·obtain⟨n,hn,rfl⟩:=Aq.mp hd;simp only[Jb,wBin,blkE,Bc,look,B1,Qz,Qk,Qvd,hT n hn,D.pure,true_and];exact hQ
  ·simp only[Qen];rw[By];exact⟨Qh λ_ _=>rfl,k⟩
def Yt:GA:=λds k=>∃(m e:Nat)(A:Nat->Int)(r:Int),ds=[webD m e A r]/\m<=40/\e<=20/\k (webD m e (M.anw A (4*m+e)) r)
def crF(A:Nat->Int):D->D
 | .tup ds=>.tup (ds.map λd=>match d with | .int a=>.int (A a.toNat)|d=>d)
 |d=>d
def nmF(f:Int->Int):D->D
 | .tup ds=>.tup (ds.map (renF f))
 |d=>d
theorem Qun{f:Int->Int}:D.tup [.tup (((Ai m).map λk=>D.tup ((Ai 4).map λj=>.int (A (4*k+j)))).map (nmF f)),.tup (((Ai e).map λj=>A (4*m+j)).map λn=>.int (f n)),.int r]=webD m e (λi=>f (A i)) r:=by
 unfold webD;rw[By,By];congr 3
abbrev Js:Stmt:=top 7
theorem Y2:FnScope ["web","names","arc","crossings"] ["web"] (Qc Js):=⟨rfl,rfl,rfl,by decide +kernel,rfl,by decide +kernel,by decide +kernel⟩
def Xn:Tg:={ own:=λi=>i==1||i==2||i==3,io:=[] }
noncomputable def Xi:WS:=(wSeq (wSet 1 (wC (.dik [])))
 (wSeq (wFor (Qr4 (Qq Jg (Qe (wVar 0) wNil))) (gN 2) (Jr 1 (Qq dLen (Qe (wVar 1) wNil)) (wVar 2)))
 (wSeq (wSet 3 (Qq Gq (Qe (Qcu (Qal (wBin dIx (wVar 0) (wC (.int 0)))) wAll (Qq Zx (Qe (wVar 0) (Qe (wVar 1) wNil))) [1]) wNil)))
 (wRet (Jb (wTup (Qe (wVar 3) (Qe (Qq Zx (Qe (wBin dIx (wVar 0) (wC (.int 1))) (Qe (wVar 1) wNil))) (Qe (wBin dIx (wVar 0) (wC (.int 2))) wNil)))))))))
theorem Qfg{K:Frag}(B:Bn mg)(Wc:Cal P w K mg base "places" 1 ["web"] (spR K Jg))(WH:Cal P w K mg base "renamed" 1 ["arcs","names"] (spR K Zx)):BO P w K mg base f 1 "named_anew" Js ["web","names","arc","crossings"] Xn Xi:=λcdv A outer s H E hr=>
  (Qg (Q4 (i:=1) Qag Y2.nd)
  (Qg (Ui D5 (Qt3 (Q3 Wc (hr.mono (by decide)) (Qb (Qa 0) Qj))) (Yd (i:=2) Y2.nd) (Qn (Jy (i:=1) (Qp hr) (Jq Um B.nb_len Uo (Qb (Qa 1) Qj)) (Qa 2))))
  (Qg (Q4 (i:=3) (Yv Vd B.nb_tuple Ve (Qb (V8 (Ux [1] (Gi (Qu (Qt (Qp hr)) (Qa 0) Qd)) (λ_ _ _ _ _=>Qbi) (λ_ _ _ _ _=>(Q3 WH (hr.mono (by decide)) (Qb (Qa 0) (Qb (Qa 1) Qj))))) (Vc (Qc Js) ["web","names","arc","crossings"] (by decide +kernel))) Qj)) Y2.nd)
  (Qn (Yy (Q7 (Gp (Qb (Qa 3) (Qb (Q3 WH (hr.mono (by decide)) (Qb (Qu (Qt (Qp hr)) (Qa 0) Qd) (Qb (Qa 1) Qj))) (Qb (Qu (Qt (Qp hr)) (Qa 0) Qd) Qj))))))))))
theorem Qc7{K:Frag}(F:Fun K "named_anew" "named_anew" Js f fd)(B:Bn mg)(C1:Cal P w K mg base "places" 1 ["web"] (spR K Jg))(C2:Cal P w K mg base "renamed" 1 ["arcs","names"] (spR K Zx)):FnOk P w K mg base CX0 2 f fd ["web"] (spR K Yt):=by
 refine Uu (T:=Xn) F Y2 rfl (by decide) (λds kk h=>?_) (Qfg B C1 C2) (λds kk h=>?_)
 ·obtain⟨m,e,A,r,rfl,_⟩:=h;rfl
 ·obtain ⟨m,e,A,r,rfl,hm,he,k⟩:=h;simp only[Xi,wSeq,wSet,wC,env0,Bc,B1,Am,Az,Bk,Nat.reduceAdd,Bt,Bz,B5,Av,Aw,Qbs,Qsv,Qq,Qe,wNil,Qz,look,Qk];refine⟨m,e,A,r,rfl,by lia,by lia,?_⟩;simp only[Qop,Qpr];refine⟨Ji,λt ρ=>t<=(M.keys A (4*m+e)).length/\∃o:Option D,ρ=[some (webD m e A r),some (.dik (num 0 ((M.keys A (4*m+e)).take t))),o,none],⟨Dx _,none,rfl⟩,?_,?_⟩
  ·rintro t d ρ hd ⟨ht,o,rfl⟩;rw[Au]at hd;cases hq:(M.keys A (4*m+e))[t]? with
   |none=>rw[show(M.plc A (4*m+e)).map (·.1)=M.keys A (4*m+e)from rfl,hq]at hd;cases hd
   | some a=>
    rw [show(M.plc A (4*m+e)).map (·.1)=M.keys A (4*m+e)from rfl,hq]at hd;cases hd;have hlt:=(Be.mp hq).1;have hk:=M.Qpq A (4*m+e);have hno:a∉(M.keys A (4*m+e)).take t:=λhm'=>by
     obtain⟨i,hi,e1⟩:=List.mem_take_iff_getElem.mp hm';have e2:=(Be.mp hq).2;have:=(Kj (M.Qtz A (4*m+e))).mp (e1.trans e2.symm);lia
    simp only[gN,Jr,Qq,Qe,Av,Aw,wNil,Qz,look,Di,Qk,Qk8,true_and,Qk9,D.pure];refine⟨by rw[Qf3,Dh];exact big (by lia),by lia,some (.int a),?_⟩;rw[Qtq hno,Mu,hq];rfl
  ·rintro ρ ⟨ht,o,rfl⟩;rw[show((M.plc A (4*m+e)).map (·.1)).map D.int=(M.keys A (4*m+e)).map D.int from rfl,Ao,Kr];have hval:∀i,i<4*m+e->valD (num 0 (M.keys A (4*m+e))) (.inl (A i))=some (.int (M.anw A (4*m+e) i)):=λi hi=>by
    rw[Ql7 (M.Qdl hi)];simp[M.anw]
   simp only[wSeq,wSet,Qq,Qe,webD,wNil,wRet,Jb,wTup,wBin,wC,Am,Az,Bk,Nat.reduceAdd,D.pure,Qm,Fh,Qz,Qay,Qeo,look,Qk,Up,Gw,Bh,Qhj];refine⟨Qh λ_ _=>by simp only[D.pure];exact Qh λ_ _=>rfl,Yw (nmF λa=>((M.ix a (M.keys A (4*m+e)):Nat):Int)) (by simp;exact big (by lia)) (λd hd Q' hQ=>?_) ?_⟩
   ·obtain ⟨kk,hk,rfl⟩:=Aq.mp hd;have hk:=Ay.mp hk;simp only[Qq,Qe,blkE,Bc,look,B1,wNil,Qz,Qk];refine⟨(Ai 4).map λj=>A (4*kk+j),num 0 (M.keys A (4*m+e)),λa=>((M.ix a (M.keys A (4*m+e)):Nat):Int),by simp,by simp,λn hn=>?_,?_⟩
    ·obtain⟨j,hj,rfl⟩:=Aq.mp hn;have hj:=Ay.mp hj;exact hval _ (by lia)
    ·have e1:D.tup (((Ai 4).map λj=>A (4*kk+j)).map λn=>.int ((M.ix n (M.keys A (4*m+e)):Nat):Int))=nmF (λa=>((M.ix a (M.keys A (4*m+e)):Nat):Int)) (D.tup ((Ai 4).map λj=>.int (A (4*kk+j)))):=by
      simp[nmF,renF,I9]
     rw[e1];exact hQ
   ·simp only[Av,Aw,look,Qk,Up,Qgw,B0,Bh,D.pure,Fh,Vf,Qen];refine⟨Qh λd hd=>?_,?_⟩
    ·obtain⟨kk,hk,rfl⟩:=Aq.mp hd;simp only[nmF,D.pure,By];exact Qh λ_ _=>rfl
    ·refine⟨(Ai e).map λj=>A (4*m+j),num 0 (M.keys A (4*m+e)),λa=>((M.ix a (M.keys A (4*m+e)):Nat):Int),by simp,by simp;lia,λn hn=>?_,by decide,?_⟩
     ·obtain⟨j,hj,rfl⟩:=Aq.mp hn;have hj:=Ay.mp hj;exact hval _ (by lia)
     ·rw[Qun];refine⟨?_,k⟩;rw[B4];refine⟨Qh λd hd=>?_,by simp only[D.pure];exact Qh λ_ _=>rfl⟩;obtain⟨kk,hk,rfl⟩:=Aq.mp hd;simp only[nmF,D.pure,By];exact Qh λ_ _=>rfl
def mirA(m:Nat)(A:Nat->Int)(i:Nat):Int:=if i<4*m then A (4*(i/4)+(i%4+1)%4)else A i
def mrF:D->D
 | .tup ds=>.tup (ds.drop 1++ds.take 1)
 |d=>d
theorem Qqw{α:Type}{f:Nat->α}:(Ai 4).map f=[f 0,f 1,f 2,f 3]:=rfl
theorem Qzj{a b c:D}:cutD [a,b,c,d] (some 1) none=[b,c,d]:=rfl
theorem Qzi{a b c:D}:cutD [a,b,c,d] none (some 1)=[a]:=rfl
theorem Qwg:((Ai m).map λk=>D.tup ((Ai 4).map λj=>.int (A (4*k+j)))).map mrF=(Ai m).map λk=>D.tup ((Ai 4).map λj=>.int (mirA m A (4*k+j))):=by
 rw[By];apply B8;intro k hk;have hk:=Ay.mp hk;simp only[I9,Qqw,mrF,mirA];rw[if_pos (by lia),if_pos (by lia),if_pos (by lia),if_pos (by lia)];rw[show 4*((4*k+0)/4)+((4*k+0)%4+1)%4=4*k+1 by lia,show 4*((4*k+1)/4)+((4*k+1)%4+1)%4=4*k+2 by lia,show 4*((4*k+2)/4)+((4*k+2)%4+1)%4=4*k+3 by lia,show 4*((4*k+3)/4)+((4*k+3)%4+1)%4=4*k+0 by lia];rfl
theorem Qwf:((Ai e).map λj=>D.int (mirA m A (4*m+j)))=(Ai e).map λj=>D.int (A (4*m+j)):=by
 apply B8;intro j _;unfold mirA;rw[if_neg (by lia)]
theorem Qhz:Qm ((Ai m).map λk=>D.tup ((Ai 4).map λj=>.int (A (4*k+j))))=true:=Qh λ_ _=>by simp only[D.pure];exact Qh λ_ _=>rfl
def Zy:GA:=λds k=>∃(m e:Nat)(A:Nat->Int)(r:Int),ds=[webD m e A r]/\m<=100/\k (webD m e (mirA m A) r)
abbrev Yg:Stmt:=top 8
theorem Qat:FnScope ["web","crossings"] ["web"] (Qc Yg):=⟨rfl,rfl,rfl,by decide +kernel,rfl,by decide +kernel,by decide +kernel⟩
def Qb5:Tg:={ own:=λi=>i==1,io:=[] }
noncomputable def Qb4:WS:=(wSeq (wSet 1 (Qq Gq (Qe (Qcu (Qal (wBin dIx (wVar 0) (wC (.int 0)))) wAll (wBin Jm (wSlT (wVar 0) (Zo (wC (.int 1))) Ye) (wSlT (wVar 0) Ye (Zo (wC (.int 1))))) []) wNil)))
 (wRet (Jb (wTup (Qe (wVar 1) (Qe (wBin dIx (wVar 0) (wC (.int 1))) (Qe (wBin dIx (wVar 0) (wC (.int 2))) wNil)))))))
theorem Qjx{K:Frag}(B:Bn mg):BO P w K mg base f 0 "mirrored" Yg ["web","crossings"] Qb5 Qb4:=λcdv A outer s H E hr=>
  (Qg (Q4 (i:=1) (Yv Vd B.nb_tuple Ve (Qb (V8 (Ux [] (Gi (Qu (Qt (Qp hr)) (Qa 0) Qd)) (λ_ _ _ _ _=>Qbi) (λ_ _ _ _ _=>(Qy Q0 (Zd (Qa 0) (Jz Qd) J0) (Zd (Qa 0) J0 (Jz Qd))))) (Vc (Qc Yg) ["web","crossings"] (by decide +kernel))) Qj)) Qat.nd)
  (Qn (Yy (Q7 (Gp (Qb (Qa 1) (Qb (Qu (Qt (Qp hr)) (Qa 0) Qd) (Qb (Qu (Qt (Qp hr)) (Qa 0) Qd) Qj))))))))
theorem Qf2{K:Frag}(F:Fun K "mirrored" "mirrored" Yg f fd)(B:Bn mg):FnOk P w K mg base CX0 1 f fd ["web"] (spR K Zy):=by
 refine Uu (T:=Qb5) F Qat rfl (by decide) (λds kk h=>?_) (Qjx B) (λds kk h=>?_)
 ·obtain⟨m,e,A,r,rfl,_⟩:=h;rfl
 ·obtain⟨m,e,A,r,rfl,hm,k⟩:=h;simp only[Qb4,wSeq,wSet,Qq,Qe,env0,webD,Bc,B1,Am,Az,Bk,Nat.reduceAdd,Bt,Bz,B5,wNil,wRet,Jb,wTup,wBin,wC,D.pure,Qm,Fh,Qz,Qay,Qeo,look,Qk,Up,Gw,Bh,Qhj];refine⟨Qhz,Yw mrF (by simp;exact big (by lia)) (λd hd Q' hQ=>?_) ?_⟩
  ·obtain⟨kk,hk,rfl⟩:=Aq.mp hd;simp only[Qqw,blkE,B1,wBin,wSlT,Ye,Qax,wC,Uq,Qz,look,Qk,Qq1,Qm,D.pure,Na,Qzi,true_and,Qzj,Qld,Am,Az,Bk,Nat.reduceAdd,Bz,B5]at hQ ⊢;exact⟨by decide,hQ⟩
  ·simp only[Qwg,Av,Aw,look,Qk,Up,Qgw,B0,Bh,D.pure,Fh,Vf,Qen,Qhz,Ix,true_and];refine⟨by decide,?_⟩;unfold webD at k;rw[Qwf]at k;exact⟨by first|exact Qh (λ_ _=>rfl)|(simp only[Ix];exact Qh λ_ _=>rfl)|(simp only[D.pure];exact Qh λ_ _=>rfl),k⟩
def Zw:GA:=λds k=>∃(C E:List D)(r:Int)(s:Nat),ds=[.tup [.tup C,.tup E,.int r],.int s]/\Qm C=true/\Qm E=true/\s<=E.length/\E.length<=100/\k (.tup [.tup C,.tup (E.drop s++E.take s),.int r])
theorem Qes(h:Qm xs=true)(hs:∀y∈ys,y∈xs):Qm ys=true:=Q5.mpr λy hy=>Q5.mp h y (hs y hy)
abbrev Zs:Stmt:=top 9
theorem Qi5:FnScope ["web","many"] ["web","many"] (Qc Zs):=⟨rfl,rfl,rfl,by decide +kernel,rfl,by decide +kernel,by decide +kernel⟩
def Qec:Tg:={ own:=λi=>false,io:=[] }
noncomputable def Qd2:WS:=(wRet (Jb (wTup (Qe (wBin dIx (wVar 0) (wC (.int 0))) (Qe (wBin Jm (wSlT (wBin dIx (wVar 0) (wC (.int 1))) (Zo (wVar 1)) Ye) (wSlT (wBin dIx (wVar 0) (wC (.int 1))) Ye (Zo (wVar 1)))) (Qe (wBin dIx (wVar 0) (wC (.int 2))) wNil))))))
theorem Qn1{K:Frag}(B:Bn mg):BO P w K mg base f 0 "shifted" Zs ["web","many"] Qec Qd2:=λcdv A outer s H E hr=>
  (Qn (Yy (Q7 (Gp (Qb (Qu (Qt (Qp hr)) (Qa 0) Qd) (Qb (Qy Q0 (Zd (Qu (Qt (Qp hr)) (Qa 0) Qd) (Jz (Qa 1)) J0) (Zd (Qu (Qt (Qp hr)) (Qa 0) Qd) J0 (Jz (Qa 1)))) (Qb (Qu (Qt (Qp hr)) (Qa 0) Qd) Qj)))))))
theorem Qje{K:Frag}(F:Fun K "shifted" "shifted" Zs f fd)(B:Bn mg):FnOk P w K mg base CX0 1 f fd ["web","many"] (spR K Zw):=by
 refine Uu (T:=Qec) F Qi5 rfl (by decide) (λds kk h=>?_) (Qn1 B) (λds kk h=>?_)
 ·obtain⟨C,E,r,s,rfl,_⟩:=h;rfl
 ·obtain⟨C,E,r,s,rfl,hC,hE,hs,hl,k⟩:=h;have hd:Qm (E.drop s)=true:=Qes hE λy hy=>Fa hy;have ht:Qm (E.take s)=true:=Qes hE λy hy=>D3 hy;have ha:Qm (E.drop s++E.take s)=true:=Q5.mpr λy hy=>(Aj.mp hy).elim (Q5.mp hd y) (Q5.mp ht y);simp only[Qd2,wRet,Jb,wTup,Qe,wBin,env0,Bc,B1,Am,Az,Bk,Nat.reduceAdd,Bz,B5,wC,wSlT,Ye,wNil,D.pure,Qm,Fh,Qz,Qax,look,Qk,Up,Qgw,B0,Bh,Uq,Vf,Qq1,hE,Gs,true_and,Gu hs,Qld,hd,ht,ha,Gw,hC];exact⟨by simp;exact Nj (big (by lia)),by decide,k⟩
structure TOk(m n:Nat)(g:Nat->Nat)(T:List (List Key×D)):Prop where
 val:∀i,i<n->valD T (ksP m i)=some (spD m (g i))
 perm:(T.map (·.1)).Perm ((Ai n).map (ksP m))
 bare:Qfd T=true
theorem TOk.mk'(h1:KeysIn m n T)(h2:∀p∈T,p.2.bare=true)(h3:∀i,i<n->valD T (ksP m i)=some (spD m (g i))):TOk m n g T :=
 ⟨h3,h1.perm λi hi=>by rw[h3 i hi];rfl,Qn0.mpr h2⟩
theorem Qdx{κ:Type}[DecidableEq κ]{T:List (κ×D)}{k:κ}{v:D}(h:∀p∈T,p.2.bare=true)(hv:v.bare=true):∀p∈putD T k v,p.2.bare=true:=λp hp=>by
 unfold putD at hp
 split at hp
 ·obtain⟨q,hq,rfl⟩:=Aq.mp hp;split
  ·exact hv
  ·exact h q hq
 ·rcases Aj.mp hp with hp|hp
  ·exact h p hp
  ·rw[Ap.mp hp];exact hv
def Qbd:GA:=λds k=>∃(m e:Nat)(A:Nat->Int)(r:Int)(g:Nat->Nat),ds=[webD m e A r]/\m<=100/\e<=100/\M.Tw (4*m+e) A g/\∀T:List (List Key×D),TOk m (4*m+e) g T->k (.dit T)
abbrev G7:Stmt:=top 11
theorem Qcy:FnScope ["web","told","pair"] ["web"] (Qc G7):=⟨rfl,rfl,rfl,by decide +kernel,rfl,by decide +kernel,by decide +kernel⟩
def Qkt:Tg:={ own:=λi=>i==1,io:=[] }
noncomputable def Qj8:WS:=(wSeq (wSet 1 (wC (.dit [])))
 (wSeq (Qod (Qoc (Qq Jg (Qe (wVar 0) wNil))) 2 (wSeq (Jr 1 (wBin dIx (wVar 2) (wC (.int 1))) (wBin dIx (wVar 2) (wC (.int 0))))
 (Jr 1 (wBin dIx (wVar 2) (wC (.int 0))) (wBin dIx (wVar 2) (wC (.int 1))))))
 (U2 1)))
theorem Qui{K:Frag}(B:Bn mg)(Wc:Cal P w K mg base "places" 1 ["web"] (spR K Jg)):BO P w K mg base f 1 "twins" G7 ["web","told","pair"] Qkt Qj8:=λcdv A outer s H E hr=>
  (Qg (Q4 (i:=1) Qik Qcy.nd)
  (Qg (Qkz (i₀:=2) D5 (Qmp (Q3 Wc (hr.mono (by decide)) (Qb (Qa 0) Qj))) (Qg (Jy (i:=1) (Qp hr) (Qu (Qt (Qp hr)) (Qa 2) Qd) (Qu (Qt (Qp hr)) (Qa 2) Qd))
  (Qn (Jy (i:=1) (Qp hr) (Qu (Qt (Qp hr)) (Qa 2) Qd) (Qu (Qt (Qp hr)) (Qa 2) Qd)))) Qcy.nd)
  (Qn (G6 (i:=1)))))
theorem Qpe{K:Frag}(F:Fun K "twins" "twins" G7 f fd)(B:Bn mg)(C1:Cal P w K mg base "places" 1 ["web"] (spR K Jg)):FnOk P w K mg base CX0 2 f fd ["web"] (spR K Qbd):=by
 refine Uu (T:=Qkt) F Qcy rfl (by decide) (λds kk h=>?_) (Qui B C1) (λds kk h=>?_)
 ·obtain⟨m,e,A,r,g,rfl,_⟩:=h;rfl
 ·obtain ⟨m,e,A,r,g,rfl,hm,he,tw,k⟩:=h;simp only[Qj8,wSeq,wSet,wC,env0,Bc,B1,Am,Az,Bk,Nat.reduceAdd,Bt,Bz,B5,Av,Aw,Qq0,Qqx,Qq,Qe,wNil,Qz,look,Qk];refine⟨m,e,A,r,rfl,hm,he,?_⟩;simp only[Qk7];obtain⟨p1,p2⟩:=M.Qfz tw;refine⟨λt ρ=>∃(T:List (List Key×D)) (o:Option D),ρ=[some (webD m e A r),some (.dit T),o]/\T.length<=2*t/\t<=(M.plc A (4*m+e)).length/\KeysIn m (4*m+e) T/\(∀p∈T,p.2.bare=true)/\∀q∈(M.plc A (4*m+e)).take t,∀i∈q.2,valD T (ksP m i)=some (spD m (g i)),⟨[],none,rfl,Dx _,Dx _,.nil,(λ_ h=>nomatch h),λq hq=>by simp at hq⟩,?_,?_⟩
  ·rintro t d ρ hd ⟨T,o,rfl,hl,ht,hK,hBr,hT⟩;unfold encP at hd;rw[By,Au]at hd;cases hq:(M.plc A (4*m+e))[t]? with
   |none=>rw[hq]at hd;cases hd
   | some q=>
    rw[hq]at hd;have hd:=(Bq hd).symm;subst hd;obtain⟨i,hi,hqi⟩:=p1 q (Du hq);have hlen:=Qa0 A (4*m+e);have htl:=(Be.mp hq).1;have hs:∀n:Nat,n<=2*t+1->n<sizeLine:=λn h=>big (by lia);simp only[wSeq,Jr,wBin,I9,hqi,Bc,spD,B1,Av,Aw,wC,Qz,look,Di,Qk,X0,Vf,B0,Bh,true_and,Gw,D.pure,Qm,Na,Qss,Zb,Rj];refine⟨hs _ (by lia),hs _ (Dy (J1 _ _ _) (by lia)),putD (putD T (ksP m i) (spD m (g i))) (ksP m (g i)) (spD m i),_,rfl,?_,by lia,(hK.put hi _).put (tw.lt i hi) _,Qdx (Qdx hBr rfl) rfl,λq' hq' j hj=>?_⟩
    ·have a1:=J1 T (ksP m i) (spD m (g i));have a2:=J1 (putD T (ksP m i) (spD m (g i))) (ksP m (g i)) (spD m i);lia
    ·rw [U5,U5];by_cases z1:ksP m j=ksP m (g i)
     ·rw[if_pos z1,Qdk z1,tw.inv hi];rfl
     ·rw [if_neg z1];by_cases z2:ksP m j=ksP m i
      ·rw[if_pos z2,Qdk z2];rfl
      ·rw [if_neg z2];rw[Mu,hq]at hq';rcases Aj.mp hq' with h|h
       ·exact hT q' h j hj
       ·have:q'=q:=by simpa using h
        subst this;rw[hqi]at hj;rcases Ar.mp hj with z|hj
        ·exact absurd (by rw[z]) z2
        ·exact absurd (by rw[Ap.mp hj]) z1
  ·rintro ρ ⟨T,o,rfl,hl,ht,hK,hBr,hT⟩;simp only[U2,look,Qk];refine k T (TOk.mk' hK hBr λi hi=>?_);obtain⟨q,hq,hiq⟩:=p2 i hi;exact hT q (by rw[Dc (by unfold encP;simp)];exact hq) i hiq
def nxD(e m i:Nat):D:=.tup [.int (M.nxt e (M.sp m i)).1,.int (M.nxt e (M.sp m i)).2]
def Jl:GA:=λds k=>∃(m e i:Nat)(A:Nat->Int)(r:Int),ds=[webD m e A r,spD m i]/\i<4*m+e/\e<=100/\k (nxD e m i)
abbrev Jj:Stmt:=top 12
theorem Qau:FnScope ["web","place"] ["web","place"] (Qc Jj):=⟨rfl,rfl,rfl,by decide +kernel,rfl,by decide +kernel,by decide +kernel⟩
def Uf:Tg:={ own:=λi=>false,io:=[] }
noncomputable def Uc:WS:=(wSeq (wIf (wBl (wBin dEq (wBin dIx (wVar 1) (wC (.int 0))) (wC (.int (-1))))) (wRet (wTup (Qe (wC (.int (-1))) (Qe (wBin dMod (wBin dAdd (wBin dIx (wVar 1) (wC (.int 1))) (wC (.int 1))) (Qq dLen (Qe (wBin dIx (wVar 0) (wC (.int 1))) wNil))) wNil)))) Z2)
 (wRet (Jb (wTup (Qe (wBin dIx (wVar 1) (wC (.int 0))) (Qe (wBin dMod (wBin dSub (wBin dIx (wVar 1) (wC (.int 1))) (wC (.int 1))) (wC (.int 4))) wNil))))))
theorem Qb0{K:Frag}(B:Bn mg):BO P w K mg base f 0 "dart_next_to" Jj ["web","place"] Uf Uc:=λcdv A outer s H E hr=>
  (Qg (Xz (Yo (Ql5 hr.units) (Qu (Qt (Qp hr)) (Qa 1) Qd) (Qdq B.c_RIM.choose_spec)) (Qn (Yy (Gp (Qb (Qdq B.c_RIM.choose_spec) (Qb (Qy Zk (Qy Qq6 (Qu (Qt (Qp hr)) (Qa 1) Qd) Qd) (Jq Um B.nb_len Uo (Qb (Qu (Qt (Qp hr)) (Qa 0) Qd) Qj))) Qj))))) Z3)
  (Qn (Yy (Q7 (Gp (Qb (Qu (Qt (Qp hr)) (Qa 1) Qd) (Qb (Qy Zk (Qy Qca (Qu (Qt (Qp hr)) (Qa 1) Qd) Qd) Qd) Qj)))))))
theorem Qa3{K:Frag}(F:Fun K "dart_next_to" "dart_next_to" Jj f fd)(B:Bn mg):FnOk P w K mg base CX0 1 f fd ["web","place"] (spR K Jl):=by
 refine Uu (T:=Uf) F Qau rfl (by decide) (λds kk h=>?_) (Qb0 B) (λds kk h=>?_)
 ·obtain⟨m,e,i,A,r,rfl,_⟩:=h;rfl
 ·obtain ⟨m,e,i,A,r,rfl,hi,he,k⟩:=h;simp only[Uc,wSeq,wIf,Int.reduceNeg,env0,webD,spD,Bc,B1,Am,Az,Bk,Nat.reduceAdd,Bz,B5,wRet,wTup,Qe,wC,wBin,Qq,wNil,Qz,Z2,Jb,D.pure,Qm,Fh,r_bl,look,Qk,Up,Vf,B0,Bh,Qhm,Qyj,Qfw,Int.reduceLT,Uk,Gw,true_and,Qoo,Zu];split
  ·rename_i h;have h:(M.sp m i).1 = -1:=by simpa using h
   have he0:0<e:=by
    unfold M.sp at h
    split at h
    ·simp at h;lia
    ·lia
   have he1:(0:Int)<((Ai e).map λj=>D.int (A (4*m+j))).length:=by simp;lia
   simp only[Int.reduceNeg,he1,Uk];refine⟨by decide,?_⟩;simpa[nxD,M.nxt,h]using k
  ·rename_i h;have h:¬(M.sp m i).1 = -1:=by simpa using h
   refine⟨by decide,?_⟩;simpa[nxD,M.nxt,h]using k
theorem TOk.ix(h:TOk m n g T)(hi:i<n)(hk:k (spD m (g i))):dIx (.dit T) (spD m i) k:=by
 unfold spD;simp only[Qvc,Qmi,Qk];exact Qtn (h.val i hi) hk
theorem Qq8(h:g i<4*m+e):nxD e m (g i)=spD m (M.fx m e g i):=by
 unfold nxD spD M.fx;rw[M.Qyb h]
theorem Qnd:eqOk (n+2) (spD m i)=true:=by simp only[spD,eqOk,Qbh,Na]
theorem Qyx{a:Nat}(h1:a=b->k (.bl false))(h2:a≠b->k (.bl true)):dNe (spD m a) (spD m b) k:=by
 show dNe (.tup _) _ k;rw[Qyd];exact⟨Qnd (n:=7),Qnd (n:=7),λh=>h1 (Qsf h),λh=>h2 λz=>h (by rw[z];rfl)⟩
noncomputable def Va:GA:=λds k=>∃(m e i:Nat)(A:Nat->Int)(r:Int)(g:Nat->Nat)(T:List (List Key×D)),ds=[webD m e A r,.dit T,spD m i]/\i<4*m+e/\m<=40/\e<=12/\M.Tw (4*m+e) A g/\TOk m (4*m+e) g T/\k (.lst ((Orb.orb (4*m+e) (M.fx m e g) i).map (spD m)))
abbrev Yh:Stmt:=top 14
theorem Zi:FnScope ["web","others","dart","face","after"] ["web","others","dart"] (Qc Yh):=⟨rfl,rfl,rfl,by decide +kernel,rfl,by decide +kernel,by decide +kernel⟩
def Qao:Tg:={ own:=λi=>i==3||i==4,io:=[] }
noncomputable def Qaj:WS:=(wSeq (wSet 3 (wLst (Qe (Jb (wVar 2)) wNil)))
 (wSeq (wSet 4 (Qq Jl (Qe (wVar 0) (Qe (wBin dIx (wVar 1) (wVar 2)) wNil))))
 (wSeq (Qkb (wBl (wBin dNe (wVar 4) (wVar 2))) (wSeq (G4 (wMt 3 "list" Qdp (Qe (Jb (wVar 4)) wNil)))
 (wSet 4 (Qq Jl (Qe (wVar 0) (Qe (wBin dIx (wVar 1) (wVar 4)) wNil))))))
 (U2 3))))
theorem Qgs{K:Frag}(B:Bn mg)(Wo:Cal P w K mg base "dart_next_to" 1 ["web","place"] (spR K Jl)):BO P w K mg base f 1 "face_from" Yh ["web","others","dart","face","after"] Qao Qaj:=λcdv A outer s H E hr=>
  (Qg (Q4 (i:=3) (Yz (Qb (Q7 (Qa 2)) Qj)) Zi.nd)
  (Qg (Q4 (i:=4) (Q3 Wo (hr.mono (by decide)) (Qb (Qa 0) (Qb (Qu (Qt (Qp hr)) (Qa 1) (Qa 2)) Qj))) Zi.nd)
  (Qg (Qhc D5 (Yo (Qtp hr.units) (Qa 4) (Qa 2)) (Qg (Qaq (Qxg (i:=3) Qey Mm M7 M8 (Qb (Q7 (Qa 4)) Qj)))
  (Qn (Q4 (i:=4) (Q3 Wo (hr.mono (by decide)) (Qb (Qa 0) (Qb (Qu (Qt (Qp hr)) (Qa 1) (Qa 4)) Qj))) Zi.nd))))
  (Qn (G6 (i:=3))))))
theorem Qew{K:Frag}(F:Fun K "face_from" "face_from" Yh f fd)(B:Bn mg)(Wo:Cal P w K mg base "dart_next_to" 1 ["web","place"] (spR K Jl)):FnOk P w K mg base CX0 2 f fd ["web","others","dart"] (spR K Va):=by
 refine Uu (T:=Qao) F Zi rfl (by decide) (λds kk h=>?_) (Qgs B Wo) (λds kk h=>?_)
 ·obtain⟨m,e,i,A,r,g,T,rfl,_⟩:=h;rfl
 ·obtain ⟨m,e,i,A,r,g,T,rfl,hi,hm,he,tw,hT,k⟩:=h;have hj:=M.Qm1 tw;obtain⟨p1,p2,p3,p4⟩:=hj.per hi;simp only[Qaj,wSeq,wSet,wLst,Qe,Jb,env0,Bc,B1,Am,Az,Bk,Nat.reduceAdd,Bt,Bz,B5,wNil,Qq,wBin,Qz,look,Av,Aw,Qk];refine⟨rfl,by decide,hT.ix hi ?_⟩;refine⟨m,e,g i,A,r,rfl,tw.lt i hi,by lia,?_⟩;rw[Qq8 (tw.lt i hi)];simp only[];refine⟨λn ρ=>∃t,1<=t/\t<=Orb.per (4*m+e) (M.fx m e g) i/\n=Orb.per (4*m+e) (M.fx m e g) i-t/\ρ=[some (webD m e A r),some (.dit T),some (spD m i),some (.lst ((Orb.arc (M.fx m e g) i t).map (spD m))),some (spD m (Orb.it (M.fx m e g) t i))],⟨_,1,At _,p1,rfl,rfl⟩,?_⟩;rintro n ρ ⟨t,t1,t2,rfl,rfl⟩;simp only[wSeq,G4,wMt,Qe,Jb,wNil,wSet,Qq,wBin,Qz,U2,r_bl,look,Qsq,BEq.rfl,Av,Aw,Qk,Qvg,true_and];refine Qyx (λh=>?_) (λh=>?_)
  ·-- it has come back
   have:t=Orb.per (4*m+e) (M.fx m e g) i:=by
    by_cases ht:t<Orb.per (4*m+e) (M.fx m e g) i
    ·exact absurd h (p4 t t1 ht)
    ·lia
   subst this;simp only[Zu,Bj,reduceIte];exact k
  ·have ht:t<Orb.per (4*m+e) (M.fx m e g) i:=by
    by_cases ht:t<Orb.per (4*m+e) (M.fx m e g) i
    ·exact ht
    ·exact absurd (by rw[show t=Orb.per (4*m+e) (M.fx m e g) i by lia];exact p3) h
   have hlt:=hj.itlt t hi;simp only[Zu,reduceIte];refine⟨rfl,by rw[Ao,Orb.Xf];exact big (by lia),hT.ix hlt ?_⟩;refine⟨m,e,_,A,r,rfl,tw.lt _ hlt,by lia,_,?_,t+1,by lia,ht,rfl,?_⟩
   ·lia
   ·rw[Qq8 (tw.lt _ hlt),Orb.Qqh,Mi];rfl
abbrev Qpz(m:Nat)(l:List Nat):D:=.lst (l.map (spD m))
theorem Qqd:(webD m e A r).bare=true:=by
 simp only[webD,D.bare,Ub,Fh,B4];refine⟨Zf.mpr λx hx=>?_,Zf.mpr λx hx=>?_⟩
 ·obtain⟨k,_,rfl⟩:=Aq.mp hx;simp only[D.bare];refine Zf.mpr λx hx=>?_;obtain⟨j,_,rfl⟩:=Aq.mp hx;rfl
 ·obtain⟨j,_,rfl⟩:=Aq.mp hx;rfl
noncomputable def Go:GA:=λds k=>∃(m e i:Nat)(A:Nat->Int)(r:Int)(g:Nat->Nat)(T:List (List Key×D)),ds=[spD m i,webD m e A r,.dit T]/\i<4*m+e/\m<=40/\e<=12/\M.Tw (4*m+e) A g/\TOk m (4*m+e) g T/\k (Qpz m (Orb.orb (4*m+e) (M.fx m e g) i))
theorem Qmh{K:Frag}(B:Bn mg)(WK:Cal P w K mg base "face_from" 2 ["web","others","dart"] (spR K Va)):X4 P w K mg base 3 J2 (spR K Go):=by
 refine Qws (p:="dart") (m:=false) (wb:=Qq Va (Qe (wVar 1) (Qe (wVar 2) (Qe (wVar 0) wNil)))) ⟨rfl,rfl,rfl,by decide +kernel,rfl,by decide +kernel,by decide +kernel,by decide +kernel⟩ (λcl pm cdv ct u=>rfl) (λds kk h=>?_) (λA outer s H f cd cl hr=>?_) (λds kk h=>?_)
 ·obtain⟨m,e,i,A,r,g,T,rfl,_,_,_,_,hT,_⟩:=h;exact⟨by simp only[Ub,D.bare,spD,hT.bare,Qqd,Na],rfl⟩
 ·exact(Q3 WK (hr.mono (by decide)) (Qb (Qa 1) (Qb (Qa 2) (Qb (Qa 0) Qj))))
 ·obtain⟨m,e,i,A,r,g,T,rfl,hi,hm,he,tw,hT,k⟩:=h;simp only[Qq,Qe,Bc,B1,wNil,Qz,look,Qk];exact⟨m,e,i,A,r,g,T,rfl,hi,hm,he,tw,hT,k⟩
theorem Qme{m:Nat}:∀(l:List Nat)(S:List (List Key×D)),(S.all λkv=>kv.2.pure)=true->∃S',Vj (.dit S) (l.map (spD m))=some (.dit S')/\S'.length<=S.length+l.length/\(S'.all λkv=>kv.2.pure)=true/\∀j,(valD S' (ksP m j)).isSome=((valD S (ksP m j)).isSome||l.contains j)
 | [],S,h=>⟨S,rfl,At _,h,λj=>by simp⟩
 | i::l,S,h=>by
  obtain⟨S',h1,h2,h3,h4⟩:=Qme l (putD S (ksP m i) (.bl true)) (Qc2 h rfl);refine⟨S',?_,?_,h3,λj=>?_⟩
  ·show(mk1 (.dit S) (spD m i)).bind (λd'=>Vj d' (l.map (spD m)))=_;exact h1
  ·have:=J1 S (ksP m i) (.bl true);simp only[Am];lia
  ·rw[h4 j,U5];by_cases hj:ksP m j=ksP m i
   ·have:=Qdk hj;subst this;rw[if_pos rfl];simp
   ·rw[if_neg hj];have:¬j=i:=λz=>hj (by rw[z]);simp[this]
theorem Qy2{b:Bool}{S:List (List Key×D)}:dIn b (spD m i) (.dit S) k=k (.bl (xor b (valD S (ksP m i)).isSome)):=rfl
noncomputable def Gm:GA:=λds k=>∃(m e:Nat)(A:Nat->Int)(r:Int)(g:Nat->Nat)(T:List (List Key×D)),ds=[.dit T,.clo J2 [webD m e A r,.dit T]]/\m<=40/\e<=12/\e%2=0/\M.Tw (4*m+e) A g/\TOk m (4*m+e) g T/\k (.lst ((Orb.X3 (4*m+e) (M.fx m e g) (M.L0 m e)).map (Qpz m)))
abbrev V2:Stmt:=top 13
theorem Zr:FnScope ["members","group_from","seen","groups","member","group","reached"] ["members","group_from"] (Qc V2):=⟨rfl,rfl,rfl,by decide +kernel,rfl,by decide +kernel,by decide +kernel⟩
def Qhb:Tg:={ own:=λi=>i==2||i==3||i==4||i==5||i==6,io:=[] }
noncomputable def Qg4:WS:=(wSeq (wSet 2 (wC (.dit [])))
 (wSeq (wSet 3 (wLst wNil))
 (wSeq (wFor (Qal (Qq Qgn (Qe (wVar 0) wNil))) (gN 4) (wIf (wBl (wBin (dIn true) (wVar 4) (wVar 2))) (wSeq (wSet 5 (Qd6 1 J2 Go (Jb (wVar 4))))
 (wSeq (Qkg 2 5 6)
 (Qd7 3 5))) Z2))
 (U2 3))))
theorem Qqg{K:Frag}(B:Bn mg)(Wh:X4 P w K mg base 3 J2 (spR K Go)):BO P w K mg base f 3 "parted" V2 ["members","group_from","seen","groups","member","group","reached"] Qhb Qg4:=λcdv A outer s H E hr=>
  (Qg (Q4 (i:=2) Qik Zr.nd)
  (Qg (Q4 (i:=3) (Yz Qj) Zr.nd)
  (Qg (Ui D5 (Gi (Jq (Qns rfl) B.nb_sorted Qbl (Qb (Qa 0) Qj))) (Yd (i:=4) Zr.nd) (Qn (Xz (Yo (Ql3 (Qp hr)) (Qa 4) (Qa 2)) (Qg (Q4 (i:=5) (Qcl (i:=1) (L:=J2) Wh (hr.mono (by decide)) (Q7 (Qa 4))) Zr.nd)
  (Qg (Qky (s:=2) (j:=5) (t:=6) (Qp hr) D5 Zr.nd)
  (Qn (Qhd (i:=3) (j:=5))))) Z3)))
  (Qn (G6 (i:=3))))))
theorem Ql1{K:Frag}(F:Fun K "parted" "parted" V2 f fd)(B:Bn mg)(Wh:X4 P w K mg base 3 J2 (spR K Go)):FnOk P w K mg base CX0 4 f fd ["members","group_from"] (spR K Gm):=by
 refine Uu (T:=Qhb) F Zr rfl (by decide) (λds kk h=>?_) (Qqg B Wh) (λds kk h=>?_)
 ·obtain⟨m,e,A,r,g,T,rfl,_⟩:=h;rfl
 ·obtain ⟨m,e,A,r,g,T,rfl,hm,he,he2,tw,hT,k⟩:=h;have hj:=M.Qm1 tw;simp only[Qg4,wSeq,wSet,wC,wLst,wNil,Az,env0,Bc,B1,Am,Bk,Nat.reduceAdd,Bt,Bz,B5,Av,Aw,Qbs,Qeo,Qq,Qe,Qz,look,Qk];refine⟨Dx _,Qfr (m:=m) (e:=e) (by lia) (by lia) he2 hT.perm ?_⟩;simp only[Qhk];refine⟨Qhq,λt ρ=>∃(S:List (List Key×D)) (sn:List Nat) (G:List (List Nat)) (o4 o6:Option D),ρ=[some (.dit T),some (.clo J2 [webD m e A r,.dit T]),some (.dit S),some (.lst (G.map (Qpz m))),o4,none,o6]/\t<=4*m+e/\G.length<=t/\S.length<=t*(4*m+e)/\(S.all λkv=>kv.2.pure)=true/\(∀j,(valD S (ksP m j)).isSome=sn.contains j) /\
   G++Orb.X3 (4*m+e) (M.fx m e g) (((M.L0 m e).drop t).filter λx=>!sn.contains x)=Orb.X3 (4*m+e) (M.fx m e g) (M.L0 m e),⟨[],[],[],none,none,rfl,Dx _,Dx _,Dx _,rfl,λj=>rfl,by rw[List.drop_zero,B5,show((M.L0 m e).filter λx=>!([]:List Nat).contains x)=M.L0 m e from List.filter_eq_self.mpr λx _=>rfl]⟩,?_,?_⟩
  ·rintro t d ρ hd ⟨S,sn,G,o4,o6,rfl,ht,hG,hS,hpu,hsn,hf⟩;have htl:t<4*m+e:=by have:=(Be.mp hd).1;rw[Ao,M.Qiz]at this;exact this
   have htL:t<(M.L0 m e).length:=by rw[M.Qiz];exact htl
   rw[Au,Bo htL]at hd;have hd:=(Bq hd).symm;subst hd;have hi:(M.L0 m e)[t] < 4*m+e:=M.Qrq.mp (Sh htL);rw[Rq htL]at hf;generalize(M.L0 m e)[t]=i at hi hf;simp only[gN,wIf,Av,Aw,wSeq,wSet,Qd6,Jb,Qkg,lsOf,Dw,Qd7,Qz,Z2,r_bl,wBin,look,Am,Az,Bk,Nat.reduceAdd,Ih,Qk,true_and,Qyg];rw[Qy2,hsn i];obtain⟨p1,p2,_,_⟩:=hj.per hi;have hol:(Orb.orb (4*m+e) (M.fx m e g) i).length<=4*m+e:=by unfold Orb.orb;rw[Orb.Xf];exact p2
   have hmul:(t+1)*(4*m+e)=t*(4*m+e)+(4*m+e):=Tr _ _;have hsz:t*(4*m+e)<=172*172:=Nat.mul_le_mul (by lia) (by lia);cases hc:sn.contains i with
   | true=>
    simp only[Ly,N5,Zu,Bj,reduceIte];refine⟨S,sn,G,_,_,rfl,htl,by lia,by lia,hpu,hsn,?_⟩;rw[← hf,Mo (by simpa using hc)]
   | false=>
    simp only[Li,Zu,reduceIte];refine⟨rfl,m,e,i,A,r,g,T,rfl,hi,hm,he,tw,hT,?_⟩;obtain⟨S',h1,h2,h3,h4⟩:=Qme (m:=m) (Orb.orb (4*m+e) (M.fx m e g) i) S hpu;have hne:(Orb.orb (4*m+e) (M.fx m e g) i).map (spD m)≠[]:=λz=>by
     have z2:=congrArg Rb z;unfold Orb.orb at z2;rw[Ao,Orb.Xf]at z2;simp at z2;lia
    show Qm _=true/\_;refine⟨Qhq,hpu,?_,?_⟩
    ·show S.length+_<sizeLine;rw[Ao];exact Rf (show _<=172*172+172 by lia) (by decide)
    ·rw [h1,T8 hne];simp only[Qk];refine⟨by rw[Ao];exact big (by lia),S',sn++Orb.orb (4*m+e) (M.fx m e g) i,G++[Orb.orb (4*m+e) (M.fx m e g) i],_,_,by rw[Mi];rfl,htl,by rw[Bx];simp;lia,by lia,h3,λj=>by rw[h4 j,hsn j];simp[Kv,List.any_append],?_⟩;rw[← hf,Mn (by simpa using hc),Orb.Qci,List.filter_filter,Bm];have hfil:(λx=>!(sn++Orb.orb (4*m+e) (M.fx m e g) i).contains x)=λa=>!(Orb.orb (4*m+e) (M.fx m e g) i).contains a && !sn.contains a:=by
      funext x;simp[Kv,List.any_append,Bool.and_comm]
     rw[hfil];rfl
  ·rintro ρ ⟨S,sn,G,o4,o6,rfl,ht,hG,hS,hpu,hsn,hf⟩;have hl:((M.L0 m e).map (spD m)).length=4*m+e:=by rw[Ao,M.Qiz]
   rw[hl,R7 (by rw[M.Qiz];exact At _),List.filter_nil,Orb.Qm6,D6]at hf;simp only[U2,look,Qk];rw[hf];exact k
def Qbe:GA:=λds k=>∃(m e:Nat)(A:Nat->Int)(r:Int)(g:Nat->Nat),ds=[webD m e A r]/\m<=40/\e<=12/\e%2=0/\M.Tw (4*m+e) A g/\k (.lst ((Orb.X3 (4*m+e) (M.fx m e g) (M.L0 m e)).map (Qpz m)))
abbrev Z4:Stmt:=top 15
theorem Qhh:FnScope ["web","others"] ["web"] (Qc Z4):=⟨rfl,rfl,rfl,by decide +kernel,rfl,by decide +kernel,by decide +kernel⟩
def Qkv:Tg:={ own:=λi=>i==1,io:=[] }
def Qka:WS:=(wSeq (wSet 1 (Qq Qbd (Qe (wVar 0) wNil)))
 (wRet (Qd5 Gm J2 [0,1] (wVar 1))))
theorem Quk{K:Frag}{TB:List (Addr×Array Value)}(B:Bn mg)(hB:Vx mg base)(Wt:Cal P w K mg base "twins" 2 ["web"] (spR K Qbd))(We:Cal P w K mg base "parted" 4 ["members","group_from"] (spR K Gm))(Wy:fd.code=.ref Wg)(WB:M9 K Wg Wb=true)(Wj:(Wb,tgOf Qab J2.qual)∈TB):BT P w K mg base f fd TB 4 "faces" Z4 ["web","others"] Qkv Qka:=λcdv A outer s H E hr hT hcv=>
  (Qg (Q4 (i:=1) (Q3 Wt (hr.mono (by decide)) (Qb (Qa 0) Qj)) Qhh.nd)
  (Qn (Yy (Qck (ix:=[0,1]) (L:=J2) (clos:=[("web",s.heap.objs.size+1),("others",s.heap.objs.size+1+1)]) We (hr.mono (by decide)) (Qa 1) (Qq5 (L:=J2) (P:=Wb) (c:=Wg) (hcv.symm.trans Wy) WB (hT _ Wj) hB) (Qdv rfl rfl rfl rfl (Qdv rfl rfl rfl rfl Qnt)) rfl (by simp)))))
theorem Qpg{K:Frag}{TB:List (Addr×Array Value)}(F:Fun K "faces" "faces" Z4 f fd)(B:Bn mg)(hB:Vx mg base)(Wt:Cal P w K mg base "twins" 2 ["web"] (spR K Qbd))(We:Cal P w K mg base "parted" 4 ["members","group_from"] (spR K Gm))(Wy:fd.code=.ref Wg)(WB:M9 K Wg Wb=true)(Wj:(Wb,tgOf Qab J2.qual)∈TB):FnOk P w K mg base CX0 5 f fd ["web"] (spT TB (spR K Qbe)):=by
 refine Qe5 (T:=Qkv) F Qhh rfl (by decide) (λds kk h=>?_) (Quk B hB Wt We Wy WB Wj) (λds kk h=>?_)
 ·obtain⟨m,e,A,r,g,rfl,_⟩:=h;rfl
 ·obtain⟨m,e,A,r,g,rfl,hm,he,he2,tw,k⟩:=h;simp only[Qka,wSeq,wSet,Qq,Qe,env0,Bc,B1,Am,Az,Bk,Nat.reduceAdd,Bt,Bz,B5,wNil,wRet,Qd5,Qgp,Qz,look,Av,Aw,Qk];refine⟨m,e,A,r,g,rfl,by lia,by lia,tw,λT hT=>?_⟩;simp only[];refine⟨m,e,A,r,g,T,rfl,hm,he,he2,tw,hT,?_,k⟩;simp only[D.bare];refine Zf.mpr λx hx=>?_;obtain⟨l,_,rfl⟩:=Aq.mp hx;simp only[D.bare];refine Zf.mpr λx hx=>?_;obtain⟨j,_,rfl⟩:=Aq.mp hx;rfl
def Vs(m e:Nat):List Int:=(if e=0 then []else [-1])++(Ai m).map λ(k:Nat)=>(k:Int)
def Ks(m e:Nat):List Int:=((Ai m).map λ(k:Nat)=>(k:Int))++if e=0 then []else [-1]
def Ed(m e:Nat)(g:Nat->Nat)(x y:Int):Prop:=∃i,i<4*m+e/\(M.sp m i).1=x/\(M.sp m (g i)).1=y
theorem Qdj(m e:Nat):(Vs m e).Perm (Ks m e):=Mc
theorem Qwi:x∈Vs m e↔(x = -1/\e≠0)\/∃k:Nat,k<m/\x=(k:Int):=by
 unfold Vs;rw[Aj,Aq];constructor
 ·rintro(h|⟨k,h,rfl⟩)
  ·split at h
   ·cases h
   ·exact .inl ⟨Ap.mp h,by assumption⟩
  ·exact .inr ⟨k,Ay.mp h,rfl⟩
 ·rintro(⟨rfl,h⟩|⟨k,h,rfl⟩)
  ·exact .inl (by rw[if_neg h];exact Ap.mpr rfl)
  ·exact .inr ⟨k,Ay.mpr h,rfl⟩
theorem Qol(hi:i<4*m+e):(M.sp m i).1∈Vs m e:=by
 rw[Qwi];unfold M.sp;split
 ·exact .inr ⟨i/4,by lia,rfl⟩
 ·exact .inl ⟨rfl,by lia⟩
theorem Qr5(m e:Nat):(Vs m e).Pairwise (· < ·):=by
 unfold Vs;refine B6.mpr ⟨by split<;>simp,?_,λa ha b hb=>?_⟩
 ·rw[Dl];exact Fu.imp λh=>by lia
 ·obtain⟨k,_,rfl⟩:=Aq.mp hb
  split at ha
  ·cases ha
  ·rw[Ap.mp ha];lia
theorem Qql(m e:Nat):(Vs m e).length<=m+1:=by
 unfold Vs;rw[Bx,Ao,Db]
 split<;>simp<;>lia
theorem gr(tw:M.Tw (4*m+e) A g):Hang.Gr (Ed m e g) (Vs m e):=by
 refine⟨Qr5 m e,?_,?_⟩
 ·rintro x y ⟨i,hi,rfl,rfl⟩;exact⟨g i,tw.lt i hi,rfl,by rw[tw.inv hi]⟩
 ·rintro x y ⟨i,hi,rfl,rfl⟩;exact Qol hi
abbrev liI(l:List Int):D:=.lst (l.map .int)
theorem Qor{κ:Type}[DecidableEq κ]{T:List (κ×D)}{k:κ}{v:D}(h:(valD T k).isSome=true):(putD T k v).map (·.1)=T.map (·.1):=by
 unfold putD;rw[Zn,if_pos h,By];refine B8 λp _=>?_;show(if p.1=k then (p.1,v)else p).1=p.1
 split<;>rfl
theorem Qbm:∀{T:List (Key×D)},Qbn T=true↔∀p∈T,p.2.bare=true
 | []=>by simp[Qbn]
 | (k,d)::T=>by simp only[Qbn,B4,Qbm (T:=T),Ar,forall_eq_or_imp]
theorem Qfc(l:List Int):(liI l).bare=true:=by
 simp only[D.bare];refine Zf.mpr λx hx=>?_;obtain⟨i,_,rfl⟩:=Aq.mp hx;rfl
structure NbI(m e:Nat)(g:Nat->Nat)(T:List (Key×D))(L:List Nat):Prop where
 keys:T.map (·.1)=(Ks m e).map Nh
 val:∀v∈Vs m e,∃l:List Int,valD T (.inl v)=some (liI l)/\l.length<=L.length/\∀x,x∈l↔∃i∈L,(M.sp m i).1=v/\(M.sp m (g i)).1=x
 bare:∀p∈T,p.2.bare=true
theorem NbI.put{T:List (Key×D)}{L:List Nat}(h:NbI m e g T L)(hi:i<4*m+e){l:List Int}(hl:valD T (.inl (M.sp m i).1)=some (liI l)) :
  NbI m e g (putD T (.inl (M.sp m i).1) (.lst (l.map D.int++[.int (M.sp m (g i)).1]))) (L++[i]):=by
 have e0:D.lst (l.map D.int++[.int (M.sp m (g i)).1])=liI (l++[(M.sp m (g i)).1]):=by simp[liI]
 rw [e0];obtain⟨l',h1,h2,h3⟩:=h.val _ (Qol hi);have:l=l':=by
  rw [hl]at h1;have:=Bq h1;injection this with this;have inj:∀{a b:List Int},a.map D.int=b.map D.int->a=b:=by
   intro a
   induction a with
   |nil=>intro b z;cases b with|nil=>rfl|cons _ _=>cases z
   |cons x a ih=>intro b z;cases b with|nil=>cases z|cons y b=>simp only[Bc,List.cons.injEq,D.int.injEq]at z;rw[z.1,ih z.2]
  exact inj this
 subst this;refine⟨by rw[Qor (by rw[hl];rfl)];exact h.keys,λv hv=>?_,Qdx h.bare (Qfc _)⟩;rw[U5];by_cases z:v=(M.sp m i).1
 ·subst z;rw[if_pos rfl];refine⟨_,rfl,by simp;lia,λx=>?_⟩;rw[Aj,h3 x,Ap];constructor
  ·rintro(⟨j,a,b⟩|rfl)
   ·exact⟨j,Aj.mpr (.inl a),b⟩
   ·exact⟨i,Aj.mpr (.inr (Ap.mpr rfl)),rfl,rfl⟩
  ·rintro⟨j,a,b,c⟩;rcases Aj.mp a with a|a
   ·exact .inl ⟨j,a,b,c⟩
   ·rw[Ap.mp a]at c;exact .inr c.symm
 ·rw [if_neg λq=>z (by injection q)];obtain⟨l2,a1,a2,a3⟩:=h.val v hv;refine⟨l2,a1,by simp;lia,λx=>?_⟩;rw[a3 x];constructor
  ·rintro⟨j,a,b⟩;exact⟨j,Aj.mpr (.inl a),b⟩
  ·rintro⟨j,a,b,c⟩;rcases Aj.mp a with a|a
   ·exact⟨j,a,b,c⟩
   ·rw[Ap.mp a]at b;exact absurd b.symm z
structure NbOk(m e:Nat)(g:Nat->Nat)(T:List (Key×D)):Prop where
 keys:T.map (·.1)=(Ks m e).map Nh
 val:∀v∈Vs m e,∃l:List Int,valD T (.inl v)=some (liI l)/\l.length<=400/\∀x,x∈l↔Ed m e g v x
 bare:Qbn T=true
def ini(L:List Int):List (Key×D):=L.map λv=>((.inl v:Key),D.lst [])
theorem Qgj{v:Int}:∀{L:List Int},valD (ini L) (.inl v)=if v∈L then some (D.lst [])else none
 | []=>rfl
 | u::L=>by
  show valD (((.inl u:Key),D.lst [])::ini L) (.inl v)=_;rw[Ja];by_cases h:u=v
  ·rw[if_pos (by rw[h]),if_pos (by rw[h];exact Ak)]
  ·rw[if_neg λz=>h (by injection z),Qgj];have:v∈u::L↔v∈L:=by rw[Ar];exact⟨λq=>q.resolve_left λz=>h z.symm,.inr⟩
   simp only[this]
theorem Qmu(h:v∉L):putD (ini L) (.inl v) (.lst [])=ini (L++[v]):=by
 rw[Qc3 _ (by rw[Qgj,if_neg h])];simp[ini]
theorem Qdm:(ini L).map (·.1)=L.map Nh:=by unfold ini;rw[By];rfl
theorem Gj(h:L.Nodup):(L.map (Nh:Int->Key)).Nodup:=Dl.mpr (h.imp λh z=>h (by injection z))
theorem Qib(m e:Nat):(Ks m e).Nodup:=(Qdj m e).nodup_iff.mp (Hang.Qh4 (Qr5 m e))
theorem Qw5:NbI m e g (ini (Ks m e)) []:=by
 refine⟨Qdm,λv hv=>⟨[],?_,At _,λx=>by simp⟩,λp hp=>?_⟩
 ·rw[Qgj,if_pos ((Qdj m e).mem_iff.mp hv)];rfl
 ·obtain⟨v,_,rfl⟩:=Aq.mp hp;rfl
def Ys:GA:=λds k=>∃(m e:Nat)(A:Nat->Int)(r:Int)(g:Nat->Nat),ds=[webD m e A r]/\m<=40/\e<=12/\M.Tw (4*m+e) A g/\∀T:List (Key×D),NbOk m e g T->k (.dik T)
abbrev J4:Stmt:=top 16
theorem Y1:FnScope ["web","told","k","pair"] ["web"] (Qc J4):=⟨rfl,rfl,rfl,by decide +kernel,rfl,by decide +kernel,by decide +kernel⟩
def Xm:Tg:={ own:=λi=>i==1||i==2,io:=[] }
noncomputable def Xh:WS:=(wSeq (wSet 1 (wC (.dik [])))
 (wSeq (wFor (Qr3 (Qe (Qq dLen (Qe (wBin dIx (wVar 0) (wC (.int 0))) wNil)) wNil)) (gN 2) (Qkc 1 (wLst wNil) (wVar 2)))
 (wSeq (wIf (wTru (wBin dIx (wVar 0) (wC (.int 1)))) (Qkc 1 (wLst wNil) (wC (.int (-1)))) Z2)
 (wSeq (Qod (Qoc (Qq Jg (Qe (wVar 0) wNil))) 3 (wSeq (wDka 1 (wBin dIx (wBin dIx (wVar 3) (wC (.int 0))) (wC (.int 0))) (wBin dIx (wBin dIx (wVar 3) (wC (.int 1))) (wC (.int 0))))
 (wDka 1 (wBin dIx (wBin dIx (wVar 3) (wC (.int 1))) (wC (.int 0))) (wBin dIx (wBin dIx (wVar 3) (wC (.int 0))) (wC (.int 0))))))
 (U2 1)))))
theorem Qff{K:Frag}(B:Bn mg)(Wc:Cal P w K mg base "places" 1 ["web"] (spR K Jg)):BO P w K mg base f 1 "neighbours" J4 ["web","told","k","pair"] Xm Xh:=λcdv A outer s H E hr=>
  (Qg (Q4 (i:=1) Qag Y1.nd)
  (Qg (Ui D5 (Qmq B.nb_range (Qb (Jq Um B.nb_len Uo (Qb (Qu (Qt (Qp hr)) (Qa 0) Qd) Qj)) Qj)) (Yd (i:=2) Y1.nd) (Qn (Qkx (i:=1) (Qp hr) (Yz Qj) (Qa 2))))
  (Qg (Xz (Qkn (Qu (Qt (Qp hr)) (Qa 0) Qd)) (Qn (Qkx (i:=1) (Qp hr) (Yz Qj) (Qdq B.c_RIM.choose_spec))) Z3)
  (Qg (Qkz (i₀:=3) D5 (Qmp (Q3 Wc (hr.mono (by decide)) (Qb (Qa 0) Qj))) (Qg (Qqq (i:=1) (Qp hr) (Qu (Qt (Qp hr)) (Qu (Qt (Qp hr)) (Qa 3) Qd) Qd) (Qu (Qt (Qp hr)) (Qu (Qt (Qp hr)) (Qa 3) Qd) Qd))
  (Qn (Qqq (i:=1) (Qp hr) (Qu (Qt (Qp hr)) (Qu (Qt (Qp hr)) (Qa 3) Qd) Qd) (Qu (Qt (Qp hr)) (Qu (Qt (Qp hr)) (Qa 3) Qd) Qd)))) Y1.nd)
  (Qn (G6 (i:=1)))))))
noncomputable abbrev Qwb:WS:=wSeq (wDka 1 (wBin dIx (wBin dIx (wVar 3) (wC (.int 0))) (wC (.int 0))) (wBin dIx (wBin dIx (wVar 3) (wC (.int 1))) (wC (.int 0)))) (wDka 1 (wBin dIx (wBin dIx (wVar 3) (wC (.int 1))) (wC (.int 0))) (wBin dIx (wBin dIx (wVar 3) (wC (.int 0))) (wC (.int 0))))
theorem Qma{o2:Option D}{P:EndsP}(hm:m<=40)(he:e<=12)(tw:M.Tw (4*m+e) A g)(hP:∀T o3,NbOk m e g T->P.nx [some (webD m e A r),some (.dik T),o2,o3]) :
  Jg [webD m e A r] λd=>Qkl d λds=>forR ds 3 Qwb P [some (webD m e A r),some (.dik (ini (Ks m e))),o2,none]:=by
 obtain⟨p1,p2⟩:=M.Qfz tw;refine⟨m,e,A,r,rfl,by lia,by lia,?_⟩;simp only[Qk7];have hlen:=Qa0 A (4*m+e);refine⟨λt ρ=>∃(T:List (Key×D)) (L:List Nat) (o3:Option D),ρ=[some (webD m e A r),some (.dik T),o2,o3]/\NbI m e g T L/\L.length=2*t/\(∀i∈L,i<4*m+e)/\∀q∈(M.plc A (4*m+e)).take t,∀i∈q.2,i∈L,⟨_,[],none,rfl,Qw5,rfl,(λ_ h=>nomatch h),λq hq=>by simp at hq⟩,?_,?_⟩
 ·rintro t d ρ hd ⟨T,L,o3,rfl,hI,hL,hLt,hT⟩;unfold encP at hd;rw[By,Au]at hd;cases hq:(M.plc A (4*m+e))[t]? with
  |none=>rw[hq]at hd;cases hd
  | some q=>
   rw[hq]at hd;have hd:=(Bq hd).symm;subst hd;obtain⟨i,hi,hqi⟩:=p1 q (Du hq);have htl:=(Be.mp hq).1;have hg:=tw.lt i hi;obtain⟨l1,v1,b1,_⟩:=hI.val _ (Qol hi);have I1:=hI.put hi v1;obtain⟨l2,v2,b2,_⟩:=I1.val _ (Qol hg);have I2:=I1.put hg v2;rw[tw.inv hi]at I2;have b2:l2.length<=1000:=by rw[Bx]at b2;simp at b2;lia
   simp only[I9,hqi,Bc,spD,B1,Av,Aw,wSeq,wDka,look,wBin,wC,Qz,Qk,X0,Gw,Bh,Up,D.pure,true_and,Vf,B0,Qc1,Qlc,v1,liI,Qq2];refine⟨by rw[hI.keys];exact Gj (Qib m e),by rw[Ao];exact big (by lia),?_⟩;simp only[v2,liI,Qk,Qq2];refine⟨by rw[I1.keys];exact Gj (Qib m e),by rw[Ao];exact big b2,_,L++[i]++[g i],_,rfl,I2,by simp;lia,λj hj=>?_,λq' hq' j hj=>?_⟩
   ·simp only[Aj,Ap]at hj;rcases hj with(hj|rfl)|rfl
    ·exact hLt j hj
    ·exact hi
    ·exact hg
   ·simp only[Aj,Ap];rw[Mu,hq]at hq';rcases Aj.mp hq' with h|h
    ·exact .inl (.inl (hT q' h j hj))
    ·have:q'=q:=by simpa using h
     subst this;rw[hqi]at hj;rcases Ar.mp hj with z|hj
     ·exact .inl (.inr z)
     ·exact .inr (Ap.mp hj)
 ·rintro ρ ⟨T,L,o3,rfl,hI,hL,hLt,hT⟩;have hln:(encP (spD m) (M.plc A (4*m+e))).length=(M.plc A (4*m+e)).length:=by unfold encP;simp
  rw[Ao,hln]at hL hT;refine hP T o3 ⟨hI.keys,λv hv=>?_,Qbm.mpr hI.bare⟩;obtain⟨l,h1,h2,h3⟩:=hI.val v hv;refine⟨l,h1,by lia,λx=>?_⟩;rw[h3 x];constructor
  ·rintro⟨i,hi,a⟩;exact⟨i,hLt i hi,a⟩
  ·rintro⟨i,hi,a⟩;obtain⟨q,hq,hiq⟩:=p2 i hi;exact⟨i,hT q (by rw[Dc (At _)];exact hq) i hiq,a⟩
theorem Qc6{K:Frag}(F:Fun K "neighbours" "neighbours" J4 f fd)(B:Bn mg)(C1:Cal P w K mg base "places" 1 ["web"] (spR K Jg)):FnOk P w K mg base CX0 2 f fd ["web"] (spR K Ys):=by
 refine Uu (T:=Xm) F Y1 rfl (by decide) (λds kk h=>?_) (Qff B C1) (λds kk h=>?_)
 ·obtain⟨m,e,A,r,g,rfl,_⟩:=h;rfl
 ·obtain ⟨m,e,A,r,g,rfl,hm,he,tw,k⟩:=h;simp only[Xh,wSeq,wSet,wC,Int.reduceNeg,env0,webD,Bc,B1,Am,Az,Bk,Nat.reduceAdd,Bt,Bz,B5,Av,Aw,Qbs,Qu5,Qe,Qq,wBin,wNil,Qz,look,Qk,Up,Gw,Bh,Qhm,Qst,Int.reducePow,Nf];refine⟨by simp<;>lia,by simp<;>lia,Qlh,λt ρ=>∃o2:Option D,ρ=[some (webD m e A r),some (.dik (ini ((Ai t).map λ(k:Nat)=>(k:Int)))),o2,none]/\t<=m,⟨none,rfl,Dx _⟩,?_,?_⟩
  ·rintro t d ρ hd ⟨o2,rfl,ht⟩;obtain⟨ht,rfl⟩:=Qom hd;simp only[Ao,Db]at ht;simp only[gN,Qkc,wLst,wNil,Az,sz0,Av,Aw,look,Di,Qk,Qlc,Qz,Qc1,true_and];have hnot:((0:Int)+(t:Int))∉(Ai t).map λ(k:Nat)=>(k:Int):=λz=>by
    obtain⟨j,hj,hz⟩:=Aq.mp z;have:=Ay.mp hj;lia
   refine⟨by unfold ini;simp;exact big (by lia),?_,some (.int (0+(t:Int))),?_,ht⟩
   ·rw[Qdm];exact Gj (Dl.mpr (Nr.imp λh z=>h (by lia)))
   ·rw[Qmu hnot];simp[Nz]
  ·rintro ρ ⟨o2,rfl,ht⟩;have hl:(rngD 0 ((Ai m).map λk=>D.tup ((Ai 4).map λj=>.int (A (4*k+j)))).length).length=m:=by rw[Qaw];simp
   rw[hl]at ht ⊢;simp only[wSeq,wIf,webD,Qkc,wLst,wNil,Az,sz0,wC,Int.reduceNeg,Qc1,Qq0,Qqx,Qq,Qe,Qz,Qk,true_and,Z2,Qsr,wBin,look,Di,Av,Aw,Qlc,Up,Vf,B0,Bh,Qqy];split
   ·rename_i hne;have he0:¬e=0:=λz=>by subst z;simp at hne
    have hnot:(-1:Int)∉(Ai m).map λ(k:Nat)=>(k:Int):=λz=>by
     obtain⟨j,hj,hz⟩:=Aq.mp z;lia
    refine⟨by unfold ini;simp;exact big (by lia),?_,?_⟩
    ·rw[Qdm];exact Gj (Dl.mpr (Nr.imp λh z=>h (by lia)))
    rw[Qmu hnot,show((Ai m).map λ(k:Nat)=>(k:Int))++[-1]=Ks m e by unfold Ks;rw[if_neg he0]];exact Qma (o2:=o2) hm he tw λT o3 hT=>by simp only[U2,look,Qk];exact k T hT
   ·rename_i hne;have he0:e=0:=by
     cases e with
     |zero=>rfl
     |succ e=>simp[Nz]at hne
    rw[show((Ai m).map λ(k:Nat)=>(k:Int))=Ks m e by unfold Ks;rw[if_pos he0,D6]];exact Qma (o2:=o2) hm he tw λT o3 hT=>by simp only[U2,look,Qk];exact k T hT
theorem Qfq:∀{a b:List Int},a.Nodup->(∀x∈a,x∈b)->a.length<=b.length
 | [],_,_,_=>Dx _
 | x::a,b,nd,h=>by
  obtain⟨n1,n2⟩:=Bd.mp nd;have hx:x∈b:=h x Ak;have:=Qfq (b:=b.erase x) n2 λy hy=>(List.mem_erase_of_ne (λz:y=x=>n1 (by rw[← z];exact hy))).mpr (h y (Al _ hy));rw[List.length_erase_of_mem hx]at this;have:=List.length_pos_of_mem hx;simp only[Am];lia
abbrev mk(S:List Int):List (Key×D):=S.map λx=>((.inl x:Key),D.bl true)
theorem Qmb{x:Int}:∀{S:List Int},valD (mk S) (.inl x)=if x∈S then some (.bl true)else none
 | []=>rfl
 | u::L=>by
  show valD (((.inl u:Key),D.bl true)::mk L) (.inl x)=_;rw[Ja];by_cases h:u=x
  ·rw[if_pos (by rw[h]),if_pos (by rw[h];exact Ak)]
  ·rw[if_neg λz=>h (by injection z),Qmb];have:x∈u::L↔x∈L:=by rw[Ar];exact⟨λq=>q.resolve_left λz=>h z.symm,.inr⟩
   simp only[this]
theorem Qwd(h:x∉S):putD (mk S) (.inl x) (.bl true)=mk (S++[x]):=by
 rw[Qc3 _ (by rw[Qmb,if_neg h])];simp[mk]
theorem Qts:(mk S).map (·.1)=S.map Nh:=by unfold mk;rw[By];rfl
structure Fnd(m e:Nat)(g:Nat->Nat)(v:Int)(S W:List Int)(out:Int->Prop):Prop where
 nd:S.Nodup
 ndW:W.Nodup
 sub:∀x∈W,x∈S
 con:∀x∈S,Hang.Con (Ed m e g) v x
 fst:v∈S
 inn:∀x∈S,x∈Vs m e
 cl:∀u∈S,u∉W->¬out u->∀x,Ed m e g u x->x∈S
theorem Fnd.len{W:List Int}(h:Fnd m e g v S W out):S.length<=m+1/\W.length<=m+1/\S.length<=(Vs m e).length:=by
 have h1:=Qfq h.nd h.inn;have h2:=Qfq h.ndW h.sub;have h3:=Qql m e;lia
theorem Fnd.add{W:List Int}(h:Fnd m e g v S W out)(hx:x∉S)(hc:Hang.Con (Ed m e g) v x)(hv:x∈Vs m e):Fnd m e g v (S++[x]) (W++[x]) out:=by
 have ap:∀{L:List Int},L.Nodup->x∉L->(L++[x]).Nodup:=λ{L} h1 h2=>Dm.mpr ⟨h1,List.pairwise_singleton _ _,λa ha b hb z=>h2 (by rw[← Ap.mp hb,← z];exact ha)⟩;refine⟨ap h.nd hx,ap h.ndW λz=>hx (h.sub x z),λy hy=>?_,λy hy=>?_,Aj.mpr (.inl h.fst),λy hy=>?_,λu hu hW ho y hy=>?_⟩
 ·rcases Aj.mp hy with q|q
  ·exact Aj.mpr (.inl (h.sub y q))
  ·exact Aj.mpr (.inr q)
 ·rcases Aj.mp hy with q|q
  ·exact h.con y q
  ·rw[Ap.mp q];exact hc
 ·rcases Aj.mp hy with q|q
  ·exact h.inn y q
  ·rw[Ap.mp q];exact hv
 ·rcases Aj.mp hu with q|q
  ·exact Aj.mpr (.inl (h.cl u q (λz=>hW (Aj.mpr (.inl z))) ho y hy))
  ·exact absurd (Aj.mpr (.inr q)) hW
noncomputable def Zm:GA:=λds k=>∃(m e:Nat)(v:Int)(A:Nat->Int)(g:Nat->Nat)(T:List (Key×D)),ds=[.dik T,.int v]/\v∈Vs m e/\m<=40/\e<=12/\M.Tw (4*m+e) A g/\NbOk m e g T/\k (liI (Hang.pc (Ed m e g) (Vs m e) v))
abbrev J3:Stmt:=top 17
theorem Yb:FnScope ["beside","first","found","waiting","number","reached"] ["beside","first"] (Qc J3):=⟨rfl,rfl,rfl,by decide +kernel,rfl,by decide +kernel,by decide +kernel⟩
def Xl:Tg:={ own:=λi=>i==2||i==3||i==4||i==5,io:=[] }
noncomputable def Xg:WS:=(wSeq (wSet 2 (Qkj (wVar 1) (wC (.bl true))))
 (wSeq (wSet 3 (wLst (Qe (Jb (wVar 1)) wNil)))
 (wSeq (Qkb (wTru (wVar 3)) (wSeq (wSet 4 (wMt 3 "list" gPop wNil))
 (wFor (Qke 0 4) (gN 5) (wIf (wBl (wBin (dIn true) (wVar 5) (wVar 2))) (wSeq (Jr 2 (wC (.bl true)) (wVar 5))
 (G4 (wMt 3 "list" Qdp (Qe (Jb (wVar 5)) wNil)))) Z2))))
 (wRet (Qq Qnn (Qe (wVar 2) wNil))))))
theorem Qfe{K:Frag}(B:Bn mg):BO P w K mg base f 0 "piece_from" J3 ["beside","first","found","waiting","number","reached"] Xl Xg:=λcdv A outer s H E hr=>
  (Qg (Q4 (i:=2) (Qp1 (Qa 1) Qnb) Yb.nd)
  (Qg (Q4 (i:=3) (Yz (Qb (Q7 (Qa 1)) Qj)) Yb.nd)
  (Qg (Qhc D5 (Qkn (Qa 3)) (Qg (Q4 (i:=4) (Qxf (i:=3) Qwj Mm PySem.F.slot_list_pop PySem.F.type_list_pop) Yb.nd)
  (Qn (Ui D5 (Qpu (i:=0) (j:=4) (Qp hr)) (Yd (i:=5) Yb.nd) (Qn (Xz (Yo (Ql3 (Qp hr)) (Qa 5) (Qa 2)) (Qg (Jy (i:=2) (Qp hr) Qnb (Qa 5))
  (Qn (Qaq (Qxg (i:=3) Qey Mm M7 M8 (Qb (Q7 (Qa 5)) Qj))))) Z3))))))
  (Qn (Yy (Jq (Qiu rfl) B.nb_sorted Qbl (Qb (Qa 2) Qj)))))))
theorem Qc5{K:Frag}(F:Fun K "piece_from" "piece_from" J3 f fd)(B:Bn mg):FnOk P w K mg base CX0 1 f fd ["beside","first"] (spR K Zm):=by
 refine Uu (T:=Xl) F Yb rfl (by decide) (λds kk h=>?_) (Qfe B) (λds kk h=>?_)
 ·obtain⟨m,e,v,A,g,T,rfl,_⟩:=h;rfl
 ·obtain ⟨m,e,v,A,g,T,rfl,hv,hm,he,tw,hT,k⟩:=h;have G:=gr tw;simp only[Xg,wSeq,wSet,Qkj,env0,Bc,B1,Am,Az,Bk,Nat.reduceAdd,Bt,Bz,B5,wC,D.pure,wLst,Qe,Jb,wNil,sz1,true_and,Qz,look,Av,Aw,Qk,Qc1];refine⟨λn ρ=>∃(S W:List Int)(o4 o5:Option D),ρ=[some (.dik T),some (.int v),some (.dik (mk S)),some (liI W),o4,o5]/\Fnd m e g v S W (λ_=>False)/\n=2*((Vs m e).length-S.length)+W.length,
   ⟨_,[v],[v],none,none,rfl,⟨by simp,by simp,λx h=>h,λx h=>by rw[Ap.mp h];exact .refl _,Ap.mpr rfl,λx h=>by rw[Ap.mp h];exact hv,λu h1 h2=>absurd h1 h2⟩,rfl⟩,?_⟩
  rintro n ρ ⟨S,W,o4,o5,rfl,hF,rfl⟩;simp only[liI,wSeq,wSet,wMt,wNil,Qbs,Qke,wRet,Qq,Qe,Qz,Qsr,look,Qsq,BEq.rfl,Av,Aw,Qk,Qyc,true_and,Qu4];rcases List.eq_nil_or_concat W with rfl|⟨W',u,rfl⟩
  ·-- nothing is left
   simp only[B1,List.isEmpty_nil,N5,Bj,Az,reduceIte];refine⟨S,Qts,by have:=hF.len;simp only[Ao];lia,λout hp hs=>?_⟩;have:out=Hang.pc (Ed m e g) (Vs m e) v:=G.pc_eq hv hs (hp.nodup_iff.mpr hF.nd) λy=>by
    rw[hp.mem_iff];exact⟨λh=>hF.con y h,λh=>h.closed (S:=λz=>z∈S) hF.fst λa b ha hab=>hF.cl a ha List.not_mem_nil (λz=>z) b hab⟩
   rw[this];exact k
  ·have hne:(!((W'.concat u).map D.int).isEmpty)=true:=by simp
   have hla:((W'.concat u).map D.int)[((W'.concat u).map D.int).length-1]? = some (.int u):=by simp
   have hdl:((W'.concat u).map D.int).dropLast=W'.map D.int:=by simp
   rw[Lj]at hF;have huS:u∈S:=hF.sub u (by simp);obtain⟨l,hval,hll,hadj⟩:=hT.val u (hF.inn u huS);have ndW:=hF.ndW;rw[Dm]at ndW;simp only[hne,hla,hdl,Qk,D.pure,Qvk,hval,liI,lsOf,true_and,reduceIte];have F0:Fnd m e g v S W' (λz=>z=u):=⟨hF.nd,ndW.1,λx hx=>hF.sub x (by simp[hx]),hF.con,hF.fst,hF.inn,λa ha hW ho x hx=>hF.cl a ha (by simp;exact⟨hW,ho⟩) (λz=>z) x hx⟩
   have l0:=hF.len;refine⟨Ji,λt ρ=>∃(S' W2:List Int)(o5:Option D),ρ=[some (.dik T),some (.int v),some (.dik (mk S')),some (liI W2),some (.int u),o5]/\Fnd m e g v S' W2 (λz=>z=u)/\(∀y∈l.take t,y∈S')/\2*((Vs m e).length-S'.length)+W2.length<=2*((Vs m e).length-S.length)+W'.length,⟨S,W',o5,rfl,F0,(λy hy=>by simp at hy),At _⟩,?_,?_⟩
   ·rintro t d ρ hd ⟨S',W2,o5,rfl,hF',hseen,hmea⟩;rw[Au]at hd;cases hx:l[t]? with
    |none=>rw[hx]at hd;cases hd
    | some x=>
     rw[hx]at hd;have hd:=(Bq hd).symm;subst hd;have hux:Ed m e g u x:=(hadj x).mp (Du hx);have hcx:Hang.Con (Ed m e g) v x:=.step (hF.con u huS) hux;have hxV:x∈Vs m e:=G.con_mem hcx hv;have l1:=hF'.len;have htk:l.take (t+1)=l.take t++[x]:=by rw[Mu,hx];rfl
     simp only[gN,wIf,Av,Aw,wSeq,Jr,wC,D.pure,G4,wMt,Qe,Jb,wNil,Qz,true_and,Z2,r_bl,wBin,look,Di,Qsq,BEq.rfl,Qk,Qvg,Qk8,Qqz,Qmb,Zu];by_cases hxS:x∈S'
     ·simp only[hxS,reduceIte,Di,Ly,N5,Bj];refine⟨S',W2,_,rfl,hF',λy hy=>?_,hmea⟩;rw[htk]at hy;rcases Aj.mp hy with q|q
      ·exact hseen y q
      ·rw[Ap.mp q];exact hxS
     ·have F1:=hF'.add hxS hcx hxV;have l2:=F1.len;simp only[Bx,Am,Az]at l2;simp only[hxS,reduceIte,Option.isSome_none,Li,Qwd hxS,liI];refine⟨by simp only[Ao];exact big (by lia),by simp only[Ao];exact big (by lia),S'++[x],W2++[x],some (.int x),by simp[liI],F1,λy hy=>?_,?_⟩
      ·rw[htk]at hy;rcases Aj.mp hy with q|q
       ·exact Aj.mpr (.inl (hseen y q))
       ·exact Aj.mpr (.inr q)
      ·simp only[Bx,Am,Az];lia
   ·rintro ρ ⟨S',W2,o5,rfl,hF',hseen,hmea⟩;rw[Ao,Dc (At _)]at hseen;refine⟨_,?_,S',W2,_,o5,rfl,⟨hF'.nd,hF'.ndW,hF'.sub,hF'.con,hF'.fst,hF'.inn,λa ha hW _ x hx=>?_⟩,rfl⟩
    ·simp only[Lj,Bx,Am,Az];lia
    ·by_cases hz:a=u
     ·subst hz;exact hseen x ((hadj x).mpr hx)
     ·exact hF'.cl a ha hW hz x hx
noncomputable def Vu:GA:=λds k=>∃(m e:Nat)(v:Int)(A:Nat->Int)(g:Nat->Nat)(T:List (Key×D)),ds=[.int v,.dik T]/\v∈Vs m e/\m<=40/\e<=12/\M.Tw (4*m+e) A g/\NbOk m e g T/\k (liI (Hang.pc (Ed m e g) (Vs m e) v))
theorem Qjk{K:Frag}(B:Bn mg)(WN:Cal P w K mg base "piece_from" 1 ["beside","first"] (spR K Zm)):X4 P w K mg base 2 Jh (spR K Vu):=by
 refine Qws (p:="number") (m:=false) (wb:=Qq Zm (Qe (wVar 1) (Qe (wVar 0) wNil))) ⟨rfl,rfl,rfl,by decide +kernel,rfl,by decide +kernel,by decide +kernel,by decide +kernel⟩ (λcl pm cdv ct u=>rfl) (λds kk h=>?_) (λA outer s H f cd cl hr=>?_) (λds kk h=>?_)
 ·obtain⟨m,e,v,A,g,T,rfl,_,_,_,_,hT,_⟩:=h;exact⟨by simp only[Ub,D.bare,hT.bare,Na],rfl⟩
 ·exact(Q3 WN (hr.mono (by decide)) (Qb (Qa 1) (Qb (Qa 0) Qj)))
 ·obtain⟨m,e,v,A,g,T,rfl,hv,hm,he,tw,hT,k⟩:=h;simp only[Qq,Qe,Bc,B1,wNil,Qz,look,Qk];exact⟨m,e,v,A,g,T,rfl,hv,hm,he,tw,hT,k⟩
theorem Qh2:∀(l:List Int)(S:List (Key×D)),(S.all λkv=>kv.2.pure)=true->∃S',Vj (.dik S) (l.map .int)=some (.dik S')/\S'.length<=S.length+l.length/\(S'.all λkv=>kv.2.pure)=true/\∀x:Int,(valD S' (.inl x)).isSome=true↔(valD S (.inl x)).isSome=true\/x∈l
 | [],S,h=>⟨S,rfl,At _,h,λj=>by simp⟩
 | i::l,S,h=>by
  obtain⟨S',h1,h2,h3,h4⟩:=Qh2 l (putD S (.inl i) (.bl true)) (Qc2 h rfl);refine⟨S',h1,?_,h3,λx=>?_⟩
  ·have:=J1 S (.inl i) (.bl true);simp only[Am];lia
  ·rw [h4 x,U5,Ar];by_cases hx:x=i
   ·subst hx;rw[if_pos rfl];simp
   ·rw [if_neg λz=>hx (by injection z)];constructor
    ·rintro(q|q)
     ·exact .inl q
     ·exact .inr (.inr q)
    ·rintro(q|q|q)
     ·exact .inl q
     ·exact absurd q hx
     ·exact .inr q
noncomputable def Vt:GA:=λds k=>∃(m e:Nat)(A:Nat->Int)(g:Nat->Nat)(T:List (Key×D)),ds=[.dik T,.clo Jh [.dik T]]/\m<=40/\e<=12/\M.Tw (4*m+e) A g/\NbOk m e g T/\k (.lst ((Hang.pcs (Ed m e g) (Vs m e) (Vs m e)).map liI))
abbrev Zt:Stmt:=top 13
theorem Y5:FnScope ["members","group_from","seen","groups","member","group","reached"] ["members","group_from"] (Qc Zt):=⟨rfl,rfl,rfl,by decide +kernel,rfl,by decide +kernel,by decide +kernel⟩
def Qee:Tg:={ own:=λi=>i==2||i==3||i==4||i==5||i==6,io:=[] }
noncomputable def Qd4:WS:=(wSeq (wSet 2 (wC (.dik [])))
 (wSeq (wSet 3 (wLst wNil))
 (wSeq (wFor (Qal (Qq Qnn (Qe (wVar 0) wNil))) (gN 4) (wIf (wBl (wBin (dIn true) (wVar 4) (wVar 2))) (wSeq (wSet 5 (Qd6 1 Jh Vu (Jb (wVar 4))))
 (wSeq (Qkg 2 5 6)
 (Qd7 3 5))) Z2))
 (U2 3))))
theorem Qn3{K:Frag}(B:Bn mg)(Wl:X4 P w K mg base 2 Jh (spR K Vu)):BO P w K mg base f 2 "parted" Zt ["members","group_from","seen","groups","member","group","reached"] Qee Qd4:=λcdv A outer s H E hr=>
  (Qg (Q4 (i:=2) Qag Y5.nd)
  (Qg (Q4 (i:=3) (Yz Qj) Y5.nd)
  (Qg (Ui D5 (Gi (Jq (Qiu rfl) B.nb_sorted Qbl (Qb (Qa 0) Qj))) (Yd (i:=4) Y5.nd) (Qn (Xz (Yo (Ql3 (Qp hr)) (Qa 4) (Qa 2)) (Qg (Q4 (i:=5) (Qcl (i:=1) (L:=Jh) Wl (hr.mono (by decide)) (Q7 (Qa 4))) Y5.nd)
  (Qg (Qky (s:=2) (j:=5) (t:=6) (Qp hr) D5 Y5.nd)
  (Qn (Qhd (i:=3) (j:=5))))) Z3)))
  (Qn (G6 (i:=3))))))
theorem Qjg{K:Frag}(F:Fun K "parted" "parted" Zt f fd)(B:Bn mg)(Wl:X4 P w K mg base 2 Jh (spR K Vu)):FnOk P w K mg base CX0 3 f fd ["members","group_from"] (spR K Vt):=by
 refine Uu (T:=Qee) F Y5 rfl (by decide) (λds kk h=>?_) (Qn3 B Wl) (λds kk h=>?_)
 ·obtain⟨m,e,A,g,T,rfl,_⟩:=h;rfl
 ·obtain ⟨m,e,A,g,T,rfl,hm,he,tw,hT,k⟩:=h;have G:=gr tw;have hvl:=Qql m e;have hkl:T.length=(Vs m e).length:=by
   have:=congrArg Rb hT.keys;rw[Ao,Ao]at this;rw[this,(Qdj m e).length_eq]
  simp only[Qd4,wSeq,wSet,wC,wLst,wNil,Az,sz0,env0,Bc,B1,Am,Bk,Nat.reduceAdd,Bt,Bz,B5,Av,Aw,Qbs,Qeo,Qq,Qe,Qz,look,Qk,true_and];refine⟨Ks m e,hT.keys,by lia,λout hp hs=>?_⟩;have hout:out=Vs m e:=Hang.Qar (le:=(· <= ·)) (hp.trans (Qdj m e).symm) hs ((Qr5 m e).imp λh=>Rg h) λa _ b _ h1 h2=>K1 h1 h2;subst hout;refine⟨Ji,λt ρ=>∃(S:List (Key×D)) (o4 o6:Option D),ρ=[some (.dik T),some (.clo Jh [.dik T]),some (.dik S),some (.lst ((Hang.pcs (Ed m e g) (Vs m e) ((Vs m e).take t)).map liI)),o4,none,o6]/\t<=(Vs m e).length/\S.length<=t*(m+1)/\(S.all λkv=>kv.2.pure)=true/\(∀x,(valD S (.inl x)).isSome=true↔∃u∈(Vs m e).take t,Hang.Con (Ed m e g) u x),
   ⟨[],none,none,by simp[Hang.pcs],Dx _,Dx _,rfl,λx=>by simp[valD]⟩,?_,?_⟩
  ·rintro t d ρ hd ⟨S,o4,o6,rfl,ht,hS,hpu,hsn⟩;have htl:t<(Vs m e).length:=by have:=(Be.mp hd).1;rw[Ao]at this;exact this
   rw[Au,Bo htl]at hd;have hd:=(Bq hd).symm;subst hd;have hv:(Vs m e)[t]∈Vs m e:=Sh htl;have hL:=G.isL_iff htl;have htk:(Vs m e).take (t+1)=(Vs m e).take t++[(Vs m e)[t]]:=by rw[Mu,Bo htl];rfl
   have hnext:Hang.pcs (Ed m e g) (Vs m e) ((Vs m e).take (t+1))=Hang.pcs (Ed m e g) (Vs m e) ((Vs m e).take t)++if Hang.isL (Ed m e g) (Vs m e) (Vs m e)[t]=true then [Hang.pc (Ed m e g) (Vs m e) (Vs m e)[t]]else []:=by
    unfold Hang.pcs;rw[Hang.Xy htl,Mi];congr 1
    split<;>rfl
   generalize(Vs m e)[t]=v at hv hL htk hnext;have hmul:(t+1)*(m+1)=t*(m+1)+(m+1):=Tr _ _;have hsz:t*(m+1)<=41*41:=Nat.mul_le_mul (by lia) (by lia);simp only[gN,wIf,Av,Aw,wSeq,wSet,Qd6,Jb,Qkg,lsOf,Dw,Qd7,Qz,Z2,r_bl,wBin,look,Am,Az,Bk,Nat.reduceAdd,Ih,Qk,true_and,Qyh,D.pure,Qqz,Zu];cases hc:(valD S (.inl v)).isSome with
   | true=>
    have hno:¬Hang.isL (Ed m e g) (Vs m e) v=true:=λz=>hL.mp z ((hsn v).mp hc);simp only[Ly,N5,Bj,reduceIte];rw[if_neg hno,D6]at hnext;refine⟨S,_,_,by rw[hnext],htl,by lia,hpu,λx=>?_⟩;rw[hsn x,htk];constructor
    ·rintro⟨u,hu,h⟩;exact⟨u,Aj.mpr (.inl hu),h⟩
    ·rintro⟨u,hu,h⟩;rcases Aj.mp hu with q|q
     ·exact⟨u,q,h⟩
     ·obtain⟨u',hu',h'⟩:=(hsn v).mp hc;rw[Ap.mp q]at h;exact⟨u',hu',h'.trans h⟩
   | false=>
    have hyes:Hang.isL (Ed m e g) (Vs m e) v=true:=hL.mpr λz=>by
     have:=(hsn v).mpr z;rw[hc]at this;cases this
    simp only[Li,reduceIte];rw[if_pos hyes]at hnext;refine⟨m,e,v,A,g,T,rfl,hv,hm,he,tw,hT,?_⟩;have hpl:(Hang.pc (Ed m e g) (Vs m e) v).length<=m+1:=Dy (Nw _ _) hvl;obtain⟨S',h1,h2,h3,h4⟩:=Qh2 (Hang.pc (Ed m e g) (Vs m e) v) S hpu;have hne:(Hang.pc (Ed m e g) (Vs m e) v).map D.int≠[]:=λz=>by
     have:v∈Hang.pc (Ed m e g) (Vs m e) v:=Hang.Qmd.mpr ⟨hv,.refl v⟩;rw[List.map_eq_nil_iff.mp z]at this;cases this
    show Qm _=true/\_;refine⟨Ji,hpu,?_,?_⟩
    ·show S.length+_<sizeLine;rw[Ao];exact Rf (show _<=41*41+41 by lia) (by decide)
    ·rw [h1,T8 hne];simp only[Qk];have hgl:(Hang.pcs (Ed m e g) (Vs m e) ((Vs m e).take t)).length<=t:=by
      unfold Hang.pcs;rw[Ao];exact Dy (Nw _ _) (by rw[Dh];lia)
     refine⟨by rw[Ao];exact big (by lia),S',_,_,by rw[hnext,Mi];rfl,htl,by lia,h3,λx=>?_⟩;rw[h4 x,hsn x,htk,Hang.Qmd];constructor
     ·rintro(⟨u,hu,h⟩|h)
      ·exact⟨u,Aj.mpr (.inl hu),h⟩
      ·exact⟨v,Aj.mpr (.inr (Ap.mpr rfl)),h.2⟩
     ·rintro⟨u,hu,h⟩;rcases Aj.mp hu with q|q
      ·exact .inl ⟨u,q,h⟩
      ·rw[Ap.mp q]at h;exact .inr ⟨G.con_mem h hv,h⟩
  ·rintro ρ ⟨S,o4,o6,rfl,ht,hS,hpu,hsn⟩;rw[Ao,Dc (At _)];simp only[U2,look,Qk];exact k
def Gk:GA:=λds k=>∃(m e:Nat)(A:Nat->Int)(r:Int)(g:Nat->Nat),ds=[webD m e A r]/\m<=40/\e<=12/\M.Tw (4*m+e) A g/\k (.lst ((Hang.pcs (Ed m e g) (Vs m e) (Vs m e)).map liI))
abbrev Y3:Stmt:=top 18
theorem Qek:FnScope ["web","beside"] ["web"] (Qc Y3):=⟨rfl,rfl,rfl,by decide +kernel,rfl,by decide +kernel,by decide +kernel⟩
def Qha:Tg:={ own:=λi=>i==1,io:=[] }
def Qg3:WS:=(wSeq (wSet 1 (Qq Ys (Qe (wVar 0) wNil)))
 (wRet (Qd5 Vt Jh [1] (wVar 1))))
theorem Qqf{K:Frag}{TB:List (Addr×Array Value)}(B:Bn mg)(hB:Vx mg base)(Ww:Cal P w K mg base "neighbours" 2 ["web"] (spR K Ys))(WD:Cal P w K mg base "parted" 3 ["members","group_from"] (spR K Vt))(Wx:fd.code=.ref Wf)(Wp:M9 K Wf Wa=true)(Wi:(Wa,tgOf Gf Jh.qual)∈TB):BT P w K mg base f fd TB 3 "pieces" Y3 ["web","beside"] Qha Qg3:=λcdv A outer s H E hr hT hcv=>
  (Qg (Q4 (i:=1) (Q3 Ww (hr.mono (by decide)) (Qb (Qa 0) Qj)) Qek.nd)
  (Qn (Yy (Qck (ix:=[1]) (L:=Jh) (clos:=[("beside",s.heap.objs.size+1)]) WD (hr.mono (by decide)) (Qa 1) (Qq5 (L:=Jh) (P:=Wa) (c:=Wf) (hcv.symm.trans Wx) Wp (hT _ Wi) hB) (Qdv rfl rfl rfl rfl Qnt) rfl (by simp)))))
theorem Ql0{K:Frag}{TB:List (Addr×Array Value)}(F:Fun K "pieces" "pieces" Y3 f fd)(B:Bn mg)(hB:Vx mg base)(Ww:Cal P w K mg base "neighbours" 2 ["web"] (spR K Ys))(WD:Cal P w K mg base "parted" 3 ["members","group_from"] (spR K Vt))(Wx:fd.code=.ref Wf)(Wp:M9 K Wf Wa=true)(Wi:(Wa,tgOf Gf Jh.qual)∈TB):FnOk P w K mg base CX0 4 f fd ["web"] (spT TB (spR K Gk)):=by
 refine Qe5 (T:=Qha) F Qek rfl (by decide) (λds kk h=>?_) (Qqf B hB Ww WD Wx Wp Wi) (λds kk h=>?_)
 ·obtain⟨m,e,A,r,g,rfl,_⟩:=h;rfl
 ·obtain⟨m,e,A,r,g,rfl,hm,he,tw,k⟩:=h;simp only[Qg3,wSeq,wSet,Qq,Qe,env0,Bc,B1,Am,Az,Bk,Nat.reduceAdd,Bt,Bz,B5,wNil,wRet,Qd5,Qgp,Qz,look,Av,Aw,Qk];refine⟨m,e,A,r,g,rfl,hm,he,tw,λT hT=>?_⟩;simp only[];refine⟨m,e,A,g,T,rfl,hm,he,tw,hT,?_,k⟩;simp only[D.bare];refine Zf.mpr λx hx=>?_;obtain⟨l,_,rfl⟩:=Aq.mp hx;exact Qfc l
theorem Qo0(T:M.Tw (4*m+e) A g):2*(M.plc A (4*m+e)).length=4*m+e:=by
 have h:=M.Qll A (4*m+e);obtain⟨p1,_⟩:=M.Qfz T;have:∀l:List (Int×List Nat),(∀q∈l,∃i,i<4*m+e/\q.2=[i,g i])->(l.map λq=>q.2.length).sum=2*l.length:=by
  intro l
  induction l with
  |nil=>intro _;rfl
  | cons q l ih=>
   intro hl;obtain⟨i,_,hi⟩:=hl q (by simp);rw[Bc,List.sum_cons,ih λx hx=>hl x (by simp[hx]),hi,Am];simp;lia
 rw[this _ p1]at h;lia
def Z9:GA:=λds k=>∃(m e:Nat)(A:Nat->Int)(r:Int),ds=[webD m e A r]/\m<=40/\e<=12/\e%2=0/\Flt.Flat m e A/\k (.int 0)
abbrev G9:Stmt:=top 19
theorem Qcz:FnScope ["web","rim","doubled"] ["web"] (Qc G9):=⟨rfl,rfl,rfl,by decide +kernel,rfl,by decide +kernel,by decide +kernel⟩
def Qku:Tg:={ own:=λi=>i==1||i==2,io:=[] }
noncomputable def Qj9:WS:=(wSeq (wSet 1 (wIfE (wTru (wBin dIx (wVar 0) (wC (.int 1)))) (wC (.int 1)) (wC (.int 0))))
 (wSeq (wSet 2 (wBin dSub (wBin dSub (wBin dSub (wBin Jm (wBin dMul (wC (.int 2)) (Qq dLen (Qe (Qq Gk (Qe (wVar 0) wNil)) wNil))) (Qq dLen (Qe (Qq Jg (Qe (wVar 0) wNil)) wNil))) (Qq dLen (Qe (wBin dIx (wVar 0) (wC (.int 0))) wNil))) (wVar 1)) (Qq dLen (Qe (Qq Qbe (Qe (wVar 0) wNil)) wNil))))
 (wRet (wBin dDiv (wVar 2) (wC (.int 2))))))
theorem Quj{K:Frag}{TB:List (Addr×Array Value)}(B:Bn mg)(hB:Vx mg base)(Wc:Cal P w K mg base "places" 1 ["web"] (spR K Jg))(Wv:Cal P w K mg base "faces" 5 ["web"] (spT TB (spR K Qbe)))(Wu:Cal P w K mg base "pieces" 4 ["web"] (spT TB (spR K Gk))):BT P w K mg base f fd TB 5 "holes" G9 ["web","rim","doubled"] Qku Qj9:=λcdv A outer s H E hr hT hcv=>
  (Qg (Q4 (i:=1) (Qza (Qkn (Qu (Qt (Qp hr)) (Qa 0) Qd)) Qd Qd) Qcz.nd)
  (Qg (Q4 (i:=2) (Qy Qca (Qy Qca (Qy Qca (Qy Q0 (Qy Qcb Qd (Jq Um B.nb_len Uo (Qb (V9 Wu (hr.mono (by decide)) hT (Qb (Qa 0) Qj)) Qj))) (Jq Um B.nb_len Uo (Qb (Q3 Wc (hr.mono (by decide)) (Qb (Qa 0) Qj)) Qj))) (Jq Um B.nb_len Uo (Qb (Qu (Qt (Qp hr)) (Qa 0) Qd) Qj))) (Qa 1)) (Jq Um B.nb_len Uo (Qb (V9 Wv (hr.mono (by decide)) hT (Qb (Qa 0) Qj)) Qj))) Qcz.nd)
  (Qn (Yy (Qy Qhu (Qa 2) Qd)))))
theorem Qpf{K:Frag}{TB:List (Addr×Array Value)}(F:Fun K "holes" "holes" G9 f fd)(B:Bn mg)(hB:Vx mg base)(Wc:Cal P w K mg base "places" 1 ["web"] (spR K Jg))(Wv:Cal P w K mg base "faces" 5 ["web"] (spT TB (spR K Qbe)))(Wu:Cal P w K mg base "pieces" 4 ["web"] (spT TB (spR K Gk))):FnOk P w K mg base CX0 6 f fd ["web"] (spT TB (spR K Z9)):=by
 refine Qe5 (T:=Qku) F Qcz rfl (by decide) (λds kk h=>?_) (Quj B hB Wc Wv Wu) (λds kk h=>?_)
 ·obtain⟨m,e,A,r,rfl,_⟩:=h;rfl
 ·obtain ⟨m,e,A,r,rfl,hm,he,he2,hF,k⟩:=h;obtain⟨g,T,_⟩:=id hF;have hh:=hF.holes T (l:=M.L0 m e) (λx=>M.Qrq);have hp:=Qo0 T;have lp:(Hang.pcs (Ed m e g) (Vs m e) (Vs m e)).length=((Eul.Vs m e).filter (Hang.isL (Eul.Ed m e g) (Eul.Vs m e))).length:=Ao ..;have key:∀b:Int,b=((if 0<e then 1 else 0:Nat):Int)->(2*((Hang.pcs (Ed m e g) (Vs m e) (Vs m e)).length:Int)+((M.plc A (4*m+e)).length:Int)-(m:Int)-b-((Orb.X3 (4*m+e) (M.fx m e g) (M.L0 m e)).length:Int))/2=0:=λb hb=>by
   rw[hb,lp];lia
  simp only[Qj9,wSeq,wSet,wIfE,env0,webD,Bc,B1,Am,Az,Bk,Nat.reduceAdd,Bt,Bz,B5,wC,wBin,Qq,Qe,wNil,wRet,Qz,Qsr,look,Av,Aw,Qk,Up,Gw,Bh,Qhm,Vf,B0,Qqy];have em:(!((Ai e).map λj=>D.int (A (4*m+j))).isEmpty)=decide (0<e):=by
   cases e with
   |zero=>rfl
   |succ e=>simp[List.range_succ_eq_map]
  rw[em];split
  ·rename_i he0;have he0:0<e:=of_decide_eq_true he0;refine⟨m,e,A,r,g,rfl,hm,he,T,?_⟩;simp only[Qep,Int.reduceNeg,Int.reduceLT,Qhl];refine⟨m,e,A,r,rfl,by lia,by lia,?_⟩;simp only[Qk9,Xr,Qfw];refine⟨m,e,A,r,g,rfl,hm,he,he2,T,?_⟩;have:=key 1 (by simp[he0]);simp only[Ao,encP,Db,Qep,Qfw,Int.reduceLT,Qeq]at this ⊢;rw[this];exact k
  ·rename_i he0;have he0:¬0<e:=λz=>he0 (decide_eq_true z);refine⟨m,e,A,r,g,rfl,hm,he,T,?_⟩;simp only[Qep,Int.reduceNeg,Int.reduceLT,Qhl];refine⟨m,e,A,r,rfl,by lia,by lia,?_⟩;simp only[Qk9,Xr,Qfw];refine⟨m,e,A,r,g,rfl,hm,he,he2,T,?_⟩;have:=key 0 (by simp[he0]);simp only[Ao,encP,Db,Qep,Qfw,Int.reduceLT,Qeq]at this ⊢;rw[this];exact k
def Yu:GA:=λds k=>∃(m e:Nat)(A:Nat->Int)(r:Int),ds=[webD m e A r]/\m<=40/\e<=12/\e%2=0/\Flt.Flat m e A/\k .non
abbrev J6:Stmt:=top 20
theorem U8:FnScope ["web","many"] ["web"] (Qc J6):=⟨rfl,rfl,rfl,by decide +kernel,rfl,by decide +kernel,by decide +kernel⟩
def Xo:Tg:={ own:=λi=>i==1,io:=[] }
def Xj:WS:=(wSeq (wSet 1 (Qq Z9 (Qe (wVar 0) wNil)))
 (wIf (wBl (wBin (dCmp λi j=>decide (j<i)) (wVar 1) (wC (.int 0)))) Qkf Z2))
theorem Qfh{K:Frag}{TB:List (Addr×Array Value)}(B:Bn mg)(hB:Vx mg base)(Wd:Cal P w K mg base "holes" 6 ["web"] (spT TB (spR K Z9))):BT P w K mg base f fd TB 6 "check_flat" J6 ["web","many"] Xo Xj:=λcdv A outer s H E hr hT hcv=>
  (Qg (Q4 (i:=1) (V9 Wd (hr.mono (by decide)) hT (Qb (Qa 0) Qj)) U8.nd)
  (Qn (Xz (Yo Qyw (Qa 1) Qd) (Qn Qoi) Z3)))
theorem Qc8{K:Frag}{TB:List (Addr×Array Value)}(F:Fun K "check_flat" "check_flat" J6 f fd)(B:Bn mg)(hB:Vx mg base)(Wd:Cal P w K mg base "holes" 6 ["web"] (spT TB (spR K Z9))):FnOk P w K mg base CX0 7 f fd ["web"] (spT TB (spR K Yu)):=by
 refine Qe5 (T:=Xo) F U8 rfl (by decide) (λds kk h=>?_) (Qfh B hB Wd) (λds kk h=>?_)
 ·obtain⟨m,e,A,r,rfl,_⟩:=h;rfl
 ·obtain⟨m,e,A,r,rfl,hm,he,he2,hF,k⟩:=h;simp only[Xj,wSeq,wSet,Qq,Qe,env0,Bc,B1,Am,Az,Bk,Nat.reduceAdd,Bt,Bz,B5,wNil,wIf,Qkf,Z2,r_bl,wBin,wC,Qz,look,Av,Aw,Qk];refine⟨m,e,A,r,rfl,hm,he,he2,hF,?_⟩;simp only[Qvf,Int.reduceLT,Zu];exact k
def Zc:GA:=λds k=>∃(c n:Int),ds=[.int c,.int n]/\0<=n/\n<=1000/\∀r:Int,0<=r->k (.int r)
abbrev J7:Stmt:=top 22
theorem U9:FnScope ["_law_cell","_law_k","_law_number"] ["_law_cell","_law_k"] (Qc J7):=⟨rfl,rfl,rfl,by decide +kernel,rfl,by decide +kernel,by decide +kernel⟩
def Xp:Tg:={ own:=λi=>i==2,io:=[] }
noncomputable def Xk:WS:=(wSeq (wSet 2 (wBin dMod (wBin Jm (wBin Jm (wBin dMul (wBin dMod (wVar 0) (wC (.int 2147483629))) (wC (.int 48271))) (wBin dMul (wBin dMul (wC (.int 7919)) (wVar 1)) (wVar 1))) (wC (.int 11))) (wC (.int 2147483629))))
 (wRet (wBin dMod (wBin Jm (wBin Jm (wBin dMul (wVar 2) (wVar 2)) (wBin dMul (wC (.int 69621)) (wVar 1))) (wC (.int 7))) (wC (.int 2147483587)))))
theorem Qfi{K:Frag}(B:Bn mg):BO P w K mg base f 0 "_law_mixed" J7 ["_law_cell","_law_k","_law_number"] Xp Xk:=λcdv A outer s H E hr=>
  (Qg (Q4 (i:=2) (Qy Zk (Qy Q0 (Qy Q0 (Qy Qcb (Qy Zk (Qa 0) Qd) Qd) (Qy Qcb (Qy Qcb Qd (Qa 1)) (Qa 1))) Qd) Qd) U9.nd)
  (Qn (Yy (Qy Zk (Qy Q0 (Qy Q0 (Qy Qcb (Qa 2) (Qa 2)) (Qy Qcb Qd (Qa 1))) Qd) Qd))))
theorem Qc9{K:Frag}(F:Fun K "_law_mixed" "_law_mixed" J7 f fd)(B:Bn mg):FnOk P w K mg base CX0 1 f fd ["_law_cell","_law_k"] (spR K Zc):=by
 refine Uu (T:=Xp) F U9 rfl (by decide) (λds kk h=>?_) (Qfi B) (λds kk h=>?_)
 ·obtain⟨c,n,rfl,_⟩:=h;rfl
 ·obtain⟨c,n,rfl,h1,h2,k⟩:=h;have hn1:-18446744073709551616<n:=by lia
  have hn2:n<18446744073709551616:=by lia
  have hx0:-18446744073709551616<c%2147483629/\c%2147483629<18446744073709551616:=by lia
  simp only[Xk,wSeq,wSet,wBin,env0,Bc,B1,Am,Az,Bk,Nat.reduceAdd,Bt,Bz,B5,wC,wRet,Qz,look,Av,Aw,Qk,Int.reduceNeg,Int.reduceLT,Qhl,hn1,hn2,Qu7,Uk,hx0.1,hx0.2,Xr];generalize hx:(c%2147483629*48271+7919*n*n+11)%2147483629=x;have hx:-18446744073709551616<x/\x<18446744073709551616:=by lia
  simp only[Int.reduceNeg,hx.1,hx.2,Qhl,Xr,Int.reduceLT,Uk];exact k _ (R6 _ (by decide))
def rnF(a b:Int):D->D
 | .int x=>.int (if x=a then b else x)
 |d=>d
def Ju:GA:=λds k=>∃(xs:List Int)(a b:Int),ds=[.kls (xs.map .int),.int a,.int b]/\xs.length<=1000/\k (.kls ((xs.map λx=>if x=a then b else x).map .int))
abbrev Jc:Stmt:=top 23
theorem Qav:FnScope ["_law_row","_law_old","_law_new"] ["_law_row","_law_old","_law_new"] (Qc Jc):=⟨rfl,rfl,rfl,by decide +kernel,rfl,by decide +kernel,by decide +kernel⟩
def Ug:Tg:={ own:=λi=>false,io:=[] }
def Ud:WS:=(wRet (Vi (Qcu (Qr2 (wVar 0)) wAll (wBin dIx (wLst (Qe (Jb (wVar 0)) (Qe (Jb (wVar 1)) wNil))) (Qq dInt (Qe (wBin dEq (wVar 0) (wVar 2)) wNil))) [2,1])))
theorem Qb1{K:Frag}(B:Bn mg):BO P w K mg base f 0 "_law_renamed" Jc ["_law_row","_law_old","_law_new"] Ug Ud:=λcdv A outer s H E hr=>
  (Qn (Yy (Vv (V8 (Ux [2,1] (Qw3 (Qa 0)) (λ_ _ _ _ _=>Qbi) (λ_ _ _ _ _=>(Qu (Qt (Qp hr)) (Yz (Qb (Q7 (Qa 0)) (Qb (Q7 (Qa 1)) Qj))) (Yv Qxq B.nb_int Qxu (Qb (Qxi (Ql5 hr.units) (Qa 0) (Qa 2)) Qj))))) (Vc (Qc Jc) ["_law_row","_law_old","_law_new"] (by decide +kernel))))))
theorem Qa4{K:Frag}(F:Fun K "_law_renamed" "_law_renamed" Jc f fd)(B:Bn mg):FnOk P w K mg base CX0 1 f fd ["_law_row","_law_old","_law_new"] (spR K Ju):=by
 refine Uu (T:=Ug) F Qav rfl (by decide) (λds kk h=>?_) (Qb1 B) (λds kk h=>?_)
 ·obtain⟨xs,a,b,rfl,_⟩:=h;rfl
 ·obtain ⟨xs,a,b,rfl,hl,k⟩:=h;simp only[Ud,wRet,Vi,env0,Bc,B1,Am,Az,Bk,Nat.reduceAdd,Bz,B5,Qay,Qyf,Qz,look,Qk,Qva];refine Yw (rnF a b) (by rw[Ao];exact big hl) (λd hd Q' hQ=>?_) ?_
  ·obtain ⟨x,hx,rfl⟩:=Aq.mp hd;simp only[blkE,Bc,look,B1,wBin,wLst,Qe,Jb,wNil,Am,Az,Bk,Nat.reduceAdd,sz2,Qq,Qz,true_and,Qk,Qoo,Qve,X0,D.pure]at hQ ⊢;by_cases hxa:x=a
   ·have e0:rnF a b (.int x)=.int b:=by show D.int (if x=a then b else x)=_;rw[if_pos hxa]
    rw[e0]at hQ;simp only[decide_eq_true hxa,reduceIte,Vf,B0,Bh,Qk];exact hQ
   ·have e0:rnF a b (.int x)=.int x:=by show D.int (if x=a then b else x)=_;rw[if_neg hxa]
    rw[e0]at hQ;simp only[decide_eq_false hxa,Bj,reduceIte,Gw,Bh,Qk];exact hQ
  ·have e:(xs.map D.int).map (rnF a b)=(xs.map λx=>if x=a then b else x).map D.int:=by rw[By,By];rfl
   rw[e];simp only[V4];exact⟨Ji,k⟩
def J9:GA:=λds k=>∃(m e:Nat)(A:Nat->Int)(r:Int),ds=[webD m e A r]/\m<=40/\e<=12/\k (webD m e (Flt.A6 m e A) r)
abbrev Jf:Stmt:=top 27
theorem Uj:FnScope ["_law_web","_law_crossings"] ["_law_web"] (Qc Jf):=⟨rfl,rfl,rfl,by decide +kernel,rfl,by decide +kernel,by decide +kernel⟩
def U7:Tg:={ own:=λi=>i==1,io:=[] }
noncomputable def U1:WS:=(wSeq (wSet 1 (Qcu (Qal (wBin dIx (wVar 0) (wC (.int 0)))) wAll (Qq Qp6 (Qe (wVar 0) wNil)) []))
 (wRet (Jb (wTup (Qe (Qq Gq (Qe (wVar 1) wNil)) (Qe (Qq Qp6 (Qe (wBin dIx (wVar 0) (wC (.int 1))) wNil)) (Qe (wBin dIx (wVar 0) (wC (.int 2))) wNil)))))))
theorem Qdz{K:Frag}(B:Bn mg):BO P w K mg base f 0 "_law_behind" Jf ["_law_web","_law_crossings"] U7 U1:=λcdv A outer s H E hr=>
  (Qg (Qoj (j:=1) (Ux [] (Gi (Qu (Qt (Qp hr)) (Qa 0) Qd)) (λ_ _ _ _ _=>Qbi) (λ_ _ _ _ _=>(Qe7 B.nb_reversed B.nb_tuple (Qb (Qa 0) Qj)))) (Vc (Qc Jf) ["_law_web","_law_crossings"] (by decide +kernel)) Uj.nd)
  (Qn (Yy (Q7 (Gp (Qb (Yv Vd B.nb_tuple Ve (Qb (Qa 1) Qj)) (Qb (Qe7 B.nb_reversed B.nb_tuple (Qb (Qu (Qt (Qp hr)) (Qa 0) Qd) Qj)) (Qb (Qu (Qt (Qp hr)) (Qa 0) Qd) Qj))))))))
def rvF:D->D
 | .tup xs=>.tup xs.reverse
 |d=>d
theorem Qbu{K:Frag}(F:Fun K "_law_behind" "_law_behind" Jf f fd)(B:Bn mg):FnOk P w K mg base CX0 1 f fd ["_law_web"] (spR K J9):=by
 refine Uu (T:=U7) F Uj rfl (by decide) (λds kk h=>?_) (Qdz B) (λds kk h=>?_)
 ·obtain⟨m,e,A,r,rfl,_⟩:=h;rfl
 ·obtain ⟨m,e,A,r,rfl,hm,he,k⟩:=h;have rev4:∀i:Nat,[D.int (A (4*i+0)),.int (A (4*i+1)),.int (A (4*i+2)),.int (A (4*i+3))].reverse=[D.int (A (4*i+3)),.int (A (4*i+2)),.int (A (4*i+1)),.int (A (4*i+0))]:=λ_=>rfl;have e1:((Ai m).map λk=>D.tup ((Ai 4).map λj=>.int (A (4*k+j)))).map rvF=(Ai m).map λk=>D.tup ((Ai 4).map λj=>.int (Flt.A6 m e A (4*k+j))):=by
   rw [By];refine B8 λi hi=>?_;have hi:=Ay.mp hi;have q:∀j,j<4->Flt.A6 m e A (4*i+j)=A (4*i+(3-j)):=λj hj=>by
    unfold Flt.A6;rw[if_pos (by lia)];congr 1;lia
   show D.tup [D.int (A (4*i+0)),.int (A (4*i+1)),.int (A (4*i+2)),.int (A (4*i+3))].reverse=D.tup [.int (Flt.A6 m e A (4*i+0)),.int (Flt.A6 m e A (4*i+1)),.int (Flt.A6 m e A (4*i+2)),.int (Flt.A6 m e A (4*i+3))];rw[rev4,q 0 (by decide),q 1 (by decide),q 2 (by decide),q 3 (by decide)]
  have e2:((Ai e).map λj=>D.int (A (4*m+j))).reverse=(Ai e).map λj=>D.int (Flt.A6 m e A (4*m+j)):=by
   rw[← List.map_reverse];refine Mv λj=>?_;by_cases hj:j<e
   ·rw[Au,Au,Lg (by simpa using hj),B2 hj,Db,B2 (by lia)];show some (D.int (A (4*m+(e-1-j))))=some (D.int (Flt.A6 m e A (4*m+j)));unfold Flt.A6;rw[if_neg (by lia),show 4*m+j-4*m=j by lia]
   ·rw[B7 (by simp;lia),B7 (by simp;lia)]
  have pc:Qm ((Ai m).map λk=>D.tup ((Ai 4).map λj=>.int (A (4*k+j))))=true:=Qh λ_ _=>by simp only[D.pure];exact Qh λ_ _=>rfl
  have pc':Qm ((Ai m).map λk=>D.tup ((Ai 4).map λj=>.int (Flt.A6 m e A (4*k+j))))=true:=Qh λ_ _=>by simp only[D.pure];exact Qh λ_ _=>rfl
  simp only[U1,wSeq,wSet,env0,webD,Bc,B1,Am,Az,Bk,Nat.reduceAdd,Bt,Bz,B5,wRet,Jb,wTup,Qe,Qq,wNil,wBin,wC,sz3,D.pure,Qm,Fh,true_and,Qz,Qay,Qeo,look,Qk,Up,Gw,Bh,Qhj];refine⟨pc,Yw rvF (by rw[Ao,Db];exact big (by lia)) (λd hd Q' hQ=>?_) ?_⟩
  ·obtain⟨i,hi,rfl⟩:=Aq.mp hd;simp only[blkE,B1,Qq,Qe,wNil,Qz,look,Qk,Qhp]at hQ ⊢;exact⟨Qh λ_ _=>rfl,by simp,hQ⟩
  ·rw[e1];simp only[Av,Aw,look,Qk,Up,Qgw,B0,Bh,D.pure,Fh,Vf,Qhp,Qen];refine⟨pc',Qh λ_ _=>rfl,by simp;lia,?_⟩;rw[e2];refine⟨?_,k⟩;have pe':Qm ((Ai e).map λj=>D.int (Flt.A6 m e A (4*m+j)))=true:=Qh λ_ _=>rfl;rw[pc',pe'];rfl
def crK(A:Nat->Int)(k:Nat):D:=.kls ((Ai 4).map λj=>.int (A (4*k+j)))
def netD(m e:Nat)(A:Nat->Int)(r fr:Int):D:=.lst [.lst ((Ai m).map (crK A)),.kls ((Ai e).map λj=>.int (A (4*m+j))),.int r,.int fr]
def crR(a b:Int):D->D
 | .kls xs=>.kls (xs.map (rnF b a))
 |d=>d
theorem Qxm{b:Int}:crR a b (crK A i)=.kls ((((Ai 4).map λj=>A (4*i+j)).map λx=>if x=b then a else x).map .int):=by
 show D.kls (((Ai 4).map λj=>D.int (A (4*i+j))).map (rnF b a))=_;rw[By,By,By];rfl
theorem Yl(h:Qm xs=true)(hs:∀y∈ys,y∈xs):Qm ys=true:=Q5.mpr λy hy=>Q5.mp h y (hs y hy)
theorem Yx(xs:List D)(a b:Option Int):∀y∈cutD xs a b,y∈xs:=λy hy=>Fa (D3 hy)
theorem Qou:Qm ((Ai m).map (crK A))=true:=Qh λ_ _=>rfl
def J8:GI:=λds k=>∃(m e q:Nat)(A:Nat->Int)(r fr:Int),ds=[netD m (e+2) A r fr,.int q]/\m<=40/\e<=12/\q<e+1/\∀r':Int,(r'=r\/r'=r+1)->k .non (netD m e (Flt.A3 m q A) r' fr)
abbrev Je:Stmt:=top 24
theorem Zp:FnScope ["_law_net","_law_at","_law_one","_law_other"] ["_law_net","_law_at"] (Qc Je):=⟨rfl,rfl,rfl,by decide +kernel,rfl,by decide +kernel,by decide +kernel⟩
def U6:Tg:={ own:=λi=>i==0||i==2||i==3,io:=[0] }
noncomputable def U0:WS:=(wSeq (wSet 2 (Jb (wBin dIx (wBin dIx (wVar 0) (wC (.int 1))) (wVar 1))))
 (wSeq (wSet 3 (Jb (wBin dIx (wBin dIx (wVar 0) (wC (.int 1))) (wBin Jm (wVar 1) (wC (.int 1))))))
 (wSeq (Jr 0 (Vi (wBin Jm (wSlT (wBin dIx (wVar 0) (wC (.int 1))) Ye (Zo (wVar 1))) (wSlT (wBin dIx (wVar 0) (wC (.int 1))) (Zo (wBin Jm (wVar 1) (wC (.int 2)))) Ye))) (wC (.int 1)))
 (wSeq (wIf (wBl (wBin dEq (wVar 2) (wVar 3))) (Jr 0 (wBin Jm (wBin dIx (wVar 0) (wC (.int 2))) (wC (.int 1))) (wC (.int 2))) Z2)
 (wSeq (Qkd 0 0 (Qcu (Qal (wBin dIx (wVar 0) (wC (.int 0)))) wAll (Qq Ju (Qe (wVar 0) (Qe (wVar 2) (Qe (wVar 1) wNil)))) [2,3]))
 (Jr 0 (Qq Ju (Qe (wBin dIx (wVar 0) (wC (.int 1))) (Qe (wVar 3) (Qe (wVar 2) wNil)))) (wC (.int 1))))))))
theorem Qdy{K:Frag}(B:Bn mg)(WJ:Cal P w K mg base "_law_renamed" 1 ["_law_row","_law_old","_law_new"] (spR K Ju)):BO P w K mg base f 1 "_law_joined" Je ["_law_net","_law_at","_law_one","_law_other"] U6 U0:=λcdv A outer s H E hr=>
  (Qg (Q4 (i:=2) (Q7 (Qu (Qt (Qp hr)) (Qu (Qt (Qp hr)) (Qa 0) Qd) (Qa 1))) Zp.nd)
  (Qg (Q4 (i:=3) (Q7 (Qu (Qt (Qp hr)) (Qu (Qt (Qp hr)) (Qa 0) Qd) (Qy Q0 (Qa 1) Qd))) Zp.nd)
  (Qg (Jy (i:=0) (Qp hr) (Vv (Qy Q0 (Zd (Qu (Qt (Qp hr)) (Qa 0) Qd) J0 (Jz (Qa 1))) (Zd (Qu (Qt (Qp hr)) (Qa 0) Qd) (Jz (Qy Q0 (Qa 1) Qd)) J0))) Qd)
  (Qg (Xz (Yo (Ql5 hr.units) (Qa 2) (Qa 3)) (Qn (Jy (i:=0) (Qp hr) (Qy Q0 (Qu (Qt (Qp hr)) (Qa 0) Qd) Qd) Qd)) Z3)
  (Qg (Qoh (i:=0) (j:=0) (V8 (Ux [2,3] (Gi (Qu (Qt (Qp hr)) (Qa 0) Qd)) (λ_ _ _ _ _=>Qbi) (λ_ _ _ _ _=>(Q3 WJ (hr.mono (by decide)) (Qb (Qa 0) (Qb (Qa 2) (Qb (Qa 1) Qj)))))) (Vc (Qc Je) ["_law_net","_law_at","_law_one","_law_other"] (by decide +kernel))))
  (Qn (Jy (i:=0) (Qp hr) (Q3 WJ (hr.mono (by decide)) (Qb (Qu (Qt (Qp hr)) (Qa 0) Qd) (Qb (Qa 3) (Qb (Qa 2) Qj)))) Qd)))))))
theorem Qbt{K:Frag}(F:Fun K "_law_joined" "_law_joined" Je f fd)(B:Bn mg)(C1:Cal P w K mg base "_law_renamed" 1 ["_law_row","_law_old","_law_new"] (spR K Ju)):FnOk P w K mg base CX0 2 f fd ["_law_net","_law_at"] (spD0 K J8):=by
 refine Qm2 (T:=U6) F Zp rfl rfl (λds kk h=>?_) (Qdy B C1) (λds kk h=>?_)
 ·obtain⟨m,e,q,A,r,fr,rfl,_⟩:=h;rfl
 ·obtain ⟨m,e,q,A,r,fr,rfl,hm,he,hq,k⟩:=h;have cT:∀{n b:Nat}{B:Nat->Int},cutD ((Ai n).map λj=>D.int (B j)) none (some (b:Int))=((Ai n).map λj=>D.int (B j)).take b:=λ{n b B}=>by rw[Gs]
  have g1:atI ((Ai (e+2)).map λj=>D.int (A (4*m+j))) (q:Int)=some (.int (A (4*m+q))):=Qbo (by rw[Au,B2 (by lia)];rfl);have q1:(q:Int)+1=((q+1:Nat):Int):=by lia
  have q2:(q:Int)+2=((q+2:Nat):Int):=by lia
  have g2:atI ((Ai (e+2)).map λj=>D.int (A (4*m+j))) ((q+1:Nat):Int)=some (.int (A (4*m+q+1))):=Qbo (by rw[Au,B2 (by lia)];rfl);obtain⟨a,ha⟩:∃a,a=A (4*m+q):=⟨_,rfl⟩
  obtain⟨b,hb⟩:∃b,b=A (4*m+q+1):=⟨_,rfl⟩
  let B:Nat->Int:=λj=>if j<q then A (4*m+j)else A (4*m+(j+2))
  have hcut:cutD ((Ai (e+2)).map λj=>D.int (A (4*m+j))) none (some (q:Int))++cutD ((Ai (e+2)).map λj=>D.int (A (4*m+j))) (some ((q+2:Nat):Int)) none=((Ai e).map B).map D.int:=by
   rw[Gs,Gu (by rw[Ao,Db];lia)];refine Mv λj=>?_;rw[By,Au];by_cases h1:j<q
   ·rw[Dg (by simp;lia),Mb h1,Au,B2 (by lia),B2 (by lia)];show some (D.int (A (4*m+j)))=some (D.int (B j));rw[show B j=A (4*m+j)from if_pos h1]
   ·rw[Dt (by simp;lia),S3,Au];have e0:(K2 q ((Ai (e+2)).map λj=>D.int (A (4*m+j)))).length=q:=by simp;lia
    rw[e0];by_cases h2:j<e
    ·rw[B2 (by lia),B2 h2];show some (D.int (A (4*m+(q+2+(j-q)))))=some (D.int (B j));rw[show B j=A (4*m+(j+2))from if_neg h1,show q+2+(j-q)=j+2 by lia]
    ·rw[B7 (by simp;lia),B7 (by simp;lia)];rfl
  have hcr:((Ai m).map (crK A)).map (crR a b)=(Ai m).map (crK (Flt.A3 m q A)):=by
   rw[By];refine B8 λi hi=>?_;have hi:=Ay.mp hi;show D.kls (((Ai 4).map λj=>D.int (A (4*i+j))).map (rnF b a))=D.kls _;rw[By];congr 1;refine B8 λj hj=>?_;have hj:=Ay.mp hj;show D.int (if A (4*i+j)=b then a else A (4*i+j))=D.int (Flt.A3 m q A (4*i+j));unfold Flt.A3 Flt.rn;rw[if_pos (show 4*i+j<4*m+q by lia),← ha,← hb]
  have hen:(((Ai e).map B).map λx=>if x=b then a else x).map D.int=(Ai e).map λj=>D.int (Flt.A3 m q A (4*m+j)):=by
   rw [By,By];refine B8 λj hj=>?_;show D.int (if B j=b then a else B j)=D.int (Flt.A3 m q A (4*m+j));have:B j=if 4*m+j<4*m+q then A (4*m+j)else A (4*m+j+2):=by
    show(if j<q then A (4*m+j)else A (4*m+(j+2)))=_;by_cases h:j<q
    ·rw[if_pos h,if_pos (by lia)]
    ·rw[if_neg h,if_neg (by lia)];rfl
   unfold Flt.A3 Flt.rn;rw[this,← ha,← hb]
  have pe:Qm ((Ai (e+2)).map λj=>D.int (A (4*m+j)))=true:=Qh λ_ _=>rfl;simp only[U0,wSeq,wSet,Jb,wBin,env0,netD,Bc,B1,Am,Az,Bk,Nat.reduceAdd,Bt,Bz,B5,wC,Jr,Vi,wSlT,Ye,wIf,Qkd,Qq,Qe,wNil,Qz,Qay,Qeo,Z2,r_bl,Qax,look,Av,Aw,Di,Qk,true_and,Qb7,Nat.reduceLT,Qjl,Dw,Qy0,X0,Gw,Qgw,B0,Bh,Qhk,Xr,D.pure,q2,Uq,Vf,Qer,Xa,V4,q1,Qvb,g2,g1,Qoo,Zu];refine⟨pe,pe,Yl pe (Yx _ _ _),Yl pe (Yx _ _ _),?_,by rw[hcut];exact Ji,?_⟩
  ·have:=congrArg Rb hcut;rw[Bx]at this;rw[this];simp only[Ao,Db];exact Nj (big (by lia))
  rw[hcut,← ha,← hb];split
  ·skip
   refine Yw (crR a b) (by rw[Ao,Db];exact big (by lia)) (λd hd Q' hQ=>?_) ?_
   ·obtain⟨i,hi,rfl⟩:=Aq.mp hd;simp only[blkE,Bc,look,B1,Qq,Qe,wNil,Qz,Qk]at hQ ⊢;rw[Qxm]at hQ;exact⟨(Ai 4).map λj=>A (4*i+j),b,a,by rw[By];rfl,by simp,hQ⟩
   ·rw[hcr];simp only[look,Aw,Di,Qk,Qb7,Dw,true_and,X0,Vf,Qle,Am,Az,Bk,Nat.reduceAdd,Nat.zero_lt_succ,B0,Bh,Nat.reduceLT,Qjl,Av];refine⟨(Ai e).map B,b,a,rfl,by simp;lia,rfl,?_⟩;rw[hen];exact k _ (.inr rfl)
  ·skip
   refine Yw (crR a b) (by rw[Ao,Db];exact big (by lia)) (λd hd Q' hQ=>?_) ?_
   ·obtain⟨i,hi,rfl⟩:=Aq.mp hd;simp only[blkE,Bc,look,B1,Qq,Qe,wNil,Qz,Qk]at hQ ⊢;rw[Qxm]at hQ;exact⟨(Ai 4).map λj=>A (4*i+j),b,a,by rw[By];rfl,by simp,hQ⟩
   ·rw[hcr];simp only[look,Aw,Di,Qk,Qb7,Dw,true_and,X0,Vf,Qle,Am,Az,Bk,Nat.reduceAdd,Nat.zero_lt_succ,B0,Bh,Nat.reduceLT,Qjl,Av];refine⟨(Ai e).map B,b,a,rfl,by simp;lia,rfl,?_⟩;rw[hen];exact k _ (.inl rfl)
def Jv:GI:=λds k=>∃(m e q t:Nat)(A:Nat->Int)(r fr:Int),ds=[netD m e A r fr,.int q,.int t]/\m<=40/\e<=12/\q+1<e/\t<4/\k .non (netD (m+1) e (Flt.A2 m q t A fr) r (fr+2))
abbrev Jk:Stmt:=top 25
theorem Vn:FnScope ["_law_net","_law_at","_law_turn","_law_arcs"] ["_law_net","_law_at","_law_turn"] (Qc Jk):=⟨rfl,rfl,rfl,by decide +kernel,rfl,by decide +kernel,by decide +kernel⟩
def Uh:Tg:={ own:=λi=>i==0||i==3,io:=[0] }
noncomputable def Ue:WS:=(wSeq (wSet 3 (wLst (Qe (Jb (wBin dIx (wBin dIx (wVar 0) (wC (.int 1))) (wVar 1))) (Qe (Jb (wBin dIx (wVar 0) (wC (.int 3)))) (Qe (wBin Jm (wBin dIx (wVar 0) (wC (.int 3))) (wC (.int 1))) (Qe (Jb (wBin dIx (wBin dIx (wVar 0) (wC (.int 1))) (wBin Jm (wVar 1) (wC (.int 1))))) wNil))))))
 (wSeq (wTkH 0 (Vi (wBin Jm (wSlT (wVar 3) (Zo (wVar 2)) Ye) (wSlT (wVar 3) Ye (Zo (wVar 2))))))
 (wSeq (Jr 0 (Vi (wBin Jm (wBin Jm (wSlT (wBin dIx (wVar 0) (wC (.int 1))) Ye (Zo (wVar 1))) (wLst (Qe (Jb (wBin dIx (wVar 0) (wC (.int 3)))) (Qe (wBin Jm (wBin dIx (wVar 0) (wC (.int 3))) (wC (.int 1))) wNil)))) (wSlT (wBin dIx (wVar 0) (wC (.int 1))) (Zo (wBin Jm (wVar 1) (wC (.int 2)))) Ye))) (wC (.int 1)))
 (Jr 0 (wBin Jm (wBin dIx (wVar 0) (wC (.int 3))) (wC (.int 2))) (wC (.int 3))))))
theorem Qb2{K:Frag}(B:Bn mg):BO P w K mg base f 0 "_law_crossed" Jk ["_law_net","_law_at","_law_turn","_law_arcs"] Uh Ue:=λcdv A outer s H E hr=>
  (Qg (Q4 (i:=3) (Yz (Qb (Q7 (Qu (Qt (Qp hr)) (Qu (Qt (Qp hr)) (Qa 0) Qd) (Qa 1))) (Qb (Q7 (Qu (Qt (Qp hr)) (Qa 0) Qd)) (Qb (Qy Q0 (Qu (Qt (Qp hr)) (Qa 0) Qd) Qd) (Qb (Q7 (Qu (Qt (Qp hr)) (Qu (Qt (Qp hr)) (Qa 0) Qd) (Qy Q0 (Qa 1) Qd))) Qj))))) Vn.nd)
  (Qg (Quv (i:=0) (Vv (Qy Q0 (Zd (Qa 3) (Jz (Qa 2)) J0) (Zd (Qa 3) J0 (Jz (Qa 2))))))
  (Qg (Jy (i:=0) (Qp hr) (Vv (Qy Q0 (Qy Q0 (Zd (Qu (Qt (Qp hr)) (Qa 0) Qd) J0 (Jz (Qa 1))) (Yz (Qb (Q7 (Qu (Qt (Qp hr)) (Qa 0) Qd)) (Qb (Qy Q0 (Qu (Qt (Qp hr)) (Qa 0) Qd) Qd) Qj)))) (Zd (Qu (Qt (Qp hr)) (Qa 0) Qd) (Jz (Qy Q0 (Qa 1) Qd)) J0))) Qd)
  (Qn (Jy (i:=0) (Qp hr) (Qy Q0 (Qu (Qt (Qp hr)) (Qa 0) Qd) Qd) Qd)))))
theorem Qa5{K:Frag}(F:Fun K "_law_crossed" "_law_crossed" Jk f fd)(B:Bn mg):FnOk P w K mg base CX0 1 f fd ["_law_net","_law_at","_law_turn"] (spD0 K Jv):=by
 refine Qm2 (T:=Uh) F Vn rfl rfl (λds kk h=>?_) (Qb2 B) (λds kk h=>?_)
 ·obtain⟨m,e,q,t,A,r,fr,rfl,_⟩:=h;rfl
 ·obtain ⟨m,e,q,t,A,r,fr,rfl,hm,he,hq,ht,k⟩:=h;have g1:atI ((Ai e).map λj=>D.int (A (4*m+j))) (q:Int)=some (.int (A (4*m+q))):=Qbo (by rw[Au,B2 (by lia)];rfl);have q1:(q:Int)+1=((q+1:Nat):Int):=by lia
  have q2:(q:Int)+2=((q+2:Nat):Int):=by lia
  have g2:atI ((Ai e).map λj=>D.int (A (4*m+j))) ((q+1:Nat):Int)=some (.int (A (4*m+q+1))):=Qbo (by rw[Au,B2 (by lia)];rfl);have pe:Qm ((Ai e).map λj=>D.int (A (4*m+j)))=true:=Qh λ_ _=>rfl;have hcr:cutD [D.int (A (4*m+q)),D.int fr,D.int (fr+1),D.int (A (4*m+q+1))] (some (t:Int)) none++cutD [D.int (A (4*m+q)),D.int fr,D.int (fr+1),D.int (A (4*m+q+1))] none (some (t:Int))=(Ai 4).map λj=>D.int (Flt.A2 m q t A fr (4*m+j)):=by
   have z:∀j,j<4->Flt.A2 m q t A fr (4*m+j)=Flt.C4 m q A fr ((j+t)%4):=λj hj=>by
    unfold Flt.A2;rw[if_neg (by lia),if_pos (by lia),Nd]
   show _=[D.int (Flt.A2 m q t A fr (4*m+0)),.int (Flt.A2 m q t A fr (4*m+1)),.int (Flt.A2 m q t A fr (4*m+2)),.int (Flt.A2 m q t A fr (4*m+3))]
   rw[z 0 (by decide),z 1 (by decide),z 2 (by decide),z 3 (by decide)];have:t=0\/t=1\/t=2\/t=3:=by lia
   rcases this with rfl|rfl|rfl|rfl<;>rfl
  have hen:cutD ((Ai e).map λj=>D.int (A (4*m+j))) none (some (q:Int))++[D.int fr,D.int (fr+1)]++cutD ((Ai e).map λj=>D.int (A (4*m+j))) (some ((q+2:Nat):Int)) none=(Ai e).map λj=>D.int (Flt.A2 m q t A fr (4*(m+1)+j)):=by
   rw[Gs,Gu (by rw[Ao,Db];lia)];have l0:(K2 q ((Ai e).map λj=>D.int (A (4*m+j)))).length=q:=by simp;lia
   refine Mv λj=>?_;have z:Flt.A2 m q t A fr (4*(m+1)+j)=if j=q then fr else if j=q+1 then fr+1 else A (4*m+j):=by
    unfold Flt.A2;rw[if_neg (by lia),if_neg (by lia)];by_cases h1:j=q
    ·rw[if_pos h1,if_pos (by lia)]
    ·rw[if_neg h1,if_neg (by lia)];by_cases h2:j=q+1
     ·rw[if_pos h2,if_pos (by lia)]
     ·rw[if_neg h2,if_neg (by lia)];congr 1;lia
   by_cases h0:j<e
   ·rw [Au,B2 h0];show _=some (D.int (Flt.A2 m q t A fr (4*(m+1)+j)));rw[z];by_cases h1:j<q
    ·rw[Dg (by simp;lia),Dg (by lia),Mb h1,Au,B2 h0,if_neg (by lia),if_neg (by lia)];rfl
    ·by_cases h2:j<q+2
     ·rw[Dg (by simp;lia),Dt (by lia),l0];by_cases h3:j=q
      ·rw[if_pos h3,show j-q=0 by lia];rfl
      ·rw[if_neg h3,if_pos (by lia),show j-q=1 by lia];rfl
     ·rw[Dt (by simp;lia),S3,Au,if_neg (by lia),if_neg (by lia)];have e1:(K2 q ((Ai e).map λj=>D.int (A (4*m+j)))++[D.int fr,D.int (fr+1)]).length=q+2:=by rw[Bx,l0];rfl
      rw[e1,B2 (by lia),show q+2+(j-(q+2))=j by lia];rfl
   ·rw[B7 (by simp;lia),B7 (by simp;lia)]
  have p4:Qm [D.int (A (4*m+q)),D.int fr,D.int (fr+1),D.int (A (4*m+q+1))]=true:=rfl;have sz:∀{n:Nat},n<=1000->n<=sizeLine:=λh=>Nj (big h);have lc:=congrArg Rb hcr;have le:=congrArg Rb hen;rw[Bx,Ao,Db]at lc;rw[Bx,Ao,Db]at le;have l1:(cutD ((Ai e).map λj=>D.int (A (4*m+j))) none (some (q:Int))).length=q:=by rw[Gs];simp;lia
  have hm1:(Ai m).map (crK A)++[D.kls ((Ai 4).map λj=>D.int (Flt.A2 m q t A fr (4*m+j)))]=(Ai (m+1)).map (crK (Flt.A2 m q t A fr)):=by
   have ec:(Ai m).map (crK A)=(Ai m).map (crK (Flt.A2 m q t A fr)):=by
    refine B8 λi hi=>?_;have hi:=Ay.mp hi;show D.kls _=D.kls _;congr 1;refine B8 λj hj=>?_;have hj:=Ay.mp hj;show D.int (A (4*i+j))=D.int (Flt.A2 m q t A fr (4*i+j));unfold Flt.A2;rw[if_pos (by lia)]
   rw[show Ai (m+1)=Ai m++[m]from Nz,Mi,ec];rfl
  simp only[Ue,wSeq,wSet,wLst,Qe,Jb,wBin,env0,netD,Bc,B1,Am,Az,Bk,Nat.reduceAdd,Bt,Bz,B5,wC,wNil,wTkH,Vi,wSlT,Ye,Jr,sz2,Qz,Qax,true_and,look,Av,Aw,Di,Qk,Qb7,Dw,X0,Qxw,Xr,q2,Uq,Vf,B0,Qvi,Qm,Fh,Xa,V4,D.pure,Qvj,Bh,Nat.reduceLT,Qjl,Ih,Qw2,Qer,Na,q1,Qvb,g2,g1];refine⟨by decide,Qou,by rw[Ao,Db];exact big (by lia),Yl p4 (Yx _ _ _),Yl p4 (Yx _ _ _),sz (by rw[lc];decide),by rw[hcr];exact Qh λ_ _=>rfl,pe,Yl pe (Yx _ _ _),sz (by rw[l1];lia),pe,?_,Yl pe (Yx _ _ _),sz (by rw[le];lia),by rw[hen];exact Qh λ_ _=>rfl,?_⟩
  ·refine Q5.mpr λy hy=>?_;rcases Aj.mp hy with h|h
   ·exact Q5.mp pe y (Yx _ _ _ y h)
   ·exact Q5.mp (show Qm [D.int fr,D.int (fr+1)]=true from rfl) y h
  ·rw[hcr,hen,hm1];exact k
structure NI(m e:Nat)(A:Nat->Int)(r fr:Int):Prop where
 hm:m<=30
 he:e<=8
 e2:e%2=0
 rl:r<=20
 fr:∀i,i<4*m+e->A i<fr
 fl:Flt.Flat m e A
noncomputable def Zz:GI:=λds k=>∃(m e:Nat)(A:Nat->Int)(r fr n:Int),ds=[netD m e A r fr,.int n]/\0<=n/\NI m e A r fr/\∀(m' e':Nat)(A':Nat->Int)(r' fr':Int),NI m' e' A' r' fr'->k .non (netD m' e' A' r' fr')
theorem Qzs(h:∀i,i<4*m+e->A i<fr)(hq:q<=e):∀i,i<4*m+(e+2)->Flt.A1 m q A fr i<fr+1:=λi hi=>by
 unfold Flt.A1;split
 ·have:=h i (by lia);lia
 ·split
  ·lia
  ·have:=h (i-2) (by lia);lia
theorem Qzr(h:∀i,i<4*m+e->A i<fr)(hq:q+1<e):∀i,i<4*(m+1)+e->Flt.A2 m q t A fr i<fr+2:=λi hi=>by
 have h1:=h (4*m+q) (by lia);have h2:=h (4*m+q+1) (by lia);unfold Flt.A2 Flt.C4;split
 ·have:=h i (by lia);lia
 ·split
  ·split
   ·lia
   ·split
    ·lia
    ·split<;>lia
  ·split
   ·lia
   ·split
    ·lia
    ·have:=h (i-4) (by lia);lia
theorem Qzq(h:∀i,i<4*m+(e+2)->A i<fr)(hq:q<e+1):∀i,i<4*m+e->Flt.A3 m q A i<fr:=λi hi=>by
 have h1:=h (4*m+q) (by lia);have h2:(if i<4*m+q then A i else A (i+2))<fr:=by
  split
  ·exact h i (by lia)
  ·exact h (i+2) (by lia)
 unfold Flt.A3;generalize(if i<4*m+q then A i else A (i+2))=x at h2;unfold Flt.rn;split
 ·exact h1
 ·exact h2
theorem Qqt(hql:q<e):((Ai e).map λj=>D.int (A (4*m+j))).drop q++((Ai e).map λj=>D.int (A (4*m+j))).take q=(Ai e).map λj=>D.int (Flt.A4 m e q A (4*m+j)):=by
 have l0:(List.drop q ((Ai e).map λj=>D.int (A (4*m+j)))).length=e-q:=by simp
 refine Mv λj=>?_;have z:j<e->Flt.A4 m e q A (4*m+j)=if j<e-q then A (4*m+(q+j))else A (4*m+(j-(e-q))):=λhj=>by
  unfold Flt.A4;rw[if_neg (by lia),show 4*m+j-4*m+q=q+j by lia];by_cases h1:j<e-q
  ·rw[if_pos h1,Dn (by lia)]
  ·rw[if_neg h1,Oh (by lia),Dn (by lia)];congr 2;lia
 by_cases h0:j<e
 ·rw[Au,B2 h0];show _=some (D.int (Flt.A4 m e q A (4*m+j)));rw[z h0];by_cases h1:j<e-q
  ·rw[Dg (by lia),S3,Au,B2 (by lia),if_pos h1];rfl
  ·rw[Dt (by lia),l0,Mb (by lia),Au,B2 (by lia),if_neg h1];rfl
 ·rw[B7 (by simp;lia),B7 (by simp;lia)]
abbrev Yi:Stmt:=top 26
theorem Yq:FnScope ["_law_net","_law_number","_law_ends","_law_way","_law_at"] ["_law_net","_law_number"] (Qc Yi):=⟨rfl,rfl,rfl,by decide +kernel,rfl,by decide +kernel,by decide +kernel⟩
def Qap:Tg:={ own:=λi=>i==0||i==2||i==3||i==4,io:=[0] }
noncomputable def Qak:WS:=(wSeq (wSet 2 (Qq dLen (Qe (wBin dIx (wVar 0) (wC (.int 1))) wNil)))
 (wSeq (wSet 3 (wBin dMod (wVar 1) (wC (.int 5))))
 (wSeq (wSet 1 (wBin dDiv (wVar 1) (wC (.int 5))))
 (wIf (wAnd (wBl (wBin (dCmp λi j=>decide (i<j)) (wVar 2) (wC (.int 8)))) (wOr (wBl (wBin (dCmp λi j=>decide (i<j)) (wVar 2) (wC (.int 2)))) (wBl (wBin dEq (wVar 3) (wC (.int 0)))))) (wSeq (wSet 4 (wBin dMod (wVar 1) (wBin Jm (wVar 2) (wC (.int 1)))))
 (wSeq (Jr 0 (Vi (wBin Jm (wBin Jm (wSlT (wBin dIx (wVar 0) (wC (.int 1))) Ye (Zo (wVar 4))) (wLst (Qe (Jb (wBin dIx (wVar 0) (wC (.int 3)))) (Qe (Jb (wBin dIx (wVar 0) (wC (.int 3)))) wNil)))) (wSlT (wBin dIx (wVar 0) (wC (.int 1))) (Zo (wVar 4)) Ye))) (wC (.int 1)))
 (Jr 0 (wBin Jm (wBin dIx (wVar 0) (wC (.int 3))) (wC (.int 1))) (wC (.int 3))))) (wIf (wAnd (wBl (wBin (dCmp λi j=>decide (i<j)) (wVar 3) (wC (.int 4)))) (wBl (wBin (dCmp λi j=>decide (i<j)) (Qq dLen (Qe (wBin dIx (wVar 0) (wC (.int 0))) wNil)) (wC (.int 30))))) (G4 (U3 0 Jv (Qct 0 (Qe (wBin dMod (wVar 1) (wBin dSub (wVar 2) (wC (.int 1)))) (Qe (wBin dMod (wBin dDiv (wVar 1) (wC (.int 7))) (wC (.int 4))) wNil))))) (wIf (wAnd (wBl (wBin (dCmp λi j=>decide (i<j)) (wBin dIx (wVar 0) (wC (.int 2))) (wC (.int 20)))) (wBl (wBin dEq (wBin dMod (wVar 1) (wC (.int 3))) (wC (.int 0))))) (G4 (U3 0 J8 (Qct 0 (Qe (wBin dMod (wBin dDiv (wVar 1) (wC (.int 3))) (wBin dSub (wVar 2) (wC (.int 1)))) wNil)))) (Jr 0 (Vi (wBin Jm (wSlT (wBin dIx (wVar 0) (wC (.int 1))) (Zo (wBin dMod (wVar 1) (wVar 2))) Ye) (wSlT (wBin dIx (wVar 0) (wC (.int 1))) Ye (Zo (wBin dMod (wVar 1) (wVar 2)))))) (wC (.int 1)))))))))
theorem Qgt{K:Frag}(B:Bn mg)(WP:Cal P w K mg base "_law_joined" 2 ["_law_net","_law_at"] (spD0 K J8))(WM:Cal P w K mg base "_law_crossed" 1 ["_law_net","_law_at","_law_turn"] (spD0 K Jv)):BO P w K mg base f 2 "_law_deed" Yi ["_law_net","_law_number","_law_ends","_law_way","_law_at"] Qap Qak:=λcdv A outer s H E hr=>
  (Qg (Q4 (i:=2) (Jq Um B.nb_len Uo (Qb (Qu (Qt (Qp hr)) (Qa 0) Qd) Qj)) Yq.nd)
  (Qg (Q4 (i:=3) (Qy Zk (Qa 1) Qd) Yq.nd)
  (Qg (Q4 (i:=1) (Qy Qhu (Qa 1) Qd) Yq.nd)
  (Qn (Xz (Qan (Qnz (Yo Ql4 (Qa 2) Qd) (Qgr (Qan (Qxs (Yo Ql4 (Qa 2) Qd) (Qro (Yo (Ql5 hr.units) (Qa 3) Qd))))))) (Qg (Q4 (i:=4) (Qy Zk (Qa 1) (Qy Q0 (Qa 2) Qd)) Yq.nd)
  (Qg (Jy (i:=0) (Qp hr) (Vv (Qy Q0 (Qy Q0 (Zd (Qu (Qt (Qp hr)) (Qa 0) Qd) J0 (Jz (Qa 4))) (Yz (Qb (Q7 (Qu (Qt (Qp hr)) (Qa 0) Qd)) (Qb (Q7 (Qu (Qt (Qp hr)) (Qa 0) Qd)) Qj)))) (Zd (Qu (Qt (Qp hr)) (Qa 0) Qd) (Jz (Qa 4)) J0))) Qd)
  (Qn (Jy (i:=0) (Qp hr) (Qy Q0 (Qu (Qt (Qp hr)) (Qa 0) Qd) Qd) Qd)))) (Qn (Xz (Qan (Qnz (Yo Ql4 (Qa 3) Qd) (Qgr (Yo Ql4 (Jq Um B.nb_len Uo (Qb (Qu (Qt (Qp hr)) (Qa 0) Qd) Qj)) Qd)))) (Qn (Qaq (Qdr WM (hr.mono (by decide)) (Qgx (i:=0) (Qb (Qy Zk (Qa 1) (Qy Qca (Qa 2) Qd)) (Qb (Qy Zk (Qy Qhu (Qa 1) Qd) Qd) Qj)))))) (Qn (Xz (Qan (Qnz (Yo Ql4 (Qu (Qt (Qp hr)) (Qa 0) Qd) Qd) (Qgr (Yo (Ql5 hr.units) (Qy Zk (Qa 1) Qd) Qd)))) (Qn (Qaq (Qdr WP (hr.mono (by decide)) (Qgx (i:=0) (Qb (Qy Zk (Qy Qhu (Qa 1) Qd) (Qy Qca (Qa 2) Qd)) Qj))))) (Qn (Jy (i:=0) (Qp hr) (Vv (Qy Q0 (Zd (Qu (Qt (Qp hr)) (Qa 0) Qd) (Jz (Qy Zk (Qa 1) (Qa 2))) J0) (Zd (Qu (Qt (Qp hr)) (Qa 0) Qd) J0 (Jz (Qy Zk (Qa 1) (Qa 2)))))) Qd)))))))))))
noncomputable def w_d1:WS:=(wSeq (wSet 4 (wBin dMod (wVar 1) (wBin Jm (wVar 2) (wC (.int 1)))))
 (wSeq (Jr 0 (Vi (wBin Jm (wBin Jm (wSlT (wBin dIx (wVar 0) (wC (.int 1))) Ye (Zo (wVar 4))) (wLst (Qe (Jb (wBin dIx (wVar 0) (wC (.int 3)))) (Qe (Jb (wBin dIx (wVar 0) (wC (.int 3)))) wNil)))) (wSlT (wBin dIx (wVar 0) (wC (.int 1))) (Zo (wVar 4)) Ye))) (wC (.int 1)))
 (Jr 0 (wBin Jm (wBin dIx (wVar 0) (wC (.int 3))) (wC (.int 1))) (wC (.int 3)))))
def w_d2:WS:=(G4 (U3 0 Jv (Qct 0 (Qe (wBin dMod (wVar 1) (wBin dSub (wVar 2) (wC (.int 1)))) (Qe (wBin dMod (wBin dDiv (wVar 1) (wC (.int 7))) (wC (.int 4))) wNil)))))
def w_d3:WS:=(G4 (U3 0 J8 (Qct 0 (Qe (wBin dMod (wBin dDiv (wVar 1) (wC (.int 3))) (wBin dSub (wVar 2) (wC (.int 1)))) wNil))))
noncomputable def w_d4:WS:=(Jr 0 (Vi (wBin Jm (wSlT (wBin dIx (wVar 0) (wC (.int 1))) (Zo (wBin dMod (wVar 1) (wVar 2))) Ye) (wSlT (wBin dIx (wVar 0) (wC (.int 1))) Ye (Zo (wBin dMod (wVar 1) (wVar 2)))))) (wC (.int 1)))
theorem Qt9:Qak=(wSeq (wSet 2 (Qq dLen (Qe (wBin dIx (wVar 0) (wC (.int 1))) wNil)))
 (wSeq (wSet 3 (wBin dMod (wVar 1) (wC (.int 5))))
 (wSeq (wSet 1 (wBin dDiv (wVar 1) (wC (.int 5))))
 (wIf (wAnd (wBl (wBin (dCmp λi j=>decide (i<j)) (wVar 2) (wC (.int 8)))) (wOr (wBl (wBin (dCmp λi j=>decide (i<j)) (wVar 2) (wC (.int 2)))) (wBl (wBin dEq (wVar 3) (wC (.int 0)))))) w_d1 (wIf (wAnd (wBl (wBin (dCmp λi j=>decide (i<j)) (wVar 3) (wC (.int 4)))) (wBl (wBin (dCmp λi j=>decide (i<j)) (Qq dLen (Qe (wBin dIx (wVar 0) (wC (.int 0))) wNil)) (wC (.int 30))))) w_d2 (wIf (wAnd (wBl (wBin (dCmp λi j=>decide (i<j)) (wBin dIx (wVar 0) (wC (.int 2))) (wC (.int 20)))) (wBl (wBin dEq (wBin dMod (wVar 1) (wC (.int 3))) (wC (.int 0))))) w_d3 w_d4)))))):=rfl
section
variable {Pn:EndsP}{n:Int}{wy:D}{o:Option D}
theorem Qzh(I:NI m e A r fr)(he:e<8)(hn:0<=n)(hk:∀ρ,look ρ 0=some (netD m (e+2) (Flt.A1 m (n%((e:Int)+1)).toNat A fr) r (fr+1))->Pn.nx ρ):w_d1 Pn [some (netD m e A r fr),some (.int n),some (.int e),some wy,o]:=by
 have ep:(0:Int)<(e:Int)+1:=by lia
 obtain⟨q,hq⟩:∃q:Nat,n%((e:Int)+1)=(q:Int):=⟨(n%((e:Int)+1)).toNat,by have:=R6 n (show(e:Int)+1≠0 by lia);lia⟩
 have hql:q<=e:=by have:=Rh n ep;lia
 have pe:Qm ((Ai e).map λj=>D.int (A (4*m+j)))=true:=Qh λ_ _=>rfl;have sz:∀{n:Nat},n<=1000->n<=sizeLine:=λh=>Nj (big h);have l1:(cutD ((Ai e).map λj=>D.int (A (4*m+j))) none (some (q:Int))).length=q:=by rw[Gs];simp;lia
 have hen:cutD ((Ai e).map λj=>D.int (A (4*m+j))) none (some (q:Int))++[D.int fr,D.int fr]++cutD ((Ai e).map λj=>D.int (A (4*m+j))) (some (q:Int)) none=(Ai (e+2)).map λj=>D.int (Flt.A1 m q A fr (4*m+j)):=by
  rw[Gs,Gu (by rw[Ao,Db];lia)];have l0:(K2 q ((Ai e).map λj=>D.int (A (4*m+j)))).length=q:=by simp;lia
  refine Mv λj=>?_;have z:Flt.A1 m q A fr (4*m+j)=if j<q then A (4*m+j)else if j<q+2 then fr else A (4*m+(j-2)):=by
   unfold Flt.A1;by_cases h1:j<q
   ·rw[if_pos h1,if_pos (by lia)]
   ·rw[if_neg h1,if_neg (by lia)];by_cases h2:j<q+2
    ·rw[if_pos h2,if_pos (by lia)]
    ·rw[if_neg h2,if_neg (by lia)];congr 1;lia
  by_cases h0:j<e+2
  ·rw [Au,B2 h0];show _=some (D.int (Flt.A1 m q A fr (4*m+j)));rw[z];by_cases h1:j<q
   ·rw[Dg (by simp;lia),Dg (by lia),Mb h1,Au,B2 (by lia),if_pos h1];rfl
   ·rw [if_neg h1];by_cases h2:j<q+2
    ·rw[Dg (by simp;lia),Dt (by lia),l0,if_pos h2];by_cases h3:j=q
     ·rw[show j-q=0 by lia];rfl
     ·rw[show j-q=1 by lia];rfl
    ·rw[Dt (by simp;lia),S3,Au,if_neg h2];have e1:(K2 q ((Ai e).map λj=>D.int (A (4*m+j)))++[D.int fr,D.int fr]).length=q+2:=by rw[Bx,l0];rfl
     rw[e1,B2 (by lia),show q+(j-(q+2))=j-2 by lia];rfl
  ·rw[B7 (by simp;lia),B7 (by simp;lia)]
 have le:=congrArg Rb hen;rw[Bx,Ao,Db]at le;have hcr:(Ai m).map (crK A)=(Ai m).map (crK (Flt.A1 m q A fr)):=by
  refine B8 λi hi=>?_;have hi:=Ay.mp hi;show D.kls _=D.kls _;congr 1;refine B8 λj hj=>?_;have hj:=Ay.mp hj;show D.int (A (4*i+j))=D.int (Flt.A1 m q A fr (4*i+j));unfold Flt.A1;rw[if_pos (by lia)]
 rw[hq]at hk;simp only[w_d1,wSeq,wSet,wBin,netD,wC,Jr,Vi,wSlT,Ye,wLst,Qe,Jb,wNil,Am,Az,Bk,Nat.reduceAdd,sz2,Qz,Qax,true_and,look,Av,Aw,Di,Qk,Qb7,Nat.reduceLT,Qjl,Dw,Ih,Qw2,X0,Qxw,B0,Bh,Xr,D.pure,Vf,Qer,Xa,Qm,Na,V4,ep,Uk,hq,Uq];refine⟨pe,Yl pe (Yx _ _ _),sz (by rw[l1];lia),pe,?_,Yl pe (Yx _ _ _),sz (by rw[le];lia),by rw[hen];exact Qh λ_ _=>rfl,?_⟩
 ·refine Q5.mpr λy hy=>?_;rcases Aj.mp hy with h|h
  ·exact Q5.mp pe y (Yx _ _ _ y h)
  ·exact Q5.mp (show Qm [D.int fr,D.int fr]=true from rfl) y h
 ·rw[hen,hcr];exact hk _ rfl
theorem Qzg(I:NI m e A r fr)(he:2<=e)(hm:m<30)(hn:0<=n)(hk:∀ρ (q t:Nat),q+1<e->t<4->look ρ 0=some (netD (m+1) e (Flt.A2 m q t A fr) r (fr+2))->Pn.nx ρ):w_d2 Pn [some (netD m e A r fr),some (.int n),some (.int e),some wy,o]:=by
 have ep:(0:Int)<(e:Int)-1:=by lia
 obtain⟨q,hq⟩:∃q:Nat,n%((e:Int)-1)=(q:Int):=⟨(n%((e:Int)-1)).toNat,by have:=R6 n (show(e:Int)-1≠0 by lia);lia⟩
 have hql:q+1<e:=by have:=Rh n ep;lia
 obtain⟨t,ht⟩:∃t:Nat,n/7%4=(t:Int):=⟨(n/7%4).toNat,by lia⟩
 simp only[w_d2,G4,U3,Qct,look,Di,Qe,wBin,wC,wNil,Qm,Fh,true_and,Qz,Aw,Qk,Int.reduceLT,Qeq,Uk,D.pure,ht,Qfw,ep,hq];exact⟨m,e,q,t,A,r,fr,rfl,by have:=I.hm;lia,by have:=I.he;lia,hql,by lia,rfl,hk _ q t hql (by lia) rfl⟩
theorem Qzf(I:NI m (e+2) A r fr)(hn:0<=n)(hk:∀ρ (q:Nat) (r':Int),q<e+1->(r'=r\/r'=r+1)->look ρ 0=some (netD m e (Flt.A3 m q A) r' fr)->Pn.nx ρ):w_d3 Pn [some (netD m (e+2) A r fr),some (.int n),some (.int ((e+2:Nat):Int)),some wy,o]:=by
 have ep:(0:Int)<((e+2:Nat):Int)-1:=by lia
 obtain⟨q,hq⟩:∃q:Nat,n/3%(((e+2:Nat):Int)-1)=(q:Int):=⟨(n/3%(((e+2:Nat):Int)-1)).toNat,by have:=R6 (n/3) (show((e+2:Nat):Int)-1≠0 by lia);lia⟩
 have hql:q<e+1:=by have:=Rh (n/3) ep;lia
 simp only[w_d3,G4,U3,Qct,look,Di,Qe,wBin,wC,wNil,Qm,Fh,true_and,Qz,Aw,Qk,Qfw,Int.reduceLT,Qeq,ep,Uk,D.pure,hq];exact⟨m,e,q,A,r,fr,rfl,by have:=I.hm;lia,by have:=I.he;lia,hql,λr' hr=>⟨rfl,hk _ q r' hql hr rfl⟩⟩
theorem Qze(I:NI m e A r fr)(he:0<e)(hn:0<=n)(hk:∀ρ (q:Nat),q<e->look ρ 0=some (netD m e (Flt.A4 m e q A) r fr)->Pn.nx ρ):w_d4 Pn [some (netD m e A r fr),some (.int n),some (.int e),some wy,o]:=by
 have ep:(0:Int)<(e:Int):=by lia
 obtain⟨q,hq⟩:∃q:Nat,n%(e:Int)=(q:Int):=⟨(n%(e:Int)).toNat,by have:=R6 n (show(e:Int)≠0 by lia);lia⟩
 have hql:q<e:=by have:=Rh n ep;lia
 have pe:Qm ((Ai e).map λj=>D.int (A (4*m+j)))=true:=Qh λ_ _=>rfl;have h8:=I.he;have hen:cutD ((Ai e).map λj=>D.int (A (4*m+j))) (some (q:Int)) none++cutD ((Ai e).map λj=>D.int (A (4*m+j))) none (some (q:Int))=(Ai e).map λj=>D.int (Flt.A4 m e q A (4*m+j)):=by
  rw[Gs,Gu (by rw[Ao,Db];lia)];exact Qqt hql
 have le:=congrArg Rb hen;rw[Bx,Ao,Db]at le;have hcr:(Ai m).map (crK A)=(Ai m).map (crK (Flt.A4 m e q A)):=by
  refine B8 λi hi=>?_;have hi:=Ay.mp hi;show D.kls _=D.kls _;congr 1;refine B8 λj hj=>?_;have hj:=Ay.mp hj;show D.int (A (4*i+j))=D.int (Flt.A4 m e q A (4*i+j));unfold Flt.A4;rw[if_pos (by lia)]
 simp only[w_d4,Jr,Vi,wBin,wSlT,netD,wC,Ye,Qax,Qz,look,Di,Aw,Qk,Qb7,Am,Az,Bk,Nat.reduceAdd,Nat.reduceLT,Qjl,Av,true_and,ep,Uk,hq,Uq,X0,Vf,B0,Bh,Qer,Xa,V4,D.pure];refine⟨pe,pe,Yl pe (Yx _ _ _),Yl pe (Yx _ _ _),by rw[le];exact Nj (big (by lia)),by rw[hen];exact Qh λ_ _=>rfl,?_⟩;rw[hen,hcr];exact hk _ q hql rfl
end
theorem Qex{K:Frag}(F:Fun K "_law_deed" "_law_deed" Yi f fd)(B:Bn mg)(C1:Cal P w K mg base "_law_joined" 2 ["_law_net","_law_at"] (spD0 K J8))(C2:Cal P w K mg base "_law_crossed" 1 ["_law_net","_law_at","_law_turn"] (spD0 K Jv)):FnOk P w K mg base CX0 3 f fd ["_law_net","_law_number"] (spD0 K Zz):=by
 refine Qm2 (T:=Qap) F Yq rfl rfl (λds kk h=>?_) (Qgt B C1 C2) (λds kk h=>?_)
 ·obtain⟨m,e,A,r,fr,n,rfl,_⟩:=h;rfl
 ·obtain ⟨m,e,A,r,fr,n,rfl,hn,I,k⟩:=h;have h1:=I.hm;have h2:=I.he;have h3:=I.e2;have h4:=I.rl;have n5:0<=n/5:=by lia
  have hP:∀ρ d,look ρ 0=some d->kk .non d->(oget (look ρ 0) λd'=>kk .non d'):=λρ d h1 h2=>by rw[h1];exact h2
  have go1:e<8->∀{wy:D}{o:Option D} {rt},w_d1 { nx:=λρ=>oget (look ρ 0) λd'=>kk .non d',rt:=rt } [some (netD m e A r fr),some (.int (n/5)),some (.int e),some wy,o]:=λhe {wy o rt}=>by
   have hq:(n/5%((e:Int)+1)).toNat<=e:=by have:=Rh (n/5) (show(0:Int)<(e:Int)+1 by lia);lia
   exact Qzh I he n5 λρ hρ=>hP ρ _ hρ (k _ _ _ _ _ ⟨h1,by lia,by lia,h4,Qzs I.fr hq,Flt.Qm4 I.fl I.fr hq⟩)
  have go2:2<=e->m<30->∀{wy:D}{o:Option D} {rt},w_d2 { nx:=λρ=>oget (look ρ 0) λd'=>kk .non d',rt:=rt } [some (netD m e A r fr),some (.int (n/5)),some (.int e),some wy,o]:=λhe hm {wy o rt} =>
   Qzg I he hm n5 λρ q t hq ht hρ=>hP ρ _ hρ (k _ _ _ _ _ ⟨by lia,h2,h3,h4,Qzr I.fr hq,Flt.Qjq I.fl I.fr hq ht⟩)
  have go3:2<=e->r<20->∀{wy:D}{o:Option D} {rt},w_d3 { nx:=λρ=>oget (look ρ 0) λd'=>kk .non d',rt:=rt } [some (netD m e A r fr),some (.int (n/5)),some (.int e),some wy,o]:=λhe hr {wy o rt}=>by
   obtain⟨e,rfl⟩:∃e',e=e'+2:=⟨e-2,by lia⟩
   exact Qzf I n5 λρ q r' hq hr' hρ=>hP ρ _ hρ (k _ _ _ _ _ ⟨h1,by lia,by lia,by lia,Qzq I.fr hq,Flt.Qm5 I.fl hq⟩)
  have go4:2<=e->∀{wy:D}{o:Option D} {rt},w_d4 { nx:=λρ=>oget (look ρ 0) λd'=>kk .non d',rt:=rt } [some (netD m e A r fr),some (.int (n/5)),some (.int e),some wy,o]:=λhe {wy o rt} =>
   Qze I (by lia) n5 λρ q hq hρ=>hP ρ _ hρ (k _ _ _ _ _ ⟨h1,h2,h3,h4,Flt.Qx1 I.fr q,Flt.Z0 I.fl q⟩)
  have g34:2<=e->∀{wy:D}{o:Option D} {rt},if decide (r<20)=true then (if decide (n/5%3=0)=true then w_d3 { nx:=λρ=>oget (look ρ 0) λd'=>kk .non d',rt:=rt } [some (netD m e A r fr),some (.int (n/5)),some (.int e),some wy,o]else w_d4 { nx:=λρ=>oget (look ρ 0) λd'=>kk .non d',rt:=rt } [some (netD m e A r fr),some (.int (n/5)),some (.int e),some wy,o])else w_d4 { nx:=λρ=>oget (look ρ 0) λd'=>kk .non d',rt:=rt } [some (netD m e A r fr),some (.int (n/5)),some (.int e),some wy,o]:=λhe {wy o rt}=>by
   by_cases c:r<20
   ·rw[if_pos (decide_eq_true c)];by_cases c':n/5%3=0
    ·rw[if_pos (decide_eq_true c')];exact go3 he c
    ·rw[if_neg (λz=>c' (of_decide_eq_true z))];exact go4 he
   ·rw[if_neg (λz=>c (of_decide_eq_true z))];exact go4 he
  have le:((Ai e).map λj=>D.int (A (4*m+j))).length=e:=by simp
  have lm:((Ai m).map (crK A)).length=m:=by simp
  have en:D.lst [D.lst ((Ai m).map (crK A)),D.kls ((Ai e).map λj=>D.int (A (4*m+j))),D.int r,D.int fr]=netD m e A r fr:=rfl;rw[Qt9];simp only[wSeq,wSet,Qq,Qe,wBin,env0,netD,Bc,B1,Am,Az,Bk,Nat.reduceAdd,Bt,Bz,B5,wC,wNil,wIf,wAnd,wOr,r_bl,Qz,Bj,reduceIte,look,Av,Aw,Qk,X0,Qgw,B0,Bh,Qvf,Zu,Gw,Qep,lm,Int.reduceLT,Qeq,Uk,Qoo,Vf,Qu9,le];simp only[en];by_cases c1:(e:Int)<8
  ·rw [if_pos (decide_eq_true c1)];by_cases c2:(e:Int)<2
   ·rw[if_pos (decide_eq_true c2)];exact go1 (by lia)
   ·rw [if_neg (λz=>c2 (of_decide_eq_true z))];by_cases c3:n%5=0
    ·rw[if_pos (decide_eq_true c3)];exact go1 (by lia)
    ·rw [if_neg (λz=>c3 (of_decide_eq_true z))];have he:2<=e:=by lia
     by_cases c4:n%5<4
     ·rw[if_pos (decide_eq_true c4)];by_cases c5:(m:Int)<30
      ·rw[if_pos (decide_eq_true c5)];exact go2 he (by lia)
      ·rw[if_neg (λz=>c5 (of_decide_eq_true z))];exact g34 he
     ·rw[if_neg (λz=>c4 (of_decide_eq_true z))];exact g34 he
  ·rw [if_neg (λz=>c1 (of_decide_eq_true z))];have he:2<=e:=by lia
   by_cases c4:n%5<4
   ·rw[if_pos (decide_eq_true c4)];by_cases c5:(m:Int)<30
    ·rw[if_pos (decide_eq_true c5)];exact go2 he (by lia)
    ·rw[if_neg (λz=>c5 (of_decide_eq_true z))];exact g34 he
   ·rw[if_neg (λz=>c4 (of_decide_eq_true z))];exact g34 he
def Qm0:GA:=λds k=>∃ns:List Int,ds=[.kls (ns.map .int)]/\ns.length<=63/\k (.bl true)
def tpF:D->D
 | .kls xs=>.tup xs
 |d=>d
theorem isNN:dIs true D.non D.non k=k (.bl false):=rfl
theorem Qot:(webD m e A r).pure=true:=by
 have pc:Qm ((Ai m).map λk=>D.tup ((Ai 4).map λj=>.int (A (4*k+j))))=true:=Qh λ_ _=>by simp only[D.pure];exact Qh λ_ _=>rfl
 have pe:Qm ((Ai e).map λj=>D.int (A (4*m+j)))=true:=Qh λ_ _=>rfl;simp only[webD,D.pure,Qm,pc,pe,Na]
theorem Qul(hi:i<t)(hj:j<t):M.anw A t i=M.anw A t j↔A i=A j:=by
 unfold M.anw;exact⟨λh=>M.Qrh (M.Qdl hi) (M.Qdl hj) (by exact_mod_cast h),λh=>by rw[h]⟩
def shA(m e q:Nat)(A:Nat->Int):Nat->Int:=if q<e then Flt.A4 m e q A else A
theorem Qsl(F:Flt.Flat m e A)(hq:q<=e):Flt.Flat m e (shA m e q A):=by
 unfold shA;split
 ·exact Flt.Z0 F _
 ·exact F
theorem Quz(hql:q<=e):D.tup [D.tup ((Ai m).map λk=>D.tup ((Ai 4).map λj=>.int (A (4*k+j)))),D.tup (((Ai e).map λj=>D.int (A (4*m+j))).drop q++((Ai e).map λj=>D.int (A (4*m+j))).take q),D.int r]=webD m e (shA m e q A) r:=by
 by_cases hq:q<e
 ·have es:shA m e q A=Flt.A4 m e q A:=if_pos hq;rw[es];have e1:((Ai m).map λk=>D.tup ((Ai 4).map λj=>.int (A (4*k+j))))=(Ai m).map λk=>D.tup ((Ai 4).map λj=>.int (Flt.A4 m e q A (4*k+j))):=by
   refine B8 λi hi=>?_;have hi:=Ay.mp hi;congr 1;refine B8 λj hj=>?_;have hj:=Ay.mp hj;unfold Flt.A4;rw[if_pos (by lia)]
  rw[e1,Qqt hq];rfl
 ·have es:shA m e q A=A:=if_neg hq;rw[es,R7 (by simp;lia),Dc (by simp;lia),B5];rfl
abbrev G8:Stmt:=top 28
theorem Xq:FnScope ["_law_script","_law_net","_law_k","_law_cell","_law_web","_law_many","_law_some","_law_other"] ["_law_script"] (Qc G8):=⟨rfl,rfl,rfl,by decide +kernel,rfl,by decide +kernel,by decide +kernel⟩
def Quq:Tg:={ own:=λi=>i==1||i==2||i==3||i==4||i==5||i==6||i==7,io:=[] }
noncomputable def Quo:WS:=(wSeq (wSet 1 (wLst (Qe (wLst wNil) (Qe (Vi (wLst wNil)) (Qe (wC (.int 0)) (Qe (wC (.int 0)) wNil))))))
 (wSeq (wFor (Qkh (Vi (wBin Jm (wLst (Qe (wC (.int 0)) (Qe (wC (.int 1)) (Qe (wC (.int 2)) wNil)))) (wSlT (wVar 0) Ye (Zo (wC (.int 63))))))) (Qjn 2 (Ul (gN 2) (Ul (gN 3) Qjo))) (G4 (U3 1 Zz (Qct 1 (Qe (Qq Zc (Qe (wVar 3) (Qe (wVar 2) wNil))) wNil)))))
 (wSeq (wSet 4 (Jb (wTup (Qe (Qq Gq (Qe (Qcu (Qal (wBin dIx (wVar 1) (wC (.int 0)))) wAll (Qq Gq (Qe (wVar 0) wNil)) []) wNil)) (Qe (Qq Gq (Qe (wBin dIx (wVar 1) (wC (.int 1))) wNil)) (Qe (wBin dIx (wVar 1) (wC (.int 2))) wNil))))))
 (wSeq (wIf (wOr (wBl (wBin dNe (Qq Z9 (Qe (wVar 4) wNil)) (wC (.int 0)))) (wBl (wBin (dIs true) (Qq Yu (Qe (wVar 4) wNil)) (wC .non)))) (wRet (wC (.bl false))) Z2)
 (wSeq (wSet 5 (wBin dMod (Qq Qub (Qe (wVar 0) wNil)) (wBin Jm (Qq dLen (Qe (wBin dIx (wVar 4) (wC (.int 1))) wNil)) (wC (.int 1)))))
 (wSeq (wSet 6 (wLst (Qe (Qq Zy (Qe (wVar 4) wNil)) (Qe (Qq Yt (Qe (wVar 4) wNil)) (Qe (Qq Zw (Qe (wVar 4) (Qe (wVar 5) wNil))) (Qe (Qq J9 (Qe (wVar 4) wNil)) wNil))))))
 (wSeq (wFor (Qal (wBin Jm (wVar 6) (wLst (Qe (Qq J9 (Qe (Qq Zw (Qe (wVar 4) (Qe (wVar 5) wNil))) wNil)) wNil)))) (gN 7) (wIf (wBl (wBin dNe (Qq Z9 (Qe (wVar 7) wNil)) (wC (.int 0)))) (wRet (wC (.bl false))) Z2))
 (wRet (wC (.bl true))))))))))
theorem Qzl{K:Frag}{TB:List (Addr×Array Value)}(B:Bn mg)(hB:Vx mg base)(Wr:Cal P w K mg base "named_anew" 2 ["web"] (spR K Yt))(Wq:Cal P w K mg base "mirrored" 1 ["web"] (spR K Zy))(Wn:Cal P w K mg base "shifted" 1 ["web","many"] (spR K Zw))(Wd:Cal P w K mg base "holes" 6 ["web"] (spT TB (spR K Z9)))(WC:Cal P w K mg base "check_flat" 7 ["web"] (spT TB (spR K Yu)))(WF:Cal P w K mg base "_law_mixed" 1 ["_law_cell","_law_k"] (spR K Zc))(Wz:Cal P w K mg base "_law_deed" 3 ["_law_net","_law_number"] (spD0 K Zz))(Wm:Cal P w K mg base "_law_behind" 1 ["_law_web"] (spR K J9)):BT P w K mg base f fd TB 7 "law" G8 ["_law_script","_law_net","_law_k","_law_cell","_law_web","_law_many","_law_some","_law_other"] Quq Quo:=λcdv A outer s H E hr hT hcv=>
  (Qg (Q4 (i:=1) (Yz (Qb (Yz Qj) (Qb (Vv (Yz Qj)) (Qb Qd (Qb Qd Qj))))) Xq.nd)
  (Qg (Ui D5 (Qpv B.nb_enumerate (Vv (Qy Q0 (Yz (Qb Qd (Qb Qd (Qb Qd Qj)))) (Zd (Qa 0) J0 (Jz Qd))))) (Qif (Zl (Yd (i:=2) Xq.nd) (Zl (Yd (i:=3) Xq.nd) Qdo))) (Qn (Qaq (Qdr Wz (hr.mono (by decide)) (Qgx (i:=1) (Qb (Q3 WF (hr.mono (by decide)) (Qb (Qa 3) (Qb (Qa 2) Qj))) Qj))))))
  (Qg (Q4 (i:=4) (Q7 (Gp (Qb (Yv Vd B.nb_tuple Ve (Qb (V8 (Ux [] (Gi (Qu (Qt (Qp hr)) (Qa 1) Qd)) (λ_ _ _ _ _=>Qbi) (λ_ _ _ _ _=>(Yv Vd B.nb_tuple Ve (Qb (Qa 0) Qj)))) (Vc (Qc G8) ["_law_script","_law_net","_law_k","_law_cell","_law_web","_law_many","_law_some","_law_other"] (by decide +kernel))) Qj)) (Qb (Yv Vd B.nb_tuple Ve (Qb (Qu (Qt (Qp hr)) (Qa 1) Qd) Qj)) (Qb (Qu (Qt (Qp hr)) (Qa 1) Qd) Qj))))) Xq.nd)
  (Qg (Xz (Qan (Qxs (Yo (Qtp hr.units) (V9 Wd (hr.mono (by decide)) hT (Qb (Qa 4) Qj)) Qd) (Qro (Yo Qph (V9 WC (hr.mono (by decide)) hT (Qb (Qa 4) Qj)) Qxe)))) (Qn (Yy Qnb)) Z3)
  (Qg (Q4 (i:=5) (Qy Zk (Jq (Quf rfl) B.nb_sum Qxt (Qb (Qa 0) Qj)) (Qy Q0 (Jq Um B.nb_len Uo (Qb (Qu (Qt (Qp hr)) (Qa 4) Qd) Qj)) Qd)) Xq.nd)
  (Qg (Q4 (i:=6) (Yz (Qb (Q3 Wq (hr.mono (by decide)) (Qb (Qa 4) Qj)) (Qb (Q3 Wr (hr.mono (by decide)) (Qb (Qa 4) Qj)) (Qb (Q3 Wn (hr.mono (by decide)) (Qb (Qa 4) (Qb (Qa 5) Qj))) (Qb (Q3 Wm (hr.mono (by decide)) (Qb (Qa 4) Qj)) Qj))))) Xq.nd)
  (Qg (Ui D5 (Gi (Qy Q0 (Qa 6) (Yz (Qb (Q3 Wm (hr.mono (by decide)) (Qb (Q3 Wn (hr.mono (by decide)) (Qb (Qa 4) (Qb (Qa 5) Qj))) Qj)) Qj)))) (Yd (i:=7) Xq.nd) (Qn (Xz (Yo (Qtp hr.units) (V9 Wd (hr.mono (by decide)) hT (Qb (Qa 7) Qj)) Qd) (Qn (Yy Qnb)) Z3)))
  (Qn (Yy Qnb)))))))))
theorem Qv7{K:Frag}{TB:List (Addr×Array Value)}(F:Fun K "law" "law" G8 f fd)(B:Bn mg)(hB:Vx mg base)
(Wr:Cal P w K mg base "named_anew" 2 ["web"] (spR K Yt)) (Wq:Cal P w K mg base "mirrored" 1 ["web"] (spR K Zy)) (Wn:Cal P w K mg base "shifted" 1 ["web","many"] (spR K Zw)) (Wd:Cal P w K mg base "holes" 6 ["web"] (spT TB (spR K Z9))) (WC:Cal P w K mg base "check_flat" 7 ["web"] (spT TB (spR K Yu))) (WF:Cal P w K mg base "_law_mixed" 1 ["_law_cell","_law_k"] (spR K Zc)) (Wz:Cal P w K mg base "_law_deed" 3 ["_law_net","_law_number"] (spD0 K Zz)) (Wm:Cal P w K mg base "_law_behind" 1 ["_law_web"] (spR K J9)):FnOk P w K mg base CX0 8 f fd ["_law_script"] (spT TB (spR K Qm0)):=by
 refine Qe5 (T:=Quq) F Xq rfl (by decide) (λds kk h=>?_) (Qzl B hB Wr Wq Wn Wd WC WF Wz Wm) (λds kk h=>?_)
 ·obtain⟨ns,rfl,_⟩:=h;rfl
 ·obtain ⟨ns,rfl,hl,k⟩:=h;have ecut:cutD (ns.map D.int) none (some 63)=ns.map D.int:=by
   have:cutD (ns.map D.int) none (some ((63:Nat):Int))=_:=Gs;rw[show(63:Int)=((63:Nat):Int)from rfl,this,Dc (by rw[Ao];exact hl)]
  have sz:∀{n:Nat},n<=1000->n<=sizeLine:=λh=>Nj (big h);have el:D.int 0::D.int 1::D.int 2::ns.map D.int=(0::1::2::ns).map D.int:=rfl;simp only[Quo,wSeq,wSet,wLst,Qe,wNil,Az,sz0,Vi,wC,Am,Bk,Nat.reduceAdd,env0,Bc,B1,Bt,Bz,B5,Av,Aw,Qbs,Qkh,wBin,sz3,wSlT,Ye,Qax,Uq,Qz,look,Qk,Qer,ecut,Xa,Qm,D.pure,Na,V4,Ix,Qsw,true_and];rw[el];refine⟨by decide,Ji,Ji,sz (by rw[Ao];lia),Ji,Ji,Vp Ji,λi ρ=>∃(m e:Nat)(A:Nat->Int)(r fr:Int)(o2 o3:Option D),NI m e A r fr/\ρ=[some (.kls (ns.map .int)),some (netD m e A r fr),o2,o3,none,none,none,none],⟨0,0,λ_=>0,0,0,none,none,⟨by decide,by decide,rfl,by decide,λi hi=>absurd hi (by lia),Flt.Qm3⟩,rfl⟩,?_,?_⟩
  ·rintro i d ρ hd ⟨m,e,A,r,fr,o2,o3,I,rfl⟩;rw[Ze,Au]at hd;cases hx:(0::1::2::ns)[i]? with
   |none=>rw[hx]at hd;cases hd
   | some x=>
    rw[hx]at hd;have hd:=(Bq hd).symm;subst hd;have hi:i<66:=by have:=(Be.mp hx).1;simp at this;lia
    simp only[Bk,G4,U3,Qct,Qe,Qq,wNil,Qm,Fh,true_and,Qz,Qhn,Am,Az,Nat.reduceAdd,Qc0,gN,Av,Aw,Qho,look,Di,Qk];refine⟨x,(i:Int),rfl,by lia,by lia,λq hq=>⟨rfl,?_⟩⟩;rw[show ∀k,Qpn (netD m e A r fr) k=k _ fromλk=>rfl];exact⟨m,e,A,r,fr,q,rfl,hq,I,λm' e' A' r' fr' I'=>⟨rfl,m',e',A',r',fr',_,_,I',rfl⟩⟩
  ·rintro ρ ⟨m,e,A,r,fr,o2,o3,I,rfl⟩;have h1:=I.hm;have h2:=I.he;have h3:=I.e2;have pc:Qm ((Ai m).map λk=>D.tup ((Ai 4).map λj=>.int (A (4*k+j))))=true:=Qh λ_ _=>by simp only[D.pure];exact Qh λ_ _=>rfl
   have pe:Qm ((Ai e).map λj=>D.int (A (4*m+j)))=true:=Qh λ_ _=>rfl;have ecr:((Ai m).map (crK A)).map tpF=(Ai m).map λk=>D.tup ((Ai 4).map λj=>.int (A (4*k+j))):=by
    rw[By];rfl
   have ew:D.tup [D.tup ((Ai m).map λk=>D.tup ((Ai 4).map λj=>.int (A (4*k+j)))),D.tup ((Ai e).map λj=>D.int (A (4*m+j))),D.int r]=webD m e A r:=rfl;simp only[wSeq,wSet,Jb,wTup,Qe,Qq,netD,wNil,wBin,wC,Am,Az,Bk,Nat.reduceAdd,sz3,D.pure,Qm,Fh,wIf,wOr,wRet,Z2,wLst,Qbs,Qeo,sz1,true_and,Qz,reduceIte,r_bl,Qay,look,Qk,X0,Gw,Bh,Qhk];refine Yw tpF (by rw[Ao,Db];exact big (by lia)) (λd hd Q' hQ=>?_) ?_
   ·obtain⟨i,hi,rfl⟩:=Aq.mp hd;simp only[crK,blkE,B1,Qq,Qe,wNil,Qz,look,Qk]at hQ ⊢;exact⟨Qh λ_ _=>rfl,hQ⟩
   ·rw [ecr];simp only[look,Av,Aw,Qk,Xa,Qm,Fh,Am,Az,Bk,Nat.reduceAdd,Bz,B5,Qhk,Up,Vf,B0,Bh,Qoq,X0,Qgw,D.pure,Qen];refine⟨pc,pe,by simp only[D.pure,pc,pe,Na],?_⟩;simp only[ew];refine⟨m,e,A,r,rfl,by lia,by lia,h3,I.fl,?_⟩;simp only[Qhm,Xr,Qu6,Zu];refine⟨m,e,A,r,rfl,by lia,by lia,h3,I.fl,?_⟩;simp only[isNN,Zu,Bj,reduceIte];have le:((Ai e).map λj=>D.int (A (4*m+j))).length=e:=by simp
    have ep:(0:Int)<(e:Int)+1:=by lia
    obtain⟨q,hq⟩:∃q:Nat,ns.sum%((e:Int)+1)=(q:Int):=⟨(ns.sum%((e:Int)+1)).toNat,by have:=R6 ns.sum (show(e:Int)+1≠0 by lia);lia⟩
    have hql:q<=e:=by have:=Rh ns.sum ep;lia
    have esh:D.tup [D.tup ((Ai m).map λk=>D.tup ((Ai 4).map λj=>.int (A (4*k+j)))),D.tup (((Ai e).map λj=>D.int (A (4*m+j))).drop q++((Ai e).map λj=>D.int (A (4*m+j))).take q),D.int r]=webD m e (shA m e q A) r:=Quz hql;simp only[le,ep,Uk,hq];refine⟨m,e,A,r,rfl,by lia,⟨m,e,A,r,rfl,by lia,by lia,⟨_,_,r,q,rfl,pc,pe,by rw[le];exact hql,by rw[le];lia,?_⟩⟩⟩;rw[esh];refine⟨m,e,A,r,rfl,by lia,by lia,by decide,⟨_,_,r,q,rfl,pc,pe,by rw[le];exact hql,by rw[le];lia,?_⟩⟩;rw[esh];refine⟨m,e,shA m e q A,r,rfl,by lia,by lia,?_⟩;have fs:=Qsl I.fl hql;simp only[Qot,Na,true_and];refine⟨by decide,λi ρ=>∃o7:Option D,ρ=[some (.kls (ns.map .int)),some (D.lst [D.lst ((Ai m).map (crK A)),D.kls ((Ai e).map λj=>D.int (A (4*m+j))),D.int r,D.int fr]),o2,o3,some (webD m e A r),some (.int q),some (D.lst [webD m e (mirA m A) r,webD m e (M.anw A (4*m+e)) r,webD m e (shA m e q A) r,webD m e (Flt.A6 m e A) r]),o7],⟨none,rfl⟩,?_,?_⟩
    ·rintro i d ρ hd ⟨o7,rfl⟩;obtain⟨A',rfl,fl⟩:∃A',d=webD m e A' r/\Flt.Flat m e A':=by
      rcases Du hd with _|⟨_,_|⟨_,_|⟨_,_|⟨_,_|⟨_,h⟩⟩⟩⟩⟩
      ·exact⟨_,rfl,Flt.Qgk I.fl⟩
      ·exact⟨_,rfl,I.fl.named λi j hi hj=>Qul hi hj⟩
      ·exact⟨_,rfl,fs⟩
      ·exact⟨_,rfl,Flt.Qbf I.fl⟩
      ·exact⟨_,rfl,Flt.Qbf fs⟩
      ·cases h
     simp only[gN,wIf,Av,Aw,wRet,wC,Z2,r_bl,wBin,Qq,Qe,wNil,Qz,look,Qk];refine⟨m,e,A',r,rfl,by lia,by lia,h3,fl,?_⟩;simp only[Qu6,Zu];exact⟨_,rfl⟩
    ·rintro ρ ⟨o7,rfl⟩;simp only[wRet,wC];exact k
def Lk(K:Frag)(f:Addr)(x:Str)(st:Stmt):Prop:=∃oc od kV dc pm an cd ct sl,K.lookup f=some ⟨oc,od,.func (fnOf x x (Vb st) (Qs st) (Qc st) .none kV dc pm an cd ct),sl⟩/\codeIn K cd x=true
theorem Lk.fn{K:Frag}{x:Str}(h:Lk K f x st)(k:keepIn K (.ref f)=true):∃fd,Fun K x x st f fd:=by
 obtain⟨oc,od,kV,dc,pm,an,cd,ct,sl,l,c⟩:=h;exact⟨_,Qig l c k⟩
theorem Qxx{f1 f2 f3 f4 f5 f6 f7 f8 f9 f10 f11 f12 f13 f14 f15 f16 f17 f18 f19 f20 f21 f22 f23:Addr}{od10 an10 od14 an14 od23 an23:Option Addr}{sl10 sl14 sl23:Array (Option Value)}{oc10 kV10 dc10 pm10 cd10 ct10 oc14 kV14 dc14 pm14 cd14 ct14 oc23 kV23 dc23 pm23 cd23 ct23:Value}{A5:Tok}{K:Frag}(X:K.In h)(G:h.Ns mainGlobals mg)(hfa:mg "law" = some (.ref fa))
  (a1:atN K "places" f1) (l1:Lk K f1 "places" V1) (k1:keepIn K (.ref f1)=true)
  (a2:atN K "renamed" f2) (l2:Lk K f2 "renamed" Y7) (k2:keepIn K (.ref f2)=true)
  (a3:atN K "named_anew" f3) (l3:Lk K f3 "named_anew" Js) (k3:keepIn K (.ref f3)=true)
  (a4:atN K "mirrored" f4) (l4:Lk K f4 "mirrored" Yg) (k4:keepIn K (.ref f4)=true)
  (a5:atN K "shifted" f5) (l5:Lk K f5 "shifted" Zs) (k5:keepIn K (.ref f5)=true)
  (a6:atN K "twins" f6) (l6:Lk K f6 "twins" G7) (k6:keepIn K (.ref f6)=true)
  (a7:atN K "dart_next_to" f7) (l7:Lk K f7 "dart_next_to" Jj) (k7:keepIn K (.ref f7)=true)
  (a8:atN K "face_from" f8) (l8:Lk K f8 "face_from" Yh) (k8:keepIn K (.ref f8)=true)
  (a9:atN K "parted" f9) (l9:Lk K f9 "parted" V2) (k9:keepIn K (.ref f9)=true)
  (a10:atN K "faces" f10) (l10:K.lookup f10=some ⟨oc10,od10,.func (fnOf "faces" "faces" (Vb Z4) (Qs Z4) (Qc Z4) .none kV10 dc10 pm10 an10 cd10 ct10),sl10⟩) (c10:codeIn K cd10 "faces" = true) (k10:keepIn K (.ref f10)=true)
  (a11:atN K "neighbours" f11) (l11:Lk K f11 "neighbours" J4) (k11:keepIn K (.ref f11)=true)
  (a12:atN K "piece_from" f12) (l12:Lk K f12 "piece_from" J3) (k12:keepIn K (.ref f12)=true)
  (a13:atN K "parted" f13) (l13:Lk K f13 "parted" Zt) (k13:keepIn K (.ref f13)=true)
  (a14:atN K "pieces" f14) (l14:K.lookup f14=some ⟨oc14,od14,.func (fnOf "pieces" "pieces" (Vb Y3) (Qs Y3) (Qc Y3) .none kV14 dc14 pm14 an14 cd14 ct14),sl14⟩) (c14:codeIn K cd14 "pieces" = true) (k14:keepIn K (.ref f14)=true)
  (a15:atN K "holes" f15) (l15:Lk K f15 "holes" G9) (k15:keepIn K (.ref f15)=true)
  (a16:atN K "check_flat" f16) (l16:Lk K f16 "check_flat" J6) (k16:keepIn K (.ref f16)=true)
  (a17:atN K "_law_mixed" f17) (l17:Lk K f17 "_law_mixed" J7) (k17:keepIn K (.ref f17)=true)
  (a18:atN K "_law_renamed" f18) (l18:Lk K f18 "_law_renamed" Jc) (k18:keepIn K (.ref f18)=true)
  (a19:atN K "_law_joined" f19) (l19:Lk K f19 "_law_joined" Je) (k19:keepIn K (.ref f19)=true)
  (a20:atN K "_law_crossed" f20) (l20:Lk K f20 "_law_crossed" Jk) (k20:keepIn K (.ref f20)=true)
  (a21:atN K "_law_deed" f21) (l21:Lk K f21 "_law_deed" Yi) (k21:keepIn K (.ref f21)=true)
  (a22:atN K "_law_behind" f22) (l22:Lk K f22 "_law_behind" Jf) (k22:keepIn K (.ref f22)=true)
  (a23:atN K "law" f23) (l23:K.lookup f23=some ⟨oc23,od23,.func (fnOf "law" "law" (Vb G8) (Qs G8) (Qc G8) .none kV23 dc23 pm23 an23 cd23 ct23),sl23⟩) (c23:codeIn K cd23 "law" = true) (k23:keepIn K (.ref f23)=true)
  (Ac:nsIn K mainGlobals "enumerate" = some none)
  (Ad:nsIn K mainGlobals "int" = some none)
  (A8:nsIn K mainGlobals "len" = some none)
  (Ab:nsIn K mainGlobals "range" = some none)
  (A6:nsIn K mainGlobals "reversed" = some none)
  (A7:nsIn K mainGlobals "sorted" = some none)
  (Ae:nsIn K mainGlobals "sum" = some none)
  (A9:nsIn K mainGlobals "tuple" = some none)
  (Af:nsIn K mainGlobals "RIM" = some (some (.int (-1) A5))) (Ag:cd14=.ref A0) (Aa:cd10=.ref A1) (A2:ts=[Wa,Wb]) (A3:M9 K A0 Wa=true) (A4:M9 K A1 Wb=true)
  : ∃fd:FuncData,(∀(s:Shared)(v:Value),BindsTo s fd ⟨[v],[]⟩ [("_law_script",v)])/\(∀p∈TBof ts,∃c,M9 K c p.1=true)/\∀base:Heap,K.In base->base.Ns mainGlobals mg->Vx mg base->FnOk l.prog w K mg base CX0 8 fa fd ["_law_script"] (spT (TBof ts) (spR K Qm0)):=by
 have e:=hfa.symm.trans (mg_of X G a23);cases e;have B:Bn mg:=⟨Sl X G Ac,Sl X G Ad,Sl X G A8,Sl X G Ab,Sl X G A6,Sl X G A7,Sl X G Ae,Sl X G A9,⟨A5,mg_of X G Af⟩⟩
 obtain⟨_,F1⟩:=l1.fn k1;obtain⟨_,F2⟩:=l2.fn k2;obtain⟨_,F3⟩:=l3.fn k3;obtain⟨_,F4⟩:=l4.fn k4;obtain⟨_,F5⟩:=l5.fn k5;obtain⟨_,F6⟩:=l6.fn k6;obtain⟨_,F7⟩:=l7.fn k7;obtain⟨_,F8⟩:=l8.fn k8;obtain⟨_,F9⟩:=l9.fn k9;have F10:=Qig (st:=Z4) l10 c10 k10;obtain⟨_,F11⟩:=l11.fn k11;obtain⟨_,F12⟩:=l12.fn k12;obtain⟨_,F13⟩:=l13.fn k13;have F14:=Qig (st:=Y3) l14 c14 k14;obtain⟨_,F15⟩:=l15.fn k15;obtain⟨_,F16⟩:=l16.fn k16;obtain⟨_,F17⟩:=l17.fn k17;obtain⟨_,F18⟩:=l18.fn k18;obtain⟨_,F19⟩:=l19.fn k19;obtain⟨_,F20⟩:=l20.fn k20;obtain⟨_,F21⟩:=l21.fn k21;obtain⟨_,F22⟩:=l22.fn k22;have F23:=Qig (st:=G8) l23 c23 k23;refine⟨fnOf "law" "law" (Vb G8) (Qs G8) (Qc G8) .none kV23 dc23 pm23 an23 cd23 ct23,λs v=>.of_eq rfl,(λp hp=>by subst A2;simp only[TBof,Oi,List.zip_nil_left,Ar,List.not_mem_nil,or_false]at hp;rcases hp with rfl|rfl;exact⟨_,A3⟩;exact⟨_,A4⟩),λbase _ _ hB=>?_⟩;have Wi:(Wa,tgOf Gf Jh.qual)∈TBof ts:=by rw[A2];simp[TBof]
 have Wj:(Wb,tgOf Qab J2.qual)∈TBof ts:=by rw[A2];simp[TBof]
 have C16:Cal l.prog w K mg base "places" 1 ["web"] (spR K Jg):=⟨f1,_,Qlz F1 B,mg_of X G a1,k1,F1.binds λ_ _ _ _ _ _ us hl=>by obtain⟨_,rfl⟩:=len1 hl;rfl⟩
 have C15:Cal l.prog w K mg base "renamed" 1 ["arcs","names"] (spR K Zx):=⟨f2,_,Qjf F2 B,mg_of X G a2,k2,F2.binds λ_ _ _ _ _ _ us hl=>by obtain⟨_,_,rfl⟩:=len2 hl;rfl⟩
 have C8:Cal l.prog w K mg base "named_anew" 2 ["web"] (spR K Yt):=⟨f3,_,Qc7 F3 B C16 C15,mg_of X G a3,k3,F3.binds λ_ _ _ _ _ _ us hl=>by obtain⟨_,rfl⟩:=len1 hl;rfl⟩
 have C12:Cal l.prog w K mg base "mirrored" 1 ["web"] (spR K Zy):=⟨f4,_,Qf2 F4 B,mg_of X G a4,k4,F4.binds λ_ _ _ _ _ _ us hl=>by obtain⟨_,rfl⟩:=len1 hl;rfl⟩
 have C14:Cal l.prog w K mg base "shifted" 1 ["web","many"] (spR K Zw):=⟨f5,_,Qje F5 B,mg_of X G a5,k5,F5.binds λ_ _ _ _ _ _ us hl=>by obtain⟨_,_,rfl⟩:=len2 hl;rfl⟩
 have C19:Cal l.prog w K mg base "twins" 2 ["web"] (spR K Qbd):=⟨f6,_,Qpe F6 B C16,mg_of X G a6,k6,F6.binds λ_ _ _ _ _ _ us hl=>by obtain⟨_,rfl⟩:=len1 hl;rfl⟩
 have C2:Cal l.prog w K mg base "dart_next_to" 1 ["web","place"] (spR K Jl):=⟨f7,_,Qa3 F7 B,mg_of X G a7,k7,F7.binds λ_ _ _ _ _ _ us hl=>by obtain⟨_,_,rfl⟩:=len2 hl;rfl⟩
 have C11:Cal l.prog w K mg base "face_from" 2 ["web","others","dart"] (spR K Va):=⟨f8,_,Qew F8 B C2,mg_of X G a8,k8,F8.binds λ_ _ _ _ _ _ us hl=>by obtain⟨_,_,_,rfl⟩:=len3 hl;rfl⟩
 have Wh:X4 l.prog w K mg base 3 J2 (spR K Go):=Qmh B C11;have C18:Cal l.prog w K mg base "parted" 4 ["members","group_from"] (spR K Gm):=⟨f9,_,Ql1 F9 B Wh,mg_of X G a9,k9,F9.binds λ_ _ _ _ _ _ us hl=>by obtain⟨_,_,rfl⟩:=len2 hl;rfl⟩
 have C21:Cal l.prog w K mg base "faces" 5 ["web"] (spT (TBof ts) (spR K Qbe)):=⟨f10,_,Qpg F10 B hB C19 C18 (Wg:=A1) Aa A4 Wj,mg_of X G a10,k10,F10.binds λ_ _ _ _ _ _ us hl=>by obtain⟨_,rfl⟩:=len1 hl;rfl⟩
 have C5:Cal l.prog w K mg base "neighbours" 2 ["web"] (spR K Ys):=⟨f11,_,Qc6 F11 B C16,mg_of X G a11,k11,F11.binds λ_ _ _ _ _ _ us hl=>by obtain⟨_,rfl⟩:=len1 hl;rfl⟩
 have C9:Cal l.prog w K mg base "piece_from" 1 ["beside","first"] (spR K Zm):=⟨f12,_,Qc5 F12 B,mg_of X G a12,k12,F12.binds λ_ _ _ _ _ _ us hl=>by obtain⟨_,_,rfl⟩:=len2 hl;rfl⟩
 have Wl:X4 l.prog w K mg base 2 Jh (spR K Vu):=Qjk B C9;have C13:Cal l.prog w K mg base "parted" 3 ["members","group_from"] (spR K Vt):=⟨f13,_,Qjg F13 B Wl,mg_of X G a13,k13,F13.binds λ_ _ _ _ _ _ us hl=>by obtain⟨_,_,rfl⟩:=len2 hl;rfl⟩
 have C17:Cal l.prog w K mg base "pieces" 4 ["web"] (spT (TBof ts) (spR K Gk)):=⟨f14,_,Ql0 F14 B hB C5 C13 (Wf:=A0) Ag A3 Wi,mg_of X G a14,k14,F14.binds λ_ _ _ _ _ _ us hl=>by obtain⟨_,rfl⟩:=len1 hl;rfl⟩
 have C20:Cal l.prog w K mg base "holes" 6 ["web"] (spT (TBof ts) (spR K Z9)):=⟨f15,_,Qpf F15 B hB C16 C21 C17,mg_of X G a15,k15,F15.binds λ_ _ _ _ _ _ us hl=>by obtain⟨_,rfl⟩:=len1 hl;rfl⟩
 have C6:Cal l.prog w K mg base "check_flat" 7 ["web"] (spT (TBof ts) (spR K Yu)):=⟨f16,_,Qc8 F16 B hB C20,mg_of X G a16,k16,F16.binds λ_ _ _ _ _ _ us hl=>by obtain⟨_,rfl⟩:=len1 hl;rfl⟩
 have C7:Cal l.prog w K mg base "_law_mixed" 1 ["_law_cell","_law_k"] (spR K Zc):=⟨f17,_,Qc9 F17 B,mg_of X G a17,k17,F17.binds λ_ _ _ _ _ _ us hl=>by obtain⟨_,_,rfl⟩:=len2 hl;rfl⟩
 have C1:Cal l.prog w K mg base "_law_renamed" 1 ["_law_row","_law_old","_law_new"] (spR K Ju):=⟨f18,_,Qa4 F18 B,mg_of X G a18,k18,F18.binds λ_ _ _ _ _ _ us hl=>by obtain⟨_,_,_,rfl⟩:=len3 hl;rfl⟩
 have C3:Cal l.prog w K mg base "_law_joined" 2 ["_law_net","_law_at"] (spD0 K J8):=⟨f19,_,Qbt F19 B C1,mg_of X G a19,k19,F19.binds λ_ _ _ _ _ _ us hl=>by obtain⟨_,_,rfl⟩:=len2 hl;rfl⟩
 have C0:Cal l.prog w K mg base "_law_crossed" 1 ["_law_net","_law_at","_law_turn"] (spD0 K Jv):=⟨f20,_,Qa5 F20 B,mg_of X G a20,k20,F20.binds λ_ _ _ _ _ _ us hl=>by obtain⟨_,_,_,rfl⟩:=len3 hl;rfl⟩
 have C10:Cal l.prog w K mg base "_law_deed" 3 ["_law_net","_law_number"] (spD0 K Zz):=⟨f21,_,Qex F21 B C3 C0,mg_of X G a21,k21,F21.binds λ_ _ _ _ _ _ us hl=>by obtain⟨_,_,rfl⟩:=len2 hl;rfl⟩
 have C4:Cal l.prog w K mg base "_law_behind" 1 ["_law_web"] (spR K J9):=⟨f22,_,Qbu F22 B,mg_of X G a22,k22,F22.binds λ_ _ _ _ _ _ us hl=>by obtain⟨_,rfl⟩:=len1 hl;rfl⟩
 exact Qv7 F23 B hB C8 C12 C14 C20 C6 C7 C10 C4
theorem Qwq{K:Frag}{a:Addr}(hl:ns.length<=63)(ho:Qqk H)(hT:Tabs (TBof ts) H)(hS:SqL K H a (ns.map V.int)):spT (TBof ts) (spR K Qm0) [.ref a] H (λv _=>v=.bl true) λ_ _ _=>False:=by
 have fz:FzL K H a (ns.map V.int):=by
  rcases hS with(h|h)|h
  ·rcases ho a with z|⟨o,xs,z⟩|⟨ps,z⟩
   ·rw[z]at h;cases h
   ·rw[z]at h;cases h
   ·rw[z]at h;cases h
  ·exact .inl h
  ·exact .inr h
 refine⟨hT,[.kls (ns.map .int)],[],λd=>d=.bl true,?_,⟨ns,rfl,hl,rfl⟩,λv H' d F' fi hd=>?_⟩
 ·exact .cons (F:=[]) (G:=[]) (.kls fz (Reps.ints ns)) .nil
 ·subst hd;exact Qqv fi.rep
theorem Qcd:∀{ts:List Addr}{vs:List (Array Value)},ts.Nodup->∀p∈ts.zip vs,(ts.zip vs).lookup p.1=some p.2
 | [],_,_,p,hp=>by simp at hp
 |_::_,[],_,p,hp=>by simp at hp
 | a::ts,v::vs,hd,p,hp=>by
  obtain⟨h1,h2⟩:=Bd.mp hd;rw[Oi]at hp ⊢;rw[D2];rcases Ar.mp hp with rfl|hp
  ·simp
  ·have:(p.1==a)=false:=beq_eq_false_iff_ne.mpr λz=>h1 (z ▸ (Sr hp).1);rw[this];exact Qcd h2 p hp
theorem walk{q:Program}{d:DefRec}{K:Params->Frag}{e:∀P,as=(K P).map (·.1)}(hn:l.most=some 63)(hdf:d.params.defaults=[])
  (hnt:∀w:World,noTabs (K w.params)=true) (hnd:ts.Nodup)
  (F:∀(w:World)(mg:Str->Option Value)(fa:Addr)(h:Heap),(K w.params).In h->h.Ns mainGlobals mg->mg d.name=some (.ref fa) ->
   ∃fd:FuncData,(∀(s:Shared)(u:Value),BindsTo s fd ⟨[u],[]⟩ [("_law_script",u)])/\(∀p∈TBof ts,∃c,M9 (K w.params) c p.1=true)/\∀base:Heap,(K w.params).In base->base.Ns mainGlobals mg->Vx mg base->FnOk l.prog w (K w.params) mg base CX0 8 fa fd ["_law_script"] (spT (TBof ts) (spR (K w.params) Qm0))) :
  PySem.W.WalkO q loose XP (PySem.W.kmHook K as e ts).says l.row.toRowW d [] (λf vs=>Oy f vs) :=
 L2.Qob (n:=63) (k:=8) (x:="_law_script") (CX:=λ_=>CX0) (TB:=TBof ts) (sp:=λw=>spT (TBof ts) (spR (K w.params) Qm0)) hn (by decide) hdf ⟨rfl,by decide,by decide⟩ (λw h Y=>PySem.W.km_in_of Y)
  (λw h Y p hp=>PySem.W.km_tabs_of Y p.1 (Sr hp).1) hnt (Qcd hnd) F (λ_ _ a ns hl ho ht hS=>Qwq hl ho ht hS) λ_ _ _ _ _ z=>z
end K15
end
open PySem PySem.W PyProof.Rows
namespace PySem.W.Fast
def tw11354353168100712583:=0
def tw10806838456497370125:=0
def tw2335100112241040786:=0
def tw5310529126209443529:=0
def tw6847980385043673005:=0
def tw12280035771697484699:=0
def tw449220042627402946:=0
def tw3276320365732732816:=0
def tw16360075515499917237:=0
def tw7475103235080468836:=0
def tw14933958747058959322:=0
def tw6565501998779792873:=0
def tw14626859213808972494:=0
def tw16659466805156207602:=0
def tw9129496115433634252:=0
def tw1930641401732692057:=0
def tw18140273582880042849:=0
def tw10350352579063716099:=0
def tw6882061319041261525:=0
def tw17533694114397471003:=0
def tw17112732601398295685:=0
def tw6301482428420427228:=0
def tw9107268160863498365:=0
def tw1791606144217742644:=0
def tw7210782258434756884:=0
def tw8603670185645797003:=0
def tw12552238148511085208:=0
def tw4170075191143935744:=0
def tw10942617095941599569:=0
def tw11551243840517642837:=0
def tw2967242494402203488:=0
def tw14131661775732926167:=0
def tw16573034509033272197:=0
def tw8692350470536549970:=0
def tw720486814407058486:=0
def tw10978686613682340880:=0
def tw12164415915142250808:=0
def tw135068619941394939:=0
def tw10846899465835873359:=0
def tw6967681019778106629:=0
def tw3087806141916752394:=0
def tw8636596958347306439:=0
def tw5376959435512495978:=0
def tw47173901817811805:=0
def tw18310784977609497206:=0
def tw3463932381489854483:=0
def tw396840004562973664:=0
def tw17064650809090721742:=0
def tw15249696698615254215:=0
def tw17960899882542909132:=0
def tw16309372187706054995:=0
def tw14796851070989659129:=0
def tw16168728852465930156:=0
def tw17220775566267631098:=0
def tw8756738432077181507:=0
def tw849899985734568456:=0
def tw3627352058848792516:=0
def tw9538910692728222551:=0
def tw1657279983345585702:=0
def tw17062626253987058472:=0
def tw11224161888678616894:=0
def tw9037812881120825436:=0
def tw15934475716007055355:=0
def tw3453473820458168097:=0
def tw15725613992787068597:=0
def tw5182899485969830087:=0
def tw5718690823726927190:=0
def tw4596768583447576726:=0
def tw8423221441815755987:=0
def tw15683577678797790120:=0
def tw10124679848682754117:=0
def tw14947711662300025342:=0
def tw13961638286918806928:=0
def tw656427674347456078:=0
def tw8773675704505803927:=0
def tw15141909984332129599:=0
def tw9634310855864508025:=0
def tw12122807217968923716:=0
def tw17488219817468475688:=0
def tw1788206511710249291:=0
def tw12983631499619201438:=0
def tw3685809016769054581:=0
def tw3949779397117999949:=0
def tw4040072929342675140:=0
def tw8204865177220542000:=0
def tw1793483642899134265:=0
def tw14592657920066490659:=0
def tw16756671074004057952:=0
def tw13895668243708436530:=0
def tw581955961186655310:=0
def tw4077575703885453604:=0
def tw2626965388899288445:=0
def tw15291440513265802398:=0
def tw4084639854251575710:=0
def tw4007117195444109671:=0
def tw14360175596919295891:=0
def tw6776503763605288657:=0
def tw14311648765723667677:=0
def tw149668471246334966:=0
def tw3700056251025329927:=0
def tw13858241654179138043:=0
def tw3530843228712891203:=0
def tw12637315653615889186:=0
def tw14779501454261653543:=0
def tw10943924301455983554:=0
def tw4223140230620631775:=0
def tw8594938522406145228:=0
def tw12666023247757971728:=0
def tw6790813134548292364:=0
def tw16879573210181190604:=0
def tw15248531662179276653:=0
def tw13304414458554842402:=0
def tw2727556513726449306:=0
def tw3938941468356936365:=0
def tw4350833666054416829:=0
def tw51175857875583804:=0
def tw12174214788395437008:=0
def tw4643780978538397488:=0
def tw15931947497841485052:=0
def tw16609224162344770189:=0
def tw8299720739155924690:=0
def tw12638829053228538457:=0
def tw16262851528031932371:=0
def tw4245128232432006116:=0
def tw119388731912515254:=0
def tw9056224081715115190:=0
def tw4330765140327574816:=0
def tw12665752657211457935:=0
def tw10804383446225969163:=0
def tw9140927192410337165:=0
def tw5109657669400397760:=0
def tw3015202851496124697:=0
def tw7783894024927380650:=0
def tw6506425194298472302:=0
def tw18236469533054303764:=0
def tw1634611263213570223:=0
def tw9333795347989197944:=0
def tw7368157943120466237:=0
def tw12093569907086501554:=0
def tw10617797404637807914:=0
def tw10040232562080151768:=0
def tw2952711519090283459:=0
def tw6605361553062413353:=0
def tw12051397443474902579:=0
def tw3152038903493953325:=0
def tw15937040904088495598:=0
def tw10088235759443166739:=0
def tw804458292681832078:=0
def tw16967162239130969897:=0
def tw14835525990557270411:=0
def tw10740039273946354023:=0
def tw9552274387238084685:=0
def tw5727947743654193381:=0
def tw14374681347863810295:=0
def tw1441891465359165617:=0
def tw9272526789900435859:=0
def tw17258158723540353909:=0
def tw1053964252397443619:=0
def tw6414597536903132159:=0
def tw10739879331074221509:=0
def tw16638410404533883741:=0
def tw8640708650112999011:=0
def tw2282516376242043947:=0
def tw12922302588715795808:=0
def tw7397320387669385978:=0
def tw2826220943616813729:=0
def tw7942876702446593821:=0
def tw17999710838814887491:=0
def tw17975588812701619524:=0
def tw16615467030831190673:=0
def tw13649846921263091388:=0
end PySem.W.Fast
set_option maxRecDepth 100000 in
set_option maxHeartbeats 0 in
theorem PySem.Challenge.cw_tanglehouse_k15_whole_what_is_drawn_is_f_holds : PySem.Challenge.rw_tanglehouse_k15_whole_what_is_drawn_is_f.Holds := by
 w_on;o_law;k_head;(case hw=>w_witness2)
 k_fill
 refine K15.walk (l:=PySem.Challenge.rw_tanglehouse_k15_whole_what_is_drawn_is_f) rfl rfl ?nt9 ?nd9 ?F
 case nt9=>exactλw=>by kernel_rfl
 case nd9=>decide
 case F=>
  intro w mg fa h KX G hmg;refine' K15.Qxx KX G hmg ?v00 ?v01 ?v02 ?v03 ?v04 ?v05 ?v06 ?v07 ?v08 ?v09 ?v0a ?v0b ?v0c ?v0d ?v0e ?v0f ?v0g ?v0h ?v0i ?v0j ?v0k ?v0l ?v0m ?v0n ?v0o ?v0p ?v0q ?v0r ?v0s ?v0t ?v0u ?v0v ?v0w ?v0x ?v0y ?v0z ?v10 ?v11 ?v12 ?v13 ?v14 ?v15 ?v16 ?v17 ?v18 ?v19 ?v1a ?v1b ?v1c ?v1d ?v1e ?v1f ?v1g ?v1h ?v1i ?v1j ?v1k ?v1l ?v1m ?v1n ?v1o ?v1p ?v1q ?v1r ?v1s ?v1t ?v1u ?v1v ?v1w ?v1x ?v1y ?v1z ?v20 ?v21 ?v22 ?v23 ?v24 ?v25 ?v26 ?v27 ?v28 ?v29 ?v2a ?v2b ?v2c ?v2d
  case v00|v01|v02|v03|v04|v05|v06|v07|v08|v09|v0a|v0b|v0c|v0d|v0e|v0f|v0g|v0h|v0i|v0j|v0k|v0l|v0m|v0n|v0o|v0p|v0q|v0r|v0s|v0t|v0u|v0v|v0w|v0x|v0y|v0z|v10|v11|v12|v13|v14|v15|v16|v17|v18|v19|v1a|v1b|v1c|v1d|v1e|v1f|v1g|v1h|v1i|v1j|v1k|v1l|v1m|v1n|v1o|v1p|v1q|v1r|v1s|v1t|v1u|v1v|v1w|v1x|v1y|v1z|v20|v21|v22|v23|v24|v25|v26|v27|v28|v29|v2a|v2b=>first|exact⟨_,_,_,_,_,_,_,_,_,by k_is,by k_is⟩|k_is|rfl|decide +kernel
  (case v2c=>kernel_rfl)
  (case v2d=>kernel_rfl)
