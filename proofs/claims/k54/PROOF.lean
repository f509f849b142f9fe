import PyProof.Rows.All
import Wide.All
import OpenK.AllK
import Wide.FinOn
import Lean
import PyProof.EqAt
import PyProof.EqKinds
import PyProof.TupleCall
import PyProof.EnumMake
import PyProof.EnumFor
import PyProof.Draws
import PyProof.DictWalks
import PyProof.ListRange
import PyProof.ZipIter
import PyProof.Rows.SortWalk
import PyProof.Rows.SumAny
import PyProof.TupleIter
import PyProof.MeetsStr2
import PyProof.StrWalks
import Wide.Txt
import PyProof.Rows.SortRuns
import PyProof.TupleKey
import PyProof.Rows.MinMaxN
import PyProof.ExcClass2
import PyProof.NsDelKeeps
import PyProof.ExcArgsOwn
import PyProof.ExcAttrAll.ValueError
import PyProof.ExcBaseAll.ValueError
import PySem.Challenge.RW_tanglehouse_k54_whole_shifted_and_mirror
open PySem.W (instObj methodObj Frag lookIn plainGet findIn kitOne kia_one kitx_list kitx_dict keepIn cellsFrom_some fnOf codeIn KatTups kat_sorted kat_kind kas_ask kat_lt KasFin listOf kcp_entry nsIn mg_of mg_none_of)
set_option Elab.async false
set_option linter.all false
set_option maxRecDepth 100000
set_option maxHeartbeats 4000000
noncomputable section
open PySem renaming wpAny_bind → Ak, wpAny_pure → Al, Spec → Bb, wpAny_call_entry → B4, wpAny_callSpecial?_slot → De, wpAny_newObj_type → Di, wpAny_dictEntries → Dj, wpAny_field → Dk, Env → Dr, wpAny_holding → Dx, Value → Fb, wpAny_dictEpoch → Fd, Addr → Fz, wpAny_setField_rec → F0, wpAny_rule → Mj, wpAny_forIn_list → Mk, wpAny_isInstance → Ml, wpAny_seqItems → Mn, wpAny_mono → Mo, wpAny_specialOf → M1, wpAny_notOrdered_dict → M4, wpAny_setField → Nc, wpAny_loadPart' → Nk, mem_of_lookup → Nm, Expr → Np, wpAny_attempt → Nr, wpAny_of_eq → Nz, wpAny_typeNameOfWhole_itemiter → N1, Str → N7, wpAny_typeNameOfWhole_keyiter → N8, wpAny_pyIter_tuple → Rk, wpAny_typeNameOf_itemiter → Rx, wpAny_typeNameOf_keyiter → R1, sizeLine_eq → Sh, wpAny_pyIter_slot → So, Shared → Ss, call_meetsIn → Su, builtinLookup_eq_fast → Sv, lookup_relabel_local → Sy, wpAny_passesOwn → Ta, wpAny_comprehension_free → Tj, isSubtype_stop → Tr, wpAny_Call_method0_late → Tv, wpAny_sequenceKey → T1, wpAny_pyIter_enum → T3, wpAny_letGo → Ib, wpAny_isOneOf_itemiter → Ie, wpAny_handled → Ii, wpAny_newList → Ij, noFill_tuple_add → Im, Pos → Iv, isSubtype_tuple_tuple → Ix, call_meets → Ka, wpAny_updateSeq_pair → Kf, typeLookup_type → Kh, wpAny_updateDictKeys → Ki, evalArgs_none → Kr, isSubtype_type → Kw, wpAny_fieldsOf → Kx, wpAny_throw → K0, wpAny_Call_Name_kw → K2, tupleKind_room_in1 → K5, wpAny_letOwnedTupleGo_items → K7, wpAny_tupleItemsOf → K8, wpAny_richCompare_same_room → K9, Program → Lc, seq_tuple_add → Lf, wpAny_letOwnedTupleGo_enum → Li, wpAny_onRaise → Ll, wpAny_truthy_bool → Ln, eqIsQuiet_byValue → Lp, Heap → Lr, wpAny_pyHash_int → L1, wpAny_eqBool_int → L3, codeAny_mono → L4, concat_meets → L5, wpAny_typeOf → L7, wpAny_execs_nil → Om, wpAny_Call_method_late → O1, wpAny_newTuple → Pe, wpAny_standAt → P8, rangeSize_one → P9, Obj → A0h, list_append → A0p, World → A0t, call → A04
open List renaming mem_cons_of_mem → Am, mem_cons_self → An, length_map → Ap, range → Aq, map_cons → Ar, mem_map → As, getElem?_eq_some_iff → Au, length_cons → Av, mem_singleton → Aw, set_cons_zero → Ax, mem_cons → Ay, set_cons_succ → Az, length_nil → Bc, nodup_cons → Bf, map_map → Bg, getElem?_map → Bh, nil_append → Bi, mem_of_getElem? → Bk, mem_range → Bl, map_nil → Bm, replicate → Bo, size_toArray → Br, getElem?_eq_getElem → Bu, cons_append → Bw, mem_append → Bx, length_range → Bz, map_congr_left → B0, map_append → B7, getElem?_cons_zero → Db, nodup_nil → Df, getElem?_cons_succ → Dh, mem_filter → Do, getD_eq_getElem?_getD → Dt, take_of_length_le → Du, length_append → Dy, append_nil → Dz, filter_cons_of_neg → D2, filter_cons_of_pos → D3, mem_append_right → D5, length_filter_le → D6, sublist_append_right → Fe, nodup_range → Ff, nodup_append → Fl, getElem_range → Fs, filter_sublist → Ft, sublist_nil → Fw, getElem_map → Fx, length_take → Ma, lookup_cons → Mb, append_assoc → Me, take_add_one → Mf, length_eq_zero_iff → Mg, getElem?_set_ne → Mh, getElem?_take_of_lt → Mm, find?_cons_of_pos → Mt, find?_cons_of_neg → Mu, pairwise_map → Mv, replicate_succ → My, range_succ → M0, mem_flatMap → M8, length_set → Nl, getElem?_range → Nn, getElem?_append_right → Nq, getElem?_eq_none → Nw, getElem?_drop → Nx, pairwise_cons → Ny, sublist_append_left → N3, take_sublist → N5, eraseIdx_cons_succ → N9, getElem_mem → Rf, all_eq_true → Rh, getElem?_set_self → Ri, filter_append → Rl, any_cons → Rr, getElem?_append_left → Ru, length_erase_of_mem → R3, length_reverse → R6, mem_filterMap → Sb, find?_cons → Se, map_inj_right → Sg, pairwise_lt_range → Sm, flatten_cons → Sn, filter_congr → Sr, mem_iff_getElem? → Sw, mem_nil_iff → S0, mem_erase_of_ne → S2, mem_of_mem_take → S3, perm_ext_iff_of_nodup → S6, mem_map_of_mem → S9, sum_append → Te, forIn_nil → Tq, sublist_cons_self → Ig, length_pos_of_mem → Ih, sum_cons → Il, any_eq_true → Ip, nil_sublist → Ir, ext_getElem → Iu, forIn_cons → Kc, toArray → Ke, filterMap_cons → Kq, filter_eq_self → Ks, flatMap_append → Ku, dropLast_concat_getLast → Kv, zip_cons_cons → K4, ext_getElem? → Lq, pairwise_iff_getElem → Lx, mem_or_eq_of_mem_set → Lz, getElem_append_right → L0, length_drop → L6, any_map → Oc, filter_cons → Od, getElem_append_left → Of, getLast_eq_getElem → Og, eraseIdx_cons_zero → Oi, of_mem_zip → Oo, count_cons → Ou, length → Oz, getElem?_dropLast → O2, map_id → O3, filter_eq_nil_iff → O6, mem_append_left → Pl, length_dropLast → Pq, getElem?_of_mem → P5, getElem_reverse → P6, all_cons → A0c, getElem?_inj → A0q, lookup → A0u, foldl → A03
open PySem.Heap renaming get?_push_of_some → Ao, get?_push_size → Be, lt_size → Bj, SameBut → Dw, get?_update_self → Fc, size_push → Ry, get?_update_other → Sk, get?_push_ne → T6, get?_update_ne → Kt, ExtBut → Kz, IsTuple → A0i
open Nat renaming le_refl → At, zero_add → Bp, ne_of_lt → By, lt_of_lt_of_le → B9, le_trans → Dg, zero_le → Dq, lt_of_le_of_lt → Ds, ne_of_gt → D4, le_of_lt → Fo, lt_irrefl → Mr, mod_eq_of_lt → Nu, add_assoc → Rt, le_add_right → Sz, lt_succ_of_lt → T4, add_mod_right → T7, mul_comm → Kb, min_eq_left → Km, two_pow_pos → Ko, le_succ → Ky, lt_or_gt_of_ne → La, div_eq_of_lt → Oe, div_lt_iff_lt_mul → Pj, pow_le_pow_right → P7, add_zero → A0m, mul_add → A0y
open PySem.Value renaming ref → Ba, none → Dc, int → N6, type → Tp, bool → Pk, str → A0g
open Bool renaming false_eq_true → Bq, false_ne_true → Bt, and_self → B5, and_eq_true → B6, and_true → Dm, not_true → Fk, or_eq_false_iff → Mq, true_and → S5, eq_iff_iff → I8, false_or → Lh, eq_false_iff → Lo, false_and → O7, and_false → Pf
open Option renaming isSome_some → Bv, map_eq_some_iff → B8, isSome_iff_exists → M6, map_some → Iz, isSome_none → A0k, getD_none → A00
open Option.some renaming inj → B3, injEq → Nj
open PySem.Heap.SameBut renaming update → Dd
open Classical renaming choose_spec → Dl, choose → Rg
open PySem.Builtin.SmallTypes renaming nextOf → Dp, ownedTupleIsFree → Nd, ownedTupleHandOut → Tl
open PySem.PassesOwn renaming never → Dv
open PySem.F renaming plainAttrs_dict → D1, slot_tuple_iterator_next → Fu, slot_dict_itemiterator_next → M5, slot_dict_itemiterator_iter → Nf, slot_dict_keyiterator_next → Ng, slot_dict_get → Nv, args_tuple_iterator_next_1 → Rb, entry_tuple_iterator_next → Rj, slot_dict_pop → Rq, args_tuple_add_2 → Rz, entry_tuple_add → R7, slot_dict_items → R8, slot_tuple_add → Si, type_dict_pop → Sx, slot_tuple_eq → Td, args_dict_itemiterator_iter_1 → Th, slot_dict_itemiterator_next → Ts, args_dict_get_3 → Tx, slot_dict_clear → Tz, plainAttrs_list → T0, slot_tuple_hash → T5, entry_dict_get → Ia, type_dict_get → Iw, args_dict_itemiterator_next_1 → Iy, slot_zip_next → Kg, args_dict_keyiterator_next_1 → Kk, entry_dict_itemiterator_next → Kl, entry_dict_keyiterator_next → Kp, args_dict_items_1 → Lu, slot_dict_getitem → Lw, slot_tuple_count → L8, entry_dict_items → Oa, slot_dict_iter → Ob, type_dict_items → Oh, type_dict_clear → Ol, slot_dict_items_iter → O5, slot_enumerate_next → O8, slot_list_pop → Pg, type_list_pop → Ph, args_list_append_2 → Pn, args_object_init_2 → Pp, slot_dict_ne → P4
open PySem.Builtin.Tuple renaming tupleHashOf → D7, tupleExact → R0, tupleItemsOf → S4
open PyProof.Rows renaming slot_tuple_getitem → D8, callWith_type1 → Fq, entry_list_sort → Ov, subscriptTail_builtinR → O0, slot_list_sort → Pb, args_list_sort → Pc, sortedHeap_old → Pd, size_push' → Py, sortedHeap_at → A0a, lt_int → A0e, IsTup → A0j
open PySem.Paired renaming length → D9, cons → A0w
open PySem.Str renaming ofString → Fa, empty → On
open Or renaming inr → Fg, inl → Ms
open Int renaming toNat_natCast → Fh, eq_ofNat_of_zero_le → Ni, natCast_add → Tf, zero_add → Kn, emod_lt_of_pos → Lb, emod_nonneg → Ow, le_refl → A0x
open PySem.NameKind renaming free → Fj, cell → Sa
open Sum renaming inl → Fm, inr → N4
open Array renaming getElem?_toList → Mc, getD_eq_getD_getElem? → Md, length_toList → Mw, forIn_toList → Tn, getElem?_eq_none → Ic, toArray_toList → Kd, isEmpty_iff_size_eq_zero → Kj, append_empty → K6, perm_iff_toList_perm → Lj
open PySem.Obj renaming data_mapFields → Mi, data_mapDictKeys → Mp, mapSeq → Nb, isFreed_of_fields → Rm, isFreed_of_dict → R5, cls_mapFields → T2, mapFields → A0b
open ForInStep renaming yield → Mz
open PySem.W renaming kas_rev → M3, kas_place → M7, mg_none_of → Nt, kas_asc → Rc, kia_one → R9, kas_desc → Sl, kas_descPart → Tk, kas_sort → Io, kas_tail3 → Oq, kas_count → Ot, kas_bin → O9, kas_sort → Pu, kat_cons → A02
open Sum.inl renaming inj → M9
open False renaming elim → Na
open PySem.Builtin.Dict_items renaming ownsTuple → Nh, ownedTupleFields → Tt, ownedTupleIsFree → Tu, pairFromOwner → Iq
open PySem.Calls renaming callWith_builtin → No, call_function_entry → Tc, evalArgs_plain → I9, spliced_cons → K1, Name_function_global → Ld, spliced_nil → A0o
open True renaming intro → N0
open Ne renaming symm → Ra
open List.cons renaming injEq → Rn
open PySem.Builtin.Dict renaming showsAll → Ro, missedRemoval → Lm, dictSlotArgs → Lv, updateFrom → Oj, samePairs → O4, takeOut → P2, noArgs → A0f
open PySem.W.KasT renaming ret → Rs, ask → Pt
open PySem.Builtin.Slice renaming slicePlaces → Rv, sliceAdjust → Tb, sliceApplied → Lg
open PySem.Data renaming cell → Sd, fields → T9, seq → Po
open List.Sublist renaming refl → Sq, append → S8, slnil → To
open List.Pairwise renaming filter → S1, map → A0r, imp → A0s
open Std.Legacy.Range renaming forIn_eq_forIn_range' → S7
open PySem.Builtin.List renaming listTooLong → Ti
open Sum.inr renaming inj → T8
open PySem.Shared renaming TypeIs → Ik, heap → A0v
open PySem.SeqAt.EqAt renaming int_int → K3, int_tuple → P0, tuple_int → P1
open PySem.Builtin renaming sorted → L9
open PyProof.Rows.IsTup renaming new → Op
open PyProof renaming noPylong_small → Oy
open PySem.SeqAt renaming EqAt → Pm
open Function renaming comp → A0d
open Nat.succ renaming inj → A0l
open BEq renaming rfl → A0n
open Prod renaming ext → A0z
open PySem.IsL renaming update → A01
variable {us:List Fb}
namespace L2
open PySem PySem.Spec PyProof.Rows
abbrev Key:=Sum Int Str
def Qh1:Key->Value->Bool
 | .inl k,v=>Value.isInt k v
 | .inr x,v=>Value.isStrOf x v
def keyH(w:World):Key->Int
 | .inl k=>hashInt k
 | .inr x=>hashStr w x
theorem Ji:∀{k:Key}{v:Value},Qh1 k v=true->(∃i t,k=Fm i/\v=N6 i t)\/(∃x t,k=N4 x/\v=A0g x t)
 | .inl i,v,h=>by
  obtain⟨t,e⟩:=Value.isInt_shape (k:=i) (v:=v) h;exact .inl ⟨i,t,rfl,e⟩
 | .inr x,v,h=>by
  obtain⟨t,e⟩:=Value.isStrOf_shape (x:=x) (v:=v) h;exact .inr ⟨x,t,rfl,e⟩
theorem Qnh(i:Int)(t:Tok):Qh1 (.inl i) (.int i t)=true:=by simp[Qh1,Value.isInt]
theorem Qng(x:Str)(t:Tok):Qh1 (.inr x) (.str x t)=true:=by simp[Qh1,Value.isStrOf]
theorem Qzl(a b:Int):decide ((Fm a:Key)=Fm b)=(a==b):=by
 by_cases e:a=b
 ·subst e;simp
 ·have h:¬(Fm a:Key)=Fm b:=λq=>e (M9 q);rw[decide_eq_false h];exact(beq_eq_false_iff_ne.mpr e).symm
theorem Qzh(a b:Str):decide ((N4 a:Key)=N4 b)=decide (a=b):=by
 by_cases e:a=b
 ·subst e;simp
 ·have h:¬(N4 a:Key)=N4 b:=λq=>e (T8 q);rw[decide_eq_false h,decide_eq_false e]
theorem Qzk(a:Int)(b:Str):decide ((Fm a:Key)=N4 b)=false:=decide_eq_false (λq=>nomatch q)
theorem Qzi(a:Str)(b:Int):decide ((N4 a:Key)=Fm b)=false:=decide_eq_false (λq=>nomatch q)
noncomputable def Qu(prog:Program)(w:World):PySem.KeyKind prog w Key where
 is:=Qh1
 hash:=keyH w
 inj:=λv a b f d=>by
  rcases Ji f with⟨i,t,rfl,rfl⟩|⟨x,t,rfl,rfl⟩
  ·rcases Ji d with⟨j,u,rfl,e⟩|⟨y,u,rfl,e⟩
   ·injection e with e1 _;rw[e1]
   ·exact nomatch e
  ·rcases Ji d with⟨j,u,rfl,e⟩|⟨y,u,rfl,e⟩
   ·exact nomatch e
   ·injection e with e1 _;rw[e1]
 byValue:=λk v h=>by
  rcases Ji h with⟨i,t,rfl,rfl⟩|⟨x,t,rfl,rfl⟩<;>rfl
 pyHash:=λc h=>by
  rcases Ji c with⟨i,t,rfl,rfl⟩|⟨x,t,rfl,rfl⟩
  ·exact L1 h
  ·exact wpAny_pyHash_str h
 eqBool:=λg c h=>by
  rcases Ji g with⟨i,t,rfl,rfl⟩|⟨x,t,rfl,rfl⟩
  ·rcases Ji c with⟨j,u,rfl,rfl⟩|⟨y,u,rfl,rfl⟩
   ·rw[Qzl]at h;exact L3 h
   ·rw[Qzk]at h;exact SeqAt.EqAt.int_str i t y u _ _ _ _ h
  ·rcases Ji c with⟨j,u,rfl,rfl⟩|⟨y,u,rfl,rfl⟩
   ·rw[Qzi]at h;exact SeqAt.EqAt.str_int x t j u _ _ _ _ h
   ·rw[Qzh]at h;exact wpAny_eqBool_str h
 «strs»:=λk x t v h=>by
  rcases Ji h with⟨i,u,rfl,e⟩|⟨y,u,rfl,e⟩
  ·exact nomatch e
  ·injection e with e1 _;subst e1;cases v<;>rfl
theorem Qk1(prog:Program)(w:World)(k:Key)(v:Value):(Qu prog w).is k v=Qh1 k v:=rfl
theorem Qhy(prog:Program)(w:World)(i:Int)(t:Tok):(Qu prog w).is (.inl i) (.int i t)=true:=Qnh i t
theorem Qhx(prog:Program)(w:World)(x:Str)(t:Tok):(Qu prog w).is (.inr x) (.str x t)=true:=Qng x t
inductive V where
 |non|bl (b:Bool)|int (i:Int)|str (x:Str)|byt (b:Array UInt8)|flt (b:UInt64)|ref (a:Addr)|ty (n:String)
 deriving DecidableEq
noncomputable def RelV:V->Value->Prop
 | .non,u=>u=Dc
 | .bl b,u=>u=Pk b
 | .int i,u=>∃t,u=N6 i t
 | .str x,u=>∃t,u=A0g x t
 | .byt b,u=>∃t,u=Value.bytes b t
 | .flt b,u=>∃t,u=Value.float b t
 | .ref a,u=>u=Ba a
 | .ty n,u=>u=Tp n
abbrev Vals:List V->List Value->Prop:=Paired RelV
theorem Vals.length{xs:List V}(r:Vals xs us):xs.length=us.length:=D9 r
theorem Vals.get:∀{xs:List V}{us:List Value}{i:Nat}{x:V},Vals xs us->xs[i]? = some x->∃u,us[i]? = some u/\RelV x u
 |_,_,_,_,.nil,e=>by simp at e
 |_,_,0,_,.cons r _,e=>by simp at e;subst e;exact⟨_,rfl,r⟩
 | _,_,i+1,x,.cons _ t,e=>by
  obtain⟨u,h1,h2⟩:=Vals.get (i:=i) (x:=x) t (by simpa using e);exact⟨u,by simpa using h1,h2⟩
theorem Vals.set{x:V}{u:Value}(r:RelV x u):∀{xs:List V}{us:List Value}(i:Nat),Vals xs us->Vals (xs.set i x) (us.set i u)
 |_,_,_,.nil=>.nil
 |_,_,0,.cons _ t=>.cons r t
 |_,_,i+1,.cons q t=>.cons q (Vals.set r i t)
theorem Vals.append:∀{xs ys:List V}{us ws:List Value},Vals xs us->Vals ys ws->Vals (xs++ys) (us++ws)
 |_,_,_,_,.nil,s=>s
 |_,_,_,_,.cons r t,s=>.cons r (Vals.append t s)
theorem Vals.take:∀{xs:List V}{us:List Value}(n:Nat),Vals xs us->Vals (xs.take n) (us.take n)
 |_,_,0,_=>.nil
 |_,_,_+1,.nil=>.nil
 |_,_,n+1,.cons r t=>.cons r (Vals.take n t)
theorem Vals.drop:∀{xs:List V}{us:List Value}(n:Nat),Vals xs us->Vals (xs.drop n) (us.drop n)
 |_,_,0,r=>r
 |_,_,_+1,.nil=>.nil
 |_,_,n+1,.cons _ t=>Vals.drop n t
def RelO:Option V->Option Value->Prop
 |some v,some u=>RelV v u
 |none,none=>True
 |_,_=>False
def KV{κ:Type}:List (κ×V)->List (κ×Value)->Prop:=Paired λ(p:κ×V)(q:κ×Value)=>p.1=q.1/\RelV p.2 q.2
def kV:Key->V
 | .inl i=>.int i
 | .inr x=>.str x
inductive HO where
 |lst (xs:List V)
 |tup (xs:List V)
 |dK (kvs:List (Key×V))|dT (kvs:List (List Key×V))
 |set (S:Int->Bool) (n:Nat)
 |ins (C dx:Addr) (fs:List (Str×V))
 |own (x:Addr)
 |xd (fs:List (Str×V))
 |met (f x:Addr)
 |rng (lo hi:Int)
 |frz (o:Obj) (u:HO)
 |tbl (ps:Array Value)
 |ext (a:Heap->Prop)
abbrev Hp:=Addr->Option HO
end L2
variable {H H' H1 H2:L2.Hp}{a b L e:Fz}{o u ob:L2.HO}{P:Lc}{w:A0t}{h g h':Lr}{p:Iv}{x:N7}
namespace L2
open PySem PySem.Spec PyProof.Rows
def upd(H:Hp)(a:Addr)(o:HO):Hp:=λb=>if b=a then some o else H b
theorem Qh:upd H a o a=some o:=by unfold upd;rw[if_pos rfl]
theorem Qm(h:b≠a):upd H a o b=H b:=by unfold upd;rw[if_neg h]
theorem Q1z(h:H a=some o)(h':H b=some u)(d:o≠u):a≠b:=by
 intro e;subst e;rw[h]at h';exact d (B3 h')
theorem Qz(h:H a=some o)(h':H b=none):a≠b:=by
 intro e;subst e;rw[h]at h';cases h'
section
variable (P:Program)(w:World)
noncomputable def Ja(H:Hp)(h:Heap)(a:Addr):HO->Prop
 | .lst xs=>xs.length<=sizeLine/\∃(its:List Value)(n:Nat),Vals xs its/\h.get? a=some { cls:=.type "list",data:=.seq its.toArray n }
 | .tup xs=>xs.length<=sizeLine/\∃its:List Value,Vals xs its/\IsTup h a its.toArray
 | .dK kvs=>kvs.length<=sizeLine/\(a==sysModules)=false/\∃vs,KV kvs vs/\h.DictOf (Qu P w) a vs
 | .dT kvs=>kvs.length<=sizeLine/\(a==sysModules)=false/\∃xs:List (List Key×Addr×Value),
   Paired (λ(p:List Key×V)(q:List Key×Addr×Value)=>p.1=q.1/\H q.2.1=some (.tup (p.1.map kV))/\RelV p.2 q.2.2) kvs xs /\
   ∃o es ep,h.get? a=some o/\o.ExactDict/\o.data=.dict es ep/\es.toList=xs.map (entryOfKey (tupleKind (Qu P w)))/\(xs.map (·.1)).Nodup
 | .set S n=>h.SetOf (intKind P w) a S n
 | .ins C dx fs=>H dx=some (.own a)/\fs.length<=1000/\dx≠a/\h.get? a=some (instObj C dx) /\
   ∃mA,h.Ns1 dx mA/\(∀f,RelO (fs.lookup f) (mA f))/\PySem.Within mA (fs.map (·.1))
 | .own _=>∃o,h.get? a=some o
 | .xd fs=>∃mA,h.Ns1 a mA/\∀f,RelO (fs.lookup f) (mA f)
 | .rng lo hi=>∃t u v,h.get? a=some { cls:=.type "range",data:=.fields #[.int lo t,.int hi u,.int 1 v] }
 | .frz o u=>h.get? a=some o/\Ja H h a u
 | .tbl ps=>∃ts:Array Value,h.get? a=some { cls:=.none,data:=.fields ts }/\(ts = #[]\/∃(b:Addr)(d:Obj)(u:HO)(vs:Array Value)(t:Tok)(q:Str)(t':Tok),ts = #[ps.getD 0 .none,ps.getD 1 .none,.ref b]/\H b=some (.frz d u)/\d.data=.fields vs/\ps.getD 2 .none=.str q t'/\vs[1]? = some (.str q t))
 | .met f x=>h.get? a=some (methodObj (.ref f) (.ref x))
 | .ext c=>c h/\(∃o,h.get? a=some o)/\∀h1 h2:Heap,c h1->(∀o,h1.get? a=some o->h2.get? a=some o)->c h2
def HOk(H:Hp)(h:Heap):Prop:=∀a o,H a=some o->Ja P w H h a o
end
theorem Ja.lt(x:Ja P w H h a o):a<h.objs.size:=by
 cases o with
 |lst xs=>obtain⟨_,_,_,_,e⟩:=x;exact Bj e
 |tup xs=>obtain⟨_,_,_,p⟩:=x;exact p.lt
 |dK kvs=>obtain⟨_,_,_,_,o,_,_,e,_⟩:=x;exact Bj e
 |dT kvs=>obtain⟨_,_,_,_,o,_,_,e,_⟩:=x;exact Bj e
 |set S n=>obtain⟨o,_,_,_,e,_⟩:=x;exact Bj e
 |ins C dx fs=>obtain⟨_,_,_,e,_⟩:=x;exact Bj e
 |own y=>obtain⟨_,e⟩:=x;exact Bj e
 |xd fs=>obtain⟨_,⟨_,_,_,e,_⟩,_⟩:=x;exact Bj e
 |rng lo hi=>obtain⟨_,_,_,e⟩:=x;exact Bj e
 |frz ob u=>obtain⟨e,_⟩:=x;exact Bj e
 |tbl ps=>obtain⟨_,e,_⟩:=x;exact Bj e
 |met f y=>exact Bj (show h.get? a=some _ from x)
 |ext b=>obtain⟨_,⟨_,e⟩,_⟩:=x;exact Bj e
theorem Paired.mapP{e g:Type}{F G:e->g->Prop}:∀{d:List e}{c:List g},Paired F d c->(∀a b,F a b->G a b)->Paired G d c
 |_,_,.nil,_=>.nil
 |_,_,.cons r t,f=>.cons (f _ _ r) (Paired.mapP t f)
theorem Ja.stay(x:Ja P w H h a o)(k:∀b u,(b=a\/H b=some (.own a))->h.get? b=some u->h'.get? b=some u)
  (ho:∀b,H b=some (.own a)->H' b=some (.own a)) (l:∀b xs,H b=some (.tup xs)->H' b=some (.tup xs)) (i:∀b u v vs,H b=some (.frz u v)->u.data=.fields vs->H' b=some (.frz u v):=by exactλ_ _ _ _ q _=>q):Ja P w H' h' a o:=by
 induction o with
 |lst xs=>obtain⟨z,its,n,r,e⟩:=x;exact⟨z,its,n,r,k _ _ (.inl rfl) e⟩
 |tup xs=>obtain⟨z,its,r,ob,e,c⟩:=x;exact⟨z,its,r,ob,k _ _ (.inl rfl) e,c⟩
 |dK kvs=>obtain⟨z,y,vs,r,ob,es,ep,e,c⟩:=x;exact⟨z,y,vs,r,ob,es,ep,k _ _ (.inl rfl) e,c⟩
 | dT kvs=>
  obtain⟨z,y,xs,r,ob,es,ep,e,c⟩:=x;exact⟨z,y,xs,Paired.mapP r λp q z=>⟨z.1,l _ _ z.2.1,z.2.2⟩,ob,es,ep,k _ _ (.inl rfl) e,c⟩
 |set S n=>obtain⟨ob,es,ep,t,e,c⟩:=x;exact⟨ob,es,ep,t,k _ _ (.inl rfl) e,c⟩
 | ins C dx fs=>
  obtain⟨d,z,ne,e,mA,⟨od,es,ep,j,c⟩,r⟩:=x;exact⟨ho _ d,z,ne,k _ _ (.inl rfl) e,mA,⟨od,es,ep,k _ _ (.inr d) j,c⟩,r⟩
 |own y=>obtain⟨ob,e⟩:=x;exact⟨ob,k _ _ (.inl rfl) e⟩
 |xd fs=>obtain⟨mA,⟨od,es,ep,e,c⟩,r⟩:=x;exact⟨mA,⟨od,es,ep,k _ _ (.inl rfl) e,c⟩,r⟩
 |rng lo hi=>obtain⟨t,u,v,e⟩:=x;exact⟨t,u,v,k _ _ (.inl rfl) e⟩
 |frz ob u m=>obtain⟨e,q⟩:=x;exact⟨k _ _ (.inl rfl) e,m q⟩
 | tbl ps=>
  obtain⟨ts,e,r⟩:=x;exact⟨ts,k _ _ (.inl rfl) e,r.imp id λ⟨b,A,u,vs,t,q,t',B,s,g⟩=>⟨b,A,u,vs,t,q,t',B,i _ _ _ _ s g.1,g⟩⟩
 | met f y=>
  have e:h.get? a=some (methodObj (.ref f) (.ref y)):=x;show h'.get? a=some (methodObj (.ref f) (.ref y));exact k a _ (.inl rfl) e
 |ext D=>obtain⟨p,⟨o,e⟩,st⟩:=x;exact⟨st _ _ p λo q=>k _ _ (.inl rfl) q,⟨o,k _ _ (.inl rfl) e⟩,st⟩
theorem HOk.lt(x:HOk P w H h)(e:H a=some o):a<h.objs.size:=(x a o e).lt
theorem HOk.fresh(x:HOk P w H h)(e:h.objs.size<=a):H a=none:=by
 cases q:H a with
 |none=>rfl
 |some u=>exact absurd (B9 (x.lt q) e) (Mr _)
theorem HOk.kept(x:HOk P w H h)(k:∀b u,h.get? b=some u->h'.get? b=some u):HOk P w H h':=λa o e=>
 (x a o e).stay (λb u _ q=>k b u q) (λ_ q=>q) λ_ _ q=>q
theorem HOk.laid(x:HOk P w H h)(k:∀b u,h.get? b=some u->h'.get? b=some u)(g:h.objs.size<=a)(new:Ja P w (upd H a o) h' a o):HOk P w (upd H a o) h':=λb u e=>by
 have d:=x.fresh g;by_cases f:b=a
 ·subst f;rw[Qh]at e;cases e;exact new
 ·rw[Qm f]at e;exact(x b u e).stay (λc v _ q=>k c v q) (λc q=>by rw[Qm (Qz q d)];exact q) (λc xs q=>by rw[Qm (Qz q d)];exact q) λc _ _ _ q _=>by rw[Qm (Qz q d)];exact q
def Rd(H:Hp)(a:Addr)(u:HO):Prop:=H a=some u\/∃o,H a=some (.frz o u)
theorem Rd.of(h:H a=some u):Rd H a u:=.inl h
theorem Rd.ok(r:Rd H a u)(x:HOk P w H h):Ja P w H h a u:=by
 rcases r with r|⟨o,r⟩
 ·exact x a u r
 ·obtain⟨_,q⟩:=x a _ r;exact q
def Mut:Option HO->Prop
 |some (.lst _)=>True
 |some (.dK _)=>True
 |some (.dT _)=>True
 |some (.set _ _)=>True
 |some (.ins _ _ _)=>True
 |some (.ext _)=>True
 |_=>False
section
variable {x:Addr}{o':HO}
theorem HOk.write(ok:HOk P w H h)(f:Mut (H x))(p:e=x\/H e=some (.own x))(k:∀b u,b≠e->h.get? b=some u->h'.get? b=some u)(m:∃u,h'.get? e=some u)
  (new:Ja P w (upd H x o') h' x o'):HOk P w (upd H x o') h':=λb u q=>by
 have d:∀c y,H c=some (.own y)->c≠x:=λc y r z=>by subst z;rw[r]at f;exact f
 have i:∀c xs,H c=some (.tup xs)->c≠x:=λc xs r z=>by subst z;rw[r]at f;exact f
 have g:∀c o v,H c=some (.frz o v)->c≠x:=λc o v r z=>by subst z;rw[r]at f;exact f
 by_cases j:b=x
 ·subst j;rw[Qh]at q;cases q;exact new
 ·rw [Qm j]at q;by_cases a:b=e
  ·have n:H b=some (.own x):=by
    rcases p with z|z
    ·exact absurd (a.trans z) j
    ·rw[a];exact z
   rw[q]at n;cases n;obtain⟨v,s⟩:=m;exact⟨v,by rw[a];exact s⟩
  ·refine (ok b u q).stay (λc v l r=>k c v ?_ r) (λc r=>by rw[Qm (d c b r)];exact r) (λc xs r=>by rw[Qm (i c xs r)];exact r) λc o v _ r _=>by rw[Qm (g c o v r)];exact r
   rcases l with rfl|l
   ·exact a
   ·rintro rfl;rcases p with z|z
    ·exact d c b l z
    ·rw[l]at z;cases z;exact j rfl
end
structure Un(fs ex:List Addr)(H H':Hp)(h h':Heap):Prop where
 keep:∀b o,h.get? b=some o->H b=none->b∉fs->b∉ex->h'.get? b=some o
 slot:∀b o,h.get? b=some o->H b=none->b∈fs->b∉ex->∃sl,h'.get? b=some { o with slots:=sl }
 free:∀b o,h.get? b=some o->H b=none->b∉ex->H' b=none
 there:∀b o,h.get? b=some o->b∉ex->∃o',h'.get? b=some o'
 tups:∀b xs,H b=some (.tup xs)->H' b=some (.tup xs)
 frzs:∀b o u,H b=some (.frz o u)->H' b=some (.frz o u)
 tbls:∀b ps,H b=some (.tbl ps)->∃more,H' b=some (.tbl (ps++more))
section
variable {fs ex:List Addr}{h1:Heap}{x:Addr}
theorem Un.any(u:Un fs ex H H1 h h1){ob:Obj}(q:h.get? b=some ob)(n:H b=none)(a:b∉ex):∃sl,h1.get? b=some { ob with slots:=sl }:=by
 by_cases c:b∈fs
 ·exact u.slot b ob q n c a
 ·exact⟨ob.slots,u.keep b ob q n c a⟩
theorem Un.kept(k:∀b u,h.get? b=some u->h'.get? b=some u):Un fs ex H H h h' :=
 ⟨λb ob q _ _ _=>k b ob q,λb ob q _ _ _=>⟨ob.slots,k b ob q⟩,λ_ _ _ n _=>n,λb ob q _=>⟨ob,k b ob q⟩,λ_ _ q=>q,λ_ _ _ q=>q,λ_ ps q=>⟨#[],by rw[q];simp⟩⟩
theorem Un.refl:Un fs ex H H h h:=Un.kept λ_ _ q=>q
theorem Un.laid(k:∀b u,h.get? b=some u->h'.get? b=some u)(d:h.objs.size<=a)(c:H a=none):Un fs ex H (upd H a o) h h' where
 keep:=λb u q _ _ _=>k b u q
 slot:=λb u q _ _ _=>⟨u.slots,k b u q⟩
 free:=λb u q n _=>by rw[Qm (By (B9 (Bj q) d))];exact n
 there:=λb u q _=>⟨u,k b u q⟩
 tups:=λb xs q=>by rw[Qm (Qz q c)];exact q
 frzs:=λb u xs q=>by rw[Qm (Qz q c)];exact q
 tbls:=λb ps q=>⟨#[],by rw[Qm (Qz q c),q];simp⟩
theorem Un.write(c:Mut (H x))(i:e=x\/H e=some (.own x))(k:∀b u,b≠e->h.get? b=some u->h'.get? b=some u)(d:∃u,h'.get? e=some u):Un fs ex H (upd H x o) h h':=by
 have g:∀b,H b=none->b≠x:=λb n z=>by subst z;rw[n]at c;exact c
 have f:∀b,H b=none->b≠e:=λb n z=>by
  subst z;rcases i with r|r
  ·exact g b n r
  ·rw[n]at r;cases r
 have hm:∀b u,H b=some u->¬Mut (some u)->b≠x:=λb u q j z=>by subst z;rw[q]at c;exact j c
 refine ⟨λb u q n _ _=>k b u (f b n) q,λb u q n _ _=>⟨u.slots,k b u (f b n) q⟩,λb u q n _=>by rw[Qm (g b n)];exact n,λb u q _=>?_,
  λb xs q=>by rw[Qm (hm b _ q λz=>z)];exact q,λb u xs q=>by rw[Qm (hm b _ q λz=>z)];exact q,λb ps q=>⟨#[],by rw[Qm (hm b _ q λz=>z),q];simp⟩⟩
 by_cases a:b=e
 ·subst a;exact d
 ·exact⟨u,k b u a q⟩
end
def trk(h:Heap)(H:Hp):List Addr:=(Aq h.objs.size).filter λa=>(H a).isSome
def hidT(h:Heap)(H:Hp):Heap:=PySem.W.hideAll h (trk h H)
theorem Qnw(h:Heap)(H:Hp):(hidT h H).objs.size=h.objs.size:=PySem.W.hideAll_size _ _
theorem Qq2{o:Obj}(e:h.get? b=some o)(n:H b=none):(hidT h H).get? b=some o :=
 PySem.W.hideAll_get _ e λhm=>by
  have q:(H b).isSome=true:=(Do.mp hm).2;rw[n]at q;simp at q
theorem Qvh{o:Obj}(e:(hidT h H).get? b=some o):h.get? b=some o/\H b=none:=by
 have a:h.get? b=some o:=PySem.W.of_hideAll (trk h H) e;refine⟨a,?_⟩;cases q:H b with
 |none=>rfl
 | some x=>
  have hm:b∈trk h H:=Do.mpr ⟨Bl.mpr (Bj a),by simp[q]⟩;have z:(hidT h H).get? b=none:=PySem.W.hideAll_none (trk h H) hm;rw[z]at e;cases e
def Qap(g h:Heap)(L:Addr):List (Addr×Obj):=(Aq h.objs.size).filterMap λa=>if a=L\/(g.get? a).isSome=true then none else (h.get? a).map λo=>(a,o)
theorem Y4{o:Obj}(h1:a≠L)(h2:g.get? a=none)(b:h.get? a=some o):(a,o)∈Qap g h L :=
 Sb.mpr ⟨a,Bl.mpr (Bj b),by simp[h1,h2,b]⟩
theorem Qdi{p:Addr×Obj}(c:p∈Qap g h L):p.1≠L/\g.get? p.1=none/\h.get? p.1=some p.2:=by
 obtain⟨b,_,e⟩:=Sb.mp c
 split at e
 ·cases e
 ·rename_i a;cases q:h.get? b with
  |none=>rw[q]at e;simp at e
  | some u=>
   rw[q]at e;simp only[Iz,Nj]at e;subst e;refine⟨λz=>a (.inl z),?_,q⟩;show g.get? b=none;cases r:g.get? b with
   |none=>rfl
   |some v=>exact(a (.inr (by simp[r]))).elim
theorem Qey:News g L h (Qap g h L):=λp d=>let ⟨a,b,c⟩:=Qdi d;⟨c,a,b⟩
structure Mod(K:Frag)(mg:Str->Option Value)(base:Heap):Prop where
 kin:K.In base
 glob:base.Ns mainGlobals mg
 blt:∃a,base.Ns builtinsNs a/\∀x:Str,x ≠ "__name__" -> a x=bootBuiltins x
 nolimit:base.NoLimit
structure Cx where
 prog:Program
 w:World
 K:Frag
 mg:Str->Option Value
 base:Heap
 A:Around
 N:List Str
 s₀:Shared
 H₀:Hp
 env:Env
 outer:List Env
 stack:List Env
 ex:List Addr
 fn:Str->Bool
 calm:Bool
 pn:List (Addr×Obj)
 xe:Value->Shared->Prop
end L2
variable {u:Fb}{g':Array PySem.GenState}{t' i j:Nat}{d':PySem.Drawn}{ch:List Fz}{it:Fz}{N:List N7}{A:PySem.Around}{E:Fb->Ss->Prop}{v:L2.V}{Q:Unit->Ss->Prop}{s' s:Ss}{X:L2.Cx}{pins:List (Fz×A0h)}
namespace L2
open PySem PySem.Spec PyProof.Rows
def frs(l:List Env):List Addr:=l.filterMap (·.frame)
abbrev Cx.fs(X:Cx):List Addr:=frs X.outer
def Vis(a:Scope)(x:Str):Prop:=a.names.lookup x=some .local\/a.names.lookup x=some .cell\/a.names.lookup x=some .free
def Loc(a:Scope)(x:Str):Prop:=a.names.lookup x=some .local\/a.names.lookup x=some .cell
def Look(env:Env)(h:Heap)(m:Str->Option Value)(x:Str)(u:Value):Prop :=
 (env.kindOf x=some .local/\m x=some u)\/((env.kindOf x=some .cell\/env.kindOf x=some .free)/\∃c,env.cells.lookup x=some c/\h.IsCell c (some u))
structure Cx.Ok(X:Cx):Prop where
 mod:Mod X.K X.mg X.base
 kind:X.env.scope.kind=.function
 glob:X.env.globals=mainGlobals
 blt:X.env.builtins=builtinsNs
 above:X.s₀.heap.objs.size<=X.env.locals
 inj:∀x y c,X.env.cells.lookup x=some c->X.env.cells.lookup y=some c->x=y
 has:∀x,(X.env.kindOf x=some .cell\/X.env.kindOf x=some .free)->∃c,X.env.cells.lookup x=some c
 cab:∀x c,X.fn x=true->X.env.cells.lookup x=some c->X.s₀.heap.objs.size<=c
 hd:X.calm=true->X.A.handled=none
 frames:X.A.frames=some X.stack
 stk:X.stack=X.outer\/(X.stack=X.env::X.outer/\X.env.frame=some X.env.locals)
 exf:∀b∈X.ex,b≠X.env.locals/\∀x c,X.env.cells.lookup x=some c->c≠b
 bs:∀b o,X.base.get? b=some o->X.s₀.heap.get? b=some o/\X.H₀ b=none
 bsz:X.base.objs.size<=X.s₀.heap.objs.size
 noex:∀b o,X.base.get? b=some o->b∉X.ex
 exfs:∀b∈X.ex,b∉X.fs
 funs:X.s₀.heap.FunFrames X.base X.outer
 frf:∀b∈X.fs,X.H₀ b=none
structure Inv(X:Cx)(pins:List (Addr×Obj))(σ:List (Option V))(H:Hp)(s:Shared):Prop where
 ok:X.Ok
 os:s.os=X.s₀.os
 bare:AllBare s.gens
 base:Un X.fs X.ex X.H₀ H X.s₀.heap s.heap
 loc:∃m,s.heap.Ns X.env.locals m/\∀(i:Nat)(x:Str)(v:V),X.N[i]? = some x->σ[i]? = some (some v)->Vis X.env.scope x->∃u,RelV v u/\Look X.env s.heap m x u
 cell:∀x c,X.env.cells.lookup x=some c->∃v,s.heap.IsCell c v
 free:H X.env.locals=none
 freeC:∀x c,X.env.cells.lookup x=some c->H c=none
 pin:∀p∈X.pn++pins,s.heap.get? p.1=some p.2/\H p.1=none/\p.1≠X.env.locals/\p.1∉X.fs/\∀v,p.2.data ≠ .cell v
 hok:HOk X.prog X.w H s.heap
 len:σ.length=X.N.length
section
variable {σ:List (Option V)}
theorem Cx.Ok.nofr(ok:X.Ok){o:Obj}(e:X.base.get? b=some o):b∉X.fs:=λa=>by
 have:=(ok.funs.mem a).1;rw[e]at this;cases this
theorem Inv.bs(I:Inv X pins σ H s):∀b o,X.base.get? b=some o->s.heap.get? b=some o/\H b=none:=λb o e=>
 ⟨I.base.keep b o (I.ok.bs b o e).1 (I.ok.bs b o e).2 (I.ok.nofr e) (I.ok.noex b o e),I.base.free b o (I.ok.bs b o e).1 (I.ok.bs b o e).2 (I.ok.noex b o e)⟩
theorem Inv.bk(I:Inv X pins σ H s):∀b o,X.base.get? b=some o->s.heap.get? b=some o:=λb o e=>(I.bs b o e).1
theorem Inv.mod(I:Inv X pins σ H s):Mod X.K X.mg X.base:=I.ok.mod
theorem Inv.kIn(I:Inv X pins σ H s):X.K.In s.heap:=I.ok.mod.kin.keeps I.bk
theorem Inv.fr(I:Inv X pins σ H s):∃m,Fr X.base X.env.locals s.heap m :=
 let ⟨m,a,_⟩:=I.loc
 ⟨m,a,I.bk,Dg I.ok.bsz I.ok.above⟩
theorem Inv.lt(I:Inv X pins σ H s):X.env.locals<s.heap.objs.size:=let ⟨_,a,_⟩:=I.loc;a.lt
theorem Inv.sz(I:Inv X pins σ H s):X.s₀.heap.objs.size<=s.heap.objs.size:=Dg I.ok.above (Fo I.lt)
theorem Inv.nofs(I:Inv X pins σ H s)(h:s.heap.objs.size<=a):a∉X.fs:=λb=>by
 obtain⟨_,o,ho,_⟩:=I.ok.funs.mem b;exact absurd (B9 (Bj ho) (Dg I.sz h)) (Mr _)
theorem Inv.cne(I:Inv X pins σ H s):∀x c,X.env.cells.lookup x=some c->c≠X.env.locals:=λx c e z=>by
 obtain⟨v,o,ho,hd⟩:=I.cell x c e;obtain⟨m,⟨o',es,ep,a,b,_⟩,_⟩:=I.loc;rw[z,a]at ho;cases ho;rw[b]at hd;cases hd
theorem Inv.funs(I:Inv X pins σ H s):s.heap.FunFrames X.base X.outer:=by
 have all:∀(l:List Env),(∀b∈frs l,b∈X.fs)->X.s₀.heap.FunFrames X.base l->s.heap.FunFrames X.base l:=by
  intro l
  induction l with
  |nil=>intro _ _;trivial
  | cons env r i=>
   intro f g;obtain⟨j,⟨L,o,a,k,ho,hd⟩,h⟩:=g;have d:L∈X.fs:=f L (by unfold frs;rw[Kq,a];exact An);obtain⟨sl,e⟩:=I.base.slot L o ho (I.ok.frf L d) d λz=>I.ok.exfs L z d;exact⟨j,⟨L,_,a,k,e,hd⟩,i (λb c=>f b (by unfold frs;rw[Kq,a];exact Am _ c)) h⟩
 exact all X.outer (λ_ c=>c) I.ok.funs
theorem Inv.stack(I:Inv X pins σ H s):s.heap.FunFrames X.base X.stack:=by
 rcases I.ok.stk with e|⟨e,a⟩
 ·rw[e];exact I.funs
 ·rw[e];obtain⟨m,b,_⟩:=I.loc;refine .cons (by rw[I.ok.kind];decide) a b ?_ I.funs;exact Heap.get?_none_of_le (Dg I.ok.bsz I.ok.above)
theorem Inv.stkSub(I:Inv X pins σ H s):∀b∈frs X.stack,b∈X.env.locals::X.fs:=λb a=>by
 rcases I.ok.stk with e|⟨e,c⟩
 ·rw[e]at a;exact Am _ a
 ·rw[e]at a;unfold frs at a;rw[Kq,c]at a;exact a
theorem Inv.stkFree(I:Inv X pins σ H s):∀b∈frs X.stack,H b=none:=λb a=>by
 rcases Ay.mp (I.stkSub b a)with e|a
 ·rw[e];exact I.free
 ·obtain⟨_,o,ho,_⟩:=I.ok.funs.mem a;exact I.base.free b o ho (I.ok.frf b a) λz=>I.ok.exfs b z a
theorem Inv.step(I:Inv X pins σ H s)
  (g:∀b∈ch,(b∈X.ex\/X.s₀.heap.objs.size<=b)/\b≠X.env.locals/\(∀x c,X.env.cells.lookup x=some c->c≠b)/\∀p∈X.pn++pins,p.1≠b)
  (keep:∀b o,b≠X.env.locals->b∉X.fs->b∉ch->s.heap.get? b=some o->H b=none->h'.get? b=some o)
  (slot:∀b o,b≠X.env.locals->b∈X.fs->b∉ch->s.heap.get? b=some o->H b=none->∃sl,h'.get? b=some { o with slots:=sl }) (free:∀b o,b∉ch->s.heap.get? b=some o->H b=none->H' b=none)
  (there:∀b o,b∉ch->s.heap.get? b=some o->∃o',h'.get? b=some o')
  (tups:∀b xs,H b=some (.tup xs)->H' b=some (.tup xs)) (frzs:∀b o u,H b=some (.frz o u)->H' b=some (.frz o u)) (tbls:∀b ps,H b=some (.tbl ps)->∃more,H' b=some (.tbl (ps++more)))
  (ns:∀m,s.heap.Ns X.env.locals m->h'.Ns X.env.locals m) (hok:HOk X.prog X.w H' h') (hg:AllBare g') :
  Inv X pins σ H' { s with heap:=h',gens:=g',drawn:=d',toks:=t' }:=by
 have A:∀b o,X.s₀.heap.get? b=some o->b≠X.env.locals:=λb o e=>By (B9 (Bj e) I.ok.above);have j:∀b o,X.s₀.heap.get? b=some o->b∉X.ex->b∉ch:=λb o e a w=>by
  rcases(g b w).1 with z|z
  ·exact a z
  ·exact absurd (B9 (Bj e) z) (Mr _)
 have h:∀x c,X.env.cells.lookup x=some c->∀v,s.heap.IsCell c v->h'.IsCell c v:=λx c e v ⟨o,ho,hd⟩=>by
  have f:c∉ch:=λz=>(g c z).2.2.1 x c e rfl;by_cases E:c∈X.fs
  ·obtain⟨sl,q⟩:=slot c o (I.cne x c e) E f ho (I.freeC x c e);exact⟨_,q,hd⟩
  ·exact⟨o,keep c o (I.cne x c e) E f ho (I.freeC x c e),hd⟩
 refine⟨I.ok,I.os,hg,⟨λb o e n w a=>?_,λb o e n w a=>?_,λb o e n a=>?_,λb o e a=>?_,λb xs e=>tups b xs (I.base.tups b xs e),λb o xs e=>frzs b o xs (I.base.frzs b o xs e),λb ps e=>?_⟩,?_,λx c e=>?_,?_,λx c e=>?_,λp C=>?_,hok,I.len⟩
 ·exact keep b o (A b o e) w (j b o e a) (I.base.keep b o e n w a) (I.base.free b o e n a)
 ·obtain⟨sl,t⟩:=I.base.slot b o e n w a;obtain⟨B,y⟩:=slot b _ (A b o e) w (j b o e a) t (I.base.free b o e n a);exact⟨B,y⟩
 ·obtain⟨o',t⟩:=I.base.there b o e a;exact free b o' (j b o e a) t (I.base.free b o e n a)
 ·obtain⟨o',t⟩:=I.base.there b o e a;exact there b o' (j b o e a) t
 ·obtain⟨m1,t⟩:=I.base.tbls b ps e;obtain⟨m2,y⟩:=tbls b _ t;exact⟨m1++m2,by rw[y,Array.append_assoc]⟩
 ·obtain⟨m,G,F⟩:=I.loc;refine⟨m,ns m G,λi x v t y J=>?_⟩;obtain⟨u,r,l⟩:=F i x v t y J;refine⟨u,r,?_⟩;rcases l with l|⟨k,c,e,z⟩
  ·exact .inl l
  ·exact .inr ⟨k,c,e,h x c e _ z⟩
 ·obtain⟨v,z⟩:=I.cell x c e;exact⟨v,h x c e v z⟩
 ·obtain⟨m,⟨o,_,_,ho,_⟩,_⟩:=I.loc;exact free _ o (λz=>(g _ z).2.1 rfl) ho I.free
 ·obtain⟨v,o,ho,hd⟩:=I.cell x c e;exact free c o (λz=>(g c z).2.2.1 x c e rfl) ho (I.freeC x c e)
 ·obtain⟨e,n,ne,D,d⟩:=I.pin p C;have f:p.1∉ch:=λz=>(g p.1 z).2.2.2 p C rfl;exact⟨keep p.1 p.2 ne D f e n,free p.1 p.2 f e n,ne,D,d⟩
theorem Inv.un(I:Inv X pins σ H s)(u:Un X.fs [] H H' s.heap h')(hok:HOk X.prog X.w H' h'):Inv X pins σ H' { s with heap:=h',toks:=t' }:=by
 obtain ⟨m,⟨o,es,ep,ho,r⟩,_⟩:=id I.loc;obtain⟨sl,g⟩:=u.any ho I.free (by simp);exact I.step (g':=s.gens) (d':=s.drawn) (ch:=[]) (λ_ z=>nomatch z) (λb o _ f _ e n=>u.keep b o e n f (by simp)) (λb o _ f _ e n=>u.slot b o e n f (by simp)) (λb o _ e n=>u.free b o e n (by simp)) (λb o _ e=>u.there b o e (by simp)) u.tups u.frzs u.tbls (λi hm=>by
  obtain⟨o',c,d,a,h⟩:=hm;rw[ho]at a;cases a;exact⟨_,c,d,g,h⟩) hok I.bare
theorem Inv.call(I:Inv X pins σ H s)(u:Un (frs X.stack) ch H H' s.heap h')(hok:HOk X.prog X.w H' h')(hg:AllBare g')
  (d:∀b∈ch,(b∈X.ex\/X.s₀.heap.objs.size<=b)/\b≠X.env.locals/\(∀x c,X.env.cells.lookup x=some c->c≠b)/\∀p∈X.pn++pins,p.1≠b) :
  Inv X pins σ H' { s with heap:=h',gens:=g',drawn:=d',toks:=t' }:=by
 obtain ⟨m,⟨o,es,ep,ho,r⟩,_⟩:=id I.loc;obtain⟨sl,i⟩:=u.any ho I.free λz=>(d _ z).2.1 rfl;exact I.step (ch:=ch) d (λb o i j a e n=>u.keep b o e n (λz=>(Ay.mp (I.stkSub b z)).elim i j) a) (λb o _ _ a e n=>u.any e n a) (λb o a e n=>u.free b o e n a) (λb o a e=>u.there b o e a) u.tups u.frzs u.tbls (λl hm=>by
  obtain⟨o',g,h,f,k⟩:=hm;rw[ho]at f;cases f;exact⟨_,g,h,i,k⟩) hok hg
theorem Inv.turned(I:Inv X pins σ H s)(k:∀b o,b≠it->s.heap.get? b=some o->h'.get? b=some o)(i:H it=none)(f:it≠X.env.locals)
  (h1:it∈X.ex\/X.s₀.heap.objs.size<=it) (h2:∀x c,X.env.cells.lookup x=some c->c≠it) (g:∀p∈X.pn++pins,p.1≠it):Inv X pins σ H { s with heap:=h',toks:=t' }:=by
 have d:∀b u,H b=some u->b≠it:=λb u e z=>by rw[z,i]at e;cases e
 refine I.step (g':=s.gens) (d':=s.drawn) (ch:=[it]) (λb h=>?_) (λb o _ _ a e _=>k b o (λz=>a (by simp[z])) e) (λb o _ _ a e _=>⟨o.slots,k b o (λz=>a (by simp[z])) e⟩) (λ_ _ _ _ n=>n)
  (λb o a e=>⟨o,k b o (λz=>a (by simp[z])) e⟩) (λ_ _ e=>e) (λ_ _ _ e=>e) (λb ps e=>⟨#[],by rw[e];simp⟩) (λm hm=>?_) (λb u e=>?_) I.bare
 ·have e:b=it:=by simpa using h
  subst e;exact⟨h1,f,h2,g⟩
 ·obtain⟨o,es,ep,ho,r⟩:=hm;exact⟨o,es,ep,k _ o (Ra f) ho,r⟩
 ·refine(I.hok b u e).stay (λc v a q=>k c v ?_ q) (λ_ q=>q) λ_ _ q=>q;rcases a with z|z
  ·rw[z];exact d b u e
  ·exact d c _ z
theorem Inv.tok(I:Inv X pins σ H s)(t:Nat):Inv X pins σ H { s with toks:=t }:=I.un (h':=s.heap) (t':=t) Un.refl I.hok
theorem Inv.kept(I:Inv X pins σ H s)(k:∀b u,s.heap.get? b=some u->h'.get? b=some u):Inv X pins σ H { s with heap:=h',toks:=t' }:=I.un (Un.kept k) (I.hok.kept k)
theorem Inv.laid(I:Inv X pins σ H s)(k:∀b u,s.heap.get? b=some u->h'.get? b=some u)(c:s.heap.objs.size<=a)(new:Ja X.prog X.w (upd H a o) h' a o) :
  Inv X pins σ (upd H a o) { s with heap:=h',toks:=t' }:=I.un (Un.laid k c (I.hok.fresh c)) (I.hok.laid k c new)
theorem Inv.write{x:Addr}(I:Inv X pins σ H s)(d:Mut (H x))(c:e=x\/H e=some (.own x))(k:∀b u,b≠e->s.heap.get? b=some u->h'.get? b=some u)(a:∃u,h'.get? e=some u)
  (new:Ja X.prog X.w (upd H x o) h' x o):Inv X pins σ (upd H x o) { s with heap:=h',toks:=t' }:=I.un (Un.write d c k a) (I.hok.write d c k a new)
theorem Inv.pins_of{a:List (Addr×Obj)}(I:Inv X pins σ H s)(h:∀p∈a,s.heap.get? p.1=some p.2/\H p.1=none/\p.1≠X.env.locals/\p.1∉X.fs/\∀v,p.2.data ≠ .cell v):Inv X a σ H s :=
 ⟨I.ok,I.os,I.bare,I.base,I.loc,I.cell,I.free,I.freeC,λp b=>(Bx.mp b).elim (λz=>I.pin p (Pl _ z)) (h p),I.hok,I.len⟩
theorem Qjp(hN:N.Nodup)(a:N[i]? = some x)(b:N[j]? = some x):i=j:=by
 obtain⟨h1,d⟩:=Au.mp a;obtain⟨h2,c⟩:=Au.mp b;exact(List.getElem_inj hN).mp (d.trans c.symm)
theorem Qfz{M:Model}(I:Inv X pins σ H s)(hN:X.N.Nodup)(hi:X.N[i]? = some x)(w:Loc X.env.scope x)(r:RelV v u)
  (h:∀s',Inv X pins (σ.set i (some v)) H s'->(∃a,Dw a s.heap s'.heap/\(a=X.env.locals\/X.env.cells.lookup x=some a))->Q () s') (hf:X.fn x=true\/X.env.scope.names.lookup x=some .local:=by first|exact .inl rfl|exact .inr rfl|assumption):wpAny M A (storeName X.env x u) Q E s:=by
 obtain⟨m,hn,hl⟩:=id I.loc;have S:(X.env.scope.kind == .class||(X.env.scope.kind == .module&&X.env.locals != X.env.globals))=false:=by rw[I.ok.kind];rfl
 have D:i<σ.length:=by rw[I.len];exact(Au.mp hi).1
 have K:=I.cne;have l:∀{a:Addr}{h':Heap},(∃o,s.heap.get? a=some o/\H a=none)->Dw a s.heap h'->HOk X.prog X.w H h':=λ{a h'} ha f b ob e=>by
  obtain⟨_,_,B⟩:=ha;refine(I.hok b ob e).stay (λc T t q=>(f.2 c ?_).trans q) (λ_ q=>q) λ_ _ q=>q;rintro rfl;rcases t with rfl|t
  ·rw[B]at e;cases e
  ·rw[B]at t;cases t
 rcases w with F|F
 ·refine wpAny_storeName_local F hn (λh' V f=>?_) S;obtain⟨oL,_,_,Y,_⟩:=id hn;refine h _ ⟨I.ok,I.os,I.bare,⟨λb o e n G w=>?_,λb o e n G w=>?_,I.base.free,λb o e w=>?_,I.base.tups,I.base.frzs,I.base.tbls⟩,⟨_,V,λj y W g C e3=>?_⟩,λy c e=>?_,I.free,I.freeC,λp hp=>?_,l ⟨oL,Y,I.free⟩ f,by simpa using I.len⟩ ⟨_,f,.inl rfl⟩
  ·exact(f.2 b (By (B9 (Bj e) I.ok.above))).trans (I.base.keep b o e n G w)
  ·obtain⟨sl,g⟩:=I.base.slot b o e n G w;exact⟨sl,(f.2 b (By (B9 (Bj e) I.ok.above))).trans g⟩
  ·obtain⟨o',g⟩:=I.base.there b o e w;exact⟨o',(f.2 b (By (B9 (Bj e) I.ok.above))).trans g⟩
  ·by_cases J:j=i
   ·subst J;rw[hi]at g;cases g;rw[Ri D]at C;cases C;exact⟨u,r,.inl ⟨F,by simp⟩⟩
   ·rw[Mh (Ra J)]at C;obtain⟨Z,r',q⟩:=hl j y W g C e3;refine⟨Z,r',?_⟩;rcases q with⟨k,e⟩|⟨k,c,e,z⟩
    ·refine .inl ⟨k,?_⟩;have:y≠x:=λe=>J (Qjp hN g (e ▸ hi));simp[this,e]
    ·exact .inr ⟨k,c,e,z.sameBut f (K y c e)⟩
  ·obtain⟨T,z⟩:=I.cell y c e;exact⟨T,z.sameBut f (K y c e)⟩
  ·obtain⟨e,n,ne,nf,d⟩:=I.pin p hp;exact⟨(f.2 p.1 ne).trans e,n,ne,nf,d⟩
 ·have L:X.fn x=true:=by
   rcases hf with z|z
   ·exact z
   ·rw[z]at F;cases F
  obtain⟨c,t⟩:=I.ok.has x (.inl F);obtain⟨T,z⟩:=I.cell x c t;refine wpAny_storeName_cell I.ok.kind F t z (λh' N f=>?_);obtain⟨oc,R,O⟩:=id z;refine h { s with heap:=h' } ⟨I.ok,I.os,I.bare,⟨λb o e n G w=>?_,λb o e n G w=>?_,I.base.free,λb o e w=>?_,I.base.tups,I.base.frzs,I.base.tbls⟩,⟨m,hn.sameBut f (Ra (K x c t)),λj y W g C e3=>?_⟩,λy U e=>?_,I.free,I.freeC,λp hp=>?_,l ⟨oc,R,I.freeC x c t⟩ f,by simpa using I.len⟩ ⟨c,f,.inr t⟩
  ·exact(f.2 b (By (B9 (Bj e) (I.ok.cab x c L t)))).trans (I.base.keep b o e n G w)
  ·obtain⟨sl,g⟩:=I.base.slot b o e n G w;exact⟨sl,(f.2 b (By (B9 (Bj e) (I.ok.cab x c L t)))).trans g⟩
  ·obtain⟨o',g⟩:=I.base.there b o e w;exact⟨o',(f.2 b (By (B9 (Bj e) (I.ok.cab x c L t)))).trans g⟩
  ·by_cases J:j=i
   ·subst J;rw[hi]at g;cases g;rw[Ri D]at C;cases C;exact⟨u,r,.inr ⟨.inl F,c,t,N⟩⟩
   ·rw[Mh (Ra J)]at C;obtain⟨Z,r',q⟩:=hl j y W g C e3;refine⟨Z,r',?_⟩;rcases q with q|⟨k,U,e,z'⟩
    ·exact .inl q
    ·refine .inr ⟨k,U,e,z'.sameBut f ?_⟩;rintro rfl;exact J (Qjp hN g (I.ok.inj _ _ _ e t ▸ hi))
  ·by_cases P:U=c
   ·subst P;exact⟨_,N⟩
   ·obtain⟨w2,z2⟩:=I.cell y U e;exact⟨w2,z2.sameBut f P⟩
  ·obtain⟨e,n,ne,nf,d⟩:=I.pin p hp;refine⟨(f.2 p.1 ?_).trans e,n,ne,nf,d⟩;intro q;rw[q,R]at e;have q':oc=p.2:=B3 e;exact d T (by rw[← q'];exact O)
theorem Qi5{M:Model}(I:Inv X pins σ H s)(hN:X.N.Nodup)(hi:X.N[i]? = some x)(a:Loc X.env.scope x)(r:RelV v u)
  (h:∀s',Inv X pins (σ.set i (some v)) H s'->Q () s') (b:X.fn x=true\/X.env.scope.names.lookup x=some .local:=by first|exact .inl rfl|exact .inr rfl|assumption):wpAny M A (storeName X.env x u) Q E s :=
 Qfz I hN hi a r (λs' c _=>h s' c) b
theorem Inv.call'(I:Inv X pins σ H s)(ho:s'.os=s.os)(u:Un (frs X.stack) ch H H' s.heap s'.heap)(hok:HOk X.prog X.w H' s'.heap)(hg:AllBare s'.gens)
  (a:∀b∈ch,(b∈X.ex\/X.s₀.heap.objs.size<=b)/\b≠X.env.locals/\(∀x c,X.env.cells.lookup x=some c->c≠b)/\∀p∈X.pn++pins,p.1≠b):Inv X pins σ H' s':=by
 obtain⟨h',g',d',t',o'⟩:=s';have e:o'=s.os:=ho;subst e;exact I.call (g':=g') (t':=t') (d':=d') u hok hg a
end
abbrev XK:=Value->Option Addr->Hp->Prop
abbrev St:=List (Option V)
abbrev VK:=V->Hp->Prop
abbrev TE:=St->Hp->VK->Prop
abbrev TT:=St->Hp->(Bool->Hp->Prop)->Prop
abbrev TA:=St->Hp->(List V->Hp->Prop)->Prop
structure Ends where
 nx:St->Hp->Prop
 rt:VK
 bk:St->Hp->Prop:=λ_ _=>False
 ct:St->Hp->Prop:=λ_ _=>False
abbrev TS:=Ends->St->Hp->Prop
end L2
variable {xs ys:List L2.V}{e c:Np}{Q:Fb->Ss->Prop}{pos:Iv}{σ:L2.St}{y:L2.V}{f:Fb->Fb->PySem.Sem Fb}{st:PySem.Stmt}{te ta tb:L2.TE}{rest:List Np}
namespace L2
open PySem PySem.Spec PyProof.Rows
def EP(X:Cx)(pins:List (Addr×Obj))(σ:St)(Q:VK)(u:Value)(s':Shared):Prop:=∃v H',Inv X pins σ H' s'/\RelV v u/\Q v H'
def TP(X:Cx)(pins:List (Addr×Obj))(σ:St)(Q:Bool->Hp->Prop)(b:Bool)(s':Shared):Prop:=∃H',Inv X pins σ H' s'/\Q b H'
def AP(X:Cx)(pins:List (Addr×Obj))(σ:St)(Q:List V->Hp->Prop)(us:List Value)(s':Shared):Prop:=∃vs H',Inv X pins σ H' s'/\Vals vs us/\Q vs H'
def SP(X:Cx)(pins:List (Addr×Obj))(D:Ends)(f:Flow)(s':Shared):Prop :=
 match f with
 | .next=>∃a H',Inv X pins a H' s'/\D.nx a H'
 | .brk=>∃a H',Inv X pins a H' s'/\D.bk a H'
 | .cont=>∃a H',Inv X pins a H' s'/\D.ct a H'
 | .ret u=>∃v a H',Inv X pins a H' s'/\RelV v u/\D.rt v H'
def PE(X:Cx)(e:Expr)(t:TE):Prop :=
 ∀(pins:List (Addr×Obj)) (s:Shared) (σ:St) (H:Hp) (Q:VK),Inv X pins σ H s->t σ H Q->wpAny (model X.prog X.w) X.A (eval e X.env) (EP X pins σ Q) X.xe s
def PT(X:Cx)(e:Expr)(t:TT):Prop :=
 ∀(pins:List (Addr×Obj)) (s:Shared) (σ:St) (H:Hp) (Q:Bool->Hp->Prop),Inv X pins σ H s->t σ H Q->wpAny (model X.prog X.w) X.A (isTrue e X.env (eval e X.env)) (TP X pins σ Q) X.xe s
def PW(X:Cx)(e:Expr)(t:TT):Prop :=
 ∀(a:Sem Value)(pins:List (Addr×Obj)) (s:Shared) (σ:St) (H:Hp) (Q:Bool->Hp->Prop),Inv X pins σ H s->t σ H Q->wpAny (model X.prog X.w) X.A (isTrue e X.env a) (TP X pins σ Q) X.xe s
theorem PW.pt{t:TT}(h:PW X e t):PT X e t:=h _
def PA(X:Cx)(es:List Expr)(t:TA):Prop :=
 ∀(pos:Pos)(pins:List (Addr×Obj)) (s:Shared) (σ:St) (H:Hp) (Q:List V->Hp->Prop),Inv X pins σ H s->t σ H Q->wpAny (model X.prog X.w) X.A (spliced (backTo pos (starEach es X.env))) (AP X pins σ Q) X.xe s
def PS(X:Cx)(st:Stmt)(t:TS):Prop :=
 ∀(pins:List (Addr×Obj)) (s:Shared) (σ:St) (H:Hp) (D:Ends),Inv X pins σ H s->t D σ H->wpAny (model X.prog X.w) X.A (exec st X.env) (SP X pins D) X.xe s
def PSs(X:Cx)(st:List Stmt)(t:TS):Prop :=
 ∀(pins:List (Addr×Obj)) (s:Shared) (σ:St) (H:Hp) (D:Ends),Inv X pins σ H s->t D σ H->wpAny (model X.prog X.w) X.A (execs st X.env) (SP X pins D) X.xe s
theorem thn{b:Type}{t:Sem b}{Q Q':b->Shared->Prop}{M:Model}(h:wpAny M A t Q E s)(c:∀a s,Q a s->Q' a s):wpAny M A t Q' E s:=Mo h c λ_ _ x=>x
def tVar(i:Nat):TE:=λσ H Q=>∃v,σ[i]? = some (some v)/\Q v H
def tC(v:V):TE:=λ_ H Q=>Q v H
theorem Uf(hN:X.N[i]? = some x)(g:Vis X.env.scope x)(hd:(x==("__debug__":Str))=false:=by decide)(d:(x==("__classdict__":Str))=false:=by decide):PE X (.Name x pos) (tVar i):=by
 intro pins s σ H Q I h;obtain⟨v,e,h⟩:=h;obtain⟨m,k,j⟩:=I.loc;obtain⟨u,r,l⟩:=j i x v hN e g;have fin:EP X pins σ Q u s:=⟨v,H,I,r,h⟩
 rcases l with⟨b,hm⟩|⟨b,c,f,a⟩
 ·exact wpAny_Name (wpAny_loadName_local I.ok.kind b k hm fin) hd
 ·rcases b with b|b
  ·exact wpAny_Name (wpAny_loadName_cell I.ok.kind b f a fin) hd
  ·exact wpAny_Name (wpAny_loadName_free I.ok.kind b f a fin d) hd
theorem Qyb{i j pos}:PE X (.Constant (.int i) j pos) (tC (.int i)):=λ_ _ _ H _ I h=>wpAny_Constant_int ⟨.int i,H,I.tok _,⟨_,rfl⟩,h⟩
theorem Q1t{b j pos}:PE X (.Constant (.bool b) j pos) (tC (.bl b)):=λ_ _ _ H _ I h=>Constant_bool ⟨.bl b,H,I,rfl,h⟩
theorem Qx9{j pos}:PE X (.Constant .none j pos) (tC .non):=λ_ _ _ H _ I h=>Constant_none ⟨.non,H,I,rfl,h⟩
def Gl(X:Cx)(x:Str):Prop:=X.env.kindOf x=some .globalImplicit
theorem Qnd(I:Inv X pins σ H s)(hg:Gl X x)(hm:X.mg x=some u)(h:Q u s)
  (hd:(x==("__debug__":Str))=false:=by decide):wpAny (model X.prog X.w) X.A (eval (.Name x pos) X.env) Q E s :=
 Ld I.ok.kind hg (Calls.loadGlobal_global (by rw[I.ok.glob];exact I.mod.glob.keeps I.bk) hm h) hd
theorem Gh(I:Inv X pins σ H s)(hg:Gl X x)(hm:X.mg x=none)(a:bootBuiltins x=some u)(h:Q u s)
  (b:x ≠ "__name__":=by decide) (hd:(x==("__debug__":Str))=false:=by decide):wpAny (model X.prog X.w) X.A (eval (.Name x pos) X.env) Q E s:=by
 obtain⟨c,h1,h2⟩:=I.mod.blt;exact Ld I.ok.kind hg (Calls.loadGlobal_builtin (by rw[I.ok.glob];exact I.mod.glob.keeps I.bk) hm (by rw[I.ok.blt];exact h1.keeps I.bk) ((h2 x b).trans a) h) hd
theorem Qms(hg:Gl X x)(hm:X.mg x=some u)(r:RelV v u)(hd:(x==("__debug__":Str))=false:=by decide):PE X (.Name x pos) (tC v) :=
 λ_ _ _ H _ I h=>Qnd I hg hm ⟨v,H,I,r,h⟩ hd
theorem Qu9(hg:Gl X x)(hm:X.mg x=none)(a:bootBuiltins x=some u)(r:RelV v u)(b:x ≠ "__name__":=by decide)(hd:(x==("__debug__":Str))=false:=by decide):PE X (.Name x pos) (tC v) :=
 λ_ _ _ H _ I h=>Gh I hg hm a ⟨v,H,I,r,h⟩ b hd
section
variable {a b:Expr}{tA tB':TT}
def tOr(t u:TT):TT:=λσ H Q=>t σ H λc H1=>if c=true then Q true H1 else u σ H1 Q
def tNot(t:TT):TT:=λσ H Q=>t σ H λc H1=>Q (!c) H1
theorem Qx1(b:PT X a tA):PW X (.BoolOp .Or [a] pos) tA:=by
 intro d pins s σ H Q I h;refine isTrue_or (thn (b pins s σ H Q I h) λc f e=>?_);cases c with
 |false=>exact isTrue_or_nil e
 |true=>exact e
theorem Q1m(f:PT X a tA)(j:PW X (.BoolOp .Or (b::rest) pos) tB'):PW X (.BoolOp .Or (a::b::rest) pos) (tOr tA tB'):=by
 intro k pins s σ H Q I h;refine isTrue_or (thn (f pins s σ H _ I h) λc g i=>?_);obtain⟨H1,e,d⟩:=i;cases c with
 |true=>exact⟨H1,e,d⟩
 |false=>exact j k pins g σ H1 Q e d
theorem Qx3(b:PT X a tA):PT X (.UnaryOp .Not a pos) (tNot tA):=by
 intro pins s σ H Q I h;exact isTrue_not (b pins s σ H (λc H1=>Q (!c) H1) I h)
def tIf(t:TT)(ta tb:TE):TE:=λσ H Q=>t σ H λc H1=>if c=true then ta σ H1 Q else tb σ H1 Q
theorem Qqe(l:PT X c tA)(i:PE X a ta)(k:PE X b tb):PE X (.IfExp c a b pos) (tIf tA ta tb):=by
 intro pins s σ H Q I h;refine wpAny_IfExp (thn (l pins s σ H _ I h) λd f j=>?_);obtain⟨H1,g,e⟩:=j;cases d with
 |true=>exact i pins f σ H1 Q g e
 |false=>exact k pins f σ H1 Q g e
end
def SqL(K:Frag)(H:Hp)(a:Addr)(xs:List V):Prop :=
 Rd H a (.lst xs) \/
  ∃(o:Obj)(its:Array Value)(n:Nat),K.lookup a=some o/\o.cls=.type "list" /\ o.dict=none/\o.data=.seq its n/\its.size<=sizeLine/\Vals xs its.toList
def SqT(K:Frag)(H:Hp)(a:Addr)(xs:List V):Prop :=
 Rd H a (.tup xs) \/
  ∃(o:Obj)(its:Array Value)(n:Nat),K.lookup a=some o/\o.cls=.type "tuple" /\ o.data=.seq its n/\its.size<=sizeLine/\Vals xs its.toList
noncomputable def absV:Value->Option V
 | .none=>some .non
 | .bool b=>some (.bl b)
 | .int i _=>some (.int i)
 | .str x _=>some (.str x)
 | .bytes b _=>some (.byt b)
 | .float b _=>some (.flt b)
 | .ref a=>some (.ref a)
 | .type n=>some (.ty n)
 |_=>none
theorem RelV.abs{x:V}(r:RelV x u):absV u=some x:=by
 cases x with
 |non=>cases r;rfl
 |bl _=>cases r;rfl
 |int _=>obtain⟨t,rfl⟩:=r;rfl
 |str _=>obtain⟨t,rfl⟩:=r;rfl
 |byt _=>obtain⟨t,rfl⟩:=r;rfl
 |flt _=>obtain⟨t,rfl⟩:=r;rfl
 |ref _=>cases r;rfl
 |ty _=>cases r;rfl
theorem RelV.inj{x:V}(r:RelV x u)(q:RelV y u):x=y:=B3 (r.abs.symm.trans q.abs)
theorem Vals.inj:∀{xs ys:List V}{us:List Value},Vals xs us->Vals ys us->xs=ys
 |_,_,_,.nil,.nil=>rfl
 |_,_,_,.cons r t,.cons a t'=>by rw[r.inj a,Vals.inj t t']
theorem SqL.of{K:Frag}(h:H a=some (.lst xs)):SqL K H a xs:=.inl (.inl h)
theorem SqT.of{K:Frag}(h:H a=some (.tup xs)):SqT K H a xs:=.inl (.inl h)
theorem Inv.list(I:Inv X pins σ H s)(h:SqL X.K H a xs):∃its:List Value,Vals xs its/\PlainL s.heap a its.toArray/\xs.length<=sizeLine:=by
 rcases h with h|⟨o,its,n,d,c,hd,b,hz,r⟩
 ·obtain⟨z,its,n,r,e⟩:=h.ok I.hok;exact⟨its,r,⟨_,n,e,rfl,rfl,rfl⟩,z⟩
 ·refine⟨its.toList,r,⟨o,n,I.kIn a o d,c,hd,by simpa using b⟩,?_⟩;have e:=r.length;simp only[Mw]at e;lia
theorem Inv.tuple(I:Inv X pins σ H s)(h:SqT X.K H a xs):∃its:List Value,Vals xs its/\IsTup s.heap a its.toArray/\xs.length<=sizeLine:=by
 rcases h with h|⟨o,its,n,d,c,b,hz,r⟩
 ·obtain⟨z,its,r,p⟩:=h.ok I.hok;exact⟨its,r,p,z⟩
 ·refine⟨its.toList,r,⟨o,I.kIn a o d,c,n,by simpa using b⟩,?_⟩;have e:=r.length;simp only[Mw]at e;lia
theorem Inv.list_inj(I:Inv X pins σ H s)(h:SqL X.K H a xs)(h':SqL X.K H a ys):xs=ys:=by
 obtain⟨its,r,⟨o,n,e,_,_,d⟩,_⟩:=I.list h;obtain⟨its',c,⟨o',f,b,_,_,d'⟩,_⟩:=I.list h';rw[e]at b;cases b;rw[d]at d';injection d' with d1 _;have:its=its':=by simpa using congrArg Array.toList d1
 subst this;exact r.inj c
theorem Inv.tuple_inj(I:Inv X pins σ H s)(h:SqT X.K H a xs)(h':SqT X.K H a ys):xs=ys:=by
 obtain⟨its,r,⟨o,e,_,n,d⟩,_⟩:=I.tuple h;obtain⟨its',c,⟨o',b,_,f,d'⟩,_⟩:=I.tuple h';rw[e]at b;cases b;rw[d]at d';injection d' with d1 _;have:its=its':=by simpa using congrArg Array.toList d1
 subst this;exact r.inj c
abbrev Cx.wish(X:Cx)(E:Value->Shared->Prop):Cx:={ X with xe:=E }
abbrev Cx.nox(X:Cx):Cx:=X.wish λ_ _=>False
theorem Cx.Ok.wish(ok:X.Ok)(E:Value->Shared->Prop):(X.wish E).Ok :=
 ⟨ok.mod,ok.kind,ok.glob,ok.blt,ok.above,ok.inj,ok.has,ok.cab,ok.hd,ok.frames,ok.stk,ok.exf,ok.bs,ok.bsz,ok.noex,ok.exfs,ok.funs,ok.frf⟩
theorem Cx.Ok.unwish(ok:(X.wish E).Ok):X.Ok :=
 ⟨ok.mod,ok.kind,ok.glob,ok.blt,ok.above,ok.inj,ok.has,ok.cab,ok.hd,ok.frames,ok.stk,ok.exf,ok.bs,ok.bsz,ok.noex,ok.exfs,ok.funs,ok.frf⟩
theorem Inv.wish(I:Inv X pins σ H s)(E:Value->Shared->Prop):Inv (X.wish E) pins σ H s:=⟨I.ok.wish E,I.os,I.bare,I.base,I.loc,I.cell,I.free,I.freeC,I.pin,I.hok,I.len⟩
theorem Inv.unwish(I:Inv (X.wish E) pins σ H s):Inv X pins σ H s:=⟨I.ok.unwish,I.os,I.bare,I.base,I.loc,I.cell,I.free,I.freeC,I.pin,I.hok,I.len⟩
theorem SP.unwish{D:Ends}{f:Flow}(h:SP (X.wish E) pins D f s'):SP X pins D f s':=by
 cases f with
 |next=>obtain⟨a,H',I,q⟩:=h;exact⟨a,H',I.unwish,q⟩
 |brk=>obtain⟨a,H',I,q⟩:=h;exact⟨a,H',I.unwish,q⟩
 |cont=>obtain⟨a,H',I,q⟩:=h;exact⟨a,H',I.unwish,q⟩
 |ret u=>obtain⟨v,a,H',I,r,q⟩:=h;exact⟨v,a,H',I.unwish,r,q⟩
theorem PE.nox{t:TE}(h:PE X.nox e t):PE X e t:=λpins s σ H Q I hw=>
 Mo (h pins s σ H Q (I.wish _) hw) (λ_ _ ⟨v,H',a,r,q⟩=>⟨v,H',a.unwish,r,q⟩) λ_ _ z=>Na z
theorem PSs.nox{st:List Stmt}{t:TS}(h:PSs X.nox st t):PSs X st t:=λpins s σ H D I hw=>
 Mo (h pins s σ H D (I.wish _) hw) (λ_ _ q=>q.unwish) λ_ _ z=>Na z
section
variable {rest:List Stmt}{t u:TS}
def Q0y:TS:=λD σ H=>D.nx σ H
def tSeq(t u:TS):TS:=λD σ H=>t { D with nx:=u D } σ H
theorem Quz:PSs X [] Q0y:=λ_ _ σ H _ I h=>Om ⟨σ,H,I,h⟩
theorem Qp5(h1:PS X st t)(h2:PSs X rest u):PSs X (st::rest) (tSeq t u):=by
 intro pins s σ H D I h;refine wpAny_execs_cons (thn (h1 pins s σ H { D with nx:=u D } I h) λf b q=>?_);cases f with
 | next=>
  obtain⟨a,H',c,q⟩:=q;exact h2 pins b a H' D c q
 |ret v=>exact q
 |brk=>exact q
 |cont=>exact q
theorem Quy(h1:PS X st t):PSs X [st] t:=by
 intro pins s σ H D I h;refine wpAny_execs_cons (thn (h1 pins s σ H D I h) λf a q=>?_);cases f with
 |next=>exact Om q
 |ret v=>exact q
 |brk=>exact q
 |cont=>exact q
theorem Inv.quiet(I:Inv X pins σ H s):interactive X.env=false:=by simp[interactive,I.ok.kind]
def Q0z(te:TE):TS:=λD σ H=>te σ H λ_ H1=>D.nx σ H1
theorem Qu0(a:PE X e te)(c:swapsWith e none pos.line X.env=pure false:=by rfl):PS X (.Expr e pos) (Q0z te):=by
 intro pins s σ H D I h;exact wpAny_Expr_any (thn (a pins s σ H _ I h) λv f ⟨x,H1,d,g,b⟩=>⟨σ,H1,d,b⟩) I.quiet c
def tRet(te:TE):TS:=λD σ H=>te σ H D.rt
theorem Qsr(a:PE X e te):PS X (.Return (some e) pos) (tRet te):=by
 intro pins s σ H D I h;exact wpAny_Return_some (thn (a pins s σ H _ I h) λv f ⟨x,H1,d,c,b⟩=>⟨x,σ,H1,d,c,b⟩)
def tIfS(c:TT)(t u:TS):TS:=λD σ H=>c σ H λb H1=>if b=true then t D σ H1 else u D σ H1
theorem Q1n{a b:List Stmt}{i:TT}(m:PT X c i)(j:PSs X a t)(k:PSs X b u):PS X (.If c a b pos) (tIfS i t u):=by
 intro pins s σ H D I h;refine wpAny_If (thn (m pins s σ H _ I h) λd e l=>?_);obtain⟨H1,f,g⟩:=l;cases d with
 |true=>exact j pins e σ H1 D f g
 |false=>exact k pins e σ H1 D f g
end
abbrev TG:=V->St->Hp->(St->Hp->Prop)->Prop
abbrev TGs:=List V->St->Hp->(St->Hp->Prop)->Prop
def PG(X:Cx)(a:Expr)(t:TG):Prop :=
 ∀(pins:List (Addr×Obj)) (s:Shared) (σ:St) (H:Hp) (v:V) (u:Value) (Q:St->Hp->Prop),Inv X pins σ H s->RelV v u->t v σ H Q ->
  wpAny (model X.prog X.w) X.A (assign a X.env u) (λ_ s'=>∃b H',Inv X pins b H' s'/\Q b H') X.xe s
def PGs(X:Cx)(ts:List Expr)(t:TGs):Prop :=
 ∀(pins:List (Addr×Obj)) (s:Shared) (σ:St) (H:Hp) (vs:List V) (us:List Value) (Q:St->Hp->Prop),Inv X pins σ H s->Vals vs us->t vs σ H Q ->
  wpAny (model X.prog X.w) X.A (assignInOrder ((assignEach ts X.env).map (·.2)) us) (λ_ s'=>∃a H',Inv X pins a H' s'/\Q a H') X.xe s
abbrev TSet:=V->V->V->Hp->(Hp->Prop)->Prop
end L2
variable {o:A0h}{g:L2.TG}{es:List Np}{n:Nat}{to:L2.TE}{tg:Np}{pos':Iv}
namespace L2
open PySem PySem.Spec PyProof.Rows
def PSet(X:Cx)(t:TSet):Prop :=
 ∀(pins:List (Addr×Obj)) (s:Shared) (σ:St) (H:Hp) (o i v:V) (ov a u:Value) (Q:Hp->Prop),Inv X pins σ H s->RelV o ov->RelV i a->RelV v u->t o i v H Q ->
  wpAny (model X.prog X.w) X.A (setItem ov a u) (λ_ s'=>∃H',Inv X pins σ H' s'/\Q H') X.xe s
def Qgu(i:Nat):TG:=λv σ H Q=>Q (σ.set i (some v)) H
theorem Qet(hN:X.N.Nodup)(hi:X.N[i]? = some x)(a:Loc X.env.scope x)(b:X.fn x=true\/X.env.scope.names.lookup x=some .local:=by first|exact .inl rfl|exact .inr rfl|assumption):PG X (.Name x pos) (Qgu i):=by
 intro pins s σ H v u Q I r h;exact wpAny_assign_Name (Qi5 I hN hi a r (λs' c=>⟨_,H,c,h⟩) b)
def gNil:TGs:=λvs σ H Q=>vs=[]/\Q σ H
def Qv4(t:TG)(u:TGs):TGs:=λvs σ H Q=>∃v r,vs=v::r/\t v σ H λa H'=>u r a H' Q
theorem Qmp:PGs X [] gNil:=by
 intro pins s σ H vs us Q I r h;obtain⟨e,h⟩:=h;subst e;cases r;exact assignInOrder_nil ⟨σ,H,I,h⟩
theorem Qes{t:TG}{u:TGs}(h1:PG X e t)(h2:PGs X es u)
  (d:(assignEach (e::es) X.env).map (·.2)=assign e X.env::(assignEach es X.env).map (·.2):=by rfl):PGs X (e::es) (Qv4 t u):=by
 intro pins s σ H vs us Q I r h;obtain⟨v,k,j,h⟩:=h;subst j;cases r with
 | cons r c=>
  rw[d];refine assignInOrder_cons (thn (h1 pins s σ H _ _ _ I r h) λ_ b i=>?_);obtain⟨a,H1,f,g⟩:=i;exact h2 pins b a H1 _ _ Q f c g
def gTup(K:Frag)(n:Nat)(t:TGs):TG:=λv σ H Q=>∃a xs,v=.ref a/\SqT K H a xs/\xs.length=n/\t xs σ H Q
theorem Qsv{k:Nat}{t:TGs}(p:X.calm=true)(h:PGs X es t)
  (m:(assignEach es X.env).length=n:=by rfl) (c:(assignEach es X.env).findIdx? (·.1)=none:=by rfl):PG X (.Tuple es k pos) (gTup X.K n t):=by
 intro pins s σ H v u Q I r hw;obtain⟨a,xs,q,i,f,hw⟩:=hw;subst q;cases r;obtain⟨its,d,g,hz⟩:=I.tuple i;refine assign_Tuple_tuple (I.ok.hd p) g (by simp[m,← f,d.length]) c λh' j=>?_;have l:Inv X pins σ H { s with heap:=h' }:=I.kept (t':=s.toks) λb o e=>j b o (By (Bj e)) e;exact h pins _ σ H xs _ Q l (by simpa using d) hw
def gSub(to ti:TE)(t:TSet):TG:=λv σ H Q=>to σ H λo H1=>ti σ H1 λi H2=>t o i v H2 λa=>Q σ a
theorem Qsw{o i:Expr}{ti:TE}{t:TSet}(ho:PE X o to)(hi:PE X i ti)(g:PSet X t)
  (c:∀v,assign (.Subscript o i pos) X.env v=(do
   let ov ← holding [v] (eval o X.env)
   let b ← holding [v,ov] (eval i X.env)
   standAt pos
   holding [v,ov,b] (setItem ov b v)
   release [v,ov,b] []):=by intro _;rfl):PG X (.Subscript o i pos) (gSub to ti t):=by
 intro pins s σ H v u Q I r h
 rw[c]
 refine Ak (Dx (thn (ho pins s σ H _ I h) λov e a=>?_))
 obtain⟨x,H1,m,l,q⟩:=a
 refine Ak (Dx (thn (hi pins e σ H1 _ m q) λb n a=>?_))
 obtain⟨y,H2,f,k,j⟩:=a
 refine Ak (P8 (Ak (Dx (thn (g pins n σ H2 x y v ov b u _ f l k r j) λ_ z a=>?_))))
 obtain⟨p,w,d⟩:=a
 exact wpAny_release ⟨σ,p,w,d⟩
def tAsg(te:TE)(g:TG):TS:=λD σ H=>te σ H λx H1=>g x σ H1 D.nx
theorem Qss(i:PE X e te)(hg:PG X tg g)(b:swapsWithSole [tg] e pos.line X.env=pure false:=by rfl)(hw:swappedStores [tg] e X.env=pure none:=by rfl)
  (h1:(assignEach [tg] X.env).map (·.2)=[assign tg X.env]:=by rfl):PS X (.Assign [tg] e pos) (tAsg te g):=by
 intro pins s σ H D I h;refine wpAny_Assign_stores (thn (i pins s σ H _ I h) λv a ⟨x,H1,d,c,f⟩=>?_) b hw;rw[h1];exact thn (hg pins a σ H1 x v _ d c f) λ_ j q=>q
theorem Qx4(hN:X.N.Nodup)(hi:X.N[i]? = some x)(d:Loc X.env.scope x)(k:PE X e te)(c:swapsWith e (some (.Name x pos')) pos.line X.env=pure false:=by rfl)(a:X.fn x=true\/X.env.scope.names.lookup x=some .local:=by first|exact .inl rfl|exact .inr rfl|assumption) :
  PS X (.Assign [.Name x pos'] e pos) (tAsg te (Qgu i)):=by
 intro pins s σ H D I h;refine wpAny_Assign_Name (thn (k pins s σ H _ I h) λv l ⟨y,H1,g,f,j⟩=>?_) c;exact Qi5 g hN hi d f (λm b=>⟨_,H1,b,j⟩) a
structure It where
 go:Nat->Hp->Prop
 yld:Nat->Hp->V->Hp->Prop
 stop:Nat->Hp->Prop
def FpOk(X:Cx)(pins:List (Addr×Obj))(H:Hp)(b:Addr):Prop :=
 H b=none/\b≠X.env.locals/\b∉X.fs/\(b∈X.ex\/X.s₀.heap.objs.size<=b)/\(∀x c,X.env.cells.lookup x=some c->c≠b)/\∀p∈X.pn++pins,p.1≠b
theorem Inv.fpOk(I:Inv X pins σ H s)(a:s.heap.objs.size<=b)(d:H' b=none):FpOk X pins H' b:=by
 refine⟨d,D4 (B9 I.lt a),I.nofs a,.inr (Dg I.sz a),λx c e z=>?_,λp f z=>?_⟩
 ·obtain⟨v,q⟩:=I.cell x c e;exact absurd (B9 q.lt (by rw[z];exact a)) (Mr _)
 ·exact absurd (B9 (Bj (I.pin p f).1) (by rw[z];exact a)) (Mr _)
structure Turn(P:Program)(w:World)(K:Frag)(tg:Expr)(J:It)(fp:List Addr)(it:Addr)(tn:Nat->Heap->Prop):Prop where
 mem:it∈fp
 obj:∀i h,tn i h->∀b∈fp,∃o,h.get? b=some o/\∀v,o.data ≠ .cell v
 keep:∀i h h',tn i h->(∀b∈fp,∀o,h.get? b=some o->h'.get? b=some o)->tn i h'
 item:∀(X:Cx),X.prog=P->X.w=w->X.K=K->X.calm=true->∀(i:Nat)(pins:List (Addr×Obj)) (s:Shared) (σ:St) (H:Hp) (E:Value->Shared->Prop),Inv X pins σ H s->(∀b∈fp,FpOk X pins H b)->tn i s.heap->J.go i H ->
  wpAny (model P w) X.A (pyNext (.ref it)) (λr a=>∃u,r=some u /\
   wpAny (model P w) X.A (letOwnedTupleGo tg (.ref it) u) (λ_ c=>∃x H',Inv X pins σ H' c/\RelV x u/\J.yld i H x H'/\tn (i+1) c.heap/\∀b∈fp,H' b=none) E a) E s
 done:∀(X:Cx),X.prog=P->X.w=w->X.K=K->X.calm=true->∀(i:Nat)(pins:List (Addr×Obj)) (s:Shared) (σ:St) (H:Hp) (E:Value->Shared->Prop),Inv X pins σ H s->(∀b∈fp,FpOk X pins H b)->tn i s.heap->J.stop i H ->
  wpAny (model P w) X.A (pyNext (.ref it)) (λr a=>r=none/\Inv X pins σ H a) E s
 self:∀(A:Around)(i:Nat)(s:Shared)(Q:Value->Shared->Prop)(E:Value->Shared->Prop),tn i s.heap->Q (.ref it) s->wpAny (model P w) A (pyIter (.ref it)) Q E s
abbrev TI:=St->Hp->(It->Hp->Prop)->Prop
end L2
variable {vs:List L2.V}{R:Fz->Prop}{lo hi:Option Int}{fp:List Fz}{iter:Np}{body:List PySem.Stmt}{wi:L2.TI}
namespace L2
open PySem PySem.Spec PyProof.Rows
def PIE(X:Cx)(pins:List (Addr×Obj))(σ:St)(tg:Expr)(R:It->Hp->Prop)(a:Value)(c:Shared):Prop :=
 ∃(it:Addr)(fp:List Addr)(tn:Nat->Heap->Prop)(J:It)(H':Hp),a=.ref it/\Inv X pins σ H' c/\Turn X.prog X.w X.K tg J fp it tn/\tn 0 c.heap/\(∀b∈fp,FpOk X pins H' b)/\R J H'
def PI(X:Cx)(tg iter:Expr)(wi:TI):Prop :=
 ∀(pins:List (Addr×Obj)) (s:Shared) (σ:St) (H:Hp) (R:It->Hp->Prop),Inv X pins σ H s->wi σ H R ->
  wpAny (model X.prog X.w) X.A (eval iter X.env) (λv a=>wpAny (model X.prog X.w) X.A (pyIter v) (PIE X pins σ tg R) X.xe a) X.xe s
theorem Qnz{M:Model}{n:String}{vs:Array Value}{Q:Unit->Shared->Prop}(ho:s.heap.get? it=some o)(c:o.cls=.type n)(hd:o.data=.fields vs)
    (b:["enumerate","zip","dict_itemiterator","dict_reverseitemiterator","odict_iterator","itertools.zip_longest","itertools.pairwise"].contains n=false) (a:Q () s):wpAny M A (letOwnedTupleGo tg (.ref it) u) Q E s:=by
  unfold letOwnedTupleGo;cases tg<;>first
    |exact Al a
    | (cases u<;>first
        |exact Al a
        | (refine Ak (wpAny_load ho ?_)
           rw[c,hd];show wpAny M A (if (["enumerate","zip","dict_itemiterator","dict_reverseitemiterator","odict_iterator","itertools.zip_longest","itertools.pairwise"].contains n&&vs[0]? == some (rawInt _))=true then _ else _) Q E s;rw[if_neg (by intro h;rw[b,O7]at h;cases h)];exact Al a))
def Itl(K:Frag)(a:Addr):It :=
 ⟨λi H=>∃xs x,SqL K H a xs/\xs[i]? = some x,λi H x H'=>H'=H/\∀xs,SqL K H a xs->xs[i]? = some x,λi H=>∃xs,SqL K H a xs/\xs.length<=i⟩
def Itt(K:Frag)(a:Addr):It :=
 ⟨λi H=>∃xs x,SqT K H a xs/\xs[i]? = some x,λi H x H'=>H'=H/\∀xs,SqT K H a xs->xs[i]? = some x,λi H=>∃xs,SqT K H a xs/\xs.length<=i⟩
def Itr(lo:Int)(n:Nat):It:=⟨λi _=>i<n,λi H x H'=>H'=H/\x=.int (lo+i),λi _=>n<=i⟩
theorem Qls{K:Frag}(a it:Addr):Turn P w K tg (Itl K a) [it] it (λi h=>h.IsListIter it a i) where
 mem:=by simp
 obj:=λi h st b f=>by
  have e:b=it:=by simpa using f
  subst e;obtain⟨o,e,c,d⟩:=st;exact⟨o,e,λv z=>by rw[d]at z;cases z⟩
 keep:=λi h h' st k=>st.at λo e=>k it (by simp) o e
 item:=by
  intro X r hw q D i pins s σ H E I j st hg;subst r hw q;obtain⟨xs,x,l,m⟩:=hg;obtain⟨its,n,p,hz⟩:=I.list l;obtain⟨u,J,L⟩:=n.get m;obtain⟨B,t,F,A,y,C⟩:=j it (by simp);refine wpAny_pyNext_list_item st p.isList (x:=u) (by simpa using J) λh' g M=>?_;have G:Inv X pins σ H { s with heap:=h' }:=I.turned (t':=s.toks) (λb o f e=>(M.2 b f).trans e) B t A y C;obtain⟨o,e,c,d⟩:=id g;exact⟨u,rfl,Qnz (s:={ s with heap:=h' }) e c d (by decide) ⟨x,H,G,L,⟨rfl,λys N=>by rw[I.list_inj N l];exact m⟩,g,λb f=>(j b f).1⟩⟩
 done:=by
  intro X r hw q D i pins s σ H E I j st hg;subst r hw q;obtain⟨xs,l,m⟩:=hg;obtain⟨its,n,p,hz⟩:=I.list l;obtain⟨B,t,F,A,y,C⟩:=j it (by simp);have Q:=n.length;exact wpAny_pyNext_list_end (I.ok.hd D) st p.isList (by simp;lia) λh' O=>⟨rfl,I.turned (t':=s.toks) (λb o f e=>O b o f e) B t A y C⟩
 self:=λ_ _ _ _ _ st h=>wpAny_pyIter_listiter st h
theorem Qkn{K:Frag}(a it:Addr):Turn P w K tg (Itt K a) [it] it (λi h=>h.IsTupleIter it a i) where
 mem:=by simp
 obj:=λi h st b f=>by
  have e:b=it:=by simpa using f
  subst e;obtain⟨o,e,c,d⟩:=st;exact⟨o,e,λv z=>by rw[d]at z;cases z⟩
 keep:=λi h h' st k=>st.at λo e=>k it (by simp) o e
 item:=by
  intro X r hw q D i pins s σ H E I j st hg;subst r hw q;obtain⟨xs,x,l,m⟩:=hg;obtain⟨its,n,p,hz⟩:=I.tuple l;obtain⟨u,J,L⟩:=n.get m;obtain⟨B,t,F,A,y,C⟩:=j it (by simp);refine wpAny_pyNext_tuple_item st (show s.heap.IsTuple a its.toArray from p) (x:=u) (by simpa using J) λh' g M=>?_;have G:Inv X pins σ H { s with heap:=h' }:=I.turned (t':=s.toks) (λb o f e=>(M.2 b f).trans e) B t A y C;obtain⟨o,e,c,d⟩:=id g;exact⟨u,rfl,Qnz (s:={ s with heap:=h' }) e c d (by decide) ⟨x,H,G,L,⟨rfl,λys N=>by rw[I.tuple_inj N l];exact m⟩,g,λb f=>(j b f).1⟩⟩
 done:=by
  intro X r hw q D i pins s σ H E I j st hg;subst r hw q;obtain⟨xs,l,m⟩:=hg;obtain⟨its,n,p,hz⟩:=I.tuple l;obtain⟨B,t,F,A,y,C⟩:=j it (by simp);have Q:=n.length;exact wpAny_pyNext_tuple_end (I.ok.hd D) st (show s.heap.IsTuple a its.toArray from p) (by simp;lia) λh' O=>⟨rfl,I.turned (t':=s.toks) (λb o f e=>O b o f e) B t A y C⟩
 self:=λ_ _ _ _ _ st h=>wpAny_pyIter_tupleiter st h
theorem Qko{K:Frag}(it:Addr)(lo:Int)(n:Nat):Turn P w K tg (Itr lo n) [it] it (λi h=>IsRangeIter h it (lo+(i:Nat)*1) ((n:Int)-(i:Nat)) 1) where
 mem:=by simp
 obj:=λi h st b a=>by
  have e:b=it:=by simpa using a
  subst e;exact⟨_,st,λv z=>by
   have A:T9 _=Sd v:=z;cases A⟩
 keep:=λi h h' st k=>k it (by simp) _ st
 item:=by
  intro X g hw f q i pins s σ H E I d st hg;subst g hw f;obtain⟨p,j,y,m,l,r⟩:=d it (by simp);have W:=Walks.range (prog:=X.prog) (w:=X.w) (I.ok.hd q) it lo 1 n;refine W.item i s _ _ hg st λv h' u x c kk=>?_;obtain⟨t,rfl⟩:=x;have B:Inv X pins σ H { s with heap:=h',toks:=u }:=I.turned (λb o a e=>kk b o (by simpa using a) e) p j m l r;refine⟨_,rfl,Qnz (s:={ s with heap:=h',toks:=u }) (n:="range_iterator") c rfl rfl (by decide) ⟨.int (lo+i),H,B,⟨t,?_⟩,⟨rfl,rfl⟩,c,λb a=>(d b a).1⟩⟩;rw[Int.mul_one]
 done:=by
  intro X g hw f q i pins s σ H E I d st hg;subst g hw f;obtain⟨p,j,y,m,l,r⟩:=d it (by simp);exact wpAny_pyNext_range_end (I.ok.hd q) st (by have:n<=i:=hg;lia) λh' C=>⟨rfl,I.turned (t':=s.toks) (λb o a e=>C b o a e) p j m l r⟩
 self:=λ_ _ _ _ _ st h=>wpAny_pyIter_rangeiter st h
theorem Qpz{R:It->Hp->Prop}{lo hi:Int}{t u v:Tok}{c:Nat}(I:Inv X pins σ H s)(h1:-(2 ^ 62)<=lo)(h2:lo<2 ^ 62)(d:-(2 ^ 62)<=hi)(h4:hi<2 ^ 62)
  (q:R (Itr lo (hi-lo).toNat) H):wpAny (model X.prog X.w) X.A (pyIter (.ref s.heap.objs.size)) (PIE X pins σ tg R) E { s with heap:=s.heap.push { cls:=.type "range",data:=.fields #[.int lo t,.int hi u,.int 1 v] },toks:=c }:=by
 refine wpAny_pyIter_range (IsRange.new ..) (small_one h1 h2 d h4) ?_;have a:Inv X pins σ H { s with heap:=s.heap.push { cls:=.type "range",data:=.fields #[.int lo t,.int hi u,.int 1 v] },toks:=c }:=I.kept λb o e=>Ao _ e;refine⟨(s.heap.push { cls:=.type "range",data:=.fields #[.int lo t,.int hi u,.int 1 v] }).objs.size,[(s.heap.push { cls:=.type "range",data:=.fields #[.int lo t,.int hi u,.int 1 v] }).objs.size],_,_,H,rfl,
  a.kept (t':=c) λb o e=>Ao _ e,Qko _ lo (hi-lo).toNat,?_,λb g=>?_,q⟩
 ·have h:lo+((0:Nat):Int)*1=lo:=by simp
  have f:(((hi-lo).toNat:Nat):Int)-((0:Nat):Int)=Builtin.Range.rangeSize lo hi 1:=by rw[P9];split<;>lia
  show IsRangeIter _ _ (lo+((0:Nat):Int)*1) ((((hi-lo).toNat:Nat):Int)-((0:Nat):Int)) 1;rw[h,f];exact Be _ rfl
 ·have e:b=(s.heap.push { cls:=.type "range",data:=.fields #[.int lo t,.int hi u,.int 1 v] }).objs.size:=by simpa using g
  subst e;exact a.fpOk (At _) (a.hok.fresh (At _))
def Q18(ta:TA):TI:=λσ H R=>ta σ H λvs H1=>∃j:Int,vs=[.int j] /\ -(2 ^ 62)<=j/\j<2 ^ 62/\R (Itr 0 j.toNat) H1
theorem Qmn{a:Expr}{ta:TA}(hg:Gl X "range")(hm:X.mg "range" = none)(c:PA X [a] ta)(f:starEach [a] X.env=[(false,eval a X.env)]:=by rfl):PI X tg (.Call (.Name "range" p) [a] [] pos) (Q18 ta):=by
 intro pins s σ H R I h;refine Call_ (Gh I hg hm boot_range (Fq (thn (c pos pins s σ H _ I h) λus l ⟨vs,H1,i,g,b⟩=>?_) f rfl));obtain⟨j,e,b,k,q⟩:=b;subst e;cases g with
 | cons r d=>
  cases d;obtain⟨t,rfl⟩:=r;exact call_range_1 (Qpz i (by lia) (by lia) b k (by simpa using q))
noncomputable def tFor(wi:TI)(g:TG)(tb:TS):TS:=λD σ H=>wi σ H λJ H1=>∃W:Nat->Nat->St->Hp->Prop,(∃m,W 0 m σ H1)/\∀i m σ H,W i m σ H ->
 (J.stop i H/\D.nx σ H)\/(J.go i H/\∃N:St->Hp->Prop,(∀a H',N a H'->∃c,c < m/\W (i+1) c a H')/\∀x H',J.yld i H x H'->g x σ H' λb H2=>tb { D with nx:=N,ct:=N,bk:=D.nx } b H2)
def Qga(fp:List Addr)(h:Heap):List (Addr×Obj):=fp.filterMap λb=>(h.get? b).map λo=>(b,o)
theorem U3(a:b∈fp)(e:h.get? b=some o):(b,o)∈Qga fp h:=Sb.mpr ⟨b,a,by rw[e];rfl⟩
theorem Qmz{p:Addr×Obj}(a:p∈Qga fp h):p.1∈fp/\h.get? p.1=some p.2:=by
 obtain⟨b,c,e⟩:=Sb.mp a;cases q:h.get? b with
 |none=>rw[q]at e;cases e
 | some o=>
  rw[q]at e;have d:(b,o)=p:=B3 e;subst d;exact⟨c,q⟩
theorem Inv.pinned(I:Inv X pins σ H s)(f:∀b∈fp,FpOk X pins H b)(ho:∀b∈fp,∃o,s.heap.get? b=some o/\∀v,o.data ≠ .cell v):Inv X (pins++Qga fp s.heap) σ H s :=
 I.pins_of λp g=>(Bx.mp g).elim (λz=>I.pin p (D5 _ z)) λz=>by
  obtain⟨a,e⟩:=Qmz z;obtain⟨h,j,i,_⟩:=f p.1 a;obtain⟨o,c,d⟩:=ho p.1 a;rw[e]at c;cases c;exact⟨e,h,j,i,d⟩
theorem Inv.unpinned{pl:List (Addr×Obj)}(I:Inv X (pins++pl) σ H s):Inv X pins σ H s:=I.pins_of λp a=>I.pin p (D5 _ (Pl _ a))
theorem Qx5{tb:TS}(C:PassesOwn (model X.prog X.w) X.A X.env X.xe)(V:X.calm=true)(hi:PI X tg iter wi)(hg:PG X tg g)(c:PSs X body tb)
  (hs:∀x,foldedSetIterable iter X.env x=pure x:=by intro _;rfl):PS X (.For tg iter body [] pos) (tFor wi g tb):=by
 intro pins s σ H D I h;refine wpAny_For (thn (hi pins s σ H _ I h) λv s1 h1=>thn h1 λaa s2 h2=>?_) hs;obtain⟨it,fp,tn,J,H2,e,I2,T,L,R,W,⟨m0,w0⟩,turn⟩:=h2;subst e
 -- what stays true of the iterator's objects through the loop
 have q:∀{H':Hp},(∀b∈fp,H' b=none)->∀b∈fp,FpOk X pins H' b:=λhn b c=>⟨hn b c,(R b c).2⟩
 refine codeAny_forLoop_any (λn s'=>∃i l H',Inv X pins l H' s'/\tn i s'.heap/\(∀b∈fp,H' b=none)/\W i n l H') ?_ m0 ⟨0,σ,H2,I2,L,λb c=>(R b c).1,w0⟩;rintro n S ⟨i,p,F,U,E,z,w3⟩;rcases turn i n p F w3 with⟨stop,qn⟩|⟨go,N,hN,step⟩
 ·refine Ta C (thn (T.done X rfl rfl rfl V i pins S p F X.xe U (q z) E stop) λr s4 ⟨O,I4⟩=>?_);subst O;exact Om ⟨p,F,I4,qn⟩
 ·refine Ta C (thn (T.item X rfl rfl rfl V i pins S p F X.xe U (q z) E go) λr s4 B=>?_);obtain⟨u,O,h4⟩:=B;subst O;refine Ta C (thn h4 λ_ Q B=>?_);obtain⟨x,Y,I5,r5,y5,y,M⟩:=B;have G:=I5.pinned (q M) (T.obj _ _ y);refine Ta C (thn (hg _ Q p Y x u _ G r5 (step x Y y5)) λ_ s6 B=>?_);obtain⟨P,Z,I6,q6⟩:=B;refine Ta C (thn (c _ s6 P Z _ I6 q6) λf K w=>?_);have t:∀{a:St}{k:Hp},Inv X (pins++Qga fp Q.heap) a k K->N a k->∃m,m<n/\∃i l H',Inv X pins l H' K/\tn i K.heap/\(∀b∈fp,H' b=none)/\W i m l H':=λ{a k} j A=>by
   obtain⟨m',hm,w7⟩:=hN a k A;refine⟨m',hm,i+1,a,k,j.unpinned,T.keep _ _ _ y λb c o e=>(j.pin (b,o) (D5 _ (D5 _ (U3 c e)))).1,λb c=>?_,w7⟩;obtain⟨o,e,d⟩:=T.obj _ _ y b c;exact(j.pin (b,o) (D5 _ (D5 _ (U3 c e)))).2.1
  cases f with
  |next=>obtain⟨a,k,j,A⟩:=w;exact t j A
  |cont=>obtain⟨a,k,j,A⟩:=w;exact t j A
  |brk=>obtain⟨a,k,j,w⟩:=w;exact⟨a,k,j.unpinned,w⟩
  |ret v=>obtain⟨x7,a,k,j,r7,w⟩:=w;exact⟨x7,a,k,j.unpinned,r7,w⟩
abbrev R2:=V->V->Hp->VK->Prop
end L2
variable {o:Option L2.V}{g:Int->Int->Int}{i:Int}{op:PySem.CmpOp}{r:L2.R2}{C dx:Fz}{its:List Fb}{mA:N7->Option Fb}
namespace L2
open PySem PySem.Spec PyProof.Rows
def OpR(X:Cx)(f:Value->Value->Sem Value)(r:R2):Prop :=
 ∀(pins:List (Addr×Obj)) (s:Shared) (σ:St) (H:Hp) (x y:V) (v u:Value) (Q:VK),Inv X pins σ H s->RelV x v->RelV y u->r x y H Q ->
  wpAny (model X.prog X.w) X.A (f v u) (EP X pins σ Q) X.xe s
def UnR(X:Cx)(f:Value->Sem Value)(r:V->Hp->VK->Prop):Prop :=
 ∀(pins:List (Addr×Obj)) (s:Shared) (σ:St) (H:Hp) (x:V) (v:Value) (Q:VK),Inv X pins σ H s->RelV x v->r x H Q ->
  wpAny (model X.prog X.w) X.A (f v) (EP X pins σ Q) X.xe s
def Zk(X:Cx)(f:Value)(r:List V->Hp->VK->Prop):Prop :=
 ∀(pins:List (Addr×Obj)) (s:Shared) (σ:St) (H:Hp) (xs:List V) (us:List Value) (Q:VK),Inv X pins σ H s->Vals xs us->r xs H Q ->
  wpAny (model X.prog X.w) X.A (call f us) (EP X pins σ Q) X.xe s
def TruR(X:Cx)(r:V->Hp->(Bool->Hp->Prop)->Prop):Prop :=
 ∀(pins:List (Addr×Obj)) (s:Shared) (σ:St) (H:Hp) (x:V) (v:Value) (Q:Bool->Hp->Prop),Inv X pins σ H s->RelV x v->r x H Q ->
  wpAny (model X.prog X.w) X.A (truthy v) (TP X pins σ Q) X.xe s
def tOp(r:R2)(ta tb:TE):TE:=λσ H Q=>ta σ H λx H1=>tb σ H1 λy H2=>r x y H2 Q
def tUn(r:V->Hp->VK->Prop)(ta:TE):TE:=λσ H Q=>ta σ H λx H1=>r x H1 Q
def rI(C:Int->Int->Prop)(g:Int->Int->V):R2:=λx y H Q=>∃i j,x=.int i/\y=.int j/\C i j/\Q (g i j) H
def rI0(g:Int->Int->V):R2:=λx y H Q=>∃i j,x=.int i/\y=.int j/\Q (g i j) H
def rU(g:Int->V):V->Hp->VK->Prop:=λx H Q=>∃i,x=.int i/\Q (g i) H
section
variable {a b:Expr}
theorem binT(i:PE X a ta)(m:PE X b tb){R:V->V->Hp->Prop}(I:Inv X pins σ H s)
  (h:ta σ H λx H1=>tb σ H1 λy H2=>R x y H2)
  (j:∀v u e x y H2,Inv X pins σ H2 e->RelV x v->RelV y u->R x y H2->wpAny (model X.prog X.w) X.A (f v u) Q X.xe e) :
  wpAny (model X.prog X.w) X.A (eval a X.env) (λv c=>wpAny (model X.prog X.w) X.A (eval b X.env) (λu d=>wpAny (model X.prog X.w) X.A (f v u) Q X.xe d) X.xe c) X.xe s:=by
 refine thn (i pins s σ H _ I h) λv k g=>?_;obtain⟨x,H1,p,o,q⟩:=g;refine thn (m pins k σ H1 _ p q) λu e g=>?_;obtain⟨y,H2,l,n,r⟩:=g;exact j v u e x y H2 l o n r
theorem Q1q{op:Operator}(ho:OpR X (binaryOp op) r)(c:PE X a ta)(e:PE X b tb):PE X (.BinOp a op b pos) (tOp r ta tb):=by
 intro pins s σ H Q I h;exact wpAny_BinOp (binT c e I h λv u i x y H2 d f g q=>ho pins i σ H2 x y v u Q d f g q)
theorem Q1p{op:UnaryOp}{r:V->Hp->VK->Prop}(ho:UnR X (unaryOp op) r)(b:PE X a ta):PE X (.UnaryOp op a pos) (tUn r ta):=by
 intro pins s σ H Q I h;exact UnaryOp_ (thn (b pins s σ H _ I h) λv d ⟨x,H1,f,e,c⟩=>ho pins d σ H1 x v Q f e c)
theorem opI{C:Int->Int->Prop}
  (a:∀(i j:Int)(t u:Tok)(s:Shared)(Q:Value->Shared->Prop)(E:Value->Shared->Prop),C i j->Q (.int (g i j) s.toks) { s with toks:=s.toks+1 }->wpAny (model X.prog X.w) X.A (f (.int i t) (.int j u)) Q E s) :
  OpR X f (rI C λi j=>.int (g i j)):=by
 intro pins s σ H x y v u Q I b c h;obtain⟨i,j,rfl,rfl,d,q⟩:=h;obtain⟨t,rfl⟩:=b;obtain⟨t',rfl⟩:=c;exact a i j t t' s _ _ d ⟨.int (g i j),H,I.tok _,⟨_,rfl⟩,q⟩
theorem opI0
  (a:∀(i j:Int)(t u:Tok)(s:Shared)(Q:Value->Shared->Prop)(E:Value->Shared->Prop),Q (.int (g i j) s.toks) { s with toks:=s.toks+1 }->wpAny (model X.prog X.w) X.A (f (.int i t) (.int j u)) Q E s) :
  OpR X f (rI0 λi j=>.int (g i j)):=by
 intro pins s σ H x y v u Q I b c h;obtain⟨i,j,rfl,rfl,q⟩:=h;obtain⟨t,rfl⟩:=b;obtain⟨t',rfl⟩:=c;exact a i j t t' s _ _ ⟨.int (g i j),H,I.tok _,⟨_,rfl⟩,q⟩
theorem opB0{g:Int->Int->Bool}
  (a:∀(i j:Int)(t u:Tok)(s:Shared)(Q:Value->Shared->Prop)(E:Value->Shared->Prop),Q (.bool (g i j)) s->wpAny (model X.prog X.w) X.A (f (.int i t) (.int j u)) Q E s) :
  OpR X f (rI0 λi j=>.bl (g i j)):=by
 intro pins s σ H x y v u Q I b c h;obtain⟨i,j,rfl,rfl,q⟩:=h;obtain⟨t,rfl⟩:=b;obtain⟨t',rfl⟩:=c;exact a i j t t' s _ _ ⟨.bl (g i j),H,I,rfl,q⟩
def CDiv(i j:Int):Prop:=0<j/\j<1073741824
def Q2l(i j:Int):Prop:=j≠0/\j.natAbs<1073741824
def CPow(i j:Int):Prop:=0<=j/\j<=1000000/\i.natAbs<2 ^ 64
def CMul(i j:Int):Prop:=(-(2 ^ 64)<i/\i<2 ^ 64)\/(-(2 ^ 64)<j/\j<2 ^ 64)
theorem CMul.ok{j:Int}(h:CMul i j):IntMulOk i j:=by
 rcases h with⟨h1,h2⟩|⟨h1,h2⟩
 ·exact .of_left (intBits_le_64 h1 h2)
 ·exact .of_right (intBits_le_64 h1 h2)
theorem Qyq:OpR X (binaryOp .Add) (rI0 λi j=>.int (i+j)):=opI0 λ_ _ _ _ _ _ _ q=>add_int q
theorem Qyg:OpR X (binaryOp .Sub) (rI0 λi j=>.int (i-j)):=opI0 λ_ _ _ _ _ _ _ q=>sub_int q
theorem Qyl:OpR X (binaryOp .Mult) (rI CMul λi j=>.int (i*j)):=opI λ_ _ _ _ _ _ _ a q=>mul_int q a.ok
theorem Qvc:OpR X (binaryOp .FloorDiv) (rI CDiv λi j=>.int (i/j)):=opI λi j _ _ _ _ _ a q=>by
 have h1:(0:Int)<j:=a.1;have h2:j<1073741824:=a.2;exact floordiv_int (by lia) (by rw[Int.fdiv_eq_ediv_of_nonneg i (by lia)];exact q) (.inl (Oy (by lia)))
theorem Qql:OpR X (binaryOp .FloorDiv) (rI Q2l λi j=>.int (i.fdiv j)):=opI λ_ _ _ _ _ _ _ a q=>floordiv_int a.1 q (.inl (Oy a.2))
theorem Qym:OpR X (binaryOp .Mod) (rI (λ_ j=>0<j) λi j=>.int (i%j)):=opI λi j _ _ _ _ _ a q=>by
 have h1:(0:Int)<j:=a;exact mod_int' (by lia) (by rw[Int.fmod_eq_emod_of_nonneg i (by lia)];exact q)
theorem Qvb:OpR X (binaryOp .Mod) (rI (λ_ j=>j≠0) λi j=>.int (i.fmod j)):=opI λ_ _ _ _ _ _ _ a q=>mod_int' a q
theorem Qyi:OpR X (binaryOp .Pow) (rI CPow λi j=>.int (i ^ j.toNat)):=opI λ_ _ _ _ _ _ _ a q=>pow_int_small a.1 a.2.1 a.2.2 q
theorem unI{f:Value->Sem Value}{g:Int->Int}
  (a:∀(i:Int)(t:Tok)(s:Shared)(Q:Value->Shared->Prop)(E:Value->Shared->Prop),Q (.int (g i) s.toks) { s with toks:=s.toks+1 }->wpAny (model X.prog X.w) X.A (f (.int i t)) Q E s) :
  UnR X f (rU λi=>.int (g i)):=by
 intro pins s σ H x v Q I b h;obtain⟨i,rfl,q⟩:=h;obtain⟨t,rfl⟩:=b;exact a i t s _ _ ⟨.int (g i),H,I.tok _,⟨_,rfl⟩,q⟩
theorem Qww:UnR X (unaryOp .USub) (rU λi=>.int (-i)):=unI λ_ _ _ _ _ q=>neg_int q
end
noncomputable def scal:V->V->Bool
 | .non,.non=>true | .non,.int _=>true | .int _,.non=>true | .non,.bl _=>true | .bl _,.non=>true | .non,.str _=>true | .str _,.non=>true
 | .int _,.int _=>true | .bl _,.bl _=>true | .str _,.str _=>true | .byt _,.byt _=>true
 | .int _,.str _=>true | .str _,.int _=>true | .bl _,.str _=>true | .str _,.bl _=>true
 |_,_=>false
def rEq:R2:=λx y H Q=>scal x y=true/\Q (.bl (decide (x=y))) H
def rNe:R2:=λx y H Q=>scal x y=true/\Q (.bl (!decide (x=y))) H
theorem Qoj{j:Int}:decide (V.int i=V.int j)=(i==j):=by
 rw[I8];simp
theorem Qka{i j:Bool}:decide (V.bl i=V.bl j)=(i==j):=by
 rw[I8];simp
theorem Qoi{i j:Str}:decide (V.str i=V.str j)=(i==j):=by
 rw[I8];simp
theorem Qok{i j:Array UInt8}:decide (V.byt i=V.byt j)=(i.toList==j.toList):=by
 rw[I8];cases i;cases j;simp
section
variable {a b:Expr}
theorem Jc{Q:VK}{k a:Bool}(I:Inv X pins σ H s)(q:Q (.bl k) H)(e:k=a):EP X pins σ Q (.bool a) s:=by
 subst e;exact⟨.bl k,H,I,rfl,q⟩
theorem Q1x:OpR X (compareOp .Eq) rEq:=by
 intro pins s σ H x y v u Q I c a h;obtain⟨b,q⟩:=h;cases x with
 | non=>
  cases c;cases y with
  |non=>cases a;exact PySem.EqNone.eq_none_none (Jc I q (by simp))
  |bl j=>cases a;exact PySem.EqNone.eq_none_bool (Jc I q (by simp))
  |int j=>obtain⟨t',rfl⟩:=a;exact PySem.EqNone.eq_none_int (Jc I q (by simp))
  |str j=>obtain⟨t',rfl⟩:=a;exact PySem.EqNone.eq_none_str (Jc I q (by simp))
  |_=>exact absurd (show false=true from b) Bt
 | bl i=>
  cases c;cases y with
  |non=>cases a;exact PySem.EqNone.eq_bool_none (Jc I q (by simp))
  |bl j=>cases a;exact eq_bool (Jc I q Qka)
  |str j=>obtain⟨t',rfl⟩:=a;exact PySem.EqMixed.eq_bool_str (Jc I q (by simp))
  |_=>exact absurd (show false=true from b) Bt
 | int i=>
  obtain⟨t,rfl⟩:=c;cases y with
  |non=>cases a;exact PySem.EqNone.eq_int_none (Jc I q (by simp))
  |int j=>obtain⟨t',rfl⟩:=a;exact eq_int (Jc I q Qoj)
  |str j=>obtain⟨t',rfl⟩:=a;exact PySem.EqMixed.eq_int_str (Jc I q (by simp))
  |_=>exact absurd (show false=true from b) Bt
 | str i=>
  obtain⟨t,rfl⟩:=c;cases y with
  |non=>cases a;exact PySem.EqNone.eq_str_none (Jc I q (by simp))
  |bl j=>cases a;exact PySem.EqMixed.eq_str_bool (Jc I q (by simp))
  |int j=>obtain⟨t',rfl⟩:=a;exact PySem.EqMixed.eq_str_int (Jc I q (by simp))
  |str j=>obtain⟨t',rfl⟩:=a;exact eq_str (Jc I q Qoi)
  |_=>exact absurd (show false=true from b) Bt
 | byt i=>
  obtain⟨t,rfl⟩:=c;cases y with
  |byt j=>obtain⟨t',rfl⟩:=a;exact PySem.W.eq_bytes (Jc I q Qok)
  |_=>exact absurd (show false=true from b) Bt
 |_=>cases y<;>exact absurd (show false=true from b) Bt
theorem Q1u:OpR X (compareOp .NotEq) rNe:=by
 intro pins s σ H x y v u Q I c a h;obtain⟨b,q⟩:=h;cases x with
 | non=>
  cases c;cases y with
  |non=>cases a;exact PySem.EqNone.ne_none_none (Jc I q (by simp))
  |bl j=>cases a;exact PySem.EqNone.ne_none_bool (Jc I q (by simp))
  |int j=>obtain⟨t',rfl⟩:=a;exact PySem.EqNone.ne_none_int (Jc I q (by simp))
  |str j=>obtain⟨t',rfl⟩:=a;exact PySem.EqNone.ne_none_str (Jc I q (by simp))
  |_=>exact absurd (show false=true from b) Bt
 | bl i=>
  cases c;cases y with
  |non=>cases a;exact PySem.EqNone.ne_bool_none (Jc I q (by simp))
  |bl j=>cases a;exact ne_bool (Jc I q (congrArg not Qka))
  |str j=>obtain⟨t',rfl⟩:=a;exact PySem.EqMixed.ne_bool_str (Jc I q (by simp))
  |_=>exact absurd (show false=true from b) Bt
 | int i=>
  obtain⟨t,rfl⟩:=c;cases y with
  |non=>cases a;exact PySem.EqNone.ne_int_none (Jc I q (by simp))
  |int j=>obtain⟨t',rfl⟩:=a;exact ne_int (Jc I q (congrArg not Qoj))
  |str j=>obtain⟨t',rfl⟩:=a;exact PySem.EqMixed.ne_int_str (Jc I q (by simp))
  |_=>exact absurd (show false=true from b) Bt
 | str i=>
  obtain⟨t,rfl⟩:=c;cases y with
  |non=>cases a;exact PySem.EqNone.ne_str_none (Jc I q (by simp))
  |bl j=>cases a;exact PySem.EqMixed.ne_str_bool (Jc I q (by simp))
  |int j=>obtain⟨t',rfl⟩:=a;exact PySem.EqMixed.ne_str_int (Jc I q (by simp))
  |str j=>obtain⟨t',rfl⟩:=a;exact ne_str (Jc I q (congrArg not Qoi))
  |_=>exact absurd (show false=true from b) Bt
 | byt i=>
  obtain⟨t,rfl⟩:=c;cases y with
  |byt j=>obtain⟨t',rfl⟩:=a;exact PySem.W.ne_bytes (Jc I q (congrArg not Qok))
  |_=>exact absurd (show false=true from b) Bt
 |_=>cases y<;>exact absurd (show false=true from b) Bt
theorem Q1v:OpR X (compareOp .Lt) (rI0 λi j=>.bl (decide (i<j))):=opB0 λ_ _ _ _ _ _ _ q=>lt_int q
theorem Q1w:OpR X (compareOp .Gt) (rI0 λi j=>.bl (decide (j<i))):=opB0 λ_ _ _ _ _ _ _ q=>gt_int q
theorem OpR.or{a:R2}(h:OpR X f r)(h':OpR X f a):OpR X f (λx y H Q=>r x y H Q\/a x y H Q):=by
 intro pins s σ H x y v u Q I b c q;rcases q with q|q
 ·exact h pins s σ H x y v u Q I b c q
 ·exact h' pins s σ H x y v u Q I b c q
theorem Qsx(b:Expr)(h:op ≠ .In:=by decide)(h2:op ≠ .NotIn:=by decide):behindInMarks op b=false:=by
 have c:(op==CmpOp.In)=false:=by cases op<;>first|rfl|exact absurd rfl h
 have a:(op==CmpOp.NotIn)=false:=by cases op<;>first|rfl|exact absurd rfl h2
 cases b<;>simp[behindInMarks,c,a]
theorem Qu8(ho:OpR X (compareOp op) r)(c:PE X a ta)(e:PE X b tb)(hm:behindInMarks op b=false):PE X (.Compare a [op] [b] pos) (tOp r ta tb):=by
 intro pins s σ H Q I h;exact wpAny_Compare1 (binT c e I h λv u i x y H2 d f g q=>ho pins i σ H2 x y v u Q d f g q) hm
def Q0w(t:TE):TT:=λσ H Q=>t σ H λx H'=>∃k,x=.bl k/\Q k H'
theorem Qux(ho:OpR X (compareOp op) r)(d:PE X a ta)(j:PE X b tb)(hm:behindInMarks op b=false):PT X (.Compare a [op] [b] pos) (Q0w (tOp r ta tb)):=by
 intro pins s σ H Q I h;refine wpAny_isTrue_Compare1 (thn (d pins s σ H _ I h) λv g ⟨x,H1,o,n,t⟩=>thn (j pins g σ H1 _ o t) λu p ⟨y,H2,i,m,A⟩=>
  thn (ho pins p σ H2 x y v u _ i n m A) λc B ⟨z,q,w,l,k,e,f⟩=>?_) hm
 subst e;cases l;exact Ln ⟨q,w,f⟩
def TruV(K:Frag)(x:V)(H:Hp)(k:Bool):Prop :=
 match x with
 | .non=>k=false
 | .bl b=>k=b
 | .int i=>k=(i != 0)
 | .str y=>y.length<=sizeLine/\k=((y.length:Int) != 0)
 | .byt y=>y.size<=sizeLine/\k=((y.size:Int) != 0)
 | .ref p=>(∃xs,SqL K H p xs/\k = !xs.isEmpty)\/(∃xs,SqT K H p xs/\k = !xs.isEmpty)\/∃kvs,H p=some (.dK kvs)/\k = !kvs.isEmpty
 |_=>False
theorem Qk6{κ:Type}{kvs:List (κ×V)}{vs:List (κ×Value)}(r:KV kvs vs):(!vs.isEmpty) = !kvs.isEmpty:=by
 cases r<;>rfl
theorem Qd9(r:Vals xs its):(!its.toArray.isEmpty) = !xs.isEmpty:=by
 cases r<;>simp
theorem Qd6:(sizeLine:Nat)<2 ^ 63:=by rw[Sh];decide
theorem Qwz:TruR X (λx H Q=>∃k,TruV X.K x H k/\Q k H):=by
 intro pins s σ H x v Q I d h;obtain⟨k,e,q⟩:=h;have l:=Qd6;have n:sizeLine=16777216:=Sh;cases x with
 | non=>
  cases d;have a:k=false:=e;subst a;exact truthy_none ⟨H,I,q⟩
 | bl b=>
  cases d;have a:k=b:=e;subst a;exact Ln ⟨H,I,q⟩
 | int i=>
  obtain⟨t,rfl⟩:=d;have a:k=(i != 0):=e;subst a;exact PySem.P.truthy_int ⟨H,I,q⟩
 | str y=>
  obtain⟨t,rfl⟩:=d;obtain⟨j,a⟩:y.length<=sizeLine/\k=((y.length:Int) != 0):=e;subst a;exact PySem.P.truthy_str (by lia) ⟨H,I.tok _,q⟩
 | byt y=>
  obtain⟨t,rfl⟩:=d;obtain⟨j,a⟩:y.size<=sizeLine/\k=((y.size:Int) != 0):=e;subst a;exact PySem.W.truthy_bytes (by lia) ⟨H,I.tok _,q⟩
 | ref p=>
  cases d;have a:(∃xs,SqL X.K H p xs/\k = !xs.isEmpty)\/(∃xs,SqT X.K H p xs/\k = !xs.isEmpty)\/∃kvs,H p=some (.dK kvs)/\k = !kvs.isEmpty:=e;rcases a with⟨xs,f,a⟩|⟨xs,f,a⟩|⟨kvs,f,a⟩
  ·subst a;obtain⟨its,r,pl,hz⟩:=I.list f;have c:=r.length;exact wpAny_truthy_list pl.isList (by simp only[Br];lia) ⟨H,I.tok _,by rw[Qd9 r];exact q⟩
  ·subst a;obtain⟨its,r,pl,hz⟩:=I.tuple f;have c:=r.length;exact truthy_tuple pl (by simp only[Br];lia) ⟨H,I.tok _,by rw[Qd9 r];exact q⟩
  ·subst a;obtain⟨hz,g,vs,r,m⟩:kvs.length<=sizeLine/\(p==sysModules)=false/\∃vs,KV kvs vs/\s.heap.DictOf (Qu X.prog X.w) p vs:=I.hok p _ f;have c:kvs.length=vs.length:=D9 r;exact wpAny_truthy_dict g m (by lia) ⟨H,I.tok _,by rw[Qk6 r];exact q⟩
 |_=>exact(show False from e).elim
theorem Qp4(c:PE X a ta)(i:∀b,isTrue a X.env b=(do let v ← b;standAt a.pos;holding [v] (truthy v))) :
  PT X a (λσ H Q=>ta σ H λx H'=>∃k,TruV X.K x H' k/\Q k H'):=by
 intro pins s σ H Q I h
 exact isTrue_plain (thn (c pins s σ H _ I h) λv d ⟨x,H1,f,e,g⟩=>Qwz pins d σ H1 x v Q f e g) (i _)
theorem Qkz:OpR X (binaryOp .Add) (λx y H Q=>∃i j,x=.str i/\y=.str j/\i.length+j.length<=sizeLine/\Q (.str (i++j)) H):=by
 intro pins s σ H x y v u Q I a b h;obtain⟨i,j,rfl,rfl,hz,q⟩:=h;obtain⟨t,rfl⟩:=a;obtain⟨t',rfl⟩:=b;exact add_str (λt' c=>⟨.str (i++j),H,I.tok _,⟨_,rfl⟩,q⟩) hz
theorem Ga{x:V}(r:Vals [x] us):∃u,us=[u]/\RelV x u:=by
 cases r with
 |cons b a=>cases a;exact⟨_,rfl,b⟩
theorem Qkm{x:V}(r:Vals [x,y] us):∃u a,us=[u,a]/\RelV x u/\RelV y a:=by
 cases r with
 | cons c b=>
  cases b with
  |cons d e=>cases e;exact⟨_,_,rfl,c,d⟩
theorem Qo1(b:X.calm=true):Zk X (.builtin "min") (λxs H Q=>∃i j,xs=[.int i,.int j]/\Q (.int (if j<i then j else i)) H):=by
 intro pins s σ H xs us Q I r h;obtain⟨i,j,rfl,q⟩:=h;obtain⟨u,c,rfl,⟨t,rfl⟩,⟨t',rfl⟩⟩:=Qkm r;refine min_two_ints (I.ok.hd b) λh' d k=>⟨_,H,I.kept k,?_,q⟩
 by_cases a:j<i
 ·rw[if_pos a,if_pos a];exact⟨_,rfl⟩
 ·rw[if_neg a,if_neg a];exact⟨_,rfl⟩
theorem Qo4:Zk X (.type "int") (λxs H Q=>(∃i,xs=[.int i]/\Q (.int i) H)\/∃k,xs=[.bl k]/\Q (.int (if k then 1 else 0)) H):=by
 intro pins s σ H xs us Q I r h;rcases h with⟨i,rfl,q⟩|⟨k,rfl,q⟩
 ·obtain⟨u,rfl,t,rfl⟩:=Ga r;exact call_int_int ⟨.int i,H,I,⟨_,rfl⟩,q⟩
 ·obtain⟨u,rfl,a⟩:=Ga r;cases a;exact call_int_bool ⟨.int (if k then 1 else 0),H,I.tok _,⟨_,rfl⟩,q⟩
def LenV(K:Frag)(x:V)(H:Hp)(n:Nat):Prop :=
 match x with
 | .str y=>y.length<=sizeLine/\n=y.length
 | .byt y=>y.size<=sizeLine/\n=y.size
 | .ref p=>(∃xs,SqL K H p xs/\n=xs.length)\/∃xs,SqT K H p xs/\n=xs.length
 |_=>False
theorem Qrs:Zk X (.builtin "len") (λxs H Q=>∃x n,xs=[x]/\LenV X.K x H n/\Q (.int n) H):=by
 intro pins s σ H xs us Q I r h;obtain⟨x,n,rfl,e,q⟩:=h;obtain⟨u,rfl,d⟩:=Ga r;have i:=Qd6;have j:sizeLine=16777216:=Sh;cases x with
 | str y=>
  obtain⟨t,rfl⟩:=d;obtain⟨g,b⟩:y.length<=sizeLine/\n=y.length:=e;subst b;exact len_str (by lia) ⟨.int _,H,I.tok _,⟨_,rfl⟩,q⟩
 | byt y=>
  obtain⟨t,rfl⟩:=d;obtain⟨g,b⟩:y.size<=sizeLine/\n=y.size:=e;subst b;exact PySem.W.len_bytes (by lia) ⟨.int _,H,I.tok _,⟨_,rfl⟩,q⟩
 | ref p=>
  cases d;have b:(∃xs,SqL X.K H p xs/\n=xs.length)\/∃xs,SqT X.K H p xs/\n=xs.length:=e;rcases b with⟨xs,c,b⟩|⟨xs,c,b⟩
  ·subst b;obtain⟨its,f,pl,hz⟩:=I.list c;have a:=f.length;exact Calls.call_len_list pl.isList (by simp only[Br];lia) ⟨.int xs.length,H,I.tok _,⟨_,by simp only[Br];rw[a]⟩,q⟩
  ·subst b;obtain⟨its,f,pl,hz⟩:=I.tuple c;have a:=f.length;exact len_tuple pl (by simp only[Br];lia) ⟨.int xs.length,H,I.tok _,⟨_,by simp only[Br];rw[a]⟩,q⟩
 |_=>exact(show False from e).elim
end
structure ObjM(h:Heap)(x dx C:Addr)(mA:Str->Option Value):Prop where
 obj:h.get? x=some (instObj C dx)
 ns:h.Ns1 dx mA
 ne:dx≠x
theorem Qnb(n:h.Ns1 dx mA):∃od,h.get? dx=some od/\∀name,lookIn name od=some (mA name):=by
 obtain⟨o,es,ep,ho,hd,d,_,hm⟩:=n;refine⟨o,ho,λname=>?_⟩;have e:=hm name;unfold nsFind findBy at e;rw[← Array.find?_toList]at e;unfold lookIn;rw[hd];dsimp only;split
 ·rename_i y q;rw[q]at e;exact congrArg some e
 ·rename_i q;rw[q]at e;have a:es.toList.any (·.refKey)=false:=by
   rw[List.any_eq_false];intro y f;obtain⟨z,t,b⟩:=d y (Array.mem_toList_iff.mp f);simp[DictEntry.refKey,b]
  have c:¬es.toList.any (·.refKey)=true:=by rw[a];exact Bt
  rw[if_neg c];exact congrArg some e
theorem ObjM.look{x:Addr}(I:ObjM h x dx C mA):∃od,PySem.W.InstAt h x (instObj C dx) C (some od)/\∀name,lookIn name od=some (mA name) :=
 let ⟨od,ho,a⟩:=Qnb I.ns
 ⟨od,⟨I.obj,rfl,rfl,ho⟩,a⟩
theorem RelO.some_of{o:Option Value}(r:RelO (some v) o):∃u,o=some u/\RelV v u:=by
 cases o with
 |none=>exact(show False from r).elim
 |some u=>exact⟨u,rfl,r⟩
section
variable {fs:List (Str×V)}
theorem Qvy(hok:HOk P w H h)(e:H a=some (.ins C dx fs)):∃mA,ObjM h a dx C mA/\(∀f,RelO (fs.lookup f) (mA f))/\PySem.Within mA (fs.map (·.1))/\fs.length<=1000/\H dx=some (.own a):=by
 obtain⟨d,z,ne,ob,mA,n,r,q⟩:=(show Ja P w H h a (.ins C dx fs)from hok a _ e)
 exact⟨mA,⟨ob,n,ne⟩,r,q,z,d⟩
end
structure Cls(K:Frag)(C:Addr):Prop where
 pg:plainGet K C On=true
 hd:PySem.W.hasDictIn K C=true
 po:PySem.W.plainOver K C=true
 sa:findIn K (.ref C) "__setattr__" = some (some (.builtin "object.__setattr__"))
theorem Cls.get{K:Frag}(c:Cls K C)(f:Str):plainGet K C f=true:=c.pg
section
variable {c:Value}{b:Bool}
inductive TyOf(K:Frag)(H:Hp):V->Value->Prop where
 |non:TyOf K H .non (.type "NoneType")
 |bl (x:Bool):TyOf K H (.bl x) (.type "bool")
 |int (i:Int):TyOf K H (.int i) (.type "int")
 |str (x:Str):TyOf K H (.str x) (.type "str")
 |flt (x:UInt64):TyOf K H (.flt x) (.type "float")
 |lst {a:Addr} {xs:List V} (e:H a=some (.lst xs)):TyOf K H (.ref a) (.type "list")
 |frz {a:Addr} {o:Obj} {xs:List V} (e:H a=some (.frz o (.lst xs))):TyOf K H (.ref a) (.type "list")
 |tup {a:Addr} {xs:List V} (e:H a=some (.tup xs)):TyOf K H (.ref a) (.type "tuple")
 |dK {a:Addr} {kvs:List (Key×V)} (e:H a=some (.dK kvs)):TyOf K H (.ref a) (.type "dict")
 |dT {a:Addr} {kvs:List (List Key×V)} (e:H a=some (.dT kvs)):TyOf K H (.ref a) (.type "dict")
 | ins {a C dx:Addr} {fs:List (Str×V)} (e:H a=some (.ins C dx fs)) (cl:Cls K C) (c:findIn K (.ref C) "__class__" = some (some (.builtin "object.__class__")))
   (d:PySem.W.specialIn K (.builtin "object.__class__") "__get__" = some (some (.builtin "getset_descriptor.__get__"))) (b:PySem.W.takesIn K (.builtin "object.__class__")=some true)
   (hm:PySem.W.mroIn K C (.type "object")=some true):TyOf K H (.ref a) (.ref C)
theorem Qno{x:V}{t:Value}(I:Inv X pins σ H s)(f:RelV x u)(ty:TyOf X.K H x t)(e:kitOne X.K t c=some b)(h:∀k,Q (.bool b) { s with toks:=k }) :
  wpAny (model X.prog X.w) A (call (.builtin "isinstance") [u,c]) Q E s:=by
 cases ty with
 |non=>cases(show u=Dc from f);exact R9 PySem.W.kitx_none I.kIn N0 e (λz=>nomatch z) h
 |bl y=>cases(show u=Pk y from f);exact R9 PySem.W.kitx_bool I.kIn N0 e (λz=>nomatch z) h
 |int i=>obtain⟨t,q⟩:=(show ∃t,u=N6 i t from f);cases q;exact R9 PySem.W.kitx_int I.kIn N0 e (λz=>nomatch z) h
 |str y=>obtain⟨t,q⟩:=(show ∃t,u=A0g y t from f);cases q;exact R9 PySem.W.kitx_str I.kIn N0 e (λz=>nomatch z) h
 |flt y=>obtain⟨t,q⟩:=(show ∃t,u=Value.float y t from f);cases q;exact R9 PySem.W.kitx_float I.kIn N0 e (λz=>nomatch z) h
 | @lst a xs d=>
  cases(show u=Ba a from f);obtain⟨_,_,n,_,h1⟩:=(show Ja X.prog X.w H s.heap a (.lst xs)from I.hok a _ d)
  exact R9 kitx_list I.kIn ⟨_,h1,rfl⟩ e (λz=>nomatch z) h
 | @frz a ob xs d=>
  cases(show u=Ba a from f);obtain⟨_,_,_,n,_,h1⟩:=(show Ja X.prog X.w H s.heap a (.frz ob (.lst xs))from I.hok a _ d)
  exact R9 kitx_list I.kIn ⟨_,h1,rfl⟩ e (λz=>nomatch z) h
 | @tup a xs d=>
  cases(show u=Ba a from f);obtain⟨_,_,_,p⟩:=(show Ja X.prog X.w H s.heap a (.tup xs)from I.hok a _ d)
  obtain⟨o,h1,h2,_⟩:=p;exact R9 PySem.W.kitx_tuple I.kIn ⟨o,h1,h2⟩ e (λz=>nomatch z) h
 | @dK a kvs d=>
  cases(show u=Ba a from f);obtain⟨_,_,vs,_,p⟩:=(show Ja X.prog X.w H s.heap a (.dK kvs)from I.hok a _ d)
  obtain⟨o,es,ep,h1,h2,_⟩:=p;exact R9 kitx_dict I.kIn ⟨o,h1,h2.1⟩ e (λz=>nomatch z) h
 | @dT a kvs d=>
  cases(show u=Ba a from f);obtain⟨_,_,xs,_,o,es,ep,h1,h2,_⟩:=(show Ja X.prog X.w H s.heap a (.dT kvs)from I.hok a _ d)
  exact R9 kitx_dict I.kIn ⟨o,h1,h2.1⟩ e (λz=>nomatch z) h
 | @ins a C dx fs d cl j l g hm=>
  cases(show u=Ba a from f);obtain⟨mA,O,_⟩:=Qvy I.hok d;obtain⟨od,J,_⟩:=O.look;exact R9 (PySem.W.kitx_own (cl.get _) cl.hd j l g hm) I.kIn J e (λz=>nomatch z) h
end
structure Room(k:Nat)(A:Around):Prop where
 hd:A.handled=none
 dp:A.depth+3*k+5<recursionLimit
 un:A.units+16*k+200<cLine
theorem Room.mono{k:Nat}(r:Room k A)(h:j<=k):Room j A:=⟨r.hd,by have:=r.dp;lia,by have:=r.un;lia⟩
theorem Room.deeper{k:Nat}(r:Room (k+1) A)(env:Env):Room k (A.deeper env) :=
 ⟨r.hd,by have:=r.dp;show A.depth+1+3*k+5<_;lia,by have:=r.un;show A.units+3+16*k+200<_;lia⟩
theorem Room.depth{k:Nat}(r:Room k A):A.depth<recursionLimit:=by have:=r.dp;lia
theorem Room.units{k:Nat}(r:Room k A):A.units+64<cLine:=by have:=r.un;lia
def tNil:TA:=λ_ H Q=>Q [] H
def Q00(ta:TE)(tr:TA):TA:=λσ H Q=>ta σ H λx H1=>tr σ H1 λxs H2=>Q (x::xs) H2
section
variable {t:TA}
theorem Qjm:PA X [] tNil:=λ_ _ _ _ H Q I h=>A0o ⟨[],H,I,.nil,h⟩
theorem Qcj(a:PE X e te)(c:PA X es t)(f:starEach (e::es) X.env=(false,eval e X.env)::starEach es X.env:=by rfl):PA X (e::es) (Q00 te t):=by
 intro pos pins s σ H Q I h;rw[f];show wpAny _ _ (spliced ((false,eval e X.env)::backTo pos (starEach es X.env))) _ _ s;refine K1 (thn (a pins s σ H _ I h) λu b l=>?_);obtain⟨x,H1,j,i,k⟩:=l;exact thn (c pos pins b σ H1 _ j k) λus n ⟨xs,H2,d,g,m⟩=>⟨x::xs,H2,d,.cons i g,m⟩
def tTup(t:TA):TE:=λσ H Q=>t σ H λxs H1=>xs.length<=sizeLine/\∀p,H1 p=none->Q (.ref p) (upd H1 p (.tup xs))
def tLst(t:TA):TE:=λσ H Q=>t σ H λxs H1=>xs.length<=sizeLine/\∀p,H1 p=none->Q (.ref p) (upd H1 p (.lst xs))
theorem Qx8{g}(h:PA X es t):PE X (.Tuple es g pos) (tTup t):=by
 intro pins s σ H Q I f;refine wpAny_Tuple_spliced (thn (h pos pins s σ H _ I f) λus a ⟨xs,H1,c,r,z,q⟩=>⟨by rw[← r.length];exact z,?_⟩);have d:H1 a.heap.objs.size=none:=c.hok.fresh (At _);refine⟨.ref a.heap.objs.size,upd H1 a.heap.objs.size (.tup xs),c.laid (t':=a.toks) (λb u e=>Ao _ e) (At _) ?_,rfl,q _ d⟩;exact⟨z,us,r,⟨_,Be _ rfl,rfl,_,rfl⟩⟩
theorem Qya(h:PA X es t):PE X (.List es pos) (tLst t):=by
 intro pins s σ H Q I f;refine wpAny_List_spliced (thn (h pos pins s σ H _ I f) λus a ⟨xs,H1,c,r,z,q⟩=>⟨by rw[← r.length];exact z,?_⟩);have d:H1 a.heap.objs.size=none:=c.hok.fresh (At _);refine⟨.ref a.heap.objs.size,upd H1 a.heap.objs.size (.lst xs),c.laid (t':=a.toks) (λb u e=>Ao _ e) (At _) ?_,rfl,q _ d⟩;exact⟨z,us,0,r,Be _ rfl⟩
end
abbrev Sp:=List V->Hp->VK->XK->Prop
abbrev CXT:=List Env->Hp->Shared->XK->Value->Shared->Prop
end L2
variable {f:Fz}{r:L2.V->List L2.V->L2.Hp->L2.VK->Prop}{fd:PySem.FuncData}{ps:List N7}{CX:L2.CXT}{mg m:N7->Option Fb}{base:Lr}{qual name:N7}{scope:PySem.Scope}{od:A0h}{osl:Array (Option Fb)}{sp:L2.Sp}{apos:Iv}
namespace L2
open PySem PySem.Spec PyProof.Rows
structure Env0(P:Program)(w:World)(K:Frag)(mg:Str->Option Value)(base:Heap)(A:Around)(outer:List Env)(s:Shared)(H:Hp):Prop where
 frames:A.frames=some outer
 mod:Mod K mg base
 bs:∀b o,base.get? b=some o->s.heap.get? b=some o/\H b=none
 bsz:base.objs.size<=s.heap.objs.size
 funs:s.heap.FunFrames base outer
 frf:∀b∈frs outer,H b=none
 hok:HOk P w H s.heap
 bare:AllBare s.gens
def CE(outer:List Env)(P:Program)(w:World)(H:Hp)(s:Shared)(Q:VK)(u:Value)(s':Shared):Prop :=
 ∃v H',s'.os=s.os/\AllBare s'.gens/\Un (frs outer) [] H H' s.heap s'.heap/\HOk P w H' s'.heap/\RelV v u/\Q v H'
def CR(CX:CXT)(outer:List Env)(P:Program)(w:World)(H:Hp)(s:Shared)(Q:VK)(E:XK)(r:Result)(s':Shared):Prop :=
 match r with
 | .ok (.ret u)=>CE outer P w H s Q u s'
 | .ok _=>False
 | .error e=>CX outer H s E e s'
structure FnOk(P:Program)(w:World)(K:Frag)(mg:Str->Option Value)(base:Heap)(CX:CXT)(k:Nat)(f:Addr)(fd:FuncData)(ps:List Str)(sp:Sp):Prop where
 len:∀vs H Q E,sp vs H Q E->vs.length=ps.length
 run:∀(A:Around)(outer:List Env)(s:Shared)(H:Hp)(args:Args)(us:List Value)(vs:List V)(Q:VK)(E:XK),Room k A->Env0 P w K mg base A outer s H->BindsTo s fd args (ps.zip us)->Vals vs us->sp vs H Q E ->
  codeAny (model P w) A (.call (.ref f) args) (CR CX outer P w H s Q E) s
theorem Inv.env0(I:Inv X pins σ H s):Env0 X.prog X.w X.K X.mg X.base X.A X.stack s H :=
 ⟨I.ok.frames,I.ok.mod,I.bs,Dg I.ok.bsz I.sz,I.stack,I.stkFree,I.hok,I.bare⟩
theorem Inv.after{Q:VK}(I:Inv X pins σ H s)(h:CE X.stack X.prog X.w H s Q u s'):EP X pins σ Q u s':=by
 obtain⟨v,H',os,bare,un,hok,r,q⟩:=h;obtain⟨c,g,d,t,a⟩:=s';obtain rfl:a=s.os:=os;exact⟨v,H',I.call (h':=c) (g':=g) (d':=d) (t':=t) (ch:=[]) un hok bare (λb z=>absurd z (by simp)),r,q⟩
def Q01(sp:Sp)(dvs:List V)(E:XK)(t:TA):TE:=λσ H Q=>t σ H λvs H1=>sp (vs++dvs) H1 Q E
def Qhi(K:Frag)(fd:FuncData)(ps:List Str)(ds:List Value):Prop :=
 ∀(s:Shared)(us:List Value),K.In s.heap->(us++ds).length=ps.length->BindsTo s fd ⟨us,[]⟩ (ps.zip (us++ds))
theorem Qhi.all{K:Frag}(h:∀us:List Value,us.length=ps.length->bindArgs fd ⟨us,[]⟩=pure (ps.zip us)):Qhi K fd ps []:=λs us _ a=>by
 rw[Dz]at a ⊢;exact .of_eq (h us a)
def Qpg(CX:CXT)(X:Cx)(E:XK):Prop:=∀(pins:List (Addr×Obj)) (σ:St) (H:Hp) (s:Shared) (e:Value) (s':Shared),Inv X pins σ H s->CX X.stack H s E e s'->X.xe e s'
section
variable {k:Nat}{dvs:List V}{ds:List Value}{E:XK}{t:TA}
theorem Qw9{Q:VK}(F:FnOk X.prog X.w X.K X.mg X.base CX k f fd ps sp)(g:Room k X.A)(i:Qhi X.K fd ps ds)(hd:Vals dvs ds)(c:Qpg CX X E)
  (I:Inv X pins σ H s) (r:Vals vs us) (h:sp (vs++dvs) H Q E):wpAny (model X.prog X.w) X.A (call (.ref f) us) (EP X pins σ Q) X.xe s:=by
 have b:Vals (vs++dvs) (us++ds):=r.append hd;have d:(us++ds).length=ps.length:=by rw[← b.length];exact F.len _ _ _ _ h
 refine wpAny_call (L4 (F.run X.A X.stack s H ⟨us,[]⟩ (us++ds) (vs++dvs) Q E g I.env0 (i s us I.kIn d) b h) λr s' a=>?_);cases r with
 |error e=>exact c pins σ H s e s' I a
 | ok fl=>
  cases fl with
  |ret u=>exact I.after a
  |next=>exact Na a
  |brk=>exact Na a
  |cont=>exact Na a
theorem Qmt(F:FnOk X.prog X.w X.K X.mg X.base CX k f fd ps sp)(g:Room k X.A)(hg:Gl X x)(hm:X.mg x=some (.ref f))(l:keepIn X.K (.ref f)=true)(i:Qhi X.K fd ps ds)(hd:Vals dvs ds)(j:Qpg CX X E)
  (d:PA X (e::es) t) (b:(x==("__debug__":Str))=false:=by decide) (m:starEach (e::es) X.env=(false,eval e X.env)::starEach es X.env:=by rfl) (a:(backTo pos (starEach es X.env)).any (·.1)=false:=by rfl) :
  PE X (.Call (.Name x p) (e::es) [] pos) (Q01 sp dvs E t):=by
 intro pins s σ H Q I h;refine K2 (Qnd I hg hm ?_ b);refine PySem.W.callWith_K (h₀:=X.base) I.ok.mod.kin l (thn (d pos pins s σ H _ I h) λus n ⟨vs,H1,c,r,q⟩=>⟨c.kIn,?_⟩) m a;exact Qw9 F g i hd j c r q
end
structure FnScope(N P:List Str)(a:Scope):Prop where
 kind:a.kind=.function
 co:a.isCoroutine=false
 gen:a.isGenerator=false
 nd:N.Nodup
 pre:N.take P.length=P
 par:∀x∈P,a.names.lookup x=some .local\/a.names.lookup x=some .cell
 nofree:∀y∈a.names,y.2 ≠ .free
theorem Qg8{kindOf:Str->Option NameKind}{x:Str}:∀{a:List (Str×Value)} {m:Str->Option Value},(∀v,(x,v)∉a)->bindL kindOf a m x=m x
 | [],_,_=>rfl
 | (n,v)::r,m,h=>by
  unfold bindL;rw[Qg8 λw hw=>h w (Am _ hw)];split
  ·have:x≠n:=by rintro rfl;exact h v An
   simp[this]
  ·rfl
theorem Qha{kindOf:Str->Option NameKind}{x:Str}:∀{a:List (Str×Value)} {m:Str->Option Value},(∀v,(x,v)∉a)->bindC kindOf a m x=m x
 | [],_,_=>rfl
 | (n,v)::r,m,h=>by
  unfold bindC;rw[Qha λw hw=>h w (Am _ hw)];split
  ·rfl
  ·have:x≠n:=by rintro rfl;exact h v An
   simp[this]
theorem Qg9{kindOf:Str->Option NameKind}{x:Str}{v:Value}:∀{P:List Str}{vs:List Value}{i:Nat}{m:Str->Option Value},P.Nodup->P[i]? = some x->vs[i]? = some v->kindOf x=some .local ->
  bindL kindOf (P.zip vs) m x=some v
 | [],_,_,_,_,h,_,_=>by simp at h
 |_::_,[],_,_,_,_,h,_=>by simp at h
 | p::P,w::vs,0,m,nd,h1,h2,a=>by
  simp at h1 h2;subst h1;subst h2;show bindL kindOf ((p,w)::P.zip vs) m p=_;unfold bindL;rw[Qg8 λv b=>(Bf.mp nd).1 (Oo b).1,if_pos a];simp
 | p::P,w::vs,i+1,m,nd,h1,h2,a=>by
  show bindL kindOf ((p,w)::P.zip vs) m x=_;unfold bindL;exact Qg9 (i:=i) (Bf.mp nd).2 (by simpa using h1) (by simpa using h2) a
theorem Qhb{kindOf:Str->Option NameKind}{x:Str}{v:Value}:∀{P:List Str}{vs:List Value}{i:Nat}{m:Str->Option Value},P.Nodup->P[i]? = some x->vs[i]? = some v->kindOf x≠some .local ->
  bindC kindOf (P.zip vs) m x=some v
 | [],_,_,_,_,h,_,_=>by simp at h
 |_::_,[],_,_,_,_,h,_=>by simp at h
 | p::P,w::vs,0,m,nd,h1,h2,a=>by
  simp at h1 h2;subst h1;subst h2;show bindC kindOf ((p,w)::P.zip vs) m p=_;unfold bindC;rw[Qha λv b=>(Bf.mp nd).1 (Oo b).1,if_neg a];simp
 | p::P,w::vs,i+1,m,nd,h1,h2,a=>by
  show bindC kindOf ((p,w)::P.zip vs) m x=_;unfold bindC;exact Qhb (i:=i) (Bf.mp nd).2 (by simpa using h1) (by simpa using h2) a
def start(N:List Str)(vs:List V):St:=vs.map some++Bo (N.length-vs.length) none
noncomputable def cxOf(CX:CXT)(P:Program)(w:World)(K:Frag)(mg:Str->Option Value)(base:Heap)(N:List Str)(qual:Str)(scope:Scope)(f:Addr)(b:Value)(A:Around)(outer:List Env)(s:Shared)(H:Hp)(E:XK):Cx where
 prog:=P
 w:=w
 K:=K
 mg:=mg
 base:=base
 A:=A.deeper (envOfC qual scope s.heap.objs.size f b)
 N:=N
 s₀:=s
 H₀:=H
 env:=envOfC qual scope s.heap.objs.size f b
 outer:=outer
 stack:=envOfC qual scope s.heap.objs.size f b::outer
 ex:=[]
 calm:=true
 fn:=λ_=>true
 pn:=[]
 xe:=λe s'=>wpAny (model P w) (A.deeper (envOfC qual scope s.heap.objs.size f b)) (leaving (envOfC qual scope s.heap.objs.size f b) e) (λ_ a=>CX outer H s E e a) (λc a=>CX outer H s E c a) s'
theorem Qkg{a:Scope}(h:a.names.lookup x=some .cell):∃c,(cellsFrom n a.names []).lookup x=some c:=by
 have q:=cellsFrom_some a.names n [] (.inl h);exact M6.mp q
theorem Qnu{K:Frag}{o:Value}{outer:List Env}{t:Shared}{E:XK}
  (S:FnScope N ps scope) (hd:A.handled=none) (d:Env0 P w K mg base A outer s H) (I:vs.length=ps.length) (r:Vals vs us)
  (x:InCallC s s.heap.objs.size (bindL (envOfC qual scope s.heap.objs.size f o).kindOf (ps.zip us) λ_=>none) (cellsFrom (s.heap.objs.size+1) scope.names []) (bindC (envOfC qual scope s.heap.objs.size f o).kindOf (ps.zip us) λ_=>none) t) :
  Inv (cxOf CX P w K mg base N qual scope f o A outer s H E) [] (start N vs) H t:=by
 have G:ps.length<=N.length:=by have:=congrArg Oz S.pre;rw[Ma]at this;lia
 obtain ⟨h1,L,rfl,C⟩:=x.done;have g:∀b:Addr,b∉(cxOf CX P w K mg base N qual scope f o A outer s H E).ex:=λb z=>absurd (show b∈([]:List Addr)from z) (by simp);refine⟨⟨d.mod,S.kind,rfl,rfl,At _,λy z c h1 h2=>?_,λy j=>?_,λy c _ h=>?_,λ_=>hd,Around.frames_deeper d.frames,.inr ⟨rfl,rfl⟩,λb z=>absurd z (g b),d.bs,d.bsz,λb _ _=>g b,λb z=>absurd z (g b),d.funs,d.frf⟩,
  rfl,d.bare,Un.kept C,⟨_,x.toInCall.ns,λi y v h1 h2 J=>?_⟩,λy c h=>⟨_,x.cell y c h⟩,d.hok.fresh (At _),λy c h=>?_,λp m=>absurd (show p∈([]:List (Addr×Obj))from m) (by simp),d.hok.kept C,?_⟩
 ·exact name_of_addr x.apart (Nm h1) (Nm h2)
 ·have j:scope.names.lookup y=some .cell\/scope.names.lookup y=some .free:=j;rcases j with j|j
  ·exact Qkg j
  ·exact absurd rfl (S.nofree _ (Nm j))
 ·exact Fo (x.above y c (Nm h))
 ·have hi:i<vs.length:=by
   unfold start at h2;by_cases hi:i<vs.length
   ·exact hi
   ·rw[Nq (by simpa using hi)]at h2;rw[List.getElem?_replicate]at h2
    split at h2<;>cases h2
  have D:vs[i]? = some v:=by
   unfold start at h2;rw[Ru (by simpa using hi),Bh]at h2;cases e:vs[i]? with
   |none=>rw[e]at h2;cases h2
   |some a=>rw[e]at h2;cases h2;rfl
  obtain ⟨u,B,F⟩:=r.get D;have m:ps[i]? = some y:=by
   rw[← S.pre,Mm (by lia)];exact h1
  have l:ps.Nodup:=by rw[← S.pre];exact S.nd.sublist (N5 _ _)
  refine⟨u,F,?_⟩;rcases S.par y (Bk m)with k|k
  ·exact .inl ⟨k,Qg9 l m B k⟩
  ·obtain⟨c,e⟩:=Qkg (n:=s.heap.objs.size+1) k;refine .inr ⟨.inl k,c,e,?_⟩;have q:=x.cell y c e;rw[Qhb l m B (by show scope.names.lookup y≠_;rw[k];decide)]at q;exact q
 ·exact d.hok.fresh (Fo (x.above y c (Nm h)))
 ·unfold start;show _=N.length;rw[Dy,Ap,List.length_replicate];lia
theorem Q2a{K:Frag}{k:Nat}{c:Arguments}{G kV l D a ct Z:Value}{M od:Option Addr}(R:K.lookup f=some ⟨Z,od,.func (fnOf name qual c body scope G kV l D M a ct),osl⟩)(z:codeIn K a qual=true)(S:FnScope N ps scope)
  (len:∀vs H Q E,sp vs H Q E->vs.length=ps.length)
  (g:∀(A:Around)(outer:List Env)(s:Shared)(H:Hp)(vs:List V)(Q:VK)(E:XK),Room k (A.deeper (envOfC qual scope s.heap.objs.size f a))->sp vs H Q E ->
   ∃t,PSs (cxOf CX P w K mg base N qual scope f a A outer s H E) body t/\t { nx:=λ_ H'=>Q .non H',rt:=Q } (start N vs) H) :
  FnOk P w K mg base CX (k+1) f (fnOf name qual c body scope G kV l D M a ct) ps sp:=by
 refine ⟨len,λA outer s H args us vs Q E p m T r j=>?_⟩;have O:=len _ _ _ _ j;have L:K.In s.heap:=m.mod.kin.keeps λb o e=>(m.bs b o e).1;have B:s.heap.NoLimit:=m.mod.nolimit.keeps λb o e=>(m.bs b o e).1;have h:∀y∈ps.zip us,scope.names.lookup y.1=some .local\/(scope.names.lookup y.1=some .cell/\((cellsFrom (s.heap.objs.size+1) scope.names []).lookup y.1).isSome=true):=λ⟨n,v⟩ Y=>by
  rcases S.par n (Oo Y).1 with q|q
  ·exact .inl q
  ·exact .inr ⟨q,cellsFrom_some _ _ _ (.inl q)⟩
 refine codeAny_call_function p.depth (L _ _ R) rfl S.co S.gen rfl (PySem.W.codeRec_of L z) (T _ _ _ _ ?_);refine wpAny_newFunctionEnv_cells S.kind h λenv X F x=>?_;subst X;refine⟨B.keeps x.toInCall.keep,codeAny_func ?_⟩;obtain⟨t,U,W⟩:=g A outer s H vs Q E (p.deeper _) j;have I:Inv (cxOf CX P w K mg base N qual scope f a A outer s H E) [] (start N vs) H F:=Qnu S p.hd m O r x;refine Mo (U [] F (start N vs) H _ I W) (λfl s' i=>?_) λe s' i=>i;have fin:∀{d:St}{H':Hp}{v:V}{u:Value},Inv (cxOf CX P w K mg base N qual scope f a A outer s H E) [] d H' s'->RelV v u->Q v H'->CE outer P w H s Q u s' :=
  λ{d H' v u} J C q=>⟨v,H',J.os,J.bare,J.base,J.hok,C,q⟩
 cases fl with
 | ret u=>
  obtain⟨v,d,H',J,C,q⟩:=i;exact fin J C q
 | next=>
  obtain⟨d,H',J,q⟩:=i;exact fin (v:=V.non) (u:=Dc) J rfl q
 | brk=>
  obtain⟨_,_,_,q⟩:=i;exact Na q
 | cont=>
  obtain⟨_,_,_,q⟩:=i;exact Na q
section
variable {t:TA}{id T:String}{r:List V->Hp->VK->Prop}
def tCB(r:List V->Hp->VK->Prop)(t:TA):TE:=λσ H Q=>t σ H λvs H1=>r vs H1 Q
theorem Qqj(m:Zk X (.builtin id) r)(hg:Gl X x)(hm:X.mg x=none)(c:bootBuiltins x=some (.builtin id))(d:PA X (e::es) t)(l:x ≠ "__name__":=by decide)(b:(x==("__debug__":Str))=false:=by decide)
  (k:starEach (e::es) X.env=(false,eval e X.env)::starEach es X.env:=by rfl) (a:(backTo pos (starEach es X.env)).any (·.1)=false:=by rfl):PE X (.Call (.Name x p) (e::es) [] pos) (tCB r t):=by
 intro pins s σ H Q I h;refine K2 (Gh I hg hm c ?_ l b);exact PyProof.Rows.callWith_builtin1 (thn (d pos pins s σ H _ I h) λus f ⟨vs,H1,i,g,j⟩=>m pins f σ H1 vs us Q i g j) k a
theorem Qci(m:Zk X (.type T) r)(hg:Gl X x)(hm:X.mg x=none)(c:bootBuiltins x=some (.type T))(d:PA X (e::es) t)(l:x ≠ "__name__":=by decide)(b:(x==("__debug__":Str))=false:=by decide)
  (k:starEach (e::es) X.env=(false,eval e X.env)::starEach es X.env:=by rfl) (a:(backTo pos (starEach es X.env)).any (·.1)=false:=by rfl):PE X (.Call (.Name x p) (e::es) [] pos) (tCB r t):=by
 intro pins s σ H Q I h;refine K2 (Gh I hg hm c ?_ l b);exact Fq (thn (d pos pins s σ H _ I h) λus f ⟨vs,H1,i,g,j⟩=>m pins f σ H1 vs us Q i g j) k a
end
end L2
namespace HT
open PySem PyProof.Rows
def J1:List Int->List Int->Bool
 | [],[]=>false
 | [],_::_=>true
 |_::_,[]=>false
 |x::xs,y::ys=>if x=y then J1 xs ys else decide (x<y)
theorem Vq(x y:Int)(xs ys:List Int):J1 (x::xs) (y::ys)=if x=y then J1 xs ys else decide (x<y):=rfl
theorem Qe3:J1 [] []=false:=rfl
theorem Qdj(y:Int)(ys:List Int):J1 [] (y::ys)=true:=rfl
theorem Qdk(x:Int)(xs:List Int):J1 (x::xs) []=false:=rfl
theorem Qq6(A:Around)(s:Shared)(a:Int)(t:Tok)(c:Int)(u:Tok):∃e,Pm A s (.int a t) (.int c u) e/\(e=true↔a=c) :=
 ⟨(a==c),K3 a t c u,by simp⟩
theorem Qpy(A:Around)(s:Shared)(a:Int)(t:Tok)(c:Int)(u:Tok)(prog:Program)(w:World)(E:Value->Shared->Prop)(Q:Value->Shared->Prop)(h:Q (.bool (decide (a<c))) s) :
  wpAny (model prog w) A (richCompare .Lt (.int a t) (.int c u)) Q E s :=
 (A0e h:wpAny (model prog w) A (compareOp .Lt (.int a t) (.int c u)) Q E s)
end HT
namespace HT
open PySem PyProof.Rows PySem.SeqAt
open PySem.AutoSeq1 (wpAny_loadPart')
open PySem.MeetsSeq PySem.MeetsSeq2 PySem.MeetsSeq3
theorem Qej(l b:Addr)(items f:Array Value)(n N:Nat)(M G:Option Addr)(sl F:Array (Option Value))(ns E:List Int)(hi:IntsAre items.toList ns)(J:IntsAre f.toList E) :
  Meets (Builtin.«tuple.__lt__» ⟨[.ref l,.ref b],[]⟩)
   (λ_ R s=>s.heap.get? l=some { cls:=.type "tuple",dict:=M,data:=.seq items n,slots:=sl }/\s.heap.get? b=some { cls:=.type "tuple",dict:=G,data:=.seq f N,slots:=F } /\
    R (.ok (.ret (.bool (J1 ns E)))) s) :=
 .of_wp λprog w A R s h=>by
  obtain⟨D,g,d,C,os⟩:=s;obtain⟨K,L,h⟩:=h;have P:=AutoSeq1.sub_tuple_tuple;have U:items.size=ns.length:=by rw[← hi.length];simp
  have T:f.size=E.length:=by rw[← J.length];simp
  wp_walk using Nk K,Nk L,Mk _ (λrest b s'=>b.1=none/\s'=⟨D,g,d,C,os⟩/\∃(vs ws:List Value)(j k:List Int),rest=vs.zip ws /\
   IntsAre vs j/\IntsAre ws k/\j.length+f.size=k.length+items.size/\R (.ok (.ret (.bool (J1 j k)))) ⟨D,g,d,C,os⟩) _
  case turn=>
   rintro⟨y,x⟩ rest b s' ⟨r,rfl,vs,ws,j,k,hz,v,m,i,o⟩;cases v with
   |nil=>rw[List.zip_nil_left]at hz;cases hz
   | cons a t B=>
    cases m with
    |nil=>rw[List.zip_nil_right]at hz;cases hz
    | cons c u z=>
     rw[K4]at hz;injection hz with hyx hrest;injection hyx with hy hx;subst hy hx;rw[Vq]at o;simp only[Av]at i;obtain⟨e,O,p⟩:=Qq6 A.in1 ⟨D,g,d,C,os⟩ a t c u;refine Ak (O prog w _ _ ?_);cases e with
     | true=>
      rw[if_pos (p.mp rfl)]at o
      wp_walk
      exact⟨rfl,rfl,_,_,_,_,hrest,B,z,by lia,o⟩
     | false=>
      rw[if_neg (λq=>absurd (p.mpr q) Bt)]at o;have H:=Qpy A.in1 ⟨D,g,d,C,os⟩ a t c u prog w
      wp_walk using H
      exact⟨_,rfl,by simpa using o⟩
  case fin=>
   rintro ⟨S,Q⟩ s' ⟨r,rfl,vs,ws,j,k,hz,v,m,i,o⟩;simp only at r;subst r;have I:J1 j k=decide (items.size<f.size):=by
    cases v with
    | nil=>
     cases m with
     | nil=>
      simp only[Bc]at i;rw[Qe3];exact(decide_eq_false (by lia)).symm
     | cons c u hw=>
      simp only[Bc,Av]at i;rw[Qdj];exact(decide_eq_true (by lia)).symm
    | cons a t I=>
     cases m with
     | nil=>
      simp only[Bc,Av]at i;rw[Qdk];exact(decide_eq_false (by lia)).symm
     | cons c u hw=>
      rw[K4]at hz;cases hz
   rw[I]at o
   wp_walk
   exact⟨_,rfl,by simpa[Builtin.Tuple.tupleCompareSizes]using o⟩
  case h=>
   exact⟨rfl,rfl,items.toList,f.toList,ns,E,rfl,hi,J,by lia,h⟩
end HT
variable {v vl vu:Fb}{vs ws:List Fb}{l:PySem.W.OpenLaw}{items:Array Fb}{ns:List Int}{sl:Fz}{prog:Lc}
namespace HT
open PySem PyProof.Rows
theorem Qd5{l:Addr}{a:Array Value}{f:List Int}(o:IsTup s.heap l items)(p:IsTup s.heap b a)(hi:IntsAre items.toList ns)(q:IntsAre a.toList f)
  (u:A.units<cLine) (h:Q (.bool (J1 ns f)) s):wpAny (model prog w) A (compareOp .Lt (.ref l) (.ref b)) Q E s:=by
 obtain ⟨⟨cls,r,data,sl⟩,ho,m,n,hd⟩:=id o;obtain⟨⟨k,i,j,g⟩,c,e,t,d⟩:=id p;simp only at m hd e d;subst m hd e d;exact richCompare_meets_room (op:=.Lt) ⟨_,ho,rfl⟩ ⟨_,c,rfl⟩ PySem.F.slot_tuple_lt PySem.F.entry_tuple_lt (PySem.F.args_tuple_lt_2 _ _) (Qej l b items a n t r i sl g ns f hi q)
  ⟨ho,c,show Pk (J1 ns f)≠Value.notImplemented/\Q (.bool (J1 ns f)) s from⟨(λx=>nomatch x),h⟩⟩ u
theorem Qoz{t:Addr}(o:IsTup s.heap t vs.toArray)(p:IsTup s.heap b ws.toArray)(i:vs≠[])
  (h1:ws=[]->Q (.ref t) s) (h2:ws≠[]->Q (.ref s.heap.objs.size) { s with heap:=s.heap.push { cls:=.type "tuple",data:=.seq (vs++ws).toArray } })
  (hsz:vs.length+ws.length<=sizeLine):wpAny (model prog w) A (binaryOp .Add (.ref t) (.ref b)) Q E s:=by
 obtain⟨⟨cls,j,data,sl⟩,ho,m,n,hd⟩:=id o;obtain⟨⟨l,g,h,c⟩,a,f,k,d⟩:=id p;simp only at m hd f d;subst m hd f d;have e:vs.toArray++ws.toArray=(vs++ws).toArray:=by simp
 by_cases hw:ws=[]
 ·exact L5 ⟨_,ho,rfl⟩ ⟨_,a,rfl⟩ Im Lf Si R7 (Rz _ _)
   (tuple_addW1 t b vs.toArray ws.toArray n k j g sl c (by simpa using i) (by simp[hw])) ⟨ho,a,h1 hw⟩
 ·refine L5 ⟨_,ho,rfl⟩ ⟨_,a,rfl⟩ Im Lf Si R7 (Rz _ _)
   (tuple_addW2 t b vs.toArray ws.toArray n k j g sl c (by simpa using i) (by simpa using hw) (by rw[Br,Br];exact hsz)) ⟨ho,a,?_⟩
  rw[e];exact h2 hw
def sIx(n d:Nat):Option Int->Nat
 |none=>d
 |some v=>if v<0 then (v+(n:Int)).toNat else min v.toNat n
theorem Qi7(n d:Nat):sIx n d none=d:=rfl
theorem Qeo(n d k:Nat):sIx n d (some (k:Int))=min k n:=by
 show(if (k:Int)<0 then ((k:Int)+(n:Int)).toNat else min (k:Int).toNat n)=min k n;rw[if_neg (by lia),Fh]
theorem Qw8(n d:Nat)(hd:d<=n)(o:Option Int):sIx n d o<=n:=by
 cases o with
 |none=>exact hd
 | some v=>
  show(if v<0 then (v+(n:Int)).toNat else min v.toNat n)<=n;by_cases a:v<0
  ·rw[if_pos a];lia
  ·rw[if_neg a];exact Nat.min_le_right _ _
theorem Qow(v:Int)(n d:Nat):(if v<0 then max (v+(n:Int)) 0 else min v (n:Int))=((sIx n d (some v):Nat):Int):=by
 show(if v<0 then max (v+(n:Int)) 0 else min v (n:Int))=(((if v<0 then (v+(n:Int)).toNat else min v.toNat n):Nat):Int)
 by_cases a:v<0
 ·simp only[if_pos a];lia
 ·simp only[if_neg a];lia
theorem Qll(lo hi:Option Int)(n:Nat):Tb lo hi 1 (n:Int)=(((sIx n 0 lo:Nat):Int),((sIx n n hi:Nat):Int)):=by
 have h1:¬((1:Int)<0):=by lia
 unfold Tb;simp only[h1,if_false];refine A0z ?_ ?_
 ·cases lo with
  |none=>rfl
  |some v=>exact Qow v n 0
 ·cases hi with
  |none=>rfl
  |some v=>exact Qow v n n
theorem Qky(i j:Nat):Rv (i:Int) (j:Int) 1=j-i:=by
 unfold Rv;have h1:(1:Int) > 0:=by lia
 simp only[h1,if_true,Int.ediv_one]
 split<;>lia
theorem Qdy{o:Option Int}{Q:Option Int->Shared->Prop}(p:IsPart v o)(h:Q o s):wpAny (model prog w) A (Builtin.Slice.slicePartIndex v) Q E s:=by
 cases p with
 |none=>exact slicePart_none h
 |int i t=>exact slicePart_int h
theorem V4{Q:Int×Int×Nat->Shared->Prop}(d:s.heap.IsSliceOf sl vl vu .none)(pl:IsPart vl lo)(c:IsPart vu hi)
  (h:Q (((sIx n 0 lo:Nat):Int),1,sIx n n hi-sIx n 0 lo) s):wpAny (model prog w) A (Lg (.ref sl) (pure (n:Int))) Q E s:=by
 obtain⟨os,a,e,b⟩:=id d;unfold Lg Builtin.Slice.sliceFields;refine Ak (Ak (Dk a b (x:=vl) rfl (Ak (Dk a b (x:=vu) rfl (Ak (Dk a b (x:=.none) rfl (Al ?_)))))));refine Ak (slicePart_none ?_);show wpAny _ _ (if ((1:Int)==0)=true then _ else _) _ _ s;rw[if_neg (by decide)];refine Ak (Qdy pl (Ak (Qdy c (Ak (Al ?_)))));show wpAny _ _ (match Tb lo hi 1 (n:Int)with|(lo,hi)=>pure (lo,(1:Int),Rv lo hi 1)) _ _ s;rw[Qll lo hi n];show wpAny _ _ (pure (((sIx n 0 lo:Nat):Int),(1:Int),Rv ((sIx n 0 lo:Nat):Int) ((sIx n n hi:Nat):Int) 1)) _ _ s;rw[Qky];exact Al h
theorem Qp9(xs:Array Value)(i k:Nat):((Aq k).filterMap λ(m:Nat)=>xs[((i:Int)+(m:Int)*1).toNat]?).toArray=((xs.toList.drop i).take k).toArray:=by
 have e:(λ(m:Nat)=>xs[((i:Int)+(m:Int)*1).toNat]?)=λm=>xs[i+m]?:=by
  funext m;have:((i:Int)+(m:Int)*1).toNat=i+m:=by lia
  rw[this]
 rw[e];have:=pick_run xs i k;rw[List.filterMap_map]at this;have a:((λx=>xs[x]?) ∘ λx=>i+x)=λm=>xs[i+m]?:=rfl;rw[a]at this;rw[this]
theorem Qak{t:Addr}(b:IsTup s.heap t items)(g:s.heap.IsSliceOf sl vl vu .none)(pl:IsPart vl lo)(j:IsPart vu hi)
  (hw:¬(sIx items.size 0 lo=0/\sIx items.size items.size hi=items.size))
  (h:Q (.ref s.heap.objs.size) { s with heap:=s.heap.push { cls:=.type "tuple",data:=.seq ((items.toList.drop (sIx items.size 0 lo)).take (sIx items.size items.size hi-sIx items.size 0 lo)).toArray } })
  (hsz:items.size<=sizeLine):wpAny (model prog w) A (getItem (.ref t) (.ref sl)) Q E s:=by
 have a:sizeOk (.seq ((items.toList.drop (sIx items.size 0 lo)).take (sIx items.size items.size hi-sIx items.size 0 lo)).toArray):=by
  show((items.toList.drop (sIx items.size 0 lo)).take (sIx items.size items.size hi-sIx items.size 0 lo)).toArray.size<=sizeLine;rw[Br,Ma,L6,Mw];lia
 have k:sIx items.size items.size hi<=items.size:=Qw8 _ _ (At _) hi;obtain⟨os,e,f,i⟩:=id g;have d:s.TypeIs (.ref sl) "slice":=⟨os,e,f⟩
 unfold getItem
 try with_reducible refine Dx ?_
 first|refine Ak (Al ?_)|skip
 refine Ak (T1 b.typeIs (by decide) ?_);refine Ak (De (name:=Fa "__getitem__") b.typeIs D8
  (B4 D8 b.typeIs entry_tuple_getitem ?_ (args_tuple_getitem _ _)))
 show wpAny _ _ (S4 (.ref t) >>= _) _ _ s;refine Ak (tupleItemsOf_ b ?_);refine Ak (L7 d ?_);rw[if_pos (by decide)];refine Ak (V4 g pl j ?_);have c:¬((((sIx items.size 0 lo:Nat):Int)==0&&(1:Int)==1&&(sIx items.size items.size hi-sIx items.size 0 lo)==items.size)=true):=by
  intro q;rw[B6,B6]at q;have l:((sIx items.size 0 lo:Nat):Int)=0:=eq_of_beq q.1.1;have n:sIx items.size items.size hi-sIx items.size 0 lo=items.size:=eq_of_beq q.2;exact hw ⟨by lia,by lia⟩
 show wpAny _ _ (if (((sIx items.size 0 lo:Nat):Int)==0&&(1:Int)==1&&(sIx items.size items.size hi-sIx items.size 0 lo)==items.size)=true then _ else _) _ _ s;rw[if_neg c,Qp9]
 first
  |exact Ak (m:=R0 _) (Di (Al ⟨_,rfl,Al h⟩) a)
  |exact Ak (m:=R0 _) (Di (Ak (Al (Al ⟨_,rfl,Al h⟩))) a)
  |exact Ak (Ak (m:=R0 _) (Di (Al (Al ⟨_,rfl,Al h⟩)) a))
  |exact Ak (Ak (m:=R0 _) (Di (Al ⟨_,rfl,Al h⟩) a))
end HT
namespace L2
open PySem PySem.Spec PyProof.Rows
abbrev TO:=St->Hp->(Option Int->Hp->Prop)->Prop
end L2
variable {xs:List (List L2.Key×Fz×Fb)}{d:L2.V}{kvs:List (List L2.Key×L2.V)}{cpos p2:Iv}
namespace L2
open PySem PySem.Spec PyProof.Rows
def PO(X:Cx)(e:Option Expr)(t:TO):Prop :=
 ∀(pins:List (Addr×Obj)) (s:Shared) (σ:St) (H:Hp) (Q:Option Int->Hp->Prop),Inv X pins σ H s->t σ H Q ->
  wpAny (model X.prog X.w) X.A (evalPart e X.env) (λu s'=>∃o H',Inv X pins σ H' s'/\IsPart u o/\Q o H') X.xe s
def Qty:TO:=λ_ H Q=>Q none H
def Q0x(t:TE):TO:=λσ H Q=>t σ H λx H1=>∃i,x=.int i/\Q (some i) H1
theorem Zm:∀{us:List Value},Vals (ns.map V.int) us->IntsAre us ns:=by
 induction ns with
 |nil=>intro us r;rw[Bm]at r;cases r;exact .nil
 | cons n ns a=>
  intro us r;rw[Ar]at r;cases r with
  | cons c b=>
   obtain⟨t,e⟩:=c;subst e;exact .cons n t (a b)
section
variable {lo hi:Option Expr}{tl th:TO}
theorem Qu3:PO X none Qty:=by
 intro pins s σ H Q I h;rw[evalPart_none];exact Al ⟨none,H,I,.none,h⟩
theorem Qu2(h:PE X e te):PO X (some e) (Q0x te):=by
 intro pins s σ H Q I hw;rw[evalPart_some];refine thn (h pins s σ H _ I hw) λu f d=>?_;obtain⟨x,H1,b,a,c⟩:=d;obtain⟨i,rfl,q⟩:=c;obtain⟨t,rfl⟩:=a;exact⟨some i,H1,b,.int i t,q⟩
def SlR(X:Cx)(r:V->Option Int->Option Int->Hp->VK->Prop):Prop :=
 ∀(pins:List (Addr×Obj)) (s:Shared) (σ:St) (H:Hp) (x:V) (v vl vu:Value) (lo hi:Option Int) (sl:Addr) (Q:VK),Inv X pins σ H s->RelV x v->s.heap.IsSliceOf sl vl vu .none->IsPart vl lo->IsPart vu hi->r x lo hi H Q ->
  ∃T id,typeLookup (.type T) "__getitem__" = pure (some (.builtin id))/\s.TypeIs v T/\wpAny (model X.prog X.w) X.A (getItem v (.ref sl)) (EP X pins σ Q) X.xe s
theorem SlR.or{r c:V->Option Int->Option Int->Hp->VK->Prop}(h:SlR X r)(h':SlR X c):SlR X (λx lo hi H Q=>r x lo hi H Q\/c x lo hi H Q):=by
 intro pins s σ H x v vl vu lo hi sl Q I b a pl d q;rcases q with q|q
 ·exact h pins s σ H x v vl vu lo hi sl Q I b a pl d q
 ·exact h' pins s σ H x v vl vu lo hi sl Q I b a pl d q
def tSl(r:V->Option Int->Option Int->Hp->VK->Prop)(te:TE)(tl th:TO):TE:=λσ H Q=>te σ H λx H1=>tl σ H1 λl H2=>th σ H2 λu a=>r x l u a Q
theorem Qqd{r:V->Option Int->Option Int->Hp->VK->Prop}(j:SlR X r)(B:PE X e te)(g:PO X lo tl)(t:PO X hi th):PE X (.Subscript e (.Slice lo hi none p2) pos) (tSl r te tl th):=by
 intro pins s σ H Q I h;refine Subscript_ (thn (B pins s σ H _ I h) λv i c=>?_);obtain⟨x,H1,p,o,y⟩:=c;refine wpAny_Slice (thn (g pins i σ H1 _ p y) λvl w ⟨l,H2,k,pl,n⟩=>thn (t pins w σ H2 _ k n) λvu a c=>?_);obtain⟨u,d,D,C,f⟩:=c;rw[evalPart_none];refine Al ?_;have z:Inv X pins σ d { a with heap:=a.heap.push { cls:=.type "slice",data:=.fields #[vl,vu,.none] } }:=D.kept (t':=a.toks) λb ob q=>Ao _ q;obtain⟨T,id,A,m,hg⟩:=j pins { a with heap:=a.heap.push { cls:=.type "slice",data:=.fields #[vl,vu,.none] } } σ d x v vl vu l u a.heap.objs.size Q z o (Heap.IsSliceOf.new ..) pl C f;show wpAny (model X.prog X.w) X.A (subscriptTail e (.Slice lo hi none p2) v (.ref a.heap.objs.size)) (EP X pins σ Q) X.xe { a with heap:=a.heap.push { cls:=.type "slice",data:=.fields #[vl,vu,.none] } };exact tail_any (ops:=[.ref a.heap.objs.size,v]) m A hg (by with_unfolding_all rfl)
def cutV(xs:List V)(lo hi:Option Int):List V:=(xs.drop (HT.sIx xs.length 0 lo)).take (HT.sIx xs.length xs.length hi-HT.sIx xs.length 0 lo)
theorem Qc6(xs:List V)(lo hi:Option Int):(cutV xs lo hi).length<=xs.length:=by
 unfold cutV;rw[Ma,L6];lia
noncomputable def rSlT(K:Frag):V->Option Int->Option Int->Hp->VK->Prop:=λx lo hi H Q=>∃a xs,x=.ref a/\SqT K H a xs /\
 ¬(HT.sIx xs.length 0 lo=0/\HT.sIx xs.length xs.length hi=xs.length)/\∀p,H p=none->Q (.ref p) (upd H p (.tup (cutV xs lo hi)))
theorem Qw4:SlR X (rSlT X.K):=by
 intro pins s σ H x v vl vu lo hi sl Q I g e pl i h;obtain⟨a,xs,rfl,f,hw,q⟩:=h;cases g;obtain⟨its,r,d,hz⟩:=I.tuple f;have c:its.toArray.size=xs.length:=by rw[Br];exact r.length.symm
 refine⟨"tuple",_,D8.lookup,d.typeIs,?_⟩;refine HT.Qak d e pl i (by rw[c];exact hw) ?_ (by rw[c];exact hz);rw[c];refine⟨.ref s.heap.objs.size,_,I.laid (t':=s.toks) (o:=.tup (cutV xs lo hi)) (λb ob q=>Ao _ q) (At _) ?_,rfl,q _ (I.hok.fresh (At _))⟩;exact⟨Dg (Qc6 xs lo hi) hz,_,(r.drop (HT.sIx xs.length 0 lo)).take (HT.sIx xs.length xs.length hi-HT.sIx xs.length 0 lo),Op _ _⟩
def rLtT(K:Frag):R2:=λx y H Q=>∃a b ns c,x=.ref a/\y=.ref b/\SqT K H a (ns.map V.int)/\SqT K H b (c.map V.int)/\Q (.bl (HT.J1 ns c)) H
theorem Qyn(n:X.A.units<cLine):OpR X (compareOp .Lt) (rLtT X.K):=by
 intro pins s σ H x y v u Q I k m h;obtain⟨a,b,ns,d,rfl,rfl,e,g,q⟩:=h;cases k;cases m;obtain⟨its,l,o,_⟩:=I.tuple e;obtain⟨c,j,p2,_⟩:=I.tuple g;have f:IntsAre its.toArray.toList ns:=Zm l;have i:IntsAre c.toArray.toList d:=Zm j;exact HT.Qd5 o p2 f i n ⟨.bl (HT.J1 ns d),H,I,rfl,q⟩
noncomputable def Q1i(K:Frag):R2:=λx y H Q=>∃a b xs ys,x=.ref a/\y=.ref b/\SqT K H a xs/\SqT K H b ys/\xs≠[]/\xs.length+ys.length<=sizeLine /\
 (ys=[]->Q (.ref a) H)/\(ys≠[]->∀p,H p=none->Q (.ref p) (upd H p (.tup (xs++ys))))
theorem Vals.nil_iff{xs:List V}(r:Vals xs us):us=[]↔xs=[]:=by
 cases r with
 |nil=>simp
 |cons _ _=>simp
theorem Qvd:OpR X (binaryOp .Add) (Q1i X.K):=by
 intro pins s σ H x y v u Q I j k h;obtain⟨a,b,xs,ys,rfl,rfl,f,g,i,hz,m,n⟩:=h;cases j;cases k;obtain⟨its,d,l,_⟩:=I.tuple f;obtain⟨e,c,p2,_⟩:=I.tuple g;refine HT.Qoz l p2 (λz=>i (d.nil_iff.mp z)) (λz=>⟨.ref a,H,I,rfl,m (c.nil_iff.mp z)⟩) (λz=>?_) (by rw[← d.length,← c.length];exact hz);refine⟨.ref s.heap.objs.size,_,I.laid (t':=s.toks) (o:=.tup (xs++ys)) (λb ob q=>Ao _ q) (At _) ?_,rfl,n (λw=>z (c.nil_iff.mpr w)) _ (I.hok.fresh (At _))⟩;exact⟨by rw[Dy];exact hz,_,d.append c,Op _ _⟩
end
def ixN(n:Nat)(i:Int):Option Nat:=if 0<=i then (if i<n then some i.toNat else none)else if -(n:Int)<=i then some (i+n).toNat else none
def atI{a:Type}(xs:List a)(i:Int):Option a:=(ixN xs.length i).bind λj=>xs[j]?
theorem Qe4(h:ixN n i=some j):seqIndex? i n=some j/\j<n /\ -(n:Int)<=i/\i<n:=by
 unfold ixN at h;by_cases h0:0<=i
 ·rw[if_pos h0]at h;by_cases h1:i<n
  ·rw[if_pos h1]at h;have e:i.toNat=j:=B3 h;exact⟨by rw[seqIndex_of h0 h1,e],by lia,by lia,h1⟩
  ·rw[if_neg h1]at h;cases h
 ·rw[if_neg h0]at h;by_cases h1:-(n:Int)<=i
  ·rw[if_pos h1]at h;have e:(i+n).toNat=j:=B3 h;exact⟨by rw[seqIndex_neg (by lia) h1,e],by lia,h1,by lia⟩
  ·rw[if_neg h1]at h;cases h
theorem Qim{a:Type}{xs:List a}{v:a}(h:atI xs i=some v):∃j,seqIndex? i xs.length=some j/\xs[j]? = some v/\j<xs.length /\ -(xs.length:Int)<=i/\i<xs.length:=by
 unfold atI at h;cases e:ixN xs.length i with
 |none=>rw[e]at h;cases h
 | some j=>
  rw[e]at h;obtain⟨h1,h2,b,h4⟩:=Qe4 e;exact⟨j,h1,h,h2,b,h4⟩
def Qpf(b:Expr):Prop:=∀o i,subscripted b false o i=operate [o,i] (getItem o i)
def IxR(X:Cx)(r:R2):Prop :=
 ∀(value a:Expr) (pins:List (Addr×Obj)) (s:Shared) (σ:St) (H:Hp) (x y:V) (v u:Value) (Q:VK),Inv X pins σ H s->RelV x v->RelV y u->r x y H Q ->
  subscripted a false v u=operate [v,u] (getItem v u)->wpAny (model X.prog X.w) X.A (subscriptTail value a v u) (EP X pins σ Q) X.xe s
def MtR(X:Cx)(id:String)(r:V->List V->Hp->VK->Prop):Prop :=
 ∀(pins:List (Addr×Obj)) (s:Shared) (σ:St) (H:Hp) (x:V) (xs:List V) (v:Value) (us:List Value) (Q:VK),Inv X pins σ H s->RelV x v->Vals xs us->r x xs H Q ->
  wpAny (model X.prog X.w) X.A (call (.builtin id) (v::us)) (EP X pins σ Q) X.xe s
section
variable {a b:Expr}
theorem IxR.or{r e:R2}(h:IxR X r)(h':IxR X e):IxR X (λx y H Q=>r x y H Q\/e x y H Q):=by
 intro value a pins s σ H x y v u Q I c d q b;rcases q with q|q
 ·exact h value a pins s σ H x y v u Q I c d q b
 ·exact h' value a pins s σ H x y v u Q I c d q b
theorem Q1r{r:R2}(d:IxR X r)(c:PE X a ta)(f:PE X b tb)(g:Qpf b):PE X (.Subscript a b pos) (tOp r ta tb):=by
 intro pins s σ H Q I h;exact Subscript_ (binT c f I h λv u k x y H2 e i j q=>d a b pins k σ H2 x y v u Q e i j q (g _ _))
def rIxL(K:Frag):R2:=λx y H Q=>∃p xs i v,x=.ref p/\y=.int i/\SqL K H p xs/\atI xs i=some v/\Q v H
def rIxT(K:Frag):R2:=λx y H Q=>∃p xs i v,x=.ref p/\y=.int i/\SqT K H p xs/\atI xs i=some v/\Q v H
def rIxS:R2:=λx y H Q=>∃z i c,x=.str z/\y=.int i/\z.length<=sizeLine/\atI z.cps.toList i=some c/\Q (.str ⟨#[c]⟩) H
theorem Qvt:IxR X (rIxL X.K):=by
 intro value b pins s σ H x y v u Q I l m h d;obtain⟨p,xs,i,z,rfl,rfl,k,n,q⟩:=h;cases l;obtain⟨t,rfl⟩:=m;obtain⟨its,r,pl,hz⟩:=I.list k;obtain⟨j,h1,h2,o,h4,g⟩:=Qim n;obtain⟨w,e,c⟩:=r.get h2;have f:=r.length;have A:=Qd6;have fin:EP X pins σ Q w s:=⟨z,H,I,c,q⟩
 by_cases h0:0<=i
 ·have a:i.toNat=j:=by
   rw[seqIndex_of h0 g]at h1;exact B3 h1
  exact item_listR pl.isList h0 (by lia) (by rw[a];simpa using e) fin d
 ·have a:(i+(its.toArray.size:Int)).toNat=j:=by
   rw[seqIndex_neg (by lia) h4]at h1;rw[Br,← f];exact B3 h1
  exact O0 (x:=w) pl.isList.typeIs slot_list_getitem.lookup
   (wpAny_getItem_list_neg (Q:=λr s'=>r=w/\EP X pins σ Q r s') pl.isList (by lia) (by rw[Br]<;>lia) (by lia) (by rw[a];simpa using e) ⟨rfl,fin⟩) d
theorem Qzp:IxR X (rIxT X.K):=by
 intro value a pins s σ H x y v u Q I f g h e;obtain⟨p,xs,i,z,rfl,rfl,d,l,q⟩:=h;cases f;obtain⟨t,rfl⟩:=g;obtain⟨its,r,pl,hz⟩:=I.tuple d;obtain⟨j,h1,h2,m,h4,n⟩:=Qim l;obtain⟨w,k,b⟩:=r.get h2;have c:=r.length;have o:=Qd6;have fin:EP X pins σ Q w s:=⟨z,H,I,b,q⟩
 exact O0 (x:=w) pl.typeIs slot_tuple_getitem.lookup
  (getItem_tuple (j:=j) (Q:=λr s'=>r=w/\EP X pins σ Q r s') pl (by lia) (by lia) (by rw[Br,← c];exact h1) (by simpa using k) ⟨rfl,fin⟩) e
theorem Qzq:IxR X rIxS:=by
 intro value a pins s σ H x y v u Q I g k h f;obtain⟨z,i,c,rfl,rfl,hz,l,q⟩:=h;obtain⟨t,rfl⟩:=g;obtain⟨t',rfl⟩:=k;obtain⟨j,h1,h2,n,h4,d⟩:=Qim l;have b:z.cps.toList.length=z.length:=by simp[Str.length]
 rw [b]at h1 h4 d;have o:=Qd6;exact tail_any (typeIs_str s z t) slot_str_getitem.lookup (getItem_str (c:=c) (by
  have m:decide (i < -(2 ^ 63:Int))=false:=decide_eq_false (by lia);have e:decide (i≥2 ^ 63)=false:=decide_eq_false (by lia);rw[m,e,Bool.or_false]) (by rw[h1];simpa using h2) ⟨.str ⟨#[c]⟩,H,I.tok _,⟨_,rfl⟩,q⟩) f
def rIx(K:Frag):R2:=λx y H Q=>rIxL K x y H Q\/rIxT K x y H Q\/rIxS x y H Q
theorem Qs4:IxR X (rIx X.K):=Qvt.or (Qzp.or Qzq)
theorem Qk2(its:List Value)(n j:Nat)(u:Value):Nb (·.setIfInBounds j u) { cls:=.type "list",data:=.seq its.toArray n }={ cls:=.type "list",data:=.seq (its.set j u).toArray n }:=by
 simp[Nb]
theorem Inv.lst{pins:List (Addr×Obj)}{σ:St}{H:Hp}{s:Shared}{p:Addr}{xs:List V}(I:Inv X pins σ H s)(h:H p=some (.lst xs)) :
  ∃(its:List Value)(n:Nat),Vals xs its/\s.heap.get? p=some { cls:=.type "list",data:=.seq its.toArray n }/\xs.length<=sizeLine:=by
 obtain⟨z,its,n,r,e⟩:=I.hok p _ h;exact⟨its,n,r,e,z⟩
theorem Inv.lstUpd{p:Addr}{xs:List V}{its':List Value}{a:Nat}{f:Obj->Obj}(I:Inv X pins σ H s)(h:H p=some (.lst xs))
  (ho:s.heap.get? p=some { cls:=.type "list",data:=.seq its.toArray n }) (c:f { cls:=.type "list",data:=.seq its.toArray n }={ cls:=.type "list",data:=.seq its'.toArray a }) (r:Vals ys its') (hz:ys.length<=sizeLine) (t:Nat) :
  Inv X pins σ (upd H p (.lst ys)) { s with heap:=s.heap.update p f,toks:=t }:=by
 have e:(s.heap.update p f).get? p=some { cls:=.type "list",data:=.seq its'.toArray a }:=by
  rw[Fc f ho (by rw[c]<;>rfl),c]
 refine I.write (x:=p) (e:=p) (by rw[h];trivial) (.inl rfl) (λb u d q=>(Sk _ _ (Ra d)).trans q) ⟨_,e⟩ ?_;exact⟨hz,its',a,r,e⟩
def Q1f:V->V->V->Hp->(Hp->Prop)->Prop:=λo i v H Q=>∃p xs k j,o=.ref p/\i=.int k/\H p=some (.lst xs)/\ixN xs.length k=some j/\Q (upd H p (.lst (xs.set j v)))
theorem Qpu:PSet X Q1f:=by
 intro pins s σ H o i v ov w u Q I ro l g h;obtain⟨p,xs,k,j,rfl,rfl,e,f,q⟩:=h;cases ro;obtain⟨t,rfl⟩:=l;obtain⟨its,n,r,ho,hz⟩:=I.lst e;obtain⟨h1,h2,c,h4⟩:=Qe4 f;have a:=r.length;have m:=Qd6;have d:Inv X pins σ (upd H p (.lst (xs.set j v))) { s with heap:=s.heap.update p (Nb (·.setIfInBounds j u)) } :=
  I.lstUpd e ho (Qk2 its n j u) (r.set g j) (by rw[Nl];exact hz) s.toks
 by_cases h0:0<=k
 ·have b:k.toNat=j:=by
   rw[seqIndex_of h0 h4]at h1;exact B3 h1
  exact PySem.W.ki_setAt ho h0 (by lia) (by rw[Br,← a];exact h4) (by rw[b];exact⟨_,d,q⟩)
 ·have b:(k+(its.toArray.size:Int)).toNat=j:=by
   rw[seqIndex_neg (by lia) c]at h1;rw[Br,← a];exact B3 h1
  exact PySem.W.ki_setBack ho (by lia) (by rw[Br,← a];exact c) (by lia) (by rw[b];exact⟨_,d,q⟩)
theorem Qf1(lo hi:Option Int)(n:Nat):(sliceBounds lo hi none n).1=((HT.sIx n 0 lo:Nat):Int)/\(sliceBounds lo hi none n).2.1=((HT.sIx n n hi:Nat):Int)/\(sliceBounds lo hi none n).2.2=1:=by
 refine⟨?_,?_,rfl⟩
 ·cases lo with
  |none=>simp[sliceBounds,HT.sIx]
  | some i=>
   simp only[sliceBounds,HT.sIx,A00,show(1:Int) > 0 by decide,if_true];by_cases h:i<0
   ·simp only[h,if_true]<;>lia
   ·simp only[h,if_false]<;>lia
 ·cases hi with
  |none=>simp[sliceBounds,HT.sIx]
  | some i=>
   simp only[sliceBounds,HT.sIx,A00,show(1:Int) > 0 by decide,if_true];by_cases h:i<0
   ·simp only[h,if_true]<;>lia
   ·simp only[h,if_false]<;>lia
theorem Qel(its:List Value)(lo hi:Option Int):slicePick its.toArray lo hi none=((its.drop (HT.sIx its.length 0 lo)).take (HT.sIx its.length its.length hi-HT.sIx its.length 0 lo)).toArray:=by
 obtain⟨h1,h2,a⟩:=Qf1 lo hi its.toArray.size;unfold slicePick;rw[h1,h2,a];simp only[sliceRange_one,pick_run,Br]<;>rfl
def rSlL(K:Frag):V->Option Int->Option Int->Hp->VK->Prop:=λx lo hi H Q=>∃a xs,x=.ref a/\SqL K H a xs/\∀p,H p=none->Q (.ref p) (upd H p (.lst (cutV xs lo hi)))
theorem Qt3:SlR X (rSlL X.K):=by
 intro pins s σ H x v vl vu lo hi sl Q I g e pl i h;obtain⟨a,xs,rfl,f,q⟩:=h;cases g;obtain⟨its,r,d,hz⟩:=I.list f;have c:=r.length;refine⟨"list",_,slot_list_getitem.lookup,d.isList.typeIs,?_⟩;refine wpAny_getItem_list_slice d.isList e pl i .none (by simp) ?_ (by rw[Br]<;>lia);rw[Qel,← c];refine⟨.ref s.heap.objs.size,_,I.laid (t':=s.toks) (o:=.lst (cutV xs lo hi)) (λb ob q=>Ao _ q) (At _) ?_,rfl,q _ (I.hok.fresh (At _))⟩;exact⟨Dg (Qc6 xs lo hi) hz,_,0,(r.drop (HT.sIx xs.length 0 lo)).take (HT.sIx xs.length xs.length hi-HT.sIx xs.length 0 lo),Be _ rfl⟩
theorem Zk.or{f:Value}{r b:List V->Hp->VK->Prop}(h:Zk X f r)(h':Zk X f b):Zk X f (λxs H Q=>r xs H Q\/b xs H Q):=by
 intro pins s σ H xs us Q I a q;rcases q with q|q
 ·exact h pins s σ H xs us Q I a q
 ·exact h' pins s σ H xs us Q I a q
theorem Qg3:Zk X (.type "list") (λxs H Q=>∃p ys,xs=[.ref p]/\(SqL X.K H p ys\/SqT X.K H p ys)/\∀l,H l=none->Q (.ref l) (upd H l (.lst ys))):=by
 intro pins s σ H xs us Q I r h;obtain⟨p,ys,rfl,d,q⟩:=h;obtain⟨u,rfl,i⟩:=Ga r;cases i;have fin:∀(its:List Value),Vals ys its->ys.length<=sizeLine->∀(h':Heap)(a:Nat),(∀b o',s.heap.get? b=some o'->h'.get? b=some o') ->
   h'.get? s.heap.objs.size=some { cls:=.type "list",dict:=none,data:=.seq its.toArray a,slots:=#[] }->EP X pins σ Q (.ref s.heap.objs.size) { s with heap:=h' }:=λits c hz h' a kp e=>
  ⟨.ref s.heap.objs.size,_,I.laid (t':=s.toks) kp (At _) (show Ja X.prog X.w _ h' _ (.lst ys) from⟨hz,its,a,c,e⟩),rfl,q _ (I.hok.fresh (At _))⟩
 rcases d with d|d
 ·obtain⟨its,c,pl,hz⟩:=I.list d;have f:=c.length;obtain⟨o,ho,g,n,hd⟩:=pl.isList;exact call_list_seq p (.inl rfl) ho g hd (λh' a kp e=>fin its c hz h' a kp e) (by simp only[Br]<;>lia)
 ·obtain⟨its,c,pl,hz⟩:=I.tuple d;have f:=c.length;obtain⟨o,ho,g,n,hd⟩:=pl;exact call_list_seq p (.inr rfl) ho g hd (λh' a kp e=>fin its c hz h' a kp e) (by simp only[Br]<;>lia)
theorem Qfh:Zk X (.type "tuple") (λxs H Q=>∃p ys,xs=[.ref p]/\((SqL X.K H p ys/\∀l,H l=none->Q (.ref l) (upd H l (.tup ys)))\/(SqT X.K H p ys/\Q (.ref p) H))):=by
 intro pins s σ H xs us Q I r h;obtain⟨p,ys,rfl,h⟩:=h;obtain⟨u,rfl,i⟩:=Ga r;cases i;rcases h with⟨a,q⟩|⟨a,q⟩
 ·obtain ⟨its,c,pl,hz⟩:=I.list a;have f:=c.length;refine call_tuple_list pl.isList (λh' kp=>?_) (by simp only[Br]<;>lia);have d:Inv X pins σ H { s with heap:=h' }:=I.kept (t':=s.toks) kp;have g:Inv X pins σ (upd H h'.objs.size (.tup ys)) { s with heap:=h'.push { cls:=.type "tuple",data:=.seq its.toArray } } :=
   d.laid (t':=s.toks) (λb o e=>Ao _ e) (At _) (show Ja X.prog X.w _ _ _ (.tup ys) from⟨hz,its,c,Op _ _⟩)
  exact⟨.ref h'.objs.size,_,g,rfl,q _ (d.hok.fresh (At _))⟩
 ·obtain⟨its,c,pl,hz⟩:=I.tuple a;exact call_tuple_same pl ⟨.ref p,H,I,rfl,q⟩
def tyV(K:Frag)(T:String)(x:V)(H:Hp):Prop:=match x with
 | .str _=>T = "str"
 | .int _=>T = "int"
 | .ref p=>(T = "list" /\ ∃xs,SqL K H p xs)\/(T = "tuple" /\ ∃o,K.lookup p=some o/\o.cls=.type "tuple" /\ o.dict=none) \/
   (T = "dict" /\ ((∃kvs,H p=some (.dK kvs))\/∃kvs,H p=some (.dT kvs)))\/(T = "set" /\ ∃S n,H p=some (.set S n))\/∃a,H p=some (.ext a)/\∀h,a h->∃o,h.get? p=some o/\o.cls=.type T/\o.dict=none
 |_=>False
theorem Qiy{T:String}{x:V}(I:Inv X pins σ H s)(r:RelV x v)(ty:tyV X.K T x H) :
  s.TypeIs v T/\∀a,v=.ref a->∃ob,s.heap.get? a=some ob/\ob.dict=none:=by
 cases x with
 | str z=>
  obtain⟨t,rfl⟩:=r;cases(show T = "str" from ty);exact⟨typeIs_str s z t,λ_ e=>nomatch e⟩
 | int i=>
  obtain⟨t,rfl⟩:=r;cases(show T = "int" from ty);exact⟨typeIs_int s i t,λ_ e=>nomatch e⟩
 | ref p=>
  cases r;rcases ty with⟨rfl,xs,h⟩|⟨rfl,o,b,j,hd⟩|⟨rfl,b⟩|⟨rfl,S,n,b⟩|⟨k,b,g⟩
  ·obtain⟨its,_,pl,_⟩:=I.list h;refine⟨pl.isList.typeIs,λa e=>?_⟩;cases e;obtain⟨o,n,e,c,hd,_⟩:=pl;exact⟨o,e,hd⟩
  ·refine⟨⟨o,I.kIn p o b,j⟩,λa e=>?_⟩;cases e;exact⟨o,I.kIn _ o b,hd⟩
  ·have z:∃o,s.heap.get? p=some o/\o.ExactDict:=by
    rcases b with⟨kvs,b⟩|⟨kvs,b⟩
    ·obtain⟨_,_,_,_,o,_,_,e,ex,_⟩:=I.hok p _ b;exact⟨o,e,ex⟩
    ·obtain⟨_,_,_,_,o,_,_,e,ex,_⟩:=I.hok p _ b;exact⟨o,e,ex⟩
   obtain⟨o,e,ex⟩:=z;refine⟨⟨o,e,ex.1⟩,λa f=>?_⟩;cases f;exact⟨o,e,ex.2.1⟩
  ·obtain⟨o,_,_,_,e,ex,_⟩:=I.hok p _ b;refine⟨⟨o,e,ex.1⟩,λa f=>?_⟩;cases f;exact⟨o,e,ex.2.1⟩
  ·obtain⟨h1,_⟩:=I.hok p _ b;obtain⟨o,e,c,d⟩:=g _ h1;refine⟨⟨o,e,c⟩,λa f=>?_⟩;cases f;exact⟨o,e,d⟩
 |_=>exact Na ty
def tBM0(K:Frag)(T:String)(r:V->List V->Hp->VK->Prop)(to:TE):TE:=λσ H Q=>to σ H λx H1=>tyV K T x H1/\r x [] H1 Q
def tBM(K:Frag)(T:String)(r:V->List V->Hp->VK->Prop)(to:TE)(t:TA):TE:=λσ H Q=>to σ H λx H1=>tyV K T x H1/\t σ H1 λxs H2=>r x xs H2 Q
end
section
variable {o:Expr}{t:TA}{T id:String}
theorem Qyd(pa:PlainAttrs T)(slot:Slot T name id)(c:typeOf (.builtin id)=pure (.type "method_descriptor"))(hm:MtR X id r)(ho:PE X o to)
  (b:attributeBase o name X.env (eval o X.env)=eval o X.env:=by rfl) (a:(apos.endLine==cpos.line)=true:=by rfl):PE X (.Call (.Attribute o name apos) [] [] cpos) (tBM0 X.K T r to):=by
 intro pins s σ H Q I h;refine Tv b a (thn (ho pins s σ H _ I h) λv f i=>?_);obtain⟨x,H1,e,d,ty,g⟩:=i;obtain⟨h1,h2⟩:=Qiy e d ty;exact⟨T,id,pa,slot,c,h1,h2,No rfl (Kr (hm pins f σ H1 x [] v [] Q e d .nil g))⟩
theorem Q1s(pa:PlainAttrs T)(slot:Slot T name id)(f:typeOf (.builtin id)=pure (.type "method_descriptor"))(hm:MtR X id r)(ho:PE X o to)(k:PA X (e::es) t)
  (c:attributeBase o name X.env (eval o X.env)=eval o X.env:=by rfl)
  (d:((backTo cpos (starEach (e::es) X.env)).all (λx=>!x.1)&&(backToKw cpos (keywordEach [] X.env)).all (λx=>x.1.isSome)
   && decide ((e::es).length+([]:List Keyword).length+(if ([]:List Keyword).isEmpty then 0 else 1)<30))=true:=by rfl)
  (b:(apos.endLine==cpos.line)=true:=by rfl) (n:starEach (e::es) X.env=(false,eval e X.env)::starEach es X.env:=by rfl) (a:(backTo cpos (starEach es X.env)).any (·.1)=false:=by rfl) :
  PE X (.Call (.Attribute o name apos) (e::es) [] cpos) (tBM X.K T r to t):=by
 intro pins s σ H Q I h;refine O1 c d b rfl (thn (ho pins s σ H _ I h) λv l w=>?_);obtain⟨x,H1,j,i,ty,u⟩:=w;obtain⟨h1,h2⟩:=Qiy j i ty;refine⟨T,id,pa,slot,f,h1,h2,?_⟩;have g:=k cpos pins l σ H1 _ j u;rw[n]at g ⊢;refine No (by show(false||(backTo cpos (starEach es X.env)).any (·.1))=false;rw[a]<;>rfl) (I9 ?_);exact thn g λus q ⟨vs,H2,m,p,y⟩=>hm pins q σ H2 x vs v us Q m i p y
end
def MtM(X:Cx)(id:String)(r:V->List V->Hp->VK->Prop):Prop :=
 ∀(pins:List (Addr×Obj)) (s:Shared) (σ:St) (H:Hp) (x:V) (xs:List V) (v:Value) (us:List Value) (Q:VK),Inv X pins σ H s->RelV x v->Vals xs us->r x xs H Q ->
  wpAny (model X.prog X.w) X.A (call (.builtin id) (v::us)) (EP X pins σ Q) X.xe s
theorem Vals.one{x:V}(h:Vals [x] us):∃u,us=[u]/\RelV x u:=by
 cases h with
 |cons r t=>cases t;exact⟨_,rfl,r⟩
theorem Vals.eraseIdx:∀{xs:List V}{us:List Value}(i:Nat),Vals xs us->Vals (xs.eraseIdx i) (us.eraseIdx i)
 |_,_,_,.nil=>.nil
 |_,_,0,.cons _ t=>t
 |_,_,i+1,.cons r t=>.cons r (Vals.eraseIdx i t)
theorem Vals.rep{xs:List V}{us:List Value}(h:Vals xs us):∀k:Nat,Vals (Bo k xs).flatten (Bo k us).flatten
 |0=>.nil
 | k+1=>by
  rw[My,My,Sn,Sn];exact Vals.append h (Vals.rep h k)
theorem Qgk{a:Type}:∀(l:List a)(i:Nat),(l.eraseIdx i).length<=l.length
 | [],_=>At _
 |_::_,0=>Ky _
 |_::r,i+1=>Nat.succ_le_succ (Qgk r i)
theorem Qgv(its:List Value):∀(k:Nat)(a:List Value),
  A03 (λb c=>b++c) a.toArray (Bo k its.toArray)=(a++(Bo k its).flatten).toArray
 |0,a=>by simp
 | k+1,a=>by
  have e:a.toArray++its.toArray=(a++its).toArray:=by simp
  have d:(a++its)++(Bo k its).flatten=a++(Bo (k+1) its).flatten:=by
   rw[My,Sn,Me]
  rw[← d,← Qgv its k (a++its),← e,My,List.foldl_cons]
section
variable {l:Addr}{xs:List V}
theorem Inv.lset{its':List Value}{f:Array Value->Array Value}(I:Inv X pins σ H s)(g:H l=some (.lst xs))
  (e:s.heap.get? l=some { cls:=.type "list",data:=.seq its.toArray n }) (d:f its.toArray=its'.toArray) (a:Vals ys its') (hz:ys.length<=sizeLine) :
  Inv X pins σ (upd H l (.lst ys)) { s with heap:=s.heap.update l (Nb f),toks:=t' }:=by
 have q:=A01 e f;rw[d]at q;refine I.write (x:=l) (e:=l) (by rw[g];exact trivial) (.inl rfl) (λh u b c=>(Sk s.heap (Nb f) (Ra b)).trans c) ⟨_,q⟩ ?_;exact⟨hz,its',_,a,q⟩
theorem Inv.lnew(I:Inv X pins σ H s)(a:Vals ys its)(hz:ys.length<=sizeLine) :
  Inv X pins σ (upd H s.heap.objs.size (.lst ys)) { s with heap:=s.heap.push { cls:=.type "list",data:=.seq its.toArray },toks:=t' } :=
 I.laid (λ_ _ q=>Ao _ q) (At _) ⟨hz,its,0,a,Be _ rfl⟩
theorem Inv.fresh(I:Inv X pins σ H s):H s.heap.objs.size=none:=I.hok.fresh (At _)
theorem Inv.lstM(I:Inv X pins σ H s)(a:H l=some (.lst xs)):xs.length<=sizeLine/\∃(its:List Value)(n:Nat),Vals xs its/\xs.length=its.length/\s.heap.get? l=some { cls:=.type "list",data:=.seq its.toArray n }:=by
 obtain⟨z,its,n,r,e⟩:=I.hok l _ a;exact⟨z,its,n,r,r.length,e⟩
theorem Qqq(h:n<=sizeLine):Ti n=false:=by
 unfold Ti;exact decide_eq_false (by lia)
end
def Quo:V->List V->Hp->VK->Prop:=λx vs H Q=>∃l xs y,x=.ref l/\vs=[y]/\H l=some (.lst xs)/\xs.length<sizeLine/\Q .non (upd H l (.lst (xs++[y])))
theorem Qm6:MtM X "list.append" Quo:=by
 intro pins s σ H x vs v us Q I b c h;obtain⟨l,xs,y,rfl,rfl,a,hz,q⟩:=h;cases b;obtain⟨u,rfl,d⟩:=c.one;obtain⟨z,its,n,r,f,e⟩:=I.lstM a;refine Ka F.slot_list_append ⟨_,e,rfl⟩ F.entry_list_append (Pn _ _) (A0p l its.toArray n u (by rw[Br];lia)) ⟨e,?_⟩;refine⟨.non,_,I.lset (its':=its++[u]) a e (by simp) (r.append (.cons d .nil)) ?_,rfl,q⟩;rw[Dy,List.length_singleton];lia
noncomputable def Qxt:V->List V->Hp->VK->Prop:=λx vs H Q=>∃l xs i k y,x=.ref l/\vs=[.int i]/\H l=some (.lst xs) /\ -(2 ^ 63)<=i/\i<2 ^ 63/\seqIndex? i xs.length=some k/\xs[k]? = some y/\Q y (upd H l (.lst (xs.eraseIdx k)))
theorem Qqt:MtM X "list.pop" Qxt:=by
 intro pins s σ H x vs v us Q I d f h;obtain⟨l,xs,i,k,y,rfl,rfl,b,h1,h2,j,m,q⟩:=h;cases d;obtain⟨u,rfl,g⟩:=f.one;obtain⟨t,rfl⟩:=g;obtain⟨z,its,n,r,c,e⟩:=I.lstM b;obtain⟨w,hw,a⟩:=r.get m;refine Ka F.slot_list_pop ⟨_,e,rfl⟩ F.entry_list_pop (F.args_list_pop_2 _ _)
  (MeetsSeq.list_pop_at l its.toArray n i t k w (fitsIndex_both h1 h2) (by rw[Br,← c];exact j) (by rw[← Mc];exact hw) (by rw[Br];lia)) ⟨e,?_⟩
 refine⟨y,_,I.lset (its':=its.eraseIdx k) b e ?_ (r.eraseIdx k) ?_,a,q⟩
 ·show its.toArray.eraseIdxIfInBounds k=(its.eraseIdx k).toArray;rw[List.eraseIdxIfInBounds_toArray]
 ·have:=Qgk xs k;lia
def rCat:R2:=λx y H Q=>∃l b xs a,x=.ref l/\y=.ref b/\H l=some (.lst xs)/\H b=some (.lst a)/\xs.length+a.length<=sizeLine/\∀p,H p=none->Q (.ref p) (upd H p (.lst (xs++a)))
theorem Qyp:OpR X (binaryOp .Add) rCat:=by
 intro pins s σ H x y v u Q I i k h;obtain⟨l,b,xs,w,rfl,rfl,j,m,hz,q⟩:=h;cases i;cases k;obtain⟨z,its,n,r,o,e⟩:=I.lstM j;obtain⟨t,a,p,g,d,c⟩:=I.lstM m;refine PySem.P.add_list e c ?_ (by rw[Br,Br];lia);have f:its.toArray++a.toArray=(its++a).toArray:=by simp
 rw[f];exact⟨.ref _,_,I.lnew (t':=s.toks) (r.append g) (by rw[Dy];lia),rfl,q _ I.fresh⟩
def rRep:R2:=λx y H Q=>∃l k xs,x=.ref l/\y=.int k/\H l=some (.lst xs) /\ -(2 ^ 63)<=k/\k<2 ^ 63/\xs.length*k.toNat<=sizeLine /\
 ∀p,H p=none->Q (.ref p) (upd H p (.lst (Bo k.toNat xs).flatten))
theorem Qvs{b:Type}(xs:List b)(k:Nat):(Bo k xs).flatten.length=k*xs.length:=by
 induction k with
 |zero=>simp
 |succ k a=>rw[My,Sn,Dy,a,Nat.succ_mul,Nat.add_comm]
theorem Qyh:OpR X (binaryOp .Mult) rRep:=by
 intro pins s σ H x y v u Q I p A h;obtain⟨l,k,xs,rfl,rfl,w,h1,h2,hz,q⟩:=h;cases p;obtain⟨t,rfl⟩:=A;obtain⟨z,its,n,r,o,e⟩:=I.lstM w;have f:its.toArray.size*k.toNat<=sizeLine:=by rw[Br,← o];exact hz
 have d:¬its.toArray.size*k.toNat > (2 ^ 63-1)/8:=by
  have:(sizeLine:Nat)<=(2 ^ 63-1)/8:=by decide
  lia
 have g:¬(!Builtin.List.listFitsIndex k)=true:=by
  rw[fitsIndex_both h1 h2];exact Bt
 have b:¬Ti (its.toArray.size*k.toNat)=true:=by
  rw[Qqq f];exact Bt
 have c:A03 (λj i=>j++i) #[] (Bo (if its.toArray.isEmpty=true then 0 else k.toNat) its.toArray)=(Bo k.toNat its).flatten.toArray:=by
  have B:∀m:Nat,A03 (λj i=>j++i) #[] (Bo m its.toArray)=(Bo m its).flatten.toArray:=λm=>by
   have:=Qgv its m [];rw[Bi]at this;exact this
  rw[B];cases its with
  |nil=>simp
  |cons a C=>rw[if_neg (by simp)]
 refine wpAny_binaryOp_repeat_ref (T:="list") (U:="int") (by decide) ⟨_,e,rfl⟩ (λs'=>typeIs_int s' k t) noFill_list_mul F.fills_int_mul F.slot_int_rmul repeat_list F.slot_int_index.lookup
  (Ka F.slot_int_rmul (typeIs_int s k t) F.entry_int_rmul (F.args_int_rmul_2 _ _) (int___rmul___int_list k t l its.toArray n)
   ⟨e,rfl,⟨_,e,rfl⟩,Ka F.slot_list_mul ⟨_,e,rfl⟩ F.entry_list_mul (F.args_list_mul_2 _ _) (AutoListH.list___mul___list_int_3 l its.toArray n k t g d b) ⟨e,?_⟩⟩)
 rw[c];exact⟨.ref _,_,I.lnew (t':=s.toks) (r.rep k.toNat) (by rw[Qvs,Kb];exact hz),rfl,q _ I.fresh⟩
section
variable {κ:Type}[DecidableEq κ]
def valV(kvs:List (κ×V))(k:κ):Option V:=(kvs.find? λa=>decide (a.1=k)).map (·.2)
def putK(kvs:List (κ×V))(k:κ)(v:V):List (κ×V) :=
 if (kvs.any λa=>decide (a.1=k))=true then kvs.map (λa=>if a.1=k then (a.1,v)else a)else kvs++[(k,v)]
theorem G7{p:κ×V}{r:List (κ×V)}{k:κ}(e:p.1=k):valV (p::r) k=some p.2:=by simp[valV,Se,e]
theorem G8{p:κ×V}{r:List (κ×V)}{k:κ}(e:¬p.1=k):valV (p::r) k=valV r k:=by simp[valV,Se,e]
theorem Qiv(k:κ):∀kvs:List (κ×V),(kvs.any λa=>decide (a.1=k))=(valV kvs k).isSome
 | []=>rfl
 | p::r=>by
  rw[Rr];by_cases e:p.1=k
  ·simp only[G7 e,decide_eq_true e,Bool.true_or,Bv]
  ·rw[G8 e,decide_eq_false e,Lh];exact Qiv k r
theorem Qcp(kvs:List (κ×V))(k:κ)(v:V):(putK kvs k v).length<=kvs.length+1:=by
 unfold putK;split
 ·rw[Ap];lia
 ·rw[Dy,Av,Bc];lia
theorem RelO.isSome_eq{u:Option Value}(r:RelO o u):o.isSome=u.isSome:=by
 cases o with
 | none=>cases u with
  |none=>rfl
  |some _=>exact(show False from r).elim
 | some _=>cases u with
  |none=>exact(show False from r).elim
  |some _=>rfl
theorem RelO.getD{u:Option Value}{d':Value}(r:RelO o u)(rd:RelV d d'):RelV (o.getD d) (u.getD d'):=by
 cases o with
 | none=>cases u with
  |none=>exact rd
  |some _=>exact(show False from r).elim
 | some _=>cases u with
  |none=>exact(show False from r).elim
  |some _=>exact r
theorem KV.val{kvs:List (κ×V)}{vs:List (κ×Value)}(r:KV kvs vs)(k:κ):RelO (valV kvs k) (valueAt vs k):=by
 unfold KV at r
 induction r with
 |nil=>exact N0
 | @cons p q ps c h t d=>
  obtain⟨h1,h2⟩:=h;by_cases e:p.1=k
  ·have a:q.1=k:=h1.symm.trans e;have b:valueAt (q::c) k=some q.2:=by simp[valueAt,Se,a]
   rw[G7 e,b];exact h2
  ·have a:¬q.1=k:=λz=>e (h1.trans z);have b:valueAt (q::c) k=valueAt c k:=by simp[valueAt,Se,a]
   rw[G8 e,b];exact d
theorem KV.any{kvs:List (κ×V)}{vs:List (κ×Value)}(r:KV kvs vs)(k:κ):(kvs.any λa=>decide (a.1=k))=vs.any λa=>decide (a.1=k):=by
 unfold KV at r
 induction r with
 |nil=>rfl
 |cons h t b=>rw[Rr,Rr,b,h.1]
theorem KV.repl{kvs:List (κ×V)}{vs:List (κ×Value)}(r:KV kvs vs)(k:κ)(c:RelV y u) :
  KV (kvs.map λa=>if a.1=k then (a.1,y)else a) (vs.map λa=>if a.1=k then (a.1,u)else a):=by
 unfold KV at r ⊢
 induction r with
 |nil=>exact .nil
 | @cons p q ps d h t b=>
  rw[Ar,Ar];refine .cons ?_ b;obtain⟨h1,h2⟩:=h;by_cases e:p.1=k
  ·rw[if_pos e,if_pos (h1.symm.trans e)];exact⟨h1,c⟩
  ·rw[if_neg e,if_neg (λz=>e (h1.trans z))];exact⟨h1,h2⟩
theorem KV.put{kvs:List (κ×V)}{vs:List (κ×Value)}(r:KV kvs vs)(k:κ)(a:RelV y u):KV (putK kvs k y) (stored vs k u):=by
 unfold putK stored;rw[r.any k];by_cases e:(vs.any λb=>decide (b.1=k))=true
 ·rw[if_pos e,if_pos e];exact r.repl k a
 ·rw[if_neg e,if_neg e];exact Paired.snoc r ⟨rfl,a⟩
theorem KV.length{kvs:List (κ×V)}{vs:List (κ×Value)}(r:KV kvs vs):kvs.length=vs.length:=D9 r
end
theorem Qqw{k:Key}(r:RelV (kV k) u):(Qu P w).is k u=true:=by
 cases k with
 |inl i=>obtain⟨t,e⟩:=(show ∃t,u=N6 i t from r);subst e;exact Qhy P w i t
 |inr x=>obtain⟨t,e⟩:=(show ∃t,u=A0g x t from r);subst e;exact Qhx P w x t
theorem Qgn{P:Program}{w:World}:∀{ks:List Key}{us:List Value},Vals (ks.map kV) us->ItemsAre (Qu P w) ks us
 | [],_,r=>by rw[Bm]at r;cases r;exact .nil
 | k::ks,_,r=>by
  rw[Ar]at r;cases r with
  |cons h t=>exact .cons (Qqw h) (Qgn t)
abbrev KT(H:Hp):List (List Key×V)->List (List Key×Addr×Value)->Prop:=Paired λp q=>p.1=q.1/\H q.2.1=some (.tup (p.1.map kV))/\RelV p.2 q.2.2
theorem KT.val(r:KT H kvs xs)(k:List Key):RelO (valV kvs k) ((atKey xs k).map (·.2)):=by
 induction r with
 |nil=>exact N0
 | @cons p q ps c h t d=>
  obtain⟨h1,_,h2⟩:=h;by_cases e:p.1=k
  ·have a:q.1=k:=h1.symm.trans e;have b:atKey (q::c) k=some q.2:=by simp[atKey,Se,a]
   rw[G7 e,b];exact h2
  ·have a:¬q.1=k:=λz=>e (h1.trans z);have b:atKey (q::c) k=atKey c k:=by simp[atKey,Se,a]
   rw[G8 e,b];exact d
theorem KT.repl(r:KT H kvs xs)(k:List Key)(d:RelV y u) :
  KT H (kvs.map λa=>if a.1=k then (a.1,y)else a) (xs.map (putAt k u)):=by
 induction r with
 |nil=>exact .nil
 | @cons p q ps f h t b=>
  rw[Ar,Ar];refine .cons ?_ b;obtain⟨h1,h2,c⟩:=h;unfold putAt;by_cases e:p.1=k
  ·rw[if_pos e,if_pos (h1.symm.trans e)];exact⟨h1,h2,d⟩
  ·rw[if_neg e,if_neg (λz=>e (h1.trans z))];exact⟨h1,h2,c⟩
theorem KT.put(r:KT H kvs xs)(k:List Key)(d:H b=some (.tup (k.map kV)))(a:RelV y u) :
  KT H (putK kvs k y) (storedH xs k b u):=by
 have e:(kvs.any λc=>decide (c.1=k))=(atKey xs k).isSome:=by
  rw[Qiv,(r.val k).isSome_eq,Option.isSome_map]
 unfold putK storedH;rw[e];by_cases q:(atKey xs k).isSome=true
 ·rw[if_pos q,if_pos q];exact r.repl k a
 ·rw[if_neg q,if_neg q];exact Paired.snoc r ⟨rfl,d,a⟩
theorem KT.keeps(r:KT H kvs xs)(a:∀b ys,H b=some (.tup ys)->H' b=some (.tup ys)):KT H' kvs xs :=
 Paired.mapP r λ_ _ z=>⟨z.1,a _ _ z.2.1,z.2.2⟩
theorem Qxe{u:HO}(ok:HOk P w H h)(e:Rd H a u):Ja P w H h a u:=e.ok ok
theorem Qia{kvs:List (Key×V)}(ok:HOk P w H h)(e:Rd H a (.dK kvs)):kvs.length<=sizeLine/\(a==sysModules)=false/\∃vs,KV kvs vs/\h.DictOf (Qu P w) a vs :=
 show Ja P w H h a (.dK kvs)from Qxe ok e
theorem Qz5{kvs:List (Key×V)}(ok:HOk P w H h)(e:H a=some (.dK kvs)):kvs.length<=sizeLine/\(a==sysModules)=false/\∃vs,KV kvs vs/\h.DictOf (Qu P w) a vs:=Qia ok (.inl e)
theorem Qcs{ks:List Key}(ok:HOk P w H h)(e:H a=some (.tup (ks.map kV))):(tupleKind (Qu P w)).is h ks a:=by
 obtain⟨_,its,r,o,h1,h2,n,b⟩:=(show Ja P w H h a (.tup (ks.map kV))from ok a _ e)
 exact⟨o,its.toArray,n,h1,h2,b,by simpa using Qgn r⟩
theorem Qoc(ok:HOk P w H h)(e:Rd H a (.dT kvs)):kvs.length<=sizeLine/\(a==sysModules)=false /\
  ∃xs,KT H kvs xs/\h.DictOfH (tupleKind (Qu P w)) a xs:=by
 obtain⟨z,y,xs,r,o,es,ep,h1,h2,d,h4,f⟩:=(show Ja P w H h a (.dT kvs)from Qxe ok e)
 refine ⟨z,y,xs,r,o,es,ep,h1,h2,d,h4,λx b=>?_,f⟩;have all:∀{l:List (List Key×V)} {m:List (List Key×Addr×Value)},KT H l m->∀x∈m,(tupleKind (Qu P w)).is h x.1 x.2.1:=by
  intro l m q
  induction q with
  |nil=>intro x b;exact nomatch b
  | @cons p q ps i c t g=>
   intro x b;rcases Ay.mp b with e|b
   ·subst e;exact Qcs ok (by rw[← c.1];exact c.2.1)
   ·exact g x b
 exact all r x b
theorem Q2f(ok:HOk P w H h)(e:H a=some (.dT kvs)):kvs.length<=sizeLine/\(a==sysModules)=false /\
  ∃xs,KT H kvs xs/\h.DictOfH (tupleKind (Qu P w)) a xs:=Qoc ok (.inl e)
def DGet(H:Hp)(a:Addr)(y:V)(r:Option V):Prop :=
 (∃kvs k,Rd H a (.dK kvs)/\y=kV k/\r=valV kvs k)\/∃kvs k b,Rd H a (.dT kvs)/\y=.ref b/\H b=some (.tup (k.map kV))/\r=valV kvs k
def DPut(H:Hp)(a:Addr)(y v:V)(H':Hp):Prop :=
 (∃kvs k,H a=some (.dK kvs)/\y=kV k/\kvs.length<sizeLine/\H'=upd H a (.dK (putK kvs k v))) \/
 ∃kvs k b,H a=some (.dT kvs)/\y=.ref b/\H b=some (.tup (k.map kV))/\kvs.length<sizeLine/\H'=upd H a (.dT (putK kvs k v))
theorem DGet.k{H:Hp}{a:Addr}{kvs:List (Key×V)}{k:Key}(e:H a=some (.dK kvs)):DGet H a (kV k) (valV kvs k):=.inl ⟨kvs,k,.inl e,rfl,rfl⟩
theorem DGet.t{k:List Key}(e:H a=some (.dT kvs))(c:H b=some (.tup (k.map kV))):DGet H a (.ref b) (valV kvs k):=.inr ⟨kvs,k,b,.inl e,rfl,c,rfl⟩
theorem DPut.k{H:Hp}{a:Addr}{kvs:List (Key×V)}{k:Key}{v:V}(e:H a=some (.dK kvs))(b:kvs.length<sizeLine):DPut H a (kV k) v (upd H a (.dK (putK kvs k v))):=.inl ⟨kvs,k,e,rfl,b,rfl⟩
theorem DPut.t{k:List Key}{v:V}(e:H a=some (.dT kvs))(d:H b=some (.tup (k.map kV)))(c:kvs.length<sizeLine) :
  DPut H a (.ref b) v (upd H a (.dT (putK kvs k v))):=.inr ⟨kvs,k,b,e,rfl,d,c,rfl⟩
section
variable {v:V}{r:Value}
theorem Inv.big(I:Inv X pins σ H s):sysModules<s.heap.objs.size:=by
 have h:mainGlobals<s.heap.objs.size:=(I.mod.glob.keeps I.bk).lt;exact Nat.lt_trans (by decide) h
theorem Qom(q:A.units+1<cLine)(I:Inv X pins σ H s)(g:DGet H a y (some v))(n:RelV y u)(h:∀f s',Inv X pins σ H s'->RelV v f->Q f s') :
  wpAny (model X.prog X.w) A (getItem (.ref a) u) Q E s:=by
 rcases g with⟨kvs,k,e,m,l⟩|⟨kvs,k,b,e,m,t,l⟩
 ·subst m;obtain⟨z,hd,vs,c,i⟩:=Qia I.hok e;obtain⟨f,hw,d⟩:=RelO.some_of (v:=v) (o:=valueAt vs k) (by rw[l];exact c.val k);exact wpAny_getItem_of (Qqw n) i.mapOf hw (h f _ (I.tok _) d)
 ·subst m;cases(show u=Ba b from n);obtain⟨z,hd,xs,c,i⟩:=Qoc I.hok e;obtain⟨f,hw,d⟩:=RelO.some_of (v:=v) (o:=(atKey xs k).map (·.2)) (by rw[l];exact c.val k);obtain⟨p,r,j⟩:=B8.mp hw;refine wpAny_getItem_heap (K5 q) (Qcs I.hok t) i r ?_;rw[j];exact h f _ (I.tok _) d
theorem Qc3(I:Inv X pins σ H s)(f:Mut (H a))(g:Dw a s.heap h')(d:∃q,h'.get? a=some q)(new:Ja X.prog X.w (upd H a ob) h' a ob) :
  Inv X pins σ (upd H a ob) { s with heap:=h',toks:=t' } :=
 I.write (x:=a) (e:=a) f (.inl rfl) (λb q c z=>(g.2 b c).trans z) d new
theorem Qz6{kvs:List (Key×V)}{vs:List (Key×Value)}(z:kvs.length<=sizeLine)(hd:(a==sysModules)=false)(b:KV kvs vs)(c:h'.DictOf (Qu P w) a vs) :
  Ja P w H' h' a (.dK kvs):=⟨z,hd,vs,b,c⟩
theorem Qol{Q:Unit->Shared->Prop}(F:A.units+1<cLine)(I:Inv X pins σ H s)(g:DPut H a y v H')(x:RelV y u)(w:RelV v r)(h:∀s',Inv X pins σ H' s'->Q () s') :
  wpAny (model X.prog X.w) A (setItem (.ref a) u r) Q E s:=by
 rcases g with⟨kvs,k,e,o,l,p⟩|⟨kvs,k,b,e,o,B,l,p⟩
 ·subst o p;obtain⟨z,hd,vs,d,n⟩:=Qz5 I.hok e;have hz:vs.length<=sizeLine:=by rw[← d.length];exact z
  have j:(putK kvs k v).length<=sizeLine:=by have:=Qcp kvs k v;lia
  refine wpAny_setItem_pairs (hsz:=hz) (Qqw x) n λh' f m=>h _ ?_;have G:∃q,h'.get? a=some q:=let ⟨q,_,_,i,_⟩:=f;⟨q,i⟩;exact Qc3 I (by rw[e];exact N0) m G (Qz6 j hd (d.put k w) f)
 ·subst o p;cases(show u=Ba b from x);obtain⟨z,hd,xs,d,n⟩:=Q2f I.hok e;have hz:xs.length<=sizeLine:=by rw[← D9 d];exact z
  have j:(putK kvs k v).length<=sizeLine:=by have:=Qcp kvs k v;lia
  refine wpAny_setItem_heap (hsz:=hz) (K5 F) (Qcs I.hok B) n λh' f m=>h _ ?_;obtain⟨q,es,ep,i,h2,C,h4,_,D⟩:=f;refine Qc3 I (by rw[e];exact N0) m ⟨q,i⟩ ⟨j,hd,_,(d.put k B w).keeps λc ys t=>?_,q,es,ep,i,h2,C,h4,D⟩;rw[Qm (Q1z t e (λz=>nomatch z))];exact t
end
section
variable {kvs:List (Key×V)}
theorem Q2g(I:Inv X pins σ H s)(e:Rd H a (.dK kvs))(h:∀t s',Inv X pins σ H s'->Q (.int kvs.length t) s'):wpAny (model X.prog X.w) A (call (.builtin "len") [.ref a]) Q E s:=by
 obtain⟨z,hd,vs,b,c⟩:=Qia I.hok e;refine call_len_dict hd c (by rw[← b.length];rw[Sh]at z;lia) ?_;rw[← b.length];exact h _ _ (I.tok _)
end
theorem Qib(I:Inv X pins σ H s)(g:DGet H a y o):s.TypeIs (.ref a) "dict":=by
 rcases g with⟨kvs,k,e,_,_⟩|⟨kvs,k,b,e,_,_,_⟩
 ·obtain⟨_,_,vs,_,c⟩:=Qia I.hok e;exact c.typeIs
 ·obtain⟨_,_,xs,_,c⟩:=Qoc I.hok e;exact c.typeIs
theorem Qrc(h:Heap)(a:sysModules<h.objs.size):Ja P w H (h.push { cls:=.type "dict",data:=.dict #[] }) h.objs.size (.dK []) :=
 ⟨Dq _,beq_eq_false_iff_ne.mpr (Ra (By a)),[],.nil,Heap.DictOf.new h⟩
def Qw2:TE:=λ_ H Q=>∀p,H p=none->Q (.ref p) (upd H p (.dK []))
theorem Qqg:PE X (.Dict [] [] pos) Qw2:=λpins s σ H Q I h=>
 wpAny_Dict_empty ⟨.ref s.heap.objs.size,_,I.laid (a:=s.heap.objs.size) (o:=.dK []) (t':=s.toks) (λ_ _ q=>Ao _ q) (At _) (Qrc s.heap I.big),rfl,h _ (I.hok.fresh (At _))⟩
structure M2(X:Cx)(o:Expr)(m:Str)(apos:Pos)(e f:Expr)(cpos:Pos):Prop where
 base:attributeBase o m X.env (eval o X.env)=eval o X.env
 few:((backTo cpos (starEach [e,f] X.env)).all (λx=>!x.1)&&(backToKw cpos (keywordEach [] X.env)).all (λx=>x.1.isSome)
  && decide (([e,f]:List Expr).length+([]:List Keyword).length+(if ([]:List Keyword).isEmpty then 0 else 1)<30))=true
 line:(apos.endLine==cpos.line)=true
 trees:backTo cpos (starEach [e,f] X.env)=[(false,eval e X.env),(false,eval f X.env)]
def IsD(H:Hp)(a:Addr):Prop:=(∃kvs,Rd H a (.dK kvs))\/∃kvs,Rd H a (.dT kvs)
theorem Qzt(I:Inv X pins σ H s)(d:IsD H a) :
  s.TypeIs (.ref a) "dict" /\ (∀b,Ba a=.ref b->∃ob,s.heap.get? b=some ob/\ob.dict=none)/\(a==sysModules)=false:=by
 rcases d with⟨kvs,e⟩|⟨kvs,e⟩
 ·obtain⟨_,hd,vs,_,c⟩:=Qia I.hok e;refine⟨c.typeIs,λb q=>?_,hd⟩;cases q;obtain⟨ob,_,_,h1,h2,_⟩:=c;exact⟨ob,h1,h2.2.1⟩
 ·obtain⟨_,hd,xs,_,c⟩:=Qoc I.hok e;refine⟨c.typeIs,λb q=>?_,hd⟩;cases q;obtain⟨ob,_,_,h1,h2,_⟩:=c;exact⟨ob,h1,h2.2.1⟩
section
variable {r:Value}
theorem Qz7(n:A.units+1<cLine)(I:Inv X pins σ H s)(g:DGet H a y o)(m:RelV y u)(rd:RelV d r)(h:∀j s',Inv X pins σ H s'->RelV (o.getD d) j->Q j s') :
  wpAny (model X.prog X.w) A (call (.builtin "dict.get") [.ref a,u,r]) Q E s:=by
 rcases g with⟨kvs,k,e,i,l⟩|⟨kvs,k,b,e,i,p,l⟩
 ·subst i;obtain⟨z,hd,vs,c,f⟩:=Qia I.hok e;refine Su Nv f.typeIs Ia (Tx _ _ _) (meets_dict_get_default (Qu X.prog X.w) a (Qqw m) hd r) ⟨_,f.mapOf,h _ _ (I.tok _) ?_⟩;rw[l];exact(c.val k).getD rd
 ·subst i;cases(show u=Ba b from m);obtain⟨z,hd,xs,c,f⟩:=Qoc I.hok e;refine Su Nv f.typeIs Ia (Tx _ _ _) (meetsH_dict_get_default (tupleKind (Qu X.prog X.w)) a b hd r) ⟨K5 n,k,xs,Qcs I.hok p,f,h _ _ (I.tok _) ?_⟩;rw[l];exact(c.val k).getD rd
end
def Qw3(td ty tx:TE):TE:=λσ H Q=>td σ H λx H1=>∃a,x=.ref a/\IsD H1 a/\ty σ H1 λy H2=>tx σ H2 λz b=>∃o,DGet b a y o/\Q (o.getD z) b
section
variable {o f:Expr}{td ty tx:TE}
theorem Qqh(r:X.A.units+1<cLine)(ho:PE X o td)(E:PE X e ty)(j:PE X f tx)(m:M2 X o "get" apos e f cpos):PE X (.Call (.Attribute o "get" apos) [e,f] [] cpos) (Qw3 td ty tx):=by
 intro pins s σ H Q I h;refine wpAny_Call_method m.base m.few m.line D1 Nv Iw (thn (ho pins s σ H _ I h) λu k B=>?_);obtain⟨x,H1,c,p,a,ex,d,w⟩:=B;subst ex;obtain rfl:u=Ba a:=p;obtain⟨n,A,_⟩:=Qzt c d;refine⟨n,A,?_⟩;rw[m.trees];refine No rfl (I9 (K1 (thn (E pins k σ H1 _ c w) λN t ⟨y,H2,l,q,G⟩=>
  K1 (thn (j pins t σ H2 _ l G) λJ M ⟨z,v,F,D,ov,g,i⟩=>A0o ?_))))
 exact Qz7 r F g q D λK L C b=>⟨_,v,C,b,i⟩
end
end L2
variable {d:PySem.DefRec}{q:Lc}{loose:List N7}{XP:(N7->Option Fb)->Lr->Prop}{YP:A0t->Lr->Prop}
namespace Att
open PySem PySem.W PySem.Calls PyProof.Rows
theorem Qcv{P:Params}:∀(ns:List Int)(vs:List Value),WellAll P h vs (ns.map WData.int)->IntsAre vs ns:=by
 intro ns
 induction ns with
 | nil=>
  intro vs w;rw[Bm]at w;cases w;exact .nil
 | cons n ns c=>
  intro vs w;rw[Ar]at w;cases w with
  | cons a b=>
   cases a;exact .cons _ _ (c _ b)
theorem Ql0(t:l.most=some n){P:Params}{args:List WData}{b:List Value}
  (c:l.row.toRowW.claim.pre args=true) (j:WellAll P h b args) :
  ∃a vs ns,b=[Ba a]/\args=[WData.list (ns.map WData.int)]/\h.get? a=some { cls:=.type "list",data:=.seq vs.toArray }/\IntsAre vs ns/\ns.length<=n:=by
 have i:WShape.hasAll [] args [.list .int]=true:=(pre_splitW c).1;have k:l.pre.holds [] { args:=args }=true:=(pre_splitW c).2;obtain⟨d,r,rfl,h1,h2⟩:=hasAllW_cons i;obtain rfl:=hasAllW_nil h2;obtain⟨xs,rfl,m⟩:=hasW_list h1;obtain⟨ns,rfl⟩:=items_int m;have e:ns.length<=n:=by
  unfold OpenLaw.pre at k;have h4:(WTm.not (.lt (.lit (.int (n:Int))) (.len (.arg 0)))).holds [] { args:=[.list (ns.map .int)] }=true:=by
   have h4:=(holds_andW k).1;rw[t]at h4;exact h4
  have g:=condW_of h4 (w_not (w_lt w_lit (w_len_list (w_arg rfl))));rw[Ap]at g;refine Nat.le_of_not_lt λq=>?_;have s:(n:Int)<((ns.length:Nat):Int):=by lia
  first
   | (rw[decide_eq_true s]at g;exact absurd g (by decide))
   | (simp at g;lia)
 cases j with
 | cons p o=>
  cases o;cases p with
  |list ho f=>exact⟨_,_,ns,rfl,rfl,ho,Qcv ns _ f,e⟩
theorem Qml(l:OpenLaw)(args:List WData):l.row.toRowW.claim.post args (.bool true) args=true :=
 postW_of (r:=l.row.toRowW) (X:=(true==true))
  (show WShape.has [] (.bool true) .bool=true by first|rfl|decide|simp[WShape.has,WShape.arms,WShape.armsAll])
  (show(WTm.eq .res (.lit (.bool true))).value [] { args:=args,res:=some (.bool true),after:=args }=some (.bool (true==true))from w_eq_bool (w_res rfl) w_lit) rfl
theorem Qil
  (E:l.most=some n) (s:d.params.defaults=[])
  (call:∀(w:World)(s₀ b:Shared)(mg t:Str->Option Value)(fa:Addr)(o:Obj)(m j c:Value)(a:Addr)(vs:List Value)(ns:List Int),
   Ground q loose [] XP w s₀ mg t b.heap->YP w b.heap ->
   b.heap.get? fa=some o->o.data=.func (docDef d.name d.params d.body d.scope m j c)->b.heap.CodeRec j d.name->mg d.name=some (.ref fa) ->
   b.heap.get? a=some { cls:=.type "list",data:=.seq vs.toArray }->IntsAre vs ns->ns.length<=n->b.gens = #[] ->
   codeAny (model l.prog w) callerA (.call (.ref fa) ⟨[.ref a],[]⟩) (λr s'=>r=.ok (.ret (.bool true))/\OldK b.heap s'.heap/\s'.os=b.os/\AllBare s'.gens) b) :
  WalkO q loose XP YP l.row.toRowW d [] (λf vs=>A04 f vs):=by
 intro w s₀ b mg t G Y fa o m j c C kV ho hd p y k hg args v F i x B u D;obtain rfl:C=.none:=Dflts.none y s;obtain rfl:kV=.none:=Dflts.noKw y;obtain⟨a,vs,ns,rfl,rfl,g,e,h⟩:=Ql0 E i u;refine enter_call (L4 (call w s₀ b mg t fa o m j c a vs ns G Y ho (fd_plain hd) p k g e h hg) λr s' A=>?_);obtain⟨rfl,h2,z,h4⟩:=A;exact⟨.inl ⟨.bool true,.bool true,[],rfl,λ_=>rfl,.bool true,Qml l _,λ_=>⟨List.Pairwise.nil,λ_ hm=>(nomatch hm)⟩⟩,h2,z,h4⟩
end Att
variable {o:L2.HO}{i k kt:Nat}{t fa:Fz}{ta:L2.TA}{env:Dr}{tt:L2.TT}{cl:List (N7×Fz)}{elt:Np}{ifs:List Np}{ts:List N7}{gt:L2.TG}{ix:List Nat}{J:L2.It}{tn:Nat->Lr->Prop}{RR:Fb->Fz->PySem.Result->Ss->Prop}{G:List L2.V->L2.Hp->Prop}{px py spos pt:Iv}
namespace L2
open PySem PySem.Spec PyProof.Rows
theorem Qfs:∀{vs:List Value}{ns:List Int},IntsAre vs ns->Vals (ns.map V.int) vs
 |_,_,.nil=>.nil
 |_,_,.cons n t h=>.cons ⟨t,rfl⟩ (Qfs h)
def Only(H:Hp):Prop:=∀b,H b=none\/∃o xs,H b=some (.frz o (.lst xs))
theorem Qqv{K:Frag}{M:Str->Option Value}{c:Shared}
  (T:K.In c.heap) (B:c.heap.Ns mainGlobals mg) (g:c.heap.Ns builtinsNs M) (N:∀x:Str,x ≠ "__name__" -> M x=bootBuiltins x) (C:c.heap.NoLimit) (hg:c.gens = #[])
  (D:c.heap.get? a=some { cls:=.type "list",data:=.seq vs.toArray }) (hi:IntsAre vs ns) (O:ns.length<=sizeLine) (Y:Room k callerA)
  (F:∀base:Heap,K.In base->base.Ns mainGlobals mg->FnOk P w K mg base CX k fa fd [x] sp) (l:∀(s:Shared)(u:Value),BindsTo s fd ⟨[u],[]⟩ [(x,u)])
  (G:∀H:Hp,Only H->SqL K H a (ns.map V.int)->sp [.ref a] H (λv _=>v=.bl true) λ_ _ _=>False)
  (I:∀H e s',CX [] H c (λ_ _ _=>False) e s'->False) :
  codeAny (model P w) callerA (.call (.ref fa) ⟨[.ref a],[]⟩) (λr s'=>r=.ok (.ret (.bool true))/\OldK c.heap s'.heap/\s'.os=c.os/\AllBare s'.gens) c:=by
 have S:=Qfs hi;have A:=hi.length
 -- from an abstract heap in which nothing but the script may be tracked
 have j:∀H:Hp,Only H->SqL K H a (ns.map V.int)->HOk P w H c.heap->(∀b,H b≠none->b=a)->(H a≠none->K.lookup a=none) ->
   codeAny (model P w) callerA (.call (.ref fa) ⟨[.ref a],[]⟩) (λr s'=>r=.ok (.ret (.bool true))/\OldK c.heap s'.heap/\s'.os=c.os/\AllBare s'.gens) c:=by
  intro H Q W hok R Z;have f:∀{b:Addr}{o:Obj},c.heap.get? b=some o->H b=none->(hidT c.heap H).get? b=some o:=λe n=>Qq2 e n;have E:∀{b:Addr}{o:Obj}{es:Array DictEntry}{ep:Nat},c.heap.get? b=some o->o.data=.dict es ep->H b=none:=λ{b o es ep} e d=>by
   cases q:H b with
   |none=>rfl
   | some u=>
    have J:b=a:=R b (by rw[q];simp);subst J;rw[D]at e;cases e;have d':Po vs.toArray _=Data.dict es ep:=d;cases d'
  have i:∀{b:Addr}{m:Str->Option Value},c.heap.Ns b m->(hidT c.heap H).Ns b m:=λ{b m} ⟨o,es,ep,e,d,r⟩=>⟨o,es,ep,f e (E e d),d,r⟩
  have p:K.In (hidT c.heap H):=λb o e=>f (T b o e) (by
   cases q:H b with
   |none=>rfl
   | some u=>
    have J:b=a:=R b (by rw[q];simp);subst J;rw[Z (by rw[q];simp)]at e;cases e)
  have hM:Mod K mg (hidT c.heap H):=⟨p,i B,⟨M,i g,N⟩,let ⟨mc,h1,h2⟩:=C;⟨mc,i h1,h2⟩⟩
  have e0:Env0 P w K mg (hidT c.heap H) callerA [] c H:=⟨rfl,hM,λb o e=>Qvh e,Nat.le_of_eq (Qnw _ _),trivial,λb g=>absurd (show b∈([]:List Addr)from g) (by simp),hok,.of_eq hg⟩
  refine L4 ((F _ p (i B)).run callerA [] c H ⟨[.ref a],[]⟩ [.ref a] [.ref a] _ _ Y e0 (l c (.ref a)) (.cons rfl .nil) (G H Q W)) λr s' h=>?_;cases r with
  |error e=>exact(I H e s' h).elim
  | ok fl=>
   cases fl with
   |next=>exact Na h
   |brk=>exact Na h
   |cont=>exact Na h
   | ret u=>
    obtain⟨v,H',os,bare,un,t,r',q⟩:=h;have q':v=.bl true:=q;subst q';obtain rfl:u=Pk true:=r';refine⟨rfl,OldK.of_keep λb o e=>?_,os,bare⟩;cases q:H b with
    |none=>exact un.keep b o e q (by intro z;exact absurd (show b∈([]:List Addr)from z) (by simp)) (by simp)
    | some u=>
     rcases Q b with z|⟨ob,xs,z⟩
     ·rw[q]at z;cases z
     ·have z2:=un.frzs b ob _ z;obtain⟨U,_⟩:=hok b _ z;obtain⟨X,_⟩:=t b _ z2;rw[e]at U;cases U;exact X
 cases L:K.lookup a with
 | some o=>
  -- the script is one of the module's own objects
  have e:=T a o L;rw[D]at e;cases e;refine j (λ_=>none) (λ_=>.inl rfl) (.inr ⟨_,vs.toArray,_,L,rfl,rfl,rfl,by rw[Br,A];exact O,by simpa using S⟩) (λb u z=>by have y:(none:Option HO)=some u:=z;cases y) (λb z=>absurd rfl z) λz=>absurd rfl z
 | none=>
  refine j (λb=>if b=a then some (.frz { cls:=.type "list",data:=.seq vs.toArray } (.lst (ns.map V.int)))else none) (λb=>?_) (.inl (.inr ⟨{ cls:=.type "list",data:=.seq vs.toArray },if_pos rfl⟩)) (λb u z=>?_) (λb z=>?_) λ_=>L
  ·by_cases g:b=a
   ·exact .inr ⟨_,_,if_pos g⟩
   ·exact .inl (if_neg g)
  ·by_cases g:b=a
   ·have y:=(if_pos g).symm.trans z;cases y;subst g;exact⟨D,by rw[Ap];exact O,vs,_,S,D⟩
   ·have y:=(if_neg g).symm.trans z;cases y
  ·by_cases g:b=a
   ·exact g
   ·exact absurd (if_neg g) z
theorem Qtp{K:Params->Frag}{CX:World->CXT}{sp:World->Sp}
  (L:l.most=some n) (m:n<=sizeLine) (t:d.params.defaults=[]) (A:Room k callerA)
  (I:∀(w:World)(h:Heap),YP w h->(K w.params).In h)
  (F:∀(w:World)(mg:Str->Option Value)(fa:Addr)(h:Heap),(K w.params).In h->h.Ns mainGlobals mg->mg d.name=some (.ref fa) ->
   ∃fd:FuncData,(∀(s:Shared)(u:Value),BindsTo s fd ⟨[u],[]⟩ [(x,u)]) /\
    ∀base:Heap,(K w.params).In base->base.Ns mainGlobals mg->FnOk l.prog w (K w.params) mg base (CX w) k fa fd [x] (sp w))
  (p:∀(w:World)(H:Hp)(a:Addr)(ns:List Int),ns.length<=n->Only H->SqL (K w.params) H a (ns.map V.int)->sp w [.ref a] H (λv _=>v=.bl true) λ_ _ _=>False)
  (r:∀(w:World)(H:Hp)(s:Shared)(e:Value)(s':Shared),CX w [] H s (λ_ _ _=>False) e s'->False) :
  PySem.W.WalkO q loose XP YP l.row.toRowW d [] (λf vs=>A04 f vs):=by
 refine Att.Qil L t λw s₀ i mg N fa o M O J a vs ns G Y ho hd B j g c b hg=>?_;have y:=I w _ Y;obtain⟨fd,C,E⟩:=F w mg fa _ y G.T.g j;exact Qqv y G.T.g G.T.b G.T.builtins G.T.nolimit hg g c (Dg b m) A E C (λH D z=>p w H a ns b D z) λH e s'=>r w H i e s'
def Gu(s:Stmt):Arguments:=match s with
 | .FunctionDef _ a _ _ _ _ _ _ _ _=>a
 |_=>{ posonlyargs:=[],args:=[],vararg:=none,kwonlyargs:=[],kw_defaults:=[],kwarg:=none,defaults:=[] }
def Qr(s:Stmt):List Stmt:=match s with
 | .FunctionDef _ _ b _ _ _ _ _ _ _=>b
 |_=>[]
def Qc(s:Stmt):Scope:=match s with
 | .FunctionDef _ _ _ _ _ _ a _ _ _=>a
 |_=>{ kind:=.function,names:=[],isGenerator:=false,isCoroutine:=false }
abbrev CX0:CXT:=λ_ _ _ _ _ _=>False
abbrev E0:XK:=λ_ _ _=>False
theorem Qye:Qpg CX0 X E0:=λ_ _ _ _ _ _ _ h=>h.elim
structure Fun(K:Frag)(x qual:Str)(st:Stmt)(f:Addr)(fd:FuncData):Prop where
 ex:∃(e:Value)(od:Option Addr)(kV b d:Value)(c:Option Addr)(a ct:Value)(osl:Array (Option Value)),
  fd=fnOf x qual (Gu st) (Qr st) (Qc st) .none kV b d c a ct/\K.lookup f=some ⟨e,od,.func fd,osl⟩/\codeIn K a qual=true
 kp:keepIn K (.ref f)=true
section
variable {K:Frag}
theorem Fun.ok(F:Fun K x qual st f fd)(S:FnScope N ps (Qc st))(len:∀vs H Q E,sp vs H Q E->vs.length=ps.length)
  (b:∀(a:Value)(A:Around)(outer:List Env)(s:Shared)(H:Hp)(vs:List V)(Q:VK)(E:XK),Room k (A.deeper (envOfC qual (Qc st) s.heap.objs.size f a))->sp vs H Q E ->
   ∃t,PSs (cxOf CX0 P w K mg base N qual (Qc st) f a A outer s H E).nox (Qr st) t/\t { nx:=λ_ H'=>Q .non H',rt:=Q } (start N vs) H):FnOk P w K mg base CX0 (k+1) f fd ps sp:=by
 obtain⟨m,od,kV,i,j,l,a,ct,osl,rfl,g,c⟩:=F.ex;refine Q2a g c S len λA outer s H vs Q E e d=>?_;obtain⟨t,h,q⟩:=b a A outer s H vs Q E e d;exact⟨t,h.nox,q⟩
theorem Fun.binds(F:Fun K x qual st f fd)
  (h:∀(kV a d:Value)(c:Option Addr)(b ct:Value)(us:List Value),us.length=ps.length->bindArgs (fnOf x qual (Gu st) (Qr st) (Qc st) .none kV a d c b ct) ⟨us,[]⟩=pure (ps.zip us)):Qhi K fd ps []:=by
 obtain⟨g,od,kV,a,d,c,b,ct,osl,rfl,i,e⟩:=F.ex;exact .all (h kV a d c b ct)
theorem Qta{g:Value}{od d:Option Addr}{kV b e a ct:Value}(l:K.lookup f=some ⟨g,od,.func (fnOf x qual (Gu st) (Qr st) (Qc st) .none kV b e d a ct),osl⟩)
  (c:codeIn K a qual=true) (k:keepIn K (.ref f)=true):Fun K x qual st f (fnOf x qual (Gu st) (Qr st) (Qc st) .none kV b e d a ct):=⟨⟨g,od,kV,b,e,d,a,ct,osl,rfl,l,c⟩,k⟩
end
theorem Q8(a:Room k A):A.units+1<cLine:=Ds (Nat.add_le_add_left (by decide:1<=64) _) a.units
theorem Xd(h:n<=1000):n<sizeLine:=Ds h (by decide)
theorem Qo2:Zk X (.builtin "len") (λxs H Q=>∃a kvs,xs=[V.ref a]/\H a=some (.dK kvs)/\Q (.int kvs.length) H):=by
 intro pins s σ H xs us Q I r h;obtain⟨a,kvs,rfl,b,q⟩:=h;obtain⟨u,rfl,d⟩:=Ga r;cases d;exact Q2g I (.inl b) λt s' c=>⟨.int kvs.length,H,c,⟨t,rfl⟩,q⟩
def Same(H H':Hp):Prop:=∀b o,H b=some o->H' b=some o
theorem Same.refl(H:Hp):Same H H:=λ_ _ h=>h
theorem Same.trans(a:Same H H1)(b:Same H1 H2):Same H H2:=λc o h=>b c o (a c o h)
theorem Same.free(e:Same H H'){l:Addr}(h:H' l=Option.none):H l=Option.none:=by
 cases q:H l with
 |none=>rfl
 | some o=>
  rw[e l o q]at h;cases h
theorem Gv{env:Env}:∀(names:List (Str×NameKind)) (a:List (Str×Addr)),
  (∀x∈names,x.2=.free->∃c,env.cells.lookup x.1=some c)->(∀y c,a.lookup y=some c->env.cells.lookup y=some c) ->
  ∃cl:List (Str×Addr),(forIn names a (λ(x:Str×NameKind)(m:List (Str×Addr))=>
    if (x.2==Fj)=true then do
     let c ← cellOf env x.1
     pure (Mz ((x.1,c)::m))
    else pure (Mz m)):Sem (List (Str×Addr)))=pure cl /\
   (∀y c,cl.lookup y=some c->env.cells.lookup y=some c)/\(∀y,(a.lookup y).isSome=true->(cl.lookup y).isSome=true) /\
   ∀x∈names,x.2=.free->(cl.lookup x.1).isSome=true
 | [],a,_,f=>⟨a,by rw[Tq],f,λ_ h=>h,λ_ h=>nomatch h⟩
 | (n,k)::r,a,l,f=>by
  rw[Kc]
  by_cases j:k=.free
  ·subst j
   obtain⟨c,t⟩:=l (n,.free) An rfl
   have d:env.cells.lookup n=some c:=t
   obtain ⟨cl,e,h1,h2,i⟩:=Gv r ((n,c)::a) (λx b=>l x (Am _ b)) (λy p h=>by
    rw[Mb]at h
    cases q:y==n with
    |true=>rw[q]at h;cases h;rw[beq_iff_eq.mp q];exact d
    |false=>rw[q]at h;exact f y p h)
   refine⟨cl,?_,h1,λy s=>h2 y ?_,λx b g=>?_⟩
   ·have o:cellOf env n=pure c:=by unfold cellOf;rw[d]
    show((if ((Fj==Fj)=true)then (cellOf env n >>= λc=>pure (Mz ((n,c)::a)))else pure (Mz a)) >>= _)=_
    rw[if_pos (by decide),o]
    exact e
   ·rw[Mb]
    cases q:y==n with
    |true=>rfl
    |false=>exact s
   ·rcases Ay.mp b with rfl|b
    ·exact h2 n (by simp[Mb])
    ·exact i x b g
  ·obtain ⟨cl,e,h1,h2,i⟩:=Gv r a (λx b=>l x (Am _ b)) f
   refine⟨cl,?_,h1,h2,λx b g=>?_⟩
   ·show((if ((k==Fj)=true)then (cellOf env n >>= λc=>pure (Mz ((n,c)::a)))else pure (Mz a)) >>= _)=_
    rw[if_neg (by simpa using j)]
    exact e
   ·rcases Ay.mp b with rfl|b
    ·exact absurd g j
    ·exact i x b g
theorem Gw(h:∀x∈scope.names,x.2=.free->∃c,env.cells.lookup x.1=some c) :
  ∃cl,closureFor scope env=pure cl/\(∀y c,cl.lookup y=some c->env.cells.lookup y=some c)/\∀x∈scope.names,x.2=.free->∃c,cl.lookup x.1=some c:=by
 obtain⟨cl,e,h1,_,d⟩:=Gv scope.names [] h (λy c q=>by simp at q);refine⟨cl,?_,h1,λx a b=>M6.mp (d x a b)⟩;simp only[closureFor];show(forIn scope.names [] _ >>= λr=>pure r)=_;rw[e];rfl
theorem Zx{env:Env}{x:Str}:∀{names:List (Str×NameKind)},names.lookup x=some .free ->
  (names.map λ(n,k)=>if (k==Fj&&env.scope.kind == .function&&env.kindOf n==some .cell)then (n,Sa)else (n,k)).lookup x=some .cell \/
  (names.map λ(n,k)=>if (k==Fj&&env.scope.kind == .function&&env.kindOf n==some .cell)then (n,Sa)else (n,k)).lookup x=some .free
 | [],h=>by simp at h
 | (n,k)::r,h=>by
  have c:=@Zx env x r;show A0u x ((if (k==Fj&&env.scope.kind == .function&&env.kindOf n==some .cell)=true then (n,Sa)else (n,k))::_)=_\/A0u x ((if (k==Fj&&env.scope.kind == .function&&env.kindOf n==some .cell)=true then (n,Sa)else (n,k))::_)=_;cases a:x==n with
  | true=>
   simp only[Mb,a]at h;cases h;by_cases b:(Fj==Fj&&env.scope.kind == .function&&env.kindOf n==some .cell)=true
   ·rw[if_pos b];left;simp only[Mb,a]
   ·rw[if_neg b];right;simp only[Mb,a]
  | false=>
   simp only[Mb,a]at h;by_cases b:(k==Fj&&env.scope.kind == .function&&env.kindOf n==some .cell)=true
   ·rw[if_pos b];simp only[Mb,a];exact c h
   ·rw[if_neg b];simp only[Mb,a];exact c h
theorem Z7{env:Env}{x:Str}{q:NameKind}:∀{names:List (Str×NameKind)},(∀y∈names,y.2 ≠ .cell)->q=.cell\/q=.free ->
  (names.map λ(n,k)=>if (k==Fj&&env.scope.kind == .function&&env.kindOf n==some .cell)then (n,Sa)else (n,k)).lookup x=some q->(x,Fj)∈names
 | [],_,_,h=>by simp at h
 | (n,k)::r,e,f,h=>by
  have h:A0u x ((if (k==Fj&&env.scope.kind == .function&&env.kindOf n==some .cell)=true then (n,Sa)else (n,k))::(r.map λ(n,k)=>if (k==Fj&&env.scope.kind == .function&&env.kindOf n==some .cell)then (n,Sa)else (n,k)))=some q:=h;by_cases g:(k==Fj&&env.scope.kind == .function&&env.kindOf n==some .cell)=true
  ·rw [if_pos g]at h;cases a:x==n with
   | true=>
    have b:k=.free:=by
     cases k<;>first|rfl|(simp at g)
    rw[beq_iff_eq.mp a,b];exact An
   | false=>
    simp only[Mb,a]at h;exact Am _ (Z7 (λy d=>e y (Am _ d)) f h)
  ·rw [if_neg g]at h;cases a:x==n with
   | true=>
    simp only[Mb,a]at h;have b:k=q:=B3 h;have c:k=.free:=by
     rcases f with rfl|rfl
     ·exact absurd b (e (n,k) An)
     ·exact b
    rw[beq_iff_eq.mp a,c];exact An
   | false=>
    simp only[Mb,a]at h;exact Am _ (Z7 (λy d=>e y (Am _ d)) f h)
noncomputable def Yr(X:Cx)(scope:Scope)(cl:List (Str×Addr))(C:Addr)(N:List Str)(s₀:Shared)(H₀:Hp)(fp:List Addr):Cx :=
 { X with N:=N,s₀:=s₀,H₀:=H₀,env:=compEnvC scope cl C X.env,outer:=X.stack,stack:=X.stack,ex:=fp,fn:=λ_=>false,pn:=[],xe:=λ_ _=>False }
structure BlkScope(env:Env)(scope:Scope)(x:Str):Prop where
 kind:scope.kind=.function
 cells:∀y∈scope.names,y.2 ≠ .cell
 names:∀y∈scope.names,y.2=.local->scope.names.lookup y.1=some .local
 lx:scope.names.lookup x=some .local
 free:∀y∈scope.names,y.2=.free->env.kindOf y.1=some .cell\/env.kindOf y.1=some .free
def bN(N:List Str)(x:Str)(ix:List Nat):List Str:=x::ix.map λi=>N.getD i On
def bS(σ:St)(o:Option V)(ix:List Nat):St:=o::ix.map λi=>(σ[i]?).getD none
def PIfs(X:Cx)(ifs:List Expr)(tt:TT):Prop :=
 ∀(pins:List (Addr×Obj)) (s:Shared) (σ:St) (H:Hp) (Q:Bool->Hp->Prop),Inv X pins σ H s->tt σ H Q ->
  wpAny (model X.prog X.w) X.A (forIn ifs true λc r=>if r=true then do let ok ← isTrue c X.env (eval c X.env);pure (Mz ok)else pure (Mz r)) (TP X pins σ Q) X.xe s
def tAll:TT:=λ_ H Q=>Q true H
theorem Qp8:PIfs X [] tAll:=by
 intro pins s σ H Q I h;rw[Tq];exact Al ⟨H,I,h⟩
theorem Qp7(h:PT X c tt):PIfs X [c] tt:=by
 intro pins s σ H Q I hw;rw[Kc];refine Ak ?_;rw[if_pos rfl];refine Ak (thn (h pins s σ H _ I hw) λok a q=>Al ?_);show wpAny _ _ (forIn [] ok _) _ _ a;rw[Tq];exact Al q
theorem Q0f(I:Inv X pins σ H s)(B:BlkScope X.env scope x)
  (h1:∀y c,cl.lookup y=some c->X.env.cells.lookup y=some c) (i:∀y∈scope.names,y.2=.free->∃c,cl.lookup y.1=some c) (g:s.heap.objs.size<=C) (d:∀b∈fp,FpOk X pins H b) (h:∀b∈fp,b<s.heap.objs.size) :
  (Yr X scope cl C N s H fp).Ok where
 mod:=I.ok.mod
 kind:=by show(relabel scope X.env).kind=_;exact B.kind
 glob:=I.ok.glob
 blt:=I.ok.blt
 above:=g
 inj:=λy z c q r=>I.ok.inj y z c (h1 y c q) (h1 z c r)
 has:=λy f=>by
  have f:(relabel scope X.env).names.lookup y=some .cell\/(relabel scope X.env).names.lookup y=some .free:=f;have m:(y,Fj)∈scope.names:=by
   rcases f with q|q
   ·exact Z7 B.cells (.inl rfl) q
   ·exact Z7 B.cells (.inr rfl) q
  exact i _ m rfl
 cab:=λy c q=>by cases(show false=true from q)
 hd:=I.ok.hd
 frames:=I.ok.frames
 stk:=.inl rfl
 exf:=λb a=>⟨By (B9 (h b a) g),λy c q=>(d b a).2.2.2.2.1 y c (h1 y c q)⟩
 bs:=I.bs
 bsz:=Dg I.ok.bsz I.sz
 noex:=λb o e a=>by
  rcases(d b a).2.2.2.1 with z|z
  ·exact I.ok.noex b o e z
  ·exact absurd (B9 (Bj e) (Dg I.ok.bsz z)) (Mr _)
 exfs:=λb a z=>by
  have j:=I.stkSub b z;rcases Ay.mp j with q|q
  ·exact(d b a).2.1 q
  ·exact(d b a).2.2.1 q
 funs:=I.stack
 frf:=I.stkFree
theorem HOk.add(x:HOk P w H h)(d:H a=none)(new:Ja P w (upd H a o) h a o):HOk P w (upd H a o) h:=λb u e=>by
 by_cases f:b=a
 ·subst f;rw[Qh]at e;cases e;exact new
 ·rw[Qm f]at e;exact(x b u e).stay (λc v _ q=>q) (λc q=>by rw[Qm (Qz q d)];exact q) (λc xs q=>by rw[Qm (Qz q d)];exact q) λc _ _ _ q _=>by rw[Qm (Qz q d)];exact q
theorem Un.add{fs ex:List Addr}(u:Un fs ex H H' h h')(f:h.get? a=none)(c:H a=none):Un fs ex H (upd H' a o) h h' where
 keep:=u.keep
 slot:=u.slot
 free:=λb ob e n d=>by
  have:b≠a:=λz=>by rw[z,f]at e;cases e
  rw[Qm this];exact u.free b ob e n d
 there:=u.there
 tups:=λb xs e=>by rw[Qm (Qz e c)];exact u.tups b xs e
 frzs:=λb ob w e=>by rw[Qm (Qz e c)];exact u.frzs b ob w e
 tbls:=λb ps e=>by rw[Qm (Qz e c)];exact u.tbls b ps e
section
variable {R:Result->Shared->Prop}
theorem Qdl{a:Expr}{it l:Value}(I:Nat->Shared->Prop)
  (turn:∀n s,I n s->wpAny (model prog w) A (pyNext it) (λr d=>match r with
   |none=>R (.ok .next) d
   | some v=>wpAny (model prog w) A (letOwnedTupleGo a it v) (λ_ s₀=>wpAny (model prog w) A (assign a env v) (λ_ k=>
     wpAny (model prog w) A (forIn ifs true λc r=>if r=true then do let ok ← isTrue c env (eval c env);pure (Mz ok)else pure (Mz r)) (λok b=>
      if ok=true then wpAny (model prog w) A (eval elt env) (λx j=>
       wpAny (model prog w) A (call (.builtin "list.append") [l,x]) (λ_ f=>∃m,m<n/\I m f) (notedBy (model prog w) A env λe s'=>R (.error e) s') j) (notedBy (model prog w) A env λe s'=>R (.error e) s') b
      else ∃m,m<n/\I m b) (notedBy (model prog w) A env λe s'=>R (.error e) s') k) (notedBy (model prog w) A env λe s'=>R (.error e) s') s₀) (notedBy (model prog w) A env λe s'=>R (.error e) s') d) (notedBy (model prog w) A env λe s'=>R (.error e) s') s)
  (n:Nat) (h:I n s):codeAny (model prog w) A (.compLoop (.ListComp elt [⟨a,iter,ifs,0⟩] scope pos) 0 it l env) R s:=by
 refine codeAny_loop rfl I (λn s t=>?_) n h
 show wpAny _ A ((compTurn (.ListComp elt [⟨a,iter,ifs,0⟩] scope pos) 0 it l env).onRaise (λx=>do noteFrame x env;theTreesLotGoes x)) _ _ s
 refine wpAny_noted ?_
 rw[compTurn_list]
 refine Ak (P8 (Ak (Mo (turn n s t) (λr d g=>?_) λ_ _ h'=>h')))
 cases r with
 |none=>exact Al g
 | some v=>
  refine Ak (Mo g (λ_ s₀ h₀=>?_) λ_ _ h'=>h')
  refine Ak (Mo h₀ (λ_ k q=>Ak (Mo q (λok b i=>?_) λ_ _ h'=>h')) λ_ _ h'=>h')
  cases ok with
  |false=>exact Al ⟨rfl,i⟩
  | true=>
   exact Ak (Ak (Mo i (λx j p=>Ak (Mo p (λ_ f o=>Al (Al ⟨rfl,o⟩)) λ_ _ h'=>h')) λ_ _ h'=>h'))
end
def bN2(N:List Str)(ts:List Str)(ix:List Nat):List Str:=ts++ix.map λi=>N.getD i On
def bS2(σ:St)(o:List (Option V))(ix:List Nat):St:=o++ix.map λi=>(σ[i]?).getD none
theorem Qou{RR:Value->Dr->Result->Shared->Prop}{Px:Hp->Shared->Value->Shared->Prop}
  (I:Inv X pins σ H s) (hc:X.calm=true) (B:BlkScope X.env scope x) (h1:∀y c,cl.lookup y=some c->X.env.cells.lookup y=some c) (h3:∀y∈scope.names,y.2=.free->∃c,cl.lookup y.1=some c)
  (hix:∀i∈ix,∃y,X.N[i]? = some y/\scope.names.lookup y=some .free) (hN:(bN2 X.N ts ix).Nodup)
  (T:Turn X.prog X.w X.K tg J fp it tn) (st:tn 0 s.heap) (Q:∀b∈fp,FpOk X pins H b)
  (hg:∀cl C s₀ H₀ fp,PG (Yr X scope cl C (bN2 X.N ts ix) s₀ H₀ fp) tg gt)
  (he:∀cl C s₀ H₀ fp xe,(∀pins ah H s e s',Inv (Yr X scope cl C (bN2 X.N ts ix) s₀ H₀ fp) pins ah H s->Px H s e s'->xe e s')->PE ((Yr X scope cl C (bN2 X.N ts ix) s₀ H₀ fp).wish xe) elt te)
  (hi:∀cl C s₀ H₀ fp,PIfs (Yr X scope cl C (bN2 X.N ts ix) s₀ H₀ fp) ifs tt)
  (W:Nat->Nat->List V->Hp->Prop) (aj:Nat) (w0:W 0 aj [] H)
  (turn:∀i m ys H,W i m ys H->(J.stop i H/\ys.length<=sizeLine/\G ys H)\/(J.go i H/\ys.length<sizeLine/\∀v H',J.yld i H v H'->∀o:List (Option V),o.length=ts.length->gt v (bS2 σ o ix) H' λap H2=>∃o2:List (Option V),ap=bS2 σ o2 ix/\o2.length=ts.length /\
    tt ap H2 λb H1=>if b=true then te ap H1 λy H2=>∃O,O < m/\W (i+1) O (ys++[y]) H2 else ∃O,O < m/\W (i+1) O ys H1))
  (a5:∀D C l s' ys H',l.locals=C->Inv X pins σ (upd H' D (.lst ys)) s'->H' D=none->H' C=none->(∃m,s'.heap.Ns C m)->s.heap.objs.size<=C->D≠C->G ys H'->RR (.ref D) l (.ok .next) s')
  (a6:∀D C l s' H' e bc,l.locals=C->l.frame=X.env.frame->Inv X pins σ H' s'->H' C=none->(∃m,s'.heap.Ns C m)->s.heap.objs.size<=C->C∉frs X.stack->Px H' s' e bc->notedBy (model X.prog X.w) X.A (compEnvC scope cl C X.env) (λe s'=>RR (.ref D) l (.error e) s') e bc) :
  wpAny (model X.prog X.w) X.A (newList []) (λa0 az=>wpAny (model X.prog X.w) X.A (newFunctionEnv scope X.env.globals cl [] X.env.qual none .none (some X.env)) (λl ay=>
   codeAny (model X.prog X.w) X.A (.compStart (.ListComp elt [⟨tg,iter,ifs,0⟩] scope pos) 0 (.ref it) a0 { l with scope:=relabel scope X.env }) (RR a0 { l with scope:=relabel scope X.env }) ay) E az) E s:=by
 have hl:∀b∈fp,b<s.heap.objs.size:=λb f=>by obtain⟨o,e,_⟩:=T.obj 0 _ st b f;exact Bj e
 refine Di (wpAny_newFunctionEnv B.cells (by intro y hy;simp at hy) (λL A h=>?_) B.kind);dsimp only at A h ⊢;generalize as:s.heap.push { cls:=.type "list",dict:=none,data:=.seq ([]:List Value).toArray }=H2 at A h ⊢;have hC:H2.objs.size=s.heap.objs.size+1:=by rw[← as,Ry]
 generalize hD:s.heap.objs.size=D at hC hl a5 a6 ⊢;generalize bo:H2.objs.size=C at hC A h ⊢;have ao:D≠C:=by lia
 have aa:∀b o,s.heap.get? b=some o->L.get? b=some o:=λb o e=>h.extBut b o (By (by have z:=Bj e;rw[hD]at z;exact B9 z (by rw[hC];exact Ky _))) (Ao _ (as ▸ Ao _ e));have ba:L.get? D=some { cls:=.type "list",data:=.seq ([]:List Value).toArray 0 }:=h.extBut _ _ ao (Ao _ (as ▸ (by rw[← hD];exact Be _ rfl)));have bk:∀a,D<=a->s.heap.get? a=none:=λa ha=>by
  cases e:s.heap.get? a with
  |none=>rfl
  |some o=>exact absurd (Bj e) (by rw[hD];exact Nat.not_lt.mpr ha)
 have aw:∀a,D<=a->H a=none:=λa ha=>I.hok.fresh (by lia);have ok:(Yr X scope cl C (bN2 X.N ts ix) s H fp).Ok:=Q0f I B h1 h3 (by lia) Q (by rw[hD];exact hl);generalize M:Yr X scope cl C (bN2 X.N ts ix) s H fp=K at ok;have kp:K.prog=X.prog:=by rw[← M];rfl
 have kw:K.w=X.w:=by rw[← M];rfl
 have kK:K.K=X.K:=by rw[← M];rfl
 have kA:K.A=X.A:=by rw[← M];rfl
 have kc:K.calm=true:=by rw[← M];exact hc
 have kN:K.N=bN2 X.N ts ix:=by rw[← M];rfl
 have P:K.env=compEnvC scope cl C X.env:=by rw[← M];rfl
 have t:K.env.locals=C:=by rw[← M];rfl
 have ag:K.fs=frs X.stack:=by rw[← M];rfl
 have av:K.ex=fp:=by rw[← M];rfl
 have ar:K.pn=[]:=by rw[← M];rfl
 have ks:K.s₀=s:=by rw[← M];rfl
 have kH:K.H₀=H:=by rw[← M];rfl
 have kx:K.xe=λ_ _=>False:=by rw[← M];rfl
 have Z:K.env.cells=cl:=by rw[← M];rfl
 have ai:∀y c,cl.lookup y=some c->c<D:=λy c q=>by obtain⟨v,z⟩:=I.cell y c (h1 y c q);rw[← hD];exact z.lt
 have U:∀b∈frs X.stack,b<D:=λb f=>by
  rcases Ay.mp (I.stkSub b f)with q|q
  ·rw[q,← hD];exact I.lt
  ·rcases Nat.lt_or_ge b D with z|z
   ·exact z
   ·exact absurd q (I.nofs (by lia))
 -- the state at the block's begin
 have I0:∀tk,Inv K [(D,{ cls:=.type "list",data:=.seq ([]:List Value).toArray 0 })] (bS2 σ (ts.map λ_=>none) ix) H { s with heap:=L,toks:=tk }:=λtk=>by
  refine⟨ok,by rw[ks],I.bare,by rw[ks,kH];exact Un.kept aa,?_,?_,?_,?_,?_,by rw[kp,kw];exact I.hok.kept aa,?_⟩
  ·refine ⟨_,by rw[t];exact A,λi y v e1 S e3=>?_⟩;rw[kN]at e1;by_cases be:i<ts.length
   ·unfold bS2 at S;rw[Ru (by simpa using be),Bh]at S;cases a7:ts[i]? with
    |none=>rw[a7]at S;cases S
    |some N=>rw[a7]at S;have S:(some (none:Option V))=some (some v):=S;cases S
   ·obtain ⟨i,rfl⟩:∃i',i=ts.length+i':=⟨i-ts.length,by lia⟩
    have ab:(ix.map λi=>X.N.getD i On)[i]? = some y:=by
     unfold bN2 at e1;rw[Nq (by lia),show ts.length+i-ts.length=i by lia]at e1;exact e1
    have au:(ix.map λi=>(σ[i]?).getD none)[i]? = some (some v):=by
     unfold bS2 at S;rw[Nq (by rw[Ap];lia),Ap,show ts.length+i-ts.length=i by lia]at S;exact S
    rw[Bh]at ab au;cases q:ix[i]? with
    |none=>rw[q]at ab;cases ab
    | some j=>
     rw[q]at ab au;obtain⟨N,a1,a2⟩:=hix j (Bk q);have a3:X.N.getD j On=N:=by simp[List.getD,a1]
     have ey:N=y:=by rw[← a3];exact B3 ab
     subst ey;have es:σ[j]? = some (some v):=by
      have z:(σ[j]?).getD none=some v:=B3 au;cases w:σ[j]? with
      |none=>rw[w]at z;cases z
      |some o=>rw[w]at z;have z':o=some v:=z;rw[z']
     obtain⟨m,hn,bi⟩:=I.loc;have hk:=B.free (N,.free) (Nm a2) rfl;have hk:X.env.kindOf N=some .cell\/X.env.kindOf N=some .free:=hk;have bf:Vis X.env.scope N:=hk.elim (λz=>.inr (.inl z)) λz=>.inr (.inr z);obtain⟨u,ru,lk⟩:=bi j N v a1 es bf;refine⟨u,ru,?_⟩;rcases lk with⟨k,_⟩|⟨_,c,ec,ce⟩
     ·rcases hk with z|z<;>(rw[k]at z;cases z)
     ·obtain⟨c',af⟩:=h3 (N,.free) (Nm a2) rfl;have af:cl.lookup N=some c':=af;have:c'=c:=B3 ((h1 N c' af).symm.trans ec);subst this;refine .inr ⟨?_,c',by rw[Z];exact af,?_⟩
      ·show K.env.scope.names.lookup N=_\/K.env.scope.names.lookup N=_;rw[P];exact Zx a2
      ·obtain⟨oc,an,r⟩:=ce;exact⟨oc,aa _ _ an,r⟩
  ·intro y c q;rw[Z]at q;obtain⟨v,oc,an,r⟩:=I.cell y c (h1 y c q);exact⟨v,oc,aa _ _ an,r⟩
  ·rw[t];exact aw _ (by lia)
  ·intro y c q;rw[Z]at q;exact I.freeC y c (h1 y c q)
  ·intro p R;rw[ar]at R;have e:p=(D,{ cls:=.type "list",data:=.seq ([]:List Value).toArray 0 }):=by simpa using R
   subst e;refine⟨ba,aw _ (At _),by rw[t];exact ao,?_,λv z=>?_⟩
   ·rw[ag];intro z;exact absurd (U D z) (Mr _)
   ·have z':Po _ _=Sd v:=z;cases z'
  ·rw[kN];simp[bS2,bN2]
 have ae:∀{H':Hp}{ob:Obj},(∀b∈fp,H' b=none)->∀b∈fp,FpOk K [(D,ob)] H' b:=λ{H' ob} hn b f=>by
  refine⟨hn b f,?_,?_,.inl (by rw[av];exact f),?_,?_⟩
  ·rw[t];exact By (B9 (hl b f) (by rw[hC];exact Ky _))
  ·rw[ag];intro z;rcases Ay.mp (I.stkSub b z)with q|q
   ·exact(Q b f).2.1 q
   ·exact(Q b f).2.2.1 q
  ·intro y c q;rw[Z]at q;exact(Q b f).2.2.2.2.1 y c (h1 y c q)
  ·intro p R;rw[ar]at R;have e:p=(D,ob):=by simpa using R
   subst e;exact D4 (hl b f)
 have ac:tn 0 L:=T.keep _ _ _ st λb f o e=>aa b o e;have al:∀tk,codeAny (model X.prog X.w) X.A (.compLoop (.ListComp elt [⟨tg,iter,ifs,0⟩] scope pos) 0 (.ref it) (.ref D) (compEnvC scope cl C X.env)) (RR (.ref D) (compEnvC scope cl C X.env)) { s with heap:=L,toks:=tk }:=by
  intro tk;refine Qdl (λn s'=>∃i o H' ys its c,o.length=ts.length/\Inv K [(D,{ cls:=.type "list",data:=.seq (its:List Value).toArray c })] (bS2 σ o ix) H' s'/\Vals ys its/\tn i s'.heap/\(∀b∈fp,H' b=none)/\W i n ys H') ?_ aj
   ⟨0,ts.map (λ_=>none),H,[],[],0,by simp,I0 tk,.nil,ac,λb f=>(Q b f).1,w0⟩
  rintro n s1 ⟨i,o,H1,ys,its,c,ol,I1,rv,t1,f1,w1⟩;rcases turn i n ys H1 w1 with⟨stop,hz,g⟩|⟨go,hz,step⟩
  ·have dn:=T.done K kp kw kK kc i _ s1 _ H1 (notedBy (model X.prog X.w) X.A (compEnvC scope cl C X.env) λe s'=>RR (.ref D) (compEnvC scope cl C X.env) (.error e) s') I1 (ae f1) t1 stop;rw[kA]at dn;refine thn dn λr s2 ⟨hr,I2⟩=>?_;subst hr;obtain⟨p1,p2,p3,p4,p5⟩:=I2.pin (D,{ cls:=.type "list",data:=.seq its.toArray c }) (D5 _ (Aw.mpr rfl))
   have u2:=I2.base;rw[ag,av,kH,ks]at u2;refine a5 D C (compEnvC scope cl C X.env) s2 ys H1 rfl ?_ p2 (by rw[← t];exact I2.free) (by obtain⟨m,hm,_⟩:=I2.loc;rw[t]at hm;exact⟨m,hm⟩) (by lia) ao g;have bh:HOk X.prog X.w H1 s2.heap:=by have:=I2.hok;rw[kp,kw]at this;exact this
   refine I.call' (ch:=fp) (by have:=I2.os;rw[ks]at this;exact this) (u2.add (bk D (At _)) (aw D (At _))) (bh.add p2 ⟨hz,its,c,rv,p1⟩) I2.bare λb f=>?_;exact⟨(Q b f).2.2.2.1,(Q b f).2.1,(Q b f).2.2.2.2.1,(Q b f).2.2.2.2.2⟩
  ·have im:=T.item K kp kw kK kc i _ s1 _ H1 (notedBy (model X.prog X.w) X.A (compEnvC scope cl C X.env) λe s'=>RR (.ref D) (compEnvC scope cl C X.env) (.error e) s') I1 (ae f1) t1 go;rw[kA]at im;refine thn im λr s2 z9=>?_;obtain⟨u,hr,h2⟩:=z9;subst hr;refine thn h2 λ_ s3 z9=>?_;obtain⟨v,H3,I3,r3,y3,t3,f3⟩:=z9;have q3:=step v H3 y3 o ol;have bj:=I3.pinned (ae f3) (T.obj _ _ t3);have a8:=hg cl C s H fp;rw[M]at a8;have a9:=a8 _ s3 _ H3 v u _ bj r3 q3;rw[kx,kp,kw,kA,P]at a9;refine Mo a9 (λ_ s4 ⟨bn,H4,I4,o4,e4,l4,q4⟩=>?_) λ_ _ z=>z.elim;subst e4;have ax:=hi cl C s H fp;rw[M]at ax;have bd:=ax _ s4 _ H4 _ I4 q4;rw[kx,kp,kw,kA,P]at bd;refine Mo bd (λok s5 ⟨H5,I5,q5⟩=>?_) λ_ _ z=>z.elim;have ak:∀{H7:Hp}{s7:Shared}{o7:List (Option V)},Inv K ([(D,{ cls:=.type "list",data:=.seq its.toArray c })]++Qga fp s3.heap) (bS2 σ o7 ix) H7 s7->tn (i+1) s7.heap/\∀b∈fp,H7 b=none:=λ{H7 s7 o7} I7=>by
    refine⟨T.keep _ _ _ t3 λb f o e=>(I7.pin (b,o) (D5 _ (D5 _ (U3 f e)))).1,λb f=>?_⟩;obtain⟨ob,e,d⟩:=T.obj _ _ t3 b f;exact(I7.pin (b,ob) (D5 _ (D5 _ (U3 f e)))).2.1
   cases ok with
   | false=>
    rw[if_neg Bt];have q5:∃O,O < n/\W (i+1) O ys H5:=q5;obtain⟨O,hm,w5⟩:=q5;obtain⟨b1,b2⟩:=ak I5;exact⟨O,hm,i+1,o4,H5,ys,its,c,l4,I5.unpinned,rv,b1,b2,w5⟩
   | true=>
    rw [if_pos rfl];have q5:te (bS2 σ o4 ix) H5 λy H2=>∃O,O < n/\W (i+1) O (ys++[y]) H2:=q5;have bg:∀Y ah H5 s5 e s',Inv K Y ah H5 s5->Px H5 s5 e s'->notedBy (model X.prog X.w) X.A (compEnvC scope cl C X.env) (λe s'=>RR (.ref D) (compEnvC scope cl C X.env) (.error e) s') e s':=by
     intro Y ah H5 s5 e s' J5 q;have u5:=J5.base;rw[ag,av,kH,ks]at u5;refine a6 D C _ s5 H5 e s' rfl rfl ?_ (by rw[← t];exact J5.free) (by obtain⟨m,hm,_⟩:=J5.loc;rw[t]at hm;exact⟨m,hm⟩) (by lia) (λz=>Mr C (Nat.lt_trans (U C z) (by lia))) q;exact I.call' (ch:=fp) (by have:=J5.os;rw[ks]at this;exact this) u5 (by have:=J5.hok;rw[kp,kw]at this;exact this) J5.bare λb f=>⟨(Q b f).2.2.2.1,(Q b f).2.1,(Q b f).2.2.2.2.1,(Q b f).2.2.2.2.2⟩
    have bb:=he cl C s H fp _ (M ▸ bg);rw[M]at bb;have am:=bb _ s5 _ H5 _ (I5.wish _) q5;change wpAny (model K.prog K.w) K.A (eval elt K.env) _ _ s5 at am;rw[kp,kw,kA,P]at am;refine Mo am (λy s6 ⟨yv,H6,I6,r6,O,hm,w6⟩=>?_) λ_ _ z=>z;have I6:=I6.unwish;obtain⟨b1,b2⟩:=ak I6;have a4:=I6.unpinned;obtain⟨p1,p2,p3,p4,p5⟩:=a4.pin (D,{ cls:=.type "list",data:=.seq its.toArray c }) (D5 _ (Aw.mpr rfl))
    have bm:=rv.length;refine Ka F.slot_list_append ⟨_,p1,rfl⟩ F.entry_list_append (Pn _ _) (A0p D its.toArray c y (by rw[Br];lia)) ⟨p1,?_⟩;have ea:its.toArray.push y=(its++[y]).toArray:=by simp
    obtain⟨c',q⟩:∃c',(s6.heap.update D (Nb (·.push y))).get? D=some { cls:=.type "list",data:=.seq (its++[y]).toArray c' }:=⟨_,by rw[← ea];exact A01 p1 (·.push y)⟩
    refine⟨O,hm,i+1,o4,H6,ys++[yv],its++[y],c',l4,?_,rv.append (.cons r6 .nil),T.keep _ _ _ b1 λb f o e=>?_,b2,w6⟩
    ·have Id:Inv K [] (bS2 σ o4 ix) H6 s6:=a4.pins_of λp R=>by simp at R
     have It:Inv K [] (bS2 σ o4 ix) H6 { s6 with heap:=s6.heap.update D (Nb (·.push y)) }:=Id.turned (t':=s6.toks) (it:=D) (λb o f e=>(Sk _ _ (Ra f)).trans e) p2 p3
      (.inr (by rw[ks];lia)) (λN c' e=>by rw[Z]at e;exact By (ai N c' e)) (λp R=>by rw[ar]at R;simp at R)
     refine It.pins_of λp R=>?_;obtain rfl:p=(D,{ cls:=.type "list",data:=.seq (its++[y]).toArray c' }):=by simpa using R
     refine⟨q,p2,p3,p4,λv z=>?_⟩;have z':Po _ _=Sd v:=z;cases z'
    ·exact(Sk _ _ (D4 (hl b f))).trans e
 have aq:wpAny (model X.prog X.w) X.A (pyIter (.ref it)) (λbl s'=>codeAny (model X.prog X.w) X.A (.compLoop (.ListComp elt [⟨tg,iter,ifs,0⟩] scope pos) 0 bl (.ref D) (compEnvC scope cl C X.env)) (RR (.ref D) (compEnvC scope cl C X.env)) s')
   (notedBy (model X.prog X.w) X.A (compEnvC scope cl C X.env) λe s'=>RR (.ref D) (compEnvC scope cl C X.env) (.error e) s') { s with heap:=L,toks:=s.toks+([]:List (Str×Value)).length }:=T.self X.A 0 _ _ _ ac (al _)
 exact codeAny_compStart_list (al _) aq
theorem Qg0
  (I:Inv X pins σ H s) (u:X.calm=true) (B:BlkScope X.env scope x) (h1:∀y c,cl.lookup y=some c->X.env.cells.lookup y=some c) (p:∀y∈scope.names,y.2=.free->∃c,cl.lookup y.1=some c)
  (hix:∀i∈ix,∃y,X.N[i]? = some y/\scope.names.lookup y=some .free) (hN:(bN2 X.N ts ix).Nodup)
  (T:Turn X.prog X.w X.K tg J fp it tn) (st:tn 0 s.heap) (n:∀b∈fp,FpOk X pins H b)
  (hg:∀cl C s₀ H₀ fp,PG (Yr X scope cl C (bN2 X.N ts ix) s₀ H₀ fp) tg gt)
  (t:∀cl C s₀ H₀ fp,PE (Yr X scope cl C (bN2 X.N ts ix) s₀ H₀ fp) elt te)
  (hi:∀cl C s₀ H₀ fp,PIfs (Yr X scope cl C (bN2 X.N ts ix) s₀ H₀ fp) ifs tt)
  (W:Nat->Nat->List V->Hp->Prop) (f:Nat) (q:W 0 f [] H)
  (turn:∀i m ys H,W i m ys H->(J.stop i H/\ys.length<=sizeLine/\G ys H)\/(J.go i H/\ys.length<sizeLine/\∀v H',J.yld i H v H'->∀o:List (Option V),o.length=ts.length->gt v (bS2 σ o ix) H' λg H2=>∃o2:List (Option V),g=bS2 σ o2 ix/\o2.length=ts.length /\
    tt g H2 λb H1=>if b=true then te g H1 λy H2=>∃j,j < m/\W (i+1) j (ys++[y]) H2 else ∃j,j < m/\W (i+1) j ys H1))
  (l:∀D C s' ys H',Inv X pins σ (upd H' D (.lst ys)) s'->H' D=none->H' C=none->(∃m,s'.heap.Ns C m)->s.heap.objs.size<=C->D≠C->G ys H'->RR (.ref D) C (.ok .next) s') :
  wpAny (model X.prog X.w) X.A (newList []) (λd h=>wpAny (model X.prog X.w) X.A (newFunctionEnv scope X.env.globals cl [] X.env.qual none .none (some X.env)) (λa k=>
   codeAny (model X.prog X.w) X.A (.compStart (.ListComp elt [⟨tg,iter,ifs,0⟩] scope pos) 0 (.ref it) d { a with scope:=relabel scope X.env }) (RR d a.locals) k) E h) E s :=
 Qou (RR:=λd a r s=>RR d a.locals r s) (Px:=λ_ _ _ _=>False) I u B h1 p hix hN T st n hg (λcl C s₀ H₀ fp xe _=>PE.nox (t cl C s₀ H₀ fp)) hi W f q turn (λD C a s' ys H' e=>by subst e;exact l _ _ _ _ _) λ_ _ _ _ _ _ _ _ _ _ _ _ _ _ z=>z.elim
theorem Qke
  (I:Inv X pins σ H s) (t:X.calm=true) (B:BlkScope X.env scope x) (h1:∀y c,cl.lookup y=some c->X.env.cells.lookup y=some c) (n:∀y∈scope.names,y.2=.free->∃c,cl.lookup y.1=some c)
  (hix:∀i∈ix,∃y,X.N[i]? = some y/\scope.names.lookup y=some .free) (hN:(bN X.N x ix).Nodup)
  (T:Turn X.prog X.w X.K (.Name x px) J fp it tn) (st:tn 0 s.heap) (l:∀b∈fp,FpOk X pins H b)
  (q:∀cl C s₀ H₀ fp,PE (Yr X scope cl C (bN X.N x ix) s₀ H₀ fp) elt te)
  (hi:∀cl C s₀ H₀ fp,PIfs (Yr X scope cl C (bN X.N x ix) s₀ H₀ fp) ifs tt)
  (W:Nat->Nat->List V->Hp->Prop) (e:Nat) (p:W 0 e [] H)
  (turn:∀i m ys H,W i m ys H->(J.stop i H/\ys.length<=sizeLine/\G ys H)\/(J.go i H/\ys.length<sizeLine/\∀v H',J.yld i H v H' ->
    tt (bS σ (some v) ix) H' λb H1=>if b=true then te (bS σ (some v) ix) H1 λy H2=>∃g,g < m/\W (i+1) g (ys++[y]) H2 else ∃g,g < m/\W (i+1) g ys H1))
  (k:∀D C s' ys H',Inv X pins σ (upd H' D (.lst ys)) s'->H' D=none->H' C=none->(∃m,s'.heap.Ns C m)->s.heap.objs.size<=C->D≠C->G ys H'->RR (.ref D) C (.ok .next) s') :
  wpAny (model X.prog X.w) X.A (newList []) (λh f=>wpAny (model X.prog X.w) X.A (newFunctionEnv scope X.env.globals cl [] X.env.qual none .none (some X.env)) (λd j=>
   codeAny (model X.prog X.w) X.A (.compStart (.ListComp elt [⟨.Name x px,iter,ifs,0⟩] scope pos) 0 (.ref it) h { d with scope:=relabel scope X.env }) (RR h d.locals) j) E f) E s :=
 Qg0 (ts:=[x]) (gt:=Qgu 0) I t B h1 n hix hN T st l (λcl C s₀ H₀ fp=>Qet hN rfl (.inl (Sy B.lx)) (.inr (Sy B.lx))) q hi W e p (λi m ys H hw=>(turn i m ys H hw).imp id λ⟨a,b,c⟩=>⟨a,b,λv H' r o ho=>by
  match o,ho with
  | [o],_=>exact⟨[some v],rfl,rfl,c v H' r⟩⟩) k
noncomputable def Qtz(wi:TI)(tt:TT)(te:TE)(ix:List Nat):TE:=λσ H Q=>wi σ H λJ H1=>∃(W:Nat->Nat->List V->Hp->Prop)(a:Nat),W 0 a [] H1 /\
 ∀i m ys H,W i m ys H->(J.stop i H/\ys.length<=sizeLine/\∀l,H l=none->Q (.ref l) (upd H l (.lst ys)))\/(J.go i H/\ys.length<sizeLine/\∀v H',J.yld i H v H' ->
  tt (bS σ (some v) ix) H' λb H1=>if b=true then te (bS σ (some v) ix) H1 λy H2=>∃c,c < m/\W (i+1) c (ys++[y]) H2 else ∃c,c < m/\W (i+1) c ys H1)
theorem Qfj(I:Inv X pins σ H s)(B:BlkScope X.env scope x):∀y∈scope.names,y.2=.free->∃c,X.env.cells.lookup y.1=some c :=
 λy b a=>I.ok.has y.1 (B.free y b a)
theorem Inv.blkGone{s₀:Shared}{H₀:Hp}{d:St}(a:Inv X pins d H₀ s₀)(I:Inv X pins σ H s)(f:s₀.heap.objs.size<=C)(h:H C=none)(j:Dw C s.heap h'):Inv X pins σ H { s with heap:=h' } :=
 I.turned (t':=s.toks) (it:=C) (λb o g e=>(j.2 b g).trans e) h (D4 (B9 a.lt f)) (.inr (Dg a.sz f))
  (λx c e=>by obtain⟨v,z⟩:=a.cell x c e;exact By (B9 z.lt f)) (λp i=>By (B9 (Bj (a.pin p i).1) f))
theorem Qu7(ix:List Nat)(E:X.calm=true)(B:BlkScope X.env scope x)
  (hix:∀i∈ix,∃y,X.N[i]? = some y/\scope.names.lookup y=some .free) (hN:(bN X.N x ix).Nodup) (hi:PI X (.Name x px) iter wi)
  (o:∀cl C s₀ H₀ fp,PIfs (Yr X scope cl C (bN X.N x ix) s₀ H₀ fp) ifs tt)
  (z:∀cl C s₀ H₀ fp,PE (Yr X scope cl C (bN X.N x ix) s₀ H₀ fp) elt te)
  (q:∀x,foldedSetIterable iter X.env x=pure x:=by intro _;rfl) :
  PE X (.ListComp elt [⟨.Name x px,iter,ifs,0⟩] scope pos) (Qtz wi tt te ix):=by
 intro pins s σ H Q I h;obtain⟨cl,j,h1,n⟩:=Gw (Qfj I B);rw[eval_ListComp];refine Tj (use:=none) rfl q j B.kind B.names (thn (hi pins s σ H _ I h) λv F d=>thn d λA K h2=>?_);obtain⟨it,fp,tn,J,H2,e,k,T,c,p,W,m0,t,turn⟩:=h2;subst e;refine Qke (G:=λys H'=>∀l,H' l=none->Q (.ref l) (upd H' l (.lst ys))) k E B h1 n hix hN T c p z o W m0 t turn λD C s' ys H' u w r hm a f g=>?_;obtain⟨m,hm⟩:=hm;refine⟨m,hm,λh' b=>⟨.ref D,upd H' D (.lst ys),k.blkGone u a (by rw[Qm (Ra f)];exact r) b,rfl,g D w⟩⟩
theorem Qu1{y:Str}(ix:List Nat)(hc:X.calm=true)(B:BlkScope X.env scope x)
  (o:X.N.Nodup) (P:X.N[j]? = some y) (hy:Loc X.env.scope y)
  (n:swapsWith (.ListComp elt [⟨.Name x px,iter,ifs,0⟩] scope pos) (some (.Name y py)) spos.line X.env=pure true)
  (hix:∀i∈ix,∃y,X.N[i]? = some y/\scope.names.lookup y=some .free) (hN:(bN X.N x ix).Nodup) (hi:PI X (.Name x px) iter wi)
  (L:∀cl C s₀ H₀ fp,PIfs (Yr X scope cl C (bN X.N x ix) s₀ H₀ fp) ifs tt)
  (Y:∀cl C s₀ H₀ fp,PE (Yr X scope cl C (bN X.N x ix) s₀ H₀ fp) elt te)
  (F:X.fn y=true\/X.env.scope.names.lookup y=some .local:=by first|exact .inl rfl|exact .inr rfl|assumption)
  (O:∀x,foldedSetIterable iter X.env x=pure x:=by intro _;rfl) :
  PS X (.Assign [.Name y py] (.ListComp elt [⟨.Name x px,iter,ifs,0⟩] scope pos) spos) (tAsg (Qtz wi tt te ix) (Qgu j)):=by
 intro pins s σ H A I h
 obtain⟨cl,w,h1,K⟩:=Gw (Qfj I B)
 rw[exec_Assign_Name_used _ _ _ _ n]
 refine Ak (P8 (Ak ?_))
 show wpAny _ X.A (do let _ ← comprehension (.ListComp elt [⟨.Name x px,iter,ifs,0⟩] scope pos) scope X.env _ (newList []) false (eval iter X.env) (some (assign (.Name y py) X.env))) _ _ s
 refine Ak (Mo (Tj (use:=some (assign (.Name y py) X.env)) (Q:=λ_ s'=>SP X pins A .next s') rfl O w B.kind B.names
  (thn (hi pins s σ H _ I h) λv s1 r=>thn r λZ s2 h2=>?_)) (λ_ s' N=>Al (Al N)) λ_ _ e=>e)
 obtain⟨it,fp,tn,J,H2,e,c,T,k,M,W,m0,S,turn⟩:=h2
 subst e
 refine Qke (G:=λys H'=>∀l,H' l=none->Qgu j (.ref l) σ (upd H' l (.lst ys)) A.nx) c hc B h1 K hix hN T k M Y L W m0 S turn λD C s' ys H' U V R hm b u g=>?_
 obtain⟨m,hm⟩:=hm
 have d:upd H' D (.lst ys) C=none:=by rw[Qm (Ra u)];exact R
 show wpAny _ _ (assign (.Name y py) X.env (.ref D)) _ _ s'
 refine wpAny_assign_Name (Qfz U o P hy (show RelV (.ref D) (.ref D)from rfl) (λs3 I3 ⟨a,t,E⟩=>?_) F)
 have p:C≠a:=by
  rcases E with z|z
  ·rw[z];exact D4 (B9 c.lt b)
  ·obtain⟨v,q⟩:=c.cell y a z;exact D4 (B9 q.lt b)
 exact⟨m,hm.sameBut t p,λh' f=>⟨_,_,c.blkGone I3 b d f,g D V⟩⟩
theorem Inv.turnNew{T:Addr}(I:Inv X pins σ H s)(i:s.heap.objs.size<=T)
  (k:∀b u,b∉ch->s.heap.get? b=some u->h'.get? b=some u) (a:∀b∈ch,FpOk X pins H b) (new:Ja X.prog X.w (upd H T o) h' T o):Inv X pins σ (upd H T o) { s with heap:=h',toks:=t' }:=by
 have j:H T=none:=I.hok.fresh i;have hg:s.heap.get? T=none:=by
  cases e:s.heap.get? T with
  |none=>rfl
  |some u=>exact absurd (Bj e) (Nat.not_lt.mpr i)
 have u:Un (frs X.stack) ch H H s.heap h':=⟨λb q e _ _ d=>k b q d e,λb q e _ _ d=>⟨q.slots,k b q d e⟩,λb q e n _=>n,λb q e d=>⟨q,k b q d e⟩,λ_ _ e=>e,λ_ _ _ e=>e,λb ps e=>⟨#[],by rw[K6];exact e⟩⟩
 have hok:HOk X.prog X.w H h':=λb q e=>(I.hok b q e).stay (λc v g z=>k c v (λm=>by
  have h:=(a c m).1;rcases g with rfl|g
  ·rw[h]at e;cases e
  ·rw[h]at g;cases g) z) (λ_ z=>z) λ_ _ z=>z
 exact I.call' (s':={ s with heap:=h',toks:=t' }) rfl (u.add hg j) (hok.add j new) I.bare λb f=>⟨(a b f).2.2.2.1,(a b f).2.1,(a b f).2.2.2.2.1,(a b f).2.2.2.2.2⟩
theorem Inv.turnAll(I:Inv X pins σ H s)
  (k:∀b u,b∉ch->s.heap.get? b=some u->h'.get? b=some u) (a:∀b∈ch,FpOk X pins H b):Inv X pins σ H { s with heap:=h',toks:=t' }:=by
 have u:Un (frs X.stack) ch H H s.heap h':=⟨λb q e _ _ d=>k b q d e,λb q e _ _ d=>⟨q.slots,k b q d e⟩,λb q e n _=>n,λb q e d=>⟨q,k b q d e⟩,λ_ _ e=>e,λ_ _ _ e=>e,λb ps e=>⟨#[],by rw[K6];exact e⟩⟩
 have hok:HOk X.prog X.w H h':=λb q e=>(I.hok b q e).stay (λc v g z=>k c v (λm=>by
  have h:=(a c m).1;rcases g with rfl|g
  ·rw[h]at e;cases e
  ·rw[h]at g;cases g) z) (λ_ z=>z) λ_ _ z=>z
 exact I.call' (s':={ s with heap:=h',toks:=t' }) rfl u hok I.bare λb f=>⟨(a b f).2.2.2.1,(a b f).2.1,(a b f).2.2.2.2.1,(a b f).2.2.2.2.2⟩
theorem Qtu{x:Value}(a:s.heap.IsTupleIter it t i)(f:s.heap.IsTuple t items)(d:items[i]? = some x)
  (e:∀h',h'.IsTupleIter it t (i+1)->Dw it s.heap h'->Q x { s with heap:=h' }):wpAny (model prog w) A (Dp (.ref it)) Q E s:=by
 obtain⟨o,ho,g,hd⟩:=id a;obtain⟨j,b,_,h,c⟩:=f;unfold Dp;refine Ak (De (name:=Fa "__next__") a.typeIs Fu (B4 Fu a.typeIs Rj ?_ (Rb _)));show wpAny _ _ (field (.ref it) 0 >>= _) _ _ s;refine Ak (Dk ho hd (x:=.ref t) rfl ?_);show wpAny _ _ (if (Ba t==Dc)=true then _ else _) _ _ s;rw[if_neg (show ¬((Ba t==Dc)=true)from Bt)];show wpAny _ _ (field (.ref it) 1 >>= _) _ _ s;refine Ak (Dk ho hd (x:=.int i 0) rfl ?_);show wpAny _ _ (seqItems? (.ref t) >>= _) _ _ s;refine Ak (Mn b c ?_);simp only[Fh,d];refine Ak (Nc ho hd (by simp) (Al ⟨x,rfl,Al (e _ ⟨_,Fc _ ho (Rm (Mi hd _)),(T2 ..).trans g,by rw[Mi hd];simp[rawInt]⟩ (Dd ..))⟩))
theorem Qsb(f:A.handled=none)(b:s.heap.IsTupleIter it t i)(j:s.heap.IsTuple t items)(h:items[i]? = none)
  (g:∀h' e,Kz it s.heap h'->(∃o,h'.get? e=some o/\o.cls=.type "StopIteration")->E (.ref e) { s with heap:=h' }):wpAny (model prog w) A (Dp (.ref it)) Q E s:=by
 obtain⟨o,ho,n,hd⟩:=id b;obtain⟨l,c,_,k,d⟩:=j;unfold Dp;refine Ak (De (name:=Fa "__next__") b.typeIs Fu (B4 Fu b.typeIs Rj ?_ (Rb _)));show wpAny _ _ (field (.ref it) 0 >>= _) _ _ s;refine Ak (Dk ho hd (x:=.ref t) rfl ?_);show wpAny _ _ (if (Ba t==Dc)=true then _ else _) _ _ s;rw[if_neg (show ¬((Ba t==Dc)=true)from Bt)];show wpAny _ _ (field (.ref it) 1 >>= _) _ _ s;refine Ak (Dk ho hd (x:=.int i 0) rfl ?_);show wpAny _ _ (seqItems? (.ref t) >>= _) _ _ s;refine Ak (Mn c d ?_);simp only[Fh,h];refine Ak (Mj (Ak (Nc ho hd (by simp) ?_)));show wpAny _ _ (newExc (.type "StopIteration") [] >>= _) _ _ _;refine Ak ?_;simp only[newExc,newTuple];refine Ak (Di ?_ (by size_fits));refine Ak (m:=firstArgMember _ _) (Nz (a:=Dc) (by first|rfl|(simp only[firstArgMember];rfl)) ?_);refine Di ?_ (by size_fits);simp only[raiseNew];refine Ak (Ii ?_)
 first|rw[show A.in1.handled=none from f]|rw[f]
 refine Ak (Al (K0 (g _ _ (((Dd ..).extBut.push _).push _) ⟨_,Be _ rfl,rfl⟩)))
theorem Qra(f:A.handled=none)(it t:Addr)(c:t≠it)(items:Array Value) :
  Draws prog w A it [it,t] items.size (λi v=>items[i]? = some v) (λi h=>h.IsTupleIter it t i/\h.IsTuple t items) where
 live:=λ_ _ st=>let ⟨o,ho,_⟩:=st.1;⟨o,ho⟩
 frame:=λ_ _ _ st d=>⟨st.1.at λo e=>d it (by simp) o e,let ⟨o,ho,r⟩:=st.2;⟨o,d t (by simp) o ho,r⟩⟩
 item:=λi s Q E hi st j=>Qtu st.1 st.2 (x:=items[i]) (by simp[hi]) λh' a b=>j _ h' s.toks (by simp[hi]) ⟨a,st.2.extBut b.extBut c⟩ b
 done:=λs Q E st g=>Qsb f st.1 st.2 (by simp) g
open AutoSeq1 (wpAny_loadPart') in
theorem Qq7(l:Addr)(items:Array Value)(n:Nat)(e:Option Addr)(sl:Array (Option Value)) :
  Meets (Builtin.«enumerate.__new__» ⟨[.type "enumerate",.ref l],[]⟩) (λ_ R s=>s.heap.get? l=some { cls:=.type "tuple",dict:=e,data:=.seq items n,slots:=sl } /\
   R (.ok (.ret (.ref (s.heap.push { cls:=.type "tuple_iterator",data:=.fields #[.ref l,.int 0 0] }).objs.size)))
    { s with heap:=(s.heap.push { cls:=.type "tuple_iterator",data:=.fields #[.ref l,.int 0 0] }).push { cls:=.type "enumerate",data:=.fields #[.none,.bool false,.ref s.heap.objs.size,rawInt 0,.none,.none] } }) :=
 .of_wp λprog w A R s h=>by
  obtain⟨j,g,d,i,os⟩:=s;obtain⟨a,h⟩:=h;have f:=sub_enumerate;have b:A0i (A0v ⟨j,g,d,i,os⟩) l items:=⟨_,a,rfl,n,rfl⟩
  wp_walk using Nk a
  refine wpAny_stack_any λst=>Al ?_;split
  ·rename_i c _ _ _ _ _;cases(c==Tp "enumerate")
   ·wp_walk using Nk a,Rk b
    exact⟨_,rfl,h⟩
   ·wp_walk using Nk a,Rk b
    exact⟨_,rfl,h⟩
  ·wp_walk using Nk a,Rk b
   exact⟨_,rfl,h⟩
theorem Qo5{l:Addr}(f:s.heap.IsTuple l items)
  (h:∀h',IsEnum h' (s.heap.objs.size+1) s.heap.objs.size 0 .none->h'.IsTupleIter s.heap.objs.size l 0->h'.objs.size=s.heap.objs.size+2->(∀b o,s.heap.get? b=some o->h'.get? b=some o)->Q (.ref (s.heap.objs.size+1)) { s with heap:=h' }) :
  wpAny (model prog w) A (call (.type "enumerate") [.ref l]) Q E s:=by
 obtain ⟨⟨c,a,g,sl⟩,e,i,n,hd⟩:=f;obtain rfl:c=.type "tuple":=i;obtain rfl:g=.seq items n:=hd;refine callType_new F.called_enumerate (by decide) (F.typeCall_enumerate_1 _) (F.newCall_enumerate_1 _) (λobj=>Pp obj _) F.entry_enumerate_new (Qq7 l items n a sl) ⟨e,?_⟩;have hz:(s.heap.push { cls:=.type "tuple_iterator",data:=.fields #[.ref l,.int 0 0] }).objs.size=s.heap.objs.size+1:=Ry ..;show _/\_;rw[hz];have d:IsEnum ((s.heap.push { cls:=.type "tuple_iterator",data:=.fields #[.ref l,.int 0 0] }).push
   { cls:=.type "enumerate",data:=.fields #[.none,.bool false,.ref s.heap.objs.size,rawInt 0,.none,.none] }) (s.heap.objs.size+1) s.heap.objs.size 0 .none:=by
  have q:=Be (s.heap.push { cls:=.type "tuple_iterator",data:=.fields #[.ref l,.int 0 0] }) (o:={ cls:=.type "enumerate",data:=.fields #[.none,.bool false,.ref s.heap.objs.size,rawInt 0,.none,.none] }) rfl;rw[hz]at q;exact q
 exact⟨⟨_,d,rfl⟩,h _ d ⟨_,Ao _ (Be _ rfl),rfl,rfl⟩ (by rw[Ry,hz]) λb o x=>Ao _ (Ao _ x)⟩
noncomputable def Ite(K:Frag)(a:Addr):It :=
 ⟨λi H=>∃xs x,SqT K H a xs/\xs[i]? = some x,λi H v H'=>∀xs,SqT K H a xs->∃x p,xs[i]? = some x/\v=.ref p/\H p=none/\H'=upd H p (.tup [.int i,x]),λi H=>∃xs,SqT K H a xs/\xs.length<=i⟩
theorem Qlt{K:Frag}(a e it:Addr)(r:e≠it):Turn P w K (.Tuple es kt pt) (Ite K a) [e,it] e (λi h=>(∃f,IsEnum h e it i f)/\h.IsTupleIter it a i) where
 mem:=by simp
 obj:=λi h st b j=>by
  obtain⟨⟨f,h1⟩,o,h2,c,d⟩:=st;rcases Ay.mp j with z|z
  ·subst z;exact⟨_,h1,λv z=>by have B:T9 _=Sd v:=z;cases B⟩
  ·have B:b=it:=by simpa using z
   subst B;exact⟨o,h2,λv z=>by rw[d]at z;cases z⟩
 keep:=λi h h' st k=>⟨let ⟨f,h1⟩:=st.1;⟨f,k e (by simp) _ h1⟩,st.2.at λo q=>k it (by simp) o q⟩
 item:=by
  intro X W hw V C i pins s σ H E I D st hg;subst W hw V;obtain⟨⟨f,t⟩,g⟩:=st;obtain⟨xs,x,G,J⟩:=hg;obtain⟨its,L,p,hz⟩:=I.tuple G;have l:=L.length;have hi:i<its.toArray.size:=by rw[Br,← l];exact(Au.mp J).1
  have ae:a≠it:=λz=>by
   obtain⟨o,h1,h2,_⟩:=p;obtain⟨o',ab,n,_⟩:=g;rw[z,ab]at h1;cases h1;rw[n]at h2;exact absurd h2 (by decide)
  have Q:e∉[it,a]:=λz=>by
   rcases Ay.mp z with q|q
   ·exact r q
   ·have q':e=a:=by simpa using q
    obtain⟨o,h1,h2,_⟩:=p;rw[← q',t]at h1;cases h1;exact absurd h2 (by show ¬(Tp "enumerate" = Tp "tuple");decide)
  refine wpAny_pyNext_enum_itemD (Qra (A:=X.A.in1) (I.ok.hd C) it a ae its.toArray) t ⟨g,show s.heap.IsTuple a its.toArray from p⟩ hi r Q λu h' Y hu ho y M hsz hk=>?_;refine⟨_,rfl,Li ho λh2 aa m=>?_⟩;obtain⟨Z,N,ru⟩:=L.get J;have S:Z=u:=by
   have z:its.toArray[i]? = some u:=hu;have z2:its[i]? = some u:=by simpa using z
   rw[N]at z2;exact B3 z2
  subst S;have U:s.heap.objs.size≠e:=D4 (Bj t);have ac:h2.get? s.heap.objs.size=some { cls:=.type "tuple",data:=.seq #[.int i Y,Z] }:=(m.2 _ U).trans M;have hn:H s.heap.objs.size=none:=I.hok.fresh (At _);refine⟨.ref s.heap.objs.size,upd H s.heap.objs.size (.tup [.int i,x]),I.turnNew (ch:=[e,it]) (t':=Y+1) (At _) (λb o j q=>?_) D ?_,rfl,λys hy=>?_,⟨⟨_,aa⟩,y.1.at λo q=>?_⟩,λb j=>?_⟩
  ·have h1:b≠e:=λz=>j (by simp[z]);have n:b≠it:=λz=>j (by simp[z]);exact(m.2 b h1).trans (hk b o h1 n q)
  ·exact⟨by show 2<=sizeLine;decide,[.int i Y,Z],.cons ⟨_,rfl⟩ (.cons ru .nil),⟨_,ac,rfl,_,rfl⟩⟩
  ·rw[I.tuple_inj hy G];exact⟨x,_,J,rfl,hn,rfl⟩
  ·exact(m.2 it (Ra r)).trans q
  ·obtain ⟨o,q,_⟩:∃o,s.heap.get? b=some o/\True:=by
    rcases Ay.mp j with z|z
    ·exact⟨_,z ▸ t,trivial⟩
    ·have B:b=it:=by simpa using z
     obtain⟨o,q,_⟩:=g;exact⟨o,B ▸ q,trivial⟩
   rw[Qm (By (Bj q))];exact(D b j).1
 done:=by
  intro X W hw V C i pins s σ H E I D st hg;subst W hw V;obtain⟨⟨f,t⟩,g⟩:=st;obtain⟨xs,G,J⟩:=hg;obtain⟨its,L,p,hz⟩:=I.tuple G;have l:=L.length;have M:s.TypeIs (.ref e) "enumerate":=⟨_,t,rfl⟩
  unfold pyNext;refine Ak (Nr (De (name:=Fa "__next__") M O8 (B4 O8 M F.entry_enumerate_next ?_ (F.args_enumerate_next_1 _))));show wpAny _ _ (field (.ref e) 2 >>= _) _ _ _;refine Ak (Dk t rfl (x:=.ref it) rfl ?_);refine Ak (Qsb (I.ok.hd C) g (show s.heap.IsTuple a its.toArray from p) (by simp;lia) λh' x O R=>?_);obtain⟨o,ho,C⟩:=R;refine Ak (Ml (T:="StopIteration") (b:=true) ⟨o,ho,C⟩ Tr ?_);exact Al ⟨rfl,I.turnAll (ch:=[e,it]) (t':=s.toks) (λb u j q=>O b u (λz=>j (by simp[z])) q) D⟩
 self:=λ_ _ _ _ _ st h=>by
  obtain⟨⟨f,q⟩,_⟩:=st;exact T3 q h
def Q19(K:Frag)(ta:TA):TI:=λσ H R=>ta σ H λvs H1=>∃a,vs=[.ref a]/\(∃xs,SqT K H1 a xs)/\R (Ite K a) H1
theorem Qu5{a:Expr}(hg:Gl X "enumerate")(hm:X.mg "enumerate" = none)(j:PA X [a] ta)(n:starEach [a] X.env=[(false,eval a X.env)]:=by rfl) :
  PI X (.Tuple es kt pt) (.Call (.Name "enumerate" p) [a] [] pos) (Q19 X.K ta):=by
 intro pins s σ H R I h;refine Call_ (Gh I hg hm boot_enumerate (Fq (thn (j pos pins s σ H _ I h) λus c ⟨vs,H1,f,r,t⟩=>?_) n rfl));obtain⟨x,e,⟨xs,m⟩,q⟩:=t;subst e;obtain⟨u,rfl,v⟩:=Ga r;cases v;obtain⟨its,w,pl,hz⟩:=f.tuple m;refine Qo5 (show c.heap.IsTuple x its.toArray from pl) λh' i g hz kp=>?_;have k:Inv X pins σ H1 { c with heap:=h' }:=f.kept (t':=c.toks) kp;refine T3 i ⟨c.heap.objs.size+1,[c.heap.objs.size+1,c.heap.objs.size],_,_,H1,rfl,k,Qlt x _ _ (D4 (Nat.lt_succ_self _)),⟨⟨_,i⟩,g⟩,λb l=>?_,q⟩;have d:c.heap.objs.size<=b:=by
  rcases Ay.mp l with z|z
  ·rw[z];exact Ky _
  ·have o:b=c.heap.objs.size:=by simpa using z
   rw[o];exact At _
 exact f.fpOk d (f.hok.fresh d)
theorem U1{g h:Type}{F:g->h->Prop}:∀{d:List g}{c:List h}{i:Nat}{a:g}{b:h},Paired F d c->d[i]? = some a->c[i]? = some b->F a b
 |_,_,_,_,_,.nil,e,_=>by simp at e
 |_,_,0,_,_,.cons r _,e,f=>by simp at e f;subst e;subst f;exact r
 |_,_,i+1,_,_,.cons _ t,e,f=>U1 (i:=i) t (by simpa using e) (by simpa using f)
theorem Qly(h:n<=1000):n<=2 ^ 24:=Dg h (by decide)
theorem Qmr{a:Expr}(hg:Gl X "range")(hm:X.mg "range" = none)(d:PA X [a] ta)(g:starEach [a] X.env=[(false,eval a X.env)]:=by rfl) :
  PE X (.Call (.Name "range" p) [a] [] pos) (λσ H Q=>ta σ H λvs H1=>∃j:Int,vs=[.int j]/\∀r,H1 r=none->Q (.ref r) (upd H1 r (.rng 0 j))):=by
 intro pins s σ H Q I h;refine Call_ (Gh I hg hm boot_range (Fq (thn (d pos pins s σ H _ I h) λus f ⟨vs,H1,c,i,k⟩=>?_) g rfl));obtain⟨j,e,q⟩:=k;subst e;obtain⟨u,rfl,l⟩:=Ga i;obtain⟨t,rfl⟩:=l;refine call_range_1 ?_;refine⟨.ref f.heap.objs.size,_,c.laid (o:=.rng 0 j) (λb u e=>Ao _ e) (At _) ?_,rfl,q _ (c.hok.fresh (At _))⟩;exact⟨_,_,_,Be _ rfl⟩
theorem Qfi(D:X.calm=true):Zk X (.type "list") (λxs H Q=>∃r j,xs=[.ref r]/\H r=some (.rng 0 j)/\0<=j/\j<=1000/\∀l,H l=none->Q (.ref l) (upd H l (.lst ((Aq j.toNat).map λi=>.int (i:Nat))))):=by
 intro pins s σ H xs us Q I r h;obtain⟨a,j,rfl,p,h0,h1,q⟩:=h;obtain⟨u,rfl,B⟩:=Ga r;cases B;obtain⟨t,u,v,e⟩:=I.hok a _ p;refine call_list_range (n:=j.toNat) (I.ok.hd D) (show IsRange s.heap a 0 j 1 t u v from e) (small_one (by lia) (by lia) (by lia) (by lia)) (by rw[P9];split<;>lia) (Qly (by lia)) λh' x g C kp b f=>?_;obtain⟨hsz,k⟩:=f;have w:Vals ((Aq j.toNat).map λi=>V.int (i:Nat)) g.toList:=by
  have gen:∀(n:Nat)(l:List Value),l.length=n->(∀(j:Nat) v,l[j]? = some v->∃t,v=.int (0+(j:Int)*1) t)->Vals ((Aq n).map λi=>V.int (i:Nat)) l:=by
   intro n
   induction n with
   |zero=>intro l b _;cases l with|nil=>exact .nil|cons=>simp at b
   | succ n y=>
    intro l b m;have c:l≠[]:=by intro z;rw[z]at b;simp at b
    have A:l=l.dropLast++[l.getLast c]:=(Kv c).symm;rw[M0,B7,A];refine Vals.append (y _ (by rw[Pq,b];rfl) λj v e=>m j v ?_) (.cons ?_ .nil)
    ·rw[O2]at e
     split at e
     ·exact e
     ·cases e
    ·obtain⟨t,e⟩:=m n (l.getLast c) (by rw[Og,Bu (by lia)];congr 1;simp[b]);exact⟨t,by rw[e];congr 1;lia⟩
  refine gen _ _ (by rw[Mw];exact hsz) λj v e=>k j v (by simpa using e)
 have d:((Aq j.toNat).map λi=>V.int (i:Nat)).length<=sizeLine:=by rw[Ap,Bz];have:=(by decide:1000<sizeLine);lia
 refine⟨.ref s.heap.objs.size,_,I.laid (o:=.lst ((Aq j.toNat).map λi=>V.int (i:Nat))) (t':=x) kp (At _) ?_,rfl,q _ (I.hok.fresh (At _))⟩;exact⟨d,g.toList,C,w,by rw[Kd];exact b⟩
end L2
variable {d:Nat}
namespace L2
open PySem PySem.Spec PyProof.Rows
open PySem.W (Dat kqdP kqdPs kqdOk)
mutual
inductive DV(H:Hp):V->Dat->Prop
 |non:DV H .non .none
 |int (i:Int):DV H (.int i) (.int i)
 |str (x:Str):DV H (.str x) (.str x)
 |tup {a:Addr} {xs:List V} {ds:List Dat} (e:H a=some (.tup xs)) (r:DVs H xs ds):DV H (.ref a) (.tuple ds)
 |lst {a:Addr} {xs:List V} {ds:List Dat} (e:H a=some (.lst xs)) (r:DVs H xs ds):DV H (.ref a) (.list ds)
inductive DVs(H:Hp):List V->List Dat->Prop
 |nil:DVs H [] []
 |cons {x:V} {d:Dat} {xs:List V} {ds:List Dat} (h:DV H x d) (r:DVs H xs ds):DVs H (x::xs) (d::ds)
end
mutual
theorem DV.reads{P:Program}{w:World}{H:Hp}{h:Heap}(ok:HOk P w H h):∀{x:V}{d:Dat}{u:Value},DV H x d->RelV x u->∃b,Reads h u (kqdP d) b
 |_,_,_,.non,r=>by cases r;exact⟨_,by rw[kqdP];exact Reads.none⟩
 |_,_,_,.int i,r=>by obtain⟨t,rfl⟩:=r;exact⟨_,by rw[kqdP];exact Reads.int i t⟩
 |_,_,_,.str x,r=>by obtain⟨t,rfl⟩:=r;exact⟨_,by rw[kqdP];exact Reads.str x t⟩
 | _,_,_,.tup (a:=a) e q,r=>by
  cases r;obtain⟨_,its,c,o,h1,h2,n,f⟩:=ok a _ e;obtain⟨b,z⟩:=DVs.reads ok q c;rw[kqdP];exact⟨b,reads_tuple_at h1 h2 f (by simpa using z)⟩
 | _,_,_,.lst (a:=a) e q,r=>by
  cases r;obtain⟨_,its,n,c,h1⟩:=ok a _ e;obtain⟨b,z⟩:=DVs.reads ok q c;rw[kqdP];exact⟨_,reads_list_at h1 rfl rfl (by simpa using z)⟩
theorem DVs.reads{P:Program}{w:World}{H:Hp}{h:Heap}(ok:HOk P w H h):∀{xs:List V}{ds:List Dat}{us:List Value},DVs H xs ds->Vals xs us->∃b,ReadsAll h us (kqdPs ds) b
 |_,_,_,.nil,r=>by cases r;exact⟨_,by rw[kqdPs];exact ReadsAll.nil⟩
 | _,_,_,.cons p q,r=>by
  cases r with
  | cons j g=>
   obtain⟨b,z⟩:=DV.reads ok p j;obtain⟨bs,y⟩:=DVs.reads ok q g;rw[kqdPs];exact⟨_,ReadsAll.cons z y⟩
end
theorem Zp{d:Dat}(h:kqdOk n d=true)(a:n<=9):SeqAt.shaped (kqdP d)=true:=by
 have l:=PySem.W.kqd_lay n d h;unfold SeqAt.shaped;rw[l.1,S5];exact decide_eq_true (Dg l.2 (Dg a (by decide)))
open Classical in
theorem Qic{d e:Dat}(h:kqdOk n d=true)(h':kqdOk k e=true):PyData.eqv (kqdP d) (kqdP e)=decide (d=e):=by
 have q:=PySem.W.kqd_eqv n d e k h h';by_cases a:d=e
 ·rw[decide_eq_true a];exact q.mpr a
 ·rw[decide_eq_false a];exact Lo.mpr λx=>a (q.mp x)
def rDat(neg:Bool):R2:=λx y H Q=>∃d e n,DV H x d/\DV H y e/\kqdOk n d=true/\kqdOk n e=true/\n<=9/\((d=e->Q (.bl (!neg)) H)/\(d≠e->Q (.bl neg) H))
theorem Qyo(k:X.A.units+64<cLine):OpR X (compareOp .Eq) (rDat false):=by
 classical
 intro pins s σ H x y v u Q I g i h;obtain⟨d,e,n,dx,f,hd,b,c,l,o⟩:=h;obtain⟨p,m⟩:=dx.reads I.hok g;obtain⟨bs,j⟩:=f.reads I.hok i;refine eq_dataH m j (Zp hd c) (Zp b c) k ?_;rw[Qic hd b];by_cases a:d=e
 ·rw[decide_eq_true a];exact⟨.bl true,H,I,rfl,l a⟩
 ·rw[decide_eq_false a];exact⟨.bl false,H,I,rfl,o a⟩
theorem Qyk(k:X.A.units+64<cLine):OpR X (compareOp .NotEq) (rDat true):=by
 classical
 intro pins s σ H x y v u Q I g i h;obtain⟨d,e,n,dx,f,hd,b,c,l,o⟩:=h;obtain⟨p,m⟩:=dx.reads I.hok g;obtain⟨bs,j⟩:=f.reads I.hok i;refine ne_dataH m j (Zp hd c) (Zp b c) k ?_;rw[Qic hd b];by_cases a:d=e
 ·rw[decide_eq_true a];exact⟨.bl false,H,I,rfl,l a⟩
 ·rw[decide_eq_false a];exact⟨.bl true,H,I,rfl,o a⟩
theorem Qif:Zk X (.builtin "isinstance") (λxs H Q=>∃x T t b,xs=[x,.ty T]/\TyOf X.K H x (.type t)/\kitOne X.K (.type t) (.type T)=some b/\Q (.bl b) H):=by
 intro pins s σ H xs us Q I r h;obtain⟨x,T,t,b,rfl,ty,e,q⟩:=h;obtain⟨u,c,rfl,a,rc⟩:=Qkm r;cases(show c=Tp T from rc);exact Qno I a ty e λd=>⟨.bl b,H,I.tok _,rfl,q⟩
end L2
variable {p:Array Nat}{q nrem:Nat}
namespace SortT
open PySem PySem.W PyProof.Rows
def runT{b:Type}(f:Nat->Nat->Bool):KasT b->b
 | .ret a=>a
 | .ask i j k=>runT f (k (f i j))
theorem Uz{b c:Type}(f:Nat->Nat->Bool)(g:b->KasT c):∀t:KasT b,runT f (t.bind g)=runT f (g (runT f t))
 | .ret a=>rfl
 | .ask i j k=>Uz f g (k (f i j))
structure Ord(f:Nat->Nat->Bool):Prop where
 asym:∀i j,f i j=true->f j i=false
 tr:∀i j k,f j i=false->f k j=false->f k i=false
section
variable {f:Nat->Nat->Bool}(O:Ord f)
def Le(f:Nat->Nat->Bool)(i j:Nat):Prop:=f j i=false
include O in
theorem le_refl(i:Nat):Le f i i:=by
 unfold Le;cases h:f i i with
 |false=>rfl
 |true=>have:=O.asym i i h;rw[h]at this;cases this
theorem Le.trans(O:Ord f)(h:Le f i j)(h':Le f j k):Le f i k:=O.tr i j k h h'
theorem Le.of(O:Ord f)(h:f i j=true):Le f i j:=O.asym i j h
abbrev at_(p:Array Nat)(i:Nat):Nat:=p.getD i 0
def Up(f:Nat->Nat->Bool)(p:Array Nat)(k:Nat):Prop:=∀a b,a<=b->b<k->Le f (at_ p a) (at_ p b)
def Dn(f:Nat->Nat->Bool)(p:Array Nat)(k:Nat):Prop:=∀a b,a<=b->b<k->Le f (at_ p b) (at_ p a)
theorem Qo9{q:Array Nat}(h:p[i]? = q[j]?):at_ p i=at_ q j:=by
 show p.getD i 0=q.getD j 0;rw[Md,Md,h]
theorem Qef(b:j<=p.size)(k:Nat):at_ (M3 p i j) k=if i<=k/\k<j then at_ p (i+j-1-k)else at_ p k:=by
 have h:=getElem?_mirror_all (xs:=p) (i:=i) b k;by_cases a:i<=k/\k<j
 ·rw[if_pos a]at h ⊢;exact Qo9 h
 ·rw[if_neg a]at h ⊢;exact Qo9 h
theorem Qtk{a:Nat}(b:a<p.size)(hd:d<=a)(k:Nat):at_ (bubble p a d) k=if k=a-d then at_ p a else if a-d<k/\k<=a then at_ p (k-1)else at_ p k:=by
 have h:=getElem?_bubble b d hd k;by_cases h1:k=a-d
 ·rw[if_pos h1]at h ⊢;exact Qo9 h
 ·rw[if_neg h1]at h ⊢;by_cases h2:a-d<k/\k<=a
  ·rw[if_pos h2]at h ⊢;exact Qo9 h
  ·rw[if_neg h2]at h ⊢;exact Qo9 h
theorem Zj(p:Array Nat)(i j:Nat):(M3 p i j).Perm p:=mirror_perm _ _ _ _
theorem Qeq(p:Array Nat)(i j:Nat):(M3 p i j).size=p.size:=mirror_size _ _ _ _
theorem Qtl(O:Ord f)(p:Array Nat):∀(c n:Nat),1<=n->Up f p n->n<=runT f (Rc p c n)/\runT f (Rc p c n)<=n+c/\Up f p (runT f (Rc p c n)) /\
  (runT f (Rc p c n)=n+c\/f (at_ p (runT f (Rc p c n))) (at_ p (runT f (Rc p c n)-1))=true):=by
 intro c
 induction c with
 |zero=>intro n h1 d;exact⟨At _,At _,d,.inl rfl⟩
 | succ c m=>
  intro n h1 d;show n<=runT f (if f (at_ p n) (at_ p (n-1))=true then Rs n else Rc p c (n+1))/\runT f (if f (at_ p n) (at_ p (n-1))=true then Rs n else Rc p c (n+1))<=n+(c+1)/\Up f p (runT f (if f (at_ p n) (at_ p (n-1))=true then Rs n else Rc p c (n+1))) /\
   (runT f (if f (at_ p n) (at_ p (n-1))=true then Rs n else Rc p c (n+1))=n+(c+1)\/f (at_ p (runT f (if f (at_ p n) (at_ p (n-1))=true then Rs n else Rc p c (n+1)))) (at_ p (runT f (if f (at_ p n) (at_ p (n-1))=true then Rs n else Rc p c (n+1))-1))=true)
  by_cases e:f (at_ p n) (at_ p (n-1))=true
  ·rw[if_pos e];exact⟨At _,Sz _ _,d,.inr e⟩
  ·rw [if_neg e];have k:f (at_ p n) (at_ p (n-1))=false:=by simpa using e
   have g:Up f p (n+1):=λa b i r=>by
    by_cases j:b<n
    ·exact d a b i j
    ·have q:b=n:=by lia
     subst q;by_cases h:a=b
     ·subst h;exact le_refl O _
     ·exact(d a (b-1) (by lia) (by lia)).trans O k
   obtain⟨t,s,l,o⟩:=m (n+1) (by lia) g;exact⟨by lia,by lia,l,by rcases o with z|z;exact .inl (by lia);exact .inr z⟩
def Blk(f:Nat->Nat->Bool)(p:Array Nat)(n q:Nat):Prop:=∀a,n-(q+1)<=a->a<n->Le f (at_ p a) (at_ p (n-1))
theorem Ql7(O:Ord f)(hz:n<=p.size)(g:q+1<=n)(hd:Dn f p n)(e:Blk f p n q):Dn f (M3 p (n-(q+1)) n) n:=by
 intro a b d c;rw[Qef hz,Qef hz];by_cases h1:n-(q+1)<=b/\b<n
 ·rw[if_pos h1];by_cases h2:n-(q+1)<=a/\a<n
  ·rw[if_pos h2];exact(e _ (by lia) (by lia)).trans O (hd _ _ (by lia) (by lia))
  ·rw[if_neg h2];exact hd _ _ (by lia) (by lia)
 ·rw[if_neg h1,if_neg (by lia)];exact hd _ _ d c
theorem Ql6(hz:n<=p.size)(a:n<=k):at_ (M3 p i n) k=at_ p k:=by rw[Qef hz,if_neg (by lia)]
theorem Qja(O:Ord f)(hz:n<=p.size)(b:q+1<=n)(hd:Dn f p n)(a:Blk f p n q):Le f (at_ p (n-1)) (at_ (M3 p (n-(q+1)) n) (n-1))/\Le f (at_ (M3 p (n-(q+1)) n) (n-1)) (at_ p (n-1)):=by
 rw[Qef hz,if_pos (by lia)];exact⟨hd _ _ (by lia) (by lia),a _ (by lia) (by lia)⟩
theorem Qc1(O:Ord f)(h1:1<=n)(hd:Dn f p n)(h:Le f (at_ p n) (at_ p (n-1))):Dn f p (n+1):=λa b d i=>by
 by_cases c:b<n
 ·exact hd a b d c
 ·have g:b=n:=by lia
  subst g;by_cases e:a=b
  ·subst e;exact le_refl O _
  ·exact h.trans O (hd a (b-1) (by lia) (by lia))
theorem Qwf(O:Ord f):∀(b:Nat)(p:Array Nat)(n q:Nat),q+1<=n->n+b<=p.size->Dn f p n->Blk f p n q ->
  let r:=runT f (Sl b p n q)
  n<=r.2.1/\r.2.1<=n+b/\r.2.2+1<=r.2.1/\r.1.Perm p/\Dn f r.1 r.2.1/\Blk f r.1 r.2.1 r.2.2:=by
 intro b
 induction b with
 |zero=>intro p n q i hz hd e;exact⟨At _,At _,i,.refl _,hd,e⟩
 | succ b t=>
  intro p n q i hz hd e;have A:runT f (Sl (b+1) p n q)=runT f (if f (at_ p n) (at_ p (n-1))=true then (if q > 0 then Sl b (M3 p (n-(q+1)) n) (n+1) 0 else Sl b p (n+1) 0)
   else Pt (at_ p (n-1)) (at_ p n) λd=>if d=true then Rs (p,n,q)else Sl b p (n+1) (q+1)):=rfl
  rw[A];by_cases m:f (at_ p n) (at_ p (n-1))=true
  ·rw [if_pos m];by_cases g:q > 0
   ·rw [if_pos g];have v:=Ql7 O (by lia) i hd e;have z:=Qja O (by lia) i hd e;have o:Dn f (M3 p (n-(q+1)) n) (n+1):=Qc1 O (by lia) v (by rw[Ql6 (by lia) (At _)];exact(Le.of O m).trans O z.1);obtain⟨y,x,h,l,k,j⟩:=t (M3 p (n-(q+1)) n) (n+1) 0 (by lia) (by rw[Qeq];lia) o (λa h1 h2=>by
     have:a=n:=by lia
     subst this;exact le_refl O _)
    exact⟨by lia,by lia,h,l.trans (Zj _ _ _),k,j⟩
   ·rw [if_neg g];obtain⟨y,x,h,l,k,j⟩:=t p (n+1) 0 (by lia) (by lia) (Qc1 O (by lia) hd (Le.of O m)) (λa h1 h2=>by
     have:a=n:=by lia
     subst this;exact le_refl O _)
    exact⟨by lia,by lia,h,l,k,j⟩
  ·rw [if_neg m];have B:runT f (Pt (at_ p (n-1)) (at_ p n) λd=>if d=true then Rs (p,n,q)else Sl b p (n+1) (q+1))=runT f (if f (at_ p (n-1)) (at_ p n)=true then Rs (p,n,q)else Sl b p (n+1) (q+1)):=rfl;rw[B];have w:f (at_ p n) (at_ p (n-1))=false:=by simpa using m
   by_cases c:f (at_ p (n-1)) (at_ p n)=true
   ·rw[if_pos c];exact⟨At _,by show n<=n+(b+1);lia,i,.refl _,hd,e⟩
   ·rw [if_neg c];have u:f (at_ p (n-1)) (at_ p n)=false:=by simpa using c
    obtain ⟨y,x,h,l,k,j⟩:=t p (n+1) (q+1) (by lia) (by lia) (Qc1 O (by lia) hd u) (λa h1 h2=>by
     by_cases s:a=n
     ·subst s;exact le_refl O _
     ·exact(e a (by lia) (by lia)).trans O w)
    exact⟨by lia,by lia,h,l,k,j⟩
theorem Qxa(hz:n<=p.size)(hd:Dn f p n):Up f (M3 p 0 n) n:=λa b c d=>by
 rw[Qef hz,Qef hz,if_pos (by lia),if_pos (by lia)];exact hd _ _ (by lia) (by lia)
theorem Qi1(O:Ord f)(h1:1<=n)(c:n<=nrem)(hz:nrem<=p.size)(hd:Dn f p n) :
  let r:=runT f (Oq n nrem p)
  n<=r.1/\r.1<=nrem/\r.2.Perm p/\Up f r.2 r.1:=by
 have e:runT f (Oq n nrem p)=(runT f (Rc (M3 p 0 n) (nrem-n) n),M3 p 0 n):=by unfold Oq;rw[Uz];rfl
 rw[e];obtain⟨b,d,a,_⟩:=Qtl O (M3 p 0 n) (nrem-n) n h1 (Qxa (by lia) hd);exact⟨b,by show runT f (Rc (M3 p 0 n) (nrem-n) n)<=nrem;lia,Zj _ _ _,a⟩
theorem Qc2(O:Ord f)(h1:1<=n)(t:n+1<=nrem)(hz:nrem<=p.size)(hd:Dn f p (n+1)) :
  let r:=runT f (Tk n nrem p)
  1<=r.1/\r.1<=nrem/\r.2.Perm p/\Up f r.2 r.1:=by
 unfold Tk;rw[Uz];obtain⟨o,l,e,b,c,h⟩:=Qwf O (nrem-(n+1)) p (n+1) 0 (by lia) (by lia) hd (λa h1 h2=>by
  have:a=n:=by lia
  subst this;exact le_refl O _)
 generalize runT f (Sl (nrem-(n+1)) p (n+1) 0)=r at o l e b c h;obtain⟨i,m,q⟩:=r;dsimp only at o l e b c h ⊢;have hsz:i.size=p.size:=b.size_eq;by_cases k:q > 0
 ·rw[if_pos k];obtain⟨s,g,j,d⟩:=Qi1 O (p:=M3 i (m-(q+1)) m) (n:=m) (nrem:=nrem) (by lia) (by lia) (by rw[Qeq];lia) (Ql7 O (by lia) e c h);exact⟨by lia,g,(j.trans (Zj _ _ _)).trans b,d⟩
 ·rw[if_neg k];obtain⟨s,g,j,d⟩:=Qi1 O (p:=i) (n:=m) (nrem:=nrem) (by lia) (by lia) (by lia) c;exact⟨by lia,g,j.trans b,d⟩
theorem Qrj(O:Ord f)(h1:1<=nrem)(hz:nrem<=p.size) :
  let r:=runT f (Ot nrem p)
  1<=r.1/\r.1<=nrem/\r.2.Perm p/\Up f r.2 r.1:=by
 unfold Ot;rw[Uz];obtain⟨t,C,g,x⟩:=Qtl O p (nrem-1) 1 (At _) (λa b i w=>by
  have k:a=0:=by lia
  have m:b=0:=by lia
  rw[k,m];exact le_refl O _)
 generalize runT f (Rc p (nrem-1) 1)=n at t C g x;by_cases s:(n==nrem)=true
 ·rw[if_pos s];exact⟨t,by show n<=nrem;lia,.refl _,g⟩
 ·rw [if_neg s];have F:n≠nrem:=λq=>s (by rw[q];exact beq_self_eq_true _);have h:f (at_ p n) (at_ p (n-1))=true:=by rcases x with z|z;lia;exact z
  by_cases v:n > 1
  ·rw [if_pos v];rw[show runT f (Pt (p.getD 0 0) (p.getD (n-1) 0) λc=>if c=true then Rs (n,p)else Tk n nrem (M3 p 0 n))=runT f (if f (at_ p 0) (at_ p (n-1))=true then Rs (n,p)else Tk n nrem (M3 p 0 n))from rfl];by_cases o:f (at_ p 0) (at_ p (n-1))=true
   ·rw[if_pos o];exact⟨t,by show n<=nrem;lia,.refl _,g⟩
   ·rw[if_neg o];have j:Le f (at_ p (n-1)) (at_ p 0):=by unfold Le;exact Lo.mpr o
    have e:Dn f p n:=λa b i w=>((g b (n-1) (by lia) (by lia)).trans O j).trans O (g 0 a (by lia) (by lia));have d:Blk f p n (n-1):=λa _ h2=>g a (n-1) (by lia) (by lia);have l:Dn f (M3 p 0 n) n:=by have:=Ql7 O (q:=n-1) (by lia) (by lia) e d;rwa [show n-(n-1+1)=0 by lia]at this
    have u:=Qja O (q:=n-1) (p:=p) (n:=n) (by lia) (by lia) e d;rw[show n-(n-1+1)=0 by lia]at u;obtain⟨B,A,D,y⟩:=Qc2 O (p:=M3 p 0 n) (n:=n) (nrem:=nrem) (by lia) (by lia) (by rw[Qeq];lia) (Qc1 O (by lia) l (by rw[Ql6 (by lia) (At _)];exact(Le.of O h).trans O u.1));exact⟨B,A,D.trans (Zj _ _ _),y⟩
  ·rw [if_neg v];have E:n=1:=by lia
   subst E;exact Qc2 O (by lia) (by lia) hz (Qc1 O (by lia) (λa b i w=>by
    have k:a=0:=by lia
    have m:b=0:=by lia
    rw[k,m];exact le_refl O _) (Le.of O h))
theorem Qp6(O:Ord f)(n:Up f p k):∀(b l r:Nat),l<=r->r<=k->r-l<=b->(∀a,a<l->Le f (at_ p a) (at_ p k))->(∀a,r<=a->a<k->Le f (at_ p k) (at_ p a)) ->
  let m:=runT f (M7 p k b l r)
  m<=k/\(∀a,a<m->Le f (at_ p a) (at_ p k))/\∀a,m<=a->a<k->Le f (at_ p k) (at_ p a):=by
 intro b
 induction b with
 |zero=>intro l r h1 h2 q h4 g;exact⟨by show l<=k;lia,h4,λa j=>g a (by have:l<=a:=j;lia)⟩
 | succ b o=>
  intro l r h1 h2 q h4 g;by_cases d:l≥r
  ·have e:runT f (M7 p k (b+1) l r)=l:=by unfold M7;rw[if_pos d];rfl
   rw[e];exact⟨by lia,h4,λa j=>g a (by lia)⟩
  ·have e:runT f (M7 p k (b+1) l r)=runT f (if f (at_ p k) (at_ p ((l+r)/2))=true then M7 p k b l ((l+r)/2)else M7 p k b ((l+r)/2+1) r):=by
    rw[show M7 p k (b+1) l r=if l≥r then Rs l else Pt (p.getD k 0) (p.getD ((l+r)/2) 0) λc=>if c=true then M7 p k b l ((l+r)/2)else M7 p k b ((l+r)/2+1) r from rfl,if_neg d];rfl
   rw[e];by_cases h:f (at_ p k) (at_ p ((l+r)/2))=true
   ·rw[if_pos h];exact o l ((l+r)/2) (by lia) (by lia) (by lia) h4 λa h6 s=>(Le.of O h).trans O (n _ _ h6 s)
   ·rw[if_neg h];have i:Le f (at_ p ((l+r)/2)) (at_ p k):=by unfold Le;exact Lo.mpr h
    exact o ((l+r)/2+1) r (by lia) h2 (by lia) (λa h6=>(n a ((l+r)/2) (by lia) (by lia)).trans O i) g
theorem Q0h(O:Ord f):∀(c:Nat)(p:Array Nat)(k:Nat),k+c<=p.size->Up f p k ->
  (runT f (O9 c p k)).Perm p/\Up f (runT f (O9 c p k)) (k+c):=by
 intro c
 induction c with
 |zero=>intro p k _ g;exact⟨.refl _,g⟩
 | succ c w=>
  intro p k hz g;have e:runT f (O9 (c+1) p k)=runT f (O9 c (bubble p k (k-runT f (M7 p k k 0 k))) (k+1)):=by
   show runT f ((M7 p k k 0 k).bind λl=>O9 c (bubble p k (k-l)) (k+1))=_;rw[Uz]
  rw[e];obtain⟨u,s,t⟩:=Qp6 O g k 0 k (Dq _) (At _) (by lia) (λa h=>absurd h (Nat.not_lt_zero _)) (λa h h'=>absurd h' (Nat.not_lt.mpr h));generalize runT f (M7 p k k 0 k)=m at u s t;have i:k<p.size:=by lia
  have o:Up f (bubble p k (k-m)) (k+1):=λa b q z=>by
   rw[Qtk i (by lia),Qtk i (by lia)];have x:k-(k-m)=m:=by lia
   rw[x];by_cases r:a=m
   ·rw[if_pos r];by_cases d:b=m
    ·rw[if_pos d];exact le_refl O _
    ·rw[if_neg d,if_pos (by lia)];exact t _ (by lia) (by lia)
   ·rw [if_neg r];by_cases n:m<a/\a<=k
    ·rw[if_pos n,if_neg (by lia),if_pos (by lia)];exact g _ _ (by lia) (by lia)
    ·rw [if_neg n];by_cases d:b=m
     ·rw[if_pos d];exact s _ (by lia)
     ·rw[if_neg d];by_cases j:m<b/\b<=k
      ·rw[if_pos j];exact g _ _ (by lia) (by lia)
      ·rw[if_neg j];exact g _ _ q (by lia)
  obtain⟨y,v⟩:=w (bubble p k (k-m)) (k+1) (by rw[bubble_size];lia) o;exact⟨y.trans (bubble_perm _ _ _),by rw[show k+(c+1)=k+1+c by lia];exact v⟩
theorem Qlw(O:Ord f)(h1:1<=n):(runT f (Pu n)).toList.Perm (Aq n)/\Up f (runT f (Pu n)) n:=by
 unfold Pu;rw[Uz];have hsz:(Ke (Aq n)).size=n:=by simp
 obtain ⟨g,e,b,a⟩:=Qrj O (p:=Ke (Aq n)) h1 (by lia);generalize runT f (Ot n (Ke (Aq n)))=r at g e b a;obtain⟨m,p⟩:=r;dsimp only at g e b a ⊢;have i:p.size=n:=b.size_eq.trans hsz;have pl:∀{q:Array Nat},q.Perm p->q.toList.Perm (Aq n):=λh=>by
  have:=Lj.mp (h.trans b);simpa using this
 by_cases hm:m<n
 ·rw[if_pos hm];obtain⟨j,d⟩:=Q0h O (n-max m 1) p (max m 1) (by lia) (by rw[show max m 1=m by lia];exact a);exact⟨pl j,by rw[show max m 1+(n-max m 1)=n by lia]at d;exact d⟩
 ·rw[if_neg hm];have c:m=n:=by lia
  exact⟨pl (.refl _),by rw[c]at a;exact a⟩
end
def AllT{c:Type}(P:Nat->Nat->Prop)(R:c->Prop):KasT c->Prop
 | .ret a=>R a
 | .ask i j k=>P i j/\∀b,AllT P R (k b)
theorem AllT.bind{c d:Type}{P:Nat->Nat->Prop}{R:c->Prop}{S:d->Prop}{g:c->KasT d}:∀{t:KasT c},AllT P R t->(∀a,R a->AllT P S (g a))->AllT P S (t.bind g)
 | .ret a,h,hg=>hg a h
 | .ask i j k,h,hg=>⟨h.1,λb=>AllT.bind (h.2 b) hg⟩
theorem Qhj{c:Type}{f:Nat->Nat->Bool}{b:Nat->Nat->(Bool->Shared->Prop)->Shared->Prop}{s:Shared}{P:Nat->Nat->Prop}{R:c->Prop}(e:∀i j C,P i j->C (f i j) s->b i j C s){Q:c->Shared->Prop} :
  ∀t:KasT c,AllT P R t->Q (runT f t) s->t.kasWp b Q s
 | .ret a,_,h=>h
 | .ask i j k,d,h=>e i j _ d.1 (Qhj e (k (f i j)) (d.2 _) h)
section
variable {N:Nat}
def Bd(N:Nat)(p:Array Nat):Prop:=0<N/\∀x∈p.toList,x<N
theorem Bd.at{p:Array Nat}(h:Bd N p)(i:Nat):p.getD i 0<N:=by
 rw[Md];cases e:p[i]? with
 |none=>exact h.1
 |some x=>exact h.2 x (by rw[← Mc]at e;exact Bk e)
theorem Bd.perm{q:Array Nat}(h:Bd N p)(b:q.Perm p):Bd N q:=⟨h.1,λx a=>h.2 x ((Lj.mp b).mem_iff.mp a)⟩
abbrev LtN(N:Nat):Nat->Nat->Prop:=λi j=>i<N/\j<N
theorem Qpb(h:Bd N p):∀a n,AllT (LtN N) (λ_=>True) (Rc p a n):=by
 intro a
 induction a with
 |zero=>intro n;exact trivial
 | succ a c=>
  intro n;refine⟨⟨h.at _,h.at _⟩,λb=>?_⟩;cases b with
  |true=>exact trivial
  |false=>exact c (n+1)
theorem Qre:∀(a:Nat)(p:Array Nat)(n q:Nat),Bd N p->AllT (LtN N) (λr=>Bd N r.1) (Sl a p n q):=by
 intro a
 induction a with
 |zero=>intro p n q h;exact h
 | succ a c=>
  intro p n q h;refine⟨⟨h.at _,h.at _⟩,λb=>?_⟩;cases b with
  | true=>
   show AllT _ _ (if q > 0 then Sl a (M3 p (n-(q+1)) n) (n+1) 0 else Sl a p (n+1) 0);by_cases e:q > 0
   ·rw[if_pos e];exact c _ _ _ (h.perm (Zj _ _ _))
   ·rw[if_neg e];exact c _ _ _ h
  | false=>
   refine⟨⟨h.at _,h.at _⟩,λd=>?_⟩;cases d with
   |true=>exact h
   |false=>exact c _ _ _ h
theorem Qfx(n nrem:Nat)(h:Bd N p):AllT (LtN N) (λr=>Bd N r.2) (Oq n nrem p):=by
 unfold Oq;exact AllT.bind (Qpb (h.perm (Zj _ _ _)) _ _) λa _=>h.perm (Zj _ _ _)
theorem Qa5(n nrem:Nat)(h:Bd N p):AllT (LtN N) (λr=>Bd N r.2) (Tk n nrem p):=by
 unfold Tk;refine AllT.bind (Qre _ _ _ _ h) λr a=>?_;by_cases b:r.2.2 > 0
 ·rw[if_pos b];exact Qfx _ _ (a.perm (Zj _ _ _))
 ·rw[if_neg b];exact Qfx _ _ a
theorem Qot(nrem:Nat)(h:Bd N p):AllT (LtN N) (λr=>Bd N r.2) (Ot nrem p):=by
 unfold Ot;refine AllT.bind (Qpb h _ _) λn _=>?_;by_cases c:(n==nrem)=true
 ·rw[if_pos c];exact h
 ·rw [if_neg c];by_cases a:n > 1
  ·rw[if_pos a];refine⟨⟨h.at _,h.at _⟩,λb=>?_⟩;cases b with
   |true=>exact h
   |false=>exact Qa5 _ _ (h.perm (Zj _ _ _))
  ·rw[if_neg a];exact Qa5 _ _ h
theorem Qmm(h:Bd N p):∀a l r,AllT (LtN N) (λ_=>True) (M7 p k a l r):=by
 intro a
 induction a with
 |zero=>intro l r;exact trivial
 | succ a e=>
  intro l r;rw[show M7 p k (a+1) l r=if l≥r then Rs l else Pt (p.getD k 0) (p.getD ((l+r)/2) 0) λc=>if c=true then M7 p k a l ((l+r)/2)else M7 p k a ((l+r)/2+1) r from rfl];by_cases d:l≥r
  ·rw[if_pos d];exact trivial
  ·rw[if_neg d];refine⟨⟨h.at _,h.at _⟩,λb=>?_⟩;cases b with
   |true=>exact e _ _
   |false=>exact e _ _
theorem Qwp:∀(a:Nat)(p:Array Nat)(k:Nat),Bd N p->AllT (LtN N) (λ_=>True) (O9 a p k):=by
 intro a
 induction a with
 |zero=>intro p k h;exact trivial
 |succ a b=>intro p k h;exact AllT.bind (Qmm h _ _ _) λl _=>b _ _ (h.perm (bubble_perm _ _ _))
theorem Qi6(h1:1<=n):AllT (LtN n) (λ_=>True) (Pu n):=by
 unfold Pu;refine AllT.bind (Qot n ⟨h1,λx a=>by simpa using a⟩) λr b=>?_;by_cases hm:r.1<n
 ·rw[if_pos hm];exact Qwp _ _ _ b
 ·rw[if_neg hm];exact trivial
end
theorem Qjv:∀a b:List Int,HT.J1 a b=true->HT.J1 b a=false
 | [],[],h=>by cases h
 | [],_::_,_=>rfl
 |_::_,[],h=>by cases h
 | x::xs,y::ys,h=>by
  rw[HT.Vq]at h ⊢;by_cases e:x=y
  ·rw[if_pos e]at h;rw[if_pos e.symm];exact Qjv xs ys h
  ·rw[if_neg e]at h;rw[if_neg (λz=>e z.symm)];have:=of_decide_eq_true h;exact decide_eq_false (by lia)
theorem Qs1:∀a b c:List Int,HT.J1 b a=false->HT.J1 c b=false->HT.J1 c a=false
 | [],b,c,h1,h2=>by
  cases c with
  |nil=>rfl
  |cons z f=>rfl
 | x::xs,b,c,h1,h2=>by
  cases b with
  |nil=>cases h1
  | cons y ys=>
   cases c with
   |nil=>cases h2
   | cons z f=>
    rw[HT.Vq]at h1 h2 ⊢;by_cases e:y=x
    ·rw[if_pos e]at h1;by_cases d:z=y
     ·rw[if_pos d]at h2;rw[if_pos (d.trans e)];exact Qs1 xs ys f h1 h2
     ·rw[if_neg d]at h2;have:=of_decide_eq_false h2;rw[if_neg (by lia)];exact decide_eq_false (by lia)
    ·rw[if_neg e]at h1;have g:=of_decide_eq_false h1;by_cases d:z=y
     ·rw[if_pos d]at h2;rw[if_neg (by lia)];exact decide_eq_false (by lia)
     ·rw[if_neg d]at h2;have h:=of_decide_eq_false h2;rw[if_neg (by lia)];exact decide_eq_false (by lia)
theorem Qvr(key:Nat->List Int):Ord λi j=>HT.J1 (key i) (key j):=⟨λi j h=>Qjv _ _ h,λi j k h1 h2=>Qs1 _ _ _ h1 h2⟩
theorem Qs2{Q:Bool->Shared->Prop}:∀{us vs:List Value}{ns b:List Int}(i:Nat),IntsAre us ns->IntsAre vs b->∀{fin:Bool},fin=decide (ns.length<b.length)->Q (HT.J1 ns b) s->KatLex prog w A true fin Q (us.zip vs) i s
 |_,_,_,_,i,.nil,.nil,fin,a,h=>by rw[a];exact h
 | _,_,_,_,i,.nil,.cons m t r,fin,a,h=>by
  rw[a];exact h
 | _,_,_,_,i,.cons n t r,.nil,fin,a,h=>by
  rw[a];exact h
 | _,_,_,_,i,.cons (ns:=ns) n t r,.cons (ns:=b) m u q,fin,a,h=>by
  refine kat_cons (K3 n t m u prog w _ _ (kat_go (λe=>?_) λe=>?_))
  ·have c:n=m:=by simpa using e
   refine kat_yes (Qs2 (i+1) r q (by rw[a];simp) ?_);rw[HT.Vq,if_pos c]at h;exact h
  ·have c:n≠m:=by simpa using e
   rw[HT.Vq,if_neg c]at h;refine kat_no ?_;cases hi:(true&&i==0) with
   |true=>exact oneLt_int h
   |false=>exact kat_one _ _ (A0e h)
end SortT
namespace L2
open PySem PySem.Spec PyProof.Rows
theorem Ja.there(x:Ja P w H h a o):∃ob,h.get? a=some ob:=by
 cases o with
 |lst xs=>obtain⟨_,_,_,_,e⟩:=x;exact⟨_,e⟩
 |tup xs=>obtain⟨_,_,_,o,e,_⟩:=x;exact⟨_,e⟩
 |dK kvs=>obtain⟨_,_,_,_,o,_,_,e,_⟩:=x;exact⟨_,e⟩
 |dT kvs=>obtain⟨_,_,_,_,o,_,_,e,_⟩:=x;exact⟨_,e⟩
 |set S n=>obtain⟨o,_,_,_,e,_⟩:=x;exact⟨_,e⟩
 |ins C dx fs=>obtain⟨_,_,_,e,_⟩:=x;exact⟨_,e⟩
 |own y=>exact x
 |xd fs=>obtain⟨_,⟨_,_,_,e,_⟩,_⟩:=x;exact⟨_,e⟩
 |rng lo hi=>obtain⟨_,_,_,e⟩:=x;exact⟨_,e⟩
 |frz ob u=>obtain⟨e,_⟩:=x;exact⟨_,e⟩
 |tbl ps=>obtain⟨_,e,_⟩:=x;exact⟨_,e⟩
 |met f y=>exact⟨_,(show h.get? a=some _ from x)⟩
 |ext b=>obtain⟨_,e,_⟩:=x;exact e
theorem Qvk{c:Str->Option Value}(a:h.Ns L m)(b:h.Ns L c):m=c:=by
 obtain⟨o,es,ep,e,d,_,q⟩:=a;obtain⟨o',g,i,f,d',_,j⟩:=b;rw[e]at f;cases f;rw[d]at d';cases d';funext x;rw[← q x,← j x]
theorem Inv.ledgerNew{D:Addr}(I:Inv X pins σ H s)(h:s'.os=s.os)(hg:s'.gens=s.gens)(F:Fr X.base X.env.locals s.heap m)(F':Fr X.base X.env.locals s'.heap m)
  (k:∀p∈Qap X.base s.heap X.env.locals,s'.heap.get? p.1=some p.2) (j:s.heap.get? D=none) (new:Ja X.prog X.w (upd H D o) s'.heap D o):Inv X pins σ (upd H D o) s':=by
 have d:H D=none:=by
  cases e:H D with
  |none=>rfl
  |some u=>obtain⟨ob,q⟩:=(I.hok D u e).there;rw[j]at q;cases q
 have kp:∀b u,b≠X.env.locals->s.heap.get? b=some u->s'.heap.get? b=some u:=λb u a e=>by
  cases q:X.base.get? b with
  |some v=>have:=F.keep b v q;rw[e]at this;cases this;exact F'.keep b _ q
  |none=>exact k (b,u) (Y4 a q e)
 have i:∀b u,s.heap.get? b=some u->b≠D:=λb u e z=>by rw[z,j]at e;cases e
 have hok:HOk X.prog X.w H s'.heap:=λb q e=>(I.hok b q e).stay (λc v f z=>kp c v (λy=>by
  rcases f with rfl|f
  ·rw[y,I.free]at e;cases e
  ·rw[y,I.free]at f;cases f) z) (λ_ z=>z) λ_ _ z=>z
 obtain ⟨h',g',d',t',o'⟩:=s';obtain rfl:o'=s.os:=h;refine I.step (g':=g') (d':=d') (t':=t') (ch:=[]) (λb a=>by simp at a) (λb u a _ _ e _=>kp b u a e) (λb u a _ _ e _=>⟨u.slots,kp b u a e⟩) (λb u _ e n=>by rw[Qm (i b u e)];exact n) (λb u _ e=>?_)
  (λb xs e=>by rw[Qm (Qz e d)];exact e) (λb ob u e=>by rw[Qm (Qz e d)];exact e) (λb ps e=>⟨#[],by rw[Qm (Qz e d),K6];exact e⟩) (λl g=>?_) (hok.add d new) ?_
 ·by_cases a:b=X.env.locals
  ·obtain⟨ob,_,_,q,_⟩:=F'.ns;exact⟨ob,by rw[a];exact q⟩
  ·exact⟨u,kp b u a e⟩
 ·rw[Qvk g F.ns];exact F'.ns
 ·have e:g'=s.gens:=hg;rw[e];exact I.bare
noncomputable def Qxq:List V->Hp->VK->Prop:=λxs H Q=>∃(l:Addr)(b:List Addr)(key:Nat->List Int),xs=[.ref l]/\H l=some (.lst (b.map V.ref))/\b.length<64/\b.length≠1 /\
 (∀(i:Nat) a,b[i]? = some a->key i≠[]/\H a=some (.tup ((key i).map V.int))) /\
 ∀(p:List Nat)(D:Addr),p.Perm (Aq b.length)->(∀(i j x y:Nat),i<=j->p[i]? = some x->p[j]? = some y->HT.J1 (key y) (key x)=false)->H D=none->Q (.ref D) (upd H D (.lst (p.map λi=>.ref (b.getD i 0))))
theorem Qiz{P:Program}{w:World}{H:Hp}{h:Heap}(ok:HOk P w H h):∀(d:List Addr)(key:Nat->List Int),(∀(i:Nat) a,d[i]? = some a->key i≠[]/\H a=some (.tup ((key i).map V.int))) ->
  ∃fs:List Value,KatTups h (d.map Ba) fs/\fs.length=d.length/\∀v∈fs,∃n t,v=N6 n t
 | [],_,_=>⟨[],KatTups.nil,rfl,λ_ h=>nomatch h⟩
 | a::d,key,l=>by
  obtain⟨fs,h1,h2,p⟩:=Qiz ok d (λi=>key (i+1)) λi b e=>l (i+1) b (by simpa using e);obtain⟨g,m⟩:=l 0 a rfl;obtain⟨_,its,j,o,x,q,n,s⟩:=ok a _ m;cases c:key 0 with
  |nil=>exact absurd c g
  | cons k ks=>
   rw[c]at j;cases j with
   | cons r y=>
    rename_i u us;obtain⟨t,rfl⟩:=r;refine⟨N6 k t::fs,KatTups.cons x q s (by simp) h1,by simp[h2],λv f=>?_⟩;rcases Ay.mp f with rfl|f
    ·exact⟨k,t,rfl⟩
    ·exact p v f
theorem Qid:Zk X (.builtin "sorted") Qxq:=by
 intro pins s σ H xs us Q I r h;obtain⟨l,d,key,rfl,hl,Y,ah,U,q⟩:=h;obtain⟨u,rfl,ru⟩:=Ga r;cases ru;obtain⟨z,its,n,rv,e⟩:=I.hok l _ hl;have J:its=d.map Ba:=by
  have gen:∀(d:List Addr)(its:List Value),Vals (d.map V.ref) its->its=d.map Ba:=by
   intro d
   induction d with
   |nil=>intro its r;cases r;rfl
   |cons a d W=>intro its r;cases r with|cons r1 r2=>cases r1;rw[W _ r2];rfl
  exact gen d its rv
 subst J;obtain⟨m,F⟩:=I.fr;have k:s.heap.IsList l (d.map Ba).toArray:=⟨_,e,rfl,n,rfl⟩
 have A:(d.map Ba).length=d.length:=Ap _;by_cases h2:2<=d.length
 ·refine kat_sorted (vs:=d.map Ba) F Qey k (by rw[A];exact h2) (by rw[A];exact Y) λD e1 h' F' N' B=>?_;have ac:∀p∈Qap X.base s.heap X.env.locals,h'.get? p.1=some p.2:=λp hp=>(N' p (Am _ hp)).1;have kp:∀b u,b≠X.env.locals->s.heap.get? b=some u->h'.get? b=some u:=λb u hb e=>by
   cases q:X.base.get? b with
   |some v=>have:=F.keep b v q;rw[e]at this;cases this;exact F'.keep b _ q
   |none=>exact ac (b,u) (Y4 hb q e)
  have hok:HOk X.prog X.w H h':=λb q e=>(I.hok b q e).stay (λc v N z=>kp c v (λy=>by
   rcases N with rfl|N
   ·rw[y,I.free]at e;cases e
   ·rw[y,I.free]at N;cases N) z) (λ_ z=>z) λ_ _ z=>z
  have g:s.heap.get? D=none:=by
   cases q:s.heap.get? D with
   |none=>rfl
   | some o=>
    have L:=N' (D,_) An;have:=B (D,o) (Y4 L.2.1 L.2.2 q);exact absurd this (Mr _)
  obtain⟨fs,k1,k2,k3⟩:=Qiz hok d key U;refine kat_kind (s:={ s with heap:=h' }) (T:=.type "int") k1 (by lia) (λv hv=>by obtain⟨n,t,rfl⟩:=k3 v hv;exact PySem.W.Looks.of_pure rfl) (by decide) ?_;show(Io (d.map Ba).length).kasWp (kas_ask X.prog X.w X.A.in1.in1 (tuples' true) (d.map Ba)) _ { s with heap:=h' };rw[A];refine SortT.Qhj (f:=λi j=>HT.J1 (key i) (key j)) (P:=SortT.LtN d.length) (λi j C G hC=>?_) _ (SortT.Qi6 (by lia)) ?_
  ·obtain⟨hi,R⟩:=G;have ai:d[i]? = some d[i]:=by simp[hi]
   have aj:d[j]? = some d[j]:=by simp[R]
   obtain⟨_,ti⟩:=U i _ ai;obtain⟨_,tj⟩:=U j _ aj;obtain⟨_,us,ri,oi,gi,ci,ni,di⟩:=hok _ _ ti;obtain⟨_,vs,rj,oj,gj,cj,nj,dj⟩:=hok _ _ tj;unfold kas_ask;rw[show(d.map Ba).getD i Dc=.ref d[i] by simp[hi],show(d.map Ba).getD j Dc=.ref d[j] by simp[R]];have li:=ri.length;have lj:=rj.length;rw[Ap]at li lj;exact kat_lt (s:={ s with heap:=h' }) gi di gj dj (SortT.Qs2 0 (Zm ri) (Zm rj) (by simp only[Br,← li,← lj]) hC)
  ·obtain ⟨O,s2⟩:=SortT.Qlw (SortT.Qvr key) (n:=d.length) (by lia);generalize SortT.runT (λi j=>HT.J1 (key i) (key j)) (Io d.length)=p at O s2;have w:p.toList.length=d.length:=by rw[O.length_eq,Bz]
   refine KasFin.intro F' N' (.head λq K=>By (B q K)) λh2 c F2 N2=>?_;have aa:h2.get? D=some (listOf (Ke (p.toList.map λi=>(d.map Ba).getD i Dc)) c):=(N2 (D,_) An).1;have ag:Vals (p.toList.map λi=>V.ref (d.getD i 0)) (p.toList.map λi=>(d.map Ba).getD i Dc):=by
    have gen:∀q:List Nat,(∀x∈q,x<d.length)->Vals (q.map λi=>V.ref (d.getD i 0)) (q.map λi=>(d.map Ba).getD i Dc):=by
     intro q
     induction q with
     |nil=>intro _;exact .nil
     | cons x q W=>
      intro E;have ab:=E x An;refine .cons ?_ (W λy M=>E y (Am _ M));show(d.map Ba).getD x Dc=Ba (d.getD x 0);simp[ab]
    exact gen _ λx E=>by simpa using O.mem_iff.mp E
   refine⟨.ref D,_,I.ledgerNew (D:=D) (o:=.lst (p.toList.map λi=>V.ref (d.getD i 0))) (s':={ s with heap:=h2 }) rfl rfl F F2 (λq K=>(N2 q (Am _ K)).1) g ⟨?_,_,c,ag,aa⟩,rfl,q p.toList D O (λi j x y G E M=>?_) ?_⟩
   ·rw[Ap,w];have:=(by decide:64<sizeLine);lia
   ·have ex:SortT.at_ p i=x:=by show p.getD i 0=x;rw[Md,← Mc,E];rfl
    have ey:SortT.at_ p j=y:=by show p.getD j 0=y;rw[Md,← Mc,M];rfl
    have R:j<d.length:=by rw[← w];exact(Au.mp M).1
    have:=s2 i j G R;rw[ex,ey]at this;exact this
   ·cases e:H D with
    |none=>rfl
    |some u=>obtain⟨ob,q⟩:=(I.hok D u e).there;rw[g]at q;cases q
 ·have h0:d=[]:=Mg.mp (by lia);subst h0;refine PySem.W.kso_sorted (ns:=[]) F Qey k .nil (by simp) λD Z af c h' F' N' B hi hz hp _ _=>?_;have S:af=[]:=Mg.mp hz;subst S;have ae:Z=[]:=by cases hi;rfl
  subst ae;have g:s.heap.get? D=none:=by
   cases q:s.heap.get? D with
   |none=>rfl
   | some o=>
    have L:=N' (D,_) An;exact absurd (B (D,o) (Y4 L.2.1 L.2.2 q)) (Mr _)
  refine⟨.ref D,_,I.ledgerNew (D:=D) (o:=.lst []) (s':={ s with heap:=h' }) rfl rfl F F' (λq K=>(N' q (Am _ K)).1) g ⟨Dq _,[],c,.nil,(N' (D,_) An).1⟩,rfl,q [] D (.refl _) (λi j x y _ E _=>by simp at E) ?_⟩;cases e:H D with
  |none=>rfl
  |some u=>obtain⟨ob,q⟩:=(I.hok D u e).there;rw[g]at q;cases q
theorem Qnj{k:Key}(h:(Qu P w).is k u=true):RelV (kV k) u:=by
 rw[Qk1]at h;rcases Ji h with⟨i,t,rfl,rfl⟩|⟨x,t,rfl,rfl⟩
 ·exact⟨t,rfl⟩
 ·exact⟨t,rfl⟩
end L2
namespace HT
open PySem PySem.Spec PyProof.Rows L2
theorem Qrq(j:IsTup s.heap t ([]:List Value).toArray)(k:IsTup s.heap b ws.toArray)(h1:Q (.ref b) s):wpAny (model prog w) A (binaryOp .Add (.ref t) (.ref b)) Q E s:=by
 obtain ⟨⟨cls,l,data,sl⟩,ho,i,n,hd⟩:=id j;obtain⟨⟨h,f,g,e⟩,a,d,m,c⟩:=id k;simp only at i hd d c;subst i hd d c;exact L5 ⟨_,ho,rfl⟩ ⟨_,a,rfl⟩ Im Lf Si R7 (Rz _ _)
   (tuple_addW0 t b ([]:List Value).toArray ws.toArray n m l f sl e rfl) ⟨ho,a,h1⟩
theorem Gr(b:IsTup s.heap t items)(f:s.heap.IsSliceOf sl vl vu .none)(pl:IsPart vl lo)(g:IsPart vu hi)
  (hw:sIx items.size 0 lo=0/\sIx items.size items.size hi=items.size)
  (h:Q (.ref t) s):wpAny (model prog w) A (getItem (.ref t) (.ref sl)) Q E s:=by
 obtain⟨os,c,e,i⟩:=id f;have d:s.TypeIs (.ref sl) "slice":=⟨os,c,e⟩
 unfold getItem
 try with_reducible refine Dx ?_
 first|refine Ak (Al ?_)|skip
 refine Ak (T1 b.typeIs (by decide) ?_);refine Ak (De (name:=Fa "__getitem__") b.typeIs D8
  (B4 D8 b.typeIs entry_tuple_getitem ?_ (args_tuple_getitem _ _)))
 show wpAny _ _ (S4 (.ref t) >>= _) _ _ s;refine Ak (tupleItemsOf_ b ?_);refine Ak (L7 d ?_);rw[if_pos (by decide)];refine Ak (V4 f pl g ?_);have a:(((sIx items.size 0 lo:Nat):Int)==0&&(1:Int)==1&&(sIx items.size items.size hi-sIx items.size 0 lo)==items.size)=true:=by
  rw[hw.1,hw.2];simp
 show wpAny _ _ (if (((sIx items.size 0 lo:Nat):Int)==0&&(1:Int)==1&&(sIx items.size items.size hi-sIx items.size 0 lo)==items.size)=true then _ else _) _ _ s;rw[if_pos a];refine Ak (Ak (L7 b.typeIs (Al ?_)));rw[if_pos (by decide)];refine Ak (Mj ?_)
 first
  |exact Ak (Al (Al ⟨_,rfl,Al h⟩))
  |exact Al ⟨_,rfl,Al h⟩
  |exact Ak (Al ⟨_,rfl,Al h⟩)
end HT
variable {o:A0h}
namespace L2
open PySem PySem.Spec PyProof.Rows
def Q1k(K:Frag):R2:=λx y H Q=>∃a b ys,x=.ref a/\y=.ref b/\SqT K H a []/\SqT K H b ys/\Q (.ref b) H
theorem Qvf:OpR X (binaryOp .Add) (Q1k X.K):=by
 intro pins s σ H x y v u Q I f i h;obtain⟨a,b,ys,rfl,rfl,d,e,q⟩:=h;cases f;cases i;obtain⟨its,g,j,_⟩:=I.tuple d;obtain⟨c,k,p2,_⟩:=I.tuple e;have:its=[]:=by cases g;rfl
 subst this;exact HT.Qrq j p2 ⟨.ref b,H,I,rfl,q⟩
def rSlW(K:Frag):V->Option Int->Option Int->Hp->VK->Prop:=λx lo hi H Q=>∃a xs,x=.ref a/\SqT K H a xs /\
 (HT.sIx xs.length 0 lo=0/\HT.sIx xs.length xs.length hi=xs.length)/\Q (.ref a) H
theorem Qt2:SlR X (rSlW X.K):=by
 intro pins s σ H x v vl vu lo hi sl Q I f d pl g h;obtain⟨a,xs,rfl,e,hw,q⟩:=h;cases f;obtain⟨its,r,c,hz⟩:=I.tuple e;have b:its.toArray.size=xs.length:=by rw[Br];exact r.length.symm
 refine⟨"tuple",_,D8.lookup,c.typeIs,?_⟩;exact HT.Gr c d pl g (by rw[b];exact hw) ⟨.ref a,H,I,rfl,q⟩
theorem Qfr{P:Program}{w:World}:∀{kvs:List (Key×V)} {vs:List (Key×Value)} {us:List Value},KV kvs vs->us.length=vs.length ->
  (∀(j:Nat) v,us[j]? = some v->∃k x,vs[j]? = some (k,x)/\(Qu P w).is k v=true)->Vals (kvs.map λf=>kV f.1) us
 | [],_,us,.nil,a,_=>by
  cases us with
  |nil=>exact .nil
  |cons _ _=>simp at a
 | p::r,q::t,us,.cons h b,a,d=>by
  cases us with
  |nil=>simp at a
  | cons u us=>
   obtain⟨k,x,e,c⟩:=d 0 u rfl;simp only[Db,Nj]at e;refine .cons ?_ (Qfr (P:=P) (w:=w) b (by simpa using a) λj v e=>?_)
   ·show RelV (kV p.1) u;rw[h.1,e];exact Qnj c
   ·obtain⟨k,x,g,c⟩:=d (j+1) v (by simpa using e);exact⟨k,x,by simpa using g,c⟩
theorem Qrt:bootBuiltins "zip" = some (.type "zip"):=by decide +kernel
theorem Qe6:∀{ns:List Int}{its:List Value},Vals (ns.map V.int) its->IntsAre its ns
 | [],_,r=>by rw[Bm]at r;cases r;exact .nil
 | n::ns,_,r=>by
  rw[Ar]at r;cases r with
  |cons h t=>obtain⟨a,rfl⟩:=h;exact .cons n a (Qe6 t)
theorem Qgp:∀{ns:List Int}{its:List Value},IntsAre its ns->Vals (ns.map V.int) its
 |_,_,.nil=>.nil
 |_,_,.cons n t h=>.cons ⟨t,rfl⟩ (Qgp h)
def FT(x:V)(H:Hp):Prop:=∃p o xs,x=.ref p/\H p=some (.frz o (.tup xs))/\o.dict=none
theorem FT.is{x:V}(I:Inv X pins σ H s)(r:RelV x v)(h:FT x H) :
  s.TypeIs v "tuple" /\ ∀a,v=.ref a->∃ob,s.heap.get? a=some ob/\ob.dict=none:=by
 obtain⟨p,o,xs,rfl,h1,h2⟩:=h;cases r;obtain⟨e,_,its,_,o',b,c,n,d⟩:=I.hok p _ h1;rw[e]at b;cases b;exact⟨⟨o,e,c⟩,λa f=>by cases f;exact⟨o,e,h2⟩⟩
def tBMf(r:V->List V->Hp->VK->Prop)(to:TE)(t:TA):TE:=λσ H Q=>to σ H λx H1=>FT x H1/\t σ H1 λxs H2=>r x xs H2 Q
section
variable {o:Expr}{t:TA}{T id:String}
theorem Qyc(pa:PlainAttrs "tuple")(slot:Slot "tuple" name id)(f:typeOf (.builtin id)=pure (.type "method_descriptor"))(hm:MtM X id r)(ho:PE X o to)(k:PA X (e::es) t)
  (c:attributeBase o name X.env (eval o X.env)=eval o X.env:=by rfl)
  (d:((backTo cpos (starEach (e::es) X.env)).all (λx=>!x.1)&&(backToKw cpos (keywordEach [] X.env)).all (λx=>x.1.isSome)
   && decide ((e::es).length+([]:List Keyword).length+(if ([]:List Keyword).isEmpty then 0 else 1)<30))=true:=by rfl)
  (b:(apos.endLine==cpos.line)=true:=by rfl) (n:starEach (e::es) X.env=(false,eval e X.env)::starEach es X.env:=by rfl) (a:(backTo cpos (starEach es X.env)).any (·.1)=false:=by rfl) :
  PE X (.Call (.Attribute o name apos) (e::es) [] cpos) (tBMf r to t):=by
 intro pins s σ H Q I h;refine O1 c d b rfl (thn (ho pins s σ H _ I h) λv l w=>?_);obtain⟨x,H1,j,i,ty,u⟩:=w;obtain⟨h1,h2⟩:=ty.is j i;refine⟨"tuple",id,pa,slot,f,h1,h2,?_⟩;have g:=k cpos pins l σ H1 _ j u;rw[n]at g ⊢;refine No (by show(false||(backTo cpos (starEach es X.env)).any (·.1))=false;rw[a]<;>rfl) (I9 ?_);exact thn g λus q ⟨vs,H2,m,p,y⟩=>hm pins q σ H2 x vs v us Q m i p y
def isN(n:Int):Value->Bool
 | .int m _=>m==n
 |_=>false
theorem Qc7{n:Int}:∀{its:List Value}{ns:List Int},IntsAre its ns->its.countP (isN n)=ns.count n
 |_,_,.nil=>rfl
 | _,_,.cons m t h=>by
  rw[List.countP_cons,Ou,Qc7 h];rfl
theorem Qnv(h:IntsAre its ns):∀v∈its,∃m t,v=N6 m t:=by
 induction h with
 |nil=>intro v a;cases a
 | cons n t h b=>
  intro v a;rcases Ay.mp a with rfl|a
  ·exact⟨n,t,rfl⟩
  ·exact b v a
def Qum:V->List V->Hp->VK->Prop:=λx vs H Q=>∃(a:Addr)(o:Obj)(ns:List Int)(n:Int),x=.ref a/\vs=[.int n]/\H a=some (.frz o (.tup (ns.map V.int)))/\Q (.int (ns.count n)) H
theorem Qm5:MtM X "tuple.count" Qum:=by
 intro pins s σ H x vs v us Q I e i h;obtain⟨a,o,ns,n,rfl,rfl,g,q⟩:=h;cases e;obtain⟨u,rfl,t,rfl⟩:=i.one;obtain⟨w,z,its,p,ob,b,c,k,l⟩:=I.hok a _ g;have hi:=Qe6 p;obtain⟨cls,f,d,sl⟩:=ob;cases c;cases l;refine Ka L8 ⟨_,b,rfl⟩ PySem.F.entry_tuple_count (PySem.F.args_tuple_count_2 _ _) (SeqAt.tuple_countAt a its.toArray k f sl (.int n t) (isN n)) ⟨b,λy r=>?_,?_⟩
 ·obtain⟨m,j,rfl⟩:=Qnv hi y (by simpa using r);exact K3 m j n t
 ·refine⟨.int (ns.count n),H,I.tok _,⟨s.toks,?_⟩,q⟩;rw[show its.toArray.toList=its from rfl,Qc7 hi]
theorem Qg1{T:String}{r d:Addr}{l:Nat->Value->Prop}{m:Heap->Prop}{Q:List Value->Shared->Prop}(K:PySem.W.KdlSrc P w T r d n l m)(p:A.handled=none)(hok:m s.heap)(t:n<=sizeLine)
  (h:∀h' i (vs:List Value),(∀b o,s.heap.get? b=some o->h'.get? b=some o)->vs.length=n->(∀j v,vs[j]? = some v->l j v)->Q vs { s with heap:=h',toks:=i }) :
  wpAny (model P w) A (collect (.ref r)) Q E s:=by
 unfold collect
 refine Ak (wpAny_runValue (codeAny_builtin entry_proto_collect' ?_))
 show wpAny _ _ (do again (.builtin "list.__iadd__" ⟨[← newList [],.ref r],[]⟩)) _ _ s
 refine Ak (Ij (Al ⟨Code.quiet_builtin _ (by decide +kernel),codeAny_builtin entry_list_iadd' ?_⟩))
 show wpAny _ _ (Builtin.List.listExtendWith (.ref s.heap.objs.size) (.ref r) (.ref s.heap.objs.size)) _ _ { s with heap:=s.heap.push (seqObj "list" #[] 0) }
 have g:=K.there _ hok
 rw[Around.under_plainId (by decide +kernel) _]
 refine PySem.W.kdl_extend (R:=λr s'=>match r with
  | .ok (.ret v)=>wpAny (model P w) A (match v with
   | .ref a=>do
    let o ← load a
    match o.data with
    | .seq xs _=>pure xs.toList
    |_=>unsupported "internal:collect"
   |_=>unsupported "internal:collect") Q E s'
  | .ok _=>False
  | .error e=>E e s') (s:={ s with heap:=s.heap.push (seqObj "list" #[] 0) }) K p (K.keep _ _ hok λb _ o e=>Ao _ e) s.heap.objs.size (D4 g.1) (D4 g.2) (.ref s.heap.objs.size) 0 (Be _ rfl) (λh' i c u q k f=>?_) t
 show wpAny (model P w) A (do
   let o ← load s.heap.objs.size
   match o.data with
   | .seq xs _=>pure xs.toList
   |_=>unsupported "internal:collect") Q E { s with heap:=h',toks:=i }
 refine Ak (wpAny_load k ?_)
 show wpAny _ _ (pure c.toList) Q E _
 exact Al (h h' i c.toList (λb o e=>q b o (By (Bj e)) (Ao _ e)) (by rw[Mw];exact f.1) λj v e=>f.2 j v (by rw[← Mc];exact e))
noncomputable def Qxr:List V->Hp->VK->Prop:=λxs H Q=>∃(a:Addr)(kvs:List (Key×V)) (ns:List Int),xs=[.ref a]/\Rd H a (.dK kvs)/\kvs.map (·.1)=ns.map Fm/\kvs.length<64 /\
 ∀(out:List Int) D,out.Perm ns->out.Pairwise (· <= ·)->H D=none->Q (.ref D) (upd H D (.lst (out.map V.int)))
theorem Qle(T:X.calm=true):Zk X (.builtin "sorted") Qxr:=by
 intro pins s σ H xs us Q I r h;obtain⟨a,kvs,ns,rfl,D,l,N,q⟩:=h;obtain⟨u,rfl,O⟩:=Ga r;cases O;obtain⟨z,J,vs,g,L⟩:=Qia I.hok D;obtain⟨ep,K⟩:=L.dictAt;have B:kvs.length=vs.length:=D9 g;refine Tc kind_sorted plain_sorted entry_sorted (args_sorted1 _) ?_;unfold L9;refine Ak (m:=checkCount "sorted" 1 1 _) (Al ?_);refine Ak (Qg1 (PySem.W.kdl_dict (knd:=Qu X.prog X.w) (kvs:=vs) (ep:=ep) J) (I.ok.hd T) K (by lia) λh1 k us R p t=>?_);have M:Vals (kvs.map λf=>kV f.1) us:=Qfr (P:=X.prog) (w:=X.w) g p λj v e=>t j v e;have i:Vals (ns.map V.int) us:=by
  have:(kvs.map λf=>kV f.1)=ns.map V.int:=by
   have h0:(kvs.map λf=>kV f.1)=(kvs.map (·.1)).map kV:=by rw[Bg];rfl
   rw[h0,l,Bg];rfl
  rw[← this];exact M
 have F:=Qe6 i;have n:us.length<64:=by lia
 refine Ak (Ij ?_);have c:(h1.push (seqObj "list" us.toArray 0)).get? h1.objs.size=some (seqObj "list" us.toArray 0):=Be _ rfl;refine Ak (Dx (B4 Pb ⟨_,c,rfl⟩ Ov (list_sort_tree c F n λout d U y E=>⟨_,rfl,?_⟩) (Pc _)));refine Al ⟨_,rfl,?_⟩;obtain⟨e,S⟩:=A0a (out:=out) c;have A:Inv X pins σ H { s with heap:=h1,toks:=k }:=I.kept (t':=k) R;have G:Inv X pins σ (upd H h1.objs.size (.lst (d.map V.int))) { s with heap:=sortedHeap (h1.push (seqObj "list" us.toArray 0)) h1.objs.size us out,toks:=k }:=by
  refine A.laid (t':=k) (λb o C=>?_) (At _) ⟨?_,out.toList,e,Qgp U,?_⟩
  ·have x:=Bj C;rw[Pd (By x) (by rw[Py];exact T4 x)];exact Ao _ C
  ·have:=y.length_eq;have h2:=i.length;rw[Ap]at h2 ⊢;rw[this,h2,Sh];lia
  ·rw[Kd];exact S
 exact⟨.ref h1.objs.size,_,G,rfl,q d _ y E (A.hok.fresh (At _))⟩
end
noncomputable def Qsd(ts:List Str)(wi:TI)(gt:TG)(tt:TT)(te:TE)(ix:List Nat):TE:=λσ H Q=>wi σ H λJ H1=>∃(W:Nat->Nat->List V->Hp->Prop)(c:Nat),W 0 c [] H1 /\
 ∀i m ys H,W i m ys H->(J.stop i H/\ys.length<=sizeLine/\∀l,H l=none->Q (.ref l) (upd H l (.lst ys)))\/(J.go i H/\ys.length<sizeLine/\∀v H',J.yld i H v H'->∀o:List (Option V),o.length=ts.length->gt v (bS2 σ o ix) H' λa H2=>∃o2:List (Option V),a=bS2 σ o2 ix/\o2.length=ts.length /\
  tt a H2 λb H1=>if b=true then te a H1 λy H2=>∃d,d < m/\W (i+1) d (ys++[y]) H2 else ∃d,d < m/\W (i+1) d ys H1)
theorem Qqi(ix:List Nat)(E:X.calm=true)(B:BlkScope X.env scope x)
  (hix:∀i∈ix,∃y,X.N[i]? = some y/\scope.names.lookup y=some .free) (hN:(bN2 X.N ts ix).Nodup) (hi:PI X tg iter wi)
  (hg:∀cl C s₀ H₀ fp,PG (Yr X scope cl C (bN2 X.N ts ix) s₀ H₀ fp) tg gt)
  (o:∀cl C s₀ H₀ fp,PIfs (Yr X scope cl C (bN2 X.N ts ix) s₀ H₀ fp) ifs tt)
  (z:∀cl C s₀ H₀ fp,PE (Yr X scope cl C (bN2 X.N ts ix) s₀ H₀ fp) elt te)
  (q:∀x,foldedSetIterable iter X.env x=pure x:=by intro _;rfl) :
  PE X (.ListComp elt [⟨tg,iter,ifs,0⟩] scope pos) (Qsd ts wi gt tt te ix):=by
 intro pins s σ H Q I h;obtain⟨cl,j,h1,n⟩:=Gw (Qfj I B);rw[eval_ListComp];refine Tj (use:=none) rfl q j B.kind B.names (thn (hi pins s σ H _ I h) λv F d=>thn d λA K h2=>?_);obtain⟨it,fp,tn,J,H2,e,k,T,c,p,W,m0,t,turn⟩:=h2;subst e;refine Qg0 (G:=λys H'=>∀l,H' l=none->Q (.ref l) (upd H' l (.lst ys))) k E B h1 n hix hN T c p hg z o W m0 t turn λD C s' ys H' u w r hm a f g=>?_;obtain⟨m,hm⟩:=hm;refine⟨m,hm,λh' b=>⟨.ref D,upd H' D (.lst ys),k.blkGone u a (by rw[Qm (Ra f)];exact r) b,rfl,g D w⟩⟩
end L2
variable {xs ys:Array Fb}{x:Fb}{l:Nat}
namespace HT
open PySem PySem.Spec PyProof.Rows L2
theorem Qd8(x:h.IsTupleIter a t i)(k:∀o,h.get? a=some o->h'.get? a=some o):h'.IsTupleIter a t i:=let ⟨o,ho,r⟩:=x;⟨o,k o ho,r⟩
theorem Qaj(a:s.heap.IsTupleIter it t i)
  (f:s.heap.IsTuple t items) (e:items[i]? = some x)
  (d:∀h',h'.IsTupleIter it t (i+1)->Dw it s.heap h'->Q x { s with heap:=h' }) :
  wpAny (model prog w) A (Dp (.ref it)) Q E s:=by
 obtain ⟨o,ho,g,hd⟩:=id a;obtain⟨j,b,_,h,c⟩:=f;unfold Dp;refine Ak (De (name:=Fa "__next__") a.typeIs Fu
  (B4 Fu a.typeIs Rj ?_ (Rb _)))
 show wpAny _ _ (field (.ref it) 0 >>= _) _ _ s;refine Ak (Dk ho hd (x:=.ref t) rfl ?_);show wpAny _ _ (if (Ba t==Dc)=true then _ else _) _ _ s;rw[if_neg (show ¬((Ba t==Dc)=true)from Bt)];show wpAny _ _ (field (.ref it) 1 >>= _) _ _ s;refine Ak (Dk ho hd (x:=.int i 0) rfl ?_);show wpAny _ _ (seqItems? (.ref t) >>= _) _ _ s;refine Ak (Mn b c ?_);simp only[Fh,e];refine Ak (Nc ho hd (by simp) (Al ⟨x,rfl,Al (d _ ?_ (Dd ..))⟩));exact⟨_,Fc _ ho (Rm (Mi hd _)),(T2 ..).trans g,by
  rw[Mi hd];simp[rawInt]⟩
theorem Xn(f:A.handled=none)
  (b:s.heap.IsTupleIter it t i) (j:s.heap.IsTuple t items) (h:items[i]? = none)
  (g:∀h' e,Kz it s.heap h'->(∃o,h'.get? e=some o/\o.cls=.type "StopIteration")->E (.ref e) { s with heap:=h' }) :
  wpAny (model prog w) A (Dp (.ref it)) Q E s:=by
 obtain ⟨o,ho,n,hd⟩:=id b;obtain⟨l,c,_,k,d⟩:=j;unfold Dp;refine Ak (De (name:=Fa "__next__") b.typeIs Fu
  (B4 Fu b.typeIs Rj ?_ (Rb _)))
 show wpAny _ _ (field (.ref it) 0 >>= _) _ _ s;refine Ak (Dk ho hd (x:=.ref t) rfl ?_);show wpAny _ _ (if (Ba t==Dc)=true then _ else _) _ _ s;rw[if_neg (show ¬((Ba t==Dc)=true)from Bt)];show wpAny _ _ (field (.ref it) 1 >>= _) _ _ s;refine Ak (Dk ho hd (x:=.int i 0) rfl ?_);show wpAny _ _ (seqItems? (.ref t) >>= _) _ _ s;refine Ak (Mn c d ?_);simp only[Fh,h];refine Ak (Mj (Ak (Nc ho hd (by simp) ?_)));show wpAny _ _ (newExc (.type "StopIteration") [] >>= _) _ _ _;refine Ak ?_;simp only[newExc,newTuple];refine Ak (Di ?_ (by size_fits));refine Ak (m:=firstArgMember _ _) (Nz (a:=Dc) (by first|rfl|(simp only[firstArgMember];rfl)) ?_);refine Di ?_ (by size_fits);simp only[raiseNew];refine Ak (Ii ?_)
 first|rw[show A.in1.handled=none from f]|rw[f]
 refine Ak (Al (K0 ?_));exact g _ _ (((Dd ..).extBut.push _).push _) ⟨_,Be _ rfl,rfl⟩
structure ZipT(h:Heap)(n d l:Nat)(i:Nat):Prop where
 z:IsZip h (n+4) (n+2) (n+3) .none
 ti:IsPair h (n+2) (.ref n) (.ref (n+1))
 to:∃a b,IsPair h (n+3) a b
 k:h.IsTupleIter n d i
 l:h.IsTupleIter (n+1) l i
theorem Qlm{y:Value}(hd:d<n)(hl:l<n)
  (Z:ZipT s.heap n d l i) (hm:s.heap.IsTuple d xs) (X:s.heap.IsTuple l ys) (hx:xs[i]? = some x) (hy:ys[i]? = some y)
  (hQ:∀h',IsZip h' (n+4) (n+2) (n+3) (rawInt s.heap.objs.size)->IsPair h' (n+3) x y->h'.IsTupleIter n d (i+1)->h'.IsTupleIter (n+1) l (i+1)->IsPair h' s.heap.objs.size x y ->
   (∀c o,c≠n+4->c≠n+3->c≠n->c≠n+1->s.heap.get? c=some o->h'.get? c=some o)->Q (.ref s.heap.objs.size) { s with heap:=h' }) :
  wpAny (model prog w) A (Builtin.«zip.__next__» ⟨[.ref (n+4)],[]⟩) (λfin s'=>∃v,fin=.done (.ret v)/\Q v s') E s:=by
 obtain⟨hz,ab,⟨a,b,aa⟩,h1,h2⟩:=Z;show wpAny _ _ (field (.ref (n+4)) 2 >>= _) _ _ _;refine Ak (Dk hz rfl (x:=.bool false) rfl ?_);show wpAny _ _ (field (.ref (n+4)) 3 >>= _) _ _ _;refine Ak (Dk hz rfl (x:=.ref (n+2)) rfl ?_);refine Ak (Mn ab rfl ?_);show wpAny _ _ (Nd (.ref (n+4)) >>= _) _ _ _;refine Ak ?_;unfold Nd;refine Ak (Dk hz rfl (x:=.none) rfl (Al ?_));simp only[if_true];refine Ak (Mj ?_);refine Ak (Dk hz rfl (x:=.ref (n+3)) rfl ?_);refine Ak (F0 hz (by simp) λR u g=>?_)
 replace u:IsZip R (n+4) (n+2) (n+3) .ellipsis:=u
 refine Ak ?_;simp only[List.zipIdx_cons,List.zipIdx_nil,Kc,Tq];refine Ak (Ak (Ll ?_));show wpAny _ _ (Dp (.ref n) >>= _) _ _ _;refine Ak (Qaj (h1.extBut g.extBut (by show @Ne Nat _ _;lia)) (hm.extBut g.extBut (by show @Ne Nat _ _;lia)) hx λV M h=>Al ?_);have z:IsPair V (n+3) a b:=h.extBut _ _ (by show @Ne Nat _ _;lia) (g.extBut _ _ (by show @Ne Nat _ _;lia) aa);refine Ak (Mn z rfl ?_);refine Ak (Kf z λT r j=>?_)
 replace r:IsPair T (n+3) x b:=r
 refine Ak (Ib (Al ?_));refine Ak (Ak (Ll ?_));show wpAny _ _ (Dp (.ref (n+1)) >>= _) _ _ _;refine Ak (Qaj (((h2.extBut g.extBut (by show @Ne Nat _ _;lia)).extBut h.extBut (by show @Ne Nat _ _;lia)).extBut j.extBut (by show @Ne Nat _ _;lia))
  (((X.extBut g.extBut (by show @Ne Nat _ _;lia)).extBut h.extBut (by show @Ne Nat _ _;lia)).extBut j.extBut (by show @Ne Nat _ _;lia)) hy λU K p=>Al ?_)
 have B:IsPair U (n+3) x b:=p.extBut _ _ (by show @Ne Nat _ _;lia) r;refine Ak (Mn B rfl ?_);refine Ak (Kf B λf k m=>?_)
 replace k:IsPair f (n+3) x y:=k
 refine Ak (Ib (Al (Al ?_)));refine Ak (Mn k rfl ?_);refine Ak (Pe ?_);have hsz:f.objs.size=s.heap.objs.size:=by rw[m.1,p.1,j.1,h.1,g.1]
 have D:IsZip f (n+4) (n+2) (n+3) .ellipsis:=m.extBut _ _ (by show @Ne Nat _ _;lia) (p.extBut _ _ (by show @Ne Nat _ _;lia) (j.extBut _ _ (by show @Ne Nat _ _;lia) (h.extBut _ _ (by show @Ne Nat _ _;lia) u)));have O:∀c o,c≠n+4->c≠n+3->c≠n->c≠n+1->s.heap.get? c=some o->f.get? c=some o:=λc o P W Y c4 e=>
  m.extBut _ _ W (p.extBut _ _ c4 (j.extBut _ _ W (h.extBut _ _ Y (g.extBut _ _ P e))))
 have J:f.IsTupleIter n d (i+1):=((M.extBut j.extBut (by show @Ne Nat _ _;lia)).extBut p.extBut (by show @Ne Nat _ _;lia)).extBut m.extBut (by show @Ne Nat _ _;lia);have L:f.IsTupleIter (n+1) l (i+1):=K.extBut m.extBut (by show @Ne Nat _ _;lia);have I:n+4<f.objs.size:=Bj D;show wpAny _ _ (Tl (.ref (n+4)) (.ref f.objs.size) >>= _) _ _ _;refine Ak ?_;unfold Tl;have N:IsZip (f.push { cls:=.type "tuple",data:=.seq #[x,y] }) (n+4) (n+2) (n+3) .ellipsis:=Ao _ D;refine Ak (F0 N (by simp) λS t F=>?_)
 replace t:IsZip S (n+4) (n+2) (n+3) (rawInt f.objs.size):=t
 refine F0 t (by simp) λC q G=>?_
 replace q:IsZip C (n+4) (n+2) (n+3) (rawInt f.objs.size):=q
 have up:∀c o,c≠n+4->f.get? c=some o->C.get? c=some o:=λc o P e=>G.extBut _ _ P (F.extBut _ _ P (Ao _ e));have H:IsPair C f.objs.size x y:=G.extBut _ _ (D4 I) (F.extBut _ _ (D4 I) (Be _ rfl));rw[hsz]at q H;refine Al ⟨_,rfl,?_⟩;show Q (.ref f.objs.size) _;rw[hsz];exact hQ C q (up _ _ (by show @Ne Nat _ _;lia) k) (Qd8 J λo e=>up _ o (by show @Ne Nat _ _;lia) e) (Qd8 L λo e=>up _ o (by show @Ne Nat _ _;lia) e) H λc o P W Y c4 e=>up c o P (O c o P W Y c4 e)
theorem Qpj{Q:Fin->Shared->Prop}(R:A.handled=none)(hd:d<n)(W:l<n)
  (Z:ZipT s.heap n d l i) (hm:s.heap.IsTuple d xs) (J:s.heap.IsTuple l ys) (F:xs[i]? = none\/ys[i]? = none)
  (S:∀h' e,(∀c o,c≠n+4->c≠n+3->c≠n->c≠n+1->s.heap.get? c=some o->h'.get? c=some o)->(∃o,h'.get? e=some o/\o.cls=.type "StopIteration")->E (.ref e) { s with heap:=h' }) :
  wpAny (model prog w) A (Builtin.«zip.__next__» ⟨[.ref (n+4)],[]⟩) Q E s:=by
 obtain⟨hz,O,⟨a,b,N⟩,h1,h2⟩:=Z;show wpAny _ _ (field (.ref (n+4)) 2 >>= _) _ _ _;refine Ak (Dk hz rfl (x:=.bool false) rfl ?_);show wpAny _ _ (field (.ref (n+4)) 3 >>= _) _ _ _;refine Ak (Dk hz rfl (x:=.ref (n+2)) rfl ?_);refine Ak (Mn O rfl ?_);show wpAny _ _ (Nd (.ref (n+4)) >>= _) _ _ _;refine Ak ?_;unfold Nd;refine Ak (Dk hz rfl (x:=.none) rfl (Al ?_));simp only[if_true];refine Ak (Mj ?_);refine Ak (Dk hz rfl (x:=.ref (n+3)) rfl ?_);refine Ak (F0 hz (by simp) λD k f=>?_)
 replace k:IsZip D (n+4) (n+2) (n+3) .ellipsis:=k
 refine Ak ?_;simp only[List.zipIdx_cons,List.zipIdx_nil,Kc,Tq];refine Ak (Ak (Ll ?_));show wpAny _ _ (Dp (.ref n) >>= _) _ _ _;cases K:xs[i]? with
 | none=>
  refine Ak (Xn R (h1.extBut f.extBut (by show @Ne Nat _ _;lia)) (hm.extBut f.extBut (by show @Ne Nat _ _;lia)) K λy e g P=>?_);obtain⟨oe,m,u⟩:=P;have v:IsZip y (n+4) (n+2) (n+3) .ellipsis:=g _ _ (by show @Ne Nat _ _;lia) k;have B:e≠n+4:=λx=>by subst x;rw[v]at m;cases m;simp at u
  refine F0 v (by simp) λz _ j=>S z e (λc o H _ M _ x=>j.extBut _ _ H (g _ _ M (f.extBut _ _ H x))) ⟨oe,j.extBut _ _ B m,u⟩
 | some x=>
  have U:ys[i]? = none:=by rcases F with h|h;rw[K]at h;cases h;exact h
  refine Ak (Qaj (h1.extBut f.extBut (by show @Ne Nat _ _;lia)) (hm.extBut f.extBut (by show @Ne Nat _ _;lia)) K λy L g=>Al ?_);have p:IsPair y (n+3) a b:=g.extBut _ _ (by show @Ne Nat _ _;lia) (f.extBut _ _ (by show @Ne Nat _ _;lia) N);refine Ak (Mn p rfl ?_);refine Ak (Kf p λz I j=>?_);refine Ak (Ib (Al ?_));refine Ak (Ak (Ll ?_));show wpAny _ _ (Dp (.ref (n+1)) >>= _) _ _ _;refine Ak (Xn R (((h2.extBut f.extBut (by show @Ne Nat _ _;lia)).extBut g.extBut (by show @Ne Nat _ _;lia)).extBut j.extBut (by show @Ne Nat _ _;lia))
   (((J.extBut f.extBut (by show @Ne Nat _ _;lia)).extBut g.extBut (by show @Ne Nat _ _;lia)).extBut j.extBut (by show @Ne Nat _ _;lia)) U λG e r P=>?_)
  obtain⟨oe,m,u⟩:=P;have t:IsZip G (n+4) (n+2) (n+3) .ellipsis:=r _ _ (by show @Ne Nat _ _;lia) (j.extBut _ _ (by show @Ne Nat _ _;lia) (g.extBut _ _ (by show @Ne Nat _ _;lia) k));have B:e≠n+4:=λx=>by subst x;rw[t]at m;cases m;simp at u
  refine F0 t (by simp) λC _ q=>S C e (λc o H T M V x=>q.extBut _ _ H (r _ _ V (j.extBut _ _ T (g.extBut _ _ M (f.extBut _ _ H x))))) ⟨oe,q.extBut _ _ B m,u⟩
abbrev zt1(h:Heap)(d:Nat):Heap:=h.push { cls:=.type "tuple_iterator",data:=.fields #[.ref d,.int 0 0] }
abbrev zt2(h:Heap)(d l:Nat):Heap:=(zt1 h d).push { cls:=.type "tuple_iterator",data:=.fields #[.ref l,.int 0 0] }
abbrev zt3(h:Heap)(d l:Nat):Heap:=(zt2 h d l).push { cls:=.type "tuple",data:=.seq #[.ref h.objs.size,.ref (zt1 h d).objs.size] }
abbrev zt4(h:Heap)(d l:Nat):Heap:=(zt3 h d l).push { cls:=.type "tuple",data:=.seq #[.none,.none] }
abbrev zt5(h:Heap)(d l:Nat):Heap:=(zt4 h d l).push { cls:=.type "zip",data:=.fields #[.none,.bool false,.bool false,.ref (zt2 h d l).objs.size,.ref (zt3 h d l).objs.size] }
theorem Qpi :
  Meets (Builtin.«zip.__new__» ⟨[.type "zip",.ref d,.ref l],[]⟩) (λ_ R s=>s.heap.IsTuple d xs/\s.heap.IsTuple l ys /\
   R (.ok (.ret (.ref (zt4 s.heap d l).objs.size))) { s with heap:=zt5 s.heap d l }) :=
 .of_wp λprog w A R s h=>by
  obtain⟨f,g,j,e,os⟩:=s;obtain⟨hm,c,h⟩:=h;have i:=sub_zip;have b:A0i (A0v ⟨f,g,j,e,os⟩) d xs:=hm;have a:A0i (A0v ⟨f.push { cls:=.type "tuple_iterator",data:=.fields #[.ref d,.int 0 0] },g,j,e,os⟩) l ys:=Heap.IsTuple.push c _
  wp_walk using Rk b,Rk a
  exact⟨_,rfl,h⟩
theorem Qo0(hm:s.heap.IsTuple d xs)(e:s.heap.IsTuple l ys)
  (h:∀h',ZipT h' s.heap.objs.size d l 0->(∀c o,s.heap.get? c=some o->h'.get? c=some o)->Q (.ref (s.heap.objs.size+4)) { s with heap:=h' }) :
  wpAny (model prog w) A (call (.type "zip") [.ref d,.ref l]) Q E s:=by
 refine callType_new F.called_zip (by decide) (F.typeCall_zip_2 _ _) (F.newCall_zip_2 _ _) (λobj=>F.args_object_init_3 obj _ _) F.entry_zip_new
  (Qpi (xs:=xs) (ys:=ys)) ⟨hm,e,?_⟩
 have f:(zt1 s.heap d).objs.size=s.heap.objs.size+1:=Ry ..;have g:(zt2 s.heap d l).objs.size=s.heap.objs.size+2:=by rw[Ry,f]
 have b:(zt3 s.heap d l).objs.size=s.heap.objs.size+3:=by rw[Ry,g]
 have j:(zt4 s.heap d l).objs.size=s.heap.objs.size+4:=by rw[Ry,b]
 have a:(zt5 s.heap d l).get? (zt4 s.heap d l).objs.size=some _:=Be _ rfl;have k:(zt5 s.heap d l).get? (zt3 s.heap d l).objs.size=some _:=Ao _ (Be _ rfl);have i:(zt5 s.heap d l).get? (zt2 s.heap d l).objs.size=some _:=Ao _ (Ao _ (Be _ rfl));have g2:(zt5 s.heap d l).get? (zt1 s.heap d).objs.size=some _:=Ao _ (Ao _ (Ao _ (Be _ rfl)));have m:(zt5 s.heap d l).get? s.heap.objs.size=some _:=Ao _ (Ao _ (Ao _ (Ao _ (Be _ rfl))));show _/\_;rw[g,b,j]at a;rw[f,g]at i;rw[b]at k;rw[f]at g2;rw[j];exact⟨⟨_,a,rfl⟩,h _ ⟨a,i,⟨_,_,k⟩,⟨_,m,rfl,rfl⟩,⟨_,g2,rfl,rfl⟩⟩ λc o x=>
  Ao _ (Ao _ (Ao _ (Ao _ (Ao _ x))))⟩
end HT
variable {p:Iv}
namespace L2
open PySem PySem.Spec PyProof.Rows
noncomputable def Itzt(K:Frag)(d l:Addr):It :=
  ⟨λi H=>∃xs ys x y,SqT K H d xs/\SqT K H l ys/\xs[i]? = some x/\ys[i]? = some y,
   λi H v H'=>∀xs ys,SqT K H d xs->SqT K H l ys->∃x y p,xs[i]? = some x/\ys[i]? = some y/\v=.ref p/\H p=none/\H'=upd H p (.tup [x,y]),
   λi H=>∃xs ys,SqT K H d xs/\SqT K H l ys/\(xs.length<=i\/ys.length<=i)⟩
theorem Qlr{K:Frag}(n d l:Nat)(J:d<n)(G:l<n) :
  Turn P w K (.Tuple es kt pt) (Itzt K d l) [n+4,n+2,n+3,n,n+1] (n+4) (λi h=>HT.ZipT h n d l i) where
 mem:=by simp
 obj:=λi h st b c=>by
  obtain⟨hz,B,⟨a,b',A⟩,⟨o1,e1,c1,d1⟩,⟨o2,e2,c2,d2⟩⟩:=st;simp only[Ay,S0,or_false]at c;rcases c with rfl|rfl|rfl|rfl|rfl
  ·exact⟨_,hz,λv z=>by have L:T9 _=Sd v:=z;cases L⟩
  ·exact⟨_,B,λv z=>by have L:Po _ _=Sd v:=z;cases L⟩
  ·exact⟨_,A,λv z=>by have L:Po _ _=Sd v:=z;cases L⟩
  ·exact⟨o1,e1,λv z=>by rw[d1]at z;cases z⟩
  ·exact⟨o2,e2,λv z=>by rw[d2]at z;cases z⟩
 keep:=λi h h' st k=>by
  obtain⟨hz,B,⟨a,b,A⟩,h1,h2⟩:=st;exact⟨k _ (by simp) _ hz,k _ (by simp) _ B,⟨a,b,k _ (by simp) _ A⟩,HT.Qd8 h1 λo e=>k _ (by simp) o e,HT.Qd8 h2 λo e=>k _ (by simp) o e⟩
 item:=by
  intro X hP hw Z M i pins s σ H E I N st hg;subst hP hw Z;obtain⟨xs,ys,x,y,m,j,O,hy⟩:=hg;obtain⟨its,V,p,hz⟩:=I.tuple m;obtain⟨g,t,p2,C⟩:=I.tuple j;obtain⟨u,hu,ru⟩:=V.get O;obtain⟨u',Q,W⟩:=t.get hy;have D:s.TypeIs (.ref (n+4)) "zip":=⟨_,st.z,rfl⟩
  have r:n+4<s.heap.objs.size:=Bj st.z;unfold pyNext;refine Ak (Nr (De (name:=Fa "__next__") D Kg
   (B4 Kg D F.entry_zip_next (HT.Qlm J G st (show s.heap.IsTuple d its.toArray from p) (show s.heap.IsTuple l g.toArray from p2) (by simpa using hu) (by simpa using Q) λh' z1 z2 z3 z4 z5 z6=>Al ?_) (F.args_zip_next_1 _))))
  refine⟨_,rfl,wpAny_letOwnedTupleGo_zip z1 λh2 S f=>?_⟩;have hn:H s.heap.objs.size=none:=I.hok.fresh (At _);have ab:IsPair h2 s.heap.objs.size u u':=f.extBut _ _ (D4 r) z5;refine⟨.ref s.heap.objs.size,upd H s.heap.objs.size (.tup [x,y]),I.turnNew (ch:=[n+4,n+2,n+3,n,n+1]) (t':=s.toks) (At _) (λb o c q=>?_) N ?_,rfl,λaf ae R aa=>?_,⟨S,?_,⟨u,u',?_⟩,HT.Qd8 z3 λo q=>?_,HT.Qd8 z4 λo q=>?_⟩,λb c=>?_⟩
  ·simp only[Ay,S0,or_false,not_or]at c;exact f.extBut _ _ c.1 (z6 b o c.1 c.2.2.1 c.2.2.2.1 c.2.2.2.2 q)
  ·exact⟨by show 2<=sizeLine;decide,[u,u'],.cons ru (.cons W .nil),⟨_,ab,rfl,_,rfl⟩⟩
  ·rw[I.tuple_inj R m,I.tuple_inj aa j];exact⟨x,y,_,O,hy,rfl,hn,rfl⟩
  ·exact f.extBut _ _ (by show @Ne Nat _ _;lia) (z6 _ _ (by show @Ne Nat _ _;lia) (by show @Ne Nat _ _;lia) (by show @Ne Nat _ _;lia) (by show @Ne Nat _ _;lia) st.ti)
  ·exact f.extBut _ _ (by show @Ne Nat _ _;lia) z2
  ·exact f.extBut _ _ (by show @Ne Nat _ _;lia) q
  ·exact f.extBut _ _ (by show @Ne Nat _ _;lia) q
  ·have Y:b<s.heap.objs.size:=by
    simp only[Ay,S0,or_false]at c;have:(b:Nat)<=n+4:=by
     rcases c with h|h|h|h|h<;>(rw[h];show(_:Nat)<=n+4;lia)
    exact Ds this r
   rw[Qm (By Y)];exact(N b c).1
 done:=by
  intro X hP hw Z M i pins s σ H E I N st hg;subst hP hw Z;obtain⟨xs,ys,m,j,O⟩:=hg;obtain⟨its,V,p,hz⟩:=I.tuple m;obtain⟨g,t,p2,C⟩:=I.tuple j;have ac:=V.length;have U:=t.length;have D:s.TypeIs (.ref (n+4)) "zip":=⟨_,st.z,rfl⟩
  unfold pyNext;refine Ak (Nr (De (name:=Fa "__next__") D Kg
   (B4 Kg D F.entry_zip_next (HT.Qpj (I.ok.hd M) J G st (show s.heap.IsTuple d its.toArray from p) (show s.heap.IsTuple l g.toArray from p2) ?_ λh' e kp he=>?_) (F.args_zip_next_1 _))))
  ·rcases O with h|h
   ·exact .inl (by simp;lia)
   ·exact .inr (by simp;lia)
  ·obtain⟨o,ho,M⟩:=he;refine Ak (Ml (T:="StopIteration") (b:=true) ⟨o,ho,M⟩ Tr ?_);refine Al ⟨rfl,I.turnAll (ch:=[n+4,n+2,n+3,n,n+1]) (t':=s.toks) (λb u c q=>?_) N⟩;simp only[Ay,S0,or_false,not_or]at c;exact kp b u c.1 c.2.2.1 c.2.2.2.1 c.2.2.2.2 q
 self:=λ_ _ _ _ _ st h=>wpAny_pyIter_zip st.z h
def Q17(K:Frag)(ta:TA):TI:=λσ H R=>ta σ H λvs H1=>∃d l xs ys,vs=[.ref d,.ref l]/\SqT K H1 d xs/\SqT K H1 l ys/\R (Itzt K d l) H1
theorem Qu4{a b:Expr}(hg:Gl X "zip")(hm:X.mg "zip" = none)(v:PA X [a,b] ta)(A:starEach [a,b] X.env=[(false,eval a X.env),(false,eval b X.env)]:=by rfl)(g:starEach [b] X.env=[(false,eval b X.env)]:=by rfl) :
  PI X (.Tuple es kt pt) (.Call (.Name "zip" p) [a,b] [] pos) (Q17 X.K ta):=by
 intro pins s σ H R I h;refine Call_ (Gh I hg hm Qrt (Fq (thn (v pos pins s σ H _ I h) λus c ⟨vs,H1,k,B,C⟩=>?_) (by rw[A,g]) (by rw[g];rfl)));obtain⟨d,l,xs,ys,e,hd,w,q⟩:=C;subst e;obtain⟨u,F,rfl,D,n⟩:=Qkm B;cases D;cases n;obtain⟨its,E,t,hz⟩:=k.tuple hd;obtain⟨m,y,pl,x⟩:=k.tuple w;refine HT.Qo0 (show c.heap.IsTuple d its.toArray from t) (show c.heap.IsTuple l m.toArray from pl) λh' Z kp=>?_;have z:Inv X pins σ H1 { c with heap:=h' }:=k.kept (t':=c.toks) kp;have j:d<c.heap.objs.size:=by obtain⟨o,e,_⟩:=t;exact Bj e
 have i:l<c.heap.objs.size:=by obtain⟨o,e,_⟩:=pl;exact Bj e
 refine wpAny_pyIter_zip Z.z ⟨c.heap.objs.size+4,[c.heap.objs.size+4,c.heap.objs.size+2,c.heap.objs.size+3,c.heap.objs.size,c.heap.objs.size+1],_,_,_,rfl,z,Qlr c.heap.objs.size d l j i,Z,λb r=>?_,q⟩;have f:c.heap.objs.size<=b:=by
  simp only[Ay,S0,or_false]at r;rcases r with rfl|rfl|rfl|rfl|rfl
  ·exact Sz _ _
  ·exact Sz _ _
  ·exact Sz _ _
  ·exact At _
  ·exact Sz _ _
 exact k.fpOk f (k.hok.fresh f)
end L2
namespace L2
open PySem PySem.Spec PyProof.Rows
open Builtin.Str (glued partsBetween occurrences tooLong strSub)
def Its(x:Str):It:=⟨λi _=>i<x.cps.size,λi H v H'=>H'=H/\∃c,x.cps[i]? = some c/\v=.str ⟨#[c]⟩,λi _=>x.cps.size<=i⟩
end L2
namespace L2
open PySem PySem.Spec PyProof.Rows
noncomputable def Iti(d:Addr)(o:Obj)(kvs:List (Key×V)):It :=
 ⟨λi H=>H d=some (.frz o (.dK kvs))/\i<kvs.length,λi H v H'=>∃k y p,kvs[i]? = some (k,y)/\v=.ref p/\H p=none/\H'=upd H p (.tup [kV k,y]),λi H=>H d=some (.frz o (.dK kvs))/\kvs.length<=i⟩
theorem Qkp{K:Frag}(d it:Addr)(ob:Obj)(kvs:List (Key×V))(vs:List (Key×Value))(ep:Nat)(f:KV kvs vs)(O:d≠it)
  (hd:∀h:Heap,h.get? d=some ob->h.DictAt (Qu P w) d vs ep) :
  Turn P w K (.Tuple es kt pt) (Iti d ob kvs) [it] it (λi h=>∃ok ov,IsItemIter h it d i vs.length ep ok ov) where
 mem:=by simp
 obj:=λi h st b a=>by
  have e:b=it:=by simpa using a
  subst e;obtain⟨ok,ov,st⟩:=st;exact⟨_,st,λv z=>by have R:T9 _=Sd v:=z;cases R⟩
 keep:=λi h h' st k=>by
  obtain⟨ok,ov,st⟩:=st;exact⟨ok,ov,k it (by simp) _ st⟩
 item:=by
  intro X D hw C N i pins s σ H E I r st hg;subst D hw C;obtain⟨ok,ov,st⟩:=st;obtain⟨B,t⟩:=hg;obtain⟨J,_⟩:=I.hok d _ B;obtain⟨⟨k,y⟩,M⟩:∃p,kvs[i]? = some p:=⟨kvs[i],by simp[t]⟩
  have l:kvs.length=vs.length:=D9 f;obtain⟨⟨Z,u⟩,L⟩:∃p,vs[i]? = some p:=⟨vs[i]'(by omega),by simp[show i<vs.length by lia]⟩
  obtain⟨x,T⟩:=U1 f M L;have x:k=Z:=x;subst x;have c:it<s.heap.objs.size:=Bj st;refine wpAny_pyNext_items_item st (hd _ J) L λkey h' n ho m hsz kp=>⟨_,rfl,K7 ho λh2 F j=>?_⟩
  have hn:H s.heap.objs.size=none:=I.hok.fresh (At _);have G:=j.extBut _ _ (D4 c) m;refine⟨.ref s.heap.objs.size,upd H s.heap.objs.size (.tup [kV k,y]),I.turnNew (ch:=[it]) (t':=s.toks) (At _) (λb o a q=>?_) r ?_,rfl,⟨k,y,_,M,rfl,hn,rfl⟩,⟨_,_,F⟩,λb a=>?_⟩
  ·have g:b≠it:=λz=>a (by simp[z]);exact j.extBut _ _ g (kp b o g q)
  ·exact⟨by show 2<=sizeLine;decide,[key,u],.cons (Qnj n) (.cons T .nil),⟨_,G,rfl,_,rfl⟩⟩
  ·have e:b=it:=by simpa using a
   subst e;rw[Qm (By c)];exact(r b a).1
 done:=by
  intro X D hw C N i pins s σ H E I r st hg;subst D hw C;obtain⟨ok,ov,st⟩:=st;obtain⟨B,S⟩:=hg;obtain⟨J,_⟩:=I.hok d _ B;have l:kvs.length=vs.length:=D9 f;obtain⟨f0,U,f2,Y,W,f5⟩:=r it (by simp);exact wpAny_pyNext_items_end (I.ok.hd N) st (hd _ J) (Nw (by lia)) λh' eb=>⟨rfl,I.turned (t':=s.toks) (λb o a e=>eb b o a e) f0 U Y W f5⟩
 self:=λA i s Q E st h=>by
  obtain⟨ok,ov,st⟩:=st;have m:s.TypeIs (.ref it) "dict_itemiterator":=⟨_,st,rfl⟩
  refine So m Nf (B4 Nf m kcp_entry ?_ (Th _));show wpAny _ _ (ret (.ref it)) _ _ s;exact Al ⟨_,rfl,"dict_itemiterator",_,m,Ts.lookup,h⟩
def Qzw(to:TE):TI:=λσ H R=>to σ H λx H1=>∃d kvs,x=.ref d/\H1 d=some (.dK kvs)/\∀o,R (Iti d o kvs) (upd H1 d (.frz o (.dK kvs)))
theorem Qqb{o:Expr}(ho:PE X o to)(j:attributeBase o "items" X.env (eval o X.env)=eval o X.env:=by rfl)(i:(apos.endLine==cpos.line)=true:=by rfl) :
  PI X (.Tuple es kt pt) (.Call (.Attribute o "items" apos) [] [] cpos) (Qzw to):=by
 intro pins s σ H R I h;refine Tv j i (thn (ho pins s σ H _ I h) λv a C=>?_);obtain⟨x,H1,r,B,d,kvs,e,hd,q⟩:=C;subst e;cases B;obtain⟨h1,h2⟩:=Qiy (T:="dict") r (show RelV (.ref d) (.ref d)from rfl) (.inr (.inr (.inl ⟨rfl,.inl ⟨kvs,hd⟩⟩)));refine⟨"dict",_,D1,R8,Oh,h1,h2,No rfl (Kr ?_)⟩;obtain⟨z,w,vs,l,n⟩:=Qz5 r.hok hd;refine Su R8 n.typeIs Oa (Lu _) (meets_dict_items (Qu X.prog X.w) d w) ⟨⟨vs,n⟩,?_⟩;have m:Inv X pins σ H1 { a with heap:=a.heap.push { cls:=.type "dict_items",data:=.fields #[.ref d] } }:=r.kept (t':=a.toks) λb u e=>Ao _ e;obtain⟨ep,A⟩:=n.dictAt;obtain⟨ob,g,t,p⟩:=id A;have c:(a.heap.push { cls:=.type "dict_items",data:=.fields #[.ref d] }).get? d=some ob:=Ao _ t;refine wpAny_pyIter_items (knd:=Qu X.prog X.w) (d:=d) (kvs:=vs) (ep:=ep) ⟨_,Be _ rfl,rfl,rfl⟩ ⟨ob,g,c,p⟩ ?_;have E:=m.kept (h':=(a.heap.push { cls:=.type "dict_items",data:=.fields #[.ref d] }).push { cls:=.type "dict_itemiterator",data:=.fields #[.none,.bool false,.ref d,.int 0 0,.int vs.length 0,.int ep 0,.none,.none] }) (t':=a.toks) λb u e=>Ao _ e;have f:=Ao (h:=a.heap.push { cls:=.type "dict_items",data:=.fields #[.ref d] }) { cls:=.type "dict_itemiterator",data:=.fields #[.none,.bool false,.ref d,.int 0 0,.int vs.length 0,.int ep 0,.none,.none] } c;have D:=E.write (x:=d) (e:=d) (o:=.frz ob (.dK kvs)) (t':=a.toks) (by rw[hd];trivial) (.inl rfl) (λb u _ q=>q) ⟨_,f⟩
  (show Ja X.prog X.w _ _ d (.frz ob (.dK kvs)) from⟨f,z,w,vs,l,ob,g,ep,f,p⟩)
 have k:d<(a.heap.push { cls:=.type "dict_items",data:=.fields #[.ref d] }).objs.size:=Bj c;refine⟨(a.heap.push { cls:=.type "dict_items",data:=.fields #[.ref d] }).objs.size,[(a.heap.push { cls:=.type "dict_items",data:=.fields #[.ref d] }).objs.size],_,_,_,rfl,D,
  Qkp d _ ob kvs vs ep l (By k) (λh e=>⟨ob,g,e,p⟩),⟨_,_,Be _ rfl⟩,λb y=>?_,q ob⟩
 have e:b=(a.heap.push { cls:=.type "dict_items",data:=.fields #[.ref d] }).objs.size:=by simpa using y
 subst e;exact m.fpOk (At _) (by rw[Qm (D4 k)];exact m.hok.fresh (At _))
end L2
namespace Srt
open PySem PyProof.Rows
class KN where
 nk:Keyed->Int
 isN:Keyed->Prop
 kind:SortKind
end Srt
namespace Srt
open PySem PyProof.Rows
open KN (nk isN kind)
class KL [KN] (prog:Program) (w:World) (A:Around) (E:Value->Shared->Prop) (s:Shared):Prop where
 lt:∀{st:SortSt}{x y:Keyed}{Q:Option Bool->SortSt->Prop},kindOf st=kind->isN x->isN y->Q (some (decide (nk x<nk y))) st->wpS (model prog w) A E s (lt' x y) Q st
section
variable [KN]
def K(xs:Array Keyed)(i:Nat):Int:=match xs[i]? with
 |some p=>nk p
 |none=>0
end
section
variable [KN][KL prog w A E s]{st:SortSt}
structure Ok(st:SortSt):Prop where
 k:kindOf st=kind
 n:∀p∈(arrOf st).toList,isN p
 f:failedOf st=none
end
end Srt
namespace Srt
open PySem PyProof.Rows PySem.SeqAt
open PySem.AutoSeq1 (wpAny_loadPart')
open PySem.MeetsSeq PySem.MeetsSeq2 PySem.MeetsSeq3
theorem Qnv(h:IntsAre vs ns):∀{i:Nat}(hi:i<ns.length),∃t,vs[i]? = some (.int ns[i] t):=by
 induction h with
 |nil=>intro i hi;exact absurd hi (Nat.not_lt_zero _)
 | cons n t _ b=>
  intro i hi;cases i with
  |zero=>exact⟨t,rfl⟩
  |succ i=>obtain⟨u,a⟩:=b (i:=i) (by simpa using hi);exact⟨u,by simpa using a⟩
end Srt
namespace RV
open PySem PySem.Spec
theorem Ub:Slot "reversed" "__next__" "reversed.__next__" :=
 .of (owner:="reversed") (n:="__next__") (by rw[Kh,Sv];kernel_rfl) (by decide +kernel) (by decide +kernel) (by decide +kernel)
  (by first|exact .inl (by decide +kernel)|exact .inr (by decide +kernel)) (by rw[Kw];kernel_rfl)
theorem Qf0:Slot "reversed" "__iter__" "reversed.__iter__" :=
 .of (owner:="reversed") (n:="__iter__") (by rw[Kh,Sv];kernel_rfl) (by decide +kernel) (by decide +kernel) (by decide +kernel)
  (by first|exact .inl (by decide +kernel)|exact .inr (by decide +kernel)) (by rw[Kw];kernel_rfl)
theorem Qlz:Slot "reversed" "__init__" "object.__init__" :=
 .of (owner:="object") (n:="__init__") (by rw[Kh,Sv];kernel_rfl) (by decide +kernel) (by decide +kernel) (by decide +kernel)
  (by first|exact .inl (by decide +kernel)|exact .inr (by decide +kernel)) (by rw[Kw];kernel_rfl)
theorem Qeb:entryFor table "reversed.__next__" = some Builtin.«reversed.__next__»:=entryFor_of_tree (by kernel_rfl)
theorem Qk9:entryFor table "reversed.__iter__" = some Builtin.«dict_keyiterator.__iter__» :=
 entryFor_alias (id':="dict_keyiterator.__iter__") (by kernel_rfl) (by first|rfl|decide +kernel|(unfold String.splitOn;simp +decide [String.splitOnAux])) (by decide +kernel) (by kernel_rfl)
theorem Qgc:Manifest.owners.lookup (String.ofList ['d','e','s','r','e','v','e','r'].reverse)=some Manifest.sig_reversed:=by kernel_rfl
theorem Qhg(a:Value):argsOk "reversed.__next__" ⟨[a],[]⟩:=by
 unfold argsOk;rw[signature?_of (id:="reversed.__next__") (n:=['_','_','t','x','e','n','_','_']) (o:=['d','e','s','r','e','v','e','r']) (by kernel_rfl) Qgc];kernel_rfl
theorem Qpc(a:Value):argsOk "reversed.__iter__" ⟨[a],[]⟩:=by
 unfold argsOk;rw[signature?_of (id:="reversed.__iter__") (n:=['_','_','r','e','t','i','_','_']) (o:=['d','e','s','r','e','v','e','r']) (by kernel_rfl) Qgc];kernel_rfl
theorem Q0d:TypeCalled "reversed" "reversed.__new__" "object.__init__" :=
 ⟨by decide +kernel,by decide +kernel,⟨_,_,F.mro_reversed⟩,F.made_reversed,by decide +kernel,F.sub_reversed_self,Qlz⟩
theorem Qyy:typeLookup (.type "tuple") "__reversed__" = pure none:=by rw[Kh,Sv];kernel_rfl
theorem Qvl:isSubtype (.type "tuple") (.type "dict")=pure false:=by rw[Kw];kernel_rfl
def rObj(t:Addr)(i:Int):Obj:={ cls:=.type "reversed",data:=.fields #[.ref t,rawInt i] }
def Qdd(h:Heap)(a t:Addr)(i:Int):Prop:=∃o,h.get? a=some o/\o.cls=.type "reversed" /\ o.data=.fields #[.ref t,rawInt i]
theorem Qdd.ty{i:Int}(x:Qdd s.heap a t i):s.TypeIs (.ref a) "reversed":=let ⟨o,ho,b,_⟩:=x;⟨o,ho,b⟩
theorem Qdd.at{i:Int}(x:Qdd h a t i)(e:∀o,h.get? a=some o->h'.get? a=some o):Qdd h' a t i:=let ⟨o,ho,r⟩:=x;⟨o,e _ ho,r⟩
theorem Qm4(hz:items.size<=sizeLine):MeetsIn prog w (Builtin.«reversed.__new__» ⟨[.type "reversed",.ref t],[]⟩)
  (λ_ R s=>s.heap.IsTuple t items/\∀d,R (.ok (.ret (.ref s.heap.objs.size))) { s with heap:=s.heap.push (rObj t ((items.size:Int)-1)),toks:=d }) :=
 .of_wp λA R s ⟨c,h⟩=>by
  unfold Builtin.«reversed.__new__»;refine Ak (Nz (newClass_reversed _) ?_)
  try dsimp only
  refine Ak (Nz (a:=()) (by first|rfl|kernel_rfl) ?_);refine Ak (Nz (a:=()) (by first|rfl|kernel_rfl) ?_)
  try dsimp only
  refine Ak (M1 c.typeIs Qyy ?_)
  try dsimp only
  refine Ak ?_;refine Ak (m:=isInstance (.ref t) (.type "dict")) (Ml (T:="tuple") (b:=false) c.typeIs Qvl ?_);refine Ak (m:=specialOf (.ref t) (Fa "__getitem__")) (M1 (name:=Fa "__getitem__") c.typeIs D8.lookup ?_);dsimp only;rw[if_pos (by decide +kernel)];refine Al ?_;simp only[Fk,Bq,if_false];refine Ak (PyProof.Rows.len_tuple (show A0j s.heap t items from c) (by rw[Sh]at hz;lia) ?_);refine Ak (Nz (a:=some (items.size:Int)) rfl ?_);dsimp only;refine Ak (m:=newObj _ _) (Di (data:=.fields #[.ref t,rawInt ((items.size:Int)-1)]) ?_ (by first|trivial|size_fits));exact Al ⟨_,rfl,h _⟩
theorem Qrr(hz:items.size<=sizeLine)(b:s.heap.IsTuple t items)
  (h:∀a,Q (.ref s.heap.objs.size) { s with heap:=s.heap.push (rObj t ((items.size:Int)-1)),toks:=a }):wpAny (model prog w) A (call (.type "reversed") [.ref t]) Q E s:=by
 refine callType_newIn Q0d (by decide) (F.typeCall_reversed_1 _) (F.newCall_reversed_1 _) (λobj=>Pp obj _) F.entry_reversed_new (Qm4 (items:=items) hz) ⟨b,λa=>?_⟩;exact⟨⟨_,Be _ rfl,rfl⟩,h a⟩
theorem Qm3{Q:Option Value->Shared->Prop}(b:Qdd s.heap it t (i:Int))(d:s.heap.IsTuple t items)(hz:items.size<=sizeLine)(c:items[i]? = some x)
  (f:∀h' e,Qdd h' it t ((i:Int)-1)->Dw it s.heap h'->Q (some x) { s with heap:=h',toks:=e }):wpAny (model prog w) A (pyNext (.ref it)) Q E s:=by
 obtain ⟨o,ho,g,hd⟩:=id b;unfold pyNext;refine Ak (Nr (De (name:=Fa "__next__") b.ty Ub
  (B4 Ub b.ty Qeb ?_ (Qhg _))))
 unfold Builtin.«reversed.__next__»;refine Ak (Nz (a:=(Ba it,[])) rfl ?_)
 try dsimp only
 refine Ak (Dk ho hd (x:=.ref t) rfl ?_);refine Ak (Dk ho hd (x:=rawInt (i:Int)) rfl ?_);show wpAny _ _ (if (i:Int)<0 then _ else _) _ _ s;rw[if_neg (by lia)];refine Ak (M1 (name:=Fa "__getitem__") d.typeIs D8.lookup ?_);rw[if_neg (by simp)];refine Ak (wpAny_mkInt ?_);have hz':=hz;rw[Sh]at hz';have hi:i<items.size:=by
  cases Nat.lt_or_ge i items.size with
  |inl h=>exact h
  |inr h=>rw[Ic h]at c;cases c
 refine Ak (Nr (PyProof.Rows.getItem_tuple (j:=i) (show A0j s.heap t items from d) (by lia) (by lia) (by unfold seqIndex?;simp;lia) c ?_));dsimp only;refine Ak (Dk ho hd (x:=rawInt (i:Int)) rfl ?_);dsimp only[rawInt];refine Ak (Nc ho hd (by simp) ?_);refine Al ⟨x,rfl,Al (f _ _ ?_ (Dd ..))⟩;exact⟨_,Fc _ ho (Rm (Mi hd _)),(T2 ..).trans g,by
  rw[Mi hd];simp;rfl⟩
theorem Qqr{Q:Option Value->Shared->Prop}(f:A.handled=none)(c:Qdd s.heap it t (-1))
  (h:∀h',Kz it s.heap h'->Q none { s with heap:=h' }):wpAny (model prog w) A (pyNext (.ref it)) Q E s:=by
 obtain ⟨o,ho,i,hd⟩:=id c;unfold pyNext;refine Ak (Nr (De (name:=Fa "__next__") c.ty Ub
  (B4 Ub c.ty Qeb ?_ (Qhg _))))
 unfold Builtin.«reversed.__next__»;refine Ak (Nz (a:=(Ba it,[])) rfl ?_)
 try dsimp only
 refine Ak (Dk ho hd (x:=.ref t) rfl ?_);refine Ak (Dk ho hd (x:=rawInt (-1)) rfl ?_);show wpAny _ _ (if (-1:Int)<0 then _ else _) _ _ s;rw[if_pos (by decide)];refine Ak (Mj ?_);refine Ak ?_;refine Ak (m:=setField (.ref it) 1 (rawInt (-1))) (Nc ho hd (by simp) ?_);have d:=Fc (A0b λx=>x.setIfInBounds 1 (rawInt (-1))) ho (Rm (Mi hd _));refine Nc d (Mi hd _) (by simp) ?_;refine Ak ?_;unfold Builtin.SmallTypes.stopIteration;refine Ak ?_;simp only[newExc,newTuple];refine Ak (Di ?_ (by size_fits));refine Ak (m:=firstArgMember _ _) (Nz (a:=Dc) (by first|rfl|(simp only[firstArgMember];rfl)) ?_);refine Di ?_ (by size_fits);simp only[raiseNew];refine Ak (Ii ?_)
 first|rw[show A.in1.handled=none from f]|rw[f]
 refine Ak (Al (K0 ?_));refine Ak (Ml (T:="StopIteration") (b:=true) ⟨_,Be _ rfl,rfl⟩ Tr ?_);exact Al (h _ λb u g e=>Ao _ (Ao _ (((Dd ..).2 b g).trans (((Dd ..).2 b g).trans e))))
theorem Qjz{i:Int}(a:Qdd s.heap it t i)(h:Q (.ref it) s):wpAny (model prog w) A (pyIter (.ref it)) Q E s:=by
 refine So a.ty Qf0 (B4 Qf0 a.ty Qk9 ?_ (Qpc _));show wpAny _ _ (ret (.ref it)) _ _ s;exact Al ⟨_,rfl,"reversed",_,a.ty,Ub.lookup,h⟩
theorem boot:bootBuiltins "reversed" = some (.type "reversed"):=by decide +kernel
end RV
namespace L2
open PySem PySem.Spec PyProof.Rows
def ItRv(K:Frag)(a:Addr)(n:Nat):It :=
 ⟨λi H=>∃xs x,SqT K H a xs/\xs.length=n/\i<n/\xs[n-1-i]? = some x,λi H x H'=>H'=H/\∀xs,SqT K H a xs->xs[n-1-i]? = some x,λi H=>n<=i⟩
theorem Qpn{K:Frag}(a it:Addr)(n:Nat):Turn P w K tg (ItRv K a n) [it] it (λi h=>i<=n/\RV.Qdd h it a ((n:Int)-1-(i:Int))) where
 mem:=by simp
 obj:=λi h st b f=>by
  have e:b=it:=by simpa using f
  subst e;obtain⟨_,o,e,c,d⟩:=st;exact⟨o,e,λv z=>by rw[d]at z;cases z⟩
 keep:=λi h h' st k=>⟨st.1,st.2.at λo e=>k it (by simp) o e⟩
 item:=by
  intro X r hw q L i pins s σ H E I j st hg;subst r hw q;obtain⟨xs,x,D,W,hi,F⟩:=hg;obtain⟨its,G,p,hz⟩:=I.tuple D;obtain⟨u,Q,R⟩:=G.get F;obtain⟨B,t,N,A,y,C⟩:=j it (by simp);obtain⟨m,st⟩:=st;have l:(n:Int)-1-(i:Int)=((n-1-i:Nat):Int):=by lia
  rw[l]at st;have V:=G.length;refine RV.Qm3 st (show s.heap.IsTuple a its.toArray from p) (by simp;lia) (x:=u) (by simpa using Q) λh' J g S=>?_;have O:Inv X pins σ H { s with heap:=h',toks:=J }:=I.turned (λb o f e=>(S.2 b f).trans e) B t A y C;have M:((n-1-i:Nat):Int)-1=(n:Int)-1-((i+1:Nat):Int):=by lia
  rw[M]at g;obtain⟨o,e,c,d⟩:=id g;exact⟨u,rfl,Qnz (s:={ s with heap:=h',toks:=J }) e c d (by decide) ⟨x,H,O,R,⟨rfl,λys T=>by rw[I.tuple_inj T D];exact F⟩,⟨hi,g⟩,λb f=>(j b f).1⟩⟩
 done:=by
  intro X r hw q L i pins s σ H E I j st hg;subst r hw q;obtain⟨B,t,N,A,y,C⟩:=j it (by simp);obtain⟨m,st⟩:=st;have:n<=i:=hg;have l:(n:Int)-1-(i:Int) = -1:=by lia
  rw[l]at st;exact RV.Qqr (I.ok.hd L) st λh' U=>⟨rfl,I.turned (t':=s.toks) (λb o f e=>U b o f e) B t A y C⟩
 self:=λ_ _ _ _ _ st h=>RV.Qjz st.2 h
def iRev(K:Frag)(ta:TA):TI:=λσ H R=>ta σ H λvs H1=>∃t xs,vs=[.ref t]/\SqT K H1 t xs/\R (ItRv K t xs.length) H1
theorem Qx7{a:Expr}(hg:Gl X "reversed")(hm:X.mg "reversed" = none)(i:PA X [a] ta)(m:starEach [a] X.env=[(false,eval a X.env)]:=by rfl):PI X tg (.Call (.Name "reversed" p) [a] [] pos) (iRev X.K ta):=by
 intro pins s σ H R I h;refine Call_ (Gh I hg hm RV.boot (Fq (thn (i pos pins s σ H _ I h) λus c ⟨vs,H1,f,r,w⟩=>?_) m rfl));obtain⟨t,xs,e,l,q⟩:=w;subst e;obtain⟨u,rfl,x⟩:=Vals.one r;cases x;obtain⟨its,v,n,hz⟩:=f.tuple l;have y:=v.length;refine RV.Qrr (items:=its.toArray) (by simp;lia) (show c.heap.IsTuple t its.toArray from n) λg=>?_;have j:Inv X pins σ H1 { c with heap:=c.heap.push (RV.rObj t ((its.toArray.size:Int)-1)),toks:=g }:=f.kept λb o e=>Ao _ e;have d:RV.Qdd (c.heap.push (RV.rObj t ((its.toArray.size:Int)-1))) c.heap.objs.size t ((xs.length:Int)-1-((0:Nat):Int)):=by
  have e:(xs.length:Int)-1-((0:Nat):Int)=(its.toArray.size:Int)-1:=by simp;lia
  rw[e];exact⟨_,Be _ rfl,rfl,rfl⟩
 refine RV.Qjz (s:={ c with heap:=c.heap.push (RV.rObj t ((its.toArray.size:Int)-1)),toks:=g }) d ⟨c.heap.objs.size,[c.heap.objs.size],_,_,H1,rfl,j,Qpn t _ xs.length,⟨Dq _,d⟩,λb k=>?_,q⟩;have e:b=c.heap.objs.size:=by simpa using k
 subst e;exact f.fpOk (At _) (f.hok.fresh (At _))
end L2
namespace PT
open PySem PySem.Spec
section
variable {K:Type}[DecidableEq K]
theorem Qgw{a b:Type}{f:a->b}:∀{l:List a}{i:Nat},(l.map f).eraseIdx i=(l.eraseIdx i).map f
 | [],_=>rfl
 |_::_,0=>rfl
 |x::l,i+1=>by rw[Ar,N9,N9,Ar,Qgw]
end
end PT
namespace Ek
open PySem PySem.Spec L2
abbrev MK:=Int ⊕ List Key
end Ek
variable {x y ks:List Ek.MK}{Q:Bool->Ss->Prop}{k:Ek.MK}{d:Fz}
namespace Ek
open PySem PySem.Spec L2
section
variable (P:Program)(w:World)
def is(h:Heap):MK->Value->Prop
 | .inl i,u=>∃t,u=.int i t
 | .inr ks,u=>∃b,u=.ref b/\(tupleKind (Qu P w)).is h ks b
def hash:MK->Int
 | .inl i=>hashInt i
 | .inr ks=>(tupleKind (Qu P w)).hash ks
def Vh:MK->Nat
 | .inl _=>1
 | .inr ks=>ks.length+1
end
section
variable {x y:MK}
theorem Qnr(d:is P w h x u)(a:is P w h y u):x=y:=by
 cases x with
 | inl i=>
  obtain⟨t,rfl⟩:=d;cases y with
  |inl j=>obtain⟨t',e⟩:=a;cases e;rfl
  |inr ks=>obtain⟨b,e,_⟩:=a;cases e
 | inr ks=>
  obtain⟨b,rfl,f⟩:=d;cases y with
  |inl j=>obtain⟨t',e⟩:=a;cases e
  | inr g=>
   obtain⟨k,e,c⟩:=a;cases e;rw[(tupleKind (Qu P w)).inj f c]
theorem V1{es ep}(a:is P w h x u)(ho:h.get? d=some o)(hd:o.data=.dict es ep)(f:Dw d h h'):is P w h' x u:=by
 cases x with
 |inl i=>exact a
 | inr ks=>
  obtain⟨b,e,c⟩:=a;exact⟨b,e,(tupleKind (Qu P w)).keeps c ho hd f⟩
theorem Qcu{Q:Int->Shared->Prop}(d:A.units<cLine)(a:is P w s.heap k u)(q:Q (hash P w k) { s with toks:=s.toks+Vh k }):wpAny (model P w) A (pyHash u) Q E s:=by
 cases k with
 |inl i=>obtain⟨t,rfl⟩:=a;exact L1 q
 |inr ks=>obtain⟨b,rfl,c⟩:=a;exact(tupleKind (Qu P w)).pyHash d c q
theorem Qgo{ks:List Key}(a:(tupleKind (Qu P w)).is h ks b):∃its,h.IsTuple b its:=by
 obtain⟨o,items,n,ho,c,hd,_⟩:=a;exact⟨items,o,ho,c,n,hd⟩
theorem Qns(d:A.units<cLine)(k:is P w s.heap x u)(c:is P w s.heap y v)(q:Q (decide (x=y)) s):wpAny (model P w) A (eqBool u v) Q E s:=by
 cases x with
 | inl i=>
  obtain⟨t,rfl⟩:=k;cases y with
  | inl j=>
   obtain⟨t',rfl⟩:=c;refine L3 ?_;have e:decide ((Fm i:MK)=.inl j)=decide (i=j):=by simp
   rw[e]at q;exact q
  | inr ks=>
   obtain⟨b,rfl,a⟩:=c;obtain⟨its,g⟩:=Qgo a;have e:decide ((Fm i:MK)=.inr ks)=false:=by simp
   rw[e]at q;exact P0 i t g d _ _ _ _ q
 | inr ks=>
  obtain⟨b,rfl,a⟩:=k;obtain⟨its,g⟩:=Qgo a;cases y with
  | inl j=>
   obtain⟨t',rfl⟩:=c;have e:decide ((N4 ks:MK)=.inl j)=false:=by simp
   rw[e]at q;exact P1 j t' g d _ _ _ _ q
  | inr h=>
   obtain⟨l,rfl,f⟩:=c;have e:decide ((N4 ks:MK)=.inr h)=decide (ks=h):=by simp
   rw[e]at q;exact(tupleKind (Qu P w)).eqBool d a f q
end
inductive Its(P:Program)(w:World)(h:Heap):List MK->List Value->Prop
 |nil:Its P w h [] []
 |cons {k:MK} {v:Value} {ks:List MK} {vs:List Value}:is P w h k v->Its P w h ks vs->Its P w h (k::ks) (v::vs)
def IsN(P:Program)(w:World)(h:Heap)(ks:List MK)(a:Addr):Prop:=∃o items n,h.get? a=some o/\o.cls=.type "tuple" /\ o.data=.seq items n/\Its P w h ks items.toList
theorem Its.inj(b:Its P w h x vs)(a:Its P w h y vs):x=y:=by
 induction b generalizing y with
 |nil=>cases a;rfl
 | cons h1 _ c=>
  cases a with
  |cons h2 d=>rw[Qnr h1 h2,c d]
theorem IsN.ty(x:IsN P w s.heap ks a):s.TypeIs (.ref a) "tuple":=let ⟨o,_,_,ho,b,_⟩:=x;⟨o,ho,b⟩
theorem IsN.inj(f:IsN P w h x a)(g:IsN P w h y a):x=y:=by
 obtain⟨o,items,n,ho,_,hd,hi⟩:=f;obtain⟨o',c,i,d,_,b,e⟩:=g;obtain rfl:o=o':=B3 (ho.symm.trans d);rw[hd]at b;injection b with h1 _;subst h1;exact hi.inj e
theorem IsN.keeps{es ep}(x:IsN P w h ks a)(ho:h.get? d=some o)(hd:o.data=.dict es ep)(f:Dw d h h'):IsN P w h' ks a:=by
 obtain ⟨o',items,n,c,i,b,hi⟩:=x;have e:a≠d:=by
  rintro rfl;obtain rfl:o'=o:=B3 (c.symm.trans ho);rw[hd]at b;exact nomatch b
 refine⟨o',items,n,(f.2 a e).trans c,i,b,?_⟩;generalize items.toList=vs at hi
 induction hi with
 |nil=>exact .nil
 |cons h1 _ g=>exact .cons (V1 h1 ho hd f) g
def Qv2(P:Program)(w:World)(ks:List MK):Int:=reduceHash (D7 (ks.map (hash P w)))
def Qog(ks:List MK):Nat:=(ks.map Vh).sum+1
theorem Qzz{Q:Int->Shared->Prop}(m:A.units+4<cLine)(l:IsN P w s.heap ks a)(h:Q (Qv2 P w ks) { s with toks:=s.toks+Qog ks }) :
  wpAny (model P w) A (pyHash (.ref a)) Q E s:=by
 have i:=l.ty;obtain⟨o,items,n,ho,_,hd,hi⟩:=l;unfold pyHash
 first|unfold pyHashByItsType|skip
 first|refine Ak (wpAny_cRoomFor_or (.inr (by lia)) ?_)|skip
 refine Ak (M1 i T5.lookup ?_);show wpAny _ _ (if (some (Value.builtin "tuple.__hash__")==some Dc)=true then _ else _) Q E s;rw[if_neg (by rw[beq_builtin_none];exact Bt)];refine Ak (M1 i T5.lookup ?_);show wpAny _ _ (callSpecialIfBoundUnlessNone? (.ref a) "__hash__" _ >>= _) Q E s;refine Ak (wpAny_callSpecialIfBoundUnlessNone?_slot i T5 (B4 T5 i F.entry_tuple_hash ?_ (F.args_tuple_hash_1 _)));show wpAny _ _ (S4 (.ref a) >>= _) _ _ s;refine Ak (K8 ho hd ?_);refine Ak ?_;rw[← Tn];refine Mk _
  (λrest (b:Array Int) s'=>∃done c,ks=done++c/\Its P w s.heap c rest/\b.toList=done.map (hash P w)/\s'={ s with toks:=s.toks+(done.map Vh).sum })
  _ ?_ ?_ _ _ ⟨[],ks,rfl,hi,rfl,rfl⟩
 ·rintro x rest b s' ⟨done,c,rfl,j,g,rfl⟩;cases j with
  | @cons k _ d _ h1 e=>
   refine Ak (Qcu (k:=k) ?_ h1 ?_)
   ·show A.units+1<cLine;lia
   ·first
     |exact Al ⟨done++[k],d,by simp,e,by simp[g],by simp[Rt]⟩
     |exact Ak (Al (Al ⟨done++[k],d,by simp,e,by simp[g],by simp[Rt]⟩))
 ·rintro b s' ⟨done,c,rfl,j,g,rfl⟩;cases j;rw[Dz]at h;show wpAny _ _ (retInt (D7 b.toList)) _ _ _;rw[g];refine wpAny_ret_mkInt ?_;show wpAny _ _ (if (decide (-(2:Int) ^ 63<=D7 (done.map (hash P w)))&&decide (D7 (done.map (hash P w))<2 ^ 63))=true then _ else _) Q E _;unfold Qv2 reduceHash Qog at h;by_cases f:(decide (-(2:Int) ^ 63<=D7 (done.map (hash P w)))&&decide (D7 (done.map (hash P w))<2 ^ 63))=true
  ·rw[if_pos f];rw[if_pos f]at h;exact Al (by simpa[Rt]using h)
  ·rw[if_neg f];rw[if_neg f]at h;exact Ak (Mj (Al (by simpa[Rt]using h)))
theorem Qv9{R:PySem.Fin->Shared->Prop}(S:A.units<cLine)(Q:IsN P w s.heap x a)(N:IsN P w s.heap y b)(h:R (.done (.ret (.bool (decide (x=y))))) s) :
  wpAny (model P w) A (Builtin.«tuple.__eq__» ⟨[.ref a,.ref b],[]⟩) R E s:=by
 have C:=N.ty;obtain⟨Z,xs,U,B,_,K,F⟩:=Q;obtain⟨ob,ys,W,H,_,J,I⟩:=N;show wpAny _ _ (isInstance (.ref b) (.type "tuple") >>= _) _ _ s;refine Ak (Ml C Ix ?_);simp only[Fk,Bq,if_false];refine Ak (K8 B K ?_);refine Ak (K8 H J ?_);refine Ak ?_;refine Mk _
  (λrest r s'=>r.1=none/\s'=s/\∃t z f d,rest=List.zip f d/\Its P w s.heap t f/\Its P w s.heap z d/\decide (t=z)=decide (x=y)/\(f.length==d.length)=(xs.size==ys.size))
  _ ?_ ?_ _ _ ⟨rfl,rfl,x,y,xs.toList,ys.toList,rfl,F,I,rfl,by simp⟩
 ·rintro ⟨u,v⟩ rest r s' ⟨D,rfl,t,z,f,d,hz,i,g,c,e⟩;cases i with
  |nil=>simp at hz
  | @cons L Y k n h1 o=>
   cases g with
   |nil=>simp at hz
   | @cons M T m q h2 j=>
    simp only[K4,Rn,Prod.mk.injEq]at hz;obtain⟨⟨rfl,rfl⟩,rfl⟩:=hz;refine Ak (Qns (x:=L) (y:=M) S h1 h2 ?_);by_cases G:L=M
    ·subst G;rw[decide_eq_true rfl];simp only[Fk,Bq,if_false];refine Al ⟨rfl,rfl,k,m,n,q,rfl,o,j,?_,by simpa using e⟩;rw[← c];by_cases l:k=m
     ·simp[l]
     ·simp[l]
    ·rw[decide_eq_false G];simp only[Bool.not_false,if_true];have O:decide (x=y)=false:=by rw[← c];simp[G]
     rw[O]at h;exact Ak (Al (Al (Al h)))
 ·rintro ⟨X,V⟩ s' ⟨D,rfl,t,z,f,d,hz,i,g,c,e⟩;simp only at D;subst D;refine Al ?_;have p:(xs.size==ys.size)=decide (x=y):=by
   rw[← c,← e];cases i with
   | nil=>
    cases g with
    |nil=>simp
    |cons _ _=>simp
   | cons _ _=>
    cases g with
    |nil=>simp
    |cons _ _=>simp at hz
  show R (.done (.ret (.bool (xs.size==ys.size)))) s';rw[p];exact h
theorem eq_N(g:A.units+4<cLine)(d:IsN P w s.heap x a)(f:IsN P w s.heap y b)(h:Q (decide (x=y)) s) :
  wpAny (model P w) A (eqBool (.ref a) (.ref b)) Q E s:=by
 unfold eqBool
 try with_reducible refine Dx ?_
 show wpAny _ _ (if (Ba a==Ba b)=true then _ else _) Q E s;by_cases c:(Ba a==Ba b)=true
 ·rw[if_pos c];have e:a=b:=by have:=eq_of_beq c;injection this
  subst e;obtain rfl:=d.inj f;exact Ak (Mj (Al (by simpa using h)))
 ·rw [if_neg c];exact Ak (K9 (op:=.Eq) d.ty f.ty Td
   (B4 Td d.ty F.entry_tuple_eq (Qv9 (by show A.units+1<cLine;lia) d f ⟨_,rfl,(λe=>nomatch e),Ln h⟩) (F.args_tuple_eq_2 _ _)) (by lia))
theorem Qx0(e:is P w s.heap k u)(q:Q true s):wpAny (model P w) A (eqIsQuiet 7 u) Q E s:=by
 cases k with
 | inl i=>
  obtain⟨t,rfl⟩:=e;rw[Lp 7 (v:=.int i t) rfl];exact Al q
 | inr ks=>
  obtain⟨a,rfl,g⟩:=e;have f:s.TypeIs (.ref a) "tuple":=IsTupleKey.typeIs g;obtain⟨o,items,n,ho,_,hd,hi⟩:=g;unfold eqIsQuiet;refine Ak (M1 f Td.lookup ?_);show wpAny _ _ (isInstance (.ref a) (.type "tuple") >>= _) _ _ s;refine Ak (Ml f Ix ?_);simp only[Fk,Bq,if_false];refine Ak (Mn ho hd ?_);refine Ak ?_;show wpAny _ _ (forIn items _ _) _ _ s;rw[← Tn];refine Mk _ (λrest r s'=>r.1=none/\s'=s/\∀v∈rest,carriedByValue v=true) _ ?_ ?_ _ _ ⟨rfl,rfl,hi.byValue⟩
  ·rintro v rest r s' ⟨d,rfl,b⟩;rw[Lp _ (b v An)];refine Ak (Al ?_);simp only[Fk,Bq,if_false];exact Al ⟨rfl,rfl,λu c=>b u (Am _ c)⟩
  ·rintro⟨j,h⟩ s' ⟨d,rfl,_⟩;simp only at d;subst d;exact Al q
theorem Qus(f:IsN P w s.heap ks a)(h:Q true s):wpAny (model P w) A (eqIsQuiet 8 (.ref a)) Q E s:=by
 have e:=f.ty;obtain⟨o,items,n,ho,_,hd,hi⟩:=f;unfold eqIsQuiet;refine Ak (M1 e Td.lookup ?_);show wpAny _ _ (isInstance (.ref a) (.type "tuple") >>= _) _ _ s;refine Ak (Ml e Ix ?_);simp only[Fk,Bq,if_false];refine Ak (Mn ho hd ?_);refine Ak ?_;show wpAny _ _ (forIn items _ _) _ _ s;rw[← Tn];refine Mk _ (λrest r s'=>r.1=none/\s'=s/\∃b,Its P w s.heap b rest) _ ?_ ?_ _ _ ⟨rfl,rfl,_,hi⟩
 ·rintro v rest r s' ⟨d,rfl,b,c⟩;cases c with
  | cons h1 g=>
   refine Ak (Qx0 h1 ?_);simp only[Fk,Bq,if_false];exact Al ⟨rfl,rfl,_,g⟩
 ·rintro⟨j,i⟩ s' ⟨d,rfl,_⟩;simp only at d;subst d;exact Al h
end Ek
namespace Mx
open PySem PySem.Spec L2
abbrev MK:=Int ⊕ List Ek.MK
end Mx
variable {x y:L2.V}{es:Array PySem.DictEntry}{k:Mx.MK}{ep:Nat}
namespace Mx
open PySem PySem.Spec L2
section
variable (P:Program)(w:World)
def is(h:Heap):MK->Value->Prop
 | .inl i,u=>∃t,u=.int i t
 | .inr ks,u=>∃b,u=.ref b/\Ek.IsN P w h ks b
def hash:MK->Int
 | .inl i=>hashInt i
 | .inr ks=>Ek.Qv2 P w ks
def Vh:MK->Nat
 | .inl _=>1
 | .inr ks=>Ek.Qog ks
end
section
variable {x y:MK}
theorem Qnr(d:is P w h x u)(a:is P w h y u):x=y:=by
 cases x with
 | inl i=>
  obtain⟨t,rfl⟩:=d;cases y with
  |inl j=>obtain⟨t',e⟩:=a;cases e;rfl
  |inr ks=>obtain⟨b,e,_⟩:=a;cases e
 | inr ks=>
  obtain⟨b,rfl,f⟩:=d;cases y with
  |inl j=>obtain⟨t',e⟩:=a;cases e
  | inr g=>
   obtain⟨k,e,c⟩:=a;cases e;rw[f.inj c]
theorem V1{es ep}(a:is P w h x u)(ho:h.get? d=some o)(hd:o.data=.dict es ep)(f:Dw d h h'):is P w h' x u:=by
 cases x with
 |inl i=>exact a
 | inr ks=>
  obtain⟨b,e,c⟩:=a;exact⟨b,e,c.keeps ho hd f⟩
theorem Qcu{Q:Int->Shared->Prop}(d:A.units+4<cLine)(a:is P w s.heap k u)(q:Q (hash P w k) { s with toks:=s.toks+Vh k }):wpAny (model P w) A (pyHash u) Q E s:=by
 cases k with
 |inl i=>obtain⟨t,rfl⟩:=a;exact L1 q
 |inr ks=>obtain⟨b,rfl,c⟩:=a;exact Ek.Qzz d c q
theorem Qgo(a:Ek.IsN P w h ks b):∃its,h.IsTuple b its:=by
 obtain⟨o,items,n,ho,c,hd,_⟩:=a;exact⟨items,o,ho,c,n,hd⟩
theorem Qns(k:A.units+4<cLine)(h:is P w s.heap x u)(c:is P w s.heap y v)(q:Q (decide (x=y)) s):wpAny (model P w) A (eqBool u v) Q E s:=by
 cases x with
 | inl i=>
  obtain⟨t,rfl⟩:=h;cases y with
  | inl j=>
   obtain⟨t',rfl⟩:=c;refine L3 ?_;have e:decide ((Fm i:MK)=.inl j)=decide (i=j):=by simp
   rw[e]at q;exact q
  | inr ks=>
   obtain⟨b,rfl,a⟩:=c;obtain⟨its,f⟩:=Qgo a;have e:decide ((Fm i:MK)=.inr ks)=false:=by simp
   rw[e]at q;exact P0 i t f (by lia) _ _ _ _ q
 | inr ks=>
  obtain⟨b,rfl,a⟩:=h;obtain⟨its,f⟩:=Qgo a;cases y with
  | inl j=>
   obtain⟨t',rfl⟩:=c;have e:decide ((N4 ks:MK)=.inl j)=false:=by simp
   rw[e]at q;exact P1 j t' f (by lia) _ _ _ _ q
  | inr g=>
   obtain⟨l,rfl,d⟩:=c;have e:decide ((N4 ks:MK)=.inr g)=decide (ks=g):=by simp
   rw[e]at q;exact Ek.eq_N k a d q
theorem Qj0(a:is P w s.heap k u)(q:Q true s):wpAny (model P w) A (eqIsQuiet 8 u) Q E s:=by
 cases k with
 | inl i=>
  obtain⟨t,rfl⟩:=a;rw[Lp 8 (v:=.int i t) rfl];exact Al q
 | inr ks=>
  obtain⟨b,rfl,c⟩:=a;exact Ek.Qus c q
end
section
variable (P:Program)(w:World)
def ent(x:MK×Value×Value):DictEntry:={ hash:=hash P w x.1,key:=x.2.1,val:=x.2.2 }
end
section
variable {xs:List (MK×Value×Value)}
theorem Gj(a:es.toList=xs.map (ent P w))(j:Nat):es[j]? = (xs[j]?).map (ent P w):=by
 rw[← Mc,a,Bh]
theorem Va(a:es.toList=xs.map (ent P w)):es.size=xs.length:=by rw[← Mw,a,Ap]
abbrev pl(P:Program)(w:World)(es:Array DictEntry)(k:MK):List Nat:=placesWithHash es.size (λi=>es[i]?.map (·.hash)) (hash P w k)
theorem Qch(b:es.toList=xs.map (ent P w)):i∈pl P w es k↔∃x,xs[i]? = some x/\hash P w x.1=hash P w k:=by
 show i∈(Aq es.size).filter _↔_;rw[Do,Bl];show i<es.size/\((es[i]?.map (·.hash))==some (hash P w k))=true↔_;rw[Gj b,Va b];constructor
 ·rintro⟨hi,a⟩;refine⟨xs[i],Bu hi,?_⟩;rw[Bu hi]at a;simpa[ent]using a
 ·rintro⟨x,c,a⟩;exact⟨(Au.mp c).1,by rw[c];simpa[ent]using a⟩
theorem Qjk:(pl P w es k).Nodup:=S1 _ Ff
theorem Qne(a:(xs.map (·.1)).Nodup){p q:Value×Value}(hi:xs[i]? = some (k,p))(b:xs[j]? = some (k,q)):i=j:=by
 have h1:(xs.map (·.1))[i]? = some k:=by rw[Bh,hi];rfl
 have h2:(xs.map (·.1))[j]? = some k:=by rw[Bh,b];rfl
 exact(A0q (Au.mp h1).1 a).mp (h1.trans h2.symm)
theorem Qkk{Q:Option Nat->Shared->Prop}(v:A.units+4<cLine)(z:is P w s.heap k u)(ho:s.heap.get? d=some o)(hd:o.data=.dict es ep)(n:es.toList=xs.map (ent P w))(q:∀x∈xs,is P w s.heap x.1 x.2.1)
  (g:(∀(j:Nat)(p:Value×Value),xs[j]? ≠ some (k,p))->Q none s) (h:∀(j:Nat)(p:Value×Value),xs[j]? = some (k,p)->Q (some j) s):wpAny (model P w) A (dictWalkPlain d u (hash P w k) es (pl P w es k)) Q E s:=by
 unfold dictWalkPlain
 refine Ak ?_;refine Mk _ (λrest b s'=>s'=s/\b=(none,())/\∃done,done++rest=pl P w es k/\∀j∈done,∀p,xs[j]? ≠ some (k,p)) _ ?_ ?_ _ _ ⟨rfl,rfl,[],rfl,λj c=>nomatch c⟩
 ·rintro i rest b s' ⟨rfl,rfl,done,a,f⟩;have m:i∈pl P w es k:=by rw[← a];simp
  obtain⟨x,l,t⟩:=(Qch n).mp m
  rw[Gj n,l];show wpAny _ _ (if (hash P w x.1==hash P w k)=true then _ else _) _ _ _;rw[if_pos (by simpa using t)];refine Ak (Fd ho hd (Ak (Qns (x:=x.1) (y:=k) v (q x (Bk l)) z (Ak (Fd ho hd ?_)))));show wpAny _ _ (if (ep != ep)=true then _ else _) _ _ _;rw[if_neg (by simp)];by_cases e:x.1=k
  ·rw[decide_eq_true e];exact Ak (Mj (Al (Al (h i x.2 (by rw[l,← e])))))
  ·rw[decide_eq_false e];refine Ak (Mj (Al ⟨rfl,rfl,done++[i],by rw[Me];exact a,λj c p r=>?_⟩));rcases Bx.mp c with c|c
   ·exact f j c p r
   ·rw[Aw.mp c,l]at r;cases r;exact e rfl
 ·rintro b s' ⟨rfl,rfl,done,a,f⟩;rw[Dz]at a;exact Al (g λj p c=>f j (by rw[a];exact(Qch n).mpr ⟨_,c,rfl⟩) p c)
theorem Qfv{st:List Value}(d:is P w s.heap k u)(a:∀v∈st,∃x,is P w s.heap x v)(q:Q false s):wpAny (model P w) A (tableMayTell u st) Q E s:=by
 unfold tableMayTell;split
 ·exact Al q
 ·refine Ak (Qj0 d ?_);simp only[Fk,Bq,if_false];refine Ak (Mk _ (λrest r s'=>r=(none,())/\s'=s/\∀v∈rest,∃x,is P w s.heap x v) _ ?_ ?_ _ _ ⟨rfl,rfl,a⟩)
  ·rintro v rest r s' ⟨rfl,rfl,b⟩;obtain⟨x,c⟩:=b v An;refine Ak (Qj0 c ?_);simp only[Fk,Bq,if_false];exact Al ⟨rfl,rfl,λz hz=>b z (Am _ hz)⟩
  ·rintro r s' ⟨rfl,rfl,_⟩;exact Al q
theorem find{Q:Option Nat->Shared->Prop}(O:A.units+4<cLine)(H:is P w s.heap k u)(ho:s.heap.get? d=some o)(hd:o.data=.dict es ep)(F:es.toList=xs.map (ent P w))(D:∀x∈xs,is P w s.heap x.1 x.2.1)(U:(xs.map (·.1)).Nodup)
  (r:(∀(j:Nat)(p:Value×Value),xs[j]? ≠ some (k,p))->Q none s) (h:∀(j:Nat)(p:Value×Value),xs[j]? = some (k,p)->Q (some j) s):wpAny (model P w) A (dictFind d u (hash P w k)) Q E s:=by
 have K:∀v∈(pl P w es k).filterMap (λi=>es[i]?.map (·.key)),∃x,is P w s.heap x v:=λv M=>by
  obtain⟨i,hi,M⟩:=Sb.mp M;obtain⟨x,B,_⟩:=(Qch F).mp hi;rw[Gj F,B]at M;cases M;exact⟨x.1,D x (Bk B)⟩
 have L:¬(es.any λe=>e.key==u&&e.hash != hash P w k)=true:=by
  rw[← Array.any_toList,Ip];rintro⟨e,C,S⟩;rw[F]at C
  obtain⟨x,B,rfl⟩:=As.mp C
  rw[B6]at S;have W:x.2.1=u:=by have:=S.1;simpa[ent]using this
  have V:hash P w x.1≠hash P w k:=by have:=S.2;simpa[ent]using this
  have h1:=D x B;rw[W]at h1;exact V (by rw[Qnr h1 H])
 unfold dictFind
 try with_reducible refine Dx ?_
 refine Ak (Dj ho hd ?_);have I:=Qkk (E:=E) O H ho hd F D r h;cases k with
 | inl i=>
  obtain⟨t,rfl⟩:=id H;dsimp only;by_cases T:((N6 i t::(pl P w es (.inl i)).filterMap (λi=>es[i]?.map (·.key))).all carriedByValue)=true
  ·rw[if_pos T];exact I
  rw[if_neg T];by_cases m:(((pl P w es (.inl i)).filterMap (λi=>es[i]?.map (·.key))) == [N6 i t])=true <;>
  (first|rw[if_pos m]|rw[if_neg m])<;>(first|refine Ak (Al ?_)|refine Ak (Qfv H K ?_))<;>(
   rw [if_neg (by simp)];refine Ak (Mk _ (λrest b s'=>s'=s/\∃f done,b=(none,f)/\done++rest=pl P w es (.inl i) /\
    ((f=none/\∀j∈done,∀p,xs[j]? ≠ some ((.inl i),p))\/∃j p,f=some j/\j∈done/\xs[j]? = some ((.inl i),p))) _ ?_ ?_ _ _ ⟨rfl,none,[],rfl,rfl,.inl ⟨rfl,λj c=>nomatch c⟩⟩)
   ·rintro n rest R s' ⟨rfl,f,done,rfl,a,G⟩;have C:n∈pl P w es (.inl i):=by rw[← a];simp
    obtain⟨x,B,N⟩:=(Qch F).mp C
    rw[Gj F,B];show wpAny _ _ (if (hash P w x.1==hash P w (.inl i))=true then _ else _) _ _ _;rw[if_pos (by simpa using N)];refine Ak (Fd ho hd (Ak (Qns (x:=x.1) (y:=(.inl i)) O (D x (Bk B)) H (Ak (Fd ho hd ?_)))));show wpAny _ _ (if (ep != ep)=true then _ else _) _ _ _;rw[if_neg (by simp)];by_cases l:x.1=(.inl i)
    ·rw [decide_eq_true l];have z:xs[n]? = some ((.inl i),x.2):=by rw[B,← l]
     rcases G with⟨rfl,_⟩|⟨j,p,_,c,g⟩
     ·simp only[A0k,Bq,if_false,if_true,reduceIte];refine Ak (Mj ?_);split
      ·exact Al (Al (h n _ z))
      ·exact Al ⟨rfl,some n,done++[n],rfl,by rw[Me];exact a,.inr ⟨n,_,rfl,by simp,z⟩⟩
     ·have:=Qne U g z;subst this;have nd:(done++j::rest).Nodup:=by rw[a];exact Qjk
      exact absurd rfl ((Fl.mp nd).2.2 j c j An)
    ·rw [decide_eq_false l];simp only[Bq,if_false,reduceIte,O7,Pf];refine Ak (Mj (Al ⟨rfl,f,done++[n],rfl,by rw[Me];exact a,?_⟩));rcases G with⟨h0,q⟩|⟨j,p,h1,c,g⟩
     ·refine .inl ⟨h0,λj c p J=>?_⟩;rcases Bx.mp c with c|c
      ·exact q j c p J
      ·rw[Aw.mp c,B]at J;cases J;exact l rfl
     ·exact .inr ⟨j,p,h1,by simp[c],g⟩
   ·rintro R s' ⟨rfl,f,done,rfl,a,G⟩;rw[Dz]at a;rcases G with⟨rfl,q⟩|⟨j,p,rfl,c,g⟩
    ·exact Al (r λj p c=>q j (by rw[a];exact(Qch F).mpr ⟨_,c,rfl⟩) p c)
    ·exact Al (h j p g))
 | inr ks=>
  obtain⟨b,rfl,X⟩:=id H;dsimp only;rw[if_neg (by simp[carriedByValue]),if_neg L];by_cases m:(((pl P w es (.inr ks)).filterMap (λi=>es[i]?.map (·.key))) == [Ba b])=true <;>
  (first|rw[if_pos m]|rw[if_neg m])<;>(first|refine Ak (Al ?_)|refine Ak (Qfv H K ?_))<;>(
   rw [if_neg (by simp)];refine Ak (Mk _ (λrest b s'=>s'=s/\∃f done,b=(none,f)/\done++rest=pl P w es (.inr ks) /\
    ((f=none/\∀j∈done,∀p,xs[j]? ≠ some ((.inr ks),p))\/∃j p,f=some j/\j∈done/\xs[j]? = some ((.inr ks),p))) _ ?_ ?_ _ _ ⟨rfl,none,[],rfl,rfl,.inl ⟨rfl,λj c=>nomatch c⟩⟩)
   ·rintro n rest R s' ⟨rfl,f,done,rfl,a,G⟩;have C:n∈pl P w es (.inr ks):=by rw[← a];simp
    obtain⟨x,B,N⟩:=(Qch F).mp C
    rw[Gj F,B];show wpAny _ _ (if (hash P w x.1==hash P w (.inr ks))=true then _ else _) _ _ _;rw[if_pos (by simpa using N)];refine Ak (Fd ho hd (Ak (Qns (x:=x.1) (y:=(.inr ks)) O (D x (Bk B)) H (Ak (Fd ho hd ?_)))));show wpAny _ _ (if (ep != ep)=true then _ else _) _ _ _;rw[if_neg (by simp)];by_cases l:x.1=(.inr ks)
    ·rw [decide_eq_true l];have z:xs[n]? = some ((.inr ks),x.2):=by rw[B,← l]
     rcases G with⟨rfl,_⟩|⟨j,p,_,c,g⟩
     ·simp only[A0k,Bq,if_false,if_true,reduceIte];refine Ak (Mj ?_);split
      ·exact Al (Al (h n _ z))
      ·exact Al ⟨rfl,some n,done++[n],rfl,by rw[Me];exact a,.inr ⟨n,_,rfl,by simp,z⟩⟩
     ·have:=Qne U g z;subst this;have nd:(done++j::rest).Nodup:=by rw[a];exact Qjk
      exact absurd rfl ((Fl.mp nd).2.2 j c j An)
    ·rw [decide_eq_false l];simp only[Bq,if_false,reduceIte,O7,Pf];refine Ak (Mj (Al ⟨rfl,f,done++[n],rfl,by rw[Me];exact a,?_⟩));rcases G with⟨h0,q⟩|⟨j,p,h1,c,g⟩
     ·refine .inl ⟨h0,λj c p J=>?_⟩;rcases Bx.mp c with c|c
      ·exact q j c p J
      ·rw[Aw.mp c,B]at J;cases J;exact l rfl
     ·exact .inr ⟨j,p,h1,by simp[c],g⟩
   ·rintro R s' ⟨rfl,f,done,rfl,a,G⟩;rw[Dz]at a;rcases G with⟨rfl,q⟩|⟨j,p,rfl,c,g⟩
    ·exact Al (r λj p c=>q j (by rw[a];exact(Qch F).mpr ⟨_,c,rfl⟩) p c)
    ·exact Al (h j p g))
end
abbrev XS:=List (MK×Value×Value)
end Mx
variable {xs:Mx.XS}{Q:Fb->Ss->Prop}{dflt:Fb}
namespace Mx
open PySem PySem.Spec L2
def atM(xs:XS)(k:MK):Option (Value×Value):=(xs.find? λx=>decide (x.1=k)).map (·.2)
def putM(xs:XS)(k:MK)(u v:Value):XS:=if (atM xs k).isSome=true then xs.map (λx=>if x.1=k then (x.1,x.2.1,v)else x)else xs++[(k,u,v)]
def Qgz(xs:XS)(k:MK):XS:=xs.filter λx=>decide (x.1≠k)
theorem Qdb:∀{xs:XS}{j:Nat}{k:MK}{p:Value×Value},(xs.map (·.1)).Nodup->xs[j]? = some (k,p)->atM xs k=some p
 | x::xs,0,k,p,_,h=>by
  cases h;unfold atM;rw[Mt (by simp)];rfl
 | x::xs,j+1,k,p,b,h=>by
  obtain⟨h1,h2⟩:=Bf.mp b;have h':xs[j]? = some (k,p):=by simpa using h
  have a:x.1≠k:=λe=>h1 (by show x.1∈_;rw[e];exact As.mpr ⟨_,Bk h',rfl⟩);have:=Qdb h2 h';unfold atM at this ⊢;rw[Mu (by simpa using a)];exact this
theorem Qbr(h:∀(j:Nat)(p:Value×Value),xs[j]? ≠ some (k,p)):atM xs k=none:=by
 unfold atM;rw[List.find?_eq_none.mpr ?_]
 ·rfl
 ·intro x a c;obtain⟨j,b⟩:=Sw.mp a;have e:x.1=k:=of_decide_eq_true c;exact h j x.2 (by rw[b,← e])
section
variable (P:Program)(w:World)
def Y6(h:Heap)(d:Addr)(xs:XS):Prop:=∃o es ep,h.get? d=some o/\o.ExactDict/\o.data=.dict es ep/\es.toList=xs.map (ent P w)/\(∀x∈xs,is P w h x.1 x.2.1)/\(xs.map (·.1)).Nodup
end
theorem Y6.ty(m:Y6 P w s.heap d xs):s.TypeIs (.ref d) "dict":=by
 obtain⟨o,_,_,ho,a,_⟩:=m;exact⟨o,ho,a.1⟩
theorem get{Q:Option Value->Shared->Prop}(e:A.units+4<cLine)(h:is P w s.heap k u)(m:Y6 P w s.heap d xs)(q:Q ((atM xs k).map (·.2)) { s with toks:=s.toks+Vh k }):wpAny (model P w) A (dictGet d u) Q E s:=by
 obtain⟨o,es,ep,ho,_,hd,c,a,f⟩:=m;unfold dictGet
 try with_reducible refine Dx ?_
 refine Ak (Qcu e h (Ak (find (s:={ s with toks:=s.toks+Vh k }) e h ho hd c a f (λb=>?_) λj p g=>?_)))
 ·rw[Qbr b]at q;exact Al q
 ·rw[Qdb f g]at q;refine Ak (Dj (s:={ s with toks:=s.toks+Vh k }) ho hd ?_);rw[Gj c j,g];exact Al q
theorem Qqu(h:k∉xs.map (·.1)):(xs.map λx=>if x.1=k then (x.1,x.2.1,v)else x)=xs:=by
 have:(xs.map λx=>if x.1=k then (x.1,x.2.1,v)else x)=xs.map id:=B0 λx a=>if_neg λe=>h (by rw[← e];exact As.mpr ⟨x,a,rfl⟩);rw[this,O3]
theorem Qm7{k:MK}{v:Value}:∀{xs:XS}{j:Nat}{p:Value×Value},(xs.map (·.1)).Nodup->xs[j]? = some (k,p)->(xs.map (ent P w)).modify j (λe=>{ e with val:=v })=(xs.map λx=>if x.1=k then (x.1,x.2.1,v)else x).map (ent P w)
 | x::xs,0,p,a,h=>by
  cases h;obtain⟨h1,_⟩:=Bf.mp a;rw[Ar,Ar,Qqu h1,if_pos rfl];rfl
 | x::xs,j+1,p,a,h=>by
  obtain⟨h1,h2⟩:=Bf.mp a;have h':xs[j]? = some (k,p):=by simpa using h
  have b:x.1≠k:=λe=>h1 (by show x.1∈_;rw[e];exact As.mpr ⟨_,Bk h',rfl⟩);rw[Ar,Ar,if_neg b,Ar,← Qm7 h2 h'];rfl
theorem set{Q:Unit->Shared->Prop}(C:A.units+4<cLine)(z:is P w s.heap k u)(m:Y6 P w s.heap d xs)(hz:xs.length<=sizeLine)
  (q:∀h',Y6 P w h' d (putM xs k u v)->Dw d s.heap h'->Q () { s with heap:=h',toks:=s.toks+Vh k }):wpAny (model P w) A (dictSet d u v) Q E s:=by
 obtain⟨o,es,ep,ho,F,hd,t,f,n⟩:=m;unfold dictSet
 try with_reducible refine Dx ?_
 refine Ak (Qcu C z ?_);unfold dictSetHashed
 try with_reducible refine Dx ?_
 refine Ak (find (s:={ s with toks:=s.toks+Vh k }) C z ho hd t f n (λh=>?_) λj p r=>?_)
 ·have g:putM xs k u v=xs++[(k,u,v)]:=by unfold putM;rw[Qbr h];rfl
  have i:k∉xs.map (·.1):=λhm=>by
   obtain⟨x,c,rfl⟩:=As.mp hm;obtain⟨j,r⟩:=Sw.mp c;exact h j x.2 r
  refine Ak (Mj (Ki (hz:=by have e:=Va t;lia) (s:={ s with toks:=s.toks+Vh k }) ho hd (q _ ⟨_,_,ep+1,Fc _ ho (R5 (Mp hd _)),
   F.mapDictKeys _,Mp hd _,?_,?_,?_⟩ (Dd ..))))
  ·rw[g];simp[t,ent]
  ·rw[g];intro x c;rcases Bx.mp c with c|c
   ·exact V1 (f x c) ho hd (Dd ..)
   ·rw[Aw.mp c];exact V1 z ho hd (Dd ..)
  ·rw[g,B7];refine Fl.mpr ⟨n,by simp,λa G b B=>?_⟩;rw[Ar,Bm,Aw]at B;subst B;exactλe=>i (e ▸ G)
 ·have g:putM xs k u v=xs.map (λx=>if x.1=k then (x.1,x.2.1,v)else x):=by unfold putM;rw[Qdb n r];rfl
  refine Ak (Mj (Ak (wpAny_updateDict (s:={ s with toks:=s.toks+Vh k }) ho hd (wpAny_point (q _ ⟨_,_,ep,Fc _ ho (R5 (Obj.data_mapDict hd _)),
   F.mapDict _,Obj.data_mapDict hd _,?_,?_,?_⟩ (Dd ..))))))
  ·rw[g,← Qm7 n r,← t];obtain⟨l⟩:=es;simp
  ·rw[g];intro x c;obtain⟨y,D,rfl⟩:=As.mp c;split
   ·exact V1 (f y D) ho hd (Dd ..)
   ·exact V1 (f y D) ho hd (Dd ..)
  ·rw [g,Bg];have:((λx:MK×Value×Value=>x.1) ∘ λx:MK×Value×Value=>if x.1=k then (x.1,x.2.1,v)else x)=λx=>x.1:=by
    funext x;show(if x.1=k then (x.1,x.2.1,v)else x).1=x.1
    split<;>rfl
   rw[this];exact n
theorem Qof{k:MK}:∀{xs:XS}{j:Nat}{p:Value×Value},(xs.map (·.1)).Nodup->xs[j]? = some (k,p)->xs.eraseIdx j=Qgz xs k
 | x::xs,0,p,a,h=>by
  cases h;obtain⟨h1,_⟩:=Bf.mp a;unfold Qgz;rw[Oi,D2 (by simp)];refine(Ks.mpr λy c=>?_).symm;exact decide_eq_true λe=>h1 (by show k∈_;rw[← e];exact As.mpr ⟨y,c,rfl⟩)
 | x::xs,j+1,p,a,h=>by
  obtain⟨h1,h2⟩:=Bf.mp a;have h':xs[j]? = some (k,p):=by simpa using h
  have b:x.1≠k:=λe=>h1 (by show x.1∈_;rw[e];exact As.mpr ⟨_,Bk h',rfl⟩);rw[N9,Qof h2 h'];unfold Qgz;rw[D3 (by simpa using b)]
theorem take{Q:Option DictEntry->Shared->Prop}(h:A.units+4<cLine)(i:is P w s.heap k u)(m:Y6 P w s.heap d xs)(hz:xs.length<=sizeLine)
  (r:atM xs k=none->Q none { s with toks:=s.toks+Vh k })
  (q:∀p e h',atM xs k=some p->e.val=p.2->Y6 P w h' d (Qgz xs k)->Dw d s.heap h'->Q (some e) { s with heap:=h',toks:=s.toks+Vh k }):wpAny (model P w) A (P2 d u) Q E s:=by
 obtain⟨o,es,ep,ho,t,hd,b,a,c⟩:=m;unfold P2
 try with_reducible refine Dx ?_
 refine Ak (Qcu h i (Ak (find (s:={ s with toks:=s.toks+Vh k }) h i ho hd b a c (λf=>?_) λj p g=>?_)))
 ·exact Al (r (Qbr f))
 ·refine Ak (Dj (s:={ s with toks:=s.toks+Vh k }) ho hd ?_);rw[Gj b j,g];refine Ak (Ki (hz:=by have e:=Va b;lia) (s:={ s with toks:=s.toks+Vh k }) ho hd (Al (q p _ _ (Qdb c g) rfl ⟨_,_,ep+1,Fc _ ho (R5 (Mp hd _)),
   t.mapDictKeys _,Mp hd _,?_,?_,?_⟩ (Dd ..))))
  ·rw[← Qof c g];obtain⟨l⟩:=es;have:l=xs.map (ent P w):=b;subst this;simp[PT.Qgw]
  ·intro x n;exact V1 (a x (Do.mp n).1) ho hd (Dd ..)
  ·exact c.sublist (Ft.map _)
theorem get3(hd:(d==sysModules)=false):MeetsIn P w (Builtin.«dict.get» ⟨[.ref d,u,dflt],[]⟩) (λA R s=>A.in1.units+4<cLine/\∃k xs,is P w s.heap k u/\Y6 P w s.heap d xs /\
   R (.ok (.ret (((atM xs k).map (·.2)).getD dflt))) { s with toks:=s.toks+Vh k }) :=
 .of_wp λA R s ⟨b,k,xs,c,m,q⟩=>by
  show wpAny _ _ (dictGet d u >>= _) _ _ s;refine Ak (get b c m ?_);cases a:(atM xs k).map (·.2) with
  | some v=>
   rw[a]at q;exact Al ⟨v,rfl,q⟩
  | none=>
   rw[a]at q;show wpAny _ _ (Builtin.Dict.missed d u >>= _) _ _ _;exact Ak (wpAny_missed_other hd (Al ⟨dflt,rfl,q⟩))
theorem pop3(hd:(d==sysModules)=false):MeetsIn P w (Builtin.«dict.pop» ⟨[.ref d,u,dflt],[]⟩) (λA R s=>A.in1.units+4<cLine/\∃k xs,is P w s.heap k u/\Y6 P w s.heap d xs/\xs.length<=sizeLine /\
   (atM xs k=none->∀t,R (.ok (.ret dflt)) { s with toks:=t })/\∀p h',atM xs k=some p->Y6 P w h' d (Qgz xs k)->Dw d s.heap h'->R (.ok (.ret p.2)) { s with heap:=h',toks:=s.toks+Vh k }) :=
 .of_wp λA R s ⟨r,k,xs,j,m,hz,y,q⟩=>by
  unfold Builtin.«dict.pop»
  refine Ak ?_
  unfold Builtin.Dict.keyAndDefault
  refine Ak (M4 m.ty ?_)
  show wpAny _ _ (pure (d,u,some dflt)) _ _ s
  refine Al ?_
  have a:atM xs k=none->∀t,wpAny (model P w) A.in1 (if (none:Option DictEntry).isNone=true then (do
     let n ← Lm d u
     (do rule "dict.pop.default";ret dflt))else (do rule "dict.pop.default";ret dflt)) (λfin s'=>∃v,fin=PySem.Fin.done (.ret v)/\R (.ok (.ret v)) s') (λe s'=>R (.error e) s') { s with toks:=t }:=λh t=>by
   rw[if_pos (show(none:Option DictEntry).isNone=true from rfl)]
   exact Ak (wpAny_missedRemoval_other hd (Ak (Mj (Al ⟨dflt,rfl,y h t⟩))))
  have g:∀p e h',atM xs k=some p->e.val=p.2->Y6 P w h' d (Qgz xs k)->Dw d s.heap h'->wpAny (model P w) A.in1 (if (some e:Option DictEntry).isNone=true then (do
     let n ← Lm d u
     (do letGo [e.key] [e.val];ret e.val))else (do letGo [e.key] [e.val];ret e.val)) (λfin s'=>∃v,fin=PySem.Fin.done (.ret v)/\R (.ok (.ret v)) s') (λe s'=>R (.error e) s') { s with heap:=h',toks:=s.toks+Vh k }:=λp e h' h1 h2 f h4=>by
   rw[if_neg (by simp)]
   exact Ak (Ib (Al ⟨e.val,rfl,by rw[h2];exact q p h' h1 f h4⟩))
  cases k with
  | inl i=>
   obtain⟨t,rfl⟩:=id j
   show wpAny _ _ (if (keyPart (N6 i t)).isSome=true then _ else _) _ _ _
   rw[if_pos (show(keyPart (N6 i t)).isSome=true from rfl)]
   refine Ak (Al ?_)
   show wpAny _ _ (if false=true then _ else _) _ _ _
   rw[if_neg (by decide)]
   exact Ak (take r j m hz (λh=>a h _) λp e h' h1 h2 f h4=>g p e h' h1 h2 f h4)
  | inr ks=>
   obtain⟨b,rfl,C⟩:=id j
   show wpAny _ _ (if (keyPart (Ba b)).isSome=true then _ else _) _ _ _
   rw[if_neg (by simp[keyPart])]
   obtain⟨o,es,ep,ho,D,l,z,B,E⟩:=id m
   refine Ak (m:=dictEntries d none) (Dj ho l ?_)
   refine Ak (Al ?_)
   by_cases c:es.isEmpty=true
   ·show wpAny _ _ (if es.isEmpty=true then _ else _) _ _ _
    rw[if_pos c]
    have x:xs=[]:=by
     have:=Va z
     rw[Kj.mp c]at this
     exact List.eq_nil_of_length_eq_zero this.symm
    exact Ak (Mj (Ak (Al (a (by rw[x];rfl) s.toks))))
   ·show wpAny _ _ (if es.isEmpty=true then _ else _) _ _ _
    rw[if_neg c]
    exact Ak (take r j m hz (λh=>a h _) λp e h' h1 h2 f h4=>g p e h' h1 h2 f h4)
section
variable {ys:XS}
theorem Qkt{M:String}{Q:Bool->Shared->Prop}(C:(a==sysModules)=false)(H:(b==sysModules)=false)(L:A.units+4<cLine)(J:Y6 P w s.heap a xs)(O:Y6 P w s.heap b ys)(R:xs.length=ys.length)
  (u:∀x∈xs,∃p,atM ys x.1=some p/\Pm A s x.2.2 p.2 true) (h:Q true s):wpAny (model P w) A (O4 M a b) Q E s:=by
 obtain⟨T,es,ep,c,_,d,m,t,I⟩:=J;obtain⟨ob,o,F,g,_,k,f,v,l⟩:=O;have G:=Va m;have K:=Va f;unfold O4 Ro;rw[if_neg (show ¬(a==sysModules)=true by rw[C];exact Bt),if_neg (show ¬(b==sysModules)=true by rw[H];exact Bt)];refine Ak (Al (Ak (Al ?_)));refine Ak (Dj c d ?_);dsimp only;refine Ak (Dj g k ?_);have hsz:es.size=o.size:=by lia
 rw[if_neg (by rw[hsz];simp)];refine Ak (Fd c d ?_);refine Ak ?_;rw[S7];simp only[Std.Legacy.Range.size,Nat.sub_zero,Nat.add_sub_cancel,Nat.div_one];refine Mk _ (λrest q s'=>s'=s/\q=(none,())/\∀i∈rest,i<es.size) _ ?_ ?_ _ _ ⟨rfl,rfl,λi hi=>by simpa using hi⟩
 ·rintro x rest q s' ⟨rfl,rfl,y⟩;have D:=y x An;have e:x<xs.length:=by lia
  refine Ak (Dj c d ?_);rw[Gj m x,Bu e];have B:xs[x]∈xs:=Rf e;obtain⟨p,n,N⟩:=u _ B;show wpAny _ _ (holding [_,_] _ >>= _) _ _ _;refine Ak (Dx (Ak (find L (t _ B) g k f v l (λr=>?_) λj S z=>?_)))
  ·rw[Qbr r]at n;cases n
  ·rw[Qdb l z]at n;cases n;refine Ak (Dj g k ?_);rw[Gj f j,z];refine Dx (N P w _ _ ?_);show wpAny _ _ (if (!true)=true then _ else _) _ _ _;rw[if_neg (by decide)];refine Ak (Fd c d ?_);rw[if_neg (by simp)];exact Al ⟨rfl,rfl,λi hi=>y i (Am _ hi)⟩
 ·rintro q s' ⟨rfl,rfl,_⟩;exact Al h
theorem Qvm(f:(a==sysModules)=false)(i:(b==sysModules)=false)(j:A.units+5<cLine)(c:Y6 P w s.heap a xs)(d:Y6 P w s.heap b ys)(g:xs.length=ys.length)
  (e:∀x∈xs,∃p,atM ys x.1=some p/\Pm A.in1 s x.2.2 p.2 true) (h:Q (.bool false) s):wpAny (model P w) A (compareOp .NotEq (.ref a) (.ref b)) Q E s:=by
 refine K9 (op:=.NotEq) c.ty d.ty P4 (B4 P4 c.ty PySem.F.entry_dict_ne ?_ (PySem.F.args_dict_ne_2 _ _)) (by lia);show wpAny _ _ (Lv "__ne__" ⟨[.ref a,.ref b],[]⟩ >>= _) _ _ s;refine Ak ?_;unfold Lv;refine Ak (M4 c.ty ?_);show wpAny _ _ (pure (Ba a,Ba b)) _ _ s;refine Al ?_;refine Ak (Ml (T:="dict") d.ty PySem.F.sub_dict_dict ?_);simp only[Fk,Bq,if_false];refine Ak (Al (Ak (Al ?_)));refine Ak (Qkt f i (by show A.units+1+4<cLine;lia) c d g e ?_);refine Al ⟨_,rfl,?_,?_⟩
 ·exactλx=>nomatch x
 ·simpa using h
end
abbrev EI:=Int ⊕ List Int
abbrev MI:=Int ⊕ List EI
def kE:EI->Ek.MK
 | .inl i=>.inl i
 | .inr l=>.inr (l.map .inl)
def Qv3:EI->Int
 | .inl i=>hashInt i
 | .inr l=>reduceHash (D7 (l.map hashInt))
def kM:MI->MK
 | .inl i=>.inl i
 | .inr l=>.inr (l.map kE)
def Ym:MI->Int
 | .inl i=>hashInt i
 | .inr l=>reduceHash (D7 (l.map Qv3))
theorem Qv0{P:Program}{w:World}:∀k:EI,Ek.hash P w (kE k)=Qv3 k
 | .inl i=>rfl
 | .inr l=>by
  show reduceHash (D7 ((l.map Fm).map (keyH w)))=_;rw[Bg];rfl
theorem Qny{P:Program}{w:World}:∀k:MI,hash P w (kM k)=Ym k
 | .inl i=>rfl
 | .inr l=>by
  show reduceHash (D7 ((l.map kE).map (Ek.hash P w)))=_;rw[Bg,show(Ek.hash P w) ∘ kE=Qv3 from funext Qv0];rfl
theorem Qzm:∀{j k:EI},kE j=kE k->j=k
 | .inl i,.inl j,h=>by
  have h:(Fm i:Ek.MK)=.inl j:=h;rw[M9 h]
 | .inl i,.inr l,h=>nomatch (show(Fm i:Ek.MK)=.inr _ from h)
 | .inr l,.inl i,h=>nomatch (show(N4 _:Ek.MK)=.inl i from h)
 | .inr l,.inr m,h=>by
  have h:(l.map Fm:List Key)=m.map Fm:=T8 h;rw[(Sg λ_ _ z=>M9 z).mp h]
theorem Qgm:∀{j k:MI},kM j=kM k->j=k
 | .inl i,.inl j,h=>by
  have h:(Fm i:MK)=.inl j:=h;rw[M9 h]
 | .inl i,.inr l,h=>nomatch (show(Fm i:MK)=.inr _ from h)
 | .inr l,.inl i,h=>nomatch (show(N4 _:MK)=.inl i from h)
 | .inr l,.inr m,h=>by
  have h:l.map kE=m.map kE:=T8 h;rw[(Sg λ_ _ z=>Qzm z).mp h]
abbrev KVM:=List (MI×V×V)
abbrev VM:=List (MI×Value×Value)
end Mx
variable {v:L2.V}{k:Mx.MI}{vs:Mx.VM}{kvs:Mx.KVM}
namespace Mx
open PySem PySem.Spec L2
def RelE(p:MI×V×V)(q:MI×Value×Value):Prop:=p.1=q.1/\RelV p.2.1 q.2.1/\RelV p.2.2 q.2.2
def entI(q:MI×Value×Value):DictEntry:={ hash:=Ym q.1,key:=q.2.1,val:=q.2.2 }
def up(q:MI×Value×Value):MK×Value×Value:=(kM q.1,q.2.1,q.2.2)
theorem Qn9{q:MI×Value×Value}:ent P w (up q)=entI q:=by
 show(⟨hash P w (kM q.1),q.2.1,q.2.2⟩:DictEntry)=⟨Ym q.1,q.2.1,q.2.2⟩
 rw[Qny]
def phi(a:Addr)(kvs:KVM)(h:Heap):Prop:=(a==sysModules)=false/\kvs.length<=sizeLine/\(kvs.map (·.1)).Nodup/\∃vs:VM,Paired RelE kvs vs/\∃o es ep,h.get? a=some o/\o.ExactDict/\o.data=.dict es ep/\es.toList=vs.map entI
def mixO(a:Addr)(kvs:KVM):HO:=.ext (phi a kvs)
def G0(H:Hp):EI->V->Prop
 | .inl i,y=>y=.int i
 | .inr l,y=>∃b,y=.ref b/\H b=some (.tup (l.map V.int))
def X7(H:Hp):MI->V->Prop
 | .inl i,y=>y=.int i
 | .inr l,y=>∃b ys,y=.ref b/\H b=some (.tup ys)/\Paired (G0 H) l ys
def Keys(H:Hp)(kvs:KVM):Prop:=∀p∈kvs,X7 H p.1 p.2.1
theorem Qq8{k:EI}(c:∀b xs,H b=some (.tup xs)->H' b=some (.tup xs))(h:G0 H k v):G0 H' k v:=by
 cases k with
 |inl i=>exact h
 |inr l=>obtain⟨b,d,a⟩:=(show ∃b,v=.ref b/\H b=some (.tup (l.map V.int))from h);exact⟨b,d,c _ _ a⟩
theorem Qgb{H H':Hp}(a:∀b xs,H b=some (.tup xs)->H' b=some (.tup xs)):∀{l:List EI}{vs:List V},Paired (G0 H) l vs->Paired (G0 H') l vs
 |_,_,.nil=>.nil
 |_,_,.cons p t=>.cons (Qq8 a p) (Qgb a t)
theorem U5(a:∀b xs,H b=some (.tup xs)->H' b=some (.tup xs))(h:X7 H k v):X7 H' k v:=by
 cases k with
 |inl i=>exact h
 |inr l=>obtain⟨b,ys,e,d,c⟩:=(show ∃b ys,v=.ref b/\H b=some (.tup ys)/\Paired (G0 H) l ys from h);exact⟨b,ys,e,a _ _ d,Qgb a c⟩
def valM(kvs:KVM)(k:MI):Option V:=(kvs.find? λp=>decide (p.1=k)).map (·.2.2)
def putV(kvs:KVM)(k:MI)(y v:V):KVM:=if (valM kvs k).isSome=true then kvs.map (λp=>if p.1=k then (p.1,p.2.1,v)else p)else kvs++[(k,y,v)]
def Qh9(kvs:KVM)(k:MI):KVM:=kvs.filter λp=>decide (p.1≠k)
theorem Qa1(p:phi a kvs h):Ja P w H h a (mixO a kvs):=by
 refine⟨p,?_,λh1 h2 b k=>?_⟩
 ·obtain⟨_,_,_,vs,_,o,es,ep,ho,_⟩:=p;exact⟨o,ho⟩
 ·obtain⟨d,e,c,vs,r,o,es,ep,ho,z⟩:=b;exact⟨d,e,c,vs,r,o,es,ep,k o ho,z⟩
section
variable {r:Value}
theorem Qz4{k:EI}(ok:HOk P w H h)(e:G0 H k y)(a:RelV y u):Ek.is P w h (kE k) u:=by
 cases k with
 | inl i=>
  have e:y=.int i:=e;subst e;obtain⟨t,rfl⟩:=(show ∃t,u=N6 i t from a)
  exact⟨t,rfl⟩
 | inr l=>
  obtain⟨b,rfl,c⟩:=(show ∃b,y=.ref b/\H b=some (.tup (l.map V.int))from e)
  have d:u=Ba b:=a;subst d;refine⟨b,rfl,Qcs ok ?_⟩;rw[Bg];exact c
theorem Qs5(ok:HOk P w H h):∀{l:List EI}{ys:List V}{its:List Value},Paired (G0 H) l ys->Vals ys its->Ek.Its P w h (l.map kE) its
 |_,_,_,.nil,.nil=>.nil
 |_,_,_,.cons p t,.cons r s=>.cons (Qz4 ok p r) (Qs5 ok t s)
theorem Qnq(ok:HOk P w H h)(e:X7 H k y)(a:RelV y u):is P w h (kM k) u:=by
 cases k with
 | inl i=>
  have e:y=.int i:=e;subst e;obtain⟨t,rfl⟩:=(show ∃t,u=N6 i t from a)
  exact⟨t,rfl⟩
 | inr l=>
  obtain⟨b,ys,rfl,m,j⟩:=(show ∃b ys,y=.ref b/\H b=some (.tup ys)/\Paired (G0 H) l ys from e)
  have f:u=Ba b:=a;subst f;obtain⟨_,its,d,o,p,c,n,g⟩:=ok b _ m;refine⟨b,rfl,o,its.toArray,n,p,c,g,?_⟩;exact Qs5 ok j d
theorem Qcr:∀{kvs:KVM}{vs:VM},Paired RelE kvs vs->kvs.map (·.1)=vs.map (·.1)
 |_,_,.nil=>rfl
 |_,_,.cons r t=>by rw[Ar,Ar,Qcr t,r.1]
theorem Qpd(ok:HOk P w H h):∀{kvs:KVM}{vs:VM},Paired RelE kvs vs->Keys H kvs->∀x∈vs.map up,is P w h x.1 x.2.1
 |_,_,.nil,_,x,a=>nomatch a
 | _,_,.cons r t,b,x,a=>by
  rcases Ay.mp a with rfl|a
  ·have:=Qnq ok (b _ An) r.2.1;rw[r.1]at this;exact this
  ·exact Qpd ok t (λp c=>b p (Am _ c)) x a
theorem Qoh(ok:HOk P w H h)(e:H a=some (mixO a kvs))(d:Keys H kvs):(a==sysModules)=false/\kvs.length<=sizeLine/\∃vs,Paired RelE kvs vs/\Y6 P w h a (vs.map up):=by
 obtain⟨⟨i,f,b,vs,r,o,es,ep,ho,j,hd,g⟩,_⟩:=(show Ja P w H h a (mixO a kvs)from ok a _ e)
 refine⟨i,f,vs,r,o,es,ep,ho,j,hd,?_,Qpd ok r d,?_⟩
 ·rw[g,Bg];exact B0 λq _=>Qn9.symm
 ·have c:(vs.map up).map (·.1)=(vs.map (·.1)).map kM:=by rw[Bg,Bg];rfl
  rw[c,← Qcr r];exact A0r _ (λ_ _ n z=>n (Qgm z)) b
theorem Qac:∀{kvs:KVM}{vs:VM},Paired RelE kvs vs->RelO (valM kvs k) ((atM (vs.map up) (kM k)).map (·.2))
 |_,_,.nil=>trivial
 | _,_,@A0w _ _ _ p q ps a r t=>by
  unfold valM atM;rw[Ar];by_cases e:p.1=k
  ·rw[Mt (by simpa using e),Mt (by show decide (kM q.1=kM k)=true;rw[← r.1,e];simp)];exact r.2.2
  ·rw[Mu (by simpa using e),Mu (by show ¬decide (kM q.1=kM k)=true;rw[← r.1];simpa using λz=>e (Qgm z))];exact Qac t
end
theorem V0{k:MI}:∀{kvs:KVM}{vs:VM},Paired RelE kvs vs->Paired RelE (Qh9 kvs k) (vs.filter λq=>decide (q.1≠k))
 |_,_,.nil=>.nil
 | _,_,@A0w _ _ _ p q ps a r t=>by
  unfold Qh9;by_cases e:p.1=k
  ·rw[D2 (by simpa using e),D2 (by rw[← r.1];simpa using e)];exact V0 t
  ·rw[D3 (by simpa using e),D3 (by rw[← r.1];simpa using e)];exact .cons r (V0 t)
theorem Qod{k:MI}:∀{vs:VM},Qgz (vs.map up) (kM k)=(vs.filter λq=>decide (q.1≠k)).map up
 | []=>rfl
 | q::vs=>by
  have a:=Qod (k:=k) (vs:=vs);unfold Qgz at a ⊢;rw[Ar];by_cases e:q.1=k
  ·rw[D2 (by show ¬decide (kM q.1≠kM k)=true;simp[e]),D2 (by simpa using e),a]
  ·rw[D3 (by show decide (kM q.1≠kM k)=true;simpa using λz=>e (Qgm z)),D3 (by simpa using e),Ar,a]
theorem Qd2{k:MI}{v:V}{r:Value}(a:RelV v r):∀{kvs:KVM}{vs:VM},Paired RelE kvs vs->Paired RelE (kvs.map λp=>if p.1=k then (p.1,p.2.1,v)else p) (vs.map λq=>if q.1=k then (q.1,q.2.1,r)else q)
 |_,_,.nil=>.nil
 | _,_,@A0w _ _ _ p q ps b h t=>by
  rw[Ar,Ar];refine .cons ?_ (Qd2 a t);by_cases e:p.1=k
  ·rw[if_pos e,if_pos (h.1 ▸ e)];exact⟨h.1,h.2.1,a⟩
  ·rw[if_neg e,if_neg (h.1 ▸ e)];exact h
theorem Qd3{c d:Type}{F:c->d->Prop}{a:c}{b:d}(h:F a b):∀{l:List c}{m:List d},Paired F l m->Paired F (l++[a]) (m++[b])
 |_,_,.nil=>.cons h .nil
 |_,_,.cons r t=>.cons r (Qd3 h t)
theorem Qx2{r:Value}(a:Paired RelE kvs vs)(f:RelV y u)(d:RelV v r):∃c,Paired RelE (putV kvs k y v) c/\putM (vs.map up) (kM k) u r=c.map up:=by
 have b:=Qac (k:=k) a;unfold putV putM;cases h1:valM kvs k with
 | none=>
  rw[h1]at b;cases h2:atM (vs.map up) (kM k) with
  |some p=>rw[h2]at b;exact b.elim
  | none=>
   refine⟨vs++[(k,u,r)],Qd3 ⟨rfl,f,d⟩ a,?_⟩;rw[B7];rfl
 | some g=>
  rw[h1]at b;cases h2:atM (vs.map up) (kM k) with
  |none=>rw[h2]at b;exact b.elim
  | some p=>
   refine⟨_,Qd2 (k:=k) d a,?_⟩;show(vs.map up).map _=_;rw[Bg,Bg];refine B0 λq _=>?_;show(if kM q.1=kM k then (kM q.1,q.2.1,r)else up q)=up (if q.1=k then (q.1,q.2.1,r)else q);by_cases e:q.1=k
   ·rw[if_pos (show kM q.1=kM k by rw[e]),if_pos e];rfl
   ·rw[if_neg (λz=>e (Qgm z)),if_neg e]
theorem Qp3:(putV kvs k y v).length<=kvs.length+1:=by
 unfold putV;split
 ·rw[Ap];lia
 ·rw[Dy];simp
section
variable {dv:V}{r:Value}
theorem Q12(f:A.units+5<cLine)(I:Inv X pins σ H s)(e:H a=some (mixO a kvs))(j:Keys H kvs)(g:X7 H k y)(i:RelV y u)(rd:RelV dv r)(h:∀c s',Inv X pins σ H s'->RelV ((valM kvs k).getD dv) c->Q c s') :
  wpAny (model X.prog X.w) A (call (.builtin "dict.get") [.ref a,u,r]) Q E s:=by
 obtain⟨hd,hz,vs,b,d⟩:=Qoh I.hok e j;exact Su Nv d.ty Ia (Tx _ _ _) (get3 hd) ⟨f,kM k,_,Qnq I.hok g i,d,h _ _ (I.tok _) ((Qac b).getD rd)⟩
theorem Qjl(hd:(a==sysModules)=false)(hz:kvs.length<=sizeLine)(b:Paired RelE kvs vs)(f:Y6 P w h' a (vs.map up)):phi a kvs h':=by
 obtain⟨o,es,ep,ho,h,c,e,_,d⟩:=f;refine⟨hd,hz,?_,vs,b,o,es,ep,ho,h,c,?_⟩
 ·rw[Qcr b];have g:(vs.map up).map (·.1)=(vs.map (·.1)).map kM:=by rw[Bg,Bg];rfl
  rw[g]at d;exact(Mv.mp d).imp λn z=>n (by rw[z])
 ·rw[e,Bg];exact B0 λq _=>Qn9
theorem Y6.there(b:Y6 P w h' a xs):∃q,h'.get? a=some q:=by
 obtain⟨o,_,_,ho,_⟩:=b;exact⟨o,ho⟩
theorem Q11(m:A.units+5<cLine)(I:Inv X pins σ H s)(e:H a=some (mixO a kvs))(n:Keys H kvs)(i:X7 H k y)(l:RelV y u)
  (h0:valM kvs k=none->∀s',Inv X pins σ H s'->Q r s') (h1:∀v g s',valM kvs k=some v->Inv X pins σ (upd H a (mixO a (Qh9 kvs k))) s'->RelV v g->Q g s') :
  wpAny (model X.prog X.w) A (call (.builtin "dict.pop") [.ref a,u,r]) Q E s:=by
 obtain⟨hd,hz,vs,f,h⟩:=Qoh I.hok e n;have c:=Qac (k:=k) f;refine Su Rq h.ty PySem.F.entry_dict_pop (PySem.F.args_dict_pop_3 _ _ _) (pop3 hd) ⟨m,kM k,_,Qnq I.hok i l,h,by rw[Ap,← D9 f];exact hz,λo t=>?_,λp h' q d j=>?_⟩
 ·rw[o]at c;cases b:valM kvs k with
  |none=>exact h0 b _ (I.tok _)
  |some v=>rw[b]at c;exact c.elim
 ·rw [q]at c;cases b:valM kvs k with
  |none=>rw[b]at c;exact c.elim
  | some v=>
   rw[b]at c;rw[Qod]at d;exact h1 v _ _ b (Qc3 I (by rw[e];exact N0) j d.there (Qa1 (Qjl hd (Dg (D6 _ _) hz) (V0 f) d))) c
theorem Q10{Q:Unit->Shared->Prop}(p:A.units+5<cLine)(I:Inv X pins σ H s)(e:H a=some (mixO a kvs))(x:Keys H kvs)(l:X7 H k y)(i:RelV y u)(o:RelV v r)(m:kvs.length<sizeLine)(h:∀s',Inv X pins σ (upd H a (mixO a (putV kvs k y v))) s'->Q () s') :
  wpAny (model X.prog X.w) A (setItem (.ref a) u r) Q E s:=by
 obtain ⟨hd,hz,vs,f,g⟩:=Qoh I.hok e x;obtain⟨w,d,ep⟩:=Qx2 (k:=k) f i o;have b:∀{t:Value->Shared->Prop},wpAny (model X.prog X.w) A.in1 (dictSet a u r) (λ_ s'=>Q () s') t s:=set p (Qnq I.hok l i) g (by rw[Ap,← D9 f];exact hz) λh' c n=>by
  rw[ep]at c;exact h _ (Qc3 I (by rw[e];exact N0) n c.there (Qa1 (Qjl hd (Dg Qp3 m) d c)))
 have j:=slot_dict_setitem;unfold setItem
 try with_reducible refine Dx ?_
 refine Ak (T1 g.ty rfl ?_);refine Ak <| De (name:=Fa "__setitem__") g.ty j <|
  B4 j g.ty entry_dict_setitem ?_ <| args_dict_setitem _ _ _
 show wpAny _ _ (Builtin.Dict.notOrdered _ ⟨[.ref a,u,r],[]⟩ >>= _) _ _ s;refine Ak (M4 g.ty ?_);show wpAny _ _ (dictSet a u r >>= _) _ _ s;exact Ak (Mo b (λ_ s' q=>Al ⟨.none,rfl,Al q⟩) λ_ _ z=>z)
end
end Mx
namespace Srt
open PySem PyProof.Rows
theorem Qr4:∀vs:List Value,(vs.zip vs).map (·.2)=vs
 | []=>rfl
 |v::vs=>congrArg (v :: ·) (Qr4 vs)
theorem Qlx{vs:List Value}{P:Fin->Shared->Prop}(ho:s.heap.get? a=some (seqObj "list" vs.toArray n))(h2:vs.length<2)(h:P (.done (.ret .none)) { s with heap:=sortedHeap s.heap a vs vs.toArray }):wpAny (model prog w) A (Builtin.«list.sort» ⟨[.ref a],[]⟩) P E s:=by
 rw[list_sort_plain];have g:2<=sizeLine:=by decide
 have f:a<s.heap.objs.size:=Bj ho;refine Ak (listItems_at ho rfl ?_);refine Ak (listUpdate_at ho rfl ?_);obtain⟨d,b⟩:∃d,(s.heap.update a (Nb λ_=>#[])).get? a=some (seqObj "list" #[] d):=⟨_,get?_update_seq ho (λ_=>#[])⟩
 refine Ak (seqEpoch_at b rfl ?_);refine Ak (Pe ?_ (by simp;lia));refine Ak (Ij ?_);refine Dx ?_;have c:(((s.heap.update a (Nb λ_=>#[])).push (seqObj "tuple" vs.toArray 0)).push (seqObj "list" #[] 0)).get? a=some (seqObj "list" #[] d):=by
  rw[T6 _ _ _ (by rw[Py,Heap.size_update];exact By (T4 f)),T6 _ _ _ (by rw[Heap.size_update];exact By f)];exact b
 show wpAny (model prog w) A _ P E { s with heap:=((s.heap.update a (Nb λ_=>#[])).push (seqObj "tuple" vs.toArray 0)).push (seqObj "list" #[] 0) };dsimp only;have hsz:vs.toArray.size=vs.length:=by simp
 rw [if_pos (by lia),if_pos (by lia)];refine Ak (Al ?_);rw[StateT.run_pure];refine Ak (Al ?_);dsimp only;refine Ak (seqEpoch_at c rfl ?_);have e:((vs.toArray.zip vs.toArray).map (·.2))=vs.toArray:=by
  rw[List.zip_toArray,List.map_toArray];exact congrArg _ (Qr4 vs)
 refine Ak (listUpdate_at c rfl ?_ (hsz2:=by show((vs.toArray.zip vs.toArray).map (·.2)).size<=_;rw[e];lia));simp only[bne_self_eq_false,Bq,if_false];show wpAny (model prog w) A _ P E { s with heap:=sortedHeap s.heap a vs ((vs.toArray.zip vs.toArray).map (·.2)) };rw[e];exact Al h
end Srt
variable {e:PySem.DictEntry}
namespace L2
open PySem PySem.Spec PyProof.Rows
theorem Qvj(num:Nat->Int):SortT.Ord λi j=>decide (num i<num j) :=
 ⟨λi j h=>decide_eq_false (by have:=of_decide_eq_true h;lia),λi j k h1 h2=>decide_eq_false (by have:=of_decide_eq_false h1;have:=of_decide_eq_false h2;lia)⟩
structure PT2(H:Hp)(a:Addr)(f g:List Int):Prop where
 at_:∃b c,H a=some (.tup [.ref b,.ref c])/\H b=some (.tup (f.map V.int))/\H c=some (.tup (g.map V.int))
noncomputable def Qun:List V->Hp->VK->Prop:=λxs H Q=>∃(l:Addr)(b:List Addr)(f g:Nat->List Int)(num:Nat->Int),xs=[.ref l]/\H l=some (.lst (b.map V.ref))/\b.length<64 /\
 (∀(i:Nat) a,b[i]? = some a->PT2 H a (f i) (g i))/\(∀i j,i<b.length->j<b.length->f i=f j->i=j)/\(∀i j,i<b.length->j<b.length->HT.J1 (f i) (f j)=decide (num i<num j)) /\
 ∀(p:List Nat)(D:Addr),p.Perm (Aq b.length)->(∀(i j x y:Nat),i<=j->p[i]? = some x->p[j]? = some y->num x<=num y)->H D=none->Q (.ref D) (upd H D (.lst (p.map λi=>.ref (b.getD i 0))))
theorem Qst{P:Program}{w:World}{H:Hp}{h:Heap}(ok:HOk P w H h):∀(d:List Addr)(f g:Nat->List Int),(∀(i:Nat) a,d[i]? = some a->PT2 H a (f i) (g i)) ->
  ∃fs:List Value,KatTups h (d.map Ba) fs/\fs.length=d.length/\∀v∈fs,∃(b:Addr)(o:Obj),v=Ba b/\h.get? b=some o/\o.cls=.type "tuple"
 | [],_,_,_=>⟨[],KatTups.nil,rfl,λ_ h=>nomatch h⟩
 | a::d,f,g,k=>by
  obtain⟨fs,h1,h2,m⟩:=Qst ok d (λi=>f (i+1)) (λi=>g (i+1)) λi b e=>k (i+1) b (by simpa using e);obtain⟨b,c,l,q,A⟩:=k 0 a rfl;obtain⟨_,its,s,o,y,p,n,u⟩:=ok a _ l;obtain⟨_,_,_,ob,x,t,_⟩:=ok b _ q;cases s with
  | cons r z=>
   cases r;refine⟨Ba b::fs,KatTups.cons y p u (by simp) h1,by simp[h2],λv j=>?_⟩;rcases Ay.mp j with rfl|j
   ·exact⟨b,ob,rfl,x,t⟩
   ·exact m v j
theorem Qie(hu:X.A.units+66<cLine):Zk X (.builtin "sorted") Qun:=by
 intro pins s σ H xs us Q I r h;obtain⟨l,d,f,g,num,rfl,hl,an,hk,ab,Y,q⟩:=h;obtain⟨u,rfl,ru⟩:=Ga r;cases ru;obtain⟨z,its,n,rv,e⟩:=I.hok l _ hl;have ag:its=d.map Ba:=by
  have gen:∀(d:List Addr)(its:List Value),Vals (d.map V.ref) its->its=d.map Ba:=by
   intro d
   induction d with
   |nil=>intro its r;cases r;rfl
   |cons a d ih=>intro its r;cases r with|cons r1 r2=>cases r1;rw[ih _ r2];rfl
  exact gen d its rv
 subst ag;obtain⟨m,F⟩:=I.fr;have B:s.heap.IsList l (d.map Ba).toArray:=⟨_,e,rfl,n,rfl⟩
 have k:(d.map Ba).length=d.length:=Ap _;by_cases h2:2<=d.length
 ·refine kat_sorted (vs:=d.map Ba) F Qey B (by rw[k];exact h2) (by rw[k];exact an) λD e1 h' F' N' A=>?_;have ar:∀p∈Qap X.base s.heap X.env.locals,h'.get? p.1=some p.2:=λp hp=>(N' p (Am _ hp)).1;have kp:∀b u,b≠X.env.locals->s.heap.get? b=some u->h'.get? b=some u:=λb u S e=>by
   cases q:X.base.get? b with
   |some v=>have:=F.keep b v q;rw[e]at this;cases this;exact F'.keep b _ q
   |none=>exact ar (b,u) (Y4 S q e)
  have hok:HOk X.prog X.w H h':=λb q e=>(I.hok b q e).stay (λc v O z=>kp c v (λy=>by
   rcases O with rfl|O
   ·rw[y,I.free]at e;cases e
   ·rw[y,I.free]at O;cases O) z) (λ_ z=>z) λ_ _ z=>z
  have W:s.heap.get? D=none:=by
   cases q:s.heap.get? D with
   |none=>rfl
   | some o=>
    have nD:=N' (D,_) An;have:=A (D,o) (Y4 nD.2.1 nD.2.2 q);exact absurd this (Mr _)
  obtain ⟨fs,k1,k2,k3⟩:=Qst hok d f g hk;refine kat_kind (s:={ s with heap:=h' }) (T:=.type "tuple") k1 (by lia) (λv hv=>by
   obtain⟨b,o,rfl,gb,cb⟩:=k3 v hv;have L:PySem.W.Looks (model X.prog X.w) h' (typeOf (.ref b)) o.cls:=(PySem.W.Looks.ld gb).andThen .now;rw[cb]at L;exact L) (by decide) ?_
  show(Io (d.map Ba).length).kasWp (kas_ask X.prog X.w X.A.in1.in1 (tuples' false) (d.map Ba)) _ { s with heap:=h' };rw[k];refine SortT.Qhj (f:=λi j=>decide (num i<num j)) (P:=SortT.LtN d.length) (λi j C t hC=>?_) _ (SortT.Qi6 (by lia)) ?_
  ·obtain ⟨hi,U⟩:=t;have ai:d[i]? = some d[i]:=by simp[hi]
   have aj:d[j]? = some d[j]:=by simp[U]
   obtain⟨bi,ah,ti,ae,af⟩:=(hk i _ ai).at_;obtain⟨bj,ac,tj,aa,aw⟩:=(hk j _ aj).at_;obtain⟨_,us,Z,oi,gi,ci,ni,di⟩:=hok _ _ ti;obtain⟨_,vs,rj,oj,gj,cj,nj,dj⟩:=hok _ _ tj;unfold kas_ask;rw[show(d.map Ba).getD i Dc=.ref d[i] by simp[hi],show(d.map Ba).getD j Dc=.ref d[j] by simp[U]];cases Z with
   | cons au Z=>cases Z with
    | cons am Z=>cases Z;cases rj with
     | cons ao rj=>cases rj with
      | cons al rj=>
       cases rj;cases au;cases am;cases ao;cases al;have ak:∀{b c:Addr}{x y:List Int}{R:Bool->Shared->Prop},H b=some (.tup (x.map V.int))->H c=some (.tup (y.map V.int))->R (decide (x=y)) { s with heap:=h' }->wpAny (model X.prog X.w) X.A.in1.in1 (eqBool (.ref b) (.ref c)) R (λ_ _=>False) { s with heap:=h' }:=λ{b c x y R} S O hR=>by
        have kb:=Qcs (P:=X.prog) (w:=X.w) (ks:=x.map Fm) hok (by rw[Bg];exact S);have kc:=Qcs (P:=X.prog) (w:=X.w) (ks:=y.map Fm) hok (by rw[Bg];exact O);refine(tupleKind (Qu X.prog X.w)).eqBool (s:={ s with heap:=h' }) (by show X.A.units+1+1<cLine;lia) kb kc ?_;have ee:decide ((x.map Fm:List Key)=y.map Fm)=decide (x=y):=by
         apply decide_eq_decide.mpr;exact Sg λ_ _ z=>M9 z
        rw[ee];exact hR
       refine kat_lt (s:={ s with heap:=h' }) gi di gj dj ?_;show PySem.W.KatLex X.prog X.w X.A.in1.in1 false (decide (2<2)) C [(.ref bi,.ref bj),(.ref ah,.ref ac)] 0 { s with heap:=h' };refine A02 (ak ae aa (PySem.W.kat_go (λey=>?_) λen=>?_))
       ·have t:i=j:=ab i j hi U (of_decide_eq_true ey);subst t;have eg:ah=ac:=by rw[ti]at tj;cases tj;rfl
        subst eg;refine PySem.W.kat_yes (A02 (ak af af (PySem.W.kat_go (λ_=>PySem.W.kat_yes (PySem.W.kat_nil ?_)) λen=>absurd en (by simp))));have:decide (num i<num i)=false:=by simp
        rw[this]at hC;exact hC
       ·refine PySem.W.kat_no (PySem.W.kat_one _ _ ?_);obtain⟨_,ub,rb,ob,gb,cb,nb,db⟩:=hok _ _ ae;obtain⟨_,uc,rc,oc,gc,cc,nc,dc⟩:=hok _ _ aa;rw[← Y i j hi U]at hC;exact HT.Qd5 (s:={ s with heap:=h' }) ⟨ob,gb,cb,nb,db⟩ ⟨oc,gc,cc,nc,dc⟩ (Zm rb) (Zm rc) (by show X.A.units+1+1<cLine;lia) hC
  ·obtain ⟨s1,s2⟩:=SortT.Qlw (Qvj num) (n:=d.length) (by lia);generalize SortT.runT (λi j=>decide (num i<num j)) (Io d.length)=p at s1 s2;have E:p.toList.length=d.length:=by rw[s1.length_eq,Bz]
   refine KasFin.intro F' N' (.head λq hq=>By (A q hq)) λh2 c F2 N2=>?_;have ap:h2.get? D=some (listOf (Ke (p.toList.map λi=>(d.map Ba).getD i Dc)) c):=(N2 (D,_) An).1;have av:Vals (p.toList.map λi=>V.ref (d.getD i 0)) (p.toList.map λi=>(d.map Ba).getD i Dc):=by
    have gen:∀q:List Nat,(∀x∈q,x<d.length)->Vals (q.map λi=>V.ref (d.getD i 0)) (q.map λi=>(d.map Ba).getD i Dc):=by
     intro q
     induction q with
     |nil=>intro _;exact .nil
     | cons x q ih=>
      intro J;have aq:=J x An;refine .cons ?_ (ih λy K=>J y (Am _ K));show(d.map Ba).getD x Dc=Ba (d.getD x 0);simp[aq]
    exact gen _ λx J=>by simpa using s1.mem_iff.mp J
   refine⟨.ref D,_,I.ledgerNew (D:=D) (o:=.lst (p.toList.map λi=>V.ref (d.getD i 0))) (s':={ s with heap:=h2 }) rfl rfl F F2 (λq hq=>(N2 q (Am _ hq)).1) W ⟨?_,_,c,av,ap⟩,rfl,q p.toList D s1 (λi j x y t J K=>?_) ?_⟩
   ·rw[Ap,E];have:=(by decide:64<sizeLine);lia
   ·have ex:SortT.at_ p i=x:=by show p.getD i 0=x;rw[Md,← Mc,J];rfl
    have ey:SortT.at_ p j=y:=by show p.getD j 0=y;rw[Md,← Mc,K];rfl
    have U:j<d.length:=by rw[← E];exact(Au.mp K).1
    have:=s2 i j t U;rw[ex,ey]at this;have:=of_decide_eq_false this;lia
   ·cases e:H D with
    |none=>rfl
    |some u=>obtain⟨ob,q⟩:=(I.hok D u e).there;rw[W]at q;cases q
 ·have h2:(d.map Ba).length<2:=by rw[k];lia
  have gk:∀b (u:Obj),s.heap.get? b=some u->((s.heap.push (seqObj "list" #[] 0)).update s.heap.objs.size (Nb (· ++ (d.map Ba).toArray))).get? b=some u:=λb u e=>by
   have A:b<s.heap.objs.size:=Bj e;rw[Kt _ _ _ _ (By A),T6 _ _ _ (By A)];exact e
  have G:(d.map Ba).length<=sizeLine:=Dg (Fo h2) (by decide);refine Tc kind_sorted plain_sorted entry_sorted (args_sorted1 _) ?_;unfold L9;refine Ak (m:=checkCount "sorted" 1 1 _) (Al ?_);refine Ak (collect_list B ?_ G);refine Ak (Ij ?_ G);generalize hg:(s.heap.push (seqObj "list" #[] 0)).update s.heap.objs.size (Nb (· ++ (d.map Ba).toArray))=M at gk;have N:(M.push (seqObj "list" (d.map Ba).toArray 0)).get? M.objs.size=some (seqObj "list" (d.map Ba).toArray 0):=Be _ rfl;refine Ak (Dx (B4 Pb ⟨_,N,rfl⟩ Ov (Srt.Qlx N h2 ⟨_,rfl,?_⟩) (Pc _)));refine Al ⟨_,rfl,?_⟩;obtain⟨e,he⟩:=A0a (out:=(d.map Ba).toArray) N;have I1:Inv X pins σ H { s with heap:=M,toks:=s.toks }:=I.kept (t':=s.toks) gk;have I2:Inv X pins σ (upd H M.objs.size (.lst (d.map V.ref))) { s with heap:=sortedHeap (M.push (seqObj "list" (d.map Ba).toArray 0)) M.objs.size (d.map Ba) (d.map Ba).toArray,toks:=s.toks }:=by
   refine I1.laid (t':=s.toks) (λb o eb=>?_) (At _) ⟨?_,d.map Ba,e,rv,he⟩
   ·have S:=Bj eb;rw[Pd (By S) (by rw[Py];exact T4 S)];exact Ao _ eb
   ·rw[Ap];rw[Ap]at G;exact G
  have:=q (Aq d.length) M.objs.size (.refl _) (λi j x y t J K=>?_) (I1.hok.fresh (At _))
  ·have e9:((Aq d.length).map λi=>V.ref (d.getD i 0))=d.map V.ref:=by
    apply Lq;intro i;rw[Bh,Bh];by_cases hi:i<d.length
    ·rw[Nn hi];simp[hi]
    ·rw[Nw (by simpa using hi),Nw (by simpa using hi)];rfl
   rw[e9]at this;exact⟨.ref M.objs.size,_,I2,rfl,this⟩
  ·have h1:i<1:=by have:=(Au.mp J).1;rw[Bz]at this;rw[k]at h2;lia
   have h3:j<1:=by have:=(Au.mp K).1;rw[Bz]at this;rw[k]at h2;lia
   have:i=j:=by lia
   subst this;rw[J]at K;cases K;exact A0x _
theorem Qq1(hd:(d==sysModules)=false)(ho:s.heap.get? d=some od)(e:od.ExactDict)(a:od.data=.dict es ep)
  (c:Q (.ref s.heap.objs.size) { s with heap:=s.heap.push { cls:=.type "dict_keyiterator",data:=.fields #[.ref d,.int 0 0,.int es.size 0,.int ep 0] } }) :
  wpAny (model prog w) A (pyIter (.ref d)) Q E s:=by
 have b:s.TypeIs (.ref d) "dict":=⟨od,ho,e.1⟩
 refine So b Ob (B4 Ob b F.entry_dict_iter ?_ (F.args_dict_iter_1 _));unfold Builtin.«dict.__iter__»;refine Ak ?_;unfold Builtin.Dict.dictSlotNone;refine Ak (M4 b ?_);show wpAny _ _ (pure (Ba d)) _ _ s;refine Al ?_;show wpAny _ _ (Ro d >>= _) _ _ s;unfold Ro;rw[if_neg (by rw[hd];exact Bt)];refine Ak (Al (Ak (Dj ho a (Ak (Fd ho a ?_)))));refine Ak (Di (Al ⟨_,rfl,"dict_keyiterator",_,⟨_,Be _ rfl,rfl⟩,Ng.lookup,?_⟩));simpa[rawInt]using c
theorem Qqs{Q:Option Value->Shared->Prop}(a:s.heap.IsKeyIter it d i es.size ep)(f:s.heap.get? d=some od)(c:od.data=.dict es ep)(g:es[i]? = some e)
  (h:∀h',h'.IsKeyIter it d (i+1) es.size ep->Dw it s.heap h'->Q (some e.key) { s with heap:=h' }):wpAny (model prog w) A (pyNext (.ref it)) Q E s:=by
 obtain ⟨o,ho,j,hd⟩:=id a;unfold pyNext;refine Ak (Nr (De (name:=Fa "__next__") a.typeIs Ng
  (B4 Ng a.typeIs Kp ?_ (Kk _))))
 refine Ak (Al (Ak (Ak ?_)))
 first|refine Ak (N8 a.typeIs (Al ?_))|refine Ak (R1 a.typeIs (Al ?_))
 refine Ak (Kx ho hd ?_);simp only[show Nh "dict_keyiterator" = false by decide,Bq,if_false];show wpAny _ _ (if (Ba d==Dc)=true then _ else _) _ _ s;rw[if_neg (show ¬((Ba d==Dc)=true)from Bt)];refine Ak (Al (Ak (Dj f c ?_)));rw[if_neg (by simp)];refine Ak (Al (Ak (Fd f c ?_)));rw[if_neg (by simp)];refine Al ?_;simp only[show ¬((i:Int)<0)from by lia,if_false,Fh,g];refine Ak ?_
 first|refine Ak (N8 a.typeIs (Al ?_))|refine Ak (R1 a.typeIs (Al ?_))
 refine Ak (wpAny_isOneOf_keyiter a.typeIs ?_);show wpAny _ _ (setField (.ref it) 1 (rawInt ((i:Int)+1)) >>= _) _ _ s;refine Ak (Nc ho hd (by simp) ?_);have b:(s.heap.update it (A0b (·.setIfInBounds 1 (rawInt ((i:Int)+1))))).IsKeyIter it d (i+1) es.size ep :=
  ⟨_,Fc _ ho (Rm (Mi hd _)),(T2 ..).trans j,by rw[Mi hd];simp[rawInt]⟩
 refine Ak (Dx (Ak (wpAny_isOneOf_keyiter (s:={ s with heap:=s.heap.update it (A0b (·.setIfInBounds 1 (rawInt ((i:Int)+1)))) }) b.typeIs ?_)));show wpAny _ _ (pure e.key) _ _ _;exact Al (Al ⟨_,rfl,Al (h _ b (Dd ..))⟩)
theorem Qwb{Q:Option Value->Shared->Prop}(j:A.handled=none)(c:s.heap.IsKeyIter it d i es.size ep)(f:s.heap.get? d=some od)(e:od.data=.dict es ep)(g:es.size<=i)
  (h:∀h',Kz it s.heap h'->Q none { s with heap:=h' }):wpAny (model prog w) A (pyNext (.ref it)) Q E s:=by
 obtain ⟨o,ho,k,hd⟩:=id c;unfold pyNext;refine Ak (Nr (De (name:=Fa "__next__") c.typeIs Ng
  (B4 Ng c.typeIs Kp ?_ (Kk _))))
 refine Ak (Al (Ak (Ak ?_)))
 first|refine Ak (N8 c.typeIs (Al ?_))|refine Ak (R1 c.typeIs (Al ?_))
 refine Ak (Kx ho hd ?_);simp only[show Nh "dict_keyiterator" = false by decide,Bq,if_false];show wpAny _ _ (if (Ba d==Dc)=true then _ else _) _ _ s;rw[if_neg (show ¬((Ba d==Dc)=true)from Bt)];refine Ak (Al (Ak (Dj f e ?_)));rw[if_neg (by simp)];refine Ak (Al (Ak (Fd f e ?_)));rw[if_neg (by simp)];refine Al ?_;simp only[show ¬((i:Int)<0)from by lia,if_false,Fh,Ic g];refine Ak ?_
 first|refine Ak (N8 c.typeIs (Al ?_))|refine Ak (R1 c.typeIs (Al ?_))
 show wpAny _ _ (setField (.ref it) 0 .none >>= _) _ _ s;refine Ak (Nc ho hd (by simp) ?_);show wpAny _ _ (newExc (.type "StopIteration") [] >>= _) _ _ _;refine Ak ?_;simp only[newExc,newTuple];refine Ak (Di ?_ (by size_fits));refine Ak (m:=firstArgMember _ _) (Nz (a:=Dc) (by first|rfl|(simp only[firstArgMember];rfl)) ?_);refine Di ?_ (by size_fits);simp only[raiseNew];refine Ak (Ii ?_);rw[show A.in1.handled=none from j];refine Ak (Al (K0 ?_));refine Ak (Ml (T:="StopIteration") (b:=true) ⟨_,Be _ rfl,rfl⟩ Tr ?_);exact Al (h _ (((Dd ..).extBut.push _).push _))
end L2
variable {ts:List Np}
namespace Mx
open PySem PySem.Spec L2
section
variable {ok ov:Value}
theorem Qh3(hd:(d==sysModules)=false):MeetsIn prog w (Builtin.«dict.items» ⟨[.ref d],[]⟩) (λ_ R s=>(∃o,s.heap.get? d=some o/\o.ExactDict) /\
   R (.ok (.ret (.ref s.heap.objs.size))) { s with heap:=s.heap.push { cls:=.type "dict_items",data:=.fields #[.ref d] } }) :=
 .of_wp λA R s ⟨⟨o,ho,a⟩,h⟩=>by
  unfold Builtin.«dict.items» A0f Ro;refine Ak (Ak (M4 ⟨o,ho,a.1⟩ ?_));show wpAny _ _ (pure d) _ _ s;refine Al ?_;show wpAny _ _ ((if (d==sysModules)=true then _ else _) >>= _) _ _ s;rw[if_neg (by rw[hd];exact Bt)];exact Ak (Al (Ak (Di (Al ⟨_,rfl,h⟩))))
theorem Qk5{v:Addr}(b:s.heap.IsItemsView v d)(ho:s.heap.get? d=some od)(a:od.data=.dict es ep)
  (f:Q (.ref s.heap.objs.size) { s with heap:=s.heap.push { cls:=.type "dict_itemiterator",data:=.fields #[.none,.bool false,.ref d,.int 0 0,.int es.size 0,.int ep 0,.none,.none] } }) :
  wpAny (model prog w) A (pyIter (.ref v)) Q E s:=by
 obtain ⟨o',c,g,e⟩:=id b;refine So b.typeIs O5 (B4 O5 b.typeIs F.entry_dict_items_iter ?_ (F.args_dict_items_iter_1 _));unfold Builtin.«dict_items.__iter__» Builtin.Dict_items.dictOf;refine Ak (Al (Ak (Ak (Dk c e (x:=.ref d) rfl (Al (Ak ?_))))));unfold Builtin.Dict_items.newIterator;refine Ak (Dj ho a (Ak (Fd ho a ?_)));simp only[show Nh "dict_itemiterator" = true by decide,if_true];refine Di (Al ⟨_,rfl,"dict_itemiterator",_,⟨_,Be _ rfl,rfl⟩,M5.lookup,?_⟩)
  (by simp only[sizeOk,Tt,Br,Dy,Av,Bc,Sh];lia)
 simpa[rawInt,Tt]using f
theorem Qk4{Q:Option Value->Shared->Prop}(c:IsItemIter s.heap it d i es.size ep ok ov)(n:s.heap.get? d=some od)(t:od.data=.dict es ep)(M:es[i]? = some e)
  (O:∀h',IsItemIterOut h' it d (i+1) es.size ep e.key e.val s.heap.objs.size->h'.get? s.heap.objs.size=some { cls:=.type "tuple",data:=.seq #[e.key,e.val] } ->
   (∀b o,b≠it->s.heap.get? b=some o->h'.get? b=some o)->Q (some (.ref s.heap.objs.size)) { s with heap:=h' }):wpAny (model prog w) A (pyNext (.ref it)) Q E s:=by
 obtain⟨f,g,p,r,os⟩:=s;have j:Ik ⟨f,g,p,r,os⟩ (.ref it) "dict_itemiterator":=⟨_,c,rfl⟩
 unfold pyNext;refine Ak (Nr (De (name:=Fa "__next__") j M5
  (B4 M5 j Kl ?_ (Iy _))))
 refine Ak (Al (Ak (Ak ?_)))
 first|refine Ak (N1 j (Al ?_))|refine Ak (Rx j (Al ?_))
 refine Ak (Kx c rfl ?_);simp only[show Nh "dict_itemiterator" = true by decide,if_true];show wpAny _ _ (if (Ba d==Dc)=true then _ else _) _ _ _;rw[if_neg (show ¬((Ba d==Dc)=true)from Bt)];refine Ak (Al (Ak (Dj n t ?_)));rw[if_neg (by simp)];refine Ak (Al (Ak (Fd n t ?_)));rw[if_neg (by simp)];refine Al ?_;simp only[show ¬((i:Int)<0)from by lia,if_false,Fh,M];refine Ak ?_
 first|refine Ak (N1 j (Al ?_))|refine Ak (Rx j (Al ?_))
 refine Ak (Ie j ?_);show wpAny _ _ (setField (.ref it) 3 (rawInt ((i:Int)+1)) >>= _) _ _ ⟨f,g,p,r,os⟩;refine Ak (F0 c (by simp) λh1 u l=>?_)
 replace l:Dw it f h1:=l
 replace u:IsItemIter h1 it d (i+1) es.size ep ok ov:=by
  have z:((i+1:Nat):Int)=(i:Int)+1:=by lia
  unfold IsItemIter;rw[z];simpa[rawInt]using u
 have h:Ik ⟨h1,g,p,r,os⟩ (.ref it) "dict_itemiterator":=⟨_,u,rfl⟩
 refine Ak (Dx (Ak (Ie h (Ak (Ie h ?_)))));show wpAny _ _ (Iq (.ref it) 6 e.key e.val) _ _ ⟨h1,g,p,r,os⟩;unfold Iq;refine Ak (Pe ?_);have m:IsItemIter (h1.push { cls:=.type "tuple",data:=.seq #[e.key,e.val] }) it d (i+1) es.size ep ok ov:=Ao _ u;generalize k:h1.push { cls:=.type "tuple",data:=.seq #[e.key,e.val] }=h2 at m;have L:h1.objs.size=f.objs.size:=l.1;have G:it<f.objs.size:=Bj c;have P:h2.get? f.objs.size=some { cls:=.type "tuple",data:=.seq #[e.key,e.val] }:=by rw[← k,← L];exact Be _ rfl
 have N:∀b o,b≠it->f.get? b=some o->h2.get? b=some o:=λb o a q=>by rw[← k];exact Ao _ (l.extBut b o a q)
 show wpAny _ _ (Tu (.ref it) >>= _) _ _ ⟨h2,g,p,r,os⟩;rw[L];clear k u l h L h1;unfold Tu;refine Ak (Ak (Dk m rfl (x:=.none) rfl (Al ?_)));simp only[if_true];refine Ak (Dk m rfl (x:=ok) rfl (Ak (Dk m rfl (x:=ov) rfl ?_)));refine Ak (F0 m (by simp) λv I F=>?_)
 replace F:Dw it h2 v:=F
 replace I:IsItemIter v it d (i+1) es.size ep e.key ov:=I
 refine Ak (F0 I (by simp) λh4 J D=>?_)
 replace D:Dw it v h4:=D
 replace J:IsItemIter h4 it d (i+1) es.size ep e.key e.val:=J
 refine Ak (F0 J (by simp) λy H B=>?_)
 replace B:Dw it h4 y:=B
 replace H:IsItemIterOut y it d (i+1) es.size ep e.key e.val f.objs.size:=H
 refine Ak (F0 H (by simp) λh6 K C=>?_)
 replace C:Dw it y h6:=C
 replace K:IsItemIterOut h6 it d (i+1) es.size ep e.key e.val f.objs.size:=K
 have all:∀b o,b≠it->h2.get? b=some o->h6.get? b=some o:=λb o a q=>C.extBut b o a (B.extBut b o a (D.extBut b o a (F.extBut b o a q)));exact Ak (Ib (Al (Al ⟨_,rfl,Al (O h6 K (all _ _ (D4 G) P) λb o a q=>all b o a (N b o a q))⟩)))
theorem Qnl{Q:Option Value->Shared->Prop}(k:A.handled=none)(c:IsItemIter s.heap it d i es.size ep ok ov)(g:s.heap.get? d=some od)(f:od.data=.dict es ep)(h:es.size<=i)
  (j:∀h',Kz it s.heap h'->Q none { s with heap:=h' }):wpAny (model prog w) A (pyNext (.ref it)) Q E s:=by
 have e:s.TypeIs (.ref it) "dict_itemiterator":=⟨_,c,rfl⟩
 unfold pyNext;refine Ak (Nr (De (name:=Fa "__next__") e M5
  (B4 M5 e Kl ?_ (Iy _))))
 refine Ak (Al (Ak (Ak ?_)))
 first|refine Ak (N1 e (Al ?_))|refine Ak (Rx e (Al ?_))
 refine Ak (Kx c rfl ?_);simp only[show Nh "dict_itemiterator" = true by decide,if_true];show wpAny _ _ (if (Ba d==Dc)=true then _ else _) _ _ s;rw[if_neg (show ¬((Ba d==Dc)=true)from Bt)];refine Ak (Al (Ak (Dj g f ?_)));rw[if_neg (by simp)];refine Ak (Al (Ak (Fd g f ?_)));rw[if_neg (by simp)];refine Al ?_;simp only[show ¬((i:Int)<0)from by lia,if_false,Fh,Ic h];refine Ak ?_
 first|refine Ak (N1 e (Al ?_))|refine Ak (Rx e (Al ?_))
 show wpAny _ _ (setField (.ref it) 2 .none >>= _) _ _ s;refine Ak (Nc c rfl (by simp) ?_);show wpAny _ _ (newExc (.type "StopIteration") [] >>= _) _ _ _;simp only[newExc,newTuple];refine Ak (Ak (Di ?_ (by size_fits)));refine Ak (m:=firstArgMember _ _) (Nz (a:=Dc) (by first|rfl|(simp only[firstArgMember];rfl)) ?_);refine Di ?_ (by size_fits);simp only[raiseNew];refine Ak (Ii ?_);rw[show A.in1.handled=none from k];refine Ak (Al (K0 ?_));refine Ak (Ml (T:="StopIteration") (b:=true) ⟨_,Be _ rfl,rfl⟩ Tr ?_);exact Al (j _ (((Dd ..).extBut.push _).push _))
end
noncomputable def ItM(d:Addr)(o:Obj)(kvs:KVM):It :=
 ⟨λi H=>H d=some (.frz o (mixO d kvs))/\i<kvs.length,λi H x H'=>∃k y v p,kvs[i]? = some (k,y,v)/\x=.ref p/\H p=none/\H'=upd H p (.tup [y,v]),λi H=>H d=some (.frz o (mixO d kvs))/\kvs.length<=i⟩
theorem Qoa(a:es.toList=vs.map entI)(j:Nat):es[j]? = (vs[j]?).map entI:=by
 rw[← Mc,a,Bh]
theorem Qwy{K:Frag}(d it:Addr)(ob:Obj)(kvs:KVM)(vs:VM)(es:Array DictEntry)(ep:Nat)(g:Paired RelE kvs vs)(R:d≠it)(c:ob.data=.dict es ep)(N:es.toList=vs.map entI) :
  Turn P w K (.Tuple ts kt pt) (ItM d ob kvs) [it] it (λi h=>∃ok ov,IsItemIter h it d i es.size ep ok ov) where
 mem:=by simp
 obj:=λi h st b a=>by
  have e:b=it:=by simpa using a
  subst e;obtain⟨ok,ov,st⟩:=st;exact⟨_,st,λv z=>by have T:T9 _=Sd v:=z;cases T⟩
 keep:=λi h h' st k=>by
  obtain⟨ok,ov,st⟩:=st;exact⟨ok,ov,k it (by simp) _ st⟩
 item:=by
  intro X D hw C O i pins s σ H E I t st hg;subst D hw C;obtain⟨ok,ov,st⟩:=st;obtain⟨B,x⟩:=hg;obtain⟨J,_⟩:=I.hok d _ B;obtain⟨⟨k,y,v⟩,M⟩:∃p,kvs[i]? = some p:=⟨kvs[i],by simp[x]⟩
  have m:kvs.length=vs.length:=D9 g;obtain⟨⟨k',u,r⟩,L⟩:∃p,vs[i]? = some p:=⟨vs[i]'(by omega),by simp[show i<vs.length by lia]⟩
  obtain⟨-,W,V⟩:=U1 g M L;have f:it<s.heap.objs.size:=Bj st;have S:es[i]? = some (entI (k',u,r)):=by rw[Qoa N,L];rfl
  refine Qk4 st J c S λh' ho n kp=>⟨_,rfl,K7 ho λh2 F l=>?_⟩
  have hn:H s.heap.objs.size=none:=I.hok.fresh (At _);have G:=l.extBut _ _ (D4 f) n;refine⟨.ref s.heap.objs.size,upd H s.heap.objs.size (.tup [y,v]),I.turnNew (ch:=[it]) (t':=s.toks) (At _) (λb o a q=>?_) t ?_,rfl,⟨k,y,v,_,M,rfl,hn,rfl⟩,⟨_,_,F⟩,λb a=>?_⟩
  ·have j:b≠it:=λz=>a (by simp[z]);exact l.extBut _ _ j (kp b o j q)
  ·exact⟨by show 2<=sizeLine;decide,[u,r],.cons W (.cons V .nil),⟨_,G,rfl,_,rfl⟩⟩
  ·have e:b=it:=by simpa using a
   subst e;rw[Qm (By f)];exact(t b a).1
 done:=by
  intro X D hw C O i pins s σ H E I t st hg;subst D hw C;obtain⟨ok,ov,st⟩:=st;obtain⟨B,U⟩:=hg;obtain⟨J,_⟩:=I.hok d _ B;have m:kvs.length=vs.length:=D9 g;have hsz:es.size=vs.length:=by rw[← Mw,N,Ap]
  obtain⟨f0,Y,f2,f3,Z,f5⟩:=t it (by simp);exact Qnl (I.ok.hd O) st J c (by lia) λh' eb=>⟨rfl,I.turned (t':=s.toks) (λb o a e=>eb b o a e) f0 Y f3 Z f5⟩
 self:=λA i s Q E st h=>by
  obtain⟨ok,ov,st⟩:=st;have n:s.TypeIs (.ref it) "dict_itemiterator":=⟨_,st,rfl⟩
  refine So n Nf (B4 Nf n kcp_entry ?_ (Th _));show wpAny _ _ (ret (.ref it)) _ _ s;exact Al ⟨_,rfl,"dict_itemiterator",_,n,Ts.lookup,h⟩
def Qvz(to:TE):TI:=λσ H R=>to σ H λx H1=>∃d kvs,x=.ref d/\H1 d=some (mixO d kvs)/\∀o,R (ItM d o kvs) (upd H1 d (.frz o (mixO d kvs)))
theorem Qmo{es:List Expr}{o:Expr}(ho:PE X o to)(l:attributeBase o "items" X.env (eval o X.env)=eval o X.env:=by rfl)(k:(apos.endLine==cpos.line)=true:=by rfl) :
  PI X (.Tuple es kt pt) (.Call (.Attribute o "items" apos) [] [] cpos) (Qvz to):=by
 intro pins s σ H R I h;refine Tv l k (thn (ho pins s σ H _ I h) λv a D=>?_);obtain⟨x,H1,w,C,d,kvs,e,hd,q⟩:=D;subst e;cases C;obtain⟨⟨y,hz,r,vs,n,ob,j,ep,p,z,f,A⟩,-,-⟩:=(show Ja X.prog X.w H1 a.heap d (mixO d kvs)from w.hok d _ hd)
 obtain ⟨h1,h2⟩:=Qiy (T:="dict") w (show RelV (.ref d) (.ref d)from rfl) (.inr (.inr (.inr (.inr ⟨_,hd,λh ⟨_,_,_,_,_,o,_,_,e,c,_⟩=>⟨o,e,c.1,c.2.1⟩⟩))));refine⟨"dict",_,D1,R8,Oh,h1,h2,No rfl (Kr ?_)⟩;refine Su R8 h1 Oa (Lu _) (Qh3 y) ⟨⟨ob,p,z⟩,?_⟩;have t:Inv X pins σ H1 { a with heap:=a.heap.push { cls:=.type "dict_items",data:=.fields #[.ref d] } }:=w.kept (t':=a.toks) λb u e=>Ao _ e;have g:(a.heap.push { cls:=.type "dict_items",data:=.fields #[.ref d] }).get? d=some ob:=Ao _ p;refine Qk5 (d:=d) ⟨_,Be _ rfl,rfl,rfl⟩ g f ?_;have F:=t.kept (h':=(a.heap.push { cls:=.type "dict_items",data:=.fields #[.ref d] }).push { cls:=.type "dict_itemiterator",data:=.fields #[.none,.bool false,.ref d,.int 0 0,.int j.size 0,.int ep 0,.none,.none] }) (t':=a.toks) λb u e=>Ao _ e;have i:=Ao (h:=a.heap.push { cls:=.type "dict_items",data:=.fields #[.ref d] }) { cls:=.type "dict_itemiterator",data:=.fields #[.none,.bool false,.ref d,.int 0 0,.int j.size 0,.int ep 0,.none,.none] } g;have E:=F.write (x:=d) (e:=d) (o:=.frz ob (mixO d kvs)) (t':=a.toks) (by rw[hd];trivial) (.inl rfl) (λb u _ q=>q) ⟨_,i⟩
  (show Ja X.prog X.w _ _ d (.frz ob (mixO d kvs)) from⟨i,Qa1 ⟨y,hz,r,vs,n,ob,j,ep,i,z,f,A⟩⟩)
 have m:d<(a.heap.push { cls:=.type "dict_items",data:=.fields #[.ref d] }).objs.size:=Bj g;refine⟨(a.heap.push { cls:=.type "dict_items",data:=.fields #[.ref d] }).objs.size,[(a.heap.push { cls:=.type "dict_items",data:=.fields #[.ref d] }).objs.size],_,_,_,rfl,E,
  Qwy d _ ob kvs vs j ep n (By m) f A,⟨_,_,Be _ rfl⟩,λb B=>?_,q ob⟩
 have e:b=(a.heap.push { cls:=.type "dict_items",data:=.fields #[.ref d] }).objs.size:=by simpa using B
 subst e;exact t.fpOk (At _) (by rw[Qm (D4 m)];exact t.hok.fresh (At _))
noncomputable def ItkM(d:Addr)(o:Obj)(kvs:KVM):It :=
 ⟨λi H=>H d=some (.frz o (mixO d kvs))/\i<kvs.length,λi H x H'=>H'=H/\∃k v,kvs[i]? = some (k,x,v),λi H=>H d=some (.frz o (mixO d kvs))/\kvs.length<=i⟩
theorem Qtt{K:Frag}(d it:Addr)(ob:Obj)(kvs:KVM)(vs:VM)(es:Array DictEntry)(ep:Nat)(g:Paired RelE kvs vs)(O:d≠it)(a:ob.data=.dict es ep)(M:es.toList=vs.map entI) :
  Turn P w K tg (ItkM d ob kvs) [it] it (λi h=>h.IsKeyIter it d i es.size ep) where
 mem:=by simp
 obj:=λi h st b f=>by
  have e:b=it:=by simpa using f
  subst e;obtain⟨o,e,c,d⟩:=st;exact⟨o,e,λv z=>by rw[d]at z;cases z⟩
 keep:=λi h h' st k=>by
  obtain⟨o,e,c,d⟩:=st;exact⟨o,k it (by simp) o e,c,d⟩
 item:=by
  intro X x hw t N i pins s σ H E I m st hg;subst x hw t;obtain⟨q,n⟩:=hg;obtain⟨G,_⟩:=I.hok d _ q;obtain⟨⟨k,y,v⟩,L⟩:∃p,kvs[i]? = some p:=⟨kvs[i],by simp[n]⟩
  have l:kvs.length=vs.length:=D9 g;obtain⟨⟨Z,u,r⟩,J⟩:∃p,vs[i]? = some p:=⟨vs[i]'(by omega),by simp[show i<vs.length by lia]⟩
  obtain⟨-,U,rv⟩:=U1 g L J;have R:es[i]? = some (entI (Z,u,r)):=by rw[Qoa M,J];rfl
  obtain⟨D,A,Q,C,B,F⟩:=m it (by simp);refine Qqs st G a R λh' j W=>?_;have V:Inv X pins σ H { s with heap:=h' }:=I.turned (t':=s.toks) (λb o f e=>(W.2 b f).trans e) D A C B F;obtain⟨oi,e,c,S⟩:=id j;exact⟨_,rfl,Qnz (s:={ s with heap:=h' }) e c S (by decide) ⟨y,H,V,U,⟨rfl,k,v,L⟩,j,λb f=>(m b f).1⟩⟩
 done:=by
  intro X x hw t N i pins s σ H E I m st hg;subst x hw t;obtain⟨q,T⟩:=hg;obtain⟨G,_⟩:=I.hok d _ q;have l:kvs.length=vs.length:=D9 g;have hsz:es.size=vs.length:=by rw[← Mw,M,Ap]
  obtain⟨D,A,Q,C,B,F⟩:=m it (by simp);exact Qwb (I.ok.hd N) st G a (by lia) λh' Y=>⟨rfl,I.turned (t':=s.toks) (λb o f e=>Y b o f e) D A C B F⟩
 self:=λ_ _ _ _ _ st h=>wpAny_pyIter_keyiter st h
def Qzv(to:TE):TI:=λσ H R=>to σ H λx H1=>∃d kvs,x=.ref d/\H1 d=some (mixO d kvs)/\∀o,R (ItkM d o kvs) (upd H1 d (.frz o (mixO d kvs)))
theorem Qqa{o:Expr}(ho:PE X o to):PI X tg o (Qzv to):=by
 intro pins s σ H R I h;refine thn (ho pins s σ H _ I h) λv f y=>?_;obtain⟨x,H1,k,t,d,kvs,e,hd,q⟩:=y;subst e;cases t;obtain⟨⟨m,hz,l,vs,j,ob,es,ep,g,n,a,p⟩,-,-⟩:=(show Ja X.prog X.w H1 f.heap d (mixO d kvs)from k.hok d _ hd)
 refine Qq1 m g n a ?_;have z:=k.kept (h':=f.heap.push { cls:=.type "dict_keyiterator",data:=.fields #[.ref d,.int 0 0,.int es.size 0,.int ep 0] }) (t':=f.toks) λb u e=>Ao _ e;have c:=Ao (h:=f.heap) { cls:=.type "dict_keyiterator",data:=.fields #[.ref d,.int 0 0,.int es.size 0,.int ep 0] } g;have i:d<f.heap.objs.size:=Bj g;have w:=z.write (x:=d) (e:=d) (o:=.frz ob (mixO d kvs)) (t':=f.toks) (by rw[hd];trivial) (.inl rfl) (λb u _ q=>q) ⟨_,c⟩
  (show Ja X.prog X.w _ _ d (.frz ob (mixO d kvs)) from⟨c,Qa1 ⟨m,hz,l,vs,j,ob,es,ep,c,n,a,p⟩⟩)
 refine ⟨f.heap.objs.size,[f.heap.objs.size],_,_,_,rfl,w,
  Qtt d _ ob kvs vs es ep j (By i) a p,⟨_,Be _ rfl,rfl,rfl⟩,λb r=>?_,q ob⟩
 have e:b=f.heap.objs.size:=by simpa using r
 subst e;exact k.fpOk (At _) (by rw[Qm (D4 i)];exact k.hok.fresh (At _))
theorem Qwe(ok:HOk P w H h)(e:Rd H a (mixO a kvs))(d:Keys H kvs):(a==sysModules)=false/\kvs.length<=sizeLine/\∃vs,Paired RelE kvs vs/\Y6 P w h a (vs.map up):=by
 have p:phi a kvs h:=by
  rcases e with e|⟨o,e⟩
  ·exact(show Ja P w H h a (mixO a kvs)from ok a _ e).1
  ·exact(show Ja P w H h a (.frz o (mixO a kvs))from ok a _ e).2.1
 obtain⟨i,f,b,vs,r,o,es,ep,ho,j,hd,g⟩:=p;refine⟨i,f,vs,r,o,es,ep,ho,j,hd,?_,Qpd ok r d,?_⟩
 ·rw[g,Bg];exact B0 λq _=>Qn9.symm
 ·have c:(vs.map up).map (·.1)=(vs.map (·.1)).map kM:=by rw[Bg,Bg];rfl
  rw[c,← Qcr r];exact A0r _ (λ_ _ n z=>n (Qgm z)) b
section
variable {k:MK}
theorem getItem{p:Value×Value}(c:A.units+5<cLine)(b:is P w s.heap k u)(m:Y6 P w s.heap d xs)(a:atM xs k=some p)(h:Q p.2 { s with toks:=s.toks+Vh k }) :
  wpAny (model P w) A (PySem.getItem (.ref d) u) Q E s:=by
 unfold PySem.getItem
 try with_reducible refine Dx ?_
 refine Ak (T1 m.ty (by decide) ?_);refine Ak (De (name:=Fa "__getitem__") m.ty slot_dict_getitem
  (B4 slot_dict_getitem m.ty entry_dict_getitem ?_ (args_dict_getitem _ _)))
 show wpAny _ _ (dictGet d u >>= _) _ _ s;refine Ak (get (by show A.units+1+4<cLine;lia) b m ?_);rw[a];exact Al ⟨p.2,rfl,Al h⟩
theorem clear(d:Addr):MeetsIn P w (Builtin.«dict.clear» ⟨[.ref d],[]⟩) (λ_ R s=>∃xs,Y6 P w s.heap d xs/\xs.length<=sizeLine /\
   ∀h',Y6 P w h' d []->Dw d s.heap h'->R (.ok (.ret .none)) { s with heap:=h' }) :=
 .of_wp λA R s ⟨xs,m,hsz,h⟩=>by
  obtain⟨o,es,ep,ho,f,a,e,hi,g⟩:=id m;have c:es.size<=sizeLine:=by rw[Va e];exact hsz
  unfold Builtin.«dict.clear»;refine Ak ?_;unfold A0f;refine Ak (M4 m.ty ?_);show wpAny _ _ (pure d) _ _ s;refine Al ?_;refine Ak (Dj ho a ?_);refine Ak ?_;unfold bearsInstanceDictMark;refine Ak (wpAny_load ho (Al ?_));refine Ak (Ki (hz:=c) ho a ?_);have b:Y6 P w (s.heap.update d (Obj.mapDictKeys λ_=>#[])) d [] :=
   ⟨_,_,ep+1,Fc _ ho (R5 (Mp a _)),f.mapDictKeys _,Mp a _,rfl,(by intro _ h;cases h),Df⟩
  split
  ·exact Ak (Ib (Al ⟨.none,rfl,h _ b (Dd ..)⟩))
  ·exact Ak (Al (Al ⟨.none,rfl,h _ b (Dd ..)⟩))
theorem Qqm(f:(es.toList.map (·.hash)).Nodup)(j:e∈es.toList):¬(es.filter (·.hash==e.hash)).size > 1:=by
 have:∀l:List DictEntry,(l.map (·.hash)).Nodup->(l.filter (·.hash==e.hash)).length<=1:=by
  intro l
  induction l with
  |nil=>intro _;simp
  | cons a l d=>
   intro nd;obtain⟨g,i⟩:=Bf.mp nd;by_cases h:a.hash=e.hash
   ·rw [D3 (by simpa using h)];have:l.filter (·.hash==e.hash)=[]:=O6.mpr λb c=>by
     simp;exactλz=>g (by show a.hash∈_;rw[h,← z];exact As.mpr ⟨b,c,rfl⟩)
    rw[this];simp
   ·rw[D2 (by simpa using h)];exact d i
 have:=this _ f;obtain⟨l⟩:=es;simp at this ⊢;lia
theorem Qvx(d:∀a o,h.get? a=some o->h'.get? a=some o){k:Ek.MK}(c:Ek.is P w h k u):Ek.is P w h' k u:=by
 cases k with
 |inl i=>exact c
 | inr ks=>
  obtain⟨b,e,o,items,n,h1,h2,f,h4⟩:=c;exact⟨b,e,o,items,n,d _ _ h1,h2,f,h4⟩
theorem Qvw(b:∀a o,h.get? a=some o->h'.get? a=some o)(e:Ek.IsN P w h ks a):Ek.IsN P w h' ks a:=by
 obtain⟨o,items,n,h1,h2,d,h4⟩:=e;refine⟨o,items,n,b _ _ h1,h2,d,?_⟩;generalize items.toList=vs at h4
 induction h4 with
 |nil=>exact .nil
 |cons p _ c=>exact .cons (Qvx b p) c
theorem copy{o:Addr}(O:(o==sysModules)=false)(m:Y6 P w s.heap o xs)(i:∀x∈xs,∃b ks,x.1=.inr ks/\x.2.1=.ref b)(W:(xs.map λx=>hash P w x.1).Nodup)(hsz:xs.length<=sizeLine)
  (h:∀h',Y6 P w h' s.heap.objs.size xs->Dw s.heap.objs.size (s.heap.push { cls:=.type "dict",data:=.dict #[] }) h'->Q (.ref s.heap.objs.size) { s with heap:=h' }) :
  wpAny (model P w) A (call (.type "dict") [.ref o]) Q E s:=by
 refine callType_codes (Q₁:=λobj n=>obj=.ref s.heap.objs.size/\n={ s with heap:=s.heap.push { cls:=.type "dict",data:=.dict #[] } }) F.kt_called_dict (F.kt_typeCall_dict_1 _) F.entry_dict_init (kt_code_dict_new _ ⟨rfl,rfl⟩) ?_
 rintro obj n ⟨rfl,rfl⟩
 obtain⟨oo,es,ep,ho,hc,hd,u,hi,Z⟩:=id m
 have C:Ik { s with heap:=s.heap.push { cls:=.type "dict",data:=.dict #[] } } (.ref s.heap.objs.size) "dict":=⟨_,Be _ rfl,rfl⟩
 have p:Ik { s with heap:=s.heap.push { cls:=.type "dict",data:=.dict #[] } } (.ref o) "dict":=⟨oo,Ao _ ho,hc.1⟩
 have k:(s.heap.push { cls:=.type "dict",data:=.dict #[] }).get? o=some oo:=Ao _ ho
 have j:(s.heap.push { cls:=.type "dict",data:=.dict #[] }).get? s.heap.objs.size=some { cls:=.type "dict",data:=.dict #[] }:=Be _ rfl
 have H:s.heap.objs.size≠o:=λe=>absurd (Bj ho) (by rw[e];exact Mr _)
 refine⟨C,F.args_dict_init_2 _ _,?_⟩
 unfold Builtin.«dict.__init__»
 refine Ak ?_
 unfold Builtin.Dict.selfAndRest
 refine Ak (M4 C ?_)
 show wpAny _ _ (pure (s.heap.objs.size,[Ba o])) _ _ _
 refine Al ?_
 show wpAny _ _ (Oj "dict.__init__" s.heap.objs.size (.ref o) [] .none) _ _ _
 unfold Oj
 refine Ak (L7 p ?_)
 rw[if_neg (by decide)]
 refine Ak ?_
 unfold Builtin.Dict.merge
 refine Ak ?_
 unfold Builtin.Dict.readDirectly
 refine Ak (Ml p isSubtype_dict_dict ?_)
 simp only[Fk,Bq,if_false]
 refine Ak (M1 p Ob.lookup (Al ?_))
 simp only[beq_self_eq_true,if_true]
 refine Ak (Al ?_)
 unfold Builtin.Dict.mergeDict
 rw[if_neg (by simpa using H)]
 unfold Ro
 rw[if_neg (by rw[O];exact Bt)]
 refine Ak (Al ?_)
 refine Ak (Dj k hd ?_)
 dsimp only
 have fin:∀h',Y6 P w h' s.heap.objs.size xs->Dw s.heap.objs.size (s.heap.push { cls:=.type "dict",data:=.dict #[] }) h'->wpAny (model P w) A.in1.in1 (do
   Builtin.Dict.addKeywords s.heap.objs.size []
   ret Dc) (λfin s'=>match fin with
    |Fin.done f=>wants (λr d=>r=Dc/\Q (Ba s.heap.objs.size) d) E (Except.ok f) s'
    |Fin.again T=>T.quiet=true/\codeAny (model P w) A.in1 T (wants (λr d=>r=Dc/\Q (Ba s.heap.objs.size) d) E) s')
   (λe s'=>wants (λr d=>r=Dc/\Q (Ba s.heap.objs.size) d) E (Except.error e) s') { s with heap:=h' }:=λh' Y U=>Ak (Al (Al ⟨rfl,h h' Y U⟩))
 have g:=Va u
 cases xs with
 | nil=>
  have L:es = #[]:=Array.eq_empty_of_size_eq_zero (by rw[g];rfl)
  subst L
  rw[if_neg (by simp)]
  refine Ak (Fd k hd (Ak (Dj k hd (Ak ?_))))
  rw[S7]
  refine Al (Al (fin _ ⟨_,_,0,j,⟨rfl,rfl,rfl⟩,rfl,rfl,(by intro _ h;cases h),Df⟩ (Heap.SameBut.refl _ _)))
 | cons x xs=>
  have h0:es[0]? = some (ent P w x):=by rw[Gj u 0];rfl
  have I:(es.all λe=>(keyPart e.key).isSome)=false:=by
   obtain⟨b,ks,G,t⟩:=i x An
   rw[← Array.all_toList,List.all_eq_false]
   refine⟨ent P w x,by rw[u];simp,?_⟩
   show ¬(keyPart x.2.1).isSome=true
   rw[t]
   simp[keyPart]
  rw[I,Pf,if_pos (by decide)]
  refine Ak (Dj j rfl ?_)
  rw[if_pos (by rfl)]
  unfold Builtin.Dict.entriesForEmpty
  refine Ak (Ak (Dj k hd (Ak ?_)))
  rw[← Tn]
  refine Mk _ (λrest _ s'=>s'={ s with heap:=s.heap.push { cls:=.type "dict",data:=.dict #[] } }/\∀e∈rest,e∈es.toList) _ ?_ ?_ _ _ ⟨rfl,λe h=>h⟩
  ·rintro e rest b s' ⟨rfl,S⟩
   have z:=S e An
   have l:=z
   rw[u]at l
   obtain⟨y,D,rfl⟩:=As.mp l
   obtain⟨b,ks,G,t⟩:=i y D
   have c:=hi y D
   rw[G,t]at c
   obtain⟨V,M,K⟩:=c
   cases M
   have X:Ik { s with heap:=s.heap.push { cls:=.type "dict",data:=.dict #[] } } (.ref b) "tuple":=by
    obtain⟨B,_,_,g1,g2,_⟩:=K
    exact⟨B,Ao _ g1,g2⟩
   have J:(ent P w y).key=.ref b:=t
   rw[J]
   unfold Builtin.Dict.quietEq
   refine Ak (Ak (M1 X Td.lookup (Al ?_)))
   rw[if_pos (by decide),if_neg (Qqm (by rw[u,Bg];exact W) z)]
   exact Al ⟨rfl,λe h=>S e (Am _ h)⟩
  ·rintro b s' ⟨rfl,_⟩
   refine Al ?_
   have v:0<es.size:=by rw[g];simp
   rw [if_pos (by
    have:es.isEmpty=false:=by
     cases q:es.isEmpty with
     |false=>rfl
     |true=>rw[Kj.mp q]at v;lia
    rw[this];rfl)]
   refine Ak (wpAny_updateDictKeysTo j rfl (hz':=by show es.size<=sizeLine+1;rw[g];exact Nat.le_succ_of_le hsz) (Al (fin _ ⟨_,_,1,Fc _ j (R5 (Mp rfl _)),Obj.ExactDict.mapDictKeys ⟨rfl,rfl,rfl⟩ _,Mp rfl _,u,λy D=>?_,Z⟩ (Dd ..))))
   obtain⟨b,ks,G,t⟩:=i y D
   have c:=hi y D
   rw[G,t]at c ⊢
   obtain⟨V,M,K⟩:=c
   cases M
   have N:∀a B,s.heap.get? a=some B->((s.heap.push { cls:=.type "dict",data:=.dict #[] }).update s.heap.objs.size (Obj.mapDictKeys λ_=>es)).get? a=some B:=λa B R=>by
    rw[Kt _ _ _ _ (show a≠s.heap.objs.size from By (Bj R))]
    exact Ao _ R
   exact⟨b,rfl,Qvw N K⟩
end
end Mx
variable {es:List Np}
namespace L2
open PySem PySem.Spec PyProof.Rows
noncomputable def Itel(K:Frag)(a:Addr):It :=
 ⟨λi H=>∃xs x,SqL K H a xs/\xs[i]? = some x,λi H v H'=>∀xs,SqL K H a xs->∃x p,xs[i]? = some x/\v=.ref p/\H p=none/\H'=upd H p (.tup [.int i,x]),λi H=>∃xs,SqL K H a xs/\xs.length<=i⟩
theorem Qkq{K:Frag}(a e it:Addr)(r:e≠it):Turn P w K (.Tuple es kt pt) (Itel K a) [e,it] e (λi h=>(∃f,IsEnum h e it i f)/\h.IsListIter it a i) where
 mem:=by simp
 obj:=λi h st b g=>by
  obtain⟨⟨f,h1⟩,o,h2,c,d⟩:=st;rcases Ay.mp g with z|z
  ·subst z;exact⟨_,h1,λv z=>by have n:T9 _=Sd v:=z;cases n⟩
  ·have n:b=it:=by simpa using z
   subst n;exact⟨o,h2,λv z=>by rw[d]at z;cases z⟩
 keep:=λi h h' st k=>⟨let ⟨f,h1⟩:=st.1;⟨f,k e (by simp) _ h1⟩,st.2.at λo q=>k it (by simp) o q⟩
 item:=by
  intro X O hw N W i pins s σ H E I y st hg;subst O hw N;obtain⟨⟨f,t⟩,j⟩:=st;obtain⟨xs,x,A,G⟩:=hg;obtain⟨its,M,⟨U,D,T,g2,Y,C⟩,hz⟩:=I.list A;have p:s.heap.IsList a its.toArray:=⟨U,T,g2,D,C⟩
  obtain⟨Q,B,ru⟩:=M.get G;refine wpAny_pyNext_enum_item t j p (x:=Q) (by simpa using B) r λh' ho m Z hsz hk=>?_;refine⟨_,rfl,Li ho λh2 R l=>?_⟩;have L:s.heap.objs.size≠e:=D4 (Bj t);have S:h2.get? s.heap.objs.size=some { cls:=.type "tuple",data:=.seq #[.int i s.toks,Q] }:=(l.2 _ L).trans Z;have hn:H s.heap.objs.size=none:=I.hok.fresh (At _);refine⟨.ref s.heap.objs.size,upd H s.heap.objs.size (.tup [.int i,x]),I.turnNew (ch:=[e,it]) (t':=s.toks+1) (At _) (λb o g q=>?_) y ?_,rfl,λys hy=>?_,⟨⟨_,R⟩,m.at λo q=>?_⟩,λb g=>?_⟩
  ·have h1:b≠e:=λz=>g (by simp[z]);have J:b≠it:=λz=>g (by simp[z]);exact(l.2 b h1).trans (hk b o h1 J q)
  ·exact⟨by show 2<=sizeLine;decide,[.int i s.toks,Q],.cons ⟨_,rfl⟩ (.cons ru .nil),⟨_,S,rfl,_,rfl⟩⟩
  ·rw[I.list_inj hy A];exact⟨x,_,G,rfl,hn,rfl⟩
  ·exact(l.2 it (Ra r)).trans q
  ·obtain ⟨o,q,_⟩:∃o,s.heap.get? b=some o/\True:=by
    rcases Ay.mp g with z|z
    ·exact⟨_,z ▸ t,trivial⟩
    ·have n:b=it:=by simpa using z
     obtain⟨o,q,_⟩:=j;exact⟨o,n ▸ q,trivial⟩
   rw[Qm (By (Bj q))];exact(y b g).1
 done:=by
  intro X O hw N W i pins s σ H E I y st hg;subst O hw N;obtain⟨⟨f,t⟩,j⟩:=st;obtain⟨xs,A,G⟩:=hg;obtain⟨its,M,⟨U,D,T,g2,Y,C⟩,hz⟩:=I.list A;have p:s.heap.IsList a its.toArray:=⟨U,T,g2,D,C⟩
  have V:=M.length;refine wpAny_pyNext_enum_end (I.ok.hd W) t j p (by simp;lia) λh' F=>?_;exact⟨rfl,I.turnAll (ch:=[e,it]) (t':=s.toks) (λb u g q=>F b u (λz=>g (by simp[z])) q) y⟩
 self:=λ_ _ _ _ _ st h=>by
  obtain⟨⟨f,q⟩,_⟩:=st;exact T3 q h
def Qzx(K:Frag)(ta:TA):TI:=λσ H R=>ta σ H λvs H1=>∃a,vs=[.ref a]/\(∃xs,SqL K H1 a xs)/\R (Itel K a) H1
theorem Qqc{a:Expr}(hg:Gl X "enumerate")(hm:X.mg "enumerate" = none)(j:PA X [a] ta)(r:starEach [a] X.env=[(false,eval a X.env)]:=by rfl) :
  PI X (.Tuple es kt pt) (.Call (.Name "enumerate" p) [a] [] pos) (Qzx X.K ta):=by
 intro pins s σ H R I h;refine Call_ (Gh I hg hm boot_enumerate (Fq (thn (j pos pins s σ H _ I h) λus c ⟨vs,H1,f,v,w⟩=>?_) r rfl));obtain⟨x,e,⟨xs,o⟩,q⟩:=w;subst e;obtain⟨u,rfl,y⟩:=Ga v;cases y;obtain⟨its,D,⟨B,l,A,g2,C,k⟩,hz⟩:=f.list o;refine call_enumerate_list (show c.heap.IsList x its.toArray from⟨B,A,g2,l,k⟩) λh' i g hz kp=>?_;have m:Inv X pins σ H1 { c with heap:=h' }:=f.kept (t':=c.toks) kp;refine T3 i ⟨c.heap.objs.size+1,[c.heap.objs.size+1,c.heap.objs.size],_,_,H1,rfl,m,Qkq x _ _ (D4 (Nat.lt_succ_self _)),⟨⟨_,i⟩,g⟩,λb n=>?_,q⟩;have d:c.heap.objs.size<=b:=by
  rcases Ay.mp n with z|z
  ·rw[z];exact Ky _
  ·have t:b=c.heap.objs.size:=by simpa using z
   rw[t];exact At _
 exact f.fpOk d (f.hok.fresh d)
theorem Qbk:∀{a b:List Int},a.map V.int=b.map V.int->a=b
 | [],[],_=>rfl
 | [],_::_,h=>by cases h
 |_::_,[],h=>by cases h
 | x::a,y::b,h=>by
  simp only[Ar,Rn,V.int.injEq]at h;rw[h.1,Qbk h.2]
end L2
namespace M
structure Tw(n:Nat)(A:Nat->Int)(g:Nat->Nat):Prop where
 lt:∀i,i<n->g i<n
 ne:∀i,i<n->g i≠i
 eq:∀i,i<n->A (g i)=A i
 only:∀i k,i<n->k<n->A k=A i->k=i\/k=g i
theorem Tw.inv{A:Nat->Int}{g:Nat->Nat}(T:Tw n A g)(h:i<n):g (g i)=i:=by
 rcases T.only (g i) i (T.lt i h) h (T.eq i h).symm with z|z
 ·exact absurd z.symm (T.ne i h)
 ·exact z.symm
end M
variable {xs:List L2.V}{L:List Nat}
namespace L2
open PySem PySem.Spec PyProof.Rows
structure Lam where
 qual:Str
 args:Arguments
 body:Expr
 scope:Scope
 names:List Str
abbrev anyO:HO:=.ext λ_=>True
abbrev Lam.obj(L:Lam)(cl:List (Str×Addr))(b:Value)(c:Addr)(a:Value):Obj:=PySem.W.kla_obj "<lambda>" L.qual L.args L.body L.scope cl b c a
def Qkj(H:Hp)(L:Lam)(a:Addr)(cl:List (Str×Addr)):Prop :=
 ∃(d:Addr)(c:Obj)(vs:Array Value)(t:Tok)(e b:Value)(u:HO),H a=some (.frz (L.obj cl e d b) anyO)/\H d=some (.frz c u)/\c.data=.fields vs/\vs[1]? = some (.str L.qual t)
def Qaq(H:Hp):List (Str×Addr)->List V->Prop
 | [],[]=>True
 |p::cl,x::xs=>(∃oo v,H p.2=some (.frz oo anyO)/\oo.data=.cell (some v)/\RelV x v)/\Qaq H cl xs
 |_,_=>False
def Qr2(H:Hp)(L:Lam)(a:Addr)(xs:List V):Prop :=
 ∃cl:List (Str×Addr),Qkj H L a cl/\cl.map (·.1)=L.names/\(cl.map (·.2)).Nodup/\Qaq H cl xs
section
variable {L:Lam}
theorem Qkj.keeps(hi:∀b o u,H b=some (.frz o u)->H' b=some (.frz o u))(x:Qkj H L a cl):Qkj H' L a cl:=by
 obtain⟨f,e,vs,t,d,c,u,h1,h2,r⟩:=x;exact⟨f,e,vs,t,d,c,u,hi _ _ _ h1,hi _ _ _ h2,r⟩
theorem Qaq.keeps(hi:∀b o u,H b=some (.frz o u)->H' b=some (.frz o u)):∀{cl:List (Str×Addr)} {xs:List V},Qaq H cl xs->Qaq H' cl xs
 | [],[],_=>trivial
 |p::cl,x::xs,⟨⟨oo,v,h1,r⟩,q⟩=>⟨⟨oo,v,hi _ _ _ h1,r⟩,Qaq.keeps hi q⟩
 | [],_::_,h=>h.elim
 |_::_,[],h=>h.elim
theorem Qr2.keeps(hi:∀b o u,H b=some (.frz o u)->H' b=some (.frz o u))(x:Qr2 H L a xs):Qr2 H' L a xs:=by
 obtain⟨cl,h1,h2,c,h4⟩:=x;exact⟨cl,h1.keeps hi,h2,c,h4.keeps hi⟩
end
end L2
namespace PV
open PySem PySem.Spec L2
inductive Ty where
 |int|bool|str|tuple|list|dict
 deriving DecidableEq
def Ty.nm:Ty->String
 | .int=>"int" | .bool=>"bool" | .str=>"str" | .tuple=>"tuple" | .list=>"list" | .dict=>"dict"
inductive KC where
 |any (a:Addr)
 |fn (x:Str)
 |int (i:Int)
 |tup (ks:List KC)
mutual
inductive IsKC(K:Frag):KC->V->Prop
 |any (a:Addr):IsKC K (.any a) (.ref a)
 |fn {x:Str} {f:Addr} (h:nsIn K mainGlobals x=some (some (.ref f))):IsKC K (.fn x) (.ref f)
 |int (i:Int):IsKC K (.int i) (.int i)
 |tup {a:Addr} {xs:List V} {ks:List KC} {o:Obj} {its:Array Value} {n:Nat} (h1:K.lookup a=some o) (h2:o.cls=.type "tuple") (d:o.data=.seq its n) (h4:its.size<=sizeLine) (e:Vals xs its.toList) (r:AreKC K ks xs):IsKC K (.tup ks) (.ref a)
inductive AreKC(K:Frag):List KC->List V->Prop
 |nil:AreKC K [] []
 |cons {c:KC} {v:V} {b:List KC} {vs:List V} (h:IsKC K c v) (r:AreKC K b vs):AreKC K (c::b) (v::vs)
end
inductive D where
 |non
 |bl (b:Bool)
 |int (i:Int)
 |str (x:Str)
 |tup (xs:List D)
 |lst (xs:List D)
 |dik (kvs:List (Key×D))
 |dit (kvs:List (List Key×D))
 |kls (xs:List D)
 |ty (t:Ty)
 |fdk (kvs:List (Key×D))
 |ftp (xs:List D)
 |fdt (kvs:List (List Key×D))
 |obj (x:Str) (fs:List (Str×Int))
 |clo (L:Lam) (ds:List D)
 |kc (c:KC)
 |dmx (kvs:List (Mx.MI×D))
 |fmx (kvs:List (Mx.MI×D))
end PV
variable {o:Option PV.D}{k:PV.D->Prop}{vs:List L2.V}{ys ds:List PV.D}{d:PV.D}{ks:List PV.KC}{G F:List Fz}
namespace PV
open PySem PySem.Spec L2
def imm:HO->Bool
 | .tup _=>true
 | .frz _ _=>true
 | .ins _ _ _=>true
 |_=>false
def FzL(K:Frag)(H:Hp)(a:Addr)(xs:List V):Prop :=
 (∃o,H a=some (.frz o (.lst xs))) \/
  ∃(o:Obj)(its:Array Value)(n:Nat),K.lookup a=some o/\o.cls=.type "list" /\ o.dict=none/\o.data=.seq its n/\its.size<=sizeLine/\Vals xs its.toList
theorem FzL.sq{K:Frag}(h:FzL K H a xs):SqL K H a xs:=by
 rcases h with h|h
 ·exact .inl (.inr h)
 ·exact .inr h
def fldN:Nat->List Str
 |0=>[]
 |1=>["one"]
 |_=>["one","other"]
mutual
inductive Rep(K:Frag)(H:Hp):D->V->List Addr->Prop
 |non:Rep K H .non .non []
 |bl (b:Bool):Rep K H (.bl b) (.bl b) []
 |int (i:Int):Rep K H (.int i) (.int i) []
 |str (x:Str):Rep K H (.str x) (.str x) []
 |tup {a:Addr} {xs:List V} {ds:List D} {F:List Addr} (e:H a=some (.tup xs)) (r:Reps K H ds xs F):Rep K H (.tup ds) (.ref a) F
 |lst {a:Addr} {xs:List V} {ds:List D} {F:List Addr} (e:H a=some (.lst xs)) (r:Reps K H ds xs F):Rep K H (.lst ds) (.ref a) (a::F)
 |dik {a:Addr} {kvs:List (Key×V)} {ds:List (Key×D)} {F:List Addr} (e:H a=some (.dK kvs)) (r:RepK K H ds kvs F):Rep K H (.dik ds) (.ref a) (a::F)
 |dit {a:Addr} {kvs:List (List Key×V)} {ds:List (List Key×D)} {F:List Addr} (e:H a=some (.dT kvs)) (r:RepT K H ds kvs F):Rep K H (.dit ds) (.ref a) (a::F)
 |kls {a:Addr} {xs:List V} {ds:List D} (e:FzL K H a xs) (r:Reps K H ds xs []):Rep K H (.kls ds) (.ref a) []
 |ty (t:Ty):Rep K H (.ty t) (.ty t.nm) []
 |fdk {a:Addr} {o:Obj} {kvs:List (Key×V)} {ds:List (Key×D)} {F:List Addr} (e:H a=some (.frz o (.dK kvs))) (r:RepK K H ds kvs F):Rep K H (.fdk ds) (.ref a) F
 |ftp {a:Addr} {o:Obj} {xs:List V} {ds:List D} (e:H a=some (.frz o (.tup xs))) (hd:o.dict=none) (r:Reps K H ds xs []):Rep K H (.ftp ds) (.ref a) []
 |fdt {a:Addr} {o:Obj} {kvs:List (List Key×V)} {ds:List (List Key×D)} {F:List Addr} (e:H a=some (.frz o (.dT kvs))) (r:RepT K H ds kvs F):Rep K H (.fdt ds) (.ref a) F
 |obj {a:Addr} {x:Str} {o:Obj} {f:Heap->Prop} {fs:List (Str×Int)} (e:H a=some (.frz o (.ext f))) (l:∃C,o.cls=.ref C/\nsIn K mainGlobals x=some (some (.ref C))) (j:fs=[]\/∃dx od vs,o.dict=some dx/\o.data=.fields vs/\H dx=some (.frz od (.xd (fs.map λp=>(p.1,V.int p.2))))):Rep K H (.obj x fs) (.ref a) []
 |clo {a:Addr} {L:Lam} {xs:List V} {ds:List D} {F:List Addr} (e:Qr2 H L a xs) (r:Reps K H ds xs F):Rep K H (.clo L ds) (.ref a) F
 |kc {c:KC} {v:V} (h:IsKC K c v):Rep K H (.kc c) v []
 |dmx {a:Addr} {kvs:Mx.KVM} {ds:List (Mx.MI×D)} (e:H a=some (Mx.mixO a kvs)) (g:Mx.Keys H kvs) (hm:kvs.map (·.1)=ds.map (·.1)) (r:Reps K H (ds.map (·.2)) (kvs.map (·.2.2)) []):Rep K H (.dmx ds) (.ref a) [a]
 |fmx {a:Addr} {o:Obj} {kvs:Mx.KVM} {ds:List (Mx.MI×D)} (e:H a=some (.frz o (Mx.mixO a kvs))) (g:Mx.Keys H kvs) (hm:kvs.map (·.1)=ds.map (·.1)) (r:Reps K H (ds.map (·.2)) (kvs.map (·.2.2)) []):Rep K H (.fmx ds) (.ref a) []
inductive Reps(K:Frag)(H:Hp):List D->List V->List Addr->Prop
 |nil:Reps K H [] [] []
 |cons {d:D} {v:V} {ds:List D} {vs:List V} {F G:List Addr} (h:Rep K H d v F) (r:Reps K H ds vs G):Reps K H (d::ds) (v::vs) (F++G)
inductive RepK(K:Frag)(H:Hp):List (Key×D)->List (Key×V)->List Addr->Prop
 |nil:RepK K H [] [] []
 |cons {k:Key} {d:D} {v:V} {ds:List (Key×D)} {vs:List (Key×V)} {F G:List Addr} (h:Rep K H d v F) (r:RepK K H ds vs G):RepK K H ((k,d)::ds) ((k,v)::vs) (F++G)
inductive RepT(K:Frag)(H:Hp):List (List Key×D)->List (List Key×V)->List Addr->Prop
 |nil:RepT K H [] [] []
 |cons {k:List Key} {d:D} {v:V} {ds:List (List Key×D)} {vs:List (List Key×V)} {F G:List Addr} (h:Rep K H d v F) (r:RepT K H ds vs G):RepT K H ((k,d)::ds) ((k,v)::vs) (F++G)
end
def ImmK(H H':Hp):Prop:=∀b ob,H b=some ob->imm ob=true->H' b=some ob
theorem ImmK.fzL{K:Frag}(hi:ImmK H H')(e:FzL K H a xs):FzL K H' a xs:=by
 rcases e with⟨o,e⟩|e
 ·exact .inl ⟨o,hi _ _ e rfl⟩
 ·exact .inr e
theorem ImmK.keys(hi:ImmK H H')(h:Mx.Keys H kvs):Mx.Keys H' kvs:=λp a=>
 Mx.U5 (h:=h p a) λb xs c=>hi _ _ c rfl
theorem Rep.frame{K:Frag}(hi:ImmK H H')(r:Rep K H d v F):(∀a∈F,H' a=H a)->Rep K H' d v F:=by
 refine Rep.rec (motive_1:=λd v F _=>(∀a∈F,H' a=H a)->Rep K H' d v F) (motive_2:=λd v F _=>(∀a∈F,H' a=H a)->Reps K H' d v F) (motive_3:=λd v F _=>(∀a∈F,H' a=H a)->RepK K H' d v F) (motive_4:=λd v F _=>(∀a∈F,H' a=H a)->RepT K H' d v F) ?_ ?_ ?_ ?_ ?_ ?_ ?_ ?_ ?_ ?_ ?_ ?_ ?_ ?_ ?_ ?_ ?_ ?_ ?_ ?_ ?_ ?_ ?_ ?_ r
 ·exactλ_=>.non
 ·exactλb _=>.bl b
 ·exactλb _=>.int b
 ·exactλb _=>.str b
 ·exactλe _ c k=>.tup (hi _ _ e rfl) (c k)
 ·exactλe _ c k=>.lst ((k _ (An)).trans e) (c λa h=>k a (Am _ h))
 ·exactλe _ c k=>.dik ((k _ (An)).trans e) (c λa h=>k a (Am _ h))
 ·exactλe _ c k=>.dit ((k _ (An)).trans e) (c λa h=>k a (Am _ h))
 ·exactλe _ c k=>.kls (hi.fzL e) (c k)
 ·exactλt _=>.ty t
 ·exactλe _ c k=>.fdk (hi _ _ e rfl) (c k)
 ·exactλe hd _ c k=>.ftp (hi _ _ e rfl) hd (c k)
 ·exactλe _ c k=>.fdt (hi _ _ e rfl) (c k)
 ·exactλe l j _=>.obj (hi _ _ e rfl) l (j.imp id λ⟨dx,od,vs,h1,h0,h2⟩=>⟨dx,od,vs,h1,h0,hi _ _ h2 rfl⟩)
 ·exactλe _ c k=>.clo (e.keeps λ_ _ _ q=>hi _ _ q rfl) (c k)
 ·exactλh _=>.kc h
 ·exactλe i hm _ c k=>.dmx ((k _ (An)).trans e) (hi.keys i) hm (c λa h=>nomatch h)
 ·exactλe i hm _ c k=>.fmx (hi _ _ e rfl) (hi.keys i) hm (c λa h=>nomatch h)
 ·exactλ_=>.nil
 ·exactλ_ _ g f k=>.cons (g λa q=>k a (Bx.mpr (.inl q))) (f λa q=>k a (Bx.mpr (.inr q)))
 ·exactλ_=>.nil
 ·exactλ_ _ g f k=>.cons (g λa q=>k a (Bx.mpr (.inl q))) (f λa q=>k a (Bx.mpr (.inr q)))
 ·exactλ_=>.nil
 ·exactλ_ _ g f k=>.cons (g λa q=>k a (Bx.mpr (.inl q))) (f λa q=>k a (Bx.mpr (.inr q)))
theorem Reps.frame{K:Frag}(hi:ImmK H H'){d:List D}{v:List V}(r:Reps K H d v F)(k:∀a∈F,H' a=H a):Reps K H' d v F:=by
 induction d generalizing v F with
 |nil=>cases r;exact .nil
 |cons d ds b=>cases r with|cons h r=>exact .cons (Rep.frame hi h λa q=>k a (Bx.mpr (.inl q))) (b r λa q=>k a (Bx.mpr (.inr q)))
theorem RepK.frame{K:Frag}(hi:ImmK H H'){d:List (Key×D)}{v:List (Key×V)}(r:RepK K H d v F)(k:∀a∈F,H' a=H a):RepK K H' d v F:=by
 induction d generalizing v F with
 |nil=>cases r;exact .nil
 |cons d ds b=>cases r with|cons h r=>exact .cons (Rep.frame hi h λa q=>k a (Bx.mpr (.inl q))) (b r λa q=>k a (Bx.mpr (.inr q)))
theorem RepT.frame{K:Frag}(hi:ImmK H H'){d:List (List Key×D)}{v:List (List Key×V)}(r:RepT K H d v F)(k:∀a∈F,H' a=H a):RepT K H' d v F:=by
 induction d generalizing v F with
 |nil=>cases r;exact .nil
 |cons d ds b=>cases r with|cons h r=>exact .cons (Rep.frame hi h λa q=>k a (Bx.mpr (.inl q))) (b r λa q=>k a (Bx.mpr (.inr q)))
theorem Rep.dom{K:Frag}(r:Rep K H d v F):∀a∈F,∃ob,H a=some ob/\imm ob=false:=by
 have f:∀{b:Addr}{F:List Addr}{ob:HO},H b=some ob->imm ob=false->(∀a∈F,∃ob,H a=some ob/\imm ob=false)->∀a∈b::F,∃ob,H a=some ob/\imm ob=false:=λe j c a m=>(Ay.mp m).elim (λz=>z ▸ ⟨_,e,j⟩) (c a);have g:∀{F G:List Addr},(∀a∈F,∃ob,H a=some ob/\imm ob=false)->(∀a∈G,∃ob,H a=some ob/\imm ob=false)->∀a∈F++G,∃ob,H a=some ob/\imm ob=false:=λi h a m=>(Bx.mp m).elim (i a) (h a);have no:∀a∈([]:List Addr),∃ob,H a=some ob/\imm ob=false:=λ_ m=>nomatch m
 refine Rep.rec (motive_1:=λ_ _ F _=>∀a∈F,∃ob,H a=some ob/\imm ob=false) (motive_2:=λ_ _ F _=>∀a∈F,∃ob,H a=some ob/\imm ob=false) (motive_3:=λ_ _ F _=>∀a∈F,∃ob,H a=some ob/\imm ob=false) (motive_4:=λ_ _ F _=>∀a∈F,∃ob,H a=some ob/\imm ob=false) no (λ_=>no) (λ_=>no) (λ_=>no) (λ_ _ c=>c) (λe _ c=>f e rfl c) (λe _ c=>f e rfl c) (λe _ c=>f e rfl c) (λ_ _ _=>no) (λ_=>no) (λ_ _ c=>c) (λ_ _ _ _=>no) (λ_ _ c=>c) (λ_ _ _=>no) (λ_ _ c=>c) (λ_=>no) (λe _ _ _ _=>f e rfl no) (λ_ _ _ _ _=>no) no (λ_ _=>g) no (λ_ _=>g) no (λ_ _=>g) r
theorem Reps.dom{K:Frag}{d:List D}{v:List V}(r:Reps K H d v F):∀a∈F,∃ob,H a=some ob/\imm ob=false:=by
 induction d generalizing v F with
 |nil=>cases r;exactλ_ m=>nomatch m
 |cons d ds b=>cases r with|cons h r=>exactλa m=>(Bx.mp m).elim (Rep.dom h a) (b r a)
mutual
noncomputable def D.pure:D->Bool
 | .tup xs=>Qj xs
 | .lst _=>false
 | .dik _=>false
 | .dit _=>false
 | .kls _=>true
 | .non=>true
 | .bl _=>true
 | .int _=>true
 | .str _=>true
 | .ty _=>true
 | .fdk kvs=>kvs.isEmpty
 | .ftp _=>true
 | .fdt _=>false
 | .obj _ _=>true
 | .clo _ _=>false
 | .kc _=>true
 | .dmx _=>false
 | .fmx _=>false
noncomputable def Qj:List D->Bool
 | []=>true
 |d::r=>d.pure&&Qj r
end
theorem Ye{xs:List D}:Qj xs=true↔∀x∈xs,x.pure=true:=by
 induction xs with
 |nil=>simp[Qj]
 |cons d r a=>simp only[Qj,B6,a,Ay,forall_eq_or_imp]
theorem Rep.pure{K:Frag}(r:Rep K H d v F):d.pure=true->F=[]/\Rep K H d v []:=by
 have no:∀{P:Prop}{b:Bool},b=false->b=true->P:=λh h'=>absurd (h.symm.trans h') (by simp);refine Rep.rec (motive_1:=λd v F _=>d.pure=true->F=[]/\Rep K H d v []) (motive_2:=λd v F _=>Qj d=true->F=[]/\Reps K H d v []) (motive_3:=λ_ _ _ _=>True) (motive_4:=λ_ _ _ _=>True) ?_ ?_ ?_ ?_ ?_ ?_ ?_ ?_ ?_ ?_ ?_ ?_ ?_ ?_ ?_ ?_ ?_ ?_ ?_ ?_ trivial (λ_ _ _ _=>trivial) trivial (λ_ _ _ _=>trivial) r
 ·exactλ_=>⟨rfl,.non⟩
 ·exactλb _=>⟨rfl,.bl b⟩
 ·exactλb _=>⟨rfl,.int b⟩
 ·exactλb _=>⟨rfl,.str b⟩
 ·exactλe _ g p=>⟨(g (by rw[D.pure]at p;exact p)).1,.tup e (g (by rw[D.pure]at p;exact p)).2⟩
 ·exactλ_ _ _=>no (by rw[D.pure])
 ·exactλ_ _ _=>no (by rw[D.pure])
 ·exactλ_ _ _=>no (by rw[D.pure])
 ·exactλe r _ _=>⟨rfl,.kls e r⟩
 ·exactλb _=>⟨rfl,.ty b⟩
 ·intro a o kvs ds F e r _ p;have hd:ds=[]:=by rw[D.pure]at p;exact List.isEmpty_iff.mp p
  subst hd;cases r;exact⟨rfl,.fdk e .nil⟩
 ·exactλe hd r _ _=>⟨rfl,.ftp e hd r⟩
 ·exactλ_ _ _=>no (by rw[D.pure])
 ·exactλe m i _=>⟨rfl,.obj e m i⟩
 ·exactλ_ _ _=>no (by rw[D.pure])
 ·exactλh _=>⟨rfl,.kc h⟩
 ·exactλ_ _ _ _ _=>no (by rw[D.pure])
 ·exactλ_ _ _ _ _=>no (by rw[D.pure])
 ·exactλ_=>⟨rfl,.nil⟩
 ·intro _ _ _ _ _ _ _ _ f c p;rw[Qj,B6]at p;obtain⟨n,l⟩:=f p.1;obtain⟨j,k⟩:=c p.2;subst n j;exact⟨rfl,.cons (F:=[]) (G:=[]) l k⟩
theorem Reps.pure{K:Frag}{d:List D}{v:List V}(r:Reps K H d v F)(p:Qj d=true):F=[]/\Reps K H d v []:=by
 induction d generalizing v F with
 |nil=>cases r;exact⟨rfl,.nil⟩
 | cons d ds a=>
  cases r with
  | cons h r=>
   rw[Qj,B6]at p;obtain⟨f,c⟩:=h.pure p.1;obtain⟨e,b⟩:=a r p.2;subst f e;exact⟨rfl,.cons (F:=[]) (G:=[]) c b⟩
section
variable {K:Frag}
theorem Reps.length(r:Reps K H ds xs F):xs.length=ds.length:=by
 induction ds generalizing xs F with
 |nil=>cases r;rfl
 |cons d ds a=>cases r with|cons h r=>simp[a r]
theorem Reps.append{es:List D}{ys:List V}(r:Reps K H ds xs F)(q:Reps K H es ys G):Reps K H (ds++es) (xs++ys) (F++G):=by
 induction ds generalizing xs F with
 |nil=>cases r;exact q
 |cons d ds a=>cases r with|cons h r=>rw[Me];exact .cons h (a r)
theorem Reps.one(h:Rep K H d x F):Reps K H [d] [x] F:=by
 have:=Reps.cons h (Reps.nil (K:=K) (H:=H))
 rwa [Dz]at this
theorem Reps.snoc(r:Reps K H ds xs F)(h:Rep K H d x G):Reps K H (ds++[d]) (xs++[x]) (F++G):=r.append (.one h)
theorem Reps.split(r:Reps K H ds xs F)(h:ds[i]? = some d) :
  ∃x A B C,xs[i]? = some x/\F=A++B++C/\Rep K H d x B/\Reps K H (ds.take i) (xs.take i) A/\Reps K H (ds.drop (i+1)) (xs.drop (i+1)) C:=by
 induction ds generalizing xs F i with
 |nil=>simp at h
 | cons e ds c=>
  cases r with
  | @cons _ v _ vs F G p r=>
   cases i with
   | zero=>
    simp at h;subst h;exact⟨v,[],F,G,rfl,by simp,p,.nil,by simpa using r⟩
   | succ i=>
    obtain⟨x,A,B,C,h1,h2,a,h4,b⟩:=c r (i:=i) (by simpa using h);exact⟨x,F++A,B,C,by simpa using h1,by rw[h2];simp,a,by simpa using Reps.cons p h4,by simpa using b⟩
theorem Reps.get(r:Reps K H ds xs F)(h:ds[i]? = some d):∃x B,xs[i]? = some x/\Rep K H d x B/\B.Sublist F:=by
 obtain⟨x,A,B,C,h1,h2,a,_⟩:=r.split h;exact⟨x,B,h1,a,h2 ▸ (Fe A B).trans (N3 _ C)⟩
theorem Xa{b:Type}{l:List b}{a:b}(h:i<l.length):l.set i a=l.take i++a::l.drop (i+1):=by
 rw[List.set_eq_take_append_cons_drop,if_pos h]
theorem Qj6{a:Type}(l:List a)(i:Nat):l.eraseIdx i=l.take i++l.drop (i+1):=List.eraseIdx_eq_take_drop_succ l i
theorem Reps.take(i:Nat)(r:Reps K H ds xs F):∃G,Reps K H (ds.take i) (xs.take i) G/\G.Sublist F:=by
 induction ds generalizing xs F i with
 |nil=>cases r;exact⟨[],by simpa using Reps.nil,To⟩
 | cons d ds a=>
  cases r with
  | @cons _ v _ vs F G p r=>
   cases i with
   |zero=>exact⟨[],by simpa using Reps.nil,Ir _⟩
   | succ i=>
    obtain⟨G',q,s⟩:=a i r;exact⟨F++G',by simpa using Reps.cons p q,S8 (Sq _) s⟩
theorem Reps.drop(i:Nat)(r:Reps K H ds xs F):∃G,Reps K H (ds.drop i) (xs.drop i) G/\G.Sublist F:=by
 induction ds generalizing xs F i with
 |nil=>cases r;exact⟨[],by simpa using Reps.nil,To⟩
 | cons d ds a=>
  cases i with
  |zero=>exact⟨F,by simpa using r,Sq _⟩
  | succ i=>
   cases r with
   | @cons _ v _ vs F G p r=>
    obtain⟨G',q,s⟩:=a i r;exact⟨G',by simpa using q,s.trans (Fe _ _)⟩
theorem Reps.ints(ns:List Int):Reps K H (ns.map D.int) (ns.map V.int) []:=by
 induction ns with
 |nil=>exact .nil
 |cons n ns a=>exact .cons (F:=[]) (G:=[]) (.int n) a
theorem Reps.of_ints(r:Reps K H (ns.map D.int) xs F):xs=ns.map V.int/\F=[]:=by
 induction ns generalizing xs F with
 |nil=>cases r;exact⟨rfl,rfl⟩
 | cons n ns a=>
  cases r with
  | cons h r=>
   cases h;obtain⟨c,b⟩:=a r;exact⟨by rw[c];rfl,by rw[b];rfl⟩
end
def kcD:KC->D
 | .int i=>.int i
 | .any a=>.kc (.any a)
 | .fn x=>.kc (.fn x)
 | .tup ks=>.kc (.tup ks)
section
variable {K:Frag}
theorem IsKC.rep{c:KC}(h:IsKC K c v):Rep K H (kcD c) v []:=by
 cases h with
 |int i=>exact .int i
 |any a=>exact .kc (.any a)
 |fn h=>exact .kc (.fn h)
 |tup h1 h2 b h4 d r=>exact .kc (.tup h1 h2 b h4 d r)
theorem AreKC.reps{a:List KC}(h:AreKC K a vs):Reps K H (a.map kcD) vs []:=by
 induction a generalizing vs with
 |nil=>cases h;exact .nil
 |cons c a b=>cases h with|cons h r=>exact .cons (F:=[]) (G:=[]) h.rep (b r)
theorem IsKC.sqT(h:IsKC K (.tup ks) v):∃a xs,v=.ref a/\(∀H,SqT K H a xs)/\AreKC K ks xs:=by
 cases h with
 |tup h1 h2 b h4 c r=>exact⟨_,_,rfl,λH=>.inr ⟨_,_,_,h1,h2,b,h4,c⟩,r⟩
end
section
variable {K:Frag}
theorem Rep.iInt{i:Int}(r:Rep K H (.int i) v F):v=.int i:=by cases r;rfl
theorem Rep.iStr{i:Str}(r:Rep K H (.str i) v F):v=.str i:=by cases r;rfl
theorem Rep.iBl{i:Bool}(r:Rep K H (.bl i) v F):v=.bl i:=by cases r;rfl
theorem Rep.iTup(r:Rep K H (.tup ds) v F):∃a xs,v=.ref a/\H a=some (.tup xs)/\Reps K H ds xs F:=by cases r with|tup e r=>exact⟨_,_,rfl,e,r⟩
theorem Rep.iLst(r:Rep K H (.lst ds) v F):∃a xs G,v=.ref a/\F=a::G/\H a=some (.lst xs)/\Reps K H ds xs G:=by cases r with|lst e r=>exact⟨_,_,_,rfl,rfl,e,r⟩
theorem Rep.iDik{ds:List (Key×D)}(r:Rep K H (.dik ds) v F):∃a xs G,v=.ref a/\F=a::G/\H a=some (.dK xs)/\RepK K H ds xs G:=by cases r with|dik e r=>exact⟨_,_,_,rfl,rfl,e,r⟩
theorem Rep.iDit{ds:List (List Key×D)}(r:Rep K H (.dit ds) v F):∃a xs G,v=.ref a/\F=a::G/\H a=some (.dT xs)/\RepT K H ds xs G:=by cases r with|dit e r=>exact⟨_,_,_,rfl,rfl,e,r⟩
theorem Rep.iKls(r:Rep K H (.kls ds) v F):∃a xs,v=.ref a/\F=[]/\FzL K H a xs/\Reps K H ds xs []:=by cases r with|kls e r=>exact⟨_,_,rfl,rfl,e,r⟩
theorem Rep.iFdk{ds:List (Key×D)}(r:Rep K H (.fdk ds) v F):∃a o xs,v=.ref a/\H a=some (.frz o (.dK xs))/\RepK K H ds xs F:=by cases r with|fdk e r=>exact⟨_,_,_,rfl,e,r⟩
end
section
variable {κ:Type}[DecidableEq κ]
def valD(kvs:List (κ×D))(k:κ):Option D:=(kvs.find? λa=>decide (a.1=k)).map (·.2)
def putD(kvs:List (κ×D))(k:κ)(v:D):List (κ×D) :=
 if (kvs.any λa=>decide (a.1=k))=true then kvs.map (λa=>if a.1=k then (a.1,v)else a)else kvs++[(k,v)]
def Ze(kvs:List (κ×D))(k:κ):List (κ×D):=kvs.filter λa=>decide (a.1≠k)
theorem G9{k:κ}:valD ([]:List (κ×D)) k=none:=rfl
theorem Q1{p:κ×D}{r:List (κ×D)}{k:κ}:valD (p::r) k=if p.1=k then some p.2 else valD r k:=by
 unfold valD;by_cases h:p.1=k
 ·rw[Mt (by simpa using h),if_pos h];rfl
 ·rw[Mu (by simpa using h),if_neg h]
theorem X5(k:κ):∀kvs:List (κ×D),(kvs.any λa=>decide (a.1=k))=(valD kvs k).isSome
 | []=>rfl
 | p::r=>by
  rw[Rr,Q1,X5 k r];by_cases h:p.1=k<;>simp[h]
theorem Qji{kvs:List (κ×D)}{k:κ}(v:D)(h:valD kvs k=none):putD kvs k v=kvs++[(k,v)]:=by
 unfold putD;rw[X5,h];rfl
theorem Qiw(k j:κ)(y:D):∀kvs:List (κ×D),valD (kvs.map λa=>if a.1=k then (a.1,y)else a) j=(valD kvs j).map λx=>if j=k then y else x
 | []=>rfl
 | p::r=>by
  rw[Ar,Q1,Q1,Qiw k j y r];by_cases h:p.1=k
  ·rw[if_pos h];by_cases h':p.1=j
   ·simp[h',← h]
   ·simp[h']
  ·rw[if_neg h];by_cases h':p.1=j
   ·subst h';simp[h]
   ·simp[h']
theorem Qft(k j:κ)(y:D):∀kvs:List (κ×D),valD (kvs++[(k,y)]) j=if (valD kvs j).isSome then valD kvs j else if k=j then some y else none
 | []=>by simp[Q1,G9]
 | p::r=>by
  rw[Bw,Q1,Q1,Qft k j y r];by_cases h:p.1=j<;>simp[h]
theorem Qbe(kvs:List (κ×D))(k j:κ)(y:D):valD (putD kvs k y) j=if j=k then some y else valD kvs j:=by
 unfold putD;rw[X5];cases h:(valD kvs k).isSome with
 | true=>
  rw[if_pos rfl,Qiw];by_cases e:j=k
  ·subst e;obtain⟨x,a⟩:=M6.mp h;simp[a]
  ·rw[if_neg e];cases valD kvs j<;>simp[e]
 | false=>
  rw[if_neg (by simp),Qft];have b:valD kvs k=none:=by simpa using h
  by_cases e:j=k
  ·subst e;simp[b]
  ·have c:¬k=j:=λz=>e z.symm;rw[if_neg e];cases valD kvs j<;>simp[c]
theorem Qcq(kvs:List (κ×D))(k:κ)(v:D):(putD kvs k v).length<=kvs.length+1:=by
 unfold putD
 split<;>simp
end
section
variable {K:Frag}
theorem RepK.length{ds:List (Key×D)}{xs:List (Key×V)}(r:RepK K H ds xs F):xs.length=ds.length:=by
 induction ds generalizing xs F with
 |nil=>cases r;rfl
 |cons d ds a=>cases r with|cons h r=>simp[a r]
theorem RepK.keys{ds:List (Key×D)}{xs:List (Key×V)}(r:RepK K H ds xs F):xs.map (·.1)=ds.map (·.1):=by
 induction ds generalizing xs F with
 |nil=>cases r;rfl
 |cons d ds a=>cases r with|cons h r=>simp[a r]
theorem RepK.val{ds:List (Key×D)}{xs:List (Key×V)}(r:RepK K H ds xs F)(k:Key) :
  (valD ds k=none/\valV xs k=none)\/∃d v B,valD ds k=some d/\valV xs k=some v/\Rep K H d v B/\B.Sublist F:=by
 induction ds generalizing xs F with
 |nil=>cases r;exact .inl ⟨rfl,rfl⟩
 | cons d ds c=>
  cases r with
  | @cons j d v _ vs F G h r=>
   rw[Q1];by_cases e:j=k
   ·rw[G7 e,if_pos e];exact .inr ⟨d,v,F,rfl,rfl,h,N3 _ _⟩
   ·rw[G8 e,if_neg e];rcases c r with q|⟨d',b,B,h1,h2,a,h4⟩
    ·exact .inl q
    ·exact .inr ⟨d',b,B,h1,h2,a,h4.trans (Fe _ _)⟩
theorem RepK.append{ds es:List (Key×D)}{xs ys:List (Key×V)}(r:RepK K H ds xs F)(q:RepK K H es ys G):RepK K H (ds++es) (xs++ys) (F++G):=by
 induction ds generalizing xs F with
 |nil=>cases r;exact q
 |cons d ds a=>cases r with|cons h r=>rw[Me];exact .cons h (a r)
theorem RepK.put{ds:List (Key×D)}{xs:List (Key×V)}{k:Key}(r:RepK K H ds xs F)(h:Rep K H d v []):∃G,RepK K H (putD ds k d) (putK xs k v) G/\G.Sublist F:=by
 have b:(xs.any λa=>decide (a.1=k))=(ds.any λa=>decide (a.1=k)):=by
  have e:=r.keys;rw[show(xs.any λa=>decide (a.1=k))=(xs.map (·.1)).any (λj=>decide (j=k)) by rw[Oc];rfl,e,Oc];rfl
 unfold putD putK;rw[b];split
 ·clear b;rename_i g;clear g
  induction ds generalizing xs F with
  |nil=>cases r;exact⟨[],.nil,To⟩
  | cons e ds f=>
   cases r with
   | @cons j e u _ us F G p r=>
    obtain⟨G',q,s⟩:=f r;by_cases c:j=k
    ·exact⟨[]++G',by simpa[c]using RepK.cons (k:=k) h q,s.trans (Fe _ _)⟩
    ·exact⟨F++G',by simpa[c]using RepK.cons (k:=j) p q,S8 (Sq _) s⟩
 ·refine⟨F++[],r.append ?_,by simp⟩;exact RepK.cons (F:=[]) (G:=[]) h .nil
theorem RepT.length{ds:List (List Key×D)}{xs:List (List Key×V)}(r:RepT K H ds xs F):xs.length=ds.length:=by
 induction ds generalizing xs F with
 |nil=>cases r;rfl
 |cons d ds a=>cases r with|cons h r=>simp[a r]
theorem RepT.keys{ds:List (List Key×D)}{xs:List (List Key×V)}(r:RepT K H ds xs F):xs.map (·.1)=ds.map (·.1):=by
 induction ds generalizing xs F with
 |nil=>cases r;rfl
 |cons d ds a=>cases r with|cons h r=>simp[a r]
theorem RepT.val{ds:List (List Key×D)}{xs:List (List Key×V)}(r:RepT K H ds xs F)(k:List Key) :
  (valD ds k=none/\valV xs k=none)\/∃d v B,valD ds k=some d/\valV xs k=some v/\Rep K H d v B/\B.Sublist F:=by
 induction ds generalizing xs F with
 |nil=>cases r;exact .inl ⟨rfl,rfl⟩
 | cons d ds c=>
  cases r with
  | @cons j d v _ vs F G h r=>
   rw[Q1];by_cases e:j=k
   ·rw[G7 e,if_pos e];exact .inr ⟨d,v,F,rfl,rfl,h,N3 _ _⟩
   ·rw[G8 e,if_neg e];rcases c r with q|⟨d',b,B,h1,h2,a,h4⟩
    ·exact .inl q
    ·exact .inr ⟨d',b,B,h1,h2,a,h4.trans (Fe _ _)⟩
theorem RepT.append{ds es:List (List Key×D)}{xs ys:List (List Key×V)}(r:RepT K H ds xs F)(q:RepT K H es ys G):RepT K H (ds++es) (xs++ys) (F++G):=by
 induction ds generalizing xs F with
 |nil=>cases r;exact q
 |cons d ds a=>cases r with|cons h r=>rw[Me];exact .cons h (a r)
theorem RepT.put{ds:List (List Key×D)}{xs:List (List Key×V)}{k:List Key}(r:RepT K H ds xs F)(h:Rep K H d v []):∃G,RepT K H (putD ds k d) (putK xs k v) G/\G.Sublist F:=by
 have b:(xs.any λa=>decide (a.1=k))=(ds.any λa=>decide (a.1=k)):=by
  have e:=r.keys;rw[show(xs.any λa=>decide (a.1=k))=(xs.map (·.1)).any (λj=>decide (j=k)) by rw[Oc];rfl,e,Oc];rfl
 unfold putD putK;rw[b];split
 ·clear b;rename_i g;clear g
  induction ds generalizing xs F with
  |nil=>cases r;exact⟨[],.nil,To⟩
  | cons e ds f=>
   cases r with
   | @cons j e u _ us F G p r=>
    obtain⟨G',q,s⟩:=f r;by_cases c:j=k
    ·exact⟨[]++G',by simpa[c]using RepT.cons (k:=k) h q,s.trans (Fe _ _)⟩
    ·exact⟨F++G',by simpa[c]using RepT.cons (k:=j) p q,S8 (Sq _) s⟩
 ·refine⟨F++[],r.append ?_,by simp⟩;exact RepT.cons (F:=[]) (G:=[]) h .nil
end
abbrev Env:=List (Option D)
def look:Env->Nat->Option D
 | [],_=>none
 |a::_,0=>a
 |_::r,n+1=>look r n
theorem Qjt:∀{ρ:Env}{i:Nat}{d:D},look ρ i=some d->ρ[i]? = some (some d)
 |_::_,0,_,h=>by simpa[look]using h
 |_::r,n+1,_,h=>by simpa using Qjt (ρ:=r) (i:=n) (by simpa[look]using h)
theorem Qe2{ρ:Env}(h:look ρ i=some d):i<ρ.length:=by
 have:=Qjt h;exact(Au.mp this).1
theorem Xp{o:Option D}:∀{ρ:Env}{i j:Nat},look (ρ.set i o) j=if j=i/\i<ρ.length then o else look ρ j
 | [],i,j=>by simp[look]
 |a::r,0,0=>by simp[look]
 |a::r,0,j+1=>by simp[look]
 |a::r,i+1,0=>by simp[look]
 | a::r,i+1,j+1=>by
  have:=Xp (o:=o) (ρ:=r) (i:=i) (j:=j);simp only[Az,look,this,Av,Nat.add_right_cancel_iff,Nat.add_lt_add_iff_right]
theorem Xo{ρ:Env}(h:i<ρ.length):look (ρ.set i o) i=o:=by rw[Xp,if_pos ⟨rfl,h⟩]
theorem Qt{ρ:Env}(h:j≠i):look (ρ.set i o) j=look ρ j:=by rw[Xp,if_neg (λz=>h z.1)]
structure Tg where
 own:Nat->Bool
 io:List Nat
 xe:D->St->Hp->Prop:=λ_ _ _=>False
end PV
variable {ρ:PV.Env}{W1 W':Fz->Prop}{z:Nat->L2.V}
namespace PV
open PySem PySem.Spec L2
structure SR0(K:Frag)(T:Tg)(z:Nat->V)(R:Addr->Prop)(H:Hp)(W:Addr->Prop)(σ:St)(ρ:Env)(fp:Nat->List Addr):Prop where
 len:ρ.length=σ.length
 wd:∀a,W a->∃ob,H a=some ob/\imm ob=false
 at_:∀i d,look ρ i=some d->∃v,σ[i]? = some (some v)/\Rep K H d v (fp i)
 own:∀i d,look ρ i=some d->T.own i=true->(fp i).Nodup/\∀a∈fp i,W a
 ro:∀i d,look ρ i=some d->T.own i=false->∀a∈fp i,R a
 wr:∀a,W a->¬R a
 rd:∀a,R a->∃ob,H a=some ob/\imm ob=false
 dis:∀i j d e,look ρ i=some d->look ρ j=some e->T.own i=true->T.own j=true->i≠j->∀a∈fp i,a∉fp j
 fix:∀i∈T.io,σ[i]? = some (some (z i))
def SR(K:Frag)(T:Tg)(z:Nat->V)(R:Addr->Prop)(H:Hp)(W:Addr->Prop)(σ:St)(ρ:Env):Prop:=∃fp,SR0 K T z R H W σ ρ fp
structure FrW(H:Hp)(W:Addr->Prop)(H':Hp)(W':Addr->Prop):Prop where
 keep:∀b ob,H b=some ob->¬W b->H' b=some ob
 dom:∀b,H' b=none->H b=none
 imm:ImmK H H'
 new:∀b,W' b->W b\/H b=none
theorem FrW.refl(H:Hp)(W:Addr->Prop):FrW H W H W:=⟨λ_ _ h _=>h,λ_ h=>h,λ_ _ h _=>h,λ_ h=>.inl h⟩
theorem FrW.trans{W W2:Addr->Prop}(a:FrW H W H1 W1)(b:FrW H1 W1 H2 W2):FrW H W H2 W2 where
 keep:=λc ob h n=>b.keep c ob (a.keep c ob h n) λw=>by
  rcases a.new c w with w|w
  ·exact n w
  ·rw[w]at h;cases h
 dom:=λc h=>a.dom c (b.dom c h)
 imm:=λc ob h i=>b.imm c ob (a.imm c ob h i) i
 new:=λc h=>by
  rcases b.new c h with w|w
  ·exact a.new c w
  ·exact .inr (a.dom c w)
theorem Same.imm(s:Same H H'):ImmK H H':=λb ob h _=>s b ob h
theorem FrW.same(W:Addr->Prop)(s:Same H H'):FrW H W H' W:=⟨λb ob h _=>s b ob h,λb h=>s.free h,Same.imm s,λ_ h=>.inl h⟩
theorem Rep.same{K:Frag}(r:Rep K H d v F)(s:Same H H'):Rep K H' d v F :=
 r.frame (Same.imm s) λa m=>by
  obtain⟨ob,h,_⟩:=r.dom a m;rw[h];exact s _ _ h
theorem Reps.same{K:Frag}{d:List D}{v:List V}(r:Reps K H d v F)(s:Same H H'):Reps K H' d v F :=
 r.frame (Same.imm s) λa m=>by
  obtain⟨ob,h,_⟩:=r.dom a m;rw[h];exact s _ _ h
theorem Rep.keep{K:Frag}{W:Addr->Prop}(r:Rep K H d v F)(f:FrW H W H' W')(n:∀a∈F,¬W a):Rep K H' d v F :=
 r.frame f.imm λa m=>by
  obtain⟨ob,h,_⟩:=r.dom a m;rw[h];exact f.keep _ _ h (n a m)
section
variable {K:Frag}{T:Tg}{W:Addr->Prop}
theorem SR.same(s:SR K T z R H W σ ρ)(k:Same H H'):SR K T z R H' W σ ρ:=by
 obtain⟨fp,r⟩:=s;exact⟨fp,r.len,λa h=>(r.wd a h).imp λob q=>⟨k _ _ q.1,q.2⟩,λi d h=>(r.at_ i d h).imp λv q=>⟨q.1,q.2.same k⟩,r.own,r.ro,r.wr,λa h=>(r.rd a h).imp λob q=>⟨k _ _ q.1,q.2⟩,r.dis,r.fix⟩
theorem SR.wd(s:SR K T z R H W σ ρ):∀a,W a->∃ob,H a=some ob/\imm ob=false:=by obtain⟨fp,r⟩:=s;exact r.wd
theorem SR.rd(s:SR K T z R H W σ ρ):∀a,R a->∃ob,H a=some ob/\imm ob=false:=by obtain⟨fp,r⟩:=s;exact r.rd
theorem SR.nr(s:SR K T z R H W σ ρ)(h:H a=none):¬R a:=λw=>by
 obtain⟨ob,q,_⟩:=s.rd a w;rw[h]at q;cases q
theorem SR.nw(s:SR K T z R H W σ ρ)(h:H a=none):¬W a:=λw=>by
 obtain⟨ob,q,_⟩:=s.wd a w;rw[h]at q;cases q
end
abbrev WE:=Env->(D->Env->Prop)->Prop
end PV
variable {a b:PV.D}{o m m0 m1 m2 o1 o2:Bool}{e:Np}{i:Int}{t:String}{ρ1:PV.Env}{wb wa:PV.WE}
namespace PV
open PySem PySem.Spec L2
structure Post(K:Frag)(T:Tg)(z:Nat->V)(R:Addr->Prop)(m o:Bool)(H:Hp)(W:Addr->Prop)(σ:St)(ρ:Env)(H':Hp)(W':Addr->Prop)(b:Env)(d:D)(v:V)(F:List Addr):Prop where
 sr:SR K T z R H' W' σ b
 fr:FrW H W H' W'
 calm:m=false->Same H H'/\W'=W/\b=ρ
 rep:Rep K H' d v F
 own:o=true->F.Nodup/\∀a∈F,H a=none/\¬W' a
def EV(X:Cx)(T:Tg)(m o:Bool)(e:Expr)(w:WE):Prop :=
 ∃te,PE X e te/\∀(z:Nat->V)(R:Addr->Prop)(σ:St)(H:Hp)(W:Addr->Prop)(ρ:Env)(Q:D->Env->Prop)(Q':VK),SR X.K T z R H W σ ρ->w ρ Q ->
  (∀v H' W' d a F,Post X.K T z R m o H W σ ρ H' W' a d v F->Q d a->Q' v H')->te σ H Q'
section
variable {K:Frag}{T:Tg}{W W2:Addr->Prop}{ρ2:Env}{d1 d2:D}{v1 v2:V}{F1 F2:List Addr}
theorem Post.first(p:Post K T z R m1 o1 H W σ ρ H1 W1 ρ1 d1 v1 F1)(q:Post K T z R m2 o2 H1 W1 σ ρ1 H2 W2 ρ2 d2 v2 F2)(b:o1=true\/m2=false):Rep K H2 d1 v1 F1:=by
 rcases b with b|b
 ·exact p.rep.keep q.fr λa h=>((p.own b).2 a h).2
 ·exact p.rep.same (q.calm b).1
theorem Post.firstOwn(p:Post K T z R m1 o1 H W σ ρ H1 W1 ρ1 d1 v1 F1)(q:Post K T z R m2 o2 H1 W1 σ ρ1 H2 W2 ρ2 d2 v2 F2)(h:o1=true):F1.Nodup/\∀a∈F1,H a=none/\¬W2 a:=by
 obtain⟨h1,h2⟩:=p.own h;refine⟨h1,λa m=>⟨(h2 a m).1,λw=>?_⟩⟩;rcases q.fr.new a w with w|w
 ·exact(h2 a m).2 w
 ·obtain⟨ob,e,_⟩:=p.rep.dom a m;rw[e]at w;cases w
theorem Post.lastOwn(p:Post K T z R m1 o1 H W σ ρ H1 W1 ρ1 d1 v1 F1)(q:Post K T z R m2 o2 H1 W1 σ ρ1 H2 W2 ρ2 d2 v2 F2)(h:o2=true):F2.Nodup/\∀a∈F2,H a=none/\¬W2 a:=by
 obtain⟨h1,h2⟩:=q.own h;exact⟨h1,λa m=>⟨p.fr.dom a (h2 a m).1,(h2 a m).2⟩⟩
theorem Post.calm2(p:Post K T z R m1 o1 H W σ ρ H1 W1 ρ1 d1 v1 F1)(q:Post K T z R m2 o2 H1 W1 σ ρ1 H2 W2 ρ2 d2 v2 F2)(h:(m1||m2)=false):Same H H2/\W2=W/\ρ2=ρ:=by
 rw[Mq]at h;obtain⟨f,e,b⟩:=p.calm h.1;obtain⟨d,a,c⟩:=q.calm h.2;exact⟨f.trans d,a.trans e,c.trans b⟩
theorem Post.fin(s:SR K T z R H1 W1 σ ρ1)(f:FrW H W H1 W1)(c:m=false->Same H H1/\W1=W/\ρ1=ρ)(k:Same H1 H2)(r:Rep K H2 d v F)(nd:F.Nodup)(b:∀a∈F,H1 a=none) :
  Post K T z R m true H W σ ρ H2 W1 ρ1 d v F where
 sr:=s.same k
 fr:=f.trans (FrW.same W1 k)
 calm:=λh=>⟨(c h).1.trans k,(c h).2⟩
 rep:=r
 own:=λ_=>⟨nd,λa m=>⟨f.dom a (b a m),s.nw (b a m)⟩⟩
theorem Post.flat(s:SR K T z R H1 W1 σ ρ1)(f:FrW H W H1 W1)(c:m=false->Same H H1/\W1=W/\ρ1=ρ)(r:Rep K H1 d v []):Post K T z R m true H W σ ρ H1 W1 ρ1 d v [] where
 sr:=s
 fr:=f
 calm:=c
 rep:=r
 own:=λ_=>⟨Df,λa m=>nomatch m⟩
end
section
variable {T:Tg}{a b:Expr}{w:WE}
theorem EV.lift(h:EV X T m o e w):EV X T m true e (λρ Q=>w ρ λd b=>d.pure=true/\Q d b):=by
 obtain⟨te,p,g⟩:=h;refine⟨te,p,λz R σ H W ρ Q Q' s hw k=>g z R σ H W ρ _ Q' s hw λv H' W' d b F q ⟨f,c⟩=>?_⟩;obtain⟨e,r⟩:=q.rep.pure f;exact k v H' W' d b [] ⟨q.sr,q.fr,q.calm,r,λ_=>⟨Df,λa m=>nomatch m⟩⟩ c
def wVar(i:Nat):WE:=λρ Q=>match look ρ i with
 |some d=>Q d ρ
 |none=>False
def wC(d:D):WE:=λρ Q=>Q d ρ
theorem Q2b(i:Nat)(h:PE X e (tVar i)):EV X T false false e (wVar i):=by
 refine⟨_,h,λz R σ H W ρ Q Q' s hw k=>?_⟩;unfold wVar at hw;cases a:look ρ i with
 |none=>rw[a]at hw;exact hw.elim
 | some d=>
  rw[a]at hw;obtain⟨fp,r⟩:=s;obtain⟨v,h1,h2⟩:=r.at_ i d a;exact⟨v,h1,k v H W d ρ (fp i) ⟨⟨fp,r⟩,FrW.refl H W,λ_=>⟨Same.refl H,rfl,rfl⟩,h2,λh=>nomatch h⟩ hw⟩
theorem Qb(i:Nat){x:Str}(hN:X.N[i]? = some x:=by rfl)(b:Vis X.env.scope x:=by first|exact Ms rfl|exact Fg (Ms rfl)|exact Fg (Fg rfl))(hd:(x==("__debug__":Str))=false:=by decide)
  (a:(x==("__classdict__":Str))=false:=by decide):EV X T false false (.Name x pos) (wVar i):=Q2b i (Uf hN b hd a)
theorem U7(h:PE X e (tC v))(r:∀H,Rep X.K H d v []):EV X T false true e (wC d) :=
 ⟨_,h,λz R σ H W ρ Q Q' s hw k=>k v H W d ρ [] (Post.flat s (FrW.refl H W) (λ_=>⟨Same.refl H,rfl,rfl⟩) (r H)) hw⟩
theorem Qi{j pos}:EV X T false true (.Constant (.int i) j pos) (wC (.int i)):=U7 Qyb λ_=>.int i
theorem Qfd{i:Bool}{j pos}:EV X T false true (.Constant (.bool i) j pos) (wC (.bl i)):=U7 Q1t λ_=>.bl i
theorem Qtb{j pos}:EV X T false true (.Constant .none j pos) (wC .non):=U7 Qx9 λ_=>.non
theorem Qn7{x:Str}{t:Tok}(hm:X.mg x=some (.int i t))(hg:Gl X x:=by rfl)(hd:(x==("__debug__":Str))=false:=by decide):EV X T false true (.Name x pos) (wC (.int i)) :=
 U7 (Qms hg hm (v:=.int i) ⟨t,rfl⟩ hd) λ_=>.int i
abbrev G2:=D->D->(D->Prop)->Prop
structure Fin(K:Frag)(H H':Hp)(d:D)(v:V)(F:List Addr):Prop where
 same:Same H H'
 rep:Rep K H' d v F
 nd:F.Nodup
 new:∀a∈F,H a=none
theorem Fin.flat{K:Frag}(r:Rep K H d v []):Fin K H H d v []:=⟨Same.refl H,r,Df,λ_ m=>nomatch m⟩
theorem Qg{p:Addr}(h:H p=none):Same H (upd H p ob):=λb u e=>by rw[Qm (Qz e h)];exact e
def OpD(X:Cx)(f:Value->Value->Sem Value)(g:G2):Prop :=
 ∃r,OpR X f r/\∀(H:Hp)(a b:D)(x y:V)(F1 F2:List Addr)(k:D->Prop)(Q:VK),Rep X.K H a x F1->Rep X.K H b y F2->g a b k ->
  (∀v H' d F,Fin X.K H H' d v F->k d->Q v H')->r x y H Q
def wBin(g:G2)(wa wb:WE):WE:=λρ Q=>wa ρ λx ρ1=>wb ρ1 λy ρ2=>g x y λd=>Q d ρ2
theorem two{ta:TE}{W:Addr->Prop}{RR:V->V->Hp->Prop}{c:D->D->Env->Prop}
  (l:∀(z:Nat->V)(R:Addr->Prop)(σ:St)(H:Hp)(W:Addr->Prop)(ρ:Env)(Q:D->Env->Prop)(Q':VK),SR X.K T z R H W σ ρ->wa ρ Q->(∀v H' W' d b F,Post X.K T z R m1 o1 H W σ ρ H' W' b d v F->Q d b->Q' v H')->ta σ H Q')
  (j:∀(z:Nat->V)(R:Addr->Prop)(σ:St)(H:Hp)(W:Addr->Prop)(ρ:Env)(Q:D->Env->Prop)(Q':VK),SR X.K T z R H W σ ρ->wb ρ Q->(∀v H' W' d b F,Post X.K T z R m2 o2 H W σ ρ H' W' b d v F->Q d b->Q' v H')->tb σ H Q')
  (f:o1=true\/m2=false) (s:SR X.K T z R H W σ ρ) (hw:wa ρ λx ρ1=>wb ρ1 λy ρ2=>c x y ρ2)
  (k:∀x y H2 W2 d1 d2 ρ2 F1 F2,SR X.K T z R H2 W2 σ ρ2->FrW H W H2 W2->((m1||m2)=false->Same H H2/\W2=W/\ρ2=ρ)->Rep X.K H2 d1 x F1->Rep X.K H2 d2 y F2 ->
   (o1=true->F1.Nodup/\∀a∈F1,H a=none/\¬W2 a)->(o2=true->F2.Nodup/\∀a∈F2,H a=none/\¬W2 a)->(o2=true->∀a∈F1,a∉F2)->c d1 d2 ρ2->RR x y H2) :
  ta σ H λx H1=>tb σ H1 λy H2=>RR x y H2:=by
 refine l z R σ H W ρ _ _ s hw λv1 H1 W1 d1 ρ1 F1 p g=>?_;refine j z R σ H1 W1 ρ1 _ _ p.sr g λv2 H2 W2 d2 ρ2 F2 q i=>?_;refine k v1 v2 H2 W2 d1 d2 ρ2 F1 F2 q.sr (p.fr.trans q.fr) (p.calm2 q) (p.first q f) q.rep (p.firstOwn q) (p.lastOwn q) (λh a m1 m2=>?_) i;obtain⟨ob,e,_⟩:=p.rep.dom a m1;rw[((q.own h).2 a m2).1]at e;cases e
theorem Qv{op:Operator}{g:G2}(ho:OpD X (binaryOp op) g)(f:EV X T m1 o1 a wa)(j:EV X T m2 o2 b wb)(l:o1=true\/m2=false:=by first|exact .inl rfl|exact .inr rfl) :
  EV X T (m1||m2) true (.BinOp a op b pos) (wBin g wa wb):=by
 obtain⟨r,ro,e⟩:=ho;obtain⟨ta,pa,w⟩:=f;obtain⟨tb,h,u⟩:=j;refine⟨_,Q1q ro pa h,λz R σ H W ρ Q Q' s hw k=>?_⟩;refine two w u l s hw λx y H2 W2 d1 d2 ρ2 F1 F2 q i p o n _ _ _ m=>?_;exact e H2 d1 d2 x y F1 F2 _ Q' o n m λv H' d F c t=>k v H' W2 d ρ2 F (Post.fin q i p c.same c.rep c.nd c.new) t
theorem Qz2{g:G2}(ho:OpD X (compareOp op) g)(f:EV X T m1 o1 a wa)(j:EV X T m2 o2 b wb)(l:o1=true\/m2=false:=by first|exact .inl rfl|exact .inr rfl)
  (hm:behindInMarks op b=false:=by first|exact Qsx _|with_unfolding_all rfl):EV X T (m1||m2) true (.Compare a [op] [b] pos) (wBin g wa wb):=by
 obtain⟨r,ro,e⟩:=ho;obtain⟨ta,pa,w⟩:=f;obtain⟨tb,h,u⟩:=j;refine⟨_,Qu8 ro pa h hm,λz R σ H W ρ Q Q' s hw k=>?_⟩;refine two w u l s hw λx y H2 W2 d1 d2 ρ2 F1 F2 q i p o n _ _ _ m=>?_;exact e H2 d1 d2 x y F1 F2 _ Q' o n m λv H' d F c t=>k v H' W2 d ρ2 F (Post.fin q i p c.same c.rep c.nd c.new) t
def UnD(X:Cx)(f:Value->Sem Value)(g:D->(D->Prop)->Prop):Prop :=
 ∃r,UnR X f r/\∀(H:Hp)(a:D)(x:V)(F1:List Addr)(k:D->Prop)(Q:VK),Rep X.K H a x F1->g a k->(∀v H' d F,Fin X.K H H' d v F->k d->Q v H')->r x H Q
def wUn(g:D->(D->Prop)->Prop)(wa:WE):WE:=λρ Q=>wa ρ λx ρ1=>g x λd=>Q d ρ1
theorem Qz1{op:UnaryOp}{g:D->(D->Prop)->Prop}(ho:UnD X (unaryOp op) g)(e:EV X T m o a wa):EV X T m true (.UnaryOp op a pos) (wUn g wa):=by
 obtain⟨r,ro,c⟩:=ho;obtain⟨ta,pa,i⟩:=e;refine⟨_,Q1p ro pa,λz R σ H W ρ Q Q' s hw k=>?_⟩;refine i z R σ H W ρ _ _ s hw λv1 H1 W1 d1 ρ1 F1 p f=>?_;exact c H1 d1 v1 F1 _ Q' p.rep f λv H' d F b h=>k v H' W1 d ρ1 F (Post.fin p.sr p.fr p.calm b.same b.rep b.nd b.new) h
abbrev WT:=Env->(Bool->Env->Prop)->Prop
structure PostT(K:Frag)(T:Tg)(z:Nat->V)(R:Addr->Prop)(m:Bool)(H:Hp)(W:Addr->Prop)(σ:St)(ρ:Env)(H':Hp)(W':Addr->Prop)(a:Env):Prop where
 sr:SR K T z R H' W' σ a
 fr:FrW H W H' W'
 calm:m=false->Same H H'/\W'=W/\a=ρ
def TV(X:Cx)(T:Tg)(m:Bool)(e:Expr)(w:WT):Prop :=
 ∃tt,PT X e tt/\∀(z:Nat->V)(R:Addr->Prop)(σ:St)(H:Hp)(W:Addr->Prop)(ρ:Env)(Q:Bool->Env->Prop)(Q':Bool->Hp->Prop),SR X.K T z R H W σ ρ->w ρ Q ->
  (∀b H' W' a,PostT X.K T z R m H W σ ρ H' W' a->Q b a->Q' b H')->tt σ H Q'
noncomputable def truD:D->Option Bool
 | .non=>some false
 | .bl b=>some b
 | .int i=>some (i != 0)
 | .str y=>if y.length<=sizeLine then some ((y.length:Int) != 0)else none
 | .lst xs=>some (!xs.isEmpty)
 | .tup xs=>some (!xs.isEmpty)
 | .dik kvs=>some (!kvs.isEmpty)
 | .kls xs=>some (!xs.isEmpty)
 | .dit _=>none
 | .ty _=>none
 | .fdk _=>none
 | .ftp _=>none
 | .fdt _=>none
 | .obj _ _=>none
 | .clo _ _=>none
 | .kc _=>none
 | .dmx _=>none
 | .fmx _=>none
def wTru(wa:WE):WT:=λρ Q=>wa ρ λd a=>match truD d with
 |some b=>Q b a
 |none=>False
theorem Reps.emp{K:Frag}(r:Reps K H ds xs F):ds.isEmpty=xs.isEmpty:=by
 have:=r.length;cases ds<;>cases xs<;>simp at this<;>rfl
theorem RepK.emp{K:Frag}{ds:List (Key×D)}{xs:List (Key×V)}(r:RepK K H ds xs F):ds.isEmpty=xs.isEmpty:=by
 have:=r.length;cases ds<;>cases xs<;>simp at this<;>rfl
theorem Qtv{K:Frag}{b:Bool}(r:Rep K H d x F)(h:truD d=some b):TruV K x H b:=by
 cases r with
 |non=>exact(B3 h).symm
 |bl c=>exact(B3 h).symm
 |int c=>exact(B3 h).symm
 | str y=>
  have h:(if y.length<=sizeLine then some ((y.length:Int) != 0)else none)=some b:=h
  split at h
  ·rename_i f;exact⟨f,(B3 h).symm⟩
  ·cases h
 | tup e r=>
  refine .inr (.inl ⟨_,.of e,?_⟩);rw[← B3 h,r.emp]
 | lst e r=>
  refine .inl ⟨_,.of e,?_⟩;rw[← B3 h,r.emp]
 | kls e r=>
  refine .inl ⟨_,e.sq,?_⟩;rw[← B3 h,r.emp]
 | dik e r=>
  refine .inr (.inr ⟨_,e,?_⟩);rw[← B3 h,r.emp]
 |dit e r=>cases h
 |ty t=>cases h
 |fdk e r=>cases h
 |ftp e hd r=>cases h
 |fdt e r=>cases h
 |obj e j i=>cases h
 |clo e r=>cases h
 |kc a=>cases h
 |dmx e g hm r=>cases h
 |fmx e g hm r=>cases h
theorem Qav(f:EV X T m o a wa)(g:∀c,isTrue a X.env c=(do let v ← c;standAt a.pos;holding [v] (truthy v)):=by intro _;rfl):TV X T m a (wTru wa):=by
 obtain⟨ta,pa,h⟩:=f
 refine⟨_,Qp4 pa g,λz R σ H W ρ Q Q' s hw k=>?_⟩
 refine h z R σ H W ρ _ _ s hw λv1 H1 W1 d1 ρ1 F1 p d=>?_
 cases e:truD d1 with
 |none=>rw[e]at d;exact d.elim
 | some b=>
  rw[e]at d
  exact⟨b,Qtv p.rep e,k b H1 W1 ρ1 ⟨p.sr,p.fr,p.calm⟩ d⟩
def wBl(wa:WE):WT:=λρ Q=>wa ρ λd a=>match d with
 | .bl b=>Q b a
 |_=>False
theorem Qsh{K:Frag}{b:Bool}(r:Rep K H (.bl b) x F):x=.bl b:=by cases r;rfl
theorem Zt{g:G2}(ho:OpD X (compareOp op) g)(j:EV X T m1 o1 a wa)(n:EV X T m2 o2 b wb)(o:o1=true\/m2=false:=by first|exact .inl rfl|exact .inr rfl)
  (hm:behindInMarks op b=false:=by first|exact Qsx _|with_unfolding_all rfl):TV X T (m1||m2) (.Compare a [op] [b] pos) (wBl (wBin g wa wb)):=by
 obtain⟨r,ro,i⟩:=ho;obtain⟨ta,pa,A⟩:=j;obtain⟨tb,l,w⟩:=n;refine⟨_,Qux ro pa l hm,λz R σ H W ρ Q Q' s hw k=>?_⟩;refine two A w o s hw λx y H2 W2 d1 d2 ρ2 F1 F2 u m e t q _ _ _ p=>?_;refine i H2 d1 d2 x y F1 F2 _ _ t q p λv H' d F c f=>?_;cases d with
 |bl b=>exact⟨b,Qsh c.rep,k b H' W2 ρ2 ⟨u.same c.same,m.trans (FrW.same W2 c.same),λh=>⟨(e h).1.trans c.same,(e h).2⟩⟩ f⟩
 |_=>exact f.elim
end
section
variable {T:Tg}{a b:Expr}{w:WE}{wt wu:WT}
def wNot(wt:WT):WT:=λρ Q=>wt ρ λb a=>Q (!b) a
def wOr(wt wu:WT):WT:=λρ Q=>wt ρ λb a=>if b=true then Q true a else wu a Q
theorem Qby(c:TV X T m a wt):TV X T m (.UnaryOp .Not a pos) (wNot wt):=by
 obtain⟨ta,pa,e⟩:=c;exact⟨_,Qx3 pa,λz R σ H W ρ Q Q' s hw k=>e z R σ H W ρ _ _ s hw λb H1 W1 ρ1 p d=>k (!b) H1 W1 ρ1 p d⟩
def BV(X:Cx)(T:Tg)(m:Bool)(e:Expr)(w:WT):Prop :=
 ∃tt,PW X e tt/\∀(z:Nat->V)(R:Addr->Prop)(σ:St)(H:Hp)(W:Addr->Prop)(ρ:Env)(Q:Bool->Env->Prop)(Q':Bool->Hp->Prop),SR X.K T z R H W σ ρ->w ρ Q ->
  (∀b H' W' a,PostT X.K T z R m H W σ ρ H' W' a->Q b a->Q' b H')->tt σ H Q'
theorem PostT.seq{K:Frag}{W W2:Addr->Prop}{ρ2:Env}(p:PostT K T z R m1 H W σ ρ H1 W1 ρ1)(q:PostT K T z R m2 H1 W1 σ ρ1 H2 W2 ρ2):PostT K T z R (m1||m2) H W σ ρ H2 W2 ρ2 where
 sr:=q.sr
 fr:=p.fr.trans q.fr
 calm:=λh=>by
  rw[Mq]at h;obtain⟨f,e,b⟩:=p.calm h.1;obtain⟨d,a,c⟩:=q.calm h.2;exact⟨f.trans d,a.trans e,c.trans b⟩
theorem PostT.left{K:Frag}{W:Addr->Prop}(p:PostT K T z R m1 H W σ ρ H1 W1 ρ1):PostT K T z R (m1||m2) H W σ ρ H1 W1 ρ1 :=
 ⟨p.sr,p.fr,λh=>p.calm (Mq.mp h).1⟩
theorem Qg4(b:TV X T m a wt):BV X T m (.BoolOp .Or [a] pos) wt:=by
 obtain⟨ta,pa,c⟩:=b;exact⟨_,Qx1 pa,c⟩
theorem Qg5(e:TV X T m1 a wt)(g:BV X T m2 (.BoolOp .Or (b::rest) pos) wu):BV X T (m1||m2) (.BoolOp .Or (a::b::rest) pos) (wOr wt wu):=by
 obtain⟨ta,pa,j⟩:=e;obtain⟨tb,f,i⟩:=g;refine⟨_,Q1m pa f,λz R σ H W ρ Q Q' s hw k=>j z R σ H W ρ _ _ s hw λc H1 W1 ρ1 p d=>?_⟩;cases c with
 |false=>exact i z R σ H1 W1 ρ1 Q Q' p.sr d λb H2 W2 ρ2 q h=>k b H2 W2 ρ2 (p.seq q) h
 |true=>exact k true H1 W1 ρ1 p.left d
theorem Qbz(h:BV X T m e wt):TV X T m e wt:=by
 obtain⟨ta,pa,a⟩:=h;exact⟨_,pa.pt,a⟩
def wIfE(wt:WT)(wa wb:WE):WE:=λρ Q=>wt ρ λc ρ1=>if c=true then wa ρ1 Q else wb ρ1 Q
theorem Q2d(t:TV X T m0 c wt)(l:EV X T m1 o a wa)(r:EV X T m2 o b wb):EV X T (m0||(m1||m2)) o (.IfExp c a b pos) (wIfE wt wa wb):=by
 obtain ⟨G,y,B⟩:=t;obtain⟨ta,pa,E⟩:=l;obtain⟨tb,n,D⟩:=r;refine⟨_,Qqe y pa n,λz R σ H W ρ Q Q' s hw k=>B z R σ H W ρ _ _ s hw λc H1 W1 ρ1 p i=>?_⟩;have fin:∀{j:Bool} v H' W' d e F,Post X.K T z R j o H1 W1 σ ρ1 H' W' e d v F->((m1||m2)=false->j=false)->Q d e->Q' v H':=λv H' W' d e F q hm f=>by
  refine k v H' W' d e F ⟨q.sr,p.fr.trans q.fr,λh=>?_,q.rep,λh=>⟨(q.own h).1,λa g=>⟨p.fr.dom a ((q.own h).2 a g).1,((q.own h).2 a g).2⟩⟩⟩ f;rw[Mq]at h;obtain⟨u,A,m⟩:=p.calm h.1;obtain⟨x,w,C⟩:=q.calm (hm h.2);exact⟨u.trans x,w.trans A,C.trans m⟩
 cases c with
 |true=>exact E z R σ H1 W1 ρ1 Q Q' p.sr i λv H' W' d e F q f=>fin v H' W' d e F q (λh=>(Mq.mp h).1) f
 |false=>exact D z R σ H1 W1 ρ1 Q Q' p.sr i λv H' W' d e F q f=>fin v H' W' d e F q (λh=>(Mq.mp h).2) f
end
end PV
namespace PV
open PySem PySem.Spec L2
open PySem.W (Dat kqdP kqdPs kqdOk)
mutual
noncomputable def Yw:D->Dat
 | .non=>.none
 | .bl b=>.bool b
 | .int i=>.int i
 | .str x=>.str x
 | .tup xs=>.tuple (Z1 xs)
 | .lst xs=>.list (Z1 xs)
 | .dik _=>.none
 | .dit _=>.none
 | .kls _=>.none
 | .ty _=>.none
 | .fdk _=>.none
 | .ftp _=>.none
 | .fdt _=>.none
 | .obj _ _=>.none
 | .clo _ _=>.none
 | .kc _=>.none
 | .dmx _=>.none
 | .fmx _=>.none
noncomputable def Z1:List D->List Dat
 | []=>[]
 |d::r=>Yw d::Z1 r
end
mutual
noncomputable def eqOk:Nat->D->Bool
 |_,.non=>true
 |_,.int _=>true
 |_,.str x=>PyData.strOk x
 |n+1,.tup xs=>Gs n xs
 |n+1,.lst xs=>Gs n xs
 |_,_=>false
noncomputable def Gs:Nat->List D->Bool
 |_,[]=>true
 |n,d::r=>eqOk n d&&Gs n r
end
theorem Qc0{xs:List D}:Gs n xs=true↔∀x∈xs,eqOk n x=true:=by
 induction xs with
 |nil=>simp[Gs]
 |cons d r a=>simp only[Gs,B6,a,Ay,forall_eq_or_imp]
mutual
theorem Qbm:∀(n:Nat)(d:D),eqOk n d=true->kqdOk n (Yw d)=true
 |_,.non,_=>by simp[Yw,kqdOk]
 |_,.bl _,h=>by cases ‹Nat›<;>simp[eqOk]at h
 |_,.int _,_=>by simp[Yw,kqdOk]
 | _,.str x,h=>by
  cases ‹Nat›<;>(simp only[eqOk]at h;simpa[Yw,kqdOk]using h)
 |0,.tup _,h=>by simp[eqOk]at h
 |0,.lst _,h=>by simp[eqOk]at h
 | n+1,.tup xs,h=>by
  simp only[eqOk]at h;rw[Yw];simp only[kqdOk];exact Qcz n xs h
 | n+1,.lst xs,h=>by
  simp only[eqOk]at h;rw[Yw];simp only[kqdOk];exact Qcz n xs h
 |n,.dik _,h=>by cases n<;>simp[eqOk]at h
 |n,.dit _,h=>by cases n<;>simp[eqOk]at h
 |n,.kls _,h=>by cases n<;>simp[eqOk]at h
 |n,.ty _,h=>by cases n<;>simp[eqOk]at h
 |n,.fdk _,h=>by cases n<;>simp[eqOk]at h
 |n,.ftp _,h=>by cases n<;>simp[eqOk]at h
 |n,.fdt _,h=>by cases n<;>simp[eqOk]at h
 |n,.obj _ _,h=>by cases n<;>simp[eqOk]at h
 |n,.clo _ _,h=>by cases n<;>simp[eqOk]at h
 |n,.kc _,h=>by cases n<;>simp[eqOk]at h
theorem Qcz:∀(n:Nat)(xs:List D),Gs n xs=true->(Z1 xs).all (kqdOk n)=true
 |_,[],_=>by simp[Z1]
 | n,d::r,h=>by
  simp only[Gs,B6]at h;rw[Z1,A0c,Qbm n d h.1,Qcz n r h.2];rfl
end
mutual
theorem Qfu:∀(n k:Nat)(a b:D),eqOk n a=true->eqOk k b=true->Yw a=Yw b->a=b
 | n,k,a,b,c,d,h=>by
  cases a with
  |non=>cases b<;>first|rfl|(simp[Yw]at h;done)|(cases k<;>simp[eqOk]at d)
  |bl x=>cases n<;>simp[eqOk]at c
  |int x=>cases b<;>first|(simp[Yw]at h;rw[h])|(simp[Yw]at h)
  |str x=>cases b<;>first|(simp[Yw]at h;rw[h])|(simp[Yw]at h)
  | tup xs=>
   cases b with
   | tup ys=>
    cases n with
    |zero=>simp[eqOk]at c
    | succ n=>
     cases k with
     |zero=>simp[eqOk]at d
     | succ k=>
      simp only[eqOk]at c d;simp only[Yw,Dat.tuple.injEq]at h;rw[Qad n k xs ys c d h]
   |_=>simp[Yw]at h
  | lst xs=>
   cases b with
   | lst ys=>
    cases n with
    |zero=>simp[eqOk]at c
    | succ n=>
     cases k with
     |zero=>simp[eqOk]at d
     | succ k=>
      simp only[eqOk]at c d;simp only[Yw,Dat.list.injEq]at h;rw[Qad n k xs ys c d h]
   |_=>simp[Yw]at h
  |dik x=>cases n<;>simp[eqOk]at c
  |dit x=>cases n<;>simp[eqOk]at c
  |kls x=>cases n<;>simp[eqOk]at c
  |ty x=>cases n<;>simp[eqOk]at c
  |fdk x=>cases n<;>simp[eqOk]at c
  |ftp x=>cases n<;>simp[eqOk]at c
  |fdt x=>cases n<;>simp[eqOk]at c
  |obj x y=>cases n<;>simp[eqOk]at c
  |clo x y=>cases n<;>simp[eqOk]at c
  |kc x=>cases n<;>simp[eqOk]at c
  |dmx x=>cases n<;>simp[eqOk]at c
  |fmx x=>cases n<;>simp[eqOk]at c
theorem Qad:∀(n k:Nat)(a b:List D),Gs n a=true->Gs k b=true->Z1 a=Z1 b->a=b
 | n,k,[],b,c,d,h=>by
  cases b with
  |nil=>rfl
  |cons=>simp[Z1]at h
 | n,k,x::a,b,c,d,h=>by
  cases b with
  |nil=>simp[Z1]at h
  | cons y b=>
   simp only[Z1,Rn]at h;simp only[Gs,B6]at c d;rw[Qfu n k x y c.1 d.1 h.1,Qad n k a b c.2 d.2 h.2]
end
theorem Rep.dv{K:Frag}(n:Nat)(r:Rep K H d v F):eqOk n d=true->DV H v (Yw d):=by
 have no:∀{P:Prop}{n:Nat}{d:D},(∀n,eqOk n d=false)->eqOk n d=true->P:=λh h'=>absurd ((h _).symm.trans h') (by simp);refine Rep.rec (motive_1:=λd v _ _=>∀n,eqOk n d=true->DV H v (Yw d)) (motive_2:=λd v _ _=>∀n,Gs n d=true->DVs H v (Z1 d)) (motive_3:=λ_ _ _ _=>True) (motive_4:=λ_ _ _ _=>True) ?_ ?_ ?_ ?_ ?_ ?_ ?_ ?_ ?_ ?_ ?_ ?_ ?_ ?_ ?_ ?_ ?_ ?_ ?_ ?_ trivial (λ_ _ _ _=>trivial) trivial (λ_ _ _ _=>trivial) r n
 ·exactλ_ _=>by rw[Yw];exact .non
 ·exactλb n=>no λn=>by cases n<;>rfl
 ·exactλi _ _=>by rw[Yw];exact .int i
 ·exactλi _ _=>by rw[Yw];exact .str i
 ·intro _ _ _ _ e _ c n h;cases n with
  |zero=>simp[eqOk]at h
  |succ n=>rw[eqOk]at h;rw[Yw];exact .tup e (c n h)
 ·intro _ _ _ _ e _ c n h;cases n with
  |zero=>simp[eqOk]at h
  |succ n=>rw[eqOk]at h;rw[Yw];exact .lst e (c n h)
 ·exactλ_ _ _ n=>no λn=>by cases n<;>rfl
 ·exactλ_ _ _ n=>no λn=>by cases n<;>rfl
 ·exactλ_ _ _ n=>no λn=>by cases n<;>rfl
 ·exactλ_ n=>no λn=>by cases n<;>rfl
 ·exactλ_ _ _ n=>no λn=>by cases n<;>rfl
 ·exactλ_ _ _ _ n=>no λn=>by cases n<;>rfl
 ·exactλ_ _ _ n=>no λn=>by cases n<;>rfl
 ·exactλ_ _ _ n=>no λn=>by cases n<;>rfl
 ·exactλ_ _ _ n=>no λn=>by cases n<;>rfl
 ·exactλ_ n=>no λn=>by cases n<;>rfl
 ·exactλ_ _ _ _ _ n=>no λn=>by cases n<;>rfl
 ·exactλ_ _ _ _ _ n=>no λn=>by cases n<;>rfl
 ·exactλ_ _=>by rw[Z1];exact .nil
 ·intro _ _ _ _ _ _ _ _ f a n q;rw[Gs,B6]at q;rw[Z1];exact .cons (f n q.1) (a n q.2)
noncomputable def dAdd:G2
 | .int i,.int j,k=>k (.int (i+j))
 | .str x,.str y,k=>x.length+y.length<=sizeLine/\k (.str (x++y))
 | .tup xs,.tup ys,k=>Qj xs=true/\Qj ys=true/\xs≠[]/\xs.length+ys.length<=sizeLine/\k (.tup (xs++ys))
 | .lst xs,.lst ys,k=>Qj xs=true/\Qj ys=true/\xs.length+ys.length<=sizeLine/\k (.lst (xs++ys))
 |_,_,_=>False
def dSub:G2
 | .int i,.int j,k=>k (.int (i-j))
 |_,_,_=>False
def dMul:G2
 | .int i,.int j,k=>CMul i j/\k (.int (i*j))
 | .lst xs,.int n,k=>Qj xs=true /\ -(2 ^ 63)<=n/\n<2 ^ 63/\xs.length*n.toNat<=sizeLine/\k (.lst (Bo n.toNat xs).flatten)
 |_,_,_=>False
def dDiv:G2
 | .int i,.int j,k=>(0<j/\j<1073741824/\k (.int (i/j)))\/(j<0/\j.natAbs<1073741824/\k (.int (i.fdiv j)))
 |_,_,_=>False
def dMod:G2
 | .int i,.int j,k=>(0<j/\k (.int (i%j)))\/(j<0/\k (.int (i.fmod j)))
 |_,_,_=>False
def dPow:G2
 | .int i,.int j,k=>CPow i j/\k (.int (i ^ j.toNat))
 |_,_,_=>False
noncomputable def dEq:G2
 | .int i,.int j,k=>k (.bl (decide (i=j)))
 | .bl i,.bl j,k=>k (.bl (i==j))
 | .str i,.str j,k=>k (.bl (decide (i=j)))
 |a,b,k=>eqOk 9 a=true/\eqOk 9 b=true/\(a=b->k (.bl true))/\(a≠b->k (.bl false))
noncomputable def dNe:G2
 | .int i,.int j,k=>k (.bl (!decide (i=j)))
 | .bl i,.bl j,k=>k (.bl (!(i==j)))
 | .str i,.str j,k=>k (.bl (!decide (i=j)))
 |a,b,k=>eqOk 9 a=true/\eqOk 9 b=true/\(a=b->k (.bl false))/\(a≠b->k (.bl true))
def dCmp(f:Int->Int->Bool):G2
 | .int i,.int j,k=>k (.bl (f i j))
 |_,_,_=>False
theorem Ql9{K:Frag}(r:Rep K H (.int i) x F):x=.int i:=by cases r;rfl
theorem Reps.flatten{K:Frag}{H:Hp}{ds:List D}{xs:List V}(r:Reps K H ds xs []):∀n:Nat,Reps K H (Bo n ds).flatten (Bo n xs).flatten []
 |0=>.nil
 | n+1=>by
  have:=r.append (Reps.flatten r n);simpa[My,Sn]using this
theorem Qri(g:dAdd a b k):(∃i j,a=.int i/\b=.int j)\/(∃i j,a=.str i/\b=.str j)\/(∃i j,a=.tup i/\b=.tup j)\/∃i j,a=.lst i/\b=.lst j:=by
 cases a with
 | int i=>cases b with
  |int j=>exact .inl ⟨i,j,rfl,rfl⟩
  |_=>exact(show False from g).elim
 | str i=>cases b with
  |str j=>exact .inr (.inl ⟨i,j,rfl,rfl⟩)
  |_=>exact(show False from g).elim
 | tup i=>cases b with
  |tup j=>exact .inr (.inr (.inl ⟨i,j,rfl,rfl⟩))
  |_=>exact(show False from g).elim
 | lst i=>cases b with
  |lst j=>exact .inr (.inr (.inr ⟨i,j,rfl,rfl⟩))
  |_=>exact(show False from g).elim
 |_=>exact(show False from g).elim
theorem Qyw:OpD X (binaryOp .Add) dAdd:=by
 refine⟨_,OpR.or Qyq (OpR.or Qyp (OpR.or Qvd Qkz)),λH a b x y F1 F2 k Q l h g q=>?_⟩;rcases Qri g with⟨i,j,rfl,rfl⟩|⟨i,j,rfl,rfl⟩|⟨ds,es,rfl,rfl⟩|⟨ds,es,rfl,rfl⟩
 ·exact .inl ⟨_,_,l.iInt,h.iInt,q _ _ _ _ (.flat (.int _)) g⟩
 ·exact .inr (.inr (.inr ⟨_,_,l.iStr,h.iStr,g.1,q _ _ _ _ (.flat (.str _)) g.2⟩))
 ·obtain⟨a,xs,rfl,n,d⟩:=l.iTup;obtain⟨b,ys,rfl,o,e⟩:=h.iTup;obtain⟨r,p2,s,hz,g⟩:=g;obtain⟨-,d⟩:=d.pure r;obtain⟨-,e⟩:=e.pure p2;have u:=d.length;have t:=e.length;refine .inr (.inr (.inl ⟨a,b,xs,ys,rfl,rfl,.of n,.of o,λz=>s (Mg.mp (by rw[← u,z];rfl)),by lia,λz=>?_,λz p f=>?_⟩))
  ·have:es=[]:=Mg.mp (by rw[← t,z];rfl);subst this;rw[Dz]at g;exact q _ _ _ _ (.flat (.tup n d)) g
  ·refine q _ _ _ [] ⟨Qg f,.tup Qh ?_,Df,λ_ m=>nomatch m⟩ g;exact(d.append e).same (Qg f)
 ·obtain⟨a,xs,_,rfl,_,n,d⟩:=l.iLst;obtain⟨b,ys,_,rfl,_,o,e⟩:=h.iLst;obtain⟨r,p2,hz,g⟩:=g;obtain⟨-,d⟩:=d.pure r;obtain⟨-,e⟩:=e.pure p2;have u:=d.length;have t:=e.length;refine .inr (.inl ⟨a,b,xs,ys,rfl,rfl,n,o,by lia,λp f=>?_⟩);refine q _ _ _ [p] ⟨Qg f,.lst Qh ((d.append e).same (Qg f)),by simp,λc m=>by rw[Aw.mp m];exact f⟩ g
theorem Qgh:OpD X (binaryOp .Sub) dSub:=by
 refine⟨_,Qyg,λH a b x y F1 F2 k Q d c g q=>?_⟩
 (cases d<;>first|exact(show False from g).elim|skip)<;>(cases c<;>first|exact(show False from g).elim|skip)
 exact⟨_,_,rfl,rfl,q _ _ _ _ (.flat (.int _)) g⟩
theorem Qrf(g:dMul a b k):(∃i j,a=.int i/\b=.int j)\/∃i j,a=.lst i/\b=.int j:=by
 cases a with
 | int i=>cases b with
  |int j=>exact .inl ⟨i,j,rfl,rfl⟩
  |_=>exact(show False from g).elim
 | lst i=>cases b with
  |int j=>exact .inr ⟨i,j,rfl,rfl⟩
  |_=>exact(show False from g).elim
 |_=>exact(show False from g).elim
theorem Y9:OpD X (binaryOp .Mult) dMul:=by
 refine⟨_,OpR.or Qyl Qyh,λH a b x y F1 F2 k Q h f g q=>?_⟩;rcases Qrf g with⟨i,j,rfl,rfl⟩|⟨ds,n,rfl,rfl⟩
 ·exact .inl ⟨_,_,h.iInt,f.iInt,g.1,q _ _ _ _ (.flat (.int _)) g.2⟩
 ·obtain⟨a,xs,_,rfl,_,r,d⟩:=h.iLst;obtain rfl:=f.iInt;obtain⟨l,h1,h2,hz,g⟩:=g;obtain⟨-,d⟩:=d.pure l;have o:=d.length;refine .inr ⟨a,n,xs,rfl,rfl,r,h1,h2,by rw[o];exact hz,λp e=>?_⟩;refine q _ _ _ [p] ⟨Qg e,.lst Qh ((d.flatten _).same (Qg e)),by simp,λc m=>by rw[Aw.mp m];exact e⟩ g
theorem Qjn:OpD X (binaryOp .FloorDiv) dDiv:=by
 refine⟨_,OpR.or Qvc Qql,λH a b x y F1 F2 k Q d c g q=>?_⟩
 (cases d<;>first|exact(show False from g).elim|skip)<;>(cases c<;>first|exact(show False from g).elim|skip)
 rcases(show _\/_ from g) with⟨h1,h2,g⟩|⟨h1,h2,g⟩
 ·exact .inl ⟨_,_,rfl,rfl,⟨h1,h2⟩,q _ _ _ _ (.flat (.int _)) g⟩
 ·exact .inr ⟨_,_,rfl,rfl,⟨by lia,h2⟩,q _ _ _ _ (.flat (.int _)) g⟩
theorem Qd4:OpD X (binaryOp .Mod) dMod:=by
 refine⟨_,OpR.or Qym Qvb,λH a b x y F1 F2 k Q d c g q=>?_⟩
 (cases d<;>first|exact(show False from g).elim|skip)<;>(cases c<;>first|exact(show False from g).elim|skip)
 rcases(show _\/_ from g) with⟨h1,g⟩|⟨h1,g⟩
 ·exact .inl ⟨_,_,rfl,rfl,h1,q _ _ _ _ (.flat (.int _)) g⟩
 ·exact .inr ⟨_,_,rfl,rfl,by lia,q _ _ _ _ (.flat (.int _)) g⟩
theorem Qm0:OpD X (binaryOp .Pow) dPow:=by
 refine⟨_,Qyi,λH a b x y F1 F2 k Q d c g q=>?_⟩
 (cases d<;>first|exact(show False from g).elim|skip)<;>(cases c<;>first|exact(show False from g).elim|skip)
 exact⟨_,_,rfl,rfl,g.1,q _ _ _ _ (.flat (.int _)) g.2⟩
theorem Qm1{f:Int->Int->Bool}(h:OpR X (compareOp op) (rI0 λi j=>.bl (f i j))):OpD X (compareOp op) (dCmp f):=by
 refine⟨_,h,λH a b x y F1 F2 k Q d c g q=>?_⟩
 (cases d<;>first|exact(show False from g).elim|skip)<;>(cases c<;>first|exact(show False from g).elim|skip)
 exact⟨_,_,rfl,rfl,q _ _ _ _ (.flat (.bl _)) g⟩
theorem Q1y:OpD X (compareOp .Lt) (dCmp λi j=>decide (i<j)):=Qm1 Q1v
theorem Qyv:OpD X (compareOp .Gt) (dCmp λi j=>decide (j<i)):=Qm1 Q1w
theorem Qn8{F1 F2:List Addr}{Q:VK}{neg:Bool}(c:Rep X.K H a x F1)(g:Rep X.K H b y F2)
  (h1:eqOk 9 a=true) (h2:eqOk 9 b=true) (f:a=b->k (.bl (!neg))) (g2:a≠b->k (.bl neg)) (q:∀v H' d F,Fin X.K H H' d v F->k d->Q v H'):rDat neg x y H Q:=by
 refine⟨Yw a,Yw b,9,c.dv 9 h1,g.dv 9 h2,Qbm _ _ h1,Qbm _ _ h2,At _,λe=>?_,λe=>?_⟩
 ·exact q _ _ _ _ (.flat (.bl _)) (f (Qfu 9 9 a b h1 h2 e))
 ·exact q _ _ _ _ (.flat (.bl _)) (g2 λz=>e (by rw[z]))
theorem Qwi(g:dEq a b k):(∃i j,a=.int i/\b=.int j)\/(∃i j,a=.bl i/\b=.bl j)\/(∃i j,a=.str i/\b=.str j)\/(eqOk 9 a=true/\eqOk 9 b=true/\(a=b->k (.bl true))/\(a≠b->k (.bl false))):=by
 cases a with
 | int i=>cases b with
  |int j=>exact .inl ⟨i,j,rfl,rfl⟩
  |_=>exact .inr (.inr (.inr g))
 | bl i=>cases b with
  |bl j=>exact .inr (.inl ⟨i,j,rfl,rfl⟩)
  |_=>exact .inr (.inr (.inr g))
 | str i=>cases b with
  |str j=>exact .inr (.inr (.inl ⟨i,j,rfl,rfl⟩))
  |_=>exact .inr (.inr (.inr g))
 |_=>exact .inr (.inr (.inr g))
theorem Qvi(f:X.A.units+64<cLine):OpD X (compareOp .Eq) dEq:=by
 refine⟨_,OpR.or Q1x (Qyo f),λH a b x y F1 F2 k Q d c g q=>?_⟩;rcases Qwi g with⟨i,j,rfl,rfl⟩|⟨i,j,rfl,rfl⟩|⟨i,j,rfl,rfl⟩|⟨h1,h2,h,g2⟩
 ·obtain rfl:=d.iInt;obtain rfl:=c.iInt;refine .inl ⟨rfl,?_⟩;have e:decide (V.int i=V.int j)=decide (i=j):=by simp
  rw[e];exact q _ _ _ _ (.flat (.bl _)) g
 ·obtain rfl:=d.iBl;obtain rfl:=c.iBl;refine .inl ⟨rfl,?_⟩;rw[Qka];exact q _ _ _ _ (.flat (.bl _)) g
 ·obtain rfl:=d.iStr;obtain rfl:=c.iStr;refine .inl ⟨rfl,?_⟩;have e:decide (V.str i=V.str j)=decide (i=j):=by simp
  rw[e];exact q _ _ _ _ (.flat (.bl _)) g
 ·exact .inr (Qn8 d c h1 h2 h g2 q)
theorem Qwg(g:dNe a b k):(∃i j,a=.int i/\b=.int j)\/(∃i j,a=.bl i/\b=.bl j)\/(∃i j,a=.str i/\b=.str j)\/(eqOk 9 a=true/\eqOk 9 b=true/\(a=b->k (.bl false))/\(a≠b->k (.bl true))):=by
 cases a with
 | int i=>cases b with
  |int j=>exact .inl ⟨i,j,rfl,rfl⟩
  |_=>exact .inr (.inr (.inr g))
 | bl i=>cases b with
  |bl j=>exact .inr (.inl ⟨i,j,rfl,rfl⟩)
  |_=>exact .inr (.inr (.inr g))
 | str i=>cases b with
  |str j=>exact .inr (.inr (.inl ⟨i,j,rfl,rfl⟩))
  |_=>exact .inr (.inr (.inr g))
 |_=>exact .inr (.inr (.inr g))
theorem Qyt(f:X.A.units+64<cLine):OpD X (compareOp .NotEq) dNe:=by
 refine⟨_,OpR.or Q1u (Qyk f),λH a b x y F1 F2 k Q d c g q=>?_⟩;rcases Qwg g with⟨i,j,rfl,rfl⟩|⟨i,j,rfl,rfl⟩|⟨i,j,rfl,rfl⟩|⟨h1,h2,h,g2⟩
 ·obtain rfl:=d.iInt;obtain rfl:=c.iInt;refine .inl ⟨rfl,?_⟩;have e:(!decide (V.int i=V.int j)) = !decide (i=j):=by simp
  rw[e];exact q _ _ _ _ (.flat (.bl _)) g
 ·obtain rfl:=d.iBl;obtain rfl:=c.iBl;refine .inl ⟨rfl,?_⟩;rw[Qka];exact q _ _ _ _ (.flat (.bl _)) g
 ·obtain rfl:=d.iStr;obtain rfl:=c.iStr;refine .inl ⟨rfl,?_⟩;have e:(!decide (V.str i=V.str j)) = !decide (i=j):=by simp
  rw[e];exact q _ _ _ _ (.flat (.bl _)) g
 ·exact .inr (Qn8 (neg:=true) d c h1 h2 h g2 q)
def dNeg:D->(D->Prop)->Prop
 | .int i,k=>k (.int (-i))
 |_,_=>False
theorem Qsa:UnD X (unaryOp .USub) dNeg:=by
 refine⟨_,Qww,λH a x F1 k Q b g q=>?_⟩;cases b<;>try exact(show False from g).elim
 exact⟨_,rfl,q _ _ _ _ (.flat (.int _)) g⟩
end PV
variable {a:Np}{m3:Bool}
namespace PV
open PySem PySem.Spec L2
open PyProof.Rows (subscriptTail)
def Ui:List D->Option (List Key)
 | []=>some []
 | .int i::r=>(Ui r).map λl=>.inl i::l
 | .str x::r=>(Ui r).map λl=>.inr x::l
 |_::_=>none
theorem Reps.keys{K:Frag}{H:Hp}:∀{ds:List D}{xs:List V}{F:List Addr}{l:List Key},Reps K H ds xs F->Ui ds=some l->xs=l.map kV
 | [],_,_,_,r,h=>by
  cases r;simp only[Ui,Nj]at h;subst h;rfl
 | d::ds,_,_,_,r,h=>by
  cases r with
  | cons p r=>
   cases d with
   | int i=>
    simp only[Ui,B8]at h;obtain⟨a,h1,rfl⟩:=h;cases p;rw[Reps.keys r h1];rfl
   | str i=>
    simp only[Ui,B8]at h;obtain⟨a,h1,rfl⟩:=h;cases p;rw[Reps.keys r h1];rfl
   |_=>simp[Ui]at h
theorem Reps.atI{K:Frag}(r:Reps K H ds xs F)(h:L2.atI ds i=some d):∃x B,L2.atI xs i=some x/\Rep K H d x B/\B.Sublist F:=by
 unfold L2.atI at h;cases a:ixN ds.length i with
 |none=>rw[a]at h;cases h
 | some j=>
  rw[a]at h;obtain⟨x,B,h1,h2,b⟩:=r.get (i:=j) h;refine⟨x,B,?_,h2,b⟩;unfold L2.atI;rw[r.length,a];exact h1
def oget{a:Type}(o:Option a)(k:a->Prop):Prop:=match o with
 |some d=>k d
 |none=>False
def onI(b:D)(k:Int->Prop):Prop:=match b with
 | .int i=>k i
 |_=>False
def onK(b:D)(k:Key->Prop):Prop:=match b with
 | .int i=>k (.inl i)
 | .str i=>k (.inr i)
 |_=>False
def onT(b:D)(k:List D->Prop):Prop:=match b with
 | .tup l=>k l
 |_=>False
theorem Gp{k:Int->Prop}(h:onI b k):∃i,b=.int i/\k i:=by
 cases b with
 |int i=>exact⟨i,rfl,h⟩
 |_=>exact(show False from h).elim
theorem Qmu{k:List D->Prop}(h:onT b k):∃i,b=.tup i/\k i:=by
 cases b with
 |tup i=>exact⟨i,rfl,h⟩
 |_=>exact(show False from h).elim
theorem Qhr{k:Key->Prop}(h:onK b k):∃key,k key/\∀{K:Frag}{H:Hp}{v:V}{F:List Addr},Rep K H b v F->v=kV key:=by
 cases b with
 |int i=>exact⟨.inl i,h,λr=>r.iInt⟩
 |str i=>exact⟨.inr i,h,λr=>r.iStr⟩
 |_=>exact(show False from h).elim
noncomputable def dIx:G2:=λa b k=>match a with
 | .lst xs=>onI b λi=>oget (L2.atI xs i) k
 | .tup xs=>onI b λi=>oget (L2.atI xs i) k
 | .kls xs=>onI b λi=>oget (L2.atI xs i) k
 | .str z=>onI b λi=>z.length<=sizeLine/\oget (L2.atI z.cps.toList i) λc=>k (.str ⟨#[c]⟩)
 | .dik kvs=>onK b λkey=>oget (valD kvs key) k
 | .dit kvs=>onT b λl=>oget (Ui l) λks=>oget (valD kvs ks) k
 | .fdk kvs=>onK b λkey=>oget (valD kvs key) k
 |_=>False
theorem Qn{a:Type}{o:Option a}{k:a->Prop}(h:oget o k):∃d,o=some d/\k d:=by
 cases o with
 |none=>exact h.elim
 |some d=>exact⟨d,rfl,h⟩
theorem Qfw{b:Shared}{value a:Expr}{o i:Value}{T id:String}
  (g:typeLookup (.type T) "__getitem__" = pure (some (.builtin id))) (h:subscripted a false o i=operate [o,i] (getItem o i)) (f:b.TypeIs o T) (d:wpAny (model prog w) A (getItem o i) Q E b) :
  wpAny (model prog w) A (subscriptTail value a o i) Q E b:=by
 unfold subscriptTail;refine Ak ?_;rw[getitemInPython_of_ne f.not_modules];refine Ak (M1 f g ?_);have fin:wpAny (model prog w) A (subscripted a false o i) (λr c=>wpAny (model prog w) A (letTemporaryGo value o r >>= λ_=>pure r) Q E c) E b:=by
  rw[h];exact wpAny_operating (Mo d (λr c e=>Ak (wpAny_letTemporaryGo (Al e))) λ_ _ x=>x)
 first
  |exact Al (Ak fin)
  |exact Ak (Al (Ak fin))
  |exact Ak fin
theorem Qnk(i:X.A.units+1<cLine):IxR X (λx y H Q=>∃a v,x=.ref a/\DGet H a y (some v)/\Q v H):=by
 intro value b pins s σ H x y v u Q I e f h d;obtain⟨a,z,rfl,g,q⟩:=h;cases e;exact Qfw Lw.lookup d (Qib I g) (Qom i I g f λk l j c=>⟨z,H,j,c,q⟩)
def IxD(X:Cx)(g:G2):Prop :=
 ∃r,IxR X r/\∀(H:Hp)(a b:D)(x y:V)(F1 F2:List Addr)(k:D->Prop)(Q:VK),Rep X.K H a x F1->Rep X.K H b y F2->g a b k ->
  (∀v d F,Rep X.K H d v F->F.Sublist F1->k d->Q v H)->r x y H Q
theorem J0(t:X.A.units+1<cLine):IxD X dIx:=by
 refine⟨_,IxR.or Qs4 (Qnk t),λH a b x y F1 F2 k Q m j g q=>?_⟩;cases a with
 | str z=>
  obtain⟨i,rfl,hz,g⟩:=Gp g;obtain⟨c,e,g⟩:=Qn g;exact .inl (.inr (.inr ⟨_,_,c,m.iStr,j.iInt,hz,e,q _ _ _ (.str _) (Ir _) g⟩))
 | tup ds=>
  obtain⟨i,rfl,g⟩:=Gp g;obtain⟨a,xs,rfl,e,r⟩:=m.iTup;obtain⟨d,h,g⟩:=Qn g;obtain⟨v,B,h1,h2,f⟩:=r.atI h;exact .inl (.inr (.inl ⟨a,xs,i,v,rfl,j.iInt,.of e,h1,q _ _ _ h2 f g⟩))
 | lst ds=>
  obtain⟨i,rfl,g⟩:=Gp g;obtain⟨a,xs,G,rfl,rfl,e,r⟩:=m.iLst;obtain⟨d,h,g⟩:=Qn g;obtain⟨v,B,h1,h2,f⟩:=r.atI h;exact .inl (.inl ⟨a,xs,i,v,rfl,j.iInt,.of e,h1,q _ _ _ h2 (f.trans (Ig _ _)) g⟩)
 | dik ds=>
  obtain⟨key,g,n⟩:=Qhr (show onK b (λkey=>oget (valD ds key) k)from g);obtain⟨a,kvs,G,rfl,rfl,e,r⟩:=m.iDik;obtain rfl:=n j;obtain⟨d,h,g⟩:=Qn g;rcases r.val key with⟨z,_⟩|⟨d',v,B,h1,h2,f,h4⟩
  ·rw[h]at z;cases z
  ·rw[h]at h1;cases h1;exact .inr ⟨a,v,rfl,h2 ▸ DGet.k (k:=key) e,q _ _ _ f (h4.trans (Ig _ _)) g⟩
 | dit ds=>
  obtain⟨l,rfl,g⟩:=Qmu g;obtain⟨a,kvs,G,rfl,rfl,e,r⟩:=m.iDit;obtain⟨b,xs,rfl,o,s⟩:=j.iTup;obtain⟨ks,u,g⟩:=Qn g;obtain⟨d,h,g⟩:=Qn g;have p:=s.keys u;subst p;rcases r.val ks with⟨z,_⟩|⟨d',v,B,h1,h2,f,h4⟩
  ·rw[h]at z;cases z
  ·rw[h]at h1;cases h1;exact .inr ⟨a,v,rfl,h2 ▸ DGet.t (k:=ks) e o,q _ _ _ f (h4.trans (Ig _ _)) g⟩
 | kls ds=>
  obtain⟨i,rfl,g⟩:=Gp g;obtain⟨a,xs,rfl,rfl,e,r⟩:=m.iKls;obtain⟨d,h,g⟩:=Qn g;obtain⟨v,B,h1,h2,f⟩:=r.atI h;exact .inl (.inl ⟨a,xs,i,v,rfl,j.iInt,e.sq,h1,q _ _ _ h2 f g⟩)
 | fdk ds=>
  obtain⟨key,g,n⟩:=Qhr (show onK b (λkey=>oget (valD ds key) k)from g);obtain⟨a,ob,kvs,rfl,e,r⟩:=m.iFdk;obtain rfl:=n j;obtain⟨d,h,g⟩:=Qn g;rcases r.val key with⟨z,_⟩|⟨d',v,B,h1,h2,f,h4⟩
  ·rw[h]at z;cases z
  ·rw[h]at h1;cases h1;exact .inr ⟨a,v,rfl,.inl ⟨kvs,key,.inr ⟨ob,e⟩,rfl,h2.symm⟩,q _ _ _ f h4 g⟩
 |_=>exact(show False from g).elim
section
variable {T:Tg}{b:Expr}{w:WE}
theorem Jr{g:G2}(hg:IxD X g)(f:EV X T m1 o1 a wa)(l:EV X T m2 o2 b wb)(o:o1=true\/m2=false:=by first|exact .inl rfl|exact .inr rfl)(n:Qpf b:=by intro _ _;rfl) :
  EV X T (m1||m2) o1 (.Subscript a b pos) (wBin g wa wb):=by
 obtain⟨r,ro,e⟩:=hg;obtain⟨ta,pa,C⟩:=f;obtain⟨tb,i,B⟩:=l;refine⟨_,Q1r ro pa i n,λz R σ H W ρ Q Q' s hw k=>?_⟩;refine two C B o s hw λx y H2 W2 d1 d2 ρ2 F1 F2 w j u t q o1 _ _ p=>?_;exact e H2 d1 d2 x y F1 F2 _ Q' t q p λv d F rd c A=>k v H2 W2 d ρ2 F ⟨w,j,u,rd,λh=>⟨(o1 h).1.sublist c,λa m=>(o1 h).2 a (c.subset m)⟩⟩ A
abbrev WA:=Env->(List D->Env->Prop)->Prop
structure PostA(K:Frag)(T:Tg)(z:Nat->V)(R:Addr->Prop)(m o:Bool)(H:Hp)(W:Addr->Prop)(σ:St)(ρ:Env)(H':Hp)(W':Addr->Prop)(b:Env)(ds:List D)(vs:List V)(F:List Addr):Prop where
 sr:SR K T z R H' W' σ b
 fr:FrW H W H' W'
 calm:m=false->Same H H'/\W'=W/\b=ρ
 rep:Reps K H' ds vs F
 own:o=true->F.Nodup/\∀a∈F,H a=none/\¬W' a
def AV(X:Cx)(T:Tg)(m o:Bool)(es:List Expr)(w:WA):Prop :=
 ∃ta,PA X es ta/\∀(z:Nat->V)(R:Addr->Prop)(σ:St)(H:Hp)(W:Addr->Prop)(ρ:Env)(Q:List D->Env->Prop)(Q':List V->Hp->Prop),SR X.K T z R H W σ ρ->w ρ Q ->
  (∀vs H' W' ds a F,PostA X.K T z R m o H W σ ρ H' W' a ds vs F->Q ds a->Q' vs H')->ta σ H Q'
end
section
variable {T:Tg}{b:Expr}{w:WE}{wr:WA}
def wNil:WA:=λρ Q=>Q [] ρ
def Qd(w:WE)(wr:WA):WA:=λρ Q=>w ρ λd ρ1=>wr ρ1 λds ρ2=>Q (d::ds) ρ2
theorem Qf:AV X T false true [] wNil:=⟨_,Qjm,λz R σ H W ρ Q Q' s hw k=>k [] H W [] ρ [] ⟨s,FrW.refl H W,λ_=>⟨Same.refl H,rfl,rfl⟩,.nil,λ_=>⟨Df,λa m=>nomatch m⟩⟩ hw⟩
theorem Qa(B:EV X T m1 o1 e w)(j:AV X T m2 o2 es wr)(d:o1=true\/m2=false:=by first|exact .inl rfl|exact .inr rfl)(l:starEach (e::es) X.env=(false,eval e X.env)::starEach es X.env:=by rfl) :
  AV X T (m1||m2) (o1&&o2) (e::es) (Qd w wr):=by
 obtain ⟨te,D,o⟩:=B;obtain⟨ta,pa,F⟩:=j;refine⟨_,Qcj D pa l,λz R σ H W ρ Q Q' s hw k=>?_⟩;refine o z R σ H W ρ _ _ s hw λv1 H1 W1 d1 ρ1 F1 p A=>?_;refine F z R σ H1 W1 ρ1 _ _ p.sr A λvs H2 W2 ds ρ2 F2 q E=>?_;have t:Rep X.K H2 d1 v1 F1:=by
  rcases d with d|d
  ·exact p.rep.keep q.fr λa h=>((p.own d).2 a h).2
  ·exact p.rep.same (q.calm d).1
 refine k (v1::vs) H2 W2 (d1::ds) ρ2 (F1++F2) ⟨q.sr,p.fr.trans q.fr,λh=>?_,.cons t q.rep,λh=>?_⟩ E
 ·rw[Mq]at h;obtain⟨m,v,i⟩:=p.calm h.1;obtain⟨r,n,x⟩:=q.calm h.2;exact⟨m.trans r,n.trans v,x.trans i⟩
 ·rw [B6]at h;obtain⟨u,g⟩:=p.own h.1;obtain⟨y,f⟩:=q.own h.2;refine⟨Fl.mpr ⟨u,y,λa c b C e=>?_⟩,λa c=>?_⟩
  ·subst e;obtain⟨ob,e,_⟩:=p.rep.dom a c;rw[(f a C).1]at e;cases e
  ·rcases Bx.mp c with c|c
   ·refine⟨(g a c).1,λw=>?_⟩;rcases q.fr.new a w with w|w
    ·exact(g a c).2 w
    ·obtain⟨ob,e,_⟩:=p.rep.dom a c;rw[w]at e;cases e
   ·exact⟨p.fr.dom a (f a c).1,(f a c).2⟩
def wTup(wr:WA):WE:=λρ Q=>wr ρ λds a=>ds.length<=sizeLine/\Q (.tup ds) a
def wLst(wr:WA):WE:=λρ Q=>wr ρ λds a=>ds.length<=sizeLine/\Q (.lst ds) a
theorem Vu{c}(h:AV X T m o es wr):EV X T m o (.Tuple es c pos) (wTup wr):=by
 obtain⟨ta,pa,d⟩:=h;refine⟨_,Qx8 pa,λz R σ H W ρ Q Q' s hw k=>?_⟩;refine d z R σ H W ρ _ _ s hw λvs H1 W1 ds ρ1 F p q=>?_;obtain⟨hz,q⟩:=q;refine⟨by rw[p.rep.length];exact hz,λa b=>k _ _ W1 (.tup ds) ρ1 F ⟨p.sr.same (Qg b),p.fr.trans (FrW.same W1 (Qg b)),λh=>⟨(p.calm h).1.trans (Qg b),(p.calm h).2⟩,.tup Qh (p.rep.same (Qg b)),p.own⟩ q⟩
theorem Xx(h:AV X T m o es wr):EV X T m o (.List es pos) (wLst wr):=by
 obtain⟨ta,pa,i⟩:=h;refine⟨_,Qya pa,λz R σ H W ρ Q Q' s hw k=>?_⟩;refine i z R σ H W ρ _ _ s hw λvs H1 W1 ds ρ1 F p q=>?_;obtain⟨hz,q⟩:=q;refine⟨by rw[p.rep.length];exact hz,λa c=>k _ _ W1 (.lst ds) ρ1 (a::F) ⟨p.sr.same (Qg c),p.fr.trans (FrW.same W1 (Qg c)),λh=>⟨(p.calm h).1.trans (Qg c),(p.calm h).2⟩,.lst Qh (p.rep.same (Qg c)),λh=>?_⟩ q⟩;obtain⟨g,f⟩:=p.own h;refine⟨Bf.mpr ⟨λm=>?_,g⟩,λb d=>?_⟩
 ·obtain⟨ob,e,_⟩:=p.rep.dom a m;rw[c]at e;cases e
 ·rcases Ay.mp d with rfl|d
  ·exact⟨p.fr.dom _ c,p.sr.nw c⟩
  ·exact f b d
theorem Qfc:EV X T false true (.Dict [] [] pos) (wC (.dik [])) :=
 ⟨_,Qqg,λz R σ H W ρ Q Q' s hw k a c=>k _ _ W (.dik []) ρ [a] (Post.fin s (FrW.refl H W) (λ_=>⟨Same.refl H,rfl,rfl⟩) (Qg c) (.dik Qh .nil) (by simp) (λb m=>by rw[Aw.mp m];exact c)) hw⟩
abbrev GA:=List D->(D->Prop)->Prop
end
end PV
variable {g:PV.GA}{x:N7}{Q:PV.D->PV.Env->Prop}{Q':L2.VK}{T':String}
namespace PV
open PySem PySem.Spec L2
open PyProof.Rows (subscriptTail)
section
variable {wr:WA}
def X8(X:Cx)(f:Value)(g:GA):Prop :=
 ∃r,Zk X f r/\∀(H:Hp)(ds:List D)(xs:List V)(F:List Addr)(k:D->Prop)(Q:VK),Reps X.K H ds xs F->g ds k->(∀v H' d F',Fin X.K H H' d v F'->k d->Q v H')->r xs H Q
def Qp(g:GA)(wr:WA):WE:=λρ Q=>wr ρ λds a=>g ds λd=>Q d a
end
section
variable {T:Tg}{b:Expr}{wr:WA}{id:String}
theorem Qkh{r:List V->Hp->VK->Prop}(c:∀(H:Hp)(ds:List D)(xs:List V)(F:List Addr)(k:D->Prop)(Q:VK),Reps X.K H ds xs F->g ds k->(∀v H' d F',Fin X.K H H' d v F'->k d->Q v H')->r xs H Q)(f:∀(z:Nat->V)(R:Addr->Prop)(σ:St)(H:Hp)(W:Addr->Prop)(ρ:Env)(Q:List D->Env->Prop)(Q':List V->Hp->Prop),SR X.K T z R H W σ ρ->wr ρ Q ->
   (∀vs H' W' ds a F,PostA X.K T z R m o H W σ ρ H' W' a ds vs F->Q ds a->Q' vs H')->ta σ H Q') {W:Addr->Prop} (s:SR X.K T z R H W σ ρ) (hw:Qp g wr ρ Q)
  (k:∀v H' W' d a F,Post X.K T z R m true H W σ ρ H' W' a d v F->Q d a->Q' v H'):ta σ H λvs H1=>r vs H1 Q':=by
 refine f z R σ H W ρ _ _ s hw λvs H1 W1 ds ρ1 F p q=>?_;exact c H1 ds vs F _ Q' p.rep q λv H' d F' b e=>k v H' W1 d ρ1 F' (Post.fin p.sr p.fr p.calm b.same b.rep b.nd b.new) e
theorem Jm(h:X8 X (.builtin id) g)(hm:X.mg x=none)(c:bootBuiltins x=some (.builtin id))(d:AV X T m o (e::es) wr)(hg:Gl X x:=by rfl)(j:x ≠ "__name__":=by decide)(b:(x==("__debug__":Str))=false:=by decide)
  (i:starEach (e::es) X.env=(false,eval e X.env)::starEach es X.env:=by rfl) (a:(backTo pos (starEach es X.env)).any (·.1)=false:=by rfl):EV X T m true (.Call (.Name x p) (e::es) [] pos) (Qp g wr):=by
 obtain⟨r,rc,f⟩:=h;obtain⟨ta,pa,l⟩:=d;exact⟨_,Qqj rc hg hm c pa j b i a,λz R σ H W ρ Q Q' s hw k=>Qkh f l s hw k⟩
theorem Jg(h:X8 X (.type T') g)(hm:X.mg x=none)(c:bootBuiltins x=some (.type T'))(d:AV X T m o (e::es) wr)(hg:Gl X x:=by rfl)(j:x ≠ "__name__":=by decide)(b:(x==("__debug__":Str))=false:=by decide)
  (i:starEach (e::es) X.env=(false,eval e X.env)::starEach es X.env:=by rfl) (a:(backTo pos (starEach es X.env)).any (·.1)=false:=by rfl):EV X T m true (.Call (.Name x p) (e::es) [] pos) (Qp g wr):=by
 obtain⟨r,rc,f⟩:=h;obtain⟨ta,pa,l⟩:=d;exact⟨_,Qci rc hg hm c pa j b i a,λz R σ H W ρ Q Q' s hw k=>Qkh f l s hw k⟩
theorem Qk8(t:Ty)(hm:X.mg x=none)(b:bootBuiltins x=some (.type t.nm))(hg:Gl X x:=by rfl)(c:x ≠ "__name__":=by decide)(a:(x==("__debug__":Str))=false:=by decide):EV X T false true (.Name x pos) (wC (.ty t)) :=
 U7 (Qu9 hg hm b (v:=.ty t.nm) rfl c a) λ_=>.ty t
theorem Reps.at1{K:Frag}(r:Reps K H [d] xs F):∃v,xs=[v]/\Rep K H d v F:=by
 cases r with
 |cons h r=>cases r;rw[Dz];exact⟨_,rfl,h⟩
theorem Reps.at2{K:Frag}{e:D}(r:Reps K H [d,e] xs F):∃v u F1 F2,xs=[v,u]/\Rep K H d v F1/\Rep K H e u F2:=by
 cases r with
 | cons h r=>
  obtain⟨u,rfl,h2⟩:=r.at1;exact⟨_,_,_,_,rfl,h,h2⟩
noncomputable def dLen:GA
 | [.lst xs],k=>k (.int xs.length)
 | [.tup xs],k=>k (.int xs.length)
 | [.kls xs],k=>k (.int xs.length)
 | [.dik xs],k=>k (.int xs.length)
 | [.str z],k=>z.length<=sizeLine/\k (.int z.length)
 |_,_=>False
theorem Qed:X8 X (.builtin "len") dLen:=by
 refine⟨_,Zk.or Qrs Qo2,λH ds xs F k Q r g q=>?_⟩;cases ds with
 |nil=>exact(show False from g).elim
 | cons d ds=>
  cases ds with
  |cons _ _=>cases d<;>exact(show False from g).elim
  | nil=>
   cases d with
   | lst es=>
    obtain⟨v,rfl,rd⟩:=r.at1;clear r;cases rd with
    |lst e a=>exact .inl ⟨_,_,rfl,.inl ⟨_,.of e,rfl⟩,by rw[a.length];exact q _ _ _ _ (.flat (.int _)) g⟩
   | tup es=>
    obtain⟨v,rfl,rd⟩:=r.at1;clear r;cases rd with
    |tup e a=>exact .inl ⟨_,_,rfl,.inr ⟨_,.of e,rfl⟩,by rw[a.length];exact q _ _ _ _ (.flat (.int _)) g⟩
   | kls es=>
    obtain⟨v,rfl,rd⟩:=r.at1;clear r;cases rd with
    |kls e a=>exact .inl ⟨_,_,rfl,.inl ⟨_,e.sq,rfl⟩,by rw[a.length];exact q _ _ _ _ (.flat (.int _)) g⟩
   | dik es=>
    obtain⟨v,rfl,rd⟩:=r.at1;clear r;cases rd with
    |dik e a=>exact .inr ⟨_,_,rfl,e,by rw[a.length];exact q _ _ _ _ (.flat (.int _)) g⟩
   | str es=>
    obtain⟨v,rfl,rd⟩:=r.at1;clear r;cases rd;exact .inl ⟨_,_,rfl,⟨g.1,rfl⟩,q _ _ _ _ (.flat (.int _)) g.2⟩
   |_=>exact(show False from g).elim
def dInt:GA
 | [.int i],k=>k (.int i)
 | [.bl b],k=>k (.int (if b then 1 else 0))
 |_,_=>False
theorem Q0c:X8 X (.type "int") dInt:=by
 refine⟨_,Qo4,λH ds xs F k Q r g q=>?_⟩;cases ds with
 |nil=>exact(show False from g).elim
 | cons d ds=>
  cases ds with
  |cons _ _=>cases d<;>exact(show False from g).elim
  | nil=>
   cases d with
   | int i=>
    obtain⟨v,rfl,rd⟩:=r.at1;cases rd;exact .inl ⟨_,rfl,q _ _ _ _ (.flat (.int _)) g⟩
   | bl i=>
    obtain⟨v,rfl,rd⟩:=r.at1;cases rd;exact .inr ⟨_,rfl,q _ _ _ _ (.flat (.int _)) g⟩
   |_=>exact(show False from g).elim
def Qwh:GA
 | [.int i,.int j],k=>k (.int (if j<i then j else i))
 |_,_=>False
theorem Qwk(c:X.calm=true):X8 X (.builtin "min") Qwh:=by
 refine⟨_,Qo1 c,λH ds xs F k Q r g q=>?_⟩;cases ds with
 |nil=>exact(show False from g).elim
 | cons d ds=>
  cases ds with
  |nil=>cases d<;>exact(show False from g).elim
  | cons d2 ds=>
   cases d with
   | int i=>
    cases d2 with
    | int j=>
     cases ds with
     | nil=>
      obtain⟨v,u,F1,F2,rfl,b,a⟩:=r.at2;cases b;cases a;exact⟨_,_,rfl,q _ _ _ _ (.flat (.int _)) g⟩
     |cons _ _=>exact(show False from g).elim
    |_=>exact(show False from g).elim
   |_=>exact(show False from g).elim
def Qrg:GA
 | [.lst xs],k=>Qj xs=true/\k (.lst xs)
 | [.tup xs],k=>Qj xs=true/\k (.lst xs)
 | [.kls xs],k=>Qj xs=true/\k (.lst xs)
 |_,_=>False
theorem Qoy:X8 X (.type "list") Qrg:=by
 refine⟨_,Qg3,λH ds xs F k Q r g q=>?_⟩;cases ds with
 |nil=>exact(show False from g).elim
 | cons d ds=>
  cases ds with
  |cons _ _=>cases d<;>exact(show False from g).elim
  | nil=>
   cases d with
   | lst es=>
    obtain⟨v,rfl,rd⟩:=r.at1;clear r;cases rd with
    |lst e c=>exact⟨_,_,rfl,.inl (.of e),λl a=>q _ _ _ [l] ⟨Qg a,.lst Qh ((c.pure g.1).2.same (Qg a)),by simp,λb m=>by rw[Aw.mp m];exact a⟩ g.2⟩
   | tup es=>
    obtain⟨v,rfl,rd⟩:=r.at1;clear r;cases rd with
    |tup e c=>exact⟨_,_,rfl,.inr (.of e),λl a=>q _ _ _ [l] ⟨Qg a,.lst Qh ((c.pure g.1).2.same (Qg a)),by simp,λb m=>by rw[Aw.mp m];exact a⟩ g.2⟩
   | kls es=>
    obtain⟨v,rfl,rd⟩:=r.at1;clear r;cases rd with
    |kls e c=>exact⟨_,_,rfl,.inl e.sq,λl a=>q _ _ _ [l] ⟨Qg a,.lst Qh ((c.pure g.1).2.same (Qg a)),by simp,λb m=>by rw[Aw.mp m];exact a⟩ g.2⟩
   |_=>exact(show False from g).elim
def Vb:GA
 | [.lst xs],k=>Qj xs=true/\k (.tup xs)
 | [.tup xs],k=>Qj xs=true/\k (.tup xs)
 | [.kls xs],k=>Qj xs=true/\k (.tup xs)
 |_,_=>False
theorem Y8:X8 X (.type "tuple") Vb:=by
 refine⟨_,Qfh,λH ds xs F k Q r g q=>?_⟩;cases ds with
 |nil=>exact(show False from g).elim
 | cons d ds=>
  cases ds with
  |cons _ _=>cases d<;>exact(show False from g).elim
  | nil=>
   cases d with
   | lst es=>
    obtain⟨v,rfl,rd⟩:=r.at1;clear r;cases rd with
    |lst e c=>exact⟨_,_,rfl,.inl ⟨.of e,λl a=>q _ _ _ [] ⟨Qg a,.tup Qh ((c.pure g.1).2.same (Qg a)),by simp,λb m=>nomatch m⟩ g.2⟩⟩
   | tup es=>
    obtain⟨v,rfl,rd⟩:=r.at1;clear r;cases rd with
    |tup e c=>exact⟨_,_,rfl,.inr ⟨.of e,q _ _ _ _ (.flat (.tup e (c.pure g.1).2)) g.2⟩⟩
   | kls es=>
    obtain⟨v,rfl,rd⟩:=r.at1;clear r;cases rd with
    |kls e c=>exact⟨_,_,rfl,.inl ⟨e.sq,λl a=>q _ _ _ [] ⟨Qg a,.tup Qh ((c.pure g.1).2.same (Qg a)),by simp,λb m=>nomatch m⟩ g.2⟩⟩
   |_=>exact(show False from g).elim
end
end PV
variable {b:Np}{w:PV.WE}{i:Nat}{fp:Nat->List Fz}{l:Fz}{G:Nat->Nat}{F':List Fz}{ob':L2.HO}{wr:PV.WA}
namespace PV
open PySem PySem.Spec L2
section
variable {T:Tg}
noncomputable def isiD:D->Ty->Option Bool
 | .non,_=>some false
 | .bl _,t=>some (t == .bool||t == .int)
 | .int _,t=>some (t == .int)
 | .str _,t=>some (t == .str)
 | .tup _,t=>some (t == .tuple)
 | .lst _,t=>some (t == .list)
 | .dik _,t=>some (t == .dict)
 | .dit _,t=>some (t == .dict)
 | .kls _,_=>none
 | .ty _,_=>none
 | .fdk _,t=>some (t == .dict)
 | .ftp _,_=>none
 | .fdt _,_=>none
 | .obj _ _,_=>none
 | .clo _ _,_=>none
 | .kc _,_=>none
 | .dmx _,_=>none
 | .fmx _,_=>none
def dIsi:GA
 | [d,.ty t],k=>oget (isiD d t) λb=>k (.bl b)
 |_,_=>False
theorem Qzc{K:Frag}(t:Ty):kitOne K (.type "NoneType") (.type t.nm)=some false:=by
 cases t<;>(unfold kitOne;rw[if_neg (by decide)];rfl)
theorem Qzf{K:Frag}(t:Ty):kitOne K (.type "bool") (.type t.nm)=some (t == .bool||t == .int):=by
 cases t<;>first|(unfold kitOne;rw[if_pos (by decide)];rfl)|(unfold kitOne;rw[if_neg (by decide)];rfl)
theorem Qze{K:Frag}(t:Ty):kitOne K (.type "int") (.type t.nm)=some (t == .int):=by
 cases t<;>first|(unfold kitOne;rw[if_pos (by decide)];rfl)|(unfold kitOne;rw[if_neg (by decide)];rfl)
theorem Qzb{K:Frag}(t:Ty):kitOne K (.type "str") (.type t.nm)=some (t == .str):=by
 cases t<;>first|(unfold kitOne;rw[if_pos (by decide)];rfl)|(unfold kitOne;rw[if_neg (by decide)];rfl)
theorem Qza{K:Frag}(t:Ty):kitOne K (.type "tuple") (.type t.nm)=some (t == .tuple):=by
 cases t<;>first|(unfold kitOne;rw[if_pos (by decide)];rfl)|(unfold kitOne;rw[if_neg (by decide)];rfl)
theorem Qzd{K:Frag}(t:Ty):kitOne K (.type "list") (.type t.nm)=some (t == .list):=by
 cases t<;>first|(unfold kitOne;rw[if_pos (by decide)];rfl)|(unfold kitOne;rw[if_neg (by decide)];rfl)
theorem Qjw{K:Frag}(t:Ty):kitOne K (.type "dict") (.type t.nm)=some (t == .dict):=by
 cases t<;>first|(unfold kitOne;rw[if_pos (by decide)];rfl)|(unfold kitOne;rw[if_neg (by decide)];rfl)
theorem Qo3:Zk X (.builtin "isinstance") (λxs H Q=>∃a o kvs T b,xs=[.ref a,.ty T]/\H a=some (.frz o (.dK kvs))/\kitOne X.K (.type "dict") (.type T)=some b/\Q (.bl b) H):=by
 intro pins s σ H xs us Q I r h;obtain⟨a,o,kvs,T,b,rfl,d,e,q⟩:=h;obtain⟨u,c,rfl,f,rc⟩:=Qkm r;cases(show c=Tp T from rc);cases(show u=Ba a from f);obtain⟨_,_,_,vs,_,p⟩:=(show Ja X.prog X.w H s.heap a (.frz o (.dK kvs))from I.hok a _ d)
 obtain⟨o',es,ep,h1,h2,_⟩:=p;exact R9 kitx_dict I.kIn ⟨o',h1,h2.1⟩ e (λz=>nomatch z) λg=>⟨.bl b,H,I.tok _,rfl,q⟩
theorem Qg2:X8 X (.builtin "isinstance") dIsi:=by
 refine⟨_,Zk.or Qif Qo3,λH ds xs F k Q r g q=>?_⟩
 match ds,r,g with
 | [d,.ty t],r,g=>
  obtain⟨v,u,F1,F2,rfl,h,f⟩:=r.at2;obtain⟨b,a,g⟩:=Qn g;cases f;have fin:=q _ _ _ _ (.flat (.bl b)) g;cases h with
  |non=>exact .inl ⟨_,_,_,_,rfl,.non,Qzc t,by cases a;exact fin⟩
  |bl c=>exact .inl ⟨_,_,_,_,rfl,.bl c,Qzf t,by cases a;exact fin⟩
  |int c=>exact .inl ⟨_,_,_,_,rfl,.int c,Qze t,by cases a;exact fin⟩
  |str c=>exact .inl ⟨_,_,_,_,rfl,.str c,Qzb t,by cases a;exact fin⟩
  |tup e _=>exact .inl ⟨_,_,_,_,rfl,.tup e,Qza t,by cases a;exact fin⟩
  |lst e _=>exact .inl ⟨_,_,_,_,rfl,.lst e,Qzd t,by cases a;exact fin⟩
  |dik e _=>exact .inl ⟨_,_,_,_,rfl,.dK e,Qjw t,by cases a;exact fin⟩
  |dit e _=>exact .inl ⟨_,_,_,_,rfl,.dT e,Qjw t,by cases a;exact fin⟩
  |kls _ _=>cases a
  |ty _=>cases a
  |fdk e _=>exact .inr ⟨_,_,_,_,_,rfl,e,Qjw t,by cases a;exact fin⟩
  |ftp _ _ _=>cases a
  |fdt _ _=>cases a
  |obj _ _ _=>cases a
  |clo _ _=>cases a
  |kc _=>cases a
  |dmx _ _ _ _=>cases a
  |fmx _ _ _ _=>cases a
theorem SR0.write{K:Frag}{W:Addr->Prop}{d':D}(s:SR0 K T z R H W σ ρ fp)
  (x:look ρ i=some d) (y:T.own i=true) (M:σ[i]? = some (some v)) (hm:l∈fp i) (o:∀b u,H b=some u->b≠l->H' b=some u) (C:∃ob,H' l=some ob/\imm ob=false) (r:Rep K H' d' v F') (nd:F'.Nodup)
  (w:∀a∈F',a∈fp i\/(¬W a/\¬R a)):SR K T z R H' (λa=>W a\/a∈F') σ (ρ.set i (some d')):=by
 have G:W l:=(s.own i d x y).2 l hm;have hi:ImmK H H':=λb ob' e L=>by
  obtain⟨O,E,N⟩:=s.wd l G;have:b≠l:=λz=>by rw[z,E]at e;cases e;rw[N]at L;cases L
  exact o b _ e this
 refine⟨λj=>if j=i then F' else fp j,?_,?_,?_,?_,?_,?_,?_,?_,s.fix⟩
 ·rw[Nl];exact s.len
 ·intro a f;by_cases e:a=l
  ·subst e;exact C
  ·rcases f with f|f
   ·exact(s.wd a f).imp λob q=>⟨o a ob q.1 e,q.2⟩
   ·exact r.dom a f
 ·intro j e m;by_cases c:j=i
  ·subst c;rw[Xo (Qe2 x)]at m;cases m;exact⟨v,M,by rw[if_pos rfl];exact r⟩
  ·rw[Qt c]at m;obtain⟨u,h1,h2⟩:=s.at_ j e m;refine⟨u,h1,?_⟩;rw[if_neg c];refine h2.frame hi λa f=>?_;obtain⟨P,E,_⟩:=h2.dom a f;rw[E];refine o a _ E λz=>?_;subst z;cases g:T.own j with
   |true=>exact s.dis i j d e x m y g (λz=>c z.symm) _ hm f
   |false=>exact s.wr _ G (s.ro j e m g _ f)
 ·intro j e m g;by_cases c:j=i
  ·subst c;simp only[if_pos];exact⟨nd,λa h=>.inr h⟩
  ·rw[Qt c]at m;simp only[if_neg c];exact⟨(s.own j e m g).1,λa h=>.inl ((s.own j e m g).2 a h)⟩
 ·intro j e m g;have c:j≠i:=λz=>by subst z;rw[y]at g;cases g
  rw[Qt c]at m;simp only[if_neg c];exact s.ro j e m g
 ·intro a f A;rcases f with f|f
  ·exact s.wr a f A
  ·rcases w a f with h|h
   ·exact s.wr a ((s.own i d x y).2 a h) A
   ·exact h.2 A
 ·intro a A;have:a≠l:=λz=>by subst z;exact s.wr _ G A
  exact(s.rd a A).imp λob q=>⟨o a ob q.1 this,q.2⟩
 ·intro j k e J m o I F p a f n;by_cases c:j=i
  ·subst c;have B:k≠j:=λz=>p z.symm;rw[Qt B]at o;simp only[if_pos,if_neg B]at f n;rcases w a f with h|h
   ·exact s.dis j k d J x o y F p a h n
   ·exact h.1 ((s.own k J o F).2 a n)
  ·rw [Qt c]at m;simp only[if_neg c]at f;by_cases t:k=i
   ·subst t;simp only[if_pos]at n;rcases w a n with h|h
    ·exact s.dis j k e d m x I y p a f h
    ·exact h.1 ((s.own j e m I).2 a f)
   ·rw[Qt t]at o;simp only[if_neg t]at n;exact s.dis j k e J m o I F p a f n
theorem FrW.write{d:Hp}{p W:Addr->Prop}(f:FrW d p H W)(r:W l)(hm:∃m,H l=some m/\PV.imm m=false)(j:∀b u,H b=some u->b≠l->H' b=some u)(c:∃ob,H' l=some ob/\PV.imm ob=false)
  (g:∀a∈F',W a\/d a=none):FrW d p H' (λa=>W a\/a∈F') where
 keep:=λb ob' e n=>by
  have:b≠l:=λz=>by
   subst z;rcases f.new _ r with h|h
   ·exact n h
   ·rw[h]at e;cases e
  exact j b _ (f.keep b ob' e n) this
 dom:=λb e=>by
  by_cases h:b=l
  ·subst h;obtain⟨ob,o,_⟩:=c;rw[o]at e;cases e
  ·refine f.dom b ?_;cases q:H b with
   |none=>rfl
   |some u=>rw[j b u q h]at e;cases e
 imm:=λb ob' e k=>by
  have i:=f.imm b ob' e k;obtain⟨m,o,s⟩:=hm;have:b≠l:=λz=>by rw[z,o]at i;cases i;rw[s]at k;cases k
  exact j b _ i this
 new:=λb h=>by
  rcases h with h|h
  ·exact f.new b h
  ·rcases g b h with h|h
   ·exact f.new b h
   ·exact .inr h
theorem Uv:∀b u,H b=some u->b≠l->upd H l ob b=some u:=λb u e n=>by rw[Qm n];exact e
abbrev GM:=D->List D->(D->D->Prop)->Prop
def MtD(X:Cx)(id:String)(g:GM):Prop :=
 ∃r,MtR X id r/\∀(H:Hp)(d:D)(ds:List D)(v:V)(xs:List V)(F G:List Addr)(k:D->D->Prop)(Q:VK),Rep X.K H d v F->F.Nodup->Reps X.K H ds xs G->G.Nodup->(∀a∈G,a∉F)->g d ds k ->
  (∀u l ob e d' F',l∈F->imm ob=false->Rep X.K (upd H l ob) d' v F'->F'.Nodup->(∀a∈F',a∈F\/a∈G)->Rep X.K (upd H l ob) e u []->k e d'->Q u (upd H l ob))->r v xs H Q
def tyD:Option D->String->Bool
 |some (.lst _),t=>t == "list"
 |some (.dik _),t=>t == "dict"
 |some (.dit _),t=>t == "dict"
 |some (.dmx _),t=>t == "dict"
 |_,_=>false
theorem Qwx{K:Frag}(r:Rep K H d v F)(h:tyD (some d) t=true):tyV K t v H:=by
 cases r<;>try (simp[tyD]at h)
 ·subst h;exact .inl ⟨rfl,_,.of ‹_›⟩
 ·subst h;exact .inr (.inr (.inl ⟨rfl,.inl ⟨_,‹_›⟩⟩))
 ·subst h;exact .inr (.inr (.inl ⟨rfl,.inr ⟨_,‹_›⟩⟩))
 ·rename_i e a hm r;subst h;refine .inr (.inr (.inr (.inr ⟨Mx.phi _ _,e,λh p=>?_⟩)));obtain⟨_,_,_,_,_,o,_,_,e,x,_⟩:=p;exact⟨o,e,x.1,x.2.1⟩
def wMt(i:Nat)(t:String)(g:GM)(wr:WA):WE:=λρ Q=>tyD (look ρ i) t=true/\wr ρ λds ρ1=>oget (look ρ1 i) λd=>g d ds λe d'=>Q e (ρ1.set i (some d'))
theorem Qsz{g:GM}(O:T.own i=true)
  (P:∀(H:Hp)(d:D)(ds:List D)(v:V)(xs:List V)(F G:List Addr)(k:D->D->Prop)(Q:VK),Rep X.K H d v F->F.Nodup->Reps X.K H ds xs G->G.Nodup->(∀a∈G,a∉F)->g d ds k ->
   (∀u l ob e d' F',l∈F->imm ob=false->Rep X.K (upd H l ob) d' v F'->F'.Nodup->(∀a∈F',a∈F\/a∈G)->Rep X.K (upd H l ob) e u []->k e d'->Q u (upd H l ob))->r v xs H Q) (ga:∀(z:Nat->V)(R:Addr->Prop)(σ:St)(H:Hp)(W:Addr->Prop)(ρ:Env)(Q:List D->Env->Prop)(Q':List V->Hp->Prop),SR X.K T z R H W σ ρ->wr ρ Q ->
   (∀vs H' W' ds b F,PostA X.K T z R m true H W σ ρ H' W' b ds vs F->Q ds b->Q' vs H')->ta σ H Q') {W:Addr->Prop} (s:SR X.K T z R H W σ ρ) (hw:wMt i t g wr ρ Q)
  (k:∀v H' W' d b F,Post X.K T z R true true H W σ ρ H' W' b d v F->Q d b->Q' v H'):tVar i σ H λx H1=>tyV X.K t x H1/\ta σ H1 λxs H2=>r x xs H2 Q':=by
 obtain⟨c,hw⟩:=hw;obtain⟨S,s0⟩:=id s;cases E:look ρ i with
 |none=>rw[E]at c;cases c
 | some d0=>
  obtain⟨v,M,Z⟩:=s0.at_ i d0 E;refine⟨v,M,Qwx Z (by rw[E]at c;exact c),?_⟩;refine ga z R σ H W ρ _ _ s hw λvs H1 W1 ds ρ1 G p q=>?_;obtain⟨d,hd,q⟩:=Qn q;obtain⟨fp,A⟩:=id p.sr;obtain⟨N,f,Y⟩:=A.at_ i d hd;have:N=v:=by rw[M]at f;cases f;rfl
  subst this;obtain⟨K,J⟩:=A.own i d hd O;obtain⟨C,B⟩:=p.own rfl;refine P H1 d ds N vs (fp i) G _ Q' Y K p.rep C (λa j U=>(B a j).2 (J a U)) q λu l ob e d' F' w y L I o re hk=>?_;have n:=J l w;refine k u _ (λa=>W1 a\/a∈F') e _ [] ⟨A.write hd O f w Uv ⟨ob,Qh,y⟩ L I (λa j=>?_),p.fr.write n (A.wd l n) Uv ⟨ob,Qh,y⟩ (λa j=>?_),(λh=>nomatch h),re,λ_=>⟨Df,λa m=>nomatch m⟩⟩ hk
  ·rcases o a j with h|h
   ·exact .inl h
   ·exact .inr ⟨(B a h).2,s.nr (B a h).1⟩
  ·rcases o a j with h|h
   ·exact .inl (J a h)
   ·exact .inr (B a h).1
end
section
variable {T:Tg}{id:String}
theorem Qfa{g:GM}(hm:MtD X id g)(pa:PlainAttrs T')(slot:Slot T' name id)(j:typeOf (.builtin id)=pure (.type "method_descriptor"))(n:AV X T m true (e::es) wr)
  (q:T.own i=true:=by rfl) (hN:X.N[i]? = some x:=by rfl) (l:Vis X.env.scope x:=by first|exact Ms rfl|exact Fg (Ms rfl)|exact Fg (Fg rfl)) (hd:(x==("__debug__":Str))=false:=by decide)
  (f:(x==("__classdict__":Str))=false:=by decide)
  (c:attributeBase (.Name x p) name X.env (eval (.Name x p) X.env)=eval (.Name x p) X.env:=by rfl)
  (d:((backTo cpos (starEach (e::es) X.env)).all (λx=>!x.1)&&(backToKw cpos (keywordEach [] X.env)).all (λx=>x.1.isSome)
   && decide ((e::es).length+([]:List Keyword).length+(if ([]:List Keyword).isEmpty then 0 else 1)<30))=true:=by rfl)
  (b:(apos.endLine==cpos.line)=true:=by rfl) (t:starEach (e::es) X.env=(false,eval e X.env)::starEach es X.env:=by rfl) (a:(backTo cpos (starEach es X.env)).any (·.1)=false:=by rfl) :
  EV X T true true (.Call (.Attribute (.Name x p) name apos) (e::es) [] cpos) (wMt i T' g wr):=by
 obtain⟨r,u,o⟩:=hm;obtain⟨ta,h,v⟩:=n;exact⟨_,Q1s pa slot j u (Uf hN l hd f) h c d b t a,λz R σ H W ρ Q Q' s hw k=>Qsz q o v s hw k⟩
theorem Qtc{g:GM}(hm:MtD X id g)(pa:PlainAttrs T')(slot:Slot T' name id)(e:typeOf (.builtin id)=pure (.type "method_descriptor"))
  (j:T.own i=true:=by rfl) (hN:X.N[i]? = some x:=by rfl) (f:Vis X.env.scope x:=by first|exact Ms rfl|exact Fg (Ms rfl)|exact Fg (Fg rfl)) (hd:(x==("__debug__":Str))=false:=by decide)
  (d:(x==("__classdict__":Str))=false:=by decide)
  (c:attributeBase (.Name x p) name X.env (eval (.Name x p) X.env)=eval (.Name x p) X.env:=by rfl) (b:(apos.endLine==cpos.line)=true:=by rfl) :
  EV X T true true (.Call (.Attribute (.Name x p) name apos) [] [] cpos) (wMt i T' g wNil):=by
 obtain⟨r,l,h⟩:=hm;refine⟨_,Qyd pa slot e l (Uf hN f hd d) c b,λz R σ H W ρ Q Q' s hw k=>?_⟩;exact Qsz (m:=false) (ta:=tNil) j h (λz R σ H W ρ Q Q' s hw k=>k [] H W [] ρ [] ⟨s,FrW.refl H W,λ_=>⟨Same.refl H,rfl,rfl⟩,.nil,λ_=>⟨Df,λa m=>nomatch m⟩⟩ hw) s hw k
def Qe8:GM
 | .lst xs,[d],k=>xs.length<sizeLine/\k .non (.lst (xs++[d]))
 |_,_,_=>False
theorem Qcn{g:Type}{F G:List g}(h:F.Nodup)(h':G.Nodup)(d:∀a∈G,a∉F):(F++G).Nodup :=
 Fl.mpr ⟨h,h',λa f b c e=>d b c (e ▸ f)⟩
theorem Um(h:H l=some ob)(hi:imm ob=false):ImmK H (upd H l ob'):=λb u e a=>by
 have:b≠l:=λz=>by rw[z,h]at e;cases e;rw[hi]at a;cases a
 rw[Qm this];exact e
theorem Reps.upd{K:Frag}(r:Reps K H ds xs F)(h:H l=some ob)(hi:imm ob=false)(c:l∉F):Reps K (L2.upd H l ob') ds xs F :=
 r.frame (Um h hi) λa b=>Qm λz=>c (z ▸ b)
theorem Rep.upd{K:Frag}{x:V}(r:Rep K H d x F)(h:H l=some ob)(hi:imm ob=false)(c:l∉F):Rep K (L2.upd H l ob') d x F :=
 r.frame (Um h hi) λa b=>Qm λz=>c (z ▸ b)
theorem RepK.upd{K:Frag}{ds:List (Key×D)}{xs:List (Key×V)}(r:RepK K H ds xs F)(h:H l=some ob)(hi:imm ob=false)(c:l∉F):RepK K (L2.upd H l ob') ds xs F :=
 r.frame (Um h hi) λa b=>Qm λz=>c (z ▸ b)
theorem RepT.upd{K:Frag}{ds:List (List Key×D)}{xs:List (List Key×V)}(r:RepT K H ds xs F)(h:H l=some ob)(hi:imm ob=false)(c:l∉F):RepT K (L2.upd H l ob') ds xs F :=
 r.frame (Um h hi) λa b=>Qm λz=>c (z ▸ b)
theorem Qna:MtD X "list.append" Qe8:=by
 refine⟨_,Qm6,λH d ds v xs F G k Q r nd n c dis g q=>?_⟩;cases d with
 | lst es=>
  cases ds with
  |nil=>exact(show False from g).elim
  | cons d ds=>
   cases ds with
   |cons _ _=>exact(show False from g).elim
   | nil=>
    obtain⟨u,rfl,rd⟩:=n.at1;cases r with
    | @lst l ys _ F e i=>
     obtain⟨hz,g⟩:=g;obtain⟨f,nd⟩:=Bf.mp nd;have j:l∉G:=λh=>dis l h An;refine⟨l,ys,u,rfl,rfl,e,by rw[i.length];exact hz,?_⟩;refine q .non l _ .non _ (l::(F++G)) An rfl (.lst Qh ((i.upd e rfl f).snoc (rd.upd e rfl j))) (Bf.mpr ⟨λh=>(Bx.mp h).elim f j,Qcn nd c λa b m=>dis a b (Am _ m)⟩) (λa b=>?_) .non g;rcases Ay.mp b with rfl|b
     ·exact .inl An
     ·rcases Bx.mp b with b|b
      ·exact .inl (Am _ b)
      ·exact .inr b
 |_=>exact(show False from g).elim
def Qj4:GM
 | .lst xs,[.int i],k=>-(2 ^ 63)<=i/\i<2 ^ 63/\oget (seqIndex? i xs.length) λj=>oget xs[j]? λd=>d.pure=true/\k d (.lst (xs.eraseIdx j))
 |_,_,_=>False
theorem sub3{a:Type}{F A B C:List a}(h:F=A++B++C):(A++C).Sublist F:=by
 rw[h,Me];exact S8 (Sq _) (Fe _ _)
theorem Qjr:MtD X "list.pop" Qj4:=by
 refine⟨_,Qqt,λH d ds v xs F G k Q r nd z o dis g q=>?_⟩;cases d with
 | lst es=>
  cases ds with
  |nil=>exact(show False from g).elim
  | cons d ds=>
   cases ds with
   |cons _ _=>cases d<;>exact(show False from g).elim
   | nil=>
    cases d with
    | int i=>
     obtain⟨u,rfl,rd⟩:=z.at1;cases rd;cases r with
     | @lst l ys _ F e n=>
      obtain⟨h1,h2,g⟩:=g;obtain⟨j,s,g⟩:=Qn g;obtain⟨d,hd,E,g⟩:=Qn g;obtain⟨p,nd⟩:=Bf.mp nd;obtain⟨y,A,B,C,D,t,m,x,w⟩:=n.split hd;obtain⟨I,m⟩:=m.pure E;have b:=sub3 t;have c:l∉A++C:=λh=>p (b.subset h);refine⟨l,ys,i,j,y,rfl,rfl,e,h1,h2,by rw[n.length];exact s,D,?_⟩;refine q y l _ d _ (l::(A++C)) An rfl (.lst Qh ?_) (Bf.mpr ⟨c,nd.sublist b⟩) (λa f=>?_) (m.upd e rfl (λh=>nomatch h)) g
      ·rw[Qj6,Qj6];exact(x.append w).upd e rfl c
      ·rcases Ay.mp f with rfl|f
       ·exact .inl An
       ·exact .inl (Am _ (b.subset f))
    |_=>exact(show False from g).elim
 |_=>exact(show False from g).elim
end
def spR(K:Frag)(g:GA):Sp:=λvs H Q _=>∃(ds:List D)(F:List Addr)(k:D->Prop),Reps K H ds vs F/\g ds k/\∀v H' d F',Fin K H H' d v F'->k d->Q v H'
abbrev GI:=List D->(D->D->Prop)->Prop
noncomputable def spI(K:Frag)(p:Nat)(g:GI):Sp:=λvs H Q _=>∃(ds:List D)(a:Addr)(k:D->D->Prop),Reps K H ds vs [a]/\vs[p]? = some (.ref a)/\g ds k /\
 ∀v H' d d' F',Rep K H' d' (.ref a) [a]->Rep K H' d v F'->F'.Nodup->(∀b∈F',H b=none)->(∀b o,H b=some o->b≠a->H' b=some o)->k d d'->Q v H'
def Qbc:D->Bool
 | .lst xs=>Qj xs
 | .dik kvs=>kvs.all λa=>a.2.pure
 | .dit kvs=>kvs.all λa=>a.2.pure
 | .dmx _=>true
 |_=>false
theorem RepK.pure{K:Frag}{H:Hp}:∀{ds:List (Key×D)} {xs:List (Key×V)} {F:List Addr},RepK K H ds xs F->(ds.all λa=>a.2.pure)=true->F=[]
 | [],_,_,r,_=>by cases r;rfl
 | d::ds,_,_,r,h=>by
  rw[A0c,B6]at h;cases r with
  |cons p r=>rw[(p.pure h.1).1,RepK.pure r h.2];rfl
theorem RepT.pure{K:Frag}{H:Hp}:∀{ds:List (List Key×D)} {xs:List (List Key×V)} {F:List Addr},RepT K H ds xs F->(ds.all λa=>a.2.pure)=true->F=[]
 | [],_,_,r,_=>by cases r;rfl
 | d::ds,_,_,r,h=>by
  rw[A0c,B6]at h;cases r with
  |cons p r=>rw[(p.pure h.1).1,RepT.pure r h.2];rfl
theorem Rep.flat1{K:Frag}(r:Rep K H d v F)(h:Qbc d=true):∃a,v=.ref a/\F=[a]:=by
 cases r with
 |lst e r=>exact⟨_,rfl,by rw[(r.pure (by simpa[Qbc]using h)).1]⟩
 |dik e r=>exact⟨_,rfl,by rw[r.pure (by simpa[Qbc]using h)]⟩
 |dit e r=>exact⟨_,rfl,by rw[r.pure (by simpa[Qbc]using h)]⟩
 |dmx e _ _ _=>exact⟨_,rfl,rfl⟩
 |_=>simp[Qbc]at h
section
variable {T:Tg}{k:Nat}
theorem Qv8(F:FnOk X.prog X.w X.K X.mg X.base CX0 k f fd ps (spR X.K g))(j:Room k X.A)(hm:X.mg x=some (.ref f))(c:keepIn X.K (.ref f)=true)(l:Qhi X.K fd ps [])(i:AV X T m o (e::es) wr)(hg:Gl X x:=by rfl)
  (h:(x==("__debug__":Str))=false:=by decide) (n:starEach (e::es) X.env=(false,eval e X.env)::starEach es X.env:=by rfl) (b:(backTo pos (starEach es X.env)).any (·.1)=false:=by rfl) :
  EV X T m true (.Call (.Name x p) (e::es) [] pos) (Qp g wr):=by
 obtain⟨ta,pa,r⟩:=i;refine⟨_,Qmt F j hg hm c l .nil Qye pa h n b,λz R σ H W ρ Q Q' s hw k=>?_⟩;refine r z R σ H W ρ _ _ s hw λvs H1 W1 ds ρ1 F p q=>?_;refine⟨ds,F,_,by rw[Dz];exact p.rep,q,λv H' d F' a c=>k v H' W1 d ρ1 F' (Post.fin p.sr p.fr p.calm a.same a.rep a.nd a.new) c⟩
abbrev WI:=Env->(List D->List D->Env->Prop)->Prop
def AI(X:Cx)(T:Tg)(m:Bool)(i p:Nat)(es:List Expr)(w:WI):Prop :=
 ∃ta,PA X es ta/\∀(z:Nat->V)(R:Addr->Prop)(σ:St)(H:Hp)(W:Addr->Prop)(ρ:Env)(Q:List D->List D->Env->Prop)(Q':List V->Hp->Prop),SR X.K T z R H W σ ρ->w ρ Q ->
  (∀v xs ys H' W' pre a b,PostT X.K T z R m H W σ ρ H' W' b->σ[i]? = some (some v)->Reps X.K H' pre xs []->Reps X.K H' a ys []->pre.length=p->Q pre a b->Q' (xs++v::ys) H')->ta σ H Q'
def Jd(i:Nat)(wr:WA):WI:=λρ Q=>(look ρ i).isSome=true/\wr ρ λds a=>Qj ds=true/\Q [] ds a
theorem Q5(f:AV X T m o es wr)(hN:X.N[i]? = some x:=by rfl)(c:Vis X.env.scope x:=by first|exact Ms rfl|exact Fg (Ms rfl)|exact Fg (Fg rfl))(hd:(x==("__debug__":Str))=false:=by decide)
  (b:(x==("__classdict__":Str))=false:=by decide) (g:starEach (.Name x p::es) X.env=(false,eval (.Name x p) X.env)::starEach es X.env:=by rfl):AI X T m i 0 (.Name x p::es) (Jd i wr):=by
 obtain⟨ta,pa,j⟩:=f;refine⟨_,Qcj (Uf hN c hd b) pa g,λz R σ H W ρ Q Q' s hw k=>?_⟩;obtain⟨h1,hw⟩:=hw;obtain⟨d,e⟩:=M6.mp h1;obtain⟨fp,h⟩:=id s;obtain⟨v,a,_⟩:=h.at_ i d e;refine⟨v,a,j z R σ H W ρ _ _ s hw λvs H1 W1 ds ρ1 F p q=>?_⟩;exact k v [] vs H1 W1 [] ds ρ1 ⟨p.sr,p.fr,p.calm⟩ a .nil (p.rep.pure q.1).2 rfl q.2
def Qs(i:Nat)(g:GI)(wi:WI):WE:=λρ Q=>wi ρ λpre a ρ1=>oget (look ρ1 i) λb=>Qbc b=true/\g (pre++b::a) λd d'=>Q d (ρ1.set i (some d'))
theorem Qq5{g:GI}{wi:WI}(F:FnOk X.prog X.w X.K X.mg X.base CX0 k f fd ps (spI X.K q g))(Z:Room k X.A)(hm:X.mg x=some (.ref f))(D:keepIn X.K (.ref f)=true)(c:Qhi X.K fd ps [])(O:AI X T m i q (e::es) wi)
  (K:T.own i=true:=by rfl) (hg:Gl X x:=by rfl)
  (I:(x==("__debug__":Str))=false:=by decide) (U:starEach (e::es) X.env=(false,eval e X.env)::starEach es X.env:=by rfl) (E:(backTo pos (starEach es X.env)).any (·.1)=false:=by rfl) :
  EV X T true true (.Call (.Name x p) (e::es) [] pos) (Qs i g wi):=by
 obtain⟨ta,pa,ga⟩:=O;refine⟨_,Qmt F Z hg hm D c .nil Qye pa I U E,λz R σ H W ρ Q Q' s hw k=>?_⟩;refine ga z R σ H W ρ _ _ s hw λv xs ys H1 W1 pre r ρ1 p L J rq hl q=>?_;obtain⟨B,hd,P,q⟩:=Qn q;obtain⟨fp,w⟩:=id p.sr;obtain⟨S,o,A⟩:=w.at_ i B hd;have:S=v:=by rw[L]at o;cases o;rfl
 subst this;obtain⟨a,rfl,y⟩:=A.flat1 P;rw[y]at A;have sw:=(w.own i B hd K).2;have l:W1 a:=sw a (by rw[y];exact Aw.mpr rfl);refine⟨pre++B::r,a,_,?_,?_,q,λv H' d d' F' t rd nd new kp D=>?_⟩
 ·rw[Dz];have:=J.append (.cons A rq);simpa using this
 ·rw[Dz];have hx:=J.length;rw[Nq (by lia),show _-xs.length=0 by lia];rfl
 ·obtain⟨M,G,V⟩:=w.wd a l;have j:∃ob,H' a=some ob/\imm ob=false:=t.dom a (Aw.mpr rfl);have C:([a]:List Addr).Nodup:=by simp
  have Y:=w.write (H':=H') (d':=d') (F':=[a]) hd K o (by rw[y];exact Aw.mpr rfl) (λb u e n=>kp b u e n) j t C (λb c=>.inl (by rw[y];exact c));have N:=p.fr.write (H':=H') (F':=[a]) l ⟨M,G,V⟩ (λb u e n=>kp b u e n) j (λb c=>.inl (by rw[Aw.mp c];exact l));refine k v H' _ d _ F' ⟨Y,N,(λh=>nomatch h),rd,λ_=>⟨nd,λb c=>⟨p.fr.dom b (new b c),λhw=>?_⟩⟩⟩ D;rcases hw with hw|hw
  ·exact p.sr.nw (new b c) hw
  ·rw[Aw.mp hw]at c;rw[new a c]at G;cases G
abbrev WL:=Env->(List D->Env->Prop)->Prop
def JD(K:Frag)(J:It)(H:Hp)(W:Addr->Prop)(ds:List D):Prop :=
 ∀(i:Nat)(H1:Hp)(W1:Addr->Prop),FrW H W H1 W1->(ds.length<=i->J.stop i H1)/\∀d,ds[i]? = some d->J.go i H1/\∀v H2,J.yld i H1 v H2->Same H1 H2/\∃F,Rep K H2 d v F/\∀a∈F,¬W1 a
def wz(pr:Bool)(W:Addr->Prop):Addr->Prop:=λa=>pr=true/\W a
def IV(X:Cx)(T:Tg)(m pr:Bool)(tg iter:Expr)(w:WL):Prop :=
 ∃wi,PI X tg iter wi/\∀(z:Nat->V)(R:Addr->Prop)(σ:St)(H:Hp)(W:Addr->Prop)(ρ:Env)(Q:List D->Env->Prop)(RR:It->Hp->Prop),SR X.K T z R H W σ ρ->w ρ Q ->
  (∀J H' W' ds a,PostT X.K T z R m H W σ ρ H' W' a->JD X.K J H' (wz pr W') ds->Q ds a->RR J H')->wi σ H RR
end
section
variable {T:Tg}{k:Nat}
theorem Qsu{l:Expr}{tl:TE}(i:PE X l tl):PI X tg l (λσ H R=>tl σ H λx H1=>∃a,x=.ref a/\(((∃xs,SqL X.K H1 a xs)/\R (Itl X.K a) H1)\/((∃xs,SqT X.K H1 a xs)/\R (Itt X.K a) H1))):=by
 intro pins s σ H R I h;refine thn (i pins s σ H _ I h) λv c n=>?_;obtain⟨x,H1,d,j,m⟩:=n;obtain⟨a,e,q⟩:=m;subst e;cases j;rcases q with⟨⟨xs,g⟩,q⟩|⟨⟨xs,g⟩,q⟩
 ·obtain⟨its,k,p,hz⟩:=d.list g;refine wpAny_pyIter_list p.isList ?_;refine⟨c.heap.objs.size,[c.heap.objs.size],_,_,H1,rfl,d.kept (t':=c.toks) λb o e=>Ao _ e,Qls a _,⟨_,Be _ rfl,rfl,rfl⟩,λb f=>?_,q⟩;have e:b=c.heap.objs.size:=by simpa using f
  subst e;exact d.fpOk (At _) (d.hok.fresh (At _))
 ·obtain⟨its,k,p,hz⟩:=d.tuple g;refine Rk (show c.heap.IsTuple a its.toArray from p) ?_;refine⟨c.heap.objs.size,[c.heap.objs.size],_,_,H1,rfl,d.kept (t':=c.toks) λb o e=>Ao _ e,Qkn a _,⟨_,Be _ rfl,rfl,rfl⟩,λb f=>?_,q⟩;have e:b=c.heap.objs.size:=by simpa using f
  subst e;exact d.fpOk (At _) (d.hok.fresh (At _))
def V6(w:WE):WL:=λρ Q=>w ρ λd a=>match d with
 | .tup ds=>Qj ds=true/\Q ds a
 | .lst ds=>Q ds a
 | .kc (.tup ks)=>Q (ks.map kcD) a
 |_=>False
theorem Qzo{K:Frag}{W:Addr->Prop}{a:Addr}(b:∀H,SqT K H a xs)(g:AreKC K ks xs):JD K (Itt K a) H W (ks.map kcD):=by
 intro i H2 W2 f;have r:Reps K H2 (ks.map kcD) xs []:=g.reps;refine⟨λhi=>⟨xs,b H2,by rw[r.length];exact hi⟩,λd hd=>?_⟩;obtain⟨x,B,c,j,h⟩:=r.get hd;refine⟨⟨xs,x,b H2,c⟩,λv k y=>?_⟩;obtain⟨rfl,y⟩:=y;have:=y xs (b _);rw[c]at this;cases this;exact⟨Same.refl _,B,j,λa e=>nomatch h.subset e⟩
theorem V5(h:EV X T m o e w):IV X T m o tg e (V6 w):=by
 obtain⟨te,U,M⟩:=h;refine⟨_,Qsu U,λz R σ H W ρ Q RR s hw k=>?_⟩;refine M z R σ H W ρ _ _ s hw λv H1 W1 d ρ1 F p q=>?_;cases d with
 | tup ds=>
  obtain⟨V,q⟩:=q;obtain⟨Y,G⟩:=p.rep.pure (by simpa[D.pure]using V);cases G with
  | @tup a xs _ _ t r=>
   refine⟨a,rfl,.inr ⟨⟨xs,.of t⟩,k _ H1 W1 ds ρ1 ⟨p.sr,p.fr,p.calm⟩ (λi H2 W2 f=>?_) q⟩⟩;have g:H2 a=some (.tup xs):=f.imm _ _ t rfl;refine⟨λhi=>⟨xs,.of g,by rw[r.length];exact hi⟩,λd hd=>?_⟩;obtain⟨x,B,l,u,n⟩:=r.get hd;refine⟨⟨xs,x,.of g,l⟩,λv O y=>?_⟩;obtain⟨rfl,y⟩:=y;have:=y xs (.of g);rw[l]at this;cases this;exact⟨Same.refl _,B,u.keep f (λa A=>(nomatch n.subset A)),(λa A=>(nomatch n.subset A))⟩
 | lst ds=>
  obtain⟨P,p2,S,L,N⟩:=p;cases L with
  | @lst a xs _ F t r=>
   refine ⟨a,rfl,.inl ⟨⟨xs,.of t⟩,k _ H1 W1 ds ρ1 ⟨P,p2,S⟩ (λi H2 W2 f=>?_) q⟩⟩;have E:∀b∈a::F,¬wz o W1 b:=λb j hw=>by
    obtain⟨h1,h2⟩:=hw;exact((N h1).2 b j).2 h2
   have g:H2 a=some (.lst xs):=f.keep _ _ t (E a An);refine⟨λhi=>⟨xs,.of g,by rw[r.length];exact hi⟩,λd hd=>?_⟩;obtain⟨x,B,l,u,n⟩:=r.get hd;refine⟨⟨xs,x,.of g,l⟩,λv O y=>?_⟩;obtain⟨rfl,y⟩:=y;have:=y xs (.of g);rw[l]at this;cases this;refine⟨Same.refl _,B,u.keep f λb j=>E b (Am _ (n.subset j)),λb j hw=>?_⟩;have C:b∈a::F:=Am _ (n.subset j);rcases f.new b hw with h|h
   ·exact E b C h
   ·obtain⟨ob,J,_⟩:=u.dom b j;rw[h]at J;cases J
 | kc c=>
  cases c with
  | tup ks=>
   obtain⟨-,G⟩:=p.rep.pure (by rw[D.pure]);cases G with
   | kc h=>
    obtain⟨a,xs,rfl,I,K⟩:=h.sqT;exact⟨a,rfl,.inr ⟨⟨xs,I H1⟩,k _ H1 W1 (ks.map kcD) ρ1 ⟨p.sr,p.fr,p.calm⟩ (Qzo I K) q⟩⟩
  |_=>exact(show False from q).elim
 |_=>exact q.elim
def rngD(lo:Int)(n:Nat):List D:=(Aq n).map λ(i:Nat)=>.int (lo+(i:Int))
theorem Qqx{K:Frag}{W:Addr->Prop}{lo:Int}:JD K (Itr lo n) H W (rngD lo n):=by
 intro i H1 W1 f;have c:(rngD lo n).length=n:=by simp[rngD]
 refine⟨λh=>by rw[c]at h;exact h,λd hd=>?_⟩;have hi:i<n:=by have:=(Au.mp hd).1;rwa [c]at this
 have b:d=.int (lo+(i:Int)):=by
  simp only[rngD,Bh,Nn hi,Iz,Nj]at hd;exact hd.symm
 refine⟨hi,λv H2 y=>?_⟩;obtain⟨rfl,rfl⟩:=y;exact⟨Same.refl _,[],by rw[b];exact .int _,λa m=>nomatch m⟩
def Qhl(wr:WA):WL:=λρ Q=>wr ρ λds a=>match ds with
 | [.int j]=>-(2 ^ 62)<=j/\j<2 ^ 62/\Q (rngD 0 j.toNat) a
 |_=>False
theorem Uk(hm:X.mg "range" = none)(c:AV X T m o [a] wr)(hg:Gl X "range":=by rfl)(d:starEach [a] X.env=[(false,eval a X.env)]:=by rfl):IV X T m true tg (.Call (.Name "range" p) [a] [] pos) (Qhl wr):=by
 obtain ⟨ta,pa,f⟩:=c;refine⟨_,Qmn hg hm pa d,λz R σ H W ρ Q RR s hw k=>?_⟩;refine f z R σ H W ρ _ _ s hw λvs H1 W1 ds ρ1 F p q=>?_;obtain⟨j,rfl⟩:∃j,ds=[D.int j]:=by
  clear p;cases ds with
  |nil=>exact(show False from q).elim
  | cons b e=>
   cases e with
   | nil=>
    cases b with
    |int j=>exact⟨j,rfl⟩
    |_=>exact(show False from q).elim
   |cons _ _=>cases b<;>exact(show False from q).elim
 obtain⟨v,rfl,rd⟩:=p.rep.at1;cases rd;exact⟨j,rfl,q.1,q.2.1,k _ H1 W1 _ ρ1 ⟨p.sr,p.fr,p.calm⟩ Qqx q.2.2⟩
def Gb:Nat->List D->List D
 |_,[]=>[]
 |n,d::r=>.tup [.int (n:Int),d]::Gb (n+1) r
theorem Us:∀{ds:List D}{n i:Nat},(Gb n ds)[i]? = ds[i]?.map λd=>.tup [.int ((n+i:Nat):Int),d]
 | [],_,_=>by simp[Gb]
 |d::r,n,0=>by simp[Gb]
 | d::r,n,i+1=>by
  simp only[Gb,Dh];rw[Us (ds:=r) (n:=n+1) (i:=i),show n+1+i=n+(i+1) by lia]
theorem Zd:∀{ds:List D}{n:Nat},(Gb n ds).length=ds.length
 | [],_=>rfl
 |d::r,n=>by simp[Gb,Zd]
def Qtr(wr:WA):WL:=λρ Q=>wr ρ λds a=>match ds with
 | [.tup es]=>Qj es=true/\Q (Gb 0 es) a
 |_=>False
theorem Qvv(hm:X.mg "enumerate" = none)(l:AV X T m o [a] wr)(hg:Gl X "enumerate":=by rfl)(n:starEach [a] X.env=[(false,eval a X.env)]:=by rfl):IV X T m true (.Tuple ts kt pt) (.Call (.Name "enumerate" p) [a] [] pos) (Qtr wr):=by
 obtain ⟨ta,pa,I⟩:=l;refine⟨_,Qu5 hg hm pa n,λz R σ H W ρ Q RR s hw k=>?_⟩;refine I z R σ H W ρ _ _ s hw λvs H1 W1 ds ρ1 F p q=>?_;obtain⟨es,rfl⟩:∃es,ds=[D.tup es]:=by
  clear p;cases ds with
  |nil=>exact(show False from q).elim
  | cons h A=>
   cases A with
   | nil=>
    cases h with
    |tup es=>exact⟨es,rfl⟩
    |_=>exact(show False from q).elim
   |cons _ _=>cases h<;>exact(show False from q).elim
 obtain⟨E,q⟩:=q;obtain⟨v,rfl,rd⟩:=p.rep.at1;obtain⟨L,rd⟩:=rd.pure (by simpa[D.pure]using E);cases rd with
 | @tup a xs _ _ j r=>
  refine⟨a,rfl,⟨xs,.of j⟩,k _ H1 W1 _ ρ1 ⟨p.sr,p.fr,p.calm⟩ (λi H2 W2 f=>?_) q⟩;have c:H2 a=some (.tup xs):=f.imm _ _ j rfl;refine⟨λhi=>⟨xs,.of c,by rw[r.length];rwa [Zd]at hi⟩,λd hd=>?_⟩;rw[Us]at hd;cases b:es[i]? with
  |none=>rw[b]at hd;cases hd
  | some d'=>
   rw[b]at hd;obtain⟨x,B,g,w,u⟩:=r.get b;refine⟨⟨xs,x,.of c,g⟩,λv J y=>?_⟩;obtain⟨K,t,h1,rfl,e,rfl⟩:=y xs (.of c);rw[g]at h1;cases h1;have C:B=[]:=Fw.mp u;subst C;refine⟨Qg e,[],?_,λa m=>nomatch m⟩;cases hd;rw[Bp];exact .tup Qh (.cons (F:=[]) (G:=[]) (.int _) (Reps.one ((w.keep f λa m=>nomatch m).same (Qg e))))
end
structure EndsP where
 nx:Env->Prop
 rt:D->Env->Prop
 bk:Env->Prop:=λ_=>False
 ct:Env->Prop:=λ_=>False
 xc:D->Env->Prop:=λ_ _=>False
abbrev WS:=EndsP->Env->Prop
structure Lk(K:Frag)(T:Tg)(z:Nat->V)(H:Hp)(W:Addr->Prop)(P:EndsP)(E:Ends):Prop where
 nx:∀R c H' W' b,SR K T z R H' W' c b->FrW H W H' W'->P.nx b->E.nx c H'
 bk:∀R c H' W' b,SR K T z R H' W' c b->FrW H W H' W'->P.bk b->E.bk c H'
 ct:∀R c H' W' b,SR K T z R H' W' c b->FrW H W H' W'->P.ct b->E.ct c H'
 rt:∀R v c H' W' b d F,SR K T z R H' W' c b->FrW H W H' W'->Rep K H' d v F->F.Nodup->(∀a∈F,¬W' a/\(W a\/H a=none))->P.rt d b->E.rt v H'
 xc:∀R c H' W' b d,SR K T z R H' W' c b->FrW H W H' W'->P.xc d b->T.xe d c H'
theorem Lk.step{K:Frag}{T:Tg}{W:Addr->Prop}{P:EndsP}{E:Ends}(l:Lk K T z H W P E)(f:FrW H W H1 W1):Lk K T z H1 W1 P E where
 nx:=λR b H' W' c s g q=>l.nx R b H' W' c s (f.trans g) q
 bk:=λR b H' W' c s g q=>l.bk R b H' W' c s (f.trans g) q
 ct:=λR b H' W' c s g q=>l.ct R b H' W' c s (f.trans g) q
 rt:=λR v b H' W' c d F s g r nd k q=>l.rt R v b H' W' c d F s (f.trans g) r nd (λa e=>⟨(k a e).1,by
  rcases(k a e).2 with h|h
  ·exact f.new a h
  ·exact .inr (f.dom a h)⟩) q
 xc:=λR b H' W' c d s g q=>l.xc R b H' W' c d s (f.trans g) q
def SV(X:Cx)(T:Tg)(st:Stmt)(w:WS):Prop :=
 ∃ts,PS X st ts/\∀(z:Nat->V)(R:Addr->Prop)(σ:St)(H:Hp)(W:Addr->Prop)(ρ:Env)(P:EndsP)(E:Ends),SR X.K T z R H W σ ρ->w P ρ->Lk X.K T z H W P E->ts E σ H
def SVs(X:Cx)(T:Tg)(st:List Stmt)(w:WS):Prop :=
 ∃ts,PSs X st ts/\∀(z:Nat->V)(R:Addr->Prop)(σ:St)(H:Hp)(W:Addr->Prop)(ρ:Env)(P:EndsP)(E:Ends),SR X.K T z R H W σ ρ->w P ρ->Lk X.K T z H W P E->ts E σ H
section
variable {T:Tg}{rest:List Stmt}{ws wu:WS}
def Ve:WS:=λP ρ=>P.nx ρ
def wSeq(w u:WS):WS:=λP ρ=>w { P with nx:=u P } ρ
theorem Zu:SVs X T [] Ve:=⟨_,Quz,λz R σ H W ρ P E s hw l=>l.nx R σ H W ρ s (FrW.refl H W) hw⟩
theorem Ql(h:SV X T st ws):SVs X T [st] ws:=by
 obtain⟨t,pt,g⟩:=h;exact⟨_,Quy pt,g⟩
theorem Qe(h:SV X T st ws)(c:SVs X T rest wu):SVs X T (st::rest) (wSeq ws wu):=by
 obtain⟨t,pt,g⟩:=h;obtain⟨u,i,e⟩:=c;refine⟨_,Qp5 pt i,λz R σ H W ρ P E s hw l=>g z R σ H W ρ _ _ s hw ⟨λd a H' W' b s' f q=>e z d a H' W' b P E s' q (l.step f),l.bk,l.ct,l.rt,l.xc⟩⟩
def Gk(w:WE):WS:=λP ρ=>w ρ λ_ a=>P.nx a
theorem Gn(c:EV X T m o e w)(a:swapsWith e none pos.line X.env=pure false:=by rfl):SV X T (.Expr e pos) (Gk w):=by
 obtain⟨te,f,b⟩:=c;exact⟨_,Qu0 f a,λz R σ H W ρ P E s hw l=>b z R σ H W ρ _ _ s hw λv H1 W1 d ρ1 F p q=>l.nx R σ H1 W1 ρ1 p.sr p.fr q⟩
def wRet(w:WE):WS:=λP ρ=>w ρ λd a=>P.rt d a
theorem Jj(f:EV X T m true e w):SV X T (.Return (some e) pos) (wRet w):=by
 obtain⟨te,g,c⟩:=f;exact⟨_,Qsr g,λz R σ H W ρ P E s hw l=>c z R σ H W ρ _ _ s hw λv H1 W1 d ρ1 F p q=>l.rt R v σ H1 W1 ρ1 d F p.sr p.fr p.rep (p.own rfl).1 (λa b=>⟨((p.own rfl).2 a b).2,.inr ((p.own rfl).2 a b).1⟩) q⟩
def Qab(i:Nat):WS:=λP ρ=>oget (look ρ i) λd=>P.rt d (ρ.set i none)
theorem Qae(m:T.own i=true:=by rfl)(hN:X.N[i]? = some x:=by rfl)(u:Vis X.env.scope x:=by first|exact Ms rfl|exact Fg (Ms rfl)|exact Fg (Fg rfl))(hd:(x==("__debug__":Str))=false:=by decide)
  (n:(x==("__classdict__":Str))=false:=by decide):SV X T (.Return (some (.Name x p)) pos) (Qab i):=by
 refine ⟨_,Qsr (Uf hN u hd n),λz R σ H W ρ P E s hw l=>?_⟩;obtain⟨d,g,q⟩:=Qn hw;obtain⟨fp,c⟩:=s;obtain⟨v,h1,h2⟩:=c.at_ i d g;have key:∀j e,look (ρ.set i none) j=some e->j≠i/\look ρ j=some e:=λj e h=>by
  rw[Xp]at h
  split at h
  ·cases h
  ·refine⟨λz=>?_,h⟩;subst z;rename_i w;exact w ⟨rfl,Qe2 g⟩
 refine⟨v,h1,l.rt R v σ H (λa=>W a/\a∉fp i) (ρ.set i none) d (fp i) ⟨fp,?_⟩ ?_ h2 (c.own i d g m).1 (λa f=>⟨λh=>h.2 f,.inl ((c.own i d g m).2 a f)⟩) q⟩
 ·refine ⟨by rw[Nl];exact c.len,λa h=>c.wd a h.1,λj e h=>c.at_ j e (key j e h).2,λj e h t=>⟨(c.own j e (key j e h).2 t).1,λa f=>⟨(c.own j e (key j e h).2 t).2 a f,λo=>c.dis j i e d (key j e h).2 g t m (key j e h).1 a f o⟩⟩,
   λj e h t=>c.ro j e (key j e h).2 t,λa h=>c.wr a h.1,c.rd,λj k e r h h' t t'=>c.dis j k e r (key j e h).2 (key k r h').2 t t',c.fix⟩
 ·exact⟨λb ob e _=>e,λb e=>e,λb ob e _=>e,λb h=>.inl h.1⟩
theorem SR0.bindE{K:Frag}{W:Addr->Prop}(s:SR0 K T z R H W σ ρ fp)(y:i∉T.io)(r:Rep K H d v F)(nd:F.Nodup)(q:∀a∈F,¬W a/\¬R a) :
  SR K T z (λa=>R a\/(T.own i=false/\a∈F)) H (λa=>W a\/(T.own i=true/\a∈F)) (σ.set i (some v)) (ρ.set i (some d)):=by
 refine⟨λj=>if j=i then F else fp j,?_,?_,?_,?_,?_,?_,?_,?_,?_⟩
 ·rw[Nl,Nl];exact s.len
 ·intro a f;rcases f with f|⟨_,f⟩
  ·exact s.wd a f
  ·exact r.dom a f
 ·intro j e c;rw[Xp]at c
  split at c
  ·rename_i h;obtain⟨rfl,x⟩:=h;cases c;exact⟨v,by rw[Ri (by rw[← s.len];exact x)],by rw[if_pos rfl];exact r⟩
  ·rename_i h;obtain⟨u,h1,h2⟩:=s.at_ j e c;have b:j≠i:=λz=>h ⟨z,by rw[← z];exact Qe2 c⟩;exact⟨u,by rw[Mh (Ra b)];exact h1,by rw[if_neg b];exact h2⟩
 ·intro j e c l;by_cases b:j=i
  ·subst b;simp only[if_pos];exact⟨nd,λa h=>.inr ⟨l,h⟩⟩
  ·rw[Qt b]at c;simp only[if_neg b];exact⟨(s.own j e c l).1,λa h=>.inl ((s.own j e c l).2 a h)⟩
 ·intro j e c l;by_cases b:j=i
  ·subst b;simp only[if_pos];exactλa h=>.inr ⟨l,h⟩
  ·rw[Qt b]at c;simp only[if_neg b];exactλa h=>.inl (s.ro j e c l a h)
 ·intro a f g;rcases f with f|⟨t,f⟩
  ·rcases g with g|⟨_,g⟩
   ·exact s.wr a f g
   ·exact(q a g).1 f
  ·rcases g with g|⟨t',g⟩
   ·exact(q a f).2 g
   ·rw[t]at t';cases t'
 ·intro a g;rcases g with g|⟨_,g⟩
  ·exact s.rd a g
  ·exact r.dom a g
 ·intro j k e C c w B A p a f m;by_cases b:j=i
  ·subst b;have o:k≠j:=λz=>p z.symm;rw[Qt o]at w;simp only[if_pos,if_neg o]at f m;exact(q a f).1 ((s.own k C w A).2 a m)
  ·rw[Qt b]at c;simp only[if_neg b]at f;by_cases n:k=i
   ·subst n;simp only[if_pos]at m;exact(q a m).1 ((s.own j e c B).2 a f)
   ·rw[Qt n]at w;simp only[if_neg n]at m;exact s.dis j k e C c w B A p a f m
 ·intro j c;have b:j≠i:=λz=>y (z ▸ c);rw[Mh (Ra b)];exact s.fix j c
theorem SR0.bind{K:Frag}{W:Addr->Prop}(s:SR0 K T z R H W σ ρ fp)(b:i∉T.io)(r:Rep K H d v F)(nd:F.Nodup)(e:∀a∈F,¬W a/\¬R a) :
  ∃c,SR K T z c H (λa=>W a\/(T.own i=true/\a∈F)) (σ.set i (some v)) (ρ.set i (some d)):=⟨_,s.bindE b r nd e⟩
def wSet(i:Nat)(w:WE):WS:=λP ρ=>w ρ λd a=>P.nx (a.set i (some d))
theorem Qe9{W:Addr->Prop}{G:Addr->Prop}(f:FrW H W H' W')(n:∀a,G a->H a=none):FrW H W H' (λa=>W' a\/G a) :=
 ⟨f.keep,f.dom,f.imm,λb h=>h.elim (f.new b) λh=>.inr (n b h)⟩
theorem Qy(u:EV X T m true e w)(hN:X.N.Nodup)(hi:X.N[i]? = some x:=by rfl)(b:i∉T.io:=by decide)(o:Loc X.env.scope x:=by first|exact Ms rfl|exact Fg rfl)(k:swapsWith e (some (.Name x pos')) pos.line X.env=pure false:=by rfl)
  (g:X.fn x=true\/X.env.scope.names.lookup x=some .local:=by first|exact .inl rfl|exact .inr rfl|assumption):SV X T (.Assign [.Name x pos'] e pos) (wSet i w):=by
 obtain⟨te,y,r⟩:=u;refine⟨_,Qx4 hN hi o y k g,λz R σ H W ρ P E s hw l=>r z R σ H W ρ _ _ s hw λv H1 W1 d ρ1 F p q=>?_⟩;obtain⟨fp,j⟩:=p.sr;obtain⟨nd,c⟩:=p.own rfl;obtain⟨n,t⟩:=j.bind (i:=i) b p.rep nd (λa f=>⟨(c a f).2,s.nr (c a f).1⟩);exact l.nx n _ H1 _ _ t (Qe9 p.fr λa h=>(c a h.2).1) q
theorem Qt0(r:∃te,PS X (.Assign [.Name x pos'] e pos) (tAsg te (Qgu i))/\∀(z:Nat->V)(R:Addr->Prop)(σ:St)(H:Hp)(W:Addr->Prop)(ρ:Env)(Q:D->Env->Prop)(Q':VK),SR X.K T z R H W σ ρ->w ρ Q ->
  (∀v H' W' d b F,Post X.K T z R m true H W σ ρ H' W' b d v F->Q d b->Q' v H')->te σ H Q') (c:i∉T.io:=by decide):SV X T (.Assign [.Name x pos'] e pos) (wSet i w):=by
 obtain⟨te,t,n⟩:=r;refine⟨_,t,λz R σ H W ρ P E s hw l=>n z R σ H W ρ _ _ s hw λv H1 W1 d ρ1 F p q=>?_⟩;obtain⟨fp,j⟩:=p.sr;obtain⟨nd,f⟩:=p.own rfl;obtain⟨k,o⟩:=j.bind (i:=i) c p.rep nd (λa g=>⟨(f a g).2,s.nr (f a g).1⟩);exact l.nx k _ H1 _ _ o (Qe9 p.fr λa h=>(f a h.2).1) q
abbrev WG:=D->Env->(Env->Prop)->Prop
end
end PV
variable {u:Mx.MI}{wgs:List PV.D->PV.Env->(PV.Env->Prop)->Prop}{wl:PV.WL}
namespace PV
open PySem PySem.Spec L2
section
variable {T:Tg}{ws wu:WS}{wt:WT}
def GV(X:Cx)(T:Tg)(tg:Expr)(wg:WG):Prop :=
 ∃t,PG X tg t/\∀(z:Nat->V)(R:Addr->Prop)(σ:St)(H:Hp)(W:Addr->Prop)(ρ:Env)(d:D)(v:V)(Q:Env->Prop) (Q':St->Hp->Prop),SR X.K T z R H W σ ρ->Rep X.K H d v []->d.pure=true->wg d ρ Q ->
  (∀c W' a b,SR X.K T z c H W' a b->FrW H W H W'->Q b->Q' a H)->t v σ H Q'
def GVs(X:Cx)(T:Tg)(c:List Expr)(wg:List D->Env->(Env->Prop)->Prop):Prop :=
 ∃t,PGs X c t/\∀(z:Nat->V)(R:Addr->Prop)(σ:St)(H:Hp)(W:Addr->Prop)(ρ:Env)(ds:List D)(vs:List V)(Q:Env->Prop) (Q':St->Hp->Prop),SR X.K T z R H W σ ρ->Reps X.K H ds vs []->Qj ds=true->wg ds ρ Q ->
  (∀d W' a b,SR X.K T z d H W' a b->FrW H W H W'->Q b->Q' a H)->t vs σ H Q'
def gN(i:Nat):WG:=λd ρ Q=>Q (ρ.set i (some d))
theorem Q0(hN:X.N.Nodup)(hi:X.N[i]? = some x:=by rfl)(b:i∉T.io:=by decide)(j:Loc X.env.scope x:=by first|exact Ms rfl|exact Fg rfl)(e:X.fn x=true\/X.env.scope.names.lookup x=some .local:=by first|exact .inl rfl|exact .inr rfl|assumption):GV X T (.Name x pos) (gN i):=by
 refine⟨_,Qet hN hi j e,λz R σ H W ρ d v Q Q' s r m hw k=>?_⟩;obtain⟨fp,f⟩:=s;obtain⟨g,l⟩:=f.bind (i:=i) b r Df (λa c=>nomatch c);exact k g _ _ _ l (Qe9 (FrW.refl H W) λa h=>nomatch h.2) hw
def Qbb:List D->Env->(Env->Prop)->Prop
 | [],ρ,Q=>Q ρ
 |_,_,_=>False
def Yb(wg:WG)(wgs:List D->Env->(Env->Prop)->Prop):List D->Env->(Env->Prop)->Prop
 |d::r,ρ,Q=>wg d ρ λa=>wgs r a Q
 |_,_,_=>False
theorem Reps.inv{K:Frag}(r:Reps K H (d::ds) vs F):∃v us F1 F2,vs=v::us/\Rep K H d v F1/\Reps K H ds us F2:=by
 cases r with
 |cons h r=>exact⟨_,_,_,_,rfl,h,r⟩
theorem V2:GVs X T [] Qbb:=by
 refine⟨_,Qmp,λz R σ H W ρ ds vs Q Q' s r a hw k=>?_⟩;cases ds with
 |nil=>cases r;exact⟨rfl,k R W σ ρ s (FrW.refl H W) hw⟩
 |cons=>exact hw.elim
theorem Jb{wg:WG}(h:GV X T e wg)(m:GVs X T es wgs)(o:(assignEach (e::es) X.env).map (·.2)=assign e X.env::(assignEach es X.env).map (·.2):=by rfl):GVs X T (e::es) (Yb wg wgs):=by
 obtain⟨t,pt,g⟩:=h;obtain⟨u,A,x⟩:=m;refine⟨_,Qes pt A o,λz R σ H W ρ ds vs Q Q' s r a hw k=>?_⟩;cases ds with
 |nil=>exact hw.elim
 | cons d ds=>
  obtain⟨v,vs,F,G,rfl,c,b⟩:=r.inv;simp only[Qj,B6]at a;obtain⟨C,c⟩:=c.pure a.1;obtain⟨B,b⟩:=b.pure a.2;refine⟨v,vs,rfl,g z R σ H W ρ d v _ _ s c a.1 hw λp W' i j s' f q=>?_⟩;exact x z p i H W' j ds vs Q Q' s' b a.2 q λR2 W2 l ρ2 y n w=>k R2 W2 l ρ2 y (f.trans n) w
def Qba(n:Nat)(wgs:List D->Env->(Env->Prop)->Prop):WG:=λd ρ Q=>match d with
 | .tup ds=>ds.length=n/\wgs ds ρ Q
 |_=>False
theorem Xt(h:GVs X T es wgs)(c:X.calm=true:=by rfl)(e:(assignEach es X.env).length=n:=by rfl)(b:(assignEach es X.env).findIdx? (·.1)=none:=by rfl):GV X T (.Tuple es kt pos) (Qba n wgs):=by
 obtain⟨t,pt,g⟩:=h;refine⟨_,Qsv c pt e b,λz R σ H W ρ d v Q Q' s r f hw k=>?_⟩;cases d with
 | tup ds=>
  cases r with
  | @tup a xs _ _ i r=>exact⟨a,xs,rfl,.of i,by rw[r.length];exact hw.1,g z R σ H W ρ ds xs Q Q' s r (by simpa[D.pure]using f) hw.2 k⟩
 |_=>exact hw.elim
def dSet(s c d:D)(k:D->Prop):Prop:=match s with
 | .lst xs=>onI c λj=>oget (ixN xs.length j) λn=>k (.lst (xs.set n d))
 | .dik kvs=>onK c λkey=>kvs.length<sizeLine/\k (.dik (putD kvs key d))
 | .dit kvs=>onT c λl=>kvs.length<sizeLine/\oget (Ui l) λks=>k (.dit (putD kvs ks d))
 |_=>False
theorem Qpv(c:X.A.units+1<cLine):PSet X (λo i v H Q=>∃a H',o=.ref a/\DPut H a i v H'/\Q H'):=by
 intro pins s σ H o i v ov f u Q I ro d b h;obtain⟨a,H',rfl,g,q⟩:=h;cases ro;exact Qol c I g d b λs' e=>⟨H',e,q⟩
theorem PSet.or{t u:TSet}(h:PSet X t)(h':PSet X u):PSet X (λo i v H Q=>t o i v H Q\/u o i v H Q):=by
 intro pins s σ H o i v ov c u Q I ro b a q;rcases q with q|q
 ·exact h pins s σ H o i v ov c u Q I ro b a q
 ·exact h' pins s σ H o i v ov c u Q I ro b a q
def Zr(i:Nat)(wv wi:WE):WS:=λP ρ=>wv ρ λd ρ1=>d.pure=true/\(look ρ1 i).isSome=true/\wi ρ1 λc ρ2=>oget (look ρ2 i) λs=>dSet s c d λs'=>P.nx (ρ2.set i (some s'))
theorem Z2{v ix:Expr}{wv wi:WE}{o:Pos}(hu:X.A.units+1<cLine)(hv:EV X T m1 o1 v wv)(hi:EV X T m2 o2 ix wi)(ht:T.own i=true:=by rfl)(hN:X.N[i]? = some x:=by rfl)
  (V:Vis X.env.scope x:=by first|exact Ms rfl|exact Fg (Ms rfl)|exact Fg (Fg rfl)) (hd:(x==("__debug__":Str))=false:=by decide) (aa:(x==("__classdict__":Str))=false:=by decide)
  (U:∀v,assign (.Subscript (.Name x px) ix o) X.env v=(do
   let ov ← holding [v] (eval (.Name x px) X.env)
   let iv ← holding [v,ov] (eval ix X.env)
   standAt o
   holding [v,ov,iv] (setItem ov iv v)
   release [v,ov,iv] []):=by intro _;rfl) (hs:swapsWithSole [.Subscript (.Name x px) ix o] v pos.line X.env=pure false:=by rfl) (hw:swappedStores [.Subscript (.Name x px) ix o] v X.env=pure none:=by rfl)
  (h1:(assignEach [.Subscript (.Name x px) ix o] X.env).map (·.2)=[assign (.Subscript (.Name x px) ix o) X.env]:=by rfl):SV X T (.Assign [.Subscript (.Name x px) ix o] v pos) (Zr i wv wi):=by
 obtain⟨tv,pv,gv⟩:=hv
 obtain⟨ti,pi,gi⟩:=hi
 refine⟨_,Qss pv (Qsw (Uf hN V hd aa) pi (PSet.or Qpu (Qpv hu)) U) hs hw h1,λz R σ H W ρ P E s hw l=>?_⟩
 refine gv z R σ H W ρ _ _ s hw λv1 H1 W1 d ρ1 F1 p z9=>?_
 obtain⟨hp,ab,q⟩:=z9
 obtain⟨-,rv⟩:=p.rep.pure hp
 obtain⟨d0,ae⟩:=M6.mp ab
 obtain⟨ah,s0⟩:=id p.sr
 obtain⟨u,S,_⟩:=s0.at_ i d0 ae
 refine⟨u,S,gi z R σ H1 W1 ρ1 _ _ p.sr q λv2 H2 W2 c ρ2 F2 p2 J=>?_⟩
 obtain⟨d1,hl,J⟩:=Qn J
 obtain⟨fp,Z⟩:=id p2.sr
 obtain⟨u',M,ru⟩:=Z.at_ i d1 hl
 have:u'=u:=by rw[S]at M;cases M;rfl
 subst this
 have N:Rep X.K H2 d v1 []:=rv.keep p2.fr λa m=>nomatch m
 obtain⟨nd,sw⟩:=Z.own i d1 hl ht
 have fin:∀(t:Addr)(ob:HO)(d':D)(F':List Addr),t∈fp i->imm ob=false->Rep X.K (upd H2 t ob) d' u' F'->F'.Nodup->(∀a∈F',a∈fp i)->P.nx (ρ2.set i (some d'))->E.nx σ (upd H2 t ob):=λt ob d' F' hm Y r' ac f Q=>by
  have hW:=sw t hm
  exact l.nx R σ _ _ _ (Z.write hl ht M hm Uv ⟨ob,Qh,Y⟩ r' ac λa U=>.inl (f a U)) ((p.fr.trans p2.fr).write hW (Z.wd t hW) Uv ⟨ob,Qh,Y⟩ λa U=>.inl (sw a (f a U))) Q
 have g:∀a:Addr,a∉([]:List Addr):=λa h=>nomatch h
 generalize hF:fp i=F at *
 cases d1 with
 | lst ds=>
  obtain⟨j,rfl,J⟩:=Gp J
  obtain⟨a,xs,G,rfl,rfl,e,r⟩:=ru.iLst
  obtain⟨n,hn,Q⟩:=Qn J
  have rc:=p2.rep.iInt
  subst rc
  have K:=(Qe4 hn).2.1
  obtain⟨dn,af⟩:∃dn,ds[n]? = some dn:=⟨ds[n],Bu K⟩
  obtain⟨y,A,B,C,hy,hG,rB,rA,rC⟩:=r.split af
  obtain⟨L,I⟩:=Bf.mp nd
  have f:=sub3 hG
  have O:a∉A++C:=λh=>L (f.subset h)
  have ag:n<xs.length:=by rw[r.length];exact K
  refine .inl ⟨a,xs,j,n,rfl,rfl,e,by rw[r.length];exact hn,?_⟩
  refine fin a _ _ (a::(A++C)) An rfl (.lst Qh ?_) (Bf.mpr ⟨O,I.sublist f⟩) (λb w=>?_) Q
  ·rw[Xa K,Xa ag]
   have:=(rA.upd (ob':=.lst (xs.take n++v1::xs.drop (n+1))) e rfl (λh=>O (Bx.mpr (.inl h)))).append (.cons (N.upd e rfl (g a)) (rC.upd e rfl λh=>O (Bx.mpr (.inr h))))
   simpa using this
  ·rcases Ay.mp w with rfl|w
   ·exact An
   ·exact Am _ (f.subset w)
 | dik ds=>
  obtain⟨key,⟨hz,Q⟩,hy⟩:=Qhr (show onK c (λkey=>ds.length<sizeLine/\P.nx (ρ2.set i (some (.dik (putD ds key d)))))from J)
  obtain⟨a,kvs,G,rfl,rfl,e,r⟩:=ru.iDik
  obtain rfl:=hy p2.rep
  obtain⟨L,I⟩:=Bf.mp nd
  obtain⟨G',rp,f⟩:=(r.upd (ob':=.dK (putK kvs key v1)) e rfl L).put (k:=key) (N.upd e rfl (g a))
  refine .inr ⟨a,_,rfl,DPut.k (k:=key) e (by rw[r.length];exact hz),?_⟩
  refine fin a _ _ (a::G') An rfl (.dik Qh rp) (Bf.mpr ⟨λh=>L (f.subset h),I.sublist f⟩) (λb w=>?_) Q
  rcases Ay.mp w with rfl|w
  ·exact An
  ·exact Am _ (f.subset w)
 | dit ds=>
  obtain⟨l',rfl,hz,J⟩:=Qmu J
  obtain⟨a,kvs,G,rfl,rfl,e,r⟩:=ru.iDit
  obtain⟨L,I⟩:=Bf.mp nd
  obtain⟨ks,hk,Q⟩:=Qn J
  obtain⟨b,ys,rfl,e2,r2⟩:=p2.rep.iTup
  have hx:=r2.keys hk
  subst hx
  obtain⟨G',rp,f⟩:=(r.upd (ob':=.dT (putK kvs ks v1)) e rfl L).put (k:=ks) (N.upd e rfl (g a))
  refine .inr ⟨a,_,rfl,DPut.t (k:=ks) e e2 (by rw[r.length];exact hz),?_⟩
  refine fin a _ _ (a::G') An rfl (.dit Qh rp) (Bf.mpr ⟨λh=>L (f.subset h),I.sublist f⟩) (λb w=>?_) Q
  rcases Ay.mp w with rfl|w
  ·exact An
  ·exact Am _ (f.subset w)
 |_=>exact(show False from J).elim
def wIf(wt:WT)(w u:WS):WS:=λP ρ=>wt ρ λb a=>if b=true then w P a else u P a
theorem Qb4{sa a:List Stmt}(g:TV X T m c wt)(d:SVs X T sa ws)(f:SVs X T a wu):SV X T (.If c sa a pos) (wIf wt ws wu):=by
 obtain⟨n,h,i⟩:=g;obtain⟨ta,pa,k⟩:=d;obtain⟨tb,e,j⟩:=f;refine⟨_,Q1n h pa e,λz R σ H W ρ P E s hw l=>i z R σ H W ρ _ _ s hw λb H1 W1 ρ1 p q=>?_⟩;cases b with
 |true=>exact k z R σ H1 W1 ρ1 P E p.sr q (l.step p.fr)
 |false=>exact j z R σ H1 W1 ρ1 P E p.sr q (l.step p.fr)
noncomputable def wFor(wl:WL)(wg:WG)(wb:WS):WS:=λP ρ=>wl ρ λds ρ1=>Qj ds=true/\∃I:Nat->Env->Prop,I 0 ρ1 /\
 (∀i d ρ,ds[i]? = some d->I i ρ->wg d ρ λa=>wb { P with nx:=I (i+1),ct:=I (i+1),bk:=P.nx } a)/\∀ρ,I ds.length ρ->P.nx ρ
theorem X9(W:Addr->Prop):wz true W=W:=by funext a;simp[wz]
theorem Ys{wg:WG}(hp:PassesOwn (model X.prog X.w) X.A X.env X.xe)(hi:IV X T m true tg iter wl)(hg:GV X T tg wg)(Y:SVs X T body ws)(O:X.calm=true:=by rfl)
  (hs:∀x,foldedSetIterable iter X.env x=pure x:=by intro _;rfl):SV X T (.For tg iter body [] pos) (wFor wl wg ws):=by
 obtain⟨ti,pi,M⟩:=hi;obtain⟨tt,pt,gt⟩:=hg;obtain⟨tb,S,Q⟩:=Y;refine⟨_,Qx5 hp O pi pt S hs,λz R σ H W ρ P E s hw l=>M z R σ H W ρ _ _ s hw λJ H1 W1 ds ρ1 p G q=>?_⟩;rw[X9]at G;obtain⟨B,I,h0,U,hd⟩:=q;refine⟨λi n b H'=>n=ds.length-i/\i<=ds.length/\∃d W' a,SR X.K T z d H' W' b a/\FrW H1 W1 H' W'/\I i a,⟨ds.length,by simp,Dq _,R,W1,ρ1,p.sr,FrW.refl _ _,h0⟩,?_⟩;rintro i n k H2 ⟨rfl,hi,R2,W2,ρ2,C,t,K⟩;obtain⟨L,V⟩:=G i H2 W2 t;by_cases c:i<ds.length
 ·have f:ds[i]? = some ds[i]:=Bu c;obtain⟨u,N⟩:=V _ f;have o:(ds[i]).pure=true:=Ye.mp B _ (Rf c);refine .inr ⟨u,λb H'=>i+1<=ds.length/\∃d W' a,SR X.K T z d H' W' b a/\FrW H1 W1 H' W'/\I (i+1) a,λb H' ⟨h1,h2⟩=>⟨ds.length-(i+1),by lia,rfl,h1,h2⟩,λv r yl=>?_⟩;obtain⟨D,F,w,_⟩:=N v r yl;obtain⟨-,w⟩:=w.pure o;have j:FrW H1 W1 r W2:=t.trans (FrW.same W2 D);refine gt z R2 k r W2 ρ2 _ v _ _ (C.same D) w o (U i _ ρ2 f K) λR4 W4 y A s4 g Z=>?_;refine Q z R4 y r W4 A _ _ s4 Z ⟨?_,?_,?_,?_,?_⟩
  ·exactλd b H' W' a s' f' h=>⟨c,d,W',a,s',(j.trans g).trans f',h⟩
  ·exactλd b H' W' a s' f' h=>l.nx d b H' W' a s' (((p.fr.trans j).trans g).trans f') h
  ·exactλd b H' W' a s' f' h=>⟨c,d,W',a,s',(j.trans g).trans f',h⟩
  ·exact(((l.step p.fr).step j).step g).rt
  ·exact(((l.step p.fr).step j).step g).xc
 ·have e:i=ds.length:=by lia
  subst e;exact .inl ⟨L (At _),l.nx R2 k H2 W2 ρ2 C (p.fr.trans t) (hd ρ2 K)⟩
end
end PV
variable {g:PV.GI}{y:N7}{pr:Bool}{we:PV.WE}{ww:PV.WS}
namespace PV
open PySem PySem.Spec L2
open PyProof.Rows (envOfC)
def TR:Tg:={ own:=λ_=>false,io:=[] }
def Any(H:Hp):Addr->Prop:=λa=>∃ob,H a=some ob/\imm ob=false
theorem SR.readonly{K:Frag}{T:Tg}(g:T.io=[])(f:ρ.length=σ.length)(h:∀i d,look ρ i=some d->T.own i=false/\∃v F,σ[i]? = some (some v)/\Rep K H d v F) :
  SR K T z (Any H) H (λ_=>False) σ ρ:=by
 have ch:∀i,∃F,∀d,look ρ i=some d->∃v,σ[i]? = some (some v)/\Rep K H d v F:=λi=>by
  cases b:look ρ i with
  |none=>exact⟨[],λd e=>nomatch e⟩
  | some d=>
   obtain⟨_,v,F,h1,h2⟩:=h i d b;exact⟨F,λd' e=>by cases e;exact⟨v,h1,h2⟩⟩
 refine⟨λi=>Rg (ch i),f,λa h=>h.elim,λi d b=>Dl (ch i) d b,λi d b c=>?_,λi d b c a k=>?_,λa h=>h.elim,λa h=>h,λi j d e b l c=>?_,λi hi=>?_⟩
 ·rw[(h i d b).1]at c;cases c
 ·obtain⟨v,_,r⟩:=Dl (ch i) d b;exact r.dom a k
 ·rw[(h i d b).1]at c;cases c
 ·rw[g]at hi;cases hi
theorem Zl:∀{ds:List D}{n i:Nat},look (ds.map some++Bo n none) i=ds[i]?
 | [],0,i=>by simp[look]
 | [],n+1,0=>by simp[look,My]
 | [],n+1,i+1=>by
  have:=Zl (ds:=[]) (n:=n) (i:=i);simpa[look,My]using this
 |d::ds,n,0=>by simp[look]
 | d::ds,n,i+1=>by
  have:=Zl (ds:=ds) (n:=n) (i:=i);simpa[look]using this
theorem Yd(h:vs[i]? = some v):(L2.start N vs)[i]? = some (some v):=by
 have hi:=(Au.mp h).1;unfold L2.start;rw[Ru (by simpa using hi),Bh,h];rfl
section
variable {w:World}{K:Frag}{k:Nat}{T:Tg}
def env0(N:List Str)(ds:List D):Env:=ds.map some++Bo (N.length-ds.length) none
theorem Qal{g:GA}(F:Fun K x qual st f fd)(S:FnScope N ps (Qc st))(C:T.io=[])(y:∀i,i<ps.length->T.own i=false)(hg:∀ds kk,g ds kk->ds.length=ps.length)
  (U:∀(c:Value)(A:Around)(outer:List Dr)(s:Shared)(H:Hp)(E:XK),Room k (A.deeper (envOfC qual (Qc st) s.heap.objs.size f c))->SVs (cxOf CX0 P w K mg base N qual (Qc st) f c A outer s H E).nox T (Qr st) ww)
  (R:∀ds kk,g ds kk->ww { nx:=λ_=>kk .non,rt:=λd _=>kk d } (env0 N ds)):FnOk P w K mg base CX0 (k+1) f fd ps (spR K g):=by
 refine F.ok S (λvs H Q E h=>?_) (λc A outer s H vs Q E u h=>?_)
 ·obtain⟨ds,W,kk,rep,j,_⟩:=h;rw[rep.length];exact hg ds kk j
 ·obtain⟨ds,W,kk,rep,j,q⟩:=h;obtain⟨ts,G,L⟩:=U c A outer s H E u;have O:=rep.length;have J:=hg ds kk j;refine⟨ts,G,L (λ_=>.non) (Any H) (L2.start N vs) H (λ_=>False) (env0 N ds) _ _ (SR.readonly C ?_ λi d l=>?_) (R ds kk j) ⟨?_,?_,?_,?_,λ_ _ _ _ _ _ _ _ n=>n.elim⟩⟩
  ·unfold env0 L2.start;simp[O]
  ·unfold env0 at l;rw[Zl]at l;obtain⟨v,B,h1,h2,_⟩:=rep.get l;exact⟨y i (by rw[← J];exact(Au.mp l).1),v,B,Yd h1,h2⟩
  ·intro D p H' W' t s' fr n;have I:Same H H':=λb o e=>fr.keep b o e (λz=>z);exact q .non H' .non [] ⟨I,.non,Df,λ_ m=>nomatch m⟩ n
  ·exactλD p H' W' t s' fr n=>n.elim
  ·exactλD p H' W' t s' fr n=>n.elim
  ·intro D v p H' W' t d F' s' fr r nd V n;have I:Same H H':=λb o e=>fr.keep b o e (λz=>z);exact q v H' d F' ⟨I,r,nd,λa M=>(V a M).2.resolve_left id⟩ n
theorem Qh6{p:Nat}(F:Fun K x qual st f fd)(S:FnScope N ps (Qc st))(W:T.io=[p])(M:T.own p=true)(hg:∀ds kk,g ds kk->ds.length=ps.length/\∃d0,ds[p]? = some d0/\Qbc d0=true)
  (n:∀(J:Value)(A:Around)(outer:List Dr)(s:Shared)(H:Hp)(E:XK),Room k (A.deeper (envOfC qual (Qc st) s.heap.objs.size f J))->SVs (cxOf CX0 P w K mg base N qual (Qc st) f J A outer s H E).nox T (Qr st) ww)
  (hr:∀ds kk,g ds kk->ww { nx:=λρ=>oget (look ρ p) λd'=>Qbc d'=true/\kk .non d',rt:=λd ρ=>oget (look ρ p) λd'=>Qbc d'=true/\kk d d' } (env0 N ds)):FnOk P w K mg base CX0 (k+1) f fd ps (spI K p g):=by
 refine F.ok S (λvs H Q E h=>?_) (λJ A outer s H vs Q E O h=>?_)
 ·obtain⟨ds,a,kk,rep,hp,I,_⟩:=h;rw[rep.length];exact(hg ds kk I).1
 ·obtain ⟨ds,a,kk,rep,hp,I,q⟩:=h;obtain⟨ts,ae,ah⟩:=n J A outer s H E O;have hl:=rep.length;obtain⟨ai,d0,X,af⟩:=hg ds kk I;obtain⟨v0,A',B,C,h1,h2,r0,rA,rC⟩:=rep.split X;rw[hp]at h1;cases h1;obtain⟨a',e1,Y⟩:=r0.flat1 af;cases e1;subst Y;have hA:A'=[]:=by
   cases A' with
   |nil=>rfl
   |cons y A'=>simp at h2
  subst hA;have hC:C=[]:=by
   cases C with
   |nil=>rfl
   |cons y C=>simp at h2
  subst hC;have ab:∀i d,i≠p->ds[i]? = some d->∃v,vs[i]? = some v/\Rep K H d v []:=λi d G hd=>by
   rcases La G with h|h
   ·obtain⟨v,B,h1,h2,h3⟩:=rA.get (i:=i) (by rw[Mm h];exact hd);rw[Mm h]at h1;have:=Fw.mp h3;subst this;exact⟨v,h1,h2⟩
   ·obtain⟨v,B,h1,h2,h3⟩:=rC.get (i:=i-(p+1)) (by rw[Nx,show p+1+(i-(p+1))=i by lia];exact hd);rw[Nx,show p+1+(i-(p+1))=i by lia]at h1;have:=Fw.mp h3;subst this;exact⟨v,h1,h2⟩
  obtain ⟨oa,ea,ia⟩:=r0.dom a (Aw.mpr rfl);have fin:∀L v m H' W' l d F',SR K T (λ_=>.ref a) L H' W' m l->FrW H (λb=>b=a) H' W'->Rep K H' d v F'->F'.Nodup->(∀b∈F',¬W' b/\(b=a\/H b=none))->(oget (look l p) λd'=>Qbc d'=true/\kk d d')->Q v H':=λL v m H' W' l d F' s' fr r nd Z t=>by
   obtain⟨d',V,aa,t⟩:=Qn t;obtain⟨fp,s0⟩:=s';obtain⟨u,hu,ru⟩:=s0.at_ p d' V;have U:=s0.fix p (by rw[W];exact Aw.mpr rfl);rw[hu]at U;cases U;obtain⟨aj,e1,Y⟩:=ru.flat1 aa;cases e1;rw[Y]at ru;have ac:W' a:=(s0.own p d' V M).2 a (by rw[Y];exact Aw.mpr rfl);refine q v H' d d' F' ru r nd (λb n=>?_) (λb o e G=>fr.keep b o e G) t;rcases(Z b n).2 with h|h
   ·exact absurd ac (by rw[← h];exact(Z b n).1)
   ·exact h
  refine⟨ts,ae,ah (λ_=>.ref a) (λb=>b≠a/\Any H b) (L2.start N vs) H (λb=>b=a) (env0 N ds) _ _ ⟨λi=>if i=p then [a]else [],?_,?_,?_,?_,?_,?_,?_,?_,?_⟩ (hr ds kk I) ⟨?_,?_,?_,?_,λ_ _ _ _ _ _ _ _ t=>t.elim⟩⟩
  ·unfold env0 L2.start;simp[hl]
  ·rintro b rfl;exact⟨oa,ea,ia⟩
  ·intro i d D;unfold env0 at D;rw[Zl]at D;by_cases c:i=p
   ·subst c;rw[X]at D;cases D;exact⟨.ref a,Yd hp,by rw[if_pos rfl];exact r0⟩
   ·obtain⟨v,h1,h2⟩:=ab i d c D;exact⟨v,Yd h1,by rw[if_neg c];exact h2⟩
  ·intro i d _ _;by_cases c:i=p
   ·rw[if_pos c];exact⟨by simp,λb n=>Aw.mp n⟩
   ·rw[if_neg c];exact⟨by simp,λb n=>nomatch n⟩
  ·intro i d _ ht b n;have c:i≠p:=λz=>by subst z;rw[M]at ht;cases ht
   rw[if_neg c]at n;cases n
  ·rintro b rfl ⟨h,_⟩;exact h rfl
  ·exactλb h=>h.2
  ·intro i j d e _ _ _ _ G b n R;by_cases c:i=p
   ·have ag:j≠p:=λz=>G (c.trans z.symm);rw[if_neg ag]at R;cases R
   ·rw[if_neg c]at n;cases n
  ·intro i hi;rw[W]at hi;rw[Aw.mp hi];exact Yd hp
  ·exactλL m H' W' l s' fr t=>fin L .non m H' W' l .non [] s' fr .non Df (λb n=>nomatch n) t
  ·exactλL m H' W' l s' fr t=>t.elim
  ·exactλL m H' W' l s' fr t=>t.elim
  ·exactλL v m H' W' l d F' s' fr r nd Z t=>fin L v m H' W' l d F' s' fr r nd Z t
end
section
variable {T:Tg}{wt:WT}
def CV(X:Cx)(ifs:List Expr)(w:WT):Prop :=
 ∃tt,PIfs X ifs tt/\∀(z:Nat->V)(R:Addr->Prop)(σ:St)(H:Hp)(W:Addr->Prop)(ρ:Env)(Q:Bool->Env->Prop)(Q':Bool->Hp->Prop),SR X.K TR z R H W σ ρ->w ρ Q ->
  (∀b H' W' a,PostT X.K TR z R false H W σ ρ H' W' a->Q b a->Q' b H')->tt σ H Q'
def wAll:WT:=λρ Q=>Q true ρ
theorem Qc5:CV X [] wAll:=⟨_,Qp8,λz R σ H W ρ Q Q' s hw k=>k true H W ρ ⟨s,FrW.refl H W,λ_=>⟨Same.refl H,rfl,rfl⟩⟩ hw⟩
theorem Qoq(h:TV X TR false c wt):CV X [c] wt:=by
 obtain⟨tt,pt,g⟩:=h;exact⟨_,Qp7 pt,g⟩
def blkE(ρ:Env)(d:D)(ix:List Nat):Env:=some d::ix.map (look ρ)
theorem Qe1{f:Nat->Option D}:∀{ix:List Nat}{j:Nat},look (ix.map f) j=ix[j]?.bind f
 | [],_=>by simp[look]
 |i::r,0=>by simp[look]
 |i::r,j+1=>by simpa[look]using Qe1 (f:=f) (ix:=r) (j:=j)
noncomputable def Qeh(wl:WL)(wt:WT)(we:WE)(ix:List Nat):WE:=λρ Q=>wl ρ λds ρ1=>∃I:Nat->List D->Prop,I 0 [] /\
 (∀i d ys,ds[i]? = some d->I i ys->ys.length<sizeLine/\wt (blkE ρ1 d ix) λb _=>if b=true then we (blkE ρ1 d ix) (λy _=>I (i+1) (ys++[y]))else I (i+1) ys) /\
 ∀ys,I ds.length ys->ys.length<=sizeLine/\Q (.lst ys) ρ1
def Qhh(X:Cx)(T:Tg)(m:Bool)(elt iter:Expr)(x:Str)(px:Pos)(scope:Scope)(ifs:List Expr)(ix:List Nat)(w:WE):Prop :=
 ∃(wi:TI) (tt:TT) (te:TE),PI X (.Name x px) iter wi/\(∀cl C s₀ H₀ fp,PIfs (Yr X scope cl C (bN X.N x ix) s₀ H₀ fp) ifs tt)/\(∀cl C s₀ H₀ fp,PE (Yr X scope cl C (bN X.N x ix) s₀ H₀ fp) elt te) /\
  ∀(z:Nat->V) (R:Addr->Prop) (σ:St) (H:Hp) (W:Addr->Prop) (ρ:Env) (Q:D->Env->Prop) (Q':VK),SR X.K T z R H W σ ρ->w ρ Q ->
   (∀v H' W' d a F,Post X.K T z R m true H W σ ρ H' W' a d v F->Q d a->Q' v H')->Qtz wi tt te ix σ H Q'
theorem Qam(ix:List Nat)(hi:IV X T m pr (.Name x px) iter wl)
  (V:∀cl C s₀ H₀ fp,CV (Yr X scope cl C (bN X.N x ix) s₀ H₀ fp) ifs wt) (Z:∀cl C s₀ H₀ fp,EV (Yr X scope cl C (bN X.N x ix) s₀ H₀ fp) TR false true elt we) :
  Qhh X T m elt iter x px scope ifs ix (Qeh wl wt we ix):=by
 obtain ⟨wi,pi,gi⟩:=hi;refine⟨wi,λσ H Q=>∀cl C s₀ H₀ fp,Rg (V cl C s₀ H₀ fp) σ H Q,λσ H Q=>∀cl C s₀ H₀ fp,Rg (Z cl C s₀ H₀ fp) σ H Q,pi,
  λcl C s₀ H₀ fp pins s σ H Q I h=>(Dl (V cl C s₀ H₀ fp)).1 pins s σ H Q I (h cl C s₀ H₀ fp),λcl C s₀ H₀ fp pins s σ H Q I h=>(Dl (Z cl C s₀ H₀ fp)).1 pins s σ H Q I (h cl C s₀ H₀ fp),?_⟩
 intro z R σ H W ρ Q Q' s hw k;refine gi z R σ H W ρ _ _ s hw λJ H1 W1 ds ρ1 p jd q=>?_;obtain⟨I,h0,hI,hd⟩:=q;refine⟨λi n ys H2=>n=ds.length-i/\i<=ds.length/\Same H1 H2/\∃es F,Reps X.K H2 es ys F/\F.Nodup/\(∀a∈F,H1 a=none)/\I i es,ds.length,⟨by simp,Dq _,Same.refl _,[],[],.nil,Df,(λa m=>(nomatch m)),h0⟩,?_⟩;rintro i n ys H2 ⟨rfl,hi,o,es,F,re,nd,O,i2⟩;obtain⟨j1,j2⟩:=jd i H2 (wz pr W1) (FrW.same _ o);by_cases r:i<ds.length
 ·have D:ds[i]? = some ds[i]:=Bu r;obtain⟨P,hy⟩:=j2 _ D;obtain⟨hz,Y⟩:=hI i _ es D i2;refine .inr ⟨P,by rw[re.length];exact hz,λv B yl=>?_⟩;obtain⟨f,Fv,rv,_⟩:=hy v B yl;have S:∀z',SR X.K TR z' (Any B) B (λ_=>False) (bS σ (some v) ix) (blkE ρ1 ds[i] ix):=λz'=>by
   refine SR.readonly rfl (by simp[bS,blkE]) λj d hj=>⟨rfl,?_⟩
   cases j with
   | zero=>
    simp only[blkE,look,Nj]at hj;subst hj;exact⟨v,Fv,rfl,rv⟩
   | succ j=>
    have c:look (ix.map (look ρ1)) j=some d:=hj;rw[Qe1]at c;cases hx:ix[j]? with
    |none=>rw[hx]at c;cases c
    | some q=>
     rw[hx]at c;obtain⟨fp,s1⟩:=(p.sr.same o).same f;obtain⟨u,hu,ru⟩:=s1.at_ q d c;refine⟨u,fp q,?_,ru⟩;show(ix.map λi=>(σ[i]?).getD none)[j]? = some (some u);rw[Bh,hx];simp[hu]
  intro cl C s₀ H₀ fp;refine(Dl (V cl C s₀ H₀ fp)).2 (λ_=>.non) (Any B) (bS σ (some v) ix) B (λ_=>False) (blkE ρ1 ds[i] ix) _ _ (S _) Y λbb H4 W4 ab p4 q4=>?_;obtain⟨g,ac,L⟩:=p4.calm rfl;have w:=((re.same f).same g)
  cases bb with
  |false=>exact⟨ds.length-(i+1),by lia,rfl,r,(o.trans f).trans g,es,F,w,nd,O,q4⟩
  | true=>
   show if true=true then _ else _
   rw[if_pos rfl];intro cl C s₀ H₀ fp;refine(Dl (Z cl C s₀ H₀ fp)).2 (λ_=>.non) (Any B) (bS σ (some v) ix) H4 W4 (blkE ρ1 ds[i] ix) _ _ (L ▸ p4.sr) (by simpa using q4) λu H5 W5 y aa Fy U q5=>?_;obtain⟨K,_,_⟩:=U.calm rfl;obtain⟨ny,ky⟩:=U.own rfl;have E:Same H1 H5:=((o.trans f).trans g).trans K;refine⟨ds.length-(i+1),by lia,rfl,r,E,es++[y],F++Fy,(w.same K).snoc U.rep,Qcn nd ny λa t hf=>?_,λa t=>?_,q5⟩
   ·obtain⟨ob,M,_⟩:=w.dom a hf;rw[(ky a t).1]at M;cases M
   ·rcases Bx.mp t with t|t
    ·exact O a t
    ·exact((o.trans f).trans g).free (ky a t).1
 ·have e:i=ds.length:=by lia
  subst e;obtain⟨hz,Y⟩:=hd es i2;refine .inl ⟨j1 (At _),by rw[re.length];exact hz,λl A=>?_⟩;have G:H1 l=none:=o.free A;refine k _ _ W1 (.lst es) ρ1 (l::F) ⟨(p.sr.same o).same (Qg A),(p.fr.trans (FrW.same W1 o)).trans (FrW.same W1 (Qg A)),λh=>⟨((p.calm h).1.trans o).trans (Qg A),(p.calm h).2⟩,.lst Qh (re.same (Qg A)),λ_=>⟨Bf.mpr ⟨λh=>?_,nd⟩,λb N=>?_⟩⟩ Y
  ·obtain⟨ob,M,_⟩:=re.dom l h;rw[A]at M;cases M
  ·rcases Ay.mp N with rfl|N
   ·exact⟨p.fr.dom _ G,p.sr.nw G⟩
   ·exact⟨p.fr.dom _ (O b N),p.sr.nw (O b N)⟩
theorem Qv7(h:Qhh X T m elt iter x px scope ifs ix w)(B:BlkScope X.env scope x)
  (hix:∀i∈ix,∃y,X.N[i]? = some y/\scope.names.lookup y=some .free) (hN:(bN X.N x ix).Nodup) (c:X.calm=true:=by rfl)
  (b:∀x,foldedSetIterable iter X.env x=pure x:=by intro _;rfl):EV X T m true (.ListComp elt [⟨.Name x px,iter,ifs,0⟩] scope pos) w:=by
 obtain⟨wi,tt,te,h1,h2,a,h4⟩:=h;exact⟨_,Qu7 ix c B hix hN h1 h2 a b,h4⟩
theorem Qt1(h:Qhh X T m elt iter x px scope ifs ix w)(B:BlkScope X.env scope x)(c:X.N.Nodup)
  (hix:∀i∈ix,∃y,X.N[i]? = some y/\scope.names.lookup y=some .free) (hN:(bN X.N x ix).Nodup) (g:X.N[j]? = some y:=by rfl) (k:Loc X.env.scope y:=by first|exact Ms rfl|exact Fg rfl) (a:j∉T.io:=by decide)
  (b:swapsWith (.ListComp elt [⟨.Name x px,iter,ifs,0⟩] scope pos) (some (.Name y py)) spos.line X.env=pure true:=by rfl)
  (d:X.fn y=true\/X.env.scope.names.lookup y=some .local:=by first|exact .inl rfl|exact .inr rfl|assumption) (l:X.calm=true:=by rfl)
  (f:∀x,foldedSetIterable iter X.env x=pure x:=by intro _;rfl):SV X T (.Assign [.Name y py] (.ListComp elt [⟨.Name x px,iter,ifs,0⟩] scope pos) spos) (wSet j w):=by
 obtain⟨wi,tt,te,h1,h2,e,h4⟩:=h;exact Qt0 ⟨_,Qu1 ix l B c g k b hix hN h1 h2 e d f,h4⟩ a
end
end PV
namespace PV
open PySem PySem.Spec L2
abbrev WO:=Env->(Option Int->Env->Prop)->Prop
end PV
variable {xs:List PV.D}{ws:PV.WS}{oe:Np}{me:Bool}
namespace PV
open PySem PySem.Spec L2
section
variable {T:Tg}
def OV(X:Cx)(T:Tg)(m:Bool)(e:Option Expr)(w:WO):Prop :=
 ∃t,PO X e t/\∀(z:Nat->V)(R:Addr->Prop)(σ:St)(H:Hp)(W:Addr->Prop)(ρ:Env)(Q:Option Int->Env->Prop)(Q':Option Int->Hp->Prop),SR X.K T z R H W σ ρ->w ρ Q ->
  (∀b H' W' a,PostT X.K T z R m H W σ ρ H' W' a->Q b a->Q' b H')->t σ H Q'
def Qbx:WO:=λρ Q=>Q none ρ
def Qde(w:WE):WO:=λρ Q=>w ρ λd a=>match d with
 | .int i=>Q (some i) a
 |_=>False
theorem Qah:OV X T false none Qbx:=⟨_,Qu3,λz R σ H W ρ Q Q' s hw k=>k none H W ρ ⟨s,FrW.refl H W,λ_=>⟨Same.refl H,rfl,rfl⟩⟩ hw⟩
theorem Ug(h:EV X T m o e w):OV X T m (some e) (Qde w):=by
 obtain⟨t,pt,g⟩:=h;refine⟨_,Qu2 pt,λz R σ H W ρ Q Q' s hw k=>g z R σ H W ρ _ _ s hw λv H1 W1 d ρ1 F p q=>?_⟩;cases d with
 |int i=>exact⟨i,Ql9 p.rep,k (some i) H1 W1 ρ1 ⟨p.sr,p.fr,p.calm⟩ q⟩
 |_=>exact q.elim
def cutD(xs:List D)(lo hi:Option Int):List D:=(xs.drop (HT.sIx xs.length 0 lo)).take (HT.sIx xs.length xs.length hi-HT.sIx xs.length 0 lo)
theorem Reps.cut{K:Frag}{xs:List V}(r:Reps K H ds xs []):Reps K H (cutD ds lo hi) (cutV xs lo hi) []:=by
 unfold cutD cutV;rw[r.length];obtain⟨G,d,c⟩:=r.drop (HT.sIx ds.length 0 lo);obtain⟨G',b,a⟩:=d.take (HT.sIx ds.length ds.length hi-HT.sIx ds.length 0 lo);have:=Fw.mp c;subst this;have:=Fw.mp a;subst this;exact b
theorem Qw5:SlR X (λx lo hi H Q=>rSlL X.K x lo hi H Q\/rSlT X.K x lo hi H Q):=SlR.or Qt3 Qw4
def Qkc:GA
 | [.int j],k=>0<=j/\j<=1000/\k (.lst (rngD 0 j.toNat))
 |_,_=>False
theorem Qa4{C d c:Pos}(hm:X.mg "range" = none)(h:X.mg "list" = none)(w:AV X T m o [a] wr)(hg:Gl X "range":=by rfl)(g:Gl X "list":=by rfl)(y:X.calm=true:=by rfl)(A:starEach [a] X.env=[(false,eval a X.env)]:=by rfl)
  (e:starEach [.Call (.Name "range" d) [a] [] c] X.env=(false,eval (.Call (.Name "range" d) [a] [] c) X.env)::starEach [] X.env:=by rfl) :
  EV X T m true (.Call (.Name "list" C) [.Call (.Name "range" d) [a] [] c] [] pos) (Qp Qkc wr):=by
 obtain ⟨ta,pa,I⟩:=w;refine⟨_,Qci (Qfi y) g h (by rfl) (Qcj (Qmr hg hm pa A) Qjm e),λz R σ H W ρ Q Q' s hw k=>?_⟩;refine I z R σ H W ρ _ _ s hw λvs H1 W1 ds ρ1 F p q=>?_;obtain⟨j,rfl⟩:∃j,ds=[D.int j]:=by
  clear p;cases ds with
  |nil=>exact(show False from q).elim
  | cons u B=>
   cases B with
   | nil=>
    cases u with
    |int j=>exact⟨j,rfl⟩
    |_=>exact(show False from q).elim
   |cons _ _=>cases u<;>exact(show False from q).elim
 obtain⟨v,rfl,rd⟩:=p.rep.at1;cases rd;refine⟨j,rfl,λr t=>⟨r,j,rfl,Qh,q.1,q.2.1,λl n=>?_⟩⟩;have f:Same H1 (upd (upd H1 r (.rng 0 j)) l (.lst ((Aq j.toNat).map λi=>.int (i:Nat)))):=(Qg t).trans (Qg n);refine k _ _ W1 (.lst (rngD 0 j.toNat)) ρ1 [l] (Post.fin p.sr p.fr p.calm f (.lst Qh ?_) (by simp) λb E=>by rw[Aw.mp E];exact(Qg t).free n) q.2.2;have G:rngD 0 j.toNat=((Aq j.toNat).map λ(i:Nat)=>(i:Int)).map D.int:=by simp[rngD]
 have x:((Aq j.toNat).map λ(i:Nat)=>V.int (i:Nat))=((Aq j.toNat).map λ(i:Nat)=>(i:Int)).map V.int:=by simp
 rw[G,x];exact Reps.ints _
noncomputable def Q0a:D->D->D->(D->Prop)->Prop
 | .dik kvs,.int i,d,k=>k ((valD kvs (.inl i)).getD d)
 | .dik kvs,.str i,d,k=>k ((valD kvs (.inr i)).getD d)
 | .dit kvs,.tup l,d,k=>oget (Ui l) λks=>k ((valD kvs ks).getD d)
 |_,_,_,_=>False
theorem RepK.get{K:Frag}{H:Hp}:∀{ds:List (Key×D)} {xs:List (Key×V)} {F:List Addr} {i:Nat} {k:Key} {v:V},RepK K H ds xs F->xs[i]? = some (k,v)->∃d B,ds[i]? = some (k,d)/\Rep K H d v B/\B.Sublist F
 | [],_,_,_,_,_,r,h=>by cases r;simp at h
 | d::ds,_,_,i,_,_,r,h=>by
  cases r with
  | @cons j d v _ vs F G p r=>
   cases i with
   | zero=>
    simp at h;obtain⟨rfl,rfl⟩:=h;exact⟨d,F,rfl,p,N3 _ _⟩
   | succ i=>
    obtain⟨d',B,h1,h2,a⟩:=RepK.get r (i:=i) (by simpa using h);exact⟨d',B,by simpa using h1,h2,a.trans (Fe _ _)⟩
end
section
variable {κ:Type}[DecidableEq κ]
theorem Qut{j k:κ}{y:D}{r:List (κ×D)}(h:¬j=k):putD ((j,d)::r) k y=(j,d)::putD r k y:=by
 unfold putD;by_cases q:(r.any λa=>decide (a.1=k))=true
 ·rw[if_pos (by rw[Rr,q];simp),if_pos q,Ar,if_neg h]
 ·rw[if_neg (by rw[Rr];simp only[h,decide_false,Lh];exact q),if_neg q];rfl
theorem Qjs{k:κ}{y:D}:∀{r:List (κ×D)},k∉r.map (·.1)->(r.map λa=>if a.1=k then (a.1,y)else a)=r
 | [],_=>rfl
 | p::r,h=>by
  simp only[Ar,Ay,not_or]at h;rw[Ar,if_neg (λz=>h.1 z.symm),Qjs h.2]
theorem Quu{k:κ}{y:D}{r:List (κ×D)}(h:k∉r.map (·.1)):putD ((k,d)::r) k y=(k,y)::r:=by
 unfold putD;rw[if_pos (by rw[Rr];simp),Ar,if_pos rfl,Qjs h]
end
abbrev tupI(k:List Int):D:=.tup (k.map .int)
theorem Reps.tups{K:Frag}{H:Hp}:∀{b:List (List Int)} {ys:List V} {F:List Addr},Reps K H (b.map tupI) ys F->F=[]/\∃c:List Addr,ys=c.map V.ref/\c.length=b.length/\∀(i:Nat) k,b[i]? = some k->∃a,c[i]? = some a/\H a=some (.tup (k.map V.int))
 | [],_,_,r=>by cases r;exact⟨rfl,[],rfl,rfl,λi k h=>by simp at h⟩
 | k::b,_,_,r=>by
  cases r with
  | cons p r=>
   obtain⟨j,c,h1,h2,f⟩:=Reps.tups r;cases p with
   | @tup a xs _ F e q=>
    obtain⟨h4,g⟩:=q.of_ints;subst h4 g h1;refine⟨by rw[j];rfl,a::c,rfl,by simp[h2],λi l d=>?_⟩;cases i with
    |zero=>simp at d;subst d;exact⟨a,rfl,e⟩
    |succ i=>simpa using f i l (by simpa using d)
theorem Reps.of_tups{K:Frag}{H:Hp}:∀{b:List (List Int)} {c:List Addr},c.length=b.length->(∀(i:Nat) k a,b[i]? = some k->c[i]? = some a->H a=some (.tup (k.map V.int)))->Reps K H (b.map tupI) (c.map V.ref) []
 | [],[],_,_=>.nil
 |k::b,a::c,d,h=>.cons (F:=[]) (G:=[]) (.tup (h 0 k a rfl rfl) (Reps.ints k)) (Reps.of_tups (by simpa using d) λi f e h1 h2=>h (i+1) f e (by simpa using h1) (by simpa using h2))
def Up(out:List (List Int)):Prop:=∀(i j:Nat) x y,i<=j->out[i]? = some x->out[j]? = some y->HT.J1 y x=false
noncomputable def Qz8:GA
 | [.lst ds],k=>∃a:List (List Int),ds=a.map tupI/\a.length<64/\a.length≠1/\(∀q∈a,q≠[])/\∀out:List (List Int),out.Perm a->Up out->k (.lst (out.map tupI))
 |_,_=>False
theorem Qea{a:Type}{d:a}:∀{l:List a},(Aq l.length).map (λi=>l.getD i d)=l:=by
 intro l;apply Lq;intro i;rw[Bh];by_cases h:i<l.length
 ·rw[Nn h];simp[Dt,h]
 ·rw[Nw (by simpa using h),Nw (by simpa using h)];rfl
theorem Qrm:X8 X (.builtin "sorted") Qz8:=by
 refine⟨_,Qid,λH ds xs F k Q r g q=>?_⟩;cases ds with
 |nil=>exact(show False from g).elim
 | cons d ds=>
  cases ds with
  |cons _ _=>cases d<;>exact(show False from g).elim
  | nil =>
   cases d with
   | lst es=>
    obtain⟨v,rfl,rd⟩:=r.at1;obtain⟨c,rfl,N,h1,G,g⟩:=g;cases rd with
    | @lst l ys _ F e M=>
    obtain ⟨-,o,rfl,I,K⟩:=M.tups;have h:∀(i:Nat) a,o[i]? = some a->∃q,c[i]? = some q/\c.getD i []=q/\H a=some (.tup (q.map V.int)):=λi a hi=>by
     have m:i<c.length:=by rw[← I];exact(Au.mp hi).1
     obtain⟨S,h2,u⟩:=K i _ (Bu m);rw[hi]at h2;cases h2;exact⟨_,Bu m,by simp[Dt,m],u⟩
    refine⟨l,o,λi=>c.getD i [],rfl,e,by lia,by lia,λi a hi=>?_,λp D J L E=>?_⟩
    ·obtain⟨q,h2,u,h4⟩:=h i a hi;show c.getD i []≠[]/\H a=some (.tup ((c.getD i []).map V.int));rw[u];exact⟨G q (Bk h2),h4⟩
    ·have B:∀i∈p,i<c.length:=λi hi=>by
      have:=J.mem_iff.mp hi;rw[Bl]at this;lia
     have perm:(p.map λi=>c.getD i []).Perm c:=by
      have:=J.map λi=>c.getD i [];rw[I,Qea]at this;exact this
     refine q _ _ _ [D] ⟨Qg E,.lst Qh ?_,by simp,λb O=>by rw[Aw.mp O];exact E⟩ (g _ perm λi j x y C w A=>?_)
     ·have R:(p.map λi=>V.ref (o.getD i 0))=(p.map λi=>o.getD i 0).map V.ref:=by simp
      rw[R];refine(Reps.of_tups (by simp) λi k a z hi=>?_).same (Qg E);rw[Bh]at z hi;cases f:p[i]? with
      |none=>rw[f]at z;cases z
      | some n=>
       rw[f]at z hi;cases z;cases hi;have U:=B n (Bk f);have t:n<o.length:=by lia
       obtain⟨T,h2,u,h4⟩:=h n o[n] (Bu t);show H (o.getD n 0)=some (.tup ((c.getD n []).map V.int));rw[u];rw[Dt,Bu t];exact h4
     ·rw [Bh]at w A;cases f:p[i]? with
      |none=>rw[f]at w;cases w
      | some n=>
       cases s:p[j]? with
       |none=>rw[s]at A;cases A
       | some P=>
        rw[f]at w;rw[s]at A;cases w;cases A;exact L i j n P C f s
   |_=>exact(show False from g).elim
theorem Qc8:bootBuiltins "sorted" = some (.builtin "sorted"):=by decide +kernel
theorem Ya:bootBuiltins "isinstance" = some (.builtin "isinstance"):=by decide +kernel
theorem Q0e:bootBuiltins "min" = some (.builtin "min"):=by decide +kernel
theorem Qee:bootBuiltins "len" = some (.builtin "len"):=by decide +kernel
theorem Qtj:bootBuiltins "int" = some (.type "int"):=by decide +kernel
theorem Qwm:bootBuiltins "bool" = some (.type "bool"):=by decide +kernel
theorem Qo6:bootBuiltins "list" = some (.type "list"):=by decide +kernel
theorem Qo7:bootBuiltins "dict" = some (.type "dict"):=by decide +kernel
theorem J9:bootBuiltins "tuple" = some (.type "tuple"):=by decide +kernel
def Q6(w:WE):WE:=λρ Q=>w ρ λd a=>d.pure=true/\Q d a
def Cal(P:Program)(w:World)(K:Frag)(mg:Str->Option Value)(base:Heap)(x:Str)(k:Nat)(ps:List Str)(sp:Sp):Prop :=
 ∃f fd,FnOk P w K mg base CX0 k f fd ps sp/\mg x=some (.ref f)/\keepIn K (.ref f)=true/\Qhi K fd ps []
section
variable {T:Tg}{k:Nat}
theorem Q4(h:EV X T m o e w):EV X T m true e (Q6 w):=h.lift
theorem Jl{g:GA}(C:Cal X.prog X.w X.K X.mg X.base x k ps (spR X.K g))(i:Room k X.A)(c:AV X T m o (e::es) wr)(hg:Gl X x:=by rfl)
  (b:(x==("__debug__":Str))=false:=by decide) (d:starEach (e::es) X.env=(false,eval e X.env)::starEach es X.env:=by rfl) (a:(backTo pos (starEach es X.env)).any (·.1)=false:=by rfl) :
  EV X T m true (.Call (.Name x p) (e::es) [] pos) (Qp g wr):=by
 obtain⟨f,fd,F,h1,h2,h⟩:=C;exact Qv8 F i h1 h2 h c hg b d a
theorem Qq{wi:WI}(C:Cal X.prog X.w X.K X.mg X.base x k ps (spI X.K q g))(l:Room k X.A)(c:AI X T m i q (e::es) wi)(j:T.own i=true:=by rfl)(hg:Gl X x:=by rfl)
  (a:(x==("__debug__":Str))=false:=by decide) (d:starEach (e::es) X.env=(false,eval e X.env)::starEach es X.env:=by rfl) (b:(backTo pos (starEach es X.env)).any (·.1)=false:=by rfl) :
  EV X T true true (.Call (.Name x p) (e::es) [] pos) (Qs i g wi):=by
 obtain⟨f,fd,F,h1,h2,h⟩:=C;exact Qq5 F l h1 h2 h c j hg a d b
noncomputable def Qrk(a scope:Scope)(N:List Str)(x:Str)(ix:List Nat):Bool :=
 (scope.kind == .function)&&scope.names.all (λy=>y.2 != .cell)&&scope.names.all (λy=>y.2 != .local||scope.names.lookup y.1==some .local)&&(scope.names.lookup x==some .local) &&
  scope.names.all (λy=>y.2 != .free||(a.names.lookup y.1==some .cell||a.names.lookup y.1==some .free)) &&
  ix.all (λi=>match N[i]? with|some y=>scope.names.lookup y==some .free|none=>false)&&decide (bN N x ix).Nodup
structure CompB(X:Cx)(scope:Scope)(x:Str)(ix:List Nat):Prop where
 B:BlkScope X.env scope x
 hix:∀i∈ix,∃y,X.N[i]? = some y/\scope.names.lookup y=some .free
 hN:(bN X.N x ix).Nodup
theorem Vc(b:Scope)(N:List Str)(h:Qrk b scope N x ix=true)(h1:X.env.scope=b:=by rfl)(h2:X.N=N:=by rfl):CompB X scope x ix:=by
 subst h1 h2;simp only[Qrk,B6,Rh,Bool.or_eq_true,decide_eq_true_eq,beq_iff_eq,bne_iff_ne]at h;obtain⟨⟨⟨⟨⟨⟨l,g⟩,c⟩,k⟩,j⟩,d⟩,f⟩:=h;refine⟨⟨l,g,λy a e=>(c y a).resolve_left (λz=>z e),k,λy a e=>(j y a).resolve_left (λz=>z e)⟩,λi hi=>?_,f⟩;have:=d i hi;cases q:X.N[i]? with
 |none=>rw[q]at this;cases this
 | some y=>
  rw[q]at this;exact⟨y,rfl,by simpa using this⟩
theorem Xz(h:Qhh X T m elt iter x px scope ifs ix w)(B:CompB X scope x ix)(a:X.calm=true:=by rfl)
  (b:∀x,foldedSetIterable iter X.env x=pure x:=by intro _;rfl):EV X T m true (.ListComp elt [⟨.Name x px,iter,ifs,0⟩] scope pos) w:=Qv7 h B.B B.hix B.hN a b
theorem Qpr(h:Qhh X T m elt iter x px scope ifs ix w)(B:CompB X scope x ix)(b:X.N.Nodup)
  (i:X.N[j]? = some y:=by rfl) (e:Loc X.env.scope y:=by first|exact Ms rfl|exact Fg rfl) (c:j∉T.io:=by decide)
  (a:swapsWith (.ListComp elt [⟨.Name x px,iter,ifs,0⟩] scope pos) (some (.Name y py)) spos.line X.env=pure true:=by rfl)
  (d:X.fn y=true\/X.env.scope.names.lookup y=some .local:=by first|exact .inl rfl|exact .inr rfl|assumption) (g:X.calm=true:=by rfl)
  (f:∀x,foldedSetIterable iter X.env x=pure x:=by intro _;rfl):SV X T (.Assign [.Name y py] (.ListComp elt [⟨.Name x px,iter,ifs,0⟩] scope pos) spos) (wSet j w):=Qt1 h B.B b B.hix B.hN i e c a d g f
end
section
variable {T:Tg}
def Qkl(wd b c:WE):WE:=λρ Q=>wd ρ λd ρ1=>noDct d=false/\b ρ1 λk ρ2=>c ρ2 λx a=>x.pure=true/\Q0a d k x λr=>r.pure=true/\Q r a
where noDct:D->Bool
 | .dik _=>false
 | .dit _=>false
 |_=>true
theorem Rep.isD{K:Frag}(r:Rep K H d v F)(h:Qkl.noDct d=false):∃a,v=.ref a/\IsD H a:=by
 cases r with
 |dik e _=>exact⟨_,rfl,.inl ⟨_,.of e⟩⟩
 |dit e _=>exact⟨_,rfl,.inr ⟨_,.of e⟩⟩
 |_=>cases h
theorem Qv6{x ex:Expr}{wd M K:WE}(hu:X.A.units+1<cLine)(hd:EV X T false o1 oe wd)(Y:EV X T false o2 x M)(I:EV X T false o ex K)
  (m:M2 X oe "get" apos x ex cpos:=by exact⟨rfl,rfl,rfl,rfl⟩):EV X T false true (.Call (.Attribute oe "get" apos) [x,ex] [] cpos) (Qkl wd M K):=by
 obtain ⟨td,pd,gd⟩:=hd;obtain⟨tk,pk,U⟩:=Y;obtain⟨tx,px,gx⟩:=I;refine⟨_,Qqh hu pd pk px m,λz R σ H W ρ Q Q' s hw k=>?_⟩;refine gd z R σ H W ρ _ _ s hw λv H1 W1 d ρ1 F p ⟨O,q⟩=>?_;obtain⟨J,rfl,rfl⟩:=p.calm rfl;obtain⟨ad,rfl,A⟩:=p.rep.isD O;refine⟨ad,rfl,A,U z R σ H1 W1 ρ1 _ _ p.sr q λvk H2 W2 L ρ2 F2 p2 q2=>?_⟩;obtain⟨n,rfl,rfl⟩:=p2.calm rfl;refine gx z R σ H2 W2 ρ2 _ _ p2.sr q2 λvx j w xd f F3 t q3=>?_;obtain⟨c,rfl,rfl⟩:=t.calm rfl;obtain⟨C,q⟩:=q3;obtain⟨-,rx⟩:=t.rep.pure C;have rd:=(p.rep.same n).same c;have y:=p2.rep.same c;have fin:∀(o':Option V)(od:Option D),((od=none/\o'=none)\/∃d v B,od=some d/\o'=some v/\Rep X.K j d v B)->((od.getD xd).pure=true/\Q (od.getD xd) f)->Q' (o'.getD vx) j:=λo' od S ⟨Z,N⟩=>by
  have u:Same H j:=(J.trans n).trans c;rcases S with⟨rfl,rfl⟩|⟨dd,v,B,rfl,rfl,r⟩
  ·exact k _ j w _ f [] (Post.flat t.sr (FrW.same w u) (λ_=>⟨u,rfl,rfl⟩) rx) N
  ·obtain⟨-,r⟩:=r.pure Z;exact k _ j w _ f [] (Post.flat t.sr (FrW.same w u) (λ_=>⟨u,rfl,rfl⟩) r) N
 cases rd with
 | @dik a kvs ds G e r=>
  cases L with
  | int i=>
   have:=Ql9 y;subst this;refine⟨valV kvs (.inl i),DGet.k (k:=.inl i) e,fin _ (valD ds (.inl i)) ?_ q⟩;rcases r.val (.inl i)with h|⟨d,v,B,h1,h2,g,_⟩
   ·exact .inl h
   ·exact .inr ⟨d,v,B,h1,h2,g⟩
  | str i=>
   have:vk=.str i:=by cases y;rfl
   subst this;refine⟨valV kvs (.inr i),DGet.k (k:=.inr i) e,fin _ (valD ds (.inr i)) ?_ q⟩;rcases r.val (.inr i)with h|⟨d,v,B,h1,h2,g,_⟩
   ·exact .inl h
   ·exact .inr ⟨d,v,B,h1,h2,g⟩
  |_=>exact(show False from q).elim
 | @dit a kvs ds G e r=>
  cases L with
  | tup l=>
   obtain⟨ks,E,q⟩:=Qn q;cases y with
   | @tup b xs _ _ eb P=>
    have I:=P.keys E;subst I;refine⟨valV kvs ks,DGet.t (k:=ks) e eb,fin _ (valD ds ks) ?_ q⟩;rcases r.val ks with h|⟨d,v,B,h1,h2,g,_⟩
    ·exact .inl h
    ·exact .inr ⟨d,v,B,h1,h2,g⟩
  |_=>exact(show False from q).elim
 |_=>cases O
def kD:Key->D
 | .inl i=>.int i
 | .inr x=>.str x
theorem Qxd{K:Frag}(k:Key):Rep K H (kD k) (kV k) []:=by
 cases k with
 |inl i=>exact .int i
 |inr x=>exact .str x
noncomputable def J8:G2
 | .int i,.int j,k=>k (.int (i+j))
 | .str x,.str y,k=>x.length+y.length<=sizeLine/\k (.str (x++y))
 | .tup xs,.tup ys,k=>Qj xs=true/\Qj ys=true/\xs.length+ys.length<=sizeLine/\k (.tup (xs++ys))
 | .lst xs,.lst ys,k=>Qj xs=true/\Qj ys=true/\xs.length+ys.length<=sizeLine/\k (.lst (xs++ys))
 |_,_,_=>False
theorem Qr0{a b:D}(g:J8 a b k):(∃i j,a=.int i/\b=.int j)\/(∃i j,a=.str i/\b=.str j)\/(∃i j,a=.lst i/\b=.lst j)\/∃i j,a=.tup i/\b=.tup j:=by
 cases a with
 | int i=>cases b with
  |int j=>exact .inl ⟨i,j,rfl,rfl⟩
  |_=>exact(show False from g).elim
 | str i=>cases b with
  |str j=>exact .inr (.inl ⟨i,j,rfl,rfl⟩)
  |_=>exact(show False from g).elim
 | lst i=>cases b with
  |lst j=>exact .inr (.inr (.inl ⟨i,j,rfl,rfl⟩))
  |_=>exact(show False from g).elim
 | tup i=>cases b with
  |tup j=>exact .inr (.inr (.inr ⟨i,j,rfl,rfl⟩))
  |_=>cases i<;>exact(show False from g).elim
 |_=>exact(show False from g).elim
theorem Q3:OpD X (binaryOp .Add) J8:=by
 obtain⟨s,o,f⟩:=Qyw (X:=X);refine⟨_,OpR.or Qvf o,λH a b x y F1 F2 k Q e c g q=>?_⟩;rcases Qr0 g with⟨i,j,rfl,rfl⟩|⟨i,j,rfl,rfl⟩|⟨i,j,rfl,rfl⟩|⟨i,ys,rfl,rfl⟩
 ·exact .inr (f H _ _ x y F1 F2 k Q e c g q)
 ·exact .inr (f H _ _ x y F1 F2 k Q e c g q)
 ·exact .inr (f H _ _ x y F1 F2 k Q e c g q)
 ·cases i with
  | nil=>
   cases e with
   | @tup p _ _ _ r m=>
    cases m;cases c with
    | @tup n us _ _ h l=>exact .inl ⟨p,n,us,rfl,rfl,.of r,.of h,q _ _ _ _ (.flat (.tup h (l.pure g.2.1).2)) g.2.2.2⟩
  |cons d xs=>exact .inr (f H _ _ x y F1 F2 k Q e c ⟨g.1,g.2.1,by simp,g.2.2⟩ q)
noncomputable def dSlT:D->Option Int->Option Int->(D->Prop)->Prop
 | .lst xs,lo,hi,k=>Qj xs=true/\k (.lst (cutD xs lo hi))
 | .kls xs,lo,hi,k=>Qj xs=true/\k (.lst (cutD xs lo hi))
 | .tup xs,lo,hi,k=>Qj xs=true/\k (.tup (cutD xs lo hi))
 |_,_,_,_=>False
theorem Qt5(g:dSlT d lo hi k):(∃ds,d=.lst ds)\/(∃ds,d=.kls ds)\/∃ds,d=.tup ds:=by
 cases d with
 |lst ds=>exact .inl ⟨ds,rfl⟩
 |kls ds=>exact .inr (.inl ⟨ds,rfl⟩)
 |tup ds=>exact .inr (.inr ⟨ds,rfl⟩)
 |_=>exact(show False from g).elim
theorem Qt4:SlR X (λx lo hi H Q=>(rSlL X.K x lo hi H Q\/rSlT X.K x lo hi H Q)\/rSlW X.K x lo hi H Q):=SlR.or Qw5 Qt2
def wSlT(w:WE)(wl b:WO):WE:=λρ Q=>w ρ λd ρ1=>wl ρ1 λlo ρ2=>b ρ2 λhi a=>dSlT d lo hi λd'=>Q d' a
theorem Qor(h:HT.sIx xs.length 0 lo=0/\HT.sIx xs.length xs.length hi=xs.length):cutD xs lo hi=xs:=by
 unfold cutD;rw[h.1,h.2];simp
theorem Qcx{lo hi:Option Expr}{wl D:WO}(V:EV X T m1 o1 e w)(c:OV X T m2 lo wl)(P:OV X T m3 hi D)(o:o1=true\/(m2||m3)=false:=by first|exact .inl rfl|exact .inr rfl) :
  EV X T (m1||(m2||m3)) true (.Subscript e (.Slice lo hi none p2) pos) (wSlT w wl D):=by
 obtain ⟨te,Y,L⟩:=V;obtain⟨tl,pl,I⟩:=c;obtain⟨th,U,O⟩:=P;refine⟨_,Qqd Qt4 Y pl U,λz R σ H W ρ Q Q' s hw k=>?_⟩;refine L z R σ H W ρ _ _ s hw λv H1 W1 d ρ1 F p q=>?_;refine I z R σ H1 W1 ρ1 _ _ p.sr q λlo H2 W2 ρ2 p2 Z=>?_;refine O z R σ H2 W2 ρ2 _ _ p2.sr Z λhi B G j C i=>?_;have pp:=p2.seq C;have y:Rep X.K B d v F:=by
  rcases o with o|o
  ·exact p.rep.keep pp.fr λa h=>((p.own o).2 a h).2
  ·exact p.rep.same (pp.calm o).1
 have fin:∀ad d' r K,Fin X.K B ad d' r K->Q d' j->Q' r ad:=λH' d' r F' t g=>by
  refine k r H' G d' j F' (Post.fin C.sr (p.fr.trans pp.fr) (λh=>?_) t.same t.rep t.nd t.new) g;rw[Mq]at h;obtain⟨a1,N,E⟩:=p.calm h.1;obtain⟨M,J,S⟩:=pp.calm h.2;exact⟨a1.trans M,J.trans N,S.trans E⟩
 have u:dSlT d lo hi λd'=>Q d' j:=i;clear i;rcases Qt5 u with⟨ds,rfl⟩|⟨ds,rfl⟩|⟨ds,rfl⟩
 ·have i:=u;cases y with
  | @lst a xs _ F n f=>
   obtain⟨x,g⟩:=i;obtain⟨_,f⟩:=f.pure x;exact .inl (.inl ⟨a,xs,rfl,.of n,λl c=>fin _ _ _ [l] ⟨Qg c,.lst Qh (f.cut.same (Qg c)),by simp,λb m=>by rw[Aw.mp m];exact c⟩ g⟩)
 ·have i:=u;cases y with
  | @kls a xs _ n f=>
   obtain⟨x,g⟩:=i;exact .inl (.inl ⟨a,xs,rfl,n.sq,λl c=>fin _ _ _ [l] ⟨Qg c,.lst Qh (f.cut.same (Qg c)),by simp,λb m=>by rw[Aw.mp m];exact c⟩ g⟩)
 ·have i:=u;cases y with
  | @tup a xs _ F n f=>
   obtain⟨x,g⟩:=i;obtain⟨_,f⟩:=f.pure x;by_cases A:HT.sIx ds.length 0 lo=0/\HT.sIx ds.length ds.length hi=ds.length
   ·rw[Qor A]at g;exact .inr ⟨a,xs,rfl,.of n,by rw[f.length];exact A,fin _ _ _ [] (.flat (.tup n f)) g⟩
   ·exact .inl (.inr ⟨a,xs,rfl,.of n,by rw[f.length];exact A,λl c=>fin _ _ _ [] ⟨Qg c,.tup Qh (f.cut.same (Qg c)),by simp,λb m=>nomatch m⟩ g⟩)
end
section
variable {T:Tg}
def Qr8:WS:=λ_ _=>False
theorem Qpq:SV X T st Qr8:=⟨λ_ _ _=>False,λpins s σ H D I h=>h.elim,λz R σ H W ρ P E s hw l=>hw.elim⟩
end
section
variable {T:Tg}
def dSum:GA
 | [.lst ds],k=>∃ns:List Int,ds=ns.map D.int/\k (.int ns.sum)
 |_,_=>False
def Qkb:GA
 | [.dik kvs],k=>∃ns:List Int,kvs.map (·.1)=ns.map Fm/\kvs.length<64/\∀out:List Int,out.Perm ns->out.Pairwise (· <= ·)->k (.lst (out.map D.int))
 |_,_=>False
theorem Qrn(j:X.calm=true):X8 X (.builtin "sorted") Qkb:=by
 refine⟨_,Qle j,λH ds xs F k Q r g q=>?_⟩;cases ds with
 |nil=>exact(show False from g).elim
 | cons d ds=>
  cases ds with
  |cons _ _=>cases d<;>exact(show False from g).elim
  | nil=>
   cases d with
   | dik es=>
    obtain⟨v,rfl,rd⟩:=r.at1;obtain⟨ns,h,a,g⟩:=g;cases rd with
    |dik e b=>
    refine⟨_,_,ns,rfl,.of e,by rw[b.keys];exact h,by rw[b.length];exact a,λout D i ho f=>?_⟩;exact q _ _ _ [D] ⟨Qg f,.lst Qh (Reps.ints out),by simp,λc m=>by rw[Aw.mp m];exact f⟩ (g out i ho)
   |_=>exact(show False from g).elim
def Qtg(d:D)(ds:List D)(k:D->Prop):Prop:=match d,ds with
 | .ftp xs,[.int n]=>∃ns:List Int,xs=ns.map D.int/\k (.int (ns.count n:Nat))
 |_,_=>False
def isFt:D->Bool
 | .ftp _=>true
 |_=>false
def Qis(w:WE)(wr:WA):WE:=λρ Q=>w ρ λd ρ1=>isFt d=true/\wr ρ1 λds ρ2=>Qtg d ds λr=>Q r ρ2
theorem Qj5(ho:EV X T false o oe w)(y:AV X T false o2 [e] wr)
  (c:attributeBase oe "count" X.env (eval oe X.env)=eval oe X.env:=by rfl)
  (d:((backTo cpos (starEach [e] X.env)).all (λx=>!x.1)&&(backToKw cpos (keywordEach [] X.env)).all (λx=>x.1.isSome)
   && decide (([e]:List Expr).length+([]:List Keyword).length+(if ([]:List Keyword).isEmpty then 0 else 1)<30))=true:=by rfl)
  (b:(apos.endLine==cpos.line)=true:=by rfl) (B:starEach [e] X.env=(false,eval e X.env)::starEach [] X.env:=by rfl) (a:(backTo cpos (starEach [] X.env)).any (·.1)=false:=by rfl) :
  EV X T false true (.Call (.Attribute oe "count" apos) [e] [] cpos) (Qis w wr):=by
 obtain⟨te,K,D⟩:=ho;obtain⟨ta,pa,M⟩:=y;refine⟨_,Qyc PySem.F.plainAttrs_tuple L8 PySem.F.type_tuple_count Qm5 K pa c d b B a,λz R σ H W ρ Q Q' s hw k=>?_⟩;refine D z R σ H W ρ _ _ s hw λv1 H1 W1 d1 ρ1 F1 p i=>?_;obtain⟨h,i⟩:=i;cases d1<;>try (simp[isFt]at h;done)
 rename_i xs;have v:=p.rep;obtain⟨j,F,I⟩:=p.calm rfl;subst F I;have l:FT v1 H1:=by
  cases v with
  |ftp r hd t=>exact⟨_,_,_,rfl,r,hd⟩
 refine⟨l,M z R σ H1 _ _ _ _ p.sr i λvs H2 W2 ds ρ2 F2 q L=>?_⟩;obtain⟨f,C,G⟩:=q.calm rfl;subst C G;have g:=v.same f;have m:=q.rep
 match ds,m,L with
 | [.int n],m,A=>
  obtain⟨ns,rfl,E⟩:=A;obtain⟨u,rfl,J⟩:=m.at1;cases J;cases g with
  | ftp r hd t=>
   obtain⟨rfl,-⟩:=t.of_ints;exact⟨_,_,ns,n,rfl,rfl,r,k _ H2 _ _ _ [] (Post.flat (s.same (j.trans f)) (FrW.same _ (j.trans f)) (λ_=>⟨j.trans f,rfl,rfl⟩) (.int _)) E⟩
end
section
variable {T:Tg}{wt:WT}
def TB(q:Nat):Tg:={ own:=λi=>i==q,io:=[q] }
def dAll:GA
 | [.lst ds],k=>∃bs:List Bool,ds=bs.map D.bl/\k (.bl (bs.all id))
 |_,_=>False
def Qbs(xs ys:List D):List D:=(xs.zip ys).map λp=>.tup [p.1,p.2]
def Vv(ρ:Env)(d1 d2:D)(ix:List Nat):Env:=some d1::some d2::ix.map (look ρ)
def two2(d:D)(k:D->D->Prop):Prop:=match d with
 | .tup [a,b]=>k a b
 | .kc (.tup [a,b])=>k (kcD a) (kcD b)
 |_=>False
theorem two2_rep{K:Frag}{k:D->D->Prop}(r:Rep K H d v F)(q:two2 d k):∃g v1 v2 d1 d2 F1 F2,v=.ref g/\SqT K H g [v1,v2]/\Rep K H d1 v1 F1/\Rep K H d2 v2 F2/\k d1 d2:=by
 cases r with
 | @tup a xs ds F e r=>
  match ds,r,q with
  | [d1,d2],r,q=>
   obtain⟨v1,v2,F1,F2,rfl,f,b⟩:=r.at2;exact⟨a,v1,v2,d1,d2,F1,F2,rfl,.of e,f,b,q⟩
 | @kc c v h=>
  match c,h,q with
  | .tup [d1,d2],h,q=>
   obtain⟨a,xs,rfl,j,i⟩:=h.sqT;have r:Reps K H [kcD d1,kcD d2] xs []:=i.reps;obtain⟨v1,v2,F1,F2,rfl,f,b⟩:=r.at2;exact⟨a,v1,v2,kcD d1,kcD d2,F1,F2,rfl,j H,f,b,q⟩
 |_=>exact(show False from q).elim
def Qov(ds:List D)(wt:WT)(we:WE)(ρ1:Env)(ix:List Nat)(Q:D->Env->Prop):Prop:=∃I:Nat->List D->Prop,I 0 [] /\
 (∀i d ys,ds[i]? = some d->I i ys->ys.length<sizeLine/\two2 d λd1 d2=>wt (Vv ρ1 d1 d2 ix) λb _=>if b=true then we (Vv ρ1 d1 d2 ix) (λy _=>I (i+1) (ys++[y]))else I (i+1) ys) /\
 ∀ys,I ds.length ys->ys.length<=sizeLine/\Q (.lst ys) ρ1
def G6(wl:WL)(wt:WT)(we:WE)(ix:List Nat):WE:=λρ Q=>wl ρ λds ρ1=>Qov ds wt we ρ1 ix Q
def Qph(X:Cx)(T:Tg)(m:Bool)(elt iter tg:Expr)(ts:List Str)(gt:TG)(scope:Scope)(ifs:List Expr)(ix:List Nat)(w:WE):Prop :=
 ∃(wi:TI) (tt:TT) (te:TE),PI X tg iter wi/\(∀cl C s₀ H₀ fp,PIfs (Yr X scope cl C (bN2 X.N ts ix) s₀ H₀ fp) ifs tt)/\(∀cl C s₀ H₀ fp,PE (Yr X scope cl C (bN2 X.N ts ix) s₀ H₀ fp) elt te) /\
  ∀(z:Nat->V) (R:Addr->Prop) (σ:St) (H:Hp) (W:Addr->Prop) (ρ:Env) (Q:D->Env->Prop) (Q':VK),SR X.K T z R H W σ ρ->w ρ Q ->
   (∀v H' W' d a F,Post X.K T z R m true H W σ ρ H' W' a d v F->Q d a->Q' v H')->Qsd ts wi gt tt te ix σ H Q'
def g2(K:Frag):TG:=gTup K 2 (Qv4 (Qgu 0) (Qv4 (Qgu 1) gNil))
theorem Qbp(ix:List Nat)(hi:IV X T m pr (.Tuple [.Name x px,.Name y py] kt pt) iter wl)
  (ht:∀cl C s₀ H₀ fp,CV (Yr X scope cl C (bN2 X.N [x,y] ix) s₀ H₀ fp) ifs wt) (he:∀cl C s₀ H₀ fp,EV (Yr X scope cl C (bN2 X.N [x,y] ix) s₀ H₀ fp) TR false true elt we) :
  Qph X T m elt iter (.Tuple [.Name x px,.Name y py] kt pt) [x,y] (g2 X.K) scope ifs ix (G6 wl wt we ix):=by
 obtain ⟨wi,pi,gi⟩:=hi;refine⟨wi,λσ H Q=>∀cl C s₀ H₀ fp,Rg (ht cl C s₀ H₀ fp) σ H Q,λσ H Q=>∀cl C s₀ H₀ fp,Rg (he cl C s₀ H₀ fp) σ H Q,pi,
  λcl C s₀ H₀ fp pins s σ H Q I h=>(Dl (ht cl C s₀ H₀ fp)).1 pins s σ H Q I (h cl C s₀ H₀ fp),λcl C s₀ H₀ fp pins s σ H Q I h=>(Dl (he cl C s₀ H₀ fp)).1 pins s σ H Q I (h cl C s₀ H₀ fp),?_⟩
 intro z R σ H W ρ Q Q' s hw k;refine gi z R σ H W ρ _ _ s hw λJ H1 W1 ds ρ1 p jd q=>?_;obtain⟨I,h0,hI,hd⟩:=q;refine⟨λi n ys H2=>n=ds.length-i/\i<=ds.length/\Same H1 H2/\∃es F,Reps X.K H2 es ys F/\F.Nodup/\(∀a∈F,H1 a=none)/\I i es,ds.length,⟨by simp,Dq _,Same.refl _,[],[],.nil,Df,(λa m=>(nomatch m)),h0⟩,?_⟩;rintro i n ys H2 ⟨rfl,hi,r,es,F,re,nd,U,i2⟩;obtain⟨j1,j2⟩:=jd i H2 (wz pr W1) (FrW.same _ r);by_cases t:i<ds.length
 ·have G:ds[i]? = some ds[i]:=Bu t;obtain⟨V,hy⟩:=j2 _ G;obtain⟨hz,E⟩:=hI i _ es G i2;refine .inr ⟨V,by rw[re.length];exact hz,λv D yl o ol=>?_⟩;obtain⟨f,Fv,rv,_⟩:=hy v D yl;generalize ds[i]=dd at E rv;obtain⟨av,v1,v2,d1,d2,F1,F2,rfl,ev,r1,r2,E⟩:=two2_rep rv E
  ··refine ⟨av,[v1,v2],rfl,ev,rfl,v1,[v2],rfl,v2,[],rfl,rfl,[some v1,some v2],?_,rfl,?_⟩
    ·match o,ol with
     | [o1,o2],_=>rfl
    have Y:∀z',SR X.K TR z' (Any D) D (λ_=>False) (((bS2 σ o ix).set 0 (some v1)).set 1 (some v2)) (Vv ρ1 d1 d2 ix):=λz'=>by
     have eS:((bS2 σ o ix).set 0 (some v1)).set 1 (some v2)=bS2 σ [some v1,some v2] ix:=by
      match o,ol with
      | [o1,o2],_=>rfl
     rw[eS];refine SR.readonly rfl (by simp[bS2,Vv]) λj d O=>⟨rfl,?_⟩
     match j with
     | 0=>
      simp only[Vv,look,Nj]at O;subst O;exact⟨v1,F1,rfl,r1⟩
     | 1=>
      simp only[Vv,look,Nj]at O;subst O;exact⟨v2,F2,rfl,r2⟩
     | j+2=>
      have c:look (ix.map (look ρ1)) j=some d:=O;rw[Qe1]at c;cases hx:ix[j]? with
      |none=>rw[hx]at c;cases c
      | some q=>
       rw[hx]at c;obtain⟨fp,s1⟩:=(p.sr.same r).same f;obtain⟨u,hu,ru⟩:=s1.at_ q d c;refine⟨u,fp q,?_,ru⟩;show(ix.map λi=>(σ[i]?).getD none)[j]? = some (some u);rw[Bh,hx];simp[hu]
    intro cl C s₀ H₀ fp;refine(Dl (ht cl C s₀ H₀ fp)).2 (λ_=>.non) (Any D) _ D (λ_=>False) (Vv ρ1 d1 d2 ix) _ _ (Y _) E λbb H4 W4 ab p4 q4=>?_;obtain⟨g,ac,N⟩:=p4.calm rfl;have A:=((re.same f).same g)
    cases bb with
    |false=>exact⟨ds.length-(i+1),by lia,rfl,t,(r.trans f).trans g,es,F,A,nd,U,q4⟩
    | true=>
     show if true=true then _ else _
     rw[if_pos rfl];intro cl C s₀ H₀ fp;refine(Dl (he cl C s₀ H₀ fp)).2 (λ_=>.non) (Any D) _ H4 W4 (Vv ρ1 d1 d2 ix) _ _ (N ▸ p4.sr) (by simpa using q4) λu H5 W5 y aa Fy Z q5=>?_;obtain⟨M,_,_⟩:=Z.calm rfl;obtain⟨ny,ky⟩:=Z.own rfl;have K:Same H1 H5:=((r.trans f).trans g).trans M;refine⟨ds.length-(i+1),by lia,rfl,t,K,es++[y],F++Fy,(A.same M).snoc Z.rep,Qcn nd ny λa w hf=>?_,λa w=>?_,q5⟩
     ·obtain⟨ob,P,_⟩:=A.dom a hf;rw[(ky a w).1]at P;cases P
     ·rcases Bx.mp w with w|w
      ·exact U a w
      ·exact((r.trans f).trans g).free (ky a w).1
 ·have e:i=ds.length:=by lia
  subst e;obtain⟨hz,E⟩:=hd es i2;refine .inl ⟨j1 (At _),by rw[re.length];exact hz,λl B=>?_⟩;have L:H1 l=none:=r.free B;refine k _ _ W1 (.lst es) ρ1 (l::F) ⟨(p.sr.same r).same (Qg B),(p.fr.trans (FrW.same W1 r)).trans (FrW.same W1 (Qg B)),λh=>⟨((p.calm h).1.trans r).trans (Qg B),(p.calm h).2⟩,.lst Qh (re.same (Qg B)),λ_=>⟨Bf.mpr ⟨λh=>?_,nd⟩,λb S=>?_⟩⟩ E
  ·obtain⟨ob,P,_⟩:=re.dom l h;rw[B]at P;cases P
  ·rcases Ay.mp S with rfl|S
   ·exact⟨p.fr.dom _ L,p.sr.nw L⟩
   ·exact⟨p.fr.dom _ (U b S),p.sr.nw (U b S)⟩
structure CompB2(X:Cx)(scope:Scope)(x y:Str)(ix:List Nat):Prop where
 B1:CompB X scope x ix
 B2:CompB X scope y ix
 nd:(bN2 X.N [x,y] ix).Nodup
theorem X3(a:Scope)(N:List Str)(h:(Qrk a scope N x ix&&Qrk a scope N y ix&&decide (bN2 N [x,y] ix).Nodup)=true)(h1:X.env.scope=a:=by rfl)(h2:X.N=N:=by rfl):CompB2 X scope x y ix:=by
 simp only[B6,decide_eq_true_eq]at h;exact⟨Vc a N h.1.1 h1 h2,Vc a N h.1.2 h1 h2,by rw[h2];exact h.2⟩
theorem pg2(B:CompB2 X scope x y ix)(c:X.calm=true)(cl:List (Str×Addr))(C:Addr)(s₀:Shared)(H₀:Hp)(fp:List Addr) :
  PG (Yr X scope cl C (bN2 X.N [x,y] ix) s₀ H₀ fp) (.Tuple [.Name x px,.Name y py] kt pt) (g2 X.K):=by
 have a:(Yr X scope cl C (bN2 X.N [x,y] ix) s₀ H₀ fp).env.scope.names.lookup x=some .local:=Sy B.B1.B.lx;have b:(Yr X scope cl C (bN2 X.N [x,y] ix) s₀ H₀ fp).env.scope.names.lookup y=some .local:=Sy B.B2.B.lx;exact Qsv c (Qes (Qet (i:=0) B.nd rfl (.inl a) (.inr a)) (Qes (Qet (i:=1) B.nd rfl (.inl b) (.inr b)) Qmp))
theorem Qbl(h:Qph X T m elt iter (.Tuple [.Name x px,.Name y py] kt pt) [x,y] (g2 X.K) scope ifs ix w)(B:CompB2 X scope x y ix)(a:X.calm=true:=by rfl)
  (c:∀x,foldedSetIterable iter X.env x=pure x:=by intro _;rfl):EV X T m true (.ListComp elt [⟨.Tuple [.Name x px,.Name y py] kt pt,iter,ifs,0⟩] scope pos) w:=by
 obtain⟨wi,tt,te,h1,h2,b,h4⟩:=h;exact⟨_,Qqi ix a B.B1.B B.B1.hix B.nd h1 (pg2 B a) h2 b c,h4⟩
end
end PV
namespace PV
open PySem PySem.Spec L2
open Builtin.Str (glued tooLong)
section
variable {T:Tg}
def Qct(kvs:List (Key×D)):List D:=kvs.map λa=>.tup [kD a.1,a.2]
def Qnn(d:D)(k:List D->Prop):Prop:=match d with
 | .dik kvs=>k (Qct kvs)
 |_=>False
def Qr9(w:WE):WL:=λρ Q=>w ρ λd a=>Qnn d λds=>Q ds a
theorem Qqz(h:EV X T m true oe w)(t:attributeBase oe "items" X.env (eval oe X.env)=eval oe X.env:=by rfl)(o:(apos.endLine==cpos.line)=true:=by rfl):IV X T m true (.Tuple ts kt pt) (.Call (.Attribute oe "items" apos) [] [] cpos) (Qr9 w):=by
 obtain ⟨te,pe,Y⟩:=h;refine⟨_,Qqb pe t o,λz R σ H W ρ Q RR s hw k=>?_⟩;refine Y z R σ H W ρ _ _ s hw λv H1 W1 d ρ1 F p q=>?_;obtain⟨es,rfl⟩:∃es,d=D.dik es:=by
  clear p;cases d with
  |dik es=>exact⟨es,rfl⟩
  |_=>exact(show False from q).elim
 obtain⟨p1,p2,U,p4,p5⟩:=p;obtain⟨nd,O⟩:=p5 rfl;cases p4 with
 | @dik l kvs _ F J r=>
  have g:=O l An;obtain⟨nF,aa⟩:=Bf.mp nd;refine⟨l,kvs,rfl,J,λob=>k _ _ W1 (Qct es) ρ1 ⟨?_,?_,λh=>?_⟩ ?_ q⟩
  ·-- the state: nobody's address
   obtain⟨fp,j⟩:=p1;have hi:ImmK H1 (upd H1 l (.frz ob (.dK kvs))):=Um J rfl;refine⟨fp,j.len,λa c=>?_,λi d G=>?_,j.own,j.ro,j.wr,λa c=>?_,j.dis,j.fix⟩
   ·have:a≠l:=λz=>g.2 (z ▸ c);rw[Qm this];exact j.wd a c
   ·obtain⟨u,h1,h2⟩:=j.at_ i d G;refine⟨u,h1,h2.frame hi λa c=>Qm λz=>?_⟩;subst z;cases C:T.own i with
    |true=>exact g.2 ((j.own i d G C).2 _ c)
    |false=>exact s.nr g.1 (j.ro i d G C _ c)
   ·have:a≠l:=λz=>s.nr g.1 (z ▸ c);rw[Qm this];exact j.rd a c
  ·refine ⟨λb u e n=>?_,λb e=>?_,λb u e im=>?_,p2.new⟩
   ·have:b≠l:=λz=>by rw[z,g.1]at e;cases e
    rw[Qm this];exact p2.keep b u e n
   ·by_cases E:b=l
    ·rw[E,Qh]at e;cases e
    ·rw[Qm E]at e;exact p2.dom b e
   ·have:b≠l:=λz=>by rw[z,g.1]at e;cases e
    rw[Qm this];exact p2.imm b u e im
  ·obtain⟨a1,Z,a3⟩:=U h;refine⟨λb u e=>?_,Z,a3⟩;have:b≠l:=λz=>by rw[z,g.1]at e;cases e
   rw[Qm this];exact a1 b u e
  ·rw[X9];intro i H2 W2 f;have L:H2 l=some (.frz ob (.dK kvs)):=f.imm _ _ Qh rfl;have P:kvs.length=es.length:=r.length;refine⟨λhi=>⟨L,by unfold Qct at hi;rw[Ap]at hi;lia⟩,λd hd=>?_⟩;unfold Qct at hd;have hi:i<es.length:=by have:=(Au.mp hd).1;rwa [Ap]at this
   refine⟨⟨L,by lia⟩,λv H3 y=>?_⟩;obtain⟨kk,yy,pp,V,rfl,N,rfl⟩:=y;obtain⟨d',B,h1,h2,K⟩:=r.get V;rw[Bh,h1]at hd;cases hd;have M:∀a∈B,¬W1 a:=λa c=>(O a (Am _ (K.subset c))).2;have I:l∉B:=λE=>nF (K.subset E);have x:=(h2.upd (ob':=.frz ob (.dK kvs)) J rfl I)
   have A:=x.keep f M;refine⟨Qg N,[]++(B++[]),.tup Qh (.cons (Qxd kk) (.cons (A.same (Qg N)) .nil)),λa c hw=>?_⟩;have c:a∈B:=by simpa using c
   rcases f.new a hw with h|h
   ·exact M a c h
   ·obtain⟨ob,S,_⟩:=x.dom a c;rw[h]at S;cases S
end
end PV
variable {j:Int}{kvs:List (L2.Key×PV.D)}{kk:PV.D->PV.D->Prop}
namespace PV
open PySem PySem.Spec L2 PyProof.Rows
section
variable {T:Tg}{k:Nat}
def gPopT:GM
 | .dit kvs,[.tup xs],k=>oget (Ui xs) λks=>oget (valD kvs ks) λd=>d.pure=true/\k d (.dit (Ze kvs ks))
 |_,_,_=>False
theorem Qzs(N:T.own i=false:=by rfl)(hN:X.N[i]? = some x:=by rfl)(L:Vis X.env.scope x:=by first|exact Ms rfl|exact Fg (Ms rfl)|exact Fg (Fg rfl))(hd:(x==("__debug__":Str))=false:=by decide)
  (C:(x==("__classdict__":Str))=false:=by decide):IV X T false true tg (.Name x p) (V6 (wVar i)):=by
 refine⟨_,Qsu (Uf hN L hd C),λz R σ H W ρ Q RR s hw k=>?_⟩;unfold V6 wVar at hw;cases n:look ρ i with
 |none=>rw[n]at hw;exact hw.elim
 |some d=>
 rw[n]at hw;have q:=hw;obtain⟨fp,E⟩:=id s;obtain⟨v,h1,t⟩:=E.at_ i d n;have u:∀b∈fp i,¬W b:=λb g hw=>E.wr b hw (E.ro i d n N b g);refine⟨v,h1,?_⟩;cases d with
 | tup ds=>
  obtain⟨S,q⟩:=q;obtain⟨U,I⟩:=t.pure (by simpa[D.pure]using S);cases I with
  | @tup a xs _ _ m r=>
   refine⟨a,rfl,.inr ⟨⟨xs,.of m⟩,k _ H W ds ρ ⟨s,FrW.refl H W,λ_=>⟨Same.refl H,rfl,rfl⟩⟩ (λi H2 W2 f=>?_) q⟩⟩;have e:H2 a=some (.tup xs):=f.imm _ _ m rfl;refine⟨λhi=>⟨xs,.of e,by rw[r.length];exact hi⟩,λd hd=>?_⟩;obtain⟨x,B,j,o,l⟩:=r.get hd;refine⟨⟨xs,x,.of e,j⟩,λv P y=>?_⟩;obtain⟨rfl,y⟩:=y;have:=y xs (.of e);rw[j]at this;cases this;exact⟨Same.refl _,B,o.keep f (λa w=>(nomatch l.subset w)),(λa w=>(nomatch l.subset w))⟩
 | lst ds=>
  generalize O:fp i=G at t u;cases t with
  | @lst a xs _ F m r=>
   refine⟨a,rfl,.inl ⟨⟨xs,.of m⟩,k _ H W ds ρ ⟨s,FrW.refl H W,λ_=>⟨Same.refl H,rfl,rfl⟩⟩ (λi H2 W2 f=>?_) q⟩⟩;rw[X9]at f;have e:H2 a=some (.lst xs):=f.keep _ _ m (u a An);refine⟨λhi=>⟨xs,.of e,by rw[r.length];exact hi⟩,λd hd=>?_⟩;obtain⟨x,B,j,o,l⟩:=r.get hd;refine⟨⟨xs,x,.of e,j⟩,λv P y=>?_⟩;obtain⟨rfl,y⟩:=y;have:=y xs (.of e);rw[j]at this;cases this;refine⟨Same.refl _,B,o.keep f λb g=>u b (Am _ (l.subset g)),λb g hw=>?_⟩;have A:b∈a::F:=Am _ (l.subset g);rcases f.new b hw with h|h
   ·exact u b A h
   ·obtain⟨ob,K,_⟩:=o.dom b g;rw[h]at K;cases K
 | kc c=>
  cases c with
  | tup ks=>
   obtain⟨-,I⟩:=t.pure (by rw[D.pure]);cases I with
   | kc h=>
    obtain⟨a,xs,rfl,J,M⟩:=h.sqT;exact⟨a,rfl,.inr ⟨⟨xs,J H⟩,k _ H W (ks.map kcD) ρ ⟨s,FrW.refl H W,λ_=>⟨Same.refl H,rfl,rfl⟩⟩ (Qzo J M) q⟩⟩
  |_=>exact(show False from q).elim
 |_=>exact(show False from q).elim
def Qxb(ds:List D)(k:List D->Prop):Prop:=match ds with
 | [.tup xs]=>Qj xs=true/\k xs.reverse
 |_=>False
def wRev(wr:WA):WL:=λρ Q=>wr ρ λds a=>Qxb ds λl=>Q l a
theorem Qzr(hm:X.mg "reversed" = none)(r:AV X T m o [a] wr)(hg:Gl X "reversed":=by rfl)(t:starEach [a] X.env=[(false,eval a X.env)]:=by rfl):IV X T m true tg (.Call (.Name "reversed" p) [a] [] pos) (wRev wr):=by
 obtain ⟨ta,pa,B⟩:=r;refine⟨_,Qx7 hg hm pa t,λz R σ H W ρ Q RR s hw k=>?_⟩;refine B z R σ H W ρ _ _ s hw λvs H1 W1 ds ρ1 F p q=>?_;have l:=p.rep;obtain⟨xs,rfl⟩:∃xs,ds=[D.tup xs]:=by
  clear l;cases ds with
  |nil=>exact(show False from q).elim
  | cons j x=>
   cases x with
   | nil=>
    cases j with
    |tup xs=>exact⟨xs,rfl⟩
    |_=>exact(show False from q).elim
   |cons _ _=>cases j<;>exact(show False from q).elim
 obtain⟨f,q⟩:=q;obtain⟨v,rfl,w⟩:=l.at1;cases w with
 | @tup g b _ _ n e=>
  obtain⟨-,e⟩:=e.pure f;have A:=e.length;refine⟨g,b,rfl,.of n,k _ H1 W1 xs.reverse ρ1 ⟨p.sr,p.fr,p.calm⟩ (λi H2 W2 fr=>?_) q⟩;have c:H2 g=some (.tup b):=fr.imm g _ n rfl;refine⟨λhi=>?_,λd hd=>?_⟩
  ·rw[R6]at hi;show b.length<=i;lia
  ·have hi:i<xs.length:=by
    have:=(Au.mp hd).1
    rwa [R6]at this
   rw[List.getElem?_reverse hi]at hd;obtain⟨v1,B1,h,g2,u⟩:=e.get hd;have:=Fw.mp u;subst this;rw[← A]at h;refine⟨⟨b,v1,.of c,rfl,by lia,h⟩,λv C y=>?_⟩;obtain⟨rfl,h2⟩:=y;have:=h2 b (.of c);rw[h]at this;cases this;exact⟨Same.refl _,[],g2.keep fr (λa m=>nomatch m),λa m=>nomatch m⟩
end
theorem sz0:(0<=sizeLine)=True:=propext ⟨λ_=>trivial,λ_=>by decide⟩
theorem sz1:(1<=sizeLine)=True:=propext ⟨λ_=>trivial,λ_=>by decide⟩
theorem sz2:(2<=sizeLine)=True:=propext ⟨λ_=>trivial,λ_=>by decide⟩
theorem sz3:(3<=sizeLine)=True:=propext ⟨λ_=>trivial,λ_=>by decide⟩
theorem sz4:(4<=sizeLine)=True:=propext ⟨λ_=>trivial,λ_=>by decide⟩
theorem Qxu{k:List D->Prop}:Qxb [.tup xs] k=(Qj xs=true/\k xs.reverse):=rfl
end PV
variable {b c:Bool}{k:List PV.D->Prop}{r:Int}
namespace PV
open PySem PySem.Spec L2
theorem X4{a:Type}(xs:List a)(j:Nat):L2.atI xs (j:Int)=xs[j]?:=by
 unfold L2.atI ixN;rw[if_pos (by lia)];by_cases h:j<xs.length
 ·rw[if_pos (by lia)];simp
 ·rw[if_neg (by lia)];simp;lia
theorem Qdp{a:Type}(xs:List a):L2.atI xs 0=xs[0]?:=X4 xs 0
theorem Qdc{a:Type}(xs:List a):L2.atI xs 1=xs[1]?:=X4 xs 1
theorem Qpa{a:Type}(xs:List a):L2.atI xs 2=xs[2]?:=X4 xs 2
theorem Q0j{a:Type}(xs:List a):L2.atI xs 3=xs[3]?:=X4 xs 3
theorem Uj{j:Nat}(h:j<n):ixN n (j:Int)=some j:=by
 unfold ixN;rw[if_pos (by lia),if_pos (by lia)];simp
theorem Q16(h:0<n):ixN n 0=some 0:=Uj h
theorem Q15(h:1<n):ixN n 1=some 1:=Uj h
theorem Qb8{j:Nat}(h:j<n):seqIndex? (j:Int) n=some j:=(Qe4 (Uj h)).1
theorem Quc(h:0<n):seqIndex? 0 n=some 0:=Qb8 h
theorem Qk{a:Type}{d:a}{k:a->Prop}:oget (some d) k=k d:=rfl
theorem Qw:wVar i ρ Q=oget (look ρ i) λd=>Q d ρ:=by
 unfold wVar oget;cases look ρ i<;>rfl
section
variable {i:Int}{k:D->Prop}
theorem Qp0:dSub (.int i) (.int j) k=k (.int (i-j)):=rfl
theorem Qxk:dMul (.int i) (.int j) k=(CMul i j/\k (.int (i*j))):=rfl
theorem Qxj:dMul (.lst xs) (.int j) k=(Qj xs=true /\ -(2 ^ 63)<=j/\j<2 ^ 63/\xs.length*j.toNat<=sizeLine/\k (.lst (Bo j.toNat xs).flatten)):=rfl
theorem Q1d:dDiv (.int i) (.int j) k=((0<j/\j<1073741824/\k (.int (i/j)))\/(j<0/\j.natAbs<1073741824/\k (.int (i.fdiv j)))):=rfl
theorem Q1b:dMod (.int i) (.int j) k=((0<j/\k (.int (i%j)))\/(j<0/\k (.int (i.fmod j)))):=rfl
theorem Q08:dPow (.int i) (.int j) k=(CPow i j/\k (.int (i ^ j.toNat))):=rfl
theorem Qxi:dNeg (.int i) k=k (.int (-i)):=rfl
theorem Qxo:dEq (.int i) (.int j) k=k (.bl (decide (i=j))):=rfl
theorem Q1a:dNe (.int i) (.int j) k=k (.bl (!decide (i=j))):=rfl
theorem Q09:dNe (.tup xs) d k=(eqOk 9 (.tup xs)=true/\eqOk 9 d=true/\(.tup xs=d->k (.bl false))/\(.tup xs≠d->k (.bl true))):=by cases d<;>rfl
theorem Qul{f:Int->Int->Bool}:dCmp f (.int i) (.int j) k=k (.bl (f i j)):=rfl
theorem Qmf:dIx (.lst xs) (.int i) k=oget (L2.atI xs i) k:=rfl
theorem Qcd:dIx (.tup xs) (.int i) k=oget (L2.atI xs i) k:=rfl
theorem Qsk:dIx (.dik kvs) (.int i) k=oget (valD kvs (.inl i)) k:=rfl
theorem Qxl:dLen [.lst xs] k=k (.int xs.length):=rfl
theorem Qme:dLen [.tup xs] k=k (.int xs.length):=rfl
theorem Qxn:dInt [.bl b] k=k (.int (if b then 1 else 0)):=rfl
theorem Q1c:Qwh [.int i,.int j] k=k (.int (if j<i then j else i)):=rfl
theorem Quj:Qrg [.tup xs] k=(Qj xs=true/\k (.lst xs)):=rfl
theorem Xf:Vb [.lst xs] k=(Qj xs=true/\k (.tup xs)):=rfl
theorem Qmc:Qkc [.int i] k=(0<=i/\i<=1000/\k (.lst (rngD 0 i.toNat))):=rfl
theorem Qxm{t:Ty}:dIsi [d,.ty t] k=oget (isiD d t) λb=>k (.bl b):=rfl
theorem Qmb:dSet (.lst xs) (.int i) d k=oget (ixN xs.length i) λn=>k (.lst (xs.set n d)):=rfl
theorem Qho:dSet (.dik kvs) (.int i) d k=(kvs.length<sizeLine/\k (.dik (putD kvs (.inl i) d))):=rfl
end
section
variable {i:Int}
theorem Q1e:Qe8 (.lst xs) [d] kk=(xs.length<sizeLine/\kk .non (.lst (xs++[d]))):=rfl
theorem Qmd:Qj4 (.lst xs) [.int i] kk=(-(2 ^ 63)<=i/\i<2 ^ 63/\oget (seqIndex? i xs.length) λj=>oget xs[j]? λd=>d.pure=true/\kk d (.lst (xs.eraseIdx j))):=rfl
end
section
variable {i:Int}{k:D->Prop}
theorem Qje(h:0<j)(h2:j<1073741824):dDiv (.int i) (.int j) k=k (.int (i/j)):=by
 rw[Q1d];apply propext;exact⟨λq=>q.elim (λz=>z.2.2) (λz=>absurd z.1 (by lia)),λq=>.inl ⟨h,h2,q⟩⟩
theorem Qjd(h:0<j):dMod (.int i) (.int j) k=k (.int (i%j)):=by
 rw[Q1b];apply propext;exact⟨λq=>q.elim (λz=>z.2) (λz=>absurd z.1 (by lia)),λq=>.inl ⟨h,q⟩⟩
theorem Xh(h:-18446744073709551616<i)(h2:i<18446744073709551616):dMul (.int i) (.int j) k=k (.int (i*j)):=by
 rw[Qxk];exact propext ⟨λq=>q.2,λq=>⟨.inl ⟨by lia,by lia⟩,q⟩⟩
theorem Qsj(h:-18446744073709551616<j)(h2:j<18446744073709551616):dMul (.int i) (.int j) k=k (.int (i*j)):=by
 rw[Qxk];exact propext ⟨λq=>q.2,λq=>⟨.inr ⟨by lia,by lia⟩,q⟩⟩
theorem Qxh(h:0<=j)(h2:j<=1000000)(a:-18446744073709551616<i)(h4:i<18446744073709551616):dPow (.int i) (.int j) k=k (.int (i ^ j.toNat)):=by
 rw[Q08];exact propext ⟨λq=>q.2,λq=>⟨⟨h,h2,by lia⟩,q⟩⟩
end
def blOf(d:D)(k:Bool->Prop):Prop:=match d with
 | .bl b=>k b
 |_=>False
theorem r_bl{Q:Bool->Env->Prop}:wBl w ρ Q=w ρ λd a=>blOf d λb=>Q b a:=by
 show(w ρ λd a=>match d with | .bl b=>Q b a|_=>False)=_;rfl
theorem Zv{k:Bool->Prop}:blOf (.bl b) k=k b:=rfl
def Qtw(d:D)(k:Bool->Prop):Prop:=oget (truD d) k
theorem Qma{Q:Bool->Env->Prop}:wTru w ρ Q=w ρ λd a=>Qtw d λb=>Q b a:=by
 unfold wTru;congr 1;funext d a;unfold Qtw oget;cases truD d<;>rfl
theorem Qf2{k:Bool->Prop}:Qtw (.bl b) k=k b:=rfl
def Qpw(d:D)(k:List D->Prop):Prop:=match d with
 | .tup ds=>Qj ds=true/\k ds
 | .lst ds=>k ds
 | .kc (.tup ks)=>k (ks.map kcD)
 |_=>False
theorem Xg{Q:List D->Env->Prop}:V6 w ρ Q=w ρ λd a=>Qpw d λds=>Q ds a:=by
 show(w ρ λd a=>match d with | .tup ds=>Qj ds=true/\Q ds a | .lst ds=>Q ds a | .kc (.tup ks)=>Q (ks.map kcD) a|_=>False)=_;rfl
theorem Qf4:Qpw (.tup xs) k=(Qj xs=true/\k xs):=rfl
theorem Qcb:Qpw (.lst xs) k=k xs:=rfl
def Qzu(d:D)(k:Option Int->Prop):Prop:=match d with
 | .int i=>k (some i)
 |_=>False
theorem Qf3{Q:Option Int->Env->Prop}:Qde w ρ Q=w ρ λd a=>Qzu d λi=>Q i a:=by
 show(w ρ λd a=>match d with | .int i=>Q (some i) a|_=>False)=_;rfl
theorem Qce{i:Int}{k:Option Int->Prop}:Qzu (.int i) k=k (some i):=rfl
def Qsg(ds:List D)(k:List D->Prop):Prop:=match ds with
 | [.int j]=>-(2 ^ 62)<=j/\j<2 ^ 62/\k (rngD 0 j.toNat)
 |_=>False
theorem Qf5{Q:List D->Env->Prop}:Qhl wr ρ Q=wr ρ λds a=>Qsg ds λl=>Q l a:=by
 show(wr ρ λds a=>match ds with | [.int j]=>-(2 ^ 62)<=j/\j<2 ^ 62/\Q (rngD 0 j.toNat) a|_=>False)=_;rfl
theorem Qcc:Qsg [.int j] k=(-(2 ^ 62)<=j/\j<2 ^ 62/\k (rngD 0 j.toNat)):=rfl
def Qte(ds:List D)(k:List D->Prop):Prop:=match ds with
 | [.tup es]=>Qj es=true/\k (Gb 0 es)
 |_=>False
theorem Qxp{Q:List D->Env->Prop}:Qtr wr ρ Q=wr ρ λds a=>Qte ds λl=>Q l a:=by
 show(wr ρ λds a=>match ds with | [.tup es]=>Qj es=true/\Q (Gb 0 es) a|_=>False)=_;rfl
theorem Quk:Qte [.tup xs] k=(Qj xs=true/\k (Gb 0 xs)):=rfl
theorem Xi{Q:Env->Prop}:Qba n wgs (.tup xs) ρ Q=(xs.length=n/\wgs xs ρ Q):=rfl
theorem Vz{wg:WG}{r:List D}{Q:Env->Prop}:Yb wg wgs (d::r) ρ Q=wg d ρ λa=>wgs r a Q:=rfl
theorem Xj{Q:Env->Prop}:Qbb [] ρ Q=Q ρ:=rfl
theorem Qxg:tyD (some (.lst xs)) t=(t == "list"):=rfl
theorem Xk:Qbc (.lst xs)=Qj xs:=rfl
theorem Qo{b:Type}{f:b->D}{l:List b}(h:∀a∈l,(f a).pure=true):Qj (l.map f)=true:=by
 rw[Ye];intro x d;obtain⟨a,c,rfl⟩:=As.mp d;exact h a c
def Q0b(ds:List D)(wt:WT)(we:WE)(ρ1:Env)(ix:List Nat)(Q:D->Env->Prop):Prop:=∃I:Nat->List D->Prop,I 0 [] /\
 (∀i d ys,ds[i]? = some d->I i ys->ys.length<sizeLine/\wt (blkE ρ1 d ix) λb _=>if b=true then we (blkE ρ1 d ix) (λy _=>I (i+1) (ys++[y]))else I (i+1) ys) /\
 ∀ys,I ds.length ys->ys.length<=sizeLine/\Q (.lst ys) ρ1
theorem Qf6{wt:WT}:Qeh wl wt we ix ρ Q=wl ρ λds ρ1=>Q0b ds wt we ρ1 ix Q:=rfl
theorem Uu(f:D->D)(hz:ds.length<sizeLine)(c:∀d∈ds,∀Q':D->Env->Prop,Q' (f d) (blkE ρ1 d ix)->we (blkE ρ1 d ix) Q')(e:Q (.lst (ds.map f)) ρ1):Q0b ds wAll we ρ1 ix Q:=by
 refine⟨λi ys=>ys=(ds.take i).map f/\i<=ds.length,⟨by simp,Dq _⟩,λi d ys hd ⟨a,hi⟩=>?_,λys ⟨a,_⟩=>?_⟩
 ·have b:=(Au.mp hd).1;refine⟨by rw[a];simp;lia,?_⟩;simp only[wAll,reduceIte];refine c d (Bk hd) _ ⟨?_,b⟩;rw[a,Mf,hd];simp
 ·rw[a,List.take_length];exact⟨by simp;lia,e⟩
def forI(ds:List D)(wg:WG)(wb:WS)(P:EndsP)(ρ1:Env):Prop:=∃I:Nat->Env->Prop,I 0 ρ1 /\
 (∀i d ρ,ds[i]? = some d->I i ρ->wg d ρ λa=>wb { P with nx:=I (i+1),ct:=I (i+1),bk:=P.nx } a)/\∀ρ,I ds.length ρ->P.nx ρ
theorem Vf{wg:WG}{wb:WS}{P:EndsP}:wFor wl wg wb P ρ=wl ρ λds ρ1=>Qj ds=true/\forI ds wg wb P ρ1:=rfl
end PV
namespace PV
open PySem PySem.Spec L2
open PyProof.Rows (envOfC)
abbrev atN(K:Frag)(x:Str)(C:Addr):Prop:=nsIn K mainGlobals x=some (some (.ref C))
end PV
variable {b:Nat}{lo:Int}
namespace L2
open PySem PySem.Spec PyProof.Rows
theorem Qmq{b:Expr}(hg:Gl X "range")(hm:X.mg "range" = none)(d:PA X [a,b] ta)(g:starEach [a,b] X.env=(false,eval a X.env)::starEach [b] X.env:=by rfl)(w:(backTo pos (starEach [b] X.env)).any (·.1)=false:=by rfl) :
  PE X (.Call (.Name "range" p) [a,b] [] pos) (λσ H Q=>ta σ H λvs H1=>∃i j:Int,vs=[.int i,.int j]/\∀r,H1 r=none->Q (.ref r) (upd H1 r (.rng i j))):=by
 intro pins s σ H Q I h;refine Call_ (Gh I hg hm boot_range (Fq (thn (d pos pins s σ H _ I h) λus f ⟨vs,H1,c,k,m⟩=>?_) g w));obtain⟨i,j,e,q⟩:=m;subst e;obtain⟨u,v,rfl,n,l⟩:=Qkm k;obtain⟨t,rfl⟩:=n;obtain⟨x,rfl⟩:=l;refine call_range_2 ?_;refine⟨.ref f.heap.objs.size,_,c.laid (o:=.rng i j) (λb u e=>Ao _ e) (At _) ?_,rfl,q _ (c.hok.fresh (At _))⟩;exact⟨_,_,_,Be _ rfl⟩
theorem Qpk:∀(n:Nat)(l:List Value),l.length=n->(∀(j:Nat) v,l[j]? = some v->∃t,v=.int (lo+(j:Int)*1) t)->Vals ((Aq n).map λ(i:Nat)=>V.int (lo+(i:Int))) l:=by
 intro n
 induction n with
 |zero=>intro l b _;cases l with|nil=>exact .nil|cons=>simp at b
 | succ n d=>
  intro l b c;have a:l≠[]:=by intro z;rw[z]at b;simp at b
  have f:l=l.dropLast++[l.getLast a]:=(Kv a).symm;rw[M0,B7,f];refine Vals.append (d _ (by rw[Pq,b];rfl) λj v e=>c j v ?_) (.cons ?_ .nil)
  ·rw[O2]at e
   split at e
   ·exact e
   ·cases e
  ·obtain⟨t,e⟩:=c n (l.getLast a) (by rw[Og,Bu (by lia)];congr 1;simp[b]);exact⟨t,by rw[e];congr 1;lia⟩
theorem Qdm(y:X.calm=true):Zk X (.type "list") (λxs H Q=>∃(r:Addr)(i j:Int),xs=[.ref r]/\H r=some (.rng i j) /\ -1000<=i/\i<=j/\j<=1000/\j-i<=1000/\∀l,H l=none->Q (.ref l) (upd H l (.lst ((Aq (j-i).toNat).map λ(k:Nat)=>.int (i+(k:Int)))))):=by
 intro pins s σ H xs us Q I r h;obtain⟨a,i,j,rfl,f,h0,h1,h2,z,q⟩:=h;obtain⟨u,rfl,w⟩:=Ga r;cases w;obtain⟨t,u,v,e⟩:=I.hok a _ f;refine call_list_range (n:=(j-i).toNat) (I.ok.hd y) (show IsRange s.heap a i j 1 t u v from e) (small_one (by lia) (by lia) (by lia) (by lia)) (by rw[P9];split<;>lia) (Qly (by lia)) λh' p c x kp g b=>?_;obtain⟨hsz,d⟩:=b;have m:=Qpk (lo:=i) (j-i).toNat c.toList (by simpa using hsz) λj v e=>d j v (by simpa using e);refine⟨.ref s.heap.objs.size,_,I.laid (o:=.lst ((Aq (j-i).toNat).map λ(k:Nat)=>V.int (i+(k:Int)))) (t':=p) kp (At _) ?_,rfl,q _ (I.hok.fresh (At _))⟩;refine⟨?_,c.toList,x,m,by rw[Kd];exact g⟩;rw[Ap,Bz];have:=(by decide:3000<sizeLine)
 lia
end L2
variable {a N t:Nat}{k:PV.D->Prop}{ps:List (Nat×Nat)}{leap off:Int}{Bs:List Int}
namespace PV
open PySem PySem.Spec L2
section
variable {T:Tg}{a b:Expr}
def Qc4:GA
 | [.int i,.int j],k=>-1000<=i/\i<=j/\j<=1000/\j-i<=1000/\k (.lst (rngD i (j-i).toNat))
 |_,_=>False
theorem Qkw(q:Qc4 ds k):∃i j,ds=[.int i,.int j]:=by
 cases ds with
 |nil=>exact(show False from q).elim
 | cons a ds=>
  cases ds with
  |nil=>cases a<;>exact(show False from q).elim
  | cons d1 ds=>
   cases a with
   | int i=>
    cases d1 with
    | int j=>
     cases ds with
     |nil=>exact⟨i,j,rfl⟩
     |cons _ _=>exact(show False from q).elim
    |_=>exact(show False from q).elim
   |_=>exact(show False from q).elim
theorem Qfb{G e c:Pos}(hm:X.mg "range" = none)(t:X.mg "list" = none)(A:AV X T m o [a,b] wr)(hg:Gl X "range":=by rfl)(h:Gl X "list":=by rfl)(C:X.calm=true:=by rfl)(E:starEach [a,b] X.env=(false,eval a X.env)::starEach [b] X.env:=by rfl)(J:(backTo c (starEach [b] X.env)).any (·.1)=false:=by rfl)
  (f:starEach [.Call (.Name "range" e) [a,b] [] c] X.env=(false,eval (.Call (.Name "range" e) [a,b] [] c) X.env)::starEach [] X.env:=by rfl) :
  EV X T m true (.Call (.Name "list" G) [.Call (.Name "range" e) [a,b] [] c] [] pos) (Qp Qc4 wr):=by
 obtain⟨ta,pa,L⟩:=A;refine⟨_,Qci (Qdm C) h t (by rfl) (Qcj (Qmq hg hm pa E J) Qjm f),λz R σ H W ρ Q Q' s hw k=>?_⟩;refine L z R σ H W ρ _ _ s hw λvs H1 W1 ds ρ1 F p q=>?_;have y:Qc4 ds λd=>Q d ρ1:=q;clear q;obtain⟨i,j,rfl⟩:=Qkw y;have q:=y;obtain⟨v,u,F1,F2,rfl,rd,n⟩:=p.rep.at2;cases rd;cases n;refine⟨i,j,rfl,λr x=>⟨r,i,j,rfl,Qh,q.1,q.2.1,q.2.2.1,q.2.2.2.1,λl w=>?_⟩⟩;have g:Same H1 (upd (upd H1 r (.rng i j)) l (.lst ((Aq (j-i).toNat).map λ(k:Nat)=>.int (i+(k:Int))))):=(Qg x).trans (Qg w);refine k _ _ W1 (.lst (rngD i (j-i).toNat)) ρ1 [l] (Post.fin p.sr p.fr p.calm g (.lst Qh ?_) (by simp) λb I=>by rw[Aw.mp I];exact(Qg x).free w) q.2.2.2.2;have K:rngD i (j-i).toNat=((Aq (j-i).toNat).map λ(k:Nat)=>i+(k:Int)).map D.int:=by simp[rngD]
 have B:((Aq (j-i).toNat).map λ(k:Nat)=>V.int (i+(k:Int)))=((Aq (j-i).toNat).map λ(k:Nat)=>i+(k:Int)).map V.int:=by simp
 rw[K,B];exact Reps.ints _
end
theorem Qkx{i:Int}:Qc4 [.int i,.int j] k=(-1000<=i/\i<=j/\j<=1000/\j-i<=1000/\k (.lst (rngD i (j-i).toNat))):=rfl
theorem hu65{k:Nat}(a:Room k A):A.units+65<cLine:=by have:=a.un;lia
section
variable {i:Int}
theorem Zw:J8 (.int i) (.int j) k=k (.int (i+j)):=rfl
theorem Qhp:J8 (.tup xs) (.tup ys) k=(Qj xs=true/\Qj ys=true/\xs.length+ys.length<=sizeLine/\k (.tup (xs++ys))):=rfl
theorem Qer:J8 (.lst xs) (.lst ys) k=(Qj xs=true/\Qj ys=true/\xs.length+ys.length<=sizeLine/\k (.lst (xs++ys))):=rfl
theorem Qsn{lo:Option Int}:dSlT (.lst xs) lo hi k=(Qj xs=true/\k (.lst (cutD xs lo hi))):=rfl
theorem Qxw{lo:Option Int}:dSlT (.kls xs) lo hi k=(Qj xs=true/\k (.lst (cutD xs lo hi))):=rfl
theorem Qsm{lo:Option Int}:dSlT (.tup xs) lo hi k=(Qj xs=true/\k (.tup (cutD xs lo hi))):=rfl
theorem Qxx:Qkl.noDct (.dik kvs)=false:=rfl
theorem Qxy:Q0a (.dik kvs) (.int i) d k=k ((valD kvs (.inl i)).getD d):=rfl
end
theorem Qbk:∀{a b:List Int},a.map D.int=b.map D.int->a=b
 | [],[],_=>rfl
 | [],_::_,h=>by simp at h
 |_::_,[],h=>by simp at h
 | x::a,y::b,h=>by
  simp only[Ar,Rn,D.int.injEq]at h;rw[h.1,Qbk h.2]
section
variable {n:Int}
theorem Qxv:Qtg (.ftp (ns.map D.int)) [.int n] k=k (.int (ns.count n:Nat)):=by
 show(∃a:List Int,ns.map D.int=a.map D.int/\k (.int (a.count n:Nat)))=_;exact propext ⟨λ⟨a,e,h⟩=>by rw[Qbk e];exact h,λh=>⟨ns,rfl,h⟩⟩
theorem Q1l:isFt (.ftp xs)=true:=rfl
theorem Qp1:Qkb [.dik kvs] k=∃ns:List Int,kvs.map (·.1)=ns.map Fm/\kvs.length<64/\∀out:List Int,out.Perm ns->out.Pairwise (· <= ·)->k (.lst (out.map D.int)):=rfl
end
section
variable {e:D}
theorem Qsl{k:D->D->Prop}:two2 (.tup [d,e]) k=k d e:=rfl
end
theorem Q1o{a b c:D}(h0:0<=r)(h1:r<3):L2.atI [a,b,c] r=some a\/L2.atI [a,b,c] r=some b\/L2.atI [a,b,c] r=some c:=by
 have:r=0\/r=1\/r=2:=by lia
 rcases this with rfl|rfl|rfl
 ·exact .inl rfl
 ·exact .inr (.inl rfl)
 ·exact .inr (.inr rfl)
theorem Qx6{a b c:D}(h0:0<=r)(h1:r<4):L2.atI [a,b,c,d] r=some a\/L2.atI [a,b,c,d] r=some b\/L2.atI [a,b,c,d] r=some c\/L2.atI [a,b,c,d] r=some d:=by
 have:r=0\/r=1\/r=2\/r=3:=by lia
 rcases this with rfl|rfl|rfl|rfl
 ·exact .inl rfl
 ·exact .inr (.inl rfl)
 ·exact .inr (.inr (.inl rfl))
 ·exact .inr (.inr (.inr rfl))
theorem Qjq(h:d∈rngD lo n):∃i:Nat,i<n/\d=.int (lo+(i:Int)):=by
 obtain⟨i,hi,rfl⟩:=As.mp h;exact⟨i,Bl.mp hi,rfl⟩
theorem Yl:(rngD lo n).length=n:=by simp[rngD]
theorem Qep(h:(rngD lo n)[i]? = some d):i<n/\d=.int (lo+(i:Int)):=by
 have hi:i<n:=by have:=(Au.mp h).1;rwa [Yl]at this
 simp only[rngD,Bh,Nn hi,Iz,Nj]at h;exact⟨hi,h.symm⟩
theorem Vp:Qj (rngD lo n)=true:=Qo λ_ _=>rfl
theorem Xl:Qj (ns.map D.int)=true:=Qo λ_ _=>rfl
def isP(p:Int):Prop:=p=101\/p=10007\/p=999999937
theorem cop(p:Nat)(a:p=101\/p=10007\/p=999999937):∀d:Nat,d<101->0<d->Nat.gcd p d=1:=by
 rcases a with rfl|rfl|rfl<;>decide +kernel
theorem Qwq{p:Int}(a:isP p)(h1:0<leap)(h2:leap<p){j:Nat}(hi:i<101)(d:j<i)(h:(off+(i:Int)*leap)%p=(off+(j:Int)*leap)%p):False:=by
 obtain ⟨q,rfl⟩:=Ni (show 0<=leap by lia);obtain⟨P,rfl⟩:∃P:Nat,p=(P:Int):=Ni (by rcases a with z|z|z<;>lia);have c:P=101\/P=10007\/P=999999937:=by
  rcases a with z|z|z
  ·exact .inl (by lia)
  ·exact .inr (.inl (by lia))
  ·exact .inr (.inr (by lia))
 have e:=Int.emod_eq_emod_iff_emod_sub_eq_zero.mp h;have b:off+(i:Int)*(q:Int)-(off+(j:Int)*(q:Int))=(((i-j)*q:Nat):Int):=by
  rw[Int.natCast_mul,Int.ofNat_sub (by lia),Int.sub_mul];lia
 rw[b]at e;have f:((i-j)*q)%P=0:=by exact_mod_cast e
 have d1:P ∣ (i-j)*q:=Nat.dvd_of_mod_eq_zero f;have g:Nat.gcd P (i-j)=1:=cop P c _ (by lia) (by lia);have d2:P ∣ q:=Nat.Coprime.dvd_of_dvd_mul_left g d1;have:=Nat.le_of_dvd (by lia) d2;lia
theorem Qlk{p:Int}(b:isP p)(h1:0<leap)(h2:leap<p)(d:q<=101):((Aq q).map λ(i:Nat)=>(off+(i:Int)*leap)%p).Nodup:=by
 rw[List.nodup_iff_pairwise_ne,Mv];refine List.Pairwise.imp_of_mem ?_ (Sm);intro i j hi c a h;exact Qwq b h1 h2 (by have:=Bl.mp c;lia) a h.symm
theorem Qwj(h:a<=b)(c:b<=ds.length):cutD ds (some (a:Int)) (some (b:Int))=(ds.drop a).take (b-a):=by
 unfold cutD;rw[HT.Qeo,HT.Qeo,Km c,Km (Dg h c)]
theorem Qkd(h:a<=ds.length):cutD ds (some (a:Int)) none=ds.drop a:=by
 unfold cutD;rw[HT.Qeo,HT.Qi7,Km h,Du (by simp)]
theorem Qth:cutD ds none (some (b:Int))=ds.take b:=by
 unfold cutD;rw[HT.Qeo,HT.Qi7,List.drop_zero,Nat.sub_zero];by_cases h:b<=ds.length
 ·rw[Km h]
 ·rw[Nat.min_eq_right (by lia),Du (by lia),Du (by lia)]
def rowD(c n:Int):D:=.lst [.int c,.int n]
def webD(m e:Nat)(A:Nat->Int)(r:Int):D:=.tup [.tup ((Aq m).map λk=>.tup ((Aq 4).map λj=>.int (A (4*k+j)))),.tup ((Aq e).map λj=>.int (A (4*m+j))),.int r]
structure Pr(N:Nat)(xs:List Int)(t:Nat)(L:List Nat)(Bs:List Int)(ps:List (Nat×Nat)):Prop where
 bl:Bs.length=N
 pl:ps.length=t
 perm:(ps.flatMap (λp=>[p.1,p.2])++L).Perm (Aq N)
 val:∀(s:Nat) p,ps[s]? = some p->∃x,xs[s]? = some x/\Bs[p.1]? = some x/\Bs[p.2]? = some x
theorem Pr.lt{xs:List Int}(h:Pr N xs t L Bs ps)(hi:i∈L):i<N:=by
 have:=h.perm.mem_iff.mp (Bx.mpr (.inr hi));exact Bl.mp this
theorem Pr.nd{xs:List Int}(h:Pr N xs t L Bs ps):(ps.flatMap (λp=>[p.1,p.2])++L).Nodup:=h.perm.nodup_iff.mpr Ff
theorem Pr.start(N:Nat)(xs:List Int):Pr N xs 0 (Aq N) (Bo N 0) []:=⟨by simp,rfl,by simp,λs p h=>by simp at h⟩
theorem Qd1{b:Type}:∀{l:List b}{i:Nat}(h:i<l.length),(l[i]::l.eraseIdx i).Perm l
 |a::l,0,_=>List.Perm.refl _
 | a::l,i+1,h=>by
  have:=Qd1 (l:=l) (i:=i) (by simpa using h);simp only[List.getElem_cons_succ,N9];exact(List.Perm.swap _ _ _).trans (this.cons a)
theorem Qgj{b c:Type}{f:b->c}:∀{l:List b}{i:Nat},(l.map f).eraseIdx i=(l.eraseIdx i).map f
 | [],_=>rfl
 |a::l,0=>rfl
 |a::l,i+1=>by simp only[Ar,N9,Qgj]
theorem Pr.step{xs:List Int}{s:Nat}{x:Int}(h:Pr N xs t (i::L) Bs ps)(n:xs[t]? = some x)(j:s<L.length) :
  Pr N xs (t+1) (L.eraseIdx s) ((Bs.set i x).set L[s] x) (ps++[(i,L[s])]):=by
 have nd:=h.nd;obtain⟨q,o,k⟩:=Fl.mp nd;have b:L[s]∈L:=Rf j;have g:i≠L[s]:=λz=>(Bf.mp o).1 (z ▸ b);have hi:=h.lt (An (a:=i));have m:=h.lt (Am i b);refine⟨by simp[h.bl],by simp[h.pl],?_,λs' p c=>?_⟩
 ·rw[Ku];refine List.Perm.trans ?_ h.perm;rw[Me];refine List.Perm.append_left _ ?_;show(i::L[s]::L.eraseIdx s).Perm (i::L);exact List.Perm.cons _ (Qd1 j)
 ·by_cases f:s' < ps.length
  ·rw[Ru f]at c;obtain⟨y,h1,h2,l⟩:=h.val s' p c;have mem:∀a,a=p.1\/a=p.2->a∈ps.flatMap (λp=>[p.1,p.2]):=λa d=>M8.mpr ⟨p,Bk c,by simpa using d⟩;have ne:∀a,a=p.1\/a=p.2->i≠a/\L[s]≠a:=λa d=>⟨λz=>k a (mem a d) i An z.symm,λz=>k a (mem a d) L[s] (Am _ b) z.symm⟩
   refine⟨y,h1,?_,?_⟩
   ·rw[Mh (ne _ (.inl rfl)).2,Mh (ne _ (.inl rfl)).1];exact h2
   ·rw[Mh (ne _ (.inr rfl)).2,Mh (ne _ (.inr rfl)).1];exact l
  ·have e:s'=t:=by
    have:=(Au.mp c).1;have:=h.pl;simp at *;lia
   subst e;rw[Nq (by lia),h.pl,Nat.sub_self]at c;simp at c;subst c;refine⟨x,n,?_,?_⟩
   ·rw[Mh (Ra g),Ri (by rw[h.bl];exact hi)]
   ·rw[Ri (by rw[Nl,h.bl];exact m)]
theorem Pr.tw{xs:List Int}(h:Pr N xs t [] Bs ps)(nd:xs.Nodup):∃g,M.Tw N (λi=>Bs.getD i 0) g:=by
 have B:=h.nd;rw[Dz]at B;have val:∀i,i<N->∃(s:Nat)(p:Nat×Nat)(x:Int),ps[s]? = some p/\(i=p.1\/i=p.2)/\xs[s]? = some x/\Bs.getD i 0=x:=λi hi=>by
  have:=h.perm.mem_iff.mpr (Bl.mpr hi);rw[Dz]at this;obtain⟨p,c,f⟩:=M8.mp this;obtain⟨s,m⟩:=Sw.mp c;obtain⟨x,h1,h2,v⟩:=h.val s p m;have d:i=p.1\/i=p.2:=by simpa using f
  refine⟨s,p,x,m,d,h1,?_⟩;rcases d with z|z
  ·rw[Dt,z,h2];rfl
  ·rw[Dt,z,v];rfl
 have ne:∀p∈ps,p.1≠p.2:=λp c z=>by
  have:[p.1,p.2].Nodup:=by
   have n:[p.1,p.2].Sublist (ps.flatMap λp=>[p.1,p.2]):=by
    obtain⟨a,b,rfl⟩:=List.append_of_mem c;rw[Ku,List.flatMap_cons];exact(N3 _ _).trans (Fe _ _)
   exact B.sublist n
  simp[z]at this
 have r:∀p∈ps,p.1<N/\p.2<N:=λp c=>by
  have m1:=h.perm.mem_iff.mp (Bx.mpr (.inl (M8.mpr ⟨p,c,An⟩)));have m2:=h.perm.mem_iff.mp (Bx.mpr (.inl (M8.mpr ⟨p,c,Am _ An⟩)));exact⟨Bl.mp m1,Bl.mp m2⟩
 have ex:∀i,∃j,i<N->j<N/\j≠i/\Bs.getD j 0=Bs.getD i 0/\∀k,k<N->Bs.getD k 0=Bs.getD i 0->k=i\/k=j:=λi=>by
  by_cases hi:i<N
  ·obtain ⟨s,p,x,m,f,A,u⟩:=val i hi;have c:=Bk m;obtain⟨J,h1,h2,v⟩:=h.val s p m;rw[A]at h1;cases h1;have only:∀k,k<N->Bs.getD k 0=Bs.getD i 0->k=p.1\/k=p.2:=λk l e=>by
    obtain ⟨s',I,y,o,w,F,hw⟩:=val k l;rw[hw,u]at e;subst e;have:s'=s:=by
     have G:=(Au.mp A)
     have E:=(Au.mp F)
     obtain⟨K,D⟩:=G;obtain⟨H,C⟩:=E;exact(List.getElem_inj nd).mp (C.trans D.symm)
    subst this;rw[m]at o;cases o;exact w
   rcases f with z|z
   ·refine⟨p.2,λ_=>⟨(r p c).2,λq=>ne p c (by rw[← z,q]),?_,λk l e=>(only k l e).imp (λq=>q.trans z.symm) id⟩⟩;rw[u,Dt,v];rfl
   ·refine⟨p.1,λ_=>⟨(r p c).1,λq=>ne p c (by rw[q,z]),?_,λk l e=>(only k l e).elim .inr (λq=>.inl (q.trans z.symm))⟩⟩;rw[u,Dt,h2];rfl
  ·exact⟨0,λz=>absurd z hi⟩
 refine⟨λi=>Rg (ex i),λi hi=>(Dl (ex i) hi).1,λi hi=>(Dl (ex i) hi).2.1,λi hi=>(Dl (ex i) hi).2.2.1,λi k hi l e=>(Dl (ex i) hi).2.2.2 k l e⟩
theorem Ut(h:a+b<=Bs.length):((Bs.map D.int).drop a).take b=(Aq b).map λj=>D.int (Bs.getD (a+j) 0):=by
 apply Lq;intro j;rw[List.getElem?_take,Bh];by_cases c:j<b
 ·rw[if_pos c,Nx,Bh,Nn c,Bu (by lia)];simp[Dt,Bu (show a+j<Bs.length by lia)]
 ·rw[if_neg c,Nw (by simpa using c)];rfl
def Qos(Bs:List Int):D->D
 | .int k=>.tup ((Aq 4).map λj=>.int (Bs.getD (4*k.toNat+j) 0))
 |d=>d
theorem Qec:Qos Bs (.int (0+(i:Int)))=.tup ((Aq 4).map λj=>.int (Bs.getD (4*i+j) 0)):=by
 show D.tup ((Aq 4).map λj=>.int (Bs.getD (4*(0+(i:Int)).toNat+j) 0))=_;rw[show(0+(i:Int)).toNat=i by lia]
theorem Qlb{m:Nat}:(rngD 0 m).map (Qos Bs)=(Aq m).map λk=>.tup ((Aq 4).map λj=>.int (Bs.getD (4*k+j) 0)):=by
 unfold rngD;rw[Bg];apply B0;intro i _;exact Qec
theorem Qq3{P:Int->Prop}(h0:P 0)(h:∀b∈Bs,P b)(i:Nat):P (Bs.getD i 0):=by
 rw[Dt];cases q:Bs[i]? with
 |none=>exact h0
 |some b=>exact h b (Bk q)
theorem len1{b:Type}:∀{us:List b},us.length=1->∃a,us=[a]
 | [a],_=>⟨a,rfl⟩
theorem len2{c:Type}{us:List c}(h:us.length=2):∃a b,us=[a,b]:=by
 cases us with
 |nil=>cases h
 |cons a us=>obtain⟨b,rfl⟩:=len1 (A0l h);exact⟨a,b,rfl⟩
theorem len3{d:Type}{us:List d}(h:us.length=3):∃a b c,us=[a,b,c]:=by
 cases us with
 |nil=>cases h
 |cons a us=>obtain⟨b,c,rfl⟩:=len2 (A0l h);exact⟨a,b,c,rfl⟩
theorem len4{e:Type}{us:List e}(h:us.length=4):∃a b c d,us=[a,b,c,d]:=by
 cases us with
 |nil=>cases h
 |cons a us=>obtain⟨b,c,d,rfl⟩:=len3 (A0l h);exact⟨a,b,c,d,rfl⟩
theorem Qcg:∀{ds:List D}{n:Nat},Qj ds=true->Qj (Gb n ds)=true
 | [],_,_=>rfl
 | d::r,n,h=>by
  simp only[Qj,B6]at h;simp only[Gb,Qj,D.pure,B6];exact⟨⟨trivial,h.1,trivial⟩,Qcg h.2⟩
end PV
variable {r:Nat}
namespace M32
def bin:Nat->Nat->Nat
 |_,0=>1
 |0,_+1=>0
 |n+1,k+1=>bin n k+bin n (k+1)
theorem U9(n:Nat):bin n 0=1:=by cases n<;>rfl
theorem V3(n k:Nat):bin (n+1) (k+1)=bin n k+bin n (k+1):=rfl
theorem Qki:∀n k:Nat,n<k->bin n k=0
 |0,k+1,_=>rfl
 |n+1,k+1,h=>by rw[V3,Qki n k (by lia),Qki n (k+1) (by lia)]
theorem Qfm:∀n:Nat,bin n n=1
 |0=>rfl
 |n+1=>by rw[V3,Qfm n,Qki n (n+1) (by lia)]
theorem Qbq:∀n k m:Nat,n=k+m->bin n k*m=bin n (k+1)*(k+1)
 | 0,k,m,h=>by
  have h1:k=0:=by lia
  have h2:m=0:=by lia
  subst h1 h2;rfl
 | n+1,0,m,h=>by
  have d:=Qbq n 0 n (by lia);rw[U9]at d;rw[U9,V3,U9];lia
 | n+1,k+1,0,h=>by
  have:k=n:=by lia
  subst this;rw[Qki (k+1) (k+1+1) (by lia)];simp
 | n+1,k+1,m+1,h=>by
  have c:=Qbq n k (m+1) (by lia);have a:=Qbq n (k+1) m (by lia);rw[V3,V3];rw[Nat.add_mul,Nat.add_mul,c,← a];generalize bin n (k+1)=b;simp only[A0y,Nat.mul_one];lia
theorem Qfl:∀n k m:Nat,n=k+m->bin n k=bin n m
 | 0,k,m,h=>by
  have h1:k=0:=by lia
  have h2:m=0:=by lia
  subst h1 h2;rfl
 | n+1,0,m,h=>by
  have:m=n+1:=by lia
  subst this;rw[U9,Qfm]
 | n+1,k+1,0,h=>by
  have:k=n:=by lia
  subst this;rw[U9,Qfm]
 | n+1,k+1,m+1,h=>by
  rw[V3,V3,Qfl n k (m+1) (by lia),Qfl n (k+1) m (by lia)];lia
def sg(r:Nat):Int:=if r%2=0 then 1 else -1
def num(r k:Nat):Int:=sg r*(bin r k:Int)
theorem Qjo(r:Nat):num r 0=sg r:=by unfold num;rw[U9];simp
theorem Qqo{k:Nat}(h:k<=r):num r k*((r:Int)-(k:Int))/((k:Int)+1)=num r (k+1):=by
 obtain⟨m,rfl⟩:∃m,r=k+m:=⟨r-k,by lia⟩
 have b:=Qbq (k+m) k m rfl;have c:((k+m:Nat):Int)-(k:Int)=(m:Int):=by lia
 rw [c];unfold num;have a:sg (k+m)*(bin (k+m) k:Int)*(m:Int)=sg (k+m)*(bin (k+m) (k+1):Int)*((k:Int)+1):=by
  rw[Int.mul_assoc,Int.mul_assoc];congr 1;have:=congrArg (λn:Nat=>(n:Int)) b;simpa using this
 rw[a,Int.mul_ediv_cancel _ (by lia)]
theorem Qqn{k m:Nat}(h:r=k+m):num r k=num r m:=by unfold num;rw[Qfl r k m h]
end M32
namespace M32
open PV L2
def wt(p:Int)(r:Nat)(n:Nat):List D:=(Aq n).map λ(k:Nat)=>.tup [.int (p+4*(k:Int)),.int (num r k)]
theorem Qto(p:Int)(r n:Nat):wt p r (n+1)=wt p r n++[.tup [.int (p+4*(n:Int)),.int (num r n)]]:=by unfold wt;rw[M0,B7];rfl
theorem Qlo(p:Int)(r n:Nat):(wt p r n).length=n:=by simp[wt]
theorem Qio:∀{ns:List Int},(∀n∈ns,n=0\/n=1)->(ns.count 0:Int)-(ns.count 1:Int)=(ns.length:Int)-2*ns.sum
 | [],_=>by simp
 | n::ns,h=>by
  have a:=Qio (ns:=ns) λm hm=>h m (Am _ hm);rw[Ou,Ou,Il,Av];rcases h n An with rfl|rfl
  ·simp;lia
  ·simp;lia
end M32
namespace S03
open PySem PySem.Spec L2 PV
open PySem.Builtin.Str (glued)
theorem Qkr(h:n<=100000):n<sizeLine:=Ds h (by decide)
end S03
variable {t:Int×Int}
namespace Pol
abbrev T:=List (Int×Int)
def ev(f:Int->Int):T->Int
 | []=>0
 |t::ts=>t.2*f t.1+ev f ts
theorem Qn6{f}:ev f []=0:=rfl
theorem Js{f}{ts:T}:ev f (t::ts)=t.2*f t.1+ev f ts:=rfl
theorem Qcy{f}:∀{a b:T},ev f (a++b)=ev f a+ev f b
 | [],b=>by rw[Bi,Qn6,Kn]
 |t::a,b=>by rw[Bw,Js,Js,Qcy];lia
theorem Qn4{f}{a b:T}(h:a.Perm b):ev f a=ev f b:=by
 induction h with
 |nil=>rfl
 |cons x _ c=>rw[Js,Js,c]
 |swap x y l=>rw[Js,Js,Js,Js];lia
 |trans _ _ h1 h2=>exact h1.trans h2
def turn(a:T):T:=a.reverse.map λt=>(-t.1,t.2)
theorem Qtd{f}{h:Int->Int}:∀{a:T},ev f (a.map λt=>(h t.1,t.2))=ev (λp=>f (h p)) a
 | []=>rfl
 |t::a=>by rw[Ar,Js,Qtd,Js]
theorem Qn3{f}{a:T}:ev f (turn a)=ev (λp=>f (-p)) a:=by
 unfold turn;rw[Qtd,Qn4 (List.reverse_perm a)]
structure Is(a:T):Prop where
 asc:a.Pairwise λt u=>t.1<u.1
 nz:∀t∈a,t.2≠0
def del(p:Int):Int->Int:=λq=>if q=p then 1 else 0
theorem Xy{p:Int}:∀{a:T},(∀t∈a,p<t.1)->ev (del p) a=0
 | [],_=>rfl
 | t::a,h=>by
  have h1:=h t An;rw[Js,Xy λu b=>h u (Am _ b)];unfold del;rw[if_neg (by lia)];lia
theorem Ur{a:T}(h:(t::a).Pairwise λt u=>t.1<u.1):ev (del t.1) (t::a)=t.2:=by
 rw[Js,Xy (Ny.mp h).1];unfold del;rw[if_pos rfl];lia
theorem Is.tail{a:T}(h:Is (t::a)):Is a:=⟨(Ny.mp h.asc).2,λu b=>h.nz u (Am _ b)⟩
theorem Is.hd{a:T}(h:Is (t::a)):t.2≠0:=h.nz t An
theorem uniq:∀{a b:T},Is a->Is b->(∀f,ev f a=ev f b)->a=b
 | [],[],_,_,_=>rfl
 | [],u::b,_,d,h=>by
  have:=h (del u.1);rw[Qn6,Ur d.asc]at this;exact absurd this.symm d.hd
 | t::a,[],g,_,h=>by
  have:=h (del t.1);rw[Qn6,Ur g.asc]at this;exact absurd this g.hd
 | t::a,u::b,g,d,h=>by
  have h1:=h (del t.1);have h2:=h (del u.1);rw[Ur g.asc]at h1;rw[Ur d.asc]at h2;have l:∀x∈a,t.1<x.1:=(Ny.mp g.asc).1;have j:∀x∈b,u.1<x.1:=(Ny.mp d.asc).1;rcases Int.lt_trichotomy t.1 u.1 with c|c|c
  ·rw [Xy (a:=u::b)]at h1
   ·exact absurd h1 g.hd
   ·intro x i;rcases Ay.mp i with rfl|i
    ·exact c
    ·have:=j x i;lia
  ·rw [← c]at h2;have k:ev (del t.1) (u::b)=u.2:=by rw[c];exact Ur d.asc
   have e:t=u:=A0z c (by rw[h1,k]);subst e;rw[uniq g.tail d.tail λf=>by
    have:=h f;rw[Js,Js]at this;lia]
  ·rw [Xy (a:=t::a)]at h2
   ·exact absurd h2.symm d.hd
   ·intro x i;rcases Ay.mp i with rfl|i
    ·exact c
    ·have:=l x i;lia
theorem Qs8:Is []:=⟨.nil,λ_ h=>nomatch h⟩
theorem Qnp{a:T}(h:Is a):Is (turn a):=by
 refine⟨?_,λt d=>?_⟩
 ·unfold turn;rw[Mv,List.pairwise_reverse];exact h.asc.imp λ{x y} c=>by show -y.1 < -x.1;lia
 ·obtain⟨u,b,rfl⟩:=As.mp d;exact h.nz u (List.mem_reverse.mp b)
def nrm:T->Nat
 | []=>0
 |t::a=>t.2.natAbs+nrm a
theorem Qai:∀{a b:T},nrm (a++b)=nrm a+nrm b
 | [],b=>by rw[Bi];simp[nrm]
 |t::a,b=>by rw[Bw,nrm,nrm,Qai];lia
theorem Qqp{a b:T}(h:a.Perm b):nrm a=nrm b:=by
 induction h with
 |nil=>rfl
 |cons x _ c=>rw[nrm,nrm,c]
 |swap x y l=>rw[nrm,nrm,nrm,nrm];lia
 |trans _ _ h1 h2=>exact h1.trans h2
def get:T->Int->Int
 | [],_=>0
 |t::a,p=>if t.1=p then t.2 else get a p
def put:T->Int->Int->T
 | [],p,n=>[(p,n)]
 |t::a,p,n=>if t.1=p then (p,n)::a else t::put a p n
theorem Qsq{f}{p n:Int}:∀{a:T},ev f (put a p (get a p+n))=ev f a+n*f p
 | []=>by
  show(0+n)*f p+0=0+n*f p;rw[Kn];lia
 | t::a=>by
  unfold put get;by_cases h:t.1=p
  ·rw[if_pos h,if_pos h,Js,Js,← h];show(t.2+n)*f t.1+_=_;rw[Int.add_mul];lia
  ·rw[if_neg h,if_neg h,Js,Js,Qsq];lia
theorem Qmh{p n:Int}:∀{a:T},nrm (put a p (get a p+n))<=nrm a+n.natAbs
 | []=>by
  show(0+n).natAbs+0<=0+n.natAbs;rw[Kn];lia
 | t::a=>by
  unfold put get;by_cases h:t.1=p
  ·rw[if_pos h,if_pos h,nrm,nrm];show(t.2+n).natAbs+_<=_;lia
  ·rw[if_neg h,if_neg h,nrm,nrm];have:=Qmh (p:=p) (n:=n) (a:=a);lia
theorem Qjg{p n:Int}:∀{a:T}{q:Int},q∈(put a p n).map (·.1)->q=p\/q∈a.map (·.1)
 | [],q,h=>.inl (by simpa[put]using h)
 | t::a,q,h=>by
  unfold put at h;by_cases e:t.1=p
  ·rw[if_pos e]at h;rcases Ay.mp h with h|h
   ·exact .inl h
   ·exact .inr (Am _ h)
  ·rw[if_neg e]at h;rcases Ay.mp h with h|h
   ·exact .inr (by rw[h];exact An)
   ·exact(Qjg h).imp id λh=>Am _ h
theorem Qf8{p n:Int}:∀{a:T},(a.map (·.1)).Nodup->((put a p n).map (·.1)).Nodup
 | [],_=>by simp[put]
 | t::a,h=>by
  obtain⟨h1,h2⟩:=Bf.mp h;unfold put;by_cases e:t.1=p
  ·rw[if_pos e];exact Bf.mpr ⟨by show p∉_;rw[← e];exact h1,h2⟩
  ·rw[if_neg e];refine Bf.mpr ⟨λb=>?_,Qf8 h2⟩;rcases Qjg b with h|h
   ·exact e h
   ·exact h1 h
theorem Qd0{p n:Int}:∀{a:T},(put a p n).length<=a.length+1
 | []=>by simp[put]
 | t::a=>by
  unfold put;by_cases e:t.1=p
  ·rw[if_pos e];simp
  ·rw[if_neg e];have:=Qd0 (p:=p) (n:=n) (a:=a);simpa using this
theorem Qjx:∀{a:T},(a.map (·.1)).Nodup->(a.map (·.1)).map (λp=>(p,get a p))=a
 | [],_=>rfl
 | t::a,h=>by
  obtain⟨h1,h2⟩:=Bf.mp h;rw[Ar,Ar];have d:get (t::a) t.1=t.2:=by unfold get;rw[if_pos rfl]
  have c:(a.map (·.1)).map (λp=>(p,get (t::a) p))=(a.map (·.1)).map (λp=>(p,get a p)):=by
   refine B0 λp b=>?_;have:get (t::a) p=get a p:=by
    show(if t.1=p then t.2 else get a p)=_;rw[if_neg λe=>h1 (by show t.1∈_;rw[e];exact b)]
   rw[this]
  rw[d,c,Qjx h2]
def nzf(a:T):T:=a.filter λt=>decide (t.2≠0)
theorem Qn5{f}:∀{a:T},ev f (nzf a)=ev f a
 | []=>rfl
 | t::a=>by
  unfold nzf;by_cases h:t.2=0
  ·rw[D2 (by simpa using h)];show ev f (nzf a)=_;rw[Qn5,Js,h];lia
  ·rw[D3 (by simpa using h),Js];show _+ev f (nzf a)=_;rw[Qn5];rfl
theorem Qhw:∀{a:T},nrm (nzf a)=nrm a
 | []=>rfl
 | t::a=>by
  unfold nzf;by_cases h:t.2=0
  ·rw[D2 (by simpa using h)];show nrm (nzf a)=_;rw[Qhw,nrm,h];simp
  ·rw[D3 (by simpa using h),nrm];show _+nrm (nzf a)=_;rw[Qhw];rfl
theorem Qz0{a:T}{out:List Int}(d:(a.map (·.1)).Nodup)(e:out.Perm (a.map (·.1)))(ho:out.Pairwise (· <= ·)) :
  Is (nzf (out.map λp=>(p,get a p)))/\(∀f,ev f (nzf (out.map λp=>(p,get a p)))=ev f a)/\nrm (nzf (out.map λp=>(p,get a p)))=nrm a/\(nzf (out.map λp=>(p,get a p))).length<=a.length:=by
 have b:(out.map λp=>(p,get a p)).Perm a:=by
  have:=e.map λp=>(p,get a p)
  rwa [Qjx d]at this
 have c:out.Nodup:=e.symm.nodup d;refine⟨⟨?_,λt g=>?_⟩,λf=>by rw[Qn5,Qn4 b],by rw[Qhw,Qqp b],?_⟩
 ·refine S1 _ ?_;rw[Mv];refine(ho.and c).imp λ{x y} h=>?_;show x<y;have h1:x<=y:=h.1;have h2:x≠y:=h.2;lia
 ·have:=(Do.mp g).2;simpa using this
 ·refine Dg (D6 _ _) ?_;rw[b.length_eq];exact At _
end Pol
variable {a:Pol.T}
namespace Dct
open PySem PySem.Spec L2 PV Pol
def pr2(t:Int×Int):D:=.tup [.int t.1,.int t.2]
theorem Jv{ts:List (Int×Int)}:Qj (ts.map pr2)=true:=Qo λ_ _=>rfl
theorem Qkr(h:n<=1000000):n<sizeLine:=Ds h (by decide)
def enc(a:T):List (Key×D):=a.map λt=>(.inl t.1,.int t.2)
theorem Qob:(enc a).length=a.length:=Ap ..
theorem Qj8:(enc a).map (·.1)=(a.map (·.1)).map Fm:=by
 unfold enc;rw[Bg,Bg];rfl
theorem Qiu{p:Int}:∀{a:T},p∉a.map (·.1)->valD (enc a) (.inl p)=none
 | [],_=>rfl
 | t::a,h=>by
  have h1:¬t.1=p:=λe=>h (by rw[← e];exact An);have h2:p∉a.map (·.1):=λe=>h (Am _ e);show valD ((.inl t.1,.int t.2)::enc a) (.inl p)=none;rw[Q1,if_neg (λe=>h1 (M9 e)),Qiu h2]
theorem Qei{p:Int}:∀{a:T},p∈a.map (·.1)->valD (enc a) (.inl p)=some (.int (get a p))
 | t::a,h=>by
  show valD ((.inl t.1,.int t.2)::enc a) (.inl p)=_;rw[Q1];unfold Pol.get;by_cases e:t.1=p
  ·rw[if_pos (by rw[e]),if_pos e]
  ·rw[if_neg (λz=>e (M9 z)),if_neg e];refine Qei ?_;rcases Ay.mp h with h|h
   ·exact absurd h.symm e
   ·exact h
theorem Qj2{p:Int}:∀{a:T},p∉a.map (·.1)->get a p=0
 | [],_=>rfl
 | t::a,h=>by
  have h1:¬t.1=p:=λe=>h (by rw[← e];exact An);have h2:p∉a.map (·.1):=λe=>h (Am _ e);unfold Pol.get;rw[if_neg h1,Qj2 h2]
theorem Qpl{p:Int}:(valD (enc a) (.inl p)).getD (.int 0)=.int (get a p):=by
 by_cases h:p∈a.map (·.1)
 ·rw[Qei h];rfl
 ·rw[Qiu h,Qj2 h];rfl
theorem Qmi{p n:Int}:∀{a:T},(a.map (·.1)).Nodup->putD (enc a) (.inl p) (.int n)=enc (put a p n)
 | [],_=>rfl
 | t::a,h=>by
  obtain⟨h1,h2⟩:=Bf.mp h;show putD ((.inl t.1,.int t.2)::enc a) (.inl p) (.int n)=_;unfold put;by_cases e:t.1=p
  ·rw[if_pos e,e];rw[Quu]
   ·rfl
   ·rw[Qj8];intro hm;obtain⟨q,c,b⟩:=As.mp hm;have:q=p:=M9 b;subst this;exact h1 (by show t.1∈_;rw[e];exact c)
  ·rw[if_neg e,Qut (λz=>e (M9 z)),Qmi h2];rfl
end Dct
namespace PV
open PySem PySem.Spec L2
open PyProof.Rows (envOfC)
mutual
noncomputable def D.bare:D->Bool
 | .non=>true
 | .bl _=>true
 | .int _=>true
 | .str _=>true
 | .ty _=>true
 | .tup xs=>Gz xs
 | .lst xs=>Gz xs
 | .dik kvs=>Qrw kvs
 | .dit kvs=>Qrv kvs
 | .kls _=>false
 | .fdk _=>false
 | .ftp _=>false
 | .fdt _=>false
 | .obj _ _=>false
 | .clo _ _=>false
 | .kc _=>true
 | .dmx _=>false
 | .fmx _=>false
noncomputable def Gz:List D->Bool
 | []=>true
 |d::r=>d.bare&&Gz r
noncomputable def Qrw:List (Key×D)->Bool
 | []=>true
 | (_,d)::r=>d.bare&&Qrw r
noncomputable def Qrv:List (List Key×D)->Bool
 | []=>true
 | (_,d)::r=>d.bare&&Qrv r
end
theorem Vw:Gz xs=true↔∀x∈xs,x.bare=true:=by
 induction xs with
 |nil=>simp[Gz]
 |cons d r a=>simp only[Gz,B6,a,Ay,forall_eq_or_imp]
def Thaw(H H':Hp):Prop:=∀b ob,H b=some ob->(∀o u,ob ≠ .frz o u)->H' b=some ob
theorem Rep.bare{K:Frag}(hi:Thaw H H')(r:Rep K H d v F):d.bare=true->Rep K H' d v F:=by
 have no:∀{P:Prop}{b:Bool},b=false->b=true->P:=λh h'=>absurd (h.symm.trans h') (by simp);refine Rep.rec (motive_1:=λd v F _=>d.bare=true->Rep K H' d v F) (motive_2:=λd v F _=>Gz d=true->Reps K H' d v F) (motive_3:=λd v F _=>Qrw d=true->RepK K H' d v F) (motive_4:=λd v F _=>Qrv d=true->RepT K H' d v F) ?_ ?_ ?_ ?_ ?_ ?_ ?_ ?_ ?_ ?_ ?_ ?_ ?_ ?_ ?_ ?_ ?_ ?_ ?_ ?_ ?_ ?_ ?_ ?_ r
 ·exactλ_=>.non
 ·exactλb _=>.bl b
 ·exactλb _=>.int b
 ·exactλb _=>.str b
 ·exactλe _ f k=>.tup (hi _ _ e λ_ _ z=>by cases z) (f (by rw[D.bare]at k;exact k))
 ·exactλe _ f k=>.lst (hi _ _ e λ_ _ z=>by cases z) (f (by rw[D.bare]at k;exact k))
 ·exactλe _ f k=>.dik (hi _ _ e λ_ _ z=>by cases z) (f (by rw[D.bare]at k;exact k))
 ·exactλe _ f k=>.dit (hi _ _ e λ_ _ z=>by cases z) (f (by rw[D.bare]at k;exact k))
 ·exactλ_ _ _=>no (by rw[D.bare])
 ·exactλt _=>.ty t
 ·exactλ_ _ _=>no (by rw[D.bare])
 ·exactλ_ _ _ _=>no (by rw[D.bare])
 ·exactλ_ _ _=>no (by rw[D.bare])
 ·exactλ_ _ _=>no (by rw[D.bare])
 ·exactλ_ _ _=>no (by rw[D.bare])
 ·exactλh _=>.kc h
 ·exactλ_ _ _ _ _=>no (by rw[D.bare])
 ·exactλ_ _ _ _ _=>no (by rw[D.bare])
 ·exactλ_=>.nil
 ·exactλ_ _ c a k=>by rw[Gz,B6]at k;exact .cons (c k.1) (a k.2)
 ·exactλ_=>.nil
 ·exactλ_ _ c a k=>by rw[Qrw,B6]at k;exact .cons (c k.1) (a k.2)
 ·exactλ_=>.nil
 ·exactλ_ _ c a k=>by rw[Qrv,B6]at k;exact .cons (c k.1) (a k.2)
theorem Reps.bare{K:Frag}(hi:Thaw H H'){d:List D}{v:List V}(r:Reps K H d v F)(k:Gz d=true):Reps K H' d v F:=by
 induction d generalizing v F with
 |nil=>cases r;exact .nil
 | cons d ds a=>
  cases r with
  |cons h r=>rw[Gz,B6]at k;exact .cons (h.bare hi k.1) (a r k.2)
end PV
variable {k:List PV.D->Prop}
namespace PV
open PySem PySem.Spec L2
theorem hu66{k:Nat}(r:Room k A):A.units+66<cLine:=by have:=r.un;lia
end PV
variable {a:Fz}{c:Nat}{ps:List N7}
namespace PV
open PySem PySem.Spec L2
open PySem.W (Dat kqdP kqdPs kqdOk)
open PyProof.Rows (reads_tuple_at eq_dataH)
mutual
noncomputable def kcIn(K:Frag):KC->Value->Bool
 | .int i,.int j _=>decide (i=j)
 | .tup ks,.ref a=>match K.lookup a with
  |some ⟨.type t,_,.seq its _,_⟩=>t == "tuple" && (decide (its.size<=1000)&&Qk3 K ks its.toList)
  |_=>false
 |_,_=>false
noncomputable def Qk3(K:Frag):List KC->List Value->Bool
 | [],[]=>true
 |c::cs,v::vs=>kcIn K c v&&Qk3 K cs vs
 |_,_=>false
end
mutual
theorem Qni{K:Frag}:∀(c:KC)(u:Value),kcIn K c u=true->∃v,RelV v u/\IsKC K c v
 | .int i,u,h=>by
  cases u with
  | int j t=>
   rw[kcIn]at h;obtain rfl:=of_decide_eq_true h;exact⟨.int i,⟨t,rfl⟩,.int i⟩
  |_=>simp[kcIn]at h
 | .tup ks,u,h=>by
  cases u with
  | ref a=>
   rw[kcIn]at h
   split at h
   ·rename_i t d its n sl e;rw[B6,B6]at h;obtain⟨h1,h2,k⟩:=h;have h1:t = "tuple":=by simpa using h1
    subst h1;obtain⟨vs,g,f⟩:=Qjy ks its.toList k;exact⟨.ref a,rfl,.tup e rfl rfl (Dg (of_decide_eq_true h2) (by decide)) g f⟩
   ·cases h
  |_=>simp[kcIn]at h
 | .any _,u,h=>by simp[kcIn]at h
 | .fn _,u,h=>by simp[kcIn]at h
theorem Qjy{K:Frag}:∀(b:List KC)(us:List Value),Qk3 K b us=true->∃vs,Vals vs us/\AreKC K b vs
 | [],us,h=>by
  cases us with
  |nil=>exact⟨[],.nil,.nil⟩
  |cons _ _=>simp[Qk3]at h
 | c::b,us,h=>by
  cases us with
  |nil=>simp[Qk3]at h
  | cons u us=>
   rw[Qk3,B6]at h;obtain⟨v,g,f⟩:=Qni c u h.1;obtain⟨vs,l,m⟩:=Qjy b us h.2;exact⟨v::vs,.cons g l,.cons f m⟩
end
abbrev KcN(K:Frag)(mg:Str->Option Value)(y:Str)(c:KC):Prop:=∃a,mg y=some (.ref a)/\kcIn K c (.ref a)=true
section
variable {T:Tg}{a b:Expr}{k:Nat}
theorem Q2c{c:KC}(a:KcN X.K X.mg y c)(hg:Gl X y:=by rfl)(hd:(y==("__debug__":Str))=false:=by decide):EV X T false true (.Name y pos) (wC (.kc c)):=by
 obtain⟨f,e,b⟩:=a;obtain⟨v,g,d⟩:=Qni c _ b;exact U7 (Qms hg e (v:=v) g hd) λ_=>.kc d
def Qz3(d:D)(k:List D->Prop):Prop:=match d with
 | .lst es=>Qj es=true/\k (Gb 0 es)
 |_=>False
def Qlq(i:Nat):WL:=λρ Q=>oget (look ρ i) λd=>Qz3 d λl=>Q l ρ
theorem Qq0(hm:X.mg "enumerate" = none)(D:T.own i=false:=by rfl)(hN:X.N[i]? = some x:=by rfl)(C:Vis X.env.scope x:=by first|exact Ms rfl|exact Fg (Ms rfl)|exact Fg (Fg rfl))(hd:(x==("__debug__":Str))=false:=by decide)
  (g:(x==("__classdict__":Str))=false:=by decide) (hg:Gl X "enumerate":=by rfl) (I:starEach [.Name x p2] X.env=[(false,eval (.Name x p2) X.env)]:=by rfl) (h:starEach [.Name x p2] X.env=(false,eval (.Name x p2) X.env)::starEach [] X.env:=by rfl) :
  IV X T false true (.Tuple ts kt pt) (.Call (.Name "enumerate" p) [.Name x p2] [] pos) (Qlq i):=by
 refine⟨_,Qqc hg hm (Qcj (Uf hN C hd g) Qjm h) I,λz R σ H W ρ Q RR s hw k=>?_⟩;obtain⟨d,l,q⟩:=Qn hw;obtain⟨fp,j⟩:=id s;obtain⟨v,h1,u⟩:=j.at_ i d l;have w:∀b∈fp i,¬W b:=λb E hw=>j.wr b hw (j.ro i d l D b E);refine⟨v,h1,?_⟩;generalize fp i=G at u w;cases d with
 | lst es=>
  obtain⟨M,q⟩:=q;cases u with
  | @lst a xs _ F A r=>
   obtain⟨N,r⟩:=r.pure M;subst N;refine⟨a,rfl,⟨xs,.of A⟩,k _ H W _ ρ ⟨s,FrW.refl H W,λ_=>⟨Same.refl H,rfl,rfl⟩⟩ (λi H2 W2 f=>?_) q⟩;rw[X9]at f;have e:H2 a=some (.lst xs):=f.keep _ _ A (w a An);refine⟨λhi=>⟨xs,.of e,by rw[r.length];rwa [Zd]at hi⟩,λd hd=>?_⟩;rw[Us]at hd;cases c:es[i]? with
   |none=>rw[c]at hd;cases hd
   | some d'=>
    rw[c]at hd;obtain⟨x,B,o,K,J⟩:=r.get c;refine⟨⟨xs,x,.of e,o⟩,λv O y=>?_⟩;obtain⟨P,t,h1,rfl,n,rfl⟩:=y xs (.of e);rw[o]at h1;cases h1;have L:B=[]:=Fw.mp J;subst L;refine⟨Qg n,[],?_,λa m=>nomatch m⟩;cases hd;rw[Bp];exact .tup Qh (.cons (F:=[]) (G:=[]) (.int _) (Reps.one ((K.keep f λa m=>nomatch m).same (Qg n))))
 |_=>exact(show False from q).elim
end
theorem Qxz{es:List D}:Qz3 (.lst es) k=(Qj es=true/\k (Gb 0 es)):=rfl
theorem Qjf:Qpw (.kc (.tup ks)) k=k (ks.map kcD):=rfl
end PV
namespace PV
open PySem PySem.Spec L2 PyProof.Rows
mutual
noncomputable def nF:D->D
 | .tup xs=>.tup (nFs xs)
 | .lst xs=>.lst (nFs xs)
 | .kls xs=>.lst (nFs xs)
 | .non=>.non
 | .int i=>.int i
 | .str x=>.str x
 |_=>.ty .int
noncomputable def nFs:List D->List D
 | []=>[]
 |d::r=>nF d::nFs r
end
end PV
variable {y:L2.V}
namespace Mx
open PySem PySem.Spec L2
theorem Qix{o:HO}(h:H a=some o):upd H a o=H:=by
 funext b;unfold upd;split
 ·rename_i z;rw[z,h]
 ·rfl
noncomputable def Q1g:V->List V->Hp->VK->Prop:=λx vs H Q=>∃a kvs k y dv,x=.ref a/\vs=[y,dv]/\H a=some (mixO a kvs)/\Keys H kvs/\X7 H k y/\(valM kvs k=none->Q dv (upd H a (mixO a kvs)))/\∀v,valM kvs k=some v->Q v (upd H a (mixO a (Qh9 kvs k)))
def Q1h:V->List V->Hp->VK->Prop:=λx vs H Q=>∃a kvs k y dv,x=.ref a/\vs=[y,dv]/\H a=some (mixO a kvs)/\Keys H kvs/\X7 H k y/\Q ((valM kvs k).getD dv) (upd H a (mixO a kvs))
theorem Qit{dv:V}(r:Vals [y,dv] us):∃u w,us=[u,w]/\RelV y u/\RelV dv w:=by
 cases r with
 | cons h1 t=>cases t with
  |cons h2 t=>cases t;exact⟨_,_,rfl,h1,h2⟩
theorem Qvn(m:X.A.units+5<cLine):MtM X "dict.pop" Q1g:=by
 intro pins s σ H x vs v us Q I g i h;obtain⟨a,kvs,k,y,dv,rfl,rfl,d,o,f,l,n⟩:=h;cases g;obtain⟨u,w,rfl,j,rd⟩:=Qit i;refine Q11 m I d o f j (λp s' b=>?_) λv q s' e b c=>⟨v,_,b,c,n v e⟩
 have:=l p;rw[Qix d]at this;exact⟨dv,_,b,rd,this⟩
theorem Qvo(i:X.A.units+5<cLine):MtM X "dict.get" Q1h:=by
 intro pins s σ H x vs v us Q I e f h;obtain⟨a,kvs,k,y,dv,rfl,rfl,c,l,d,q⟩:=h;cases e;obtain⟨u,w,rfl,g,rd⟩:=Qit f;rw[Qix c]at q;exact Q12 i I c l d g rd λm s' j b=>⟨_,_,j,b,q⟩
end Mx
variable {k:Mx.MI}{kvs:Mx.KVM}{ds:List (Mx.MI×PV.D)}
namespace PV
open PySem PySem.Spec L2 Mx
theorem hu5{k:Nat}(r:Room k A):A.units+5<cLine:=by have:=r.un;lia
def Qa3:List D->Option (List Int)
 | []=>some []
 | .int i::r=>(Qa3 r).map (i :: ·)
 |_=>none
def eltM:D->Option EI
 | .int i=>some (.inl i)
 | .tup xs=>(Qa3 xs).map .inr
 |_=>none
def X2:List D->Option (List EI)
 | []=>some []
 | d::r=>match eltM d,X2 r with
  |some e,some l=>some (e::l)
  |_,_=>none
def keyM:D->Option MI
 | .int i=>some (.inl i)
 | .tup xs=>(X2 xs).map .inr
 |_=>none
theorem Qgq:∀{xs:List D}{l:List Int},Qa3 xs=some l->xs=l.map .int
 | [],l,h=>by cases h;rfl
 | d::r,l,h=>by
  cases d with
  | int i=>
   obtain⟨m,hm,rfl⟩:=B8.mp (show(Qa3 r).map (i :: ·)=some l from h);rw[Qgq hm];rfl
  |_=>cases h
section
variable {K:Frag}
theorem Qj1:∀{l:List Int}{xs:List V}{F:List Addr},Reps K H (l.map .int) xs F->xs=l.map V.int
 | [],_,_,r=>by cases r;rfl
 | i::l,_,_,r=>by
  cases r with
  |cons h r=>cases h;rw[Qj1 r];rfl
theorem Qq9{k:EI}(r:Rep K H d v F)(h:eltM d=some k):G0 H k v:=by
 cases d with
 |int i=>cases h;cases r;rfl
 | tup xs=>
  obtain⟨l,a,rfl⟩:=B8.mp (show(Qa3 xs).map .inr=some k from h);have:=Qgq a;subst this;cases r with
  |tup e r=>rw[Qj1 r]at e;exact⟨_,rfl,e⟩
 |_=>cases h
theorem Qgy:∀{ds:List D}{vs:List V}{F:List Addr}{l:List EI},Reps K H ds vs F->X2 ds=some l->Paired (G0 H) l vs
 | [],_,_,l,r,h=>by cases r;cases h;exact .nil
 | d::ds,_,_,l,r,h=>by
  cases r with
  | cons p r=>
   unfold X2 at h
   split at h
   ·rename_i e a h1 h2;cases h;exact .cons (Qq9 p h1) (Qgy r h2)
   ·cases h
theorem Qbj(r:Rep K H d v F)(h:keyM d=some k):X7 H k v:=by
 cases d with
 |int i=>cases h;cases r;rfl
 | tup xs=>
  obtain⟨l,a,rfl⟩:=B8.mp (show(X2 xs).map .inr=some k from h);cases r with
  |tup e r=>exact⟨_,_,rfl,e,Qgy r a⟩
 |_=>cases h
structure Mrep(K:Frag)(H:Hp)(ds:List (MI×D))(kvs:KVM):Prop where
 hm:kvs.map (·.1)=ds.map (·.1)
 r:Reps K H (ds.map (·.2)) (kvs.map (·.2.2)) []
theorem Mrep.cons_inv(h:Mrep K H ((k,d)::ds) kvs):∃y v r,kvs=(k,y,v)::r/\Rep K H d v []/\Mrep K H ds r:=by
 obtain⟨hm,a⟩:=h;cases kvs with
 |nil=>cases hm
 | cons p r=>
  obtain⟨j,y,v⟩:=p;have e:j=k:=(List.cons.inj hm).1;subst e;have a:Reps K H (d::ds.map (·.2)) (v::r.map (·.2.2)) []:=a;generalize b:([]:List Addr)=F at a;cases a with
  | cons h1 h2=>
   obtain⟨rfl,rfl⟩:=List.append_eq_nil_iff.mp b.symm;exact⟨y,v,r,rfl,h1,(List.cons.inj hm).2,h2⟩
theorem Mrep.val{k:MI}:∀{ds:List (MI×D)} {kvs:KVM},Mrep K H ds kvs->(valD ds k=none/\valM kvs k=none)\/∃d v,valD ds k=some d/\valM kvs k=some v/\Rep K H d v []
 | [],kvs,h=>by
  have:kvs=[]:=by have:=h.hm;cases kvs with|nil=>rfl|cons _ _=>cases this
  subst this;exact .inl ⟨rfl,rfl⟩
 | (j,d)::ds,kvs,h=>by
  obtain⟨y,v,r,rfl,h1,h2⟩:=h.cons_inv;unfold valD valM;by_cases e:j=k
  ·rw[Mt (by simpa using e),Mt (by simpa using e)];exact .inr ⟨d,v,rfl,rfl,h1⟩
  ·rw[Mu (by simpa using e),Mu (by simpa using e)];exact Mrep.val h2
theorem Mrep.mk_cons(h1:Rep K H d v [])(h:Mrep K H ds kvs):Mrep K H ((k,d)::ds) ((k,y,v)::kvs) :=
 ⟨by rw[Ar,Ar,h.hm],.cons (F:=[]) (G:=[]) h1 h.r⟩
theorem Mrep.drop{k:MI}:∀{ds:List (MI×D)} {kvs:KVM},Mrep K H ds kvs->Mrep K H (Ze ds k) (Qh9 kvs k)
 | [],kvs,h=>by
  have:kvs=[]:=by have:=h.hm;cases kvs with|nil=>rfl|cons _ _=>cases this
  subst this;exact h
 | (j,d)::ds,kvs,h=>by
  obtain⟨y,v,r,rfl,h1,h2⟩:=h.cons_inv;have a:=h2.drop (k:=k);unfold Ze Qh9 at a ⊢;by_cases e:j=k
  ·rw[D2 (by simpa using e),D2 (by simpa using e)];exact a
  ·rw[D3 (by simpa using e),D3 (by simpa using e)];exact a.mk_cons h1
theorem U4{o:HO}(e:H a=some o)(ho:imm o=false)(h:Keys H kvs):Keys (upd H a ob) kvs:=λp d=>
 U5 (h:=h p d) λb xs c=>by rw[Qm (λz=>by rw[z,e]at c;cases c;cases ho)];exact c
theorem Mrep.upd{o:HO}(e:H a=some o)(ho:imm o=false)(h:Mrep K H ds kvs):Mrep K (L2.upd H a ob) ds kvs :=
 ⟨h.hm,h.r.upd e ho λz=>nomatch z⟩
end
def Qk7:GM
 | .dmx kvs,[key,dflt],k=>oget (keyM key) λkk=>key.pure=true/\dflt.pure=true/\match valD kvs kk with
  |none=>k dflt (.dmx kvs)
  |some d=>k d (.dmx (Ze kvs kk))
 |_,_,_=>False
def Qq4:GM
 | .dmx kvs,[key,dflt],k=>oget (keyM key) λkk=>key.pure=true/\dflt.pure=true/\k ((valD kvs kk).getD dflt) (.dmx kvs)
 |_,_,_=>False
theorem Qe0(y:X.A.units+5<cLine):MtD X "dict.pop" Qk7:=by
 refine⟨_,Qvn y,λH d ds v xs F G k Q r nd A u dis g q=>?_⟩;cases d with
 | dmx es=>
  cases ds with
  |nil=>exact(show False from g).elim
  | cons key ds=>
   cases ds with
   |nil=>exact(show False from g).elim
   | cons dflt ds=>
    cases ds with
    |cons _ _=>exact(show False from g).elim
    | nil=>
     obtain⟨kk,m,f,i,g⟩:=Qn g;obtain⟨x,t,F1,F2,rfl,j,h⟩:=A.at2;cases r with
     | @dmx l kvs _ e n hm w=>
      obtain⟨-,j⟩:=j.pure f;obtain⟨-,h⟩:=h.pure i;have M:Mrep X.K H es kvs:=⟨hm,w⟩
      refine⟨l,kvs,kk,x,t,rfl,rfl,e,n,Qbj j m,λB=>?_,λv s=>?_⟩
      ·rcases M.val (k:=kk) with⟨o,_⟩|⟨d,v,_,b,_⟩
       ·rw[o]at g;have M2:=M.upd (ob:=mixO l kvs) e rfl;exact q t l _ dflt (.dmx es) [l] An rfl (.dmx Qh (U4 e rfl n) M2.hm M2.r) (by simp) (λa c=>.inl c) (h.upd e rfl λz=>nomatch z) g
       ·rw[B]at b;cases b
      ·rcases M.val (k:=kk) with⟨_,b⟩|⟨d,D,o,b,rd⟩
       ·rw[s]at b;cases b
       ·rw[o]at g;rw[s]at b;cases b;have M2:=(M.drop (k:=kk)).upd (ob:=mixO l (Qh9 kvs kk)) e rfl;exact q v l _ d (.dmx (Ze es kk)) [l] An rfl (.dmx Qh (U4 e rfl λp C=>n p (Do.mp C).1) M2.hm M2.r) (by simp) (λa c=>.inl c) (rd.upd e rfl λz=>nomatch z) g
 |_=>exact(show False from g).elim
theorem Qm9(x:X.A.units+5<cLine):MtD X "dict.get" Qq4:=by
 refine⟨_,Qvo x,λH d ds v xs F G k Q r nd y s dis g q=>?_⟩;cases d with
 | dmx es=>
  cases ds with
  |nil=>exact(show False from g).elim
  | cons key ds=>
   cases ds with
   |nil=>exact(show False from g).elim
   | cons dflt ds=>
    cases ds with
    |cons _ _=>exact(show False from g).elim
    | nil=>
     obtain⟨kk,j,c,h,g⟩:=Qn g;obtain⟨w,p,F1,F2,rfl,i,f⟩:=y.at2;cases r with
     | @dmx l kvs _ e m hm t=>
      obtain⟨-,i⟩:=i.pure c;obtain⟨-,f⟩:=f.pure h;have M:Mrep X.K H es kvs:=⟨hm,t⟩
      have M2:=M.upd (ob:=mixO l kvs) e rfl;refine⟨l,kvs,kk,w,p,rfl,rfl,e,m,Qbj i j,?_⟩;rcases M.val (k:=kk) with⟨o,n⟩|⟨d,u,o,n,rd⟩
      ·rw[o]at g;rw[n];exact q p l _ dflt (.dmx es) [l] An rfl (.dmx Qh (U4 e rfl m) M2.hm M2.r) (by simp) (λa b=>.inl b) (f.upd e rfl λz=>nomatch z) g
      ·rw[o]at g;rw[n];exact q u l _ d (.dmx es) [l] An rfl (.dmx Qh (U4 e rfl m) M2.hm M2.r) (by simp) (λa b=>.inl b) (rd.upd e rfl λz=>nomatch z) g
 |_=>exact(show False from g).elim
end PV
variable {w:A0t}
namespace Mx
open PySem PySem.Spec L2
theorem Qub(f:X.A.units+5<cLine):PSet X (λo i v H Q=>∃a kvs k,o=.ref a/\H a=some (mixO a kvs)/\Keys H kvs/\X7 H k i/\kvs.length<sizeLine/\Q (upd H a (mixO a (putV kvs k i v)))):=by
 intro pins s σ H o i v ov l u Q I ro g e q;obtain⟨a,kvs,k,rfl,d,j,b,c,q⟩:=q;cases ro;exact Q10 f I d j b g e c λs' h=>⟨_,h,q⟩
theorem Qrb(h:Heap)(a:sysModules<h.objs.size):Ja P w H (h.push { cls:=.type "dict",data:=.dict #[] }) h.objs.size (mixO h.objs.size []) :=
 Qa1 ⟨beq_eq_false_iff_ne.mpr λz=>By a z.symm,Dq _,Df,[],.nil,_,#[],0,Be _ rfl,⟨rfl,rfl,rfl⟩,rfl,rfl⟩
theorem Qqf:PE X (.Dict [] [] pos) (λ_ H Q=>∀p,H p=none->Q (.ref p) (upd H p (mixO p []))):=λpins s σ H Q I h=>
 wpAny_Dict_empty ⟨.ref s.heap.objs.size,_,I.laid (a:=s.heap.objs.size) (o:=mixO s.heap.objs.size []) (t':=s.toks) (λ_ _ q=>Ao _ q) (At _) (Qrb s.heap I.big),rfl,h _ (I.hok.fresh (At _))⟩
end Mx
namespace PV
open PySem PySem.Spec L2 Mx
section
variable {K:Frag}
theorem Mrep.any(h:Mrep K H ds kvs):(valM kvs k).isSome=ds.any λb=>decide (b.1=k):=by
 induction ds generalizing kvs with
 | nil=>
  have:kvs=[]:=by have:=h.hm;cases kvs with|nil=>rfl|cons _ _=>cases this
  subst this;rfl
 | cons p ds a=>
  obtain⟨j,d⟩:=p;obtain⟨y,v,r,rfl,h1,h2⟩:=h.cons_inv;have a:=a h2;unfold valM at a ⊢;rw[Rr,← a];by_cases e:j=k
  ·rw[Mt (by simpa using e)];simp[e]
  ·rw[Mu (by simpa using e)];simp[e]
theorem Mrep.map{k:MI}{d:D}{v:V}(hd:Rep K H d v []):∀{ds:List (MI×D)} {kvs:KVM},Mrep K H ds kvs->Mrep K H (ds.map λa=>if a.1=k then (a.1,d)else a) (kvs.map λp=>if p.1=k then (p.1,p.2.1,v)else p)
 | [],kvs,h=>by
  have:kvs=[]:=by have:=h.hm;cases kvs with|nil=>rfl|cons _ _=>cases this
  subst this;exact h
 | (j,c)::ds,kvs,h=>by
  obtain⟨y,w,r,rfl,h1,h2⟩:=h.cons_inv;have b:=Mrep.map (k:=k) hd h2;rw[Ar,Ar];by_cases e:j=k
  ·rw[if_pos e,if_pos e];exact b.mk_cons hd
  ·rw[if_neg e,if_neg e];exact b.mk_cons h1
theorem Mrep.app{k:MI}{d:D}{y v:V}(hd:Rep K H d v []):∀{ds:List (MI×D)} {kvs:KVM},Mrep K H ds kvs->Mrep K H (ds++[(k,d)]) (kvs++[(k,y,v)])
 | [],kvs,h=>by
  have:kvs=[]:=by have:=h.hm;cases kvs with|nil=>rfl|cons _ _=>cases this
  subst this;exact h.mk_cons hd
 | (j,c)::ds,kvs,h=>by
  obtain⟨a,w,r,rfl,h1,h2⟩:=h.cons_inv;exact(Mrep.app hd h2).mk_cons h1
theorem Mrep.put(h:Mrep K H ds kvs)(hd:Rep K H d v []):Mrep K H (putD ds k d) (putV kvs k y v):=by
 unfold putD putV;rw[h.any];split
 ·exact h.map hd
 ·exact h.app hd
theorem Qmj(b:Keys H kvs)(c:X7 H k y):Keys H (putV kvs k y v):=by
 unfold putV;split
 ·intro p a;obtain⟨q,d,rfl⟩:=As.mp a;have:=b q d;split
  ·exact this
  ·exact this
 ·intro p a;rcases Bx.mp a with a|a
  ·exact b p a
  ·rw[Aw.mp a];exact c
end
def Qz9(s c d:D)(k:D->Prop):Prop:=match s with
 | .dmx kvs=>oget (keyM c) λkk=>c.pure=true/\kvs.length<sizeLine/\k (.dmx (putD kvs kk d))
 |_=>False
def G5(i:Nat)(wv wi:WE):WS:=λP ρ=>wv ρ λd ρ1=>d.pure=true/\(look ρ1 i).isSome=true/\wi ρ1 λc ρ2=>oget (look ρ2 i) λs=>Qz9 s c d λs'=>P.nx (ρ2.set i (some s'))
theorem U0{kvs:List (MI×D)}{c:D}{k:D->Prop}:Qz9 (.dmx kvs) c d k=oget (keyM c) λkk=>c.pure=true/\kvs.length<sizeLine/\k (.dmx (putD kvs kk d)):=rfl
section
variable {T:Tg}
theorem U6:EV X T false true (.Dict [] [] pos) (wC (.dmx [])) :=
 ⟨_,Qqf,λz R σ H W ρ Q Q' s hw k a c=>k _ _ W (.dmx []) ρ [a] (Post.fin s (FrW.refl H W) (λ_=>⟨Same.refl H,rfl,rfl⟩) (Qg c) (.dmx Qh (λp d=>nomatch d) rfl .nil) (by simp) (λb m=>by rw[Aw.mp m];exact c)) hw⟩
theorem Gm{v ix:Expr}{wv wi:WE}{f:Pos}(hu:X.A.units+5<cLine)(U:EV X T m1 o1 v wv)(hi:EV X T m2 o2 ix wi)(L:T.own i=true:=by rfl)(hN:X.N[i]? = some x:=by rfl)
  (n:Vis X.env.scope x:=by first|exact Ms rfl|exact Fg (Ms rfl)|exact Fg (Fg rfl)) (hd:(x==("__debug__":Str))=false:=by decide) (t:(x==("__classdict__":Str))=false:=by decide)
  (ha:∀v,assign (.Subscript (.Name x px) ix f) X.env v=(do
   let ov ← holding [v] (eval (.Name x px) X.env)
   let A ← holding [v,ov] (eval ix X.env)
   standAt f
   holding [v,ov,A] (setItem ov A v)
   release [v,ov,A] []):=by intro _;rfl) (hs:swapsWithSole [.Subscript (.Name x px) ix f] v pos.line X.env=pure false:=by rfl) (hw:swappedStores [.Subscript (.Name x px) ix f] v X.env=pure none:=by rfl)
  (h1:(assignEach [.Subscript (.Name x px) ix f] X.env).map (·.2)=[assign (.Subscript (.Name x px) ix f) X.env]:=by rfl):SV X T (.Assign [.Subscript (.Name x px) ix f] v pos) (G5 i wv wi):=by
 obtain⟨tv,pv,Z⟩:=U
 obtain⟨ti,pi,gi⟩:=hi
 refine⟨_,Qss pv (Qsw (Uf hN n hd t) pi (Qub hu) ha) hs hw h1,λz R σ H W ρ P E s hw l=>?_⟩
 refine Z z R σ H W ρ _ _ s hw λv1 H1 W1 d ρ1 F1 p z9=>?_
 obtain⟨hp,w,q⟩:=z9
 obtain⟨-,rv⟩:=p.rep.pure hp
 obtain⟨V,D⟩:=M6.mp w
 obtain⟨aa,s0⟩:=id p.sr
 obtain⟨u,j,_⟩:=s0.at_ i V D
 refine⟨u,j,gi z R σ H1 W1 ρ1 _ _ p.sr q λv2 H2 W2 c ρ2 F2 p2 h=>?_⟩
 obtain⟨d1,r,h⟩:=Qn h
 obtain⟨fp,o⟩:=id p2.sr
 obtain⟨u',g,Y⟩:=o.at_ i d1 r
 have:u'=u:=by rw[j]at g;cases g;rfl
 subst this
 have B:Rep X.K H2 d v1 []:=rv.keep p2.fr λa m=>nomatch m
 obtain⟨nd,Q⟩:=o.own i d1 r L
 generalize S:fp i=F at *
 cases d1 with
 | dmx es=>
  obtain⟨kk,I,G,hz,h⟩:=Qn h
  obtain⟨-,rc⟩:=p2.rep.pure G
  cases Y with
  | @dmx a kvs _ e K hm rr=>
   have M:Mrep X.K H2 es kvs:=⟨hm,rr⟩
   have J:=Qbj rc I
   have M2:=(M.put (k:=kk) (y:=v2) B).upd (ob:=mixO a (putV kvs kk v2 v1)) e rfl
   have O:kvs.length=es.length:=by have:=congrArg Oz hm;simpa using this
   refine⟨a,kvs,kk,rfl,e,K,J,by lia,?_⟩
   have N:=Q a An
   exact l.nx R σ _ _ _ (o.write r L g (by rw[S];exact An) Uv ⟨_,Qh,rfl⟩ (.dmx Qh (U4 e rfl (Qmj K J)) M2.hm M2.r) (by simp) λb C=>.inl (by rw[S];exact C)) ((p.fr.trans p2.fr).write N (o.wd a N) Uv ⟨_,Qh,rfl⟩ λb C=>.inl (Q b C)) h
 |_=>exact(show False from h).elim
end
end PV
namespace PV
open PySem PySem.Spec L2
def dIxC:G2:=λa b k=>match a with
 | .kc (.tup ks)=>onI b λi=>oget (L2.atI (ks.map kcD) i) k
 | .tup xs=>onI b λi=>oget (L2.atI xs i) k
 |_=>False
theorem Qag{i:Int}{k:D->Prop}:dIxC (.kc (.tup ks)) (.int i) k=oget (L2.atI (ks.map kcD) i) k:=rfl
theorem Qln(o:X.A.units+1<cLine):IxD X dIxC:=by
 refine⟨_,IxR.or Qs4 (Qnk o),λH a b x y F1 F2 k Q l j g q=>?_⟩;cases a with
 | tup ds=>
  obtain⟨i,rfl,g⟩:=Gp g;obtain⟨a,xs,rfl,e,r⟩:=l.iTup;obtain⟨d,h,g⟩:=Qn g;obtain⟨v,B,h1,h2,f⟩:=r.atI h;exact .inl (.inr (.inl ⟨a,xs,i,v,rfl,j.iInt,.of e,h1,q _ _ _ h2 f g⟩))
 | kc c=>
  cases c with
  | tup ks=>
   obtain⟨i,rfl,g⟩:=Gp g;obtain⟨-,p⟩:=l.pure (by rw[D.pure]);cases p with
   | kc h=>
    obtain⟨a,xs,rfl,n,m⟩:=h.sqT;obtain⟨d,h,g⟩:=Qn g;have r:Reps X.K H (ks.map kcD) xs []:=m.reps;obtain⟨v,B,h1,h2,f⟩:=r.atI h;exact .inl (.inr (.inl ⟨a,xs,i,v,rfl,j.iInt,n H,h1,q _ _ _ h2 (f.trans (Ir _)) g⟩))
  |_=>exact(show False from g).elim
 |_=>exact(show False from g).elim
end PV
variable {kvs:List (Mx.MI×PV.D)}
namespace PV
open PySem PySem.Spec L2 Mx
section
variable {T:Tg}{a b:Expr}{y:Str}
theorem SR0.gone{K:Frag}{W:Addr->Prop}{s:Nat}{a:Addr}{kvs:KVM}{ob:Obj}(h:SR0 K T z R H W σ ρ fp)
  (t:look ρ s=some (.dmx ds)) (v:T.own s=true) (B:σ[s]? = some (some (.ref a))) (e:H a=some (mixO a kvs)) (r:Keys H kvs) (M:Mrep K H ds kvs) (A:fp s=[a]) :
  SR K T z R (upd H a (.frz ob (mixO a kvs))) (λb=>W b/\b≠a) σ (ρ.set s (some (.fmx ds))):=by
 obtain ⟨nd,y⟩:=h.own s _ t v;rw[A]at nd y;have w:=y a An;have p:¬R a:=h.wr a w;have hi:ImmK H (upd H a (.frz ob (mixO a kvs))):=Um e rfl;have M2:=M.upd (ob:=.frz ob (mixO a kvs)) e rfl;have l:∀j d,look ρ j=some d->j≠s->a∉fp j:=λj d f m x=>by
  cases g:T.own j with
  |true=>exact h.dis s j _ d t f v g (λz=>m z.symm) a (by rw[A];exact An) x
  |false=>exact p (h.ro j d f g a x)
 refine⟨λj=>if j=s then []else fp j,?_,?_,?_,?_,?_,?_,?_,?_,h.fix⟩
 ·rw[Nl];exact h.len
 ·rintro b ⟨i,m⟩;rw[Qm m];exact h.wd b i
 ·intro j d f;by_cases c:j=s
  ·subst c;rw[Xo (Qe2 t)]at f;cases f;exact⟨_,B,by rw[if_pos rfl];exact .fmx Qh (U4 e rfl r) M2.hm M2.r⟩
  ·rw[Qt c]at f;obtain⟨u,h1,h2⟩:=h.at_ j d f;refine⟨u,h1,?_⟩;rw[if_neg c];exact h2.frame hi λb i=>Qm λz=>l j d f c (z ▸ i)
 ·intro j d f g;by_cases c:j=s
  ·subst c;simp only[if_pos];exact⟨Df,λb i=>nomatch i⟩
  ·rw[Qt c]at f;simp only[if_neg c];exact⟨(h.own j d f g).1,λb i=>⟨(h.own j d f g).2 b i,λz=>l j d f c (z ▸ i)⟩⟩
 ·intro j d f g;have c:j≠s:=λz=>by subst z;rw[v]at g;cases g
  rw[Qt c]at f;simp only[if_neg c];exact h.ro j d f g
 ·exactλb i q=>h.wr b i.1 q
 ·intro b q;rw[Qm (show b≠a fromλz=>p (z ▸ q))];exact h.rd b q
 ·intro j k d d' f r D C m b i n;by_cases c:j=s
  ·subst c;simp only[if_pos]at i;exact nomatch i
  ·rw[Qt c]at f;simp only[if_neg c]at i;by_cases o:k=s
   ·subst o;simp only[if_pos]at n;exact nomatch n
   ·rw[Qt o]at r;simp only[if_neg o]at n;exact h.dis j k d d' f r D C m b i n
def eiD:EI->D
 | .inl i=>.int i
 | .inr l=>.tup (l.map .int)
def miD:MI->D
 | .inl i=>.int i
 | .inr l=>.tup (l.map eiD)
def Gi(kvs:List (MI×D)):List D:=kvs.map λa=>.tup [miD a.1,a.2]
def Qe5(d:D)(k:List (MI×D)->Prop):Prop:=match d with
 | .dmx kvs=>k kvs
 |_=>False
theorem Vo{k:List (MI×D)->Prop}:Qe5 (.dmx kvs) k=k kvs:=rfl
def Zs(s:Nat):WL:=λρ Q=>oget (look ρ s) λc=>Qe5 c λkvs=>Q (Gi kvs) (ρ.set s (some (.fmx kvs)))
theorem Que{K:Frag}{k:EI}{y:V}(h:G0 H k y):Rep K H (eiD k) y []:=by
 cases k with
 |inl i=>cases(show y=.int i from h);exact .int i
 | inr l=>
  obtain⟨b,rfl,e⟩:=(show ∃b,y=.ref b/\H b=some (.tup (l.map V.int))from h)
  exact .tup e (Reps.ints l)
theorem Qjb{K:Frag}{H:Hp}:∀{l:List EI}{ys:List V},Paired (G0 H) l ys->Reps K H (l.map eiD) ys []
 |_,_,.nil=>.nil
 |_,_,.cons p t=>.cons (F:=[]) (G:=[]) (Que p) (Qjb t)
theorem Ql8{K:Frag}{y:V}(h:X7 H k y):Rep K H (miD k) y []:=by
 cases k with
 |inl i=>cases(show y=.int i from h);exact .int i
 | inr l=>
  obtain⟨b,ys,rfl,e,a⟩:=(show ∃b ys,y=.ref b/\H b=some (.tup ys)/\Paired (G0 H) l ys from h)
  exact .tup e (Qjb a)
theorem Mrep.at_{K:Frag}{y:V}:∀{ds:List (MI×D)} {kvs:KVM},Mrep K H ds kvs->kvs[i]? = some (k,y,v)->∃d,ds[i]? = some (k,d)/\Rep K H d v []:=by
 induction i with
 | zero=>
  intro ds kvs h a;cases ds with
  | nil=>
   have:kvs=[]:=by have:=h.hm;cases kvs with|nil=>rfl|cons _ _=>cases this
   subst this;cases a
  | cons p ds=>
   obtain⟨j,d⟩:=p;obtain⟨c,e,r,rfl,h1,h2⟩:=h.cons_inv;cases a;exact⟨d,rfl,h1⟩
 | succ i b=>
  intro ds kvs h a;cases ds with
  | nil=>
   have:kvs=[]:=by have:=h.hm;cases kvs with|nil=>rfl|cons _ _=>cases this
   subst this;cases a
  | cons p ds=>
   obtain⟨j,d⟩:=p;obtain⟨c,e,r,rfl,h1,h2⟩:=h.cons_inv;exact b h2 a
theorem Ul{s:Nat}(I:T.own s=true:=by rfl)(hN:X.N[s]? = some x:=by rfl)(O:Vis X.env.scope x:=by first|exact Ms rfl|exact Fg (Ms rfl)|exact Fg (Fg rfl))(hd:(x==("__debug__":Str))=false:=by decide)
  (w:(x==("__classdict__":Str))=false:=by decide) (l:attributeBase (.Name x p) "items" X.env (eval (.Name x p) X.env)=eval (.Name x p) X.env:=by rfl) (j:(apos.endLine==cpos.line)=true:=by rfl) :
  IV X T true true (.Tuple ts kt pt) (.Call (.Attribute (.Name x p) "items" apos) [] [] cpos) (Zs s):=by
 refine ⟨_,Qmo (Uf hN O hd w) l j,λz R σ H W ρ Q RR sr hw k=>?_⟩;obtain⟨c,q,hw⟩:=Qn hw;obtain⟨ds,rfl⟩:∃ds,c=D.dmx ds:=by
  clear q;cases c with
  |dmx ds=>exact⟨ds,rfl⟩
  |_=>exact(show False from hw).elim
 obtain ⟨fp,A⟩:=id sr;obtain⟨v,n,L⟩:=A.at_ s _ q;obtain⟨a,kvs,rfl,e,t,M,J⟩:∃(a:Addr)(kvs:KVM),v=.ref a/\H a=some (mixO a kvs)/\Keys H kvs/\Mrep X.K H ds kvs/\fp s=[a]:=by
  generalize fp s=Fi at L;cases L with
  | @dmx a kvs _ e1 t hm r=>exact⟨a,kvs,rfl,e1,t,⟨hm,r⟩,rfl⟩
 have B:W a:=(A.own s _ q I).2 a (by rw[J];exact An);refine⟨_,n,a,kvs,rfl,e,λob=>k _ _ (λb=>W b/\b≠a) (Gi ds) _ ⟨A.gone q I n e t M J,⟨λb u m U=>?_,λb m=>?_,Um e rfl,λb g=>.inl g.1⟩,λh=>nomatch h⟩ ?_ hw⟩
 ·rw[Qm (show b≠a fromλz=>U (z ▸ B))];exact m
 ·by_cases g:b=a
  ·rw[g,Qh]at m;cases m
  ·rw[Qm g]at m;exact m
 ·rw[X9];intro i H2 W2 f;have E:H2 a=some (.frz ob (mixO a kvs)):=f.imm _ _ Qh rfl;have N:kvs.length=ds.length:=by have:=congrArg Oz M.hm;simpa using this
  refine⟨λhi=>⟨E,by unfold Gi at hi;rw[Ap]at hi;lia⟩,λd hd=>?_⟩;unfold Gi at hd;have hi:i<ds.length:=by have:=(Au.mp hd).1;rwa [Ap]at this
  refine⟨⟨E,by lia⟩,λv H3 y=>?_⟩;obtain⟨kk,P,Z,pp,o,rfl,C,rfl⟩:=y;obtain⟨d',h1,h2⟩:=M.at_ o;rw[Bh,h1]at hd;cases hd;have Y:=t _ (Bk o);have V:Rep X.K H2 (miD kk) P []:=((Ql8 (K:=X.K) Y).upd (ob':=.frz ob (mixO a kvs)) e rfl (λz=>nomatch z)).keep f λb g=>nomatch g
  have S:Rep X.K H2 d' Z []:=(h2.upd (ob':=.frz ob (mixO a kvs)) e rfl (λz=>nomatch z)).keep f λb g=>nomatch g
  exact⟨Qg C,[]++([]++[]),.tup Qh (.cons (F:=[]) (G:=[]++[]) (V.same (Qg C)) (.cons (F:=[]) (G:=[]) (S.same (Qg C)) .nil)),λb g=>nomatch g⟩
end
end PV
namespace PV
open PySem PySem.Spec L2
def dLtT:G2
 | .tup xs,.tup ys,k=>∃ns a:List Int,xs=ns.map .int/\ys=a.map .int/\k (.bl (HT.J1 ns a))
 |_,_,_=>False
theorem Qyu(l:X.A.units+66<cLine):OpD X (compareOp .Lt) dLtT:=by
 refine⟨_,Qyn (by lia),λH a b x y F1 F2 k Q h f g q=>?_⟩;cases a with
 | tup xs=>
  cases b with
  | tup ys=>
   obtain⟨ns,i,rfl,rfl,g⟩:=g;cases h with
   | @tup a us _ F j e=>
    cases f with
    | @tup b vs _ F c d=>
     obtain⟨h1,rfl⟩:=e.of_ints;obtain⟨h2,rfl⟩:=d.of_ints;subst h1 h2;exact⟨a,b,ns,i,rfl,rfl,.of j,.of c,q _ _ _ _ (.flat (.bl _)) g⟩
  |_=>exact(show False from g).elim
 |_=>exact(show False from g).elim
abbrev pp2(p:List Int×List Int):D:=.tup [tupI p.1,tupI p.2]
theorem Reps.pps{K:Frag}{H:Hp}:∀{ps:List (List Int×List Int)} {ys:List V} {F:List Addr},Reps K H (ps.map pp2) ys F->F=[]/\∃d:List Addr,ys=d.map V.ref/\d.length=ps.length/\∀(i:Nat) p,ps[i]? = some p->∃a,d[i]? = some a/\PT2 H a p.1 p.2
 | [],_,_,r=>by cases r;exact⟨rfl,[],rfl,rfl,λi k h=>by simp at h⟩
 | p::ps,_,_,r=>by
  cases r with
  | cons h r=>
   obtain⟨n,d,h1,h2,j⟩:=Reps.pps r;cases h with
   | @tup a xs _ F e q=>
    cases q with
    | cons u q=>cases q with
     | cons m q=>
      cases q;cases u with
      | @tup b us _ z y s=>
       cases m with
       | @tup c vs _ G2 l o=>
        obtain⟨x,w⟩:=s.of_ints;obtain⟨g,v⟩:=o.of_ints;subst x w g v h1;refine⟨by rw[n];rfl,a::d,rfl,by simp[h2],λi t f=>?_⟩;cases i with
        |zero=>simp at f;subst f;exact⟨a,rfl,⟨b,c,e,y,l⟩⟩
        |succ i=>simpa using j i t (by simpa using f)
theorem Qxc{K:Frag}{p:List Int×List Int}(h:PT2 H a p.1 p.2):Rep K H (pp2 p) (.ref a) []:=by
 obtain⟨b,c,e,f,d⟩:=h;exact .tup e (.cons (F:=[]) (G:=[]) (.tup f (Reps.ints _)) (.cons (F:=[]) (G:=[]) (.tup d (Reps.ints _)) .nil))
theorem Reps.of_pps{K:Frag}{H:Hp}:∀{ps:List (List Int×List Int)} {b:List Addr},b.length=ps.length->(∀(i:Nat) p a,ps[i]? = some p->b[i]? = some a->PT2 H a p.1 p.2)->Reps K H (ps.map pp2) (b.map V.ref) []
 | [],[],_,_=>.nil
 |p::ps,a::b,c,h=>.cons (F:=[]) (G:=[]) (Qxc (h 0 p a rfl rfl)) (Reps.of_pps (by simpa using c) λi e d h1 h2=>h (i+1) e d (by simpa using h1) (by simpa using h2))
noncomputable def Qon:GA
 | [.lst ds],k=>∃(ps:List (List Int×List Int)) (num:List Int->Int),ds=ps.map pp2/\ps.length<64/\(ps.map (·.1)).Nodup/\(∀x∈ps,∀y∈ps,HT.J1 x.1 y.1=decide (num x.1<num y.1)) /\
   ∀out:List (List Int×List Int),out.Perm ps->out.Pairwise (λx y=>num x.1<=num y.1)->k (.lst (out.map pp2))
 |_,_=>False
theorem Qox(J:X.A.units+66<cLine):X8 X (.builtin "sorted") Qon:=by
 refine⟨_,Qie J,λH ds xs F k Q r g q=>?_⟩;cases ds with
 |nil=>exact(show False from g).elim
 | cons d ds=>
  cases ds with
  |cons _ _=>cases d<;>exact(show False from g).elim
  | nil =>
   cases d with
   | lst es=>
    obtain⟨v,rfl,rd⟩:=r.at1;obtain⟨ps,num,rfl,K,nd,o,g⟩:=g;cases rd with
    | @lst l ys _ F e G=>
    obtain ⟨-,m,rfl,A,z⟩:=G.pps;have c:∀i,i<ps.length->ps.getD i ([],[])∈ps/\ps[i]? = some (ps.getD i ([],[])):=λi hi=>by
     have:ps.getD i ([],[])=ps[i]:=by simp[Dt,hi]
     rw[this];exact⟨Rf hi,Bu hi⟩
    refine⟨l,m,λi=>(ps.getD i ([],[])).1,λi=>(ps.getD i ([],[])).2,λi=>num (ps.getD i ([],[])).1,rfl,e,by lia,λi a hi=>?_,λi j hi t f=>?_,λi j hi t=>o _ (c i (by lia)).1 _ (c j (by lia)).1,λp D B E y=>?_⟩
    ·have u:i<ps.length:=by rw[← A];exact(Au.mp hi).1
     obtain⟨I,h2,w⟩:=z i _ (c i u).2;rw[hi]at h2;cases h2;exact w
    ·have h1:(ps.map (·.1))[i]? = some (ps.getD i ([],[])).1:=by rw[Bh,(c i (by lia)).2];rfl
     have h2:(ps.map (·.1))[j]? = some (ps.getD j ([],[])).1:=by rw[Bh,(c j (by lia)).2];rfl
     have f:(ps.getD i ([],[])).1=(ps.getD j ([],[])).1:=f;rw[← f]at h2;exact(A0q (Au.mp h1).1 nd).mp (h1.trans h2.symm)
    ·have x:∀i∈p,i<ps.length:=λi hi=>by
      have:=B.mem_iff.mp hi;rw[Bl]at this;lia
     have perm:(p.map λi=>ps.getD i ([],[])).Perm ps:=by
      have:=B.map λi=>ps.getD i ([],[]);rw[A,Qea]at this;exact this
     refine q _ _ _ [D] ⟨Qg y,.lst Qh ?_,by simp,λb L=>by rw[Aw.mp L];exact y⟩ (g _ perm ?_)
     ·have N:(p.map λi=>V.ref (m.getD i 0))=(p.map λi=>m.getD i 0).map V.ref:=by simp
      rw[N];refine(Reps.of_pps (by simp) λi k a s hi=>?_).same (Qg y);rw[Bh]at s hi;cases h:p[i]? with
      |none=>rw[h]at s;cases s
      | some n=>
       rw[h]at s hi;cases s;cases hi;have M:=x n (Bk h);have C:n<m.length:=by lia
       obtain⟨I,h2,w⟩:=z n _ (c n M).2;show PT2 H (m.getD n 0) _ _;rw[Dt,h2];exact w
     ·refine Lx.mpr λi j hi t f=>?_;rw[Ap]at hi t;rw[Fx,Fx];exact E i j _ _ (Fo f) (Bu hi) (Bu t)
   |_=>exact(show False from g).elim
end PV
variable {k:PV.D->Prop}
namespace PV
open PySem PySem.Spec L2 Mx
open PyProof.Rows (envOfC)
theorem FnOk.thaw{K:Frag}{k:Nat}{j:Sp}(F:FnOk P w K mg base CX0 k f fd ps sp)
  (h:∀vs H Q E,j vs H Q E->∃a kvs,H a=some (mixO a kvs)/\sp vs H (λv H'=>∃ob d,H' a=some (.frz ob (mixO a d))/\Q v (upd H' a (mixO a d))) E):FnOk P w K mg base CX0 k f fd ps j:=by
 refine⟨λvs H Q E q=>?_,λA outer s H args us vs Q E G J p D t=>?_⟩
 ·obtain⟨_,_,_,q⟩:=h vs H Q E q;exact F.len _ _ _ _ q
 ·obtain ⟨a,kvs,l,t⟩:=h vs H Q E t;refine L4 (F.run A outer s H args us vs _ E G J p D t) λr s' g=>?_;cases r with
  |error e=>exact g
  | ok fl=>
   cases fl with
   | ret u=>
    obtain⟨v,H',os,bare,un,hok,I,ob,d,m,q⟩:=g;obtain⟨L,B⟩:=(show Ja P w H' s'.heap a (.frz ob (mixO a d))from hok a _ m)
    have i:∀vs,ob.data ≠ .fields vs:=λvs z=>by
     obtain⟨_,_,_,_,_,o,es,ep,C,_,y,_⟩:=B.1;rw[L]at C;cases C;rw[z]at y;cases y
    refine⟨v,upd H' a (mixO a d),os,bare,⟨un.keep,un.slot,λb o e n x=>?_,un.there,λb xs e=>?_,λb o u e=>?_,λb ps e=>?_⟩,λb u e=>?_,I,q⟩
    ·rw[Qm (λz=>by rw[z,l]at n;cases n)];exact un.free b o e n x
    ·rw[Qm (λz=>by rw[z,l]at e;cases e)];exact un.tups b xs e
    ·rw[Qm (λz=>by rw[z,l]at e;cases e)];exact un.frzs b o u e
    ·rw[Qm (λz=>by rw[z,l]at e;cases e)];exact un.tbls b ps e
    ·by_cases p:b=a
     ·subst p;rw[Qh]at e;cases e;exact Qa1 B.1
     ·rw[Qm p]at e;refine(hok b u e).stay (λc v _ q=>q) (λc q=>?_) (λc xs q=>?_) λc o v vs q hd=>?_
      ·rw[Qm (λz=>by rw[z,m]at q;cases q)];exact q
      ·rw[Qm (λz=>by rw[z,m]at q;cases q)];exact q
      ·rw[Qm (λz=>by rw[z,m]at q;cases q;exact i _ hd)];exact q
   |next=>exact Na g
   |brk=>exact Na g
   |cont=>exact Na g
def Qhm(d:D)(k:D->Prop):Prop:=match d with
 | .fmx kvs=>(kvs.all λa=>a.2.bare)=true/\k (.dmx kvs)
 |_=>False
theorem Z8:Qhm (.fmx kvs) k=((kvs.all λa=>a.2.bare)=true/\k (.dmx kvs)):=rfl
theorem Je:Qbc (.dmx kvs)=true:=rfl
theorem Ue:tyD (some (.dmx kvs)) "dict" = true:=rfl
noncomputable def spZ(K:Frag)(p:Nat)(g:GI):Sp:=λvs H Q _=>∃(ds:List D)(a:Addr)(k:D->D->Prop),Reps K H ds vs [a]/\vs[p]? = some (.ref a)/\g ds k /\
 ∀v H' ob c d e F',H' a=some (.frz ob (mixO a c))->Rep K (upd H' a (mixO a c)) (.dmx e) (.ref a) [a]->Rep K (upd H' a (mixO a c)) d v F'->F'.Nodup->(∀b∈F',H b=none)->(∀b o,H b=some o->b≠a->H' b=some o)->k d (.dmx e)->Q v H'
section
variable {K:Frag}{N:List Str}{k:Nat}{T:Tg}
theorem Qn1{p:Nat}(F:Fun K x qual st f fd)(S:FnScope N ps (Qc st))(af:T.io=[p])(Y:T.own p=true)(hg:∀ds kk,g ds kk->ds.length=ps.length/\∃kvs,ds[p]? = some (.dmx kvs))
  (m:∀(R:Value)(A:Around)(outer:List Dr)(s:Shared)(H:Hp)(E:XK),Room k (A.deeper (envOfC qual (Qc st) s.heap.objs.size f R))->SVs (cxOf CX0 P w K mg base N qual (Qc st) f R A outer s H E).nox T (Qr st) ww)
  (hr:∀ds kk,g ds kk->ww { nx:=λρ=>oget (look ρ p) λd'=>Qhm d' λM=>D.non.bare=true/\kk .non M,rt:=λd ρ=>oget (look ρ p) λd'=>Qhm d' λM=>d.bare=true/\kk d M } (env0 N ds)):FnOk P w K mg base CX0 (k+1) f fd ps (spI K p g):=by
 refine FnOk.thaw (sp:=spZ K p g) (F.ok S (λvs H Q E h=>?_) (λR A outer s H vs Q E W h=>?_)) λvs H Q E h=>?_
 ·obtain⟨ds,a,kk,rep,X,J,_⟩:=h;rw[rep.length];exact(hg ds kk J).1
 ·obtain ⟨ds,a,kk,rep,X,J,q⟩:=h;obtain⟨ts,ak,ar⟩:=m R A outer s H E W;have hl:=rep.length;obtain⟨ai,kvs,U⟩:=hg ds kk J;obtain⟨v0,A',B,C,h1,h2,Z,rA,rC⟩:=rep.split U;rw[X]at h1;cases h1;obtain⟨a',e1,e2⟩:=Z.flat1 rfl;cases e1;subst e2;have hA:A'=[]:=by
   cases A' with
   |nil=>rfl
   |cons y A'=>simp at h2
  subst hA;have hC:C=[]:=by
   cases C with
   |nil=>rfl
   |cons y C=>simp at h2
  subst hC;have ah:∀i d,i≠p->ds[i]? = some d->∃v,vs[i]? = some v/\Rep K H d v []:=λi d I hd=>by
   rcases La I with h|h
   ·obtain⟨v,B,h1,h2,h3⟩:=rA.get (i:=i) (by rw[Mm h];exact hd);rw[Mm h]at h1;have:=Fw.mp h3;subst this;exact⟨v,h1,h2⟩
   ·obtain⟨v,B,h1,h2,h3⟩:=rC.get (i:=i-(p+1)) (by rw[Nx,show p+1+(i-(p+1))=i by lia];exact hd);rw[Nx,show p+1+(i-(p+1))=i by lia]at h1;have:=Fw.mp h3;subst this;exact⟨v,h1,h2⟩
  obtain ⟨oa,ea,ia⟩:=Z.dom a (Aw.mpr rfl);have fin:∀V v G H' W' n d F',SR K T (λ_=>.ref a) V H' W' G n->FrW H (λb=>b=a) H' W'->Rep K H' d v F'->F'.Nodup->(∀b∈F',¬W' b/\(b=a\/H b=none))->(oget (look n p) λd'=>Qhm d' λM=>d.bare=true/\kk d M)->Q v H':=λV v G H' W' n d F' s' fr r nd nw t=>by
   obtain ⟨d',ae,t⟩:=Qn t;obtain⟨c,rfl⟩:∃c,d'=D.fmx c:=by
    clear ae;cases d' with
    |fmx c=>exact⟨c,rfl⟩
    |_=>exact(show False from t).elim
   obtain⟨al,ag,t⟩:=t;obtain⟨fp,s0⟩:=s';obtain⟨u,hu,ru⟩:=s0.at_ p _ ae;have ac:=s0.fix p (by rw[af];exact Aw.mpr rfl);rw[hu]at ac;cases ac;generalize fp p=Fp at ru;cases ru with
   | @fmx _ ob L _ e9 aq am r9=>
    have th:Thaw H' (upd H' a (mixO a L)):=λb o m hn=>by
     rw[Qm (λz=>by rw[z,e9]at m;cases m;exact hn _ _ rfl)];exact m
    have aj:Keys (upd H' a (mixO a L)) L:=λq hq=>
     U5 (h:=aq q hq) λb xs e2=>th b _ e2 λ_ _ z=>by cases z
    have an:Gz (c.map (·.2))=true:=Vw.mpr λy hy=>by
     obtain⟨kv,ao,rfl⟩:=As.mp hy;exact Rh.mp al kv ao
    refine q v H' ob L d c F' e9 (.dmx Qh aj am (r9.bare th an)) (r.bare th ag) nd (λb m=>?_) (λb o e I=>fr.keep b o e I) t;rcases(nw b m).2 with h|h
    ·obtain⟨o,g1,g2⟩:=r.dom b m;rw[h,e9]at g1;cases g1;cases g2
    ·exact h
  refine⟨ts,ak,ar (λ_=>.ref a) (λb=>b≠a/\Any H b) (L2.start N vs) H (λb=>b=a) (env0 N ds) _ _ ⟨λi=>if i=p then [a]else [],?_,?_,?_,?_,?_,?_,?_,?_,?_⟩ (hr ds kk J) ⟨?_,?_,?_,?_,λ_ _ _ _ _ _ _ _ t=>t.elim⟩⟩
  ·unfold env0 L2.start;simp[hl]
  ·rintro b rfl;exact⟨oa,ea,ia⟩
  ·intro i d O;unfold env0 at O;rw[Zl]at O;by_cases l:i=p
   ·subst l;rw[U]at O;cases O;exact⟨.ref a,Yd X,by rw[if_pos rfl];exact Z⟩
   ·obtain⟨v,h1,h2⟩:=ah i d l O;exact⟨v,Yd h1,by rw[if_neg l];exact h2⟩
  ·intro i d _ _;by_cases l:i=p
   ·rw[if_pos l];exact⟨by simp,λb m=>Aw.mp m⟩
   ·rw[if_neg l];exact⟨by simp,λb m=>nomatch m⟩
  ·intro i d _ ht b m;have l:i≠p:=λz=>by subst z;rw[Y]at ht;cases ht
   rw[if_neg l]at m;cases m
  ·rintro b rfl ⟨h,_⟩;exact h rfl
  ·exactλb h=>h.2
  ·intro i j d e _ _ _ _ I b m ab;by_cases l:i=p
   ·have ap:j≠p:=λz=>I (l.trans z.symm);rw[if_neg ap]at ab;cases ab
   ·rw[if_neg l]at m;cases m
  ·intro i hi;rw[af]at hi;rw[Aw.mp hi];exact Yd X
  ·exactλV G H' W' n s' fr t=>fin V .non G H' W' n .non [] s' fr .non Df (λb m=>nomatch m) t
  ·exactλV G H' W' n s' fr t=>t.elim
  ·exactλV G H' W' n s' fr t=>t.elim
  ·exactλV v G H' W' n d F' s' fr r nd nw t=>fin V v G H' W' n d F' s' fr r nd nw t
 ·obtain⟨ds,a,kk,rep,X,J,q⟩:=h;obtain⟨ai,kvs,U⟩:=hg ds kk J;obtain⟨v0,A',B,C,h1,h2,Z,rA,rC⟩:=rep.split U;rw[X]at h1;cases h1;cases Z with
  | @dmx _ L _ e9 _ _ _=>exact⟨a,L,e9,ds,a,kk,rep,X,J,λv H' ob aa d c F' hf r1 r2 nd nw kp t=>⟨ob,aa,hf,q v _ d (.dmx c) F' r1 r2 nd nw (λb o e I=>by rw[Qm I];exact kp b o e I) t⟩⟩
end
end PV
variable {t:Nat}
namespace PV
open PySem PySem.Spec L2 Mx
open PySem.W (Dat kqdP kqdPs kqdOk)
section
variable {T:Tg}{w:WE}
theorem Mrep.len{K:Frag}{kvs:KVM}(M:Mrep K H ds kvs):kvs.length=ds.length:=by
 have:=congrArg Oz M.hm;simpa using this
def Qku(ds es:List (MI×D)):Prop:=ds.length=es.length/\∀p∈ds,eqOk 9 p.2=true/\valD es p.1=some p.2
open Classical in
theorem Qzy{w:World}{K:Frag}(ok:HOk P w H s.heap)(J:A.in1.units+64<cLine){es:List (MI×D)}{kvs c:KVM}{vs us:VM}(o:Mrep K H ds kvs)(z:Mrep K H es c)(m:Paired RelE kvs vs)(r:Paired RelE c us)
  (h:Qku ds es):(vs.map up).length=(us.map up).length/\∀x∈vs.map up,∃p,atM (us.map up) x.1=some p/\Pm A.in1 s x.2.2 p.2 true:=by
 refine⟨by rw[Ap,Ap,← D9 m,← D9 r,o.len,z.len];exact h.1,λx E=>?_⟩;obtain⟨q,C,rfl⟩:=As.mp E;obtain⟨i,hi⟩:=P5 C;have j:i<kvs.length:=by rw[D9 m];exact(Au.mp hi).1
 obtain⟨⟨k,y,v⟩,t⟩:∃p,kvs[i]? = some p:=⟨kvs[i],Bu j⟩
 obtain⟨M,O,I⟩:=U1 m t hi;obtain⟨d,hd,rd⟩:=o.at_ t;obtain⟨g,b⟩:=h.2 _ (Bk hd);rcases z.val (k:=k) with⟨n,_⟩|⟨d',B,n,L,l⟩
 ·rw[n]at b;cases b
 ·have b:valD es k=some d:=b;rw[n]at b;cases b;have e:=Qac (k:=k) r;rw[L]at e;cases a:atM (us.map up) (kM k) with
  |none=>rw[a]at e;exact e.elim
  | some p=>
   rw[a]at e;refine⟨p,by show atM (us.map up) (kM q.1)=_;rw[← M];exact a,?_⟩;obtain⟨N,G⟩:=(rd.dv 9 g).reads ok I;obtain⟨bs,F⟩:=(l.dv 9 g).reads ok (show RelV B p.2 from e);have f:=Qbm _ _ g;have u:=PySem.W.keq_at (A:=A) G F (Zp f (At _)) (Zp f (At _)) J;rw[Qic f f,decide_eq_true rfl]at u;exact u
def mxD:D->Option (List (MI×D))
 | .dmx ds=>some ds
 | .fmx ds=>some ds
 |_=>none
theorem Rep.mx{K:Frag}(r:Rep K H d v F)(h:mxD d=some ds):∃a kvs,v=.ref a/\Rd H a (mixO a kvs)/\Keys H kvs/\Mrep K H ds kvs:=by
 cases r with
 |dmx e b hm r=>cases h;exact⟨_,_,rfl,.inl e,b,⟨hm,r⟩⟩
 |fmx e b hm r=>cases h;exact⟨_,_,rfl,.inr ⟨_,e⟩,b,⟨hm,r⟩⟩
 |_=>cases h
noncomputable def rEqM(K:Frag)(b:Bool):R2:=λx y H Q=>∃a d kvs c ds es,x=.ref a/\y=.ref d/\Rd H a (mixO a kvs)/\Rd H d (mixO d c)/\Keys H kvs/\Keys H c/\Mrep K H ds kvs/\Mrep K H es c/\Qku ds es/\Q (.bl b) H
theorem Qyj(C:X.A.units+65<cLine):OpR X (compareOp .NotEq) (rEqM X.K false):=by
 intro pins s σ H x y v u Q I k n h;obtain⟨a,b,kvs,e,ds,es,rfl,rfl,c,g,f,o,l,w,i,q⟩:=h;cases k;cases n;obtain⟨sa,_,va,z,j⟩:=Qwe I.hok c f;obtain⟨t,_,B,p,m⟩:=Qwe I.hok g o;obtain⟨d,r⟩:=Qzy (A:=X.A) I.hok (by simp only[Around.in1_units];lia) l w z p i;exact Qvm sa t (by lia) j m d r ⟨.bl false,H,I,rfl,q⟩
def dEqM(b:Bool):G2:=λx y k=>oget (mxD x) λds=>oget (mxD y) λes=>Qku ds es/\k (.bl b)
theorem Go{b:Bool}{es:List (MI×D)}:dEqM b (.dmx ds) (.dmx es) k=(Qku ds es/\k (.bl b)):=rfl
theorem Qcm(j:X.A.units+65<cLine):OpD X (compareOp .NotEq) (dEqM false):=by
 refine⟨_,Qyj j,λH a b x y F1 F2 k Q l i g q=>?_⟩;obtain⟨ds,h1,g⟩:=Qn g;obtain⟨es,h2,e,m⟩:=Qn g;obtain⟨a,kvs,rfl,n,h,m1⟩:=l.mx h1;obtain⟨b,c,rfl,d,f,m2⟩:=i.mx h2;exact⟨a,b,kvs,c,ds,es,rfl,rfl,n,d,h,f,m1,m2,e,q _ _ _ _ (.flat (.bl _)) m⟩
def Qd7(kvs:List (MI×D)):List D:=kvs.map λa=>miD a.1
def Qlp(s:Nat):WL:=λρ Q=>oget (look ρ s) λc=>Qe5 c λkvs=>Q (Qd7 kvs) (ρ.set s (some (.fmx kvs)))
theorem Qqy{s:Nat}(B:T.own s=true:=by rfl)(hN:X.N[s]? = some x:=by rfl)(G:Vis X.env.scope x:=by first|exact Ms rfl|exact Fg (Ms rfl)|exact Fg (Fg rfl))(hd:(x==("__debug__":Str))=false:=by decide)
  (q:(x==("__classdict__":Str))=false:=by decide):IV X T true true tg (.Name x p) (Qlp s):=by
 refine ⟨_,Qqa (Uf hN G hd q),λz R σ H W ρ Q RR sr hw k=>?_⟩;obtain⟨c,n,hw⟩:=Qn hw;obtain⟨ds,rfl⟩:∃ds,c=D.dmx ds:=by
  clear n;cases c with
  |dmx ds=>exact⟨ds,rfl⟩
  |_=>exact(show False from hw).elim
 obtain ⟨fp,t⟩:=id sr;obtain⟨v,l,E⟩:=t.at_ s _ n;obtain⟨a,kvs,rfl,e,o,M,C⟩:∃(a:Addr)(kvs:KVM),v=.ref a/\H a=some (mixO a kvs)/\Keys H kvs/\Mrep X.K H ds kvs/\fp s=[a]:=by
  generalize fp s=P at E;cases E with
  | @dmx a kvs _ L o hm r=>exact⟨a,kvs,rfl,L,o,⟨hm,r⟩,rfl⟩
 have w:W a:=(t.own s _ n B).2 a (by rw[C];exact An);refine⟨_,l,a,kvs,rfl,e,λob=>k _ _ (λb=>W b/\b≠a) (Qd7 ds) _ ⟨t.gone n B l e o M C,⟨λb u j I=>?_,λb j=>?_,Um e rfl,λb g=>.inl g.1⟩,λh=>nomatch h⟩ ?_ hw⟩
 ·rw[Qm (show b≠a fromλz=>I (z ▸ w))];exact j
 ·by_cases g:b=a
  ·rw[g,Qh]at j;cases j
  ·rw[Qm g]at j;exact j
 ·rw[X9];intro i H2 W2 f;have A:H2 a=some (.frz ob (mixO a kvs)):=f.imm _ _ Qh rfl;have F:kvs.length=ds.length:=M.len;refine⟨λhi=>⟨A,by unfold Qd7 at hi;rw[Ap]at hi;lia⟩,λd hd=>?_⟩;unfold Qd7 at hd;have hi:i<ds.length:=by have:=(Au.mp hd).1;rwa [Ap]at this
  refine⟨⟨A,by lia⟩,λv N y=>?_⟩;obtain⟨rfl,kk,O,m⟩:=y;obtain⟨d',h1,h2⟩:=M.at_ m;rw[Bh,h1]at hd;cases hd;have J:=o _ (Bk m);exact⟨Same.refl _,[],((Ql8 (K:=X.K) J).upd (ob':=.frz ob (mixO a kvs)) e rfl (λz=>nomatch z)).keep f (λb g=>nomatch g),(λb g=>nomatch g)⟩
def dIxM:G2:=λx y k=>oget (mxD x) λkvs=>oget (keyM y) λkk=>oget (valD kvs kk) k
theorem Qmg{y:D}:dIxM (.fmx kvs) y k=oget (keyM y) λkk=>oget (valD kvs kk) k:=rfl
theorem ix_M(o:X.A.units+5<cLine):IxR X (λx y H Q=>∃a kvs k v,x=.ref a/\Rd H a (mixO a kvs)/\Keys H kvs/\X7 H k y/\valM kvs k=some v/\Q v H):=by
 intro value e pins s σ H x y v u Q I m n h l;obtain⟨a,kvs,k,z,rfl,i,r,j,g,q⟩:=h;cases m;obtain⟨hd,_,vs,d,f⟩:=Qwe I.hok i r;have c:=Qac (k:=k) d;rw[g]at c;cases b:atM (vs.map up) (kM k) with
 |none=>rw[b]at c;exact c.elim
 | some p=>
  rw[b]at c;exact Qfw Lw.lookup l f.ty (Mx.getItem o (Qnq I.hok j n) f b ⟨z,H,I.tok _,c,q⟩)
theorem Qr6(l:X.A.units+5<cLine):IxD X dIxM:=by
 refine⟨_,ix_M l,λH a b x y F1 F2 k Q n j g q=>?_⟩;obtain⟨ds,h1,g⟩:=Qn g;obtain⟨kk,h2,g⟩:=Qn g;obtain⟨d,c,g⟩:=Qn g;obtain⟨a,kvs,rfl,o,i,m1⟩:=n.mx h1;rcases m1.val (k:=kk) with⟨f,_⟩|⟨d',h,f,m,e⟩
 ·rw[f]at c;cases c
 ·rw[f]at c;cases c;exact⟨a,kvs,kk,h,rfl,o,i,Qbj j h2,m,q _ _ _ e (Ir _) g⟩
def Qe7:GM
 | .dmx _,[],k=>k .non (.dmx [])
 |_,_,_=>False
theorem Qf7{k:D->D->Prop}:Qe7 (.dmx kvs) [] k=k .non (.dmx []):=rfl
theorem Qgi:MtD X "dict.clear" Qe7:=by
 refine⟨λx vs H Q=>∃a kvs,x=.ref a/\vs=[]/\H a=some (mixO a kvs)/\Keys H kvs/\Q .non (upd H a (mixO a [])),?_,λH d ds v xs F G k Q r nd u m dis g q=>?_⟩
 ·intro pins s σ H x vs v us Q I p t h;obtain⟨a,kvs,rfl,rfl,j,f,q⟩:=h;cases p;cases t;obtain⟨hd,hz,vs,c,i⟩:=Qoh I.hok j f;refine Su Tz i.ty PySem.F.entry_dict_clear (PySem.F.args_dict_clear_1 _) (Mx.clear a) ⟨_,i,by rw[Ap,← D9 c];exact hz,λh' b o=>?_⟩;exact⟨.non,_,Qc3 (t':=s.toks) I (by rw[j];exact N0) o b.there (Qa1 (Qjl (vs:=[]) hd (Dq _) .nil b)),rfl,q⟩
 ·cases d with
  | dmx es=>
   cases ds with
   | nil=>
    cases u;cases r with
    | @dmx l kvs _ e f hm w=>
     refine⟨l,kvs,rfl,rfl,e,f,?_⟩;exact q .non l _ .non _ [l] An rfl (.dmx Qh (λ_ h=>nomatch h) rfl .nil) (by simp) (λa n=>.inl (by rw[Aw.mp n];exact An)) .non g
   |cons _ _=>exact(show False from g).elim
  |_=>exact(show False from g).elim
def Qoo:GA
 | [.dmx kvs],k=>(∀p∈kvs,∃l,p.1=.inr l)/\(kvs.map λp=>Ym p.1).Nodup/\k (.dmx kvs)
 |_,_=>False
theorem Qp2:Qoo [.dmx kvs] k=((∀p∈kvs,∃l,p.1=.inr l)/\(kvs.map λp=>Ym p.1).Nodup/\k (.dmx kvs)):=rfl
theorem Qro:X8 X (.type "dict") Qoo:=by
 refine⟨λxs H Q=>∃a kvs,xs=[.ref a]/\H a=some (mixO a kvs)/\Keys H kvs/\(∀p∈kvs,∃l,p.1=.inr l)/\(kvs.map λp=>Ym p.1).Nodup/\∀b,H b=none->Q (.ref b) (upd H b (mixO b kvs)),?_,λH ds xs F k Q r g q=>?_⟩
 ·intro pins s σ H xs us Q I r h;obtain⟨a,kvs,rfl,N,n,O,W,q⟩:=h;obtain⟨u,rfl,Z⟩:=Ga r;cases Z;obtain⟨hd,hz,vs,f,V⟩:=Qoh I.hok N n;have C:∀x∈vs.map up,∃b ks,x.1=.inr ks/\x.2.1=.ref b:=λx U=>by
   obtain⟨y,hy,rfl⟩:=As.mp U;obtain⟨i,hi⟩:=P5 hy;have j:i<kvs.length:=by rw[D9 f];exact(Au.mp hi).1
   obtain⟨G,K,_⟩:=U1 f (Bu j) hi;obtain⟨l,M⟩:=O _ (Rf j);have L:=n _ (Rf j);rw[M]at L;obtain⟨b,ys,Y,_⟩:=(show ∃b ys,kvs[i].2.1=.ref b/\H b=some (.tup ys)/\Paired (G0 H) l ys from L)
   rw[Y]at K;exact⟨b,l.map kE,by show kM y.1=_;rw[← G,M];rfl,K⟩
  have w:((vs.map up).map λx=>hash X.prog X.w x.1).Nodup:=by
   have e:(vs.map up).map (λx=>hash X.prog X.w x.1)=kvs.map λp=>Ym p.1:=by
    have:kvs.map (λp=>Ym p.1)=(kvs.map (·.1)).map Ym:=by rw[Bg];rfl
    rw[this,Qcr f,Bg,Bg];refine B0 λy _=>?_;exact Qny y.1
   rw[e];exact W
  refine copy hd V C w (by rw[Ap,← D9 f];exact hz) λh' B R=>?_;have m:H s.heap.objs.size=none:=I.hok.fresh (At _);refine⟨.ref s.heap.objs.size,_,I.laid (a:=s.heap.objs.size) (o:=mixO s.heap.objs.size kvs) (t':=s.toks) (λb u e=>?_) (At _) (Qa1 (Qjl (beq_eq_false_iff_ne.mpr λz=>By I.big z.symm) hz f B)),rfl,q _ m⟩;exact R.extBut b u (By (Bj e)) (Ao _ e)
 ·cases ds with
  |nil=>exact(show False from g).elim
  | cons d ds=>
   cases ds with
   |cons _ _=>cases d<;>exact(show False from g).elim
   | nil =>
    cases d with
    | dmx es=>
     obtain⟨v,rfl,rd⟩:=r.at1;obtain⟨g1,g2,T⟩:=g;cases rd with
     | @dmx a kvs _ e n hm S=>
      have A:∀p∈kvs,∃d,(p.1,d)∈es:=λp t=>by
       have:p.1∈es.map (·.1):=by rw[← hm];exact As.mpr ⟨p,t,rfl⟩
       obtain⟨⟨k',d'⟩,h1,h2⟩:=As.mp this;exact⟨d',by rw[← h2];exact h1⟩
      refine⟨a,kvs,rfl,e,n,λp t=>?_,?_,λb J=>?_⟩
      ·obtain⟨d',D⟩:=A p t;exact g1 _ D
      ·have:kvs.map (λp=>Ym p.1)=es.map λp=>Ym p.1:=by
        have G:kvs.map (λp=>Ym p.1)=(kvs.map (·.1)).map Ym:=by rw[Bg];rfl
        rw[G,hm,Bg];rfl
       rw[this];exact g2
      ·have E:Same H (upd H b (mixO b kvs)):=Qg J;refine q (.ref b) _ (.dmx es) [b] ⟨E,.dmx Qh (λp t=>U5 (h:=n p t) λc xs P=>E _ _ P) hm (S.same E),by simp,λc hc=>by rw[Aw.mp hc];exact J⟩ T
    |_=>exact(show False from g).elim
def Qrh:GA
 | [.dmx _,.ty t],k=>k (.bl (t == .dict))
 |_,_=>False
theorem Quq{t:Ty}:Qrh [.dmx kvs,.ty t] k=k (.bl (t == .dict)):=rfl
theorem Qwl:X8 X (.builtin "isinstance") Qrh:=by
 refine⟨λxs H Q=>∃a kvs T b,xs=[.ref a,.ty T]/\H a=some (mixO a kvs)/\kitOne X.K (.type "dict") (.type T)=some b/\Q (.bl b) H,?_,λH ds xs F k Q r g q=>?_⟩
 ·intro pins s σ H xs us Q I r h;obtain⟨a,kvs,T,b,rfl,d,e,q⟩:=h;obtain⟨u,c,rfl,j,rc⟩:=Qkm r;cases(show c=Tp T from rc);cases(show u=Ba a from j);obtain⟨⟨_,_,_,_,_,o',_,_,h1,h2,_⟩,_⟩:=(show Ja X.prog X.w H s.heap a (mixO a kvs)from I.hok a _ d)
  exact R9 kitx_dict I.kIn ⟨o',h1,h2.1⟩ e (λz=>nomatch z) λl=>⟨.bl b,H,I.tok _,rfl,q⟩
 ·obtain ⟨kvs,t,rfl,g⟩:∃kvs t,ds=[.dmx kvs,.ty t]/\k (.bl (t == .dict)):=by
   unfold Qrh at g
   split at g
   ·exact⟨_,_,rfl,g⟩
   ·exact g.elim
  obtain⟨v,u,F1,F2,rfl,i,f⟩:=r.at2;cases f;cases i with
  |dmx e _ _ _=>exact⟨_,_,_,_,rfl,e,Qjw t,q _ _ _ _ (.flat (.bl _)) g⟩
end
end PV
namespace HT
open PySem PySem.Spec PyProof.Rows
theorem Qrp{t b:Addr}{vs ws:List Value}{Q:Value->Shared->Prop}(i:IsTup s.heap t vs.toArray)(j:IsTup s.heap b ws.toArray)(h0:vs=[]->Q (.ref b) s)
  (h1:vs≠[]->ws=[]->Q (.ref t) s) (h2:vs≠[]->ws≠[]->Q (.ref s.heap.objs.size) { s with heap:=s.heap.push { cls:=.type "tuple",data:=.seq (vs++ws).toArray } })
  (hsz:vs.length+ws.length<=sizeLine):wpAny (model prog w) A (binaryOp .Add (.ref t) (.ref b)) Q E s:=by
 by_cases a:vs=[]
 ·obtain ⟨⟨cls,m,data,sl⟩,ho,l,n,hd⟩:=id i;obtain⟨⟨k,g,h,f⟩,c,e,o,d⟩:=id j;simp only at l hd e d;subst l hd e d;exact L5 ⟨_,ho,rfl⟩ ⟨_,c,rfl⟩ Im Lf Si R7 (Rz _ _)
   (tuple_addW0 t b vs.toArray ws.toArray n o m g sl f (by simp[a])) ⟨ho,c,h0 a⟩
 ·exact Qoz i j a (h1 a) (h2 a) hsz
end HT
namespace L2
open PySem PySem.Spec PyProof.Rows
section
variable {t:TA}
def Q0v(t:TA):TE:=λσ H Q=>t σ H λxs H1=>xs.length<=sizeLine/\∀p (o:Obj),o.dict=none->H1 p=none->Q (.ref p) (upd H1 p (.frz o (.tup xs)))
theorem Qu6{g}(h:PA X es t):PE X (.Tuple es g pos) (Q0v t):=by
 intro pins s σ H Q I f;refine wpAny_Tuple_spliced (thn (h pos pins s σ H _ I f) λus a ⟨xs,H1,c,r,z,q⟩=>⟨by rw[← r.length];exact z,?_⟩);have d:H1 a.heap.objs.size=none:=c.hok.fresh (At _);refine⟨.ref a.heap.objs.size,upd H1 a.heap.objs.size (.frz { cls:=.type "tuple",data:=.seq us.toArray } (.tup xs)),c.laid (t':=a.toks) (λb u e=>Ao _ e) (At _) ?_,rfl,q _ _ rfl d⟩;exact(show Ja X.prog X.w _ _ _ (.frz _ (.tup xs)) from⟨Be _ rfl,z,us,r,Op _ _⟩)
noncomputable def Q1j:R2:=λx y H Q=>∃a b o1 o2 xs ys,x=.ref a/\y=.ref b/\H a=some (.frz o1 (.tup xs))/\H b=some (.frz o2 (.tup ys))/\xs.length+ys.length<=sizeLine /\
 (xs=[]->Q (.ref b) H)/\(ys=[]->Q (.ref a) H)/\∀p (o:Obj),o.dict=none->H p=none->Q (.ref p) (upd H p (.frz o (.tup (xs++ys))))
theorem Qve:OpR X (binaryOp .Add) Q1j:=by
 intro pins s σ H x y v u Q I i j h;obtain⟨a,b,o1,o2,xs,ys,rfl,rfl,f,g,hz,k,m,n⟩:=h;cases i;cases j;obtain⟨_,_,its,e,l⟩:=I.hok a _ f;obtain⟨_,_,c,d,p2⟩:=I.hok b _ g;refine HT.Qrp l p2 (λz=>⟨.ref b,H,I,rfl,k (e.nil_iff.mp z)⟩) (λ_ z=>⟨.ref a,H,I,rfl,m (d.nil_iff.mp z)⟩) (λ_ _=>?_) (by rw[← e.length,← d.length];exact hz);refine⟨.ref s.heap.objs.size,_,I.laid (t':=s.toks) (o:=.frz { cls:=.type "tuple",data:=.seq (its++c).toArray } (.tup (xs++ys))) (λb ob q=>Ao _ q) (At _) ?_,rfl,n _ _ rfl (I.hok.fresh (At _))⟩;exact(show Ja X.prog X.w _ _ _ (.frz _ (.tup (xs++ys))) from⟨Be _ rfl,by rw[Dy];exact hz,_,e.append d,Op _ _⟩)
end
end L2
variable {a:Pol.T}
namespace PV
open PySem PySem.Spec L2
section
variable {T:Tg}{a b:Expr}
def Qhk(wr:WA):WE:=λρ Q=>wr ρ λds a=>Qj ds=true/\ds.length<=sizeLine/\Q (.ftp ds) a
theorem Qh7{d}(h:AV X T m o es wr):EV X T m true (.Tuple es d pos) (Qhk wr):=by
 obtain⟨ta,pa,f⟩:=h;refine⟨_,Qu6 pa,λz R σ H W ρ Q Q' s hw k=>?_⟩;refine f z R σ H W ρ _ _ s hw λvs H1 W1 ds ρ1 F p q=>?_;obtain⟨e,hz,q⟩:=q;obtain⟨-,r⟩:=p.rep.pure e;exact⟨by rw[p.rep.length];exact hz,λa ob hd c=>k _ _ W1 (.ftp ds) ρ1 [] (Post.fin p.sr p.fr p.calm (Qg c) (.ftp Qh hd (r.same (Qg c))) Df (λb m=>nomatch m)) q⟩
def onF(b:D)(k:List D->Prop):Prop:=match b with
 | .ftp l=>k l
 |_=>False
theorem Qmv{b:D}{k:List D->Prop}(h:onF b k):∃i,b=.ftp i/\k i:=by
 cases b with
 |ftp i=>exact⟨i,rfl,h⟩
 |_=>exact(show False from h).elim
theorem Rep.iFtp{K:Frag}{ds:List D}(r:Rep K H (.ftp ds) v F):∃a ob xs,v=.ref a/\F=[]/\H a=some (.frz ob (.tup xs))/\ob.dict=none/\Reps K H ds xs []:=by
 cases r with
 |ftp e hd r=>exact⟨_,_,_,rfl,rfl,e,hd,r⟩
def Qop:G2:=λa b k=>onF a λxs=>onF b λys=>xs.length+ys.length<=sizeLine/\k (.ftp (xs++ys))
theorem Qm2:OpD X (binaryOp .Add) Qop:=by
 refine⟨_,Qve,λH a b x y F1 F2 k Q o l g q=>?_⟩;obtain⟨xs,rfl,g'⟩:=Qmv g;clear g;obtain⟨ys,rfl,g⟩:=Qmv g';clear g';obtain⟨a,ob,us,rfl,rfl,j,d1,d⟩:=o.iFtp;obtain⟨b,f,e,rfl,rfl,h,d2,c⟩:=l.iFtp;have r:=d.length;have n:=c.length;refine⟨a,b,ob,f,us,e,rfl,rfl,j,h,by lia,λz=>?_,λz=>?_,λp oo hd i=>?_⟩
 ·have:xs=[]:=Mg.mp (by rw[← r,z];rfl);subst this;exact q _ _ _ _ (.flat (.ftp h d2 c)) g.2
 ·have:ys=[]:=Mg.mp (by rw[← n,z];rfl);subst this;have g2:=g.2;rw[Dz]at g2;exact q _ _ _ _ (.flat (.ftp j d1 d)) g2
 ·exact q _ _ _ [] ⟨Qg i,.ftp Qh hd ((d.append c).same (Qg i)),Df,λ_ m=>nomatch m⟩ g.2
def Qr5(ds:List D)(k:List D->Prop):Prop:=match ds with
 | [.tup xs,.ftp ys]=>Qj xs=true/\Qj ys=true/\k (Qbs xs ys)
 |_=>False
def Qtq(wr:WA):WL:=λρ Q=>wr ρ λds a=>Qr5 ds λl=>Q l a
theorem Qvu(hm:X.mg "zip" = none)(S:AV X T m o [a,b] wr)(hg:Gl X "zip":=by rfl)(V:starEach [a,b] X.env=[(false,eval a X.env),(false,eval b X.env)]:=by rfl)
  (A:starEach [b] X.env=[(false,eval b X.env)]:=by rfl):IV X T m true (.Tuple ts kt pt) (.Call (.Name "zip" p) [a,b] [] pos) (Qtq wr):=by
 obtain⟨ta,pa,ga⟩:=S;refine⟨_,Qu4 hg hm pa V A,λz R σ H W ρ Q RR s hw k=>?_⟩;refine ga z R σ H W ρ _ _ s hw λvs H1 W1 ds ρ1 F p q=>?_;have t:=p.rep
 match ds,t,q with
 | [.tup xs,.ftp ys],t,q=>
  obtain⟨n,U,q⟩:=q;obtain⟨v,u,F1,F2,rfl,L,P⟩:=t.at2;cases L with
  | @tup w c _ _ J j=>
   cases P with
   | @ftp r ob e _ C hd I=>
    obtain⟨-,j⟩:=j.pure n;refine⟨w,r,c,e,rfl,.of J,.inl (.inr ⟨ob,C⟩),k _ H1 W1 (Qbs xs ys) ρ1 ⟨p.sr,p.fr,p.calm⟩ (λi H2 W2 fr=>?_) q⟩;have f:H2 w=some (.tup c):=fr.imm w _ J rfl;have g:H2 r=some (.frz ob (.tup e)):=fr.imm r _ C rfl;have l1:=j.length;have l2:=I.length;have h:(Qbs xs ys).length=min xs.length ys.length:=by simp[Qbs]
    refine⟨λhi=>⟨c,e,.of f,.inl (.inr ⟨ob,g⟩),by rw[h]at hi;lia⟩,λd hd=>?_⟩;unfold Qbs at hd;rw[Bh]at hd;cases x:(xs.zip ys)[i]? with
    |none=>rw[x]at hd;cases hd
    | some pr=>
     rw[x]at hd;cases hd;obtain⟨Y,M⟩:=List.getElem?_zip_eq_some.mp x;obtain⟨v1,B1,E,g2,O⟩:=j.get Y;obtain⟨v2,B2,D,K,N⟩:=I.get M;have:=Fw.mp O;subst this;have:=Fw.mp N;subst this;refine⟨⟨c,e,v1,v2,.of f,.inl (.inr ⟨ob,g⟩),E,D⟩,λv H3 Z=>?_⟩;obtain⟨x',y',pp,h1,h2,rfl,l,rfl⟩:=Z c e (.of f) (.inl (.inr ⟨ob,g⟩));rw[E]at h1;rw[D]at h2;cases h1;cases h2;refine⟨Qg l,[],.tup Qh ?_,λa m=>nomatch m⟩;have y:Rep X.K (upd H2 pp (.tup [v1,v2])) pr.1 v1 []:=(g2.keep fr λa m=>nomatch m).same (Qg l);have B:Rep X.K (upd H2 pp (.tup [v1,v2])) pr.2 v2 []:=(K.keep fr λa m=>nomatch m).same (Qg l);exact .cons (F:=[]) (G:=[]) y (.cons (F:=[]) (G:=[]) B .nil)
end
theorem Qup{k:List D->Prop}:Qr5 [.tup xs,.ftp ys] k=(Qj xs=true/\Qj ys=true/\k (Qbs xs ys)):=rfl
theorem Qur:Qop (.ftp xs) (.ftp ys) k=(xs.length+ys.length<=sizeLine/\k (.ftp (xs++ys))):=rfl
end PV
namespace L2
open PySem PySem.Spec PyProof.Rows
def Qxs:List V->Hp->VK->Prop:=λxs H Q=>∃(l:Addr)(vs:List V),xs=[.ref l]/\H l=some (.lst vs)/\vs.length<2/\∀D:Addr,H D=none->Q (.ref D) (upd H D (.lst vs))
theorem Qlf:Zk X (.builtin "sorted") Qxs:=by
 intro pins s σ H xs us Q I r h;obtain⟨l,vs,rfl,w,i,q⟩:=h;obtain⟨u,rfl,y⟩:=Ga r;cases y;obtain⟨z,its,n,j,e⟩:=I.hok l _ w;have f:s.heap.IsList l its.toArray:=⟨_,e,rfl,n,rfl⟩
 have h2:its.length<2:=by rw[← j.length];exact i
 have t:∀b (u:Obj),s.heap.get? b=some u->((s.heap.push (seqObj "list" #[] 0)).update s.heap.objs.size (Nb (· ++ its.toArray))).get? b=some u:=λb u e=>by
  have g:b<s.heap.objs.size:=Bj e;rw[Kt _ _ _ _ (By g),T6 _ _ _ (By g)];exact e
 have a:its.length<=sizeLine:=Dg (Fo h2) (by decide);refine Tc kind_sorted plain_sorted entry_sorted (args_sorted1 _) ?_;unfold L9;refine Ak (m:=checkCount "sorted" 1 1 _) (Al ?_);refine Ak (collect_list f ?_ a);refine Ak (Ij ?_ a);generalize hg:(s.heap.push (seqObj "list" #[] 0)).update s.heap.objs.size (Nb (· ++ its.toArray))=d at t;have c:(d.push (seqObj "list" its.toArray 0)).get? d.objs.size=some (seqObj "list" its.toArray 0):=Be _ rfl;refine Ak (Dx (B4 Pb ⟨_,c,rfl⟩ Ov (Srt.Qlx c h2 ⟨_,rfl,?_⟩) (Pc _)));refine Al ⟨_,rfl,?_⟩;obtain⟨e,A⟩:=A0a (out:=its.toArray) c;have p:Inv X pins σ H { s with heap:=d,toks:=s.toks }:=I.kept (t':=s.toks) t;have x:Inv X pins σ (upd H d.objs.size (.lst vs)) { s with heap:=sortedHeap (d.push (seqObj "list" its.toArray 0)) d.objs.size its its.toArray,toks:=s.toks }:=by
  refine p.laid (t':=s.toks) (λb o v=>?_) (At _) ⟨?_,its,e,j,A⟩
  ·have k:=Bj v;rw[Pd (By k) (by rw[Py];exact T4 k)];exact Ao _ v
  ·rw[j.length];exact a
 exact⟨.ref d.objs.size,_,x,rfl,q _ (p.hok.fresh (At _))⟩
end L2
namespace PV
open PySem PySem.Spec L2
theorem Qju:∀x:List Int,HT.J1 x x=false
 | []=>rfl
 | a::l=>by
  show(if a=a then HT.J1 l l else decide (a<a))=false;rw[if_pos rfl];exact Qju l
def Qtf:GA:=λds k=>∃a:List (List Int),ds=[.lst (a.map tupI)]/\a.length<64/\(∀q∈a,q≠[])/\∀out:List (List Int),out.Perm a->Up out->k (.lst (out.map tupI))
theorem Qrl:X8 X (.builtin "sorted") Qtf:=by
 obtain⟨z,w,h1⟩:=Qrm (X:=X);refine⟨_,Zk.or w Qlf,λH ds xs F k Q r g q=>?_⟩;obtain⟨c,rfl,f,o,g⟩:=g;by_cases h2:c.length=1
 ·obtain ⟨v,rfl,rd⟩:=r.at1;obtain⟨a,ys,G,rfl,_,e,d⟩:=rd.iLst;have u:Qj (c.map tupI)=true:=Qo λl _=>by
   show(D.tup (l.map D.int)).pure=true;rw[D.pure];exact Qo λ_ _=>rfl
  obtain ⟨-,d⟩:=d.pure u;have s:=d.length;rw[Ap]at s;refine .inr ⟨a,ys,rfl,e,by lia,λD h=>?_⟩;refine q _ _ _ [D] ⟨Qg h,.lst Qh (d.same (Qg h)),by simp,λb m=>by rw[Aw.mp m];exact h⟩ (g c (.refl _) λi j x y t p n=>?_);have:i=j:=by
   have:=(Au.mp p).1;have:=(Au.mp n).1;lia
  subst this;rw[p]at n;cases n;exact Qju x
 ·exact .inl (h1 H _ xs F k Q r ⟨c,rfl,f,h2,o,g⟩ q)
end PV
variable {p k:Nat}
namespace PV
open PySem PySem.Spec L2 Mx
open PyProof.Rows (envOfC)
def bareR(d:D):Bool:=d.bare||(match d with | .dmx kvs=>kvs.all λa=>a.2.bare|_=>false)
theorem Rep.bareR{K:Frag}(th:Thaw H H')(r:Rep K H d v F)(h:PV.bareR d=true):Rep K H' d v F:=by
 by_cases c:d.bare=true
 ·exact r.bare th c
 ·cases r with
  | @dmx a kvs ds e m hm l=>
   have i:(ds.all λf=>f.2.bare)=true:=by
    have c:(D.dmx ds).bare=false:=by simpa using c
    unfold PV.bareR at h;rw[c,Lh]at h;exact h
   refine .dmx (th _ _ e λ_ _ z=>by cases z) (λq k=>U5 (h:=m q k) λb xs j=>th b _ j λ_ _ z=>by cases z) hm (l.bare th (Vw.mpr λy n=>?_));obtain⟨f,g,rfl⟩:=As.mp n;exact Rh.mp i f g
  |_=>exact absurd (by simpa[PV.bareR]using h) c
theorem Qcf:bareR (.dmx kvs)=kvs.all λa=>a.2.bare:=by
 unfold bareR;rw[show(D.dmx kvs).bare=false by rw[D.bare],Lh]
section
variable {K:Frag}{N:List Str}{T:Tg}
theorem Qh5(F:Fun K x qual st f fd)(S:FnScope N ps (Qc st))(af:T.io=[p])(Y:T.own p=true)(hg:∀ds kk,g ds kk->ds.length=ps.length/\∃kvs,ds[p]? = some (.dmx kvs))
  (m:∀(R:Value)(A:Around)(outer:List Dr)(s:Shared)(H:Hp)(E:XK),Room k (A.deeper (envOfC qual (Qc st) s.heap.objs.size f R))->SVs (cxOf CX0 P w K mg base N qual (Qc st) f R A outer s H E).nox T (Qr st) ww)
  (hr:∀ds kk,g ds kk->ww { nx:=λρ=>oget (look ρ p) λd'=>Qhm d' λM=>bareR .non=true/\kk .non M,rt:=λd ρ=>oget (look ρ p) λd'=>Qhm d' λM=>bareR d=true/\kk d M } (env0 N ds)):FnOk P w K mg base CX0 (k+1) f fd ps (spI K p g):=by
 refine FnOk.thaw (sp:=spZ K p g) (F.ok S (λvs H Q E h=>?_) (λR A outer s H vs Q E W h=>?_)) λvs H Q E h=>?_
 ·obtain⟨ds,a,kk,rep,X,J,_⟩:=h;rw[rep.length];exact(hg ds kk J).1
 ·obtain ⟨ds,a,kk,rep,X,J,q⟩:=h;obtain⟨ts,ak,ar⟩:=m R A outer s H E W;have hl:=rep.length;obtain⟨ai,kvs,U⟩:=hg ds kk J;obtain⟨v0,A',B,C,h1,h2,Z,rA,rC⟩:=rep.split U;rw[X]at h1;cases h1;obtain⟨a',e1,e2⟩:=Z.flat1 rfl;cases e1;subst e2;have hA:A'=[]:=by
   cases A' with
   |nil=>rfl
   |cons y A'=>simp at h2
  subst hA;have hC:C=[]:=by
   cases C with
   |nil=>rfl
   |cons y C=>simp at h2
  subst hC;have ah:∀i d,i≠p->ds[i]? = some d->∃v,vs[i]? = some v/\Rep K H d v []:=λi d I hd=>by
   rcases La I with h|h
   ·obtain⟨v,B,h1,h2,h3⟩:=rA.get (i:=i) (by rw[Mm h];exact hd);rw[Mm h]at h1;have:=Fw.mp h3;subst this;exact⟨v,h1,h2⟩
   ·obtain⟨v,B,h1,h2,h3⟩:=rC.get (i:=i-(p+1)) (by rw[Nx,show p+1+(i-(p+1))=i by lia];exact hd);rw[Nx,show p+1+(i-(p+1))=i by lia]at h1;have:=Fw.mp h3;subst this;exact⟨v,h1,h2⟩
  obtain ⟨oa,ea,ia⟩:=Z.dom a (Aw.mpr rfl);have fin:∀V v G H' W' n d F',SR K T (λ_=>.ref a) V H' W' G n->FrW H (λb=>b=a) H' W'->Rep K H' d v F'->F'.Nodup->(∀b∈F',¬W' b/\(b=a\/H b=none))->(oget (look n p) λd'=>Qhm d' λM=>bareR d=true/\kk d M)->Q v H':=λV v G H' W' n d F' s' fr r nd nw t=>by
   obtain ⟨d',ae,t⟩:=Qn t;obtain⟨c,rfl⟩:∃c,d'=D.fmx c:=by
    clear ae;cases d' with
    |fmx c=>exact⟨c,rfl⟩
    |_=>exact(show False from t).elim
   obtain⟨al,ag,t⟩:=t;obtain⟨fp,s0⟩:=s';obtain⟨u,hu,ru⟩:=s0.at_ p _ ae;have ac:=s0.fix p (by rw[af];exact Aw.mpr rfl);rw[hu]at ac;cases ac;generalize fp p=Fp at ru;cases ru with
   | @fmx _ ob L _ e9 aq am r9=>
    have th:Thaw H' (upd H' a (mixO a L)):=λb o m hn=>by
     rw[Qm (λz=>by rw[z,e9]at m;cases m;exact hn _ _ rfl)];exact m
    have aj:Keys (upd H' a (mixO a L)) L:=λq hq=>
     U5 (h:=aq q hq) λb xs e2=>th b _ e2 λ_ _ z=>by cases z
    have an:Gz (c.map (·.2))=true:=Vw.mpr λy hy=>by
     obtain⟨kv,ao,rfl⟩:=As.mp hy;exact Rh.mp al kv ao
    refine q v H' ob L d c F' e9 (.dmx Qh aj am (r9.bare th an)) (r.bareR th ag) nd (λb m=>?_) (λb o e I=>fr.keep b o e I) t;rcases(nw b m).2 with h|h
    ·obtain⟨o,g1,g2⟩:=r.dom b m;rw[h,e9]at g1;cases g1;cases g2
    ·exact h
  refine⟨ts,ak,ar (λ_=>.ref a) (λb=>b≠a/\Any H b) (L2.start N vs) H (λb=>b=a) (env0 N ds) _ _ ⟨λi=>if i=p then [a]else [],?_,?_,?_,?_,?_,?_,?_,?_,?_⟩ (hr ds kk J) ⟨?_,?_,?_,?_,λ_ _ _ _ _ _ _ _ t=>t.elim⟩⟩
  ·unfold env0 L2.start;simp[hl]
  ·rintro b rfl;exact⟨oa,ea,ia⟩
  ·intro i d O;unfold env0 at O;rw[Zl]at O;by_cases l:i=p
   ·subst l;rw[U]at O;cases O;exact⟨.ref a,Yd X,by rw[if_pos rfl];exact Z⟩
   ·obtain⟨v,h1,h2⟩:=ah i d l O;exact⟨v,Yd h1,by rw[if_neg l];exact h2⟩
  ·intro i d _ _;by_cases l:i=p
   ·rw[if_pos l];exact⟨by simp,λb m=>Aw.mp m⟩
   ·rw[if_neg l];exact⟨by simp,λb m=>nomatch m⟩
  ·intro i d _ ht b m;have l:i≠p:=λz=>by subst z;rw[Y]at ht;cases ht
   rw[if_neg l]at m;cases m
  ·rintro b rfl ⟨h,_⟩;exact h rfl
  ·exactλb h=>h.2
  ·intro i j d e _ _ _ _ I b m ab;by_cases l:i=p
   ·have ap:j≠p:=λz=>I (l.trans z.symm);rw[if_neg ap]at ab;cases ab
   ·rw[if_neg l]at m;cases m
  ·intro i hi;rw[af]at hi;rw[Aw.mp hi];exact Yd X
  ·exactλV G H' W' n s' fr t=>fin V .non G H' W' n .non [] s' fr .non Df (λb m=>nomatch m) t
  ·exactλV G H' W' n s' fr t=>t.elim
  ·exactλV G H' W' n s' fr t=>t.elim
  ·exactλV v G H' W' n d F' s' fr r nd nw t=>fin V v G H' W' n d F' s' fr r nd nw t
 ·obtain⟨ds,a,kk,rep,X,J,q⟩:=h;obtain⟨ai,kvs,U⟩:=hg ds kk J;obtain⟨v0,A',B,C,h1,h2,Z,rA,rC⟩:=rep.split U;rw[X]at h1;cases h1;cases Z with
  | @dmx _ L _ e9 _ _ _=>exact⟨a,L,e9,ds,a,kk,rep,X,J,λv H' ob aa d c F' hf r1 r2 nd nw kp t=>⟨ob,aa,hf,q v _ d (.dmx c) F' r1 r2 nd nw (λb o e I=>by rw[Qm I];exact kp b o e I) t⟩⟩
end
end PV
namespace PV
open PySem PySem.Spec L2
section
variable {κ:Type}[DecidableEq κ]
theorem Xq(kvs:List (κ×D))(k:κ)(v:D):(putD kvs k v).map (·.1)=if (valD kvs k).isSome=true then kvs.map (·.1)else kvs.map (·.1)++[k]:=by
 unfold putD;rw[X5];by_cases h:(valD kvs k).isSome=true
 ·rw[if_pos h,if_pos h,Bg];apply B0;intro p _;show(if p.1=k then (p.1,v)else p).1=p.1
  split<;>rfl
 ·rw[if_neg h,if_neg h,B7];rfl
end
end PV
namespace Hang
theorem Qb6{f:Type}{le:f->f->Prop}{a b:List f}(p:a.Perm b)(i:a.Pairwise le)(j:b.Pairwise le)(h:∀x∈a,∀y∈a,le x y->le y x->x=y):a=b:=by
 induction a generalizing b with
 |nil=>exact p.nil_eq
 | cons x a o=>
  cases b with
  |nil=>exact absurd p.length_eq (by simp)
  | cons y b=>
   obtain ⟨q,m⟩:=Ny.mp i;obtain⟨l,k⟩:=Ny.mp j;have d:x=y:=by
    have e:x∈y::b:=p.mem_iff.mp An;have c:y∈x::a:=p.mem_iff.mpr An;rcases Ay.mp e with z|e
    ·exact z
    ·rcases Ay.mp c with z|c
     ·exact z.symm
     ·exact h x An y (Am _ c) (q y c) (l x e)
   subst d;rw[o (List.perm_cons _ |>.mp p) m k λu n v g=>h u (Am _ n) v (Am _ g)]
end Hang
variable {P S S':Nat->Prop}{g O:Nat->Nat}{e j v m:Nat}{A:Nat->Int}{l:List Nat}
namespace Ly
structure Wv(M:Nat)(G O:Nat->Nat):Prop where
 glt:∀q,q<M->G q<M
 gne:∀q,q<M->G q≠q
 gg:∀q,q<M->G (G q)=q
 olt:∀q,q<M->O q<M
 oo:∀q,q<M->O (O q)=q
inductive Pa(G O:Nat->Nat)(S:Nat->Prop):Nat->Nat->Prop
 |one (a:Nat):Pa G O S a (G a)
 |more {a b:Nat} (h:S (G a)) (r:Pa G O S (O (G a)) b):Pa G O S a b
inductive Re(G O:Nat->Nat)(p:Nat):Nat->Prop
 |here:Re G O p p
 |g {q:Nat} (h:Re G O p q):Re G O p (G q)
 |o {q:Nat} (h:Re G O p q):Re G O p (O q)
section
variable {M:Nat}{π:Nat->Nat}{a x:Nat}
theorem Re.trans(h:Re G O a b)(r:Re G O b c):Re G O a c:=by
 induction r with
 |here=>exact h
 |g _ d=>exact .g d
 |o _ d=>exact .o d
theorem Re.lt(w:Wv M G O)(d:a<M)(h:Re G O a b):b<M:=by
 induction h with
 |here=>exact d
 |g _ c=>exact w.glt _ c
 |o _ c=>exact w.olt _ c
theorem Re.symm(w:Wv M G O)(d:a<M)(h:Re G O a b):Re G O b a:=by
 induction h with
 |here=>exact .here
 | @g q h c=>
  have:Re G O (G q) q:=by have:=(Re.here (G:=G) (O:=O) (p:=G q)).g;rwa [w.gg q (h.lt w d)]at this
  exact this.trans c
 | @o q h c=>
  have:Re G O (O q) q:=by have:=(Re.here (G:=G) (O:=O) (p:=O q)).o;rwa [w.oo q (h.lt w d)]at this
  exact this.trans c
theorem Re.sub(h:Re G O a b)(h0:P a)(hg:∀q,P q->P (G q))(ho:∀q,P q->P (O q)):P b:=by
 induction h with
 |here=>exact h0
 |g _ c=>exact hg _ c
 |o _ c=>exact ho _ c
theorem Pa.re(h:Pa G O S a b):Re G O a b:=by
 induction h with
 |one a=>exact .g .here
 |more _ _ c=>exact(Re.o (Re.g Re.here)).trans c
theorem Pa.mono(d:∀q,S q->S' q)(h:Pa G O S a b):Pa G O S' a b:=by
 induction h with
 |one a=>exact .one a
 |more h _ c=>exact .more (d _ h) c
theorem Pa.cat(f:∀q,S q->S' q)(h:Pa G O S a b)(d:S' b)(r:Pa G O S' (O b) c):Pa G O S' a c:=by
 induction h with
 |one a=>exact .more d r
 |more h _ e=>exact .more (f _ h) (e d r)
theorem Pa.set(w:Wv M G O)(so:∀q,q<M->S q->S (O q))(h:Pa G O S a b):a<M->∃l:List Nat,a∈l/\b∈l/\(∀q∈l,q<M/\G q∈l)/\∀q∈l,q≠a->q≠b->O q∈l/\S q:=by
 induction h with
 | one a=>
  intro d;refine⟨[a,G a],by simp,by simp,λq c=>?_,λq c h1 h2=>?_⟩
  ·rcases Ay.mp c with rfl|c
   ·exact⟨d,by simp⟩
   ·rw[Aw.mp c];exact⟨w.glt a d,by rw[w.gg a d];simp⟩
  ·rcases Ay.mp c with rfl|c
   ·exact absurd rfl h1
   ·exact absurd (Aw.mp c) h2
 | @more a b h r j=>
  intro d;have hg:=w.glt a d;obtain⟨l,m,i,e,g⟩:=j (w.olt _ hg);refine⟨a::G a::l,by simp,by simp[i],λq c=>?_,λq c h1 h2=>?_⟩
  ·rcases Ay.mp c with rfl|c
   ·exact⟨d,by simp⟩
   ·rcases Ay.mp c with rfl|c
    ·exact⟨hg,by rw[w.gg a d];simp⟩
    ·exact⟨(e q c).1,by simp[(e q c).2]⟩
  ·rcases Ay.mp c with rfl|c
   ·exact absurd rfl h1
   ·rcases Ay.mp c with rfl|c
    ·exact⟨by simp[m],h⟩
    ·by_cases f:q=O (G a)
     ·subst f;exact⟨by rw[w.oo _ hg];simp,so _ hg h⟩
     ·obtain⟨n,k⟩:=g q c f h2;exact⟨by simp[n],k⟩
structure St(M:Nat)(G O:Nat->Nat)(S:Nat->Prop)(π:Nat->Nat):Prop where
 so:∀q,q<M->S q->S (O q)
 pl:∀q,q<M->¬S q->π q<M
 ps:∀q,q<M->¬S q->¬S (π q)
 pp:∀q,q<M->¬S q->π (π q)=q
 pn:∀q,q<M->¬S q->π q≠q
 pa:∀q,q<M->¬S q->Pa G O S q (π q)
theorem St.start(w:Wv M G O):St M G O (λ_=>False) G :=
 ⟨λ_ _ h=>h,λq h _=>w.glt q h,λ_ _ h=>h,λq h _=>w.gg q h,λq h _=>w.gne q h,λq _ _=>.one q⟩
theorem St.plain(s:St M G O S π)(a:q<M)(h:¬S q)(hg:¬S (G q)):π q=G q:=by
 have:=s.pa q a h;generalize π q=z at this;cases this with
 |one=>rfl
 |more h _=>exact absurd h hg
def ad(S:Nat->Prop)(O:Nat->Nat)(x:Nat):Nat->Prop:=λq=>S q\/q=x\/q=O x
theorem Qeg(q:Nat)(h:S q):ad S O x q:=.inl h
theorem ad_o(w:Wv M G O)(so:∀q,q<M->S q->S (O q))(a:x<M)(q:Nat)(b:q<M)(h:ad S O x q):ad S O x (O q):=by
 rcases h with h|rfl|rfl
 ·exact .inl (so q b h)
 ·exact .inr (.inr rfl)
 ·exact .inr (.inl (w.oo x a))
theorem St.ring(w:Wv M G O)(s:St M G O S π)(c:x<M)(h1:¬S x)(h2:¬S (O x))(h:π x=O x):St M G O (ad S O x) π:=by
 have out:∀q,q<M->¬ad S O x q->¬S q/\q≠x/\q≠O x:=λq _ n=>⟨λz=>n (.inl z),λz=>n (.inr (.inl z)),λz=>n (.inr (.inr z))⟩
 refine⟨ad_o w s.so c,λq a n=>s.pl q a (out q a n).1,λq a n=>?_,λq a n=>s.pp q a (out q a n).1,λq a n=>s.pn q a (out q a n).1,λq a n=>(s.pa q a (out q a n).1).mono Qeg⟩;obtain⟨b,e,d⟩:=out q a n;rintro(z|z|z)
 ·exact s.ps q a b z
 ·have:=s.pp q a b;rw[z,h]at this;exact d this.symm
 ·have:=s.pp q a b;rw[z,← h,s.pp x c h1]at this;exact e this.symm
def jn(π:Nat->Nat)(O:Nat->Nat)(x:Nat):Nat->Nat:=λq=>if q=π x then π (O x)else if q=π (O x)then π x else π q
theorem St.join(w:Wv M G O)(s:St M G O S π)(e:x<M)(ho:O x≠x)(h1:¬S x)(h2:¬S (O x))(h:π x≠O x):St M G O (ad S O x) (jn π O x):=by
 have d:=w.olt x e;have out:∀q,q<M->¬ad S O x q->¬S q/\q≠x/\q≠O x:=λq _ n=>⟨λz=>n (.inl z),λz=>n (.inr (.inl z)),λz=>n (.inr (.inr z))⟩
 have r:=s.pp x e h1;have o:=s.pp (O x) d h2;have u:π (O x)≠x:=λz=>h (by have:=o;rw[z]at this;exact this);have g:π x≠π (O x):=λz=>ho (by have:=r;rw[z,o]at this;exact this);have p:∀q,q<M->¬S q->q≠x->q≠O x->¬ad S O x (π q)\/q=π x\/q=π (O x):=λq c n f l=>by
  by_cases b:π q=x
  ·exact .inr (.inl (by rw[← b,s.pp q c n]))
  ·by_cases a:π q=O x
   ·exact .inr (.inr (by rw[← a,s.pp q c n]))
   ·refine .inl ?_;rintro(z|z|z)
    ·exact s.ps q c n z
    ·exact b z
    ·exact a z
 have nx:¬ad S O x (π x):=by
  rintro(z|z|z)
  ·exact s.ps x e h1 z
  ·exact s.pn x e h1 z
  ·exact h z
 have no:¬ad S O x (π (O x)):=by
  rintro(z|z|z)
  ·exact s.ps _ d h2 z
  ·exact u z
  ·exact s.pn _ d h2 z
 have j:jn π O x (π x)=π (O x):=if_pos rfl;have i:jn π O x (π (O x))=π x:=by unfold jn;rw[if_neg (λz=>g z.symm),if_pos rfl]
 have k:∀q,q≠π x->q≠π (O x)->jn π O x q=π q:=λq f l=>by unfold jn;rw[if_neg f,if_neg l]
 refine⟨ad_o w s.so e,λq c n=>?_,λq c n=>?_,λq c n=>?_,λq c n=>?_,λq c n=>?_⟩<;>obtain⟨f,l,t⟩:=out q c n<;>by_cases b:q=π x<;>by_cases a:q=π (O x)
 ·exact absurd (b.symm.trans a) g
 ·rw[b,j];exact s.pl _ d h2
 ·rw[a,i];exact s.pl _ e h1
 ·rw[k q b a];exact s.pl q c f
 ·exact absurd (b.symm.trans a) g
 ·rw[b,j];exact no
 ·rw[a,i];exact nx
 ·rw[k q b a];rcases p q c f l t with z|z|z
  ·exact z
  ·exact absurd z b
  ·exact absurd z a
 ·exact absurd (b.symm.trans a) g
 ·rw[b,j,i]
 ·rw[a,i,j]
 ·have y:π q≠π x:=λz=>l (by rw[← s.pp q c f,z,r]);have v:π q≠π (O x):=λz=>t (by rw[← s.pp q c f,z,o]);rw[k q b a,k _ y v];exact s.pp q c f
 ·exact absurd (b.symm.trans a) g
 ·rw[b,j];exactλz=>g z.symm
 ·rw[a,i];exact g
 ·rw[k q b a];exact s.pn q c f
 ·exact absurd (b.symm.trans a) g
 ·rw[b,j];have m:=s.pa (π x) (s.pl x e h1) (s.ps x e h1);rw[r]at m;exact m.cat Qeg (.inr (.inl rfl)) ((s.pa _ d h2).mono Qeg)
 ·rw[a,i];have m:=s.pa (π (O x)) (s.pl _ d h2) (s.ps _ d h2);rw[o]at m;refine m.cat Qeg (.inr (.inr rfl)) ?_;rw[w.oo x e];exact(s.pa x e h1).mono Qeg
 ·rw[k q b a];exact(s.pa q c f).mono Qeg
def Rp(G O:Nat->Nat)(S:Nat->Prop)(p:Nat):Prop:=(∀q,Re G O p q->p<=q)/\∀q,Re G O p q->S q
open Classical in
noncomputable def rc(n:Nat)(G O:Nat->Nat)(S:Nat->Prop):Nat:=((Aq n).filter λp=>decide (Rp G O S p)).length
theorem Qy7:∀n,P n->∃k,P k/\∀j,P j->k<=j:=by
 intro n
 induction n using Nat.strongRecOn with
 | ind n a=>
  intro h;by_cases z:∃j,P j/\j<n
  ·obtain⟨j,h1,h2⟩:=z;exact a j h2 h1
  ·exact⟨n,h,λj c=>Nat.le_of_not_lt λb=>z ⟨j,c,b⟩⟩
open Classical in
theorem Qlc{Q:Nat->Prop}{p0:Nat}(h:∀p,Q p↔P p\/p=p0)(c:¬P p0):∀n,p0<n->((Aq n).filter λp=>decide (Q p)).length=((Aq n).filter λp=>decide (P p)).length+1:=by
 have a:∀n,n<=p0->((Aq n).filter λp=>decide (Q p))=(Aq n).filter λp=>decide (P p):=λn f=>by
  refine Sr λp d=>?_;have:p≠p0:=by have:=Bl.mp d;lia
  exact decide_eq_decide.mpr ⟨λz=>((h p).mp z).resolve_right this,λz=>(h p).mpr (.inl z)⟩
 intro n
 induction n with
 |zero=>intro h;lia
 | succ n b=>
  intro i;rw[M0,Rl,Rl,Dy,Dy];by_cases e:n=p0
  ·subst e;rw[a n (At _)];simp[c,(h n).mpr (.inr rfl)]
  ·have:=b (by lia);have g:decide (Q n)=decide (P n):=decide_eq_decide.mpr ⟨λz=>((h n).mp z).resolve_right e,λz=>(h n).mpr (.inl z)⟩;rw[this,Od,Od,g,List.filter_nil,List.filter_nil];lia
theorem Qui(w:Wv M G O)(s:St M G O S π)(b:x<M)(h1:¬S x)(h:π x≠O x):rc M G O (ad S O x)=rc M G O S:=by
 unfold rc;congr 1;refine Sr λp g=>decide_eq_decide.mpr ⟨λ⟨d,c⟩=>⟨d,λq a=>?_⟩,λ⟨d,c⟩=>⟨d,λq a=>.inl (c q a)⟩⟩;have e:=Bl.mp g;have key:¬Re G O p x:=λi=>by
  have f:=c _ (i.trans (s.pa x b h1).re);rcases f with z|z|z
  ·exact s.ps x b h1 z
  ·exact s.pn x b h1 z
  ·exact h z
 rcases c q a with z|rfl|rfl
 ·exact z
 ·exact absurd a key
 ·refine absurd ?_ key;have:=a.o
  rwa [w.oo x b]at this
theorem Qug(w:Wv M G O)(s:St M G O S π)(b:x<M)(h1:¬S x)(h:π x=O x):rc M G O (ad S O x)=rc M G O S+1:=by
 obtain ⟨l,m,k,t,g⟩:=(s.pa x b h1).set w s.so b;rw[h]at k g;have all:∀q,Re G O x q->ad S O x q:=λq a=>by
  have r:q∈l:=a.sub (P:=λq=>q∈l) m (λq a=>(t q a).2) λq a=>by
   by_cases e:q=x
   ·rw[e];exact k
   ·by_cases c:q=O x
    ·rw[c,w.oo x b];exact m
    ·exact(g q a e c).1
  by_cases e:q=x
  ·exact .inr (.inl e)
  ·by_cases c:q=O x
   ·exact .inr (.inr c)
   ·exact .inl (g q r e c).2
 obtain⟨p0,d,o⟩:=Qy7 (P:=λq=>Re G O x q) x .here;have i:=d.lt w b;unfold rc;refine Qlc (Q:=Rp G O (ad S O x)) (P:=Rp G O S) (p0:=p0) (λp=>⟨λ⟨n,u⟩=>?_,λz=>?_⟩) (λz=>h1 (z.2 x (d.symm w b))) M i
 ·by_cases f:Re G O p x
  ·refine .inr (Nat.le_antisymm (n p0 (f.trans d)) ?_);by_cases j:p<M
   ·exact o p (f.symm w j)
   ·lia
  ·refine .inl ⟨n,λq a=>?_⟩;rcases u q a with z|rfl|rfl
   ·exact z
   ·exact absurd a f
   ·refine absurd ?_ f;have:=a.o
    rwa [w.oo x b]at this
 ·rcases z with z|rfl
  ·exact⟨z.1,λq a=>.inl (z.2 q a)⟩
  ·exact⟨λq a=>o q (d.trans a),λq a=>all q (d.trans a)⟩
open Classical in
theorem Quh:rc M G O (λ_=>False)=0:=by
 unfold rc;rw[O6.mpr λp _=>by rw[decide_eq_true_eq];exactλz=>z.2 p .here];rfl
end
def Gx(m e:Nat)(g:Nat->Nat)(q:Nat):Nat:=if q<4*m+e then g q else if (q-(4*m+e))%2=0 then q+1 else q-1
def wy(v j:Nat):Nat:=if v=0 then (if j%2=0 then j+1 else j-1)else 3-j
def Ox(m e:Nat)(W:Nat->Nat)(q:Nat):Nat:=if q<4*m then 4*(q/4)+wy (W (q/4)) (q%4)else if q<4*m+e then 4*m+e+2*(q-4*m)else if (q-(4*m+e))%2=0 then 4*m+(q-(4*m+e))/2 else q
theorem Qtn(h:j<4):wy v j<4:=by
 unfold wy;split
 ·split<;>lia
 ·lia
theorem Q0p(h:j<4):wy v (wy v j)=j:=by
 unfold wy;split
 ·split
  ·rw[if_neg (by lia)];lia
  ·rw[if_pos (by lia)];lia
 ·lia
theorem Q0q(h:j<4):wy v j≠j:=by
 unfold wy;split
 ·split<;>lia
 ·lia
section
variable {W:Nat->Nat}
theorem Qdq(h:q<4*m+e):Gx m e g q=g q:=if_pos h
theorem Y5:Gx m e g (4*m+e+2*i)=4*m+e+2*i+1:=by
 unfold Gx;rw[if_neg (by lia),if_pos (by lia)]
theorem Z0:Gx m e g (4*m+e+2*i+1)=4*m+e+2*i:=by
 unfold Gx;rw[if_neg (by lia),if_neg (by lia)];lia
theorem Yi(b:k<m)(a:j<4):Ox m e W (4*k+j)=4*k+wy (W k) j:=by
 unfold Ox;rw[if_pos (by lia),show(4*k+j)/4=k by lia,show(4*k+j)%4=j by lia]
theorem Q0o(h:q<4*m):Ox m e W q<4*m:=by
 have:=Yi (m:=m) (e:=e) (W:=W) (k:=q/4) (j:=q%4) (by lia) (by lia);rw[show 4*(q/4)+q%4=q by lia]at this;rw[this];have:=Qtn (v:=W (q/4)) (j:=q%4) (by lia);lia
theorem Vd(h:i<e):Ox m e W (4*m+i)=4*m+e+2*i:=by
 unfold Ox;rw[if_neg (by lia),if_pos (by lia)];lia
theorem Vi(h:i<e):Ox m e W (4*m+e+2*i)=4*m+i:=by
 unfold Ox;rw[if_neg (by lia),if_neg (by lia),if_pos (by lia)];lia
theorem X6:Ox m e W (4*m+e+2*i+1)=4*m+e+2*i+1:=by
 unfold Ox;rw[if_neg (by lia),if_neg (by lia),if_neg (by lia)]
theorem V7(h:q<4*m+e+2*e):(∃k j,k<m/\j<4/\q=4*k+j)\/(∃i,i<e/\q=4*m+i)\/(∃i,i<e/\q=4*m+e+2*i)\/∃i,i<e/\q=4*m+e+2*i+1:=by
 by_cases h1:q<4*m
 ·exact .inl ⟨q/4,q%4,by lia,by lia,by lia⟩
 ·by_cases h2:q<4*m+e
  ·exact .inr (.inl ⟨q-4*m,by lia,by lia⟩)
  ·by_cases a:(q-(4*m+e))%2=0
   ·exact .inr (.inr (.inl ⟨(q-(4*m+e))/2,by lia,by lia⟩))
   ·exact .inr (.inr (.inr ⟨(q-(4*m+e))/2,by lia,by lia⟩))
theorem wv(b:M.Tw (4*m+e) A g):Wv (4*m+e+2*e) (Gx m e g) (Ox m e W):=by
 refine⟨λq a=>?_,λq a=>?_,λq a=>?_,λq a=>?_,λq a=>?_⟩
 ·by_cases h:q<4*m+e
  ·rw[Qdq h];have:=b.lt q h;lia
  ·rcases V7 a with⟨k,j,h1,h2,rfl⟩|⟨i,h1,rfl⟩|⟨i,h1,rfl⟩|⟨i,h1,rfl⟩
   ·lia
   ·lia
   ·rw[Y5];lia
   ·rw[Z0];lia
 ·by_cases h:q<4*m+e
  ·rw[Qdq h];exact b.ne q h
  ·rcases V7 a with⟨k,j,h1,h2,rfl⟩|⟨i,h1,rfl⟩|⟨i,h1,rfl⟩|⟨i,h1,rfl⟩
   ·lia
   ·lia
   ·rw[Y5];lia
   ·rw[Z0];lia
 ·by_cases h:q<4*m+e
  ·rw[Qdq h,Qdq (b.lt q h)];exact b.inv h
  ·rcases V7 a with⟨k,j,h1,h2,rfl⟩|⟨i,h1,rfl⟩|⟨i,h1,rfl⟩|⟨i,h1,rfl⟩
   ·lia
   ·lia
   ·rw[Y5,Z0]
   ·rw[Z0,Y5]
 ·rcases V7 a with⟨k,j,h1,h2,rfl⟩|⟨i,h1,rfl⟩|⟨i,h1,rfl⟩|⟨i,h1,rfl⟩
  ·have:=Q0o (m:=m) (e:=e) (W:=W) (q:=4*k+j) (by lia);lia
  ·rw[Vd h1];lia
  ·rw[Vi h1];lia
  ·rw[X6];lia
 ·rcases V7 a with⟨k,j,h1,h2,rfl⟩|⟨i,h1,rfl⟩|⟨i,h1,rfl⟩|⟨i,h1,rfl⟩
  ·rw[Yi h1 h2,Yi h1 (Qtn h2),Q0p h2]
  ·rw[Vd h1,Vi h1]
  ·rw[Vi h1,Vd h1]
  ·rw[X6,X6]
def lab(m e:Nat)(A:Nat->Int)(q:Nat):Int ⊕ List (Int ⊕ List Int):=if q<4*m+e then .inl (A q)else .inr [.inl (-1),.inl (((q-(4*m+e))/2:Nat):Int)]
theorem Zy(h:q<4*m+e):lab m e A q=.inl (A q):=if_pos h
theorem Qbi:lab m e A (4*m+e+2*i)=.inr [.inl (-1),.inl (i:Int)]:=by
 unfold lab;rw[if_neg (by lia),show(4*m+e+2*i-(4*m+e))/2=i by lia]
theorem Gq:lab m e A (4*m+e+2*i+1)=.inr [.inl (-1),.inl (i:Int)]:=by
 unfold lab;rw[if_neg (by lia),show(4*m+e+2*i+1-(4*m+e))/2=i by lia]
structure Lab{κ:Type}(M:Nat)(G:Nat->Nat)(lab:Nat->κ):Prop where
 eq:∀q,q<M->lab (G q)=lab q
 only:∀q r,q<M->r<M->lab r=lab q->r=q\/r=G q
theorem Qy9(c:M.Tw (4*m+e) A g):Lab (4*m+e+2*e) (Gx m e g) (lab m e A):=by
 refine⟨λq a=>?_,λq r a d h=>?_⟩
 ·by_cases h:q<4*m+e
  ·rw[Qdq h,Zy h,Zy (c.lt q h),c.eq q h]
  ·rcases V7 a with⟨k,j,h1,h2,rfl⟩|⟨i,h1,rfl⟩|⟨i,h1,rfl⟩|⟨i,h1,rfl⟩
   ·lia
   ·lia
   ·rw[Y5,Qbi,Gq]
   ·rw[Z0,Qbi,Gq]
 ·have two:∀q,¬q<4*m+e->q<4*m+e+2*e->∃i:Nat,lab m e A q=.inr [.inl (-1),.inl (i:Int)]/\((q=4*m+e+2*i/\Gx m e g q=4*m+e+2*i+1)\/(q=4*m+e+2*i+1/\Gx m e g q=4*m+e+2*i)):=λq h a=>by
   rcases V7 a with⟨k,j,h1,h2,rfl⟩|⟨i,h1,rfl⟩|⟨i,h1,rfl⟩|⟨i,h1,rfl⟩
   ·lia
   ·lia
   ·exact⟨i,Qbi,.inl ⟨rfl,Y5⟩⟩
   ·exact⟨i,Gq,.inr ⟨rfl,Z0⟩⟩
  by_cases h1:q<4*m+e
  ·by_cases h2:r<4*m+e
   ·rw[Zy h1,Zy h2]at h;rw[Qdq h1];exact c.only q r h1 h2 (M9 h)
   ·obtain⟨i,z,_⟩:=two r h2 d;rw[z,Zy h1]at h;cases h
  ·obtain ⟨i,z,y⟩:=two q h1 a;by_cases h2:r<4*m+e
   ·rw[z,Zy h2]at h;cases h
   ·obtain ⟨l,f,b⟩:=two r h2 d;rw[z,f]at h;have:l=i:=by
     have:=T8 h;simp only[Rn,and_true,true_and,Fm.injEq]at this;lia
    subst this;rcases y with⟨rfl,y⟩|⟨rfl,y⟩<;>rcases b with⟨rfl,b⟩|⟨rfl,b⟩
    ·exact .inl rfl
    ·exact .inr y.symm
    ·exact .inr y.symm
    ·exact .inl rfl
def Sf(m e:Nat)(q:Nat):Prop:=q<4*m+e+2*e/\∀i,q≠4*m+e+2*i+1
end
structure Iso(M:Nat)(G O G' O' f f':Nat->Nat):Prop where
 fl:∀q,q<M->f q<M
 bl:∀q,q<M->f' q<M
 fb:∀q,q<M->f' (f q)=q
 bf:∀q,q<M->f (f' q)=q
 hg:∀q,q<M->f (G q)=G' (f q)
 ho:∀q,q<M->f (O q)=O' (f q)
section
variable {M:Nat}{G' O' f f':Nat->Nat}{a:Nat}
theorem Iso.symm(i:Iso M G O G' O' f f')(w:Wv M G O):Iso M G' O' G O f' f :=
 ⟨i.bl,i.fl,i.bf,i.fb,λq h=>by
  have:=i.hg (f' q) (i.bl q h);rw[i.bf q h]at this;rw[← this,i.fb _ (w.glt _ (i.bl q h))],λq h=>by
  have:=i.ho (f' q) (i.bl q h);rw[i.bf q h]at this;rw[← this,i.fb _ (w.olt _ (i.bl q h))]⟩
theorem Iso.re(i:Iso M G O G' O' f f')(w:Wv M G O)(d:a<M)(h:Re G O a b):Re G' O' (f a) (f b):=by
 induction h with
 |here=>exact .here
 |g h c=>rw[i.hg _ (h.lt w d)];exact .g c
 |o h c=>rw[i.ho _ (h.lt w d)];exact .o c
theorem Iso.pa(i:Iso M G O G' O' f f')(w:Wv M G O)(e:∀q,q<M->S q->S' (f q))(h:Pa G O S a b):a<M->Pa G' O' S' (f a) (f b):=by
 induction h with
 |one a=>intro c;rw[i.hg a c];exact .one _
 | @more a b h r d=>
  intro c;have hg:=w.glt a c;refine .more (by rw[← i.hg a c];exact e _ hg h) ?_;rw[← i.hg a c,← i.ho _ hg];exact d (w.olt _ hg)
theorem Qb5{k:List Nat}(nd:l.Nodup)(h:∀x∈l,x∈k):l.length<=k.length:=by
 induction l generalizing k with
 |nil=>exact Dq _
 | cons x r d=>
  obtain ⟨h1,h2⟩:=Bf.mp nd;have b:x∈k:=h x (An ..);have e:=R3 b;have f:0<k.length:=Ih b;have:r.length<=(k.erase x).length:=d h2 λy c=>by
   have a:y≠x:=λz=>h1 (z ▸ c);exact(S2 a).mpr (h y (Am _ c))
  simp only[Av];lia
theorem Z9{r:Nat->Nat}(nd:l.Nodup)(h:∀x∈l,∀y∈l,r x=r y->x=y):(l.map r).Nodup:=by
 induction l with
 |nil=>exact Df
 | cons x t g=>
  obtain⟨h1,h2⟩:=Bf.mp nd;rw[Ar,Bf];refine⟨λm=>?_,g h2 λa d b f=>h a (Am _ d) b (Am _ f)⟩;obtain⟨y,c,e⟩:=As.mp m;exact h1 ((h x (An ..) y (Am _ c) e.symm) ▸ c)
open Classical in
theorem Iso.rc_le(i:Iso M G O G' O' f f')(w:Wv M G O)(b:Wv M G' O')(t:∀q,q<M->S q->S' (f q)):rc M G O S<=rc M G' O' S':=by
 have ex:∀p,∃k,Re G' O' (f p) k/\∀j,Re G' O' (f p) j->k<=j:=λp=>Qy7 (P:=λk=>Re G' O' (f p) k) (f p) .here;let r:Nat->Nat:=λp=>(ex p).choose;have g:∀p,Re G' O' (f p) (r p):=λp=>(ex p).choose_spec.1;have v:∀p j,Re G' O' (f p) j->r p<=j:=λp=>(ex p).choose_spec.2;have nd:((Aq M).filter λp=>decide (Rp G O S p)).Nodup:=Ff.sublist Ft;unfold rc;rw[← Ap (f:=r)];refine Qb5 (Z9 nd λx u y D e=>?_) λz hz=>?_
 ·obtain ⟨B,m⟩:=Do.mp u;obtain⟨A,n⟩:=Do.mp D;have m:=of_decide_eq_true m;have n:=of_decide_eq_true n;have a:=Bl.mp B;have d:=Bl.mp A;have F:Re G' O' (f x) (f y):=by
   have:=(g y).symm b (i.fl y d);exact(g x).trans (by rw[e];exact this)
  have o:Re G O x y:=by
   have:=(i.symm w).re b (i.fl x a) F
   rwa [i.fb x a,i.fb y d]at this
  have H:=m.1 y o;have I:=n.1 x (o.symm w a);lia
 ·obtain⟨p,E,rfl⟩:=As.mp hz;obtain⟨C,p2⟩:=Do.mp E;have p2:=of_decide_eq_true p2;have h:=Bl.mp C;have s:r p<M:=(g p).lt b (i.fl p h);refine Do.mpr ⟨Bl.mpr s,decide_eq_true ⟨λq l=>v p q ((g p).trans l),λq l=>?_⟩⟩;have h1:Re G' O' (f p) q:=(g p).trans l;have c:q<M:=h1.lt b (i.fl p h);have h2:=(i.symm w).re b (i.fl p h) h1;rw[i.fb p h]at h2;have:=t _ (i.bl q c) (p2.2 _ h2)
  rwa [i.bf q c]at this
theorem Iso.rc(i:Iso M G O G' O' f f')(w:Wv M G O)(b:Wv M G' O')(c:∀q,q<M->S q->S' (f q))(a:∀q,q<M->S' q->S (f' q)):rc M G O S=rc M G' O' S' :=
 Nat.le_antisymm (i.rc_le w b c) ((i.symm w).rc_le b w a)
end
end Ly
variable {N':Nat}
namespace Sms
open Pol
section
variable {κ:Type}[DecidableEq κ]{key key':Nat->κ}{wg wg':Nat->T}{s s':List (κ×T)}{c d:κ}{f:Int->Int}
def tot(N:Nat)(key:Nat->κ)(wg:Nat->T)(c:κ)(f:Int->Int):Int:=((Aq N).map λn=>if key n=c then ev f (wg n)else 0).sum
theorem Qi0:tot (N+1) key wg c f=tot N key wg c f+if key N=c then ev f (wg N)else 0:=by
 unfold tot;rw[M0,B7,Te];simp
theorem Qlu(h:∀n,n<N->(key n=c↔key' n=d)/\ev f (wg n)=ev f (wg' n)):tot N key wg c f=tot N key' wg' d f:=by
 unfold tot;congr 1;refine B0 λn a=>?_;obtain⟨h1,h2⟩:=h n (Bl.mp a);by_cases z:key n=c
 ·rw[if_pos z,if_pos (h1.mp z),h2]
 ·rw[if_neg z,if_neg λy=>z (h1.mpr y)]
theorem Qpo(h:∀n,n<N->key n≠c):tot N key wg c f=0:=by
 unfold tot;have:((Aq N).map λn=>if key n=c then ev f (wg n)else 0)=(Aq N).map λ_=>0:=B0 λn d=>if_neg (h n (Bl.mp d));rw[this]
 induction N with
 |zero=>rfl
 |succ n b=>rw[M0,B7,Te,b (λk a=>h k (by lia)) (B0 λk a=>if_neg (h k (by have:=Bl.mp a;lia)))];rfl
theorem Qlv:∀l:List Int,l.reverse.sum=l.sum
 | []=>rfl
 | x::l=>by
  rw[List.reverse_cons,Te,Qlv l,Il,Il,List.sum_nil];lia
theorem Qtx(f:Int->Int)(h:∀n,n<N->key' n=key (N-1-n)/\ev f (wg' n)=ev f (wg (N-1-n))):tot N key' wg' c f=tot N key wg c f:=by
 have b:((Aq N).map λn=>if key' n=c then ev f (wg' n)else 0)=((Aq N).map λn=>if key n=c then ev f (wg n)else 0).reverse:=by
  refine Iu (by simp) λi h1 h2=>?_;simp only[Ap,Bz]at h1;rw[P6,Fx,Fx,Fs,Fs];simp only[Ap,Bz];obtain⟨a,d⟩:=h i h1;rw[a,d]
 unfold tot;rw[b];exact Qlv _
def putS:List (κ×T)->κ->T->List (κ×T)
 | [],c,a=>[(c,a)]
 |p::s,c,a=>if p.1=c then (c,a)::s else p::putS s c a
def getS:List (κ×T)->κ->T
 | [],_=>[]
 |p::s,c=>if p.1=c then p.2 else getS s c
theorem Xq:∀{s:List (κ×T)},d∈(putS s c a).map (·.1)↔d=c\/d∈s.map (·.1)
 | []=>by simp[putS]
 | p::s=>by
  unfold putS;by_cases h:p.1=c
  ·rw[if_pos h];subst h;simp
  ·rw [if_neg h,Ar,Ay,Xq,Ar,Ay];constructor
   ·rintro(z|z|z)
    ·exact .inr (.inl z)
    ·exact .inl z
    ·exact .inr (.inr z)
   ·rintro(z|z|z)
    ·exact .inr (.inl z)
    ·exact .inl z
    ·exact .inr (.inr z)
theorem Qsy:∀{s:List (κ×T)},(s.map (·.1)).Nodup->((putS s c a).map (·.1)).Nodup
 | [],_=>by simp[putS]
 | p::s,h=>by
  obtain⟨h1,h2⟩:=Bf.mp h;unfold putS;by_cases z:p.1=c
  ·rw[if_pos z,Ar,Bf];exact⟨z ▸ h1,h2⟩
  ·rw[if_neg z,Ar,Bf];exact⟨λm=>(Xq.mp m).elim z h1,Qsy h2⟩
theorem Qco{p:κ×T}:∀{s:List (κ×T)},(s.map (·.1)).Nodup->p∈putS s c a->p=(c,a)\/(p∈s/\p.1≠c)
 | [],_,h=>.inl (Aw.mp h)
 | q::s,nd,h=>by
  obtain⟨h1,h2⟩:=Bf.mp nd;unfold putS at h;by_cases z:q.1=c
  ·rw[if_pos z]at h;rcases Ay.mp h with h|h
   ·exact .inl h
   ·refine .inr ⟨Am _ h,λy=>h1 ?_⟩;show q.1∈s.map (·.1);rw[z,← y];exact S9 (f:=(·.1)) h
  ·rw [if_neg z]at h;rcases Ay.mp h with rfl|h
   ·exact .inr ⟨An ..,z⟩
   ·rcases Qco h2 h with h|⟨h,y⟩
    ·exact .inl h
    ·exact .inr ⟨Am _ h,y⟩
theorem Qgr:∀{s:List (κ×T)},c∈s.map (·.1)->(c,getS s c)∈s
 | [],h=>nomatch h
 | p::s,h=>by
  unfold getS;by_cases z:p.1=c
  ·rw[if_pos z,← z];exact An ..
  ·rw[if_neg z];rcases Ay.mp h with h|h
   ·exact absurd h.symm z
   ·exact Am _ (Qgr h)
theorem Qh4:∀{s:List (κ×T)},c∉s.map (·.1)->getS s c=[]
 | [],_=>rfl
 | p::s,h=>by
  unfold getS;rw[if_neg λz=>h (by rw[Ar,z];exact An ..)];exact Qh4 λm=>h (Am _ m)
structure Ps(N:Nat)(key:Nat->κ)(wg:Nat->T)(s:List (κ×T)):Prop where
 nd:(s.map (·.1)).Nodup
 is:∀p∈s,Is p.2
 vl:∀p∈s,∀f,ev f p.2=tot N key wg p.1 f
 no:∀c,c∉s.map (·.1)->∀f,tot N key wg c f=0
 fr:∀p∈s,∃n,n<N/\p.1=key n
theorem Ps.start:Ps 0 key wg []:=⟨Df,(λ_ h=>nomatch h),(λ_ h=>nomatch h),λ_ _ _=>rfl,(λ_ h=>nomatch h)⟩
theorem Ps.get(h:Ps N key wg s):ev f (getS s c)=tot N key wg c f:=by
 by_cases z:c∈s.map (·.1)
 ·exact h.vl _ (Qgr z) f
 ·rw[Qh4 z,h.no c z];rfl
theorem Ps.step(h:Ps N key wg s)(g:Is a)(e:∀f,ev f a=ev f (getS s (key N))+ev f (wg N)):Ps (N+1) key wg (putS s (key N) a):=by
 refine⟨Qsy h.nd,λp b=>?_,λp b f=>?_,λc d f=>?_,λp b=>?_⟩
 ·rcases Qco h.nd b with rfl|⟨b,_⟩
  ·exact g
  ·exact h.is p b
 ·rw[Qi0];rcases Qco h.nd b with rfl|⟨b,i⟩
  ·rw[e,h.get,if_pos rfl]
  ·rw[h.vl p b f,if_neg λz=>i z.symm,Int.add_zero]
 ·have h1:c≠key N:=λz=>d (Xq.mpr (.inl z));have h2:c∉s.map (·.1):=λz=>d (Xq.mpr (.inr z));rw[Qi0,h.no c h2,if_neg λz=>h1 z.symm];rfl
 ·rcases Qco h.nd b with rfl|⟨b,_⟩
  ·exact⟨N,by lia,rfl⟩
  ·obtain⟨n,h1,h2⟩:=h.fr p b;exact⟨n,by lia,h2⟩
structure Pz(N:Nat)(key:Nat->κ)(wg:Nat->T)(s:List (κ×T)):Prop extends Ps N key wg s where
 ne:∀p∈s,p.2≠[]
theorem Ps.nz(h:Ps N key wg s):Pz N key wg (s.filter λp=>decide (p.2≠[])):=by
 have b:∀p∈s.filter (λp=>decide (p.2≠[])),p∈s:=λp a=>(Do.mp a).1;refine⟨⟨h.nd.sublist (Ft.map _),λp a=>h.is p (b p a),λp a=>h.vl p (b p a),λc d f=>?_,λp a=>h.fr p (b p a)⟩,λp a=>of_decide_eq_true (Do.mp a).2⟩;by_cases z:c∈s.map (·.1)
 ·have hm:=Qgr z;rw[← h.vl _ hm f];by_cases y:getS s c=[]
  ·show ev f (getS s c)=0;rw[y];rfl
  ·exact absurd (As.mpr ⟨_,Do.mpr ⟨hm,decide_eq_true y⟩,rfl⟩) d
 ·exact h.no c z f
theorem Qb5{d:Type}[DecidableEq d]{l k:List d}(nd:l.Nodup)(h:∀x∈l,x∈k):l.length<=k.length:=by
 induction l generalizing k with
 |nil=>exact Dq _
 | cons x r f=>
  obtain ⟨h1,h2⟩:=Bf.mp nd;have b:x∈k:=h x (An ..);have e:=R3 b;have g:0<k.length:=Ih b;have:r.length<=(k.erase x).length:=f h2 λy c=>by
   have a:y≠x:=λz=>h1 (z ▸ c);exact(S2 a).mpr (h y (Am _ c))
  simp only[Av];lia
theorem Pz.sub(h:Pz N key wg s)(h':Pz N' key' wg' s')(d:∀c f,tot N key wg c f=tot N' key' wg' c f):∀p∈s,p∈s':=λp a=>by
 have hz:p.1∈s'.map (·.1):=Classical.byContradiction λz=>h.ne p a (uniq (h.is p a) Qs8 λf=>by rw[h.vl p a f,d,h'.no _ z f];rfl);have hm:=Qgr hz;have:getS s' p.1=p.2:=uniq (h'.is _ hm) (h.is p a) λf=>by
  have b:=h'.vl _ hm f;have b:ev f (getS s' p.1)=tot N' key' wg' p.1 f:=b;rw[b,h.vl p a f,d]
 rw[this]at hm;exact hm
theorem Pz.same(h:Pz N key wg s)(h':Pz N' key' wg' s')(g:∀c f,tot N key wg c f=tot N' key' wg' c f):s.length=s'.length/\∀p∈s,p∈s':=by
 have a:=h.sub h' g;have b:=h'.sub h λc f=>(g c f).symm;refine⟨?_,a⟩;have i:=Qb5 h.nd λc e=>by
  obtain⟨p,d,rfl⟩:=As.mp e;exact S9 (f:=(·.1)) (a p d)
 have j:=Qb5 h'.nd λc e=>by
  obtain⟨p,d,rfl⟩:=As.mp e;exact S9 (f:=(·.1)) (b p d)
 rw[Ap,Ap]at i j;lia
theorem Pz.ren(h:Pz N key wg s){r:κ->κ}(inj:∀n k,n<N->k<N->r (key n)=r (key k)->key n=key k):Pz N (λn=>r (key n)) wg (s.map λp=>(r p.1,p.2)):=by
 have tt:∀n,n<N->∀f,tot N (λn=>r (key n)) wg (r (key n)) f=tot N key wg (key n) f:=λn j f=>Qlu λk v=>⟨⟨λz=>inj k n v j z,λz=>by rw[z]⟩,rfl⟩
 refine⟨⟨?_,λp g=>?_,λp g f=>?_,λc w f=>?_,λp g=>?_⟩,λp g=>?_⟩
 ·rw [Bg];have gen:∀l:List (κ×T),(∀p∈l,p∈s)->(l.map (·.1)).Nodup->(l.map ((λp:κ×T=>p.1) ∘ λp=>(r p.1,p.2))).Nodup:=by
   intro l
   induction l with
   |nil=>intro _ _;exact Df
   | cons p l u=>
    intro i nd;obtain⟨h1,h2⟩:=Bf.mp nd;rw[Ar,Bf];refine⟨λm=>?_,u (λq a=>i q (Am _ a)) h2⟩;obtain⟨q,a,e⟩:=As.mp m;obtain⟨n,b,d⟩:=h.fr p (i p (An ..));obtain⟨k,t,o⟩:=h.fr q (i q (Am _ a));have e:r q.1=r p.1:=e;rw[d,o]at e;have:=inj k n t b e;rw[← d,← o]at this;refine h1 ?_;show p.1∈l.map (·.1);rw[← this];exact S9 (f:=(·.1)) a
  exact gen s (λ_ h=>h) h.nd
 ·obtain⟨q,a,rfl⟩:=As.mp g;exact h.is q a
 ·obtain⟨q,a,rfl⟩:=As.mp g;obtain⟨n,b,d⟩:=h.fr q a;show ev f q.2=tot N _ wg (r q.1) f;rw[d,tt n b f,← d];exact h.vl q a f
 ·by_cases z:∃n,n<N/\r (key n)=c
  ·obtain⟨n,b,rfl⟩:=z;rw[tt n b f];refine h.no _ (λm=>w ?_) f;obtain⟨q,a,e⟩:=As.mp m;rw[Bg];exact As.mpr ⟨q,a,by show r q.1=_;rw[e]⟩
  ·exact Qpo λn j y=>z ⟨n,j,y⟩
 ·obtain⟨q,a,rfl⟩:=As.mp g;obtain⟨n,b,d⟩:=h.fr q a;exact⟨n,b,by show r q.1=_;rw[d]⟩
 ·obtain⟨q,a,rfl⟩:=As.mp g;exact h.ne q a
theorem Pz.turned(h:Pz N key wg s):Pz N key (λn=>turn (wg n)) (s.map λp=>(p.1,turn p.2)):=by
 have tt:∀c f,tot N key (λn=>turn (wg n)) c f=tot N key wg c λp=>f (-p):=λc f=>by
  unfold tot;congr 1;exact B0 λn _=>by rw[Qn3]
 have e:(s.map λp=>(p.1,turn p.2)).map (·.1)=s.map (·.1):=by rw[Bg];rfl
 refine⟨⟨by rw[e];exact h.nd,λp a=>?_,λp a f=>?_,λc d f=>?_,λp a=>?_⟩,λp a=>?_⟩
 ·obtain⟨q,b,rfl⟩:=As.mp a;exact Qnp (h.is q b)
 ·obtain⟨q,b,rfl⟩:=As.mp a;show ev f (turn q.2)=_;rw[Qn3,tt];exact h.vl q b _
 ·rw[tt];rw[e]at d;exact h.no c d _
 ·obtain⟨q,b,rfl⟩:=As.mp a;exact h.fr q b
 ·obtain⟨q,b,rfl⟩:=As.mp a;intro z;refine h.ne q b ?_;have:(turn q.2).length=q.2.length:=by unfold turn;rw[Ap,R6]
  have z:turn q.2=[]:=z;rw[z]at this;exact Mg.mp this.symm
end
end Sms
variable {J J':Nat->Nat}
namespace Ly
section
variable {Mx:Nat}{W:Nat->Nat}{a:Nat}
theorem Q02(w:Wv Mx G O)(l:List Nat)(d:∀x∈l,x<Mx/\O x≠x):∃π,St Mx G O (λq=>∃x∈l,q=x\/q=O x) π:=by
 induction l with
 | nil=>
  have e:(λq=>∃x∈([]:List Nat),q=x\/q=O x)=λ_=>False:=by funext q;simp
  exact⟨G,e ▸ St.start w⟩
 | cons x l f=>
  obtain⟨π,st⟩:=f λy a=>d y (Am _ a);obtain⟨c,ho⟩:=d x (An ..);by_cases h1:∃y∈l,x=y\/x=O y
  ·refine ⟨π,?_⟩;have e:(λq=>∃y∈x::l,q=y\/q=O y)=λq=>∃y∈l,q=y\/q=O y:=by
    funext q;refine propext ⟨?_,λ⟨y,a,b⟩=>⟨y,Am _ a,b⟩⟩;rintro⟨y,a,b⟩;rcases Ay.mp a with rfl|a
    ·rcases b with rfl|rfl
     ·exact h1
     ·exact st.so y c h1
    ·exact⟨y,a,b⟩
   rw[e];exact st
  ·have h2:¬∃y∈l,O x=y\/O x=O y:=λh=>h1 (by
    have:=st.so (O x) (w.olt x c) h;simpa only[w.oo x c]using this)
   have e:(λq=>∃y∈x::l,q=y\/q=O y)=ad (λq=>∃y∈l,q=y\/q=O y) O x:=by
    funext q;refine propext ⟨?_,?_⟩
    ·rintro⟨y,a,b⟩;rcases Ay.mp a with rfl|a
     ·exact .inr b
     ·exact .inl ⟨y,a,b⟩
    ·rintro(⟨y,a,b⟩|b)
     ·exact⟨y,Am _ a,b⟩
     ·exact⟨x,An ..,b⟩
   by_cases h:π x=O x
   ·exact⟨π,e ▸ st.ring w c h1 h2 h⟩
   ·exact⟨jn π O x,e ▸ st.join w c ho h1 h2 h⟩
theorem Pa.det(h:Pa G O S a b):¬S b->Pa G O S a c->¬S c->b=c:=by
 induction h with
 | one a=>
  intro d e _;cases e with
  |one=>rfl
  |more h _=>exact absurd h d
 | more h _ g=>
  intro d e f;cases e with
  |one=>exact absurd h f
  |more _ r=>exact g d r f
def Jn(m e:Nat)(g W J:Nat->Nat):Prop:=∀i,i<e->J i<e/\Pa (Gx m e g) (Ox m e W) (Sf m e) (4*m+i) (4*m+e+2*J i+1)
theorem Uh:¬Sf m e (4*m+e+2*i+1):=λh=>h.2 i rfl
theorem Qyx(a:q<4*m+e+2*e)(h:¬Sf m e q):∃i,i<e/\q=4*m+e+2*i+1:=by
 by_cases z:∃i,q=4*m+e+2*i+1
 ·obtain⟨i,rfl⟩:=z;exact⟨i,by lia,rfl⟩
 ·exact absurd ⟨a,λi hi=>z ⟨i,hi⟩⟩ h
theorem Jn.uniq(h:Jn m e g W J)(h':Jn m e g W J')(hi:i<e):J i=J' i:=by
 have:=(h i hi).2.det Uh (h' i hi).2 Uh;lia
theorem Qw7(w:Wv (4*m+e+2*e) (Gx m e g) (Ox m e W)):(∃x∈(Aq (4*m+e+2*e)).filter (λq=>decide (Ox m e W q≠q)),q=x\/q=Ox m e W x)↔Sf m e q:=by
 constructor
 ·rintro⟨x,b,h⟩;obtain⟨h1,h2⟩:=Do.mp b;have h1:=Bl.mp h1;have h2:=of_decide_eq_true h2;rcases h with rfl|rfl
  ·exact⟨h1,λi hi=>h2 (by rw[hi];exact X6)⟩
  ·refine⟨w.olt x h1,λi hi=>h2 ?_⟩;have:=w.oo x h1;rw[hi,X6]at this;rw[hi];exact this
 ·intro h;refine⟨q,Do.mpr ⟨Bl.mpr h.1,decide_eq_true λz=>?_⟩,.inl rfl⟩;rcases V7 h.1 with⟨k,j,c,a,rfl⟩|⟨i,hi,rfl⟩|⟨i,hi,rfl⟩|⟨i,hi,rfl⟩
  ·rw[Yi c a]at z;exact Q0q (v:=W k) a (by lia)
  ·rw[Vd hi]at z;lia
  ·rw[Vi hi]at z;lia
  ·exact h.2 i rfl
theorem j_ex(k:M.Tw (4*m+e) A g)(W:Nat->Nat):∃J,Jn m e g W J/\∀i,i<e->J (J i)=i/\J i≠i:=by
 have w:=wv (W:=W) k;obtain⟨π,st⟩:=Q02 w ((Aq (4*m+e+2*e)).filter (λq=>decide (Ox m e W q≠q))) λx f=>by
  obtain⟨h1,h2⟩:=Do.mp f;exact⟨Bl.mp h1,of_decide_eq_true h2⟩
 have es:(λq=>∃x∈(Aq (4*m+e+2*e)).filter (λq=>decide (Ox m e W q≠q)),q=x\/q=Ox m e W x)=Sf m e:=funext λq=>propext (Qw7 w);rw[es]at st;have lt:∀i,i<e->4*m+e+2*i+1<4*m+e+2*e:=λi hi=>by lia
 have ex:∀i,i<e->∃j,j<e/\π (4*m+e+2*i+1)=4*m+e+2*j+1:=λi hi=>Qyx (st.pl _ (lt i hi) Uh) (st.ps _ (lt i hi) Uh);let J:Nat->Nat:=λi=>(π (4*m+e+2*i+1)-(4*m+e+1))/2;have a:∀i,i<e->J i<e/\π (4*m+e+2*i+1)=4*m+e+2*J i+1:=λi hi=>by
  obtain⟨j,h1,h2⟩:=ex i hi;have:J i=j:=by show(π (4*m+e+2*i+1)-(4*m+e+1))/2=j;rw[h2];lia
  rw[this];exact⟨h1,h2⟩
 refine⟨J,λi hi=>⟨(a i hi).1,?_⟩,λi hi=>?_⟩
 ·have d:=st.pa _ (lt i hi) Uh;have c:=st.ps _ (lt i hi) Uh;rw[(a i hi).2]at d c;generalize l:4*m+e+2*J i+1=b at d c ⊢;cases d with
  |one=>exact absurd (by rw[Z0];exact⟨by lia,λn z=>by lia⟩) c
  |more h r=>rw[Z0,Vi hi]at r;exact r
 ·have h1:=st.pp _ (lt i hi) Uh;have h2:=st.pn _ (lt i hi) Uh;rw[(a i hi).2]at h1 h2;rw[(a _ (a i hi).1).2]at h1;exact⟨by lia,λz=>h2 (by rw[z])⟩
theorem Jn.inv(d:M.Tw (4*m+e) A g)(h:Jn m e g W J)(hi:i<e):J (J i)=i/\J i≠i:=by
 obtain⟨J',h',k⟩:=j_ex d W;obtain⟨c,b⟩:=k i hi;have a:=h.uniq h' hi;refine⟨?_,by rw[a];exact b⟩;rw[a,h.uniq h' (h' i hi).1];exact c
end
section
variable {W W' f f':Nat->Nat}
theorem tw_by(a:M.Tw N A g)(fl:∀q,q<N->f q<N)(bl:∀q,q<N->f' q<N)(fb:∀q,q<N->f' (f q)=q)(bf:∀q,q<N->f (f' q)=q) :
  M.Tw N (λq=>A (f' q)) (λq=>f (g (f' q))) :=
 ⟨λi h=>fl _ (a.lt _ (bl i h)),λi h z=>a.ne _ (bl i h) (by
  have:=congrArg f' z
  rwa [fb _ (a.lt _ (bl i h))]at this),λi h=>by
  show A (f' (f (g (f' i))))=A (f' i);rw[fb _ (a.lt _ (bl i h))];exact a.eq _ (bl i h),λi k hi b h=>by
  rcases a.only (f' i) (f' k) (bl i hi) (bl k b) h with z|z
  ·exact .inl (by rw[← bf k b,z,bf i hi])
  ·exact .inr (by rw[← bf k b,z])⟩
def rot(e n i:Nat):Nat:=(i+(e-n))%e
theorem Yt(hi:i<e):rot e n i<e:=Nat.mod_lt _ (by lia)
theorem Y3(b:n<=e)(hi:i<e):rot e (e-n) (rot e n i)=i:=by
 unfold rot;by_cases h:i+(e-n)<e
 ·rw[Nu h,show i+(e-n)+(e-(e-n))=i+e by lia,T7,Nu hi]
 ·have a:(i+(e-n))%e=i-n:=by
   rw[show i+(e-n)=(i-n)+e by lia,T7,Nu (by lia)]
  rw[a,show i-n+(e-(e-n))=i by lia,Nu hi]
theorem Qbg(a:n<=e)(hi:i<e):rot e n (rot e (e-n) i)=i:=by
 have:=Y3 (n:=e-n) (by lia) hi
 rwa [show e-(e-n)=n by lia]at this
def sh(m e n q:Nat):Nat:=if q<4*m then q else if q<4*m+e then 4*m+rot e n (q-4*m)else 4*m+e+2*rot e n ((q-(4*m+e))/2)+(q-(4*m+e))%2
theorem Z3(h:q<4*m):sh m e n q=q:=if_pos h
theorem Xe(h:i<e):sh m e n (4*m+i)=4*m+rot e n i:=by
 unfold sh;rw[if_neg (by lia),if_pos (by lia),show 4*m+i-4*m=i by lia]
theorem Uc(h:i<e):sh m e n (4*m+e+2*i)=4*m+e+2*rot e n i:=by
 unfold sh;rw[if_neg (by lia),if_neg (by lia),show(4*m+e+2*i-(4*m+e))/2=i by lia,show(4*m+e+2*i-(4*m+e))%2=0 by lia,A0m]
theorem Qb7(h:i<e):sh m e n (4*m+e+2*i+1)=4*m+e+2*rot e n i+1:=by
 unfold sh;rw[if_neg (by lia),if_neg (by lia),show(4*m+e+2*i+1-(4*m+e))/2=i by lia,show(4*m+e+2*i+1-(4*m+e))%2=1 by lia]
theorem Qt7(h:q<4*m+e):sh m e n q<4*m+e:=by
 by_cases h1:q<4*m
 ·rw[Z3 h1];lia
 ·obtain⟨i,rfl⟩:∃i,q=4*m+i:=⟨q-4*m,by lia⟩
  rw[Xe (by lia)];have:=Yt (e:=e) (n:=n) (i:=i) (by lia);lia
theorem Qt6(h:q<4*m+e+2*e):sh m e n q<4*m+e+2*e:=by
 rcases V7 h with⟨k,j,b,a,rfl⟩|⟨i,hi,rfl⟩|⟨i,hi,rfl⟩|⟨i,hi,rfl⟩
 ·rw[Z3 (by lia)];exact h
 ·rw[Xe hi];have:=Yt (n:=n) hi;lia
 ·rw[Uc hi];have:=Yt (n:=n) hi;lia
 ·rw[Qb7 hi];have:=Yt (n:=n) hi;lia
theorem Qpt(a:n<=e)(h:q<4*m+e+2*e):sh m e (e-n) (sh m e n q)=q:=by
 rcases V7 h with⟨k,j,c,b,rfl⟩|⟨i,hi,rfl⟩|⟨i,hi,rfl⟩|⟨i,hi,rfl⟩
 ·rw[Z3 (q:=4*k+j) (by lia),Z3 (by lia)]
 ·rw[Xe hi,Xe (Yt hi),Y3 a hi]
 ·rw[Uc hi,Uc (Yt hi),Y3 a hi]
 ·rw[Qb7 hi,Qb7 (Yt hi),Y3 a hi]
theorem Qse(a:n<=e)(h:q<4*m+e+2*e):sh m e n (sh m e (e-n) q)=q:=by
 have:=Qpt (m:=m) (n:=e-n) (by lia) h
 rwa [show e-(e-n)=n by lia]at this
def gS(m e n:Nat)(g:Nat->Nat):Nat->Nat:=λq=>sh m e n (g (sh m e (e-n) q))
def aS(m e n:Nat)(A:Nat->Int):Nat->Int:=λq=>A (sh m e (e-n) q)
theorem tw_sh(b:M.Tw (4*m+e) A g)(a:n<=e):M.Tw (4*m+e) (aS m e n A) (gS m e n g) :=
 tw_by (f:=sh m e n) (f':=sh m e (e-n)) b (λq h=>Qt7 h) (λq h=>Qt7 h) (λq h=>Qpt a (by lia)) (λq h=>Qse a (by lia))
theorem Qs6(f:M.Tw (4*m+e) A g)(a:n<=e):Iso (4*m+e+2*e) (Gx m e g) (Ox m e W) (Gx m e (gS m e n g)) (Ox m e W) (sh m e n) (sh m e (e-n)):=by
 refine⟨λq h=>Qt6 h,λq h=>Qt6 h,λq h=>Qpt a h,λq h=>Qse a h,λq h=>?_,λq h=>?_⟩
 ·by_cases b:q<4*m+e
  ·rw[Qdq b,Qdq (Qt7 b)];unfold gS;rw[Qpt a h]
  ·rcases V7 h with⟨k,j,d,c,rfl⟩|⟨i,hi,rfl⟩|⟨i,hi,rfl⟩|⟨i,hi,rfl⟩
   ·lia
   ·lia
   ·rw[Y5,Qb7 hi,Uc hi,Y5]
   ·rw[Z0,Qb7 hi,Uc hi,Z0]
 ·rcases V7 h with⟨k,j,d,c,rfl⟩|⟨i,hi,rfl⟩|⟨i,hi,rfl⟩|⟨i,hi,rfl⟩
  ·rw[Z3 (q:=4*k+j) (by lia),Z3 (Q0o (by lia))]
  ·rw[Vd hi,Xe hi,Uc hi,Vd (Yt hi)]
  ·rw[Vi hi,Xe hi,Uc hi,Vi (Yt hi)]
  ·rw[X6,Qb7 hi,X6]
theorem Qt9(h:q<4*m+e+2*e)(a:Sf m e q):Sf m e (sh m e n q):=by
 refine⟨Qt6 h,λd z=>?_⟩;rcases V7 h with⟨k,j,c,b,rfl⟩|⟨i,hi,rfl⟩|⟨i,hi,rfl⟩|⟨i,hi,rfl⟩
 ·rw[Z3 (by lia)]at z;exact a.2 _ z
 ·rw[Xe hi]at z;have:=Yt (n:=n) hi;lia
 ·rw[Uc hi]at z;lia
 ·exact a.2 i rfl
theorem Q06(a:M.Tw (4*m+e) A g)(b:n<=e):rc (4*m+e+2*e) (Gx m e g) (Ox m e W) (Sf m e)=rc (4*m+e+2*e) (Gx m e (gS m e n g)) (Ox m e W) (Sf m e) :=
 (Qs6 a b).rc (wv a) (wv (tw_sh a b)) (λq h s=>Qt9 h s) (λq h s=>Qt9 h s)
theorem Q13(b:M.Tw (4*m+e) A g)(a:n<=e)(h:Jn m e g W J):Jn m e (gS m e n g) W λi=>rot e n (J (rot e (e-n) i)):=λi hi=>by
 have h0:=Yt (n:=e-n) hi;obtain⟨h1,h2⟩:=h _ h0;refine⟨Yt h1,?_⟩;have:=(Qs6 (W:=W) b a).pa (wv b) (S':=Sf m e) (λq h s=>Qt9 h s) h2 (by lia)
 rwa [Xe h0,Qb7 h1,Qbg a hi]at this
def mi(c m q:Nat):Nat:=if q<4*m then 4*(q/4)+(q%4+c)%4 else q
theorem U2(b:k<m)(a:j<4):mi c m (4*k+j)=4*k+(j+c)%4:=by
 unfold mi;rw[if_pos (by lia),show(4*k+j)/4=k by lia,show(4*k+j)%4=j by lia]
theorem Zf(h:4*m<=q):mi c m q=q:=if_neg (by lia)
theorem Qhz(h:q<N)(hN:4*m<=N):mi c m q<N:=by
 unfold mi;split<;>lia
theorem Qvq:mi 1 m (mi 3 m q)=q:=by
 by_cases h:q<4*m
 ·obtain⟨k,j,a,b,rfl⟩:∃k j,k<m/\j<4/\q=4*k+j:=⟨q/4,q%4,by lia,by lia,by lia⟩
  rw[U2 a b,U2 a (by lia)];lia
 ·rw[Zf (q:=q) (by lia),Zf (by lia)]
theorem Qs0:mi 3 m (mi 1 m q)=q:=by
 by_cases h:q<4*m
 ·obtain⟨k,j,a,b,rfl⟩:∃k j,k<m/\j<4/\q=4*k+j:=⟨q/4,q%4,by lia,by lia,by lia⟩
  rw[U2 a b,U2 a (by lia)];lia
 ·rw[Zf (q:=q) (by lia),Zf (by lia)]
def gM(m:Nat)(g:Nat->Nat):Nat->Nat:=λq=>mi 3 m (g (mi 1 m q))
def aM(m:Nat)(A:Nat->Int):Nat->Int:=λq=>A (mi 1 m q)
theorem tw_mi(a:M.Tw (4*m+e) A g):M.Tw (4*m+e) (aM m A) (gM m g) :=
 tw_by (f:=mi 3 m) (f':=mi 1 m) a (λq h=>Qhz h (by lia)) (λq h=>Qhz h (by lia)) (λq h=>Qvq) (λq h=>Qs0)
theorem Qs7(p:M.Tw (4*m+e) A g)(l:∀k,k<m->W k<=1)(c:∀k,k<m->W' k=1-W k):Iso (4*m+e+2*e) (Gx m e g) (Ox m e W) (Gx m e (gM m g)) (Ox m e W') (mi 3 m) (mi 1 m):=by
 refine⟨λq h=>Qhz h (by lia),λq h=>Qhz h (by lia),λq h=>Qvq,λq h=>Qs0,λq h=>?_,λq h=>?_⟩
 ·by_cases d:q<4*m+e
  ·rw[Qdq d,Qdq (Qhz d (by lia))];unfold gM;rw[Qvq]
  ·rcases V7 h with⟨k,j,a,b,rfl⟩|⟨i,hi,rfl⟩|⟨i,hi,rfl⟩|⟨i,hi,rfl⟩
   ·lia
   ·lia
   ·rw[Y5,Zf (by lia),Zf (by lia),Y5]
   ·rw[Z0,Zf (by lia),Zf (by lia),Z0]
 ·rcases V7 h with⟨k,j,a,b,rfl⟩|⟨i,hi,rfl⟩|⟨i,hi,rfl⟩|⟨i,hi,rfl⟩
  ·rw[Yi a b,U2 a (Qtn b),U2 a b,Yi a (by lia),c k a];have f:=l k a;congr 1;generalize W k=v at f;have o:v=0\/v=1:=by lia
   have n:j=0\/j=1\/j=2\/j=3:=by lia
   clear h b;rcases o with rfl|rfl<;>rcases n with rfl|rfl|rfl|rfl<;>rfl
  ·rw[Vd hi,Zf (by lia),Zf (by lia),Vd hi]
  ·rw[Vi hi,Zf (by lia),Zf (by lia),Vi hi]
  ·rw[X6,Zf (by lia),X6]
theorem Qua(h:q<4*m+e+2*e)(b:Sf m e q):Sf m e (mi c m q):=by
 refine⟨Qhz h (by lia),λd z=>?_⟩;by_cases a:q<4*m
 ·have:=Qhz (c:=c) a (At _);lia
 ·rw[Zf (by lia)]at z;exact b.2 _ z
theorem Q07(b:M.Tw (4*m+e) A g)(c:∀k,k<m->W k<=1)(a:∀k,k<m->W' k=1-W k):rc (4*m+e+2*e) (Gx m e g) (Ox m e W) (Sf m e)=rc (4*m+e+2*e) (Gx m e (gM m g)) (Ox m e W') (Sf m e) :=
 (Qs7 b c a).rc (wv b) (wv (tw_mi b)) (λq h s=>Qua h s) (λq h s=>Qua h s)
theorem Q14(b:M.Tw (4*m+e) A g)(c:∀k,k<m->W k<=1)(a:∀k,k<m->W' k=1-W k)(h:Jn m e g W J):Jn m e (gM m g) W' J:=λi hi=>by
 obtain⟨h1,h2⟩:=h _ hi;refine⟨h1,?_⟩;have:=(Qs7 b c a).pa (wv b) (S':=Sf m e) (λq h s=>Qua h s) h2 (by lia)
 rwa [Zf (by lia),Zf (by lia)]at this
end
section
variable {W:Nat->Nat}
theorem Qkf(c:M.Tw (4*m+e) A g)(a:p<4*m+e+2*e)(h:∀q,Re (Gx m e g) (Ox m e W) p q->Sf m e q):p<4*m:=by
 rcases V7 a with⟨k,j,d,b,rfl⟩|⟨i,hi,rfl⟩|⟨i,hi,rfl⟩|⟨i,hi,rfl⟩
 ·lia
 ·have h1:=h _ (.g (.o .here));rw[Vd hi,Y5]at h1;exact absurd h1 Uh
 ·have h1:=h _ (.g .here);rw[Y5]at h1;exact absurd h1 Uh
 ·exact absurd (h _ .here) Uh
open Classical in
theorem Qxf(s:M.Tw (4*m+e) A g):2*rc (4*m+e+2*e) (Gx m e g) (Ox m e W) (Sf m e)<=4*m:=by
 have w:=wv (W:=W) s;generalize h:((Aq (4*m+e+2*e)).filter λp=>decide (Rp (Gx m e g) (Ox m e W) (Sf m e) p))=l;have hm:∀p∈l,p<4*m+e+2*e/\Rp (Gx m e g) (Ox m e W) (Sf m e) p:=λp t=>by
  rw[← h]at t;obtain⟨h1,h2⟩:=Do.mp t;exact⟨Bl.mp h1,of_decide_eq_true h2⟩
 have nd:l.Nodup:=by rw[← h];exact Ff.sublist Ft
 have k:(l.map (Gx m e g)).Nodup:=Z9 nd λx d y F z=>by
  have:=congrArg (Gx m e g) z
  rwa [w.gg x (hm x d).1,w.gg y (hm y F).1]at this
 have i:∀a∈l,∀b∈l.map (Gx m e g),a≠b:=λa u b v z=>by
  obtain⟨c,r,rfl⟩:=As.mp v;obtain⟨f,n⟩:=hm c r;obtain⟨I,D⟩:=hm a u;have h1:c<=a:=by rw[z];exact n.1 _ (.g .here)
  have h2:a<=c:=D.1 _ (by rw[z];have:=Re.g (G:=Gx m e g) (O:=Ox m e W) (Re.here (p:=Gx m e g c));rwa [w.gg c f]at this);have:a=c:=by lia
  rw[this]at z;exact w.gne c f z.symm
 have o:(l++l.map (Gx m e g)).Nodup:=Fl.mpr ⟨nd,k,i⟩;have j:∀x∈l++l.map (Gx m e g),x∈Aq (4*m):=λx d=>by
  rw[Bl];rcases Bx.mp d with d|d
  ·obtain⟨E,C⟩:=hm x d;exact Qkf (W:=W) s E C.2
  ·obtain⟨c,r,rfl⟩:=As.mp d;obtain⟨f,n⟩:=hm c r;exact Qkf (W:=W) s (w.glt c f) λq B=>n.2 q ((Re.g .here).trans B)
 have:=Qb5 o j
 rw[Dy,Ap,Bz]at this;have H:rc (4*m+e+2*e) (Gx m e g) (Ox m e W) (Sf m e)=l.length:=by unfold rc;rw[h]
 lia
noncomputable def Jf(m e:Nat)(g W:Nat->Nat):Nat->Nat:=by
 classical
 exact if h:∃J,Jn m e g W J then h.choose else id
theorem Qh2(b:M.Tw (4*m+e) A g)(W:Nat->Nat):Jn m e g W (Jf m e g W):=by
 obtain⟨J,h,_⟩:=j_ex b W;have a:∃J,Jn m e g W J:=⟨J,h⟩
 unfold Jf;rw[dif_pos a];exact a.choose_spec
end
end Ly
variable {k:PV.D->PV.D->Prop}
namespace Ly
open PV Mx
section
variable {κ:Type}[DecidableEq κ]
theorem Yc{k j:κ}:∀kvs:List (κ×D),valD (Ze kvs k) j=if j=k then none else valD kvs j
 | []=>by unfold Ze;simp[G9]
 | p::r=>by
  have a:=Yc (k:=k) (j:=j) r;unfold Ze at a ⊢;by_cases h:p.1=k
  ·rw[D2 (by simpa using h),a,Q1];by_cases e:j=k
   ·rw[if_pos e,if_pos e]
   ·rw[if_neg e,if_neg e,if_neg (λz=>e (z.symm.trans h))]
  ·rw[D3 (by simpa using h),Q1,Q1,a];by_cases e:j=k
   ·subst e;rw[if_neg h,if_pos rfl,if_pos rfl]
   ·rw[if_neg e,if_neg e]
theorem Qoe{k:κ}{kvs:List (κ×D)}(h:valD kvs k=none):Ze kvs k=kvs:=by
 unfold Ze;refine Ks.mpr λp b=>decide_eq_true λe=>?_;have:=X5 k kvs;rw[h]at this;have z:(kvs.any λa=>decide (a.1=k))=true:=Ip.mpr ⟨p,b,decide_eq_true e⟩;rw[this]at z;cases z
theorem Qfg{k:κ}{kvs:List (κ×D)}(h:(kvs.map (·.1)).Nodup):((Ze kvs k).map (·.1)).Nodup:=h.sublist (Ft.map _)
theorem Qbo{k:κ}{kvs:List (κ×D)}:(Ze kvs k).length<=kvs.length:=D6 _ _
theorem Qso{k:κ}{kvs:List (κ×D)}(h:(kvs.map (·.1)).Nodup):((putD kvs k d).map (·.1)).Nodup:=by
 unfold putD;split
 ·rw [Bg];have:((λx:κ×D=>x.1) ∘ λc:κ×D=>if c.1=k then (c.1,d)else c)=λx=>x.1:=by
   funext x;show(if x.1=k then (x.1,d)else x).1=x.1
   split<;>rfl
  rw[this];exact h
 ·rename_i i;rw[B7];refine Fl.mpr ⟨h,by simp,λa g b f=>?_⟩;rw[Ar,Bm,Aw]at f;subst f;intro e;obtain⟨p,j,q⟩:=As.mp g;exact i (Ip.mpr ⟨p,j,decide_eq_true (q.trans e)⟩)
theorem Qm8{kvs:List (κ×D)}{k:κ}(h:(kvs.map (·.1)).Nodup):(k,d)∈kvs↔valD kvs k=some d:=by
 induction kvs with
 |nil=>simp[G9]
 | cons p r a=>
  obtain⟨h1,h2⟩:=Bf.mp h;rw[Q1,Ay,a h2];by_cases e:p.1=k
  ·rw [if_pos e];constructor
   ·rintro(z|z)
    ·rw[← z]
    ·exact absurd (As.mpr ⟨_,(a h2).mpr z,rfl⟩) (by rw[← e] ;exact h1)
   ·intro z
    left
    rw[← e,← B3 z]
  ·rw [if_neg e];constructor
   ·rintro(z|z)
    ·exact absurd (by rw[← z]) e
    ·exact z
   ·exact .inr
end
theorem Qwd:∀{u v:EI},eiD u=eiD v->u=v
 | .inl i,.inl j,h=>by
  have h:D.int i=D.int j:=h;cases h;rfl
 | .inl i,.inr l,h=>nomatch (show D.int i=D.tup _ from h)
 | .inr l,.inl i,h=>nomatch (show D.tup _=D.int i from h)
 | .inr l,.inr k,h=>by
  have h:D.tup (l.map .int)=D.tup (k.map .int):=h;have h:=D.tup.inj h;rw[(Sg λ_ _ z=>D.int.inj z).mp h]
theorem Qh0:∀{u v:MI},miD u=miD v->u=v
 | .inl i,.inl j,h=>by
  have h:D.int i=D.int j:=h;cases h;rfl
 | .inl i,.inr l,h=>nomatch (show D.int i=D.tup _ from h)
 | .inr l,.inl i,h=>nomatch (show D.tup _=D.int i from h)
 | .inr l,.inr k,h=>by
  have h:D.tup (l.map eiD)=D.tup (k.map eiD):=h;have h:=D.tup.inj h;rw[(Sg λ_ _ z=>Qwd z).mp h]
theorem Qcw:∀l:List Int,Qa3 (l.map .int)=some l
 | []=>rfl
 | i::l=>by
  show(Qa3 (l.map .int)).map (i :: ·)=_;rw[Qcw l];rfl
theorem Qwc:∀u:EI,eltM (eiD u)=some u
 | .inl i=>rfl
 | .inr l=>by
  show(Qa3 (l.map .int)).map _=_;rw[Qcw];rfl
theorem Qgx:∀l:List EI,X2 (l.map eiD)=some l
 | []=>rfl
 | u::l=>by
  show X2 (eiD u::l.map eiD)=_;unfold X2;rw[Qwc,Qgx l]
theorem Vg:∀u:MI,keyM (miD u)=some u
 | .inl i=>rfl
 | .inr l=>by
  show(X2 (l.map eiD)).map _=_;rw[Qgx];rfl
theorem Quw:∀u:EI,(eiD u).pure=true
 | .inl i=>by unfold eiD;rw[D.pure]
 | .inr l=>by unfold eiD;rw[D.pure];exact Ye.mpr λx a=>by obtain⟨i,_,rfl⟩:=As.mp a;rw[D.pure]
theorem Jw:∀u:MI,(miD u).pure=true
 | .inl i=>by unfold miD;rw[D.pure]
 | .inr l=>by unfold miD;rw[D.pure];exact Ye.mpr λx a=>by obtain⟨i,_,rfl⟩:=As.mp a;exact Quw i
theorem Qwa:∀u:EI,eqOk 8 (eiD u)=true
 | .inl i=>rfl
 | .inr l=>by
  show Gs 7 (l.map .int)=true;exact Qc0.mpr λx a=>by obtain⟨i,_,rfl⟩:=As.mp a;rfl
theorem Qfe:∀u:MI,eqOk 9 (miD u)=true
 | .inl i=>rfl
 | .inr l=>by
  show Gs 8 (l.map eiD)=true;exact Qc0.mpr λx a=>by obtain⟨i,_,rfl⟩:=As.mp a;exact Qwa i
theorem Q2e{v:MI}{k:D->Prop}(h1:u=v->k (.bl true))(h2:u≠v->k (.bl false)):dEq (miD u) (miD v) k:=by
 have gen:eqOk 9 (miD u)=true/\eqOk 9 (miD v)=true/\(miD u=miD v->k (.bl true))/\(miD u≠miD v->k (.bl false)):=⟨Qfe u,Qfe v,λz=>h1 (Qh0 z),λz=>h2 λy=>z (by rw[y])⟩
 cases u with
 | inl i=>
  cases v with
  | inl j=>
   show k (.bl (decide (i=j)));by_cases e:i=j
   ·rw[decide_eq_true e];exact h1 (by rw[e])
   ·rw[decide_eq_false e];exact h2 λz=>e (M9 z)
  |inr l=>exact gen
 | inr l=>
  cases v with
  |inl j=>exact gen
  |inr k=>exact gen
theorem Qjj(hd:d.pure=true)(h:k ((valD kvs u).getD d) (.dmx (Ze kvs u))):Qk7 (.dmx kvs) [miD u,d] k:=by
 show oget (keyM (miD u)) _;rw[Vg];refine⟨Jw u,hd,?_⟩;show match valD kvs u with|none=>k d (.dmx kvs)|some d=>k d (.dmx (Ze kvs u))
 cases a:valD kvs u with
 |none=>rw[a,Qoe a]at h;exact h
 |some x=>rw[a]at h;exact h
theorem Qj3(hd:d.pure=true)(h:k ((valD kvs u).getD d) (.dmx kvs)):Qq4 (.dmx kvs) [miD u,d] k:=by
 show oget (keyM (miD u)) _;rw[Vg];exact⟨Jw u,hd,h⟩
structure DR(M:Nat)(G:Nat->Nat)(lb:Nat->MI)(S:Nat->Prop)(π:Nat->Nat)(kvs:List (MI×D)):Prop where
 nd:(kvs.map (·.1)).Nodup
 va:∀q,q<M->¬S q->S (G q)->valD kvs (lb q)=some (miD (lb (π q)))
 on:∀k d,valD kvs k=some d->∃q,q<M/\¬S q/\S (G q)/\k=lb q
section
variable {M x:Nat}{π:Nat->Nat}{lb:Nat->MI}
theorem DR.start:DR M G lb (λ_=>False) G []:=⟨Df,λ_ _ _ h=>h.elim,λk d h=>by rw[G9]at h;cases h⟩
theorem DR.get(w:Wv M G O)(lo:Lab M G lb)(s:St M G O S π)(b:DR M G lb S π kvs)(a:q<M)(h:¬S q):(valD kvs (lb q)).getD (miD (lb q))=miD (lb (π q)):=by
 by_cases hg:S (G q)
 ·rw[b.va q a h hg];rfl
 ·cases c:valD kvs (lb q) with
  | some d=>
   obtain⟨r,f,h1,h2,e⟩:=b.on _ _ c;rcases lo.only q r a f e.symm with rfl|rfl
   ·exact absurd h2 hg
   ·rw[w.gg q a]at h2;exact absurd h2 h
  |none=>rw[s.plain a h hg,lo.eq q a];rfl
theorem Qgl(lo:Lab M G lb)(s:St M G O S π)(b:x<M)(d:q<M)(h1:¬S x)(a:¬S q)(c:q≠x)(e:q≠π x):lb q≠lb x:=λz=>by
 rcases lo.only x q b d z with y|y
 ·exact c y
 ·have:¬S (G x):=by rw[← y];exact a
  exact e (by rw[y,s.plain b h1 this])
theorem DR.ring(w:Wv M G O)(lo:Lab M G lb)(s:St M G O S π)(i:DR M G lb S π kvs)(e:x<M)(h1:¬S x)(h2:¬S (O x))(h:π x=O x):DR M G lb (ad S O x) π (Ze (Ze kvs (lb x)) (lb (O x))):=by
 have c:=w.olt x e;have o:=s.pp x e h1;rw[h]at o;refine⟨Qfg (Qfg i.nd),λq b n hg=>?_,λk d a=>?_⟩
 ·have n0:¬S q:=λz=>n (.inl z);have g:q≠x:=λz=>n (.inr (.inl z));have j:q≠O x:=λz=>n (.inr (.inr z));have f:S (G q):=by
   rcases hg with z|z|z
   ·exact z
   ·have y:q=G x:=by rw[← z,w.gg q b]
    have:¬S (G x):=by rw[← y];exact n0
    exact absurd (by rw[y,← s.plain e h1 this,h]) j
   ·have y:q=G (O x):=by rw[← z,w.gg q b]
    have:¬S (G (O x)):=by rw[← y];exact n0
    exact absurd (by rw[y,← s.plain c h2 this,o]) g
  rw[Yc,Yc,if_neg (Qgl lo s c b h2 n0 j (by rw[o];exact g)),if_neg (Qgl lo s e b h1 n0 g (by rw[h];exact j))];exact i.va q b n0 f
 ·rw [Yc,Yc]at a;by_cases m:k=lb (O x)
  ·rw[if_pos m]at a;cases a
  ·rw [if_neg m]at a;by_cases l:k=lb x
   ·rw[if_pos l]at a;cases a
   ·rw[if_neg l]at a;obtain⟨q,b,r,p,rfl⟩:=i.on k d a;refine⟨q,b,?_,.inl p,rfl⟩;rintro(z|rfl|rfl)
    ·exact r z
    ·exact l rfl
    ·exact m rfl
theorem DR.join(w:Wv M G O)(lo:Lab M G lb)(s:St M G O S π)(j:DR M G lb S π kvs)(e:x<M)(ho:O x≠x)(h1:¬S x)(h2:¬S (O x))(h:π x≠O x) :
  (valD (Ze kvs (lb x)) (lb (O x))).getD (miD (lb (O x)))=miD (lb (π (O x))) /\
  DR M G lb (ad S O x) (jn π O x) (putD (putD (Ze (Ze kvs (lb x)) (lb (O x))) (lb (π x)) (miD (lb (π (O x))))) (lb (π (O x))) (miD (lb (π x)))):=by
 have a:=w.olt x e;have C:=s.pp x e h1;have p:=s.pp (O x) a h2;have D:π (O x)≠x:=λz=>h (by have:=p;rw[z]at this;exact this);have J:π x≠π (O x):=λz=>ho (by have:=C;rw[z,p]at this;exact this);have t:=s.pl x e h1;have p2:=s.pl (O x) a h2;have m:=s.ps x e h1;have u:=s.ps (O x) a h2;have I:lb (O x)≠lb x:=Qgl lo s e a h1 h2 ho (λz=>h z.symm);have o:lb (π (O x))≠lb (π x):=Qgl lo s t p2 m u (λz=>J z.symm) (by rw[C];exact D);refine⟨?_,Qso (Qso (Qfg (Qfg j.nd))),λq c n hg=>?_,λk d b=>?_⟩
 ·rw[Yc,if_neg I];exact j.get w lo s a h2
 ·have n0:¬S q:=λz=>n (.inl z);have E:q≠x:=λz=>n (.inr (.inl z));have F:q≠O x:=λz=>n (.inr (.inr z));rw[Qbe,Qbe,Yc,Yc];by_cases f:q=π x
  ·subst f;rw[if_neg (λz=>o z.symm),if_pos rfl];unfold jn;rw[if_pos rfl]
  ·by_cases i:q=π (O x)
   ·subst i;rw[if_pos rfl];unfold jn;rw[if_neg f,if_pos rfl]
   ·rw [if_neg (Qgl lo s p2 c u n0 i (by rw[p];exact F)),if_neg (Qgl lo s t c m n0 f (by rw[C];exact E)),if_neg (Qgl lo s a c h2 n0 F i),if_neg (Qgl lo s e c h1 n0 E f)];have r:S (G q):=by
     rcases hg with z|z|z
     ·exact z
     ·have y:q=G x:=by rw[← z,w.gg q c]
      have:¬S (G x):=by rw[← y];exact n0
      exact absurd (by rw[y,s.plain e h1 this]) f
     ·have y:q=G (O x):=by rw[← z,w.gg q c]
      have:¬S (G (O x)):=by rw[← y];exact n0
      exact absurd (by rw[y,s.plain a h2 this]) i
    rw[j.va q c n0 r];unfold jn;rw[if_neg f,if_neg i]
 ·rw [Qbe,Qbe,Yc,Yc]at b;have g:∀y,y<M->¬S y->ad S O x y->ad S O x (G (π y)):=λy A B H=>by
   by_cases z:S (G (π y))
   ·exact .inl z
   ·have:=s.plain (s.pl y A B) (s.ps y A B) z;rw[s.pp y A B]at this;rw[← this];exact H
  by_cases f:k=lb (π (O x))
  ·refine⟨π (O x),p2,?_,g _ a h2 (.inr (.inr rfl)),f⟩;rintro(z|z|z)
   ·exact u z
   ·exact D z
   ·exact s.pn _ a h2 z
  ·rw [if_neg f]at b;by_cases i:k=lb (π x)
   ·refine⟨π x,t,?_,g _ e h1 (.inr (.inl rfl)),i⟩;rintro(z|z|z)
    ·exact m z
    ·exact s.pn _ e h1 z
    ·exact h z
   ·rw [if_neg i]at b;by_cases l:k=lb (O x)
    ·rw[if_pos l]at b;cases b
    ·rw [if_neg l]at b;by_cases v:k=lb x
     ·rw[if_pos v]at b;cases b
     ·rw[if_neg v]at b;obtain⟨q,c,L,K,rfl⟩:=j.on k d b;refine⟨q,c,?_,.inl K,rfl⟩;rintro(z|rfl|rfl)
      ·exact L z
      ·exact v rfl
      ·exact l rfl
end
def Lk(m e:Nat)(A:Nat->Int)(g W:Nat->Nat)(S:Nat->Prop)(kvs:List (MI×D))(n:Nat):Prop :=
 ∃π,St (4*m+e+2*e) (Gx m e g) (Ox m e W) S π/\DR (4*m+e+2*e) (Gx m e g) (lab m e A) S π kvs/\rc (4*m+e+2*e) (Gx m e g) (Ox m e W) S=n
theorem Quf{M x:Nat}(w:Wv M G O)(d:x<M)(f:Re G O x r)(e:¬ad S O x r):rc M G O (ad S O x)=rc M G O S:=by
 unfold rc;congr 1;refine Sr λp g=>decide_eq_decide.mpr ⟨λ⟨c,b⟩=>⟨c,λq a=>?_⟩,λ⟨c,b⟩=>⟨c,λq a=>.inl (b q a)⟩⟩;have key:¬Re G O p x:=λh=>e (b _ (h.trans f));rcases b q a with z|rfl|rfl
 ·exact z
 ·exact absurd a key
 ·refine absurd ?_ key;have:=a.o
  rwa [w.oo x d]at this
end Ly
variable {P:Lc}
namespace K54
open PySem PySem.Spec L2 PV
open PyProof.Rows (envOfC)
def top(i:Nat):Stmt:=PySem.Challenge.pw_tanglehouse_k54_whole_shifted_and_mirror.main.body.getD i (.Pass ⟨0,0,0,0⟩)
structure Bn(K:Frag)(mg:Str->Option Value):Prop where
 nb_bool:mg "bool" = none
 nb_dict:mg "dict" = none
 nb_enumerate:mg "enumerate" = none
 nb_int:mg "int" = none
 nb_isinstance:mg "isinstance" = none
 nb_len:mg "len" = none
 nb_list:mg "list" = none
 nb_min:mg "min" = none
 nb_range:mg "range" = none
 nb_reversed:mg "reversed" = none
 nb_sorted:mg "sorted" = none
 nb_tuple:mg "tuple" = none
 nb_zip:mg "zip" = none
 c_JOINED:KcN K mg "JOINED" (.tup [.tup [.tup [.int 0,.int 1],.tup [.int 2,.int 3]],.tup [.tup [.int 0,.int 3],.tup [.int 1,.int 2]]])
 c_MOST_CROSSINGS:∃t:Tok,mg "MOST_CROSSINGS" = some (.int 10 t)
 c_RIM:∃t:Tok,mg "RIM" = some (.int (-1) t)
def Qx:GI:=λds k=>∃c n b,ds=[rowD c n,.int b]/\0<b/\b<1073741824/\0<=n/\n<=1000000/\∀a r,0<=r->r<b->k (.int r) (rowD a (n+1))
abbrev Y1:Stmt:=top 33
theorem Z4:FnScope ["_law_row","_law_base","_law_rest","_law_number"] ["_law_row","_law_base"] (Qc Y1):=⟨rfl,rfl,rfl,by decide +kernel,rfl,by decide +kernel,by decide +kernel⟩
def Qb1:Tg:={ own:=λi=>i==0||i==2||i==3,io:=[0] }
noncomputable def Qbu:WS:=(wSeq (Zr 0 (wBin J8 (wBin dIx (wVar 0) (wC (.int 1))) (wC (.int 1))) (wC (.int 1)))
 (wSeq (wIf (wBl (wBin (dCmp λi j=>decide (j<i)) (wBin dIx (wVar 0) (wC (.int 0))) (wBin dPow (wC (.int 10)) (wC (.int 18))))) (wSeq (wSet 2 (wBin dSub (wBin dIx (wVar 0) (wC (.int 0))) (wBin dPow (wC (.int 10)) (wC (.int 18)))))
 (wSeq (Zr 0 (wBin J8 (wBin dPow (wC (.int 10)) (wC (.int 18))) (wBin dDiv (wVar 2) (wVar 1))) (wC (.int 0)))
 (wRet (wBin dMod (wVar 2) (wVar 1))))) Ve)
 (wSeq (wSet 3 (wBin dMod (wBin J8 (wBin J8 (wBin dMul (wBin dIx (wVar 0) (wC (.int 0))) (wC (.int 48271))) (wBin dMul (wBin dMul (wC (.int 7919)) (wBin dIx (wVar 0) (wC (.int 1)))) (wBin dIx (wVar 0) (wC (.int 1))))) (wC (.int 11))) (wC (.int 2147483629))))
 (wSeq (wSet 3 (wBin dMod (wBin J8 (wBin J8 (wBin dMul (wVar 3) (wVar 3)) (wBin dMul (wC (.int 69621)) (wBin dIx (wVar 0) (wC (.int 1))))) (wC (.int 7))) (wC (.int 2147483587))))
 (wRet (wBin dMod (wBin dDiv (wVar 3) (wC (.int 5))) (wVar 1)))))))
theorem Qii{K:Frag}(B:Bn K mg):∀(b:Value)(A:Around)(outer:List Dr)(s:Shared)(H:Hp)(E:XK),Room 0 (A.deeper (envOfC "_law_take" (Qc Y1) s.heap.objs.size f b))->SVs (cxOf CX0 P w K mg base ["_law_row","_law_base","_law_rest","_law_number"] "_law_take" (Qc Y1) f b A outer s H E).nox Qb1 (Qr Y1) Qbu:=λb A outer s H E a=>
  (Qe (Z2 (i:=0) (Q8 a) (Qv Q3 (Jr (J0 (Q8 a)) (Qb 0) Qi) Qi) Qi)
  (Qe (Qb4 (Zt Qyv (Jr (J0 (Q8 a)) (Qb 0) Qi) (Qv Qm0 Qi Qi)) (Qe (Qy (i:=2) (Qv Qgh (Jr (J0 (Q8 a)) (Qb 0) Qi) (Qv Qm0 Qi Qi)) Z4.nd)
  (Qe (Z2 (i:=0) (Q8 a) (Qv Q3 (Qv Qm0 Qi Qi) (Qv Qjn (Qb 2) (Qb 1))) Qi)
  (Ql (Jj (Qv Qd4 (Qb 2) (Qb 1)))))) Zu)
  (Qe (Qy (i:=3) (Qv Qd4 (Qv Q3 (Qv Q3 (Qv Y9 (Jr (J0 (Q8 a)) (Qb 0) Qi) Qi) (Qv Y9 (Qv Y9 Qi (Jr (J0 (Q8 a)) (Qb 0) Qi)) (Jr (J0 (Q8 a)) (Qb 0) Qi))) Qi) Qi) Z4.nd)
  (Qe (Qy (i:=3) (Qv Qd4 (Qv Q3 (Qv Q3 (Qv Y9 (Qb 3) (Qb 3)) (Qv Y9 Qi (Jr (J0 (Q8 a)) (Qb 0) Qi))) Qi) Qi) Z4.nd)
  (Ql (Jj (Qv Qd4 (Qv Qjn (Qb 3) Qi) (Qb 1))))))))
theorem Qge{K:Frag}(F:Fun K "_law_take" "_law_take" Y1 f fd)(B:Bn K mg):FnOk P w K mg base CX0 1 f fd ["_law_row","_law_base"] (spI K 0 Qx):=by
 refine Qh6 (T:=Qb1) F Z4 rfl rfl (λds kk h=>?_) (Qii B) (λds kk h=>?_)
 ·obtain⟨c,n,b,rfl,_⟩:=h;exact⟨rfl,_,rfl,rfl⟩
 ·obtain ⟨c,n,b,rfl,d,e,l,j,k⟩:=h;have i:-18446744073709551616<n+1:=by lia
  have a:n+1<18446744073709551616:=by lia
  simp only[Qbu,wSeq,Zr,wBin,env0,rowD,Ar,Bm,Av,Bc,Bp,Nat.reduceAdd,Bo,Bw,Bi,wC,wIf,wSet,wRet,Qw,Int.reduceLE,Int.reduceNeg,Int.reduceLT,Qxh,Int.reduceToNat,Int.reducePow,Ve,r_bl,look,Bv,Ax,Az,Qk,true_and,Qmb,Nat.lt_add_one,Q15,Nl,Nat.zero_lt_succ,Q16,Xk,Qmf,Qdp,Qdc,Db,Qj,Dm,Qp0,d,Qjd,e,Qje,Zw,D.pure,S5,Dh,Qsj,Qul,Zv,Xh,i,a];split
  ·exact k _ _ (Ow _ (by lia)) (Lb _ d)
  ·have g:-18446744073709551616<(c*48271+7919*(n+1)*(n+1)+11)%2147483629/\(c*48271+7919*(n+1)*(n+1)+11)%2147483629<18446744073709551616:=by lia
   generalize(c*48271+7919*(n+1)*(n+1)+11)%2147483629=x at g;simp only[Int.reduceNeg,g.1,g.2,Xh,Zw,Int.reduceLT,Qjd,Qje,d];exact k _ _ (Ow _ (by lia)) (Lb _ d)
def arcF(r l p:Int):D->D
 | .int i=>.int ((r+i*l)%p)
 |d=>d
noncomputable def Vr:GI:=λds k=>∃(c n:Int)(q:Nat),ds=[rowD c n,.int q]/\q<=100/\0<=n/\n<=999990/\∀(a:Int)(xs:List Int),xs.length=q->xs.Nodup->(∀x∈xs,0<=x/\x<1000000000)->k (.lst (xs.map .int)) (rowD a (n+3))
abbrev Yk:Stmt:=top 34
theorem Z6:FnScope ["_law_row","_law_many","_law_prime","_law_leap","_law_offset"] ["_law_row","_law_many"] (Qc Yk):=⟨rfl,rfl,rfl,by decide +kernel,rfl,by decide +kernel,by decide +kernel⟩
def Qb3:Tg:={ own:=λi=>i==0||i==2||i==3||i==4,io:=[0] }
noncomputable def Qbw:WS:=(wSeq (wSet 2 (wBin dIx (wLst (Qd (wC (.int 101)) (Qd (wC (.int 10007)) (Qd (wC (.int 999999937)) wNil)))) (Qs 0 Qx (Jd 0 (Qd (wC (.int 3)) wNil)))))
 (wSeq (wSet 3 (wBin J8 (wC (.int 1)) (Qs 0 Qx (Jd 0 (Qd (wBin dSub (wVar 2) (wC (.int 1))) wNil)))))
 (wSeq (wSet 4 (Qs 0 Qx (Jd 0 (Qd (wVar 2) wNil))))
 (wRet (Qeh (Qhl (Qd (wVar 1) wNil)) wAll (wBin dMod (wBin J8 (wVar 2) (wBin dMul (wVar 0) (wVar 1))) (wVar 3)) [3,4,2])))))
theorem Qik{K:Frag}(B:Bn K mg)(c:Cal P w K mg base "_law_take" 1 ["_law_row","_law_base"] (spI K 0 Qx)):∀(a:Value)(A:Around)(outer:List Dr)(s:Shared)(H:Hp)(E:XK),Room 1 (A.deeper (envOfC "_law_arcs" (Qc Yk) s.heap.objs.size f a))->SVs (cxOf CX0 P w K mg base ["_law_row","_law_many","_law_prime","_law_leap","_law_offset"] "_law_arcs" (Qc Yk) f a A outer s H E).nox Qb3 (Qr Yk) Qbw:=λa A outer s H E b=>
  (Qe (Qy (i:=2) (Jr (J0 (Q8 b)) (Xx (Qa Qi (Qa Qi (Qa Qi Qf)))) (Qq c (b.mono (by decide)) (Q5 (i:=0) (Qa Qi Qf)))) Z6.nd)
  (Qe (Qy (i:=3) (Qv Q3 Qi (Qq c (b.mono (by decide)) (Q5 (i:=0) (Qa (Qv Qgh (Qb 2) Qi) Qf)))) Z6.nd)
  (Qe (Qy (i:=4) (Qq c (b.mono (by decide)) (Q5 (i:=0) (Qa (Qb 2) Qf))) Z6.nd)
  (Ql (Jj (Xz (Qam [3,4,2] (Uk B.nb_range (Qa (Qb 1) Qf)) (λ_ _ _ _ _=>Qc5) (λ_ _ _ _ _=>(Qv Qd4 (Qv Q3 (Qb 2) (Qv Y9 (Qb 0) (Qb 1))) (Qb 3)))) (Vc (Qc Yk) ["_law_row","_law_many","_law_prime","_law_leap","_law_offset"] (by decide +kernel))))))))
theorem Qgg{K:Frag}(F:Fun K "_law_arcs" "_law_arcs" Yk f fd)(B:Bn K mg)(C:Cal P w K mg base "_law_take" 1 ["_law_row","_law_base"] (spI K 0 Qx)):FnOk P w K mg base CX0 2 f fd ["_law_row","_law_many"] (spI K 0 Vr):=by
 refine Qh6 (T:=Qb3) F Z6 rfl rfl (λds kk h=>?_) (Qik B C) (λds kk h=>?_)
 ·obtain⟨c,n,q,rfl,_⟩:=h;exact⟨rfl,_,rfl,rfl⟩
 ·obtain ⟨c,n,q,rfl,M,H,t,k⟩:=h;simp only[Qbw,wSeq,wSet,wBin,wLst,Qd,wC,wNil,Av,Bc,Bp,Nat.reduceAdd,Qs,Jd,env0,rowD,Ar,Bm,Bo,Bw,Bi,look,Bv,Qj,D.pure,B5,Ax,Az,Dm,wRet,Qf6,Qf5,Qw,Qk,Qcc,Int.reducePow,Int.reduceNeg,Fh,true_and,Xk];refine⟨by decide,c,n,3,rfl,by decide,by decide,H,by lia,λI y h1 h2=>?_⟩;obtain⟨p,l,s⟩:∃p,L2.atI [D.int 101,D.int 10007,D.int 999999937] y=some (.int p)/\isP p:=by
   rcases Q1o (a:=D.int 101) (b:=.int 10007) (c:=.int 999999937) h1 h2 with e|e|e
   ·exact⟨_,e,.inl rfl⟩
   ·exact⟨_,e,.inr (.inl rfl)⟩
   ·exact⟨_,e,.inr (.inr rfl)⟩
  have u:100<p/\p<1073741824:=by rcases s with z|z|z<;>lia
  simp only[rowD,Xk,Qj,D.pure,B5,Int.reduceNeg,true_and,Qmf,l,Qk,Qp0];refine⟨I,n+1,p-1,rfl,by lia,by lia,by lia,by lia,λA j J h4=>?_⟩;simp only[rowD,Xk,Qj,D.pure,B5,Int.reduceNeg,true_and,Zw];refine⟨A,n+1+1,p,rfl,by lia,by lia,by lia,by lia,λG g L h6=>?_⟩;simp only[Int.reduceNeg,rowD];refine⟨by lia,by lia,Uu (arcF g (1+j) p) (by rw[Yl];exact Ds (show _<=1000 by lia) (by decide)) (λd hd Q' E=>?_) ?_⟩
  ·obtain⟨i,hi,rfl⟩:=Qjq hd;have o:-18446744073709551616<0+(i:Int):=by lia
   have r:0+(i:Int)<18446744073709551616:=by lia
   have m:0<p:=by lia
   simp only[wBin,blkE,Ar,look,Bm,Qw,Qk,Int.reduceNeg,o,r,Xh,Zw,m,Qjd];exact E
  ·simp only[look,Qk,Xk,Qj,D.pure,B5,true_and];have e:(rngD 0 q).map (arcF g (1+j) p)=((Aq q).map λ(i:Nat)=>(g+(i:Int)*(1+j))%p).map D.int:=by
    simp[rngD,arcF]
   rw [e];have:=k G ((Aq q).map λ(i:Nat)=>(g+(i:Int)*(1+j))%p) (by simp) (Qlk s (by lia) (by lia) (by lia)) (λx v=>by
    obtain⟨i,_,rfl⟩:=As.mp v;refine⟨Ow _ (by lia),Int.lt_of_lt_of_le (Lb _ (by lia)) (by rcases s with z|z|z<;>lia)⟩)
   simpa[rowD,Int.add_assoc]using this
noncomputable def Uq:GI:=λds k=>∃(c n:Int)(m e:Nat)(b:Int),ds=[rowD c n,.int m,.int e,.int b]/\m<=40/\e<=12/\e%2=0/\0<=n/\n<=900000 /\
 ∀(d a:Int)(A:Nat->Int)(g:Nat->Nat)(r:Int),M.Tw (4*m+e) A g->(∀i,0<=A i/\A i<1000000000)->(r=0\/r=1\/r=2\/r=b)->n<=a->a<=n+1000->k (webD m e A r) (rowD d a)
abbrev Y0:Stmt:=top 35
theorem Yx:FnScope ["_law_row","_law_many","_law_ends","_law_most","_law_arcs_here","_law_left","_law_near","_law_arc","_law_crossings"] ["_law_row","_law_many","_law_ends","_law_most"] (Qc Y0):=⟨rfl,rfl,rfl,by decide +kernel,rfl,by decide +kernel,by decide +kernel⟩
def Qdx:Tg:={ own:=λi=>i==0||i==4||i==5||i==6||i==7||i==8,io:=[0] }
noncomputable def Qdt:WS:=(wSeq (wSet 4 (wBin dMul (wLst (Qd (wC (.int 0)) wNil)) (wBin J8 (wBin dMul (wC (.int 4)) (wVar 1)) (wVar 2))))
 (wSeq (wSet 5 (Qp Qkc (Qd (wBin J8 (wBin dMul (wC (.int 4)) (wVar 1)) (wVar 2)) wNil)))
 (wSeq (wSet 6 (wBin dIx (wLst (Qd (wC (.int 99)) (Qd (wC (.int 1)) (Qd (wC (.int 3)) (Qd (wC (.int 99)) wNil))))) (Qs 0 Qx (Jd 0 (Qd (wC (.int 4)) wNil)))))
 (wSeq (wFor (V6 (Qs 0 Vr (Jd 0 (Qd (wBin J8 (wBin dMul (wC (.int 2)) (wVar 1)) (wBin dDiv (wVar 2) (wC (.int 2)))) wNil)))) (gN 7) (wSeq (Zr 4 (wVar 7) (wMt 5 "list" Qj4 (Qd (wC (.int 0)) wNil)))
 (Zr 4 (wVar 7) (wMt 5 "list" Qj4 (Qd (Qs 0 Qx (Jd 0 (Qd (Qp Qwh (Qd (wVar 6) (Qd (Qp dLen (Qd (wVar 5) wNil)) wNil))) wNil))) wNil)))))
 (wSeq (wSet 8 (Qeh (Qhl (Qd (wVar 1) wNil)) wAll (Qp Vb (Qd (wSlT (wVar 1) (Qde (wBin dMul (wC (.int 4)) (wVar 0))) (Qde (wBin J8 (wBin dMul (wC (.int 4)) (wVar 0)) (wC (.int 4))))) wNil)) [4]))
 (wRet (wTup (Qd (Qp Vb (Qd (wVar 8) wNil)) (Qd (Qp Vb (Qd (wSlT (wVar 4) (Qde (wBin dMul (wC (.int 4)) (wVar 1))) Qbx) wNil)) (Qd (wBin dIx (wLst (Qd (wC (.int 0)) (Qd (wC (.int 1)) (Qd (wC (.int 2)) (Qd (Q6 (wVar 3)) wNil))))) (Qs 0 Qx (Jd 0 (Qd (wC (.int 4)) wNil)))) wNil))))))))))
theorem Qlj{K:Frag}(B:Bn K mg)(c:Cal P w K mg base "_law_take" 1 ["_law_row","_law_base"] (spI K 0 Qx))(d:Cal P w K mg base "_law_arcs" 2 ["_law_row","_law_many"] (spI K 0 Vr)):∀(b:Value)(A:Around)(outer:List Dr)(s:Shared)(H:Hp)(E:XK),Room 2 (A.deeper (envOfC "_law_web" (Qc Y0) s.heap.objs.size f b))->SVs (cxOf CX0 P w K mg base ["_law_row","_law_many","_law_ends","_law_most","_law_arcs_here","_law_left","_law_near","_law_arc","_law_crossings"] "_law_web" (Qc Y0) f b A outer s H E).nox Qdx (Qr Y0) Qdt:=λb A outer s H E a=>
  (Qe (Qy (i:=4) (Qv Y9 (Xx (Qa Qi Qf)) (Qv Q3 (Qv Y9 Qi (Qb 1)) (Qb 2))) Yx.nd)
  (Qe (Qy (i:=5) (Qa4 B.nb_range B.nb_list (Qa (Qv Q3 (Qv Y9 Qi (Qb 1)) (Qb 2)) Qf)) Yx.nd)
  (Qe (Qy (i:=6) (Jr (J0 (Q8 a)) (Xx (Qa Qi (Qa Qi (Qa Qi (Qa Qi Qf))))) (Qq c (a.mono (by decide)) (Q5 (i:=0) (Qa Qi Qf)))) Yx.nd)
  (Qe (Ys Dv (V5 (Qq d (a.mono (by decide)) (Q5 (i:=0) (Qa (Qv Q3 (Qv Y9 Qi (Qb 1)) (Qv Qjn (Qb 2) Qi)) Qf)))) (Q0 (i:=7) Yx.nd) (Qe (Z2 (i:=4) (Q8 a) (Qb 7) (Qfa (i:=5) Qjr T0 Pg Ph (Qa Qi Qf)))
  (Ql (Z2 (i:=4) (Q8 a) (Qb 7) (Qfa (i:=5) Qjr T0 Pg Ph (Qa (Qq c (a.mono (by decide)) (Q5 (i:=0) (Qa (Jm (Qwk rfl) B.nb_min Q0e (Qa (Qb 6) (Qa (Jm Qed B.nb_len Qee (Qa (Qb 5) Qf)) Qf))) Qf))) Qf))))))
  (Qe (Qpr (j:=8) (Qam [4] (Uk B.nb_range (Qa (Qb 1) Qf)) (λ_ _ _ _ _=>Qc5) (λ_ _ _ _ _=>(Jg Y8 B.nb_tuple J9 (Qa (Qcx (Qb 1) (Ug (Qv Y9 Qi (Qb 0))) (Ug (Qv Q3 (Qv Y9 Qi (Qb 0)) Qi))) Qf)))) (Vc (Qc Y0) ["_law_row","_law_many","_law_ends","_law_most","_law_arcs_here","_law_left","_law_near","_law_arc","_law_crossings"] (by decide +kernel)) Yx.nd)
  (Ql (Jj (Vu (Qa (Jg Y8 B.nb_tuple J9 (Qa (Qb 8) Qf)) (Qa (Jg Y8 B.nb_tuple J9 (Qa (Qcx (Qb 4) (Ug (Qv Y9 Qi (Qb 1))) Qah) Qf)) (Qa (Jr (J0 (Q8 a)) (Xx (Qa Qi (Qa Qi (Qa Qi (Qa (Q4 (Qb 3)) Qf))))) (Qq c (a.mono (by decide)) (Q5 (i:=0) (Qa Qi Qf)))) Qf)))))))))))
theorem Qhv{K:Frag}(F:Fun K "_law_web" "_law_web" Y0 f fd)(B:Bn K mg)(C1:Cal P w K mg base "_law_take" 1 ["_law_row","_law_base"] (spI K 0 Qx))(C2:Cal P w K mg base "_law_arcs" 2 ["_law_row","_law_many"] (spI K 0 Vr)) :
  FnOk P w K mg base CX0 3 f fd ["_law_row","_law_many","_law_ends","_law_most"] (spI K 0 Uq):=by
 refine Qh6 (T:=Qdx) F Yx rfl rfl (λds kk h=>?_) (Qlj B C1 C2) (λds kk h=>?_)
 ·obtain⟨c,n,m,e,C,rfl,_⟩:=h;exact⟨rfl,_,rfl,rfl⟩
 ·obtain ⟨c,n,m,e,C,rfl,hm,he,aa,hn,af,k⟩:=h;simp only[Qdt,wSeq,wSet,wBin,wLst,Qd,wC,wNil,Av,Bc,Bp,env0,rowD,Ar,Bm,Nat.reduceAdd,Bo,Bw,Bi,Qp,Qs,Jd,Qj,D.pure,B5,Vf,Xg,Dm,Qw,true_and,look,Az,Ax,Bv,Qk,Int.reduceLT,Qje,Int.reduceNeg,Xh,Zw,Xk,Qmc,Qxj,Int.reducePow];have hN:(4*(m:Int)+(e:Int)).toNat=4*m+e:=by lia
  have e1:(Bo (4*(m:Int)+(e:Int)).toNat [D.int 0]).flatten=(Bo (4*m+e) (0:Int)).map D.int:=by rw[hN];simp
  have e2:rngD 0 (4*(m:Int)+(e:Int)).toNat=(Aq (4*m+e)).map λ(i:Nat)=>D.int (i:Int):=by rw[hN];simp[rngD]
  have big:∀n:Nat,n<=1000->n<sizeLine:=λn h=>Ds h (by decide);rw[e1,e2];refine⟨by decide,by lia,by lia,by rw[hN];exact Fo (big _ (by lia)),by lia,by lia,by decide,c,n,4,rfl,by decide,by decide,hn,by lia,λc0 r0 z1 z2=>?_⟩;obtain⟨l,z,ah,Z⟩:∃p,L2.atI [D.int 99,D.int 1,D.int 3,D.int 99] r0=some (.int p)/\1<=p/\p<=99:=by
   rcases Qx6 (a:=D.int 99) (b:=.int 1) (c:=.int 3) (d:=.int 99) z1 z2 with q|q|q|q
   ·exact⟨_,q,by decide,by decide⟩
   ·exact⟨_,q,by decide,by decide⟩
   ·exact⟨_,q,by decide,by decide⟩
   ·exact⟨_,q,by decide,by decide⟩
  simp only[rowD,Xk,Qj,D.pure,B5,true_and,Qmf,z,Qk];refine⟨c0,n+1,2*m+e/2,by simp[rowD],by lia,by lia,by lia,λc1 xs hl nd H=>?_⟩;simp only[rowD,Qcb];refine⟨Xl,λt ρ=>∃(I u:Int)(L:List Nat)(Bs:List Int)(ps:List (Nat×Nat)) (o:Option D),ρ=[some (rowD I u),some (.int m),some (.int e),some (.int C),some (.lst (Bs.map D.int)),some (.lst (L.map λ(i:Nat)=>D.int (i:Int))),some (.int l),o,none]/\Pr (4*m+e) xs t L Bs ps/\L.length=4*m+e-2*t/\u=n+4+t/\t<=xs.length/\∀b∈Bs,0<=b/\b<1000000000,
   ⟨c1,n+1+3,Aq (4*m+e),Bo (4*m+e) 0,[],none,rfl,Pr.start _ _,by simp,by simp;lia,Dq _,λb y=>by rw[(List.mem_replicate.mp y).2];decide⟩,?_,?_⟩
  ·rintro t d ρ hd ⟨I,u,L,Bs,ps,o,rfl,v,J,A,ht,O⟩;obtain⟨x,M,rfl⟩:∃x,xs[t]? = some x/\d=.int x:=by
    rw[Bh]at hd;cases q:xs[t]? with
    |none=>rw[q]at hd;cases hd
    |some x=>rw[q]at hd;exact⟨x,rfl,(B3 hd).symm⟩
   have ac:=(Au.mp M).1;cases L with
   |nil=>simp at J;lia
   | cons i L=>
    simp only[Av]at J;have hi:=v.lt (An (a:=i));have W:=v.bl;have hix:ixN Bs.length (i:Int)=some i:=Uj (by lia);simp only[gN,wSeq,Zr,rowD,Ar,Az,Ax,wMt,Qd,wC,wNil,Qs,Jd,Qp,Qj,Dm,Bi,Qw,look,Bv,Qxg,A0n,Qk,Xk,D.pure,B5,true_and,Qmd,Int.reducePow,Int.reduceNeg,Int.reduceLE,Int.reduceLT,Av,Ap,Nat.zero_lt_succ,Quc,Qxl,Q1c,Db,Oi,Qmb,hix];have ag:0<L.length:=by lia
    obtain⟨E,S,ae,R⟩:∃E:Int,(if (L.length:Int)<l then (L.length:Int)else l)=E/\0<E/\E<=L.length:=⟨_,rfl,by split<;>lia,by split<;>lia⟩
    rw[S];refine⟨I,u,E,rfl,by lia,by lia,by lia,by lia,λc2 r h1 h2=>?_⟩;obtain⟨s,rfl⟩:=Ni h1;have G:s<L.length:=by lia
    have hj:=v.lt (Am i (Rf G));have N:seqIndex? (s:Int) L.length=some s:=Qb8 G;have Q:ixN Bs.length ((L[s]:Nat):Int)=some L[s]:=Uj (by lia);simp only[rowD,Qmd,Int.reducePow,Int.reduceNeg,Ap,N,Bh,Qk,Bu G,Iz,D.pure,Qmb,Nl,Q,true_and];refine⟨by lia,by lia,c2,u+1,L.eraseIdx s,(Bs.set i x).set L[s] x,ps++[(i,L[s])],some (.int x),?_,v.step M G,?_,by lia,by lia,λb y=>?_⟩
    ·simp[rowD,List.map_set,Qgj]
    ·rw[List.length_eraseIdx_of_lt G];lia
    ·rcases Lz y with y|rfl
     ·rcases Lz y with y|rfl
      ·exact O b y
      ·exact H _ (Bk M)
     ·exact H _ (Bk M)
  ·rintro ρ ⟨I,u,L,Bs,ps,o,rfl,v,J,A,ht,O⟩;simp only[Ap]at v J A ht;have V:L=[]:=Mg.mp (by lia);subst V;obtain⟨g,tw⟩:=v.tw nd;have W:=v.bl;simp only[wSeq,wSet,rowD,wRet,wTup,Qd,Qp,wNil,wSlT,Qbx,wBin,wLst,wC,Q6,Av,Bc,Bp,Nat.reduceAdd,Qs,Jd,Qj,D.pure,B5,Bi,true_and,Qw,Qf3,Qf6,Qf5,look,Qk,Qcc,Int.reducePow,Int.reduceNeg,Fh];refine⟨by lia,by lia,Uu (Qos Bs) (by rw[Yl];exact big _ (by lia)) (λd hd Q' Y=>?_) ?_⟩
   ·obtain⟨i,hi,rfl⟩:=Qjq hd;have R:-18446744073709551616<0+(i:Int):=by lia
    have ab:0+(i:Int)<18446744073709551616:=by lia
    have q1:4*(0+(i:Int))=((4*i:Nat):Int):=by lia
    have q2:((4*i:Nat):Int)+4=((4*i+4:Nat):Int):=by lia
    simp only[Qp,Qd,wSlT,blkE,Bm,Ar,look,wNil,Qf3,wBin,wC,Qw,Qk,Int.reduceNeg,Int.reduceLT,Xh,Zw,Qce,Qsn,Xf];rw[q1,q2,Qwj (by lia) (by rw[Ap];lia),show 4*i+4-4*i=4 by lia,Ut (by lia)];refine⟨Xl,Qo λ_ _=>rfl,?_⟩;rw[Qec]at Y;exact Y
   ·simp only[Az,Ax,look,Bv,Qk,Xk,Qj,D.pure,B5,true_and,Int.reduceNeg,Int.reduceLT,Xh,Qce,Qsn,Xf];rw[Qlb,show(4*(m:Int))=((4*m:Nat):Int) by lia,Qkd (by rw[Ap];lia)];have e3:(Bs.map D.int).drop (4*m)=(Aq e).map λj=>.int (Bs.getD (4*m+j) 0):=by
     rw[← Ut (by lia),Du (by simp;lia)]
    rw [e3];refine⟨Qo λ_ _=>by simp only[D.pure];exact Qo λ_ _=>rfl,Xl,Qo λ_ _=>rfl,by decide,I,u,4,rfl,by decide,by decide,by lia,by lia,λc4 r4 h1 h2=>?_⟩;obtain⟨p,X,U⟩:∃p,L2.atI [D.int 0,D.int 1,D.int 2,D.int C] r4=some (.int p)/\(p=0\/p=1\/p=2\/p=C):=by
     rcases Qx6 (a:=D.int 0) (b:=.int 1) (c:=.int 2) (d:=.int C) h1 h2 with q|q|q|q
     ·exact⟨_,q,.inl rfl⟩
     ·exact⟨_,q,.inr (.inl rfl)⟩
     ·exact⟨_,q,.inr (.inr (.inl rfl))⟩
     ·exact⟨_,q,.inr (.inr (.inr rfl))⟩
    simp only[rowD,Xk,Qj,D.pure,B5,true_and,Qmf,X,Qk];exact⟨by decide,k c4 (u+1) (λi=>Bs.getD i 0) g p tw (λi=>Qq3 (by decide) O i) U (by lia) (by lia)⟩
end K54
variable {k:Nat}
namespace K54
open PySem PySem.Spec L2 PV Ly
open PyProof.Rows (envOfC)
noncomputable def Qgt:GI:=λds k=>∃(m e:Nat)(A:Nat->Int)(g W:Nat->Nat)(S:Nat->Prop)(kvs:List (Mx.MI×D)) (n x:Nat),ds=[.dmx kvs,miD (lab m e A x),miD (lab m e A (Ox m e W x))]/\M.Tw (4*m+e) A g/\Lk m e A g W S kvs n/\kvs.length<=1000/\x<4*m+e+2*e/\¬S x/\¬S (Ox m e W x)/\Ox m e W x≠x /\
 ∀(c:Nat)(a:List (Mx.MI×D)),Lk m e A g W (ad S (Ox m e W) x) a (n+c)->a.length<=kvs.length+2->k (.int c) (.dmx a)
abbrev Qkv:Stmt:=top 7
theorem Ql1:FnScope ["partners","one","other","start","finish"] ["partners","one","other"] (Qc Qkv):=⟨rfl,rfl,rfl,by decide +kernel,rfl,by decide +kernel,by decide +kernel⟩
def Qw0:Tg:={ own:=λi=>i==0||i==3||i==4,io:=[0] }
noncomputable def Qwu:WS:=(wSeq (wIf (wBl (wBin dEq (wMt 0 "dict" Qq4 (Qd (Q6 (wVar 1)) (Qd (Q6 (wVar 1)) wNil))) (wVar 2))) (wSeq (Gk (wMt 0 "dict" Qk7 (Qd (Q6 (wVar 1)) (Qd (wC .non) wNil))))
 (wSeq (Gk (wMt 0 "dict" Qk7 (Qd (Q6 (wVar 2)) (Qd (wC .non) wNil))))
 (wRet (wC (.int 1))))) Ve)
 (wSeq (wSet 3 (wMt 0 "dict" Qk7 (Qd (Q6 (wVar 1)) (Qd (Q6 (wVar 1)) wNil))))
 (wSeq (wSet 4 (wMt 0 "dict" Qk7 (Qd (Q6 (wVar 2)) (Qd (Q6 (wVar 2)) wNil))))
 (wSeq (G5 0 (wVar 4) (wVar 3))
 (wSeq (G5 0 (wVar 3) (wVar 4))
 (wRet (wC (.int 0))))))))
theorem Q2j{K:Frag}(B:Bn K mg):∀(b:Value)(A:Around)(outer:List Dr)(s:Shared)(H:Hp)(E:XK),Room 0 (A.deeper (envOfC "lay" (Qc Qkv) s.heap.objs.size f b))->SVs (cxOf CX0 P w K mg base ["partners","one","other","start","finish"] "lay" (Qc Qkv) f b A outer s H E).nox Qw0 (Qr Qkv) Qwu:=λb A outer s H E a=>
  (Qe (Qb4 (Zt (Qvi a.units) (Qfa (i:=0) (Qm9 (hu5 a)) D1 Nv Iw (Qa (Q4 (Qb 1)) (Qa (Q4 (Qb 1)) Qf))) (Qb 2)) (Qe (Gn (Qfa (i:=0) (Qe0 (hu5 a)) D1 Rq Sx (Qa (Q4 (Qb 1)) (Qa Qtb Qf))))
  (Qe (Gn (Qfa (i:=0) (Qe0 (hu5 a)) D1 Rq Sx (Qa (Q4 (Qb 2)) (Qa Qtb Qf))))
  (Ql (Jj Qi)))) Zu)
  (Qe (Qy (i:=3) (Qfa (i:=0) (Qe0 (hu5 a)) D1 Rq Sx (Qa (Q4 (Qb 1)) (Qa (Q4 (Qb 1)) Qf))) Ql1.nd)
  (Qe (Qy (i:=4) (Qfa (i:=0) (Qe0 (hu5 a)) D1 Rq Sx (Qa (Q4 (Qb 2)) (Qa (Q4 (Qb 2)) Qf))) Ql1.nd)
  (Qe (Gm (i:=0) (hu5 a) (Qb 4) (Qb 3))
  (Qe (Gm (i:=0) (hu5 a) (Qb 3) (Qb 4))
  (Ql (Jj Qi)))))))
theorem Qyr{K:Frag}(F:Fun K "lay" "lay" Qkv f fd)(B:Bn K mg):FnOk P w K mg base CX0 1 f fd ["partners","one","other"] (spI K 0 Qgt):=by
 refine Qh6 (T:=Qw0) F Ql1 rfl rfl (λds kk h=>?_) (Q2j B) (λds kk h=>?_)
 ·obtain⟨m,e,A,g,W,S,kvs,n,x,rfl,_⟩:=h;exact⟨rfl,_,rfl,rfl⟩
 ·obtain ⟨m,e,A,g,W,S,kvs,n,x,rfl,r,⟨π,st,l,i⟩,u,a,h1,h2,ho,k⟩:=h;have wv:=wv (W:=W) r;have lo:=Qy9 r;have c:=wv.olt x a;have d:lab m e A (π x)=lab m e A (Ox m e W x)->π x=Ox m e W x:=λj=>by
   rcases lo.only _ _ c (st.pl x a h1) j with z|z
   ·exact z
   ·have q:=st.ps x a h1;rw[z]at q;have t:=st.plain c h2 q;have p:=st.pp x a h1;rw[z,← t,st.pp _ c h2]at p;exact absurd p ho
  simp only[Qwu,wSeq,wIf,env0,Ar,Bm,Av,Bc,Bp,Nat.reduceAdd,Bo,Bw,Bi,Gk,wMt,Qd,Q6,wC,wNil,wRet,Qw,Ve,wSet,G5,r_bl,wBin,look,Ue,Ax,Qk,Jw,true_and,Az,Bv];refine Qj3 (Jw _) ?_;rw[l.get wv lo st a h1];refine Q2e (λj=>?_) (λj=>?_)
  ·have b:=d j;simp only[Ue,true_and,Zv,reduceIte];refine Qjj rfl ?_;simp only[Ue,true_and];refine Qjj rfl ?_;simp only[Je,true_and];exact k 1 _ ⟨π,st.ring wv a h1 h2 b,l.ring wv lo st a h1 h2 b,by rw[Qug wv st a h1 b,i]⟩ (Dg Qbo (Dg Qbo (by lia)))
  ·have b:π x≠Ox m e W x:=λz=>j (by rw[z]);obtain⟨o,s⟩:=l.join wv lo st a ho h1 h2 b;simp only[Ue,true_and,Zv,Bq,reduceIte];refine Qjj (Jw _) ?_;simp only[Ue,true_and];refine Qjj (Jw _) ?_;rw[l.get wv lo st a h1,o];simp only[Jw,true_and,U0,Vg,Je,Qk];have C:(Ze (Ze kvs (lab m e A x)) (lab m e A (Ox m e W x))).length<=kvs.length:=Dg Qbo Qbo;have y:=Qcq (Ze (Ze kvs (lab m e A x)) (lab m e A (Ox m e W x))) (lab m e A (π x)) (miD (lab m e A (π (Ox m e W x))));have v:=Qcq (putD (Ze (Ze kvs (lab m e A x)) (lab m e A (Ox m e W x))) (lab m e A (π x)) (miD (lab m e A (π (Ox m e W x))))) (lab m e A (π (Ox m e W x))) (miD (lab m e A (π x)));refine⟨Xd (by lia),Ds (show _<=2000 by lia) (by decide),?_⟩;exact k 0 _ ⟨_,st.join wv a ho h1 h2 b,s,by rw[Qui wv st a h1 b,i];rfl⟩ (by lia)
def Sc(m e:Nat)(W:Nat->Nat)(k:Nat):Nat->Nat->Prop
 |0=>λq=>q<4*k
 |1=>ad (λq=>q<4*k) (Ox m e W) (4*k)
 |_=>ad (ad (λq=>q<4*k) (Ox m e W) (4*k)) (Ox m e W) (4*k+(if W k=0 then 2 else 1))
theorem Q0m{W:Nat->Nat}(c:k<m)(hw:W k<=1):Sc m e W k 2=λq=>q<4*(k+1):=by
 funext q;have b:=Yi (e:=e) (W:=W) (j:=0) c (by decide);show ad (ad (λq=>q<4*k) (Ox m e W) (4*k)) (Ox m e W) (4*k+(if W k=0 then 2 else 1)) q=_;rw[A0m]at b;by_cases h:W k=0
 ·have a:=Yi (e:=e) (W:=W) (j:=2) c (by decide);rw[h]at b a;simp only[wy]at b a;rw[if_pos h];unfold ad;rw[b,a];apply propext;constructor<;>intro z<;>simp at *<;>lia
 ·have a:=Yi (e:=e) (W:=W) (j:=1) c (by decide);rw[show W k=1 by lia]at b a;simp only[wy]at b a;rw[if_neg h];unfold ad;rw[b,a];apply propext;constructor<;>intro z<;>simp at *<;>lia
def crD(A:Nat->Int)(k:Nat):D:=.tup ((Aq 4).map λj=>.int (A (4*k+j)))
theorem Qti:crD A k=.tup [.int (A (4*k)),.int (A (4*k+1)),.int (A (4*k+2)),.int (A (4*k+3))]:=rfl
noncomputable def J6:GI:=λds k=>∃(m e:Nat)(A:Nat->Int)(g W:Nat->Nat)(kvs:List (Mx.MI×D)) (n i:Nat),ds=[.dmx kvs,crD A i,.int (W i)]/\M.Tw (4*m+e) A g/\i<m/\W i<=1/\Lk m e A g W (λq=>q<4*i) kvs n/\kvs.length<=900 /\
 ∀(c:Nat)(a:List (Mx.MI×D)),Lk m e A g W (λq=>q<4*(i+1)) a (n+c)->a.length<=kvs.length+4->k (.int c) (.dmx a)
abbrev Jo:Stmt:=top 20
theorem Yg:FnScope ["partners","crossing","way","rings","pair"] ["partners","crossing","way"] (Qc Jo):=⟨rfl,rfl,rfl,by decide +kernel,rfl,by decide +kernel,by decide +kernel⟩
def V9:Tg:={ own:=λi=>i==0||i==3||i==4,io:=[0] }
noncomputable def Zq:WS:=(wSeq (wSet 3 (wC (.int 0)))
 (wSeq (wFor (V6 (wBin dIxC (wC (.kc (.tup [.tup [.tup [.int 0,.int 1],.tup [.int 2,.int 3]],.tup [.tup [.int 0,.int 3],.tup [.int 1,.int 2]]]))) (wVar 2))) (gN 4) (wSet 3 (wBin J8 (Q6 (wVar 3)) (Qs 0 Qgt (Jd 0 (Qd (wBin dIx (wVar 1) (wBin dIxC (wVar 4) (wC (.int 0)))) (Qd (wBin dIx (wVar 1) (wBin dIxC (wVar 4) (wC (.int 1)))) wNil)))))))
 (wRet (Q6 (wVar 3)))))
theorem Qc9{K:Frag}(B:Bn K mg)(c:Cal P w K mg base "lay" 1 ["partners","one","other"] (spI K 0 Qgt)):∀(a:Value)(A:Around)(outer:List Dr)(s:Shared)(H:Hp)(E:XK),Room 1 (A.deeper (envOfC "open_crossing" (Qc Jo) s.heap.objs.size f a))->SVs (cxOf CX0 P w K mg base ["partners","crossing","way","rings","pair"] "open_crossing" (Qc Jo) f a A outer s H E).nox V9 (Qr Jo) Zq:=λa A outer s H E b=>
  (Qe (Qy (i:=3) Qi Yg.nd)
  (Qe (Ys Dv (V5 (Jr (Qln (Q8 b)) (Q2c B.c_JOINED) (Qb 2))) (Q0 (i:=4) Yg.nd) (Ql (Qy (i:=3) (Qv Q3 (Q4 (Qb 3)) (Qq c (b.mono (by decide)) (Q5 (i:=0) (Qa (Jr (J0 (Q8 b)) (Qb 1) (Jr (Qln (Q8 b)) (Qb 4) Qi)) (Qa (Jr (J0 (Q8 b)) (Qb 1) (Jr (Qln (Q8 b)) (Qb 4) Qi)) Qf))))) Yg.nd)))
  (Ql (Jj (Q4 (Qb 3))))))
theorem Qa7{K:Frag}(F:Fun K "open_crossing" "open_crossing" Jo f fd)(B:Bn K mg)(H:Cal P w K mg base "lay" 1 ["partners","one","other"] (spI K 0 Qgt)):FnOk P w K mg base CX0 2 f fd ["partners","crossing","way"] (spI K 0 J6):=by
 refine Qh6 (T:=V9) F Yg rfl rfl (λds kk h=>?_) (Qc9 B H) (λds kk h=>?_)
 ·obtain⟨m,e,A,g,W,kvs,n,i,rfl,_⟩:=h;exact⟨rfl,_,rfl,rfl⟩
 ·obtain ⟨m,e,A,g,W,kvs,n,i,rfl,z,hi,hw,E,I,k⟩:=h;have p:=Yi (e:=e) (W:=W) (j:=0) hi (by decide);have y:=Yi (e:=e) (W:=W) (j:=1) hi (by decide);have s:=Yi (e:=e) (W:=W) (j:=2) hi (by decide);rw[A0m]at p;have two:=Q0m (e:=e) hi hw;have v:W i=0\/W i=1:=by lia
  rcases v with h|h
  ·have C:(W i:Int)=0:=by lia
   rw[h]at p y s
   replace p:Ox m e W (4*i)=4*i+1:=p
   replace s:Ox m e W (4*i+2)=4*i+3:=s
   simp only[Zq,wSeq,wSet,wC,env0,Qti,C,Ar,Bm,Av,Bc,Bp,Nat.reduceAdd,Bo,Bw,Bi,Az,Ax,Vf,Xg,wBin,Qw,look,Qk,Qag,kcD,Qdp,Db,Qjf,Qj,D.pure,B5,true_and];refine⟨λt ρ=>t<=2/\∃(a:List (Mx.MI×D)) (c:Nat) (o:Option D),ρ=[some (.dmx a),some (.tup [.int (A (4*i)),.int (A (4*i+1)),.int (A (4*i+2)),.int (A (4*i+3))]),some (.int 0),some (.int c),o]/\Lk m e A g W (Sc m e W i t) a (n+c)/\a.length<=kvs.length+2*t,⟨by decide,kvs,0,none,rfl,E,At _⟩,?_,?_⟩
   ·rintro t d ρ hd ⟨G,a,c,o,rfl,b,r⟩
    match t,hd with
    | 0,hd=>
     cases hd;simp only[gN,wSet,wBin,Q6,Az,Ax,Qs,Jd,Qd,wC,wNil,Qj,Dm,Bi,Bp,Qw,look,Bv,Qk,Je,true_and,Qag,Ar,kcD,Bm,Qdc,Dh,Db,Qcd,D.pure,Qdp];refine⟨m,e,A,g,W,_,a,n+c,4*i,?_,z,b,by lia,by lia,?_,?_,by rw[p];lia,λx l q u=>?_⟩
     ·rw[p,Zy (by lia),Zy (by lia)];rfl
     ·show ¬4*i<4*i;lia
     ·rw[p];show ¬4*i+1<4*i;lia
     ·simp only[Zw];refine⟨by decide,l,c+x,_,by rw[Tf],?_,by lia⟩;rw[← Rt];exact q
    | 1,hd=>
     cases hd;simp only[gN,wSet,wBin,Q6,Az,Ax,Qs,Jd,Qd,wC,wNil,Qj,Dm,Bi,Nat.reduceAdd,Qw,look,Bv,Qk,Je,true_and,Qag,Ar,kcD,Bm,Qdc,Dh,Db,Qcd,Q0j,D.pure,Qdp,Qpa];refine⟨m,e,A,g,W,_,a,n+c,4*i+2,?_,z,b,by lia,by lia,?_,?_,by rw[s];lia,λx l q u=>?_⟩
     ·rw[s,Zy (by lia),Zy (by lia)];rfl
     ·show ¬(4*i+2<4*i\/4*i+2=4*i\/4*i+2=Ox m e W (4*i));rw[p];lia
     ·rw[s];show ¬(4*i+3<4*i\/4*i+3=4*i\/4*i+3=Ox m e W (4*i));rw[p];lia
     ·simp only[Zw];refine⟨by decide,l,c+x,_,by rw[Tf],?_,by lia⟩;rw[← Rt];have:Sc m e W i (1+1)=ad (Sc m e W i 1) (Ox m e W) (4*i+2):=by
       show ad _ _ (4*i+(if W i=0 then 2 else 1))=_;rw[if_pos h];rfl
      rw[this];exact q
    |t+2,hd=>simp at hd
   ·rintro ρ ⟨_,a,c,o,rfl,b,r⟩;simp only[wRet,Q6,Qw,look,Qk,Je,true_and,D.pure];have r:a.length<=kvs.length+2*2:=r;have b:Lk m e A g W (Sc m e W i 2) a (n+c):=b;rw[two]at b;exact k c a b (by lia)
  ·have C:(W i:Int)=1:=by lia
   rw[h]at p y s
   replace p:Ox m e W (4*i)=4*i+3:=p
   replace y:Ox m e W (4*i+1)=4*i+2:=y
   simp only[Zq,wSeq,wSet,wC,env0,Qti,C,Ar,Bm,Av,Bc,Bp,Nat.reduceAdd,Bo,Bw,Bi,Az,Ax,Vf,Xg,wBin,Qw,look,Qk,Qag,kcD,Qdc,Dh,Db,Qjf,Qj,D.pure,B5,true_and];refine⟨λt ρ=>t<=2/\∃(a:List (Mx.MI×D)) (c:Nat) (o:Option D),ρ=[some (.dmx a),some (.tup [.int (A (4*i)),.int (A (4*i+1)),.int (A (4*i+2)),.int (A (4*i+3))]),some (.int 1),some (.int c),o]/\Lk m e A g W (Sc m e W i t) a (n+c)/\a.length<=kvs.length+2*t,⟨by decide,kvs,0,none,rfl,E,At _⟩,?_,?_⟩
   ·rintro t d ρ hd ⟨G,a,c,o,rfl,b,r⟩
    match t,hd with
    | 0,hd=>
     cases hd;simp only[gN,wSet,wBin,Q6,Az,Ax,Qs,Jd,Qd,wC,wNil,Qj,Dm,Bi,Bp,Qw,look,Bv,Qk,Je,true_and,Qag,Ar,kcD,Bm,Qdc,Dh,Db,Qcd,Q0j,D.pure,Qdp];refine⟨m,e,A,g,W,_,a,n+c,4*i,?_,z,b,by lia,by lia,?_,?_,by rw[p];lia,λx l q u=>?_⟩
     ·rw[p,Zy (by lia),Zy (by lia)];rfl
     ·show ¬4*i<4*i;lia
     ·rw[p];show ¬4*i+3<4*i;lia
     ·simp only[Zw];refine⟨by decide,l,c+x,_,by rw[Tf],?_,by lia⟩;rw[← Rt];exact q
    | 1,hd=>
     cases hd;simp only[gN,wSet,wBin,Q6,Az,Ax,Qs,Jd,Qd,wC,wNil,Qj,Dm,Bi,Nat.reduceAdd,Qw,look,Bv,Qk,Je,true_and,Qag,Ar,kcD,Bm,Qdc,Dh,Db,Qcd,Qpa,D.pure,Qdp];refine⟨m,e,A,g,W,_,a,n+c,4*i+1,?_,z,b,by lia,by lia,?_,?_,by rw[y];lia,λx l q u=>?_⟩
     ·rw[y,Zy (by lia),Zy (by lia)];rfl
     ·show ¬(4*i+1<4*i\/4*i+1=4*i\/4*i+1=Ox m e W (4*i));rw[p];lia
     ·rw[y];show ¬(4*i+2<4*i\/4*i+2=4*i\/4*i+2=Ox m e W (4*i));rw[p];lia
     ·simp only[Zw];refine⟨by decide,l,c+x,_,by rw[Tf],?_,by lia⟩;rw[← Rt];have:Sc m e W i (1+1)=ad (Sc m e W i 1) (Ox m e W) (4*i+1):=by
       show ad _ _ (4*i+(if W i=0 then 2 else 1))=_;rw[if_neg (by lia)];rfl
      rw[this];exact q
    |t+2,hd=>simp at hd
   ·rintro ρ ⟨_,a,c,o,rfl,b,r⟩;simp only[wRet,Q6,Qw,look,Qk,Je,true_and,D.pure];have r:a.length<=kvs.length+2*2:=r;have b:Lk m e A g W (Sc m e W i 2) a (n+c):=b;rw[two]at b;exact k c a b (by lia)
theorem Qpp{a:Type}{L:List a}{p:a->Bool}{t:a}(h:L[i]? = some t):(L.take (i+1)).filter p=(L.take i).filter p++if p t=true then [t]else []:=by
 rw[Mf,h,Rl];congr 1;cases b:p t<;>simp[b]
theorem Qan{h:Type}{L:List h}{a b:h->D}{wt:WT}(f:h->D)(p:h->Bool)(hz:L.length<sizeLine)(m:∀t∈L,∀k:Bool->PV.Env->Prop,k (p t) (Vv ρ1 (a t) (b t) ix)->wt (Vv ρ1 (a t) (b t) ix) k)
  (o:∀t∈L,p t=true->∀Q':D->PV.Env->Prop,Q' (f t) (Vv ρ1 (a t) (b t) ix)->we (Vv ρ1 (a t) (b t) ix) Q') (n:Q (.lst ((L.filter p).map f)) ρ1):Qov (L.map λt=>.tup [a t,b t]) wt we ρ1 ix Q:=by
 have c:∀i,(((L.take i).filter p).map f).length<=L.length:=λi=>by
  rw[Ap];exact Dg (D6 _ _) (by rw[Ma];lia)
 refine⟨λi ys=>ys=((L.take i).filter p).map f,by simp,λi d ys hd e=>⟨by rw[e];exact Ds (c i) hz,?_⟩,λys e=>⟨by rw[e];exact Fo (Ds (c _) hz),?_⟩⟩
 ·rw [Bh]at hd;obtain⟨t,g,hd⟩:=B8.mp hd;subst hd;have l:=Qpp (p:=p) g;have hm:=Bk g;rw[Qsl];refine m t hm _ ?_;cases j:p t with
  | true=>
   rw[if_pos rfl];refine o t hm j _ ?_;show ys++[f t]=((L.take (i+1)).filter p).map f;rw[l,e,j,if_pos rfl,B7];rfl
  | false=>
   rw[if_neg (by decide)];show ys=((L.take (i+1)).filter p).map f;rw[l,e,j,if_neg (by decide),Dz]
 ·rw[e,Ap,Du (At _)];exact n
abbrev eK(i:Nat):List Int:=[-1,(i:Int)]
def rowM(J:Nat->Nat)(i:Nat):Mx.MI×D:=(.inr ((eK i).map .inl),tupI (eK (J i)))
def ppJ(J:Nat->Nat)(i:Nat):List Int×List Int:=(eK i,eK (J i))
def upJ(J:Nat->Nat)(e:Nat):List Nat:=(Aq e).filter λi=>decide (i<J i)
theorem Qy6(i j:Nat):HT.J1 (eK i) (eK j)=decide (i<j):=by
 show(if (-1:Int) = -1 then _ else _)=_;rw[if_pos rfl];show(if (i:Int)=(j:Int)then HT.J1 [] []else decide ((i:Int)<(j:Int)))=_;split
 ·rename_i h;rw[decide_eq_false (by lia)];rfl
 ·exact decide_eq_decide.mpr (by lia)
theorem Qy3{k:D->Prop}(h:k (.bl (decide (i<j)))):dLtT (tupI (eK i)) (tupI (eK j)) k:=⟨eK i,eK j,rfl,rfl,by rw[Qy6];exact h⟩
def Zc:GI:=λds k=>∃(e:Nat)(J:Nat->Nat)(L:List Nat),ds=[.dmx (L.map (rowM J))]/\e<=40/\L.Perm (Aq e)/\k (.tup ((upJ J e).map λi=>pp2 (ppJ J i))) (.dmx (L.map (rowM J)))
abbrev J4:Stmt:=top 6
theorem Qem:FnScope ["partners"] ["partners"] (Qc J4):=⟨rfl,rfl,rfl,by decide +kernel,rfl,by decide +kernel,by decide +kernel⟩
def Qaz:Tg:={ own:=λi=>i==0,io:=[0] }
def Qau:WS:=(wRet (Qp Vb (Qd (Qp Qon (Qd (G6 (Zs 0) (wBl (wBin dLtT (wVar 0) (wVar 1))) (Q6 (wTup (Qd (wVar 0) (Qd (wVar 1) wNil)))) []) wNil)) wNil)))
theorem Qhf{K:Frag}(B:Bn K mg):∀(a:Value)(A:Around)(outer:List Dr)(s:Shared)(H:Hp)(E:XK),Room 0 (A.deeper (envOfC "joining_of" (Qc J4) s.heap.objs.size f a))->SVs (cxOf CX0 P w K mg base ["partners"] "joining_of" (Qc J4) f a A outer s H E).nox Qaz (Qr J4) Qau:=λa A outer s H E b=>
  (Ql (Jj (Jg Y8 B.nb_tuple J9 (Qa (Jm (Qox (hu66 b)) B.nb_sorted Qc8 (Qa (Qbl (Qbp [] (Ul (s:=0)) (λ_ _ _ _ _=>Qoq (Zt (Qyu (hu66 b)) (Qb 0) (Qb 1))) (λ_ _ _ _ _=>(Q4 (Vu (Qa (Qb 0) (Qa (Qb 1) Qf)))))) (X3 (Qc J4) ["partners"] (by decide +kernel))) Qf)) Qf))))
theorem Qex{K:Frag}(F:Fun K "joining_of" "joining_of" J4 f fd)(B:Bn K mg):FnOk P w K mg base CX0 1 f fd ["partners"] (spI K 0 Zc):=by
 refine Qn1 (T:=Qaz) F Qem rfl rfl (λds kk h=>?_) (Qhf B) (λds kk h=>?_)
 ·obtain⟨e,J,L,rfl,_⟩:=h;exact⟨rfl,_,rfl⟩
 ·obtain ⟨e,J,L,rfl,C,p,k⟩:=h;have A:L.length=e:=by rw[p.length_eq,Bz]
  have r:Gi (L.map (rowM J))=L.map λi=>.tup [tupI (eK i),tupI (eK (J i))]:=by unfold Gi;rw[Bg];rfl
  simp only[Qau,wRet,Qp,Qd,G6,Zs,env0,Ar,Bm,Av,Bc,Bp,Bw,Bi,look,Ax,wNil,Qk,Vo,r];refine Qan (a:=λi=>tupI (eK i)) (b:=λi=>tupI (eK (J i))) (λi=>pp2 (ppJ J i)) (λi=>decide (i<J i)) (Xd (by lia)) (λi hi E u=>?_) (λi hi q Q' s=>?_) ?_
  ·simp only[Vv,Bm,r_bl,wBin,Qw,look,Qk];exact Qy3 u
  ·simp only[Q6,wTup,Qd,Vv,Bm,wNil,Av,Bc,Bp,Nat.reduceAdd,sz2,D.pure,Qj,Dm,true_and,Qw,look,Qk,Ar,Int.reduceNeg,B5];exact s
  ·have c:∀i:Nat,(eK i).getD 1 0=(i:Int):=λi=>rfl;have nd:(L.filter λi=>decide (i<J i)).Nodup:=(p.nodup_iff.mpr Ff).sublist Ft;refine⟨(L.filter λi=>decide (i<J i)).map (ppJ J),λl=>l.getD 1 0,by rw[Bg];rfl,?_,?_,?_,λout n p2=>?_⟩
   ·rw[Ap];have:=D6 (λi=>decide (i<J i)) L;lia
   ·rw[Bg];refine Mv.mpr (nd.imp λh z=>h ?_);have z:eK _=eK _:=z;simp only[eK,Rn,and_true,true_and]at z;lia
   ·intro x d y o;obtain⟨i,_,rfl⟩:=As.mp d;obtain⟨j,_,rfl⟩:=As.mp o;show HT.J1 (eK i) (eK j)=decide ((eK i).getD 1 0<(eK j).getD 1 0);rw[Qy6,c,c];exact decide_eq_decide.mpr (by lia)
   ·have t:out=(upJ J e).map (ppJ J):=by
     refine Hang.Qb6 (le:=λx y=>x.1.getD 1 0<=y.1.getD 1 0) (n.trans ((p.filter _).map _)) p2 ?_ ?_
     ·refine Mv.mpr ?_;refine A0s (R:=λa b:Nat=>a<b) (λh=>?_) (S1 _ Sm);show(eK _).getD 1 0<=(eK _).getD 1 0;rw[c,c];lia
     ·intro x d y o h1 h2;obtain⟨i,_,rfl⟩:=As.mp (n.mem_iff.mp d);obtain⟨j,_,rfl⟩:=As.mp (n.mem_iff.mp o);have h1:(eK i).getD 1 0<=(eK j).getD 1 0:=h1;have h2:(eK j).getD 1 0<=(eK i).getD 1 0:=h2;rw[c,c]at h1 h2;rw[show i=j by lia]
    subst t;simp only[Bg,look,Qk,Z8,Xf];have m:∀i:Nat,(tupI (eK i)).bare=true:=λi=>by simp only[tupI,eK,Ar,Bm,D.bare,Gz,B5]
    refine⟨Qo λi _=>by simp only[A0d,pp2,tupI,ppJ,eK,Ar,Bm,D.pure,Qj,B5],?_,?_,k⟩
    ·refine Rh.mpr λv g=>?_;obtain⟨i,_,rfl⟩:=As.mp g;exact m (J i)
    ·simp only[D.bare];refine Vw.mpr λx d=>?_;obtain⟨i,_,rfl⟩:=As.mp d;simp only[A0d,pp2,D.bare,Gz,Dm,B6];have:=m i;have:=m (J i);simp only[tupI,D.bare]at *;exact⟨by assumption,by assumption⟩
def Sj(m e j:Nat)(q:Nat):Prop:=q<4*m+j\/∃i,i<j/\q=4*m+e+2*i
theorem Qwr:(λq=>q<4*m)=Sj m e 0:=by
 funext q;apply propext;unfold Sj;constructor
 ·intro h;exact .inl (by lia)
 ·rintro(h|⟨i,h,_⟩)
  ·lia
  ·lia
theorem Qin{W:Nat->Nat}(h:j<e):ad (Sj m e j) (Ox m e W) (4*m+j)=Sj m e (j+1):=by
 funext q;apply propext;unfold ad Sj;rw[Vd h];constructor
 ·rintro((h|⟨i,h1,h2⟩)|h|h)
  ·exact .inl (by lia)
  ·exact .inr ⟨i,by lia,h2⟩
  ·exact .inl (by lia)
  ·exact .inr ⟨j,by lia,h⟩
 ·rintro(h|⟨i,h1,h2⟩)
  ·by_cases z:q=4*m+j
   ·exact .inr (.inl z)
   ·exact .inl (.inl (by lia))
  ·by_cases z:i=j
   ·subst z;exact .inr (.inr h2)
   ·exact .inl (.inr ⟨i,by lia,h2⟩)
theorem Q0l:Sj m e e=Sf m e:=by
 funext q;apply propext;unfold Sj Sf;constructor
 ·rintro(h|⟨i,h1,h2⟩)
  ·exact⟨by lia,λi=>by lia⟩
  ·exact⟨by lia,λi=>by lia⟩
 ·rintro⟨h1,h2⟩;rcases V7 h1 with⟨k,j,a,b,rfl⟩|⟨i,a,rfl⟩|⟨i,a,rfl⟩|⟨i,a,rfl⟩
  ·exact .inl (by lia)
  ·exact .inl (by lia)
  ·exact .inr ⟨i,a,rfl⟩
  ·exact absurd rfl (h2 i)
theorem Qy4{W:Nat->Nat}{a:List (Mx.MI×D)}(f:M.Tw (4*m+e) A g)(b:j<e)(h:Lk m e A g W (Sj m e j) kvs n)(h':Lk m e A g W (ad (Sj m e j) (Ox m e W) (4*m+j)) a (n+c)):Lk m e A g W (Sj m e (j+1)) a n:=by
 obtain ⟨_,_,_,i⟩:=h;obtain⟨π,d,d2,l⟩:=h';have wv:=wv (W:=W) f;have k:Re (Gx m e g) (Ox m e W) (4*m+j) (4*m+e+2*j+1):=by
  have:=(Re.here (G:=Gx m e g) (O:=Ox m e W) (p:=4*m+j)).o.g
  rwa [Vd b,Y5]at this
 have:=Quf (S:=Sj m e j) wv (by lia) k (by rw[Qin b];unfold Sj;lia);rw[Qin b]at d d2;refine⟨π,d,d2,?_⟩;rw[Qin b]at this;rw[this,i]
theorem Qy5{W:Nat->Nat}(G:M.Tw (4*m+e) A g)(h:Lk m e A g W (Sj m e e) kvs n) :
  rc (4*m+e+2*e) (Gx m e g) (Ox m e W) (Sf m e)=n/\∃(J:Nat->Nat)(L:List Nat),(∀i,i<e->J i<e/\Pa (Gx m e g) (Ox m e W) (Sf m e) (4*m+i) (4*m+e+2*J i+1))/\L.Perm (Aq e)/\kvs=L.map (rowM J):=by
 rw[Q0l]at h;obtain⟨π,st,o,E⟩:=h;have wv:=wv (W:=W) G;have out:∀i,i<e->¬Sf m e (4*m+e+2*i+1):=λi hi h=>h.2 i rfl;have ev:∀i,i<e->Sf m e (4*m+e+2*i):=λi hi=>⟨by lia,λj=>by lia⟩
 have p:∀q,q<4*m+e+2*e->¬Sf m e q->∃i,i<e/\q=4*m+e+2*i+1:=λq d v=>by
  rcases V7 d with⟨k,j,s,H,rfl⟩|⟨i,s,rfl⟩|⟨i,s,rfl⟩|⟨i,s,rfl⟩
  ·exact absurd ⟨by lia,λi=>by lia⟩ v
  ·exact absurd ⟨by lia,λi=>by lia⟩ v
  ·exact absurd (ev i s) v
  ·exact⟨i,s,rfl⟩
 have to:∀i,i<e->∃j,j<e/\π (4*m+e+2*i+1)=4*m+e+2*j+1/\Pa (Gx m e g) (Ox m e W) (Sf m e) (4*m+i) (4*m+e+2*j+1):=λi hi=>by
  have d:4*m+e+2*i+1<4*m+e+2*e:=by lia
  obtain⟨j,F,C⟩:=p _ (st.pl _ d (out i hi)) (st.ps _ d (out i hi));refine⟨j,F,C,?_⟩;have pa:=st.pa _ d (out i hi);rw[C]at pa;generalize hz:4*m+e+2*j+1=z at pa;generalize B:4*m+e+2*i+1=y at pa;cases pa with
  |one=>rw[← B,Z0]at hz;lia
  |more _ r=>rw[← B,Z0,Vi hi]at r;exact r
 refine ⟨E,?_⟩;obtain⟨J,t⟩:∃J:Nat->Nat,∀i,i<e->J i<e/\π (4*m+e+2*i+1)=4*m+e+2*J i+1/\Pa (Gx m e g) (Ox m e W) (Sf m e) (4*m+i) (4*m+e+2*J i+1) :=
  ⟨λi=>if h:i<e then Rg (to i h)else 0,λi hi=>by simp only[dif_pos hi];exact Dl (to i hi)⟩
 have f:∀c∈kvs,∃i,i<e/\c=rowM J i:=λc b=>by
  have w:=(Qm8 o.nd).mp (show(c.1,c.2)∈kvs from b);obtain⟨q,d,h1,h2,u⟩:=o.on _ _ w;obtain⟨i,hi,rfl⟩:=p q d h1;refine⟨i,hi,?_⟩;have a:=o.va _ d h1 h2;rw[← u,w]at a;have a:=B3 a;rw[(t i hi).2.1,Gq]at a;rw[Gq]at u;exact A0z u a
 have all:∀i,i<e->rowM J i∈kvs:=λi hi=>by
  have d:4*m+e+2*i+1<4*m+e+2*e:=by lia
  have:=o.va _ d (out i hi) (by rw[Z0];exact ev i hi);rw[(t i hi).2.1,Gq,Gq]at this;exact(Qm8 o.nd).mpr this
 let ix:Mx.MI×D->Nat:=λc=>match c.1 with | .inr [_,.inl i]=>i.toNat|_=>0
 have l:∀i:Nat,ix (rowM J i)=i:=λi=>by show((i:Int)).toNat=i;lia
 have x:kvs=(kvs.map ix).map (rowM J):=by
  rw[Bg]
  conv=>lhs;rw[← O3 kvs]
  refine B0 λc b=>?_;obtain⟨i,_,rfl⟩:=f c b;show rowM J i=rowM J (ix (rowM J i));rw[l]
 refine ⟨J,kvs.map ix,λi hi=>⟨(t i hi).1,(t i hi).2.2⟩,?_,x⟩;have nd:(kvs.map ix).Nodup:=by
  have h1:=o.nd;rw[x,Bg]at h1;exact(Mv.mp h1).imp λh z=>h (by rw[z])
 refine(S6 nd Ff).mpr λi=>?_;rw[Bl];constructor
 ·intro h;obtain⟨c,b,rfl⟩:=As.mp h;obtain⟨i,hi,rfl⟩:=f c b;rw[l];exact hi
 ·intro h;exact As.mpr ⟨_,all i h,l i⟩
def Qla(m e:Nat)(A:Nat->Int):D:=.tup ((Aq e).map λj=>.int (A (4*m+j)))
def Qa9(J:Nat->Nat)(e:Nat):D:=.tup ((upJ J e).map λ(i:Nat)=>.tup [.int (i:Int),.int (J i:Int)])
noncomputable def Zz:GI:=λds k=>∃(m e:Nat)(A:Nat->Int)(g W:Nat->Nat)(kvs:List (Mx.MI×D)) (n:Nat),ds=[.dmx kvs,Qla m e A]/\M.Tw (4*m+e) A g/\e<=40/\Lk m e A g W (λq=>q<4*m) kvs n/\kvs.length<=800 /\
 ∀(J:Nat->Nat)(a:List (Mx.MI×D)),(∀i,i<e->J i<e/\Pa (Gx m e g) (Ox m e W) (Sf m e) (4*m+i) (4*m+e+2*J i+1))->rc (4*m+e+2*e) (Gx m e g) (Ox m e W) (Sf m e)=n->k (Qa9 J e) (.dmx a)
abbrev Yj:Stmt:=top 21
theorem Ud:FnScope ["partners","ends","j","arc"] ["partners","ends"] (Qc Yj):=⟨rfl,rfl,rfl,by decide +kernel,rfl,by decide +kernel,by decide +kernel⟩
def Qb0:Tg:={ own:=λi=>i==0||i==2||i==3,io:=[0] }
noncomputable def Qbt:WS:=(wSeq (wFor (Qtr (Qd (wVar 1) wNil)) (Qba 2 (Yb (gN 2) (Yb (gN 3) Qbb))) (Gk (Qs 0 Qgt (Jd 0 (Qd (wVar 3) (Qd (wTup (Qd (wC (.int (-1))) (Qd (wVar 2) wNil))) wNil))))))
 (wRet (Qp Vb (Qd (G6 (V6 (Qs 0 Zc (Jd 0 wNil))) wAll (Q6 (wTup (Qd (wBin dIx (wVar 0) (wC (.int 1))) (Qd (wBin dIx (wVar 1) (wC (.int 1))) wNil)))) []) wNil))))
theorem Qih{K:Frag}(B:Bn K mg)(c:Cal P w K mg base "lay" 1 ["partners","one","other"] (spI K 0 Qgt))(d:Cal P w K mg base "joining_of" 1 ["partners"] (spI K 0 Zc)):∀(a:Value)(A:Around)(outer:List Dr)(s:Shared)(H:Hp)(E:XK),Room 1 (A.deeper (envOfC "join_ends" (Qc Yj) s.heap.objs.size f a))->SVs (cxOf CX0 P w K mg base ["partners","ends","j","arc"] "join_ends" (Qc Yj) f a A outer s H E).nox Qb0 (Qr Yj) Qbt:=λa A outer s H E b=>
  (Qe (Ys Dv (Qvv B.nb_enumerate (Qa (Qb 1) Qf)) (Xt (Jb (Q0 (i:=2) Ud.nd) (Jb (Q0 (i:=3) Ud.nd) V2))) (Ql (Gn (Qq c (b.mono (by decide)) (Q5 (i:=0) (Qa (Qb 3) (Qa (Vu (Qa (Qn7 B.c_RIM.choose_spec) (Qa (Qb 2) Qf))) Qf)))))))
  (Ql (Jj (Jg Y8 B.nb_tuple J9 (Qa (Qbl (Qbp [] (V5 (Qq d (b.mono (by decide)) (Q5 (i:=0) Qf))) (λ_ _ _ _ _=>Qc5) (λ_ _ _ _ _=>(Q4 (Vu (Qa (Jr (J0 (Q8 b)) (Qb 0) Qi) (Qa (Jr (J0 (Q8 b)) (Qb 1) Qi) Qf)))))) (X3 (Qc Yj) ["partners","ends","j","arc"] (by decide +kernel))) Qf)))))
theorem Qgd{K:Frag}(F:Fun K "join_ends" "join_ends" Yj f fd)(B:Bn K mg)(N:Cal P w K mg base "lay" 1 ["partners","one","other"] (spI K 0 Qgt))(G:Cal P w K mg base "joining_of" 1 ["partners"] (spI K 0 Zc)):FnOk P w K mg base CX0 2 f fd ["partners","ends"] (spI K 0 Zz):=by
 refine Qh6 (T:=Qb0) F Ud rfl rfl (λds kk h=>?_) (Qih B N G) (λds kk h=>?_)
 ·obtain⟨m,e,A,g,W,kvs,n,rfl,_⟩:=h;exact⟨rfl,_,rfl,rfl⟩
 ·obtain ⟨m,e,A,g,W,kvs,n,rfl,x,R,y,U,k⟩:=h;rw[Qwr (e:=e)]at y;simp only[Qbt,wSeq,Int.reduceNeg,env0,Qla,Ar,Bm,Av,Bc,Bp,Nat.reduceAdd,Bo,Bw,Bi,Vf,Qxp,Qd,wNil,Qw,look,Qk,Quk];have C:Qj ((Aq e).map λj=>D.int (A (4*m+j)))=true:=Qo λ_ _=>rfl;refine⟨C,Qcg C,λj ρ=>∃(l:List (Mx.MI×D)) (o1 o2:Option D),ρ=[some (.dmx l),some (.tup ((Aq e).map λj=>D.int (A (4*m+j)))),o1,o2]/\j<=e/\Lk m e A g W (Sj m e j) l n/\l.length<=kvs.length+2*j,⟨kvs,none,none,rfl,Dq _,y,At _⟩,?_,?_⟩
  ·rintro j d ρ hd ⟨l,o1,o2,rfl,v,o,s⟩;rw[Us]at hd;have p:j<e:=by
    cases q:((Aq e).map λj=>D.int (A (4*m+j)))[j]? with
    |none=>rw[q]at hd;cases hd
    |some z=>simpa using(Au.mp q).1
   rw[Bh,Nn p]at hd;have hd:=(B3 hd).symm;subst hd;simp only[Bp,Gk,Qs,Jd,Qd,wTup,wC,wNil,Int.reduceNeg,Av,Bc,Nat.reduceAdd,sz2,Qj,D.pure,Dm,S5,Bi,true_and,Qw,Xi,Vz,gN,Az,Ax,Xj,look,Bv,Qk,Je];refine⟨m,e,A,g,W,_,l,n,4*m+j,?_,x,o,by lia,by lia,?_,?_,by rw[Vd p];lia,λc r u E=>?_⟩
   ·rw[Vd p,Zy (by lia),Qbi];simp only[miD,eiD,Ar,Bm,Bp]
   ·unfold Sj;rintro(h|⟨i,h1,h2⟩)
    ·lia
    ·lia
   ·rw[Vd p];unfold Sj;rintro(h|⟨i,h1,h2⟩)
    ·lia
    ·lia
   ·simp only[];exact⟨r,_,_,rfl,p,Qy4 x p o u,by lia⟩
  ·rintro ρ ⟨l,o1,o2,rfl,v,o,s⟩;have t:(Gb 0 ((Aq e).map λj=>D.int (A (4*m+j)))).length=e:=by rw[Zd];simp
   rw[t]at o s;obtain⟨H,J,L,I,S,rfl⟩:=Qy5 x o;simp only[wRet,Qp,Qd,G6,wNil,Xg,Qs,Jd,look,Bv,Qj,Bi,Ax,Qk,Je,true_and];refine⟨e,J,L,rfl,R,S,?_⟩;simp only[Qf4];have M:(upJ J e).length<=e:=by have:=D6 (λi=>decide (i<J i)) (Aq e);rw[Bz]at this;exact this
   refine⟨Qo λi _=>by simp only[pp2,tupI,ppJ,eK,Ar,Bm,D.pure,Qj,B5],Qan (L:=upJ J e) (a:=λi=>tupI (eK i)) (b:=λi=>tupI (eK (J i))) (λ(i:Nat)=>.tup [.int (i:Int),.int (J i:Int)]) (λ_=>true) (Xd (by lia)) (λi hi V Q=>Q) (λi hi _ Q' O=>?_) ?_⟩
   ·simp only[Q6,wTup,Qd,wBin,Vv,Bm,wC,wNil,Av,Bc,Bp,Nat.reduceAdd,sz2,D.pure,Qj,Dm,true_and,Qw,look,Qk,Qcd,Ar,Int.reduceNeg,Qdc,Dh,Db];exact O
   ·rw[Ks.mpr λ_ _=>rfl];simp only[look,Qk,Je,true_and,Xf];exact⟨Qo λi _=>by simp only[D.pure,Qj,B5],k J _ I H⟩
def Qfp(m:Nat)(W:Nat->Nat):List D:=(Aq m).map λk=>.int (W k:Int)
noncomputable def Qva(m e:Nat)(g W J:Nat->Nat)(r:Int):D:=.tup [Qa9 J e,.int (r+(rc (4*m+e+2*e) (Gx m e g) (Ox m e W) (Sf m e):Nat))]
def Xv:GA:=λds k=>∃(m e:Nat)(A:Nat->Int)(g W:Nat->Nat)(r:Int),ds=[webD m e A r,.ftp (Qfp m W)]/\M.Tw (4*m+e) A g/\m<=40/\e<=40/\(∀k,k<m->W k<=1)/\∀J,Jn m e g W J->k (Qva m e g W J r)
abbrev Ux:Stmt:=top 22
theorem Vm:FnScope ["web","ways","partners","rings","crossing","way"] ["web","ways"] (Qc Ux):=⟨rfl,rfl,rfl,by decide +kernel,rfl,by decide +kernel,by decide +kernel⟩
def Qi3:Tg:={ own:=λi=>i==2||i==3||i==4||i==5,io:=[] }
noncomputable def Qiq:WS:=(wSeq (wSet 2 (wC (.dmx [])))
 (wSeq (wSet 3 (Q6 (wBin dIx (wVar 0) (wC (.int 2)))))
 (wSeq (wFor (Qtq (Qd (wBin dIx (wVar 0) (wC (.int 0))) (Qd (wVar 1) wNil))) (Qba 2 (Yb (gN 4) (Yb (gN 5) Qbb))) (wSet 3 (wBin J8 (Q6 (wVar 3)) (Qs 2 J6 (Jd 2 (Qd (wVar 4) (Qd (wVar 5) wNil)))))))
 (wRet (Q6 (wTup (Qd (Qs 2 Zz (Jd 2 (Qd (wBin dIx (wVar 0) (wC (.int 1))) wNil))) (Qd (wVar 3) wNil))))))))
theorem Qry{K:Frag}(B:Bn K mg)(d:Cal P w K mg base "open_crossing" 2 ["partners","crossing","way"] (spI K 0 J6))(c:Cal P w K mg base "join_ends" 2 ["partners","ends"] (spI K 0 Zz)):∀(a:Value)(A:Around)(outer:List Dr)(s:Shared)(H:Hp)(E:XK),Room 2 (A.deeper (envOfC "opened" (Qc Ux) s.heap.objs.size f a))->SVs (cxOf CX0 P w K mg base ["web","ways","partners","rings","crossing","way"] "opened" (Qc Ux) f a A outer s H E).nox Qi3 (Qr Ux) Qiq:=λa A outer s H E b=>
  (Qe (Qy (i:=2) U6 Vm.nd)
  (Qe (Qy (i:=3) (Q4 (Jr (J0 (Q8 b)) (Qb 0) Qi)) Vm.nd)
  (Qe (Ys Dv (Qvu B.nb_zip (Qa (Jr (J0 (Q8 b)) (Qb 0) Qi) (Qa (Qb 1) Qf))) (Xt (Jb (Q0 (i:=4) Vm.nd) (Jb (Q0 (i:=5) Vm.nd) V2))) (Ql (Qy (i:=3) (Qv Q3 (Q4 (Qb 3)) (Qq d (b.mono (by decide)) (Q5 (i:=2) (Qa (Qb 4) (Qa (Qb 5) Qf))))) Vm.nd)))
  (Ql (Jj (Q4 (Vu (Qa (Qq c (b.mono (by decide)) (Q5 (i:=2) (Qa (Jr (J0 (Q8 b)) (Qb 0) Qi) Qf))) (Qa (Qb 3) Qf)))))))))
theorem Qr3{W:Nat->Nat}(h:(Qbs ((Aq m).map (crD A)) (Qfp m W))[i]? = some d):i<m/\d=.tup [crD A i,.int (W i)]:=by
 unfold Qbs Qfp at h;rw[List.zip_map',Bg,Bh]at h;obtain⟨k,a,rfl⟩:=B8.mp h;obtain⟨h1,h2⟩:=Au.mp a;rw[Bz]at h1;rw[Fs]at h2;subst h2;exact⟨h1,rfl⟩
theorem Qtm{W:Nat->Nat}:(Qbs ((Aq m).map (crD A)) (Qfp m W)).length=m:=by
 unfold Qbs Qfp;simp
theorem Qwt{r:Int}:webD m e A r=.tup [.tup ((Aq m).map (crD A)),Qla m e A,.int r]:=rfl
theorem Qmx{K:Frag}(F:Fun K "opened" "opened" Ux f fd)(B:Bn K mg)(G:Cal P w K mg base "open_crossing" 2 ["partners","crossing","way"] (spI K 0 J6))(x:Cal P w K mg base "join_ends" 2 ["partners","ends"] (spI K 0 Zz)):FnOk P w K mg base CX0 3 f fd ["web","ways"] (spR K Xv):=by
 refine Qal (T:=Qi3) F Vm rfl (by decide) (λds kk h=>?_) (Qry B G x) (λds kk h=>?_)
 ·obtain⟨m,e,A,g,W,r,rfl,_⟩:=h;rfl
 ·obtain ⟨m,e,A,g,W,r,rfl,p,hm,L,H,k⟩:=h;simp only[Qiq,wSeq,wSet,wC,Q6,wBin,env0,Qwt,Ar,Bm,Av,Bc,Bp,Nat.reduceAdd,Bo,Bw,Bi,Az,Ax,Vf,Qtq,Qd,wNil,Qw,look,Qk,Qcd,Qdp,Db,Qup,Qpa,Dh,D.pure,true_and];have b:∀i,(crD A i).pure=true:=λi=>by unfold crD;simp only[D.pure];exact Qo λ_ _=>rfl
  have E:Qj ((Aq m).map (crD A))=true:=Qo λi _=>b i;have u:Qj (Qfp m W)=true:=Qo λ_ _=>rfl;have C:Qj (Qbs ((Aq m).map (crD A)) (Qfp m W))=true:=Ye.mpr λd hd=>by
   obtain⟨i,hi⟩:=Sw.mp hd;obtain⟨_,rfl⟩:=Qr3 hi;simp only[D.pure,Qj,b,B5]
  have o:Lk m e A g W (λq=>q<4*0) [] 0:=by
   have:(λq=>q<4*0)=λ_:Nat=>False:=by funext q;exact propext ⟨λh=>by lia,λh=>h.elim⟩
   rw[this];exact⟨_,St.start (wv p),.start,Quh⟩
  refine⟨E,u,C,λt ρ=>∃(kvs:List (Mx.MI×D)) (c:Nat) (o1 o2:Option D),ρ=[some (.tup [.tup ((Aq m).map (crD A)),Qla m e A,.int r]),some (.ftp (Qfp m W)),some (.dmx kvs),some (.int (r+(c:Int))),o1,o2]/\t<=m/\Lk m e A g W (λq=>q<4*t) kvs c/\kvs.length<=4*t,⟨[],0,none,none,by simp,Dq _,o,Dq _⟩,?_,?_⟩
  ·rintro t d ρ hd ⟨kvs,c,o1,o2,rfl,v,j,s⟩;obtain⟨hi,rfl⟩:=Qr3 hd;simp only[wSet,wBin,Q6,Qs,Jd,Qd,wNil,Qj,Dm,Bi,Qw,Xi,Av,Bc,Bp,Nat.reduceAdd,Vz,gN,Az,Ax,Xj,look,Bv,Qk,Je,true_and,D.pure,b];refine⟨m,e,A,g,W,kvs,c,t,rfl,p,hi,H t hi,j,by lia,λI a l N=>?_⟩;simp only[Zw];exact⟨a,c+I,some (crD A t),some (.int (W t)),by rw[Tf,Int.add_assoc],hi,l,by lia⟩
  ·rintro ρ ⟨kvs,c,o1,o2,rfl,v,j,s⟩;rw[Qtm]at j s;have M:(Qla m e A).pure=true:=by unfold Qla;simp only[D.pure];exact Qo λ_ _=>rfl
   simp only[wRet,Q6,wTup,Qd,Qs,Jd,look,Bv,wBin,wC,wNil,Qj,Dm,Bi,Av,Bc,Bp,Nat.reduceAdd,sz2,D.pure,true_and,Qw,Az,Ax,Qk,Je,Qcd,Qdc,Dh,Db,M];refine⟨m,e,A,g,W,kvs,c,rfl,p,L,j,by lia,λJ a z y=>?_⟩;simp only[];have n:=k J z;unfold Qva at n;rw[y]at n;exact⟨by unfold Qa9;simp only[D.pure];exact Qo λi _=>by simp only[D.pure,Qj,B5],n⟩
end K54
variable {R:List Int}{l:PySem.W.OpenLaw}{ts:Pol.T}
namespace K54
open PySem PySem.Spec L2 PV
open PyProof.Rows (envOfC)
open Pol Dct
theorem Qsp{p n:Int}{R:List Int}(c:p∈R):∀{a:T},(∀t∈a,t.1∈R)->∀t∈put a p n,t.1∈R
 | [],_,t,b=>by
  rw[show put [] p n=[(p,n)]from rfl,Aw]at b;rw[b];exact c
 | u::a,h,t,b=>by
  unfold put at b;by_cases e:u.1=p
  ·rw[if_pos e]at b;rcases Ay.mp b with rfl|b
   ·exact c
   ·exact h t (Am _ b)
  ·rw[if_neg e]at b;rcases Ay.mp b with rfl|b
   ·exact h _ (An ..)
   ·exact Qsp c (λs d=>h s (Am _ d)) t b
theorem few{l:List Int}(nd:l.Nodup)(h:∀x∈l,x∈R):l.length<=R.length:=by
 induction l generalizing R with
 |nil=>exact Dq _
 | cons x r d=>
  obtain ⟨h1,h2⟩:=Bf.mp nd;have b:x∈R:=h x (An ..);have e:=R3 b;have f:0<R.length:=Ih b;have:r.length<=(R.erase x).length:=d h2 λy c=>by
   have a:y≠x:=λz=>h1 (z ▸ c);exact(S2 a).mpr (h y (Am _ c))
  simp only[Av];lia
noncomputable def Vs:GA:=λds k=>∃(ts:T)(R:List Int),(ds=[.lst (ts.map pr2)]\/ds=[.tup (ts.map pr2)])/\ts.length<=50000/\R.length<64/\(∀t∈ts,t.1∈R)/\∀us:T,Is us->us.length<=ts.length->(∀t∈us,t.1∈R)->nrm us<=nrm ts->(∀f,ev f us=ev f ts)->k (.tup (us.map pr2))
abbrev Yz:Stmt:=top 1
theorem Vx:FnScope ["terms","numbers","power","number"] ["terms"] (Qc Yz):=⟨rfl,rfl,rfl,by decide +kernel,rfl,by decide +kernel,by decide +kernel⟩
def Qdv:Tg:={ own:=λi=>i==1||i==2||i==3,io:=[] }
noncomputable def Qaa:WS:=(wSeq (wSet 1 (wC (.dik [])))
 (wSeq (wFor (V6 (wVar 0)) (Qba 2 (Yb (gN 2) (Yb (gN 3) Qbb))) (Zr 1 (wBin J8 (Qkl (wVar 1) (wVar 2) (wC (.int 0))) (wVar 3)) (wVar 2)))
 (wRet (Qp Vb (Qd (Qeh (V6 (Qp Qkb (Qd (wVar 1) wNil))) (wBl (wBin dNe (wBin dIx (wVar 1) (wVar 0)) (wC (.int 0)))) (Q6 (wTup (Qd (wVar 0) (Qd (wBin dIx (wVar 1) (wVar 0)) wNil)))) [1]) wNil)))))
theorem Qlh{K:Frag}(B:Bn K mg):∀(a:Value)(A:Around)(outer:List Dr)(s:Shared)(H:Hp)(E:XK),Room 0 (A.deeper (envOfC "gathered" (Qc Yz) s.heap.objs.size f a))->SVs (cxOf CX0 P w K mg base ["terms","numbers","power","number"] "gathered" (Qc Yz) f a A outer s H E).nox Qdv (Qr Yz) Qaa:=λa A outer s H E b=>
  (Qe (Qy (i:=1) Qfc Vx.nd)
  (Qe (Ys Dv (Qzs (i:=0)) (Xt (Jb (Q0 (i:=2) Vx.nd) (Jb (Q0 (i:=3) Vx.nd) V2))) (Ql (Z2 (i:=1) (Q8 b) (Qv Q3 (Qv6 (Q8 b) (Qb 1) (Qb 2) Qi) (Qb 3)) (Qb 2))))
  (Ql (Jj (Jg Y8 B.nb_tuple J9 (Qa (Xz (Qam [1] (V5 (Jm (Qrn rfl) B.nb_sorted Qc8 (Qa (Qb 1) Qf))) (λ_ _ _ _ _=>Qoq (Zt (Qyt b.units) (Jr (J0 (Q8 b)) (Qb 1) (Qb 0)) Qi)) (λ_ _ _ _ _=>(Q4 (Vu (Qa (Qb 0) (Qa (Jr (J0 (Q8 b)) (Qb 1) (Qb 0)) Qf)))))) (Vc (Qc Yz) ["terms","numbers","power","number"] (by decide +kernel))) Qf))))))
theorem Qa0{kk:D->Prop}{w:D}(H:ts.length<=50000)(E:R.length<64)(B:∀t∈ts,t.1∈R)(k:∀us:T,Is us->us.length<=ts.length->(∀t∈us,t.1∈R)->nrm us<=nrm ts->(∀f,ev f us=ev f ts)->kk (.tup (us.map pr2))) :
  forI (ts.map pr2) (Qba 2 (Yb (gN 2) (Yb (gN 3) Qbb))) (Zr 1 (wBin J8 (Qkl (wVar 1) (wVar 2) (wC (.int 0))) (wVar 3)) (wVar 2))
   { nx:=wRet (Qp Vb (Qd (Qeh (V6 (Qp Qkb (Qd (wVar 1) wNil))) (wBl (wBin dNe (wBin dIx (wVar 1) (wVar 0)) (wC (.int 0)))) (Q6 (wTup (Qd (wVar 0) (Qd (wBin dIx (wVar 1) (wVar 0)) wNil)))) [1]) wNil)) { nx:=λρ=>kk .non,rt:=λd ρ=>kk d },rt:=λd ρ=>kk d }
   [some w,some (.dik []),none,none]:=by
 refine⟨λi ρ=>∃(a:T)(o2 q:Option D),(a.map (·.1)).Nodup/\(∀t∈a,t.1∈R)/\a.length<=i/\i<=ts.length/\nrm a<=nrm (ts.take i)/\(∀f,ev f a=ev f (ts.take i))/\ρ=[some w,some (.dik (enc a)),o2,q],⟨[],none,none,.nil,(λt m=>absurd m (List.not_mem_nil)),At _,Dq _,At _,λ_=>rfl,rfl⟩,?_,?_⟩
 ·rintro i d ρ hd ⟨a,o2,q,b,h,r,s,v,g,rfl⟩;rw[Bh]at hd;obtain⟨t,c,hd⟩:=B8.mp hd;subst hd;have hi:=(Au.mp c).1;have e:ts.take (i+1)=ts.take i++[t]:=by rw[Mf,c];rfl
  simp only[pr2,Zr,wBin,Qkl,wC,D.pure,Qw,true_and,Xi,Av,Bc,Bp,Nat.reduceAdd,Vz,gN,Az,Ax,Xj,look,Bv,Qk,Qho,Qob,Qxx,Qxy,Qpl,Zw,Qmi b];refine⟨Qkr (by lia),put a t.1 (get a t.1+t.2),_,_,Qf8 b,Qsp (B t (Bk c)) h,Dg Qd0 (by lia),by lia,?_,λf=>?_,rfl⟩
  ·rw[e,Qai];have:=Qmh (p:=t.1) (n:=t.2) (a:=a);show _<=_+(t.2.natAbs+0);lia
  ·rw[e,Qsq,Qcy,g];show _=_+(t.2*f t.1+0);lia
 ·rintro ρ ⟨a,o2,q,b,h,r,s,v,g,rfl⟩;rw[Ap,Du (At _)]at *;simp only[wRet,Qp,Qd,wNil,Qf6,Xg,Qw,look,Qk,Qp1,Qcb];have y:∀p∈a.map (·.1),p∈R:=λp l=>by
   obtain⟨t,c,rfl⟩:=As.mp l;exact h t c
  have u:a.length<64:=by
   have:=few b y;rw[Ap]at this;lia
  refine⟨_,Qj8,by rw[Qob];exact u,λout l ho=>?_⟩;obtain⟨G,g2,J,I⟩:=Qz0 b l ho;have A:out.length=a.length:=by rw[l.length_eq,Ap]
  refine⟨λi ys=>i<=out.length/\ys=(nzf ((out.take i).map λp=>(p,get a p))).map pr2,⟨Dq _,rfl⟩,?_,?_⟩
  ·rintro i d ys hd ⟨C,rfl⟩;rw[Bh]at hd;obtain⟨p,j,hd⟩:=B8.mp hd;subst hd;have hi:=(Au.mp j).1;have z:=Qei (l.mem_iff.mp (Bk j));have e:out.take (i+1)=out.take i++[p]:=by rw[Mf,j];rfl
   have x:(nzf ((out.take i).map λp=>(p,get a p))).length<=i:=by
    refine Dg (D6 _ _) ?_;rw[Ap,Ma];lia
   refine⟨by rw[Ap];exact Qkr (by lia),?_⟩;simp only[blkE,Ar,look,Bm,Q6,wTup,Qd,wBin,wNil,Av,Bc,Bp,Nat.reduceAdd,sz2,D.pure,Qj,Dm,true_and,Qw,Qk,Qsk,z,r_bl,wC,Q1a,Zv];rw[e,B7];unfold nzf at *;rw[Rl];by_cases h0:get a p=0
   ·simp only[h0,decide_true,Fk,Bq,reduceIte];refine⟨by lia,?_⟩;rw[show([p].map λp=>(p,get a p)).filter (λt=>decide (t.2≠0))=[] by simp[h0],Dz]
   ·simp only[h0,decide_false,Bool.not_false,reduceIte];refine⟨by lia,?_⟩;rw[show([p].map λp=>(p,get a p)).filter (λt=>decide (t.2≠0))=[(p,get a p)] by simp[h0],B7];rfl
  ·rintro ys ⟨_,rfl⟩;have F:out.take (out.map D.int).length=out:=by rw[Ap];exact Du (At _)
   rw [F];simp only[Ap,Xf,Jv,true_and];refine⟨Fo (Qkr (by lia)),?_⟩;exact k _ G (by lia) (λt c=>by
    obtain⟨p,o,rfl⟩:=As.mp (Do.mp c).1;exact y p (l.mem_iff.mp o)) (by lia) λf=>by rw[g2,g]
theorem Qht{K:Frag}(F:Fun K "gathered" "gathered" Yz f fd)(B:Bn K mg):FnOk P w K mg base CX0 1 f fd ["terms"] (spR K Vs):=by
 refine Qal (T:=Qdv) F Vx rfl (by decide) (λds kk h=>?_) (Qlh B) (λds kk h=>?_)
 ·obtain⟨ts,R,rfl|rfl,_⟩:=h
  ·rfl
  ·rfl
 ·obtain⟨ts,R,rfl|rfl,b,a,c,k⟩:=h
  ·simp only[Qaa,env0,rowD,Av,Bc,Ar,Bm,Bw,Bi,Bo,wSeq,wSet,Vf,Xg,Qw,wC,Qk,look,Ax,Az,Db,Dh,Qcb,Jv,true_and];exact Qa0 b a c k
  ·simp only[Qaa,env0,rowD,Av,Bc,Ar,Bm,Bw,Bi,Bo,wSeq,wSet,Vf,Xg,Qw,wC,Qk,look,Ax,Az,Db,Dh,Qf4,Jv,true_and];exact Qa0 b a c k
theorem Qld(g:Int×Int->D)(hz:ts.length<sizeLine)(c:∀t∈ts,∀Q':D->PV.Env->Prop,Q' (g t) (Vv ρ1 (.int t.1) (.int t.2) ix)->we (Vv ρ1 (.int t.1) (.int t.2) ix) Q')(e:Q (.lst (ts.map g)) ρ1):Qov (ts.map pr2) wAll we ρ1 ix Q:=by
 refine⟨λi ys=>i<=ts.length/\ys=(ts.take i).map g,⟨Dq _,rfl⟩,?_,?_⟩
 ·rintro i d ys hd ⟨hi,rfl⟩;rw[Bh]at hd;obtain⟨t,b,hd⟩:=B8.mp hd;subst hd;have a:=(Au.mp b).1;refine⟨by rw[Ap,Ma];lia,?_⟩;simp only[pr2,Qsl,wAll,reduceIte];refine c t (Bk b) _ ⟨a,?_⟩;rw[Mf,b,B7];rfl
 ·rintro ys ⟨_,rfl⟩;have f:ts.take (ts.map pr2).length=ts:=by rw[Ap];exact Du (At _)
  rw[f];exact⟨by rw[Ap];exact Fo hz,e⟩
noncomputable def Qgs:GA:=λds k=>∃(a b:T)(R:List Int),ds=[.tup (a.map pr2),.tup (b.map pr2)]/\a.length+b.length<=50000/\R.length<64/\(∀t∈a,t.1∈R)/\(∀t∈b,t.1∈R)/\∀us:T,Is us->us.length<=a.length+b.length->(∀t∈us,t.1∈R)->nrm us<=nrm a+nrm b->(∀f,ev f us=ev f a+ev f b)->k (.tup (us.map pr2))
abbrev Qdz:Stmt:=top 2
theorem Qud:FnScope ["one","other"] ["one","other"] (Qc Qdz):=⟨rfl,rfl,rfl,by decide +kernel,rfl,by decide +kernel,by decide +kernel⟩
def Qsc:Tg:={ own:=λi=>false,io:=[] }
def Qr7:WS:=(wRet (Qp Vs (Qd (wBin J8 (wVar 0) (wVar 1)) wNil)))
theorem Q0i{K:Frag}(B:Bn K mg)(c:Cal P w K mg base "gathered" 1 ["terms"] (spR K Vs)):∀(a:Value)(A:Around)(outer:List Dr)(s:Shared)(H:Hp)(E:XK),Room 1 (A.deeper (envOfC "plus" (Qc Qdz) s.heap.objs.size f a))->SVs (cxOf CX0 P w K mg base ["one","other"] "plus" (Qc Qdz) f a A outer s H E).nox Qsc (Qr Qdz) Qr7:=λa A outer s H E b=>
  (Ql (Jj (Jl c (b.mono (by decide)) (Qa (Qv Q3 (Qb 0) (Qb 1)) Qf))))
theorem Qvg{K:Frag}(F:Fun K "plus" "plus" Qdz f fd)(B:Bn K mg)(m:Cal P w K mg base "gathered" 1 ["terms"] (spR K Vs)):FnOk P w K mg base CX0 2 f fd ["one","other"] (spR K Qgs):=by
 refine Qal (T:=Qsc) F Qud rfl (by decide) (λds kk h=>?_) (Q0i B m) (λds kk h=>?_)
 ·obtain⟨a,b,R,rfl,_⟩:=h;rfl
 ·obtain⟨a,b,R,rfl,g,c,e,l,k⟩:=h;simp only[Qr7,wRet,Qp,Qd,wBin,env0,Ar,Bm,Av,Bc,Bp,Nat.reduceAdd,Bw,Bi,wNil,Qw,look,Qk,Qhp,Jv,Ap,true_and];refine⟨Fo (Qkr (by lia)),a++b,R,.inr (by rw[B7]),by rw[Dy];exact g,c,λt j=>(Bx.mp j).elim (e t) (l t),λus h1 h2 i d h4=>?_⟩;exact k us h1 (by rw[Dy]at h2;exact h2) i (by rw[Qai]at d;exact d) λf=>by rw[h4,Qcy]
def Yf:GA:=λds k=>∃a:T,ds=[.tup (a.map pr2)]/\a.length<=50000/\k (.tup ((turn a).map pr2))
abbrev Jh:Stmt:=top 3
theorem Qb9:FnScope ["one"] ["one"] (Qc Jh):=⟨rfl,rfl,rfl,by decide +kernel,rfl,by decide +kernel,by decide +kernel⟩
def Ge:Tg:={ own:=λi=>false,io:=[] }
def Gc:WS:=(wRet (Qp Vb (Qd (G6 (wRev (Qd (wVar 0) wNil)) wAll (Q6 (wTup (Qd (wUn dNeg (wVar 0)) (Qd (wVar 1) wNil)))) []) wNil)))
theorem Qdn{K:Frag}(B:Bn K mg):∀(a:Value)(A:Around)(outer:List Dr)(s:Shared)(H:Hp)(E:XK),Room 0 (A.deeper (envOfC "turned_about" (Qc Jh) s.heap.objs.size f a))->SVs (cxOf CX0 P w K mg base ["one"] "turned_about" (Qc Jh) f a A outer s H E).nox Ge (Qr Jh) Gc:=λa A outer s H E b=>
  (Ql (Jj (Jg Y8 B.nb_tuple J9 (Qa (Qbl (Qbp [] (Qzr B.nb_reversed (Qa (Qb 0) Qf)) (λ_ _ _ _ _=>Qc5) (λ_ _ _ _ _=>(Q4 (Vu (Qa (Qz1 Qsa (Qb 0)) (Qa (Qb 1) Qf)))))) (X3 (Qc Jh) ["one"] (by decide +kernel))) Qf))))
theorem Qck{K:Frag}(F:Fun K "turned_about" "turned_about" Jh f fd)(B:Bn K mg):FnOk P w K mg base CX0 1 f fd ["one"] (spR K Yf):=by
 refine Qal (T:=Ge) F Qb9 rfl (by decide) (λds kk h=>?_) (Qdn B) (λds kk h=>?_)
 ·obtain⟨a,rfl,_⟩:=h;rfl
 ·obtain ⟨a,rfl,c,k⟩:=h;simp only[Gc,wRet,Qp,Qd,G6,wRev,env0,Ar,Bm,Av,Bc,Bp,Bw,Bi,wNil,Qw,look,Qk,Qxu,Jv,true_and];rw[← List.map_reverse];refine Qld (λt=>pr2 (-t.1,t.2)) (by rw[R6];exact Qkr (by lia)) (λt d Q' b=>?_) ?_
  ·simp only[Q6,wTup,Qd,wUn,Vv,Bm,wNil,Av,Bc,Bp,Nat.reduceAdd,sz2,D.pure,Qj,Dm,true_and,Qw,look,Qk,Qxi];exact b
  ·have e:(a.reverse.map λt=>pr2 (-t.1,t.2))=(turn a).map pr2:=by unfold turn;rw[Bg];rfl
   rw[e];simp only[Xf,Jv,true_and];exact k
end K54
variable {p:Int}
namespace K54
open PySem PySem.Spec L2 PV
open PyProof.Rows (envOfC)
open M32
def Xu:GA:=λds k=>∃(ns:List Int)(r:Nat),ds=[.ftp (ns.map .int),.int r]/\r<=40/\k (.tup (wt ((ns.count 0:Int)-(ns.count 1:Int)-2*(r:Int)) r (r+1)))
theorem Quv:Qj (wt p r n)=true:=Qo λ_ _=>rfl
abbrev Uw:Stmt:=top 23
theorem Vl:FnScope ["ways","rings","power","number","terms","k"] ["ways","rings"] (Qc Uw):=⟨rfl,rfl,rfl,by decide +kernel,rfl,by decide +kernel,by decide +kernel⟩
def Qi2:Tg:={ own:=λi=>i==2||i==3||i==4||i==5,io:=[] }
noncomputable def Qip:WS:=(wSeq (wSet 2 (wBin dSub (wBin dSub (Qis (wVar 0) (Qd (wC (.int 0)) wNil)) (Qis (wVar 0) (Qd (wC (.int 1)) wNil))) (wBin dMul (wC (.int 2)) (wVar 1))))
 (wSeq (wSet 3 (wIfE (wBl (wBin dEq (wBin dMod (wVar 1) (wC (.int 2))) (wC (.int 0)))) (wC (.int 1)) (wUn dNeg (wC (.int 1)))))
 (wSeq (wSet 4 (wLst wNil))
 (wSeq (wFor (Qhl (Qd (wBin J8 (wVar 1) (wC (.int 1))) wNil)) (gN 5) (wSeq (Gk (wMt 4 "list" Qe8 (Qd (Q6 (wTup (Qd (wBin J8 (wVar 2) (wBin dMul (wC (.int 4)) (wVar 5))) (Qd (wVar 3) wNil)))) wNil)))
 (wSet 3 (wBin dDiv (wBin dMul (wVar 3) (wBin dSub (wVar 1) (wVar 5))) (wBin J8 (wVar 5) (wC (.int 1)))))))
 (wRet (Qp Vb (Qd (wVar 4) wNil)))))))
theorem Qrx{K:Frag}(B:Bn K mg):∀(a:Value)(A:Around)(outer:List Dr)(s:Shared)(H:Hp)(E:XK),Room 0 (A.deeper (envOfC "weight" (Qc Uw) s.heap.objs.size f a))->SVs (cxOf CX0 P w K mg base ["ways","rings","power","number","terms","k"] "weight" (Qc Uw) f a A outer s H E).nox Qi2 (Qr Uw) Qip:=λa A outer s H E b=>
  (Qe (Qy (i:=2) (Qv Qgh (Qv Qgh (Qj5 (Qb 0) (Qa Qi Qf)) (Qj5 (Qb 0) (Qa Qi Qf))) (Qv Y9 Qi (Qb 1))) Vl.nd)
  (Qe (Qy (i:=3) (Q2d (Zt (Qvi b.units) (Qv Qd4 (Qb 1) Qi) Qi) Qi (Qz1 Qsa Qi)) Vl.nd)
  (Qe (Qy (i:=4) (Xx Qf) Vl.nd)
  (Qe (Ys Dv (Uk B.nb_range (Qa (Qv Q3 (Qb 1) Qi) Qf)) (Q0 (i:=5) Vl.nd) (Qe (Gn (Qfa (i:=4) Qna T0 PySem.F.slot_list_append PySem.F.type_list_append (Qa (Q4 (Vu (Qa (Qv Q3 (Qb 2) (Qv Y9 Qi (Qb 5))) (Qa (Qb 3) Qf)))) Qf)))
  (Ql (Qy (i:=3) (Qv Qjn (Qv Y9 (Qb 3) (Qv Qgh (Qb 1) (Qb 5))) (Qv Q3 (Qb 5) Qi)) Vl.nd))))
  (Ql (Jj (Jg Y8 B.nb_tuple J9 (Qa (Qb 4) Qf))))))))
theorem Qmw{K:Frag}(F:Fun K "weight" "weight" Uw f fd)(B:Bn K mg):FnOk P w K mg base CX0 1 f fd ["ways","rings"] (spR K Xu):=by
 refine Qal (T:=Qi2) F Vl rfl (by decide) (λds kk h=>?_) (Qrx B) (λds kk h=>?_)
 ·obtain⟨ns,r,rfl,_⟩:=h;rfl
 ·obtain ⟨ns,r,rfl,m,k⟩:=h;have l:∀s:Int,s=sg r->s=num r 0:=λs h=>by rw[Qjo];exact h
  have a:∀(s:Int)(o:Option D),s=sg r->forI (rngD 0 ((r:Int)+1).toNat) (gN 5) (wSeq (Gk (wMt 4 "list" Qe8 (Qd (Q6 (wTup (Qd (wBin J8 (wVar 2) (wBin dMul (wC (.int 4)) (wVar 5))) (Qd (wVar 3) wNil)))) wNil)))
    (wSet 3 (wBin dDiv (wBin dMul (wVar 3) (wBin dSub (wVar 1) (wVar 5))) (wBin J8 (wVar 5) (wC (.int 1))))))
    { nx:=wRet (Qp Vb (Qd (wVar 4) wNil)) { nx:=λρ=>kk .non,rt:=λd ρ=>kk d },rt:=λd ρ=>kk d }
    [some (.ftp (ns.map .int)),some (.int r),some (.int ((ns.count 0:Int)-(ns.count 1:Int)-2*(r:Int))),some (.int s),some (.lst []),o]:=by
   intro s o j;refine⟨λi ρ=>∃e:Option D,ρ=[some (.ftp (ns.map .int)),some (.int r),some (.int ((ns.count 0:Int)-(ns.count 1:Int)-2*(r:Int))),some (.int (num r i)),some (.lst (wt ((ns.count 0:Int)-(ns.count 1:Int)-2*(r:Int)) r i)),e],⟨o,by rw[j,Qjo];rfl⟩,?_,?_⟩
   ·rintro i d ρ hd ⟨e,rfl⟩;obtain⟨hi,rfl⟩:=Qep hd;have c:i<=r:=by lia
    have h1:-18446744073709551616<(r:Int)-(0+(i:Int)):=by lia
    have h2:(r:Int)-(0+(i:Int))<18446744073709551616:=by lia
    have g:0<0+(i:Int)+1:=by lia
    have h4:0+(i:Int)+1<1073741824:=by lia
    simp only[gN,wSeq,Gk,wMt,Az,Ax,look,Qxg,A0n,Qd,Q6,wTup,wBin,wC,wNil,Av,Bc,Bp,Nat.reduceAdd,D.pure,Qj,Dm,wSet,Qw,Qk,Zw,Qp0,Int.reduceNeg,h1,h2,Qsj,g,h4,Qje,Q1e,Qlo,Int.reduceLT,Xh,true_and];refine⟨by decide,Ds (show i<=1000 by lia) (by decide),some (.int (0+(i:Int))),?_⟩;rw[Qto,Kn,Qqo c]
   ·rintro ρ ⟨e,rfl⟩;rw[Yl,show((r:Int)+1).toNat=r+1 by lia];simp only[wRet,Qp,Qd,wNil,Qw,look,Qk,Xf,Quv,true_and];exact k
  simp only[Qip,wSeq,wSet,wBin,Qis,env0,Ar,Bm,Av,Bc,Bp,Nat.reduceAdd,Bo,Bw,Bi,Qd,wC,wNil,wIfE,wLst,Vf,Qf5,Qw,wUn,Qxi,Int.reduceNeg,r_bl,look,Az,Ax,Qk,Zw,Qcc,Int.reducePow,Int.reduceLT,Qjd,Qxo,Zv,Xh,Q1l,Qxv,true_and,Qp0];split
  ·rename_i b;have b:(r:Int)%2=0:=of_decide_eq_true b;exact⟨by decide,by lia,by lia,Vp,a 1 none (by unfold sg;rw[if_pos (by lia)])⟩
  ·rename_i b;have b:¬(r:Int)%2=0:=λz=>b (decide_eq_true z);exact⟨by decide,by lia,by lia,Vp,a (-1) none (by unfold sg;rw[if_neg (by lia)])⟩
def bit(n i:Nat):Nat:=n/2 ^ i%2
theorem Qwn(h:n<2 ^ t):bit n t=0:=by
 unfold bit;rw[Oe h]
theorem Qru(h:n<2 ^ t):bit (2 ^ t+n) t=1:=by
 unfold bit;rw[Nat.add_div_left _ (Ko t),Oe h]
theorem Qwo(h:i<t):bit (2 ^ t+n) i=bit n i:=by
 unfold bit;have e:2 ^ t=2 ^ i*(2*2 ^ (t-i-1)):=by
  rw[← Nat.mul_assoc,Kb (2 ^ i) 2,← Nat.pow_succ',← Nat.pow_add];congr 1;lia
 rw[e,Nat.mul_add_div (Ko i)];lia
def Qbd(m n:Nat):List D:=(Aq m).map λi=>.int (bit n i:Int)
def Qaf(m:Nat):List D:=(Aq (2 ^ m)).map λn=>.ftp (Qbd m n)
def catB(b:Int):D->D
 | .ftp l=>.ftp (l++[.int b])
 |d=>d
theorem Qg6:Qbd (t+1) n=Qbd t n++[.int (bit n t:Int)]:=by
 unfold Qbd;rw[M0,B7];rfl
theorem Ql3:(Qaf t).map (catB 0)++(Qaf t).map (catB 1)=Qaf (t+1):=by
 unfold Qaf;rw[show 2 ^ (t+1)=2 ^ t+2 ^ t by rw[Nat.pow_succ];lia,List.range_add,B7,Bg,Bg,Bg];congr 1
 ·refine B0 λn a=>?_;show D.ftp (Qbd t n++[.int 0])=_;rw[Qg6,Qwn (Bl.mp a)];rfl
 ·refine B0 λn a=>?_;show D.ftp (Qbd t n++[.int 1])=D.ftp (Qbd (t+1) (2 ^ t+n));rw[Qg6,Qru (Bl.mp a)];congr 2;unfold Qbd;exact B0 λi hi=>by rw[Qwo (Bl.mp hi)]
theorem Qbf:(Qaf t).length=2 ^ t:=by simp[Qaf]
theorem Ql4:Qj (Qaf t)=true:=Qo λ_ _=>rfl
def Vt:GA:=λds k=>∃m:Nat,ds=[.int m]/\m<=10/\k (.lst (Qaf m))
abbrev Yq:Stmt:=top 24
theorem Vy:FnScope ["many","rows","k"] ["many"] (Qc Yq):=⟨rfl,rfl,rfl,by decide +kernel,rfl,by decide +kernel,by decide +kernel⟩
def Qdw:Tg:={ own:=λi=>i==1||i==2,io:=[] }
noncomputable def Qds:WS:=(wSeq (wSet 1 (wLst (Qd (Qhk wNil) wNil)))
 (wSeq (wFor (Qhl (Qd (wVar 0) wNil)) (gN 2) (wSet 1 (wBin J8 (Qeh (V6 (wVar 1)) wAll (wBin Qop (wVar 0) (Qhk (Qd (wC (.int 0)) wNil))) []) (Qeh (V6 (wVar 1)) wAll (wBin Qop (wVar 0) (Qhk (Qd (wC (.int 1)) wNil))) []))))
 (Qab 1)))
theorem Qli{K:Frag}(B:Bn K mg):∀(a:Value)(A:Around)(outer:List Dr)(s:Shared)(H:Hp)(E:XK),Room 0 (A.deeper (envOfC "all_ways" (Qc Yq) s.heap.objs.size f a))->SVs (cxOf CX0 P w K mg base ["many","rows","k"] "all_ways" (Qc Yq) f a A outer s H E).nox Qdw (Qr Yq) Qds:=λa A outer s H E b=>
  (Qe (Qy (i:=1) (Xx (Qa (Qh7 Qf) Qf)) Vy.nd)
  (Qe (Ys Dv (Uk B.nb_range (Qa (Qb 0) Qf)) (Q0 (i:=2) Vy.nd) (Ql (Qy (i:=1) (Qv Q3 (Xz (Qam [] (V5 (Qb 1)) (λ_ _ _ _ _=>Qc5) (λ_ _ _ _ _=>(Qv Qm2 (Qb 0) (Qh7 (Qa Qi Qf))))) (Vc (Qc Yq) ["many","rows","k"] (by decide +kernel))) (Xz (Qam [] (V5 (Qb 1)) (λ_ _ _ _ _=>Qc5) (λ_ _ _ _ _=>(Qv Qm2 (Qb 0) (Qh7 (Qa Qi Qf))))) (Vc (Qc Yq) ["many","rows","k"] (by decide +kernel)))) Vy.nd)))
  (Ql (Qae (i:=1)))))
theorem Qhu{K:Frag}(F:Fun K "all_ways" "all_ways" Yq f fd)(B:Bn K mg):FnOk P w K mg base CX0 1 f fd ["many"] (spR K Vt):=by
 refine Qal (T:=Qdw) F Vy rfl (by decide) (λds kk h=>?_) (Qli B) (λds kk h=>?_)
 ·obtain⟨m,rfl,_⟩:=h;rfl
 ·obtain ⟨m,rfl,hm,k⟩:=h;simp only[Qds,wSeq,wSet,wLst,Qd,Qhk,wNil,Qj,Bc,sz0,Av,Bp,sz1,env0,Ar,Bm,Nat.reduceAdd,Bo,Bw,Bi,Az,Ax,Vf,Qf5,Qw,look,Qk,Qcc,Int.reducePow,Int.reduceNeg,Fh,true_and];refine⟨by lia,by lia,Vp,λi ρ=>i<=m/\∃o,ρ=[some (.int m),some (.lst (Qaf i)),o],⟨Dq _,none,rfl⟩,?_,?_⟩
  ·rintro i d ρ hd ⟨hi,o,rfl⟩;obtain⟨c,rfl⟩:=Qep hd;have l:∀j,j<=10->2 ^ j<sizeLine:=λj p=>Ds (P7 (by lia) p) (by decide);have e:=l i (by lia);have q:=l (i+1) (by lia);have one:∀(b:Int)(d:D),d∈Qaf i->∀Q':D->PV.Env->Prop,Q' (catB b d) [some d]->wBin Qop (wVar 0) (Qhk (Qd (wC (D.int b)) wNil)) [some d] Q':=λb d hd Q' a=>by
    obtain⟨n,r,rfl⟩:=As.mp hd;simp only[wBin,Qhk,Qd,wC,wNil,Qj,D.pure,B5,Av,Bc,Bp,sz1,true_and,Qw,look,Qk,Qur];refine⟨?_,a⟩;show(Qbd i n).length+1<=sizeLine;unfold Qbd;rw[Ap,Bz];exact Fo (Ds (show i+1<=1000 by lia) (by decide))
   simp only[gN,wSet,wBin,Az,Ax,Qf6,Xg,Qw,look,Qk,Qcb];refine Uu (catB 0) (by rw[Qbf];exact e) (λd hd Q' a=>one 0 d hd Q' a) ?_;simp only[look,Qk,Qcb];refine Uu (catB 1) (by rw[Qbf];exact e) (λd hd Q' a=>one 1 d hd Q' a) ?_;simp only[Az,Ax,Qer];have g:∀b,Qj ((Qaf i).map (catB b))=true:=λb=>by
    unfold Qaf;rw[Bg];exact Qo λ_ _=>rfl
   refine⟨g 0,g 1,?_,c,some (.int (0+(i:Int))),by rw[Ql3]⟩;rw[Ap,Ap,Qbf,show 2 ^ i+2 ^ i=2 ^ (i+1) by rw[Nat.pow_succ];lia];exact Fo q
  ·rintro ρ ⟨hi,o,rfl⟩;rw[Yl];simp only[Qab,look,Qk];exact k
end K54
variable {c:Mx.MI}
namespace K54
open PySem PySem.Spec L2 PV
open PyProof.Rows (envOfC)
theorem big(h:n<=1000):n<sizeLine:=Ds h (by decide)
def mirA(m:Nat)(A:Nat->Int)(i:Nat):Int:=if i<4*m then A (4*(i/4)+(i%4+1)%4)else A i
def mrF:D->D
 | .tup ds=>.tup (ds.drop 1++ds.take 1)
 |d=>d
theorem Qsi{a:Type}{f:Nat->a}:(Aq 4).map f=[f 0,f 1,f 2,f 3]:=rfl
theorem Q2i{a b c:D}:cutD [a,b,c,d] (some 1) none=[b,c,d]:=rfl
theorem Q2h{a b c:D}:cutD [a,b,c,d] none (some 1)=[a]:=rfl
theorem Qy1:((Aq m).map λk=>D.tup ((Aq 4).map λj=>.int (A (4*k+j)))).map mrF=(Aq m).map λk=>D.tup ((Aq 4).map λj=>.int (mirA m A (4*k+j))):=by
 rw[Bg];apply B0;intro k a;have a:=Bl.mp a;simp only[A0d,Qsi,mrF,mirA];rw[if_pos (by lia),if_pos (by lia),if_pos (by lia),if_pos (by lia)];rw[show 4*((4*k+0)/4)+((4*k+0)%4+1)%4=4*k+1 by lia,show 4*((4*k+1)/4)+((4*k+1)%4+1)%4=4*k+2 by lia,show 4*((4*k+2)/4)+((4*k+2)%4+1)%4=4*k+3 by lia,show 4*((4*k+3)/4)+((4*k+3)%4+1)%4=4*k+0 by lia];rfl
theorem Qy0:((Aq e).map λj=>D.int (mirA m A (4*m+j)))=(Aq e).map λj=>D.int (A (4*m+j)):=by
 apply B0;intro j _;unfold mirA;rw[if_neg (by lia)]
theorem Qez:Qj ((Aq m).map λk=>D.tup ((Aq 4).map λj=>.int (A (4*k+j))))=true:=Qo λ_ _=>by simp only[D.pure];exact Qo λ_ _=>rfl
theorem Qvp:mirA m A=Ly.aM m A:=by
 funext i;unfold mirA Ly.aM Ly.mi
 split<;>rfl
def Zn:GA:=λds k=>∃(m e:Nat)(A:Nat->Int)(r:Int),ds=[webD m e A r]/\m<=100/\k (webD m e (Ly.aM m A) r)
abbrev Yy:Stmt:=top 15
theorem Qca:FnScope ["web","crossings"] ["web"] (Qc Yy):=⟨rfl,rfl,rfl,by decide +kernel,rfl,by decide +kernel,by decide +kernel⟩
def Qdu:Tg:={ own:=λi=>i==1,io:=[] }
noncomputable def Qdr:WS:=(wSeq (wSet 1 (Qp Vb (Qd (Qeh (V6 (wBin dIx (wVar 0) (wC (.int 0)))) wAll (wBin J8 (wSlT (wVar 0) (Qde (wC (.int 1))) Qbx) (wSlT (wVar 0) Qbx (Qde (wC (.int 1))))) []) wNil)))
 (wRet (Q6 (wTup (Qd (wVar 1) (Qd (wBin dIx (wVar 0) (wC (.int 1))) (Qd (wBin dIx (wVar 0) (wC (.int 2))) wNil)))))))
theorem Qlg{K:Frag}(B:Bn K mg):∀(a:Value)(A:Around)(outer:List Dr)(s:Shared)(H:Hp)(E:XK),Room 0 (A.deeper (envOfC "mirrored" (Qc Yy) s.heap.objs.size f a))->SVs (cxOf CX0 P w K mg base ["web","crossings"] "mirrored" (Qc Yy) f a A outer s H E).nox Qdu (Qr Yy) Qdr:=λa A outer s H E b=>
  (Qe (Qy (i:=1) (Jg Y8 B.nb_tuple J9 (Qa (Xz (Qam [] (V5 (Jr (J0 (Q8 b)) (Qb 0) Qi)) (λ_ _ _ _ _=>Qc5) (λ_ _ _ _ _=>(Qv Q3 (Qcx (Qb 0) (Ug Qi) Qah) (Qcx (Qb 0) Qah (Ug Qi))))) (Vc (Qc Yy) ["web","crossings"] (by decide +kernel))) Qf)) Qca.nd)
  (Ql (Jj (Q4 (Vu (Qa (Qb 1) (Qa (Jr (J0 (Q8 b)) (Qb 0) Qi) (Qa (Jr (J0 (Q8 b)) (Qb 0) Qi) Qf))))))))
theorem Qhs{K:Frag}(F:Fun K "mirrored" "mirrored" Yy f fd)(B:Bn K mg):FnOk P w K mg base CX0 1 f fd ["web"] (spR K Zn):=by
 refine Qal (T:=Qdu) F Qca rfl (by decide) (λds kk h=>?_) (Qlg B) (λds kk h=>?_)
 ·obtain⟨m,e,A,r,rfl,_⟩:=h;rfl
 ·obtain⟨m,e,A,r,rfl,hm,k⟩:=h;rw[← Qvp]at k;simp only[Qdr,wSeq,wSet,Qp,Qd,env0,webD,Ar,Bm,Av,Bc,Bp,Nat.reduceAdd,Bo,Bw,Bi,wNil,wRet,Q6,wTup,wBin,wC,sz3,D.pure,Qj,Dm,true_and,Qw,Qf6,Xg,look,Qk,Qcd,Qdp,Db,Qf4];refine⟨Qez,Uu mrF (by simp;exact big (by lia)) (λd hd Q' a=>?_) ?_⟩
  ·obtain⟨kk,b,rfl⟩:=As.mp hd;simp only[Qsi,blkE,Bm,wBin,wSlT,Qbx,Qf3,wC,Qce,Qw,look,Qk,Qsm,Qj,D.pure,B5,Q2h,true_and,Q2i,Qhp,Av,Bc,Bp,Nat.reduceAdd,sz4,Bw,Bi]at a ⊢;exact a
  ·simp only[Qy1,Az,Ax,look,Qk,Qcd,Qpa,Dh,Db,D.pure,Dm,Qdc,Xf,Qez,S5,true_and];unfold webD at k;rw[Qy0]at k;exact⟨Qo (λ_ _=>rfl),k⟩
theorem Qf9(h:Qj xs=true)(b:∀y∈ys,y∈xs):Qj ys=true:=Ye.mpr λy a=>Ye.mp h y (b y a)
theorem Qt8(b:n<=e):((Aq e).map λj=>D.int (A (4*m+j))).drop n++((Aq e).map λj=>D.int (A (4*m+j))).take n=(Aq e).map λj=>D.int (Ly.aS m e n A (4*m+j)):=by
 refine Iu (by simp;lia) λj h1 h2=>?_;simp only[Ap,Bz]at h2;have a:Ly.aS m e n A (4*m+j)=A (4*m+(j+n)%e):=by
  unfold Ly.aS;rw[Ly.Xe h2];unfold Ly.rot;rw[show e-(e-n)=n by lia]
 rw[Fx,Fs,a];by_cases c:j<e-n
 ·rw[Of (by simp;lia),List.getElem_drop,Fx,Fs,Nu (by lia),Nat.add_comm j n]
 ·rw[L0 (by simp;lia),List.getElem_take,Fx,Fs];simp only[L6,Ap,Bz];rw[show j+n=(j-(e-n))+e by lia,T7,Nu (by lia)]
theorem Qw6:((Aq m).map λk=>D.tup ((Aq 4).map λj=>.int (Ly.aS m e n A (4*k+j))))=(Aq m).map λk=>D.tup ((Aq 4).map λj=>.int (A (4*k+j))):=by
 refine B0 λk b=>?_;have b:=Bl.mp b;congr 1;refine B0 λj a=>?_;have a:=Bl.mp a;unfold Ly.aS;rw[Ly.Z3 (by lia)]
def Uo:GA:=λds k=>∃(m e:Nat)(A:Nat->Int)(r:Int)(n:Nat),ds=[webD m e A r,.int n]/\n<=e/\e<=100/\k (webD m e (Ly.aS m e n A) r)
abbrev Vn:Stmt:=top 16
theorem Qks:FnScope ["web","many"] ["web","many"] (Qc Vn):=⟨rfl,rfl,rfl,by decide +kernel,rfl,by decide +kernel,by decide +kernel⟩
def Qfy:Tg:={ own:=λi=>false,io:=[] }
noncomputable def Qfq:WS:=(wRet (Q6 (wTup (Qd (wBin dIx (wVar 0) (wC (.int 0))) (Qd (wBin J8 (wSlT (wBin dIx (wVar 0) (wC (.int 1))) (Qde (wVar 1)) Qbx) (wSlT (wBin dIx (wVar 0) (wC (.int 1))) Qbx (Qde (wVar 1)))) (Qd (wBin dIx (wVar 0) (wC (.int 2))) wNil))))))
theorem Qo8{K:Frag}(B:Bn K mg):∀(a:Value)(A:Around)(outer:List Dr)(s:Shared)(H:Hp)(E:XK),Room 0 (A.deeper (envOfC "shifted" (Qc Vn) s.heap.objs.size f a))->SVs (cxOf CX0 P w K mg base ["web","many"] "shifted" (Qc Vn) f a A outer s H E).nox Qfy (Qr Vn) Qfq:=λa A outer s H E b=>
  (Ql (Jj (Q4 (Vu (Qa (Jr (J0 (Q8 b)) (Qb 0) Qi) (Qa (Qv Q3 (Qcx (Jr (J0 (Q8 b)) (Qb 0) Qi) (Ug (Qb 1)) Qah) (Qcx (Jr (J0 (Q8 b)) (Qb 0) Qi) Qah (Ug (Qb 1)))) (Qa (Jr (J0 (Q8 b)) (Qb 0) Qi) Qf)))))))
theorem Qk0{K:Frag}(F:Fun K "shifted" "shifted" Vn f fd)(B:Bn K mg):FnOk P w K mg base CX0 1 f fd ["web","many"] (spR K Uo):=by
 refine Qal (T:=Qfy) F Qks rfl (by decide) (λds kk h=>?_) (Qo8 B) (λds kk h=>?_)
 ·obtain⟨m,e,A,r,n,rfl,_⟩:=h;rfl
 ·obtain⟨m,e,A,r,s,rfl,a,d,k⟩:=h;have l:Qj ((Aq m).map λk=>D.tup ((Aq 4).map λj=>.int (A (4*k+j))))=true:=Qez;have c:Qj ((Aq e).map λj=>D.int (A (4*m+j)))=true:=Qo λ_ _=>rfl;have i:s<=((Aq e).map λj=>D.int (A (4*m+j))).length:=by simpa using a
  have p:((Aq e).map λj=>D.int (A (4*m+j))).length<=100:=by simpa using d
  unfold webD at k ⊢;rw[Qw6,← Qt8 a]at k;generalize((Aq m).map λk=>D.tup ((Aq 4).map λj=>.int (A (4*k+j))))=C at l k ⊢;generalize((Aq e).map λj=>D.int (A (4*m+j)))=E at c i p k ⊢;have hd:Qj (E.drop s)=true:=Qf9 c λy b=>List.mem_of_mem_drop b;have g:Qj (E.take s)=true:=Qf9 c λy b=>S3 b;have o:Qj (E.drop s++E.take s)=true:=Ye.mpr λy b=>(Bx.mp b).elim (Ye.mp hd y) (Ye.mp g y);simp only[Qfq,wRet,Q6,wTup,Qd,wBin,env0,Ar,Bm,Av,Bc,Bp,Nat.reduceAdd,Bw,Bi,wC,wSlT,Qbx,wNil,D.pure,Qj,Dm,Qw,Qf3,look,Qk,Qcd,Qpa,Dh,Db,Qce,Qdc,Qsm,c,Qth,true_and,Qkd i,Qhp,hd,g,o,Qdp,l];exact⟨by simp;exact Fo (big (by lia)),by decide,k⟩
def encN(L:List Nat)(f:Nat->Nat):List (Key×D):=L.map λ(i:Nat)=>(.inl (i:Int),.int (f i:Int))
theorem Qbn{f:Nat->Nat}{i:Nat}:∀{L:List Nat},valD (encN L f) (.inl (i:Int))=if i∈L then some (.int (f i:Int))else none
 | []=>by simp[encN,G9]
 | j::L=>by
  have a:=Qbn (f:=f) (i:=i) (L:=L);unfold encN at a ⊢;rw[Ar,Q1,a];by_cases h:i=j
  ·subst h;simp
  ·have:¬(Fm (j:Int):Key)=Fm (i:Int):=λz=>h (by have:=M9 z;lia);simp[this,h]
theorem Qff{f:Nat->Nat}(h:i∉L):putD (encN L f) (.inl (i:Int)) (.int (f i:Int))=encN (L++[i]) f:=by
 rw[Qji _ (by rw[Qbn,if_neg h])];unfold encN;rw[B7];rfl
def Inv(e:Nat)(J:Nat->Nat):Prop:=∀i,i<e->J i<e/\J (J i)=i/\J i≠i
def prts(J:Nat->Nat)(l:List Nat):List Nat:=l.flatMap λi=>[i,J i]
theorem Qa2:i∈upJ J e↔i<e/\i<J i:=by
 unfold upJ;rw[Do,Bl,decide_eq_true_iff]
theorem Qhq{J:Nat->Nat}{e:Nat}(h:Inv e J):∀{l:List Nat},l.Nodup->(∀i∈l,i<e/\i<J i)->(prts J l).Nodup
 | [],_,_=>Df
 | i::l,nd,b=>by
  obtain ⟨h1,h2⟩:=Bf.mp nd;obtain⟨k,p⟩:=b i (An ..);have o:=Qhq h h2 λj a=>b j (Am _ a);have key:∀x∈prts J l,∃j∈l,x=j\/x=J j:=λx d=>by
   obtain⟨j,a,d⟩:=M8.mp d;exact⟨j,a,by simpa using d⟩
  show(i::J i::prts J l).Nodup;refine Bf.mpr ⟨λm=>?_,Bf.mpr ⟨λm=>?_,o⟩⟩
  ·rcases Ay.mp m with z|m
   ·lia
   ·obtain⟨j,a,z|z⟩:=key _ m
    ·exact h1 (z ▸ a)
    ·obtain⟨c,f⟩:=b j (Am _ a);have:=(h j c).2.1;rw[← z]at this;lia
  ·obtain⟨j,a,z|z⟩:=key _ m
   ·obtain⟨c,f⟩:=b j (Am _ a);have:=(h i k).2.1;rw[z]at this;lia
   ·obtain⟨c,f⟩:=b j (Am _ a);have g:=(h i k).2.1;have n:=(h j c).2.1;rw[z,n]at g;exact h1 (g ▸ a)
theorem Qmk(h:Inv e J):(prts J (upJ J e)).Perm (Aq e):=by
 have nd:(prts J (upJ J e)).Nodup:=Qhq h (Ff.sublist Ft) λi hi=>Qa2.mp hi;refine(S6 nd Ff).mpr λx=>?_;rw[Bl];constructor
 ·intro a;obtain⟨j,d,a⟩:=M8.mp a;obtain⟨b,g⟩:=Qa2.mp d;rcases Ay.mp a with rfl|a
  ·exact b
  ·rw[Aw.mp a];exact(h j b).1
 ·intro a;obtain⟨f,c,k⟩:=h x a;by_cases z:x<J x
  ·exact M8.mpr ⟨x,Qa2.mpr ⟨a,z⟩,by simp⟩
  ·exact M8.mpr ⟨J x,Qa2.mpr ⟨f,by rw[c];lia⟩,by simp[c]⟩
def Yu:GA:=λds k=>∃(J:Nat->Nat)(e:Nat),ds=[Qa9 J e]/\Inv e J/\e<=40/\k (.dik (encN (prts J (upJ J e)) J))
abbrev J7:Stmt:=top 5
theorem Y7:FnScope ["joining","partners","one","other"] ["joining"] (Qc J7):=⟨rfl,rfl,rfl,by decide +kernel,rfl,by decide +kernel,by decide +kernel⟩
def Xb:Tg:={ own:=λi=>i==1||i==2||i==3,io:=[] }
def G3:WS:=(wSeq (wSet 1 (wC (.dik [])))
 (wSeq (wFor (V6 (Q6 (wVar 0))) (Qba 2 (Yb (gN 2) (Yb (gN 3) Qbb))) (wSeq (Zr 1 (wVar 3) (wVar 2))
 (Zr 1 (wVar 2) (wVar 3))))
 (Qab 1)))
theorem Qfn{K:Frag}(B:Bn K mg):∀(a:Value)(A:Around)(outer:List Dr)(s:Shared)(H:Hp)(E:XK),Room 0 (A.deeper (envOfC "partners_of" (Qc J7) s.heap.objs.size f a))->SVs (cxOf CX0 P w K mg base ["joining","partners","one","other"] "partners_of" (Qc J7) f a A outer s H E).nox Xb (Qr J7) G3:=λa A outer s H E b=>
  (Qe (Qy (i:=1) Qfc Y7.nd)
  (Qe (Ys Dv (V5 (Q4 (Qb 0))) (Xt (Jb (Q0 (i:=2) Y7.nd) (Jb (Q0 (i:=3) Y7.nd) V2))) (Qe (Z2 (i:=1) (Q8 b) (Qb 3) (Qb 2))
  (Ql (Z2 (i:=1) (Q8 b) (Qb 2) (Qb 3)))))
  (Ql (Qae (i:=1)))))
theorem Qdg{K:Frag}(F:Fun K "partners_of" "partners_of" J7 f fd)(B:Bn K mg):FnOk P w K mg base CX0 1 f fd ["joining"] (spR K Yu):=by
 refine Qal (T:=Xb) F Y7 rfl (by decide) (λds kk h=>?_) (Qfn B) (λds kk h=>?_)
 ·obtain⟨J,e,rfl,_⟩:=h;rfl
 ·obtain ⟨J,e,rfl,p,L,k⟩:=h;have u:Qj ((upJ J e).map λ(i:Nat)=>D.tup [.int (i:Int),.int (J i:Int)])=true:=Qo λi _=>by simp only[D.pure,Qj,B5]
  have s:(upJ J e).length<=e:=by have:=D6 (λi=>decide (i<J i)) (Aq e);rw[Bz]at this;exact this
  simp only[G3,wSeq,wSet,wC,env0,Qa9,Ar,Bm,Av,Bc,Bp,Nat.reduceAdd,Bo,Bw,Bi,Az,Ax,Vf,Xg,Q6,Qw,look,Qk,D.pure,u,Qf4,true_and];refine⟨λt ρ=>∃o2 a:Option D,ρ=[some (.tup ((upJ J e).map λ(i:Nat)=>D.tup [.int (i:Int),.int (J i:Int)])),some (.dik (encN (prts J ((upJ J e).take t)) J)),o2,a],⟨none,none,by rw[List.take_zero];rfl⟩,?_,?_⟩
  ·rintro t d ρ hd ⟨o2,a,rfl⟩;rw[Bh]at hd;obtain⟨i,hi,rfl⟩:=B8.mp hd;simp only[wSeq,Zr,Qw,Xi,Av,Bc,Bp,Nat.reduceAdd,Vz,gN,Az,Ax,Xj,look,Bv,Qk,true_and,D.pure,Qho];obtain⟨G,I⟩:=Qa2.mp (Bk hi);have o:=(p i G).2.1;have E:(upJ J e).take (t+1)=(upJ J e).take t++[i]:=by rw[Mf,hi];rfl
   have q:prts J ((upJ J e).take (t+1))=prts J ((upJ J e).take t)++[i]++[J i]:=by
    rw[E];unfold prts;rw[Ku];simp
   have nd:=Qhq p (l:=(upJ J e).take (t+1)) ((Ff.sublist Ft).sublist (N5 _ _)) λj r=>Qa2.mp (S3 r);rw[q]at nd;obtain⟨g,_,n⟩:=Fl.mp nd;obtain⟨_,_,b⟩:=Fl.mp g;have v:i∉prts J ((upJ J e).take t):=λm=>b i m i (Aw.mpr rfl) rfl;have y:J i∉prts J ((upJ J e).take t)++[i]:=λm=>n _ m _ (Aw.mpr rfl) rfl;have A:=Qff (f:=J) v;have p2:=Qff (f:=J) y;rw[o]at p2;have c:∀l:List Nat,(prts J l).length=2*l.length:=λl=>by
    induction l with
    |nil=>rfl
    |cons x l C=>show(x::J x::prts J l).length=_;simp only[Av,C];lia
   have z:((upJ J e).take t).length<=e:=by rw[Ma];lia
   have H:=c ((upJ J e).take t);rw[A,p2];refine⟨?_,?_,_,_,by rw[q]⟩
   ·unfold encN;rw[Ap];exact big (by lia)
   ·unfold encN;rw[Ap,Dy];exact big (by simp only[Av,Bc];lia)
  ·rintro ρ ⟨o2,a,rfl⟩;rw[Ap,Du (At _)];simp only[Qab,look,Qk];exact k
def rowN(L:List Nat)(J:Nat->Nat):List (Mx.MI×D):=L.map λ(i:Nat)=>(.inl (i:Int),.int (J i:Int))
abbrev prI(J:Nat->Nat)(i:Nat):List Int:=[(i:Int),(J i:Int)]
theorem Qnc(h:i≠j):HT.J1 (prI J i) (prI J j)=decide (i<j):=by
 show(if (i:Int)=(j:Int)then _ else decide ((i:Int)<(j:Int)))=_;rw[if_neg (by lia)];exact decide_eq_decide.mpr (by lia)
theorem Q0u{out:List (List Int)}(h:Up out):out.Pairwise λx y=>HT.J1 y x=false :=
 Lx.mpr λi j hi b a=>h i j _ _ (Fo a) (Bu hi) (Bu b)
def Yv:GI:=λds k=>∃(e:Nat)(J:Nat->Nat)(L:List Nat),ds=[.dmx (rowN L J)]/\e<=40/\L.Perm (Aq e)/\k (Qa9 J e) (.dmx (rowN L J))
abbrev Ju:Stmt:=top 6
theorem Qdf:FnScope ["partners"] ["partners"] (Qc Ju):=⟨rfl,rfl,rfl,by decide +kernel,rfl,by decide +kernel,by decide +kernel⟩
def Xc:Tg:={ own:=λi=>i==0,io:=[0] }
def G4:WS:=(wRet (Qp Vb (Qd (Qp Qtf (Qd (G6 (Zs 0) (wBl (wBin (dCmp λi j=>decide (i<j)) (wVar 0) (wVar 1))) (Q6 (wTup (Qd (wVar 0) (Qd (wVar 1) wNil)))) []) wNil)) wNil)))
theorem Qfo{K:Frag}(B:Bn K mg):∀(a:Value)(A:Around)(outer:List Dr)(s:Shared)(H:Hp)(E:XK),Room 0 (A.deeper (envOfC "joining_of" (Qc Ju) s.heap.objs.size f a))->SVs (cxOf CX0 P w K mg base ["partners"] "joining_of" (Qc Ju) f a A outer s H E).nox Xc (Qr Ju) G4:=λa A outer s H E b=>
  (Ql (Jj (Jg Y8 B.nb_tuple J9 (Qa (Jm Qrl B.nb_sorted Qc8 (Qa (Qbl (Qbp [] (Ul (s:=0)) (λ_ _ _ _ _=>Qoq (Zt Q1y (Qb 0) (Qb 1))) (λ_ _ _ _ _=>(Q4 (Vu (Qa (Qb 0) (Qa (Qb 1) Qf)))))) (X3 (Qc Ju) ["partners"] (by decide +kernel))) Qf)) Qf))))
theorem Qdh{K:Frag}(F:Fun K "joining_of" "joining_of" Ju f fd)(B:Bn K mg):FnOk P w K mg base CX0 1 f fd ["partners"] (spI K 0 Yv):=by
 refine Qn1 (T:=Xc) F Qdf rfl rfl (λds kk h=>?_) (Qfo B) (λds kk h=>?_)
 ·obtain⟨e,J,L,rfl,_⟩:=h;exact⟨rfl,_,rfl⟩
 ·obtain ⟨e,J,L,rfl,G,m,k⟩:=h;have E:L.length=e:=by rw[m.length_eq,Bz]
  have s:Gi (rowN L J)=L.map λ(i:Nat)=>.tup [.int (i:Int),.int (J i:Int)]:=by unfold Gi rowN;rw[Bg];rfl
  simp only[G4,wRet,Qp,Qd,G6,Zs,env0,Ar,Bm,Av,Bc,Bp,Bw,Bi,look,Ax,wNil,Qk,Vo,s];refine Qan (a:=λ(i:Nat)=>.int (i:Int)) (b:=λi=>.int (J i:Int)) (λi=>tupI (prI J i)) (λi=>decide (i<J i)) (Xd (by lia)) (λi hi H v=>?_) (λi hi n Q' t=>?_) ?_
  ·simp only[Vv,Bm,r_bl,wBin,Qw,look,Qk,Qul,Zv];rw[show decide ((i:Int)<(J i:Int))=decide (i<J i)from decide_eq_decide.mpr (by lia)];exact v
  ·simp only[Q6,wTup,Qd,Vv,Bm,wNil,Av,Bc,Bp,Nat.reduceAdd,sz2,D.pure,Qj,Dm,true_and,Qw,look,Qk];exact t
  ·have nd:(L.filter λi=>decide (i<J i)).Nodup:=(m.nodup_iff.mpr Ff).sublist Ft;refine⟨(L.filter λi=>decide (i<J i)).map (prI J),by rw[Bg];rfl,?_,?_,λout l p2=>?_⟩
   ·rw[Ap];have:=D6 (λi=>decide (i<J i)) L;lia
   ·intro q o;obtain⟨i,_,rfl⟩:=As.mp o;exact List.cons_ne_nil _ _
   ·have u:out=(upJ J e).map (prI J):=by
     refine Hang.Qb6 (le:=λx y=>HT.J1 y x=false) (l.trans ((m.filter _).map _)) (Q0u p2) ?_ ?_
     ·refine Mv.mpr ?_;refine A0s (R:=λa b:Nat=>a<b) (λh=>?_) (S1 _ Sm);rw[Qnc (by lia)];exact decide_eq_false (by lia)
     ·intro x g y A h1 h2;obtain⟨i,_,rfl⟩:=As.mp (l.mem_iff.mp g);obtain⟨j,_,rfl⟩:=As.mp (l.mem_iff.mp A);by_cases c:i=j
      ·rw[c]
      ·rw[Qnc (λz=>c z.symm)]at h1;rw[Qnc c]at h2;have:=of_decide_eq_false h1;have:=of_decide_eq_false h2;lia
    subst u;have p:((upJ J e).map (prI J)).map tupI=(upJ J e).map λ(i:Nat)=>D.tup [.int (i:Int),.int (J i:Int)]:=by rw[Bg];rfl
    have r:Qj ((upJ J e).map λ(i:Nat)=>D.tup [.int (i:Int),.int (J i:Int)])=true:=Qo λi _=>by simp only[D.pure,Qj,B5]
    rw[p];simp only[look,Qk,Z8,Xf,r,true_and];refine⟨Rh.mpr λC d=>?_,?_,k⟩
    ·obtain⟨i,_,rfl⟩:=As.mp d;rfl
    ·simp only[D.bare];refine Vw.mpr λx g=>?_;obtain⟨i,_,rfl⟩:=As.mp g;simp only[D.bare,Gz,B5]
def Zb:GA:=λds k=>∃(e n:Nat),ds=[.lst ((Aq e).map λ(i:Nat)=>.int ((i+n)%e:Nat))]/\n<=e/\e<=40/\k (.dik (encN ((Aq e).map λi=>(i+n)%e) (Ly.rot e n)))
abbrev Yp:Stmt:=top 27
theorem Zi:FnScope ["order","numbers","number","end"] ["order"] (Qc Yp):=⟨rfl,rfl,rfl,by decide +kernel,rfl,by decide +kernel,by decide +kernel⟩
def Qay:Tg:={ own:=λi=>i==1||i==2||i==3,io:=[] }
def Qat:WS:=(wSeq (wSet 1 (wC (.dik [])))
 (wSeq (wFor (Qlq 0) (Qba 2 (Yb (gN 2) (Yb (gN 3) Qbb))) (Zr 1 (wVar 2) (wVar 3)))
 (Qab 1)))
theorem Qhe{K:Frag}(B:Bn K mg):∀(a:Value)(A:Around)(outer:List Dr)(s:Shared)(H:Hp)(E:XK),Room 0 (A.deeper (envOfC "numbers_by" (Qc Yp) s.heap.objs.size f a))->SVs (cxOf CX0 P w K mg base ["order","numbers","number","end"] "numbers_by" (Qc Yp) f a A outer s H E).nox Qay (Qr Yp) Qat:=λa A outer s H E b=>
  (Qe (Qy (i:=1) Qfc Zi.nd)
  (Qe (Ys Dv (Qq0 (i:=0) B.nb_enumerate) (Xt (Jb (Q0 (i:=2) Zi.nd) (Jb (Q0 (i:=3) Zi.nd) V2))) (Ql (Z2 (i:=1) (Q8 b) (Qb 2) (Qb 3))))
  (Ql (Qae (i:=1)))))
theorem Ql5(a:n<=e)(hi:i<e):Ly.rot e n ((i+n)%e)=i:=by
 have:=Ly.Qbg (n:=n) a hi;unfold Ly.rot at this ⊢;rw[show e-(e-n)=n by lia]at this;exact this
theorem Qyf(c:n<=e):∀t,t<=e->((Aq t).map λi=>(i+n)%e).Nodup:=λt d=>
 Ly.Z9 Ff λx a y b h=>by
  have a:=Bl.mp a;have b:=Bl.mp b;have:=congrArg (Ly.rot e n) h
  rwa [Ql5 c (by lia),Ql5 c (by lia)]at this
theorem Qew{K:Frag}(F:Fun K "numbers_by" "numbers_by" Yp f fd)(B:Bn K mg):FnOk P w K mg base CX0 1 f fd ["order"] (spR K Zb):=by
 refine Qal (T:=Qay) F Zi rfl (by decide) (λds kk h=>?_) (Qhe B) (λds kk h=>?_)
 ·obtain⟨e,n,rfl,_⟩:=h;rfl
 ·obtain ⟨e,n,rfl,g,o,k⟩:=h;simp only[Qat,wSeq,wSet,wC,env0,Ar,Bm,Av,Bc,Bp,Nat.reduceAdd,Bo,Bw,Bi,Az,Ax,Vf,Qlq,look,Qk,Qxz];have pl:Qj ((Aq e).map λ(i:Nat)=>D.int (((i+n)%e:Nat):Int))=true:=Qo λ_ _=>rfl;refine⟨pl,Qcg pl,λt ρ=>t<=e/\∃o2 b:Option D,ρ=[some (.lst ((Aq e).map λ(i:Nat)=>D.int (((i+n)%e:Nat):Int))),some (.dik (encN ((Aq t).map λi=>(i+n)%e) (Ly.rot e n))),o2,b],⟨Dq _,none,none,rfl⟩,?_,?_⟩
  ·rintro t d ρ hd ⟨j,o2,b,rfl⟩;rw[Us]at hd;have a:t<e:=by
    cases q:((Aq e).map λ(i:Nat)=>D.int (((i+n)%e:Nat):Int))[t]? with
    |none=>rw[q]at hd;cases hd
    |some z=>simpa using(Au.mp q).1
   rw[Bh,Nn a]at hd;have hd:=(B3 hd).symm;subst hd;simp only[Bp,Zr,Qw,Xi,Av,Bc,Nat.reduceAdd,Vz,gN,Az,Ax,Xj,look,Bv,Qk,Qho,true_and,D.pure];have nd:=Qyf g (t+1) a;rw[M0,B7]at nd;have l:(t+n)%e∉(Aq t).map λi=>(i+n)%e:=λm=>(Fl.mp nd).2.2 _ m _ (Aw.mpr rfl) rfl;have c:=Qff (f:=Ly.rot e n) l;rw[Ql5 g a]at c;rw[c];refine⟨?_,a,_,_,by rw[M0,B7];rfl⟩;unfold encN;rw[Ap,Ap,Bz];exact big (by lia)
  ·rintro ρ ⟨j,o2,b,rfl⟩;rw[Zd,Ap,Bz]at *;simp only[Qab,look,Qk];exact k
def J2(e n:Nat)(J:Nat->Nat):Nat->Nat:=λi=>Ly.rot e n (J (Ly.rot e (e-n) i))
theorem Qi8{J:Nat->Nat}{i:Nat}:∀{L:List Nat},i∉L->valD (rowN L J) (.inl (i:Int))=none
 | [],_=>rfl
 | j::L,h=>by
  have a:=Qi8 (J:=J) (L:=L) λm=>h (Am _ m);unfold rowN at a ⊢;rw[Ar,Q1,a];have:¬(Fm (j:Int):Mx.MI)=Fm (i:Int):=λz=>h (by have:=M9 z;rw[show i=j by lia];exact An ..);simp[this]
theorem Qpx(h:i∉L):putD (rowN L J) (.inl (i:Int)) (.int (J i:Int))=rowN (L++[i]) J:=by
 rw[Qji _ (Qi8 h)];unfold rowN;rw[B7];rfl
theorem Qi9(c:n<=e)(d:L.Perm (Aq e)):(L.map (Ly.rot e n)).Perm (Aq e):=by
 have b:∀x∈L,x<e:=λx a=>Bl.mp (d.mem_iff.mp a);have nd:(L.map (Ly.rot e n)).Nodup:=Ly.Z9 (d.nodup_iff.mpr Ff) λx a y f h=>by
  have:=congrArg (Ly.rot e (e-n)) h
  rwa [Ly.Y3 c (b x a),Ly.Y3 c (b y f)]at this
 refine(S6 nd Ff).mpr λx=>?_;rw[Bl];constructor
 ·intro a;obtain⟨i,hi,rfl⟩:=As.mp a;exact Ly.Yt (b i hi)
 ·intro a;exact As.mpr ⟨Ly.rot e (e-n) x,d.mem_iff.mpr (Bl.mpr (Ly.Yt a)),Ly.Qbg c a⟩
theorem Qnt(b:n<=e)(h:Inv e J):Inv e (J2 e n J):=λi hi=>by
 have a:=Ly.Yt (e:=e) (n:=e-n) hi;obtain⟨c,d,f⟩:=h _ a;refine⟨Ly.Yt c,?_,λz=>f ?_⟩
 ·unfold J2;rw[Ly.Y3 b c,d,Ly.Qbg b hi]
 ·have:=congrArg (Ly.rot e (e-n)) z;unfold J2 at this
  rwa [Ly.Y3 b c]at this
def Za:GA:=λds k=>∃(J:Nat->Nat)(e n:Nat)(a:List Nat),ds=[Qa9 J e,.dik (encN a (Ly.rot e n))]/\Inv e J/\n<=e/\e<=40/\(∀i,i<e->i∈a)/\k (Qa9 (J2 e n J) e)
abbrev Yn:Stmt:=top 28
theorem Zg:FnScope ["joining","numbers","partners","one","other"] ["joining","numbers"] (Qc Yn):=⟨rfl,rfl,rfl,by decide +kernel,rfl,by decide +kernel,by decide +kernel⟩
def Qaw:Tg:={ own:=λi=>i==2||i==3||i==4,io:=[] }
noncomputable def Qar:WS:=(wSeq (wSet 2 (wC (.dmx [])))
 (wSeq (wFor (Qr9 (Qp Yu (Qd (wVar 0) wNil))) (Qba 2 (Yb (gN 3) (Yb (gN 4) Qbb))) (G5 2 (wBin dIx (wVar 1) (wVar 4)) (wBin dIx (wVar 1) (wVar 3))))
 (wRet (Qs 2 Yv (Jd 2 wNil)))))
theorem Qhc{K:Frag}(B:Bn K mg)(c:Cal P w K mg base "partners_of" 1 ["joining"] (spR K Yu))(d:Cal P w K mg base "joining_of" 1 ["partners"] (spI K 0 Yv)):∀(a:Value)(A:Around)(outer:List Dr)(s:Shared)(H:Hp)(E:XK),Room 1 (A.deeper (envOfC "renumbered" (Qc Yn) s.heap.objs.size f a))->SVs (cxOf CX0 P w K mg base ["joining","numbers","partners","one","other"] "renumbered" (Qc Yn) f a A outer s H E).nox Qaw (Qr Yn) Qar:=λa A outer s H E b=>
  (Qe (Qy (i:=2) U6 Zg.nd)
  (Qe (Ys Dv (Qqz (Jl c (b.mono (by decide)) (Qa (Qb 0) Qf))) (Xt (Jb (Q0 (i:=3) Zg.nd) (Jb (Q0 (i:=4) Zg.nd) V2))) (Ql (Gm (i:=2) (hu5 b) (Jr (J0 (Q8 b)) (Qb 1) (Qb 4)) (Jr (J0 (Q8 b)) (Qb 1) (Qb 3)))))
  (Ql (Jj (Qq d (b.mono (by decide)) (Q5 (i:=2) Qf))))))
theorem Qeu{K:Frag}(F:Fun K "renumbered" "renumbered" Yn f fd)(B:Bn K mg)(I:Cal P w K mg base "partners_of" 1 ["joining"] (spR K Yu))(z:Cal P w K mg base "joining_of" 1 ["partners"] (spI K 0 Yv)):FnOk P w K mg base CX0 2 f fd ["joining","numbers"] (spR K Za):=by
 refine Qal (T:=Qaw) F Zg rfl (by decide) (λds kk h=>?_) (Qhc B I z) (λds kk h=>?_)
 ·obtain⟨J,e,n,g,rfl,_⟩:=h;rfl
 ·obtain ⟨J,e,n,g,rfl,o,r,v,b,k⟩:=h;have c:=Qmk o;generalize E:prts J (upJ J e)=L at c;have u:L.length=e:=by rw[c.length_eq,Bz]
  have l:∀x∈L,x<e:=λx C=>Bl.mp (c.mem_iff.mp C);simp only[Qar,wSeq,wSet,wC,env0,Ar,Bm,Av,Bc,Bp,Nat.reduceAdd,Bo,Bw,Bi,Az,Ax,Vf];refine⟨J,e,rfl,o,v,?_⟩;rw[E];simp only[];have G:∀j:List D->Prop,j (L.map λ(i:Nat)=>D.tup [.int (i:Int),.int (J i:Int)])->Qnn (.dik (encN L J)) j:=λj h=>by
   have N:Qct (encN L J)=L.map λ(i:Nat)=>D.tup [.int (i:Int),.int (J i:Int)]:=by unfold Qct encN;rw[Bg];rfl
   show j (Qct (encN L J));rw[N];exact h
  refine G _ ⟨Qo λi _=>by simp only[D.pure,Qj,B5],λt ρ=>t<=e/\∃q p:Option D,ρ=[some (Qa9 J e),some (.dik (encN g (Ly.rot e n))),some (.dmx (rowN ((L.take t).map (Ly.rot e n)) (J2 e n J))),q,p],⟨Dq _,none,none,rfl⟩,?_,?_⟩
  ·rintro t d ρ hd ⟨A,q,p,rfl⟩;rw[Bh]at hd;obtain⟨i,hi,rfl⟩:=B8.mp hd;have a:=l i (Bk hi);have M:=(Au.mp hi).1;have v1:valD (encN g (Ly.rot e n)) (.inl (i:Int))=some (.int (Ly.rot e n i:Int)):=by rw[Qbn,if_pos (b i a)]
   have v2:valD (encN g (Ly.rot e n)) (.inl (J i:Int))=some (.int (Ly.rot e n (J i):Int)):=by rw[Qbn,if_pos (b _ (o i a).1)]
   simp only[G5,wBin,Qw,Xi,Av,Bc,Bp,Nat.reduceAdd,Vz,gN,Az,Ax,Xj,look,Bv,Qk,U0,Qsk,v1,D.pure,true_and,v2];rw[show keyM (D.int (Ly.rot e n i:Int))=some (.inl (Ly.rot e n i:Int))from rfl];have y:L.take (t+1)=L.take t++[i]:=by rw[Mf,hi];rfl
   have nd:((L.take (t+1)).map (Ly.rot e n)).Nodup:=by
    have:=(Qi9 r c).nodup_iff.mpr Ff;rw[List.map_take];exact this.sublist (N5 _ _)
   rw[y,B7]at nd;have H:Ly.rot e n i∉(L.take t).map (Ly.rot e n):=λm=>(Fl.mp nd).2.2 _ m _ (Aw.mpr rfl) rfl;have s:=Qpx (J:=J2 e n J) H;have O:J2 e n J (Ly.rot e n i)=Ly.rot e n (J i):=by unfold J2;rw[Ly.Y3 r a]
   rw[O]at s;refine⟨?_,by lia,_,_,by rw[s,y,B7];rfl⟩;unfold rowN;rw[Ap,Ap,Ma];exact big (by lia)
  ·rintro ρ ⟨A,q,p,rfl⟩;rw[Ap,Du (At _)];simp only[wRet,Qs,Jd,look,Bv,wNil,Qj,Bi,Qk,Je,true_and];exact⟨e,J2 e n J,_,rfl,v,Qi9 r c,k⟩
end K54
namespace K54
open PySem PySem.Spec L2 PV
open PyProof.Rows (envOfC)
open Pol Dct Sms
open Ly (Jw Qj3 Vg Qfe Qh0)
abbrev SM:=List (Mx.MI×T)
def encS(s:SM):List (Mx.MI×D):=s.map λp=>(p.1,.tup (p.2.map pr2))
theorem Qj9{c:Mx.MI}:∀{s:SM},(valD (encS s) c).getD (.tup [])=.tup ((getS s c).map pr2)
 | []=>rfl
 | p::s=>by
  have a:=Qj9 (c:=c) (s:=s);unfold encS at a ⊢;unfold getS;rw[Ar,Q1];by_cases h:p.1=c
  ·rw[if_pos h,if_pos h];rfl
  ·rw[if_neg h,if_neg h];exact a
theorem X1{s:SM}:((encS s).any λb=>decide (b.1=c))=true↔c∈s.map (·.1):=by
 rw[Ip];constructor
 ·rintro⟨b,h1,h2⟩;obtain⟨p,a,rfl⟩:=As.mp h1;have h2:p.1=c:=of_decide_eq_true h2;exact As.mpr ⟨p,a,h2⟩
 ·intro h;obtain⟨p,a,h2⟩:=As.mp h;exact⟨_,As.mpr ⟨p,a,rfl⟩,decide_eq_true h2⟩
theorem X0{c:Mx.MI}{a:T}:∀{s:SM},(s.map (·.1)).Nodup->putD (encS s) c (.tup (a.map pr2))=encS (putS s c a)
 | [],_=>rfl
 | p::s,nd=>by
  obtain ⟨h1,h2⟩:=Bf.mp nd;have d:=X0 (c:=c) (a:=a) h2;have keep:∀s:SM,c∉s.map (·.1)->(encS s).map (λb=>if b.1=c then (b.1,D.tup (a.map pr2))else b)=encS s:=λs f=>by
   unfold encS;rw[Bg];refine B0 λq e=>?_;show(if q.1=c then _ else _)=_;rw[if_neg λz=>f (As.mpr ⟨q,e,z⟩)]
  unfold putS;by_cases h:p.1=c
  ·rw[if_pos h];unfold putD;rw[if_pos (X1.mpr (by rw[Ar,h];exact An ..))];show(if p.1=c then (p.1,D.tup (a.map pr2))else _)::(encS s).map _=_;rw[if_pos h,keep s (h ▸ h1),h];rfl
  ·rw [if_neg h];show _=(p.1,D.tup (p.2.map pr2))::encS (putS s c a);rw[← d];unfold putD;by_cases hm:c∈s.map (·.1)
   ·rw[if_pos (X1.mpr (by rw[Ar];exact Am _ hm)),if_pos (X1.mpr hm)];show(if p.1=c then _ else _)::(encS s).map _=_;rw[if_neg h]
   ·rw [if_neg λz=>by
     have:=X1.mp z;rw[Ar]at this;rcases Ay.mp this with y|y
     ·exact h y.symm
     ·exact hm y,if_neg λz=>hm (X1.mp z)]
    rfl
theorem U8{s:SM}:(encS s).length=s.length:=Ap _
theorem Qn2(h:Is a)(d:∀t∈a,t.1∈R):a.length<=R.length:=by
 have nd:(a.map (·.1)).Nodup:=Mv.mpr (h.asc.imp λh z=>by lia);have:=few nd λx b=>by
  obtain⟨t,c,rfl⟩:=As.mp b;exact d t c
 rwa [Ap]at this
def Pw(R:List Int)(s:SM):Prop:=∀p∈s,Is p.2/\∀t∈p.2,t.1∈R
theorem Pw.get{s:SM}(h:Pw R s):Is (getS s c)/\∀t∈getS s c,t.1∈R:=by
 by_cases z:c∈s.map (·.1)
 ·exact h _ (Qgr z)
 ·rw[Qh4 z];exact⟨Qs8,λ_ h=>nomatch h⟩
theorem Pw.put{s:SM}(nd:(s.map (·.1)).Nodup)(h:Pw R s)(d:Is a)(e:∀t∈a,t.1∈R):Pw R (putS s c a):=λp b=>by
 rcases Qco nd b with rfl|⟨b,_⟩
 ·exact⟨d,e⟩
 ·exact h p b
noncomputable def Xw:GI:=λds k=>∃(s:SM)(c:Mx.MI)(b:T)(R:List Int),ds=[.dmx (encS s),miD c,.tup (b.map pr2)]/\(s.map (·.1)).Nodup/\s.length<=1500/\R.length<64/\Pw R s/\(∀t∈b,t.1∈R)/\b.length<=1000 /\
 ∀us:T,Is us->(∀t∈us,t.1∈R)->(∀f,ev f us=ev f (getS s c)+ev f b)->k .non (.dmx (encS (putS s c us)))
abbrev Uy:Stmt:=top 8
theorem Ql2:FnScope ["told","joining","polynomial"] ["told","joining","polynomial"] (Qc Uy):=⟨rfl,rfl,rfl,by decide +kernel,rfl,by decide +kernel,by decide +kernel⟩
def Qi4:Tg:={ own:=λi=>i==0,io:=[0] }
def Qir:WS:=(G5 0 (Qp Qgs (Qd (wMt 0 "dict" Qq4 (Qd (Q6 (wVar 1)) (Qd (wTup wNil) wNil))) (Qd (wVar 2) wNil))) (wVar 1))
theorem Qrz{K:Frag}(B:Bn K mg)(c:Cal P w K mg base "plus" 2 ["one","other"] (spR K Qgs)):∀(a:Value)(A:Around)(outer:List Dr)(s:Shared)(H:Hp)(E:XK),Room 2 (A.deeper (envOfC "add_to" (Qc Uy) s.heap.objs.size f a))->SVs (cxOf CX0 P w K mg base ["told","joining","polynomial"] "add_to" (Qc Uy) f a A outer s H E).nox Qi4 (Qr Uy) Qir:=λa A outer s H E b=>
  (Ql (Gm (i:=0) (hu5 b) (Jl c (b.mono (by decide)) (Qa (Qfa (i:=0) (Qm9 (hu5 b)) D1 Nv Iw (Qa (Q4 (Qb 1)) (Qa (Vu Qf) Qf))) (Qa (Qb 2) Qf))) (Qb 1)))
theorem Qmy{K:Frag}(F:Fun K "add_to" "add_to" Uy f fd)(B:Bn K mg)(m:Cal P w K mg base "plus" 2 ["one","other"] (spR K Qgs)):FnOk P w K mg base CX0 3 f fd ["told","joining","polynomial"] (spI K 0 Xw):=by
 refine Qh6 (T:=Qi4) F Ql2 rfl rfl (λds kk h=>?_) (Qrz B m) (λds kk h=>?_)
 ·obtain⟨s,c,b,R,rfl,_⟩:=h;exact⟨rfl,_,rfl,rfl⟩
 ·obtain⟨s,c,b,R,rfl,nd,n,a,hw,l,j,k⟩:=h;simp only[Qir,G5,Qp,Qd,wMt,env0,Ar,Bm,Av,Bc,Bp,Nat.reduceAdd,Bw,Bi,look,Ue,Q6,wTup,wNil,sz0,Qw,true_and,Ax,Bv,Qk,Jw];refine Qj3 (by rfl) ?_;rw[Qj9];simp only[U0,Je,true_and];obtain⟨e,d⟩:=hw.get (c:=c);have o:=Qn2 e d;refine⟨getS s c,b,R,rfl,by lia,a,d,l,λus h1 h2 g h4 i=>?_⟩;refine⟨by rw[D.pure];exact Jv,?_⟩;rw[Vg];exact⟨Jw c,by rw[U8];exact Ds (show _<=2000 by lia) (by decide),by rw[X0 nd];exact k us h1 g i⟩
theorem Qnm{s:SM}:Gi (encS s)=s.map λp=>.tup [miD p.1,.tup (p.2.map pr2)]:=by unfold Gi encS;rw[Bg];rfl
theorem Qbh{c:Mx.MI}{a:T}:∀{s:SM},c∉s.map (·.1)->putS s c a=s++[(c,a)]
 | [],_=>rfl
 | p::s,h=>by
  unfold putS;rw[if_neg λz=>h (by rw[Ar,z];exact An ..),Qbh λm=>h (Am _ m)];rfl
theorem Qj7:eqOk 9 (.tup (a.map pr2))=true:=by
 rw[eqOk];refine Qc0.mpr λx b=>?_;obtain⟨t,_,rfl⟩:=As.mp b;rfl
theorem Qig{s:SM}:((encS s).all λb=>b.2.bare)=true:=Rh.mpr λb a=>by
 obtain⟨p,_,rfl⟩:=As.mp a;show(D.tup (p.2.map pr2)).bare=true;rw[D.bare];refine Vw.mpr λx c=>?_;obtain⟨t,_,rfl⟩:=As.mp c;rfl
theorem Qek{s:SM}{p:Mx.MI×T}(nd:(s.map (·.1)).Nodup)(a:s[t]? = some p):p.1∉(s.take t).map (·.1):=λm=>by
 have b:s.take (t+1)=s.take t++[p]:=by rw[Mf,a];rfl
 have:((s.take (t+1)).map (·.1)).Nodup:=nd.sublist ((N5 _ _).map _);rw[b,B7]at this;exact(Fl.mp this).2.2 _ m _ (Aw.mpr rfl) rfl
def nzS(s:SM):SM:=s.filter λp=>decide (p.2≠[])
def Jq:GI:=λds k=>∃s:SM,ds=[.dmx (encS s)]/\(s.map (·.1)).Nodup/\s.length<=1500/\k (.dmx (encS (nzS s))) (.dmx (encS s))
abbrev Q7:Stmt:=top 9
theorem Jz:FnScope ["told","kept","joining","polynomial"] ["told"] (Qc Q7):=⟨rfl,rfl,rfl,by decide +kernel,rfl,by decide +kernel,by decide +kernel⟩
def Vk:Tg:={ own:=λi=>i==0||i==1||i==2||i==3,io:=[0] }
def Vj:WS:=(wSeq (wSet 1 (wC (.dmx [])))
 (wSeq (wFor (Zs 0) (Qba 2 (Yb (gN 2) (Yb (gN 3) Qbb))) (wIf (wBl (wBin dNe (wVar 3) (wTup wNil))) (G5 1 (wVar 3) (wVar 2)) Ve))
 (Qab 1)))
theorem Qao{K:Frag}(B:Bn K mg):∀(a:Value)(A:Around)(outer:List Dr)(s:Shared)(H:Hp)(E:XK),Room 0 (A.deeper (envOfC "without_noughts" (Qc Q7) s.heap.objs.size f a))->SVs (cxOf CX0 P w K mg base ["told","kept","joining","polynomial"] "without_noughts" (Qc Q7) f a A outer s H E).nox Vk (Qr Q7) Vj:=λa A outer s H E b=>
  (Qe (Qy (i:=1) U6 Jz.nd)
  (Qe (Ys Dv (Ul (s:=0)) (Xt (Jb (Q0 (i:=2) Jz.nd) (Jb (Q0 (i:=3) Jz.nd) V2))) (Ql (Qb4 (Zt (Qyt b.units) (Qb 3) (Vu Qf)) (Ql (Gm (i:=1) (hu5 b) (Qb 3) (Qb 2))) Zu)))
  (Ql (Qae (i:=1)))))
theorem Xm{K:Frag}(F:Fun K "without_noughts" "without_noughts" Q7 f fd)(B:Bn K mg):FnOk P w K mg base CX0 1 f fd ["told"] (spI K 0 Jq):=by
 refine Qh5 (T:=Vk) F Jz rfl rfl (λds kk h=>?_) (Qao B) (λds kk h=>?_)
 ·obtain⟨s,rfl,_⟩:=h;exact⟨rfl,_,rfl⟩
 ·obtain ⟨s,rfl,nd,o,k⟩:=h;simp only[Vj,wSeq,wSet,wC,env0,Ar,Bm,Av,Bc,Bp,Nat.reduceAdd,Bo,Bw,Bi,Az,Ax,Vf,Zs,look,Qk,Vo,Qnm];refine⟨Qo λp _=>?_,λt ρ=>t<=s.length/\∃o2 b:Option D,ρ=[some (.fmx (encS s)),some (.dmx (encS (nzS (s.take t)))),o2,b],⟨Dq _,none,none,rfl⟩,?_,?_⟩
  ·simp only[D.pure,Qj,Jw,Jv,B5]
  ·rintro t d ρ hd ⟨g,o2,b,rfl⟩;rw[Bh]at hd;obtain⟨p,c,rfl⟩:=B8.mp hd;have a:=(Au.mp c).1;have e:s.take (t+1)=s.take t++[p]:=by rw[Mf,c];rfl
   simp only[wIf,G5,Qw,Ve,r_bl,wBin,wTup,wNil,Bc,sz0,true_and,Xi,Av,Bp,Nat.reduceAdd,Vz,gN,Az,Ax,Xj,look,Bv,Qk,U0,D.pure,Q09,Zv,Bq,reduceIte];refine⟨Qj7,rfl,λz=>⟨a,some (miD p.1),some (.tup (p.2.map pr2)),?_⟩,λz=>⟨Jv,?_⟩⟩
   ·have z:p.2=[]:=by
     cases i:p.2 with
     |nil=>rfl
     |cons x y=>rw[i]at z;cases z
    rw[e];unfold nzS;rw[Rl,show[p].filter (λp=>decide (p.2≠[]))=[] by simp[z],Dz]
   ·have z:p.2≠[]:=λy=>z (by rw[y];rfl);have j:nzS (s.take (t+1))=nzS (s.take t)++[(p.1,p.2)]:=by
     rw[e];unfold nzS;rw[Rl,show[p].filter (λp=>decide (p.2≠[]))=[p] by simp[z]]
    have nk:p.1∉(nzS (s.take t)).map (·.1):=λm=>Qek nd c ((Ft.map _).subset m);have l:((nzS (s.take t)).map (·.1)).Nodup:=nd.sublist ((Ft.trans (N5 _ _)).map _);rw[Vg];refine⟨Jw _,?_,a,some (miD p.1),some (.tup (p.2.map pr2)),by rw[X0 l,Qbh nk,← j]⟩;rw[U8];have n:(nzS (s.take t)).length<=(s.take t).length:=D6 _ _;rw[Ma]at n;exact Ds (show _<=2000 by lia) (by decide)
  ·rintro ρ ⟨g,o2,b,rfl⟩;rw[Ap,Du (At _)];simp only[Qab,look,Az,Ax,Qk,Z8];exact⟨Qig,by rw[Qcf];exact Qig,k⟩
def jk(e:Nat)(J:Nat->Nat):Mx.MI:=.inr ((upJ J e).map λ(i:Nat)=>.inr [(i:Int),(J i:Int)])
theorem jk_D:miD (jk e J)=Qa9 J e:=by
 unfold jk Qa9;simp only[miD,Bg];congr 1
theorem Qpm(h:∀i,i<e->J i=J' i):upJ J e=upJ J' e:=by
 unfold upJ;exact Sr λi hi=>by rw[h i (Bl.mp hi)]
theorem Xr(h:∀i,i<e->J i=J' i):jk e J=jk e J':=by
 unfold jk;rw[Qpm h];congr 1;exact B0 λi hi=>by rw[h i (Qa2.mp hi).1]
noncomputable def rg(m e:Nat)(g:Nat->Nat)(r n:Nat):Nat:=r+Ly.rc (4*m+e+2*e) (Ly.Gx m e g) (Ly.Ox m e (bit n)) (Ly.Sf m e)
def wtT(p:Int)(r:Nat):T:=(Aq (r+1)).map λ(k:Nat)=>(p+4*(k:Int),M32.num r k)
theorem Qws:M32.wt p r (r+1)=(wtT p r).map pr2:=by
 unfold M32.wt wtT;rw[Bg];rfl
def Gy(m n:Nat):List Int:=(Aq m).map λi=>(bit n i:Int)
theorem Q0g:Qbd m n=(Gy m n).map .int:=by
 unfold Qbd Gy;rw[Bg];rfl
noncomputable def key(m e:Nat)(g:Nat->Nat)(n:Nat):Mx.MI:=jk e (Ly.Jf m e g (bit n))
noncomputable def wg(m e:Nat)(g:Nat->Nat)(r n:Nat):T:=wtT (((Gy m n).count 0:Int)-((Gy m n).count 1:Int)-2*(rg m e g r n:Int)) (rg m e g r n)
def Rw(m:Nat):List Int:=(Aq (m+53)).map λ(i:Nat)=>-((m:Int)+52)+2*(i:Int)
theorem Qg7:bit n i<=1:=by unfold bit;lia
theorem cnt:((Gy m n).count 0:Int)-((Gy m n).count 1:Int)=(m:Int)-2*(Gy m n).sum/\0<=(Gy m n).sum/\(Gy m n).sum<=m:=by
 have a:∀x∈Gy m n,x=0\/x=1:=λx c=>by
  obtain⟨i,_,rfl⟩:=As.mp c;have:=Qg7 (n:=n) (i:=i);show((bit n i:Nat):Int)=0\/((bit n i:Nat):Int)=1;lia
 have:=M32.Qio a;have b:(Gy m n).length=m:=by simp[Gy]
 rw [b]at this;refine⟨this,?_⟩;have gen:∀l:List Int,(∀x∈l,x=0\/x=1)->0<=l.sum/\l.sum<=l.length:=by
  intro l
  induction l with
  |nil=>intro _;exact⟨A0x _,A0x _⟩
  | cons x l d=>
   intro h;have:=d λy e=>h y (Am _ e);have h0:=h x (An ..);rw[Il,Av];lia
 have:=gen _ a;rw[b]at this;exact this
theorem Q0s(j:M.Tw (4*m+e) A g)(hm:m<=3)(o:r<=20):rg m e g r n<=26/\∀t∈wg m e g r n,t.1∈Rw m:=by
 have h1:=Ly.Qxf (W:=bit n) j;have f:rg m e g r n<=20+2*m:=by unfold rg;lia
 refine⟨by lia,λt h=>?_⟩;obtain⟨k,b,rfl⟩:=As.mp h;have b:=Bl.mp b;obtain⟨l,i,d⟩:=cnt (m:=m) (n:=n);obtain⟨c,a⟩:=Ni i;show _+_∈_;rw[l,a];rw[a]at d;exact As.mpr ⟨m+26+2*k-c-rg m e g r n,Bl.mpr (by lia),by lia⟩
theorem Qpe(hm:m<=3):(Rw m).length<64:=by unfold Rw;rw[Ap,Bz];lia
theorem Qjh{c:Mx.MI}{a:T}:∀{s:SM},(putS s c a).length<=s.length+1
 | []=>by simp[putS]
 | p::s=>by
  unfold putS;split
  ·simp
  ·have:=Qjh (c:=c) (a:=a) (s:=s);simp only[Av];lia
noncomputable def Jt:GA:=λds k=>∃(m e r:Nat)(A:Nat->Int)(g:Nat->Nat),ds=[webD m e A r]/\M.Tw (4*m+e) A g/\m<=3/\e<=8/\r<=20/\∀s:SM,Pz (2 ^ m) (key m e g) (wg m e g r) s->Pw (Rw m) s->s.length<=8->k (.dmx (encS s))
abbrev Yo:Stmt:=top 25
theorem Zh:FnScope ["web","told","ways","made"] ["web"] (Qc Yo):=⟨rfl,rfl,rfl,by decide +kernel,rfl,by decide +kernel,by decide +kernel⟩
def Qax:Tg:={ own:=λi=>i==1||i==2||i==3,io:=[] }
noncomputable def Qas:WS:=(wSeq (wIf (wBl (wBin (dCmp λi j=>decide (j<i)) (Qp dLen (Qd (wBin dIx (wVar 0) (wC (.int 0))) wNil)) (wC (.int 10)))) Qr8 Ve)
 (wSeq (wSet 1 (wC (.dmx [])))
 (wSeq (wFor (V6 (Qp Vt (Qd (Qp dLen (Qd (wBin dIx (wVar 0) (wC (.int 0))) wNil)) wNil))) (gN 2) (wSeq (wSet 3 (Qp Xv (Qd (wVar 0) (Qd (wVar 2) wNil))))
 (Gk (Qs 1 Xw (Jd 1 (Qd (wBin dIx (wVar 3) (wC (.int 0))) (Qd (Qp Xu (Qd (wVar 2) (Qd (wBin dIx (wVar 3) (wC (.int 1))) wNil))) wNil)))))))
 (wRet (Qs 1 Jq (Jd 1 wNil))))))
theorem Qhd{K:Frag}(B:Bn K mg)(c:Cal P w K mg base "add_to" 3 ["told","joining","polynomial"] (spI K 0 Xw))(d:Cal P w K mg base "without_noughts" 1 ["told"] (spI K 0 Jq))(e:Cal P w K mg base "opened" 3 ["web","ways"] (spR K Xv))(h:Cal P w K mg base "weight" 1 ["ways","rings"] (spR K Xu))(g:Cal P w K mg base "all_ways" 1 ["many"] (spR K Vt)):∀(b:Value)(A:Around)(outer:List Dr)(s:Shared)(H:Hp)(E:XK),Room 3 (A.deeper (envOfC "plain_sums" (Qc Yo) s.heap.objs.size f b))->SVs (cxOf CX0 P w K mg base ["web","told","ways","made"] "plain_sums" (Qc Yo) f b A outer s H E).nox Qax (Qr Yo) Qas:=λb A outer s H E a=>
  (Qe (Qb4 (Zt Qyv (Jm Qed B.nb_len Qee (Qa (Jr (J0 (Q8 a)) (Qb 0) Qi) Qf)) (Qn7 B.c_MOST_CROSSINGS.choose_spec)) (Ql Qpq) Zu)
  (Qe (Qy (i:=1) U6 Zh.nd)
  (Qe (Ys Dv (V5 (Jl g (a.mono (by decide)) (Qa (Jm Qed B.nb_len Qee (Qa (Jr (J0 (Q8 a)) (Qb 0) Qi) Qf)) Qf))) (Q0 (i:=2) Zh.nd) (Qe (Qy (i:=3) (Jl e (a.mono (by decide)) (Qa (Qb 0) (Qa (Qb 2) Qf))) Zh.nd)
  (Ql (Gn (Qq c (a.mono (by decide)) (Q5 (i:=1) (Qa (Jr (J0 (Q8 a)) (Qb 3) Qi) (Qa (Jl h (a.mono (by decide)) (Qa (Qb 2) (Qa (Jr (J0 (Q8 a)) (Qb 3) Qi) Qf))) Qf))))))))
  (Ql (Jj (Qq d (a.mono (by decide)) (Q5 (i:=1) Qf)))))))
theorem Qev{K:Frag}(F:Fun K "plain_sums" "plain_sums" Yo f fd)(B:Bn K mg)(V:Cal P w K mg base "add_to" 3 ["told","joining","polynomial"] (spI K 0 Xw))(N:Cal P w K mg base "without_noughts" 1 ["told"] (spI K 0 Jq))(O:Cal P w K mg base "opened" 3 ["web","ways"] (spR K Xv))(U:Cal P w K mg base "weight" 1 ["ways","rings"] (spR K Xu))(W:Cal P w K mg base "all_ways" 1 ["many"] (spR K Vt)):FnOk P w K mg base CX0 4 f fd ["web"] (spR K Jt):=by
 refine Qal (T:=Qax) F Zh rfl (by decide) (λds kk h=>?_) (Qhd B V N O U W) (λds kk h=>?_)
 ·obtain⟨m,e,r,A,g,rfl,_⟩:=h;rfl
 ·obtain ⟨m,e,r,A,g,rfl,C,hm,Y,L,k⟩:=h;have l:((Aq m).map λk=>D.tup ((Aq 4).map λj=>.int (A (4*k+j)))).length=m:=by simp
  have y:decide ((10:Int)<(m:Int))=false:=decide_eq_false (by lia);have Q:2 ^ m<=8:=Dg (P7 (by lia) hm) (by decide);have z:∀kk:D->Prop,dIx (webD m e A r) (.int 0) kk=kk (.tup ((Aq m).map λk=>D.tup ((Aq 4).map λj=>.int (A (4*k+j))))):=λkk=>rfl;simp only[Qas,wSeq,wIf,env0,Ar,Bm,Av,Bc,Bp,Nat.reduceAdd,Bo,Bw,Bi,Ve,wSet,wC,Vf,Xg,Qp,Qd,wBin,wNil,Qw,r_bl,look,Az,Ax,Qk,z,Qme,l,Qul,y,Zv,Bq,reduceIte];refine⟨m,rfl,by lia,Ql4,λt ρ=>t<=2 ^ m/\∃(s:SM)(o2 x:Option D),ρ=[some (webD m e A r),some (.dmx (encS s)),o2,x]/\Ps t (key m e g) (wg m e g r) s/\Pw (Rw m) s/\s.length<=t,⟨Dq _,[],none,none,rfl,.start,(λ_ h=>nomatch h),At _⟩,?_,?_⟩
  ·rintro n d ρ hd ⟨G,s,o2,x,rfl,ps,q,o⟩;unfold Qaf at hd;rw[Bh]at hd;obtain⟨Z,u,rfl⟩:=B8.mp hd;obtain⟨b,E⟩:=Au.mp u;rw[Fs]at E;subst E;rw[Bz]at b;simp only[gN,wSeq,wSet,Qp,Qd,Az,Ax,wNil,Gk,Qs,Jd,wBin,wC,Qj,Dm,Bi,Qw,look,Bv,Qk,Je,true_and];refine⟨m,e,A,g,bit n,r,rfl,C,by lia,by lia,λk _=>Qg7,λJ M=>?_⟩;have R:jk e J=key m e g n:=Xr λi hi=>M.uniq (Ly.Qh2 C (bit n)) hi;have H:((r:Int)+(Ly.rc (4*m+e+2*e) (Ly.Gx m e g) (Ly.Ox m e (bit n)) (Ly.Sf m e):Nat))=((rg m e g r n:Nat):Int):=by unfold rg;lia
   unfold Qva;rw[H];simp only[Qcd,Qdc,Dh,Db,Qk,Qdp];obtain⟨S,v⟩:=Q0s (n:=n) (r:=r) C hm L;refine⟨Gy m n,rg m e g r n,by rw[Q0g],by lia,?_⟩;rw[Qws];refine⟨by rw[← jk_D,Jw,D.pure,Jv];rfl,s,key m e g n,wg m e g r n,Rw m,by rw[← R,jk_D];rfl,ps.nd,by lia,Qpe hm,q,v,?_,λus h1 h2 I=>⟨b,putS s (key m e g n) us,_,_,rfl,ps.step h1 I,q.put ps.nd h1 h2,?_⟩⟩
   ·unfold wg wtT;rw[Ap,Bz];lia
   ·have:=Qjh (c:=key m e g n) (a:=us) (s:=s);lia
  ·rintro ρ ⟨G,s,o2,x,rfl,ps,q,o⟩;rw[Qbf]at G ps o;simp only[wRet,Qs,Jd,look,Bv,wNil,Qj,Bi,Qk,Je,true_and];refine⟨s,rfl,ps.nd,by lia,?_⟩;exact k (nzS s) ps.nz (λp X=>q p (Do.mp X).1) (by have:=D6 (λp:Mx.MI×T=>decide (p.2≠[])) s;unfold nzS;lia)
theorem Qs3(h:Inv e J)(h':Inv e J')(k:jk e J=jk e J'):∀i,i<e->J i=J' i:=by
 have d:((upJ J e).map λ(i:Nat)=>(N4 [(i:Int),(J i:Int)]:Int ⊕ List Int))=(upJ J' e).map λ(i:Nat)=>N4 [(i:Int),(J' i:Int)]:=T8 k;have up:∀i,i<e->i<J i->J' i=J i:=λi hi a=>by
  have hm:(N4 [(i:Int),(J i:Int)]:Int ⊕ List Int)∈(upJ J e).map λ(i:Nat)=>(N4 [(i:Int),(J i:Int)]:Int ⊕ List Int):=As.mpr ⟨i,Qa2.mpr ⟨hi,a⟩,rfl⟩;rw[d]at hm;obtain⟨j,_,g⟩:=As.mp hm;have:=T8 g;simp only[Rn,and_true]at this;have f:j=i:=by lia
  subst f;lia
 intro i hi;obtain⟨c,b,l⟩:=h i hi;by_cases z:i<J i
 ·exact(up i hi z).symm
 ·have:=up (J i) c (by rw[b];lia);rw[b]at this;have h2:=(h' (J i) c).2.1;rw[this]at h2;exact h2.symm
open Classical in
noncomputable def ren(e n:Nat)(c:Mx.MI):Mx.MI:=if h:∃J,Inv e J/\c=jk e J then jk e (J2 e n h.choose)else c
theorem Qr1(h:∀i,i<e->J i=J' i):∀i,i<e->J2 e n J i=J2 e n J' i:=λi hi=>by
 unfold J2;rw[h _ (Ly.Yt hi)]
theorem Qjc(h:Inv e J):ren e n (jk e J)=jk e (J2 e n J):=by
 have a:∃J',Inv e J'/\jk e J=jk e J':=⟨J,h,rfl⟩
 unfold ren;rw[dif_pos a];obtain⟨h1,h2⟩:=a.choose_spec;exact Xr (Qr1 (Qs3 h1 h h2.symm))
theorem Qhn(a:n<=e)(h:Inv e J)(h':Inv e J')(b:ren e n (jk e J)=ren e n (jk e J')):jk e J=jk e J':=by
 rw[Qjc h,Qjc h']at b;have c:=Qs3 (Qnt a h) (Qnt a h') b;refine Xr λi hi=>?_;have:=c (Ly.rot e n i) (Ly.Yt hi);unfold J2 at this;rw[Ly.Y3 a hi]at this;have:=congrArg (Ly.rot e (e-n)) this
 rwa [Ly.Y3 a (h i hi).1,Ly.Y3 a (h' i hi).1]at this
theorem Qqk(b:n<=e):rngD (n:Int) (e-n)++rngD 0 n=(Aq e).map λ(i:Nat)=>D.int (((i+n)%e:Nat):Int):=by
 unfold rngD;refine Iu (by simp;lia) λj h1 h2=>?_;simp only[Ap,Bz]at h2;rw[Fx,Fs];by_cases a:j<e-n
 ·rw[Of (by simpa using a),Fx,Fs,Nu (by lia)];congr 1;lia
 ·rw[L0 (by simp;lia),Fx,Fs];simp only[Ap,Bz];rw[show j+n=(j-(e-n))+e by lia,T7,Nu (by lia)];congr 1;lia
def Jk(e:Nat)(s:SM):Prop:=∀p∈s,∃J,Inv e J/\p.1=jk e J
noncomputable def shS(e n:Nat)(s:SM):SM:=s.map λp=>(ren e n p.1,p.2)
theorem Qsf{e n:Nat}(f:n<=e):∀{s:SM},(s.map (·.1)).Nodup->Jk e s->((shS e n s).map (·.1)).Nodup
 | [],_,_=>Df
 | p::s,nd,c=>by
  obtain⟨h1,h2⟩:=Bf.mp nd;have h:=Qsf f h2 λq b=>c q (Am _ b);show(ren e n p.1::(shS e n s).map (·.1)).Nodup;refine Bf.mpr ⟨λm=>?_,h⟩;unfold shS at m;rw[Bg]at m;obtain⟨q,b,eq⟩:=As.mp m;have eq:ren e n q.1=ren e n p.1:=eq;obtain⟨J,g,ep⟩:=c p (An ..);obtain⟨J',d,a⟩:=c q (Am _ b);rw[ep,a]at eq;have:=Qhn f d g eq;rw[← ep,← a]at this;refine h1 ?_;show p.1∈s.map (·.1);rw[← this];exact As.mpr ⟨q,b,rfl⟩
def Jy:GI:=λds k=>∃(s:SM)(e n:Nat),ds=[.dmx (encS s),.int e,.int n]/\n<=e/\e<=40/\s.length<=8/\(s.map (·.1)).Nodup/\Jk e s/\k (.dmx (encS (shS e n s))) (.dmx (encS s))
abbrev Jx:Stmt:=top 29
theorem J3:FnScope ["sums","ends","many","numbers","told","joining","polynomial"] ["sums","ends","many"] (Qc Jx):=⟨rfl,rfl,rfl,by decide +kernel,rfl,by decide +kernel,by decide +kernel⟩
def Gf:Tg:={ own:=λi=>i==0||i==3||i==4||i==5||i==6,io:=[0] }
noncomputable def Gd:WS:=(wSeq (wSet 3 (Qp Zb (Qd (wBin J8 (Qp Qc4 (Qd (wVar 2) (Qd (wVar 1) wNil))) (Qp Qkc (Qd (wVar 2) wNil))) wNil)))
 (wSeq (wSet 4 (wC (.dmx [])))
 (wSeq (wFor (Zs 0) (Qba 2 (Yb (gN 5) (Yb (gN 6) Qbb))) (G5 4 (wVar 6) (Qp Za (Qd (wVar 5) (Qd (wVar 3) wNil)))))
 (Qab 4))))
theorem Qdo{K:Frag}(B:Bn K mg)(c:Cal P w K mg base "numbers_by" 1 ["order"] (spR K Zb))(d:Cal P w K mg base "renumbered" 2 ["joining","numbers"] (spR K Za)):∀(a:Value)(A:Around)(outer:List Dr)(s:Shared)(H:Hp)(E:XK),Room 2 (A.deeper (envOfC "shifted_sums" (Qc Jx) s.heap.objs.size f a))->SVs (cxOf CX0 P w K mg base ["sums","ends","many","numbers","told","joining","polynomial"] "shifted_sums" (Qc Jx) f a A outer s H E).nox Gf (Qr Jx) Gd:=λa A outer s H E b=>
  (Qe (Qy (i:=3) (Jl c (b.mono (by decide)) (Qa (Qv Q3 (Qfb B.nb_range B.nb_list (Qa (Qb 2) (Qa (Qb 1) Qf))) (Qa4 B.nb_range B.nb_list (Qa (Qb 2) Qf))) Qf)) J3.nd)
  (Qe (Qy (i:=4) U6 J3.nd)
  (Qe (Ys Dv (Ul (s:=0)) (Xt (Jb (Q0 (i:=5) J3.nd) (Jb (Q0 (i:=6) J3.nd) V2))) (Ql (Gm (i:=4) (hu5 b) (Qb 6) (Jl d (b.mono (by decide)) (Qa (Qb 5) (Qa (Qb 3) Qf))))))
  (Ql (Qae (i:=4))))))
theorem Qcl{K:Frag}(F:Fun K "shifted_sums" "shifted_sums" Jx f fd)(B:Bn K mg)(E:Cal P w K mg base "numbers_by" 1 ["order"] (spR K Zb))(I:Cal P w K mg base "renumbered" 2 ["joining","numbers"] (spR K Za)):FnOk P w K mg base CX0 3 f fd ["sums","ends","many"] (spI K 0 Jy):=by
 refine Qh5 (T:=Gf) F J3 rfl rfl (λds kk h=>?_) (Qdo B E I) (λds kk h=>?_)
 ·obtain⟨s,e,n,rfl,_⟩:=h;exact⟨rfl,_,rfl⟩
 ·obtain ⟨s,e,n,rfl,a,A,M,nd,o,k⟩:=h;simp only[Gd,wSeq,wSet,Qp,Qd,wBin,env0,Ar,Bm,Av,Bc,Bp,Nat.reduceAdd,Bo,Bw,Bi,wNil,wC,Vf,Zs,Qw,look,Az,Ax,Qk,Vo,Qnm,Qmc,Fh,Qkx,Int.reduceNeg,Qer];have z:((e:Int)-(n:Int)).toNat=e-n:=by lia
  rw [z];refine⟨by lia,by lia,by lia,by lia,by lia,by lia,Vp,Vp,by rw[Yl,Yl];exact Fo (big (by lia)),e,n,by rw[Qqk a],a,A,?_⟩;generalize y:((Aq e).map λi=>(i+n)%e)=j;have u:∀i,i<e->i∈j:=λi hi=>by
   rw[← y];refine As.mpr ⟨Ly.rot e n i,Bl.mpr (Ly.Yt hi),?_⟩;have:=Ly.Y3 a hi;unfold Ly.rot at this ⊢
   rwa [show e-(e-n)=n by lia]at this
  refine⟨Qo λp _=>?_,λt ρ=>t<=s.length/\∃o2 r:Option D,ρ=[some (.fmx (encS s)),some (.int e),some (.int n),some (.dik (encN j (Ly.rot e n))),some (.dmx (encS (shS e n (s.take t)))),o2,r],⟨Dq _,none,none,rfl⟩,?_,?_⟩
  ·simp only[D.pure,Qj,Jw,Jv,B5]
  ·rintro t d ρ hd ⟨G,o2,r,rfl⟩;rw[Bh]at hd;obtain⟨p,g,rfl⟩:=B8.mp hd;have x:=(Au.mp g).1;have L:s.take (t+1)=s.take t++[p]:=by rw[Mf,g];rfl
   obtain⟨J,l,ep⟩:=o p (Bk g);have C:ren e n p.1=jk e (J2 e n J):=by rw[ep,Qjc l]
   have nk:ren e n p.1∉(shS e n (s.take t)).map (·.1):=λm=>by
    unfold shS at m;rw[Bg]at m;obtain⟨q,c,eq⟩:=As.mp m;have eq:ren e n q.1=ren e n p.1:=eq;obtain⟨J',v,b⟩:=o q (S3 c);rw[ep,b]at eq;have:=Qhn a v l eq;rw[← ep,← b]at this;exact Qek nd g (this ▸ As.mpr ⟨q,c,rfl⟩)
   have H:((shS e n (s.take t)).map (·.1)).Nodup:=Qsf a (nd.sublist ((N5 _ _).map _)) λq c=>o q (S3 c);simp only[G5,Qp,Qd,wNil,Qw,Xi,Av,Bc,Bp,Nat.reduceAdd,Vz,gN,Az,Ax,Xj,look,Bv,Qk,U0,true_and,D.pure];refine⟨Jv,J,e,n,j,by rw[ep,jk_D],l,a,A,u,?_⟩;rw[← jk_D];dsimp only;rw[Vg];refine⟨Jw _,?_,x,some (miD p.1),some (.tup (p.2.map pr2)),?_⟩
   ·rw[U8];unfold shS;rw[Ap,Ma];exact big (by lia)
   ·rw[← C,X0 H,Qbh nk,L];unfold shS;rw[B7];rfl
  ·rintro ρ ⟨G,o2,r,rfl⟩;rw[Ap,Du (At _)];simp only[Qab,look,Az,Ax,Qk,Z8];exact⟨Qig,by rw[Qcf];exact Qig,k⟩
def trS(s:SM):SM:=s.map λp=>(p.1,turn p.2)
def Q9:GI:=λds k=>∃(s:SM)(R:List Int),ds=[.dmx (encS s)]/\s.length<=8/\(s.map (·.1)).Nodup/\R.length<64/\Pw R s/\k (.dmx (encS (trS s))) (.dmx (encS s))
abbrev Jp:Stmt:=top 30
theorem Yh:FnScope ["sums","told","joining","polynomial"] ["sums"] (Qc Jp):=⟨rfl,rfl,rfl,by decide +kernel,rfl,by decide +kernel,by decide +kernel⟩
def Ua:Tg:={ own:=λi=>i==0||i==1||i==2||i==3,io:=[0] }
def V8:WS:=(wSeq (wSet 1 (wC (.dmx [])))
 (wSeq (wFor (Zs 0) (Qba 2 (Yb (gN 2) (Yb (gN 3) Qbb))) (G5 1 (Qp Yf (Qd (wVar 3) wNil)) (wVar 2)))
 (Qab 1)))
theorem Qda{K:Frag}(B:Bn K mg)(c:Cal P w K mg base "turned_about" 1 ["one"] (spR K Yf)):∀(a:Value)(A:Around)(outer:List Dr)(s:Shared)(H:Hp)(E:XK),Room 1 (A.deeper (envOfC "mirrored_sums" (Qc Jp) s.heap.objs.size f a))->SVs (cxOf CX0 P w K mg base ["sums","told","joining","polynomial"] "mirrored_sums" (Qc Jp) f a A outer s H E).nox Ua (Qr Jp) V8:=λa A outer s H E b=>
  (Qe (Qy (i:=1) U6 Yh.nd)
  (Qe (Ys Dv (Ul (s:=0)) (Xt (Jb (Q0 (i:=2) Yh.nd) (Jb (Q0 (i:=3) Yh.nd) V2))) (Ql (Gm (i:=1) (hu5 b) (Jl c (b.mono (by decide)) (Qa (Qb 3) Qf)) (Qb 2))))
  (Ql (Qae (i:=1)))))
theorem Qa8{K:Frag}(F:Fun K "mirrored_sums" "mirrored_sums" Jp f fd)(B:Bn K mg)(i:Cal P w K mg base "turned_about" 1 ["one"] (spR K Yf)):FnOk P w K mg base CX0 2 f fd ["sums"] (spI K 0 Q9):=by
 refine Qh5 (T:=Ua) F Yh rfl rfl (λds kk h=>?_) (Qda B i) (λds kk h=>?_)
 ·obtain⟨s,R,rfl,_⟩:=h;exact⟨rfl,_,rfl⟩
 ·obtain ⟨s,R,rfl,r,nd,n,hw,k⟩:=h;simp only[V8,wSeq,wSet,wC,env0,Ar,Bm,Av,Bc,Bp,Nat.reduceAdd,Bo,Bw,Bi,Az,Ax,Vf,Zs,look,Qk,Vo,Qnm];refine⟨Qo λp _=>?_,λt ρ=>t<=s.length/\∃o2 b:Option D,ρ=[some (.fmx (encS s)),some (.dmx (encS (trS (s.take t)))),o2,b],⟨Dq _,none,none,rfl⟩,?_,?_⟩
  ·simp only[D.pure,Qj,Jw,Jv,B5]
  ·rintro t d ρ hd ⟨j,o2,b,rfl⟩;rw[Bh]at hd;obtain⟨p,a,rfl⟩:=B8.mp hd;have c:=(Au.mp a).1;have q:s.take (t+1)=s.take t++[p]:=by rw[Mf,a];rfl
   obtain⟨g,m⟩:=hw p (Bk a);have u:=Qn2 g m;simp only[G5,Qp,Qd,wNil,Qw,Xi,Av,Bc,Bp,Nat.reduceAdd,Vz,gN,Az,Ax,Xj,look,Bv,Qk,U0,true_and];have e:∀l:SM,(trS l).map (·.1)=l.map (·.1):=λl=>by unfold trS;rw[Bg];rfl
   have nk:p.1∉(trS (s.take t)).map (·.1):=by rw[e];exact Qek nd a
   have o:((trS (s.take t)).map (·.1)).Nodup:=by rw[e];exact nd.sublist ((N5 _ _).map _)
   refine⟨p.2,rfl,by lia,by rw[D.pure];exact Jv,?_⟩;rw[Vg];refine⟨Jw _,?_,c,some (miD p.1),some (.tup (p.2.map pr2)),?_⟩
   ·rw[U8];unfold trS;rw[Ap,Ma];exact big (by lia)
   ·rw[X0 o,Qbh nk,q];unfold trS;rw[B7];rfl
  ·rintro ρ ⟨j,o2,b,rfl⟩;rw[Ap,Du (At _)];simp only[Qab,look,Az,Ax,Qk,Z8];exact⟨Qig,by rw[Qcf];exact Qig,k⟩
theorem Qh8{s:SM}{p:Mx.MI×T}:∀{s:SM},(s.map (·.1)).Nodup->p∈s->valD (encS s) p.1=some (.tup (p.2.map pr2))
 | [],_,h=>nomatch h
 | q::s,nd,h=>by
  obtain⟨h1,h2⟩:=Bf.mp nd;unfold encS;rw[Ar,Q1];rcases Ay.mp h with rfl|h
  ·rw[if_pos rfl]
  ·rw[if_neg λz=>h1 (by show q.1∈s.map (·.1);rw[z];exact As.mpr ⟨p,h,rfl⟩)];exact Qh8 (s:=s) h2 h
def Zo:GI:=λds k=>∃(s:SM)(e:Nat),ds=[.dmx (encS s)]/\(s.map (·.1)).Nodup/\s.length<=8/\e<=8/\Jk e s/\(∀p∈s,p.2.length<=100)/\k (.bl true) (.dmx (encS s))
abbrev Y2:Stmt:=top 36
theorem Z5:FnScope ["_law_found","_law_joining","_law_two","_law_number"] ["_law_found"] (Qc Y2):=⟨rfl,rfl,rfl,by decide +kernel,rfl,by decide +kernel,by decide +kernel⟩
def Qb2:Tg:={ own:=λi=>i==0||i==1||i==2||i==3,io:=[0] }
noncomputable def Qbv:WS:=(wSeq (wIf (wNot (wTru (Qp Qrh (Qd (wVar 0) (Qd (wC (.ty .dict)) wNil))))) (wRet (wC (.bl false))) Ve)
 (wSeq (wFor (Qlp 0) (gN 1) (wFor (V6 (wBin J8 (Qp Qrg (Qd (wBin dIxM (wVar 0) (wVar 1)) wNil)) (Qp Qrg (Qd (wVar 1) wNil)))) (gN 2) (wSeq (wIf (wOr (wNot (wTru (Qp dIsi (Qd (wVar 2) (Qd (wC (.ty .tuple)) wNil))))) (wOr (wNot (wTru (Qp dIsi (Qd (wVar 1) (Qd (wC (.ty .tuple)) wNil))))) (wNot (wTru (Qp dIsi (Qd (wBin dIxM (wVar 0) (wVar 1)) (Qd (wC (.ty .tuple)) wNil))))))) (wRet (wC (.bl false))) Ve)
 (wFor (V6 (Q6 (wVar 2))) (gN 3) (wIf (wOr (wNot (wTru (Qp dIsi (Qd (wVar 3) (Qd (wC (.ty .int)) wNil))))) (wTru (Qp dIsi (Qd (wVar 3) (Qd (wC (.ty .bool)) wNil))))) (wRet (wC (.bl false))) Ve)))))
 (wRet (wC (.bl true)))))
theorem Qij{K:Frag}(B:Bn K mg):∀(a:Value)(A:Around)(outer:List Dr)(s:Shared)(H:Hp)(E:XK),Room 0 (A.deeper (envOfC "_law_made" (Qc Y2) s.heap.objs.size f a))->SVs (cxOf CX0 P w K mg base ["_law_found","_law_joining","_law_two","_law_number"] "_law_made" (Qc Y2) f a A outer s H E).nox Qb2 (Qr Y2) Qbv:=λa A outer s H E b=>
  (Qe (Qb4 (Qby (Qav (Jm Qwl B.nb_isinstance Ya (Qa (Qb 0) (Qa (Qk8 .dict B.nb_dict Qo7) Qf))))) (Ql (Jj Qfd)) Zu)
  (Qe (Ys Dv (Qqy (s:=0)) (Q0 (i:=1) Z5.nd) (Ql (Ys Dv (V5 (Qv Q3 (Jg Qoy B.nb_list Qo6 (Qa (Jr (Qr6 (hu5 b)) (Qb 0) (Qb 1)) Qf)) (Jg Qoy B.nb_list Qo6 (Qa (Qb 1) Qf)))) (Q0 (i:=2) Z5.nd) (Qe (Qb4 (Qbz (Qg5 (Qby (Qav (Jm Qg2 B.nb_isinstance Ya (Qa (Qb 2) (Qa (Qk8 .tuple B.nb_tuple J9) Qf))))) (Qg5 (Qby (Qav (Jm Qg2 B.nb_isinstance Ya (Qa (Qb 1) (Qa (Qk8 .tuple B.nb_tuple J9) Qf))))) (Qg4 (Qby (Qav (Jm Qg2 B.nb_isinstance Ya (Qa (Jr (Qr6 (hu5 b)) (Qb 0) (Qb 1)) (Qa (Qk8 .tuple B.nb_tuple J9) Qf))))))))) (Ql (Jj Qfd)) Zu)
  (Ql (Ys Dv (V5 (Q4 (Qb 2))) (Q0 (i:=3) Z5.nd) (Ql (Qb4 (Qbz (Qg5 (Qby (Qav (Jm Qg2 B.nb_isinstance Ya (Qa (Qb 3) (Qa (Qk8 .int B.nb_int Qtj) Qf))))) (Qg4 (Qav (Jm Qg2 B.nb_isinstance Ya (Qa (Qb 3) (Qa (Qk8 .bool B.nb_bool Qwm) Qf))))))) (Ql (Jj Qfd)) Zu))))))))
  (Ql (Jj Qfd))))
theorem Qgf{K:Frag}(F:Fun K "_law_made" "_law_made" Y2 f fd)(B:Bn K mg):FnOk P w K mg base CX0 1 f fd ["_law_found"] (spI K 0 Zo):=by
 refine Qn1 (T:=Qb2) F Z5 rfl rfl (λds kk h=>?_) (Qij B) (λds kk h=>?_)
 ·obtain⟨s,e,rfl,_⟩:=h;exact⟨rfl,_,rfl⟩
 ·obtain ⟨s,e,rfl,nd,L,C,y,o,k⟩:=h;simp only[Qbv,wSeq,wIf,wNot,env0,Ar,Bm,Av,Bc,Bp,Nat.reduceAdd,Bo,Bw,Bi,wRet,wC,Ve,Vf,Qlp,Qma,Qp,Qd,wNil,Qw,look,Qk,Ax,Vo,Quq,A0n,Qf2,Fk,Bq,reduceIte];have v:Qd7 (encS s)=s.map λp=>miD p.1:=by unfold Qd7 encS;rw[Bg];rfl
  rw[v];refine⟨Qo λp _=>Jw _,λt ρ=>∃o1 o2 a:Option D,ρ=[some (.fmx (encS s)),o1,o2,a],⟨none,none,none,rfl⟩,?_,?_⟩
  ·rintro t d ρ hd ⟨o1,o2,a,rfl⟩;rw[Bh]at hd;obtain⟨p,E,rfl⟩:=B8.mp hd;have hm:=Bk E;obtain⟨J,H,ep⟩:=y p hm;have j:=Qh8 (s:=s) nd hm;obtain⟨b,n,r⟩:∃b:T,miD p.1=.tup (b.map pr2)/\b.length<=8:=by
    refine⟨(upJ J e).map λ(i:Nat)=>((i:Int),(J i:Int)),?_,?_⟩
    ·rw[ep,jk_D];unfold Qa9;rw[Bg];rfl
    ·rw[Ap];have:=D6 (λi=>decide (i<J i)) (Aq e);rw[Bz]at this;exact Dg this C
   have m:keyM (.tup (b.map pr2))=some p.1:=by rw[← n,Vg]
   have u:=o p hm;rw[n];simp only[gN,Az,Ax,Vf,Xg,wBin,Qp,Qd,wNil,Qw,look,Qk,Quj,Jv,true_and,Qmg,m,j,Qer,Ap,← B7,Qcb];refine⟨Fo (big (by lia)),λt ρ=>∃o2 a:Option D,ρ=[some (.fmx (encS s)),some (.tup (b.map pr2)),o2,a],⟨_,_,rfl⟩,?_,?_⟩
   ·rintro O d2 ρ c ⟨o2,a,rfl⟩;rw[Bh]at c;obtain⟨q,M,rfl⟩:=B8.mp c;have G:∀(l:List D),isiD (.tup l) .tuple=some true:=λ_=>rfl;have I:∀x:Int,isiD (.int x) .int=some true:=λ_=>rfl;have N:∀x:Int,isiD (.int x) .bool=some false:=λ_=>rfl;simp only[gN,wSeq,wIf,wOr,wNot,pr2,Az,Ax,wRet,wC,Ve,Vf,Xg,Q6,Qw,reduceIte,Qma,Qp,Qd,wBin,wNil,Qxm,isiD,Qf2,look,Qk,Z8,D.pure,Qj,B5,Qf4,true_and,Qmg,m,j,A0n,Fk,Bq];refine⟨λt ρ=>∃o2 a:Option D,ρ=[some (.fmx (encS s)),some (.tup (b.map pr2)),o2,a],⟨_,_,rfl⟩,?_,?_⟩
    ·rintro Q A ρ g ⟨o2,a,rfl⟩;obtain⟨x,rfl⟩:∃x:Int,A=.int x:=by
      rcases Ay.mp (Bk g)with z|z
      ·exact⟨_,z⟩
      ·exact⟨_,Aw.mp z⟩
     simp only[gN,wIf,wOr,wNot,Az,Ax,wRet,wC,Ve,reduceIte,Qma,Qp,Qd,wNil,Qxm,isiD,Qf2,Qw,look,Qk,Z8,A0n,Fk,Bq];exact⟨_,_,rfl⟩
    ·rintro ρ ⟨o2,a,rfl⟩;exact⟨_,_,rfl⟩
   ·rintro ρ ⟨o2,a,rfl⟩;exact⟨_,_,_,rfl⟩
  ·rintro ρ ⟨o1,o2,a,rfl⟩;simp only[wRet,wC,look,Qk,Z8];exact⟨Qig,rfl,k⟩
end K54
variable {s:K54.SM}
namespace K54
open PySem PySem.Spec L2 PV Pol Dct Sms
section
variable {n0:Nat}
theorem Qs9{W:Nat->Nat}(a:M.Tw (4*m+e) A g)(h:Ly.Jn m e g W J):Inv e J:=λi hi=>⟨(h i hi).1,h.inv a hi⟩
theorem Qrd{d:Nat}(hd:0<d)(h:n<d*k):(d*k-1-n)/d=k-1-n/d:=by
 have g:=Nat.div_add_mod n d;have f:=Nat.mod_lt n hd;have e:n/d<k:=(Pj hd).mpr (by rw[Kb];exact h);obtain⟨c,b⟩:∃c,k=n/d+1+c:=⟨k-(n/d+1),by lia⟩
 have a:d*k-1-n=d*c+(d-1-n%d):=by
  rw[b,A0y,A0y,Nat.mul_one];lia
 rw[a,Nat.mul_add_div hd,Oe (by lia)];lia
theorem Qfk(a:n<2 ^ m)(hi:i<m):bit (2 ^ m-1-n) i=1-bit n i:=by
 unfold bit;have e:2 ^ m=2 ^ i*(2*2 ^ (m-i-1)):=by
  rw[← Nat.mul_assoc,Kb (2 ^ i) 2,← Nat.pow_succ',← Nat.pow_add];congr 1;lia
 have b:n/2 ^ i<2*2 ^ (m-i-1):=(Pj (Ko i)).mpr (by rw[Kb,← e];exact a);have:=Qrd (d:=2 ^ i) (k:=2*2 ^ (m-i-1)) (n:=n) (Ko i) (by rw[← e];exact a);rw[← e]at this;rw[this];lia
theorem Qps(b:n<2 ^ m):(Gy m (2 ^ m-1-n)).sum=(m:Int)-(Gy m n).sum:=by
 have gen:∀t,t<=m->((Aq t).map λi=>(bit (2 ^ m-1-n) i:Int)).sum=(t:Int)-((Aq t).map λi=>(bit n i:Int)).sum:=by
  intro t
  induction t with
  |zero=>intro _;rfl
  | succ t a=>
   intro c;have h1:=Qfk b (show t<m by lia);have h2:=Qg7 (n:=n) (i:=t);rw[M0,B7,B7,Te,Te,a (by lia)];simp only[Ar,Bm,Il,List.sum_nil,h1];lia
 exact gen m (At _)
theorem Qts:turn (wtT p r)=wtT (-p-4*(r:Int)) r:=by
 unfold turn wtT;refine Iu (by simp) λk h1 h2=>?_;simp only[Ap,Bz]at h2;rw[Fx,P6,Fx,Fx,Fs,Fs];simp only[Ap,Bz];refine A0z ?_ ?_
 ·show -(p+4*((r+1-1-k:Nat):Int))=_;show _ = -p-4*(r:Int)+4*(k:Int);lia
 ·show M32.num r (r+1-1-k)=M32.num r k;exact M32.Qqn (by lia)
theorem Qv5(a:n<2 ^ m):2 ^ m-1-n<2 ^ m:=by lia
theorem Q05(b:M.Tw (4*m+e) A g)(a:n<2 ^ m):rg m e (Ly.gM m g) r (2 ^ m-1-n)=rg m e g r n:=by
 unfold rg;rw[Ly.Q07 b (W:=bit n) (W':=bit (2 ^ m-1-n)) (λk _=>Qg7) λk c=>Qfk a c]
theorem Q0t(b:M.Tw (4*m+e) A g)(a:n<2 ^ m):wg m e (Ly.gM m g) r (2 ^ m-1-n)=turn (wg m e g r n):=by
 unfold wg;rw[Qts,Q05 b a,(cnt (m:=m) (n:=n)).1,(cnt (m:=m) (n:=2 ^ m-1-n)).1,Qps a];congr 1;lia
theorem Qzj(a:M.Tw (4*m+e) A g)(b:n<2 ^ m):key m e (Ly.gM m g) (2 ^ m-1-n)=key m e g n:=by
 unfold key;refine Xr λi hi=>?_;exact(Ly.Qh2 (Ly.tw_mi a) _).uniq (Ly.Q14 a (W:=bit n) (λk _=>Qg7) (λk c=>Qfk b c) (Ly.Qh2 a _)) hi
theorem Q04(a:M.Tw (4*m+e) A g)(h0:n0<=e):rg m e (Ly.gS m e n0 g) r n=rg m e g r n:=by
 unfold rg;rw[← Ly.Q06 a h0]
theorem Q0r(a:M.Tw (4*m+e) A g)(h0:n0<=e):wg m e (Ly.gS m e n0 g) r n=wg m e g r n:=by
 unfold wg;rw[Q04 a h0]
theorem Qzg(a:M.Tw (4*m+e) A g)(h0:n0<=e):key m e (Ly.gS m e n0 g) n=ren e n0 (key m e g n):=by
 unfold key;rw[Qjc (Qs9 a (Ly.Qh2 a _))];exact Xr λi hi=>(Ly.Qh2 (Ly.tw_sh a h0) _).uniq (Ly.Q13 a h0 (Ly.Qh2 a _)) hi
theorem Qnf(a:M.Tw (4*m+e) A g)(n:Nat):∃J,Inv e J/\key m e g n=jk e J:=⟨_,Qs9 a (Ly.Qh2 a _),rfl⟩
theorem Q0n(b:M.Tw (4*m+e) A g){wv:Nat->T}(h:Pz N (key m e g) wv s):Jk e s:=λp a=>by
 obtain⟨n,_,h2⟩:=h.fr p a;rw[h2];exact Qnf b n
theorem Q03(a:M.Tw (4*m+e) A g)(h0:n0<=e)(h:Pz (2 ^ m) (key m e g) (wg m e g r) s):Pz (2 ^ m) (key m e (Ly.gS m e n0 g)) (wg m e (Ly.gS m e n0 g) r) (shS e n0 s):=by
 have:=h.ren (r:=ren e n0) λn k _ _ z=>by
  obtain⟨J,h1,i⟩:=Qnf a n;obtain⟨J',b,c⟩:=Qnf a k;rw[i,c]at z ⊢;exact Qhn h0 h1 b z
 have f:(λn=>ren e n0 (key m e g n))=key m e (Ly.gS m e n0 g):=funext λn=>(Qzg a h0).symm;have d:wg m e g r=wg m e (Ly.gS m e n0 g) r:=funext λn=>(Q0r a h0).symm;rw[f,d]at this;exact this
theorem Qy2(b:M.Tw (4*m+e) A g)(c:Mx.MI)(f:Int->Int):tot (2 ^ m) (key m e (Ly.gM m g)) (wg m e (Ly.gM m g) r) c f=tot (2 ^ m) (key m e g) (λn=>turn (wg m e g r n)) c f :=
 Qtx f λn h=>by
  have h1:=Qv5 (m:=m) h;have d:=Qzj b h1;have a:=Q0t (r:=r) b h1;rw[show 2 ^ m-1-(2 ^ m-1-n)=n by lia]at d a;exact⟨d,by rw[a]⟩
theorem Qen{s':SM}(nd:(s'.map (·.1)).Nodup)(h:s.length=s'.length/\∀p∈s,p∈s'):Qku (encS s) (encS s'):=by
 refine⟨by rw[U8,U8];exact h.1,λq b=>?_⟩;obtain⟨p,a,rfl⟩:=As.mp b;exact⟨Qj7,Qh8 (s:=s') nd (h.2 p a)⟩
end
def mt:Nat->List Nat->List (List (Nat×Nat))
 |_,[]=>[[]]
 |0,_::_=>[]
 |n+1,a::l=>l.flatMap λb=>(mt n (l.erase b)).map λx=>(a,b)::x
def mk(x:List (Nat×Nat)):Mx.MI:=.inr (x.map λp=>.inr [(p.1:Int),(p.2:Int)])
theorem h8:((mt 4 (Aq 8)).map λx=>Mx.Ym (mk x)).Nodup:=by decide +kernel
theorem h6:((mt 3 (Aq 6)).map λx=>Mx.Ym (mk x)).Nodup:=by decide +kernel
theorem h4:((mt 2 (Aq 4)).map λx=>Mx.Ym (mk x)).Nodup:=by decide +kernel
theorem h2:((mt 1 (Aq 2)).map λx=>Mx.Ym (mk x)).Nodup:=by decide +kernel
theorem h0:((mt 0 (Aq 0)).map λx=>Mx.Ym (mk x)).Nodup:=by decide +kernel
theorem Qyz{J:Nat->Nat}:∀(n:Nat)(l:List Nat),l.length<=2*n->l.Pairwise (· < ·)->(∀i∈l,J i∈l/\J (J i)=i/\J i≠i)->((l.filter λi=>decide (i<J i)).map λi=>(i,J i))∈mt n l
 |n,[],_,_,_=>by cases n<;>exact Aw.mpr rfl
 |0,a::l,h,_,_=>by simp at h
 | n+1,a::l,h,w,m=>by
  obtain⟨b,c⟩:=Ny.mp w;obtain⟨r,k,t⟩:=m a (An ..);have e:J a∈l:=(Ay.mp r).resolve_left t;have g:a<J a:=b _ e;have nd:l.Nodup:=c.imp λh z=>by lia
  have u:(l.filter λi=>decide (i<J i))=((l.erase (J a)).filter λi=>decide (i<J i)):=by
   rw[nd.erase_eq_filter,List.filter_filter];refine Sr λi hi=>?_;by_cases z:i=J a
   ·subst z;rw[k];simp;lia
   ·simp[z]
  have s:=Qyz n (l.erase (J a)) (by rw[R3 e];simp only[Av]at h;lia) (c.sublist List.erase_sublist) λi hi=>by
   have d:i∈l:=List.mem_of_mem_erase hi;have j:i≠J a:=λz=>(nd.not_mem_erase) (z ▸ hi)
   obtain ⟨p,f,v⟩:=m i (Am _ d);refine⟨?_,f,v⟩;have o:J i≠a:=λz=>j (by rw[← f,z]);have q:J i≠J a:=λz=>by
    have:=congrArg J z;rw[f,k]at this;have:=b i d;lia
   exact(S2 q).mpr ((Ay.mp p).resolve_left o)
  rw[Od,if_pos (decide_eq_true g),Ar];unfold mt;refine M8.mpr ⟨J a,e,As.mpr ⟨_,s,?_⟩⟩;rw[u]
theorem Qzn:jk e J=mk ((upJ J e).map λi=>(i,J i)):=by
 unfold jk mk;rw[Bg];rfl
theorem Xs(hd:((mt n (Aq (2*n))).map λx=>Mx.Ym (mk x)).Nodup)(h:Inv (2*n) J)(h':Inv (2*n) J')(d:Mx.Ym (jk (2*n) J)=Mx.Ym (jk (2*n) J')):jk (2*n) J=jk (2*n) J':=by
 have mem:∀J,Inv (2*n) J->((upJ J (2*n)).map λi=>(i,J i))∈mt n (Aq (2*n)):=λJ h=>Qyz n _ (by simp) Sm λi hi=>by
  obtain⟨m,g,f⟩:=h i (Bl.mp hi);exact⟨Bl.mpr m,g,f⟩
 have inj:∀l:List (List (Nat×Nat)),(l.map λx=>Mx.Ym (mk x)).Nodup->∀x∈l,∀y∈l,Mx.Ym (mk x)=Mx.Ym (mk y)->x=y:=by
  intro l
  induction l with
  |nil=>intro _ x a;cases a
  | cons z l k=>
   intro nd x a y b e;obtain⟨c,j⟩:=Bf.mp nd;rcases Ay.mp a with rfl|a<;>rcases Ay.mp b with rfl|b
   ·rfl
   ·exact absurd (As.mpr ⟨y,b,e.symm⟩) c
   ·exact absurd (As.mpr ⟨x,‹x∈l›,e⟩) c
   ·exact k j x a y b e
 rw[Qzn,Qzn]at d ⊢;rw[inj _ hd _ (mem J h) _ (mem J' h') d]
theorem Qv1(b:e<=8)(h2:e%2=0)(h:Inv e J)(h':Inv e J')(a:Mx.Ym (jk e J)=Mx.Ym (jk e J')):jk e J=jk e J':=by
 have:e=2*0\/e=2*1\/e=2*2\/e=2*3\/e=2*4:=by lia
 rcases this with rfl|rfl|rfl|rfl|rfl
 ·exact Xs h0 h h' a
 ·exact Xs K54.h2 h h' a
 ·exact Xs h4 h h' a
 ·exact Xs h6 h h' a
 ·exact Xs h8 h h' a
theorem Qnx{e:Nat}(h:e<=8)(h2:e%2=0):∀{s:SM},(s.map (·.1)).Nodup->Jk e s->((encS s).map λp=>Mx.Ym p.1).Nodup
 | [],_,_=>Df
 | p::s,nd,f=>by
  obtain⟨j,k⟩:=Bf.mp nd;have l:=Qnx h h2 k λq b=>f q (Am _ b);show(Mx.Ym p.1::(encS s).map λp=>Mx.Ym p.1).Nodup;refine Bf.mpr ⟨λm=>?_,l⟩;obtain⟨n,d,c⟩:=As.mp m;obtain⟨q,b,rfl⟩:=As.mp d;have c:Mx.Ym q.1=Mx.Ym p.1:=c;obtain⟨J,i,ep⟩:=f p (An ..);obtain⟨J',g,a⟩:=f q (Am _ b);rw[ep,a]at c;have:=Qv1 h h2 g i c;rw[← ep,← a]at this;refine j ?_;show p.1∈s.map (·.1);rw[← this];exact As.mpr ⟨q,b,rfl⟩
end K54
namespace K54
open PySem PySem.Spec L2 PV
open PyProof.Rows (envOfC)
open Pol Dct Sms
open Ly (Jw Qj3 Vg Qfe Qh0)
def Qn0:GA:=λds k=>∃ns:List Int,ds=[.kls (ns.map .int)]/\ns.length<=63/\k (.bl true)
abbrev Qa6:Stmt:=top 37
theorem Gg:FnScope ["_law_script","_law_cell","_law_row","_law_web_here","_law_some","_law_kept","_law_count","_law_due","_law_found"] ["_law_script"] (Qc Qa6):=⟨rfl,rfl,rfl,by decide +kernel,rfl,by decide +kernel,by decide +kernel⟩
def Qw1:Tg:={ own:=λi=>i==1||i==2||i==3||i==4||i==5||i==6||i==7||i==8,io:=[] }
noncomputable def Qwv:WS:=(wSeq (wFor (V6 (wBin J8 (wLst (Qd (wC (.int 0)) wNil)) (wSlT (wVar 0) Qbx (Qde (wC (.int 3)))))) (gN 1) (wSeq (wSet 2 (wLst (Qd (Q6 (wVar 1)) (Qd (wC (.int 0)) wNil))))
 (wSeq (wSet 3 (Qs 2 Uq (Jd 2 (Qd (Qs 2 Qx (Jd 2 (Qd (wC (.int 4)) wNil))) (Qd (wBin dMul (wC (.int 2)) (Qs 2 Qx (Jd 2 (Qd (wC (.int 5)) wNil)))) (Qd (wBin dIx (wLst (Qd (wC (.int 3)) (Qd (wC (.int 20)) wNil))) (Qp dInt (Qd (wBin dEq (Qs 2 Qx (Jd 2 (Qd (wC (.int 8)) wNil))) (wC (.int 1))) wNil))) wNil))))))
 (wSeq (wSet 4 (Qp Jt (Qd (wVar 3) wNil)))
 (wSeq (wSet 5 (Qp Qoo (Qd (wVar 4) wNil)))
 (wSeq (wFor (Qhl (Qd (wBin J8 (Qp dLen (Qd (wBin dIx (wVar 3) (wC (.int 1))) wNil)) (wC (.int 1))) wNil)) (gN 6) (wSeq (wSet 7 (Qp Jt (Qd (Qp Uo (Qd (wVar 3) (Qd (wVar 6) wNil))) wNil)))
 (wSeq (wSet 8 (Qs 4 Jy (Jd 4 (Qd (Qp dLen (Qd (wBin dIx (wVar 3) (wC (.int 1))) wNil)) (Qd (wVar 6) wNil)))))
 (wSeq (wIf (wOr (wNot (wTru (Qs 8 Zo (Jd 8 wNil)))) (wBl (wBin (dEqM false) (wVar 8) (wVar 7)))) (wRet (wC (.bl false))) Ve)
 (wSeq (Gk (wMt 8 "dict" Qe7 wNil))
 (wIf (wOr (wBl (wBin (dEqM false) (wVar 4) (wVar 5))) (wBl (wBin (dEqM false) (Qs 4 Jy (Jd 4 (Qd (Qp dLen (Qd (wBin dIx (wVar 3) (wC (.int 1))) wNil)) (Qd (wVar 6) wNil)))) (wVar 7)))) (wRet (wC (.bl false))) Ve))))))
 (wSeq (wSet 8 (Qs 4 Q9 (Jd 4 wNil)))
 (wSeq (wIf (wOr (wNot (wTru (Qs 8 Zo (Jd 8 wNil)))) (wOr (wBl (wBin (dEqM false) (wVar 8) (Qp Jt (Qd (Qp Zn (Qd (wVar 3) wNil)) wNil)))) (wOr (wBl (wBin (dEqM false) (Qs 8 Q9 (Jd 8 wNil)) (wVar 4))) (wBl (wBin (dEqM false) (wVar 4) (wVar 5)))))) (wRet (wC (.bl false))) Ve)
 (wSeq (Gk (wMt 8 "dict" Qe7 wNil))
 (wIf (wBl (wBin (dEqM false) (Qs 4 Q9 (Jd 4 wNil)) (Qp Jt (Qd (Qp Zn (Qd (wVar 3) wNil)) wNil)))) (wRet (wC (.bl false))) Ve))))))))))
 (wRet (wC (.bl true))))
theorem Q2k{K:Frag}(B:Bn K mg)(j:Cal P w K mg base "mirrored" 1 ["web"] (spR K Zn))(l:Cal P w K mg base "shifted" 1 ["web","many"] (spR K Uo))(c:Cal P w K mg base "plain_sums" 4 ["web"] (spR K Jt))(g:Cal P w K mg base "shifted_sums" 3 ["sums","ends","many"] (spI K 0 Jy))(e:Cal P w K mg base "mirrored_sums" 2 ["sums"] (spI K 0 Q9))(d:Cal P w K mg base "_law_take" 1 ["_law_row","_law_base"] (spI K 0 Qx))(k:Cal P w K mg base "_law_web" 3 ["_law_row","_law_many","_law_ends","_law_most"] (spI K 0 Uq))(h:Cal P w K mg base "_law_made" 1 ["_law_found"] (spI K 0 Zo)):∀(b:Value)(A:Around)(outer:List Dr)(s:Shared)(H:Hp)(E:XK),Room 4 (A.deeper (envOfC "law" (Qc Qa6) s.heap.objs.size f b))->SVs (cxOf CX0 P w K mg base ["_law_script","_law_cell","_law_row","_law_web_here","_law_some","_law_kept","_law_count","_law_due","_law_found"] "law" (Qc Qa6) f b A outer s H E).nox Qw1 (Qr Qa6) Qwv:=λb A outer s H E a=>
  (Qe (Ys Dv (V5 (Qv Q3 (Xx (Qa Qi Qf)) (Qcx (Qb 0) Qah (Ug Qi)))) (Q0 (i:=1) Gg.nd) (Qe (Qy (i:=2) (Xx (Qa (Q4 (Qb 1)) (Qa Qi Qf))) Gg.nd)
  (Qe (Qy (i:=3) (Qq k (a.mono (by decide)) (Q5 (i:=2) (Qa (Qq d (a.mono (by decide)) (Q5 (i:=2) (Qa Qi Qf))) (Qa (Qv Y9 Qi (Qq d (a.mono (by decide)) (Q5 (i:=2) (Qa Qi Qf)))) (Qa (Jr (J0 (Q8 a)) (Xx (Qa Qi (Qa Qi Qf))) (Jg Q0c B.nb_int Qtj (Qa (Qz2 (Qvi a.units) (Qq d (a.mono (by decide)) (Q5 (i:=2) (Qa Qi Qf))) Qi) Qf))) Qf))))) Gg.nd)
  (Qe (Qy (i:=4) (Jl c (a.mono (by decide)) (Qa (Qb 3) Qf)) Gg.nd)
  (Qe (Qy (i:=5) (Jg Qro B.nb_dict Qo7 (Qa (Qb 4) Qf)) Gg.nd)
  (Qe (Ys Dv (Uk B.nb_range (Qa (Qv Q3 (Jm Qed B.nb_len Qee (Qa (Jr (J0 (Q8 a)) (Qb 3) Qi) Qf)) Qi) Qf)) (Q0 (i:=6) Gg.nd) (Qe (Qy (i:=7) (Jl c (a.mono (by decide)) (Qa (Jl l (a.mono (by decide)) (Qa (Qb 3) (Qa (Qb 6) Qf))) Qf)) Gg.nd)
  (Qe (Qy (i:=8) (Qq g (a.mono (by decide)) (Q5 (i:=4) (Qa (Jm Qed B.nb_len Qee (Qa (Jr (J0 (Q8 a)) (Qb 3) Qi) Qf)) (Qa (Qb 6) Qf)))) Gg.nd)
  (Qe (Qb4 (Qbz (Qg5 (Qby (Qav (Qq h (a.mono (by decide)) (Q5 (i:=8) Qf)))) (Qg4 (Zt (Qcm (hu65 a)) (Qb 8) (Qb 7))))) (Ql (Jj Qfd)) Zu)
  (Qe (Gn (Qtc (i:=8) Qgi D1 Tz Ol))
  (Ql (Qb4 (Qbz (Qg5 (Zt (Qcm (hu65 a)) (Qb 4) (Qb 5)) (Qg4 (Zt (Qcm (hu65 a)) (Qq g (a.mono (by decide)) (Q5 (i:=4) (Qa (Jm Qed B.nb_len Qee (Qa (Jr (J0 (Q8 a)) (Qb 3) Qi) Qf)) (Qa (Qb 6) Qf)))) (Qb 7))))) (Ql (Jj Qfd)) Zu)))))))
  (Qe (Qy (i:=8) (Qq e (a.mono (by decide)) (Q5 (i:=4) Qf)) Gg.nd)
  (Qe (Qb4 (Qbz (Qg5 (Qby (Qav (Qq h (a.mono (by decide)) (Q5 (i:=8) Qf)))) (Qg5 (Zt (Qcm (hu65 a)) (Qb 8) (Jl c (a.mono (by decide)) (Qa (Jl j (a.mono (by decide)) (Qa (Qb 3) Qf)) Qf))) (Qg5 (Zt (Qcm (hu65 a)) (Qq e (a.mono (by decide)) (Q5 (i:=8) Qf)) (Qb 4)) (Qg4 (Zt (Qcm (hu65 a)) (Qb 4) (Qb 5))))))) (Ql (Jj Qfd)) Zu)
  (Qe (Gn (Qtc (i:=8) Qgi D1 Tz Ol))
  (Ql (Qb4 (Zt (Qcm (hu65 a)) (Qq e (a.mono (by decide)) (Q5 (i:=4) Qf)) (Jl c (a.mono (by decide)) (Qa (Jl j (a.mono (by decide)) (Qa (Qb 3) Qf)) Qf))) (Ql (Jj Qfd)) Zu)))))))))))
  (Ql (Jj Qfd)))
theorem Qys{K:Frag}(F:Fun K "law" "law" Qa6 f fd)(B:Bn K mg)(Wb:Cal P w K mg base "mirrored" 1 ["web"] (spR K Zn))(Wc:Cal P w K mg base "shifted" 1 ["web","many"] (spR K Uo))(Wd:Cal P w K mg base "plain_sums" 4 ["web"] (spR K Jt))(Wf:Cal P w K mg base "shifted_sums" 3 ["sums","ends","many"] (spI K 0 Jy))(We:Cal P w K mg base "mirrored_sums" 2 ["sums"] (spI K 0 Q9))(Wa:Cal P w K mg base "_law_take" 1 ["_law_row","_law_base"] (spI K 0 Qx))(Wo:Cal P w K mg base "_law_web" 3 ["_law_row","_law_many","_law_ends","_law_most"] (spI K 0 Uq))(Wg:Cal P w K mg base "_law_made" 1 ["_law_found"] (spI K 0 Zo)):FnOk P w K mg base CX0 5 f fd ["_law_script"] (spR K Qn0):=by
 refine Qal (T:=Qw1) F Gg rfl (by decide) (λds kk h=>?_) (Q2k B Wb Wc Wd Wf We Wa Wo Wg) (λds kk h=>?_)
 ·obtain⟨ns,rfl,_⟩:=h;rfl
 ·obtain ⟨ns,rfl,al,k⟩:=h;have ec:cutD (ns.map D.int) none (some 3)=(ns.take 3).map D.int:=by
   have:cutD (ns.map D.int) none (some ((3:Nat):Int))=(ns.map D.int).take 3:=Qth;rw[List.map_take,← this];rfl
  have el:(ns.take 3).length<=3:=by rw[Ma];lia
  simp only[Qwv,wSeq,env0,Ar,Bm,Av,Bc,Bp,Nat.reduceAdd,Bo,Bw,Bi,Vf,Xg,wBin,wLst,Qd,wC,wNil,sz1,wSlT,Qbx,Qf3,Qce,Qw,look,Qk,Qxw,Xl,ec,Qer,Qj,D.pure,B5,Qcb,true_and];refine⟨Fo (big (by rw[Ap];lia)),λt ρ=>∃o1 o2 o3 o4 o5 M H I:Option D,ρ=[some (.kls (ns.map .int)),o1,o2,o3,o4,o5,M,H,I],⟨_,_,_,_,_,_,_,_,rfl⟩,?_,?_⟩
  ·rintro t d ρ hd ⟨o1,o2,o3,o4,o5,M,H,I,rfl⟩;obtain⟨c,rfl⟩:∃c,d=.int c:=by
    rcases Ay.mp (Bk hd)with z|z
    ·exact⟨_,z⟩
    ·obtain⟨c,_,rfl⟩:=As.mp z;exact⟨c,rfl⟩
   simp only[gN,wSeq,wSet,wLst,Qd,Q6,Az,Ax,wC,wNil,Av,Bc,Bp,Nat.reduceAdd,sz2,Qs,Jd,Qj,D.pure,B5,Bi,wBin,Qp,Dm,Vf,Qf5,Qw,true_and,look,Bv,Qk,Xk];refine⟨c,0,4,rfl,by decide,by decide,by decide,by decide,λc1 r1 a1 b1=>?_⟩;simp only[rowD,Int.reduceAdd,Xk,Qj,D.pure,B5,S5,true_and];refine⟨c1,0+1,5,rfl,by decide,by decide,by decide,by decide,λc2 r2 a2 b2=>?_⟩;obtain⟨h2,rfl⟩:=Ni a2;obtain⟨m,rfl⟩:=Ni a1;have e4:(2:Int)*(h2:Int)=((2*h2:Nat):Int):=by lia
   simp only[rowD,Int.reduceAdd,Xk,Qj,D.pure,B5,true_and,Int.reduceNeg,Int.reduceLT,Xh,S5,e4];refine⟨c2,0+1+1,8,rfl,by decide,by decide,by decide,by decide,λc3 r3 a3 b3=>?_⟩;simp only[rowD,Int.reduceAdd,Xk,Qj,D.pure,B5,true_and,Qxo,Qxn,Qmf];obtain⟨S,ak,ae⟩:∃S:Int,(S=3\/S=20)/\L2.atI [D.int 3,D.int 20] (if decide (r3=1)=true then 1 else 0)=some (.int S):=by
    split
    ·exact⟨20,.inr rfl,rfl⟩
    ·exact⟨3,.inl rfl,rfl⟩
   rw[ae];simp only[Qk,D.pure,true_and];refine⟨c3,_,m,2*h2,S,rfl,by lia,by lia,by lia,by decide,by decide,λc' n' A g r O hA hr _ _=>?_⟩;obtain⟨r,rfl⟩:∃q:Nat,r=(q:Int):=⟨r.toNat,by lia⟩
   have b:r<=20:=by lia
   generalize he:2*h2=e at O;have a:e<=8:=by lia
   have ab:e%2=0:=by lia
   have n:m<=3:=by lia
   refine⟨m,e,r,A,g,rfl,O,n,a,b,λs y Q l=>?_⟩;simp only[Qp2];have v:=Q0n O y;refine⟨λp o=>?_,Qnx a ab y.nd v,?_⟩
   ·obtain⟨q,C,rfl⟩:=As.mp o;obtain⟨J,_,ep⟩:=v q C;exact⟨_,ep⟩
   have G:((Aq e).map λj=>D.int (A (4*m+j))).length=e:=by simp
   have U:∀kk:D->Prop,dIx (webD m e A r) (.int 1) kk=kk (.tup ((Aq e).map λj=>D.int (A (4*m+j)))):=λkk=>rfl;simp only[U,Qme,G,Zw,Qcc,Int.reducePow,Int.reduceNeg];have lw:∀{s:SM},Pw (Rw m) s->∀p∈s,p.2.length<=100:=λh p o=>by
    have:=Qn2 (h p o).1 (h p o).2;have:=Qpe n;lia
   have ss:=Qen y.nd (s:=s) ⟨rfl,λ_ h=>h⟩;refine⟨by lia,by lia,Vp,λt ρ=>∃M H I:Option D,ρ=[some (.kls (ns.map .int)),some (.int c),some (rowD c' n'),some (webD m e A r),some (.dmx (encS s)),some (.dmx (encS s)),M,H,I],⟨_,_,_,rfl⟩,?_,?_⟩
   ·rintro i d ρ hd ⟨M,H,I,rfl⟩;obtain⟨hi,rfl⟩:=Qep hd;have hi:i<=e:=by lia
    have N:=Q03 O hi y;have W:=Ly.tw_sh O hi;simp only[gN,wSeq,wSet,Qp,Qd,Kn,Az,Ax,wNil,Qs,Jd,wBin,wC,Qj,Dm,Bi,wIf,wOr,wNot,wRet,Ve,Gk,wMt,reduceIte,r_bl,Qw,Qma,true_and,look,Bv,Qk,D.pure,Je];refine⟨m,e,A,r,i,rfl,hi,by lia,?_⟩;refine⟨m,e,r,Ly.aS m e i A,Ly.gS m e i g,rfl,W,n,a,b,λs2 R ao aj=>?_⟩;simp only[U,Qme,D.pure,G,true_and];refine⟨s,e,i,rfl,hi,by lia,l,y.nd,v,?_⟩;simp only[Je,true_and,Go,Zv,Bq,reduceIte];have ag:Pw (Rw m) (shS e i s):=λp o=>by
     obtain⟨q,C,rfl⟩:=As.mp o;exact Q q C
    have l3:(shS e i s).length<=8:=by unfold shS;rw[Ap];exact l
    have s3:=Qen R.nd (N.same R λ_ _=>rfl);refine⟨shS e i s,e,rfl,N.nd,l3,a,Q0n W N,lw ag,?_⟩;simp only[Ue,ss,true_and,Qf7,Go,s3,Zv,Bq,reduceIte,Qf2,Fk];refine⟨s,e,i,rfl,hi,by lia,l,y.nd,v,?_⟩;simp only[Go,s3,Zv,Bq,reduceIte,true_and];exact⟨_,_,_,rfl⟩
   ·rintro ρ ⟨M,H,I,rfl⟩;have af:=y.turned;have ac:(trS s).map (·.1)=s.map (·.1):=by unfold trS;rw[Bg];rfl
    have lM:(trS s).length<=8:=by unfold trS;rw[Ap];exact l
    have jM:Jk e (trS s):=λp o=>by
     obtain⟨q,C,rfl⟩:=As.mp o;exact v q C
    have aa:Pw ((Rw m).map λx=>-x) (trS s):=λp o=>by
     obtain⟨q,C,rfl⟩:=As.mp o;refine⟨Qnp (Q q C).1,λt ht=>?_⟩;obtain⟨u,hu,rfl⟩:=As.mp ht;exact As.mpr ⟨u.1,(Q q C).2 u (List.mem_reverse.mp hu),rfl⟩
    have Z:∀p∈trS s,p.2.length<=100:=λp o=>by
     obtain⟨q,C,rfl⟩:=As.mp o;show(turn q.2).length<=100;unfold turn;rw[Ap,R6];exact lw Q q C
    have nM:((trS s).map (·.1)).Nodup:=by rw[ac];exact y.nd
    have L:=Qpe n;have X:=Ly.tw_mi O;have sM:∀V:SM,Pz (2 ^ m) (key m e (Ly.gM m g)) (wg m e (Ly.gM m g) r) V->Qku (encS (trS s)) (encS V):=λV E=>Qen E.nd (af.same E λc f=>(Qy2 O c f).symm);have tt:trS (trS s)=s:=by
     unfold trS;rw[Bg];refine(B0 λp _=>?_).trans (O3 s);show(p.1,turn (turn p.2))=p;have:turn (turn p.2)=p.2:=by
      unfold turn;rw[← List.map_reverse,List.reverse_reverse,Bg];refine(B0 λu _=>?_).trans (O3 _);show(- -u.1,u.2)=u;rw[Int.neg_neg]
     rw[this]
    simp only[wSeq,wSet,Qs,Jd,look,Bv,wNil,Qj,Bi,wIf,wOr,wNot,Az,Ax,wRet,wC,Ve,Gk,wMt,r_bl,wBin,Qp,Qd,Qw,true_and,reduceIte,Qma,Qk,Je];refine⟨s,Rw m,rfl,l,y.nd,L,Q,?_⟩;simp only[Je,true_and,Go,Zv,Bq,reduceIte];refine⟨trS s,e,rfl,nM,lM,a,jM,Z,?_⟩;simp only[Je,true_and,Qf2,Fk,Bq,reduceIte];refine⟨m,e,A,r,rfl,by lia,?_⟩;refine⟨m,e,r,Ly.aM m A,Ly.gM m g,rfl,X,n,a,b,λV E an ai=>?_⟩;have e4:=sM V E;simp only[Go,e4,Zv,Bq,reduceIte,true_and];refine⟨trS s,(Rw m).map λx=>-x,rfl,lM,nM,by rw[Ap];exact L,aa,?_⟩;rw[tt];simp only[ss,Ue,Qf7,true_and,Go,Zv,Bq,reduceIte];refine⟨s,Rw m,rfl,l,y.nd,L,Q,?_⟩;refine⟨m,e,A,r,rfl,by lia,?_⟩;refine⟨m,e,r,Ly.aM m A,Ly.gM m g,rfl,X,n,a,b,λs5 Y am ah=>?_⟩;have e5:=sM s5 Y;simp only[Go,e5,Zv,Bq,reduceIte,true_and];exact⟨_,_,_,_,_,_,_,_,rfl⟩
  ·rintro ρ ⟨o1,o2,o3,o4,o5,M,H,I,rfl⟩;simp only[wRet,wC];exact k
end K54
namespace K54
open PySem PySem.Spec L2 PV
open PyProof.Rows (envOfC)
def Lk(K:Frag)(f:Addr)(x:Str)(st:Stmt):Prop:=∃e od kV b d c a ct sl,K.lookup f=some ⟨e,od,.func (fnOf x x (Gu st) (Qr st) (Qc st) .none kV b d c a ct),sl⟩/\codeIn K a x=true
theorem Lk.fn{K:Frag}(h:Lk K f x st)(k:keepIn K (.ref f)=true):∃fd,Fun K x x st f fd:=by
 obtain⟨g,od,kV,a,d,b,e,ct,sl,l,c⟩:=h;exact⟨_,Qta l c k⟩
theorem Q0k{f1 f2 f3 f4 f5 f6 f7 f8 f9 x d i p j o t n r k u f m g c q E A0:Addr}{Z D:Option Addr}{Q:Array (Option Value)}{ao A C z b y:Value}{A1 A2:Tok}{K:Frag}(X:K.In h)(G:h.Ns mainGlobals mg)(bf:mg "law" = some (.ref fa))
  (a1:atN K "gathered" f1) (l1:Lk K f1 "gathered" Yz) (k1:keepIn K (.ref f1)=true)
  (a2:atN K "plus" f2) (l2:Lk K f2 "plus" Qdz) (k2:keepIn K (.ref f2)=true)
  (a3:atN K "turned_about" f3) (l3:Lk K f3 "turned_about" Jh) (k3:keepIn K (.ref f3)=true)
  (a4:atN K "partners_of" f4) (l4:Lk K f4 "partners_of" J7) (k4:keepIn K (.ref f4)=true)
  (a5:atN K "lay" f5) (l5:Lk K f5 "lay" Qkv) (k5:keepIn K (.ref f5)=true)
  (a6:atN K "joining_of" f6) (l6:Lk K f6 "joining_of" J4) (k6:keepIn K (.ref f6)=true)
  (a7:atN K "joining_of" f7) (l7:Lk K f7 "joining_of" Ju) (k7:keepIn K (.ref f7)=true)
  (a8:atN K "add_to" f8) (l8:Lk K f8 "add_to" Uy) (k8:keepIn K (.ref f8)=true)
  (a9:atN K "without_noughts" f9) (l9:Lk K f9 "without_noughts" Q7) (k9:keepIn K (.ref f9)=true)
  (bv:atN K "mirrored" x) (b3:Lk K x "mirrored" Yy) (T:keepIn K (.ref x)=true)
  (bb:atN K "shifted" d) (ax:Lk K d "shifted" Vn) (ar:keepIn K (.ref d)=true)
  (bk:atN K "open_crossing" i) (bc:Lk K i "open_crossing" Jo) (M:keepIn K (.ref i)=true)
  (bx:atN K "join_ends" p) (ci:Lk K p "join_ends" Yj) (au:keepIn K (.ref p)=true)
  (av:atN K "opened" j) (bt:Lk K j "opened" Ux) (ac:keepIn K (.ref j)=true)
  (b6:atN K "weight" o) (bp:Lk K o "weight" Uw) (Y:keepIn K (.ref o)=true)
  (bi:atN K "all_ways" t) (a0:Lk K t "all_ways" Yq) (P:keepIn K (.ref t)=true)
  (cc:atN K "plain_sums" n) (bg:Lk K n "plain_sums" Yo) (ab:keepIn K (.ref n)=true)
  (bj:atN K "numbers_by" r) (bs:Lk K r "numbers_by" Yp) (as:keepIn K (.ref r)=true)
  (ce:atN K "renumbered" k) (b0:Lk K k "renumbered" Yn) (al:keepIn K (.ref k)=true)
  (bz:atN K "shifted_sums" u) (b1:Lk K u "shifted_sums" Jx) (am:keepIn K (.ref u)=true)
  (bm:atN K "mirrored_sums" f) (cj:Lk K f "mirrored_sums" Jp) (O:keepIn K (.ref f)=true)
  (bn:atN K "_law_take" m) (bd:Lk K m "_law_take" Y1) (ae:keepIn K (.ref m)=true)
  (cg:atN K "_law_arcs" g) (ba:Lk K g "_law_arcs" Yk) (H:keepIn K (.ref g)=true)
  (b4:atN K "_law_web" c) (bq:Lk K c "_law_web" Y0) (N:keepIn K (.ref c)=true)
  (az:atN K "_law_made" q) (cb:Lk K q "_law_made" Y2) (S:keepIn K (.ref q)=true)
  (ay:atN K "law" E) (b2:K.lookup E=some ⟨ao,Z,.func (fnOf "law" "law" (Gu Qa6) (Qr Qa6) (Qc Qa6) .none A C z D b y),Q⟩) (b9:codeIn K b "law" = true) (ch:keepIn K (.ref E)=true)
  (A6:nsIn K mainGlobals "bool" = some none)
  (A8:nsIn K mainGlobals "dict" = some none)
  (A3:nsIn K mainGlobals "enumerate" = some none)
  (Ae:nsIn K mainGlobals "int" = some none)
  (Ai:nsIn K mainGlobals "isinstance" = some none)
  (Aa:nsIn K mainGlobals "len" = some none)
  (Ac:nsIn K mainGlobals "list" = some none)
  (A4:nsIn K mainGlobals "min" = some none)
  (Ag:nsIn K mainGlobals "range" = some none)
  (Ad:nsIn K mainGlobals "reversed" = some none)
  (A5:nsIn K mainGlobals "sorted" = some none)
  (A9:nsIn K mainGlobals "tuple" = some none)
  (Af:nsIn K mainGlobals "zip" = some none)
  (Aj:atN K "JOINED" A0) (Ah:kcIn K (.tup [.tup [.tup [.int 0,.int 1],.tup [.int 2,.int 3]],.tup [.tup [.int 0,.int 3],.tup [.int 1,.int 2]]]) (.ref A0)=true)
  (A7:nsIn K mainGlobals "MOST_CROSSINGS" = some (some (.int 10 A1)))
  (Ab:nsIn K mainGlobals "RIM" = some (some (.int (-1) A2)))
  : ∃fd:FuncData,(∀(s:Shared)(v:Value),BindsTo s fd ⟨[v],[]⟩ [("_law_script",v)])/\∀base:Heap,K.In base->base.Ns mainGlobals mg->FnOk l.prog w K mg base CX0 5 fa fd ["_law_script"] (spR K Qn0):=by
 have e:=bf.symm.trans (mg_of X G ay);cases e;have B:Bn K mg:=⟨Nt X G A6,Nt X G A8,Nt X G A3,Nt X G Ae,Nt X G Ai,Nt X G Aa,Nt X G Ac,Nt X G A4,Nt X G Ag,Nt X G Ad,Nt X G A5,Nt X G A9,Nt X G Af,⟨A0,mg_of X G Aj,Ah⟩,⟨A1,mg_of X G A7⟩,⟨A2,mg_of X G Ab⟩⟩
 obtain⟨_,F1⟩:=l1.fn k1;obtain⟨_,F2⟩:=l2.fn k2;obtain⟨_,F3⟩:=l3.fn k3;obtain⟨_,F4⟩:=l4.fn k4;obtain⟨_,F5⟩:=l5.fn k5;obtain⟨_,F6⟩:=l6.fn k6;obtain⟨_,F7⟩:=l7.fn k7;obtain⟨_,F8⟩:=l8.fn k8;obtain⟨_,F9⟩:=l9.fn k9;obtain⟨_,aq⟩:=b3.fn T;obtain⟨_,aa⟩:=ax.fn ar;obtain⟨_,aj⟩:=bc.fn M;obtain⟨_,V⟩:=ci.fn au;obtain⟨_,W⟩:=bt.fn ac;obtain⟨_,R⟩:=bp.fn Y;obtain⟨_,af⟩:=a0.fn P;obtain⟨_,ag⟩:=bg.fn ab;obtain⟨_,ah⟩:=bs.fn as;obtain⟨_,L⟩:=b0.fn al;obtain⟨_,ai⟩:=b1.fn am;obtain⟨_,ap⟩:=cj.fn O;obtain⟨_,I⟩:=bd.fn ae;obtain⟨_,ak⟩:=ba.fn H;obtain⟨_,J⟩:=bq.fn N;obtain⟨_,an⟩:=cb.fn S;have b7:=Qta (st:=Qa6) b2 b9 ch;refine⟨fnOf "law" "law" (Gu Qa6) (Qr Qa6) (Qc Qa6) .none A C z D b y,λs v=>.of_eq rfl,λbase _ _=>?_⟩;have b8:Cal l.prog w K mg base "gathered" 1 ["terms"] (spR K Vs):=⟨f1,_,Qht F1 B,mg_of X G a1,k1,F1.binds λ_ _ _ _ _ _ us a=>by obtain⟨_,rfl⟩:=len1 a;rfl⟩
 have bl:Cal l.prog w K mg base "plus" 2 ["one","other"] (spR K Qgs):=⟨f2,_,Qvg F2 B b8,mg_of X G a2,k2,F2.binds λ_ _ _ _ _ _ us a=>by obtain⟨_,_,rfl⟩:=len2 a;rfl⟩
 have C4:Cal l.prog w K mg base "turned_about" 1 ["one"] (spR K Yf):=⟨f3,_,Qck F3 B,mg_of X G a3,k3,F3.binds λ_ _ _ _ _ _ us a=>by obtain⟨_,rfl⟩:=len1 a;rfl⟩
 have C5:Cal l.prog w K mg base "partners_of" 1 ["joining"] (spR K Yu):=⟨f4,_,Qdg F4 B,mg_of X G a4,k4,F4.binds λ_ _ _ _ _ _ us a=>by obtain⟨_,rfl⟩:=len1 a;rfl⟩
 have U:Cal l.prog w K mg base "lay" 1 ["partners","one","other"] (spI K 0 Qgt):=⟨f5,_,Qyr F5 B,mg_of X G a5,k5,F5.binds λ_ _ _ _ _ _ us a=>by obtain⟨_,_,_,rfl⟩:=len3 a;rfl⟩
 have C9:Cal l.prog w K mg base "joining_of" 1 ["partners"] (spI K 0 Zc):=⟨f6,_,Qex F6 B,mg_of X G a6,k6,F6.binds λ_ _ _ _ _ _ us a=>by obtain⟨_,rfl⟩:=len1 a;rfl⟩
 have C6:Cal l.prog w K mg base "joining_of" 1 ["partners"] (spI K 0 Yv):=⟨f7,_,Qdh F7 B,mg_of X G a7,k7,F7.binds λ_ _ _ _ _ _ us a=>by obtain⟨_,rfl⟩:=len1 a;rfl⟩
 have cd:Cal l.prog w K mg base "add_to" 3 ["told","joining","polynomial"] (spI K 0 Xw):=⟨f8,_,Qmy F8 B bl,mg_of X G a8,k8,F8.binds λ_ _ _ _ _ _ us a=>by obtain⟨_,_,_,rfl⟩:=len3 a;rfl⟩
 have C0:Cal l.prog w K mg base "without_noughts" 1 ["told"] (spI K 0 Jq):=⟨f9,_,Xm F9 B,mg_of X G a9,k9,F9.binds λ_ _ _ _ _ _ us a=>by obtain⟨_,rfl⟩:=len1 a;rfl⟩
 have bu:Cal l.prog w K mg base "mirrored" 1 ["web"] (spR K Zn):=⟨x,_,Qhs aq B,mg_of X G bv,T,aq.binds λ_ _ _ _ _ _ us a=>by obtain⟨_,rfl⟩:=len1 a;rfl⟩
 have br:Cal l.prog w K mg base "shifted" 1 ["web","many"] (spR K Uo):=⟨d,_,Qk0 aa B,mg_of X G bb,ar,aa.binds λ_ _ _ _ _ _ us a=>by obtain⟨_,_,rfl⟩:=len2 a;rfl⟩
 have C1:Cal l.prog w K mg base "open_crossing" 2 ["partners","crossing","way"] (spI K 0 J6):=⟨i,_,Qa7 aj B U,mg_of X G bk,M,aj.binds λ_ _ _ _ _ _ us a=>by obtain⟨_,_,_,rfl⟩:=len3 a;rfl⟩
 have bh:Cal l.prog w K mg base "join_ends" 2 ["partners","ends"] (spI K 0 Zz):=⟨p,_,Qgd V B U C9,mg_of X G bx,au,V.binds λ_ _ _ _ _ _ us a=>by obtain⟨_,_,rfl⟩:=len2 a;rfl⟩
 have bo:Cal l.prog w K mg base "opened" 3 ["web","ways"] (spR K Xv):=⟨j,_,Qmx W B C1 bh,mg_of X G av,ac,W.binds λ_ _ _ _ _ _ us a=>by obtain⟨_,_,rfl⟩:=len2 a;rfl⟩
 have cf:Cal l.prog w K mg base "weight" 1 ["ways","rings"] (spR K Xu):=⟨o,_,Qmw R B,mg_of X G b6,Y,R.binds λ_ _ _ _ _ _ us a=>by obtain⟨_,_,rfl⟩:=len2 a;rfl⟩
 have be:Cal l.prog w K mg base "all_ways" 1 ["many"] (spR K Vt):=⟨t,_,Qhu af B,mg_of X G bi,P,af.binds λ_ _ _ _ _ _ us a=>by obtain⟨_,rfl⟩:=len1 a;rfl⟩
 have C7:Cal l.prog w K mg base "plain_sums" 4 ["web"] (spR K Jt):=⟨n,_,Qev ag B cd C0 bo cf be,mg_of X G cc,ab,ag.binds λ_ _ _ _ _ _ us a=>by obtain⟨_,rfl⟩:=len1 a;rfl⟩
 have b5:Cal l.prog w K mg base "numbers_by" 1 ["order"] (spR K Zb):=⟨r,_,Qew ah B,mg_of X G bj,as,ah.binds λ_ _ _ _ _ _ us a=>by obtain⟨_,rfl⟩:=len1 a;rfl⟩
 have C8:Cal l.prog w K mg base "renumbered" 2 ["joining","numbers"] (spR K Za):=⟨k,_,Qeu L B C5 C6,mg_of X G ce,al,L.binds λ_ _ _ _ _ _ us a=>by obtain⟨_,_,rfl⟩:=len2 a;rfl⟩
 have C3:Cal l.prog w K mg base "shifted_sums" 3 ["sums","ends","many"] (spI K 0 Jy):=⟨u,_,Qcl ai B b5 C8,mg_of X G bz,am,ai.binds λ_ _ _ _ _ _ us a=>by obtain⟨_,_,_,rfl⟩:=len3 a;rfl⟩
 have C2:Cal l.prog w K mg base "mirrored_sums" 2 ["sums"] (spI K 0 Q9):=⟨f,_,Qa8 ap B C4,mg_of X G bm,O,ap.binds λ_ _ _ _ _ _ us a=>by obtain⟨_,rfl⟩:=len1 a;rfl⟩
 have F:Cal l.prog w K mg base "_law_take" 1 ["_law_row","_law_base"] (spI K 0 Qx):=⟨m,_,Qge I B,mg_of X G bn,ae,I.binds λ_ _ _ _ _ _ us a=>by obtain⟨_,_,rfl⟩:=len2 a;rfl⟩
 have bw:Cal l.prog w K mg base "_law_arcs" 2 ["_law_row","_law_many"] (spI K 0 Vr):=⟨g,_,Qgg ak B F,mg_of X G cg,H,ak.binds λ_ _ _ _ _ _ us a=>by obtain⟨_,_,rfl⟩:=len2 a;rfl⟩
 have aw:Cal l.prog w K mg base "_law_web" 3 ["_law_row","_law_many","_law_ends","_law_most"] (spI K 0 Uq):=⟨c,_,Qhv J B F bw,mg_of X G b4,N,J.binds λ_ _ _ _ _ _ us a=>by obtain⟨_,_,_,_,rfl⟩:=len4 a;rfl⟩
 have ca:Cal l.prog w K mg base "_law_made" 1 ["_law_found"] (spI K 0 Zo):=⟨q,_,Qgf an B,mg_of X G az,S,an.binds λ_ _ _ _ _ _ us a=>by obtain⟨_,rfl⟩:=len1 a;rfl⟩
 exact Qys b7 B bu br C7 C3 C2 F aw ca
theorem Qy8{K:Frag}{a:Addr}(f:ns.length<=63)(ho:Only H)(b:SqL K H a (ns.map V.int)):spR K Qn0 [.ref a] H (λv _=>v=.bl true) λ_ _ _=>False:=by
 have c:FzL K H a (ns.map V.int):=by
  rcases b with(h|h)|h
  ·rcases ho a with z|⟨o,xs,z⟩
   ·rw[z]at h;cases h
   ·rw[z]at h;cases h
  ·exact .inl h
  ·exact .inr h
 refine⟨[.kls (ns.map .int)],[],λd=>d=.bl true,?_,⟨ns,rfl,f,rfl⟩,λv H' d F' e hd=>?_⟩
 ·exact .cons (F:=[]) (G:=[]) (.kls c (Reps.ints ns)) .nil
 ·subst hd;exact Qsh e.rep
theorem walk{q:Program}{d:DefRec}{K:Params->Frag}(i:l.most=some 63)(b:d.params.defaults=[])
  (g:∀(w:World)(h:Heap),YP w h->(K w.params).In h)
  (F:∀(w:World)(mg:Str->Option Value)(fa:Addr)(h:Heap),(K w.params).In h->h.Ns mainGlobals mg->mg d.name=some (.ref fa) ->
   ∃fd:FuncData,(∀(s:Shared)(u:Value),BindsTo s fd ⟨[u],[]⟩ [("_law_script",u)])/\∀base:Heap,(K w.params).In base->base.Ns mainGlobals mg->FnOk l.prog w (K w.params) mg base CX0 5 fa fd ["_law_script"] (spR (K w.params) Qn0)) :
  PySem.W.WalkO q loose XP YP l.row.toRowW d [] (λf vs=>A04 f vs) :=
 L2.Qtp (n:=63) (k:=5) (x:="_law_script") (CX:=λ_=>CX0) (sp:=λw=>spR (K w.params) Qn0) i (by decide) b ⟨rfl,by decide,by decide⟩ g F (λ_ _ a ns e ho c=>Qy8 e ho c) λ_ _ _ _ _ z=>z
end K54
end
open PySem PySem.W PyProof.Rows
namespace PySem.W.Fast
def tw11213125522575581991:=0
def tw8117987851088088449:=0
def tw12155602591099356620:=0
def tw9779591390158631636:=0
def tw10341082224896698032:=0
def tw9000190869689120363:=0
def tw18026569019676635849:=0
def tw1273932439460686913:=0
def tw17983818831335620743:=0
def tw5654983893185185796:=0
def tw3713238616835162571:=0
def tw2615822865259610185:=0
def tw8318012619898989346:=0
def tw2233416641538778701:=0
def tw4024718004274272112:=0
def tw4410051952518158005:=0
def tw6700641734783770445:=0
def tw12347179662388671886:=0
def tw18096214016234056969:=0
def tw7991603989464383294:=0
def tw547328586120148023:=0
def tw2652844133982072498:=0
def tw11306330381999066643:=0
def tw7133345556152763594:=0
def tw1886543500021469586:=0
def tw4480418395307089204:=0
def tw5113009488286272967:=0
def tw6372364756400447345:=0
def tw14732798332188547947:=0
def tw9404687157873575993:=0
def tw4950371525360756990:=0
def tw8152911153668237002:=0
def tw9991897946742717036:=0
def tw7195572133952644708:=0
def tw837119159403036404:=0
def tw13739431840254945897:=0
def tw11497462906481772603:=0
def tw3745378727836147603:=0
def tw11838553131862837418:=0
def tw534904723013021359:=0
def tw11941425089994501359:=0
def tw1183183577328616894:=0
def tw5641998447053779476:=0
def tw13610981331643382929:=0
def tw2978750323115149896:=0
def tw14311578442159493805:=0
def tw14869623245463949286:=0
def tw14609840007673068740:=0
def tw5565290832470915433:=0
def tw15959506006781505553:=0
def tw5467018431770309472:=0
def tw6742155308249834999:=0
def tw5255798484889539775:=0
def tw6833482409190552751:=0
def tw12533089962611783671:=0
def tw13768599651875566754:=0
def tw15350227699306279629:=0
def tw13344449647271746182:=0
def tw12873906683324124812:=0
def tw2311130616160831666:=0
def tw8719151227017163106:=0
def tw4105279036902821331:=0
def tw6207090991804620320:=0
def tw12163509759533094722:=0
def tw7998953063173311000:=0
def tw14718786015654384674:=0
def tw16811620989264293903:=0
def tw16762588838970331186:=0
def tw5301241724965996018:=0
def tw4268371711381347148:=0
def tw10276118583399435565:=0
def tw2160065245318980364:=0
def tw9276023498367360837:=0
def tw5182559816605253614:=0
def tw11828064614189577092:=0
def tw12831433059969100708:=0
def tw17070168201722823778:=0
def tw212631553780614925:=0
def tw1148865329444479718:=0
def tw7525133825374714524:=0
def tw4222538218120543834:=0
def tw15597258309156838840:=0
def tw1001434958981820948:=0
def tw18280418019276342947:=0
def tw9735628635712196563:=0
def tw5958489603841572077:=0
def tw10657553664193315589:=0
def tw4040521249468628236:=0
def tw2594920388949057041:=0
def tw275381929328147941:=0
def tw11862254931390465721:=0
def tw14346151657614881373:=0
def tw2508388472920729345:=0
def tw13456870421166925083:=0
def tw15238813603409960920:=0
def tw8208977423615369493:=0
def tw4638208562149190201:=0
def tw6975482048094053510:=0
def tw895517478587636254:=0
def tw11395797657753983987:=0
def tw12169384514255165721:=0
def tw15501576344085222261:=0
def tw7008400748449240634:=0
def tw15942101912753349753:=0
def tw7279475018237101406:=0
def tw16865714088449836707:=0
def tw18357128453210790353:=0
def tw9134642001036081358:=0
def tw966516147753067567:=0
def tw1676819079694132643:=0
def tw10189456816271712002:=0
def tw5106762553310516097:=0
def tw7471189313612033814:=0
def tw8371200434423618629:=0
def tw5833000969901040544:=0
def tw16558639115274257427:=0
def tw15371817684489208598:=0
def tw16034475615073417255:=0
def tw1899677280031057150:=0
def tw6114305260160246508:=0
def tw16220924894881666711:=0
def tw14296823520456887218:=0
def tw10717703227988755186:=0
def tw12313099189393434681:=0
def tw1572553309775584689:=0
def tw6587151794792101892:=0
def tw11680602129658137243:=0
def tw2927081132660581528:=0
def tw11743368418323604964:=0
def tw1921654876245230072:=0
def tw6796586124466056311:=0
def tw9060059124102607427:=0
def tw10318324612950428767:=0
def tw18279390716288373332:=0
def tw11767989862211520349:=0
def tw16896082364538658677:=0
def tw8028892423175169562:=0
def tw9928429089956634929:=0
def tw2911267937648525494:=0
def tw15638859179565020510:=0
def tw13608782461456165364:=0
def tw507910514437614267:=0
def tw140470974759723924:=0
def tw3414219287896050457:=0
def tw18361278028719451031:=0
def tw3513487495067727562:=0
def tw8319681443651240085:=0
def tw3005546032354917839:=0
def tw99804374762813506:=0
def tw9958831815942477147:=0
def tw16621546033589310292:=0
def tw13493060277090863891:=0
def tw7779163678505236166:=0
def tw711515187658598756:=0
def tw15197001991755111148:=0
def tw3915295447039894314:=0
def tw18398337268594602497:=0
def tw14547502232704310454:=0
def tw8923930195556036925:=0
def tw9532105529205866428:=0
def tw11127007559928808465:=0
def tw9615438692691455063:=0
def tw14618561061876856744:=0
def tw6813403998756100065:=0
def tw10990133094423892920:=0
def tw7255595224064796631:=0
def tw10929628728856544533:=0
def tw9413416735121607822:=0
def tw14654588302979526309:=0
def tw7308515615858491955:=0
def tw4233903425170249177:=0
def tw3962090933340367821:=0
def tw15025918474759545753:=0
def tw13465010400969241734:=0
def tw17403863503431564540:=0
def tw14456635635782070547:=0
def tw18253323821826629107:=0
def tw7014162223896185028:=0
def tw2701264533751550277:=0
def tw5131712329457365577:=0
def tw2412485703560881775:=0
def tw15555184816111045429:=0
def tw6768583742511988023:=0
def tw5929594321421352983:=0
def tw15900957136076130729:=0
def tw11921551633841061905:=0
def tw17439173376965855066:=0
def tw11871457656742957274:=0
def tw12837610794034405628:=0
def tw17230087329772852184:=0
def tw6143804780047576131:=0
def tw2043148625187400015:=0
def tw7137107601130305559:=0
end PySem.W.Fast
set_option maxRecDepth 100000 in
set_option maxHeartbeats 0 in
theorem PySem.Challenge.cw_tanglehouse_k54_whole_shifted_and_mirror_holds : PySem.Challenge.rw_tanglehouse_k54_whole_shifted_and_mirror.Holds := by
 w_on;o_law;k_head;(case hw=>w_witness2)
 k_fill
 refine K54.walk (l:=PySem.Challenge.rw_tanglehouse_k54_whole_shifted_and_mirror) rfl rfl (λw h Y=>PySem.W.kIn_of Y) ?F
 case F=>
  intro w mg fa h KX G hmg;refine' K54.Q0k KX G hmg ?v00 ?v01 ?v02 ?v03 ?v04 ?v05 ?v06 ?v07 ?v08 ?v09 ?v0a ?v0b ?v0c ?v0d ?v0e ?v0f ?v0g ?v0h ?v0i ?v0j ?v0k ?v0l ?v0m ?v0n ?v0o ?v0p ?v0q ?v0r ?v0s ?v0t ?v0u ?v0v ?v0w ?v0x ?v0y ?v0z ?v10 ?v11 ?v12 ?v13 ?v14 ?v15 ?v16 ?v17 ?v18 ?v19 ?v1a ?v1b ?v1c ?v1d ?v1e ?v1f ?v1g ?v1h ?v1i ?v1j ?v1k ?v1l ?v1m ?v1n ?v1o ?v1p ?v1q ?v1r ?v1s ?v1t ?v1u ?v1v ?v1w ?v1x ?v1y ?v1z ?v20 ?v21 ?v22 ?v23 ?v24 ?v25 ?v26 ?v27 ?v28 ?v29 ?v2a ?v2b ?v2c ?v2d ?v2e ?v2f ?v2g ?v2h ?v2i ?v2j ?v2k ?v2l ?v2m ?v2n
  case v00|v01|v02|v03|v04|v05|v06|v07|v08|v09|v0a|v0b|v0c|v0d|v0e|v0f|v0g|v0h|v0i|v0j|v0k|v0l|v0m|v0n|v0o|v0p|v0q|v0r|v0s|v0t|v0u|v0v|v0w|v0x|v0y|v0z|v10|v11|v12|v13|v14|v15|v16|v17|v18|v19|v1a|v1b|v1c|v1d|v1e|v1f|v1g|v1h|v1i|v1j|v1k|v1l|v1m|v1n|v1o|v1p|v1q|v1r|v1s|v1t|v1u|v1v|v1w|v1x|v1y|v1z|v20|v21|v22|v23|v24|v25|v26|v27|v28|v29|v2a|v2b|v2c|v2d|v2e|v2f|v2g|v2h|v2i|v2j|v2k|v2m|v2n=>first|exact⟨_,_,_,_,_,_,_,_,_,by k_is,by k_is⟩|k_is|rfl|decide +kernel
  (case v2l=>kernel_rfl)
