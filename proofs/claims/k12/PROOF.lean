import PyProof.Rows.All
import Wide.All
import OpenK.AllK
import PySem.Challenge.RW_fewpoints_k12_whole_judged
set_option compiler.extract_closed false
local macro_rules | `(command| universe $xs*)=>do return Lean.mkNullNode (← xs.mapM fun x=>`(noncomputable def $(Lean.mkIdent (.mkSimple s!"tw{x.getId.toString.foldl (fun a c=>a*26+(c.toNat-97)) 0}")):ident := 0))
theorem zA{a b:Prop}(h:a)(n:¬a):b:=absurd h n
theorem zN{c:Prop}{h:Decidable c}(n:¬c){α:Sort u}{t e:α}:ite c t e=e:=if_neg n
theorem zP{c:Prop}{h:Decidable c}(n:c){α:Sort u}{t e:α}:ite c t e=t:=if_pos n
theorem zT{p:Prop}[i:Decidable p](h:p):decide p=true:=decide_eq_true h
theorem zO{p:Prop}[i:Decidable p](h:decide p=true):p:=of_decide_eq_true h
theorem zF{p:Prop}[i:Decidable p](h:¬p):decide p=false:=decide_eq_false h
theorem zC{α:Sort u}{β:Sort v}{a b:α}(f:α->β)(h:a=b):f a=f b:=congrArg f h
local macro_rules | `(command| def $n:declId $bs:bracketedBinder* : $t $v:declVal) => `(theorem $n:declId $bs:bracketedBinder* : $t $v:declVal)
local macro_rules | `(command| abbrev $n:declId $s:optDeclSig $v:declVal) => `(noncomputable def $n:declId $s:optDeclSig $v:declVal)
local macro_rules | `(command| @[reducible] def $n:declId $s:optDeclSig $v:declVal) => `(@[reducible] noncomputable def $n:declId $s:optDeclSig $v:declVal)
local macro_rules | `(tactic| ac_rfl) => `(tactic| exact ⟨rfl, rfl, rfl, by decide +kernel, rfl, by decide +kernel, by decide +kernel⟩)
set_option hygiene false in
local macro_rules | `(⋯) => `(fun _ => hr.mono (by decide))
local macro_rules | `(nofun) => `(fun _ => PySem.PassesOwn.never)
set_option hygiene false in
local macro_rules | `(∅) => `(fun _ => L2.kau hr (by decide))
set_option hygiene false in
local macro_rules | `(tactic| exists $g) => `(tactic| refine L2.ka0 $g (fun N hN => ?_) ?_)
set_option maxHeartbeats 0
open PySem renaming wpAny_bind → ba0, Value → ba6, Shared → ba7, wpAny_pure → ba9, PyData → bb0, Program → bb9, starEach → bc5, wpAny → be1, World → be5, FuncData → be7, model → bf9, Around → bg1, wpAny_call_entry → bg4, compareOp → bh0, mainGlobals → bi5, wpAny_callSpecial?_slot → bi8, wpAny_newObj_type → bj8, wpAny_holding → bk0, mem_of_lookup → bk2, wpAny_seqItems → bk4, wpAny_field → bk9, wpAny_setField_rec → bl8, wpAny_specialOf → bm0, attributeBase → bm8, wpAny_truthy_bool → bo0, wpAny_Call_Name_kw → bo7, wpAny_setState_of → bp5, builtinLookup_eq_fast → bq1, wpAny_ite_split → bq2, NameKind → bq6, codeAny_builtin → br7, wpAny_eqBool_int → bs1, wpAny_mono → bs2, wpAny_isInstance → bs4, wpAny_forIn_list → bs5, swapsWith → bs6, keywordEach → bt1, wpAny_passesOwn → bt2, eqIsQuiet_byValue → bt7, sizeLine_eq → bu0, wpAny_attempt → bu3, wpAny_callSpecialIfBoundUnlessNone?_slot → bv5, wpAny_of_eq → bv9, typeLookup_type → bw1, wpAny_pyHash_int → bx2, wpAny_askSetting → bx5, plainId_quiet → by6, wpAny_tupleItemsOf → by9, wpAny_updateSeq → bz0, wpAny_rule → bz9, Scope → b05, backToKw → b09, wpAny_typeOf → b11, Fin → b15, wpAny_updateSeq_pair → b24, call_meets → b28, wpAny_execs_nil → b30, pushCells_keeps → b33, wpAny_letGo → b35, wpAny_setEntries_of → b38, codeAny_mono → b48, wpAny_pyIter_tuple → b49, wpAny_newTuple → b58, isSubtype_type → b65, wpAny_comprehension_free → b72, wpAny_pyIter_list → b73, wpAny_standAt → b80, wpAny_onRaise → b83, wpAny_newList → b86, wpAny_pyIter_zip → b96, wpAny_nextOf_list_item → ca0, isSubtype_tuple_tuple → cb0, wpAny_ret_mkInt → cb1, isSubtype_stop → cb9, rangeSize_one → cc9, wpAny_assign_Name → ce5, slot_list_getitem → ce8, seqIndex_of → cf2, wpAny_storeSet_of → cf6, wpAny_pyIter_slot → cf8, wpAny_cRoomFor_or → cf9, wpAny_pyIter_enum → cg0, seqIndex_neg → cg4, Result → cg8, wpAny_execs_cons → cg9, beq_builtin_none → ch9, seqIndex_of → cj2, wpAny_Name → cl3, typeIs_int → cl6, call → cl7, Within → cn4
open PySem.PyData renaming int → ba1, canLayAll0 → bd7, eqv → bg3, depthAll → bg8, canLay0 → bl2, eqvAll → bl9, depth → br3, none → bs9, list → bv8, tuple → b51, bool → cc3
open PySem.W renaming Frag → ba2, kitOne → bi1, mg_none_of → bj3, fnOf → bn1, nsIn → bn3, kia_one → bn6, cellsFrom_some → bv0, codeIn → b06, keepIn → b08, OpenLaw → b31, methodObj → b67, instObj → ca2, lookIn → cb8, kitx_list → ce6, kitx_dict → ce7, plainGet → ch0, kat_cons → ci7, findIn → ck7, WalkO → cm2, kat_yes → cm3, mg_of → cn2
open List renaming length_map → ba3, getElem?_eq_getElem → ba4, range → ba8, mem_map → bb1, mem_range → bb2, getElem?_eq_some_iff → bb3, length_append → bb4, getD_eq_getElem?_getD → bb5, mem_cons_self → bb8, mem_cons_of_mem → bc0, map_map → bc1, getElem?_append_right → bc2, mem_singleton → bc4, mem_cons → bc6, getElem?_map → bc8, getElem?_append_left → bc9, size_toArray → bd6, mem_of_getElem? → bd9, pairwise_iff_getElem → be0, map_append → be3, mem_filter → be6, length_range → be8, append_nil → be9, getElem_mem → bf1, getElem_of_mem → bf3, replicate → bf6, length_singleton → bf8, map_cons → bg2, length_cons → bg5, idxOf_lt_length_iff → bg7, not_mem_nil → bg9, mem_append → bh3, append_assoc → bh6, mem_append_right → bh7, map_congr_left → bh9, all_eq_true → bi0, mem_map_of_mem → bi7, mem_iff_getElem? → bj0, nodup_range → bj2, nodup_cons → bj4, length_reverse → bj5, replicate_succ → bk3, drop_eq_getElem_cons → bk5, pairwise_cons → bl3, length_eraseIdx_of_lt → bl4, getElem?_cons_succ → bl5, lookup_cons → bl6, pairwise_append → bl7, take_append_drop → bm2, filter_cons_of_pos → bm7, perm_ext_iff_of_nodup → bm9, filter_append → bn2, getElem?_set_self → bn4, range_succ → bn8, length_take → bn9, flatten_cons → bo3, length_filter_le → bo5, filter_cons_of_neg → bo8, getElem_idxOf → bo9, mem_append_left → bp3, getElem?_eq_none → bq0, length_drop → bq7, mem_reverse → bq8, getElem_map → bq9, getElem?_cons_zero → br0, pairwise_singleton → br1, getElem?_set → br4, take_of_length_le → br8, forIn_nil → bs8, nodup_nil → bt0, forIn_cons → bt4, ext_getElem? → bt5, length_nil → bt6, filterMap_cons → bt9, length → bu1, cons_append → bu7, eq_nil_of_length_eq_zero → bu8, length_eq_one_iff → bv3, mem_filterMap → bv4, nodup_append → bw4, pairwise_map → bw5, getElem?_set_ne → bw6, ext_getElem → bx4, filter_eq_self → bx6, flatMap_append → bx8, find?_range_eq_none → by1, getElem?_replicate → by3, nil_append → by5, length_eq_zero_iff → by8, eraseIdxIfInBounds_toArray → bz4, take_add_one → bz8, reverse_cons → b03, flatMap_cons → b04, length_replicate → b10, map_nil → b12, getElem?_reverse → b17, perm_append_comm → b19, flatMap_nil → b22, drop_length → b23, countP_eq_length_filter → b27, getElem?_concat_length → b37, filter_map → b41, reverse_append → b42, exists_cons_of_ne_nil → b46, getElem?_take → b52, length_zipIdx → b53, set_cons_zero → b54, set_cons_succ → b55, filter_filter → b56, take_take → b62, mem_drop_iff_getElem → b63, mem_take_iff_getElem → b64, take_sublist → b70, find?_range_eq_some → b74, filter_congr → b78, eraseIdx_cons_succ → b82, map_take → b88, map_drop → b89, take_length → b95, any_eq_true → b97, of_mem_zip → ca5, countP_mono_left → cb2, eraseIdx_sublist → cb4, replicate_zero → cc8, filterMap_map → cd0, any_cons → cd1, getElem_range → cd2, zip_cons_cons → cd4, map_inj_right → ce2, find?_eq_none → ce3, singleton_inj → ce4, foldl → ce9, drop_sublist → cf4, zipIdx_cons → ch5, zip_toArray → ch6, countP_cons → ci0, append_inj' → ci6, length_set → cj3, foldl_cons → cj4, zipIdx_nil → cj9, take_left' → ck1, find?_some → ck5, sum_append → ck6, set_set → co5, any_map → co7, map_id → cp2
open PySem.Heap renaming get?_push_of_some → ba5, get?_push_size → bc7, lt_size → bd0, get?_update_self → bm1, SameBut → bn0, get?_update_other → bn5, size_push → bn7, get?_update_ne → b39, size_update → ch7, ExtBut → cj8, IsTuple → cn9
open Bool renaming false_ne_true → bb6, eq_iff_iff → bh5, false_eq_true → bj1, and_eq_true → bm4, and_eq_true_iff → bw7, eq_false_iff → bz6, and_false → b07, or_eq_true → b32, or_false → b81, true_and → b90, false_and → cb7, false_xor → cc0, not_false → cc1, true_xor → cd7, not_eq_true' → cg3, not_true → cn1
open Nat renaming le_refl → bb7, ne_of_lt → bf5, zero_le → bf7, lt_of_lt_of_le → bh8, le_trans → bi9, not_lt_zero → bj6, lt_succ_iff_lt_or_eq → bj7, lt_irrefl → bk7, lt_succ_of_lt → bl0, lt_trichotomy → bl1, lt_or_eq_of_le → bp1, lt_succ_self → bs3, le_succ → bu2, ne_of_gt → bv7, min_eq_left → bw0, le_of_lt_succ → b02, mod_lt → b29, lt_of_le_of_lt → b50, le_succ_of_le → b71, add_assoc → b87, le_of_lt → ca3, succ_pos → ca6, lt_or_ge → ca8, mul_le_mul → cc2, add_sub_cancel → cd5, le_of_succ_le → cf0, succ_mul → cg5, sub_self → cg6, min_le_right → ch1, succ_le_succ → ch2, le_of_not_lt → ch4, lt_of_not_le → ci1, reduceLeDiff → ci4, not_lt → cl8, reduceAdd → cm9, reduceSub → cn0, lt_trans → cn5, mul_comm → cn7, pow_succ → co2, sub_zero → co4, mul_succ → co8
open Int renaming toNat_natCast → bc3, eq_ofNat_of_zero_le → bi3, emod_lt_of_pos → bp2, zero_add → bp8, emod_nonneg → bp9, le_refl → b01, mul_le_mul_of_nonneg_right → b16, mul_one → cj0, sub_zero → cn8, le_trans → co0, le_of_eq → co1, ne_of_gt → co6
open PySem.Value renaming none → bd8, ref → bg0, type → bq4, int → by2, bool → cl2, builtin → cm7, str → cn3, float → co9
open Option renaming map_eq_some_iff → be2, isSome_iff_exists → bo1, getD_some → bu6, getD_none → bx3, none → cp0, map → cp7
open PySem.PassesOwn renaming never → be4
open Array renaming length_toList → bf0, getElem?_toList → bf2, getElem?_eq_getElem → bh2, forIn_toList → bq5, getElem?_eq_none → bv1, toArray_toList → bw8, getElem_toList → b25, getElem?_eq_some_iff → b45, toList → ca4, replicate → ca7, mem_toList_iff → cb6, toList_push → cf7, size_push → ck4
open Option.some renaming inj → bf4, injEq → bw3
open PySem.Builtin.SmallTypes renaming ownedTupleIsFree → bg6, nextOf → bh1, ownedTupleHandOut → bx0
open PyProof.Rows renaming callWith_type1 → bh4, Keyed → bi6, wpS_bind → bk6, wpS_pure → bp0, SortSt → bq3, SortKind → bu5, slot_tuple_getitem → bz3, wpS_forRange → b18, entry_list_sort → b36, slot_list_sort → b60, args_list_sort → b61, listUpdate_at → b85, subscriptTail_builtinR → b98, wpS_mono → cb5, seqEpoch_at → cc4, sortedAll_old → cd6, wpS_get → cf5, sortedAll_at → cg7, boot_range → cl4, Subscript_ → cl5, boot_tuple → cl9, wpS_modify → cm0
open PySem.Builtin.Tuple renaming tupleHashOf → bi2, tupleExact → bo2, tupleItemsOf → br9
open PySem.Builtin.List renaming listExtendWith → bi4, listLengthHint → bm3, listTooLong → bt3, listSameRef → bt8, listItems → bv2, listUpdate → b92
open PySem.Obj renaming mapSeq → bj9, data_mapFields → cd3, putSet → cm1
open PySem.F renaming plainAttrs_list → bk1, slot_tuple_hash → bo4, slot_zip_next → br6, slot_tuple_iterator_next → bs0, slot_list_append → bx9, type_list_append → by0, args_zip_next_1 → b00, slot_list_pop → b13, type_list_pop → b14, entry_zip_next → b20, args_tuple_iterator_next_1 → b26, entry_tuple_iterator_next → b34, plain_extend_loop → b40, plain_extend_loop → b66, args_list_init_2 → b76, slot_tuple_index → b77, slot_list_index → b84, typeCall_list_1 → b93, entry_list_init → b94, slot_set_iter → ca9, slot_dict_len → cb3, args_tuple_hash_1 → cc5, entry_extend_loop → cc6, called_list → cc7, entry_tuple_hash → cd8, plain_list_iadd → cf3, entry_list_pop → ch3, slot_list_pop → cj5, slot_int_rmul → cj6, plain_set_new → ck2, slot_tuple_lt → ck3
open PySem.NameKind renaming free → bk8, cell → bp6
open PySem.Builtin.Range renaming rangeSize → bm5, small → bx7
open Classical renaming propDecidable → bm6, byContradiction → bp7
open List.Perm renaming refl → bo6, eq_of_pairwise → b79, cons_inv → ce1, nil_eq → ci5, trans → ck0, swap → ck9
open PySem.Around renaming under_plainId → bp4, in1_units → b21
open PySem.Str renaming ofString → br2
open PySem.Heap.SameBut renaming update → br5, refl → cf1
open PySem.Builtin.Slice renaming slicePlaces → bs7, sliceAdjust → bw9, sliceApplied → b44
open Int.ofNat renaming inj → bu4
open False renaming elim → bu9
open Ne renaming symm → bv6
open Nat.succ renaming inj → bw2
open PySem.Calls renaming call_function_entry → bx1, Name_function_global → b43, spliced_cons → b47, spliced_nil → b69, callWith_builtin → b99
open Prod renaming ext → by4, fst → bz1, snd → bz2
open PyProof.Rows.F renaming plain_set_update_loop → by7, entry_set_update_loop → b91
open List.Pairwise renaming nil → bz5, map → b75
open PySem.SeqAt renaming EqAt → bz7
open Sum renaming inr → b57, inl → ca1
open PySem.PyData.int renaming inj → b59, injEq → ci3
open True renaming intro → b68
open PySem.SeqAt.EqAt renaming int_int → cd9
open PySem.PyData.tuple renaming injEq → ce0
open PySem.PyData.bool renaming injEq → cg1
open PySem.PyData.list renaming injEq → cg2
open PySem.SetTable renaming tooFull → ch8, grown → cl0, slot → cm4, laid → cm5, fill → cm6
open PySem.PyData.str renaming injEq → ci2
open Or renaming inl → ci8, inr → ci9
open LawfulBEq renaming eq_of_beq → cj1
open ForInStep renaming yield → cj7
open PySem.P renaming lt_int → ck8
open PyProof.Rows.IntsAre renaming int_at → cl1
open PySem.W.Looks renaming of_pure → cm8
open PyProof.Rows.IsTup renaming new → cn6
open PySem.W.KatTups renaming cons → co3, nil → cp3
open PySem.Shared renaming heap → cp1
open PySem.W.WShape renaming has → cp4
open PySem.Walks renaming list → cp5
open PyProof.Rows.SortSt renaming mk' → cp6
set_option Elab.async false
set_option linter.all false
set_option maxRecDepth 100000
set_option tactic.hygienic false
namespace L2
def u1(_:True:=by first|exact .inl rfl|exact .inr rfl|assumption):True:=trivial
@[inline]def Z1:=u1._auto_1
def u2(_:True:=by decide):True:=trivial
@[inline]def Z2:=u2._auto_1
def u3(_:True:=by intro O;rfl):True:=trivial
@[inline]def Z3:=u3._auto_1
def u4(_:True:=by rfl):True:=trivial
@[inline]def Z4:=u4._auto_1
def u5(_:True:=by with_unfolding_all rfl):True:=trivial
@[inline]def Z5:=u5._auto_1
def u6(_:True:=by first|exact ci8 rfl|exact ci9 (ci8 rfl)|exact ci9 (ci9 rfl)):True:=trivial
def u7(_:True:=by intro b z;cases z;rfl):True:=trivial
def u8(_:True:=by intro O;exact pv _):True:=trivial
@[inline]def Z8:=u8._auto_1
def u9(_:True:=by first|exact kvz _|rfl):True:=trivial
def u10(_:True:=by intro O O;rfl):True:=trivial
@[inline]def Z10:=u10._auto_1
def u11(_:True:=by intro O;exact⟨rfl,rfl,rfl,rfl,rfl⟩):True:=trivial
@[inline]def Z11:=u11._auto_1
def u12(_:True:=by intro O;first|exact ci8 rfl|exact ci9 rfl):True:=trivial
@[inline]def Z12:=u12._auto_1
def u13(_:True:=by intro O;first|exact .inl rfl|exact .inr rfl):True:=trivial
@[inline]def Z13:=u13._auto_1
def u14(_:True:=by simp):True:=trivial
def u15(_:True:=by first|exact bd1 fun O O O O O O O=>rfl|exact bd2 fun O O O O O O O O=>rfl|exact bd3 fun O O O O O O O O O=>rfl|exact bd4 fun O O O O O O O O O O=>rfl|exact bd5 fun O O O O O O O O O O O=>rfl):True:=trivial
open PySem PySem.Spec PyProof.Rows
@[reducible]def Key:=Sum Int Str
abbrev k06:Key->ba6->Bool
 | .inl k,v=>ba6.isInt k v
 | .inr x,v=>ba6.isStrOf x v
abbrev keyH(w:be5):Key->Int
 | .inl k=>hashInt k
 | .inr x=>hashStr w x
def kbg: ∀{k:Key}{v:ba6},k06 k v=true->(∃ i t,k=ca1 i/\v=by2 i t)\/(∃ x t,k=b57 x/\v=cn3 x t)
 | .inl i,v,h=>by
   obtain⟨t,e⟩:=ba6.isInt_shape (k:=i) (v:=v) h;exact .inl ⟨i,t,rfl,e⟩
 | .inr x,v,h=>by
   obtain⟨t,e⟩:=ba6.isStrOf_shape (x:=x) (v:=v) h;exact .inr ⟨x,t,rfl,e⟩
def k07(a b:Int):decide ((ca1 a:Key)=ca1 b)=(a==b):=by
 by_cases e:a=b
 .subst e;simp
 .have h: ¬(ca1 a:Key)=ca1 b:=fun q=>e (ca1.inj q);rw[zF h];exact(beq_eq_false_iff_ne.mpr e).symm
def k08(a b:Str):decide ((b57 a:Key)=b57 b)=decide (a=b):=by
 by_cases e:a=b
 .subst e;simp
 .have h: ¬(b57 a:Key)=b57 b:=fun q=>e (b57.inj q);rw[zF h,zF e]
def k09(a:Int)(b:Str):decide ((ca1 a:Key)=b57 b)=false:=zF (fun q=>nomatch q)
def k1a(a:Str)(b:Int):decide ((b57 a:Key)=ca1 b)=false:=zF (fun q=>nomatch q)
abbrev koh(prog:bb9)(w:be5):PySem.KeyKind prog w Key where
 is:=k06
 hash:=keyH w
 inj:=fun v a b ha hb=>by
  rcases kbg ha with⟨i,t,rfl,rfl⟩|⟨x,t,rfl,rfl⟩
  .rcases kbg hb with⟨j,u,rfl,e⟩|⟨y,u,rfl,e⟩
   .injection e with e1 _;rw[e1]
   .exact nomatch e
  .rcases kbg hb with⟨j,u,rfl,e⟩|⟨y,u,rfl,e⟩
   .exact nomatch e
   .injection e with e1 _;rw[e1]
 byValue:=fun k v h=>by
  rcases kbg h with⟨i,t,rfl,rfl⟩|⟨x,t,rfl,rfl⟩ <;> rfl
 pyHash:=fun hv h=>by
  rcases kbg hv with⟨i,t,rfl,rfl⟩|⟨x,t,rfl,rfl⟩
  .exact bx2 h
  .exact wpAny_pyHash_str h
 eqBool:=fun hu hv h=>by
  rcases kbg hu with⟨i,t,rfl,rfl⟩|⟨x,t,rfl,rfl⟩
  .rcases kbg hv with⟨j,u,rfl,rfl⟩|⟨y,u,rfl,rfl⟩
   .rw[k07]at h;exact bs1 h
   .rw[k09]at h;exact bz7.int_str i t y u _ _ _ _ h
  .rcases kbg hv with⟨j,u,rfl,rfl⟩|⟨y,u,rfl,rfl⟩
   .rw[k1a]at h;exact bz7.str_int x t j u _ _ _ _ h
   .rw[k08]at h;exact wpAny_eqBool_str h
 «strs» :=fun k x t v h=>by
  rcases kbg h with⟨i,u,rfl,e⟩|⟨y,u,rfl,e⟩
  .exact nomatch e
  .injection e with e1 _;subst e1;cases v <;> rfl
end L2
namespace L2
open PySem PySem.Spec PyProof.Rows
inductive V where
 | non|bl (b:Bool)|int (i:Int)|str (x:Str)|byt (b:Array UInt8)|flt (b:UInt64)|ref (a:Addr)|ty (n:String)
 deriving DecidableEq
abbrev RelV:V->ba6->Prop
 | .non,u=>u=bd8
 | .bl b,u=>u=cl2 b
 | .int i,u=>∃t,u=by2 i t
 | .str x,u=>∃t,u=cn3 x t
 | .byt b,u=>∃t,u=ba6.bytes b t
 | .flt b,u=>∃t,u=co9 b t
 | .ref a,u=>u=bg0 a
 | .ty n,u=>u=bq4 n
@[reducible]def Vals:List V->List ba6->Prop:=Paired RelV
def Vals.length{xs:List V}{us:List ba6}(r:Vals xs us):xs.length=us.length:=Paired.length r
def Vals.get: ∀{xs:List V}{us:List ba6}{i:Nat}{x:V},Vals xs us->xs[i]?=some x->∃u,us[i]?=some u/\RelV x u
 | _,_,_,_,.nil,e=>by simp at e
 | _,_,0,_,.cons r _,e=>by simp at e;subst e;exact⟨_,rfl,r⟩
 | _,_,i+1,x,.cons _ t,e=>by
   obtain⟨u,h1,h2⟩:=Vals.get (i:=i) (x:=x) t (by simpa using e);exact⟨u,by simpa using h1,h2⟩
def Vals.set{x:V}{u:ba6}(r:RelV x u): ∀{xs:List V}{us:List ba6}(i:Nat),Vals xs us->Vals (xs.set i x) (us.set i u)
 | _,_,_,.nil=> .nil
 | _,_,0,.cons _ t=> .cons r t
 | _,_,i+1,.cons q t=> .cons q (Vals.set r i t)
def Vals.append: ∀{xs ys:List V}{us ws:List ba6},Vals xs us->Vals ys ws->Vals (xs++ys) (us++ws)
 | _,_,_,_,.nil,s=>s
 | _,_,_,_,.cons r t,s=> .cons r (Vals.append t s)
def Vals.take: ∀{xs:List V}{us:List ba6}(n:Nat),Vals xs us->Vals (xs.take n) (us.take n)
 | _,_,0,_=> .nil
 | _,_,_+1,.nil=> .nil
 | _,_,n+1,.cons r t=> .cons r (Vals.take n t)
def Vals.drop: ∀{xs:List V}{us:List ba6}(n:Nat),Vals xs us->Vals (xs.drop n) (us.drop n)
 | _,_,0,r=>r
 | _,_,_+1,.nil=> .nil
 | _,_,n+1,.cons _ t=>Vals.drop n t
abbrev RelO:Option V->Option ba6->Prop
 | some v,some u=>RelV v u
 | none,none=>True
 | _,_=>False
abbrev KV{κ:Type}:List (κ×V)->List (κ×ba6)->Prop:=Paired fun(p:κ×V)(q:κ×ba6)=>p.1=q.1/\RelV p.2 q.2
abbrev kV:Key->V
 | .inl i=> .int i
 | .inr x=> .str x
inductive HO where
 | lst (xs:List V)
 | tup (xs:List V)
 | dK (kvs:List (Key×V))|dT (kvs:List (List Key×V))
 | set (S:Int->Bool) (n:Nat)
 | ins (C dx:Addr) (fs:List (Str×V))
 | own (x:Addr)
 | xd (fs:List (Str×V))
 | met (f x:Addr)
 | rng (lo hi:Int)
 | frz (o:Obj) (u:HO)
 | tbl (ps:Array ba6)
 | ext (φ:Heap->Prop)
@[reducible]def Hp:=Addr->Option HO
abbrev upd(H:Hp)(a:Addr)(o:HO):Hp:=fun b=>if b=a then some o else H b
def kak{H:Hp}{a:Addr}{o:HO}:upd H a o a=some o:=by unfold upd;rw[zP rfl]
def kar{H:Hp}{a b:Addr}{o:HO}(h:b≠a):upd H a o b=H b:=by unfold upd;rw[zN h]
def k1b{H:Hp}{a b:Addr}{o u:HO}(h:H a=some o)(h':H b=some u)(d:o≠u):a≠b:=by
 intro e;subst e;rw[h]at h';exact d (bf4 h')
def kan{H:Hp}{a b:Addr}{o:HO}(h:H a=some o)(h':H b=none):a≠b:=by
 intro e;subst e;rw[h]at h';cases h'
section
variable(P:bb9)(w:be5)
abbrev NoD(h:Heap)(a:Addr):Prop:=∃o,h.get? a=some o/\o.dict=none
abbrev ObjOk(H:Hp)(h:Heap)(a:Addr):HO->Prop
 | .lst xs=>xs.length<=sizeLine/\∃(its:List ba6)(n:Nat),Vals xs its/\h.get? a=some {cls:= .type "list",data:= .seq its.toArray n}
 | .tup xs=>(NoD h a/\xs.length<=sizeLine)/\∃its:List ba6,Vals xs its/\IsTup h a its.toArray
 | .dK kvs=>kvs.length<=sizeLine/\(a==sysModules)=false/\∃vs,KV kvs vs/\h.DictOf (koh P w) a vs
 | .dT kvs=>kvs.length<=sizeLine/\(a==sysModules)=false/\∃xs:List (List Key×Addr×ba6),
    Paired (fun(p:List Key×V)(q:List Key×Addr×ba6)=>p.1=q.1/\H q.2.1=some (.tup (p.1.map kV))/\RelV p.2 q.2.2) kvs xs/\
    ∃o es ep,h.get? a=some o/\o.ExactDict/\o.data= .dict es ep/\es.toList=xs.map (entryOfKey (tupleKind (koh P w)))/\(xs.map (·.1)).Nodup
 | .set S n=>h.SetOf (intKind P w) a S n
 | .ins C dx fs=>H dx=some (.own a)/\fs.length<=1000/\dx≠a/\h.get? a=some (ca2 C dx)/\
    ∃mA,h.Ns1 dx mA/\(∀ f,RelO (fs.lookup f) (mA f))/\cn4 mA (fs.map (·.1))
 | .own _=>∃o,h.get? a=some o
 | .xd fs=>∃mA,h.Ns1 a mA/\∀f,RelO (fs.lookup f) (mA f)
 | .rng lo hi=>∃t u v,h.get? a=some {cls:= .type "range",data:= .fields #[.int lo t,.int hi u,.int 1 v]}
 | .frz o u=>h.get? a=some o/\ObjOk H h a u
 | .tbl ps=>h.get? a=some {cls:= .none,data:= .fields ps}
 | .met f x=>h.get? a=some (b67 (.ref f) (.ref x))
 | .ext φ=>φ h/\(∃ o,h.get? a=some o)/\∀h1 h2:Heap,φ h1->(∀ o,h1.get? a=some o->h2.get? a=some o)->φ h2
abbrev HOk(H:Hp)(h:Heap):Prop:=∀a o,H a=some o->ObjOk P w H h a o
end
section
variable{P:bb9}{w:be5}{H H':Hp}{h h':Heap}{a:Addr}{o:HO}
def ObjOk.lt(x:ObjOk P w H h a o):a<h.objs.size:=by
 cases o with
 | lst xs=>obtain⟨_,_,_,_,e⟩:=x;exact bd0 e
 | tup xs=>obtain⟨_,_,_,p⟩:=x;exact p.lt
 | dK kvs=>obtain⟨_,_,_,_,o,_,_,e,_⟩:=x;exact bd0 e
 | dT kvs=>obtain⟨_,_,_,_,o,_,_,e,_⟩:=x;exact bd0 e
 | set S n=>obtain⟨o,_,_,_,e,_⟩:=x;exact bd0 e
 | ins C dx fs=>obtain⟨_,_,_,e,_⟩:=x;exact bd0 e
 | own y=>obtain⟨_,e⟩:=x;exact bd0 e
 | xd fs=>obtain⟨_,⟨_,_,_,e,_⟩,_⟩:=x;exact bd0 e
 | rng lo hi=>obtain⟨_,_,_,e⟩:=x;exact bd0 e
 | frz ob u=>obtain⟨e,_⟩:=x;exact bd0 e
 | tbl ps=>exact bd0 (show h.get? a=some _ from x)
 | met f y=>exact bd0 (show h.get? a=some _ from x)
 | ext φ=>obtain⟨_,⟨_,e⟩,_⟩:=x;exact bd0 e
def Paired.mapP{α β:Type}{F G:α->β->Prop}: ∀{l₁:List α}{l₂:List β},Paired F l₁ l₂->(∀ a b,F a b->G a b)->Paired G l₁ l₂
 | _,_,.nil,_=> .nil
 | _,_,.cons r t,f=> .cons (f _ _ r) (Paired.mapP t f)
def ObjOk.stay(x:ObjOk P w H h a o)(k: ∀b u,(b=a\/H b=some (.own a))->h.get? b=some u->h'.get? b=some u)
 (ho: ∀b,H b=some (.own a)->H' b=some (.own a))(ht: ∀b xs,H b=some (.tup xs)->H' b=some (.tup xs)):ObjOk P w H' h' a o:=by
 induction o with
 | lst xs=>obtain⟨z,its,n,r,e⟩:=x;exact⟨z,its,n,r,k _ _ (.inl rfl) e⟩
 | tup xs=>obtain⟨⟨⟨ob2,e2,d2⟩,z⟩,its,r,ob,e,c⟩:=x;exact⟨⟨⟨ob2,k _ _ (.inl rfl) e2,d2⟩,z⟩,its,r,ob,k _ _ (.inl rfl) e,c⟩
 | dK kvs=>obtain⟨z,y,vs,r,ob,es,ep,e,c⟩:=x;exact⟨z,y,vs,r,ob,es,ep,k _ _ (.inl rfl) e,c⟩
 | dT kvs=>
   obtain⟨z,y,xs,r,ob,es,ep,e,c⟩:=x;exact⟨z,y,xs,Paired.mapP r fun p q z=>⟨z.1,ht _ _ z.2.1,z.2.2⟩,ob,es,ep,k _ _ (.inl rfl) e,c⟩
 | set S n=>obtain⟨ob,es,ep,t,e,c⟩:=x;exact⟨ob,es,ep,t,k _ _ (.inl rfl) e,c⟩
 | ins C dx fs=>
   obtain⟨d,z,ne,e,mA,⟨od,es,ep,e2,c⟩,r⟩:=x;exact⟨ho _ d,z,ne,k _ _ (.inl rfl) e,mA,⟨od,es,ep,k _ _ (.inr d) e2,c⟩,r⟩
 | own y=>obtain⟨ob,e⟩:=x;exact⟨ob,k _ _ (.inl rfl) e⟩
 | xd fs=>obtain⟨mA,⟨od,es,ep,e,c⟩,r⟩:=x;exact⟨mA,⟨od,es,ep,k _ _ (.inl rfl) e,c⟩,r⟩
 | rng lo hi=>obtain⟨t,u,v,e⟩:=x;exact⟨t,u,v,k _ _ (.inl rfl) e⟩
 | frz ob u ih=>obtain⟨e,q⟩:=x;exact⟨k _ _ (.inl rfl) e,ih q⟩
 | tbl ps=>
   have e:h.get? a=some {cls:= .none,data:= .fields ps}:=x;show h'.get? a=some {cls:= .none,data:= .fields ps};exact k a _ (.inl rfl) e
 | met f y=>
   have e:h.get? a=some (b67 (.ref f) (.ref y)):=x;show h'.get? a=some (b67 (.ref f) (.ref y));exact k a _ (.inl rfl) e
 | ext φ=>obtain⟨p,⟨o,e⟩,st⟩:=x;exact⟨st _ _ p fun o q=>k _ _ (.inl rfl) q,⟨o,k _ _ (.inl rfl) e⟩,st⟩
def HOk.lt(x:HOk P w H h)(e:H a=some o):a<h.objs.size:=(x a o e).lt
def HOk.fresh(x:HOk P w H h)(e:h.objs.size<=a):H a=none:=by
 cases q:H a with
 | none=>rfl
 | some u=>exact zA (bh8 (x.lt q) e) (bk7 _)
def HOk.kept(x:HOk P w H h)(k: ∀b u,h.get? b=some u->h'.get? b=some u):HOk P w H h':=fun a o e=>
 (x a o e).stay (fun b u O q=>k b u q) (fun O q=>q) fun O O q=>q
def HOk.laid(x:HOk P w H h)(k: ∀b u,h.get? b=some u->h'.get? b=some u)(hp:h.objs.size<=a)(new:ObjOk P w (upd H a o) h' a o):HOk P w (upd H a o) h':=fun b u e=>by
 have hn:=x.fresh hp;by_cases hb:b=a
 .subst hb;rw[kak]at e;cases e;exact new
 .rw[kar hb]at e;exact(x b u e).stay (fun c v O q=>k c v q) (fun c q=>by rw[kar (kan q hn)];exact q) fun c xs q=>by rw[kar (kan q hn)];exact q
end
abbrev Rd(H:Hp)(a:Addr)(u:HO):Prop:=H a=some u\/∃o,H a=some (.frz o u)
def Rd.ok{P:bb9}{w:be5}{H:Hp}{h:Heap}{a:Addr}{u:HO}(r:Rd H a u)(x:HOk P w H h):ObjOk P w H h a u:=by
 rcases r with r|⟨o,r⟩
 .exact x a u r
 .obtain⟨_,q⟩:=x a _ r;exact q
abbrev Mut:Option HO->Prop
 | some (.lst _)=>True
 | some (.dK _)=>True
 | some (.dT _)=>True
 | some (.set _ _)=>True
 | some (.ins _ _ _)=>True
 | some (.ext _)=>True
 | _=>False
section
variable{P:bb9}{w:be5}{H:Hp}{h h':Heap}{x e:Addr}{o':HO}
def HOk.write(ok:HOk P w H h)(mu:Mut (H x))(he:e=x\/H e=some (.own x))(k: ∀b u,b≠e->h.get? b=some u->h'.get? b=some u)(heo: ∃u,h'.get? e=some u)
 (new:ObjOk P w (upd H x o') h' x o'):HOk P w (upd H x o') h':=fun b u q=>by
 have nown: ∀c y,H c=some (.own y)->c≠x:=fun c y r z=>by subst z;rw[r]at mu;exact mu
 have ntup: ∀c xs,H c=some (.tup xs)->c≠x:=fun c xs r z=>by subst z;rw[r]at mu;exact mu
 by_cases hb:b=x
 .subst hb;rw[kak]at q;cases q;exact new
 .rw[kar hb]at q;by_cases hbe:b=e
  .have q':H b=some (.own x):=by
    rcases he with z|z
    .exact zA (hbe.trans z) hb
    .rw[hbe];exact z
   rw[q]at q';cases q';obtain⟨v,hv⟩:=heo;exact⟨v,by rw[hbe];exact hv⟩
  .refine(ok b u q).stay (fun c v hc r=>k c v ?_ r) (fun c r=>by rw[kar (nown c b r)];exact r) fun c xs r=>by rw[kar (ntup c xs r)];exact r
   rcases hc with rfl|hc
   .exact hbe
   .rintro rfl;rcases he with z|z
    .exact nown c b hc z
    .rw[hc]at z;cases z;exact hb rfl
end
structure Un(fs ex:List Addr)(H H':Hp)(h h':Heap):Prop where
 keep: ∀b o,h.get? b=some o->H b=none->b ∉ fs->b ∉ ex->h'.get? b=some o
 slot: ∀b o,h.get? b=some o->H b=none->b∈fs->b ∉ ex->∃sl,h'.get? b=some {o with slots:=sl}
 free: ∀b o,h.get? b=some o->H b=none->b ∉ ex->H' b=none
 there: ∀b o,h.get? b=some o->b ∉ ex->∃o',h'.get? b=some o'
 tups: ∀b xs,H b=some (.tup xs)->H' b=some (.tup xs)
 frzs: ∀b o u,H b=some (.frz o u)->H' b=some (.frz o u)
 tbls: ∀b ps,H b=some (.tbl ps)->∃more,H' b=some (.tbl (ps++more))
section
variable{fs fs' ex ex':List Addr}{H H1 H2:Hp}{h h1 h2 h':Heap}{a x e:Addr}{o:HO}
def Un.any(u:Un fs ex H H1 h h1){b:Addr}{ob:Obj}(q:h.get? b=some ob)(n:H b=none)(hx:b ∉ ex): ∃sl,h1.get? b=some {ob with slots:=sl}:=by
 by_cases hb:b∈fs
 .exact u.slot b ob q n hb hx
 .exact⟨ob.slots,u.keep b ob q n hb hx⟩
def Un.kept(k: ∀b u,h.get? b=some u->h'.get? b=some u):Un fs ex H H h h':=
 ⟨fun b ob q O O O=>k b ob q,fun b ob q O O O=>⟨ob.slots,k b ob q⟩,fun O O O n O=>n,fun b ob q O=>⟨ob,k b ob q⟩,fun O O q=>q,fun O O O q=>q,fun O ps q=>⟨#[],by rw[q];simp⟩⟩
def Un.refl:Un fs ex H H h h:=Un.kept fun O O q=>q
def Un.laid(k: ∀b u,h.get? b=some u->h'.get? b=some u)(hp:h.objs.size<=a)(hn:H a=none):Un fs ex H (upd H a o) h h' where
 keep:=fun b u q O O O=>k b u q
 slot:=fun b u q O O O=>⟨u.slots,k b u q⟩
 free:=fun b u q n O=>by rw[kar (bf5 (bh8 (bd0 q) hp))];exact n
 there:=fun b u q O=>⟨u,k b u q⟩
 tups:=fun b xs q=>by rw[kar (kan q hn)];exact q
 frzs:=fun b u xs q=>by rw[kar (kan q hn)];exact q
 tbls:=fun b ps q=>⟨#[],by rw[kar (kan q hn),q];simp⟩
def Un.write(mu:Mut (H x))(he:e=x\/H e=some (.own x))(k: ∀b u,b≠e->h.get? b=some u->h'.get? b=some u)(heo: ∃u,h'.get? e=some u):Un fs ex H (upd H x o) h h':=by
 have hx: ∀b,H b=none->b≠x:=fun b n z=>by subst z;rw[n]at mu;exact mu
 have hb: ∀b,H b=none->b≠e:=fun b n z=>by
  subst z;rcases he with r|r
  .exact hx b n r
  .rw[n]at r;cases r
 have hm: ∀b u,H b=some u->¬Mut (some u)->b≠x:=fun b u q nm z=>by subst z;rw[q]at mu;exact nm mu
 refine⟨fun b u q n O O=>k b u (hb b n) q,fun b u q n O O=>⟨u.slots,k b u (hb b n) q⟩,fun b u q n O=>by rw[kar (hx b n)];exact n,fun b u q O=>?_,
  fun b xs q=>by rw[kar (hm b _ q fun z=>z)];exact q,fun b u xs q=>by rw[kar (hm b _ q fun z=>z)];exact q,fun b ps q=>⟨#[],by rw[kar (hm b _ q fun z=>z),q];simp⟩⟩
 by_cases hbe:b=e
 .subst hbe;exact heo
 .exact⟨u,k b u hbe q⟩
end
abbrev trk(h:Heap)(H:Hp):List Addr:=(ba8 h.objs.size).filter fun a=>(H a).isSome
abbrev ks9(h:Heap)(H:Hp):Heap:=PySem.W.hideAll h (trk h H)
def koi(h:Heap)(H:Hp):(ks9 h H).objs.size=h.objs.size:=PySem.W.hideAll_size _ _
def kta{h:Heap}{H:Hp}{b:Addr}{o:Obj}(e:h.get? b=some o)(n:H b=none):(ks9 h H).get? b=some o:=
 PySem.W.hideAll_get _ e fun hm=>by
  have q:(H b).isSome=true:=(be6.mp hm).2;rw[n]at q;simp at q
def kxi{h:Heap}{H:Hp}{b:Addr}{o:Obj}(e:(ks9 h H).get? b=some o):h.get? b=some o/\H b=none:=by
 have e':h.get? b=some o:=PySem.W.of_hideAll (trk h H) e;refine⟨e',?_⟩;cases q:H b with
 | none=>rfl
 | some x=>
   have hm:b∈trk h H:=be6.mpr ⟨bb2.mpr (bd0 e'),by simp[q]⟩;have z:(ks9 h H).get? b=none:=PySem.W.hideAll_none (trk h H) hm;rw[z]at e;cases e
abbrev kxj(g h:Heap)(L:Addr):List (Addr×Obj):=(ba8 h.objs.size).filterMap fun a=>if a=L\/(g.get? a).isSome=true then none else(h.get? a).map fun o=>(a,o)
abbrev kdh(g h:Heap)(L d:Addr):List (Addr×Obj):=(kxj g h L).filter fun p=>decide (p.1≠d)
structure Mod(K:ba2)(mg:Str->Option ba6)(base:Heap):Prop where
 kin:K.In base
 glob:base.Ns bi5 mg
 blt: ∃mb,base.Ns builtinsNs mb/\∀x:Str,x≠"__name__"->mb x=bootBuiltins x
 nolimit:base.NoLimit
structure Cx where
 prog:bb9
 w:be5
 K:ba2
 mg:Str->Option ba6
 base:Heap
 A:bg1
 N:List Str
 s₀:ba7
 H₀:Hp
 env:Env
 outer:List Env
 stack:List Env
 ex:List Addr
 fn:Str->Bool
 calm:Bool
 pn:List (Addr×Obj)
 xe:ba6->ba7->Prop
abbrev frs(l:List Env):List Addr:=l.filterMap (·.frame)
@[reducible]def Cx.fs(X:Cx):List Addr:=frs X.outer
abbrev Vis(sc:b05)(x:Str):Prop:=sc.names.lookup x=some .local\/sc.names.lookup x=some .cell\/sc.names.lookup x=some .free
abbrev Loc(sc:b05)(x:Str):Prop:=sc.names.lookup x=some .local\/sc.names.lookup x=some .cell
abbrev Look(env:Env)(h:Heap)(m:Str->Option ba6)(x:Str)(u:ba6):Prop:=
 (env.kindOf x=some .local/\m x=some u)\/((env.kindOf x=some .cell\/env.kindOf x=some .free)/\∃c,env.cells.lookup x=some c/\h.IsCell c (some u))
structure Cx.Ok(X:Cx):Prop where
 mod:Mod X.K X.mg X.base
 kind:X.env.scope.kind= .function
 glob:X.env.globals=bi5
 blt:X.env.builtins=builtinsNs
 above:X.s₀.heap.objs.size<=X.env.locals
 inj: ∀x y c,X.env.cells.lookup x=some c->X.env.cells.lookup y=some c->x=y
 has: ∀x,(X.env.kindOf x=some .cell\/X.env.kindOf x=some .free)->∃c,X.env.cells.lookup x=some c
 cab: ∀x c,X.fn x=true->X.env.cells.lookup x=some c->X.s₀.heap.objs.size<=c
 hd:X.calm=true->X.A.handled=none
 frames:X.A.frames=some X.stack
 stk:X.stack=X.outer\/(X.stack=X.env::X.outer/\X.env.frame=some X.env.locals)
 exf: ∀b∈X.ex,b≠X.env.locals/\∀x c,X.env.cells.lookup x=some c->c≠b
 bs: ∀b o,X.base.get? b=some o->X.s₀.heap.get? b=some o/\X.H₀ b=none
 bsz:X.base.objs.size<=X.s₀.heap.objs.size
 noex: ∀b o,X.base.get? b=some o->b ∉ X.ex
 exfs: ∀b∈X.ex,b ∉ X.fs
 funs:X.s₀.heap.FunFrames X.base X.outer
 frf: ∀b∈X.fs,X.H₀ b=none
structure Inv(X:Cx)(pI:List (Addr×Obj))(σ:List (Option V))(H:Hp)(s:ba7):Prop where
 ok:X.Ok
 os:s.os=X.s₀.os
 bare:AllBare s.gens
 base:Un X.fs X.ex X.H₀ H X.s₀.heap s.heap
 loc: ∃m,s.heap.Ns X.env.locals m/\∀(i:Nat)(x:Str)(v:V),X.N[i]?=some x->σ[i]?=some (some v)->Vis X.env.scope x->∃u,RelV v u/\Look X.env s.heap m x u
 cell: ∀x c,X.env.cells.lookup x=some c->∃v,s.heap.IsCell c v
 free:H X.env.locals=none
 freeC: ∀x c,X.env.cells.lookup x=some c->H c=none
 pin: ∀p∈X.pn++pI,s.heap.get? p.1=some p.2/\H p.1=none/\p.1≠X.env.locals/\p.1 ∉ X.fs/\∀v,p.2.data≠ .cell v
 hok:HOk X.prog X.w H s.heap
 len:σ.length=X.N.length
section
variable{X:Cx}{pI:List (Addr×Obj)}{σ:List (Option V)}{H H':Hp}{s:ba7}{h':Heap}
def Cx.Ok.nofr(ok:X.Ok){b:Addr}{o:Obj}(e:X.base.get? b=some o):b ∉ X.fs:=fun hb=>by
 have:=(ok.funs.mem hb).1;rw[e]at this;cases this
def Inv.bs(I:Inv X pI σ H s): ∀b o,X.base.get? b=some o->s.heap.get? b=some o/\H b=none:=fun b o e=>
 ⟨I.base.keep b o (I.ok.bs b o e).1 (I.ok.bs b o e).2 (I.ok.nofr e) (I.ok.noex b o e),I.base.free b o (I.ok.bs b o e).1 (I.ok.bs b o e).2 (I.ok.noex b o e)⟩
def Inv.bk(I:Inv X pI σ H s): ∀b o,X.base.get? b=some o->s.heap.get? b=some o:=fun b o e=>(I.bs b o e).1
def Inv.mod(I:Inv X pI σ H s):Mod X.K X.mg X.base:=I.ok.mod
def Inv.kIn(I:Inv X pI σ H s):X.K.In s.heap:=I.ok.mod.kin.keeps I.bk
def Inv.lt(I:Inv X pI σ H s):X.env.locals<s.heap.objs.size:=let⟨_,hn,_⟩:=I.loc;hn.lt
def Inv.sz(I:Inv X pI σ H s):X.s₀.heap.objs.size<=s.heap.objs.size:=bi9 I.ok.above (ca3 I.lt)
def Inv.nofs(I:Inv X pI σ H s){a:Addr}(h:s.heap.objs.size<=a):a ∉ X.fs:=fun hb=>by
 obtain⟨_,o,ho,_⟩:=I.ok.funs.mem hb;exact zA (bh8 (bd0 ho) (bi9 I.sz h)) (bk7 _)
def Inv.cne(I:Inv X pI σ H s): ∀x c,X.env.cells.lookup x=some c->c≠X.env.locals:=fun x c e z=>by
 obtain⟨v,o,ho,hd⟩:=I.cell x c e;obtain⟨m,⟨o',es,ep,ho',hd',_⟩,_⟩:=I.loc;rw[z,ho']at ho;cases ho;rw[hd']at hd;cases hd
def Inv.funs(I:Inv X pI σ H s):s.heap.FunFrames X.base X.outer:=by
 have all: ∀(l:List Env),(∀ b∈frs l,b∈X.fs)->X.s₀.heap.FunFrames X.base l->s.heap.FunFrames X.base l:=by
  intro l;induction l with
  | nil=>intro O O;trivial
  | cons env r ih=>
    intro hs hl;obtain⟨hk,⟨L,o,hf,hn,ho,hd⟩,hr⟩:=hl;have hL:L∈X.fs:=hs L (by unfold frs;rw[bt9,hf];exact bb8);obtain⟨sl,e⟩:=I.base.slot L o ho (I.ok.frf L hL) hL fun z=>I.ok.exfs L z hL;exact⟨hk,⟨L,_,hf,hn,e,hd⟩,ih (fun b hb=>hs b (by unfold frs;rw[bt9,hf];exact bc0 _ hb)) hr⟩
 exact all X.outer (fun O hb=>hb) I.ok.funs
def Inv.stack(I:Inv X pI σ H s):s.heap.FunFrames X.base X.stack:=by
 rcases I.ok.stk with e|⟨e,hf⟩
 .rw[e];exact I.funs
 .rw[e];obtain⟨m,hn,_⟩:=I.loc;refine .cons (by rw[I.ok.kind];decide) hf hn ?_ I.funs;exact Heap.get?_none_of_le (bi9 I.ok.bsz I.ok.above)
def Inv.stkSub(I:Inv X pI σ H s): ∀b∈frs X.stack,b∈X.env.locals::X.fs:=fun b hb=>by
 rcases I.ok.stk with e|⟨e,hf⟩
 .rw[e]at hb;exact bc0 _ hb
 .rw[e]at hb;unfold frs at hb;rw[bt9,hf]at hb;exact hb
def Inv.stkFree(I:Inv X pI σ H s): ∀b∈frs X.stack,H b=none:=fun b hb=>by
 rcases bc6.mp (I.stkSub b hb)with e|hb
 .rw[e];exact I.free
 .obtain⟨_,o,ho,_⟩:=I.ok.funs.mem hb;exact I.base.free b o ho (I.ok.frf b hb) fun z=>I.ok.exfs b z hb
def Inv.step{g':Array GenState}{t':Nat}{d':Drawn}{ch:List Addr}(I:Inv X pI σ H s)
 (hch: ∀b∈ch,(b∈X.ex\/X.s₀.heap.objs.size<=b)/\b≠X.env.locals/\(∀ x c,X.env.cells.lookup x=some c->c≠b)/\∀p∈X.pn++pI,p.1≠b)
 (keep: ∀b o,b≠X.env.locals->b ∉ X.fs->b ∉ ch->s.heap.get? b=some o->H b=none->h'.get? b=some o)
 (slot: ∀b o,b≠X.env.locals->b∈X.fs->b ∉ ch->s.heap.get? b=some o->H b=none->∃sl,h'.get? b=some {o with slots:=sl})(free: ∀b o,b ∉ ch->s.heap.get? b=some o->H b=none->H' b=none)
 (there: ∀b o,b ∉ ch->s.heap.get? b=some o->∃o',h'.get? b=some o')
 (tups: ∀b xs,H b=some (.tup xs)->H' b=some (.tup xs))(frzs: ∀b o u,H b=some (.frz o u)->H' b=some (.frz o u))(tbls: ∀b ps,H b=some (.tbl ps)->∃more,H' b=some (.tbl (ps++more)))
 (ns: ∀m,s.heap.Ns X.env.locals m->h'.Ns X.env.locals m)(hok:HOk X.prog X.w H' h')(hg:AllBare g'):
 Inv X pI σ H' {s with heap:=h',gens:=g',drawn:=d',toks:=t'}:=by
 have neL: ∀b o,X.s₀.heap.get? b=some o->b≠X.env.locals:=fun b o e=>bf5 (bh8 (bd0 e) I.ok.above);have neC: ∀b o,X.s₀.heap.get? b=some o->b ∉ X.ex->b ∉ ch:=fun b o e hx hb=>by
  rcases(hch b hb).1 with z|z
  .exact hx z
  .exact zA (bh8 (bd0 e) z) (bk7 _)
 have cellK: ∀x c,X.env.cells.lookup x=some c->∀v,s.heap.IsCell c v->h'.IsCell c v:=fun x c e v ⟨o,ho,hd⟩=>by
  have nch:c ∉ ch:=fun z=>(hch c z).2.2.1 x c e rfl;by_cases hc:c∈X.fs
  .obtain⟨sl,q⟩:=slot c o (I.cne x c e) hc nch ho (I.freeC x c e);exact⟨_,q,hd⟩
  .exact⟨o,keep c o (I.cne x c e) hc nch ho (I.freeC x c e),hd⟩
 refine⟨I.ok,I.os,hg,⟨fun b o e n hb hx=>?_,fun b o e n hb hx=>?_,fun b o e n hx=>?_,fun b o e hx=>?_,fun b xs e=>tups b xs (I.base.tups b xs e),fun b o xs e=>frzs b o xs (I.base.frzs b o xs e),fun b ps e=>?_⟩,?_,fun x c e=>?_,?_,fun x c e=>?_,fun p hp=>?_,hok,I.len⟩
 .exact keep b o (neL b o e) hb (neC b o e hx) (I.base.keep b o e n hb hx) (I.base.free b o e n hx)
 .obtain⟨sl,e1⟩:=I.base.slot b o e n hb hx;obtain⟨sl',e2⟩:=slot b _ (neL b o e) hb (neC b o e hx) e1 (I.base.free b o e n hx);exact⟨sl',e2⟩
 .obtain⟨o',e1⟩:=I.base.there b o e hx;exact free b o' (neC b o e hx) e1 (I.base.free b o e n hx)
 .obtain⟨o',e1⟩:=I.base.there b o e hx;exact there b o' (neC b o e hx) e1
 .obtain⟨m1,e1⟩:=I.base.tbls b ps e;obtain⟨m2,e2⟩:=tbls b _ e1;exact⟨m1++m2,by rw[e2,Array.append_assoc]⟩
 .obtain⟨m,hn,hl⟩:=I.loc;refine⟨m,ns m hn,fun i x v e1 e2 e3=>?_⟩;obtain⟨u,r,l⟩:=hl i x v e1 e2 e3;refine⟨u,r,?_⟩;rcases l with l|⟨k,c,e,z⟩
  .exact .inl l
  .exact .inr ⟨k,c,e,cellK x c e _ z⟩
 .obtain⟨v,z⟩:=I.cell x c e;exact⟨v,cellK x c e v z⟩
 .obtain⟨m,⟨o,_,_,ho,_⟩,_⟩:=I.loc;exact free _ o (fun z=>(hch _ z).2.1 rfl) ho I.free
 .obtain⟨v,o,ho,hd⟩:=I.cell x c e;exact free c o (fun z=>(hch c z).2.2.1 x c e rfl) ho (I.freeC x c e)
 .obtain⟨e,n,ne,nf,d⟩:=I.pin p hp;have nch:p.1 ∉ ch:=fun z=>(hch p.1 z).2.2.2 p hp rfl;exact⟨keep p.1 p.2 ne nf nch e n,free p.1 p.2 nch e n,ne,nf,d⟩
def Inv.un{t':Nat}(I:Inv X pI σ H s)(u:Un X.fs [] H H' s.heap h')(hok:HOk X.prog X.w H' h'):Inv X pI σ H' {s with heap:=h',toks:=t'}:=by
 obtain⟨m,⟨o,es,ep,ho,r⟩,_⟩:=id I.loc;obtain⟨sl,hL⟩:=u.any ho I.free (by simp);exact I.step (g':=s.gens) (d':=s.drawn) (ch:=[]) (fun O z=>nomatch z) (fun b o O hb O e n=>u.keep b o e n hb (by simp)) (fun b o O hb O e n=>u.slot b o e n hb (by simp)) (fun b o O e n=>u.free b o e n (by simp)) (fun b o O e=>u.there b o e (by simp)) u.tups u.frzs u.tbls (fun m' hm=>by
  obtain⟨o',es',ep',ho',r'⟩:=hm;rw[ho]at ho';cases ho';exact⟨_,es',ep',hL,r'⟩) hok I.bare
def Inv.call{g':Array GenState}{t':Nat}{d':Drawn}{ch:List Addr}(I:Inv X pI σ H s)(u:Un (frs X.stack) ch H H' s.heap h')(hok:HOk X.prog X.w H' h')(hg:AllBare g')
 (hch: ∀b∈ch,(b∈X.ex\/X.s₀.heap.objs.size<=b)/\b≠X.env.locals/\(∀ x c,X.env.cells.lookup x=some c->c≠b)/\∀p∈X.pn++pI,p.1≠b):
 Inv X pI σ H' {s with heap:=h',gens:=g',drawn:=d',toks:=t'}:=by
 obtain⟨m,⟨o,es,ep,ho,r⟩,_⟩:=id I.loc;obtain⟨sl,hL⟩:=u.any ho I.free fun z=>(hch _ z).2.1 rfl;exact I.step (ch:=ch) hch (fun b o hL hb hc e n=>u.keep b o e n (fun z=>(bc6.mp (I.stkSub b z)).elim hL hb) hc) (fun b o O O hc e n=>u.any e n hc) (fun b o hc e n=>u.free b o e n hc) (fun b o hc e=>u.there b o e hc) u.tups u.frzs u.tbls (fun m' hm=>by
  obtain⟨o',es',ep',ho',r'⟩:=hm;rw[ho]at ho';cases ho';exact⟨_,es',ep',hL,r'⟩) hok hg
def Inv.turned{t':Nat}{it:Addr}(I:Inv X pI σ H s)(k: ∀b o,b≠it->s.heap.get? b=some o->h'.get? b=some o)(hn:H it=none)(hL:it≠X.env.locals)
 (h1:it∈X.ex\/X.s₀.heap.objs.size<=it)(h2: ∀x c,X.env.cells.lookup x=some c->c≠it)(h3: ∀p∈X.pn++pI,p.1≠it):Inv X pI σ H {s with heap:=h',toks:=t'}:=by
 have nit: ∀b u,H b=some u->b≠it:=fun b u e z=>by rw[z,hn]at e;cases e
 refine I.step (g':=s.gens) (d':=s.drawn) (ch:=[it]) (fun b hb=>?_) (fun b o O O hc e O=>k b o (fun z=>hc (by simp[z])) e) (fun b o O O hc e O=>⟨o.slots,k b o (fun z=>hc (by simp[z])) e⟩) (fun O O O O n=>n)
  (fun b o hc e=>⟨o,k b o (fun z=>hc (by simp[z])) e⟩) (fun O O e=>e) (fun O O O e=>e) (fun b ps e=>⟨#[],by rw[e];simp⟩) (fun m hm=>?_) (fun b u e=>?_) I.bare
 .have e:b=it:=by simpa using hb
  subst e;exact⟨h1,hL,h2,h3⟩
 .obtain⟨o,es,ep,ho,r⟩:=hm;exact⟨o,es,ep,k _ o (bv6 hL) ho,r⟩
 .refine(I.hok b u e).stay (fun c v hc q=>k c v ?_ q) (fun O q=>q) fun O O q=>q;rcases hc with z|z
  .rw[z];exact nit b u e
  .exact nit c _ z
def Inv.tok(I:Inv X pI σ H s)(t:Nat):Inv X pI σ H {s with toks:=t}:=I.un (h':=s.heap) (t':=t) Un.refl I.hok
def Inv.kept{t':Nat}(I:Inv X pI σ H s)(k: ∀b u,s.heap.get? b=some u->h'.get? b=some u):Inv X pI σ H {s with heap:=h',toks:=t'}:=I.un (Un.kept k) (I.hok.kept k)
def Inv.laid{a:Addr}{o:HO}{t':Nat}(I:Inv X pI σ H s)(k: ∀b u,s.heap.get? b=some u->h'.get? b=some u)(hp:s.heap.objs.size<=a)(new:ObjOk X.prog X.w (upd H a o) h' a o):
 Inv X pI σ (upd H a o) {s with heap:=h',toks:=t'}:=I.un (Un.laid k hp (I.hok.fresh hp)) (I.hok.laid k hp new)
def Inv.write{x e:Addr}{o:HO}{t':Nat}(I:Inv X pI σ H s)(mu:Mut (H x))(he:e=x\/H e=some (.own x))(k: ∀b u,b≠e->s.heap.get? b=some u->h'.get? b=some u)(heo: ∃u,h'.get? e=some u)
 (new:ObjOk X.prog X.w (upd H x o) h' x o):Inv X pI σ (upd H x o) {s with heap:=h',toks:=t'}:=I.un (Un.write mu he k heo) (I.hok.write mu he k heo new)
def Inv.pins_of{pins':List (Addr×Obj)}(I:Inv X pI σ H s)(h: ∀p∈pins',s.heap.get? p.1=some p.2/\H p.1=none/\p.1≠X.env.locals/\p.1 ∉ X.fs/\∀v,p.2.data≠ .cell v):Inv X pins' σ H s:=
 ⟨I.ok,I.os,I.bare,I.base,I.loc,I.cell,I.free,I.freeC,fun p hp=>(bh3.mp hp).elim (fun z=>I.pin p (bp3 _ z)) (h p),I.hok,I.len⟩
def klg{N:List Str}(hN:N.Nodup){i j:Nat}{x:Str}(a:N[i]?=some x)(b:N[j]?=some x):i=j:=by
 obtain⟨h1,e1⟩:=bb3.mp a;obtain⟨h2,e2⟩:=bb3.mp b;exact(List.getElem_inj hN).mp (e1.trans e2.symm)
def ki9{M:Model}{A:bg1}{E:ba6->ba7->Prop}{i:Nat}{x:Str}{v:V}{u:ba6}{Q:Unit->ba7->Prop}(I:Inv X pI σ H s)(hN:X.N.Nodup)(hi:X.N[i]?=some x)(hx:Loc X.env.scope x)(r:RelV v u)
 (h: ∀s',Inv X pI (σ.set i (some v)) H s'->(∃ a,bn0 a s.heap s'.heap/\(a=X.env.locals\/X.env.cells.lookup x=some a))->Q () s')(hf:autoParam (X.fn x=true\/X.env.scope.names.lookup x=some .local) Z1):be1 M A (storeName X.env x u) Q E s:=by
 obtain⟨m,hn,hl⟩:=id I.loc;have hcls:(X.env.scope.kind== .class||(X.env.scope.kind== .module&&X.env.locals != X.env.globals))=false:=by rw[I.ok.kind];rfl
 have hiσ:i<σ.length:=by rw[I.len];exact(bb3.mp hi).1
 have cne:=I.cne;have tracked: ∀{a:Addr}{h':Heap},(∃ o,s.heap.get? a=some o/\H a=none)->bn0 a s.heap h'->HOk X.prog X.w H h':=fun{a h'} ha hs b ob e=>by
  obtain⟨_,_,hfree⟩:=ha;refine(I.hok b ob e).stay (fun c w' hc q=>(hs.2 c ?_).trans q) (fun O q=>q) fun O O q=>q;rintro rfl;rcases hc with rfl|hc
  .rw[hfree]at e;cases e
  .rw[hfree]at hc;cases hc
 rcases hx with hk|hk
 .refine wpAny_storeName_local hk hn (fun h' hn' hs=>?_) hcls;obtain⟨oL,_,_,hoL,_⟩:=id hn;refine h _ ⟨I.ok,I.os,I.bare,⟨fun b o e n hb hx=>?_,fun b o e n hb hx=>?_,I.base.free,fun b o e hx=>?_,I.base.tups,I.base.frzs,I.base.tbls⟩,⟨_,hn',fun j y v' e1 e2 e3=>?_⟩,fun y c e=>?_,I.free,I.freeC,fun p hp=>?_,tracked ⟨oL,hoL,I.free⟩ hs,by simpa using I.len⟩ ⟨_,hs,.inl rfl⟩
  .exact(hs.2 b (bf5 (bh8 (bd0 e) I.ok.above))).trans (I.base.keep b o e n hb hx)
  .obtain⟨sl,e1⟩:=I.base.slot b o e n hb hx;exact⟨sl,(hs.2 b (bf5 (bh8 (bd0 e) I.ok.above))).trans e1⟩
  .obtain⟨o',e1⟩:=I.base.there b o e hx;exact⟨o',(hs.2 b (bf5 (bh8 (bd0 e) I.ok.above))).trans e1⟩
  .by_cases hj:j=i
   .subst hj;rw[hi]at e1;cases e1;rw[bn4 hiσ]at e2;cases e2;exact⟨u,r,.inl ⟨hk,by simp⟩⟩
   .rw[bw6 (bv6 hj)]at e2;obtain⟨u',r',q⟩:=hl j y v' e1 e2 e3;refine⟨u',r',?_⟩;rcases q with⟨k,e⟩|⟨k,c,e,z⟩
    .refine .inl ⟨k,?_⟩;have:y≠x:=fun e=>hj (klg hN e1 (e▸hi));simp[this,e]
    .exact .inr ⟨k,c,e,z.sameBut hs (cne y c e)⟩
  .obtain⟨w',z⟩:=I.cell y c e;exact⟨w',z.sameBut hs (cne y c e)⟩
  .obtain⟨e,n,ne,nf,d⟩:=I.pin p hp;exact⟨(hs.2 p.1 ne).trans e,n,ne,nf,d⟩
 .have hfn:X.fn x=true:=by
   rcases hf with z|z
   .exact z
   .rw[z]at hk;cases hk
  obtain⟨c,hc⟩:=I.ok.has x (.inl hk);obtain⟨w',z⟩:=I.cell x c hc;refine wpAny_storeName_cell I.ok.kind hk hc z (fun h' hc' hs=>?_);obtain⟨oc,hoc,hocd⟩:=id z;refine h {s with heap:=h'} ⟨I.ok,I.os,I.bare,⟨fun b o e n hb hx=>?_,fun b o e n hb hx=>?_,I.base.free,fun b o e hx=>?_,I.base.tups,I.base.frzs,I.base.tbls⟩,⟨m,hn.sameBut hs (bv6 (cne x c hc)),fun j y v' e1 e2 e3=>?_⟩,fun y c' e=>?_,I.free,I.freeC,fun p hp=>?_,tracked ⟨oc,hoc,I.freeC x c hc⟩ hs,by simpa using I.len⟩ ⟨c,hs,.inr hc⟩
  .exact(hs.2 b (bf5 (bh8 (bd0 e) (I.ok.cab x c hfn hc)))).trans (I.base.keep b o e n hb hx)
  .obtain⟨sl,e1⟩:=I.base.slot b o e n hb hx;exact⟨sl,(hs.2 b (bf5 (bh8 (bd0 e) (I.ok.cab x c hfn hc)))).trans e1⟩
  .obtain⟨o',e1⟩:=I.base.there b o e hx;exact⟨o',(hs.2 b (bf5 (bh8 (bd0 e) (I.ok.cab x c hfn hc)))).trans e1⟩
  .by_cases hj:j=i
   .subst hj;rw[hi]at e1;cases e1;rw[bn4 hiσ]at e2;cases e2;exact⟨u,r,.inr ⟨.inl hk,c,hc,hc'⟩⟩
   .rw[bw6 (bv6 hj)]at e2;obtain⟨u',r',q⟩:=hl j y v' e1 e2 e3;refine⟨u',r',?_⟩;rcases q with q|⟨k,c',e,z'⟩
    .exact .inl q
    .refine .inr ⟨k,c',e,z'.sameBut hs ?_⟩;rintro rfl;exact hj (klg hN e1 (I.ok.inj _ _ _ e hc▸hi))
  .by_cases hcc:c'=c
   .subst hcc;exact⟨_,hc'⟩
   .obtain⟨w2,z2⟩:=I.cell y c' e;exact⟨w2,z2.sameBut hs hcc⟩
  .obtain⟨e,n,ne,nf,d⟩:=I.pin p hp;refine⟨(hs.2 p.1 ?_).trans e,n,ne,nf,d⟩;intro q;rw[q,hoc]at e;have q':oc=p.2:=bf4 e;exact d w' (by rw[<- q'];exact hocd)
def klh{M:Model}{A:bg1}{E:ba6->ba7->Prop}{i:Nat}{x:Str}{v:V}{u:ba6}{Q:Unit->ba7->Prop}(I:Inv X pI σ H s)(hN:X.N.Nodup)(hi:X.N[i]?=some x)(hx:Loc X.env.scope x)(r:RelV v u)
 (h: ∀s',Inv X pI (σ.set i (some v)) H s'->Q () s')(hf:autoParam (X.fn x=true\/X.env.scope.names.lookup x=some .local) Z1):be1 M A (storeName X.env x u) Q E s:=
 ki9 I hN hi hx r (fun s' I' O=>h s' I') hf
def Inv.call'{s':ba7}{ch:List Addr}(I:Inv X pI σ H s)(ho:s'.os=s.os)(u:Un (frs X.stack) ch H H' s.heap s'.heap)(hok:HOk X.prog X.w H' s'.heap)(hg:AllBare s'.gens)
 (hch: ∀b∈ch,(b∈X.ex\/X.s₀.heap.objs.size<=b)/\b≠X.env.locals/\(∀ x c,X.env.cells.lookup x=some c->c≠b)/\∀p∈X.pn++pI,p.1≠b):Inv X pI σ H' s':=by
 obtain⟨h',g',d',t',o'⟩:=s';have e:o'=s.os:=ho;subst e;exact I.call (g':=g') (t':=t') (d':=d') u hok hg hch
end
@[reducible]def XK:=ba6->Option Addr->Hp->Prop
@[reducible]def St:=List (Option V)
@[reducible]def VK:=V->Hp->Prop
@[reducible]def TE:=St->Hp->VK->Prop
@[reducible]def TT:=St->Hp->(Bool->Hp->Prop)->Prop
@[reducible]def TA:=St->Hp->(List V->Hp->Prop)->Prop
structure Ends where
 nx:St->Hp->Prop
 rt:VK
 bk:St->Hp->Prop:=fun O O=>False
 ct:St->Hp->Prop:=fun O O=>False
@[reducible]def TS:=Ends->St->Hp->Prop
abbrev EP(X:Cx)(pI:List (Addr×Obj))(σ:St)(Q:VK)(u:ba6)(s':ba7):Prop:=∃v H',Inv X pI σ H' s'/\RelV v u/\Q v H'
abbrev TP(X:Cx)(pI:List (Addr×Obj))(σ:St)(Q:Bool->Hp->Prop)(b:Bool)(s':ba7):Prop:=∃H',Inv X pI σ H' s'/\Q b H'
abbrev AP(X:Cx)(pI:List (Addr×Obj))(σ:St)(Q:List V->Hp->Prop)(us:List ba6)(s':ba7):Prop:=∃vs H',Inv X pI σ H' s'/\Vals vs us/\Q vs H'
abbrev SP(X:Cx)(pI:List (Addr×Obj))(D:Ends)(f:Flow)(s':ba7):Prop:=
 match f with
 | .next=>∃σ' H',Inv X pI σ' H' s'/\D.nx σ' H'
 | .brk=>∃σ' H',Inv X pI σ' H' s'/\D.bk σ' H'
 | .cont=>∃σ' H',Inv X pI σ' H' s'/\D.ct σ' H'
 | .ret u=>∃v σ' H',Inv X pI σ' H' s'/\RelV v u/\D.rt v H'
abbrev PE(X:Cx)(e:Expr)(t:TE):Prop:=
 ∀(pI:List (Addr×Obj))(s:ba7)(σ:St)(H:Hp)(Q:VK),Inv X pI σ H s->t σ H Q->be1 (bf9 X.prog X.w) X.A (eval e X.env) (EP X pI σ Q) X.xe s
abbrev PT(X:Cx)(e:Expr)(t:TT):Prop:=
 ∀(pI:List (Addr×Obj))(s:ba7)(σ:St)(H:Hp)(Q:Bool->Hp->Prop),Inv X pI σ H s->t σ H Q->be1 (bf9 X.prog X.w) X.A (isTrue e X.env (eval e X.env)) (TP X pI σ Q) X.xe s
abbrev PW(X:Cx)(e:Expr)(t:TT):Prop:=
 ∀(whole:Sem ba6)(pI:List (Addr×Obj))(s:ba7)(σ:St)(H:Hp)(Q:Bool->Hp->Prop),Inv X pI σ H s->t σ H Q->be1 (bf9 X.prog X.w) X.A (isTrue e X.env whole) (TP X pI σ Q) X.xe s
def PW.pt{X:Cx}{e:Expr}{t:TT}(h:PW X e t):PT X e t:=h _
abbrev PA(X:Cx)(es:List Expr)(t:TA):Prop:=
 ∀(pos:Pos)(pI:List (Addr×Obj))(s:ba7)(σ:St)(H:Hp)(Q:List V->Hp->Prop),Inv X pI σ H s->t σ H Q->be1 (bf9 X.prog X.w) X.A (spliced (backTo pos (bc5 es X.env))) (AP X pI σ Q) X.xe s
abbrev PS(X:Cx)(st:Stmt)(t:TS):Prop:=
 ∀(pI:List (Addr×Obj))(s:ba7)(σ:St)(H:Hp)(D:Ends),Inv X pI σ H s->t D σ H->be1 (bf9 X.prog X.w) X.A (exec st X.env) (SP X pI D) X.xe s
abbrev PSs(X:Cx)(st:List Stmt)(t:TS):Prop:=
 ∀(pI:List (Addr×Obj))(s:ba7)(σ:St)(H:Hp)(D:Ends),Inv X pI σ H s->t D σ H->be1 (bf9 X.prog X.w) X.A (execs st X.env) (SP X pI D) X.xe s
def thn{α:Type}{t:Sem α}{Q Q':α->ba7->Prop}{M:Model}{A:bg1}{E:ba6->ba7->Prop}{s:ba7}(h:be1 M A t Q E s)(hQ: ∀a s,Q a s->Q' a s):be1 M A t Q' E s:=bs2 h hQ fun O O x=>x
section
variable{X:Cx}
abbrev kg9(i:Nat):TE:=fun σ H Q=>∃v,σ[i]?=some (some v)/\Q v H
abbrev tC(v:V):TE:=fun O H Q=>Q v H
def k1c{i:Nat}{x:Str}{pos:Pos}(hN:X.N[i]?=some x)(hv:Vis X.env.scope x)(hd:autoParam ((x==("__debug__":Str))=false) Z2)(hcd:autoParam ((x==("__classdict__":Str))=false) Z2):PE X (.Name x pos) (kg9 i):=by
 intro pI s σ H Q I h;obtain⟨v,e,h⟩:=h;obtain⟨m,hn,hl⟩:=I.loc;obtain⟨u,r,l⟩:=hl i x v hN e hv;have fin:EP X pI σ Q u s:=⟨v,H,I,r,h⟩
 rcases l with⟨hk,hm⟩|⟨hk,c,hc,hcell⟩
 .exact cl3 (wpAny_loadName_local I.ok.kind hk hn hm fin) hd
 .rcases hk with hk|hk
  .exact cl3 (wpAny_loadName_cell I.ok.kind hk hc hcell fin) hd
  .exact cl3 (wpAny_loadName_free I.ok.kind hk hc hcell fin hcd) hd
def koj{i j pos}:PE X (.Constant (.int i) j pos) (tC (.int i)):=fun O O O H O I h=>wpAny_Constant_int ⟨.int i,H,I.tok _,⟨_,rfl⟩,h⟩
def k1d{b j pos}:PE X (.Constant (.bool b) j pos) (tC (.bl b)):=fun O O O H O I h=>Constant_bool ⟨.bl b,H,I,rfl,h⟩
def k1e{j pos}:PE X (.Constant .none j pos) (tC .non):=fun O O O H O I h=>Constant_none ⟨.non,H,I,rfl,h⟩
def k1f{x j pos}:PE X (.Constant (.str x) j pos) (tC (.str x)):=fun O O O H O I h=>Calls.Constant_str ⟨.str x,H,I.tok _,⟨_,rfl⟩,h⟩
abbrev Gl(X:Cx)(x:Str):Prop:=X.env.kindOf x=some .globalImplicit
def kxk{E:ba6->ba7->Prop}{pI:List (Addr×Obj)}{s:ba7}{σ:St}{H:Hp}{x:Str}{u:ba6}{pos:Pos}{Q:ba6->ba7->Prop}(I:Inv X pI σ H s)(hg:Gl X x)(hm:X.mg x=some u)(h:Q u s)
 (hd:autoParam ((x==("__debug__":Str))=false) Z2):be1 (bf9 X.prog X.w) X.A (eval (.Name x pos) X.env) Q E s:=
 b43 I.ok.kind hg (Calls.loadGlobal_global (by rw[I.ok.glob];exact I.mod.glob.keeps I.bk) hm h) hd
def kdi{E:ba6->ba7->Prop}{pI:List (Addr×Obj)}{s:ba7}{σ:St}{H:Hp}{x:Str}{u:ba6}{pos:Pos}{Q:ba6->ba7->Prop}(I:Inv X pI σ H s)(hg:Gl X x)(hm:X.mg x=none)(hv:bootBuiltins x=some u)(h:Q u s)
 (hn:autoParam (x≠"__name__") Z2)(hd:autoParam ((x==("__debug__":Str))=false) Z2):be1 (bf9 X.prog X.w) X.A (eval (.Name x pos) X.env) Q E s:=by
 obtain⟨mb,h1,h2⟩:=I.mod.blt;exact b43 I.ok.kind hg (Calls.loadGlobal_builtin (by rw[I.ok.glob];exact I.mod.glob.keeps I.bk) hm (by rw[I.ok.blt];exact h1.keeps I.bk) ((h2 x hn).trans hv) h) hd
def kxl{x:Str}{v:V}{u:ba6}{pos:Pos}(hg:Gl X x)(hm:X.mg x=none)(hv:bootBuiltins x=some u)(r:RelV v u)(hn:autoParam (x≠"__name__") Z2)(hd:autoParam ((x==("__debug__":Str))=false) Z2):PE X (.Name x pos) (tC v):=
 fun O O O H O I h=>kdi I hg hm hv ⟨v,H,I,r,h⟩ hn hd
variable{a b:Expr}{ta tb:TE}{pos:Pos}
abbrev tB(t:TE):TT:=fun σ H Q=>t σ H fun x H1=>∃c,x= .bl c/\Q c H1
def kli{e:Expr}{t:TE}(h:PE X e t)(he:autoParam (∀ whole,isTrue e X.env whole=(do let v <- whole;standAt e.pos;holding [v] (truthy v))) Z3):PT X e (tB t):=by
 intro pI s σ H Q I hw;refine isTrue_plain (thn (h pI s σ H _ I hw) fun v s1 ⟨x,H1,I1,r1,q1⟩=>?_) (he _);obtain⟨d,rfl,q⟩:=q1;cases r1;exact bo0 ⟨H1,I1,q⟩
variable{tA tB':TT}{kdh:List Expr}
abbrev tAnd(t u:TT):TT:=fun σ H Q=>t σ H fun c H1=>if c=true then u σ H1 Q else Q false H1
abbrev tOr(t u:TT):TT:=fun σ H Q=>t σ H fun c H1=>if c=true then Q true H1 else u σ H1 Q
abbrev tNot(t:TT):TT:=fun σ H Q=>t σ H fun c H1=>Q (!c) H1
def kok(ha:PT X a tA):PW X (.BoolOp .And [a] pos) tA:=by
 intro wh pI s σ H Q I h;refine isTrue_and (thn (ha pI s σ H Q I h) fun c s1 e=>?_);cases c with
 | true=>exact isTrue_and_nil e
 | false=>exact e
def k1g(ha:PT X a tA):PW X (.BoolOp .Or [a] pos) tA:=by
 intro wh pI s σ H Q I h;refine isTrue_or (thn (ha pI s σ H Q I h) fun c s1 e=>?_);cases c with
 | false=>exact isTrue_or_nil e
 | true=>exact e
def kvw(ha:PT X a tA)(hb:PW X (.BoolOp .And (b::kdh) pos) tB'):PW X (.BoolOp .And (a::b::kdh) pos) (tAnd tA tB'):=by
 intro wh pI s σ H Q I h;refine isTrue_and (thn (ha pI s σ H _ I h) fun c s1 ⟨H1,I1,q1⟩=>?_);cases c with
 | true=>exact hb wh pI s1 σ H1 Q I1 q1
 | false=>exact⟨H1,I1,q1⟩
def pw_or(ha:PT X a tA)(hb:PW X (.BoolOp .Or (b::kdh) pos) tB'):PW X (.BoolOp .Or (a::b::kdh) pos) (tOr tA tB'):=by
 intro wh pI s σ H Q I h;refine isTrue_or (thn (ha pI s σ H _ I h) fun c s1 ⟨H1,I1,q1⟩=>?_);cases c with
 | true=>exact⟨H1,I1,q1⟩
 | false=>exact hb wh pI s1 σ H1 Q I1 q1
def k1h(ha:PT X a tA):PT X (.UnaryOp .Not a pos) (tNot tA):=by
 intro pI s σ H Q I h;exact isTrue_not (ha pI s σ H (fun c H1=>Q (!c) H1) I h)
abbrev tAndV(ta tb:TE):TE:=fun σ H Q=>ta σ H fun x H1=>∃c,x= .bl c/\if c=true then tb σ H1 Q else Q (.bl false) H1
abbrev tOrV(ta tb:TE):TE:=fun σ H Q=>ta σ H fun x H1=>∃c,x= .bl c/\if c=true then Q (.bl true) H1 else tb σ H1 Q
abbrev tNotV(ta:TE):TE:=fun σ H Q=>ta σ H fun x H1=>∃c,x= .bl c/\Q (.bl (!c)) H1
def kvx{op}{t:TE}(h:PE X a t):PE X (.BoolOp op [a] pos) t:=fun pI s σ H Q I hw=>BoolOp_one (h pI s σ H Q I hw)
def kvy(ha:PE X a ta)(hb:PE X (.BoolOp .And (b::kdh) pos) tb):PE X (.BoolOp .And (a::b::kdh) pos) (tAndV ta tb):=by
 intro pI s σ H Q I h;refine BoolOp_and (thn (ha pI s σ H _ I h) fun v s1 ⟨x,H1,I1,r1,q1⟩=>?_);obtain⟨c,rfl,q1⟩:=q1;cases r1;refine bo0 ?_;cases c with
 | true=>exact hb pI s1 σ H1 Q I1 q1
 | false=>exact⟨.bl false,H1,I1,rfl,q1⟩
def pe_or(ha:PE X a ta)(hb:PE X (.BoolOp .Or (b::kdh) pos) tb):PE X (.BoolOp .Or (a::b::kdh) pos) (tOrV ta tb):=by
 intro pI s σ H Q I h;refine BoolOp_or (thn (ha pI s σ H _ I h) fun v s1 ⟨x,H1,I1,r1,q1⟩=>?_);obtain⟨c,rfl,q1⟩:=q1;cases r1;refine bo0 ?_;cases c with
 | false=>exact hb pI s1 σ H1 Q I1 q1
 | true=>exact⟨.bl true,H1,I1,rfl,q1⟩
def k1i(ha:PE X a ta):PE X (.UnaryOp .Not a pos) (tNotV ta):=by
 intro pI s σ H Q I h;refine UnaryOp_ (thn (ha pI s σ H _ I h) fun v s1 ⟨x,H1,I1,r1,q1⟩=>?_);obtain⟨c,rfl,q1⟩:=q1;cases r1;exact not_of (bo0 ⟨.bl (!c),H1,I1,rfl,q1⟩)
abbrev tIf(t:TT)(ta tb:TE):TE:=fun σ H Q=>t σ H fun c H1=>if c=true then ta σ H1 Q else tb σ H1 Q
def ktb{c:Expr}(hc:PT X c tA)(ha:PE X a ta)(hb:PE X b tb):PE X (.IfExp c a b pos) (tIf tA ta tb):=by
 intro pI s σ H Q I h;refine wpAny_IfExp (thn (hc pI s σ H _ I h) fun d s1 ⟨H1,I1,q1⟩=>?_);cases d with
 | true=>exact ha pI s1 σ H1 Q I1 q1
 | false=>exact hb pI s1 σ H1 Q I1 q1
end
abbrev SqL(K:ba2)(H:Hp)(a:Addr)(xs:List V):Prop:=
 Rd H a (.lst xs)\/
  ∃(o:Obj)(its:Array ba6)(n:Nat),K.lookup a=some o/\o.cls= .type "list"/\o.dict=none/\o.data= .seq its n/\its.size<=sizeLine/\Vals xs its.toList
abbrev SqT(K:ba2)(H:Hp)(a:Addr)(xs:List V):Prop:=
 Rd H a (.tup xs)\/
  ∃(o:Obj)(its:Array ba6)(n:Nat),K.lookup a=some o/\o.cls= .type "tuple"/\o.data= .seq its n/\its.size<=sizeLine/\Vals xs its.toList
abbrev absV:ba6->Option V
 | .none=>some .non
 | .bool b=>some (.bl b)
 | .int i _=>some (.int i)
 | .str x _=>some (.str x)
 | .bytes b _=>some (.byt b)
 | .float b _=>some (.flt b)
 | .ref a=>some (.ref a)
 | .type n=>some (.ty n)
 | _=>none
def RelV.abs{x:V}{u:ba6}(r:RelV x u):absV u=some x:=by
 cases x with
 | non=>cases r;rfl
 | bl _=>cases r;rfl
 | int _=>obtain⟨t,rfl⟩:=r;rfl
 | str _=>obtain⟨t,rfl⟩:=r;rfl
 | byt _=>obtain⟨t,rfl⟩:=r;rfl
 | flt _=>obtain⟨t,rfl⟩:=r;rfl
 | ref _=>cases r;rfl
 | ty _=>cases r;rfl
def RelV.inj{x y:V}{u:ba6}(r:RelV x u)(q:RelV y u):x=y:=bf4 (r.abs.symm.trans q.abs)
def Vals.inj: ∀{xs ys:List V}{us:List ba6},Vals xs us->Vals ys us->xs=ys
 | _,_,_,.nil,.nil=>rfl
 | _,_,_,.cons r t,.cons r' t'=>by rw[r.inj r',Vals.inj t t']
section
variable{X:Cx}{pI:List (Addr×Obj)}{σ:St}{H:Hp}{s:ba7}{a:Addr}{xs ys:List V}
def SqL.of{K:ba2}(h:H a=some (.lst xs)):SqL K H a xs:= .inl (.inl h)
def SqT.of{K:ba2}(h:H a=some (.tup xs)):SqT K H a xs:= .inl (.inl h)
def Inv.list(I:Inv X pI σ H s)(h:SqL X.K H a xs): ∃its:List ba6,Vals xs its/\PlainL s.heap a its.toArray/\xs.length<=sizeLine:=by
 rcases h with h|⟨o,its,n,hk,hc,hd,hs,hz,r⟩
 .obtain⟨z,its,n,r,e⟩:=h.ok I.hok;exact⟨its,r,⟨_,n,e,rfl,rfl,rfl⟩,z⟩
 .refine⟨its.toList,r,⟨o,n,I.kIn a o hk,hc,hd,by simpa using hs⟩,?_⟩;have e:=r.length;simp only[bf0]at e;lia
def Inv.tuple(I:Inv X pI σ H s)(h:SqT X.K H a xs): ∃its:List ba6,Vals xs its/\IsTup s.heap a its.toArray/\xs.length<=sizeLine:=by
 rcases h with h|⟨o,its,n,hk,hc,hs,hz,r⟩
 .obtain⟨z,its,r,p⟩:=h.ok I.hok;exact⟨its,r,p,z.2⟩
 .refine⟨its.toList,r,⟨o,I.kIn a o hk,hc,n,by simpa using hs⟩,?_⟩;have e:=r.length;simp only[bf0]at e;lia
def Inv.list_inj(I:Inv X pI σ H s)(h:SqL X.K H a xs)(h':SqL X.K H a ys):xs=ys:=by
 obtain⟨its,r,⟨o,n,e,_,_,d⟩,_⟩:=I.list h;obtain⟨its',r',⟨o',n',e',_,_,d'⟩,_⟩:=I.list h';rw[e]at e';cases e';rw[d]at d';injection d' with d1 _;have:its=its':=by simpa using zC ca4 d1
 subst this;exact r.inj r'
def Inv.tuple_inj(I:Inv X pI σ H s)(h:SqT X.K H a xs)(h':SqT X.K H a ys):xs=ys:=by
 obtain⟨its,r,⟨o,e,_,n,d⟩,_⟩:=I.tuple h;obtain⟨its',r',⟨o',e',_,n',d'⟩,_⟩:=I.tuple h';rw[e]at e';cases e';rw[d]at d';injection d' with d1 _;have:its=its':=by simpa using zC ca4 d1
 subst this;exact r.inj r'
end
@[reducible]def Cx.wish(X:Cx)(E:ba6->ba7->Prop):Cx:={X with xe:=E}
@[reducible]def Cx.nox(X:Cx):Cx:=X.wish fun O O=>False
def Cx.Ok.wish{X:Cx}(ok:X.Ok)(E:ba6->ba7->Prop):(X.wish E).Ok:=
 ⟨ok.mod,ok.kind,ok.glob,ok.blt,ok.above,ok.inj,ok.has,ok.cab,ok.hd,ok.frames,ok.stk,ok.exf,ok.bs,ok.bsz,ok.noex,ok.exfs,ok.funs,ok.frf⟩
def Cx.Ok.unwish{X:Cx}{E:ba6->ba7->Prop}(ok:(X.wish E).Ok):X.Ok:=
 ⟨ok.mod,ok.kind,ok.glob,ok.blt,ok.above,ok.inj,ok.has,ok.cab,ok.hd,ok.frames,ok.stk,ok.exf,ok.bs,ok.bsz,ok.noex,ok.exfs,ok.funs,ok.frf⟩
section
variable{X:Cx}{pI:List (Addr×Obj)}{σ:St}{H:Hp}{s:ba7}{E:ba6->ba7->Prop}
def Inv.wish(I:Inv X pI σ H s)(E:ba6->ba7->Prop):Inv (X.wish E) pI σ H s:=⟨I.ok.wish E,I.os,I.bare,I.base,I.loc,I.cell,I.free,I.freeC,I.pin,I.hok,I.len⟩
def Inv.unwish(I:Inv (X.wish E) pI σ H s):Inv X pI σ H s:=⟨I.ok.unwish,I.os,I.bare,I.base,I.loc,I.cell,I.free,I.freeC,I.pin,I.hok,I.len⟩
def SP.unwish{D:Ends}{f:Flow}{s':ba7}(h:SP (X.wish E) pI D f s'):SP X pI D f s':=by
 cases f with
 | next=>obtain⟨σ',H',I,q⟩:=h;exact⟨σ',H',I.unwish,q⟩
 | brk=>obtain⟨σ',H',I,q⟩:=h;exact⟨σ',H',I.unwish,q⟩
 | cont=>obtain⟨σ',H',I,q⟩:=h;exact⟨σ',H',I.unwish,q⟩
 | ret u=>obtain⟨v,σ',H',I,r,q⟩:=h;exact⟨v,σ',H',I.unwish,r,q⟩
def PSs.nox{st:List Stmt}{t:TS}(h:PSs X.nox st t):PSs X st t:=fun pI s σ H D I hw=>
 bs2 (h pI s σ H D (I.wish _) hw) (fun O O q=>q.unwish) fun O O z=>bu9 z
end
section
variable{X:Cx}{st:Stmt}{kdh:List Stmt}{t u:TS}{e:Expr}{te:TE}{pos:Pos}
abbrev tNext:TS:=fun D σ H=>D.nx σ H
abbrev tSeq(t u:TS):TS:=fun D σ H=>t {D with nx:=u D} σ H
def kki:PSs X [] tNext:=fun O O σ H O I h=>b30 ⟨σ,H,I,h⟩
def kez(h1:PS X st t)(h2:PSs X kdh u):PSs X (st::kdh) (tSeq t u):=by
 intro pI s σ H D I h;refine cg9 (thn (h1 pI s σ H {D with nx:=u D} I h) fun f s1 q=>?_);cases f with
 | next=>
   obtain⟨σ',H',I',q⟩:=q;exact h2 pI s1 σ' H' D I' q
 | ret v=>exact q
 | brk=>exact q
 | cont=>exact q
def kc7(h1:PS X st t):PSs X [st] t:=by
 intro pI s σ H D I h;refine cg9 (thn (h1 pI s σ H D I h) fun f s1 q=>?_);cases f with
 | next=>exact b30 q
 | ret v=>exact q
 | brk=>exact q
 | cont=>exact q
def Inv.quiet{pI:List (Addr×Obj)}{σ:St}{H:Hp}{s:ba7}(I:Inv X pI σ H s):interactive X.env=false:=by simp[interactive,I.ok.kind]
abbrev tDrop(te:TE):TS:=fun D σ H=>te σ H fun O H1=>D.nx σ H1
def kgc(he:PE X e te)(hs:autoParam (bs6 e none pos.line X.env=pure false) Z4):PS X (.Expr e pos) (tDrop te):=by
 intro pI s σ H D I h;exact wpAny_Expr_any (thn (he pI s σ H _ I h) fun v s1 ⟨x,H1,I1,r1,q1⟩=>⟨σ,H1,I1,q1⟩) I.quiet hs
abbrev tRet(te:TE):TS:=fun D σ H=>te σ H D.rt
def kja(he:PE X e te):PS X (.Return (some e) pos) (tRet te):=by
 intro pI s σ H D I h;exact wpAny_Return_some (thn (he pI s σ H _ I h) fun v s1 ⟨x,H1,I1,r1,q1⟩=>⟨x,σ,H1,I1,r1,q1⟩)
abbrev tIfS(c:TT)(t u:TS):TS:=fun D σ H=>c σ H fun b H1=>if b=true then t D σ H1 else u D σ H1
def kxm{c:Expr}{a b:List Stmt}{tc:TT}(hc:PT X c tc)(ha:PSs X a t)(hb:PSs X b u):PS X (.If c a b pos) (tIfS tc t u):=by
 intro pI s σ H D I h;refine wpAny_If (thn (hc pI s σ H _ I h) fun d s1 ⟨H1,I1,q1⟩=>?_);cases d with
 | true=>exact ha pI s1 σ H1 D I1 q1
 | false=>exact hb pI s1 σ H1 D I1 q1
abbrev k1j:TS:=fun O O O=>False
def ktc:PS X st k1j:=fun O O O O O O h=>h.elim
end
@[reducible]def TG:=V->St->Hp->(St->Hp->Prop)->Prop
@[reducible]def TGs:=List V->St->Hp->(St->Hp->Prop)->Prop
abbrev PG(X:Cx)(target:Expr)(t:TG):Prop:=
 ∀(pI:List (Addr×Obj))(s:ba7)(σ:St)(H:Hp)(v:V)(u:ba6)(Q:St->Hp->Prop),Inv X pI σ H s->RelV v u->t v σ H Q->
  be1 (bf9 X.prog X.w) X.A (assign target X.env u) (fun O s'=>∃σ' H',Inv X pI σ' H' s'/\Q σ' H') X.xe s
abbrev PGs(X:Cx)(ts:List Expr)(t:TGs):Prop:=
 ∀(pI:List (Addr×Obj))(s:ba7)(σ:St)(H:Hp)(vs:List V)(us:List ba6)(Q:St->Hp->Prop),Inv X pI σ H s->Vals vs us->t vs σ H Q->
  be1 (bf9 X.prog X.w) X.A (assignInOrder ((assignEach ts X.env).map (·.2)) us) (fun O s'=>∃σ' H',Inv X pI σ' H' s'/\Q σ' H') X.xe s
@[reducible]def TSet:=V->V->V->Hp->(Hp->Prop)->Prop
abbrev PSet(X:Cx)(t:TSet):Prop:=
 ∀(pI:List (Addr×Obj))(s:ba7)(σ:St)(H:Hp)(o i v:V)(ov iv u:ba6)(Q:Hp->Prop),Inv X pI σ H s->RelV o ov->RelV i iv->RelV v u->t o i v H Q->
  be1 (bf9 X.prog X.w) X.A (setItem ov iv u) (fun O s'=>∃H',Inv X pI σ H' s'/\Q H') X.xe s
section
variable{X:Cx}{pos:Pos}
abbrev kol(i:Nat):TG:=fun v σ H Q=>Q (σ.set i (some v)) H
def kcn{i:Nat}{x:Str}(hN:X.N.Nodup)(hi:X.N[i]?=some x)(hx:Loc X.env.scope x)(hf:autoParam (X.fn x=true\/X.env.scope.names.lookup x=some .local) Z1):PG X (.Name x pos) (kol i):=by
 intro pI s σ H v u Q I r h;exact ce5 (klh I hN hi hx r (fun s' I'=>⟨_,H,I',h⟩) hf)
abbrev gNil:TGs:=fun vs σ H Q=>vs=[]/\Q σ H
abbrev gCons(t:TG)(u:TGs):TGs:=fun vs σ H Q=>∃v r,vs=v::r/\t v σ H fun σ' H'=>u r σ' H' Q
def kxn:PGs X [] gNil:=by
 intro pI s σ H vs us Q I r h;obtain⟨e,h⟩:=h;subst e;cases r;exact assignInOrder_nil ⟨σ,H,I,h⟩
def klj{e:Expr}{es:List Expr}{t:TG}{u:TGs}(h1:PG X e t)(h2:PGs X es u)
 (hs:autoParam ((assignEach (e::es) X.env).map (·.2)=assign e X.env::(assignEach es X.env).map (·.2)) Z4):PGs X (e::es) (gCons t u):=by
 intro pI s σ H vs us Q I r h;obtain⟨v,vr,e1,h⟩:=h;subst e1;cases r with
 | cons r rr=>
   rw[hs];refine assignInOrder_cons (thn (h1 pI s σ H _ _ _ I r h) fun _ s1 ⟨σ1,H1,I1,q1⟩=>?_);exact h2 pI s1 σ1 H1 _ _ Q I1 rr q1
abbrev gTup(K:ba2)(n:Nat)(t:TGs):TG:=fun v σ H Q=>∃a xs,v= .ref a/\SqT K H a xs/\xs.length=n/\t xs σ H Q
def k1k{es:List Expr}{k:Nat}{t:TGs}{n:Nat}(hc:X.calm=true)(h:PGs X es t)
 (hn:autoParam ((assignEach es X.env).length=n) Z4)(hst:autoParam ((assignEach es X.env).findIdx? (·.1)=none) Z4):PG X (.Tuple es k pos) (gTup X.K n t):=by
 intro pI s σ H v u Q I r hw;obtain⟨a,xs,e1,hq,hl,hw⟩:=hw;subst e1;cases r;obtain⟨its,rv,ht,hz⟩:=I.tuple hq;refine assign_Tuple_tuple (I.ok.hd hc) ht (by simp[hn,<- hl,rv.length]) hst fun h' hx=>?_;have I1:Inv X pI σ H {s with heap:=h'}:=I.kept (t':=s.toks) fun b o e=>hx b o (bf5 (bd0 e)) e;exact h pI _ σ H xs _ Q I1 (by simpa using rv) hw
abbrev gSub(to ti:TE)(t:TSet):TG:=fun v σ H Q=>to σ H fun o H1=>ti σ H1 fun i H2=>t o i v H2 fun H3=>Q σ H3
def k1l{o i:Expr}{to ti:TE}{t:TSet}(ho:PE X o to)(hi:PE X i ti)(hs:PSet X t)
 (ha:autoParam (∀ v,assign (.Subscript o i pos) X.env v=(do
   let ov <- holding [v] (eval o X.env)
   let iv <- holding [v,ov] (eval i X.env)
   standAt pos
   holding [v,ov,iv] (setItem ov iv v)
   release [v,ov,iv] [])) Z3):PG X (.Subscript o i pos) (gSub to ti t):=by
 intro pI s σ H v u Q I r h;rw[ha];refine ba0 (bk0 (thn (ho pI s σ H _ I h) fun ov s1 ⟨x,H1,I1,r1,q1⟩=>?_));refine ba0 (bk0 (thn (hi pI s1 σ H1 _ I1 q1) fun iv s2 ⟨y,H2,I2,r2,q2⟩=>?_));refine ba0 (b80 (ba0 (bk0 (thn (hs pI s2 σ H2 x y v ov iv u _ I2 r1 r2 r q2) fun _ s3 ⟨H3,I3,q3⟩=>?_))));exact wpAny_release ⟨σ,H3,I3,q3⟩
abbrev k1m(te:TE)(g:TG):TS:=fun D σ H=>te σ H fun x H1=>g x σ H1 D.nx
def k1n{tg e:Expr}{te:TE}{g:TG}(he:PE X e te)(hg:PG X tg g)(hs:autoParam (swapsWithSole [tg] e pos.line X.env=pure false) Z4)(hw:autoParam (swappedStores [tg] e X.env=pure none) Z4)
 (h1:autoParam ((assignEach [tg] X.env).map (·.2)=[assign tg X.env]) Z4):PS X (.Assign [tg] e pos) (k1m te g):=by
 intro pI s σ H D I h;refine wpAny_Assign_stores (thn (he pI s σ H _ I h) fun v s1 ⟨x,H1,I1,r1,q1⟩=>?_) hs hw;rw[h1];exact thn (hg pI s1 σ H1 x v _ I1 r1 q1) fun O s2 q=>q
def kgd{i:Nat}{x:Str}{e:Expr}{te:TE}{pos':Pos}(hN:X.N.Nodup)(hi:X.N[i]?=some x)(hx:Loc X.env.scope x)(he:PE X e te)(hs:autoParam (bs6 e (some (.Name x pos')) pos.line X.env=pure false) Z4)(hf:autoParam (X.fn x=true\/X.env.scope.names.lookup x=some .local) Z1):
 PS X (.Assign [.Name x pos'] e pos) (k1m te (kol i)):=by
 intro pI s σ H D I h;refine wpAny_Assign_Name (thn (he pI s σ H _ I h) fun v s1 ⟨y,H1,I1,r1,q1⟩=>?_) hs;exact klh I1 hN hi hx r1 (fun s2 I2=>⟨_,H1,I2,q1⟩) hf
abbrev k1o(c:TT)(tb:TS):TS:=fun D σ H=>∃W:Nat->St->Hp->Prop,(∃ m,W m σ H)/\∀m σ H,W m σ H->
 c σ H fun b H1=>if b=true then ∃N:St->Hp->Prop,(∀ σ' H',N σ' H'->∃m',m'<m/\W m' σ' H')/\tb {D with nx:=N,ct:=N,bk:=D.nx} σ H1 else D.nx σ H1
def ktd{c:Expr}{body:List Stmt}{tc:TT}{tb:TS}(hp:PassesOwn (bf9 X.prog X.w) X.A X.env X.xe)(hc:PT X c tc)(hb:PSs X body tb):PS X (.While c body [] pos) (k1o tc tb):=by
 intro pI s σ H D I h;obtain⟨W,⟨m0,w0⟩,turn⟩:=h;refine wpAny_While (codeAny_whileLoop (fun n s'=>∃σ' H',Inv X pI σ' H' s'/\W n σ' H') ?_ m0 ⟨σ,H,I,w0⟩);rintro n s1⟨σ1,H1,I1,w1⟩;refine bt2 hp (thn (hc pI s1 σ1 H1 _ I1 (turn n σ1 H1 w1)) fun b s2 ⟨H2,I2,q2⟩=>?_);cases b with
 | true=>
   obtain⟨N,hN,q2⟩:=q2;rw[zP rfl];refine bt2 hp (thn (hb pI s2 σ1 H2 _ I2 q2) fun f s3 q3=>?_);cases f with
   | next=>
     obtain⟨σ3,H3,I3,n3⟩:=q3;obtain⟨m',hm,w3⟩:=hN σ3 H3 n3;exact⟨m',hm,σ3,H3,I3,w3⟩
   | cont=>
     obtain⟨σ3,H3,I3,n3⟩:=q3;obtain⟨m',hm,w3⟩:=hN σ3 H3 n3;exact⟨m',hm,σ3,H3,I3,w3⟩
   | brk=>exact q3
   | ret v=>exact q3
 | false=>
   rw[zN bb6];exact b30 ⟨σ1,H2,I2,q2⟩
end
structure It where
 go:Nat->Hp->Prop
 yld:Nat->Hp->V->Hp->Prop
 stop:Nat->Hp->Prop
abbrev kng(X:Cx)(pI:List (Addr×Obj))(H:Hp)(b:Addr):Prop:=
 H b=none/\b≠X.env.locals/\b ∉ X.fs/\(b∈X.ex\/X.s₀.heap.objs.size<=b)/\(∀ x c,X.env.cells.lookup x=some c->c≠b)/\∀p∈X.pn++pI,p.1≠b
def Inv.fpOk{X:Cx}{pI:List (Addr×Obj)}{σ:St}{H H':Hp}{s:ba7}{b:Addr}(I:Inv X pI σ H s)(hb:s.heap.objs.size<=b)(hn:H' b=none):kng X pI H' b:=by
 refine⟨hn,bv7 (bh8 I.lt hb),I.nofs hb,.inr (bi9 I.sz hb),fun x c e z=>?_,fun p hp z=>?_⟩
 .obtain⟨v,q⟩:=I.cell x c e;exact zA (bh8 q.lt (by rw[z];exact hb)) (bk7 _)
 .exact zA (bh8 (bd0 (I.pin p hp).1) (by rw[z];exact hb)) (bk7 _)
structure Turn(P:bb9)(w:be5)(K:ba2)(tg:Expr)(J:It)(fp:List Addr)(it:Addr)(tn:Nat->Heap->Prop):Prop where
 mem:it∈fp
 obj: ∀i h,tn i h->∀b∈fp,∃o,h.get? b=some o/\∀v,o.data≠ .cell v
 keep: ∀i h h',tn i h->(∀ b∈fp,∀o,h.get? b=some o->h'.get? b=some o)->tn i h'
 item: ∀(X:Cx),X.prog=P->X.w=w->X.K=K->X.calm=true->∀(i:Nat)(pI:List (Addr×Obj))(s:ba7)(σ:St)(H:Hp)(E:ba6->ba7->Prop),Inv X pI σ H s->(∀ b∈fp,kng X pI H b)->tn i s.heap->J.go i H->
  be1 (bf9 P w) X.A (pyNext (.ref it)) (fun r s1=>∃u,r=some u/\
   be1 (bf9 P w) X.A (letOwnedTupleGo tg (.ref it) u) (fun O s2=>∃x H',Inv X pI σ H' s2/\RelV x u/\J.yld i H x H'/\tn (i+1) s2.heap/\∀b∈fp,H' b=none) E s1) E s
 done: ∀(X:Cx),X.prog=P->X.w=w->X.K=K->X.calm=true->∀(i:Nat)(pI:List (Addr×Obj))(s:ba7)(σ:St)(H:Hp)(E:ba6->ba7->Prop),Inv X pI σ H s->(∀ b∈fp,kng X pI H b)->tn i s.heap->J.stop i H->
  be1 (bf9 P w) X.A (pyNext (.ref it)) (fun r s1=>r=none/\Inv X pI σ H s1) E s
 self: ∀(A:bg1)(i:Nat)(s:ba7)(Q:ba6->ba7->Prop)(E:ba6->ba7->Prop),tn i s.heap->Q (.ref it) s->be1 (bf9 P w) A (pyIter (.ref it)) Q E s
@[reducible]def TI:=St->Hp->(It->Hp->Prop)->Prop
abbrev PIE(X:Cx)(pI:List (Addr×Obj))(σ:St)(tg:Expr)(R:It->Hp->Prop)(itv:ba6)(s2:ba7):Prop:=
 ∃(it:Addr)(fp:List Addr)(tn:Nat->Heap->Prop)(J:It)(H':Hp),itv= .ref it/\Inv X pI σ H' s2/\Turn X.prog X.w X.K tg J fp it tn/\tn 0 s2.heap/\(∀ b∈fp,kng X pI H' b)/\R J H'
abbrev PI(X:Cx)(tg iter:Expr)(wi:TI):Prop:=
 ∀(pI:List (Addr×Obj))(s:ba7)(σ:St)(H:Hp)(R:It->Hp->Prop),Inv X pI σ H s->wi σ H R->
  be1 (bf9 X.prog X.w) X.A (eval iter X.env) (fun v s1=>be1 (bf9 X.prog X.w) X.A (pyIter v) (PIE X pI σ tg R) X.xe s1) X.xe s
def kxo{M:Model}{A:bg1}{E:ba6->ba7->Prop}{s:ba7}{tg:Expr}{it:Addr}{u:ba6}{o:Obj}{n:String}{vs:Array ba6}{Q:Unit->ba7->Prop}(ho:s.heap.get? it=some o)(hc:o.cls= .type n)(hd:o.data= .fields vs)
 (hn:["enumerate","zip","dict_itemiterator","dict_reverseitemiterator","odict_iterator","itertools.zip_longest","itertools.pairwise"].contains n=false)(hQ:Q () s):be1 M A (letOwnedTupleGo tg (.ref it) u) Q E s:=by
 unfold letOwnedTupleGo;cases tg <;> first
  | exact ba9 hQ
  | (cases u <;> first
      | exact ba9 hQ
      | (refine ba0 (wpAny_load ho ?_)
         rw[hc,hd];show be1 M A (if(["enumerate","zip","dict_itemiterator","dict_reverseitemiterator","odict_iterator","itertools.zip_longest","itertools.pairwise"].contains n&&vs[0]? ==some (rawInt _))=true then _ else _) Q E s;rw[zN (by intro h;rw[hn,cb7]at h;cases h)];exact ba9 hQ))
abbrev Itl(K:ba2)(a:Addr):It:=
 ⟨fun i H=>∃xs x,SqL K H a xs/\xs[i]?=some x,fun i H x H'=>H'=H/\∀xs,SqL K H a xs->xs[i]?=some x,fun i H=>∃xs,SqL K H a xs/\xs.length<=i⟩
abbrev Itt(K:ba2)(a:Addr):It:=
 ⟨fun i H=>∃xs x,SqT K H a xs/\xs[i]?=some x,fun i H x H'=>H'=H/\∀xs,SqT K H a xs->xs[i]?=some x,fun i H=>∃xs,SqT K H a xs/\xs.length<=i⟩
abbrev Itr(lo:Int)(n:Nat):It:=⟨fun i O=>i<n,fun i H x H'=>H'=H/\x= .int (lo+i),fun i O=>n<=i⟩
def kom{P:bb9}{w:be5}{K:ba2}{tg:Expr}(a it:Addr):Turn P w K tg (Itl K a) [it] it (fun i h=>h.IsListIter it a i) where
 mem:=by simp
 obj:=fun i h st b hb=>by
  have e:b=it:=by simpa using hb
  subst e;obtain⟨o,e,c,d⟩:=st;exact⟨o,e,fun v z=>by rw[d]at z;cases z⟩
 keep:=fun i h h' st k=>st.at fun o e=>k it (by simp) o e
 item:=by
  intro X hP hw hK hc i pI s σ H E I hf st hg;subst hP hw hK;obtain⟨xs,x,hq,hx⟩:=hg;obtain⟨its,rv,p,hz⟩:=I.list hq;obtain⟨u,hu,ru⟩:=rv.get hx;obtain⟨f0,f1,f2,f3,f4,f5⟩:=hf it (by simp);refine wpAny_pyNext_list_item st p.isList (x:=u) (by simpa using hu) fun h' st' sb=>?_;have I1:Inv X pI σ H {s with heap:=h'}:=I.turned (t':=s.toks) (fun b o hb e=>(sb.2 b hb).trans e) f0 f1 f3 f4 f5;obtain⟨o,e,c,d⟩:=id st';exact⟨u,rfl,kxo (s:={s with heap:=h'}) e c d (by decide) ⟨x,H,I1,ru,⟨rfl,fun ys hy=>by rw[I.list_inj hy hq];exact hx⟩,st',fun b hb=>(hf b hb).1⟩⟩
 done:=by
  intro X hP hw hK hc i pI s σ H E I hf st hg;subst hP hw hK;obtain⟨xs,hq,hx⟩:=hg;obtain⟨its,rv,p,hz⟩:=I.list hq;obtain⟨f0,f1,f2,f3,f4,f5⟩:=hf it (by simp);have hl:=rv.length;exact wpAny_pyNext_list_end (I.ok.hd hc) st p.isList (by simp;lia) fun h' eb=>⟨rfl,I.turned (t':=s.toks) (fun b o hb e=>eb b o hb e) f0 f1 f3 f4 f5⟩
 self:=fun O O O O O st h=>wpAny_pyIter_listiter st h
def knh{P:bb9}{w:be5}{K:ba2}{tg:Expr}(a it:Addr):Turn P w K tg (Itt K a) [it] it (fun i h=>h.IsTupleIter it a i) where
 mem:=by simp
 obj:=fun i h st b hb=>by
  have e:b=it:=by simpa using hb
  subst e;obtain⟨o,e,c,d⟩:=st;exact⟨o,e,fun v z=>by rw[d]at z;cases z⟩
 keep:=fun i h h' st k=>st.at fun o e=>k it (by simp) o e
 item:=by
  intro X hP hw hK hc i pI s σ H E I hf st hg;subst hP hw hK;obtain⟨xs,x,hq,hx⟩:=hg;obtain⟨its,rv,p,hz⟩:=I.tuple hq;obtain⟨u,hu,ru⟩:=rv.get hx;obtain⟨f0,f1,f2,f3,f4,f5⟩:=hf it (by simp);refine wpAny_pyNext_tuple_item st (show s.heap.IsTuple a its.toArray from p) (x:=u) (by simpa using hu) fun h' st' sb=>?_;have I1:Inv X pI σ H {s with heap:=h'}:=I.turned (t':=s.toks) (fun b o hb e=>(sb.2 b hb).trans e) f0 f1 f3 f4 f5;obtain⟨o,e,c,d⟩:=id st';exact⟨u,rfl,kxo (s:={s with heap:=h'}) e c d (by decide) ⟨x,H,I1,ru,⟨rfl,fun ys hy=>by rw[I.tuple_inj hy hq];exact hx⟩,st',fun b hb=>(hf b hb).1⟩⟩
 done:=by
  intro X hP hw hK hc i pI s σ H E I hf st hg;subst hP hw hK;obtain⟨xs,hq,hx⟩:=hg;obtain⟨its,rv,p,hz⟩:=I.tuple hq;obtain⟨f0,f1,f2,f3,f4,f5⟩:=hf it (by simp);have hl:=rv.length;exact wpAny_pyNext_tuple_end (I.ok.hd hc) st (show s.heap.IsTuple a its.toArray from p) (by simp;lia) fun h' eb=>⟨rfl,I.turned (t':=s.toks) (fun b o hb e=>eb b o hb e) f0 f1 f3 f4 f5⟩
 self:=fun O O O O O st h=>wpAny_pyIter_tupleiter st h
def kni{P:bb9}{w:be5}{K:ba2}{tg:Expr}(it:Addr)(lo:Int)(n:Nat):Turn P w K tg (Itr lo n) [it] it (fun i h=>IsRangeIter h it (lo+(i:Nat)*1) ((n:Int)-(i:Nat)) 1) where
 mem:=by simp
 obj:=fun i h st b hb=>by
  have e:b=it:=by simpa using hb
  subst e;exact⟨_,st,fun v z=>by
   have z':Data.fields _=Data.cell v:=z;cases z'⟩
 keep:=fun i h h' st k=>k it (by simp) _ st
 item:=by
  intro X hP hw hK hc i pI s σ H E I hf st hg;subst hP hw hK;obtain⟨f0,f1,f2,f3,f4,f5⟩:=hf it (by simp);have W:=Walks.range (prog:=X.prog) (w:=X.w) (I.ok.hd hc) it lo 1 n;refine W.item i s _ _ hg st fun v h' tk hv st' kk=>?_;obtain⟨t,rfl⟩:=hv;have I1:Inv X pI σ H {s with heap:=h',toks:=tk}:=I.turned (fun b o hb e=>kk b o (by simpa using hb) e) f0 f1 f3 f4 f5;refine⟨_,rfl,kxo (s:={s with heap:=h',toks:=tk}) (n:="range_iterator") st' rfl rfl (by decide) ⟨.int (lo+i),H,I1,⟨t,?_⟩,⟨rfl,rfl⟩,st',fun b hb=>(hf b hb).1⟩⟩;rw[cj0]
 done:=by
  intro X hP hw hK hc i pI s σ H E I hf st hg;subst hP hw hK;obtain⟨f0,f1,f2,f3,f4,f5⟩:=hf it (by simp);exact wpAny_pyNext_range_end (I.ok.hd hc) st (by have:n<=i:=hg;lia) fun h' eb=>⟨rfl,I.turned (t':=s.toks) (fun b o hb e=>eb b o hb e) f0 f1 f3 f4 f5⟩
 self:=fun O O O O O st h=>wpAny_pyIter_rangeiter st h
section
variable{X:Cx}{tg:Expr}
def klk{pI:List (Addr×Obj)}{σ:St}{H:Hp}{s:ba7}{R:It->Hp->Prop}{E:ba6->ba7->Prop}{lo hi:Int}{t u v:Tok}{tk:Nat}(I:Inv X pI σ H s)(h1: -(2 ^ 62)<=lo)(h2:lo<2 ^ 62)(h3: -(2 ^ 62)<=hi)(h4:hi<2 ^ 62)
 (q:R (Itr lo (hi-lo).toNat) H):be1 (bf9 X.prog X.w) X.A (pyIter (.ref s.heap.objs.size)) (PIE X pI σ tg R) E {s with heap:=s.heap.push {cls:= .type "range",data:= .fields #[.int lo t,.int hi u,.int 1 v]},toks:=tk}:=by
 refine wpAny_pyIter_range (IsRange.new ..) (small_one h1 h2 h3 h4) ?_;have I1:Inv X pI σ H {s with heap:=s.heap.push {cls:= .type "range",data:= .fields #[.int lo t,.int hi u,.int 1 v]},toks:=tk}:=I.kept fun b o e=>ba5 _ e;refine⟨(s.heap.push {cls:= .type "range",data:= .fields #[.int lo t,.int hi u,.int 1 v]}).objs.size,[(s.heap.push {cls:= .type "range",data:= .fields #[.int lo t,.int hi u,.int 1 v]}).objs.size],_,_,H,rfl,
  I1.kept (t':=tk) fun b o e=>ba5 _ e,kni _ lo (hi-lo).toNat,?_,fun b hb=>?_,q⟩
 .have e1:lo+((0:Nat):Int)*1=lo:=by simp
  have e2:(((hi-lo).toNat:Nat):Int)-((0:Nat):Int)=bm5 lo hi 1:=by rw[cc9];split <;> lia
  show IsRangeIter _ _ (lo+((0:Nat):Int)*1) ((((hi-lo).toNat:Nat):Int)-((0:Nat):Int)) 1;rw[e1,e2];exact bc7 _ rfl
 .have e:b=(s.heap.push {cls:= .type "range",data:= .fields #[.int lo t,.int hi u,.int 1 v]}).objs.size:=by simpa using hb
  subst e;exact I1.fpOk (bb7 _) (I1.hok.fresh (bb7 _))
abbrev iRng1(ta:TA):TI:=fun σ H R=>ta σ H fun vs H1=>∃j:Int,vs=[.int j]/\ -(2 ^ 62)<=j/\j<2 ^ 62/\R (Itr 0 j.toNat) H1
abbrev iRng2(ta:TA):TI:=fun σ H R=>ta σ H fun vs H1=>∃i j:Int,vs=[.int i,.int j]/\(-(2 ^ 62)<=i/\i<2 ^ 62/\ -(2 ^ 62)<=j/\j<2 ^ 62)/\R (Itr i (j-i).toNat) H1
def kcd{a:Expr}{ta:TA}{p pos:Pos}(hg:Gl X "range")(hm:X.mg "range"=none)(ha:PA X [a] ta)(hs:autoParam (bc5 [a] X.env=[(false,eval a X.env)]) Z4):PI X tg (.Call (.Name "range" p) [a] [] pos) (iRng1 ta):=by
 intro pI s σ H R I h;refine Call_ (kdi I hg hm cl4 (bh4 (thn (ha pos pI s σ H _ I h) fun us s1 ⟨vs,H1,I1,r1,q1⟩=>?_) hs rfl));obtain⟨j,e,q1,q2,q⟩:=q1;subst e;cases r1 with
 | cons r rr=>
   cases rr;obtain⟨t,rfl⟩:=r;exact call_range_1 (klk I1 (by lia) (by lia) q1 q2 (by simpa using q))
def kon{a b:Expr}{ta:TA}{p pos:Pos}(hg:Gl X "range")(hm:X.mg "range"=none)(ha:PA X [a,b] ta)(hs:autoParam (bc5 [a,b] X.env=[(false,eval a X.env),(false,eval b X.env)]) Z4)(hs2:autoParam (bc5 [b] X.env=[(false,eval b X.env)]) Z4):
 PI X tg (.Call (.Name "range" p) [a,b] [] pos) (iRng2 ta):=by
 intro pI s σ H R I h;refine Call_ (kdi I hg hm cl4 (bh4 (thn (ha pos pI s σ H _ I h) fun us s1 ⟨vs,H1,I1,r1,q1⟩=>?_) (by rw[hs,hs2]) (by rw[hs2];rfl)));obtain⟨i,j,e,⟨q1,q2,q3,q4⟩,q⟩:=q1;subst e;cases r1 with
 | cons r rr=>
   cases rr with
   | cons r' rr=>
     cases rr;obtain⟨t,rfl⟩:=r;obtain⟨t',rfl⟩:=r';exact call_range_2 (klk I1 q1 q2 q3 q4 q)
abbrev tFor(wi:TI)(g:TG)(tb:TS):TS:=fun D σ H=>wi σ H fun J H1=>∃W:Nat->Nat->St->Hp->Prop,(∃ m,W 0 m σ H1)/\∀i m σ H,W i m σ H->
 (J.stop i H/\D.nx σ H)\/(J.go i H/\∃N:St->Hp->Prop,(∀ σ' H',N σ' H'->∃m',m'<m/\W (i+1) m' σ' H')/\∀x H',J.yld i H x H'->g x σ H' fun σ2 H2=>tb {D with nx:=N,ct:=N,bk:=D.nx} σ2 H2)
abbrev kjb(fp:List Addr)(h:Heap):List (Addr×Obj):=fp.filterMap fun b=>(h.get? b).map fun o=>(b,o)
def kdz{fp:List Addr}{h:Heap}{b:Addr}{o:Obj}(hb:b∈fp)(e:h.get? b=some o):(b,o)∈kjb fp h:=bv4.mpr ⟨b,hb,by rw[e];rfl⟩
def koo{fp:List Addr}{h:Heap}{p:Addr×Obj}(hp:p∈kjb fp h):p.1∈fp/\h.get? p.1=some p.2:=by
 obtain⟨b,hb,e⟩:=bv4.mp hp;cases q:h.get? b with
 | none=>rw[q]at e;cases e
 | some o=>
   rw[q]at e;have e':(b,o)=p:=bf4 e;subst e';exact⟨hb,q⟩
def Inv.pinned{pI:List (Addr×Obj)}{σ:St}{H:Hp}{s:ba7}{fp:List Addr}(I:Inv X pI σ H s)(hf: ∀b∈fp,kng X pI H b)(ho: ∀b∈fp,∃o,s.heap.get? b=some o/\∀v,o.data≠ .cell v):Inv X (pI++kjb fp s.heap) σ H s:=
 I.pins_of fun p hp=>(bh3.mp hp).elim (fun z=>I.pin p (bh7 _ z)) fun z=>by
  obtain⟨hb,e⟩:=koo z;obtain⟨f0,f1,f2,_⟩:=hf p.1 hb;obtain⟨o,e',d⟩:=ho p.1 hb;rw[e]at e';cases e';exact⟨e,f0,f1,f2,d⟩
def Inv.unpinned{pI pl:List (Addr×Obj)}{σ:St}{H:Hp}{s:ba7}(I:Inv X (pI++pl) σ H s):Inv X pI σ H s:=I.pins_of fun p hp=>I.pin p (bh7 _ (bp3 _ hp))
def kha{iter:Expr}{body:List Stmt}{wi:TI}{g:TG}{tb:TS}{pos:Pos}(hp:PassesOwn (bf9 X.prog X.w) X.A X.env X.xe)(hc:X.calm=true)(hi:PI X tg iter wi)(hg:PG X tg g)(hb:PSs X body tb)
 (hs:autoParam (∀ x,foldedSetIterable iter X.env x=pure x) Z3):PS X (.For tg iter body [] pos) (tFor wi g tb):=by
 intro pI s σ H D I h;refine wpAny_For (thn (hi pI s σ H _ I h) fun v s1 h1=>thn h1 fun itv s2 h2=>?_) hs;obtain⟨it,fp,tn,J,H2,e,I2,T,st2,f2,W,⟨m0,w0⟩,turn⟩:=h2;subst e;have stat: ∀{H':Hp},(∀ b∈fp,H' b=none)->∀b∈fp,kng X pI H' b:=fun hn b hb=>⟨hn b hb,(f2 b hb).2⟩
 refine codeAny_forLoop_any (fun n s'=>∃i σ' H',Inv X pI σ' H' s'/\tn i s'.heap/\(∀ b∈fp,H' b=none)/\W i n σ' H') ?_ m0 ⟨0,σ,H2,I2,st2,fun b hb=>(f2 b hb).1,w0⟩;rintro n s3⟨i,σ3,H3,I3,st3,fr3,w3⟩;rcases turn i n σ3 H3 w3 with⟨stop,qn⟩|⟨go,N,hN,step⟩
 .refine bt2 hp (thn (T.done X rfl rfl rfl hc i pI s3 σ3 H3 X.xe I3 (stat fr3) st3 stop) fun r s4 ⟨hr,I4⟩=>?_);subst hr;exact b30 ⟨σ3,H3,I4,qn⟩
 .refine bt2 hp (thn (T.item X rfl rfl rfl hc i pI s3 σ3 H3 X.xe I3 (stat fr3) st3 go) fun r s4 ⟨u,hr,h4⟩=>?_);subst hr;refine bt2 hp (thn h4 fun _ s5 ⟨x,H5,I5,r5,y5,st5,fr5⟩=>?_);have I5':=I5.pinned (stat fr5) (T.obj _ _ st5);refine bt2 hp (thn (hg _ s5 σ3 H5 x u _ I5' r5 (step x H5 y5)) fun _ s6 ⟨σ6,H6,I6,q6⟩=>?_);refine bt2 hp (thn (hb _ s6 σ6 H6 _ I6 q6) fun f s7 q7=>?_);have again: ∀{σ7:St}{H7:Hp},Inv X (pI++kjb fp s5.heap) σ7 H7 s7->N σ7 H7->∃m,m<n/\∃i σ' H',Inv X pI σ' H' s7/\tn i s7.heap/\(∀ b∈fp,H' b=none)/\W i m σ' H':=fun{σ7 H7} I7 n7=>by
   obtain⟨m',hm,w7⟩:=hN σ7 H7 n7;refine⟨m',hm,i+1,σ7,H7,I7.unpinned,T.keep _ _ _ st5 fun b hb o e=>(I7.pin (b,o) (bh7 _ (bh7 _ (kdz hb e)))).1,fun b hb=>?_,w7⟩;obtain⟨o,e,d⟩:=T.obj _ _ st5 b hb;exact(I7.pin (b,o) (bh7 _ (bh7 _ (kdz hb e)))).2.1
  cases f with
  | next=>obtain⟨σ7,H7,I7,n7⟩:=q7;exact again I7 n7
  | cont=>obtain⟨σ7,H7,I7,n7⟩:=q7;exact again I7 n7
  | brk=>obtain⟨σ7,H7,I7,q7⟩:=q7;exact⟨σ7,H7,I7.unpinned,q7⟩
  | ret v=>obtain⟨x7,σ7,H7,I7,r7,q7⟩:=q7;exact⟨x7,σ7,H7,I7.unpinned,r7,q7⟩
end
def kop{lo:Int}{n:Nat}{g:TG}{tb:TS}{D:Ends}{σ:St}{H:Hp}(Pv:Nat->St->Hp->Prop)(h0:Pv 0 σ H)
 (hs: ∀i σ H,i<n->Pv i σ H->g (.int (lo+i)) σ H fun σ2 H2=>tb {D with nx:=Pv (i+1),ct:=Pv (i+1),bk:=D.nx} σ2 H2)(hd: ∀σ H,Pv n σ H->D.nx σ H):
 ∃W:Nat->Nat->St->Hp->Prop,(∃ m,W 0 m σ H)/\∀i m σ H,W i m σ H->
  ((Itr lo n).stop i H/\D.nx σ H)\/((Itr lo n).go i H/\∃N:St->Hp->Prop,(∀ σ' H',N σ' H'->∃m',m'<m/\W (i+1) m' σ' H')/\∀x H',(Itr lo n).yld i H x H'->g x σ H' fun σ2 H2=>tb {D with nx:=N,ct:=N,bk:=D.nx} σ2 H2):=by
 refine⟨fun i m σ H=>m=n-i/\i<=n/\Pv i σ H,⟨n,by simp,bf7 _,h0⟩,?_⟩;rintro i m σ H ⟨rfl,hi,p⟩;by_cases hlt:i<n
 .refine .inr ⟨hlt,Pv (i+1),fun σ' H' p'=>⟨n-(i+1),by lia,rfl,hlt,p'⟩,fun x H' y=>?_⟩;obtain⟨e,y⟩:=y;subst e y;exact hs i σ _ hlt p
 .have e:i=n:=by lia
  subst e;exact .inl ⟨bb7 _,hd σ H p⟩
@[reducible]def R2:=V->V->Hp->VK->Prop
abbrev OpR(X:Cx)(f:ba6->ba6->Sem ba6)(r:R2):Prop:=
 ∀(pI:List (Addr×Obj))(s:ba7)(σ:St)(H:Hp)(x y:V)(v u:ba6)(Q:VK),Inv X pI σ H s->RelV x v->RelV y u->r x y H Q->
  be1 (bf9 X.prog X.w) X.A (f v u) (EP X pI σ Q) X.xe s
abbrev UnR(X:Cx)(f:ba6->Sem ba6)(r:V->Hp->VK->Prop):Prop:=
 ∀(pI:List (Addr×Obj))(s:ba7)(σ:St)(H:Hp)(x:V)(v:ba6)(Q:VK),Inv X pI σ H s->RelV x v->r x H Q->
  be1 (bf9 X.prog X.w) X.A (f v) (EP X pI σ Q) X.xe s
abbrev kdk(X:Cx)(f:ba6)(r:List V->Hp->VK->Prop):Prop:=
 ∀(pI:List (Addr×Obj))(s:ba7)(σ:St)(H:Hp)(xs:List V)(us:List ba6)(Q:VK),Inv X pI σ H s->Vals xs us->r xs H Q->
  be1 (bf9 X.prog X.w) X.A (call f us) (EP X pI σ Q) X.xe s
abbrev tOp(r:R2)(ta tb:TE):TE:=fun σ H Q=>ta σ H fun x H1=>tb σ H1 fun y H2=>r x y H2 Q
abbrev tUn(r:V->Hp->VK->Prop)(ta:TE):TE:=fun σ H Q=>ta σ H fun x H1=>r x H1 Q
abbrev rI(C:Int->Int->Prop)(g:Int->Int->V):R2:=fun x y H Q=>∃i j,x= .int i/\y= .int j/\C i j/\Q (g i j) H
abbrev rI0(g:Int->Int->V):R2:=fun x y H Q=>∃i j,x= .int i/\y= .int j/\Q (g i j) H
abbrev rU(g:Int->V):V->Hp->VK->Prop:=fun x H Q=>∃i,x= .int i/\Q (g i) H
section
variable{X:Cx}{a b c:Expr}{ta tb tc:TE}{pos:Pos}
def binT(ha:PE X a ta)(hb:PE X b tb){pI:List (Addr×Obj)}{s:ba7}{σ:St}{H:Hp}{R:V->V->Hp->Prop}(I:Inv X pI σ H s)
 (h:ta σ H fun x H1=>tb σ H1 fun y H2=>R x y H2){Q:ba6->ba7->Prop}{f:ba6->ba6->Sem ba6}
 (hf: ∀v u s2 x y H2,Inv X pI σ H2 s2->RelV x v->RelV y u->R x y H2->be1 (bf9 X.prog X.w) X.A (f v u) Q X.xe s2):
 be1 (bf9 X.prog X.w) X.A (eval a X.env) (fun v s₁=>be1 (bf9 X.prog X.w) X.A (eval b X.env) (fun u s₂=>be1 (bf9 X.prog X.w) X.A (f v u) Q X.xe s₂) X.xe s₁) X.xe s:=by
 refine thn (ha pI s σ H _ I h) fun v s1 ⟨x,H1,I1,r1,q1⟩=>?_;refine thn (hb pI s1 σ H1 _ I1 q1) fun u s2 ⟨y,H2,I2,r2,q2⟩=>?_;exact hf v u s2 x y H2 I2 r1 r2 q2
def kxp{op:Operator}{r:R2}(ho:OpR X (binaryOp op) r)(ha:PE X a ta)(hb:PE X b tb):PE X (.BinOp a op b pos) (tOp r ta tb):=by
 intro pI s σ H Q I h;exact wpAny_BinOp (binT ha hb I h fun v u s2 x y H2 I2 rx ry q=>ho pI s2 σ H2 x y v u Q I2 rx ry q)
def pe_un{op:UnaryOp}{r:V->Hp->VK->Prop}(ho:UnR X (unaryOp op) r)(ha:PE X a ta):PE X (.UnaryOp op a pos) (tUn r ta):=by
 intro pI s σ H Q I h;exact UnaryOp_ (thn (ha pI s σ H _ I h) fun v s1 ⟨x,H1,I1,r1,q1⟩=>ho pI s1 σ H1 x v Q I1 r1 q1)
def opI{f:ba6->ba6->Sem ba6}{C:Int->Int->Prop}{g:Int->Int->Int}
 (rule: ∀(i j:Int)(t u:Tok)(s:ba7)(Q:ba6->ba7->Prop)(E:ba6->ba7->Prop),C i j->Q (.int (g i j) s.toks) {s with toks:=s.toks+1}->be1 (bf9 X.prog X.w) X.A (f (.int i t) (.int j u)) Q E s):
 OpR X f (rI C fun i j=> .int (g i j)):=by
 intro pI s σ H x y v u Q I rx ry h;obtain⟨i,j,rfl,rfl,hc,q⟩:=h;obtain⟨t,rfl⟩:=rx;obtain⟨t',rfl⟩:=ry;exact rule i j t t' s _ _ hc ⟨.int (g i j),H,I.tok _,⟨_,rfl⟩,q⟩
def opI0{f:ba6->ba6->Sem ba6}{g:Int->Int->Int}
 (rule: ∀(i j:Int)(t u:Tok)(s:ba7)(Q:ba6->ba7->Prop)(E:ba6->ba7->Prop),Q (.int (g i j) s.toks) {s with toks:=s.toks+1}->be1 (bf9 X.prog X.w) X.A (f (.int i t) (.int j u)) Q E s):
 OpR X f (rI0 fun i j=> .int (g i j)):=by
 intro pI s σ H x y v u Q I rx ry h;obtain⟨i,j,rfl,rfl,q⟩:=h;obtain⟨t,rfl⟩:=rx;obtain⟨t',rfl⟩:=ry;exact rule i j t t' s _ _ ⟨.int (g i j),H,I.tok _,⟨_,rfl⟩,q⟩
def opB0{f:ba6->ba6->Sem ba6}{g:Int->Int->Bool}
 (rule: ∀(i j:Int)(t u:Tok)(s:ba7)(Q:ba6->ba7->Prop)(E:ba6->ba7->Prop),Q (.bool (g i j)) s->be1 (bf9 X.prog X.w) X.A (f (.int i t) (.int j u)) Q E s):
 OpR X f (rI0 fun i j=> .bl (g i j)):=by
 intro pI s σ H x y v u Q I rx ry h;obtain⟨i,j,rfl,rfl,q⟩:=h;obtain⟨t,rfl⟩:=rx;obtain⟨t',rfl⟩:=ry;exact rule i j t t' s _ _ ⟨.bl (g i j),H,I,rfl,q⟩
abbrev k0y(i j:Int):Prop:=0<j/\j<1073741824
abbrev CPow(i j:Int):Prop:=0<=j/\j<=1000000/\i.natAbs<2 ^ 64
abbrev CMul(i j:Int):Prop:=(-(2 ^ 64)<i/\i<2 ^ 64)\/(-(2 ^ 64)<j/\j<2 ^ 64)
def CMul.ok{i j:Int}(h:CMul i j):IntMulOk i j:=by
 rcases h with⟨h1,h2⟩|⟨h1,h2⟩
 .exact .of_left (intBits_le_64 h1 h2)
 .exact .of_right (intBits_le_64 h1 h2)
def k1p:OpR X (binaryOp .Add) (rI0 fun i j=> .int (i+j)):=opI0 fun O O O O O O O q=>add_int q
def k1q:OpR X (binaryOp .Sub) (rI0 fun i j=> .int (i-j)):=opI0 fun O O O O O O O q=>sub_int q
def k1r:OpR X (binaryOp .Mult) (rI CMul fun i j=> .int (i*j)):=opI fun O O O O O O O hc q=>mul_int q hc.ok
def kxq:OpR X (binaryOp .FloorDiv) (rI k0y fun i j=> .int (i/j)):=opI fun i j O O O O O hc q=>by
 have h1:(0:Int)<j:=hc.1;have h2:j<1073741824:=hc.2;exact floordiv_int (by lia) (by rw[Int.fdiv_eq_ediv_of_nonneg i (by lia)];exact q) (.inl (PyProof.noPylong_small (by lia)))
def k1s:OpR X (binaryOp .Mod) (rI (fun O j=>0<j) fun i j=> .int (i % j)):=opI fun i j O O O O O hc q=>by
 have h1:(0:Int)<j:=hc;exact mod_int' (by lia) (by rw[Int.fmod_eq_emod_of_nonneg i (by lia)];exact q)
def k1t:OpR X (binaryOp .Pow) (rI CPow fun i j=> .int (i ^ j.toNat)):=opI fun O O O O O O O hc q=>pow_int_small hc.1 hc.2.1 hc.2.2 q
def unI{f:ba6->Sem ba6}{g:Int->Int}
 (rule: ∀(i:Int)(t:Tok)(s:ba7)(Q:ba6->ba7->Prop)(E:ba6->ba7->Prop),Q (.int (g i) s.toks) {s with toks:=s.toks+1}->be1 (bf9 X.prog X.w) X.A (f (.int i t)) Q E s):
 UnR X f (rU fun i=> .int (g i)):=by
 intro pI s σ H x v Q I rx h;obtain⟨i,rfl,q⟩:=h;obtain⟨t,rfl⟩:=rx;exact rule i t s _ _ ⟨.int (g i),H,I.tok _,⟨_,rfl⟩,q⟩
def k1u:UnR X (unaryOp .USub) (rU fun i=> .int (-i)):=unI fun O O O O O q=>neg_int q
end
abbrev scal:V->V->Bool
 | .non,.non=>true| .non,.int _=>true| .int _,.non=>true| .non,.bl _=>true| .bl _,.non=>true| .non,.str _=>true| .str _,.non=>true
 | .int _,.int _=>true| .bl _,.bl _=>true| .str _,.str _=>true| .byt _,.byt _=>true
 | .int _,.str _=>true| .str _,.int _=>true| .bl _,.str _=>true| .str _,.bl _=>true
 | _,_=>false
abbrev rNe:R2:=fun x y H Q=>scal x y=true/\Q (.bl (!decide (x=y))) H
def kxr{i j:Int}:decide (V.int i=V.int j)=(i==j):=by
 rw[bh5];simp
def k1v{i j:Bool}:decide (V.bl i=V.bl j)=(i==j):=by
 rw[bh5];simp
def kxs{i j:Str}:decide (V.str i=V.str j)=(i==j):=by
 rw[bh5];simp
def kxt{i j:Array UInt8}:decide (V.byt i=V.byt j)=(i.toList==j.toList):=by
 rw[bh5];cases i;cases j;simp
section
variable{X:Cx}{a b c:Expr}{ta tb tc:TE}{pos:Pos}
def kce{pI:List (Addr×Obj)}{σ:St}{H:Hp}{s:ba7}{Q:VK}{k k':Bool}(I:Inv X pI σ H s)(q:Q (.bl k) H)(e:k=k'):EP X pI σ Q (.bool k') s:=by
 subst e;exact⟨.bl k,H,I,rfl,q⟩
def op_ne:OpR X (bh0 .NotEq) rNe:=by
 intro pI s σ H x y v u Q I rx ry h;obtain⟨hs,q⟩:=h;cases x with
 | non=>
   cases rx;cases y with
   | non=>cases ry;exact PySem.EqNone.ne_none_none (kce I q (by simp))
   | bl j=>cases ry;exact PySem.EqNone.ne_none_bool (kce I q (by simp))
   | int j=>obtain⟨t',rfl⟩:=ry;exact PySem.EqNone.ne_none_int (kce I q (by simp))
   | str j=>obtain⟨t',rfl⟩:=ry;exact PySem.EqNone.ne_none_str (kce I q (by simp))
   | _=>exact zA (show false=true from hs) bb6
 | bl i=>
   cases rx;cases y with
   | non=>cases ry;exact PySem.EqNone.ne_bool_none (kce I q (by simp))
   | bl j=>cases ry;exact ne_bool (kce I q (zC not k1v))
   | str j=>obtain⟨t',rfl⟩:=ry;exact PySem.EqMixed.ne_bool_str (kce I q (by simp))
   | _=>exact zA (show false=true from hs) bb6
 | int i=>
   obtain⟨t,rfl⟩:=rx;cases y with
   | non=>cases ry;exact PySem.EqNone.ne_int_none (kce I q (by simp))
   | int j=>obtain⟨t',rfl⟩:=ry;exact ne_int (kce I q (zC not kxr))
   | str j=>obtain⟨t',rfl⟩:=ry;exact PySem.EqMixed.ne_int_str (kce I q (by simp))
   | _=>exact zA (show false=true from hs) bb6
 | str i=>
   obtain⟨t,rfl⟩:=rx;cases y with
   | non=>cases ry;exact PySem.EqNone.ne_str_none (kce I q (by simp))
   | bl j=>cases ry;exact PySem.EqMixed.ne_str_bool (kce I q (by simp))
   | int j=>obtain⟨t',rfl⟩:=ry;exact PySem.EqMixed.ne_str_int (kce I q (by simp))
   | str j=>obtain⟨t',rfl⟩:=ry;exact ne_str (kce I q (zC not kxs))
   | _=>exact zA (show false=true from hs) bb6
 | byt i=>
   obtain⟨t,rfl⟩:=rx;cases y with
   | byt j=>obtain⟨t',rfl⟩:=ry;exact PySem.W.ne_bytes (kce I q (zC not kxt))
   | _=>exact zA (show false=true from hs) bb6
 | _=>cases y <;> exact zA (show false=true from hs) bb6
def op_lt:OpR X (bh0 .Lt) (rI0 fun i j=> .bl (decide (i<j))):=opB0 fun O O O O O O O q=>lt_int q
def op_le:OpR X (bh0 .LtE) (rI0 fun i j=> .bl (decide (i<=j))):=opB0 fun O O O O O O O q=>le_int q
def op_gt:OpR X (bh0 .Gt) (rI0 fun i j=> .bl (decide (j<i))):=opB0 fun O O O O O O O q=>gt_int q
def k1w:OpR X (bh0 .Is) (fun x y H Q=>y= .non/\Q (.bl (decide (x= .non))) H):=by
 intro pI s σ H x y v u Q I rx ry h;obtain⟨rfl,q⟩:=h;cases ry;refine is_none_gen (kce I q ?_);cases x <;> first
  | (cases rx;rfl)
  | (obtain⟨t,rfl⟩:=rx;rfl)
def kxu:OpR X (bh0 .IsNot) (fun x y H Q=>y= .non/\Q (.bl (!decide (x= .non))) H):=by
 intro pI s σ H x y v u Q I rx ry h;obtain⟨rfl,q⟩:=h;cases ry;refine isnot_none_gen (kce I q ?_);cases x <;> first
  | (cases rx;rfl)
  | (obtain⟨t,rfl⟩:=rx;rfl)
def kvz(b:Expr){op:CmpOp}(h:autoParam (op≠ .In) Z2)(h2:autoParam (op≠ .NotIn) Z2):behindInMarks op b=false:=by
 have e1:(op==CmpOp.In)=false:=by cases op <;> first|rfl|exact zA rfl h
 have e2:(op==CmpOp.NotIn)=false:=by cases op <;> first|rfl|exact zA rfl h2
 cases b <;> simp[behindInMarks,e1,e2]
def kkj{op:CmpOp}{r:R2}(ho:OpR X (bh0 op) r)(ha:PE X a ta)(hb:PE X b tb)(hm:behindInMarks op b=false):PE X (.Compare a [op] [b] pos) (tOp r ta tb):=by
 intro pI s σ H Q I h;exact wpAny_Compare1 (binT ha hb I h fun v u s2 x y H2 I2 rx ry q=>ho pI s2 σ H2 x y v u Q I2 rx ry q) hm
abbrev k1x(t:TE):TT:=fun σ H Q=>t σ H fun x H'=>∃k,x= .bl k/\Q k H'
def kxv{op:CmpOp}{r:R2}(ho:OpR X (bh0 op) r)(ha:PE X a ta)(hb:PE X b tb)(hm:behindInMarks op b=false):PT X (.Compare a [op] [b] pos) (k1x (tOp r ta tb)):=by
 intro pI s σ H Q I h;refine wpAny_isTrue_Compare1 (thn (ha pI s σ H _ I h) fun v s1 ⟨x,H1,I1,r1,q1⟩=>thn (hb pI s1 σ H1 _ I1 q1) fun u s2 ⟨y,H2,I2,r2,q2⟩=>
  thn (ho pI s2 σ H2 x y v u _ I2 r1 r2 q2) fun c s3 ⟨z,H3,I3,r3,k,e,q3⟩=>?_) hm
 subst e;cases r3;exact bo0 ⟨H3,I3,q3⟩
abbrev koq(r r':R2)(ta tb tc:TE):TE:=fun σ H Q=>ta σ H fun x H1=>tb σ H1 fun y H2=>r x y H2 fun z H3=>∃k,z= .bl k/\
 (if k=true then tc σ H3 fun w' H4=>r' y w' H4 Q else Q (.bl false) H3)
def kte{op op':CmpOp}{r r':R2}(ho:OpR X (bh0 op) r)(ho':OpR X (bh0 op') r')(ha:PE X a ta)(hb:PE X b tb)(hc:PE X c tc)
 (hm:autoParam (lastMarks [op,op'] [b,c]=false) Z5):PE X (.Compare a [op,op'] [b,c] pos) (koq r r' ta tb tc):=by
 intro pI s σ H Q I h;refine Compare_chain (thn (ha pI s σ H _ I h) fun v s1 ⟨x,H1,I1,r1,q1⟩=>chain_link (thn (hb pI s1 σ H1 _ I1 q1) fun u s2 ⟨y,H2,I2,r2,q2⟩=>
  thn (ho pI s2 σ H2 x y v u _ I2 r1 r2 q2) fun d s3 ⟨z,H3,I3,r3,k,e,q3⟩=>?_)) hm
 subst e;cases r3;refine bo0 ?_;cases k with
 | false=>exact ite_ff ⟨.bl false,H3,I3,rfl,q3⟩
 | true=>exact ite_tt (chain_last (thn (hc pI s3 σ H3 _ I3 q3) fun w' s4 ⟨z',H4,I4,r4,q4⟩=>ho' pI s4 σ H4 y z' u w' Q I4 r2 r4 q4))
def ktf{op op':CmpOp}{r r':R2}(ho:OpR X (bh0 op) r)(ho':OpR X (bh0 op') r')(ha:PE X a ta)(hb:PE X b tb)(hc:PE X c tc)
 (hm:autoParam (lastMarks [op,op'] [b,c]=false) Z5):PT X (.Compare a [op,op'] [b,c] pos) (k1x (koq r r' ta tb tc)):=by
 intro pI s σ H Q I h;refine isTrue_chain (thn (ha pI s σ H _ I h) fun v s1 ⟨x,H1,I1,r1,q1⟩=>test_link (thn (hb pI s1 σ H1 _ I1 q1) fun u s2 ⟨y,H2,I2,r2,q2⟩=>
  thn (ho pI s2 σ H2 x y v u _ I2 r1 r2 q2) fun d s3 ⟨z,H3,I3,r3,k,e,q3⟩=>?_)) hm
 subst e;cases r3;refine bo0 ?_;cases k with
 | false=>
   obtain⟨k',e',q'⟩:=q3;cases e';exact ite_ff ⟨H3,I3,q'⟩
 | true=>
   refine ite_tt (test_last (thn (hc pI s3 σ H3 _ I3 q3) fun w' s4 ⟨z',H4,I4,r4,q4⟩=>thn (ho' pI s4 σ H4 y z' u w' _ I4 r2 r4 q4) fun d' s5 ⟨z2,H5,I5,r5,k2,e2,q5⟩=>?_));subst e2;cases r5;exact bo0 ⟨H5,I5,q5⟩
def kjc:(sizeLine:Nat)<2 ^ 63:=by rw[bu0];decide
def kef{x:V}{us:List ba6}(r:Vals [x] us): ∃u,us=[u]/\RelV x u:=by
 cases r with
 | cons r1 r2=>cases r2;exact⟨_,rfl,r1⟩
def k1y{x y:V}{us:List ba6}(r:Vals [x,y] us): ∃u w',us=[u,w']/\RelV x u/\RelV y w':=by
 cases r with
 | cons r1 r2=>
   cases r2 with
   | cons r3 r4=>cases r4;exact⟨_,_,rfl,r1,r3⟩
def kor:kdk X (.type "int") (fun xs H Q=>(∃ i,xs=[.int i]/\Q (.int i) H)\/∃k,xs=[.bl k]/\Q (.int (if k then 1 else 0)) H):=by
 intro pI s σ H xs us Q I r h;rcases h with⟨i,rfl,q⟩|⟨k,rfl,q⟩
 .obtain⟨u,rfl,t,rfl⟩:=kef r;exact call_int_int ⟨.int i,H,I,⟨_,rfl⟩,q⟩
 .obtain⟨u,rfl,r1⟩:=kef r;cases r1;exact call_int_bool ⟨.int (if k then 1 else 0),H,I.tok _,⟨_,rfl⟩,q⟩
end
structure ObjM(h:Heap)(x dx C:Addr)(mA:Str->Option ba6):Prop where
 obj:h.get? x=some (ca2 C dx)
 ns:h.Ns1 dx mA
 ne:dx≠x
set_option tactic.hygienic true in
def kos{h:Heap}{dx:Addr}{mA:Str->Option ba6}(n:h.Ns1 dx mA): ∃od,h.get? dx=some od/\∀name,cb8 name od=some (mA name):=by
 obtain⟨o,es,ep,ho,hd,hk,_,hm⟩:=n;refine⟨o,ho,fun name=>?_⟩;have e:=hm name;unfold nsFind findBy at e;rw[<- Array.find?_toList]at e;unfold cb8;rw[hd];dsimp only;split
 .rename_i y q;rw[q]at e;exact zC some e
 .rename_i q;rw[q]at e;have a:es.toList.any (·.refKey)=false:=by
   rw[List.any_eq_false];intro y hy;obtain⟨z,t,hkey⟩:=hk y (cb6.mp hy);simp[DictEntry.refKey,hkey]
  have a': ¬es.toList.any (·.refKey)=true:=by rw[a];exact bb6
  rw[zN a'];exact zC some e
def ObjM.look{h:Heap}{x dx C:Addr}{mA:Str->Option ba6}(I:ObjM h x dx C mA): ∃od,PySem.W.InstAt h x (ca2 C dx) C (some od)/\∀name,cb8 name od=some (mA name):=
 let⟨od,ho,hl⟩:=kos I.ns
 ⟨od,⟨I.obj,rfl,rfl,ho⟩,hl⟩
section
variable{prog:bb9}{w:be5}{A:bg1}{E:ba6->ba7->Prop}{s:ba7}{K:ba2}{x dx C f:Addr}{mA:Str->Option ba6}{name:Str}{v:ba6}
end
section
variable{P:bb9}{w:be5}{H H':Hp}{h h':Heap}{a C dx:Addr}{fs fs':List (Str×V)}
def kxw(hok:HOk P w H h)(e:H a=some (.ins C dx fs)): ∃mA,ObjM h a dx C mA/\(∀ f,RelO (fs.lookup f) (mA f))/\cn4 mA (fs.map (·.1))/\fs.length<=1000/\H dx=some (.own a):=by
 obtain⟨d,z,ne,ob,mA,n,r,q⟩:=(show ObjOk P w H h a (.ins C dx fs)from hok a _ e)
 exact⟨mA,⟨ob,n,ne⟩,r,q,z,d⟩
end
structure Cls(K:ba2)(C:Addr):Prop where
 pg:ch0 K C Str.empty=true
 hd:PySem.W.hasDictIn K C=true
 po:PySem.W.plainOver K C=true
 sa:ck7 K (.ref C) "__setattr__"=some (some (.builtin "object.__setattr__"))
def Cls.get{K:ba2}{C:Addr}(c:Cls K C)(f:Str):ch0 K C f=true:=c.pg
section
variable{X:Cx}{pI:List (Addr×Obj)}{σ:St}{H:Hp}{s:ba7}{a C dx:Addr}{fs:List (Str×V)}{f:Str}{v:V}{A:bg1}{E:ba6->ba7->Prop}
end
section
variable{X:Cx}{o e value:Expr}{f:Str}{pos pos' tpos:Pos}{ta tv:TE}
end
section
variable{X:Cx}{pI:List (Addr×Obj)}{σ:St}{H:Hp}{s:ba7}{A:bg1}{E:ba6->ba7->Prop}{Q:ba6->ba7->Prop}{c:ba6}{b:Bool}
inductive TyOf(K:ba2)(H:Hp):V->ba6->Prop where
 | non:TyOf K H .non (.type "NoneType")
 | bl (x:Bool):TyOf K H (.bl x) (.type "bool")
 | int (i:Int):TyOf K H (.int i) (.type "int")
 | str (x:Str):TyOf K H (.str x) (.type "str")
 | flt (x:UInt64):TyOf K H (.flt x) (.type "float")
 | lst {a:Addr} {xs:List V} (e:H a=some (.lst xs)):TyOf K H (.ref a) (.type "list")
 | frz {a:Addr} {o:Obj} {xs:List V} (e:H a=some (.frz o (.lst xs))):TyOf K H (.ref a) (.type "list")
 | tup {a:Addr} {xs:List V} (e:H a=some (.tup xs)):TyOf K H (.ref a) (.type "tuple")
 | dK {a:Addr} {kvs:List (Key×V)} (e:H a=some (.dK kvs)):TyOf K H (.ref a) (.type "dict")
 | dT {a:Addr} {kvs:List (List Key×V)} (e:H a=some (.dT kvs)):TyOf K H (.ref a) (.type "dict")
 | ins {a C dx:Addr} {fs:List (Str×V)} (e:H a=some (.ins C dx fs)) (cl:Cls K C) (ha:ck7 K (.ref C) "__class__"=some (some (.builtin "object.__class__")))
    (hn:PySem.W.specialIn K (.builtin "object.__class__") "__get__"=some (some (.builtin "getset_descriptor.__get__"))) (htk:PySem.W.takesIn K (.builtin "object.__class__")=some true)
    (hm:PySem.W.mroIn K C (.type "object")=some true):TyOf K H (.ref a) (.ref C)
def kot{x:V}{u t:ba6}(I:Inv X pI σ H s)(rx:RelV x u)(ty:TyOf X.K H x t)(e:bi1 X.K t c=some b)(h: ∀tk,Q (.bool b) {s with toks:=tk}):
 be1 (bf9 X.prog X.w) A (call (.builtin "isinstance") [u,c]) Q E s:=by
 cases ty with
 | non=>cases(show u=bd8 from rx);exact bn6 PySem.W.kitx_none I.kIn b68 e (fun z=>nomatch z) h
 | bl y=>cases(show u=cl2 y from rx);exact bn6 PySem.W.kitx_bool I.kIn b68 e (fun z=>nomatch z) h
 | int i=>obtain⟨t,q⟩:=(show ∃t,u=by2 i t from rx);cases q;exact bn6 PySem.W.kitx_int I.kIn b68 e (fun z=>nomatch z) h
 | str y=>obtain⟨t,q⟩:=(show ∃t,u=cn3 y t from rx);cases q;exact bn6 PySem.W.kitx_str I.kIn b68 e (fun z=>nomatch z) h
 | flt y=>obtain⟨t,q⟩:=(show ∃t,u=co9 y t from rx);cases q;exact bn6 PySem.W.kitx_float I.kIn b68 e (fun z=>nomatch z) h
 | @lst a xs ea=>
   cases(show u=bg0 a from rx);obtain⟨_,_,n,_,h1⟩:=(show ObjOk X.prog X.w H s.heap a (.lst xs)from I.hok a _ ea)
   exact bn6 ce6 I.kIn ⟨_,h1,rfl⟩ e (fun z=>nomatch z) h
 | @frz a ob xs ea=>
   cases(show u=bg0 a from rx);obtain⟨_,_,_,n,_,h1⟩:=(show ObjOk X.prog X.w H s.heap a (.frz ob (.lst xs))from I.hok a _ ea)
   exact bn6 ce6 I.kIn ⟨_,h1,rfl⟩ e (fun z=>nomatch z) h
 | @tup a xs ea=>
   cases(show u=bg0 a from rx);obtain⟨_,_,_,p⟩:=(show ObjOk X.prog X.w H s.heap a (.tup xs)from I.hok a _ ea)
   obtain⟨o,h1,h2,_⟩:=p;exact bn6 PySem.W.kitx_tuple I.kIn ⟨o,h1,h2⟩ e (fun z=>nomatch z) h
 | @dK a kvs ea=>
   cases(show u=bg0 a from rx);obtain⟨_,_,vs,_,p⟩:=(show ObjOk X.prog X.w H s.heap a (.dK kvs)from I.hok a _ ea)
   obtain⟨o,es,ep,h1,h2,_⟩:=p;exact bn6 ce7 I.kIn ⟨o,h1,h2.1⟩ e (fun z=>nomatch z) h
 | @dT a kvs ea=>
   cases(show u=bg0 a from rx);obtain⟨_,_,xs,_,o,es,ep,h1,h2,_⟩:=(show ObjOk X.prog X.w H s.heap a (.dT kvs)from I.hok a _ ea)
   exact bn6 ce7 I.kIn ⟨o,h1,h2.1⟩ e (fun z=>nomatch z) h
 | @ins a C dx fs ea cl ha hn htk hm=>
   cases(show u=bg0 a from rx);obtain⟨mA,O0,_⟩:=kxw I.hok ea;obtain⟨od,J,_⟩:=O0.look;exact bn6 (PySem.W.kitx_own (cl.get _) cl.hd ha hn htk hm) I.kIn J e (fun z=>nomatch z) h
end
structure Room(k:Nat)(A:bg1):Prop where
 hd:A.handled=none
 dp:A.depth+3*k+5<recursionLimit
 un:A.units+16*k+200<cLine
def Room.mono{j k:Nat}{A:bg1}(r:Room k A)(h:j<=k):Room j A:=⟨r.hd,by have:=r.dp;lia,by have:=r.un;lia⟩
def Room.deeper{k:Nat}{A:bg1}(r:Room (k+1) A)(env:Env):Room k (A.deeper env):=
 ⟨r.hd,by have:=r.dp;show A.depth+1+3*k+5<_;lia,by have:=r.un;show A.units+3+16*k+200<_;lia⟩
def Room.depth{k:Nat}{A:bg1}(r:Room k A):A.depth<recursionLimit:=by have:=r.dp;lia
abbrev tNil:TA:=fun O H Q=>Q [] H
abbrev tCons(ta:TE)(tr:TA):TA:=fun σ H Q=>ta σ H fun x H1=>tr σ H1 fun xs H2=>Q (x::xs) H2
section
variable{X:Cx}{e:Expr}{es:List Expr}{te:TE}{t:TA}{pos:Pos}
def ka2:PA X [] tNil:=fun O O O O H Q I h=>b69 ⟨[],H,I,.nil,h⟩
def kaq(ha:PE X e te)(hr:PA X es t)(hs:autoParam (bc5 (e::es) X.env=(false,eval e X.env)::bc5 es X.env) Z4):PA X (e::es) (tCons te t):=by
 intro pos pI s σ H Q I h;rw[hs];show be1 _ _ (spliced ((false,eval e X.env)::backTo pos (bc5 es X.env))) _ _ s;refine b47 (thn (ha pI s σ H _ I h) fun u s1 ⟨x,H1,I1,r1,q1⟩=>?_);exact thn (hr pos pI s1 σ H1 _ I1 q1) fun us s2 ⟨xs,H2,I2,r2,q2⟩=>⟨x::xs,H2,I2,.cons r1 r2,q2⟩
abbrev tTup(t:TA):TE:=fun σ H Q=>t σ H fun xs H1=>xs.length<=sizeLine/\∀p,H1 p=none->Q (.ref p) (upd H1 p (.tup xs))
abbrev tLst(t:TA):TE:=fun σ H Q=>t σ H fun xs H1=>xs.length<=sizeLine/\∀p,H1 p=none->Q (.ref p) (upd H1 p (.lst xs))
def klm{x1}(h:PA X es t):PE X (.Tuple es x1 pos) (tTup t):=by
 intro pI s σ H Q I hq;refine wpAny_Tuple_spliced (thn (h pos pI s σ H _ I hq) fun us s1 ⟨xs,H1,I1,r,z,q⟩=>⟨by rw[<- r.length];exact z,?_⟩);have hf:H1 s1.heap.objs.size=none:=I1.hok.fresh (bb7 _);refine⟨.ref s1.heap.objs.size,upd H1 s1.heap.objs.size (.tup xs),I1.laid (t':=s1.toks) (fun b u e=>ba5 _ e) (bb7 _) ?_,rfl,q _ hf⟩;exact⟨⟨⟨_,bc7 _ rfl,rfl⟩,z⟩,us,r,⟨_,bc7 _ rfl,rfl,_,rfl⟩⟩
def kv0(h:PA X es t):PE X (.List es pos) (tLst t):=by
 intro pI s σ H Q I hq;refine wpAny_List_spliced (thn (h pos pI s σ H _ I hq) fun us s1 ⟨xs,H1,I1,r,z,q⟩=>⟨by rw[<- r.length];exact z,?_⟩);have hf:H1 s1.heap.objs.size=none:=I1.hok.fresh (bb7 _);refine⟨.ref s1.heap.objs.size,upd H1 s1.heap.objs.size (.lst xs),I1.laid (t':=s1.toks) (fun b u e=>ba5 _ e) (bb7 _) ?_,rfl,q _ hf⟩;exact⟨z,us,0,r,bc7 _ rfl⟩
end
@[reducible]def Sp:=List V->Hp->VK->XK->Prop
@[reducible]def CXT:=List Env->Hp->ba7->XK->ba6->ba7->Prop
structure Env0(P:bb9)(w:be5)(K:ba2)(mg:Str->Option ba6)(base:Heap)(A:bg1)(outer:List Env)(s:ba7)(H:Hp):Prop where
 frames:A.frames=some outer
 mod:Mod K mg base
 bs: ∀b o,base.get? b=some o->s.heap.get? b=some o/\H b=none
 bsz:base.objs.size<=s.heap.objs.size
 funs:s.heap.FunFrames base outer
 frf: ∀b∈frs outer,H b=none
 hok:HOk P w H s.heap
 bare:AllBare s.gens
abbrev CE(outer:List Env)(P:bb9)(w:be5)(H:Hp)(s:ba7)(Q:VK)(u:ba6)(s':ba7):Prop:=
 ∃v H',s'.os=s.os/\AllBare s'.gens/\Un (frs outer) [] H H' s.heap s'.heap/\HOk P w H' s'.heap/\RelV v u/\Q v H'
abbrev CR(CX:CXT)(outer:List Env)(P:bb9)(w:be5)(H:Hp)(s:ba7)(Q:VK)(E:XK)(r:cg8)(s':ba7):Prop:=
 match r with
 | .ok (.ret u)=>CE outer P w H s Q u s'
 | .ok _=>False
 | .error e=>CX outer H s E e s'
structure FnOk(P:bb9)(w:be5)(K:ba2)(mg:Str->Option ba6)(base:Heap)(CX:CXT)(k:Nat)(f:Addr)(fd:be7)(ps:List Str)(sp:Sp):Prop where
 len: ∀vs H Q E,sp vs H Q E->vs.length=ps.length
 run: ∀(A:bg1)(outer:List Env)(s:ba7)(H:Hp)(args:Args)(us:List ba6)(vs:List V)(Q:VK)(E:XK),Room k A->Env0 P w K mg base A outer s H->BindsTo s fd args (ps.zip us)->Vals vs us->sp vs H Q E->
  codeAny (bf9 P w) A (.call (.ref f) args) (CR CX outer P w H s Q E) s
def FnOk.imp{P:bb9}{w:be5}{K:ba2}{mg:Str->Option ba6}{base:Heap}{CX:CXT}{k:Nat}{f:Addr}{fd:be7}{ps:List Str}{sp sp':Sp}(F:FnOk P w K mg base CX k f fd ps sp)
 (h: ∀vs H Q E,sp' vs H Q E->sp vs H Q E):FnOk P w K mg base CX k f fd ps sp':=
 ⟨fun vs H Q E q=>F.len vs H Q E (h _ _ _ _ q),fun A outer s H args us vs Q E hr he hb hv hs=>F.run A outer s H args us vs Q E hr he hb hv (h _ _ _ _ hs)⟩
section
variable{X:Cx}{pI:List (Addr×Obj)}{σ:St}{H:Hp}{s s':ba7}
def Inv.env0(I:Inv X pI σ H s):Env0 X.prog X.w X.K X.mg X.base X.A X.stack s H:=
 ⟨I.ok.frames,I.ok.mod,I.bs,bi9 I.ok.bsz I.sz,I.stack,I.stkFree,I.hok,I.bare⟩
def Inv.after{Q:VK}{u:ba6}(I:Inv X pI σ H s)(h:CE X.stack X.prog X.w H s Q u s'):EP X pI σ Q u s':=by
 obtain⟨v,H',os,bare,un,hok,r,q⟩:=h;obtain⟨hh,g,d,t,os'⟩:=s';obtain rfl:os'=s.os:=os;exact⟨v,H',I.call (h':=hh) (g':=g) (d':=d) (t':=t) (ch:=[]) un hok bare (fun b z=>zA z (by simp)),r,q⟩
end
abbrev Binds(K:ba2)(fd:be7)(ps:List Str)(ds:List ba6):Prop:=
 ∀(s:ba7)(us:List ba6),K.In s.heap->(us++ds).length=ps.length->BindsTo s fd ⟨us,[]⟩ (ps.zip (us++ds))
def Binds.all{K:ba2}{fd:be7}{ps:List Str}(h: ∀us:List ba6,us.length=ps.length->bindArgs fd ⟨us,[]⟩=pure (ps.zip us)):Binds K fd ps []:=fun s us O hl=>by
 rw[be9]at hl⊢;exact .of_eq (h us hl)
section
variable{X:Cx}{CX:CXT}{k:Nat}{f C:Addr}{fd:be7}{ps:List Str}{sp:Sp}{dvs:List V}{ds:List ba6}{E:XK}{x m:Str}{p pos apos:Pos}{e o:Expr}{es:List Expr}{ta:TE}{t:TA}
end
section
variable{X:Cx}{CX:CXT}{k:Nat}{f C:Addr}{fd:be7}{ps ks:List Str}{sp:Sp}{E:XK}{x m:Str}{p pos apos kpos:Pos}{e o:Expr}{es:List Expr}{kws:List Keyword}{te ta:TE}{t tk:TA}{nm:Option Str}
variable{g:List ba6->List ba6->List ba6}{gV:List V->List V->List V}
end
structure FnScope(N P:List Str)(sc:b05):Prop where
 kind:sc.kind= .function
 co:sc.isCoroutine=false
 gen:sc.isGenerator=false
 nd:N.Nodup
 pre:N.take P.length=P
 par: ∀x∈P,sc.names.lookup x=some .local\/sc.names.lookup x=some .cell
 nofree: ∀y∈sc.names,y.2≠ .free
def kjd{kindOf:Str->Option bq6}{x:Str}: ∀{binds:List (Str×ba6)}{m:Str->Option ba6},(∀ v,(x,v) ∉ binds)->bindL kindOf binds m x=m x
 | [],_,_=>rfl
 | (n,v)::r,m,h=>by
   unfold bindL;rw[kjd fun w hw=>h w (bc0 _ hw)];split
   .have:x≠n:=(by rintro rfl;exact h v bb8)
    simp[this]
   .rfl
def kje{kindOf:Str->Option bq6}{x:Str}: ∀{binds:List (Str×ba6)}{m:Str->Option ba6},(∀ v,(x,v) ∉ binds)->bindC kindOf binds m x=m x
 | [],_,_=>rfl
 | (n,v)::r,m,h=>by
   unfold bindC;rw[kje fun w hw=>h w (bc0 _ hw)];split
   .rfl
   .have:x≠n:=(by rintro rfl;exact h v bb8)
    simp[this]
def kjf{kindOf:Str->Option bq6}{x:Str}{v:ba6}: ∀{P:List Str}{vs:List ba6}{i:Nat}{m:Str->Option ba6},P.Nodup->P[i]?=some x->vs[i]?=some v->kindOf x=some .local->
 bindL kindOf (P.zip vs) m x=some v
 | [],_,_,_,_,h,_,_=>by simp at h
 | _::_,[],_,_,_,_,h,_=>by simp at h
 | p::P,w::vs,0,m,nd,h1,h2,hk=>by
   simp at h1 h2;subst h1;subst h2;show bindL kindOf ((p,w)::P.zip vs) m p=_;unfold bindL;rw[kjd fun v hv=>(bj4.mp nd).1 (ca5 hv).1,zP hk];simp
 | p::P,w::vs,i+1,m,nd,h1,h2,hk=>by
   show bindL kindOf ((p,w)::P.zip vs) m x=_;unfold bindL;exact kjf (i:=i) (bj4.mp nd).2 (by simpa using h1) (by simpa using h2) hk
def kjg{kindOf:Str->Option bq6}{x:Str}{v:ba6}: ∀{P:List Str}{vs:List ba6}{i:Nat}{m:Str->Option ba6},P.Nodup->P[i]?=some x->vs[i]?=some v->kindOf x≠some .local->
 bindC kindOf (P.zip vs) m x=some v
 | [],_,_,_,_,h,_,_=>by simp at h
 | _::_,[],_,_,_,_,h,_=>by simp at h
 | p::P,w::vs,0,m,nd,h1,h2,hk=>by
   simp at h1 h2;subst h1;subst h2;show bindC kindOf ((p,w)::P.zip vs) m p=_;unfold bindC;rw[kje fun v hv=>(bj4.mp nd).1 (ca5 hv).1,zN hk];simp
 | p::P,w::vs,i+1,m,nd,h1,h2,hk=>by
   show bindC kindOf ((p,w)::P.zip vs) m x=_;unfold bindC;exact kjg (i:=i) (bj4.mp nd).2 (by simpa using h1) (by simpa using h2) hk
abbrev start(N:List Str)(vs:List V):St:=vs.map some++bf6 (N.length-vs.length) none
abbrev kv1(CX:CXT)(P:bb9)(w:be5)(K:ba2)(mg:Str->Option ba6)(base:Heap)(N:List Str)(qual:Str)(scope:b05)(f:Addr)(cd:ba6)(A:bg1)(outer:List Env)(s:ba7)(H:Hp)(E:XK):Cx where
 prog:=P
 w:=w
 K:=K
 mg:=mg
 base:=base
 A:=A.deeper (envOfC qual scope s.heap.objs.size f cd)
 N:=N
 s₀:=s
 H₀:=H
 env:=envOfC qual scope s.heap.objs.size f cd
 outer:=outer
 stack:=envOfC qual scope s.heap.objs.size f cd::outer
 ex:=[]
 calm:=true
 fn:=fun O=>true
 pn:=[]
 xe:=fun e s'=>be1 (bf9 P w) (A.deeper (envOfC qual scope s.heap.objs.size f cd)) (leaving (envOfC qual scope s.heap.objs.size f cd) e) (fun O s''=>CX outer H s E e s'') (fun e' s''=>CX outer H s E e' s'') s'
def kln{sc:b05}{n:Nat}{x:Str}(h:sc.names.lookup x=some .cell): ∃c,(cellsFrom n sc.names []).lookup x=some c:=by
 have q:=bv0 sc.names n [] (.inl h);exact bo1.mp q
def kou{CX:CXT}{P:bb9}{w:be5}{K:ba2}{mg:Str->Option ba6}{base:Heap}{N ps:List Str}{qual:Str}{scope:b05}{f:Addr}{cd:ba6}{A:bg1}{outer:List Env}{s s1:ba7}{H:Hp}{E:XK}{us:List ba6}{vs:List V}
 (S:FnScope N ps scope)(hd:A.handled=none)(e0:Env0 P w K mg base A outer s H)(hl:vs.length=ps.length)(r:Vals vs us)
 (x:InCallC s s.heap.objs.size (bindL (envOfC qual scope s.heap.objs.size f cd).kindOf (ps.zip us) fun O=>none) (cellsFrom (s.heap.objs.size+1) scope.names []) (bindC (envOfC qual scope s.heap.objs.size f cd).kindOf (ps.zip us) fun O=>none) s1):
 Inv (kv1 CX P w K mg base N qual scope f cd A outer s H E) [] (start N vs) H s1:=by
 have hpl:ps.length<=N.length:=by have:=zC bu1 S.pre;rw[bn9]at this;lia
 obtain⟨h1,tk,rfl,hk⟩:=x.done;have noA: ∀b:Addr,b ∉ (kv1 CX P w K mg base N qual scope f cd A outer s H E).ex:=fun b z=>zA (show b∈([]:List Addr)from z) (by simp);refine⟨⟨e0.mod,S.kind,rfl,rfl,bb7 _,fun y z c h1 h2=>?_,fun y hy=>?_,fun y c O h=>?_,fun O=>hd,bg1.frames_deeper e0.frames,.inr ⟨rfl,rfl⟩,fun b z=>zA z (noA b),e0.bs,e0.bsz,fun b O O=>noA b,fun b z=>zA z (noA b),e0.funs,e0.frf⟩,
  rfl,e0.bare,Un.kept hk,⟨_,x.toInCall.ns,fun i y v h1 h2 h3=>?_⟩,fun y c h=>⟨_,x.cell y c h⟩,e0.hok.fresh (bb7 _),fun y c h=>?_,fun p hp=>zA (show p∈([]:List (Addr×Obj))from hp) (by simp),e0.hok.kept hk,?_⟩
 .exact name_of_addr x.apart (bk2 h1) (bk2 h2)
 .have hy:scope.names.lookup y=some .cell\/scope.names.lookup y=some .free:=hy;rcases hy with hy|hy
  .exact kln hy
  .exact zA rfl (S.nofree _ (bk2 hy))
 .exact ca3 (x.above y c (bk2 h))
 .have hi:i<vs.length:=by
   unfold start at h2;by_cases hi:i<vs.length
   .exact hi
   .rw[bc2 (by simpa using hi)]at h2;rw[by3]at h2;split at h2 <;> cases h2
  have ha:vs[i]?=some v:=by
   unfold start at h2;rw[bc9 (by simpa using hi),bc8]at h2;cases e:vs[i]? with
   | none=>rw[e]at h2;cases h2
   | some a=>rw[e]at h2;cases h2;rfl
  obtain⟨u,hu,rv⟩:=r.get ha;have hp:ps[i]?=some y:=by
   rw[<- S.pre,List.getElem?_take_of_lt (by lia)];exact h1
  have ndP:ps.Nodup:=by rw[<- S.pre];exact S.nd.sublist (b70 _ _)
  refine⟨u,rv,?_⟩;rcases S.par y (bd9 hp)with k|k
  .exact .inl ⟨k,kjf ndP hp hu k⟩
  .obtain⟨c,e⟩:=kln (n:=s.heap.objs.size+1) k;refine .inr ⟨.inl k,c,e,?_⟩;have q:=x.cell y c e;rw[kjg ndP hp hu (by show scope.names.lookup y≠_;rw[k];decide)]at q;exact q
 .exact e0.hok.fresh (ca3 (x.above y c (bk2 h)))
 .unfold start;show _=N.length;rw[bb4,ba3,b10];lia
def fn_of{CX:CXT}{P:bb9}{w:be5}{K:ba2}{mg:Str->Option ba6}{base:Heap}{k:Nat}{f:Addr}{name qual:Str}{params:Arguments}{body:List Stmt}{scope:b05}{dV kV doc pm cdv ct oc:ba6}{an od:Option Addr}
 {osl:Array (Option ba6)}{N ps:List Str}{sp:Sp}(lk:K.lookup f=some ⟨oc,od,.func (bn1 name qual params body scope dV kV doc pm an cdv ct),osl⟩)(hcd:b06 K cdv qual=true)(S:FnScope N ps scope)
 (len: ∀vs H Q E,sp vs H Q E->vs.length=ps.length)
 (hbody: ∀(A:bg1)(outer:List Env)(s:ba7)(H:Hp)(vs:List V)(Q:VK)(E:XK),Room k (A.deeper (envOfC qual scope s.heap.objs.size f cdv))->sp vs H Q E->
   ∃t,PSs (kv1 CX P w K mg base N qual scope f cdv A outer s H E) body t/\t {nx:=fun O H'=>Q .non H',rt:=Q} (start N vs) H):
 FnOk P w K mg base CX (k+1) f (bn1 name qual params body scope dV kV doc pm an cdv ct) ps sp:=by
 refine⟨len,fun A outer s H args us vs Q E hr e0 hb r hsp=>?_⟩;have hl:=len _ _ _ _ hsp;have KX:K.In s.heap:=e0.mod.kin.keeps fun b o e=>(e0.bs b o e).1;have lim:s.heap.NoLimit:=e0.mod.nolimit.keeps fun b o e=>(e0.bs b o e).1;have hkind: ∀y∈ps.zip us,scope.names.lookup y.1=some .local\/(scope.names.lookup y.1=some .cell/\((cellsFrom (s.heap.objs.size+1) scope.names []).lookup y.1).isSome=true):=fun⟨n,v⟩ hy=>by
  rcases S.par n (ca5 hy).1 with q|q
  .exact .inl q
  .exact .inr ⟨q,bv0 _ _ _ (.inl q)⟩
 refine codeAny_call_function hr.depth (KX _ _ lk) rfl S.co S.gen rfl (PySem.W.codeRec_of KX hcd) (hb _ _ _ _ ?_);refine wpAny_newFunctionEnv_cells S.kind hkind fun env he s1 x=>?_;subst he;refine⟨lim.keeps x.toInCall.keep,codeAny_func ?_⟩;obtain⟨t,ht,hq⟩:=hbody A outer s H vs Q E (hr.deeper _) hsp;have I:Inv (kv1 CX P w K mg base N qual scope f cdv A outer s H E) [] (start N vs) H s1:=kou S hr.hd e0 hl r x;refine bs2 (ht [] s1 (start N vs) H _ I hq) (fun fl s' hs=>?_) fun e s' hs=>hs;have fin: ∀{σ':St}{H':Hp}{v:V}{u:ba6},Inv (kv1 CX P w K mg base N qual scope f cdv A outer s H E) [] σ' H' s'->RelV v u->Q v H'->CE outer P w H s Q u s':=
  fun{σ' H' v u} J rv q=>⟨v,H',J.os,J.bare,J.base,J.hok,rv,q⟩
 cases fl with
 | ret u=>
   obtain⟨v,σ',H',J,rv,q⟩:=hs;exact fin J rv q
 | next=>
   obtain⟨σ',H',J,q⟩:=hs;exact fin (v:=V.non) (u:=bd8) J rfl q
 | brk=>
   obtain⟨_,_,_,q⟩:=hs;exact bu9 q
 | cont=>
   obtain⟨_,_,_,q⟩:=hs;exact bu9 q
section
variable{X:Cx}{x:Str}{p pos:Pos}{e:Expr}{es:List Expr}{t:TA}{id T:String}{r:List V->Hp->VK->Prop}
abbrev tCB(r:List V->Hp->VK->Prop)(t:TA):TE:=fun σ H Q=>t σ H fun vs H1=>r vs H1 Q
def kcw(hc:kdk X (.builtin id) r)(hg:Gl X x)(hm:X.mg x=none)(hv:bootBuiltins x=some (.builtin id))(ha:PA X (e::es) t)(hn:autoParam (x≠"__name__") Z2)(hdb:autoParam ((x==("__debug__":Str))=false) Z2)
 (he:autoParam (bc5 (e::es) X.env=(false,eval e X.env)::bc5 es X.env) Z4)(hpl:autoParam ((backTo pos (bc5 es X.env)).any (·.1)=false) Z4):PE X (.Call (.Name x p) (e::es) [] pos) (tCB r t):=by
 intro pI s σ H Q I h;refine bo7 (kdi I hg hm hv ?_ hn hdb);exact PyProof.Rows.callWith_builtin1 (thn (ha pos pI s σ H _ I h) fun us s1 ⟨vs,H1,I1,r1,q1⟩=>hc pI s1 σ H1 vs us Q I1 r1 q1) he hpl
def kco(hc:kdk X (.type T) r)(hg:Gl X x)(hm:X.mg x=none)(hv:bootBuiltins x=some (.type T))(ha:PA X (e::es) t)(hn:autoParam (x≠"__name__") Z2)(hdb:autoParam ((x==("__debug__":Str))=false) Z2)
 (he:autoParam (bc5 (e::es) X.env=(false,eval e X.env)::bc5 es X.env) Z4)(hpl:autoParam ((backTo pos (bc5 es X.env)).any (·.1)=false) Z4):PE X (.Call (.Name x p) (e::es) [] pos) (tCB r t):=by
 intro pI s σ H Q I h;refine bo7 (kdi I hg hm hv ?_ hn hdb);exact bh4 (thn (ha pos pI s σ H _ I h) fun us s1 ⟨vs,H1,I1,r1,q1⟩=>hc pI s1 σ H1 vs us Q I1 r1 q1) he hpl
end
section
variable{κ:Type} [DecidableEq κ]
end
section
variable{P:bb9}{w:be5}{H:Hp}{h:Heap}{a:Addr}
end
section
variable{X:Cx}{pI:List (Addr×Obj)}{σ:St}{H:Hp}{s:ba7}{a:Addr}{y v:V}{u r:ba6}{o:Option V}{A:bg1}{E:ba6->ba7->Prop}
def Inv.big(I:Inv X pI σ H s):sysModules<s.heap.objs.size:=by
 have h:bi5<s.heap.objs.size:=(I.mod.glob.keeps I.bk).lt;exact cn5 (by decide) h
def kxx{h':Heap}{t':Nat}{ob:HO}(I:Inv X pI σ H s)(mu:Mut (H a))(hs:bn0 a s.heap h')(he: ∃q,h'.get? a=some q)(new:ObjOk X.prog X.w (upd H a ob) h' a ob):
 Inv X pI σ (upd H a ob) {s with heap:=h',toks:=t'}:=
 I.write (x:=a) (e:=a) mu (.inl rfl) (fun b q hb z=>(hs.2 b hb).trans z) he new
end
section
variable{X:Cx}{pI:List (Addr×Obj)}{σ:St}{H:Hp}{s:ba7}{a:Addr}{kvs:List (Key×V)}{k:Key}{u:ba6}{A:bg1}{E:ba6->ba7->Prop}
end
abbrev NoSl(i:Expr):Prop:=∀ov iv,subscripted i false ov iv=operate [ov,iv] (getItem ov iv)
def kxy{prog:bb9}{w:be5}{A:bg1}{E:ba6->ba7->Prop}{s:ba7}{env:Env}{value slice:Expr}{pos:Pos}{T id:String}{Q:ba6->ba7->Prop}
 (hl:typeLookup (.type T) "__getitem__"=pure (some (.builtin id)))(hs:NoSl slice)
 (h:be1 (bf9 prog w) A (eval value env) (fun o s₁=>be1 (bf9 prog w) A (eval slice env) (fun i s₂=>s₂.TypeIs o T/\be1 (bf9 prog w) A (getItem o i) Q E s₂) E s₁) E s):
 be1 (bf9 prog w) A (eval (.Subscript value slice pos) env) Q E s:=by
 refine cl5 (bs2 h (fun o s₁ h₁=>bs2 h₁ (fun i s₂ h₂=>?_) fun O O x=>x) fun O O x=>x);obtain⟨hT,h₂⟩:=h₂;unfold subscriptTail;refine ba0 ?_;rw[getitemInPython_of_ne hT.not_modules];refine ba0 (bm0 hT hl ?_);have fin:be1 (bf9 prog w) A (subscripted slice false o i) (fun r s₃=>be1 (bf9 prog w) A (letTemporaryGo value o r >>= fun O=>pure r) Q E s₃) E s₂:=by
  rw[hs o i];exact wpAny_operating (bs2 h₂ (fun r s₃ h₃=>ba0 (wpAny_letTemporaryGo (ba9 h₃))) fun O O x=>x)
 first
  | exact ba9 (ba0 fin)
  | exact ba0 (ba9 (ba0 fin))
  | exact ba0 fin
section
variable{X:Cx}{o i e value:Expr}{pos pos' tpos:Pos}{td ty tv:TE}
end
section
variable{X:Cx}{pos:Pos}
end
structure M1(X:Cx)(o:Expr)(m:Str)(apos:Pos)(e:Expr)(cpos:Pos):Prop where
 base:bm8 o m X.env (eval o X.env)=eval o X.env
 few:((backTo cpos (bc5 [e] X.env)).all (fun x=> !x.1)&&(b09 cpos (bt1 [] X.env)).all (fun x=>x.1.isSome)
  &&decide (([e]:List Expr).length+([]:List Keyword).length+(if([]:List Keyword).isEmpty then 0 else 1)<30))=true
 line:(apos.endLine==cpos.line)=true
 trees:backTo cpos (bc5 [e] X.env)=[(false,eval e X.env)]
section
variable{X:Cx}{pI:List (Addr×Obj)}{σ:St}{H:Hp}{s:ba7}{a:Addr}{y d:V}{u r:ba6}{o:Option V}{A:bg1}{E:ba6->ba7->Prop}
end
section
variable{X:Cx}{o e f:Expr}{apos cpos:Pos}{td ty tx:TE}
end
section
variable{X:Cx}{pI:List (Addr×Obj)}{σ:St}{H:Hp}{s:ba7}{a:Addr}{kvs:List (Key×V)}{A:bg1}{E:ba6->ba7->Prop}
end
section
variable{X:Cx}{pI:List (Addr×Obj)}{σ:St}{H:Hp}{s:ba7}{a:Addr}{y:V}{u:ba6}{A:bg1}{E:ba6->ba7->Prop}
end
end L2
namespace HT
open PySem PyProof.Rows
section
open PySem.SeqAt
open PySem.AutoSeq1 (wpAny_loadPart')
open PySem.MeetsSeq PySem.MeetsSeq2 PySem.MeetsSeq3
end
section
variable{prog:bb9}{w:be5}{A:bg1}{E:ba6->ba7->Prop}{s:ba7}
abbrev sIx(n d:Nat):Option Int->Nat
 | none=>d
 | some v=>if v<0 then(v+(n:Int)).toNat else min v.toNat n
def sIx_none(n d:Nat):sIx n d none=d:=rfl
def sIx_nat(n d k:Nat):sIx n d (some (k:Int))=min k n:=by
 show(if(k:Int)<0 then((k:Int)+(n:Int)).toNat else min (k:Int).toNat n)=min k n;rw[zN (by lia),bc3]
def k1z(n d:Nat)(hd:d<=n)(o:Option Int):sIx n d o<=n:=by
 cases o with
 | none=>exact hd
 | some v=>
   show(if v<0 then(v+(n:Int)).toNat else min v.toNat n)<=n;by_cases hv:v<0
   .rw[zP hv];lia
   .rw[zN hv];exact ch1 _ _
def kov(v:Int)(n d:Nat):(if v<0 then max (v+(n:Int)) 0 else min v (n:Int))=((sIx n d (some v):Nat):Int):=by
 show(if v<0 then max (v+(n:Int)) 0 else min v (n:Int))=(((if v<0 then(v+(n:Int)).toNat else min v.toNat n):Nat):Int)
 by_cases hv:v<0
 .simp only[zP hv];lia
 .simp only[zN hv];lia
def knj(lo hi:Option Int)(n:Nat):bw9 lo hi 1 (n:Int)=(((sIx n 0 lo:Nat):Int),((sIx n n hi:Nat):Int)):=by
 have h1: ¬((1:Int)<0):=by lia
 unfold bw9;simp only[h1,if_false];refine by4 ?_ ?_
 .cases lo with
  | none=>rfl
  | some v=>exact kov v n 0
 .cases hi with
  | none=>rfl
  | some v=>exact kov v n n
def knk(i j:Nat):bs7 (i:Int) (j:Int) 1=j-i:=by
 unfold bs7;have h1:(1:Int) > 0:=by lia
 simp only[h1,if_true,Int.ediv_one];split <;> lia
def khb{v:ba6}{o:Option Int}{Q:Option Int->ba7->Prop}(p:IsPart v o)(h:Q o s):be1 (bf9 prog w) A (Builtin.Slice.slicePartIndex v) Q E s:=by
 cases p with
 | none=>exact slicePart_none h
 | int i t=>exact slicePart_int h
def kf2{sl:Addr}{vl vu:ba6}{lo hi:Option Int}{n:Nat}{Q:Int×Int×Nat->ba7->Prop}(hs:s.heap.IsSliceOf sl vl vu .none)(pl:IsPart vl lo)(pu:IsPart vu hi)
 (h:Q (((sIx n 0 lo:Nat):Int),1,sIx n n hi-sIx n 0 lo) s):be1 (bf9 prog w) A (b44 (.ref sl) (pure (n:Int))) Q E s:=by
 obtain⟨os,hos,hcs,hds⟩:=id hs;unfold b44 Builtin.Slice.sliceFields;refine ba0 (ba0 (bk9 hos hds (x:=vl) rfl (ba0 (bk9 hos hds (x:=vu) rfl (ba0 (bk9 hos hds (x:= .none) rfl (ba9 ?_)))))));refine ba0 (slicePart_none ?_);show be1 _ _ (if((1:Int)==0)=true then _ else _) _ _ s;rw[zN (by decide)];refine ba0 (khb pl (ba0 (khb pu (ba0 (ba9 ?_)))));show be1 _ _ (match bw9 lo hi 1 (n:Int)with|(lo,hi)=>pure (lo,(1:Int),bs7 lo hi 1)) _ _ s;rw[knj lo hi n];show be1 _ _ (pure (((sIx n 0 lo:Nat):Int),(1:Int),bs7 ((sIx n 0 lo:Nat):Int) ((sIx n n hi:Nat):Int) 1)) _ _ s;rw[knk];exact ba9 h
def ktg(xs:Array ba6)(i k:Nat):((ba8 k).filterMap fun(m:Nat)=>xs[((i:Int)+(m:Int)*1).toNat]?).toArray=((xs.toList.drop i).take k).toArray:=by
 have e:(fun(m:Nat)=>xs[((i:Int)+(m:Int)*1).toNat]?)=fun m=>xs[i+m]?:=by
  funext m
  have:((i:Int)+(m:Int)*1).toNat=i+m:=by lia
  rw[this]
 rw[e];have:=pick_run xs i k;rw[cd0]at this;have e2:((fun x=>xs[x]?) ∘ fun x=>i+x)=fun m=>xs[i+m]?:=rfl;rw[e2]at this;rw[this]
def getItem_tuple_cut{t sl:Addr}{items:Array ba6}{vl vu:ba6}{lo hi:Option Int}{Q:ba6->ba7->Prop}(ht:IsTup s.heap t items)(hs:s.heap.IsSliceOf sl vl vu .none)(pl:IsPart vl lo)(pu:IsPart vu hi)
 (hw: ¬(sIx items.size 0 lo=0/\sIx items.size items.size hi=items.size))
 (h:Q (.ref s.heap.objs.size) {s with heap:=s.heap.push {cls:= .type "tuple",data:= .seq ((items.toList.drop (sIx items.size 0 lo)).take (sIx items.size items.size hi-sIx items.size 0 lo)).toArray}})
 (hsz:items.size<=sizeLine):be1 (bf9 prog w) A (getItem (.ref t) (.ref sl)) Q E s:=by
 have htake:sizeOk (.seq ((items.toList.drop (sIx items.size 0 lo)).take (sIx items.size items.size hi-sIx items.size 0 lo)).toArray):=by
  show((items.toList.drop (sIx items.size 0 lo)).take (sIx items.size items.size hi-sIx items.size 0 lo)).toArray.size<=sizeLine;rw[bd6,bn9,bq7,bf0];lia
 have hj:sIx items.size items.size hi<=items.size:=k1z _ _ (bb7 _) hi;obtain⟨os,hos,hcs,hds⟩:=id hs;have hTs:s.TypeIs (.ref sl) "slice":=⟨os,hos,hcs⟩
 unfold getItem
 try with_reducible refine bk0 ?_
 first|refine ba0 (ba9 ?_)|skip
 refine ba0 (wpAny_sequenceKey ht.typeIs (by decide) ?_);refine ba0 (bi8 (name:=br2 "__getitem__") ht.typeIs bz3
  (bg4 bz3 ht.typeIs entry_tuple_getitem ?_ (args_tuple_getitem _ _)))
 show be1 _ _ (br9 (.ref t) >>= _) _ _ s;refine ba0 (tupleItemsOf_ ht ?_);refine ba0 (b11 hTs ?_);rw[zP (by decide)];refine ba0 (kf2 hs pl pu ?_);have hno: ¬((((sIx items.size 0 lo:Nat):Int)==0&&(1:Int)==1&&(sIx items.size items.size hi-sIx items.size 0 lo)==items.size)=true):=by
  intro q;rw[bm4,bm4]at q;have q1:((sIx items.size 0 lo:Nat):Int)=0:=cj1 q.1.1;have q2:sIx items.size items.size hi-sIx items.size 0 lo=items.size:=cj1 q.2;exact hw ⟨by lia,by lia⟩
 show be1 _ _ (if(((sIx items.size 0 lo:Nat):Int)==0&&(1:Int)==1&&(sIx items.size items.size hi-sIx items.size 0 lo)==items.size)=true then _ else _) _ _ s;rw[zN hno,ktg]
 first
  | exact ba0 (m:=bo2 _) (bj8 (ba9 ⟨_,rfl,ba9 h⟩) htake)
  | exact ba0 (m:=bo2 _) (bj8 (ba0 (ba9 (ba9 ⟨_,rfl,ba9 h⟩))) htake)
  | exact ba0 (ba0 (m:=bo2 _) (bj8 (ba9 (ba9 ⟨_,rfl,ba9 h⟩)) htake))
  | exact ba0 (ba0 (m:=bo2 _) (bj8 (ba9 ⟨_,rfl,ba9 h⟩) htake))
end
end HT
namespace L2
open PySem PySem.Spec PyProof.Rows
@[reducible]def TO:=St->Hp->(Option Int->Hp->Prop)->Prop
abbrev PO(X:Cx)(e:Option Expr)(t:TO):Prop:=
 ∀(pI:List (Addr×Obj))(s:ba7)(σ:St)(H:Hp)(Q:Option Int->Hp->Prop),Inv X pI σ H s->t σ H Q->
  be1 (bf9 X.prog X.w) X.A (evalPart e X.env) (fun u s'=>∃o H',Inv X pI σ H' s'/\IsPart u o/\Q o H') X.xe s
abbrev kxz:TO:=fun O H Q=>Q none H
abbrev tPart(t:TE):TO:=fun σ H Q=>t σ H fun x H1=>∃i,x= .int i/\Q (some i) H1
def khc{ns:List Int}: ∀{us:List ba6},Vals (ns.map V.int) us->IntsAre us ns:=by
 induction ns with
 | nil=>intro us r;rw[b12]at r;cases r;exact .nil
 | cons n ns ih=>
   intro us r;rw[bg2]at r;cases r with
   | cons r1 r2=>
     obtain⟨t,e⟩:=r1;subst e;exact .cons n t (ih r2)
section
variable{X:Cx}{e:Expr}{te:TE}{lo hi:Option Expr}{tl th:TO}{pos p2:Pos}
def kow:PO X none kxz:=by
 intro pI s σ H Q I h;rw[evalPart_none];exact ba9 ⟨none,H,I,.none,h⟩
def kox(h:PE X e te):PO X (some e) (tPart te):=by
 intro pI s σ H Q I hw;rw[evalPart_some];refine thn (h pI s σ H _ I hw) fun u s1 ⟨x,H1,I1,r1,q1⟩=>?_;obtain⟨i,rfl,q⟩:=q1;obtain⟨t,rfl⟩:=r1;exact⟨some i,H1,I1,.int i t,q⟩
abbrev SlR(X:Cx)(r:V->Option Int->Option Int->Hp->VK->Prop):Prop:=
 ∀(pI:List (Addr×Obj))(s:ba7)(σ:St)(H:Hp)(x:V)(v vl vu:ba6)(lo hi:Option Int)(sl:Addr)(Q:VK),Inv X pI σ H s->RelV x v->s.heap.IsSliceOf sl vl vu .none->IsPart vl lo->IsPart vu hi->r x lo hi H Q->
  ∃T id,typeLookup (.type T) "__getitem__"=pure (some (.builtin id))/\s.TypeIs v T/\be1 (bf9 X.prog X.w) X.A (getItem v (.ref sl)) (EP X pI σ Q) X.xe s
abbrev tSl(r:V->Option Int->Option Int->Hp->VK->Prop)(te:TE)(tl th:TO):TE:=fun σ H Q=>te σ H fun x H1=>tl σ H1 fun l H2=>th σ H2 fun u H3=>r x l u H3 Q
def klo{r:V->Option Int->Option Int->Hp->VK->Prop}(hr:SlR X r)(he:PE X e te)(hl:PO X lo tl)(hu:PO X hi th):PE X (.Subscript e (.Slice lo hi none p2) pos) (tSl r te tl th):=by
 intro pI s σ H Q I h;refine cl5 (thn (he pI s σ H _ I h) fun v s1 ⟨x,H1,I1,r1,q1⟩=>?_);refine wpAny_Slice (thn (hl pI s1 σ H1 _ I1 q1) fun vl s2 ⟨l,H2,I2,pl,q2⟩=>thn (hu pI s2 σ H2 _ I2 q2) fun vu s3 ⟨u,H3,I3,pu,q3⟩=>?_);rw[evalPart_none];refine ba9 ?_;have I4:Inv X pI σ H3 {s3 with heap:=s3.heap.push {cls:= .type "slice",data:= .fields #[vl,vu,.none]}}:=I3.kept (t':=s3.toks) fun b ob q=>ba5 _ q;obtain⟨T,id,hT,ht,hg⟩:=hr pI {s3 with heap:=s3.heap.push {cls:= .type "slice",data:= .fields #[vl,vu,.none]}} σ H3 x v vl vu l u s3.heap.objs.size Q I4 r1 (Heap.IsSliceOf.new ..) pl pu q3;show be1 (bf9 X.prog X.w) X.A (subscriptTail e (.Slice lo hi none p2) v (.ref s3.heap.objs.size)) (EP X pI σ Q) X.xe {s3 with heap:=s3.heap.push {cls:= .type "slice",data:= .fields #[vl,vu,.none]}};exact tail_any (ops:=[.ref s3.heap.objs.size,v]) ht hT hg (by with_unfolding_all rfl)
abbrev koy(xs:List V)(lo hi:Option Int):List V:=(xs.drop (HT.sIx xs.length 0 lo)).take (HT.sIx xs.length xs.length hi-HT.sIx xs.length 0 lo)
def kge(xs:List V)(lo hi:Option Int):(koy xs lo hi).length<=xs.length:=by
 unfold koy;rw[bn9,bq7];lia
abbrev rSlT(K:ba2):V->Option Int->Option Int->Hp->VK->Prop:=fun x lo hi H Q=>∃a xs,x= .ref a/\SqT K H a xs/\
 ¬(HT.sIx xs.length 0 lo=0/\HT.sIx xs.length xs.length hi=xs.length)/\∀p,H p=none->Q (.ref p) (upd H p (.tup (koy xs lo hi)))
def k10:SlR X (rSlT X.K):=by
 intro pI s σ H x v vl vu lo hi sl Q I rx hs pl pu h;obtain⟨a,xs,rfl,hx,hw,q⟩:=h;cases rx;obtain⟨its,r,ht,hz⟩:=I.tuple hx;have hlen:its.toArray.size=xs.length:=by rw[bd6];exact r.length.symm
 refine⟨"tuple",_,bz3.lookup,ht.typeIs,?_⟩;refine HT.getItem_tuple_cut ht hs pl pu (by rw[hlen];exact hw) ?_ (by rw[hlen];exact hz);rw[hlen];refine⟨.ref s.heap.objs.size,_,I.laid (t':=s.toks) (o:= .tup (koy xs lo hi)) (fun b ob q=>ba5 _ q) (bb7 _) ?_,rfl,q _ (I.hok.fresh (bb7 _))⟩;exact⟨⟨⟨_,bc7 _ rfl,rfl⟩,bi9 (kge xs lo hi) hz⟩,_,(r.drop (HT.sIx xs.length 0 lo)).take (HT.sIx xs.length xs.length hi-HT.sIx xs.length 0 lo),cn6 _ _⟩
end
abbrev ixN(n:Nat)(i:Int):Option Nat:=if 0<=i then(if i<n then some i.toNat else none)else if -(n:Int)<=i then some (i+n).toNat else none
abbrev atI{α:Type}(xs:List α)(i:Int):Option α:=(ixN xs.length i).bind fun j=>xs[j]?
def koz{n:Nat}{i:Int}{j:Nat}(h:ixN n i=some j):seqIndex? i n=some j/\j<n/\ -(n:Int)<=i/\i<n:=by
 unfold ixN at h;by_cases h0:0<=i
 .rw[zP h0]at h;by_cases h1:i<n
  .rw[zP h1]at h;have e:i.toNat=j:=bf4 h;exact⟨by rw[cj2 h0 h1,e],by lia,by lia,h1⟩
  .rw[zN h1]at h;cases h
 .rw[zN h0]at h;by_cases h1: -(n:Int)<=i
  .rw[zP h1]at h;have e:(i+n).toNat=j:=bf4 h;exact⟨by rw[cg4 (by lia) h1,e],by lia,h1,by lia⟩
  .rw[zN h1]at h;cases h
def kkk{α:Type}{xs:List α}{i:Int}{v:α}(h:atI xs i=some v): ∃j,seqIndex? i xs.length=some j/\xs[j]?=some v/\j<xs.length/\ -(xs.length:Int)<=i/\i<xs.length:=by
 unfold atI at h;cases e:ixN xs.length i with
 | none=>rw[e]at h;cases h
 | some j=>
   rw[e]at h;obtain⟨h1,h2,h3,h4⟩:=koz e;exact⟨j,h1,h,h2,h3,h4⟩
def kb9{α:Type}{xs:List α}{j:Nat}{v:α}(h:xs[j]?=some v):atI xs (j:Int)=some v:=by
 have hj:j<xs.length:=(bb3.mp h).1;have e:ixN xs.length (j:Int)=some j:=by
  unfold ixN;rw[zP (by lia),zP (by lia)];simp
 unfold atI;rw[e];exact h
def kht{α:Type}(xs:List α)(v:α):atI (xs++[v]) (-1)=some v:=by
 have hl:(xs++[v]).length=xs.length+1:=by simp
 have e:ixN (xs++[v]).length (-1)=some xs.length:=by
  unfold ixN;rw[hl,zN (by decide),zP (by lia)];congr 1;lia
 unfold atI;rw[e];show(xs++[v])[xs.length]?=some v;simp
abbrev ko0(b:Expr):Prop:=∀o i,subscripted b false o i=operate [o,i] (getItem o i)
abbrev IxR(X:Cx)(r:R2):Prop:=
 ∀(value slice:Expr)(pI:List (Addr×Obj))(s:ba7)(σ:St)(H:Hp)(x y:V)(v u:ba6)(Q:VK),Inv X pI σ H s->RelV x v->RelV y u->r x y H Q->
  subscripted slice false v u=operate [v,u] (getItem v u)->be1 (bf9 X.prog X.w) X.A (subscriptTail value slice v u) (EP X pI σ Q) X.xe s
abbrev MtR(X:Cx)(id:String)(r:V->List V->Hp->VK->Prop):Prop:=
 ∀(pI:List (Addr×Obj))(s:ba7)(σ:St)(H:Hp)(x:V)(xs:List V)(v:ba6)(us:List ba6)(Q:VK),Inv X pI σ H s->RelV x v->Vals xs us->r x xs H Q->
  be1 (bf9 X.prog X.w) X.A (call (.builtin id) (v::us)) (EP X pI σ Q) X.xe s
section
variable{X:Cx}{a b:Expr}{ta tb:TE}{pos:Pos}
def IxR.or{r r':R2}(h:IxR X r)(h':IxR X r'):IxR X (fun x y H Q=>r x y H Q\/r' x y H Q):=by
 intro value slice pI s σ H x y v u Q I rx ry q hs;rcases q with q|q
 .exact h value slice pI s σ H x y v u Q I rx ry q hs
 .exact h' value slice pI s σ H x y v u Q I rx ry q hs
def kjh{r:R2}(hr:IxR X r)(ha:PE X a ta)(hb:PE X b tb)(hs:ko0 b):PE X (.Subscript a b pos) (tOp r ta tb):=by
 intro pI s σ H Q I h;exact cl5 (binT ha hb I h fun v u s2 x y H2 I2 rx ry q=>hr a b pI s2 σ H2 x y v u Q I2 rx ry q (hs _ _))
abbrev rIxL(K:ba2):R2:=fun x y H Q=>∃p xs i v,x= .ref p/\y= .int i/\SqL K H p xs/\atI xs i=some v/\Q v H
abbrev rIxT(K:ba2):R2:=fun x y H Q=>∃p xs i v,x= .ref p/\y= .int i/\SqT K H p xs/\atI xs i=some v/\Q v H
abbrev rIxS:R2:=fun x y H Q=>∃z i c,x= .str z/\y= .int i/\z.length<=sizeLine/\atI z.cps.toList i=some c/\Q (.str ⟨#[c]⟩) H
def keg:IxR X (rIxL X.K):=by
 intro value slice pI s σ H x y v u Q I rx ry h hs;obtain⟨p,xs,i,z,rfl,rfl,hq,he,q⟩:=h;cases rx;obtain⟨t,rfl⟩:=ry;obtain⟨its,r,pl,hz⟩:=I.list hq;obtain⟨j,h1,h2,h3,h4,h5⟩:=kkk he;obtain⟨w,ew,rw'⟩:=r.get h2;have hl:=r.length;have hn:=kjc;have fin:EP X pI σ Q w s:=⟨z,H,I,rw',q⟩
 by_cases h0:0<=i
 .have hj:i.toNat=j:=by
   rw[cj2 h0 h5]at h1;exact bf4 h1
  exact item_listR pl.isList h0 (by lia) (by rw[hj];simpa using ew) fin hs
 .have hj:(i+(its.toArray.size:Int)).toNat=j:=by
   rw[cg4 (by lia) h4]at h1;rw[bd6,<- hl];exact bf4 h1
  exact b98 (x:=w) pl.isList.typeIs ce8.lookup
   (wpAny_getItem_list_neg (Q:=fun r s'=>r=w/\EP X pI σ Q r s') pl.isList (by lia) (by rw[bd6] <;> lia) (by lia) (by rw[hj];simpa using ew) ⟨rfl,fin⟩) hs
def k11:IxR X (rIxT X.K):=by
 intro value slice pI s σ H x y v u Q I rx ry h hs;obtain⟨p,xs,i,z,rfl,rfl,hq,he,q⟩:=h;cases rx;obtain⟨t,rfl⟩:=ry;obtain⟨its,r,pl,hz⟩:=I.tuple hq;obtain⟨j,h1,h2,h3,h4,h5⟩:=kkk he;obtain⟨w,ew,rw'⟩:=r.get h2;have hl:=r.length;have hn:=kjc;have fin:EP X pI σ Q w s:=⟨z,H,I,rw',q⟩
 exact b98 (x:=w) pl.typeIs slot_tuple_getitem.lookup
  (getItem_tuple (j:=j) (Q:=fun r s'=>r=w/\EP X pI σ Q r s') pl (by lia) (by lia) (by rw[bd6,<- hl];exact h1) (by simpa using ew) ⟨rfl,fin⟩) hs
def k12:IxR X rIxS:=by
 intro value slice pI s σ H x y v u Q I rx ry h hs;obtain⟨z,i,c,rfl,rfl,hz,he,q⟩:=h;obtain⟨t,rfl⟩:=rx;obtain⟨t',rfl⟩:=ry;obtain⟨j,h1,h2,h3,h4,h5⟩:=kkk he;have hl:z.cps.toList.length=z.length:=by simp[Str.length]
 rw[hl]at h1 h4 h5;have hn:=kjc;exact tail_any (typeIs_str s z t) slot_str_getitem.lookup (getItem_str (c:=c) (by
  have e1:decide (i< -(2 ^ 63:Int))=false:=zF (by lia);have e2:decide (i>=2 ^ 63)=false:=zF (by lia);rw[e1,e2,b81]) (by rw[h1];simpa using h2) ⟨.str ⟨#[c]⟩,H,I.tok _,⟨_,rfl⟩,q⟩) hs
abbrev rIx(K:ba2):R2:=fun x y H Q=>rIxL K x y H Q\/rIxT K x y H Q\/rIxS x y H Q
def k13:IxR X (rIx X.K):=keg.or (k11.or k12)
def knl(its:List ba6)(n j:Nat)(u:ba6):bj9 (·.setIfInBounds j u) {cls:= .type "list",data:= .seq its.toArray n}={cls:= .type "list",data:= .seq (its.set j u).toArray n}:=by
 simp[bj9]
def Inv.lst{pI:List (Addr×Obj)}{σ:St}{H:Hp}{s:ba7}{p:Addr}{xs:List V}(I:Inv X pI σ H s)(h:H p=some (.lst xs)):
 ∃(its:List ba6)(n:Nat),Vals xs its/\s.heap.get? p=some {cls:= .type "list",data:= .seq its.toArray n}/\xs.length<=sizeLine:=by
 obtain⟨z,its,n,r,e⟩:=I.hok p _ h;exact⟨its,n,r,e,z⟩
def Inv.lstUpd{pI:List (Addr×Obj)}{σ:St}{H:Hp}{s:ba7}{p:Addr}{xs ys:List V}{its its':List ba6}{n n':Nat}{f:Obj->Obj}(I:Inv X pI σ H s)(h:H p=some (.lst xs))
 (ho:s.heap.get? p=some {cls:= .type "list",data:= .seq its.toArray n})(hf:f {cls:= .type "list",data:= .seq its.toArray n}={cls:= .type "list",data:= .seq its'.toArray n'})(r:Vals ys its')(hz:ys.length<=sizeLine)(t:Nat):
 Inv X pI σ (upd H p (.lst ys)) {s with heap:=s.heap.update p f,toks:=t}:=by
 have e:(s.heap.update p f).get? p=some {cls:= .type "list",data:= .seq its'.toArray n'}:=by
  rw[bm1 f ho (by rw[hf] <;> rfl),hf]
 refine I.write (x:=p) (e:=p) (by rw[h];trivial) (.inl rfl) (fun b u hb q=>(bn5 _ _ (bv6 hb)).trans q) ⟨_,e⟩ ?_;exact⟨hz,its',n',r,e⟩
abbrev rSetL:V->V->V->Hp->(Hp->Prop)->Prop:=fun o i v H Q=>∃p xs k j,o= .ref p/\i= .int k/\H p=some (.lst xs)/\ixN xs.length k=some j/\Q (upd H p (.lst (xs.set j v)))
def kth:PSet X rSetL:=by
 intro pI s σ H o i v ov iv u Q I ro ri rv h;obtain⟨p,xs,k,j,rfl,rfl,hp,hj,q⟩:=h;cases ro;obtain⟨t,rfl⟩:=ri;obtain⟨its,n,r,ho,hz⟩:=I.lst hp;obtain⟨h1,h2,h3,h4⟩:=koz hj;have hl:=r.length;have hn:=kjc;have I':Inv X pI σ (upd H p (.lst (xs.set j v))) {s with heap:=s.heap.update p (bj9 (·.setIfInBounds j u))}:=
  I.lstUpd hp ho (knl its n j u) (r.set rv j) (by rw[cj3];exact hz) s.toks
 by_cases h0:0<=k
 .have hk:k.toNat=j:=by
   rw[cj2 h0 h4]at h1;exact bf4 h1
  exact PySem.W.ki_setAt ho h0 (by lia) (by rw[bd6,<- hl];exact h4) (by rw[hk];exact⟨_,I',q⟩)
 .have hk:(k+(its.toArray.size:Int)).toNat=j:=by
   rw[cg4 (by lia) h3]at h1;rw[bd6,<- hl];exact bf4 h1
  exact PySem.W.ki_setBack ho (by lia) (by rw[bd6,<- hl];exact h3) (by lia) (by rw[hk];exact⟨_,I',q⟩)
def kji(lo hi:Option Int)(n:Nat):(sliceBounds lo hi none n).1=((HT.sIx n 0 lo:Nat):Int)/\(sliceBounds lo hi none n).2.1=((HT.sIx n n hi:Nat):Int)/\(sliceBounds lo hi none n).2.2=1:=by
 refine⟨?_,?_,rfl⟩
 .cases lo with
  | none=>simp[sliceBounds,HT.sIx]
  | some i=>
    simp only[sliceBounds,HT.sIx,bx3,show(1:Int) > 0 by decide,if_true];by_cases h:i<0
    .simp only[h,if_true] <;> lia
    .simp only[h,if_false] <;> lia
 .cases hi with
  | none=>simp[sliceBounds,HT.sIx]
  | some i=>
    simp only[sliceBounds,HT.sIx,bx3,show(1:Int) > 0 by decide,if_true];by_cases h:i<0
    .simp only[h,if_true] <;> lia
    .simp only[h,if_false] <;> lia
def khu(its:List ba6)(lo hi:Option Int):slicePick its.toArray lo hi none=((its.drop (HT.sIx its.length 0 lo)).take (HT.sIx its.length its.length hi-HT.sIx its.length 0 lo)).toArray:=by
 obtain⟨h1,h2,h3⟩:=kji lo hi its.toArray.size;unfold slicePick;rw[h1,h2,h3];simp only[sliceRange_one,pick_run,bd6] <;> rfl
abbrev rSlL(K:ba2):V->Option Int->Option Int->Hp->VK->Prop:=fun x lo hi H Q=>∃a xs,x= .ref a/\SqL K H a xs/\∀p,H p=none->Q (.ref p) (upd H p (.lst (koy xs lo hi)))
def kx0:SlR X (rSlL X.K):=by
 intro pI s σ H x v vl vu lo hi sl Q I rx hs pl pu h;obtain⟨a,xs,rfl,hx,q⟩:=h;cases rx;obtain⟨its,r,ht,hz⟩:=I.list hx;have hlen:=r.length;refine⟨"list",_,ce8.lookup,ht.isList.typeIs,?_⟩;refine wpAny_getItem_list_slice ht.isList hs pl pu .none (by simp) ?_ (by rw[bd6] <;> lia);rw[khu,<- hlen];refine⟨.ref s.heap.objs.size,_,I.laid (t':=s.toks) (o:= .lst (koy xs lo hi)) (fun b ob q=>ba5 _ q) (bb7 _) ?_,rfl,q _ (I.hok.fresh (bb7 _))⟩;exact⟨bi9 (kge xs lo hi) hz,_,0,(r.drop (HT.sIx xs.length 0 lo)).take (HT.sIx xs.length xs.length hi-HT.sIx xs.length 0 lo),bc7 _ rfl⟩
def kjj:kdk X (.builtin "len") (fun xs H Q=>∃p ys,xs=[.ref p]/\(SqL X.K H p ys\/SqT X.K H p ys)/\Q (.int ys.length) H):=by
 intro pI s σ H xs us Q I r h;obtain⟨p,ys,rfl,hq,q⟩:=h;obtain⟨u,rfl,rx⟩:=kef r;cases rx;have hn:=kjc;rcases hq with hq|hq
 .obtain⟨its,r',pl,hz⟩:=I.list hq;have hlen:=r'.length;exact Calls.call_len_list pl.isList (by simp only[bd6] <;> lia) ⟨.int ys.length,H,I.tok _,⟨s.toks+1,by rw[bd6,hlen]⟩,q⟩
 .obtain⟨its,r',pl,hz⟩:=I.tuple hq;have hlen:=r'.length;exact len_tuple pl (by simp only[bd6] <;> lia) ⟨.int ys.length,H,I.tok _,⟨s.toks+1,by rw[bd6,hlen]⟩,q⟩
def ke0:kdk X (.type "tuple") (fun xs H Q=>∃p ys,xs=[.ref p]/\((SqL X.K H p ys/\∀l,H l=none->Q (.ref l) (upd H l (.tup ys)))\/(SqT X.K H p ys/\Q (.ref p) H))):=by
 intro pI s σ H xs us Q I r h;obtain⟨p,ys,rfl,h⟩:=h;obtain⟨u,rfl,rx⟩:=kef r;cases rx;rcases h with⟨hq,q⟩|⟨hq,q⟩
 .obtain⟨its,r',pl,hz⟩:=I.list hq;have hlen:=r'.length;refine call_tuple_list pl.isList (fun h' kp=>?_) (by simp only[bd6] <;> lia);have I1:Inv X pI σ H {s with heap:=h'}:=I.kept (t':=s.toks) kp;have I2:Inv X pI σ (upd H h'.objs.size (.tup ys)) {s with heap:=h'.push {cls:= .type "tuple",data:= .seq its.toArray}}:=
   I1.laid (t':=s.toks) (fun b o e=>ba5 _ e) (bb7 _) (show ObjOk X.prog X.w _ _ _ (.tup ys)from⟨⟨⟨_,bc7 _ rfl,rfl⟩,hz⟩,its,r',cn6 _ _⟩)
  exact⟨.ref h'.objs.size,_,I2,rfl,q _ (I1.hok.fresh (bb7 _))⟩
 .obtain⟨its,r',pl,hz⟩:=I.tuple hq;exact call_tuple_same pl ⟨.ref p,H,I,rfl,q⟩
abbrev tyV(K:ba2)(T:String)(x:V)(H:Hp):Prop:=match x with
 | .str _=>T="str"
 | .int _=>T="int"
 | .ref p=>(T="list"/\∃xs,SqL K H p xs)\/(T="tuple"/\∃o,K.lookup p=some o/\o.cls= .type "tuple"/\o.dict=none)\/
    (T="dict"/\((∃ kvs,H p=some (.dK kvs))\/∃kvs,H p=some (.dT kvs)))\/(T="set"/\∃S n,H p=some (.set S n))\/(T="tuple"/\∃xs,H p=some (.tup xs))
 | _=>False
def kv2{pI:List (Addr×Obj)}{σ:St}{H:Hp}{s:ba7}{T:String}{x:V}{v:ba6}(I:Inv X pI σ H s)(r:RelV x v)(ty:tyV X.K T x H):
 s.TypeIs v T/\∀a,v= .ref a->∃ob,s.heap.get? a=some ob/\ob.dict=none:=by
 cases x with
 | str z=>
   obtain⟨t,rfl⟩:=r;cases(show T="str" from ty);exact⟨typeIs_str s z t,fun O e=>nomatch e⟩
 | int i=>
   obtain⟨t,rfl⟩:=r;cases(show T="int" from ty);exact⟨cl6 s i t,fun O e=>nomatch e⟩
 | ref p=>
   cases r;rcases ty with⟨rfl,xs,hq⟩|⟨rfl,o,hk,hc,hd⟩|⟨rfl,hk⟩|⟨rfl,S,n,hk⟩|⟨rfl,xs,hk⟩
   .obtain⟨its,_,pl,_⟩:=I.list hq;refine⟨pl.isList.typeIs,fun a e=>?_⟩;cases e;obtain⟨o,n,e,c,hd,_⟩:=pl;exact⟨o,e,hd⟩
   .refine⟨⟨o,I.kIn p o hk,hc⟩,fun a e=>?_⟩;cases e;exact⟨o,I.kIn _ o hk,hd⟩
   .have z: ∃o,s.heap.get? p=some o/\o.ExactDict:=by
     rcases hk with⟨kvs,hk⟩|⟨kvs,hk⟩
     .obtain⟨_,_,_,_,o,_,_,e,ex,_⟩:=I.hok p _ hk;exact⟨o,e,ex⟩
     .obtain⟨_,_,_,_,o,_,_,e,ex,_⟩:=I.hok p _ hk;exact⟨o,e,ex⟩
    obtain⟨o,e,ex⟩:=z;refine⟨⟨o,e,ex.1⟩,fun a e2=>?_⟩;cases e2;exact⟨o,e,ex.2.1⟩
   .obtain⟨o,_,_,_,e,ex,_⟩:=I.hok p _ hk;refine⟨⟨o,e,ex.1⟩,fun a e2=>?_⟩;cases e2;exact⟨o,e,ex.2.1⟩
   .obtain⟨⟨nd,_⟩,_,_,o,e,c,_⟩:=(show ObjOk X.prog X.w H s.heap p (.tup xs)from I.hok p _ hk)
    refine⟨⟨o,e,c⟩,fun a e2=>?_⟩;cases e2;exact nd
 | _=>exact bu9 ty
abbrev tBM0(K:ba2)(T:String)(r:V->List V->Hp->VK->Prop)(to:TE):TE:=fun σ H Q=>to σ H fun x H1=>tyV K T x H1/\r x [] H1 Q
abbrev tBM(K:ba2)(T:String)(r:V->List V->Hp->VK->Prop)(to:TE)(t:TA):TE:=fun σ H Q=>to σ H fun x H1=>tyV K T x H1/\t σ H1 fun xs H2=>r x xs H2 Q
variable{o e:Expr}{es:List Expr}{to:TE}{t:TA}{name:Str}{apos cpos:Pos}{T id:String}{r:V->List V->Hp->VK->Prop}
def k14(pa:PlainAttrs T)(slot:Slot T name id)(hty:typeOf (.builtin id)=pure (.type "method_descriptor"))(hm:MtR X id r)(ho:PE X o to)
 (hbase:autoParam (bm8 o name X.env (eval o X.env)=eval o X.env) Z4)(hline:autoParam ((apos.endLine==cpos.line)=true) Z4):PE X (.Call (.Attribute o name apos) [] [] cpos) (tBM0 X.K T r to):=by
 intro pI s σ H Q I h;refine wpAny_Call_method0_late hbase hline (thn (ho pI s σ H _ I h) fun v s1 ⟨x,H1,I1,r1,ty,q1⟩=>?_);obtain⟨h1,h2⟩:=kv2 I1 r1 ty;exact⟨T,id,pa,slot,hty,h1,h2,b99 rfl (PySem.evalArgs_none (hm pI s1 σ H1 x [] v [] Q I1 r1 .nil q1))⟩
def k15(pa:PlainAttrs T)(slot:Slot T name id)(hty:typeOf (.builtin id)=pure (.type "method_descriptor"))(hm:MtR X id r)(ho:PE X o to)(ha:PA X (e::es) t)
 (hbase:autoParam (bm8 o name X.env (eval o X.env)=eval o X.env) Z4)
 (hfew:autoParam (((backTo cpos (bc5 (e::es) X.env)).all (fun x=> !x.1)&&(b09 cpos (bt1 [] X.env)).all (fun x=>x.1.isSome)
   &&decide ((e::es).length+([]:List Keyword).length+(if([]:List Keyword).isEmpty then 0 else 1)<30))=true) Z4)
 (hline:autoParam ((apos.endLine==cpos.line)=true) Z4)(hs:autoParam (bc5 (e::es) X.env=(false,eval e X.env)::bc5 es X.env) Z4)(hplain:autoParam ((backTo cpos (bc5 es X.env)).any (·.1)=false) Z4):
 PE X (.Call (.Attribute o name apos) (e::es) [] cpos) (tBM X.K T r to t):=by
 intro pI s σ H Q I h;refine wpAny_Call_method_late hbase hfew hline rfl (thn (ho pI s σ H _ I h) fun v s1 ⟨x,H1,I1,r1,ty,q1⟩=>?_);obtain⟨h1,h2⟩:=kv2 I1 r1 ty;refine⟨T,id,pa,slot,hty,h1,h2,?_⟩;have hA:=ha cpos pI s1 σ H1 _ I1 q1;rw[hs]at hA⊢;refine b99 (by show(false||(backTo cpos (bc5 es X.env)).any (·.1))=false;rw[hplain] <;> rfl) (Calls.evalArgs_plain ?_);exact thn hA fun us s2 ⟨vs,H2,I2,r2,q2⟩=>hm pI s2 σ H2 x vs v us Q I2 r1 r2 q2
end
abbrev MtM(X:Cx)(id:String)(r:V->List V->Hp->VK->Prop):Prop:=
 ∀(pI:List (Addr×Obj))(s:ba7)(σ:St)(H:Hp)(x:V)(xs:List V)(v:ba6)(us:List ba6)(Q:VK),Inv X pI σ H s->RelV x v->Vals xs us->r x xs H Q->
  be1 (bf9 X.prog X.w) X.A (call (.builtin id) (v::us)) (EP X pI σ Q) X.xe s
def Vals.one: ∀{x:V}{us:List ba6},Vals [x] us->∃u,us=[u]/\RelV x u
 | _,_,.cons r .nil=>⟨_,rfl,r⟩
def Vals.zero: ∀{us:List ba6},Vals [] us->us=[]
 | _,.nil=>rfl
def Vals.dropLast{xs:List V}{us:List ba6}(h:Vals xs us):Vals xs.dropLast us.dropLast:=by
 induction h with
 | nil=>exact .nil
 | cons r t ih=>
   cases t with
   | nil=>exact .nil
   | cons q t'=>exact .cons r ih
def Vals.eraseIdx: ∀{xs:List V}{us:List ba6}(i:Nat),Vals xs us->Vals (xs.eraseIdx i) (us.eraseIdx i)
 | _,_,_,.nil=> .nil
 | _,_,0,.cons _ t=>t
 | _,_,i+1,.cons r t=> .cons r (Vals.eraseIdx i t)
def Vals.rep{xs:List V}{us:List ba6}(h:Vals xs us): ∀k:Nat,Vals (bf6 k xs).flatten (bf6 k us).flatten
 | 0=> .nil
 | k+1=>by
   rw[bk3,bk3,bo3,bo3];exact Vals.append h (Vals.rep h k)
def knm{α:Type}(l:List α):l.eraseIdx (l.length-1)=l.dropLast:=by
 induction l with
 | nil=>rfl
 | cons a r ih=>
   cases r with
   | nil=>rfl
   | cons b r=>
     have e:(a::b::r).length-1=((b::r).length-1)+1:=by
      have h1:(a::b::r).length=r.length+2:=rfl;have h2:(b::r).length=r.length+1:=rfl;lia
     rw[e,b82,ih]
     all_goals rfl
def kjk{α:Type}: ∀(l:List α)(i:Nat),(l.eraseIdx i).length<=l.length
 | [],_=>bb7 _
 | _::_,0=>bu2 _
 | _::r,i+1=>ch2 (kjk r i)
def kjl(its:List ba6): ∀(k:Nat)(acc:List ba6),
 ce9 (fun x1 x2=>x1++x2) acc.toArray (bf6 k its.toArray)=(acc++(bf6 k its).flatten).toArray
 | 0,acc=>by simp
 | k+1,acc=>by
   have e:acc.toArray++its.toArray=(acc++its).toArray:=(by simp)
   have e2:(acc++its)++(bf6 k its).flatten=acc++(bf6 (k+1) its).flatten:=by
    rw[bk3,bo3,bh6]
   rw[<- e2,<- kjl its k (acc++its),<- e,bk3,cj4]
section
variable{X:Cx}{pI:List (Addr×Obj)}{σ:St}{H:Hp}{s:ba7}{l b:Addr}{xs ys zs:List V}
def Inv.lset{its its':List ba6}{n:Nat}{f:Array ba6->Array ba6}{t':Nat}(I:Inv X pI σ H s)(hH:H l=some (.lst xs))
 (e:s.heap.get? l=some {cls:= .type "list",data:= .seq its.toArray n})(hf:f its.toArray=its'.toArray)(hv:Vals ys its')(hz:ys.length<=sizeLine):
 Inv X pI σ (upd H l (.lst ys)) {s with heap:=s.heap.update l (bj9 f),toks:=t'}:=by
 have q:=PySem.IsL.update e f;rw[hf]at q;refine I.write (x:=l) (e:=l) (by rw[hH];exact trivial) (.inl rfl) (fun b' u hb hu=>(bn5 s.heap (bj9 f) (bv6 hb)).trans hu) ⟨_,q⟩ ?_;exact⟨hz,its',_,hv,q⟩
def Inv.lnew{its:List ba6}{t':Nat}(I:Inv X pI σ H s)(hv:Vals ys its)(hz:ys.length<=sizeLine):
 Inv X pI σ (upd H s.heap.objs.size (.lst ys)) {s with heap:=s.heap.push {cls:= .type "list",data:= .seq its.toArray},toks:=t'}:=
 I.laid (fun O O q=>ba5 _ q) (bb7 _) ⟨hz,its,0,hv,bc7 _ rfl⟩
def Inv.fresh(I:Inv X pI σ H s):H s.heap.objs.size=none:=I.hok.fresh (bb7 _)
def Inv.lstM(I:Inv X pI σ H s)(hH:H l=some (.lst xs)):xs.length<=sizeLine/\∃(its:List ba6)(n:Nat),Vals xs its/\xs.length=its.length/\s.heap.get? l=some {cls:= .type "list",data:= .seq its.toArray n}:=by
 obtain⟨z,its,n,r,e⟩:=I.hok l _ hH;exact⟨z,its,n,r,r.length,e⟩
def klp{n:Nat}(h:n<=sizeLine):bt3 n=false:=by
 unfold bt3;exact zF (by lia)
end
section
variable{X:Cx}
abbrev kx1:V->List V->Hp->VK->Prop:=fun x vs H Q=>∃l xs y,x= .ref l/\vs=[y]/\H l=some (.lst xs)/\xs.length<sizeLine/\Q .non (upd H l (.lst (xs++[y])))
def ke1:MtM X "list.append" kx1:=by
 intro pI s σ H x vs v us Q I rx rv h;obtain⟨l,xs,y,rfl,rfl,hH,hz,q⟩:=h;cases rx;obtain⟨u,rfl,ru⟩:=rv.one;obtain⟨z,its,n,r,hl,e⟩:=I.lstM hH;refine b28 F.slot_list_append ⟨_,e,rfl⟩ F.entry_list_append (F.args_list_append_2 _ _) (PySem.list_append l its.toArray n u (by rw[bd6];lia)) ⟨e,?_⟩;refine⟨.non,_,I.lset (its':=its++[u]) hH e (by simp) (r.append (.cons ru .nil)) ?_,rfl,q⟩;rw[bb4,bf8];lia
abbrev kx2:V->List V->Hp->VK->Prop:=fun x vs H Q=>∃l b xs zs,x= .ref l/\vs=[.ref b]/\H l=some (.lst xs)/\H b=some (.lst zs)/\xs.length+zs.length<=sizeLine/\Q .non (upd H l (.lst (xs++zs)))
def ko1:MtM X "list.extend" kx2:=by
 intro pI s σ H x vs v us Q I rx rv h;obtain⟨l,b,xs,zs,rfl,rfl,hH,hB,hz,q⟩:=h;cases rx;obtain⟨u,rfl,ru⟩:=rv.one;cases ru;obtain⟨z,its,n,r,hl,e⟩:=I.lstM hH;obtain⟨z2,its2,n2,r2,hl2,e2⟩:=I.lstM hB;have hsz:its.toArray.size+its2.toArray.size<=sizeLine:=by rw[bd6,bd6];lia
 have hlong: ¬(!its.toArray.isEmpty&&bt3 (its.toArray.size+its2.toArray.size))=true:=by
  rw[klp hsz,b07];exact bb6
 refine b28 F.slot_list_extend ⟨_,e,rfl⟩ F.entry_list_extend (F.args_list_extend_2 _ _)
  (AutoSeq1.list_extend_list_list_0 l its.toArray n b its2.toArray n2 hlong (by rw[bd6];lia) (by lia)) ⟨e,e2,?_⟩
 refine⟨.non,_,I.lset (its':=its++its2) hH e (by simp) (r.append r2) ?_,rfl,q⟩;rw[bb4];lia
abbrev rPop:V->List V->Hp->VK->Prop:=fun x vs H Q=>∃l xs y,x= .ref l/\vs=[]/\H l=some (.lst xs)/\xs[xs.length-1]?=some y/\Q y (upd H l (.lst xs.dropLast))
def k16:MtM X "list.pop" rPop:=by
 intro pI s σ H x vs v us Q I rx rv h;obtain⟨l,xs,y,rfl,rfl,hH,hy,q⟩:=h;cases rx;have hus:=rv.zero;subst hus;obtain⟨z,its,n,r,hl,e⟩:=I.lstM hH;obtain⟨u,hu,ru⟩:=r.get hy;have hy':its.toArray[its.toArray.size-1]?=some u:=by
  show its.toArray[its.length-1]?=some u;rw[<- bf2,<- hl];exact hu
 refine b28 cj5 ⟨_,e,rfl⟩ ch3 (F.args_list_pop_1 _) (MeetsSeq.list_pop_last l its.toArray n u hy' (by rw[bd6];lia)) ⟨e,?_⟩;refine⟨y,_,I.lset (its':=its.dropLast) hH e ?_ r.dropLast ?_,ru,q⟩
 .show its.toArray.eraseIdxIfInBounds (its.toArray.size-1)=its.dropLast.toArray;rw[bd6,bz4,knm]
 .rw[List.length_dropLast];lia
abbrev k17:V->List V->Hp->VK->Prop:=fun x vs H Q=>∃l xs i k y,x= .ref l/\vs=[.int i]/\H l=some (.lst xs)/\ -(2 ^ 63)<=i/\i<2 ^ 63/\seqIndex? i xs.length=some k/\xs[k]?=some y/\Q y (upd H l (.lst (xs.eraseIdx k)))
def klq:MtM X "list.pop" k17:=by
 intro pI s σ H x vs v us Q I rx rv h;obtain⟨l,xs,i,k,y,rfl,rfl,hH,h1,h2,hk,hy,q⟩:=h;cases rx;obtain⟨u,rfl,ru⟩:=rv.one;obtain⟨t,rfl⟩:=ru;obtain⟨z,its,n,r,hl,e⟩:=I.lstM hH;obtain⟨w,hw,rw'⟩:=r.get hy;refine b28 cj5 ⟨_,e,rfl⟩ ch3 (F.args_list_pop_2 _ _)
  (MeetsSeq.list_pop_at l its.toArray n i t k w (fitsIndex_both h1 h2) (by rw[bd6,<- hl];exact hk) (by rw[<- bf2];exact hw) (by rw[bd6];lia)) ⟨e,?_⟩
 refine⟨y,_,I.lset (its':=its.eraseIdx k) hH e ?_ (r.eraseIdx k) ?_,rw',q⟩
 .show its.toArray.eraseIdxIfInBounds k=(its.eraseIdx k).toArray;rw[bz4]
 .have:=kjk xs k;lia
abbrev rCat:R2:=fun x y H Q=>∃l b xs zs,x= .ref l/\y= .ref b/\H l=some (.lst xs)/\H b=some (.lst zs)/\xs.length+zs.length<=sizeLine/\∀p,H p=none->Q (.ref p) (upd H p (.lst (xs++zs)))
def k18:OpR X (binaryOp .Add) rCat:=by
 intro pI s σ H x y v u Q I rx ry h;obtain⟨l,b,xs,zs,rfl,rfl,hH,hB,hz,q⟩:=h;cases rx;cases ry;obtain⟨z,its,n,r,hl,e⟩:=I.lstM hH;obtain⟨z2,its2,n2,r2,hl2,e2⟩:=I.lstM hB;refine PySem.P.add_list e e2 ?_ (by rw[bd6,bd6];lia);have ea:its.toArray++its2.toArray=(its++its2).toArray:=by simp
 rw[ea];exact⟨.ref _,_,I.lnew (t':=s.toks) (r.append r2) (by rw[bb4];lia),rfl,q _ I.fresh⟩
abbrev rRep:R2:=fun x y H Q=>∃l k xs,x= .ref l/\y= .int k/\H l=some (.lst xs)/\ -(2 ^ 63)<=k/\k<2 ^ 63/\xs.length*k.toNat<=sizeLine/\
 ∀p,H p=none->Q (.ref p) (upd H p (.lst (bf6 k.toNat xs).flatten))
def kx3{α:Type}(xs:List α)(k:Nat):(bf6 k xs).flatten.length=k*xs.length:=by
 induction k with
 | zero=>simp
 | succ k ih=>rw[bk3,bo3,bb4,ih,cg5,Nat.add_comm]
def k19:OpR X (binaryOp .Mult) rRep:=by
 intro pI s σ H x y v u Q I rx ry h;obtain⟨l,k,xs,rfl,rfl,hH,h1,h2,hz,q⟩:=h;cases rx;obtain⟨t,rfl⟩:=ry;obtain⟨z,its,n,r,hl,e⟩:=I.lstM hH;have hlen:its.toArray.size*k.toNat<=sizeLine:=by rw[bd6,<- hl];exact hz
 have hcap: ¬its.toArray.size*k.toNat > (2 ^ 63-1)/8:=by
  have:(sizeLine:Nat)<=(2 ^ 63-1)/8:=by decide
  lia
 have hfit: ¬(!Builtin.List.listFitsIndex k)=true:=by
  rw[fitsIndex_both h1 h2];exact bb6
 have hlong: ¬bt3 (its.toArray.size*k.toNat)=true:=by
  rw[klp hlen];exact bb6
 have hnew:ce9 (fun x1 x2=>x1++x2) #[] (bf6 (if its.toArray.isEmpty=true then 0 else k.toNat) its.toArray)=(bf6 k.toNat its).flatten.toArray:=by
  have f0: ∀m:Nat,ce9 (fun x1 x2=>x1++x2) #[] (bf6 m its.toArray)=(bf6 m its).flatten.toArray:=fun m=>by
   have:=kjl its m [];rw[by5]at this;exact this
  rw[f0];cases its with
  | nil=>simp
  | cons a r'=>rw[zN (by simp)]
 refine wpAny_binaryOp_repeat_ref (T:="list") (U:="int") (by decide) ⟨_,e,rfl⟩ (fun s'=>cl6 s' k t) noFill_list_mul F.fills_int_mul cj6 repeat_list F.slot_int_index.lookup
  (b28 cj6 (cl6 s k t) F.entry_int_rmul (F.args_int_rmul_2 _ _) (int___rmul___int_list k t l its.toArray n)
    ⟨e,rfl,⟨_,e,rfl⟩,b28 F.slot_list_mul ⟨_,e,rfl⟩ F.entry_list_mul (F.args_list_mul_2 _ _) (AutoListH.list___mul___list_int_3 l its.toArray n k t hfit hcap hlong) ⟨e,?_⟩⟩)
 rw[hnew];exact⟨.ref _,_,I.lnew (t':=s.toks) (r.rep k.toNat) (by rw[kx3,cn7];exact hz),rfl,q _ I.fresh⟩
end
section
variable{prog:bb9}{w:be5}{A:bg1}{E:ba6->ba7->Prop}{s:ba7}
end
section
variable{X:Cx}
end
end L2
namespace Att
open PySem PySem.W PySem.Calls PyProof.Rows
def kgf{P:Params}{h:Heap}: ∀(ns:List Int)(vs:List ba6),WellAll P h vs (ns.map WData.int)->IntsAre vs ns:=by
 intro ns;induction ns with
 | nil=>
   intro vs w;rw[b12]at w;cases w;exact .nil
 | cons n ns ih=>
   intro vs w;rw[bg2]at w;cases w with
   | cons a b=>
     cases a;exact .cons _ _ (ih _ b)
def ko2{l:OpenLaw}{n:Nat}(hn:l.most=some n){P:Params}{h:Heap}{args:List WData}{vals:List ba6}
 (hpre:l.row.toRowW.claim.pre args=true)(hwl:WellAll P h vals args):
 ∃a vs ns,vals=[bg0 a]/\args=[WData.list (ns.map WData.int)]/\h.get? a=some {cls:= .type "list",data:= .seq vs.toArray}/\IntsAre vs ns/\ns.length<=n:=by
 have hsh:WShape.hasAll [] args [.list .int]=true:=(pre_splitW hpre).1;have hc:l.pre.holds [] {args:=args}=true:=(pre_splitW hpre).2;obtain⟨d,r,rfl,h1,h2⟩:=hasAllW_cons hsh;obtain rfl:=hasAllW_nil h2;obtain⟨xs,rfl,h3⟩:=hasW_list h1;obtain⟨ns,rfl⟩:=items_int h3;have hlen:ns.length<=n:=by
  unfold OpenLaw.pre at hc;have h4:(WTm.not (.lt (.lit (.int (n:Int))) (.len (.arg 0)))).holds [] {args:=[.list (ns.map .int)]}=true:=by
   have h4:=(holds_andW hc).1;rw[hn]at h4;exact h4
  have h5:=condW_of h4 (w_not (w_lt w_lit (w_len_list (w_arg rfl))));rw[ba3]at h5;refine ch4 fun q=>?_;have q':(n:Int)<((ns.length:Nat):Int):=by lia
  first
   | (rw[zT q']at h5;exact zA h5 (by decide))
   | (simp at h5;lia)
 cases hwl with
 | cons w1 w2=>
   cases w2;cases w1 with
   | list ho hall=>exact⟨_,_,ns,rfl,rfl,ho,kgf ns _ hall,hlen⟩
def ko3(l:OpenLaw)(args:List WData):l.row.toRowW.claim.post args (.bool true) args=true:=
 postW_of (r:=l.row.toRowW) (X:=(true==true))
  (show cp4 [] (.bool true) .bool=true by first|rfl|decide|simp[cp4,WShape.arms,WShape.armsAll])
  (show(WTm.eq .res (.lit (.bool true))).value [] {args:=args,res:=some (.bool true),after:=args}=some (.bool (true==true))from w_eq_bool (w_res rfl) w_lit) rfl
def attach_call{l:OpenLaw}{n:Nat}{q:bb9}{loose:List Str}{XP:(Str->Option ba6)->Heap->Prop}{YP:be5->Heap->Prop}{d:DefRec}
 (hn:l.most=some n)(hdf:d.params.defaults=[])
 (call: ∀(w:be5)(s₀ s₁:ba7)(mg mb:Str->Option ba6)(fa:Addr)(o:Obj)(pm cd doc:ba6)(a:Addr)(vs:List ba6)(ns:List Int),
   Ground q loose [] XP w s₀ mg mb s₁.heap->YP w s₁.heap->
   s₁.heap.get? fa=some o->o.data= .func (docDef d.name d.params d.body d.scope pm cd doc)->s₁.heap.CodeRec cd d.name->mg d.name=some (.ref fa)->
   s₁.heap.get? a=some {cls:= .type "list",data:= .seq vs.toArray}->IntsAre vs ns->ns.length<=n->s₁.gens= #[]->
   codeAny (bf9 l.prog w) callerA (.call (.ref fa) ⟨[.ref a],[]⟩) (fun r s'=>r= .ok (.ret (.bool true))/\OldK s₁.heap s'.heap/\s'.os=s₁.os/\AllBare s'.gens) s₁):
 WalkO q loose XP YP l.row.toRowW d [] (fun f vs=>cl7 f vs):=by
 intro w s₀ s₁ mg mb G Y fa o pm cd doc dV kV ho hd hcd hD hmg hg args vals as hpre hlay hrd hwl hlo;obtain rfl:dV= .none:=Dflts.none hD hdf;obtain rfl:kV= .none:=Dflts.noKw hD;obtain⟨a,vs,ns,rfl,rfl,hobj,hints,hlen⟩:=ko2 hn hpre hwl;refine enter_call (b48 (call w s₀ s₁ mg mb fa o pm cd doc a vs ns G Y ho (fd_plain hd) hcd hmg hobj hints hlen hg) fun r s' hq=>?_);obtain⟨rfl,h2,h3,h4⟩:=hq;exact⟨.inl ⟨.bool true,.bool true,[],rfl,fun O=>rfl,.bool true,ko3 l _,fun O=>⟨bz5,fun O hm=>(nomatch hm)⟩⟩,h2,h3,h4⟩
section
variable{prog:bb9}{w:be5}{A:bg1}{E:ba6->ba7->Prop}{s:ba7}{K:Frag}
end
end Att
namespace L2
open PySem PySem.Spec PyProof.Rows
def kjm: ∀{vs:List ba6}{ns:List Int},IntsAre vs ns->Vals (ns.map V.int) vs
 | _,_,.nil=> .nil
 | _,_,.cons n t h=> .cons ⟨t,rfl⟩ (kjm h)
abbrev Only(H:Hp):Prop:=∀b,H b=none\/∃o xs,H b=some (.frz o (.lst xs))
def kti{P:bb9}{w:be5}{K:ba2}{mg mb:Str->Option ba6}{CX:CXT}{k:Nat}{fa a:Addr}{fd:be7}{x:Str}{sp:Sp}{s₁:ba7}{vs:List ba6}{ns:List Int}
 (KX:K.In s₁.heap)(hns:s₁.heap.Ns bi5 mg)(hb:s₁.heap.Ns builtinsNs mb)(hbb: ∀x:Str,x≠"__name__"->mb x=bootBuiltins x)(hlim:s₁.heap.NoLimit)(hg:s₁.gens= #[])
 (ha:s₁.heap.get? a=some {cls:= .type "list",data:= .seq vs.toArray})(hi:IntsAre vs ns)(hl:ns.length<=sizeLine)(hr:Room k callerA)
 (F: ∀base:Heap,K.In base->base.Ns bi5 mg->FnOk P w K mg base CX k fa fd [x] sp)(hbind: ∀(s:ba7)(u:ba6),BindsTo s fd ⟨[u],[]⟩ [(x,u)])
 (hsp: ∀H:Hp,Only H->SqL K H a (ns.map V.int)->sp [.ref a] H (fun v O=>v= .bl true) fun O O O=>False)
 (hCX: ∀H e s',CX [] H s₁ (fun O O O=>False) e s'->False):
 codeAny (bf9 P w) callerA (.call (.ref fa) ⟨[.ref a],[]⟩) (fun r s'=>r= .ok (.ret (.bool true))/\OldK s₁.heap s'.heap/\s'.os=s₁.os/\AllBare s'.gens) s₁:=by
 have rv:=kjm hi;have lenV:=hi.length;have core: ∀H:Hp,Only H->SqL K H a (ns.map V.int)->HOk P w H s₁.heap->(∀ b,H b≠none->b=a)->(H a≠none->K.lookup a=none)->
  codeAny (bf9 P w) callerA (.call (.ref fa) ⟨[.ref a],[]⟩) (fun r s'=>r= .ok (.ret (.bool true))/\OldK s₁.heap s'.heap/\s'.os=s₁.os/\AllBare s'.gens) s₁:=by
  intro H hO hS hok hA hK;have base_of: ∀{b:Addr}{o:Obj},s₁.heap.get? b=some o->H b=none->(ks9 s₁.heap H).get? b=some o:=fun e n=>kta e n;have noA: ∀{b:Addr}{o:Obj}{es:Array DictEntry}{ep:Nat},s₁.heap.get? b=some o->o.data= .dict es ep->H b=none:=fun{b o es ep} e d=>by
   cases q:H b with
   | none=>rfl
   | some u=>
     have e':b=a:=hA b (by rw[q];simp);subst e';rw[ha]at e;cases e;have d':Data.seq vs.toArray _=Data.dict es ep:=d;cases d'
  have nsK: ∀{b:Addr}{m:Str->Option ba6},s₁.heap.Ns b m->(ks9 s₁.heap H).Ns b m:=fun{b m} ⟨o,es,ep,e,d,r⟩=>⟨o,es,ep,base_of e (noA e d),d,r⟩
  have hKb:K.In (ks9 s₁.heap H):=fun b o e=>base_of (KX b o e) (by
   cases q:H b with
   | none=>rfl
   | some u=>
     have e':b=a:=hA b (by rw[q];simp);subst e';rw[hK (by rw[q];simp)]at e;cases e)
  have hM:Mod K mg (ks9 s₁.heap H):=⟨hKb,nsK hns,⟨mb,nsK hb,hbb⟩,let⟨mc,h1,h2⟩:=hlim;⟨mc,nsK h1,h2⟩⟩
  have e0:Env0 P w K mg (ks9 s₁.heap H) callerA [] s₁ H:=⟨rfl,hM,fun b o e=>kxi e,Nat.le_of_eq (koi _ _),trivial,fun b hb=>zA (show b∈([]:List Addr)from hb) (by simp),hok,.of_eq hg⟩
  refine b48 ((F _ hKb (nsK hns)).run callerA [] s₁ H ⟨[.ref a],[]⟩ [.ref a] [.ref a] _ _ hr e0 (hbind s₁ (.ref a)) (.cons rfl .nil) (hsp H hO hS)) fun r s' h=>?_;cases r with
  | error e=>exact(hCX H e s' h).elim
  | ok fl=>
    cases fl with
    | next=>exact bu9 h
    | brk=>exact bu9 h
    | cont=>exact bu9 h
    | ret u=>
      obtain⟨v,H',os,bare,un,hok',r',q⟩:=h;have q':v= .bl true:=q;subst q';obtain rfl:u=cl2 true:=r';refine⟨rfl,OldK.of_keep fun b o e=>?_,os,bare⟩;cases q:H b with
      | none=>exact un.keep b o e q (by intro z;exact zA (show b∈([]:List Addr)from z) (by simp)) (by simp)
      | some u=>
        rcases hO b with z|⟨ob,xs,z⟩
        .rw[q]at z;cases z
        .have z2:=un.frzs b ob _ z;obtain⟨e1,_⟩:=hok b _ z;obtain⟨e2,_⟩:=hok' b _ z2;rw[e]at e1;cases e1;exact e2
 cases hk:K.lookup a with
 | some o=>
   have e:=KX a o hk;rw[ha]at e;cases e;refine core (fun O=>none) (fun O=> .inl rfl) (.inr ⟨_,vs.toArray,_,hk,rfl,rfl,rfl,by rw[bd6,lenV];exact hl,by simpa using rv⟩) (fun b u z=>by have z':(none:Option HO)=some u:=z;cases z') (fun b z=>zA rfl z) fun z=>zA rfl z
 | none=>
   refine core (fun b=>if b=a then some (.frz {cls:= .type "list",data:= .seq vs.toArray} (.lst (ns.map V.int)))else none) (fun b=>?_) (.inl (.inr ⟨{cls:= .type "list",data:= .seq vs.toArray},zP rfl⟩)) (fun b u z=>?_) (fun b z=>?_) fun O=>hk
   .by_cases hb:b=a
    .exact .inr ⟨_,_,zP hb⟩
    .exact .inl (zN hb)
   .by_cases hb:b=a
    .have z':=(zP hb).symm.trans z;cases z';subst hb;exact⟨ha,by rw[ba3];exact hl,vs,_,rv,ha⟩
    .have z':=(zN hb).symm.trans z;cases z'
   .by_cases hb:b=a
    .exact hb
    .exact zA (zN hb) z
def kx4{l:b31}{n k:Nat}{q:bb9}{loose:List Str}{XP:(Str->Option ba6)->Heap->Prop}{YP:be5->Heap->Prop}{d:DefRec}{K:Params->ba2}{CX:be5->CXT}{sp:be5->Sp}{x:Str}
 (hn:l.most=some n)(hn2:n<=sizeLine)(hdf:d.params.defaults=[])(hr:Room k callerA)
 (hY: ∀(w:be5)(h:Heap),YP w h->(K w.params).In h)
 (F: ∀(w:be5)(mg:Str->Option ba6)(fa:Addr)(h:Heap),(K w.params).In h->h.Ns bi5 mg->mg d.name=some (.ref fa)->
   ∃fd:be7,(∀ (s:ba7)(u:ba6),BindsTo s fd ⟨[u],[]⟩ [(x,u)])/\
    ∀base:Heap,(K w.params).In base->base.Ns bi5 mg->FnOk l.prog w (K w.params) mg base (CX w) k fa fd [x] (sp w))
 (hsp: ∀(w:be5)(H:Hp)(a:Addr)(ns:List Int),ns.length<=n->Only H->SqL (K w.params) H a (ns.map V.int)->sp w [.ref a] H (fun v O=>v= .bl true) fun O O O=>False)
 (hCX: ∀(w:be5)(H:Hp)(s:ba7)(e:ba6)(s':ba7),CX w [] H s (fun O O O=>False) e s'->False):
 cm2 q loose XP YP l.row.toRowW d [] (fun f vs=>cl7 f vs):=by
 refine Att.attach_call hn hdf fun w s₀ s₁ mg mb fa o pm cd doc a vs ns G Y ho hd hcd hmg hobj hints hlen hg=>?_;have KX:=hY w _ Y;obtain⟨fd,hb,hF⟩:=F w mg fa _ KX G.T.g hmg;exact kti KX G.T.g G.T.b G.T.builtins G.T.nolimit hg hobj hints (bi9 hlen hn2) hr hF hb (fun H hO hS=>hsp w H a ns hlen hO hS) fun H e s'=>hCX w H s₁ e s'
abbrev kca(s:Stmt):Arguments:=match s with
 | .FunctionDef _ a _ _ _ _ _ _ _ _=>a
 | _=>{posonlyargs:=[],args:=[],vararg:=none,kwonlyargs:=[],kw_defaults:=[],kwarg:=none,defaults:=[]}
abbrev kb1(s:Stmt):List Stmt:=match s with
 | .FunctionDef _ _ b _ _ _ _ _ _ _=>b
 | _=>[]
abbrev kaj(s:Stmt):b05:=match s with
 | .FunctionDef _ _ _ _ _ _ sc _ _ _=>sc
 | _=>{kind:= .function,names:=[],isGenerator:=false,isCoroutine:=false}
@[reducible]def CX0:CXT:=fun O O O O O O=>False
@[reducible]def E0:XK:=fun O O O=>False
structure Fun(K:ba2)(x qual:Str)(st:Stmt)(f:Addr)(fd:be7):Prop where
 ex: ∃(oc:ba6)(od:Option Addr)(kV doc pm:ba6)(an:Option Addr)(cdv ct:ba6)(osl:Array (Option ba6)),
  fd=bn1 x qual (kca st) (kb1 st) (kaj st) .none kV doc pm an cdv ct/\K.lookup f=some ⟨oc,od,.func fd,osl⟩/\b06 K cdv qual=true
 kp:b08 K (.ref f)=true
section
variable{P:bb9}{w:be5}{K:ba2}{mg:Str->Option ba6}{base:Heap}
def Fun.ok{x qual:Str}{st:Stmt}{f:Addr}{fd:be7}{N ps:List Str}{k:Nat}{sp:Sp}(F:Fun K x qual st f fd)(S:FnScope N ps (kaj st))(len: ∀vs H Q E,sp vs H Q E->vs.length=ps.length)
 (hbody: ∀(cdv:ba6)(A:bg1)(outer:List Env)(s:ba7)(H:Hp)(vs:List V)(Q:VK)(E:XK),Room k (A.deeper (envOfC qual (kaj st) s.heap.objs.size f cdv))->sp vs H Q E->
   ∃t,PSs (kv1 CX0 P w K mg base N qual (kaj st) f cdv A outer s H E).nox (kb1 st) t/\t {nx:=fun O H'=>Q .non H',rt:=Q} (start N vs) H):FnOk P w K mg base CX0 (k+1) f fd ps sp:=by
 obtain⟨oc,od,kV,doc,pm,an,cdv,ct,osl,rfl,lk,hcd⟩:=F.ex;refine fn_of lk hcd S len fun A outer s H vs Q E hr hsp=>?_;obtain⟨t,h,q⟩:=hbody cdv A outer s H vs Q E hr hsp;exact⟨t,h.nox,q⟩
def Fun.binds{x qual:Str}{st:Stmt}{f:Addr}{fd:be7}{ps:List Str}(F:Fun K x qual st f fd)
 (h: ∀(kV doc pm:ba6)(an:Option Addr)(cdv ct:ba6)(us:List ba6),us.length=ps.length->bindArgs (bn1 x qual (kca st) (kb1 st) (kaj st) .none kV doc pm an cdv ct) ⟨us,[]⟩=pure (ps.zip us)):Binds K fd ps []:=by
 obtain⟨oc,od,kV,doc,pm,an,cdv,ct,osl,rfl,lk,hcd⟩:=F.ex;exact .all (h kV doc pm an cdv ct)
def kv3{x qual:Str}{st:Stmt}{f:Addr}{oc:ba6}{od an:Option Addr}{osl:Array (Option ba6)}{kV doc pm cdv ct:ba6}(l:K.lookup f=some ⟨oc,od,.func (bn1 x qual (kca st) (kb1 st) (kaj st) .none kV doc pm an cdv ct),osl⟩)
 (c:b06 K cdv qual=true)(k:b08 K (.ref f)=true):Fun K x qual st f (bn1 x qual (kca st) (kb1 st) (kaj st) .none kV doc pm an cdv ct):=⟨⟨oc,od,kV,doc,pm,an,cdv,ct,osl,rfl,l,c⟩,k⟩
end
section
variable{X:Cx}
def pv(i:Nat){x:Str}{pos:Pos}(hN:autoParam (X.N[i]?=some x) Z4)(hv:autoParam (Vis X.env.scope x) u6._auto_1)(hd:autoParam ((x==("__debug__":Str))=false) Z2)
 (hcd:autoParam ((x==("__classdict__":Str))=false) Z2):PE X (.Name x pos) (kg9 i):=k1c hN hv hd hcd
end
def kck{c A B:Prop} [Decidable c](h1:c->A)(h2: ¬c->B):if c then A else B:=by
 by_cases h:c
 .rw[zP h];exact h1 h
 .rw[zN h];exact h2 h
abbrev Same(H H':Hp):Prop:=∀b o,H b=some o->H' b=some o
def Same.refl(H:Hp):Same H H:=fun O O h=>h
def Same.trans{H H1 H2:Hp}(a:Same H H1)(b:Same H1 H2):Same H H2:=fun c o h=>b c o (a c o h)
def Same.free{H H':Hp}(e:Same H H'){l:Addr}(h:H' l=cp0):H l=cp0:=by
 cases q:H l with
 | none=>rfl
 | some o=>
   rw[e l o q]at h;cases h
def Same.seq{K:ba2}{H H':Hp}{a:Addr}{xs:List V}(e:Same H H')(h:SqL K H a xs):SqL K H' a xs:=by
 rcases h with(h|⟨o,h⟩)|h
 .exact .inl (.inl (e _ _ h))
 .exact .inl (.inr ⟨o,e _ _ h⟩)
 .exact .inr h
section
variable{κ:Type} [DecidableEq κ]
end
abbrev kb3(env:Env):List (Str×bq6)->List (Str×Addr)->List (Str×Addr)
 | [],acc=>acc
 | (n,k)::r,acc=>if(k==bk8)=true then kb3 env r ((n,(env.cells.lookup n).getD 0)::acc)else kb3 env r acc
def kfh{env:Env}(f:Str×bq6->List (Str×Addr)->Sem (ForInStep (List (Str×Addr))))
 (hf: ∀name kind cs,f (name,kind) cs=if(kind==bk8)=true then(cellOf env name >>= fun a=>pure (.yield ((name,a)::cs)))else pure (.yield cs)):
 ∀(names:List (Str×bq6))(acc:List (Str×Addr)),(∀ x∈names,x.2= .free->∃c,env.cells.lookup x.1=some c)->forIn names acc f=pure (kb3 env names acc)
 | [],acc,_=>by rw[bs8];rfl
 | (n,k)::r,acc,h=>by
   have hr: ∀x∈r,x.2= .free->∃c,env.cells.lookup x.1=some c:=fun x hx=>h x (bc0 _ hx);rw[bt4,hf];unfold kb3;by_cases hk:(k==bk8)=true
   .rw[zP hk,zP hk];obtain⟨c,e⟩:=h (n,k) bb8 (by simpa using hk);have e:env.cells.lookup n=some c:=e;have e1:cellOf env n=pure c:=(by unfold cellOf;rw[e])
    rw[e1,e];exact kfh f hf r _ hr
   .rw[zN hk,zN hk];exact kfh f hf r _ hr
def ke2{env:Env}{scope:b05}(h: ∀x∈scope.names,x.2= .free->∃c,env.cells.lookup x.1=some c):closureFor scope env=pure (kb3 env scope.names []):=by
 simp only[closureFor];rw[kfh (env:=env) _ (fun name kind cs=>?_) scope.names [] h]
 .rfl
 .cases hk:kind==bk8 <;> simp[hk]
set_option tactic.hygienic true in
def kfi{env:Env}: ∀{names:List (Str×bq6)}{acc:List (Str×Addr)}{p:Str×Addr},p∈kb3 env names acc->p∈acc\/(p.1,bk8)∈names/\p.2=(env.cells.lookup p.1).getD 0
 | [],_,_,h=> .inl h
 | (n,k)::r,acc,p,h=>by
   unfold kb3 at h;split at h
   .rename_i hk;rcases kfi h with q|⟨q1,q2⟩
    .rcases bc6.mp q with rfl|q
     .exact .inr ⟨by rw[beq_iff_eq.mp hk];exact bb8,rfl⟩
     .exact .inl q
    .exact .inr ⟨bc0 _ q1,q2⟩
   .rcases kfi h with q|⟨q1,q2⟩
    .exact .inl q
    .exact .inr ⟨bc0 _ q1,q2⟩
def keh{env:Env}{x:Str}: ∀{names:List (Str×bq6)}{acc:List (Str×Addr)},acc.lookup x=some ((env.cells.lookup x).getD 0)->(kb3 env names acc).lookup x=some ((env.cells.lookup x).getD 0)
 | [],_,h=>h
 | (n,k)::r,acc,h=>by
   unfold kb3;split
   .refine keh ?_;rw[bl6];cases hb:x==n with
    | true=>
      have e:=beq_iff_eq.mp hb;subst e;rfl
    | false=>exact h
   .exact keh h
def kc8{env:Env}{x:Str}: ∀{names:List (Str×bq6)}{acc:List (Str×Addr)},names.lookup x=some .free->(kb3 env names acc).lookup x=some ((env.cells.lookup x).getD 0)
 | [],_,h=>by cases h
 | (n,k)::r,acc,h=>by
   rw[bl6]at h;unfold kb3;cases hb:x==n with
   | true=>
     rw[hb]at h;have e:=beq_iff_eq.mp hb;subst e;have h:k=bk8:=bf4 h;subst h;rw[zP (by rfl)];refine keh ?_;rw[bl6,hb]
   | false=>
     rw[hb]at h;split
     .exact kc8 h
     .exact kc8 h
abbrev InjL(cs:List (Str×Addr)):Prop:=∀p∈cs,∀q∈cs,p.2=q.2->p.1=q.1
def kc9: ∀{names:List (Str×bq6)}{n:Nat}{acc:List (Str×Addr)},(∀ p∈acc,p.2<n)->InjL acc->InjL (cellsFrom n names acc)
 | [],_,_,_,h=>h
 | (nm,k)::r,n,acc,hl,h=>by
   unfold cellsFrom;split
   .refine kc9 (fun p hp=>?_) fun p hp q hq e=>?_
    .rcases bc6.mp hp with rfl|hp
     .exact bs3 _
     .exact bl0 (hl p hp)
    .rcases bc6.mp hp with rfl|hp <;> rcases bc6.mp hq with rfl|hq
     .rfl
     .have e:n=q.2:=e;exact zA (hl q hq) (by rw[<- e];exact bk7 _)
     .have e:p.2=n:=e;exact zA (hl p hp) (by rw[e];exact bk7 _)
     .exact h p hp q hq e
   .exact kc9 hl h
def kda: ∀{names:List (Str×bq6)}{n:Nat}{acc:List (Str×Addr)}{p:Str×Addr},p∈cellsFrom n names acc->p∈acc\/n<=p.2
 | [],_,_,_,h=> .inl h
 | (nm,k)::r,n,acc,p,h=>by
   unfold cellsFrom at h;split at h
   .rcases kda h with q|q
    .rcases bc6.mp q with rfl|q
     .exact .inr (bb7 _)
     .exact .inl q
    .exact .inr (by lia)
   .exact kda h
set_option tactic.hygienic true in
def kcf: ∀{names:List (Str×bq6)}{h:Heap}{acc:List (Str×Addr)},(∀ p∈acc,∃v,h.IsCell p.2 v)->∀p∈cellsFrom h.objs.size names acc,∃v,(pushCells h names).IsCell p.2 v
 | [],_,_,h,p,hp=>h p hp
 | (nm,k)::r,h,acc,ha,p,hp=>by
   unfold cellsFrom at hp;unfold pushCells;split
   .rename_i hk;rw[zP hk]at hp;have e:h.objs.size+1=(h.push {cls:= .type "cell",data:= .cell none}).objs.size:=(bn7 ..).symm;rw[e]at hp;refine kcf (fun q hq=>?_) p hp;rcases bc6.mp hq with rfl|hq
    .exact⟨none,_,bc7 _ rfl,rfl⟩
    .obtain⟨v,z⟩:=ha q hq;exact⟨v,z.keeps fun b o e=>ba5 _ e⟩
   .rename_i hk;rw[zN hk]at hp;exact kcf ha p hp
def kdb{x:Str}{c:Addr}{lo:Nat}: ∀{names:List (Str×bq6)}{n:Nat}{acc:List (Str×Addr)},lo<=n->(names.lookup x=some .cell\/∀c',acc.lookup x=some c'->lo<=c')->
 (cellsFrom n names acc).lookup x=some c->lo<=c
 | [],_,_,_,h,e=>by
   rcases h with h|h
   .cases h
   .exact h c e
 | (y,k)::r,n,acc,hn,h,e=>by
   unfold cellsFrom at e;by_cases hk:(k==bp6)=true
   .rw[zP hk]at e;refine kdb (b71 hn) ?_ e;cases hb:x==y with
    | true=>
      refine .inr fun c' e'=>?_;rw[bl6,hb]at e';have e':n=c':=bf4 e';lia
    | false=>
      rcases h with h|h
      .rw[bl6,hb]at h;exact .inl h
      .refine .inr fun c' e'=>?_;rw[bl6,hb]at e';exact h c' e'
   .rw[zN hk]at e;refine kdb hn ?_ e;rcases h with h|h
    .rw[bl6]at h;cases hb:x==y with
     | true=>
       rw[hb]at h;have h:k=bp6:=bf4 h;subst h;exact zA rfl hk
     | false=>
       rw[hb]at h;exact .inl h
    .exact .inr h
def kcp{x:Str}: ∀{names:List (Str×bq6)}{n:Nat}{acc:List (Str×Addr)},(names.all fun p=>p.1 != x||p.2 != bp6)=true->(cellsFrom n names acc).lookup x=acc.lookup x
 | [],_,_,_=>rfl
 | (y,k)::r,n,acc,h=>by
   rw[List.all_cons,bm4]at h;unfold cellsFrom;by_cases hk:(k==bp6)=true
   .rw[zP hk,kcp h.2,bl6];have h1:(y != x)=true:=by
     have:=h.1;rw[b32]at this;rcases this with z|z
     .exact z
     .rw[bne,hk]at z;cases z
    have hb:(x==y)=false:=by
     cases q:x==y with
     | false=>rfl
     | true=>
       have e:=beq_iff_eq.mp q;subst e;rw[bne_self_eq_false]at h1;cases h1
    rw[hb]
   .rw[zN hk];exact kcp h.2
def kfx{M:Model}{A:bg1}{E:ba6->ba7->Prop}{s:ba7}{scope:b05}{globals:Addr}{cl:List (Str×Addr)}{qual:Str}{env:Env}{Q:Env->ba7->Prop}
 (h:Q {scope:=scope,locals:=s.heap.objs.size,globals:=globals,cells:=cellsFrom (s.heap.objs.size+1) scope.names cl,qual:=qual,func:=none,code:=env.code,frame:=env.frame,builtins:=env.builtins}
   {s with heap:=pushCells (s.heap.push {cls:= .type "dict",data:= .dict #[]}) scope.names}):
 be1 M A (newFunctionEnv scope globals cl [] qual none .none (some env)) Q E s:=by
 simp only[newFunctionEnv,Option.isSome_some,if_true];refine ba0 (wpAny_alloc ?_);refine ba0 (wpAny_layCells _ (fun name kind cells=>by cases hkc:kind==bp6 <;> simp[hkc]) _ _ _ _ ?_);rw[show({s with heap:=s.heap.push {cls:= .type "dict",data:= .dict #[]}}:ba7).heap.objs.size=s.heap.objs.size+1 from bn7 ..];refine ba0 ?_;rw[bs8];exact ba9 (ba9 h)
inductive Caps(X:Cx)(scope:b05):List Str->List (Option Nat)->Prop where
 | nil:Caps X scope [] []
 | own {x:Str} {N:List Str} {js:List (Option Nat)} (r:Caps X scope N js):Caps X scope (x::N) (none::js)
 | cap {x:Str} {N:List Str} {js:List (Option Nat)} (j:Nat) (h1:X.N[j]?=some x) (h2:scope.names.lookup x=some .free) (h3:(scope.names.all fun p=>p.1 != x||p.2 != bp6)=true)
    (r:Caps X scope N js):Caps X scope (x::N) (some j::js)
abbrev kei(σ:St)(js:List (Option Nat)):St:=js.map fun(o:Option Nat)=>o.bind fun(j:Nat)=>(σ[j]?).join
def Caps.len{X:Cx}{scope:b05}: ∀{N:List Str}{js:List (Option Nat)},Caps X scope N js->js.length=N.length
 | _,_,.nil=>rfl
 | _,_,.own r=>zC (· +1) r.len
 | _,_,.cap _ _ _ _ r=>zC (· +1) r.len
def Caps.get{X:Cx}{scope:b05}{σ:St}: ∀{N:List Str}{js:List (Option Nat)}{i:Nat}{x:Str}{v:V},Caps X scope N js->N[i]?=some x->(kei σ js)[i]?=some (some v)->
 ∃j:Nat,X.N[j]?=some x/\σ[j]?=some (some v)/\scope.names.lookup x=some .free/\(scope.names.all fun p=>p.1 != x||p.2 != bp6)=true
 | _,_,_,_,_,.nil,h,_=>by simp at h
 | _,_,0,_,_,.own r,_,h2=>by simp[kei]at h2
 | _,_,i+1,_,_,.own r,h1,h2=>Caps.get (i:=i) r (by simpa using h1) (by simpa[kei]using h2)
 | _,_,0,x,v,.cap j a b c r,h1,h2=>by
   simp only[br0,bw3]at h1;subst h1;refine⟨j,a,?_,b,c⟩;simp only[kei,bg2,br0,bw3,Option.bind_some]at h2;cases e:σ[j]? with
   | none=>rw[e]at h2;cases h2
   | some z=>rw[e]at h2;rw[show z=some v from h2]
 | _,_,i+1,_,_,.cap _ _ _ _ r,h1,h2=>Caps.get (i:=i) r (by simpa using h1) (by simpa[kei]using h2)
abbrev kbd(X:Cx)(scope:b05)(N':List Str)(s:ba7)(H:Hp)(fp:List Addr):Cx where
 prog:=X.prog
 w:=X.w
 K:=X.K
 mg:=X.mg
 base:=X.base
 A:=X.A
 N:=N'
 s₀:=s
 H₀:=H
 env:={scope:=relabel scope X.env,locals:=s.heap.objs.size,globals:=X.env.globals,cells:=cellsFrom (s.heap.objs.size+1) scope.names (kb3 X.env scope.names []),qual:=X.env.qual,func:=none,code:=X.env.code,frame:=X.env.frame,builtins:=X.env.builtins}
 outer:=X.stack
 stack:=X.stack
 ex:=fp
 fn:=fun x=>decide (scope.names.lookup x=some .cell)
 calm:=X.calm
 pn:=[]
 xe:=fun O O=>False
def kcx{scope:b05}{env:Env}{x:Str}{k':bq6}: ∀{names:List (Str×bq6)},
 (names.map fun(p:Str×bq6)=>if(p.2==bk8&&env.scope.kind== .function&&env.kindOf p.1==some .cell)=true then(p.1,bp6)else(p.1,p.2)).lookup x=some k'->
 ∃k,names.lookup x=some k/\(k'=k\/(k= .free/\k'= .cell))
 | [],h=>by cases h
 | (n,k)::r,h=>by
   rw[bg2,bl6]at h;rw[bl6];by_cases hc:(k==bk8&&env.scope.kind== .function&&env.kindOf n==some .cell)=true
   .rw[zP hc]at h;cases hb:x==n with
    | true=>
      rw[hb]at h;rw[bm4,bm4]at hc;exact⟨k,rfl,.inr ⟨beq_iff_eq.mp hc.1.1,(bf4 h).symm⟩⟩
    | false=>
      rw[hb]at h;exact kcx (scope:=scope) h
   .rw[zN hc]at h;cases hb:x==n with
    | true=>
      rw[hb]at h;exact⟨k,rfl,.inl (bf4 h).symm⟩
    | false=>
      rw[hb]at h;exact kcx (scope:=scope) h
def kej{env:Env}{x:Str}: ∀{names:List (Str×bq6)},names.lookup x=some .free->
 (names.map fun(p:Str×bq6)=>if(p.2==bk8&&env.scope.kind== .function&&env.kindOf p.1==some .cell)=true then(p.1,bp6)else(p.1,p.2)).lookup x=some .cell\/
 (names.map fun(p:Str×bq6)=>if(p.2==bk8&&env.scope.kind== .function&&env.kindOf p.1==some .cell)=true then(p.1,bp6)else(p.1,p.2)).lookup x=some .free
 | [],h=>by cases h
 | (n,k)::r,h=>by
   rw[bl6]at h;rw[bg2,bl6];by_cases hc:(k==bk8&&env.scope.kind== .function&&env.kindOf n==some .cell)=true
   .rw[zP hc];cases hb:x==n with
    | true=>exact .inl rfl
    | false=>
      rw[hb]at h;exact kej h
   .rw[zN hc];cases hb:x==n with
    | true=>
      rw[hb]at h;exact .inr h
    | false=>
      rw[hb]at h;exact kej h
section
variable{X:Cx}{scope:b05}{N':List Str}{js:List (Option Nat)}{pI:List (Addr×Obj)}{σ:St}{H:Hp}{s:ba7}{fp:List Addr}
def kjn(caps:Caps X scope N' js)(hkind:scope.kind= .function)(hfree: ∀x∈scope.names,x.2= .free->X.env.kindOf x.1=some .cell\/X.env.kindOf x.1=some .free)
 (I:Inv X pI σ H s)(hfp: ∀b∈fp,kng X pI H b)(hfo: ∀b∈fp,b<s.heap.objs.size):
 Inv (kbd X scope N' s H fp) [] (kei σ js) H {s with heap:=pushCells (s.heap.push {cls:= .type "dict",data:= .dict #[]}) scope.names}:=by
 have keeps: ∀b u,s.heap.get? b=some u->(pushCells (s.heap.push {cls:= .type "dict",data:= .dict #[]}) scope.names).get? b=some u:=fun b u e=>b33 _ _ b u (ba5 _ e);have hlk: ∀x,scope.names.lookup x=some .free->∃c,X.env.cells.lookup x=some c:=fun x e=>I.ok.has x (hfree (x,.free) (bk2 e) rfl);have clo: ∀p∈kb3 X.env scope.names [],X.env.cells.lookup p.1=some p.2:=fun p hp=>by
  rcases kfi hp with z|⟨z1,z2⟩
  .cases z
  .obtain⟨c,e⟩:=I.ok.has p.1 (hfree (p.1,.free) z1 rfl);rw[z2,e];rfl
 have cls: ∀x c,(kbd X scope N' s H fp).env.cells.lookup x=some c->X.env.cells.lookup x=some c\/s.heap.objs.size+1<=c:=fun x c e=>by
  have m:(x,c)∈cellsFrom (s.heap.objs.size+1) scope.names (kb3 X.env scope.names []):=bk2 e;rcases kda m with z|z
  .exact .inl (clo _ z)
  .exact .inr z
 have hsz:(s.heap.push {cls:= .type "dict",data:= .dict #[]}).objs.size=s.heap.objs.size+1:=bn7 ..;have oldlt: ∀x c,X.env.cells.lookup x=some c->c<s.heap.objs.size:=fun x c e=>by
  obtain⟨v,z⟩:=I.cell x c e;exact z.lt
 have cellsIs: ∀p∈cellsFrom (s.heap.objs.size+1) scope.names (kb3 X.env scope.names []),∃v,(pushCells (s.heap.push {cls:= .type "dict",data:= .dict #[]}) scope.names).IsCell p.2 v:=by
  rw[<- hsz];refine kcf fun p hp=>?_;obtain⟨v,z⟩:=I.cell _ _ (clo p hp);exact⟨v,z.keeps fun b o e=>ba5 _ e⟩
 have hinj:InjL (cellsFrom (s.heap.objs.size+1) scope.names (kb3 X.env scope.names [])):=by
  refine kc9 (fun p hp=>bl0 (oldlt _ _ (clo p hp))) fun p hp q hq e=>?_;have e1:=clo p hp;have e2:=clo q hq;rw[<- e]at e2;exact I.ok.inj _ _ _ e1 e2
 refine⟨⟨I.ok.mod,hkind,I.ok.glob,I.ok.blt,bb7 _,fun x y c h1 h2=>?_,fun x hx=>?_,fun x c hf h=>?_,I.ok.hd,I.ok.frames,.inl rfl,fun b hb=>?_,I.bs,bi9 I.ok.bsz I.sz,fun b o e hb=>?_,fun b hb hf=>?_,I.stack,I.stkFree⟩,
  rfl,I.bare,Un.kept keeps,⟨fun O=>none,(Heap.Ns.new s.heap (.type "dict")).keeps (b33 _ _),fun i x v h1 h2 h3=>?_⟩,fun x c h=>?_,I.hok.fresh (bb7 _),fun x c h=>?_,fun p hp=>zA (show p∈([]:List (Addr×Obj))from hp) (by simp),I.hok.kept keeps,?_⟩
 .exact hinj (x,c) (bk2 h1) (y,c) (bk2 h2) rfl
 .have hx:(relabel scope X.env).names.lookup x=some .cell\/(relabel scope X.env).names.lookup x=some .free:=hx;have key:scope.names.lookup x=some .cell\/scope.names.lookup x=some .free:=by
   rcases hx with hx|hx
   .obtain⟨k,e,z⟩:=kcx (scope:=scope) (env:=X.env) hx;rcases z with z|⟨z,_⟩
    .exact .inl (by rw[e,z])
    .exact .inr (by rw[e,z])
   .obtain⟨k,e,z⟩:=kcx (scope:=scope) (env:=X.env) hx;rcases z with z|⟨_,z⟩
    .exact .inr (by rw[e,z])
    .cases z
  have:((cellsFrom (s.heap.objs.size+1) scope.names (kb3 X.env scope.names [])).lookup x).isSome=true:=by
   rcases key with e|e
   .exact bv0 _ _ _ (.inl e)
   .exact bv0 _ _ _ (.inr (by rw[kc8 e];rfl))
  exact bo1.mp this
 .have hf:scope.names.lookup x=some .cell:=zO hf;exact cf0 (kdb (lo:=s.heap.objs.size+1) (bb7 _) (.inl hf) h)
 .refine⟨bf5 (hfo b hb),fun x c h z=>?_⟩;rcases cls x c h with e|e
  .exact(hfp b hb).2.2.2.2.1 x c e z
  .rw[z]at e;exact zA (hfo b hb) (cl8.mpr (cf0 e))
 .rcases(hfp b hb).2.2.2.1 with z|z
  .exact I.ok.noex b o e z
  .exact zA (bh8 (bd0 e) I.ok.bsz) (cl8.mpr z)
 .rcases bc6.mp (I.stkSub b hf)with z|z
  .exact(hfp b hb).2.1 z
  .exact(hfp b hb).2.2.1 z
 .obtain⟨j,a1,a2,a3,a4⟩:=caps.get h1 h2;have kx:=hfree (x,.free) (bk2 a3) rfl;obtain⟨m,hn,hl⟩:=I.loc;have vis:Vis X.env.scope x:=by
   rcases kx with k|k
   .exact .inr (.inl k)
   .exact .inr (.inr k)
  obtain⟨u,r,l⟩:=hl j x v a1 a2 vis;refine⟨u,r,.inr ⟨kej (env:=X.env) a3,?_⟩⟩;rcases l with⟨k,_⟩|⟨_,c,e,z⟩
  .rcases kx with k'|k'
   .rw[k]at k';cases k'
   .rw[k]at k';cases k'
  .refine⟨c,?_,z.keeps keeps⟩;show(cellsFrom (s.heap.objs.size+1) scope.names (kb3 X.env scope.names [])).lookup x=some c;rw[kcp a4,kc8 a3,e];rfl
 .exact cellsIs (x,c) (bk2 h)
 .rcases cls x c h with e|e
  .exact I.freeC x c e
  .exact I.hok.fresh (by lia)
 .show(kei σ js).length=N'.length;unfold kei;rw[ba3,caps.len]
def Inv.unblock{pins':List (Addr×Obj)}{σ':St}{H':Hp}{s':ba7}{h':Heap}(I:Inv X pI σ H s)(hfp: ∀b∈fp,kng X pI H b)(I':Inv (kbd X scope N' s H fp) pins' σ' H' s')(hs:bn0 s.heap.objs.size s'.heap h'):
 Inv X pI σ H' {s' with heap:=h'}:=by
 have ne: ∀b o,s.heap.get? b=some o->b≠s.heap.objs.size:=fun b o e=>bf5 (bd0 e);have u:Un (frs X.stack) fp H H' s.heap h':=by
  refine⟨fun b o e n hb hx=>(hs.2 b (ne b o e)).trans (I'.base.keep b o e n hb hx),fun b o e n hb hx=>?_,I'.base.free,fun b o e hx=>?_,I'.base.tups,I'.base.frzs,I'.base.tbls⟩
  .obtain⟨sl,q⟩:=I'.base.slot b o e n hb hx;exact⟨sl,(hs.2 b (ne b o e)).trans q⟩
  .obtain⟨o',q⟩:=I'.base.there b o e hx;exact⟨o',(hs.2 b (ne b o e)).trans q⟩
 have hf:H' s.heap.objs.size=none:=I'.free;have hok:HOk X.prog X.w H' h':=fun a o e=>(I'.hok a o e).stay (fun c v hc q=>(hs.2 c (by
  rintro rfl;rcases hc with z|z
  .rw[<- z,hf]at e;cases e
  .rw[hf]at z;cases z)).trans q) (fun O q=>q) fun O O q=>q
 refine I.call' (s':={s' with heap:=h'}) (ch:=fp) I'.os u hok I'.bare fun b hb=>?_;obtain⟨f0,f1,f2,f3,f4,f5⟩:=hfp b hb;exact⟨f3,f1,f4,f5⟩
abbrev PIf(X:Cx)(ifs:List Expr)(t:TT):Prop:=
 ∀(pI:List (Addr×Obj))(s:ba7)(σ:St)(H:Hp)(Q:Bool->Hp->Prop),Inv X pI σ H s->t σ H Q->
  be1 (bf9 X.prog X.w) X.A (forIn ifs true fun c r=>if r=true then do let ok <- isTrue c X.env (eval c X.env);pure (cj7 ok)else pure (cj7 r)) (TP X pI σ Q) X.xe s
def kkl:PIf X [] (fun O H Q=>Q true H):=fun pI s σ H Q I h=>by
 rw[bs8];exact ba9 ⟨H,I,h⟩
def ko4{c:Expr}{tc:TT}(hc:PT X c tc):PIf X [c] tc:=fun pI s σ H Q I h=>by
 rw[bt4,zP rfl];refine ba0 (ba0 (thn (hc pI s σ H Q I h) fun b s1 q=>ba9 ?_));show be1 _ _ (forIn ([]:List Expr) b _) _ _ s1;rw[bs8];exact ba9 q
abbrev klr(J:It)(g:TG)(tc:TT)(te:TE)(Q:VK)(D:Addr)(W:Nat->Nat->St->List V->Hp->Prop):Prop:=
 ∀(i m:Nat)(σ1:St)(acc:List V)(H:Hp),W i m σ1 acc H->(J.stop i H/\Q (.ref D) H)\/
  (J.go i H/\∃N:St->List V->Hp->Prop,(∀ σ' acc' H',N σ' acc' H'->∃m',m'<m/\W (i+1) m' σ' acc' H')/\
    ∀x H',J.yld i H x H'->g x σ1 H' fun σ2 H2=>tc σ2 H2 fun b H3=>if b=true then te σ2 H3 fun y H4=>H4 D=some (.lst acc)/\acc.length<sizeLine/\N σ2 (acc++[y]) (upd H4 D (.lst (acc++[y])))
     else N σ2 acc H3)
abbrev tLC(js:List (Option Nat))(wi:TI)(g:TG)(tc:TT)(te:TE):TE:=fun σ H Q=>wi σ H fun J H1=>∀D,H1 D=none->∃W:Nat->Nat->St->List V->Hp->Prop,(∃ m,W 0 m (kei σ js) [] (upd H1 D (.lst [])))/\klr J g tc te Q D W
def kjo{elt tg iter:Expr}{ifs:List Expr}{pos:Pos}{g:TG}{tc:TT}{te:TE}{Q:VK}{R:cg8->ba7->Prop}{it:Addr}{J:It}{tn:Nat->Heap->Prop}{D:Addr}{W:Nat->Nat->St->List V->Hp->Prop}{m0:Nat}{σ0:St}{s4:ba7}{H4:Hp}
 (hcalm:X.calm=true)(T:Turn X.prog X.w X.K tg J fp it tn)
 (hg:PG (kbd X scope N' s H fp) tg g)(hc:PIf (kbd X scope N' s H fp) ifs tc)(he:PE (kbd X scope N' s H fp) elt te)
 (turn:klr J g tc te Q D W)
 (I4:Inv (kbd X scope N' s H fp) [] σ0 H4 s4)(st4:tn 0 s4.heap)(fr4: ∀b∈fp,H4 b=none)(w4:W 0 m0 σ0 [] H4)
 (fin: ∀σ' H' s',Inv (kbd X scope N' s H fp) [] σ' H' s'->Q (.ref D) H'->R (.ok .next) s'):
 codeAny (bf9 X.prog X.w) X.A (.compStart (.ListComp elt [⟨tg,iter,ifs,0⟩] scope pos) 0 (.ref it) (.ref D) (kbd X scope N' s H fp).env) R s4:=by
 have loop:codeAny (bf9 X.prog X.w) X.A (.compLoop (.ListComp elt [⟨tg,iter,ifs,0⟩] scope pos) 0 (.ref it) (.ref D) (kbd X scope N' s H fp).env) R s4:=by
  have stat: ∀{H':Hp},(∀ b∈fp,H' b=none)->∀b∈fp,kng (kbd X scope N' s H fp) [] H' b:=fun hn b hb=>
   ⟨hn b hb,(I4.ok.exf b hb).1,I4.ok.exfs b hb,.inl hb,(I4.ok.exf b hb).2,fun p hp=>zA (show p∈([]:List (Addr×Obj))from hp) (by simp)⟩
  refine codeAny_loop rfl (fun n s'=>∃i σ' acc H',Inv (kbd X scope N' s H fp) [] σ' H' s'/\tn i s'.heap/\(∀ b∈fp,H' b=none)/\W i n σ' acc H') ?_ m0 ⟨0,σ0,[],H4,I4,st4,fr4,w4⟩;rintro n s5⟨i,σ5,acc,H5,I5,st5,fr5,w5⟩;show be1 _ X.A ((compTurn (.ListComp elt [⟨tg,iter,ifs,0⟩] scope pos) 0 (.ref it) (.ref D) (kbd X scope N' s H fp).env).onRaise (fun x=>do noteFrame x (kbd X scope N' s H fp).env;theTreesLotGoes x)) _ _ s5;refine wpAny_noted ?_;rw[compTurn_list];have ex: ∀{E':ba6->ba7->Prop}(e:ba6)(s':ba7),(kbd X scope N' s H fp).xe e s'->E' e s':=fun O O z=>bu9 z;rcases turn i n σ5 acc H5 w5 with⟨stop,q⟩|⟨go,N,hN,step⟩
  .refine ba0 (b80 (ba0 (thn (T.done (kbd X scope N' s H fp) rfl rfl rfl hcalm i [] s5 σ5 H5 _ I5 (stat fr5) st5 stop) fun r s6 ⟨hr,I6⟩=>?_)));subst hr;exact ba9 (fin σ5 H5 s6 I6 q)
  .refine ba0 (b80 (ba0 (thn (T.item (kbd X scope N' s H fp) rfl rfl rfl hcalm i [] s5 σ5 H5 _ I5 (stat fr5) st5 go) fun r s6 ⟨u,hr,h6⟩=>?_)));subst hr;refine ba0 (thn h6 fun _ s7 ⟨x,H7,I7,r7,y7,st7,fr7⟩=>?_);have I7':=I7.pinned (stat fr7) (T.obj _ _ st7);refine ba0 (bs2 (hg _ s7 σ5 H7 x u _ I7' r7 (step x H7 y7)) (fun _ s8 ⟨σ8,H8,I8,q8⟩=>?_) ex);refine ba0 (bs2 (hc _ s8 σ8 H8 _ I8 q8) (fun ok s9 ⟨H9,I9,q9⟩=>?_) ex);have again: ∀{s':ba7}{σ':St}{H':Hp}{acc':List V},Inv (kbd X scope N' s H fp) ([]++kjb fp s7.heap) σ' H' s'->N σ' acc' H'->
    ∃m,m<n/\∃i σ' acc H',Inv (kbd X scope N' s H fp) [] σ' H' s'/\tn i s'.heap/\(∀ b∈fp,H' b=none)/\W i m σ' acc H':=fun{s' σ' H' acc'} J' n'=>by
    obtain⟨m',hm,w'⟩:=hN σ' acc' H' n';refine⟨m',hm,i+1,σ',acc',H',J'.unpinned,T.keep _ _ _ st7 fun b hb o e=>(J'.pin (b,o) (bh7 _ (bh7 _ (kdz hb e)))).1,fun b hb=>?_,w'⟩;obtain⟨o,e,d⟩:=T.obj _ _ st7 b hb;exact(J'.pin (b,o) (bh7 _ (bh7 _ (kdz hb e)))).2.1
   cases ok with
   | false=>
     rw[zN bb6]at q9;exact ba9 ⟨rfl,again I9 q9⟩
   | true=>
     rw[zP rfl]at q9;refine ba0 (ba0 (bs2 (he _ s9 σ8 H9 _ I9 q9) (fun y s10 ⟨yv,H10,I10,r10,hD,hz,q10⟩=>?_) ex));refine ba0 (bs2 (ke1 (X:=kbd X scope N' s H fp) _ s10 σ8 H10 (.ref D) [yv] (.ref D) [y] (fun O H11=>N σ8 (acc++[yv]) H11) I10 rfl (.cons r10 .nil) ⟨D,acc,yv,rfl,rfl,hD,hz,q10⟩) (fun _ s11 ⟨_,H11,I11,_,q11⟩=>?_) ex);exact ba9 (ba9 ⟨rfl,again I11 q11⟩)
 exact codeAny_compStart_list loop (T.self _ 0 _ _ _ st4 loop)
def ko5{scope:b05}{env:Env}(h:(scope.names.all fun p=>p.2 != bk8||(env.scope.names.lookup p.1==some .cell||env.scope.names.lookup p.1==some .free))=true):
 ∀x∈scope.names,x.2= .free->env.kindOf x.1=some .cell\/env.kindOf x.1=some .free:=fun x hx e=>by
 have q:=bi0.mp h x hx;rw[e]at q;have q:(env.scope.names.lookup x.1==some bp6||env.scope.names.lookup x.1==some bk8)=true:=q;rw[b32]at q;rcases q with q|q
 .exact .inl (beq_iff_eq.mp q)
 .exact .inr (beq_iff_eq.mp q)
def kls{scope:b05}(h:(scope.names.all fun p=>p.2 != bq6.local||scope.names.lookup p.1==some .local)=true): ∀x∈scope.names,x.2= .local->scope.names.lookup x.1=some .local:=fun x hx e=>by
 have q:=bi0.mp h x hx;rw[e]at q;have q:(scope.names.lookup x.1==some bq6.local)=true:=q;exact beq_iff_eq.mp q
variable{elt tg iter:Expr}{ifs:List Expr}{pos:Pos}{wi:TI}{g:TG}{tc:TT}{te:TE}
def kf4(hcalm:X.calm=true)(caps:Caps X scope N' js)(hi:PI X tg iter wi)
 (hg: ∀s H fp,PG (kbd X scope N' s H fp) tg g)(hc: ∀s H fp,PIf (kbd X scope N' s H fp) ifs tc)(he: ∀s H fp,PE (kbd X scope N' s H fp) elt te)
 (hfb:autoParam ((scope.names.all fun p=>p.2 != bk8||(X.env.scope.names.lookup p.1==some .cell||X.env.scope.names.lookup p.1==some .free))=true) Z4)
 (hnb:autoParam ((scope.names.all fun p=>p.2 != bq6.local||scope.names.lookup p.1==some .local)=true) Z4)
 (hkind:autoParam (scope.kind= .function) Z4)
 (hs:autoParam (∀ x,foldedSetIterable iter X.env x=pure x) Z3):PE X (.ListComp elt [⟨tg,iter,ifs,0⟩] scope pos) (tLC js wi g tc te):=by
 intro pI s σ H Q I h;have hfree:=ko5 hfb;have hnames:=kls hnb;rw[eval_ListComp];refine b72 (use:=none) (cl:=kb3 X.env scope.names []) rfl hs (ke2 fun x hx e=>I.ok.has x.1 (hfree x hx e)) hkind hnames ?_;refine thn (hi pI s σ H _ I h) fun v s1 h1=>thn h1 fun itv s2 h2=>?_;obtain⟨it,fp,tn,J,H2,e,I2,T,st2,f2,q⟩:=h2;subst e;refine bj8 ?_;have hD:H2 s2.heap.objs.size=none:=I2.hok.fresh (bb7 _);have I3:Inv X pI σ (upd H2 s2.heap.objs.size (.lst [])) {s2 with heap:=s2.heap.push {cls:= .type "list",data:= .seq ([]:List ba6).toArray}}:=I2.lnew (t':=s2.toks) .nil (bf7 _);obtain⟨W,⟨m0,w0⟩,turn⟩:=q s2.heap.objs.size hD;have fo: ∀b∈fp,b<s2.heap.objs.size:=fun b hb=>by
  obtain⟨o,e,_⟩:=T.obj _ _ st2 b hb;exact bd0 e
 have f3: ∀b∈fp,kng X pI (upd H2 s2.heap.objs.size (.lst [])) b:=fun b hb=>⟨by rw[kar (bf5 (fo b hb))];exact(f2 b hb).1,(f2 b hb).2⟩
 have fo3: ∀b∈fp,b<(s2.heap.push {cls:= .type "list",data:= .seq ([]:List ba6).toArray}).objs.size:=fun b hb=>by
  rw[bn7];exact bl0 (fo b hb)
 refine kfx ?_;have I4:=kjn (fp:=fp) caps hkind hfree I3 f3 fo3;refine kjo (fp:=fp) hcalm T (hg _ _ _) (hc _ _ _) (he _ _ _) turn I4 ?_ (fun b hb=>(f3 b hb).1) w0 ?_
 .refine T.keep _ _ _ st2 fun b hb o e=>?_;exact b33 _ _ b o (ba5 _ (ba5 _ e))
 .intro σ' H' s' I' q';obtain⟨m,hn,_⟩:=I'.loc;exact⟨m,hn,fun h' hs'=>⟨.ref s2.heap.objs.size,H',Inv.unblock I3 f3 I' hs',rfl,q'⟩⟩
def ktj{i:Nat}{x:Str}{pos' spos:Pos}(hcalm:X.calm=true)(caps:Caps X scope N' js)(hi:PI X tg iter wi)
 (hg: ∀s H fp,PG (kbd X scope N' s H fp) tg g)(hc: ∀s H fp,PIf (kbd X scope N' s H fp) ifs tc)(he: ∀s H fp,PE (kbd X scope N' s H fp) elt te)
 (hN:X.N.Nodup)(hix:X.N[i]?=some x)(hx:Loc X.env.scope x)
 (hfb:autoParam ((scope.names.all fun p=>p.2 != bk8||(X.env.scope.names.lookup p.1==some .cell||X.env.scope.names.lookup p.1==some .free))=true) Z4)
 (hnb:autoParam ((scope.names.all fun p=>p.2 != bq6.local||scope.names.lookup p.1==some .local)=true) Z4)
 (hsw:autoParam (bs6 (.ListComp elt [⟨tg,iter,ifs,0⟩] scope pos) (some (.Name x pos')) spos.line X.env=pure true) Z4)
 (hkind:autoParam (scope.kind= .function) Z4)(hs:autoParam (∀ x,foldedSetIterable iter X.env x=pure x) Z3)
 (hf:autoParam (X.fn x=true\/X.env.scope.names.lookup x=some .local) Z1):
 PS X (.Assign [.Name x pos'] (.ListComp elt [⟨tg,iter,ifs,0⟩] scope pos) spos) (k1m (tLC js wi g tc te) (kol i)):=by
 intro pI s σ H E I h;have hfree:=ko5 hfb;have hnames:=kls hnb;rw[exec_Assign_Name_used _ _ _ _ hsw];refine ba0 (b80 (ba0 ?_));show be1 _ X.A (do let _ <- comprehension (.ListComp elt [⟨tg,iter,ifs,0⟩] scope pos) scope X.env _ (newList []) false (eval iter X.env) (some (assign (.Name x pos') X.env))) _ _ s;refine ba0 (bs2 (b72 (use:=some (assign (.Name x pos') X.env)) (Q:=fun O s'=>SP X pI E .next s') (cl:=kb3 X.env scope.names []) rfl hs (ke2 fun x hx e=>I.ok.has x.1 (hfree x hx e)) hkind hnames ?_)
  (fun O s' hq=>ba9 (ba9 hq)) fun O O e=>e)
 have h:tLC js wi g tc te σ H (fun x H1=>E.nx (σ.set i (some x)) H1):=h;refine thn (hi pI s σ H _ I h) fun v s1 h1=>thn h1 fun itv s2 h2=>?_;obtain⟨it,fp,tn,J,H2,e,I2,T,st2,f2,q⟩:=h2;subst e;refine bj8 ?_;have hD:H2 s2.heap.objs.size=none:=I2.hok.fresh (bb7 _);have I3:Inv X pI σ (upd H2 s2.heap.objs.size (.lst [])) {s2 with heap:=s2.heap.push {cls:= .type "list",data:= .seq ([]:List ba6).toArray}}:=I2.lnew (t':=s2.toks) .nil (bf7 _);obtain⟨W,⟨m0,w0⟩,turn⟩:=q s2.heap.objs.size hD;have fo: ∀b∈fp,b<s2.heap.objs.size:=fun b hb=>by
  obtain⟨o,e,_⟩:=T.obj _ _ st2 b hb;exact bd0 e
 have f3: ∀b∈fp,kng X pI (upd H2 s2.heap.objs.size (.lst [])) b:=fun b hb=>⟨by rw[kar (bf5 (fo b hb))];exact(f2 b hb).1,(f2 b hb).2⟩
 have fo3: ∀b∈fp,b<(s2.heap.push {cls:= .type "list",data:= .seq ([]:List ba6).toArray}).objs.size:=fun b hb=>by
  rw[bn7];exact bl0 (fo b hb)
 refine kfx ?_;have I4:=kjn (fp:=fp) caps hkind hfree I3 f3 fo3;refine kjo (fp:=fp) hcalm T (hg _ _ _) (hc _ _ _) (he _ _ _) turn I4 ?_ (fun b hb=>(f3 b hb).1) w0 ?_
 .refine T.keep _ _ _ st2 fun b hb o e=>?_;exact b33 _ _ b o (ba5 _ (ba5 _ e))
 .intro σ' H' s' I' q';have I5:Inv X pI σ H' s':=Inv.unblock I3 f3 I' (cf1 ..);obtain⟨m,hn,_⟩:=I'.loc;show be1 _ X.A (assign (.Name x pos') X.env (.ref s2.heap.objs.size)) _ _ s';refine ce5 (ki9 I5 hN hix hx (v:= .ref s2.heap.objs.size) rfl (fun s6 I6 ⟨a,hsa,ha⟩=>?_) hf);have lt: ∀b,b<s2.heap.objs.size+1->b≠(s2.heap.push {cls:= .type "list",data:= .seq ([]:List ba6).toArray}).objs.size:=fun b hb=>by
   rw[bn7];exact bf5 hb
  have hLs:X.env.locals<s2.heap.objs.size:=I2.lt;have hcs: ∀y c,X.env.cells.lookup y=some c->c<s2.heap.objs.size:=fun y c e=>by
   obtain⟨v,z⟩:=I2.cell y c e;exact z.lt
  have hne:(s2.heap.push {cls:= .type "list",data:= .seq ([]:List ba6).toArray}).objs.size≠a:=by
   rcases ha with z|z
   .rw[z];exact(lt _ (bl0 hLs)).symm
   .exact(lt _ (bl0 (hcs _ _ z))).symm
  refine⟨m,hn.sameBut hsa hne,fun h' hs'=>⟨_,H',?_,q'⟩⟩;refine I6.turned (t':=s6.toks) (it:=(s2.heap.push {cls:= .type "list",data:= .seq ([]:List ba6).toArray}).objs.size) (fun b o hb e=>(hs'.2 b hb).trans e) I'.free ?_ (.inr ?_) (fun y c e=>?_) (fun p hp z=>?_)
  .exact(lt _ (bl0 hLs)).symm
  .exact I3.sz
  .exact lt _ (bl0 (hcs y c e))
  .exact zA (bd0 (I3.pin p hp).1) (by rw[z];exact bk7 _)
end
def ktk{lo:Int}{n:Nat}{g:TG}{tc:TT}{te:TE}{Q:VK}{D:Addr}{σ:St}{H:Hp}(Pv:Nat->St->List V->Hp->Prop)(h0:Pv 0 σ [] H)
 (hs: ∀i σ acc H,i<n->Pv i σ acc H->g (.int (lo+i)) σ H fun σ2 H2=>tc σ2 H2 fun b H3=>if b=true then te σ2 H3 fun y H4=>H4 D=some (.lst acc)/\acc.length<sizeLine/\Pv (i+1) σ2 (acc++[y]) (upd H4 D (.lst (acc++[y])))else Pv (i+1) σ2 acc H3)
 (hd: ∀σ acc H,Pv n σ acc H->Q (.ref D) H):
 ∃W:Nat->Nat->St->List V->Hp->Prop,(∃ m,W 0 m σ [] H)/\klr (Itr lo n) g tc te Q D W:=by
 refine⟨fun i m σ acc H=>m=n-i/\i<=n/\Pv i σ acc H,⟨n,by simp,bf7 _,h0⟩,?_⟩;rintro i m σ acc H ⟨rfl,hi,p⟩;by_cases hlt:i<n
 .refine .inr ⟨hlt,Pv (i+1),fun σ' acc' H' p'=>⟨n-(i+1),by lia,rfl,hlt,p'⟩,fun x H' y=>?_⟩;obtain⟨e,y⟩:=y;subst e y;exact hs i σ acc _ hlt p
 .have e:i=n:=by lia
  subst e;exact .inl ⟨bb7 _,hd σ acc H p⟩
abbrev kd7(ns:List Int):bb0:= .dict (ns.map fun n=>(.int n,.none))
abbrev anyD:bb0:= .dict [(.bool true,.none)]
abbrev excD(C:Addr):bb0:= .dict [(.bool false,.int (C:Int))]
abbrev xPhi(a C:Addr):Heap->Prop:=fun h=>∃o,h.get? a=some o/\o.cls= .ref C
abbrev anyK:List (bb0×bb0)->Bool
 | [(.bool true,_)]=>true
 | _=>false
def ktm: ∀ns:List Int,anyK (ns.map fun n=>(ba1 n,bs9))=false
 | []=>rfl
 | [_]=>rfl
 | _::_::_=>rfl
mutual
inductive Rp(K:ba2)(H:Hp):V->bb0->Prop where
 | non:Rp K H .non .none
 | bl (b:Bool):Rp K H (.bl b) (.bool b)
 | int (i:Int):Rp K H (.int i) (.int i)
 | str (x:Str):Rp K H (.str x) (.str x)
 | lst {a:Addr} {xs:List V} {ds:List bb0}:H a=some (.lst xs)->RpAll K H xs ds->Rp K H (.ref a) (.list ds)
 | tup {a:Addr} {xs:List V} {ds:List bb0}:H a=some (.tup xs)->RpAll K H xs ds->Rp K H (.ref a) (.tuple ds)
 | scr {a:Addr} {ns:List Int}:SqL K H a (ns.map V.int)->Rp K H (.ref a) (kd7 ns)
 | any {a:Addr}:Rp K H (.ref a) anyD
 | xc {a C:Addr}:H a=some (.ext (xPhi a C))->Rp K H (.ref a) (excD C)
inductive RpAll(K:ba2)(H:Hp):List V->List bb0->Prop where
 | nil:RpAll K H [] []
 | cons {x:V} {xs:List V} {d:bb0} {ds:List bb0}:Rp K H x d->RpAll K H xs ds->RpAll K H (x::xs) (d::ds)
end
mutual
noncomputable def k2a:bb0->Bool
 | .list _=>false
 | .dict kvs=>anyK kvs
 | .tuple ds=>khd ds
 | _=>true
noncomputable def khd:List bb0->Bool
 | []=>true
 | d::ds=>k2a d&&khd ds
end
structure TK(H H':Hp):Prop where
 tup: ∀b xs,H b=some (.tup xs)->H' b=some (.tup xs)
 frz: ∀b o u,H b=some (.frz o u)->H' b=some (.frz o u)
def TK.trans{H H1 H2:Hp}(a:TK H H1)(b:TK H1 H2):TK H H2:=⟨fun c xs h=>b.tup c xs (a.tup c xs h),fun c o u h=>b.frz c o u (a.frz c o u h)⟩
def Same.tk{H H':Hp}(s:Same H H'):TK H H':=⟨fun b xs h=>s b _ h,fun b o u h=>s b _ h⟩
def TK.new{H:Hp}{p:Addr}{o:HO}(h:H p=none):TK H (upd H p o):=⟨fun b xs e=>by rw[kar (kan e h)];exact e,fun b o u e=>by rw[kar (kan e h)];exact e⟩
def TK.lst{H:Hp}{p:Addr}{xs:List V}{o:HO}(h:H p=some (.lst xs)):TK H (upd H p o):=
 ⟨fun b ys e=>by rw[kar (k1b e h (by intro z;cases z))];exact e,fun b o u e=>by rw[kar (k1b e h (by intro z;cases z))];exact e⟩
def TK.sqT{K:ba2}{H H':Hp}{a:Addr}{xs:List V}(t:TK H H')(h:SqT K H a xs):SqT K H' a xs:=by
 rcases h with(h|⟨o,h⟩)|h
 .exact .inl (.inl (t.tup _ _ h))
 .exact .inl (.inr ⟨o,t.frz _ _ _ h⟩)
 .exact .inr h
def Same.new{H:Hp}{p:Addr}{o:HO}(h:H p=none):Same H (upd H p o):=fun b u e=>by rw[kar (kan e h)];exact e
def Same.put{H0 H:Hp}{p:Addr}{o:HO}(s:Same H0 H)(h:H0 p=none):Same H0 (upd H p o):=fun b u e=>by rw[kar (kan e h)];exact s b u e
mutual
theorem Rp.keep{K:ba2}{H H':Hp}(t:TK H H'): ∀{v:V}{d:bb0},Rp K H v d->k2a d=true->Rp K H' v d
 | _,_,.non,_=> .non
 | _,_,.bl b,_=> .bl b
 | _,_,.int i,_=> .int i
 | _,_,.str x,_=> .str x
 | _,_,.lst _ _,h=>zA (show false=true from h) bb6
 | _,_,.tup hs ha,h=> .tup (t.tup _ _ hs) (RpAll.keep t ha h)
 | _,_,@Rp.scr _ _ _ ns _,h=>zA (show anyK (ns.map fun n=>(ba1 n,bs9))=true from h) (by rw[ktm];exact bb6)
 | _,_,.any,_=> .any
theorem RpAll.keep{K:ba2}{H H':Hp}(t:TK H H'): ∀{vs:List V}{ds:List bb0},RpAll K H vs ds->khd ds=true->RpAll K H' vs ds
 | _,_,.nil,_=> .nil
 | _,_,.cons a b,h=>by
   have h:_/\_:=bw7.mp h;exact .cons (Rp.keep t a h.1) (RpAll.keep t b h.2)
end
mutual
theorem Rp.same{K:ba2}{H H':Hp}(t:Same H H'): ∀{v:V}{d:bb0},Rp K H v d->Rp K H' v d
 | _,_,.non=> .non
 | _,_,.bl b=> .bl b
 | _,_,.int i=> .int i
 | _,_,.str x=> .str x
 | _,_,.lst hs ha=> .lst (t _ _ hs) (RpAll.same t ha)
 | _,_,.tup hs ha=> .tup (t _ _ hs) (RpAll.same t ha)
 | _,_,.scr h=> .scr (Same.seq t h)
 | _,_,.any=> .any
 | _,_,.xc h=> .xc (t _ _ h)
theorem RpAll.same{K:ba2}{H H':Hp}(t:Same H H'): ∀{vs:List V}{ds:List bb0},RpAll K H vs ds->RpAll K H' vs ds
 | _,_,.nil=> .nil
 | _,_,.cons a b=> .cons (Rp.same t a) (RpAll.same t b)
end
def Rp.int_inv{K:ba2}{H:Hp}{v:V}{i:Int}(h:Rp K H v (.int i)):v= .int i:=by cases h;rfl
def Rp.bl_inv{K:ba2}{H:Hp}{v:V}{b:Bool}(h:Rp K H v (.bool b)):v= .bl b:=by cases h;rfl
def Rp.tup_inv{K:ba2}{H:Hp}{v:V}{ds:List bb0}(h:Rp K H v (.tuple ds)): ∃a xs,v= .ref a/\H a=some (.tup xs)/\RpAll K H xs ds:=by
 cases h with|tup a b=>exact⟨_,_,rfl,a,b⟩
def Rp.lst_inv{K:ba2}{H:Hp}{v:V}{ds:List bb0}(h:Rp K H v (.list ds)): ∃a xs,v= .ref a/\H a=some (.lst xs)/\RpAll K H xs ds:=by
 cases h with|lst a b=>exact⟨_,_,rfl,a,b⟩
def RpAll.len{K:ba2}{H:Hp}: ∀{vs:List V}{ds:List bb0},RpAll K H vs ds->vs.length=ds.length
 | _,_,.nil=>rfl
 | _,_,.cons _ b=>zC (· +1) b.len
def RpAll.get{K:ba2}{H:Hp}: ∀{vs:List V}{ds:List bb0}{i:Nat}{v:V},RpAll K H vs ds->vs[i]?=some v->∃d,ds[i]?=some d/\Rp K H v d
 | _,_,_,_,.nil,e=>by simp at e
 | _,_,0,_,.cons a _,e=>by simp at e;subst e;exact⟨_,rfl,a⟩
 | _,_,i+1,v,.cons _ b,e=>by
   obtain⟨d,h1,h2⟩:=RpAll.get (i:=i) (v:=v) b (by simpa using e);exact⟨d,by simpa using h1,h2⟩
def RpAll.get'{K:ba2}{H:Hp}: ∀{vs:List V}{ds:List bb0}{i:Nat}{d:bb0},RpAll K H vs ds->ds[i]?=some d->∃v,vs[i]?=some v/\Rp K H v d
 | _,_,_,_,.nil,e=>by simp at e
 | _,_,0,_,.cons a _,e=>by simp at e;subst e;exact⟨_,rfl,a⟩
 | _,_,i+1,d,.cons _ b,e=>by
   obtain⟨v,h1,h2⟩:=RpAll.get' (i:=i) (d:=d) b (by simpa using e);exact⟨v,by simpa using h1,h2⟩
def RpAll.append{K:ba2}{H:Hp}: ∀{vs ws:List V}{ds es:List bb0},RpAll K H vs ds->RpAll K H ws es->RpAll K H (vs++ws) (ds++es)
 | _,_,_,_,.nil,h=>h
 | _,_,_,_,.cons a b,h=> .cons a (b.append h)
def RpAll.one{K:ba2}{H:Hp}{v:V}{d:bb0}(h:Rp K H v d):RpAll K H [v] [d]:= .cons h .nil
def RpAll.take{K:ba2}{H:Hp}: ∀{vs:List V}{ds:List bb0}(n:Nat),RpAll K H vs ds->RpAll K H (vs.take n) (ds.take n)
 | _,_,0,_=> .nil
 | _,_,_+1,.nil=> .nil
 | _,_,n+1,.cons a b=> .cons a (b.take n)
def RpAll.drop{K:ba2}{H:Hp}: ∀{vs:List V}{ds:List bb0}(n:Nat),RpAll K H vs ds->RpAll K H (vs.drop n) (ds.drop n)
 | _,_,0,h=>h
 | _,_,_+1,.nil=> .nil
 | _,_,n+1,.cons _ b=>b.drop n
def RpAll.ints{K:ba2}{H:Hp}: ∀(ns:List Int),RpAll K H (ns.map V.int) (ns.map ba1)
 | []=> .nil
 | n::ns=> .cons (.int n) (RpAll.ints ns)
def RpAll.ints_inv{K:ba2}{H:Hp}: ∀{ns:List Int}{vs:List V},RpAll K H vs (ns.map ba1)->vs=ns.map V.int
 | [],_,h=>by cases h;rfl
 | n::ns,_,h=>by
   cases h with
   | cons a b=>rw[a.int_inv,RpAll.ints_inv b];rfl
def RpAll.bools_inv{K:ba2}{H:Hp}: ∀{bs:List Bool}{vs:List V},RpAll K H vs (bs.map cc3)->vs=bs.map V.bl
 | [],_,h=>by cases h;rfl
 | n::ns,_,h=>by
   cases h with
   | cons a b=>rw[a.bl_inv,RpAll.bools_inv b];rfl
def kbb: ∀(ns:List Int),bd7 (ns.map ba1)=true
 | []=>rfl
 | n::ns=>by
   show(bl2 (.int n)&&bd7 (ns.map ba1))=true;rw[kbb ns];rfl
section
variable{X:Cx}{pI:List (Addr×Obj)}{σ:St}{H:Hp}{s:ba7}
mutual
theorem Inv.reads(I:Inv X pI σ H s): ∀{x:V}{d:bb0}{v:ba6},Rp X.K H x d->RelV x v->d.canLay0=true->∃as,Reads s.heap v d as
 | _,_,_,.non,r,_=>⟨[],by cases r;exact .none⟩
 | _,_,_,.bl b,r,_=>⟨[],by cases r;exact .bool b⟩
 | _,_,_,.int i,r,_=>⟨[],by obtain⟨t,e⟩:=r;cases e;exact .int i t⟩
 | _,_,_,.str x,r,_=>⟨[],by obtain⟨t,e⟩:=r;cases e;exact .str x t⟩
 | _,_,_,.scr _,_,h=>zA (show false=true from h) bb6
 | _,_,_,.any,_,h=>zA (show false=true from h) bb6
 | _,_,_,.lst hq ha,r,hl=>by
   cases r;obtain⟨its,rv,⟨o,n,e,c,dd,dt⟩,hz⟩:=I.list (SqL.of hq);obtain⟨as,z⟩:=Inv.readsAll I ha rv hl;exact⟨_,.list e c dt z⟩
 | _,_,_,.tup hq ha,r,hl=>by
   cases r;obtain⟨its,rv,⟨o,e,c,n,dt⟩,hz⟩:=I.tuple (SqT.of hq);obtain⟨as,z⟩:=Inv.readsAll I ha rv hl;exact⟨_,.tuple e c dt z⟩
theorem Inv.readsAll(I:Inv X pI σ H s): ∀{xs:List V}{ds:List bb0}{us:List ba6},RpAll X.K H xs ds->Vals xs us->bd7 ds=true->∃as,ReadsAll s.heap us ds as
 | _,_,_,.nil,.nil,_=>⟨[],.nil⟩
 | _,_,_,.cons a b,.cons r t,h=>by
   have h:_/\_:=bw7.mp h;obtain⟨as,z⟩:=Inv.reads I a r h.1;obtain⟨bs,y⟩:=Inv.readsAll I b t h.2;exact⟨_,.cons z y⟩
end
abbrev rEqD(K:ba2)(u:Nat):R2:=fun x y H Q=>∃dx dy,Rp K H x dx/\Rp K H y dy/\dx.canLay0=true/\dy.canLay0=true/\u+min dx.depth dy.depth<cLine/\Q (.bl (bg3 dx dy)) H
def k2b:OpR X (bh0 .Eq) (rEqD X.K X.A.units):=by
 intro pI s σ H x y v u Q I rx ry h;obtain⟨dx,dy,h1,h2,l1,l2,hu,q⟩:=h;obtain⟨as,ra⟩:=I.reads h1 rx l1;obtain⟨bs,rb⟩:=I.reads h2 ry l2;exact SeqAt.rcAt_reads ra rb l1 l2 hu _ _ _ _ ⟨.bl _,H,I,rfl,q⟩
abbrev eqR(h:Heap)(dx:bb0)(w:ba6):Bool:= @decide (∃ d as,Reads h w d as/\d.canLay0=true/\bg3 d dx=true) (bm6 _)
def kv4{h:Heap}{dx d:bb0}{w:ba6}{as:List Addr}(r:Reads h w d as)(l:d.canLay0=true):eqR h dx w=bg3 d dx:=by
 unfold eqR;by_cases e:bg3 d dx=true
 .rw[e];exact @zT _ (bm6 _) ⟨d,as,r,l,e⟩
 .rw[bz6.mpr e];refine @zF _ (bm6 _) ?_;rintro⟨d',as',r',l',e'⟩;rw[SeqAt.Reads.unique d' d w as' as l' r' r]at e';exact e e'
def kgg{h:Heap}{dx:bb0}: ∀{us:List ba6}{ds:List bb0}{as:List Addr},ReadsAll h us ds as->bd7 ds=true->us.any (eqR h dx)=ds.any fun d=>bg3 d dx
 | [],[],_,_,_=>rfl
 | u::us,d::ds,_,r,l=>by
   have l:d.canLay0=true/\bd7 ds=true:=(by simpa[bd7]using l)
   cases r with
   | cons r1 r2=>rw[cd1,cd1,kv4 r1 l.1,kgg r2 l.2]
 | [],_::_,_,r,_=>by cases r
 | _::_,[],_,r,_=>by cases r
def kgh{A:bg1}{dx:bb0}{v:ba6}{as:List Addr}(rx:Reads s.heap v dx as)(lx:dx.canLay0=true)(hu:A.units+dx.depth<cLine): ∀{us:List ba6}{ds:List bb0}{bs:List Addr},ReadsAll s.heap us ds bs->bd7 ds=true->
 ∀u∈us,bz7 A s u v (eqR s.heap dx u)
 | [],_,_,_,_,u,hm=>by cases hm
 | w::us,d::ds,_,r,l,u,hm=>by
   have l:d.canLay0=true/\bd7 ds=true:=(by simpa[bd7]using l)
   cases r with
   | cons r1 r2=>
     rcases bc6.mp hm with rfl|hm
     .rw[kv4 r1 l.1];refine SeqAt.eqAt_reads d dx A s _ _ _ _ r1 rx l.1 lx ?_;have:min d.depth dx.depth<=dx.depth:=ch1 _ _;lia
     .exact kgh rx lx hu r2 l.2 u hm
 | _::_,[],_,r,_,_,_=>by cases r
abbrev rInD(K:ba2)(u:Nat):R2:=fun x y H Q=>∃p xs ds dx,y= .ref p/\(SqL K H p xs\/SqT K H p xs)/\RpAll K H xs ds/\Rp K H x dx/\bd7 ds=true/\dx.canLay0=true/\u+1+dx.depth<cLine/\Q (.bl (ds.any fun d=>bg3 d dx)) H
def k2c:OpR X (bh0 .In) (rInD X.K X.A.units):=by
 intro pI s σ H x y v u Q I rx ry h;obtain⟨p,xs,ds,dx,rfl,hq,ha,hx,l1,l2,hu,q⟩:=h;cases ry;obtain⟨as,ra⟩:=I.reads hx rx l2;have hu1:X.A.in1.units+dx.depth<cLine:=hu;rcases hq with hq|hq
 .obtain⟨its,r,pl,hz⟩:=I.list hq;obtain⟨bs,rb⟩:=I.readsAll ha r l1;refine SeqAt.in_listAt (eqR s.heap dx) pl.isList (fun w hw=>kgh ra l2 hu1 rb l1 w (by simpa using hw)) ⟨.bl _,H,I,rfl,?_⟩;rw[show its.toArray.any (eqR s.heap dx)=its.any (eqR s.heap dx) by simp,kgg rb l1];exact q
 .obtain⟨its,r,pl,hz⟩:=I.tuple hq;obtain⟨bs,rb⟩:=I.readsAll ha r l1;refine SeqAt.in_tupleAt (eqR s.heap dx) pl (fun w hw=>kgh ra l2 hu1 rb l1 w (by simpa using hw)) ⟨.bl _,H,I,rfl,?_⟩;rw[show its.toArray.any (eqR s.heap dx)=its.any (eqR s.heap dx) by simp,kgg rb l1];exact q
def kkm:kdk X (.builtin "isinstance") (fun xs H Q=>∃x T t b,xs=[x,.ty T]/\TyOf X.K H x t/\bi1 X.K t (.type T)=some b/\Q (.bl b) H):=by
 intro pI s σ H xs us Q I r h;obtain⟨x,T,t,b,rfl,ty,e,q⟩:=h;obtain⟨u,w',rfl,r1,r2⟩:=k1y r;cases r2;exact kot I r1 ty e fun tk=>⟨.bl b,H,I.tok tk,rfl,q⟩
abbrev tRng1(ta:TA):TE:=fun σ H Q=>ta σ H fun vs H1=>∃j:Int,vs=[.int j]/\∀p,H1 p=none->Q (.ref p) (upd H1 p (.rng 0 j))
def kjp{a:Expr}{ta:TA}{p pos:Pos}(hg:Gl X "range")(hm:X.mg "range"=none)(ha:PA X [a] ta)(hs:autoParam (bc5 [a] X.env=[(false,eval a X.env)]) Z4):PE X (.Call (.Name "range" p) [a] [] pos) (tRng1 ta):=by
 intro pI s σ H Q I h;refine bo7 (kdi I hg hm cl4 (bh4 (thn (ha pos pI s σ H _ I h) fun us s1 ⟨vs,H1,I1,r1,q1⟩=>?_) hs rfl));obtain⟨j,e,q⟩:=q1;subst e;cases r1 with
 | cons r rr=>
   cases rr;obtain⟨t,rfl⟩:=r;refine call_range_1 ⟨.ref s1.heap.objs.size,_,?_,rfl,q _ (I1.hok.fresh (bb7 _))⟩;exact I1.laid (fun b o e=>ba5 _ e) (bb7 _) ⟨_,_,_,bc7 _ rfl⟩
abbrev rangeV(lo:Int)(n:Nat):List V:=(ba8 n).map fun(i:Nat)=>V.int (lo+(i:Int))
def khe{P:Nat->ba6->Prop}: ∀{n:Nat}{us:List ba6}(f:Nat->V),us.length=n->(∀ j v,us[j]?=some v->RelV (f j) v)->Vals ((ba8 n).map f) us
 | n,us,f,hl,h=>by
   induction us generalizing n f with
   | nil=>
     have:n=0:=(by simpa using hl.symm)
     subst this;exact .nil
   | cons u us ih=>
     obtain⟨k,rfl⟩: ∃k,n=k+1:=⟨us.length,by simpa using hl.symm⟩
     rw[List.range_succ_eq_map,bg2,bc1];exact .cons (h 0 u rfl) (ih k (fun j=>f (j+1)) (by simpa using hl) fun j v e=>h (j+1) v (by simpa using e))
def khv(hc:X.calm=true):kdk X (.type "list") (fun xs H Q=>∃p lo hi,xs=[.ref p]/\H p=some (.rng lo hi)/\(-(2 ^ 62)<=lo/\lo<2 ^ 62/\ -(2 ^ 62)<=hi/\hi<2 ^ 62)/\(hi-lo).toNat<=sizeLine/\∀l,H l=none->Q (.ref l) (upd H l (.lst (rangeV lo (hi-lo).toNat)))):=by
 intro pI s σ H xs us Q I r h;obtain⟨p,lo,hi,rfl,hp,⟨b1,b2,b3,b4⟩,hz,q⟩:=h;obtain⟨u,rfl,rx⟩:=kef r;cases rx;obtain⟨t,u,v,e⟩:=(show ∃t u v,s.heap.get? p=some {cls:= .type "range",data:= .fields #[.int lo t,.int hi u,.int 1 v]}from I.hok p _ hp);have hn:bm5 lo hi 1=(((hi-lo).toNat:Nat):Int):=by rw[cc9];split <;> lia
 refine call_list_range (n:=(hi-lo).toNat) (I.ok.hd hc) e (small_one b1 b2 b3 b4) hn (by rw[bu0]at hz;lia) fun h' tk acc' c' kp e' hit=>?_;refine⟨.ref s.heap.objs.size,_,I.laid (t':=tk) kp (bb7 _) (show ObjOk X.prog X.w _ h' _ (.lst (rangeV lo (hi-lo).toNat))from⟨?_,acc'.toList,c',?_,?_⟩),rfl,q _ (I.hok.fresh (bb7 _))⟩
 .unfold rangeV;rw[ba3,be8];exact hz
 .refine khe (P:=fun O O=>True) (us:=acc'.toList) (fun i=>V.int (lo+(i:Int))) (by rw[bf0];exact hit.1) fun j v hj=>?_;obtain⟨t',ev⟩:=hit.2 j v (by rw[<- bf2];exact hj);exact⟨t',by rw[ev,cj0]⟩
 .simpa using e'
end
abbrev Fn(P:bb9)(w:be5)(K:ba2)(mg:Str->Option ba6)(base:Heap)(x:Str)(lvl:Nat)(ps:List Str)(sp:Sp):Prop:=
 ∃f fd,FnOk P w K mg base CX0 lvl f fd ps sp/\mg x=some (.ref f)/\b08 K (.ref f)=true/\Binds K fd ps []
section
variable{X:Cx}{x:Str}{lvl:Nat}{ps:List Str}{sp:Sp}{e:Expr}{es:List Expr}{t:TA}{p pos:Pos}
end
def kau{k d:Nat}{A:bg1}(hr:Room k A)(h:d<=200):A.units+d<cLine:=by have:=hr.un;lia
section
variable{X:Cx}
def klt(K:ba2)(h:autoParam (X.K=K) Z4):IxR X (rIxL K):=h▸keg
abbrev rInK(K:ba2):R2:=fun x y H Q=>∃p xs ds dx,y= .ref p/\(SqL K H p xs\/SqT K H p xs)/\RpAll K H xs ds/\Rp K H x dx/\bd7 ds=true/\dx.canLay0=true/\dx.depth<=9/\Q (.bl (ds.any fun d=>bg3 d dx)) H
def kv5(K:ba2)(hu:X.A.units+10<cLine)(h:autoParam (X.K=K) Z4):OpR X (bh0 .In) (rInK K):=by
 subst h;intro pI s σ H x y v u Q I rx ry hq;obtain⟨p,xs,ds,dx,e1,e2,e3,e4,e5,e6,e7,q⟩:=hq;exact k2c pI s σ H x y v u Q I rx ry ⟨p,xs,ds,dx,e1,e2,e3,e4,e5,e6,by lia,q⟩
abbrev rEqK(K:ba2):R2:=fun x y H Q=>∃dx dy,Rp K H x dx/\Rp K H y dy/\dx.canLay0=true/\dy.canLay0=true/\min dx.depth dy.depth<=9/\Q (.bl (bg3 dx dy)) H
def k2d(K:ba2)(hu:X.A.units+10<cLine)(h:autoParam (X.K=K) Z4):OpR X (bh0 .Eq) (rEqK K):=by
 subst h;intro pI s σ H x y v u Q I rx ry hq;obtain⟨dx,dy,e1,e2,e3,e4,e5,q⟩:=hq;exact k2b pI s σ H x y v u Q I rx ry ⟨dx,dy,e1,e2,e3,e4,by lia,q⟩
def ko6(K:ba2)(h:autoParam (X.K=K) Z4):kdk X (.builtin "len") (fun xs H Q=>∃p ys,xs=[.ref p]/\(SqL K H p ys\/SqT K H p ys)/\Q (.int ys.length) H):=h▸kjj
end
def ke3{α β:Type}(f:α->β): ∀(l:List α)(k:Nat),(l.map f).eraseIdx k=(l.eraseIdx k).map f
 | [],_=>rfl
 | _::_,0=>rfl
 | a::r,k+1=>zC (f a:: ·) (ke3 f r k)
abbrev kgi:HO->Prop
 | .lst _=>True
 | .dK _=>True
 | .dT _=>True
 | .set _ _=>True
 | .ext _=>True
 | _=>False
structure Ext(R H R' H':Hp):Prop where
 hh:Same H H'
 rr:Same R R'
 rh:Same R' H'
 nn: ∀b o,H b=some o->R b=none->R' b=none
 ls: ∀b o,H' b=some o->R' b=none->kgi o
structure Wd(R H:Hp):Prop where
 rh:Same R H
 ls: ∀b o,H b=some o->R b=none->kgi o
def Wd.all(H:Hp):Wd H H:=⟨Same.refl H,fun b o h n=>by rw[h]at n;cases n⟩
def Ext.wd{R H R' H':Hp}(e:Ext R H R' H'):Wd R' H':=⟨e.rh,e.ls⟩
def Ext.refl{R H:Hp}(w:Wd R H):Ext R H R H:=⟨Same.refl H,Same.refl R,w.rh,fun O O O n=>n,w.ls⟩
def Ext.trans{R H R1 H1 R2 H2:Hp}(a:Ext R H R1 H1)(b:Ext R1 H1 R2 H2):Ext R H R2 H2:=
 ⟨a.hh.trans b.hh,a.rr.trans b.rr,b.rh,fun c o h n=>b.nn c o (a.hh c o h) (a.nn c o h n),b.ls⟩
def Ext.of_same{H H':Hp}(s:Same H H'):Ext H H H' H':=⟨s,s,Same.refl _,fun b o h n=>(by rw[h]at n;cases n),(Wd.all H').ls⟩
def Ext.new{R H:Hp}{p:Addr}{o:HO}(w:Wd R H)(h:H p=none):Ext R H (upd R p o) (upd H p o):=by
 have hr:R p=none:=w.rh.free h;refine⟨Same.new h,Same.new hr,fun b u e=>?_,fun b u e n=>?_,fun b u e n=>?_⟩
 .by_cases hb:b=p
  .subst hb;rw[kak]at e⊢;exact e
  .rw[kar hb]at e⊢;exact w.rh b u e
 .rw[kar (kan e h)];exact n
 .by_cases hb:b=p
  .subst hb;rw[kak]at n;cases n
  .rw[kar hb]at e n;exact w.ls b u e n
def Ext.newO{R H:Hp}{p:Addr}{o:HO}(w:Wd R H)(h:H p=none)(lo:kgi o):Ext R H R (upd H p o):=by
 have hr:R p=none:=w.rh.free h;refine⟨Same.new h,Same.refl R,fun b u e=>?_,fun b u e n=>n,fun b u e n=>?_⟩
 .rw[kar (kan e hr)];exact w.rh b u e
 .by_cases hb:b=p
  .subst hb;rw[kak]at e;cases e;exact lo
  .rw[kar hb]at e;exact w.ls b u e n
def Wd.mut{R H:Hp}{p:Addr}{o:HO}(w:Wd R H)(hr:R p=none)(lo:kgi o):Wd R (upd H p o):=by
 refine⟨fun b u e=>?_,fun b u e n=>?_⟩
 .rw[kar (kan e hr)];exact w.rh b u e
 .by_cases hb:b=p
  .subst hb;rw[kak]at e;cases e;exact lo
  .rw[kar hb]at e;exact w.ls b u e n
set_option tactic.hygienic true in
def Ext.grow{R H H':Hp}(w:Wd R H)(s:Same H H'): ∃R',Ext R H R' H'/\TK H' R'/\∀b o,H' b=some o->H b=none->R' b=some o:=by
 classical
 refine⟨fun b=>if R b=none/\H b≠none then none else H' b,⟨s,fun b o e=>?_,fun b o e=>?_,fun b o e n=>?_,fun b o e n=>?_⟩,⟨fun b xs e=>?_,fun b o u e=>?_⟩,fun b o e n=>?_⟩
 .show(if R b=none/\H b≠none then none else H' b)=some o;rw[zN (by rw[e];rintro⟨z,_⟩;cases z)];exact s b o (w.rh b o e)
 .have e:(if R b=none/\H b≠none then none else H' b)=some o:=e;split at e
  .cases e
  .exact e
 .show(if R b=none/\H b≠none then none else H' b)=none;rw[zP ⟨n,by rw[e];intro z;cases z⟩]
 .have n:(if R b=none/\H b≠none then none else H' b)=none:=n;split at n
  .rename_i hc;cases q:H b with
   | none=>exact zA q hc.2
   | some u=>
     have:=s b u q;rw[this]at e;cases e;exact w.ls b _ q hc.1
  .rw[e]at n;cases n
 .show(if R b=none/\H b≠none then none else H' b)=some _;rw[zN]
  .exact e
  .rintro⟨n,hc⟩;cases q:H b with
   | none=>exact hc q
   | some u=>
     have:=s b u q;rw[this]at e;cases e;exact w.ls b _ q n
 .show(if R b=none/\H b≠none then none else H' b)=some _;rw[zN]
  .exact e
  .rintro⟨n,hc⟩;cases q:H b with
   | none=>exact hc q
   | some u=>
     have:=s b u q;rw[this]at e;cases e;exact w.ls b _ q n
 .show(if R b=none/\H b≠none then none else H' b)=some _;rw[zN (by rintro⟨_,z⟩;exact z n)];exact e
@[reducible]def Vw:=Int×List Int×List Int
abbrev kv6(x:List Int):Int:=reduceHash (bi2 (x.map hashInt))
abbrev vwH(k:Vw):Int:=reduceHash (bi2 [hashInt k.1,kv6 k.2.1,kv6 k.2.2])
abbrev VwH(H:Hp)(a:Addr)(k:Vw):Prop:=∃p q,H a=some (.tup [.int k.1,.ref p,.ref q])/\H p=some (.tup (k.2.1.map V.int))/\H q=some (.tup (k.2.2.map V.int))
abbrev DicV(l:Addr)(zs:List ((Addr×Vw)×Int))(h:Heap):Prop:=(l==sysModules)=false/\∃o es ep,h.get? l=some o/\o.ExactDict/\o.data= .dict es ep/\Paired (fun(z:(Addr×Vw)×Int)(e:DictEntry)=>e.hash=vwH z.1.2/\e.key= .ref z.1.1/\∃t,e.val= .int z.2 t) zs es.toList
abbrev DvR(R:Hp)(zs:List ((Addr×Vw)×Int))(kvs:List (Vw×Int)):Prop:=kvs=zs.map (fun z=>(z.1.2,z.2))/\∀z∈zs,VwH R z.1.1 z.1.2
def VwH.same{R R':Hp}(s:Same R R'){a:Addr}{k:Vw}(h:VwH R a k):VwH R' a k:=by
 obtain⟨p,q,h1,h2,h3⟩:=h;exact⟨p,q,s _ _ h1,s _ _ h2,s _ _ h3⟩
def DvR.same{R R':Hp}(s:Same R R'){zs:List ((Addr×Vw)×Int)}{kvs:List (Vw×Int)}(h:DvR R zs kvs):DvR R' zs kvs:=⟨h.1,fun z hz=>(h.2 z hz).same s⟩
inductive Dt where
 | un
 | d (x:bb0)
 | o (xs:List bb0)
 | dv (kvs:List (Vw×Int))
 | ot (xs:List bb0) (xss:List (List bb0))
abbrev Dt.own:Dt->Bool
 | .un=>false
 | .d _=>false
 | .ot _ _=>false
 | _=>true
@[reducible]def KvR{κ:Type}(K:ba2)(R:Hp):List (κ×V)->List (κ×bb0)->Prop:=Paired fun p q=>p.1=q.1/\Rp K R p.2 q.2
def KvR.same{κ:Type}{K:ba2}{R R':Hp}(s:Same R R'){l:List (κ×V)}{m:List (κ×bb0)}(h:KvR K R l m):KvR K R' l m:=Paired.mapP h fun O O z=>⟨z.1,Rp.same s z.2⟩
@[reducible]def OwnR(K:ba2)(H0 R H:Hp):List V->List (List bb0)->Prop:=Paired fun y xs=>∃b zs,y= .ref b/\H b=some (.lst zs)/\R b=none/\H0 b=none/\RpAll K R zs xs
def OwnR.next{K:ba2}{H0 R H R' H':Hp}{ys:List V}{xss:List (List bb0)}(h:OwnR K H0 R H ys xss)(e:Ext R H R' H'):OwnR K H0 R' H' ys xss:=
 Paired.mapP h fun _ _ ⟨b,zs,h1,h2,h3,h4,h5⟩=>⟨b,zs,h1,e.hh _ _ h2,e.nn _ _ h2 h3,h4,RpAll.same e.rr h5⟩
def OwnR.mem{K:ba2}{H0 R H:Hp}{b:Addr}: ∀{ys:List V}{xss:List (List bb0)},OwnR K H0 R H ys xss->V.ref b∈ys->∃zs,H b=some (.lst zs)/\R b=none/\H0 b=none
 | _,_,.nil,m=>by cases m
 | _,_,.cons ⟨b',zs,h1,h2,h3,h4,_⟩ t,m=>by
   rcases bc6.mp m with z|m
   .rw[h1]at z;cases z;exact⟨zs,h2,h3,h4⟩
   .exact OwnR.mem t m
def OwnR.mut{K:ba2}{H0 R H:Hp}{p:Addr}{o:HO}: ∀{ys:List V}{xss:List (List bb0)},OwnR K H0 R H ys xss->V.ref p ∉ ys->OwnR K H0 R (upd H p o) ys xss
 | _,_,.nil,_=> .nil
 | _,_,.cons ⟨b',zs,h1,h2,h3⟩ t,m=> .cons ⟨b',zs,h1,by rw[kar (fun z=>m (by rw[<- z,h1];exact bb8))];exact h2,h3⟩ (OwnR.mut t fun z=>m (bc0 _ z))
abbrev SlotR(K:ba2)(H0 R H:Hp):Option V->Dt->Prop
 | _,.un=>True
 | some v,.d x=>Rp K R v x
 | some v,.o xs=>∃a ys,v= .ref a/\H a=some (.lst ys)/\R a=none/\H0 a=none/\RpAll K R ys xs
 | some v,.dv kvs=>∃a ys,v= .ref a/\H a=some (.ext (DicV a ys))/\R a=none/\H0 a=none/\DvR R ys kvs
 | some v,.ot xs xss=>∃a ys zs,v= .ref a/\R a=some (.tup (ys++zs))/\H a=some (.tup (ys++zs))/\RpAll K R ys xs/\OwnR K H0 R H zs xss/\zs.Nodup
 | none,_=>False
abbrev Dt.has(H:Hp):Dt->Option V->Addr->Prop
 | .un,_,_=>False
 | .d _,_,_=>False
 | .ot xs _,x,b=>∃a ts,x=some (.ref a)/\H a=some (.tup ts)/\V.ref b∈ts.drop xs.length
 | _,x,b=>x=some (.ref b)
def Dt.has_ref{H:Hp}{d:Dt}{a:Addr}(h:d.own=true):d.has H (some (.ref a)) a:=by
 cases d with
 | un=>cases h
 | d _=>cases h
 | ot _ _=>cases h
 | _=>rfl
def Dt.has_own{H:Hp}{d:Dt}{x:Option V}{b:Addr}(h:d.has H x b):d.own=true\/∃xs xss,d= .ot xs xss:=by
 cases d with
 | un=>cases h
 | d _=>cases h
 | ot xs xss=>exact .inr ⟨xs,xss,rfl⟩
 | _=>exact .inl rfl
def klu{K:ba2}{R:Hp}{ys zs:List V}{xs:List bb0}(r:RpAll K R ys xs):(ys++zs).drop xs.length=zs:=by rw[<- r.len];exact List.drop_left
def Same.or{H H':Hp}(s:Same H H'){a:Addr}{ys:List V}(z:H a=some (.lst ys)\/H a=some (.tup ys)):H' a=H a:=by rcases z with z|z <;> rw[s a _ z,z]
def SlotR.next{K:ba2}{H0 R H R' H':Hp}{x:Option V}{d:Dt}(h:SlotR K H0 R H x d)(e:Ext R H R' H'):SlotR K H0 R' H' x d:=by
 cases d with
 | un=>cases x <;> trivial
 | d y=>cases x with
   | none=>exact h
   | some v=>exact Rp.same e.rr h
 | o xs=>cases x with
   | none=>exact h
   | some v=>
     obtain⟨a,ys,h1,h2,h3,h4,h5⟩:=h;exact⟨a,ys,h1,e.hh _ _ h2,e.nn _ _ h2 h3,h4,RpAll.same e.rr h5⟩
 | dv xs=>cases x with
   | none=>exact h
   | some v=>
     obtain⟨a,ys,h1,h2,h3,h4,h5⟩:=h;exact⟨a,ys,h1,e.hh _ _ h2,e.nn _ _ h2 h3,h4,DvR.same e.rr h5⟩
 | ot xs xss=>cases x with
   | none=>exact h
   | some v=>
     obtain⟨a,ys,zs,h1,h2,h3,h4,h5,h6⟩:=h;exact⟨a,ys,zs,h1,e.rr _ _ h2,e.hh _ _ h3,RpAll.same e.rr h4,h5.next e,h6⟩
def SlotR.mut{K:ba2}{H0 R H:Hp}{p:Addr}{o:HO}{x:Option V}{d:Dt}(h:SlotR K H0 R H x d)(hr:R p=none)(ne: ¬d.has H x p):SlotR K H0 R (upd H p o) x d:=by
 cases d with
 | un=>cases x <;> trivial
 | d y=>cases x <;> exact h
 | o xs=>cases x with
   | none=>exact h
   | some v=>
     obtain⟨a,ys,h1,h2,h3⟩:=h;subst h1;exact⟨a,ys,rfl,by rw[kar (fun z=>ne (by rw[z];exact rfl))];exact h2,h3⟩
 | dv xs=>cases x with
   | none=>exact h
   | some v=>
     obtain⟨a,ys,h1,h2,h3⟩:=h;subst h1;exact⟨a,ys,rfl,by rw[kar (fun z=>ne (by rw[z];exact rfl))];exact h2,h3⟩
 | ot xs xss=>cases x with
   | none=>exact h
   | some v=>
     obtain⟨a,ys,zs,h1,h2,h3,h4,h5,h6⟩:=h;subst h1;exact⟨a,ys,zs,rfl,h2,by rw[kar (kan h2 hr)];exact h3,h4,h5.mut fun z=>ne ⟨a,_,rfl,h3,by rw[klu h4];exact z⟩,h6⟩
def SlotR.addr{K:ba2}{H0 R H:Hp}{x:Option V}{d:Dt}(h:SlotR K H0 R H x d)(ho:d.own=true): ∃a o,x=some (.ref a)/\H a=some o/\R a=none/\H0 a=none:=by
 cases d with
 | un=>cases ho
 | d y=>cases ho
 | o xs=>cases x with
   | none=>exact h.elim
   | some v=>obtain⟨a,ys,rfl,h2,h3,h4,_⟩:=h;exact⟨a,_,rfl,h2,h3,h4⟩
 | dv xs=>cases x with
   | none=>exact h.elim
   | some v=>obtain⟨a,ys,rfl,h2,h3,h4,_⟩:=h;exact⟨a,_,rfl,h2,h3,h4⟩
 | ot _ _=>cases ho
def SlotR.hasAt{K:ba2}{H0 R H:Hp}{x:Option V}{d:Dt}{b:Addr}(h:SlotR K H0 R H x d)(hb:d.has H x b): ∃o,H b=some o/\R b=none/\H0 b=none:=by
 have go:d.own=true->x=some (.ref b)->∃o,H b=some o/\R b=none/\H0 b=none:=fun ho hx=>by
  obtain⟨a,o,e,h2,h3,h4⟩:=h.addr ho;rw[hx]at e;cases e;exact⟨o,h2,h3,h4⟩
 cases d with
 | un=>cases hb
 | d y=>cases hb
 | ot xs xss=>
   obtain⟨a,ts,rfl,h2,m⟩:=hb;obtain⟨a',ys,zs,e,_,h3,h4,h5,_⟩:=h;cases e;rw[h2]at h3;cases h3;rw[klu h4]at m;obtain⟨zs,z⟩:=h5.mem m;exact⟨_,z⟩
 | o xs=>exact go rfl hb
 | dv xs=>exact go rfl hb
def SlotR.hasNext{K:ba2}{H0 R H H':Hp}{x:Option V}{d:Dt}{b:Addr}(h:SlotR K H0 R H x d)(e: ∀a ys,x=some (.ref a)->(H a=some (.lst ys)\/H a=some (.tup ys))->H' a=H a)(hb:d.has H' x b):d.has H x b:=by
 cases d with
 | un=>cases hb
 | d y=>cases hb
 | ot xs xss=>
   obtain⟨a,ts,rfl,h2,m⟩:=hb;obtain⟨a',ys,zs,q,_,h3,_⟩:=h;cases q;rw[e a _ rfl (.inr h3),h3]at h2;cases h2;exact⟨a,_,rfl,h3,m⟩
 | o xs=>exact hb
 | dv xs=>exact hb
def SlotR.hasMut{K:ba2}{H0 R H:Hp}{p:Addr}{o:HO}{x:Option V}{d:Dt}{b:Addr}(h:SlotR K H0 R H x d)(hr:R p=none)(ne: ¬d.has H x p)(hb:d.has (upd H p o) x b):d.has H x b:=by
 rcases Dt.has_own hb with ho|⟨xs,xss,rfl⟩
 .exact h.hasNext (fun a ys hx e=>kar fun z=>ne (by rw[hx,z];exact Dt.has_ref ho)) hb
 .obtain⟨a,ts,rfl,h2,m⟩:=hb;obtain⟨a',ys,zs,q,h3,_⟩:=h;cases q;rw[kar (kan h3 hr)]at h2;exact⟨a,ts,rfl,h2,m⟩
structure Fra(He:Hp)(K:ba2)(H0 R H:Hp)(σ:St)(env:List Dt):Prop where
 at0:Same He H0
 ext:Ext H0 H0 R H
 len:σ.length=env.length
 slot: ∀(i:Nat)(d:Dt),env[i]?=some d->SlotR K H0 R H (σ[i]?).join d
 apart: ∀(i j:Nat)(di dj:Dt)(b:Addr),env[i]?=some di->env[j]?=some dj->di.has H (σ[i]?).join b->dj.has H (σ[j]?).join b->i=j
section
variable{He:Hp}{K:ba2}{H0 R H R' H':Hp}{σ:St}{env:List Dt}
def Fra.wd(f:Fra He K H0 R H σ env):Wd R H:=f.ext.wd
def Fra.next(f:Fra He K H0 R H σ env)(e:Ext R H R' H'):Fra He K H0 R' H' σ env:=⟨f.at0,f.ext.trans e,f.len,fun i d h=>(f.slot i d h).next e,fun i j di dj b hi hj bi bj=>f.apart i j di dj b hi hj ((f.slot i di hi).hasNext (fun a ys O z=>e.hh.or z) bi) ((f.slot j dj hj).hasNext (fun a ys O z=>e.hh.or z) bj)⟩
def Fra.get(f:Fra He K H0 R H σ env){i:Nat}{d:Dt}(h:env[i]?=some d)(hu:d≠ .un): ∃v,σ[i]?=some (some v)/\SlotR K H0 R H (some v) d:=by
 have q:=f.slot i d h;cases e:σ[i]? with
 | none=>
   rw[e]at q;cases d <;> first|exact zA rfl hu|exact q.elim
 | some x=>
   cases x with
   | none=>
     rw[e]at q;cases d <;> first|exact zA rfl hu|exact q.elim
   | some v=>rw[e]at q;exact⟨v,rfl,q⟩
def Fra.data(f:Fra He K H0 R H σ env){i:Nat}{d:bb0}(h:env[i]?=some (.d d)): ∃v,σ[i]?=some (some v)/\Rp K R v d:=f.get h (by intro z;cases z)
set_option tactic.hygienic true in
def Fra.set(f:Fra He K H0 R H σ env)(i:Nat){v:V}{d:Dt}(h:SlotR K H0 R H (some v) d)(ha: ∀(b:Addr),d.has H (some v) b->∀(j:Nat)(dj:Dt),j≠i->env[j]?=some dj->¬dj.has H (σ[j]?).join b):Fra He K H0 R H (σ.set i (some v)) (env.set i d):=by
 have g: ∀k,(σ.set i (some v))[k]?=if i=k then(if i<σ.length then some (some v)else none)else σ[k]?:=fun k=>br4 ..;have ge: ∀k,(env.set i d)[k]?=if i=k then(if i<env.length then some d else none)else env[k]?:=fun k=>br4 ..;refine⟨f.at0,f.ext,by simp[f.len],fun k x e=>?_,fun k j dk dj a ek ej ok oj=>?_⟩
 .rw[ge]at e;rw[g,f.len];by_cases hk:i=k
  .rw[zP hk]at e⊢;split at e
   .rename_i hl;cases e;rw[zP hl];exact h
   .cases e
  .rw[zN hk]at e⊢;exact f.slot k x e
 .rw[ge]at ek ej;rw[g,f.len]at ok oj;by_cases hk:i=k <;> by_cases hj:i=j
  .rw[<- hk,hj]
  .rw[zP hk]at ek ok;rw[zN hj]at ej oj;split at ek
   .rename_i hl;cases ek;rw[zP hl]at ok;exact zA oj (ha a ok j dj (fun z=>hj z.symm) ej)
   .cases ek
  .rw[zN hk]at ek ok;rw[zP hj]at ej oj;split at ej
   .rename_i hl;cases ej;rw[zP hl]at oj;exact zA ok (ha a oj k dk (fun z=>hk z.symm) ek)
   .cases ej
  .rw[zN hk]at ek ok;rw[zN hj]at ej oj;exact f.apart k j dk dj a ek ej ok oj
def Fra.setD(f:Fra He K H0 R H σ env)(i:Nat){v:V}{d:bb0}(h:Rp K R v d):Fra He K H0 R H (σ.set i (some v)) (env.set i (.d d)):=f.set i h (fun O z=>by cases z)
def Fra.setN'(f:Fra He K H0 R H σ env)(e:Ext R H R' H')(i:Nat){v:V}{d:Dt}(h:SlotR K H0 R' H' (some v) d)(hn: ∀b,d.has H' (some v) b->H b=none):Fra He K H0 R' H' (σ.set i (some v)) (env.set i d):=
 (f.next e).set i h fun b hb j dj O ej oj=>by
   have oj:=(f.slot j dj ej).hasNext (fun a ys O z=>e.hh.or z) oj;obtain⟨o,e2,_⟩:=(f.slot j dj ej).hasAt oj;rw[hn b hb]at e2;cases e2
def Fra.setN(f:Fra He K H0 R H σ env)(e:Ext R H R' H')(i:Nat){a:Addr}{d:Dt}(hn:H a=none)(h:SlotR K H0 R' H' (some (.ref a)) d)(hd:autoParam (∀ b,d.has H' (some (.ref a)) b->a=b) u7._auto_1):Fra He K H0 R' H' (σ.set i (some (.ref a))) (env.set i d):=
 f.setN' e i h fun b hb=>by rw[<- hd b hb];exact hn
def Fra.mut'(f:Fra He K H0 R H σ env){i:Nat}{a:Addr}{d d':Dt}{o:HO}(h:env[i]?=some d)(hs:d.has H (σ[i]?).join a)(lo:kgi o)
 (h':SlotR K H0 R (upd H a o) (σ[i]?).join d')(hn: ∀b,d'.has (upd H a o) (σ[i]?).join b->d.has H (σ[i]?).join b\/∀(j:Nat)(dj:Dt),j≠i->env[j]?=some dj->¬dj.has H (σ[j]?).join b):Fra He K H0 R (upd H a o) σ (env.set i d'):=by
 obtain⟨u,e2,e3,e4⟩:=(f.slot i d h).hasAt hs;have ge: ∀k,(env.set i d')[k]?=if i=k then(if i<env.length then some d' else none)else env[k]?:=fun k=>br4 ..;have w:=Wd.mut (o:=o) f.wd e3 lo;have nh: ∀(k:Nat)(x:Dt),i≠k->env[k]?=some x->¬x.has H (σ[k]?).join a:=fun k x hk e z=>hk (f.apart i k d x a h e hs z);have two: ∀(k j:Nat)(dk dj:Dt)(b:Addr),i=k->i≠j->(if i<env.length then some d' else none)=some dk->env[j]?=some dj->dk.has (upd H a o) (σ[k]?).join b->dj.has (upd H a o) (σ[j]?).join b->False:=fun k j dk dj b hk hj ek ej ok oj=>by
  subst hk;split at ek
  .cases ek;have oj:=(f.slot j dj ej).hasMut e3 (nh j dj hj ej) oj;rcases hn b ok with ok|nb
   .exact hj (f.apart i j d dj b h ej ok oj)
   .exact nb j dj (fun z=>hj z.symm) ej oj
  .cases ek
 refine⟨f.at0,⟨f.ext.hh.put e4,f.ext.rr,w.rh,f.ext.nn,w.ls⟩,by simp[f.len],fun k x e=>?_,fun k j dk dj b ek ej ok oj=>?_⟩
 .rw[ge]at e;by_cases hk:i=k
  .subst hk;rw[zP rfl]at e;split at e
   .cases e;exact h'
   .cases e
  .rw[zN hk]at e;exact(f.slot k x e).mut e3 (nh k x hk e)
 .rw[ge]at ek ej;by_cases hk:i=k <;> by_cases hj:i=j
  .rw[<- hk,hj]
  .rw[zP hk]at ek;rw[zN hj]at ej;exact(two k j dk dj b hk hj ek ej ok oj).elim
  .rw[zN hk]at ek;rw[zP hj]at ej;exact(two j k dj dk b hj hk ej ek oj ok).elim
  .rw[zN hk]at ek;rw[zN hj]at ej;exact f.apart k j dk dj b ek ej ((f.slot k dk ek).hasMut e3 (nh k dk hk ek) ok) ((f.slot j dj ej).hasMut e3 (nh j dj hj ej) oj)
def Fra.mut(f:Fra He K H0 R H σ env){i:Nat}{a:Addr}{d d':Dt}{o:HO}(h:env[i]?=some d)(hd:d.own=true)(hs:σ[i]?=some (some (.ref a)))(lo:kgi o)
 (h':SlotR K H0 R (upd H a o) (some (.ref a)) d')(hd':autoParam (∀ b,d'.has (upd H a o) (some (.ref a)) b->a=b) u7._auto_1):Fra He K H0 R (upd H a o) σ (env.set i d'):=by
 have hj:(σ[i]?).join=some (.ref a):=by rw[hs];rfl
 refine f.mut' h (by rw[hj];exact Dt.has_ref hd) lo (by rw[hj];exact h') fun b z=> .inl ?_;rw[hj]at z⊢;rw[<- hd' b z];exact Dt.has_ref hd
def Fra.drop(f:Fra He K H0 R H σ env)(i:Nat):Fra He K H0 R H σ (env.set i .un):=by
 have ge: ∀k,(env.set i .un)[k]?=if i=k then(if i<env.length then some .un else none)else env[k]?:=fun k=>br4 ..;have gx: ∀k x,(env.set i .un)[k]?=some x->x=Dt.un\/env[k]?=some x:=fun k x e=>by
  rw[ge]at e;split at e
  .split at e
   .cases e;exact .inl rfl
   .cases e
  .exact .inr e
 refine⟨f.at0,f.ext,by simp[f.len],fun k x e=>?_,fun k j dk dj b ek ej ok oj=>?_⟩
 .rcases gx k x e with rfl|e
  .cases(σ[k]?).join <;> trivial
  .exact f.slot k x e
 .rcases gx k dk ek with rfl|ek
  .cases ok
  .rcases gx j dj ej with rfl|ej
   .cases oj
   .exact f.apart k j dk dj b ek ej ok oj
def OwnR.grow{K:ba2}{H0 R H R':Hp}{ys:List V}{xss:List (List bb0)}(h:OwnR K H0 R H ys xss)(s:Same R R')(hm: ∀b,V.ref b∈ys->R' b=none):OwnR K H0 R' H ys xss:=by
 induction h with
 | nil=>exact .nil
 | cons h t ih=>
   obtain⟨b,zs,e1,e2,e3,e4,e5⟩:=h;exact .cons ⟨b,zs,e1,e2,hm b (by rw[e1];exact bb8),e4,RpAll.same s e5⟩ (ih fun b m=>hm b (bc0 _ m))
def SlotR.grow{K:ba2}{H0 R H R':Hp}{x:Option V}{d:Dt}(h:SlotR K H0 R H x d)(s:Same R R')(hn: ∀b,d.has H x b->R' b=none):SlotR K H0 R' H x d:=by
 cases d with
 | un=>cases x <;> trivial
 | d y=>cases x with
   | none=>exact h
   | some v=>exact Rp.same s h
 | o xs=>cases x with
   | none=>exact h
   | some v=>
     obtain⟨a,ys,rfl,h2,h3,h4,h5⟩:=h;exact⟨a,ys,rfl,h2,hn a rfl,h4,RpAll.same s h5⟩
 | dv xs=>cases x with
   | none=>exact h
   | some v=>
     obtain⟨a,ys,rfl,h2,h3,h4,h5⟩:=h;exact⟨a,ys,rfl,h2,hn a rfl,h4,DvR.same s h5⟩
 | ot xs xss=>cases x with
   | none=>exact h
   | some v=>
     obtain⟨a,ys,zs,rfl,h2,h3,h4,h5,h6⟩:=h;exact⟨a,ys,zs,rfl,s _ _ h2,h3,RpAll.same s h4,h5.grow s fun b m=>hn b ⟨a,_,rfl,h3,by rw[klu h4];exact m⟩,h6⟩
def Fra.give(f:Fra He K H0 R H σ env){i:Nat}{d d':Dt}(h:env[i]?=some d)(hr:Same R R')(hR: ∀b o,R' b=some o->R b=some o\/d.has H (σ[i]?).join b/\H b=some o)(h':SlotR K H0 R' H (σ[i]?).join d')(hn: ∀b,d'.has H (σ[i]?).join b->d.has H (σ[i]?).join b):Fra He K H0 R' H σ (env.set i d'):=by
 have ge: ∀k,(env.set i d')[k]?=if i=k then(if i<env.length then some d' else none)else env[k]?:=fun k=>br4 ..;refine⟨f.at0,⟨f.ext.hh,f.ext.rr.trans hr,fun b o e=>?_,fun b o e n=>?_,fun b o e n=>?_⟩,by simp[f.len],fun k x e=>?_,fun k j dk dj b ek ej ok oj=>?_⟩
 .rcases hR b o e with z|z
  .exact f.ext.rh b o z
  .exact z.2
 .rw[e]at n;cases n
 .cases q:R b with
  | none=>exact f.ext.ls b o e q
  | some u=>rw[hr b u q]at n;cases n
 .rw[ge]at e;by_cases hk:i=k
  .subst hk;rw[zP rfl]at e;split at e
   .cases e;exact h'
   .cases e
  .rw[zN hk]at e;refine(f.slot k x e).grow hr fun b hb=>?_;cases q:R' b with
   | none=>rfl
   | some o=>
     rcases hR b o q with z|z
     .obtain⟨_,_,z2,_⟩:=(f.slot k x e).hasAt hb;rw[z]at z2;cases z2
     .exact zA (f.apart i k d x b h e z.1 hb) hk
 .have old: ∀(k:Nat)(dk:Dt),(env.set i d')[k]?=some dk->dk.has H (σ[k]?).join b->∃dk0,env[k]?=some dk0/\dk0.has H (σ[k]?).join b:=fun k dk ek ok=>by
   rw[ge]at ek;by_cases hk:i=k
   .subst hk;rw[zP rfl]at ek;split at ek
    .cases ek;exact⟨d,h,hn b ok⟩
    .cases ek
   .rw[zN hk]at ek;exact⟨dk,ek,ok⟩
  obtain⟨d1,e1,o1⟩:=old k dk ek ok;obtain⟨d2,e2,o2⟩:=old j dj ej oj;exact f.apart k j d1 d2 b e1 e2 o1 o2
def Fra.frz1(f:Fra He K H0 R H σ env){i:Nat}{xs:List bb0}(h:env[i]?=some (.o xs)): ∃a ys,σ[i]?=some (some (.ref a))/\H a=some (.lst ys)/\R a=none/\Same R (upd R a (.lst ys))/\Fra He K H0 (upd R a (.lst ys)) H σ (env.set i (.d (.list xs))):=by
 obtain⟨v,hs,a,ys,rfl,h2,h3,h4,h5⟩:=f.get h (by intro z;cases z);have hr:Same R (upd R a (.lst ys)):=Same.new h3;have hj:(σ[i]?).join=some (.ref a):=by rw[hs];rfl
 refine⟨a,ys,hs,h2,h3,hr,f.give h hr (fun b o e=>?_) (by rw[hj];exact .lst kak (RpAll.same hr h5)) (fun b z=>by cases z)⟩;by_cases hb:b=a
 .subst hb;rw[kak]at e;cases e;exact .inr ⟨by rw[hj];exact rfl,h2⟩
 .rw[kar hb]at e;exact .inl e
def Fra.frz(f:Fra He K H0 R H σ env){i:Nat}{xs:List bb0}(h:env[i]?=some (.o xs)): ∃R',Same R R'/\Fra He K H0 R' H σ (env.set i (.d (.list xs))):=by
 obtain⟨a,ys,_,_,_,hr,F⟩:=f.frz1 h;exact⟨_,hr,F⟩
end
@[reducible]def De:=List Dt->(bb0->Prop)->Prop
@[reducible]def Dq:=List Dt->(List bb0->Prop)->Prop
@[reducible]def Db:=List Dt->(Bool->Prop)->Prop
section
variable(He:Hp)(K:ba2){ι:Type}(Y:ι->Cx)
abbrev DE(e:Expr)(t:De):Prop:=∃te:TE,(∀ i,PE (Y i) e te)/\∀{H0 R H:Hp}{σ:St}{env:List Dt}(P:bb0->Prop)(Q:VK),Fra He K H0 R H σ env->t env P->
 (∀ d v R' H',P d->Ext R H R' H'->Rp K R' v d->Q v H')->te σ H Q
abbrev DB(e:Expr)(t:De):Prop:=∃te:TE,(∀ i,PE (Y i) e te)/\∀{H0 R H:Hp}{σ:St}{env:List Dt}(P:bb0->Prop)(Q:VK),Fra He K H0 R H σ env->t env P->
 (∀ d v R' H',P d->Ext R H R' H'->Rp K H' v d->Q v H')->te σ H Q
abbrev DQ(e:Expr)(t:Dq):Prop:=∃te:TE,(∀ i,PE (Y i) e te)/\∀{H0 R H:Hp}{σ:St}{env:List Dt}(P:List bb0->Prop)(Q:VK),Fra He K H0 R H σ env->t env P->
 (∀ ds a ys R' H',P ds->Ext R H R' H'->(SqL K H' a ys\/SqT K H' a ys)->RpAll K R' ys ds->Q (.ref a) H')->te σ H Q
abbrev DO(e:Expr)(t:Dq):Prop:=∃te:TE,(∀ i,PE (Y i) e te)/\∀{H0 R H:Hp}{σ:St}{env:List Dt}(P:List bb0->Prop)(Q:VK),Fra He K H0 R H σ env->t env P->
 (∀ ds a ys R' H',P ds->Ext R H R' H'->H a=none->H' a=some (.lst ys)->R' a=none->RpAll K R' ys ds->Q (.ref a) H')->te σ H Q
abbrev DT(e:Expr)(t:Db):Prop:=∃te:TT,(∀ i,PT (Y i) e te)/\∀{H0 R H:Hp}{σ:St}{env:List Dt}(P:Bool->Prop)(Q:Bool->Hp->Prop),Fra He K H0 R H σ env->t env P->
 (∀ b R' H',P b->Ext R H R' H'->Q b H')->te σ H Q
abbrev DW(e:Expr)(t:Db):Prop:=∃te:TT,(∀ i,PW (Y i) e te)/\∀{H0 R H:Hp}{σ:St}{env:List Dt}(P:Bool->Prop)(Q:Bool->Hp->Prop),Fra He K H0 R H σ env->t env P->
 (∀ b R' H',P b->Ext R H R' H'->Q b H')->te σ H Q
abbrev DA(es:List Expr)(t:Dq):Prop:=∃te:TA,(∀ i,PA (Y i) es te)/\∀{H0 R H:Hp}{σ:St}{env:List Dt}(P:List bb0->Prop)(Q:List V->Hp->Prop),Fra He K H0 R H σ env->t env P->
 (∀ ds vs R' H',P ds->Ext R H R' H'->RpAll K R' vs ds->Q vs H')->te σ H Q
abbrev DAb(es:List Expr)(t:Dq):Prop:=∃te:TA,(∀ i,PA (Y i) es te)/\∀{H0 R H:Hp}{σ:St}{env:List Dt}(P:List bb0->Prop)(Q:List V->Hp->Prop),Fra He K H0 R H σ env->t env P->
 (∀ ds vs R' H',P ds->Ext R H R' H'->RpAll K H' vs ds->Q vs H')->te σ H Q
abbrev Sc(v:V)(d:bb0):Prop:=∀(K:ba2)(R:Hp),Rp K R v d
abbrev OD(f:ba6->ba6->Sem ba6)(r:bb0->bb0->(bb0->Prop)->Prop):Prop:=∃rr:R2,(∀ i,OpR (Y i) f rr)/\∀{H:Hp}{x y:V}{dx dy:bb0}(P:bb0->Prop)(Q:VK),Rp K H x dx->Rp K H y dy->r dx dy P->
 (∀ d v,P d->Sc v d->Q v H)->rr x y H Q
end
section
variable{He:Hp}{K:ba2}{ι:Type}{Y:ι->Cx}{e a b c:Expr}{es:List Expr}{pos:Pos}
abbrev xVar(i:Nat):De:=fun env P=>∃d,env[i]?=some (.d d)/\P d
abbrev xC(d:bb0):De:=fun O P=>P d
def kad(i:Nat){x:Str}(h:autoParam (∀ j,PE (Y j) (.Name x pos) (kg9 i)) Z8):DE He K Y (.Name x pos) (xVar i):=
 ⟨_,h,fun P Q f ⟨d,e,p⟩ k=>by obtain⟨v,h1,h2⟩:=f.data e;exact⟨v,h1,k d v _ _ p (.refl f.wd) h2⟩⟩
def kae{i:Int}{j}:DE He K Y (.Constant (.int i) j pos) (xC (.int i)):=⟨_,fun O=>koj,fun P Q f p k=>k _ _ _ _ p (.refl f.wd) (.int i)⟩
def kcl{i:Bool}{j}:DE He K Y (.Constant (.bool i) j pos) (xC (.bool i)):=⟨_,fun O=>k1d,fun P Q f p k=>k _ _ _ _ p (.refl f.wd) (.bl i)⟩
def kb6{j}:DE He K Y (.Constant .none j pos) (xC .none):=⟨_,fun O=>k1e,fun P Q f p k=>k _ _ _ _ p (.refl f.wd) .non⟩
def klv{x:Str}{j}:DE He K Y (.Constant (.str x) j pos) (xC (.str x)):=⟨_,fun O=>k1f,fun P Q f p k=>k _ _ _ _ p (.refl f.wd) (.str x)⟩
def DE.bw{t:De}(h:DE He K Y e t):DB He K Y e t:=by
 obtain⟨te,h1,h2⟩:=h;exact⟨te,h1,fun P Q f p k=>h2 P Q f p fun d v R' H' pd e r=>k d v R' H' pd e (Rp.same e.rh r)⟩
abbrev kv7:Dt->Option bb0
 | .d x=>some x
 | .o xs=>some (.list xs)
 | .ot xs xss=>some (.tuple (xs++xss.map bv8))
 | _=>none
def OwnR.rp{K:ba2}{H0 R H H':Hp}{ys:List V}{xss:List (List bb0)}(h:OwnR K H0 R H ys xss)(s:Same R H')(e: ∀b zs,V.ref b∈ys->H b=some (.lst zs)->H' b=some (.lst zs)):RpAll K H' ys (xss.map bv8):=by
 induction h with
 | nil=>exact .nil
 | cons h t ih=>
   obtain⟨b,zs,rfl,e2,e3,e4,e5⟩:=h;exact .cons (.lst (e b zs bb8 e2) (RpAll.same s e5)) (ih fun b zs m=>e b zs (bc0 _ m))
abbrev ktn(i:Nat):De:=fun env P=>∃s d,env[i]?=some s/\kv7 s=some d/\P d
def kaf(i:Nat){x:Str}(h:autoParam (∀ j,PE (Y j) (.Name x pos) (kg9 i)) Z8):DB He K Y (.Name x pos) (ktn i):=
 ⟨_,h,fun P Q f ⟨s,d,e,z,p⟩ k=>by
   cases s with
   | d x=>
     cases z;obtain⟨v,h1,h2⟩:=f.data e;exact⟨v,h1,k d v _ _ p (.refl f.wd) (Rp.same f.wd.rh h2)⟩
   | o xs=>
     cases z;obtain⟨v,hs,a,ys,rfl,h2,h3,h4,h5⟩:=f.get e (by intro z;cases z);exact⟨_,hs,k _ _ _ _ p (.refl f.wd) (.lst h2 (RpAll.same f.wd.rh h5))⟩
   | ot xs xss=>
     cases z;obtain⟨v,hs,a,ys,zs,rfl,_,h3,h4,h5,_⟩:=f.get e (by intro z;cases z);exact⟨_,hs,k _ _ _ _ p (.refl f.wd) (.tup h3 (RpAll.append (RpAll.same f.wd.rh h4) (h5.rp f.wd.rh fun O O O z=>z)))⟩
   | un=>cases z
   | dv _=>cases z⟩
abbrev excK:List (bb0×bb0)->Bool
 | (.bool _,_)::_=>true
 | _=>false
def klw(ns:List Int):excK (ns.map fun n=>(ba1 n,bs9))=false:=by cases ns <;> rfl
abbrev ko7:bb0->Option (List bb0)
 | .list xs=>some xs
 | .tuple xs=>some xs
 | .dict kvs=>if excK kvs=true then none else some (kvs.map (·.1))
 | _=>none
abbrev seqS:Dt->Option (List bb0)
 | .d x=>ko7 x
 | .o xs=>some xs
 | _=>none
def kgj{H:Hp}{v:V}{d:bb0}{l:List bb0}(r:Rp K H v d)(h:ko7 d=some l): ∃a ys,v= .ref a/\(SqL K H a ys\/SqT K H a ys)/\RpAll K H ys l:=by
 cases r with
 | lst h1 h2=>cases h;exact⟨_,_,rfl,.inl (SqL.of h1),h2⟩
 | @scr a ns h1=>
   have h:(if excK (ns.map fun n=>(ba1 n,bs9))=true then none else some ((ns.map fun n=>(ba1 n,bs9)).map (·.1)))=some l:=h;rw[klw,zN bb6,bc1]at h;cases h;exact⟨_,_,rfl,.inl h1,RpAll.ints ns⟩
 | tup h1 h2=>cases h;exact⟨_,_,rfl,.inr (SqT.of h1),h2⟩
 | non=>cases h
 | bl _=>cases h
 | int _=>cases h
 | str _=>cases h
 | any=>cases h
 | xc _=>cases h
def Same.seqT{H H':Hp}{a:Addr}{xs:List V}(e:Same H H')(h:SqT K H a xs):SqT K H' a xs:=(Same.tk e).sqT h
def Same.sq{H H':Hp}{a:Addr}{xs:List V}(e:Same H H')(h:SqL K H a xs\/SqT K H a xs):SqL K H' a xs\/SqT K H' a xs:=h.imp e.seq e.seqT
abbrev xSeq(t:De):Dq:=fun env P=>t env fun d=>∃l,ko7 d=some l/\P l
def DE.q{t:De}(h:DE He K Y e t):DQ He K Y e (xSeq t):=by
 obtain⟨te,h1,h2⟩:=h;refine⟨te,h1,fun P Q f p k=>h2 _ Q f p fun d v R' H' ⟨l,hl,pl⟩ e r=>?_⟩;obtain⟨a,ys,rfl,h3,h4⟩:=kgj r hl;exact k l a ys R' H' pl e (e.rh.sq h3) h4
abbrev kx5(i:Nat):Dq:=fun env P=>∃s l,env[i]?=some s/\seqS s=some l/\P l
def kai(i:Nat){x:Str}(h:autoParam (∀ j,PE (Y j) (.Name x pos) (kg9 i)) Z8):DQ He K Y (.Name x pos) (kx5 i):=
 ⟨_,h,fun P Q f ⟨s,l,e,z,p⟩ k=>by
   cases s with
   | d x=>
     obtain⟨v,h1,h2⟩:=f.data e;obtain⟨a,ys,rfl,h3,h4⟩:=kgj h2 z;exact⟨_,h1,k l a ys _ _ p (.refl f.wd) (f.wd.rh.sq h3) h4⟩
   | o xs=>
     cases z;obtain⟨v,hs,a,ys,rfl,h2,h3,h4,h5⟩:=f.get e (by intro z;cases z);exact⟨_,hs,k _ a ys _ _ p (.refl f.wd) (.inl (SqL.of h2)) h5⟩
   | un=>cases z
   | ot _ _=>cases z
   | dv _=>cases z⟩
abbrev xLst(t:Dq):De:=fun env P=>t env fun l=>P (.list l)
def DO.ew{t:Dq}(h:DO He K Y e t):DE He K Y e (xLst t):=by
 obtain⟨te,h1,h2⟩:=h;refine⟨te,h1,fun P Q f p k=>h2 _ Q f p fun ds a ys R' H' pl e hn ha hr r=>?_⟩;have s:=Same.new (H:=R') (p:=a) (o:= .lst ys) hr;refine k _ _ (upd R' a (.lst ys)) H' pl ⟨e.hh,e.rr.trans s,fun b o z=>?_,fun b o z n=>?_,fun b o z n=>?_⟩ (.lst kak (RpAll.same s r))
 .by_cases hb:b=a
  .subst hb;rw[kak]at z;cases z;exact ha
  .rw[kar hb]at z;exact e.rh b o z
 .rw[kar (kan z hn)];exact e.nn b o z n
 .by_cases hb:b=a
  .subst hb;rw[kak]at n;cases n
  .rw[kar hb]at n;exact e.ls b o z n
def DO.q{t:Dq}(h:DO He K Y e t):DQ He K Y e t:=by
 obtain⟨te,h1,h2⟩:=h;exact⟨te,h1,fun P Q f p k=>h2 P Q f p fun ds a ys R' H' pl e hn ha hr r=>k ds a ys R' H' pl e (.inl (SqL.of ha)) r⟩
def DO.bw{t:Dq}(h:DO He K Y e t):DB He K Y e (xLst t):=h.ew.bw
abbrev x2(r:bb0->bb0->(bb0->Prop)->Prop)(ta tb:De):De:=fun env P=>ta env fun x=>tb env fun y=>r x y P
def ko8{f:ba6->ba6->Sem ba6}{r:bb0->bb0->(bb0->Prop)->Prop}{ta tb:De}{te te':TE}{rr:R2}
 (ha: ∀{H0 R H:Hp}{σ:St}{env:List Dt}(P:bb0->Prop)(Q:VK),Fra He K H0 R H σ env->ta env P->(∀ d v R' H',P d->Ext R H R' H'->Rp K H' v d->Q v H')->te σ H Q)
 (hb: ∀{H0 R H:Hp}{σ:St}{env:List Dt}(P:bb0->Prop)(Q:VK),Fra He K H0 R H σ env->tb env P->(∀ d v R' H',P d->Ext R H R' H'->Rp K H' v d->Q v H')->te' σ H Q)
 (ho: ∀{H:Hp}{x y:V}{dx dy:bb0}(P:bb0->Prop)(Q:VK),Rp K H x dx->Rp K H y dy->r dx dy P->(∀ d v,P d->Sc v d->Q v H)->rr x y H Q)
 {H0 R H:Hp}{σ:St}{env:List Dt}(P:bb0->Prop)(Q:VK)(F:Fra He K H0 R H σ env)(p:x2 r ta tb env P)(k: ∀d v R' H',P d->Ext R H R' H'->Rp K R' v d->Q v H'):tOp rr te te' σ H Q:=by
 refine ha _ _ F p fun d v R1 H1 p1 e1 r1=>?_;refine hb _ _ (F.next e1) p1 fun d2 v2 R2 H2 p2 e2 r2=>?_;exact ho P _ (Rp.same e2.hh r1) r2 p2 fun d3 v3 p3 s3=>k d3 v3 R2 H2 p3 (e1.trans e2) (s3 K R2)
def kao{op:Operator}{r:bb0->bb0->(bb0->Prop)->Prop}{ta tb:De}(o:OD K Y (binaryOp op) r)(ha:DB He K Y a ta)(hb:DB He K Y b tb):DE He K Y (.BinOp a op b pos) (x2 r ta tb):=by
 obtain⟨te,h1,h2⟩:=ha;obtain⟨te',h3,h4⟩:=hb;obtain⟨rr,h5,h6⟩:=o;exact⟨_,fun i=>kxp (h5 i) (h1 i) (h3 i),fun P Q F p k=>ko8 (f:=binaryOp op) h2 h4 h6 P Q F p k⟩
def kc2{op:CmpOp}{r:bb0->bb0->(bb0->Prop)->Prop}{ta tb:De}(o:OD K Y (bh0 op) r)(ha:DB He K Y a ta)(hb:DB He K Y b tb)(hm:autoParam (behindInMarks op b=false) u9._auto_1):DE He K Y (.Compare a [op] [b] pos) (x2 r ta tb):=by
 obtain⟨te,h1,h2⟩:=ha;obtain⟨te',h3,h4⟩:=hb;obtain⟨rr,h5,h6⟩:=o;exact⟨_,fun i=>kkj (h5 i) (h1 i) (h3 i) hm,fun P Q F p k=>ko8 (f:=bh0 op) h2 h4 h6 P Q F p k⟩
abbrev xB(t:De):Db:=fun env P=>t env fun d=>∃b,d= .bool b/\P b
def kaw{op:CmpOp}{r:bb0->bb0->(bb0->Prop)->Prop}{ta tb:De}(o:OD K Y (bh0 op) r)(ha:DB He K Y a ta)(hb:DB He K Y b tb)(hm:autoParam (behindInMarks op b=false) u9._auto_1):DT He K Y (.Compare a [op] [b] pos) (xB (x2 r ta tb)):=by
 obtain⟨te,h1,h2⟩:=ha;obtain⟨te',h3,h4⟩:=hb;obtain⟨rr,h5,h6⟩:=o;refine⟨_,fun i=>kxv (h5 i) (h1 i) (h3 i) hm,fun P Q F p k=>ko8 (f:=bh0 op) h2 h4 h6 _ _ F p fun d v R' H' ⟨b,eb,pb⟩ e r=>?_⟩;subst eb;exact⟨b,r.bl_inv,k b R' H' pb e⟩
abbrev kjq(r r':bb0->bb0->(bb0->Prop)->Prop)(ta tb tc:De):De:=fun env P=>ta env fun x=>tb env fun y=>r x y fun z=>∃k,z= .bool k/\if k=true then tc env fun w=>r' y w P else P (.bool false)
def khf{r r':bb0->bb0->(bb0->Prop)->Prop}{ta tb tc:De}{te te' te'':TE}{rr rr':R2}
 (ha: ∀{H0 R H:Hp}{σ:St}{env:List Dt}(P:bb0->Prop)(Q:VK),Fra He K H0 R H σ env->ta env P->(∀ d v R' H',P d->Ext R H R' H'->Rp K H' v d->Q v H')->te σ H Q)
 (hb: ∀{H0 R H:Hp}{σ:St}{env:List Dt}(P:bb0->Prop)(Q:VK),Fra He K H0 R H σ env->tb env P->(∀ d v R' H',P d->Ext R H R' H'->Rp K H' v d->Q v H')->te' σ H Q)
 (hc: ∀{H0 R H:Hp}{σ:St}{env:List Dt}(P:bb0->Prop)(Q:VK),Fra He K H0 R H σ env->tc env P->(∀ d v R' H',P d->Ext R H R' H'->Rp K H' v d->Q v H')->te'' σ H Q)
 (ho: ∀{H:Hp}{x y:V}{dx dy:bb0}(P:bb0->Prop)(Q:VK),Rp K H x dx->Rp K H y dy->r dx dy P->(∀ d v,P d->Sc v d->Q v H)->rr x y H Q)
 (ho': ∀{H:Hp}{x y:V}{dx dy:bb0}(P:bb0->Prop)(Q:VK),Rp K H x dx->Rp K H y dy->r' dx dy P->(∀ d v,P d->Sc v d->Q v H)->rr' x y H Q)
 {H0 R H:Hp}{σ:St}{env:List Dt}(P:bb0->Prop)(Q:VK)(F:Fra He K H0 R H σ env)(p:kjq r r' ta tb tc env P)(k: ∀d v R' H',P d->Ext R H R' H'->Rp K R' v d->Q v H'):koq rr rr' te te' te'' σ H Q:=by
 refine ha _ _ F p fun d v R1 H1 p1 e1 r1=>?_;refine hb _ _ (F.next e1) p1 fun d2 v2 R2 H2 p2 e2 r2=>?_;refine ho _ _ (Rp.same e2.hh r1) r2 p2 fun d3 v3 ⟨b,eb,p3⟩ s3=>?_;subst eb;have ev:=(s3 K R2).bl_inv;subst ev;refine⟨b,rfl,?_⟩;cases b with
 | true=>
   rw[zP rfl]at p3⊢;refine hc _ _ (F.next (e1.trans e2)) p3 fun d4 v4 R4 H4 p4 e4 r4=>?_;exact ho' P _ (Rp.same e4.hh r2) r4 p4 fun d5 v5 p5 s5=>k d5 v5 R4 H4 p5 ((e1.trans e2).trans e4) (s5 K R4)
 | false=>
   rw[zN bb6]at p3⊢;exact k _ _ R2 H2 p3 (e1.trans e2) (.bl false)
def kto{op op':CmpOp}{r r':bb0->bb0->(bb0->Prop)->Prop}{ta tb tc:De}(o:OD K Y (bh0 op) r)(o':OD K Y (bh0 op') r')(ha:DB He K Y a ta)(hb:DB He K Y b tb)(hc:DB He K Y c tc)
 (hm:autoParam (lastMarks [op,op'] [b,c]=false) Z5):DE He K Y (.Compare a [op,op'] [b,c] pos) (kjq r r' ta tb tc):=by
 obtain⟨te,h1,h2⟩:=ha;obtain⟨te',h3,h4⟩:=hb;obtain⟨te'',h7,h8⟩:=hc;obtain⟨rr,h5,h6⟩:=o;obtain⟨rr',h9,h10⟩:=o';exact⟨_,fun i=>kte (h5 i) (h9 i) (h1 i) (h3 i) (h7 i) hm,fun P Q F p k=>khf h2 h4 h8 h6 h10 P Q F p k⟩
def khw{op op':CmpOp}{r r':bb0->bb0->(bb0->Prop)->Prop}{ta tb tc:De}(o:OD K Y (bh0 op) r)(o':OD K Y (bh0 op') r')(ha:DB He K Y a ta)(hb:DB He K Y b tb)(hc:DB He K Y c tc)
 (hm:autoParam (lastMarks [op,op'] [b,c]=false) Z5):DT He K Y (.Compare a [op,op'] [b,c] pos) (xB (kjq r r' ta tb tc)):=by
 obtain⟨te,h1,h2⟩:=ha;obtain⟨te',h3,h4⟩:=hb;obtain⟨te'',h7,h8⟩:=hc;obtain⟨rr,h5,h6⟩:=o;obtain⟨rr',h9,h10⟩:=o';refine⟨_,fun i=>ktf (h5 i) (h9 i) (h1 i) (h3 i) (h7 i) hm,fun P Q F p k=>khf h2 h4 h8 h6 h10 _ _ F p fun d v R' H' ⟨b,eb,pb⟩ e r=>?_⟩;subst eb;exact⟨b,r.bl_inv,k b R' H' pb e⟩
abbrev kv8(g:Int->Int->bb0):bb0->bb0->(bb0->Prop)->Prop:=fun x y P=>∃i j,x= .int i/\y= .int j/\P (g i j)
abbrev rdI(C:Int->Int->Prop)(g:Int->Int->bb0):bb0->bb0->(bb0->Prop)->Prop:=fun x y P=>∃i j,x= .int i/\y= .int j/\C i j/\P (g i j)
def knn(i:Int):Sc (.int i) (.int i):=fun O O=> .int i
def ko9(i:Bool):Sc (.bl i) (.bool i):=fun O O=> .bl i
def kpa{f:ba6->ba6->Sem ba6}{g:Int->Int->V}{gd:Int->Int->bb0}(ho: ∀i,OpR (Y i) f (rI0 g))(hs: ∀i j,Sc (g i j) (gd i j)):OD K Y f (kv8 gd):=by
 refine⟨_,ho,fun P Q r1 r2 p k=>?_⟩;obtain⟨i,j,rfl,rfl,p⟩:=p;exact⟨i,j,r1.int_inv,r2.int_inv,k _ _ p (hs i j)⟩
def od_I{f:ba6->ba6->Sem ba6}{C:Int->Int->Prop}{g:Int->Int->V}{gd:Int->Int->bb0}(ho: ∀i,OpR (Y i) f (rI C g))(hs: ∀i j,Sc (g i j) (gd i j)):OD K Y f (rdI C gd):=by
 refine⟨_,ho,fun P Q r1 r2 p k=>?_⟩;obtain⟨i,j,rfl,rfl,hc,p⟩:=p;exact⟨i,j,r1.int_inv,r2.int_inv,hc,k _ _ p (hs i j)⟩
def kc3:OD K Y (binaryOp .Add) (kv8 fun i j=> .int (i+j)):=kpa (fun O=>k1p) fun O O=>knn _
def kgk:OD K Y (binaryOp .Sub) (kv8 fun i j=> .int (i-j)):=kpa (fun O=>k1q) fun O O=>knn _
def kdn:OD K Y (binaryOp .Mult) (rdI CMul fun i j=> .int (i*j)):=od_I (fun O=>k1r) fun O O=>knn _
def kbw:OD K Y (binaryOp .FloorDiv) (rdI k0y fun i j=> .int (i/j)):=od_I (fun O=>kxq) fun O O=>knn _
def kbo:OD K Y (binaryOp .Mod) (rdI (fun O j=>0<j) fun i j=> .int (i % j)):=od_I (fun O=>k1s) fun O O=>knn _
def k2e:OD K Y (binaryOp .Pow) (rdI CPow fun i j=> .int (i ^ j.toNat)):=od_I (fun O=>k1t) fun O O=>knn _
def kkn:OD K Y (bh0 .Lt) (kv8 fun i j=> .bool (decide (i<j))):=kpa (fun O=>op_lt) fun O O=>ko9 _
def ktp:OD K Y (bh0 .LtE) (kv8 fun i j=> .bool (decide (i<=j))):=kpa (fun O=>op_le) fun O O=>ko9 _
def kpb:OD K Y (bh0 .Gt) (kv8 fun i j=> .bool (decide (j<i))):=kpa (fun O=>op_gt) fun O O=>ko9 _
abbrev okD(d:bb0):Prop:=d.canLay0=true
abbrev khx(d:bb0):Prop:=d.depth<=9
abbrev rdEq:bb0->bb0->(bb0->Prop)->Prop:=fun x y P=>okD x/\okD y/\(khx x\/khx y)/\P (.bool (bg3 x y))
abbrev rdNe:bb0->bb0->(bb0->Prop)->Prop:=fun x y P=>okD x/\okD y/\(khx x\/khx y)/\P (.bool (!PyData.eqv x y))
def kcg(hu: ∀i,(Y i).A.units+10<cLine)(hK:autoParam (∀ i,(Y i).K=K) Z3):OD K Y (bh0 .Eq) rdEq:=by
 refine⟨_,fun i=>k2d K (hu i) (hK i),fun P Q r1 r2 p k=>?_⟩;obtain⟨h1,h2,h3,p⟩:=p;exact⟨_,_,r1,r2,h1,h2,by unfold khx at h3;lia,k _ _ p (ko9 _)⟩
def k2f{X:Cx}(K:ba2)(hu:X.A.units+10<cLine)(h:autoParam (X.K=K) Z4):OpR X (bh0 .NotEq) (fun x y H Q=>∃dx dy,Rp K H x dx/\Rp K H y dy/\dx.canLay0=true/\dy.canLay0=true/\min dx.depth dy.depth<=9/\Q (.bl (!PyData.eqv dx dy)) H):=by
 subst h;intro pI s σ H x y v u Q I rx ry hq;obtain⟨dx,dy,h1,h2,l1,l2,hd,q⟩:=hq;obtain⟨as,ra⟩:=I.reads h1 rx l1;obtain⟨bs,rb⟩:=I.reads h2 ry l2;exact SeqAt.rcNeAt_reads ra rb l1 l2 (by lia) _ _ _ _ ⟨.bl _,H,I,rfl,q⟩
def kdm(hu: ∀i,(Y i).A.units+10<cLine)(hK:autoParam (∀ i,(Y i).K=K) Z3):OD K Y (bh0 .NotEq) rdNe:=by
 refine⟨_,fun i=>k2f K (hu i) (hK i),fun P Q r1 r2 p k=>?_⟩;obtain⟨h1,h2,h3,p⟩:=p;exact⟨_,_,r1,r2,h1,h2,by unfold khx at h3;lia,k _ _ p (ko9 _)⟩
abbrev rdIn:bb0->bb0->(bb0->Prop)->Prop:=fun x y P=>∃l,ko7 y=some l/\bd7 l=true/\okD x/\khx x/\P (.bool (l.any fun d=>bg3 d x))
def kjr(hu: ∀i,(Y i).A.units+10<cLine)(hK:autoParam (∀ i,(Y i).K=K) Z3):OD K Y (bh0 .In) rdIn:=by
 refine⟨_,fun i=>kv5 K (hu i) (hK i),fun P Q r1 r2 p k=>?_⟩;obtain⟨l,h1,h2,h3,h4,p⟩:=p;obtain⟨a,ys,rfl,h5,h6⟩:=kgj r2 h1;exact⟨a,ys,l,_,rfl,h5,h6,r1,h2,h3,h4,k _ _ p (ko9 _)⟩
abbrev isNone:bb0->Bool
 | .none=>true
 | _=>false
def kpc{H:Hp}{v:V}{d:bb0}(r:Rp K H v d):decide (v= .non)=isNone d:=by
 cases r <;> simp[isNone,kd7,anyD,excD]
def kno:OD K Y (bh0 .Is) (fun x y P=>y= .none/\P (.bool (isNone x))):=by
 refine⟨_,fun i=>k1w,fun P Q r1 r2 p k=>?_⟩;obtain⟨rfl,p⟩:=p;cases r2;exact⟨rfl,by rw[kpc r1];exact k _ _ p (ko9 _)⟩
def khy:OD K Y (bh0 .IsNot) (fun x y P=>y= .none/\P (.bool (!isNone x))):=by
 refine⟨_,fun i=>kxu,fun P Q r1 r2 p k=>?_⟩;obtain⟨rfl,p⟩:=p;cases r2;exact⟨rfl,by rw[kpc r1];exact k _ _ p (ko9 _)⟩
def kbi{t:De}(h:DB He K Y e t)(he:autoParam (∀ i whole,isTrue e (Y i).env whole=(do let v <- whole;standAt e.pos;holding [v] (truthy v))) Z10):DT He K Y e (xB t):=by
 obtain⟨te,h1,h2⟩:=h;refine⟨_,fun i=>kli (h1 i) (he i),fun P Q F p k=>h2 _ _ F p fun d v R' H' ⟨b,eb,pb⟩ e r=>?_⟩;subst eb;exact⟨b,r.bl_inv,k b R' H' pb e⟩
abbrev xNot(t:Db):Db:=fun env P=>t env fun b=>P (!b)
def kbx{t:Db}(h:DT He K Y a t):DT He K Y (.UnaryOp .Not a pos) (xNot t):=by
 obtain⟨te,h1,h2⟩:=h;exact⟨_,fun i=>k1h (h1 i),fun P Q F p k=>h2 _ _ F p fun b R' H' pb e=>k _ R' H' pb e⟩
abbrev xAnd(t u:Db):Db:=fun env P=>t env fun b=>if b=true then u env P else P false
abbrev xOr(t u:Db):Db:=fun env P=>t env fun b=>if b=true then P true else u env P
def kek{t:Db}(h:DT He K Y a t):DW He K Y (.BoolOp .And [a] pos) t:=by
 obtain⟨te,h1,h2⟩:=h;exact⟨_,fun i=>kok (h1 i),h2⟩
def kdj{t:Db}(h:DT He K Y a t):DW He K Y (.BoolOp .Or [a] pos) t:=by
 obtain⟨te,h1,h2⟩:=h;exact⟨_,fun i=>k1g (h1 i),h2⟩
def kfy{t u:Db}(h:DT He K Y a t)(h':DW He K Y (.BoolOp .And (b::es) pos) u):DW He K Y (.BoolOp .And (a::b::es) pos) (xAnd t u):=by
 obtain⟨te,h1,h2⟩:=h;obtain⟨te',h3,h4⟩:=h';refine⟨_,fun i=>kvw (h1 i) (h3 i),fun P Q F p k=>h2 _ _ F p fun b R' H' pb e=>?_⟩;cases b with
 | true=>
   rw[zP rfl]at pb⊢;exact h4 P Q (F.next e) pb fun b R2 H2 p2 e2=>k b R2 H2 p2 (e.trans e2)
 | false=>
   rw[zN bb6]at pb⊢;exact k _ R' H' pb e
def kd8{t u:Db}(h:DT He K Y a t)(h':DW He K Y (.BoolOp .Or (b::es) pos) u):DW He K Y (.BoolOp .Or (a::b::es) pos) (xOr t u):=by
 obtain⟨te,h1,h2⟩:=h;obtain⟨te',h3,h4⟩:=h';refine⟨_,fun i=>pw_or (h1 i) (h3 i),fun P Q F p k=>h2 _ _ F p fun b R' H' pb e=>?_⟩;cases b with
 | true=>
   rw[zP rfl]at pb⊢;exact k _ R' H' pb e
 | false=>
   rw[zN bb6]at pb⊢;exact h4 P Q (F.next e) pb fun b R2 H2 p2 e2=>k b R2 H2 p2 (e.trans e2)
def DW.t{t:Db}(h:DW He K Y e t):DT He K Y e t:=by
 obtain⟨te,h1,h2⟩:=h;exact⟨te,fun i=>(h1 i).pt,h2⟩
abbrev kx6(ta tb:De):De:=fun env P=>ta env fun x=>∃c,x= .bool c/\if c=true then tb env P else P (.bool false)
abbrev xOrV(ta tb:De):De:=fun env P=>ta env fun x=>∃c,x= .bool c/\if c=true then P (.bool true)else tb env P
def klx{op}{t:De}(h:DE He K Y a t):DE He K Y (.BoolOp op [a] pos) t:=by
 obtain⟨te,h1,h2⟩:=h;exact⟨te,fun i=>kvx (h1 i),h2⟩
def kv9{t u:De}(h:DE He K Y a t)(h':DE He K Y (.BoolOp .And (b::es) pos) u):DE He K Y (.BoolOp .And (a::b::es) pos) (kx6 t u):=by
 obtain⟨te,h1,h2⟩:=h;obtain⟨te',h3,h4⟩:=h';refine⟨_,fun i=>kvy (h1 i) (h3 i),fun P Q F p k=>h2 _ _ F p fun d v R' H' ⟨c,ec,pc⟩ e r=>?_⟩;subst ec;refine⟨c,r.bl_inv,?_⟩;cases c with
 | true=>
   rw[zP rfl]at pc⊢;exact h4 P Q (F.next e) pc fun d v R2 H2 p2 e2=>k d v R2 H2 p2 (e.trans e2)
 | false=>
   rw[zN bb6]at pc⊢;exact k _ _ R' H' pc e (.bl false)
def k2g{t u:De}(h:DE He K Y a t)(h':DE He K Y (.BoolOp .Or (b::es) pos) u):DE He K Y (.BoolOp .Or (a::b::es) pos) (xOrV t u):=by
 obtain⟨te,h1,h2⟩:=h;obtain⟨te',h3,h4⟩:=h';refine⟨_,fun i=>pe_or (h1 i) (h3 i),fun P Q F p k=>h2 _ _ F p fun d v R' H' ⟨c,ec,pc⟩ e r=>?_⟩;subst ec;refine⟨c,r.bl_inv,?_⟩;cases c with
 | true=>
   rw[zP rfl]at pc⊢;exact k _ _ R' H' pc e (.bl true)
 | false=>
   rw[zN bb6]at pc⊢;exact h4 P Q (F.next e) pc fun d v R2 H2 p2 e2=>k d v R2 H2 p2 (e.trans e2)
abbrev kx7(t:De):De:=fun env P=>t env fun x=>∃c,x= .bool c/\P (.bool (!c))
def kwa{t:De}(h:DE He K Y a t):DE He K Y (.UnaryOp .Not a pos) (kx7 t):=by
 obtain⟨te,h1,h2⟩:=h;refine⟨_,fun i=>k1i (h1 i),fun P Q F p k=>h2 _ _ F p fun d v R' H' ⟨c,ec,pc⟩ e r=>?_⟩;subst ec;exact⟨c,r.bl_inv,k _ _ R' H' pc e (.bl _)⟩
abbrev xNeg(t:De):De:=fun env P=>t env fun x=>∃i,x= .int i/\P (.int (-i))
def kpd{t:De}(h:DE He K Y a t):DE He K Y (.UnaryOp .USub a pos) (xNeg t):=by
 obtain⟨te,h1,h2⟩:=h;refine⟨_,fun i=>pe_un k1u (h1 i),fun P Q F p k=>h2 _ _ F p fun d v R' H' ⟨c,ec,pc⟩ e r=>?_⟩;subst ec;exact⟨c,r.int_inv,k _ _ R' H' pc e (.int _)⟩
abbrev xIf(t:Db)(ta tb:De):De:=fun env P=>t env fun b=>if b=true then ta env P else tb env P
def kx8{t:Db}{ta tb:De}(hc:DT He K Y c t)(ha:DE He K Y a ta)(hb:DE He K Y b tb):DE He K Y (.IfExp c a b pos) (xIf t ta tb):=by
 obtain⟨te,h1,h2⟩:=hc;obtain⟨te',h3,h4⟩:=ha;obtain⟨te'',h5,h6⟩:=hb;refine⟨_,fun i=>ktb (h1 i) (h3 i) (h5 i),fun P Q F p k=>h2 _ _ F p fun b R' H' pb e=>?_⟩;cases b with
 | true=>
   rw[zP rfl]at pb⊢;exact h4 P Q (F.next e) pb fun d v R2 H2 p2 e2=>k d v R2 H2 p2 (e.trans e2)
 | false=>
   rw[zN bb6]at pb⊢;exact h6 P Q (F.next e) pb fun d v R2 H2 p2 e2=>k d v R2 H2 p2 (e.trans e2)
end
def szl{n:Nat}(h:n<=100000):n<=sizeLine:=bi9 h (by decide)
section
variable{He:Hp}{K:ba2}{ι:Type}{Y:ι->Cx}{e a b c:Expr}{es:List Expr}{pos:Pos}
def RpAll.at{R:Hp}{ys:List V}{l:List bb0}{k:Int}{d:bb0}(r:RpAll K R ys l)(h:atI l k=some d): ∃v,atI ys k=some v/\Rp K R v d:=by
 unfold atI at h⊢;rw[r.len];cases q:ixN l.length k with
 | none=>rw[q]at h;cases h
 | some j=>
   rw[q]at h;exact r.get' h
abbrev xIx(t:Dq)(ti:De):De:=fun env P=>t env fun l=>ti env fun i=>∃k d,i= .int k/\atI l k=some d/\P d
def kx9{X:Cx}(K:ba2)(h:autoParam (X.K=K) Z4):IxR X (rIx K):=h▸k13
def kam{t:Dq}{ti:De}(ha:DQ He K Y a t)(hb:DB He K Y b ti)(hs:autoParam (ko0 b) Z10)(hK:autoParam (∀ i,(Y i).K=K) Z3):DE He K Y (.Subscript a b pos) (xIx t ti):=by
 obtain⟨te,h1,h2⟩:=ha;obtain⟨te',h3,h4⟩:=hb;refine⟨_,fun i=>kjh (kx9 K (hK i)) (h1 i) (h3 i) hs,fun P Q F p k=>?_⟩;refine h2 _ _ F p fun l p1 ys R1 H1 q1 e1 s1 r1=>?_;refine h4 _ _ (F.next e1) q1 fun d v R2 H2 q2 e2 r2=>?_;obtain⟨j,d',rfl,hd,q2⟩:=q2;have ev:=r2.int_inv;subst ev;obtain⟨w,hw,rw'⟩:=r1.at hd;have fin:=k d' w R2 H2 q2 (e1.trans e2) (Rp.same e2.rr rw');rcases e2.hh.sq s1 with z|z
 .exact .inl ⟨p1,ys,j,w,rfl,rfl,z,hw,fin⟩
 .exact .inr (.inl ⟨p1,ys,j,w,rfl,rfl,z,hw,fin⟩)
abbrev xNil:Dq:=fun O P=>P []
abbrev ktq(t:De)(u:Dq):Dq:=fun env P=>t env fun d=>u env fun ds=>P (d::ds)
def kah:DA He K Y [] xNil:=⟨_,fun O=>ka2,fun P Q F p k=>k [] [] _ _ p (.refl F.wd) .nil⟩
def kaa{t:De}{u:Dq}(h:DE He K Y e t)(h':DA He K Y es u)(hs:autoParam (∀ i,bc5 (e::es) (Y i).env=(false,eval e (Y i).env)::bc5 es (Y i).env) Z3):DA He K Y (e::es) (ktq t u):=by
 obtain⟨te,h1,h2⟩:=h;obtain⟨te',h3,h4⟩:=h';refine⟨_,fun i=>kaq (h1 i) (h3 i) (hs i),fun P Q F p k=>?_⟩;refine h2 _ _ F p fun d v R1 H1 q1 e1 r1=>?_;refine h4 _ _ (F.next e1) q1 fun ds vs R2 H2 q2 e2 r2=>?_;exact k _ _ R2 H2 q2 (e1.trans e2) (.cons (Rp.same e2.rr r1) r2)
def kfj:DAb He K Y [] xNil:=⟨_,fun O=>ka2,fun P Q F p k=>k [] [] _ _ p (.refl F.wd) .nil⟩
def kbz{t:De}{u:Dq}(h:DB He K Y e t)(h':DAb He K Y es u)(hs:autoParam (∀ i,bc5 (e::es) (Y i).env=(false,eval e (Y i).env)::bc5 es (Y i).env) Z3):DAb He K Y (e::es) (ktq t u):=by
 obtain⟨te,h1,h2⟩:=h;obtain⟨te',h3,h4⟩:=h';refine⟨_,fun i=>kaq (h1 i) (h3 i) (hs i),fun P Q F p k=>?_⟩;refine h2 _ _ F p fun d v R1 H1 q1 e1 r1=>?_;refine h4 _ _ (F.next e1) q1 fun ds vs R2 H2 q2 e2 r2=>?_;exact k _ _ R2 H2 q2 (e1.trans e2) (.cons (Rp.same e2.hh r1) r2)
abbrev xTup(t:Dq):De:=fun env P=>t env fun ds=>ds.length<=100000/\P (.tuple ds)
def kbf{t:Dq}{x1}(h:DA He K Y es t):DE He K Y (.Tuple es x1 pos) (xTup t):=by
 obtain⟨te,h1,h2⟩:=h;refine⟨_,fun i=>klm (h1 i),fun P Q F p k=>h2 _ _ F p fun ds vs R1 H1 ⟨hl,q⟩ e1 r1=>⟨szl (by rw[r1.len];exact hl),fun a ha=>?_⟩⟩;have e2:=Ext.new (o:= .tup vs) e1.wd ha;exact k _ _ _ _ q (e1.trans e2) (.tup kak (RpAll.same e2.rr r1))
abbrev kya(t:Dq):Dq:=fun env P=>t env fun ds=>ds.length<=100000/\P ds
def kbj{t:Dq}(h:DA He K Y es t):DO He K Y (.List es pos) (kya t):=by
 obtain⟨te,h1,h2⟩:=h;refine⟨_,fun i=>kv0 (h1 i),fun P Q F p k=>h2 _ _ F p fun ds vs R1 H1 ⟨hl,q⟩ e1 r1=>⟨szl (by rw[r1.len];exact hl),fun a ha=>?_⟩⟩;have e2:=Ext.newO (o:= .lst vs) e1.wd ha trivial;exact k _ _ _ _ _ q (e1.trans e2) (e1.hh.free ha) kak (e1.wd.rh.free ha) r1
abbrev xLen(t:Dq):De:=fun env P=>t env fun l=>P (.int (l.length:Int))
def kbv{t:Dq}{p:Pos}(h:DQ He K Y a t)(hm: ∀i,(Y i).mg "len"=none)(hg:autoParam (∀ i,Gl (Y i) "len") Z3)(hK:autoParam (∀ i,(Y i).K=K) Z3)(hs:autoParam (∀ i,bc5 [a] (Y i).env=[(false,eval a (Y i).env)]) Z3):
 DE He K Y (.Call (.Name "len" p) [a] [] pos) (xLen t):=by
 obtain⟨te,h1,h2⟩:=h;refine⟨_,fun i=>kcw (ko6 K (hK i)) (hg i) (hm i) boot_len (kaq (h1 i) ka2 (hs i)) (by decide) (by decide) (hs i),fun P Q F p k=>h2 _ _ F p fun l x ys R1 H1 q1 e1 s1 r1=>?_⟩;exact⟨x,ys,rfl,s1,by rw[r1.len];exact k _ _ R1 H1 q1 e1 (.int _)⟩
def kea{X:Cx}(K:ba2)(h:autoParam (X.K=K) Z4):kdk X (.type "tuple") (fun xs H Q=>∃p ys,xs=[.ref p]/\((SqL K H p ys/\∀l,H l=none->Q (.ref l) (upd H l (.tup ys)))\/(SqT K H p ys/\Q (.ref p) H))):=h▸ke0
abbrev kly(t:Dq):De:=fun env P=>t env fun l=>P (.tuple l)
def kdc{t:Dq}{p:Pos}(h:DO He K Y a t)(hm: ∀i,(Y i).mg "tuple"=none)(hg:autoParam (∀ i,Gl (Y i) "tuple") Z3)(hK:autoParam (∀ i,(Y i).K=K) Z3)(hs:autoParam (∀ i,bc5 [a] (Y i).env=[(false,eval a (Y i).env)]) Z3):
 DE He K Y (.Call (.Name "tuple" p) [a] [] pos) (kly t):=by
 obtain⟨te,h1,h2⟩:=h;refine⟨_,fun i=>kco (kea K (hK i)) (hg i) (hm i) cl9 (kaq (h1 i) ka2 (hs i)) (by decide) (by decide) (hs i),fun P Q F p k=>h2 _ _ F p fun l x ys R1 H1 q1 e1 hn hx hr r1=>?_⟩;refine⟨x,ys,rfl,.inl ⟨SqL.of hx,fun a ha=>?_⟩⟩;have e2:=Ext.new (o:= .tup ys) e1.wd ha;exact k _ _ _ _ q1 (e1.trans e2) (.tup kak (RpAll.same e2.rr r1))
def kdo{x:Str}{p p2:Pos}(i:Nat)(hm: ∀i,(Y i).mg "tuple"=none)(h:autoParam (∀ j,PE (Y j) (.Name x p2) (kg9 i)) Z8)(hg:autoParam (∀ i,Gl (Y i) "tuple") Z3)(hK:autoParam (∀ i,(Y i).K=K) Z3)
 (hs:autoParam (∀ i,bc5 [.Name x p2] (Y i).env=[(false,eval (.Name x p2) (Y i).env)]) Z3):
 DE He K Y (.Call (.Name "tuple" p) [.Name x p2] [] pos) (kly (fun env P=>∃l,(env[i]?=some (.o l)\/env[i]?=some (.d (.list l)))/\P l)):=by
 refine⟨_,fun i=>kco (kea K (hK i)) (hg i) (hm i) cl9 (kaq (h i) ka2 (hs i)) (by decide) (by decide) (hs i),fun P Q F p k=>?_⟩;obtain⟨l,p1|p1,q1⟩:=p
 .obtain⟨v,hs,a,ys,rfl,h2,h3,h4,h5⟩:=F.get p1 (by intro z;cases z);refine⟨_,hs,a,ys,rfl,.inl ⟨SqL.of h2,fun a ha=>?_⟩⟩;have e2:=Ext.new (o:= .tup ys) F.wd ha;exact k _ _ _ _ q1 e2 (.tup kak (RpAll.same e2.rr h5))
 .obtain⟨v,hs,r⟩:=F.data p1;obtain⟨a,ys,rfl,h2,h3⟩:=Rp.lst_inv r;refine⟨_,hs,a,ys,rfl,.inl ⟨SqL.of (F.wd.rh _ _ h2),fun a ha=>?_⟩⟩;have e2:=Ext.new (o:= .tup ys) F.wd ha;exact k _ _ _ _ q1 e2 (.tup kak (RpAll.same e2.rr h3))
abbrev kel(lo:Int)(n:Nat):List bb0:=(ba8 n).map fun(i:Nat)=>ba1 (lo+(i:Int))
def RpAll.rangeV(R:Hp)(lo:Int): ∀n,RpAll K R (rangeV lo n) (kel lo n):=by
 intro n;unfold L2.rangeV kel;generalize ba8 n=l;induction l with
 | nil=>exact .nil
 | cons x l ih=>exact .cons (.int _) ih
abbrev kfk(t:De):Dq:=fun env P=>t env fun d=>∃j:Int,d= .int j/\j<=100000/\ -(2 ^ 62)<=j/\P (kel 0 j.toNat)
def kb4{t:De}{p p2:Pos}{pos2:Pos}(h:DB He K Y a t)(hm: ∀i,(Y i).mg "list"=none)(hm2: ∀i,(Y i).mg "range"=none)(hc:autoParam (∀ i,(Y i).calm=true) Z3)(hg:autoParam (∀ i,Gl (Y i) "list") Z3)(hg2:autoParam (∀ i,Gl (Y i) "range") Z3)
 (hs:autoParam (∀ i,bc5 [a] (Y i).env=[(false,eval a (Y i).env)]) Z3)
 (hs2:autoParam (∀ i,bc5 [.Call (.Name "range" p2) [a] [] pos2] (Y i).env=[(false,eval (.Call (.Name "range" p2) [a] [] pos2) (Y i).env)]) Z3):
 DO He K Y (.Call (.Name "list" p) [.Call (.Name "range" p2) [a] [] pos2] [] pos) (kfk t):=by
 obtain⟨te,h1,h2⟩:=h;refine⟨_,fun i=>kco (khv (hc i)) (hg i) (hm i) boot_list (kaq (kjp (hg2 i) (hm2 i) (kaq (h1 i) ka2 (hs i)) (hs i)) ka2 (hs2 i)) (by decide) (by decide) (hs2 i),fun P Q F p k=>h2 _ _ F p fun d v R1 H1 q1 e1 r1=>?_⟩;obtain⟨j,rfl,hj,hj2,q1⟩:=q1;have ev:=r1.int_inv;subst ev;refine⟨j,rfl,fun p hp=>⟨p,0,j,rfl,kak,⟨by decide,by decide,hj2,by lia⟩,szl (by lia),fun l hl=>?_⟩⟩;have e2:=Ext.new (o:= .rng 0 j) e1.wd hp;have e3:=Ext.newO (o:= .lst (rangeV 0 (j-0).toNat)) e2.wd hl trivial;have ee:=e1.trans (e2.trans e3);refine k _ _ _ _ _ q1 ee ((e1.trans e2).hh.free hl) kak (e2.wd.rh.free hl) ?_;rw[cn8];exact RpAll.rangeV _ 0 _
abbrev tyD:bb0->ba6
 | .none=> .type "NoneType"
 | .bool _=> .type "bool"
 | .int _=> .type "int"
 | .str _=> .type "str"
 | .list _=> .type "list"
 | .tuple _=> .type "tuple"
 | .dict _=> .type "dict"
abbrev khg:bb0->Bool
 | .dict _=>false
 | _=>true
def TyOf.of{H:Hp}{v:V}{d:bb0}(r:Rp K H v d)(h:khg d=true):TyOf K H v (tyD d):=by
 cases r with
 | non=>exact .non
 | bl b=>exact .bl b
 | int i=>exact .int i
 | str x=>exact .str x
 | lst h1 _=>exact .lst h1
 | tup h1 _=>exact .tup h1
 | scr h1=>cases h
 | any=>cases h
 | xc _=>cases h
abbrev xIsi(K:ba2)(T:String)(t:De):De:=fun env P=>t env fun d=>∃b,khg d=true/\bi1 K (tyD d) (.type T)=some b/\P (.bool b)
def kjs{X:Cx}(K:ba2)(h:autoParam (X.K=K) Z4):kdk X (.builtin "isinstance") (fun xs H Q=>∃x T t b,xs=[x,.ty T]/\TyOf K H x t/\bi1 K t (.type T)=some b/\Q (.bl b) H):=h▸kkm
def kyb:bootBuiltins "isinstance"=some (.builtin "isinstance"):=by decide +kernel
def kfz{t:De}{p p2:Pos}{x:Str}{T:String}(h:DB He K Y a t)(hT:bootBuiltins x=some (.type T))(hmT: ∀i,(Y i).mg x=none)(hm: ∀i,(Y i).mg "isinstance"=none)(hxn:autoParam (x≠"__name__") Z2)(hxd:autoParam ((x==("__debug__":Str))=false) Z2)(hgT:autoParam (∀ i,Gl (Y i) x) Z3)(hg:autoParam (∀ i,Gl (Y i) "isinstance") Z3)
 (hK:autoParam (∀ i,(Y i).K=K) Z3)(hs:autoParam (∀ i,bc5 [a,.Name x p2] (Y i).env=(false,eval a (Y i).env)::bc5 [.Name x p2] (Y i).env) Z3)(hs2:autoParam (∀ i,bc5 [.Name x p2] (Y i).env=[(false,eval (.Name x p2) (Y i).env)]) Z3)
 (hpl:autoParam (∀ i,(backTo pos (bc5 [.Name x p2] (Y i).env)).any (·.1)=false) Z3):
 DE He K Y (.Call (.Name "isinstance" p) [a,.Name x p2] [] pos) (xIsi K T t):=by
 obtain⟨te,h1,h2⟩:=h;refine⟨_,fun i=>kcw (kjs K (hK i)) (hg i) (hm i) kyb (kaq (h1 i) (kaq (kxl (v:= .ty T) (hgT i) (hmT i) hT rfl hxn hxd) ka2 (hs2 i)) (hs i)) (by decide) (by decide) (hs i) (hpl i),fun P Q F p k=>h2 _ _ F p fun d v R1 H1 q1 e1 r1=>?_⟩;obtain⟨b,hn,hb,q1⟩:=q1;exact⟨v,T,_,b,rfl,TyOf.of r1 hn,hb,k _ _ R1 H1 q1 e1 (.bl b)⟩
abbrev xCat(t u:Dq):Dq:=fun env P=>t env fun xs=>u env fun ys=>xs.length+ys.length<=100000/\P (xs++ys)
abbrev DL(He:Hp)(K:ba2){ι:Type}(Y:ι->Cx)(e:Expr)(t:Dq):Prop:=∃te:TE,(∀ i,PE (Y i) e te)/\∀{H0 R H:Hp}{σ:St}{env:List Dt}(P:List bb0->Prop)(Q:VK),Fra He K H0 R H σ env->t env P->
 (∀ ds a ys R' H',P ds->Ext R H R' H'->H' a=some (.lst ys)->RpAll K R' ys ds->Q (.ref a) H')->te σ H Q
def DO.l{t:Dq}(h:DO He K Y e t):DL He K Y e t:=by
 obtain⟨te,h1,h2⟩:=h;exact⟨te,h1,fun P Q f p k=>h2 P Q f p fun ds a ys R' H' pl e hn ha hr r=>k ds a ys R' H' pl e ha r⟩
abbrev xL(t:De):Dq:=fun env P=>t env fun d=>∃l,d= .list l/\P l
def DE.l{t:De}(h:DE He K Y e t):DL He K Y e (xL t):=by
 obtain⟨te,h1,h2⟩:=h;refine⟨te,h1,fun P Q f p k=>h2 _ Q f p fun d v R' H' ⟨l,hl,pl⟩ e r=>?_⟩;subst hl;obtain⟨a,ys,rfl,h3,h4⟩:=Rp.lst_inv r;exact k l a ys R' H' pl e (e.rh _ _ h3) h4
abbrev kyc(i:Nat):Dq:=fun env P=>∃l,(env[i]?=some (.o l)\/env[i]?=some (.d (.list l)))/\P l
def kc4(i:Nat){x:Str}(h:autoParam (∀ j,PE (Y j) (.Name x pos) (kg9 i)) Z8):DL He K Y (.Name x pos) (kyc i):=
 ⟨_,h,fun P Q F ⟨l,p1,p⟩ k=>by
   rcases p1 with p1|p1
   .obtain⟨v,hs,a,ys,rfl,h2,h3,h4,h5⟩:=F.get p1 (by intro z;cases z);exact⟨_,hs,k _ _ _ _ _ p (.refl F.wd) h2 h5⟩
   .obtain⟨v,hs,r⟩:=F.data p1;obtain⟨a,ys,rfl,h2,h3⟩:=Rp.lst_inv r;exact⟨_,hs,k _ _ _ _ _ p (.refl F.wd) (F.wd.rh _ _ h2) h3⟩⟩
def kwb{t u:Dq}(h:DL He K Y a t)(h':DL He K Y b u):DO He K Y (.BinOp a .Add b pos) (xCat t u):=by
 obtain⟨te,h1,h2⟩:=h;obtain⟨te',h3,h4⟩:=h';refine⟨_,fun i=>kxp k18 (h1 i) (h3 i),fun P Q F p k=>?_⟩;refine h2 _ _ F p fun l a ys R1 H1 q1 e1 s1 r1=>?_;refine h4 _ _ (F.next e1) q1 fun l2 a2 ys2 R2 H2 ⟨hz,q2⟩ e2 s2 r2=>?_;refine⟨a,a2,ys,ys2,rfl,rfl,e2.hh _ _ s1,s2,szl (by rw[r1.len,r2.len];exact hz),fun p hp=>?_⟩;have e3:=Ext.newO (o:= .lst (ys++ys2)) e2.wd hp trivial;exact k _ _ _ _ _ q2 ((e1.trans e2).trans e3) ((e1.trans e2).hh.free hp) kak (e2.wd.rh.free hp) (RpAll.append (RpAll.same e2.rr r1) r2)
abbrev xRep(t:Dq)(u:De):Dq:=fun env P=>t env fun xs=>u env fun d=>∃k:Int,d= .int k/\ -(2 ^ 63)<=k/\xs.length*k.toNat<=100000/\k<=100000/\P (bf6 k.toNat xs).flatten
def RpAll.rep{R:Hp}{ys:List V}{l:List bb0}(r:RpAll K R ys l): ∀n,RpAll K R (bf6 n ys).flatten (bf6 n l).flatten
 | 0=> .nil
 | n+1=>by
   rw[bk3,bk3,bo3,bo3];exact RpAll.append r (RpAll.rep r n)
def k2h{t:Dq}{u:De}(h:DL He K Y a t)(h':DB He K Y b u):DO He K Y (.BinOp a .Mult b pos) (xRep t u):=by
 obtain⟨te,h1,h2⟩:=h;obtain⟨te',h3,h4⟩:=h';refine⟨_,fun i=>kxp k19 (h1 i) (h3 i),fun P Q F p k=>?_⟩;refine h2 _ _ F p fun l a ys R1 H1 q1 e1 s1 r1=>?_;refine h4 _ _ (F.next e1) q1 fun d v R2 H2 ⟨j,hj,hz0,hz,hz1,q2⟩ e2 r2=>?_;subst hj;have ev:=r2.int_inv;subst ev;refine⟨a,j,ys,rfl,rfl,e2.hh _ _ s1,hz0,by lia,szl (by rw[r1.len];exact hz),fun p hp=>?_⟩;have e3:=Ext.newO (o:= .lst (bf6 j.toNat ys).flatten) e2.wd hp trivial;exact k _ _ _ _ _ q2 ((e1.trans e2).trans e3) ((e1.trans e2).hh.free hp) kak (e2.wd.rh.free hp) (RpAll.rep (RpAll.same e2.rr r1) _)
end
abbrev spG(K:ba2)(P:List bb0->(Dt->Prop)->Prop):Sp:=fun vs H Q O=>∃ds RS,RpAll K H vs ds/\P ds RS/\∀dt v R' H',RS dt->Ext H H R' H'->SlotR K H R' H' (some v) dt->Q v H'
def ObjOk.obj{P:bb9}{w:be5}{H:Hp}{h:Heap}{a:Addr}{o:HO}(x:ObjOk P w H h a o)(l:kgi o): ∃ob,h.get? a=some ob:=by
 cases o with
 | lst xs=>obtain⟨_,_,_,_,e⟩:=x;exact⟨_,e⟩
 | dK kvs=>obtain⟨_,_,_,_,o,_,_,e,_⟩:=x;exact⟨_,e⟩
 | dT kvs=>obtain⟨_,_,_,_,o,_,_,e,_⟩:=x;exact⟨_,e⟩
 | set S n=>obtain⟨o,_,_,_,e,_⟩:=x;exact⟨_,e⟩
 | ext φ=>exact x.2.1
 | _=>exact l.elim
def ObjOk.stayL{P:bb9}{w:be5}{H H':Hp}{h h':Heap}{a:Addr}{o:HO}(x:ObjOk P w H h a o)(l:kgi o)(k: ∀u,h.get? a=some u->h'.get? a=some u)(ht: ∀b xs,H b=some (.tup xs)->H' b=some (.tup xs)):ObjOk P w H' h' a o:=by
 cases o with
 | lst xs=>obtain⟨z,its,n,r,e⟩:=x;exact⟨z,its,n,r,k _ e⟩
 | dK kvs=>obtain⟨z,y,vs,r,ob,es,ep,e,c⟩:=x;exact⟨z,y,vs,r,ob,es,ep,k _ e,c⟩
 | dT kvs=>
   obtain⟨z,y,xs,r,ob,es,ep,e,c⟩:=x;exact⟨z,y,xs,Paired.mapP r fun p q z=>⟨z.1,ht _ _ z.2.1,z.2.2⟩,ob,es,ep,k _ e,c⟩
 | set S n=>obtain⟨ob,es,ep,t,e,c⟩:=x;exact⟨ob,es,ep,t,k _ e,c⟩
 | ext φ=>obtain⟨p,⟨o,e⟩,st⟩:=x;exact⟨st _ _ p fun o q=>k _ q,⟨o,k _ e⟩,st⟩
 | _=>exact l.elim
def Wd.back{R H:Hp}{b:Addr}{o:HO}(w:Wd R H)(h:H b=some o)(n: ¬kgi o):R b=some o:=by
 cases q:R b with
 | none=>exact zA (w.ls b o h q) n
 | some u=>
   have:=w.rh b u q;rw[h]at this;exact this.symm
section
variable{X:Cx}{k:Nat}{f:Addr}{fd:be7}{ps:List Str}{x:Str}{p pos:Pos}{e:Expr}{es:List Expr}{t:TA}{He:Hp}{K:ba2}{P:List bb0->(Dt->Prop)->Prop}
set_option tactic.hygienic true in
def kyd{pI:List (Addr×Obj)}{σ:St}{R H:Hp}{s:ba7}{Q:VK}{us:List ba6}{vs:List V}{ds:List bb0}{RS:Dt->Prop}(hK:X.K=K)(F:FnOk X.prog X.w X.K X.mg X.base CX0 k f fd ps (spG K P))(hr:Room k X.A)(hb:Binds X.K fd ps [])
 (I:Inv X pI σ H s)(r:Vals vs us)(w:Wd R H)(hv:RpAll K R vs ds)(hp:P ds RS)(kk: ∀dt v R' H',RS dt->Ext R H R' H'->SlotR K H R' H' (some v) dt->Q v H'):
 be1 (bf9 X.prog X.w) X.A (call (.ref f) us) (EP X pI σ Q) X.xe s:=by
 have hsp:spG K P vs R (fun v H1=>∃dt R',RS dt/\Ext R R R' H1/\SlotR K R R' H1 (some v) dt) E0:=⟨ds,RS,hv,hp,fun dt v R' H' a b c=>⟨dt,R',a,b,c⟩⟩
 have hl:us.length=ps.length:=by rw[<- r.length];exact F.len _ _ _ _ hsp
 have e0:Env0 X.prog X.w X.K X.mg X.base X.A X.stack s R:=by
  have e:=I.env0;refine⟨e.frames,e.mod,fun b o z=>⟨(e.bs b o z).1,w.rh.free (e.bs b o z).2⟩,e.bsz,e.funs,fun b hb=>w.rh.free (e.frf b hb),fun a o z=>?_,e.bare⟩;exact(e.hok a o (w.rh a o z)).stay (fun b u O q=>q) (fun b q=>w.back q fun z=>z) fun b xs q=>w.back q fun z=>z
 refine wpAny_call (b48 (F.run X.A X.stack s R ⟨us,[]⟩ us vs _ E0 hr e0 (by have:=hb s us I.kIn (by rw[be9];exact hl);rw[be9]at this;exact this) r hsp) fun r s' hq=>?_);cases r with
 | error e=>exact hq.elim
 | ok fl=>
   cases fl with
   | next=>exact bu9 hq
   | brk=>exact bu9 hq
   | cont=>exact bu9 hq
   | ret u=>
     obtain⟨v,H1,os,bare,un,hok,rv,dt,R',hRS,ext,slot⟩:=hq;have gone: ∀b o,H b=some o->R b=none->H1 b=none:=fun b o z n=>by
      obtain⟨ob,eb⟩:=(I.hok b o z).obj (w.ls b o z n);exact un.free b ob eb n (by simp)
     classical
     have eA: ∀b,R b=none->H b≠none->(fun b=>if R b=none/\H b≠none then H b else H1 b) b=H b:=fun b n z=>zP ⟨n,z⟩;have eB: ∀b o,H1 b=some o->(fun b=>if R b=none/\H b≠none then H b else H1 b) b=some o:=fun b o z=>by
      show(if R b=none/\H b≠none then H b else H1 b)=some o;rw[zN]
      .exact z
      .rintro⟨n,hne⟩;cases q:H b with
       | none=>exact hne q
       | some u=>rw[gone b u q n]at z;cases z
     have eN: ∀b,H b=none->H1 b=none->(fun b=>if R b=none/\H b≠none then H b else H1 b) b=none:=fun b n z=>by
      show(if R b=none/\H b≠none then H b else H1 b)=none;rw[zN (by rintro⟨_,z⟩;exact z n)];exact z
     have eX: ∀b o,(fun b=>if R b=none/\H b≠none then H b else H1 b) b=some o->(R b=none/\H b=some o)\/H1 b=some o:=fun b o z=>by
      have z:(if R b=none/\H b≠none then H b else H1 b)=some o:=z;split at z
      .rename_i hc;exact .inl ⟨hc.1,z⟩
      .exact .inr z
     generalize(fun b=>if R b=none/\H b≠none then H b else H1 b)=H2 at eA eB eN eX;have nr: ∀b,H b=none->R b=none:=fun b n=>w.rh.free n;have tup2: ∀b xs,H b=some (.tup xs)->H2 b=some (.tup xs):=fun b xs z=>eB b _ (un.tups b xs (w.back z fun z=>z));have ex2:Ext R H R' H2:=by
      refine⟨fun b o z=>?_,ext.rr,fun b o z=>eB b o (ext.rh b o z),fun b o z n=>?_,fun b o z n=>?_⟩
      .cases q:R b with
       | none=>rw[eA b q (by rw[z];intro y;cases y)];exact z
       | some u=>
         have:=w.rh b u q;rw[z]at this;cases this;exact eB b o (ext.hh b o q)
      .cases q:R' b with
       | none=>rfl
       | some u=>have:=ext.rh b u q;rw[gone b o z n]at this;cases this
      .rcases eX b o z with⟨n2,z2⟩|z2
       .exact w.ls b o z2 n2
       .exact ext.ls b o z2 n
     have slot2:SlotR K H R' H2 (some v) dt:=by
      have own: ∀a o,H1 a=some o->R a=none->H a=none:=fun a o z n=>by
       cases q:H a with
       | none=>rfl
       | some u=>rw[gone a u q n]at z;cases z
      cases dt with
      | un=>trivial
      | d y=>exact slot
      | o xs=>obtain⟨a,ys,h1,h2,h3,h4,h5⟩:=slot;exact⟨a,ys,h1,eB a _ h2,h3,own a _ h2 h4,h5⟩
      | dv xs=>obtain⟨a,ys,h1,h2,h3,h4,h5⟩:=slot;exact⟨a,ys,h1,eB a _ h2,h3,own a _ h2 h4,h5⟩
      | ot xs xss=>obtain⟨a,ys,zs,h1,h2,h3,h4,h5,h6⟩:=slot;exact⟨a,ys,zs,h1,h2,eB a _ h3,h4,Paired.mapP h5 fun _ _ ⟨b,zs,k1,k2,k3,k4,k5⟩=>⟨b,zs,k1,eB b _ k2,k3,own b _ k2 k4,k5⟩,h6⟩
     refine I.after (Q:=Q) ⟨v,H2,os,bare,⟨?_,?_,?_,un.there,tup2,?_,?_⟩,?_,rv,kk dt v R' H2 hRS ex2 slot2⟩
     .exact fun b o z n hf hx=>un.keep b o z (nr b n) hf hx
     .exact fun b o z n hf hx=>un.slot b o z (nr b n) hf hx
     .exact fun b o z n hx=>eN b n (un.free b o z (nr b n) hx)
     .exact fun b o u z=>eB b _ (un.frzs b o u (w.back z fun z=>z))
     .intro b ps z;obtain⟨m,hm⟩:=un.tbls b ps (w.back z fun z=>z);exact⟨m,eB b _ hm⟩
     .intro b o z;rcases eX b o z with⟨n2,z2⟩|z2
      .refine(I.hok b o z2).stayL (w.ls b o z2 n2) (fun u q=>un.keep b u q n2 (fun hf=>?_) (by simp)) tup2;rw[I.stkFree b hf]at z2;cases z2
      .refine(hok b o z2).stay (fun c u O q=>q) (fun c q=>eB c _ q) fun c xs q=>eB c _ q
abbrev k2i(K:ba2)(P:List bb0->(Dt->Prop)->Prop)(t:TA):TE:=fun σ H Q=>t σ H fun vs H1=>∃R ds RS,Wd R H1/\RpAll K R vs ds/\P ds RS/\∀dt v R' H',RS dt->Ext R H1 R' H'->SlotR K H1 R' H' (some v) dt->Q v H'
def klz(G:Fn X.prog X.w X.K X.mg X.base x k ps (spG K P))(hr:Room k X.A)(ha:PA X (e::es) t)(hK:autoParam (X.K=K) Z4)(hg:autoParam (Gl X x) Z4)
 (hdb:autoParam ((x==("__debug__":Str))=false) Z2)(he:autoParam (bc5 (e::es) X.env=(false,eval e X.env)::bc5 es X.env) Z4)(hpl:autoParam ((backTo pos (bc5 es X.env)).any (·.1)=false) Z4):
 PE X (.Call (.Name x p) (e::es) [] pos) (k2i K P t):=by
 obtain⟨f,fd,F,hm,hk,hb⟩:=G;intro pI s σ H Q I h;refine bo7 (kxk I hg hm ?_ hdb);refine PySem.W.callWith_K (h₀:=X.base) I.ok.mod.kin hk (thn (ha pos pI s σ H _ I h) fun us s1 ⟨vs,H1,I1,r,q⟩=>⟨I1.kIn,?_⟩) he hpl;obtain⟨R,ds,RS,w,hv,hp,kk⟩:=q;exact kyd hK F hr hb I1 r w hv hp kk
end
section
variable{He:Hp}{K:ba2}{ι:Type}{Y:ι->Cx}{e:Expr}{es:List Expr}{pos p:Pos}{prog:bb9}{w:be5}{mg:Str->Option ba6}{base:Heap}{x:Str}{k:Nat}{ps:List Str}{P:List bb0->(Dt->Prop)->Prop}{t:Dq}
abbrev kye(P:List bb0->(Dt->Prop)->Prop)(t:Dq):De:=fun env Q=>t env fun ds=>P ds fun dt=>∃d,kv7 dt=some d/\Q d
def Ext.give{R H R' H':Hp}(ex:Ext R H R' H')(S:Addr->Prop)(hS: ∀b,S b->H b=none): ∃R2,Ext R H R2 H'/\Same R' R2/\∀b,S b->R2 b=H' b:=by
 classical
 have e1: ∀b,S b->(fun b=>if S b then H' b else R' b) b=H' b:=fun b s=>zP s;have e2: ∀b,¬S b->(fun b=>if S b then H' b else R' b) b=R' b:=fun b s=>zN s;generalize(fun b=>if S b then H' b else R' b)=R2 at e1 e2;have sm:Same R' R2:=fun b o z=>by
  by_cases s:S b
  .rw[e1 b s];exact ex.rh b o z
  .rw[e2 b s];exact z
 refine⟨R2,⟨ex.hh,ex.rr.trans sm,fun b o z=>?_,fun b o z n=>?_,fun b o z n=>?_⟩,sm,e1⟩
 .by_cases s:S b
  .rw[e1 b s]at z;exact z
  .rw[e2 b s]at z;exact ex.rh b o z
 .have s: ¬S b:=fun s=>by rw[hS b s]at z;cases z
  rw[e2 b s];exact ex.nn b o z n
 .by_cases s:S b
  .rw[e1 b s,z]at n;cases n
  .rw[e2 b s]at n;exact ex.ls b o z n
def kyf{H0 R H R' H':Hp}{v:V}{dt:Dt}{d:bb0}(hd:kv7 dt=some d)(ex:Ext R H R' H')(s:SlotR K H R' H' (some v) dt): ∃R2,Ext R H R2 H'/\Rp K R2 v d:=by
 cases dt with
 | un=>cases hd
 | d y=>cases hd;exact⟨R',ex,s⟩
 | o xs=>
   cases hd;obtain⟨a,ys,rfl,h2,h3,h4,h5⟩:=s;have s:=Same.new (H:=R') (p:=a) (o:= .lst ys) h3;refine⟨upd R' a (.lst ys),⟨ex.hh,ex.rr.trans s,fun b o z=>?_,fun b o z n=>?_,fun b o z n=>?_⟩,.lst kak (RpAll.same s h5)⟩
   .by_cases hb:b=a
    .subst hb;rw[kak]at z;cases z;exact h2
    .rw[kar hb]at z;exact ex.rh b o z
   .rw[kar (kan z h4)];exact ex.nn b o z n
   .by_cases hb:b=a
    .subst hb;rw[kak]at n;cases n
    .rw[kar hb]at n;exact ex.ls b o z n
 | dv xs=>cases hd
 | ot xs xss=>
   cases hd;obtain⟨a,ys,zs,rfl,h2,_,h4,h5,_⟩:=s;obtain⟨R2,e2,sm,at2⟩:=ex.give (fun b=>V.ref b∈zs) fun b s=>by obtain⟨_,_,_,z⟩:=h5.mem s;exact z
   exact⟨R2,e2,.tup (sm _ _ h2) (RpAll.append (RpAll.same sm h4) (h5.rp sm fun b zs m z=>by rw[at2 b m];exact z))⟩
def kal(G:Fn prog w K mg base x k ps (spG K P))(hr: ∀i,Room k (Y i).A)(ha:DA He K Y (e::es) t)(hX:autoParam (∀ i,(Y i).prog=prog/\(Y i).w=w/\(Y i).K=K/\(Y i).mg=mg/\(Y i).base=base) Z11)(hg:autoParam (∀ i,Gl (Y i) x) Z3)
 (hdb:autoParam ((x==("__debug__":Str))=false) Z2)(he:autoParam (∀ i,bc5 (e::es) (Y i).env=(false,eval e (Y i).env)::bc5 es (Y i).env) Z3)(hpl:autoParam (∀ i,(backTo pos (bc5 es (Y i).env)).any (·.1)=false) Z3):
 DE He K Y (.Call (.Name x p) (e::es) [] pos) (kye P t):=by
 obtain⟨te,h1,h2⟩:=ha;refine⟨k2i K P te,fun i=>?_,fun Pk Q F pp kk=>h2 _ _ F pp fun ds vs R1 H1 q1 e1 r1=>⟨R1,ds,_,e1.wd,r1,q1,fun dt v R' H' ⟨d,hd,pd⟩ ex sl=>?_⟩⟩
 .obtain⟨a1,a2,a3,a4,a5⟩:=hX i;subst a1 a2 a3 a4 a5;exact klz G (hr i) (h1 i) rfl (hg i) hdb (he i) (hpl i)
 .obtain⟨R2,ex2,r2⟩:=kyf (H0:=R1) hd ex sl;exact kk d v R2 H' pd (e1.trans ex2) r2
abbrev kpe(P:List bb0->(Dt->Prop)->Prop)(t:Dq):Dq:=fun env Q=>t env fun ds=>P ds fun dt=>∃xs,dt= .o xs/\Q xs
def ka5(G:Fn prog w K mg base x k ps (spG K P))(hr: ∀i,Room k (Y i).A)(ha:DA He K Y (e::es) t)(hX:autoParam (∀ i,(Y i).prog=prog/\(Y i).w=w/\(Y i).K=K/\(Y i).mg=mg/\(Y i).base=base) Z11)(hg:autoParam (∀ i,Gl (Y i) x) Z3)
 (hdb:autoParam ((x==("__debug__":Str))=false) Z2)(he:autoParam (∀ i,bc5 (e::es) (Y i).env=(false,eval e (Y i).env)::bc5 es (Y i).env) Z3)(hpl:autoParam (∀ i,(backTo pos (bc5 es (Y i).env)).any (·.1)=false) Z3):
 DO He K Y (.Call (.Name x p) (e::es) [] pos) (kpe P t):=by
 obtain⟨te,h1,h2⟩:=ha;refine⟨k2i K P te,fun i=>?_,fun Pk Q F pp kk=>h2 _ _ F pp fun ds vs R1 H1 q1 e1 r1=>⟨R1,ds,_,e1.wd,r1,q1,fun dt v R' H' ⟨xs,hd,pd⟩ ex sl=>?_⟩⟩
 .obtain⟨a1,a2,a3,a4,a5⟩:=hX i;subst a1 a2 a3 a4 a5;exact klz G (hr i) (h1 i) rfl (hg i) hdb (he i) (hpl i)
 .subst hd;obtain⟨a,ys,rfl,h5,h6,h7,h8⟩:=sl;exact kk xs a ys R' H' pd (e1.trans ex) (e1.hh.free h7) h5 h6 h8
abbrev kpf(P:List bb0->(Dt->Prop)->Prop)(t:Dq):De:=fun env Q=>t env fun ds=>P ds fun dt=>∃d,dt= .d d/\k2a d=true/\Q d
def kd0(G:Fn prog w K mg base x k ps (spG K P))(hr: ∀i,Room k (Y i).A)(ha:DAb He K Y (e::es) t)(hX:autoParam (∀ i,(Y i).prog=prog/\(Y i).w=w/\(Y i).K=K/\(Y i).mg=mg/\(Y i).base=base) Z11)(hg:autoParam (∀ i,Gl (Y i) x) Z3)
 (hdb:autoParam ((x==("__debug__":Str))=false) Z2)(he:autoParam (∀ i,bc5 (e::es) (Y i).env=(false,eval e (Y i).env)::bc5 es (Y i).env) Z3)(hpl:autoParam (∀ i,(backTo pos (bc5 es (Y i).env)).any (·.1)=false) Z3):
 DE He K Y (.Call (.Name x p) (e::es) [] pos) (kpf P t):=by
 obtain⟨te,h1,h2⟩:=ha;refine⟨k2i K P te,fun i=>?_,fun Pk Q F pp kk=>h2 _ _ F pp fun ds vs R1 H1 q1 e1 r1=>⟨H1,ds,_,Wd.all H1,r1,q1,fun dt v R' H' ⟨d,hd,hi,pd⟩ ex sl=>?_⟩⟩
 .obtain⟨a1,a2,a3,a4,a5⟩:=hX i;subst a1 a2 a3 a4 a5;exact klz G (hr i) (h1 i) rfl (hg i) hdb (he i) (hpl i)
 .subst hd;obtain⟨R2,ex2,tk,_⟩:=Ext.grow e1.wd ex.hh;exact kk d v R2 H' pd (e1.trans ex2) (Rp.keep tk (Rp.same ex.rh sl) hi)
end
structure Yld(K:ba2)(J:It)(R:Hp)(l:List bb0):Prop where
 go: ∀R1 H1 i,Same R R1->Wd R1 H1->i<l.length->J.go i H1
 yl: ∀R1 H1 i d x H2,Same R R1->Wd R1 H1->l[i]?=some d->J.yld i H1 x H2->∃R2,Ext R1 H1 R2 H2/\Rp K R2 x d
 st: ∀R1 H1,Same R R1->Wd R1 H1->J.stop l.length H1
section
variable(He:Hp)(K:ba2){ι:Type}(Y:ι->Cx)
abbrev DI(tg iter:Expr)(t:Dq):Prop:=∃wi:TI,(∀ i,PI (Y i) tg iter wi)/\∀{H0 R H:Hp}{σ:St}{env:List Dt}(P:List bb0->Prop)(Q:It->Hp->Prop),Fra He K H0 R H σ env->t env P->
 (∀ l J R' H',P l->Ext R H R' H'->l.length<=sizeLine->Yld K J R' l->Q J H')->wi σ H Q
@[reducible]def Dg:=bb0->List Dt->(List Dt->Prop)->Prop
abbrev ktr(ts:List Nat)(σ σ':St):Prop:=σ'.length=σ.length/\∀k,k ∉ ts->σ'[k]?=σ[k]?
abbrev DG(tg:Expr)(ts:List Nat)(g:Dg):Prop:=∃gt:TG,(∀ i,PG (Y i) tg gt)/\∀{H0 R H:Hp}{σ:St}{env:List Dt}{d:bb0}{v:V}(P:List Dt->Prop)(Q:St->Hp->Prop),Fra He K H0 R H σ env->Rp K R v d->g d env P->
 (∀ env' σ',P env'->Fra He K H0 R H σ' env'->ktr ts σ σ'->Q σ' H)->gt v σ H Q
abbrev DIf(ifs:List Expr)(t:Db):Prop:=∃te:TT,(∀ i,PIf (Y i) ifs te)/\∀{H0 R H:Hp}{σ:St}{env:List Dt}(P:Bool->Prop)(Q:Bool->Hp->Prop),Fra He K H0 R H σ env->t env P->
 (∀ b R' H',P b->Ext R H R' H'->Q b H')->te σ H Q
end
section
variable{He:Hp}{K:ba2}{ι:Type}{Y:ι->Cx}{e a b c tg iter elt:Expr}{es ifs:List Expr}{pos:Pos}
abbrev iSeqZ(K:ba2)(tl:TE):TI:=fun σ H R=>tl σ H fun x H1=>∃a xs,x= .ref a/\((SqL K H1 a xs/\(xs.length<=sizeLine->R (Itl K a) H1))\/(SqT K H1 a xs/\(xs.length<=sizeLine->R (Itt K a) H1)))
def kpg{X:Cx}{l:Expr}{tl:TE}(K:ba2)(hl:PE X l tl)(hK:autoParam (X.K=K) Z4):PI X tg l (iSeqZ K tl):=by
 subst hK;intro pI s σ H R I h;refine thn (hl pI s σ H _ I h) fun v s1 ⟨x,H1,I1,r1,q1⟩=>?_;obtain⟨a,xs,e,q⟩:=q1;subst e;cases r1;rcases q with⟨hq,q⟩|⟨hq,q⟩
 .obtain⟨its,rv,p,hz⟩:=I1.list hq;refine b73 p.isList ?_;refine⟨s1.heap.objs.size,[s1.heap.objs.size],_,_,H1,rfl,I1.kept (t':=s1.toks) fun b o e=>ba5 _ e,kom a _,⟨_,bc7 _ rfl,rfl,rfl⟩,fun b hb=>?_,q hz⟩;have e:b=s1.heap.objs.size:=by simpa using hb
  subst e;exact I1.fpOk (bb7 _) (I1.hok.fresh (bb7 _))
 .obtain⟨its,rv,p,hz⟩:=I1.tuple hq;refine b49 (show s1.heap.IsTuple a its.toArray from p) ?_;refine⟨s1.heap.objs.size,[s1.heap.objs.size],_,_,H1,rfl,I1.kept (t':=s1.toks) fun b o e=>ba5 _ e,knh a _,⟨_,bc7 _ rfl,rfl,rfl⟩,fun b hb=>?_,q hz⟩;have e:b=s1.heap.objs.size:=by simpa using hb
  subst e;exact I1.fpOk (bb7 _) (I1.hok.fresh (bb7 _))
def RpAll.some{R:Hp}{ys:List V}{l:List bb0}{i:Nat}(r:RpAll K R ys l)(h:i<l.length): ∃v,ys[i]?=some v:=by
 have hl:=r.len;exact⟨ys[i]'(by lia),by simp[show i<ys.length by lia]⟩
def kts{R:Hp}{a:Addr}{ys:List V}{l:List bb0}(h:SqL K R a ys)(r:RpAll K R ys l):Yld K (Itl K a) R l:=by
 refine⟨fun R1 H1 i s w hi=>?_,fun R1 H1 i d x H2 s w hd y=>?_,fun R1 H1 s w=>?_⟩
 .obtain⟨v,hv⟩:=r.some hi;exact⟨ys,v,(s.trans w.rh).seq h,hv⟩
 .obtain⟨e,y⟩:=y;subst e;have z:=y ys ((s.trans w.rh).seq h);obtain⟨d',hd',r'⟩:=r.get z;rw[hd]at hd';cases hd';exact⟨R1,.refl w,Rp.same s r'⟩
 .exact⟨ys,(s.trans w.rh).seq h,by rw[r.len];exact bb7 _⟩
def kyg{R:Hp}{a:Addr}{ys:List V}{l:List bb0}(h:SqT K R a ys)(r:RpAll K R ys l):Yld K (Itt K a) R l:=by
 refine⟨fun R1 H1 i s w hi=>?_,fun R1 H1 i d x H2 s w hd y=>?_,fun R1 H1 s w=>?_⟩
 .obtain⟨v,hv⟩:=r.some hi;exact⟨ys,v,(s.trans w.rh).seqT h,hv⟩
 .obtain⟨e,y⟩:=y;subst e;have z:=y ys ((s.trans w.rh).seqT h);obtain⟨d',hd',r'⟩:=r.get z;rw[hd]at hd';cases hd';exact⟨R1,.refl w,Rp.same s r'⟩
 .exact⟨ys,(s.trans w.rh).seqT h,by rw[r.len];exact bb7 _⟩
def ka8{t:De}(h:DE He K Y e t)(hK:autoParam (∀ i,(Y i).K=K) Z3):DI He K Y tg e (xSeq t):=by
 obtain⟨te,h1,h2⟩:=h;refine⟨_,fun i=>kpg K (h1 i) (hK i),fun P Q F p k=>h2 _ _ F p fun d v R' H' ⟨l,hl,pl⟩ ex r=>?_⟩;obtain⟨a,ys,rfl,h3,h4⟩:=kgj r hl;refine⟨a,ys,rfl,?_⟩;rcases h3 with h3|h3
 .exact .inl ⟨ex.rh.seq h3,fun hz=>k l _ R' H' pl ex (by rw[<- h4.len];exact hz) (kts h3 h4)⟩
 .exact .inr ⟨ex.rh.seqT h3,fun hz=>k l _ R' H' pl ex (by rw[<- h4.len];exact hz) (kyg h3 h4)⟩
def kb7{lo:Int}{n i:Nat}{d:bb0}(h:(kel lo n)[i]?=some d):i<n/\d= .int (lo+(i:Int)):=by
 unfold kel at h;rw[bc8]at h;obtain⟨j,hj,rfl⟩:=be2.mp h;obtain⟨h1,h2⟩:=bb3.mp hj;rw[be8]at h1;rw[cd2]at h2;subst h2;exact⟨h1,rfl⟩
def kb0(lo:Int)(n:Nat):(kel lo n).length=n:=by unfold kel;rw[ba3,be8]
def kph(R:Hp)(lo:Int)(n:Nat):Yld K (Itr lo n) R (kel lo n):=by
 refine⟨fun R1 H1 i s w hi=>?_,fun R1 H1 i d x H2 s w hd y=>?_,fun R1 H1 s w=>?_⟩
 .rw[kb0]at hi;exact hi
 .obtain⟨_,rfl⟩:=kb7 hd;obtain⟨e,y⟩:=y;subst e y;exact⟨R1,.refl w,.int _⟩
 .rw[kb0];exact bb7 _
abbrev kko(t:De):Dq:=fun env P=>t env fun d=>∃j:Int,d= .int j/\ -(2 ^ 62)<=j/\j<=100000/\P (kel 0 j.toNat)
def ka6{t:De}{p:Pos}(h:DB He K Y a t)(hm: ∀i,(Y i).mg "range"=none)(hg:autoParam (∀ i,Gl (Y i) "range") Z3)(hs:autoParam (∀ i,bc5 [a] (Y i).env=[(false,eval a (Y i).env)]) Z3):DI He K Y tg (.Call (.Name "range" p) [a] [] pos) (kko t):=by
 obtain⟨te,h1,h2⟩:=h;refine⟨_,fun i=>kcd (hg i) (hm i) (kaq (h1 i) ka2 (hs i)) (hs i),fun P Q F p k=>h2 _ _ F p fun d v R' H' ⟨j,hj,b1,b2,pl⟩ ex r=>?_⟩;subst hj;have ev:=r.int_inv;subst ev;exact⟨j,rfl,b1,by lia,k _ _ R' H' pl ex (by rw[kb0];exact szl (by lia)) (kph R' 0 _)⟩
abbrev kkp(t u:De):Dq:=fun env P=>t env fun d=>u env fun d2=>∃i j:Int,d= .int i/\d2= .int j/\(-(2 ^ 62)<=i/\i<2 ^ 62/\ -(2 ^ 62)<=j/\j<2 ^ 62)/\j-i<=100000/\P (kel i (j-i).toNat)
def kpi{t u:De}{p:Pos}(h:DB He K Y a t)(h':DB He K Y b u)(hm: ∀i,(Y i).mg "range"=none)(hg:autoParam (∀ i,Gl (Y i) "range") Z3)(hs:autoParam (∀ i,bc5 [a,b] (Y i).env=[(false,eval a (Y i).env),(false,eval b (Y i).env)]) Z3)
 (hs2:autoParam (∀ i,bc5 [b] (Y i).env=[(false,eval b (Y i).env)]) Z3):DI He K Y tg (.Call (.Name "range" p) [a,b] [] pos) (kkp t u):=by
 obtain⟨te,h1,h2⟩:=h;obtain⟨te',h3,h4⟩:=h';refine⟨_,fun i=>kon (hg i) (hm i) (kaq (h1 i) (kaq (h3 i) ka2 (hs2 i)) (by rw[hs i,hs2 i])) (hs i) (hs2 i),fun P Q F p k=>h2 _ _ F p fun d v R1 H1 q1 e1 r1=>h4 _ _ (F.next e1) q1 fun d2 v2 R' H' ⟨i,j,hi,hj,b1,b2,pl⟩ ex r=>?_⟩;subst hi hj;have ev:=r1.int_inv;subst ev;have ev:=r.int_inv;subst ev;exact⟨i,j,rfl,b1,k _ _ R' H' pl (e1.trans ex) (by rw[kb0];exact szl (by lia)) (kph R' i _)⟩
def kgl(i:Nat)(x:Option V)(σ:St):ktr [i] σ (σ.set i x):=by
 refine⟨by simp,fun k hk=>?_⟩;have hk:k≠i:=by simpa using hk
 rw[bw6 (fun z=>hk z.symm)]
abbrev gN(i:Nat):Dg:=fun d env P=>P (env.set i (.d d))
def kaz(i:Nat){x:Str}(hN: ∀j,(Y j).N.Nodup)(hi:autoParam (∀ j,(Y j).N[i]?=some x) Z3)(hx:autoParam (∀ j,Loc (Y j).env.scope x) Z12)
 (hf:autoParam (∀ j,(Y j).fn x=true\/(Y j).env.scope.names.lookup x=some .local) Z13):DG He K Y (.Name x pos) [i] (gN i):=
 ⟨_,fun j=>kcn (hN j) (hi j) (hx j) (hf j),fun P Q F r p k=>k _ _ p (F.setD i r) (kgl i _ _)⟩
def kyh{X:Cx}{es:List Expr}{k:Nat}{t:TGs}{n:Nat}(K:ba2)(hK:X.K=K)(hc:X.calm=true)(h:PGs X es t)(hn:(assignEach es X.env).length=n)(hst:(assignEach es X.env).findIdx? (·.1)=none):PG X (.Tuple es k pos) (gTup K n t):=hK▸k1k hc h hn hst
abbrev gN2(i j:Nat):Dg:=fun d env P=>∃x y,d= .tuple [x,y]/\P ((env.set i (.d x)).set j (.d y))
def kcb(i j:Nat){x y:Str}{p1 p2:Pos}{k:Nat}(hN: ∀j,(Y j).N.Nodup)(hi:autoParam (∀ k,(Y k).N[i]?=some x) Z3)(hj:autoParam (∀ k,(Y k).N[j]?=some y) Z3)(hx:autoParam (∀ j,Loc (Y j).env.scope x) Z12)(hy:autoParam (∀ j,Loc (Y j).env.scope y) Z12)
 (hfx:autoParam (∀ j,(Y j).fn x=true\/(Y j).env.scope.names.lookup x=some .local) Z13)(hfy:autoParam (∀ j,(Y j).fn y=true\/(Y j).env.scope.names.lookup y=some .local) Z13)
 (hc:autoParam (∀ j,(Y j).calm=true) Z3)(hK:autoParam (∀ i,(Y i).K=K) Z3)
 (ha1:autoParam (∀ k,(assignEach [.Name x p1,.Name y p2] (Y k).env).map (·.2)=assign (.Name x p1) (Y k).env::(assignEach [.Name y p2] (Y k).env).map (·.2)) Z3)(ha2:autoParam (∀ k,(assignEach [.Name y p2] (Y k).env).map (·.2)=assign (.Name y p2) (Y k).env::(assignEach [] (Y k).env).map (·.2)) Z3)
 (hn:autoParam (∀ k,(assignEach [.Name x p1,.Name y p2] (Y k).env).length=2) Z3)(hst:autoParam (∀ k,(assignEach [.Name x p1,.Name y p2] (Y k).env).findIdx? (·.1)=none) Z3):
 DG He K Y (.Tuple [.Name x p1,.Name y p2] k pos) [i,j] (gN2 i j):=by
 refine⟨_,fun m=>kyh K (hK m) (hc m) (klj (kcn (hN m) (hi m) (hx m) (hfx m)) (klj (kcn (hN m) (hj m) (hy m) (hfy m)) kxn (ha2 m)) (ha1 m)) (hn m) (hst m),fun P Q F r p k=>?_⟩;obtain⟨u,w,rfl,p⟩:=p;obtain⟨a,xs,rfl,h1,h2⟩:=r.tup_inv;cases h2 with
 | cons r1 h3=>
   cases h3 with
   | cons r2 h4=>
     cases h4;refine⟨a,_,rfl,SqT.of (F.wd.rh _ _ h1),rfl,_,_,rfl,_,_,rfl,rfl,?_⟩;refine k _ _ p ((F.setD i r1).setD j r2) ?_;obtain⟨a1,a2⟩:=kgl i (some _) _;obtain⟨b1,b2⟩:=kgl j (some _) _;exact⟨b1.trans a1,fun m hm=>(b2 m (by simp at hm⊢;exact hm.2)).trans (a2 m (by simp at hm⊢;exact hm.1))⟩
@[reducible]def Yc{ι:Type}(Y:ι->Cx)(scope:b05)(N':List Str):ι×ba7×Hp×List Addr->Cx:=fun p=>kbd (Y p.1) scope N' p.2.1 p.2.2.1 p.2.2.2
abbrev xTrue:Db:=fun O P=>P true
def kbe:DIf He K Y [] xTrue:=⟨_,fun O=>kkl,fun P Q F p k=>k true _ _ p (.refl F.wd)⟩
def kch{t:Db}(h:DT He K Y c t):DIf He K Y [c] t:=by
 obtain⟨te,h1,h2⟩:=h;exact⟨te,fun i=>ko4 (h1 i),h2⟩
inductive LcR(G:bb0->Option bb0->Prop):List bb0->List bb0->Prop where
 | nil:LcR G [] []
 | skip {y:bb0} {l o:List bb0}:G y none->LcR G l o->LcR G (y::l) o
 | keep {y z:bb0} {l o:List bb0}:G y (some z)->LcR G l o->LcR G (y::l) (z::o)
def LcR.snoc_skip{G:bb0->Option bb0->Prop}{y:bb0}(h:G y none): ∀{l o:List bb0},LcR G l o->LcR G (l++[y]) o
 | _,_,.nil=> .skip h .nil
 | _,_,.skip a b=> .skip a (b.snoc_skip h)
 | _,_,.keep a b=> .keep a (b.snoc_skip h)
def LcR.snoc_keep{G:bb0->Option bb0->Prop}{y z:bb0}(h:G y (some z)): ∀{l o:List bb0},LcR G l o->LcR G (l++[y]) (o++[z])
 | _,_,.nil=> .keep h .nil
 | _,_,.skip a b=> .skip a (b.snoc_keep h)
 | _,_,.keep a b=> .keep a (b.snoc_keep h)
abbrev knp(env:List Dt)(js:List (Option Nat)):List Dt:=js.map fun(o:Option Nat)=>match o with
 | none=> .un
 | some j=>(env[j]?).getD .un
abbrev kgm:List (Option Nat)->Bool
 | []=>true
 | none::r=>kgm r
 | some j::r=> !r.contains (some j)&&kgm r
def kem: ∀{js:List (Option Nat)},kgm js=true->∀(k k' j:Nat),js[k]?=some (some j)->js[k']?=some (some j)->k=k'
 | [],_,k,_,j,h,_=>by simp at h
 | none::r,hc,k,k',j,h,h'=>by
   cases k with
   | zero=>simp at h
   | succ k=>
     cases k' with
     | zero=>simp at h'
     | succ k'=>rw[kem (js:=r) hc k k' j (by simpa using h) (by simpa using h')]
 | some i::r,hc,k,k',j,h,h'=>by
   have hc:_/\_:=bw7.mp hc;have nc:some i ∉ r:=(by simpa using hc.1)
   cases k with
   | zero=>
     cases k' with
     | zero=>rfl
     | succ k'=>
       have e:i=j:=(by simpa using h)
       subst e;exact zA (bd9 (show r[k']?=some (some i) by simpa using h')) nc
   | succ k=>
     cases k' with
     | zero=>
       have e:i=j:=(by simpa using h')
       subst e;exact zA (bd9 (show r[k]?=some (some i) by simpa using h)) nc
     | succ k'=>rw[kem (js:=r) hc.2 k k' j (by simpa using h) (by simpa using h')]
def khz{env:List Dt}{js:List (Option Nat)}{k:Nat}{d:Dt}(h:(knp env js)[k]?=some d):d= .un\/∃j,js[k]?=some (some j)/\env[j]?=some d:=by
 unfold knp at h;rw[bc8]at h;obtain⟨o,ho,e⟩:=be2.mp h;cases o with
 | none=>exact .inl e.symm
 | some j=>
   cases q:env[j]? with
   | none=>simp only[q,bx3]at e;exact .inl e.symm
   | some d'=>simp only[q,bu6]at e;subst e;exact .inr ⟨j,ho,q⟩
def kgn{σ:St}{js:List (Option Nat)}{k j:Nat}(h:js[k]?=some (some j)):(kei σ js)[k]?=some (σ[j]?).join:=by
 unfold kei;rw[bc8,h];rfl
def Fra.cap{H0 R H:Hp}{σ:St}{env:List Dt}{js:List (Option Nat)}(f:Fra He K H0 R H σ env)(hj:kgm js=true):Fra He K H0 R H (kei σ js) (knp env js):=by
 refine⟨f.at0,f.ext,by simp[kei,knp],fun k d h=>?_,fun k k' dk dk' a h h' o o'=>?_⟩
 .rcases khz h with rfl|⟨j,hj,e⟩
  .cases((kei σ js)[k]?).join <;> trivial
  .rw[kgn hj];exact f.slot j d e
 .rcases khz h with rfl|⟨j,hjk,e⟩
  .cases o
  .rcases khz h' with rfl|⟨j',hjk',e'⟩
   .cases o'
   .rw[kgn hjk]at o;rw[kgn hjk']at o';have ej:=f.apart j j' dk dk' a e e' o o';subst ej;exact kem hj k k' j hjk hjk'
def Fra.agree{H0 R H:Hp}{σ σ':St}{env:List Dt}{ts:List Nat}(f:Fra He K H0 R H σ env)(ha:ktr ts σ σ')(hu: ∀k∈ts,∀(d:Dt),env[k]?=some d->d= .un):Fra He K H0 R H σ' env:=by
 refine⟨f.at0,f.ext,ha.1.trans f.len,fun k d h=>?_,fun k k' dk dk' a h h' o o'=>?_⟩
 .by_cases hk:k∈ts
  .rw[hu k hk d h];cases(σ'[k]?).join <;> trivial
  .rw[ha.2 k hk];exact f.slot k d h
 .have n1:k ∉ ts:=fun z=>by rw[hu k z dk h]at o;cases o
  have n2:k' ∉ ts:=fun z=>by rw[hu k' z dk' h']at o';cases o'
  rw[ha.2 k n1]at o;rw[ha.2 k' n2]at o';exact f.apart k k' dk dk' a h h' o o'
def Fra.other{H0 R H:Hp}{σ:St}{env:List Dt}{D:Addr}{o:HO}(f:Fra He K H0 R H σ env)(h0:H0 D=none)(hr:R D=none)(lo:kgi o)(hne: ∀(k:Nat)(d:Dt),env[k]?=some d->¬d.has H (σ[k]?).join D):Fra He K H0 R (upd H D o) σ env:=by
 have w:=Wd.mut (o:=o) f.wd hr lo;refine⟨f.at0,⟨f.ext.hh.put h0,f.ext.rr,w.rh,f.ext.nn,w.ls⟩,f.len,fun k d h=>(f.slot k d h).mut hr (hne k d h),fun k j dk dj b ek ej ok oj=>f.apart k j dk dj b ek ej ((f.slot k dk ek).hasMut hr (hne k dk ek) ok) ((f.slot j dj ej).hasMut hr (hne j dj ej) oj)⟩
def Ext.mut{R H R1 H1:Hp}{p:Addr}{o:HO}(e:Ext R H R1 H1)(h:H p=none)(hr:R1 p=none)(lo:kgi o):Ext R H R1 (upd H1 p o):=by
 have w:=Wd.mut (o:=o) e.wd hr lo;exact⟨e.hh.put h,e.rr,w.rh,e.nn,w.ls⟩
abbrev xLC(js:List (Option Nat))(ti:Dq)(g:Dg)(tc:Db)(te:De):Dq:=fun env P=>ti env fun l=>∃G:bb0->Option bb0->Prop,
 (∀ y∈l,g y (knp env js) fun env1=>tc env1 fun b=>if b=true then te env1 fun z=>G y (some z)else G y none)/\∀o,LcR G l o->P o
variable{scope:b05}{N':List Str}{js:List (Option Nat)}{ts:List Nat}
def kwc{ti:Dq}{g:Dg}{tc:Db}{te:De}{wi:TI}{gt:TG}{ct:TT}{et:TE}
 (hi: ∀{H0 R H:Hp}{σ:St}{env:List Dt}(P:List bb0->Prop)(Q:It->Hp->Prop),Fra He K H0 R H σ env->ti env P->(∀ l J R' H',P l->Ext R H R' H'->l.length<=sizeLine->Yld K J R' l->Q J H')->wi σ H Q)
 (hg: ∀{H0 R H:Hp}{σ:St}{env:List Dt}{d:bb0}{v:V}(P:List Dt->Prop)(Q:St->Hp->Prop),Fra He K H0 R H σ env->Rp K R v d->g d env P->(∀ env' σ',P env'->Fra He K H0 R H σ' env'->ktr ts σ σ'->Q σ' H)->gt v σ H Q)
 (hc: ∀{H0 R H:Hp}{σ:St}{env:List Dt}(P:Bool->Prop)(Q:Bool->Hp->Prop),Fra He K H0 R H σ env->tc env P->(∀ b R' H',P b->Ext R H R' H'->Q b H')->ct σ H Q)
 (he: ∀{H0 R H:Hp}{σ:St}{env:List Dt}(P:bb0->Prop)(Q:VK),Fra He K H0 R H σ env->te env P->(∀ d v R' H',P d->Ext R H R' H'->Rp K R' v d->Q v H')->et σ H Q)
 (hj:kgm js=true)(hts: ∀k∈ts,js[k]?=some none\/js[k]?=none)
 {H0 R H:Hp}{σ:St}{env:List Dt}(P:List bb0->Prop)(Q:VK)(F:Fra He K H0 R H σ env)(p:xLC js ti g tc te env P)
 (k: ∀ds a ys R' H',P ds->Ext R H R' H'->H a=none->H' a=some (.lst ys)->R' a=none->RpAll K R' ys ds->Q (.ref a) H'):tLC js wi gt ct et σ H Q:=by
 refine hi _ _ F p fun l J R1 H1 ⟨G,hG,hP⟩ e1 hz yd D hD=>?_;have hD0:H0 D=none:=F.ext.hh.free (e1.hh.free hD);have hDR:R1 D=none:=e1.wd.rh.free hD;have F1:=(F.next e1).cap hj;have un: ∀k∈ts,∀(d:Dt),(knp env js)[k]?=some d->d= .un:=fun m hm d hd=>by
  rcases khz hd with z|⟨j,z,_⟩
  .exact z
  .rcases hts m hm with q|q
   .rw[q]at z;cases z
   .rw[q]at z;cases z
 have ne1: ∀(m:Nat)(d:Dt),(knp env js)[m]?=some d->¬d.has H1 ((kei σ js)[m]?).join D:=fun m d h z=>by
  obtain⟨u,h2,_⟩:=(F1.slot m d h).hasAt z;rw[hD]at h2;cases h2
 refine⟨fun i m σ1 acc H2=>m=l.length-i/\i<=l.length/\∃R2 outs,Fra He K H0 R2 H2 σ1 (knp env js)/\Ext R1 H1 R2 H2/\H2 D=some (.lst acc)/\R2 D=none/\RpAll K R2 acc outs/\LcR G (l.take i) outs/\acc.length<=i/\
  ∀(m:Nat)(d:Dt),(knp env js)[m]?=some d->¬d.has H2 (σ1[m]?).join D,⟨l.length,by simp,bf7 _,R1,[],?_,?_,kak,hDR,.nil,.nil,bb7 _,fun m d h z=>ne1 m d h ((F1.slot m d h).hasMut hDR (ne1 m d h) z)⟩,?_⟩
 .exact F1.other hD0 hDR trivial ne1
 .exact(Ext.refl e1.wd).mut hD hDR trivial
 .rintro i m σ1 acc H2 ⟨rfl,hi',R2,outs,F2,e2,hD2,hR2,ra,lc,hl,ne2⟩;by_cases hlt:i<l.length
  .refine .inr ⟨yd.go R2 H2 i e2.rr e2.wd hlt,_,fun σ' acc' H' n'=>⟨l.length-(i+1),by lia,rfl,hlt,n'⟩,fun x H3 y=>?_⟩;have hd:l[i]?=some l[i]:=(by simp[hlt])
   obtain⟨R3,e3,r3⟩:=yd.yl R2 H2 i l[i] x H3 e2.rr e2.wd hd y;have F3:=F2.next e3
   have tk:l.take (i+1)=l.take i++[l[i]]:=(by rw[bz8,hd];rfl)
   refine hg _ _ F3 r3 (hG l[i] (bf1 hlt)) fun env4 σ4 p4 F4 ag=>?_;have F3':Fra He K H0 R3 H3 σ4 (knp env js):=F3.agree ag un;have ne4: ∀(H':Hp),Same H3 H'->∀(m:Nat)(d:Dt),(knp env js)[m]?=some d->¬d.has H' (σ4[m]?).join D:=fun H' s m d h z=>by
    have z:=(F3'.slot m d h).hasNext (fun a ys O q=>s.or q) z;rw[ag.2 m fun z'=>by rw[un m z' d h]at z;cases z]at z;exact ne2 m d h ((F2.slot m d h).hasNext (fun a ys O q=>e3.hh.or q) z)
   refine hc _ _ F4 p4 fun b R5 H5 p5 e5=>?_;cases b with
   | false=>
     rw[zN bb6]at p5⊢;have ee:=e3.trans e5;exact⟨R5,outs,F3'.next e5,e2.trans ee,ee.hh _ _ hD2,ee.nn _ _ hD2 hR2,RpAll.same ee.rr ra,by rw[tk];exact lc.snoc_skip p5,by lia,ne4 H5 e5.hh⟩
   | true=>
     rw[zP rfl]at p5⊢;refine he _ _ (F4.next e5) p5 fun z v R6 H6 p6 e6 r6=>?_;have ee:=e3.trans (e5.trans e6);have hD6:=ee.hh _ _ hD2;have hR6:=ee.nn _ _ hD2 hR2;have F6:=F3'.next (e5.trans e6)
     have ne6:=ne4 H6 (e5.trans e6).hh;refine⟨hD6,by lia,R6,outs++[z],F6.other hD0 hR6 trivial ne6,(e2.trans ee).mut hD hR6 trivial,kak,hR6,RpAll.append (RpAll.same ee.rr ra) (.one r6),by rw[tk];exact lc.snoc_keep p6,by rw[bb4,bf8];lia,fun m d h z=>ne6 m d h ((F6.slot m d h).hasMut hR6 (ne6 m d h) z)⟩
  .have e:i=l.length:=(by lia)
   subst e;rw[b95]at lc;exact .inl ⟨yd.st R2 H2 e2.rr e2.wd,k outs D acc R2 H2 (hP outs lc) (e1.trans e2) (e1.hh.free hD) hD2 hR2 ra⟩
def kcv{ti:Dq}{g:Dg}{tc:Db}{te:De}(caps: ∀i,Caps (Y i) scope N' js)(hi:DI He K Y tg iter ti)(hg:DG He K (Yc Y scope N') tg ts g)(hc:DIf He K (Yc Y scope N') ifs tc)(he:DE He K (Yc Y scope N') elt te)
 (hj:autoParam (kgm js=true) Z4)(hts:autoParam (∀ k∈ts,js[k]?=some none\/js[k]?=none) u14._auto_1)
 (hcalm:autoParam (∀ i,(Y i).calm=true) Z3)
 (hfb:autoParam (∀ i,(scope.names.all fun p=>p.2 != bk8||((Y i).env.scope.names.lookup p.1==some .cell||(Y i).env.scope.names.lookup p.1==some .free))=true) Z3)
 (hnb:autoParam ((scope.names.all fun p=>p.2 != bq6.local||scope.names.lookup p.1==some .local)=true) Z4)
 (hkind:autoParam (scope.kind= .function) Z4)
 (hs:autoParam (∀ i x,foldedSetIterable iter (Y i).env x=pure x) Z10):DO He K Y (.ListComp elt [⟨tg,iter,ifs,0⟩] scope pos) (xLC js ti g tc te):=by
 obtain⟨wi,i1,i2⟩:=hi;obtain⟨gt,g1,g2⟩:=hg;obtain⟨ct,c1,c2⟩:=hc;obtain⟨et,e1,e2⟩:=he;exact⟨_,fun i=>kf4 (hcalm i) (caps i) (i1 i) (fun s H fp=>g1 (i,s,H,fp)) (fun s H fp=>c1 (i,s,H,fp)) (fun s H fp=>e1 (i,s,H,fp)) (hfb i) hnb hkind (hs i),fun P Q F p k=>kwc i2 g2 c2 e2 hj hts P Q F p k⟩
structure DEnds where
 nx:List Dt->Prop
 rt:Dt->Prop
 bk:List Dt->Prop:=fun O=>False
 ct:List Dt->Prop:=fun O=>False
structure Cov(He:Hp)(K:ba2)(H0 R0:Hp)(D:DEnds)(E:Ends):Prop where
 nx: ∀env' R' H' σ',D.nx env'->Same R0 R'->Fra He K H0 R' H' σ' env'->E.nx σ' H'
 rt: ∀dt v R' H',D.rt dt->Ext H0 H0 R' H'->SlotR K H0 R' H' (some v) dt->E.rt v H'
 bk: ∀env' R' H' σ',D.bk env'->Same R0 R'->Fra He K H0 R' H' σ' env'->E.bk σ' H'
 ct: ∀env' R' H' σ',D.ct env'->Same R0 R'->Fra He K H0 R' H' σ' env'->E.ct σ' H'
@[reducible]def Ds:=DEnds->List Dt->Prop
abbrev DS(He:Hp)(K:ba2){ι:Type}(Y:ι->Cx)(st:Stmt)(t:Ds):Prop:=∃ts:TS,(∀ i,PS (Y i) st ts)/\∀{H0 R0 R H:Hp}{σ:St}{env:List Dt}(D:DEnds)(E:Ends),Fra He K H0 R H σ env->Same R0 R->Cov He K H0 R0 D E->t D env->ts E σ H
abbrev DSs(He:Hp)(K:ba2){ι:Type}(Y:ι->Cx)(st:List Stmt)(t:Ds):Prop:=∃ts:TS,(∀ i,PSs (Y i) st ts)/\∀{H0 R0 R H:Hp}{σ:St}{env:List Dt}(D:DEnds)(E:Ends),Fra He K H0 R H σ env->Same R0 R->Cov He K H0 R0 D E->t D env->ts E σ H
variable{st:Stmt}{kdh:List Stmt}
abbrev kyi:Ds:=fun D env=>D.nx env
abbrev sSeq(t u:Ds):Ds:=fun D env=>t {D with nx:=u D} env
def kav:DSs He K Y [] kyi:=⟨_,fun O=>kki,fun D E F s c p=>c.nx _ _ _ _ p s F⟩
def kab{t u:Ds}(h:DS He K Y st t)(h':DSs He K Y kdh u):DSs He K Y (st::kdh) (sSeq t u):=by
 obtain⟨a,a1,a2⟩:=h;obtain⟨b,b1,b2⟩:=h';exact⟨_,fun i=>kez (a1 i) (b1 i),fun D E F s c p=>a2 {D with nx:=u D} _ F s ⟨fun env' R' H' σ' q s' F'=>b2 D E F' s' c q,c.rt,c.bk,c.ct⟩ p⟩
def kag{t:Ds}(h:DS He K Y st t):DSs He K Y [st] t:=by
 obtain⟨a,a1,a2⟩:=h;exact⟨_,fun i=>kc7 (a1 i),a2⟩
abbrev k2j:Ds:=fun O O=>False
def kl0:DS He K Y st k2j:=⟨_,fun O=>ktc,fun O O O O O p=>p.elim⟩
abbrev sFrz(i:Nat)(t:Ds):Ds:=fun D env=>∃xs,env[i]?=some (.o xs)/\t D (env.set i (.d (.list xs)))
def DSs.frz{sts:List Stmt}{t:Ds}(i:Nat)(h:DSs He K Y sts t):DSs He K Y sts (sFrz i t):=by
 obtain⟨a,a1,a2⟩:=h;refine⟨a,a1,fun D E F s c ⟨xs,e,p⟩=>?_⟩;obtain⟨R',s',F'⟩:=F.frz e;exact a2 D E F' (s.trans s') c p
abbrev sSet(i:Nat)(t:De):Ds:=fun D env=>t env fun d=>D.nx (env.set i (.d d))
def kap(i:Nat){x:Str}{t:De}{pos':Pos}(hN: ∀j,(Y j).N.Nodup)(h:DE He K Y e t)(hi:autoParam (∀ j,(Y j).N[i]?=some x) Z3)(hx:autoParam (∀ j,Loc (Y j).env.scope x) Z12)
 (hs:autoParam (∀ j,bs6 e (some (.Name x pos')) pos.line (Y j).env=pure false) Z3)(hf:autoParam (∀ j,(Y j).fn x=true\/(Y j).env.scope.names.lookup x=some .local) Z13):
 DS He K Y (.Assign [.Name x pos'] e pos) (sSet i t):=by
 obtain⟨a,a1,a2⟩:=h;exact⟨_,fun j=>kgd (hN j) (hi j) (hx j) (a1 j) (hs j) (hf j),fun D E F s c p=>a2 _ _ F p fun d v R' H' q e r=>c.nx _ _ _ _ q (s.trans e.rr) ((F.next e).setD i r)⟩
abbrev kpj(i:Nat)(t:Dq):Ds:=fun D env=>t env fun l=>D.nx (env.set i (.o l))
def kjt{i:Nat}{t:Dq}{tl:TE}(ho: ∀{H0 R H:Hp}{σ:St}{env:List Dt}(P:List bb0->Prop)(Q:VK),Fra He K H0 R H σ env->t env P->
 (∀ ds a ys R' H',P ds->Ext R H R' H'->H a=none->H' a=some (.lst ys)->R' a=none->RpAll K R' ys ds->Q (.ref a) H')->tl σ H Q)
 {H0 R0 R H:Hp}{σ:St}{env:List Dt}(D:DEnds)(E:Ends)(F:Fra He K H0 R H σ env)(s:Same R0 R)(c:Cov He K H0 R0 D E)(p:kpj i t D env):k1m tl (kol i) E σ H:=
 ho _ _ F p fun l a ys R' H' q e hn ha hr r=>c.nx _ _ _ _ q (s.trans e.rr) (F.setN e i hn ⟨a,ys,rfl,ha,hr,F.ext.hh.free hn,r⟩)
def kbh(i:Nat){x:Str}{t:Dq}{pos':Pos}(hN: ∀j,(Y j).N.Nodup)(h:DO He K Y e t)(hi:autoParam (∀ j,(Y j).N[i]?=some x) Z3)(hx:autoParam (∀ j,Loc (Y j).env.scope x) Z12)
 (hs:autoParam (∀ j,bs6 e (some (.Name x pos')) pos.line (Y j).env=pure false) Z3)(hf:autoParam (∀ j,(Y j).fn x=true\/(Y j).env.scope.names.lookup x=some .local) Z13):
 DS He K Y (.Assign [.Name x pos'] e pos) (kpj i t):=by
 obtain⟨a,a1,a2⟩:=h;exact⟨_,fun j=>kgd (hN j) (hi j) (hx j) (a1 j) (hs j) (hf j),fun D E F s c p=>kjt a2 D E F s c p⟩
def kcc(i:Nat){x:Str}{ti:Dq}{g:Dg}{tc:Db}{te:De}{pos' spos:Pos}(hN: ∀j,(Y j).N.Nodup)(caps: ∀i,Caps (Y i) scope N' js)(hi:DI He K Y tg iter ti)(hg:DG He K (Yc Y scope N') tg ts g)(hc:DIf He K (Yc Y scope N') ifs tc)(he:DE He K (Yc Y scope N') elt te)
 (hix:autoParam (∀ j,(Y j).N[i]?=some x) Z3)(hx:autoParam (∀ j,Loc (Y j).env.scope x) Z12)
 (hj:autoParam (kgm js=true) Z4)(hts:autoParam (∀ k∈ts,js[k]?=some none\/js[k]?=none) u14._auto_1)
 (hcalm:autoParam (∀ i,(Y i).calm=true) Z3)
 (hfb:autoParam (∀ i,(scope.names.all fun p=>p.2 != bk8||((Y i).env.scope.names.lookup p.1==some .cell||(Y i).env.scope.names.lookup p.1==some .free))=true) Z3)
 (hnb:autoParam ((scope.names.all fun p=>p.2 != bq6.local||scope.names.lookup p.1==some .local)=true) Z4)
 (hsw:autoParam (∀ j,bs6 (.ListComp elt [⟨tg,iter,ifs,0⟩] scope pos) (some (.Name x pos')) spos.line (Y j).env=pure true) Z3)
 (hkind:autoParam (scope.kind= .function) Z4)(hs:autoParam (∀ i x,foldedSetIterable iter (Y i).env x=pure x) Z10)
 (hf:autoParam (∀ j,(Y j).fn x=true\/(Y j).env.scope.names.lookup x=some .local) Z13):
 DS He K Y (.Assign [.Name x pos'] (.ListComp elt [⟨tg,iter,ifs,0⟩] scope pos) spos) (kpj i (xLC js ti g tc te)):=by
 obtain⟨wi,i1,i2⟩:=hi;obtain⟨gt,g1,g2⟩:=hg;obtain⟨ct,c1,c2⟩:=hc;obtain⟨et,e1,e2⟩:=he;exact⟨_,fun m=>ktj (i:=i) (hcalm m) (caps m) (i1 m) (fun s H fp=>g1 (m,s,H,fp)) (fun s H fp=>c1 (m,s,H,fp)) (fun s H fp=>e1 (m,s,H,fp)) (hN m) (hix m) (hx m) (hfb m) hnb (hsw m) hkind (hs m) (hf m),
  fun D E F s c p=>kjt (fun P Q F p k=>kwc i2 g2 c2 e2 hj hts P Q F p k) D E F s c p⟩
abbrev sRet(t:De):Ds:=fun D env=>t env fun d=>D.rt (.d d)
def kax{t:De}(h:DE He K Y e t):DS He K Y (.Return (some e) pos) (sRet t):=by
 obtain⟨a,a1,a2⟩:=h;exact⟨_,fun j=>kja (a1 j),fun D E F s c p=>a2 _ _ F p fun d v R' H' q e r=>c.rt _ _ R' H' q (F.ext.trans e) r⟩
abbrev kyj(t:Dq):Ds:=fun D env=>t env fun l=>D.rt (.o l)
def kcy{t:Dq}(h:DO He K Y e t):DS He K Y (.Return (some e) pos) (kyj t):=by
 obtain⟨a,a1,a2⟩:=h;exact⟨_,fun j=>kja (a1 j),fun D E F s c p=>a2 _ _ F p fun l a ys R' H' q e hn ha hr r=>c.rt _ _ R' H' q (F.ext.trans e) ⟨a,ys,rfl,ha,hr,F.ext.hh.free hn,r⟩⟩
abbrev kyk(i:Nat):Ds:=fun D env=>∃dt,env[i]?=some dt/\dt≠ .un/\D.rt dt
def kb8(i:Nat){x:Str}{p2:Pos}(h:autoParam (∀ j,PE (Y j) (.Name x p2) (kg9 i)) Z8):DS He K Y (.Return (some (.Name x p2)) pos) (kyk i):=
 ⟨_,fun j=>kja (h j),fun D E F s c ⟨dt,e,hu,q⟩=>by
   obtain⟨v,h1,h2⟩:=F.get e hu;exact⟨v,h1,c.rt dt v _ _ q F.ext h2⟩⟩
abbrev sIf(t:Db)(u w:Ds):Ds:=fun D env=>t env fun b=>if b=true then u D env else w D env
def kba{t:Db}{u w:Ds}{th el:List Stmt}(hc:DT He K Y c t)(h1:DSs He K Y th u)(h2:DSs He K Y el w):DS He K Y (.If c th el pos) (sIf t u w):=by
 obtain⟨a,a1,a2⟩:=hc;obtain⟨b,b1,b2⟩:=h1;obtain⟨d,d1,d2⟩:=h2;refine⟨_,fun j=>kxm (a1 j) (b1 j) (d1 j),fun D E F s c p=>a2 _ _ F p fun b R' H' q e=>?_⟩;cases b with
 | true=>
   rw[zP rfl]at q⊢;exact b2 D E (F.next e) (s.trans e.rr) c q
 | false=>
   rw[zN bb6]at q⊢;exact d2 D E (F.next e) (s.trans e.rr) c q
abbrev kof(ti:Dq)(g:Dg)(tb:Ds):Ds:=fun D env=>ti env fun l=>∃I:Nat->List Dt->Prop,I 0 env/\
 (∀ (k:Nat)(y:bb0)(env1:List Dt),l[k]?=some y->I k env1->g y env1 fun env2=>tb {nx:=I (k+1),rt:=D.rt,bk:=D.nx,ct:=I (k+1)} env2)/\∀env1,I l.length env1->D.nx env1
def kbn{ti:Dq}{g:Dg}{tb:Ds}{body:List Stmt}(hp: ∀i,PassesOwn (bf9 (Y i).prog (Y i).w) (Y i).A (Y i).env (Y i).xe)(hi:DI He K Y tg iter ti)(hg:DG He K Y tg ts g)(hb:DSs He K Y body tb)(hc:autoParam (∀ i,(Y i).calm=true) Z3)
 (hs:autoParam (∀ i x,foldedSetIterable iter (Y i).env x=pure x) Z10):DS He K Y (.For tg iter body [] pos) (kof ti g tb):=by
 obtain⟨wi,i1,i2⟩:=hi;obtain⟨gt,g1,g2⟩:=hg;obtain⟨bt,b1,b2⟩:=hb;refine⟨_,fun m=>kha (hp m) (hc m) (i1 m) (g1 m) (b1 m) (hs m),fun{H0 R0 R H σ env} D E F s c p=>i2 _ _ F p fun l J R1 H1 ⟨I,h0,hs,hd⟩ e1 hz yd=>?_⟩;have s1:Same R0 R1:=s.trans e1.rr;refine⟨fun i m σ2 H2=>m=l.length-i/\i<=l.length/\∃R2 env2,Fra He K H0 R2 H2 σ2 env2/\Same R1 R2/\I i env2,⟨l.length,by simp,bf7 _,R1,env,F.next e1,Same.refl R1,h0⟩,?_⟩;rintro i m σ2 H2 ⟨rfl,hi',R2,env2,F2,s2,p2⟩;by_cases hlt:i<l.length
 .refine .inr ⟨yd.go R2 H2 i s2 F2.wd hlt,fun σ' H'=>∃R2 env2,Fra He K H0 R2 H' σ' env2/\Same R1 R2/\I (i+1) env2,fun σ' H' n'=>⟨l.length-(i+1),by lia,rfl,hlt,n'⟩,fun x H3 y=>?_⟩;have hd':l[i]?=some l[i]:=by simp[hlt]
  obtain⟨R3,e3,r3⟩:=yd.yl R2 H2 i l[i] x H3 s2 F2.wd hd' y;refine g2 _ _ (F2.next e3) r3 (hs i l[i] env2 hd' p2) fun env4 σ4 p4 F4 O=>?_;refine b2 (R0:=R1) {nx:=I (i+1),rt:=D.rt,bk:=D.nx,ct:=I (i+1)} _ F4 (s2.trans e3.rr) ⟨fun env' R' H' σ' q s' F'=>⟨R',env',F',s',q⟩,c.rt,fun env' R' H' σ' q s' F'=>c.nx _ _ _ _ q (s1.trans s') F',fun env' R' H' σ' q s' F'=>⟨R',env',F',s',q⟩⟩ p4
 .have e:i=l.length:=by lia
  subst e;exact .inl ⟨yd.st R2 H2 s2 F2.wd,c.nx _ _ _ _ (hd env2 p2) (s1.trans s2) F2⟩
abbrev sApp(i:Nat)(t:De):Ds:=fun D env=>∃xs,env[i]?=some (.o xs)/\t env fun d=>xs.length<100000/\D.nx (env.set i (.o (xs++[d])))
def Fra.lstAt{H0 R H:Hp}{σ:St}{env:List Dt}{i:Nat}{xs:List bb0}(F:Fra He K H0 R H σ env)(h:env[i]?=some (.o xs)): ∃a ys,σ[i]?=some (some (.ref a))/\H a=some (.lst ys)/\R a=none/\H0 a=none/\RpAll K R ys xs:=by
 obtain⟨v,hs,a,ys,rfl,h2,h3,h4,h5⟩:=F.get h (by intro z;cases z);exact⟨a,ys,hs,h2,h3,h4,h5⟩
def Fra.lstSet{H0 R H:Hp}{σ:St}{env:List Dt}{i:Nat}{xs xs':List bb0}{a:Addr}{ys':List V}(F:Fra He K H0 R H σ env)(h:env[i]?=some (.o xs))(hs:σ[i]?=some (some (.ref a)))(h3:R a=none)(h4:H0 a=none)(h5:RpAll K R ys' xs'):Fra He K H0 R (upd H a (.lst ys')) σ (env.set i (.o xs')):=
 F.mut h rfl hs trivial ⟨a,ys',rfl,kak,h3,h4,h5⟩
def kyl{n:Nat}(h:n<=100000):n<sizeLine:=b50 h (by decide)
def kf0{X:Cx}{o e:Expr}{es:List Expr}{to:TE}{t:TA}{name:Str}{apos cpos:Pos}{T id:String}{r:V->List V->Hp->VK->Prop}(K:ba2)(hK:X.K=K)(pa:PlainAttrs T)(slot:Slot T name id)(hty:typeOf (.builtin id)=pure (.type "method_descriptor"))(hm:MtR X id r)(ho:PE X o to)(ha:PA X (e::es) t)
 (hbase:bm8 o name X.env (eval o X.env)=eval o X.env)
 (hfew:((backTo cpos (bc5 (e::es) X.env)).all (fun x=> !x.1)&&(b09 cpos (bt1 [] X.env)).all (fun x=>x.1.isSome)
   &&decide ((e::es).length+([]:List Keyword).length+(if([]:List Keyword).isEmpty then 0 else 1)<30))=true)
 (hline:(apos.endLine==cpos.line)=true)(hs:bc5 (e::es) X.env=(false,eval e X.env)::bc5 es X.env)(hplain:(backTo cpos (bc5 es X.env)).any (·.1)=false):
 PE X (.Call (.Attribute o name apos) (e::es) [] cpos) (tBM K T r to t):=hK▸k15 pa slot hty hm ho ha hbase hfew hline hs hplain
def keb(i:Nat){x:Str}{t:De}{p2 apos cpos:Pos}(h:DE He K Y e t)(hv:autoParam (∀ j,PE (Y j) (.Name x p2) (kg9 i)) Z8)(hK:autoParam (∀ i,(Y i).K=K) Z3)
 (hbase:autoParam (∀ j,bm8 (.Name x p2) "append" (Y j).env (eval (.Name x p2) (Y j).env)=eval (.Name x p2) (Y j).env) Z3)
 (hfew:autoParam (∀ j,((backTo cpos (bc5 [e] (Y j).env)).all (fun x=> !x.1)&&(b09 cpos (bt1 [] (Y j).env)).all (fun x=>x.1.isSome)
   &&decide (([e]:List Expr).length+([]:List Keyword).length+(if([]:List Keyword).isEmpty then 0 else 1)<30))=true) Z3)
 (hline:autoParam ((apos.endLine==cpos.line)=true) Z4)(hs:autoParam (∀ j,bc5 [e] (Y j).env=(false,eval e (Y j).env)::bc5 [] (Y j).env) Z3)(hplain:autoParam (∀ j,(backTo cpos (bc5 [] (Y j).env)).any (·.1)=false) Z3)
 (hsw:autoParam (∀ j,bs6 (.Call (.Attribute (.Name x p2) "append" apos) [e] [] cpos) none pos.line (Y j).env=pure false) Z3):
 DS He K Y (.Expr (.Call (.Attribute (.Name x p2) "append" apos) [e] [] cpos) pos) (sApp i t):=by
 obtain⟨te,a1,a2⟩:=h;refine⟨_,fun j=>kgc (kf0 K (hK j) bk1 bx9 by0 ke1 (hv j) (kaq (a1 j) ka2 (hs j)) (hbase j) (hfew j) hline (hs j) (hplain j)) (hsw j),fun D E F s c p=>?_⟩;obtain⟨xs,ex,p⟩:=p;obtain⟨a,ys,h1,h2,h3,h4,h5⟩:=F.lstAt ex;refine⟨_,h1,.inl ⟨rfl,_,SqL.of h2⟩,a2 _ _ F p fun d v R' H' ⟨hz,q⟩ ee r=>?_⟩;have r5:=RpAll.same ee.rr h5;refine⟨a,ys,v,rfl,rfl,ee.hh _ _ h2,kyl (by rw[h5.len];lia),?_⟩;exact c.nx _ _ _ _ q (s.trans ee.rr) ((F.next ee).lstSet ex h1 (ee.nn _ _ h2 h3) h4 (RpAll.append r5 (.one r)))
abbrev kdp(n:Nat)(ds:List bb0):List Dt:=ds.map Dt.d++bf6 (n-ds.length) .un
def Fra.begin{H:Hp}{N:List Str}{vs:List V}{ds:List bb0}(he:Same He H)(r:RpAll K H vs ds):Fra He K H H H (L2.start N vs) (kdp N.length ds):=by
 have hl:=r.len;refine⟨he,Ext.of_same (Same.refl H),by simp[L2.start,kdp,hl],fun i d h=>?_,fun i j di dj a h O o O=>?_⟩
 .by_cases hi:i<ds.length
  .have e1:(kdp N.length ds)[i]?=some (.d ds[i]):=by
    unfold kdp;rw[bc9 (by rw[ba3];exact hi),bc8];simp[hi]
   rw[e1]at h;cases h;obtain⟨v,hv,rv⟩:=r.get' (i:=i) (d:=ds[i]) (by simp[hi]);have e2:(L2.start N vs)[i]?=some (some v):=by
    unfold L2.start;rw[bc9 (by rw[ba3,hl];exact hi),bc8,hv];rfl
   rw[e2];exact rv
  .have:d= .un:=by
    unfold kdp at h;rw[bc2 (by rw[ba3];lia),by3]at h;split at h
    .cases h;rfl
    .cases h
   subst this;cases((L2.start N vs)[i]?).join <;> trivial
 .by_cases hi:i<ds.length
  .have e1:(kdp N.length ds)[i]?=some (.d ds[i]):=by
    unfold kdp;rw[bc9 (by rw[ba3];exact hi),bc8];simp[hi]
   rw[e1]at h;cases h;cases o
  .have:di= .un:=by
    unfold kdp at h;rw[bc2 (by rw[ba3];lia),by3]at h;split at h
    .cases h;rfl
    .cases h
   subst this;cases o
def Fun.okG{P:bb9}{w:be5}{mg:Str->Option ba6}{base:Heap}{x qual:Str}{st:Stmt}{f:Addr}{fd:be7}{N ps:List Str}{k:Nat}{Pm:List bb0->(Dt->Prop)->Prop}{T:Ds}(F:Fun K x qual st f fd)(S:FnScope N ps (kaj st))(len: ∀ds RS,Pm ds RS->ds.length=ps.length)
 (hT: ∀(cdv:ba6)(A:bg1)(outer:List Env)(s:ba7)(H:Hp)(E:XK),Room k (A.deeper (envOfC qual (kaj st) s.heap.objs.size f cdv))->DSs (fun O=>none) K (fun _:Unit=>(kv1 CX0 P w K mg base N qual (kaj st) f cdv A outer s H E).nox) (kb1 st) T)
 (hR: ∀ds RS,Pm ds RS->T {nx:=fun O=>RS (.d .none),rt:=RS} (kdp N.length ds)):FnOk P w K mg base CX0 (k+1) f fd ps (spG K Pm):=by
 refine F.ok S (fun vs H Q E h=>?_) (fun cdv A outer s H vs Q E hr h=>?_)
 .obtain⟨ds,RS,h1,h2,_⟩:=h;rw[h1.len];exact len ds RS h2
 .obtain⟨ds,RS,h1,h2,k⟩:=h;obtain⟨ts,t1,t2⟩:=hT cdv A outer s H E hr;refine⟨ts,t1 (),t2 (R0:=H) {nx:=fun O=>RS (.d .none),rt:=RS} _ (Fra.begin (fun O O z=>by cases z) h1) (Same.refl H) ⟨fun env' R' H' σ' q O F'=>k (.d .none) .non R' H' q F'.ext Rp.non,fun dt v R' H' q e sl=>k dt v R' H' q e sl,fun O O O O q=>q.elim,fun O O O O q=>q.elim⟩ (hR ds RS h2)⟩
end
section
variable{prog:bb9}{w:be5}{A:bg1}{E:ba6->ba7->Prop}{s:ba7}
def knq{it t:Addr}{k:Nat}{its:Array ba6}{v:ba6}{Q:ba6->ba7->Prop}(hI:s.heap.IsTupleIter it t k)(hT:s.heap.IsTuple t its)(hv:its[k]?=some v)
 (q: ∀h',h'.IsTupleIter it t (k+1)->bn0 it s.heap h'->Q v {s with heap:=h'}):be1 (bf9 prog w) A (bh1 (.ref it)) Q E s:=by
 obtain⟨oi,e1,e2,e3⟩:=id hI;obtain⟨ot,e4,_,n4,e5⟩:=hT;unfold bh1;refine ba0 (bi8 (name:=br2 "__next__") hI.typeIs bs0 (bg4 bs0 hI.typeIs b34 ?_ (b26 _)));show be1 _ _ (field (.ref it) 0 >>= _) _ _ _;refine ba0 (bk9 e1 e3 (x:= .ref t) rfl ?_);show be1 _ _ (if(bg0 t==bd8)=true then _ else _) _ _ _;rw[zN (by exact bb6)];show be1 _ _ (field (.ref it) 1 >>= _) _ _ _;refine ba0 (bk9 e1 e3 (x:= .int k 0) rfl ?_);show be1 _ _ (seqItems? (.ref t) >>= _) _ _ _;refine ba0 (bk4 e4 e5 ?_);simp only[bc3,hv];refine ba0 (wpAny_setField e1 e3 (by simp) (ba9 ⟨v,rfl,ba9 (q _ ?_ (br5 ..))⟩));refine⟨_,bm1 _ e1 (Obj.isFreed_of_fields (cd3 e3 _)),(Obj.cls_mapFields ..).trans e2,?_⟩;rw[cd3 e3];simp[rawInt]
def kpk{it t:Addr}{k:Nat}{its:Array ba6}{Q:ba6->ba7->Prop}(hh:A.handled=none)(hI:s.heap.IsTupleIter it t k)(hT:s.heap.IsTuple t its)(hv:its[k]?=none)
 (q: ∀h' e,cj8 it s.heap h'->(∃ o,h'.get? e=some o/\o.cls= .type "StopIteration")->E (.ref e) {s with heap:=h'}):be1 (bf9 prog w) A (bh1 (.ref it)) Q E s:=by
 obtain⟨oi,e1,e2,e3⟩:=id hI;obtain⟨ot,e4,_,n4,e5⟩:=hT;unfold bh1;refine ba0 (bi8 (name:=br2 "__next__") hI.typeIs bs0 (bg4 bs0 hI.typeIs b34 ?_ (b26 _)));show be1 _ _ (field (.ref it) 0 >>= _) _ _ _;refine ba0 (bk9 e1 e3 (x:= .ref t) rfl ?_);show be1 _ _ (if(bg0 t==bd8)=true then _ else _) _ _ _;rw[zN (by exact bb6)];show be1 _ _ (field (.ref it) 1 >>= _) _ _ _;refine ba0 (bk9 e1 e3 (x:= .int k 0) rfl ?_);show be1 _ _ (seqItems? (.ref t) >>= _) _ _ _;refine ba0 (bk4 e4 e5 ?_);simp only[bc3,hv];refine ba0 (bz9 (ba0 (wpAny_setField e1 e3 (by simp) ?_)));show be1 _ _ (newExc (.type "StopIteration") [] >>= _) _ _ _;refine ba0 ?_;simp only[newExc,newTuple];refine ba0 (bj8 ?_ (by size_fits));refine ba0 (m:=firstArgMember _ _) (bv9 (a:=bd8) (by first|rfl|(simp only[firstArgMember] <;> rfl)) ?_);refine bj8 ?_ (by size_fits);simp only[raiseNew];refine ba0 (wpAny_handled ?_);first|rw[show A.in1.handled=none from hh]|rw[hh]
 refine ba0 (ba9 (wpAny_throw ?_));exact q _ _ (((br5 ..).extBut.push _).push _) ⟨_,bc7 _ rfl,rfl⟩
def k2k(hh:A.handled=none)(it t:Addr)(hne:t≠it)(its:Array ba6):Draws prog w A it [it,t] its.size (fun i v=>its[i]?=some v) (fun i h=>h.IsTupleIter it t i/\h.IsTuple t its) where
 live:=fun O O z=>let⟨o,ho,_⟩:=z.1;⟨o,ho⟩
 frame:=fun O O O z hk=>⟨z.1.at fun o e=>hk it (by simp) o e,let⟨o,e,c⟩:=z.2;⟨o,hk t (by simp) o e,c⟩⟩
 item:=fun i s Q E hi z q=>knq z.1 z.2 (v:=its[i]) (by simp[hi]) fun h' a b=>q _ h' s.toks (by simp[hi]) ⟨a,z.2.extBut b.extBut hne⟩ b
 done:=fun s Q E z q=>kpk hh z.1 z.2 (by simp) q
structure ZAp(z TI TO i1 i2:Addr)(f1 f2:List Addr):Prop where
 TIz:TI≠z
 TOz:TO≠z
 TITO:TI≠TO
 TI1:TI≠i1
 TI2:TI≠i2
 TO1:TO≠i1
 TO2:TO≠i2
 z1:z≠i1
 z2:z≠i2
 zf1:z ∉ f1
 zf2:z ∉ f2
 of1:TO ∉ f1
 of2:TO ∉ f2
 i2f1:i2 ∉ f1
 i1f2:i1 ∉ f2
variable{z TI TO i1 i2:Addr}{f1 f2:List Addr}{n1 n2 k1 k2:Nat}{P1 P2:Nat->ba6->Prop}{S1 S2:Nat->Heap->Prop}{a b:ba6}
def ktu{Q:ba6->ba7->Prop}(Z:ZAp z TI TO i1 i2 f1 f2)(D1:Draws prog w A i1 f1 n1 P1 S1)(D2:Draws prog w A i2 f2 n2 P2 S2)(z0:IsZip s.heap z TI TO .none)(z1:IsPair s.heap TI (.ref i1) (.ref i2))(z2:IsPair s.heap TO a b)
 (st1:S1 k1 s.heap)(st2:S2 k2 s.heap)(l1:k1<n1)(l2:k2<n2)
 (q: ∀h' x y tk,P1 k1 x->P2 k2 y->IsZip h' z TI TO (rawInt s.heap.objs.size)->IsPair h' TO x y->S1 (k1+1) h'->S2 (k2+1) h'->IsPair h' s.heap.objs.size x y->
   (∀ c o,c≠z->c≠TO->c≠i1->c≠i2->s.heap.get? c=some o->h'.get? c=some o)->Q (.ref s.heap.objs.size) {s with heap:=h',toks:=tk}):
 be1 (bf9 prog w) A (Builtin.«zip.__next__» ⟨[.ref z],[]⟩) (fun fin s'=>∃v,fin= .done (.ret v)/\Q v s') E s:=by
 show be1 _ _ (field (.ref z) 2 >>= _) _ _ _;refine ba0 (bk9 z0 rfl (x:= .bool false) rfl ?_);show be1 _ _ (field (.ref z) 3 >>= _) _ _ _;refine ba0 (bk9 z0 rfl (x:= .ref TI) rfl ?_);refine ba0 (bk4 z1 rfl ?_);show be1 _ _ (bg6 (.ref z) >>= _) _ _ _;refine ba0 ?_;unfold bg6;refine ba0 (bk9 z0 rfl (x:= .none) rfl (ba9 ?_));simp only[if_true];refine ba0 (bz9 ?_);refine ba0 (bk9 z0 rfl (x:= .ref TO) rfl ?_);refine ba0 (bl8 z0 (by simp) fun g1 y1 w1=>?_)
 replace y1:IsZip g1 z TI TO .ellipsis:=y1
 refine ba0 ?_;simp only[ch5,cj9,bt4,bs8];have ne1: ∀c∈f1,c≠z:=fun c hc e=>Z.zf1 (e▸hc);have ne2: ∀c∈f2,c≠z:=fun c hc e=>Z.zf2 (e▸hc);have r1:S1 k1 g1:=D1.frame _ _ _ st1 fun c hc o e=>w1.extBut _ _ (ne1 c hc) e;refine ba0 (ba0 (b83 ?_));show be1 _ _ (bh1 (.ref i1) >>= _) _ _ _;refine ba0 (D1.item k1 _ _ _ l1 r1 fun x g2 t2 px s2 w2=>ba9 ?_);have o2:IsPair g2 TO a b:=w2.extBut _ _ Z.TO1 (w1.extBut _ _ Z.TOz z2);refine ba0 (bk4 o2 rfl ?_);refine ba0 (b24 o2 fun g3 o3 w3=>?_)
 replace o3:IsPair g3 TO x b:=o3
 refine ba0 (b35 (ba9 ?_));have r2:S2 k2 g3:=D2.frame _ _ _ st2 fun c hc o e=>w3.extBut _ _ (fun e=>Z.of2 (e▸hc)) (w2.extBut _ _ (fun e=>Z.i1f2 (e▸hc)) (w1.extBut _ _ (ne2 c hc) e));refine ba0 (ba0 (b83 ?_));show be1 _ _ (bh1 (.ref i2) >>= _) _ _ _;refine ba0 (D2.item k2 _ _ _ l2 r2 fun y g4 t4 py s4 w4=>ba9 ?_);have o4:IsPair g4 TO x b:=w4.extBut _ _ Z.TO2 o3;refine ba0 (bk4 o4 rfl ?_);refine ba0 (b24 o4 fun g5 o5 w5=>?_)
 replace o5:IsPair g5 TO x y:=o5
 refine ba0 (b35 (ba9 (ba9 ?_)));refine ba0 (bk4 o5 rfl ?_);refine ba0 (b58 ?_);have sz:g5.objs.size=s.heap.objs.size:=by rw[w5.1,w4.1,w3.1,w2.1,w1.1]
 have y5:IsZip g5 z TI TO .ellipsis:=w5.extBut _ _ Z.TOz.symm (w4.extBut _ _ Z.z2 (w3.extBut _ _ Z.TOz.symm (w2.extBut _ _ Z.z1 y1)));have zl:z<g5.objs.size:=bd0 y5;show be1 _ _ (bx0 (.ref z) (.ref g5.objs.size) >>= _) _ _ _;refine ba0 ?_;unfold bx0;have y6:IsZip (g5.push {cls:= .type "tuple",data:= .seq #[x,y]}) z TI TO .ellipsis:=ba5 _ y5;refine ba0 (bl8 y6 (by simp) fun g7 y7 w7=>?_)
 replace y7:IsZip g7 z TI TO (rawInt g5.objs.size):=y7
 refine bl8 y7 (by simp) fun g8 y8 w8=>?_
 replace y8:IsZip g8 z TI TO (rawInt g5.objs.size):=y8
 have up: ∀c o,c≠z->g5.get? c=some o->g8.get? c=some o:=fun c o h e=>w8.extBut _ _ h (w7.extBut _ _ h (ba5 _ e));have t8:IsPair g8 g5.objs.size x y:=w8.extBut _ _ (bv7 zl) (w7.extBut _ _ (bv7 zl) (bc7 _ rfl));have s5:S1 (k1+1) g8:=D1.frame _ _ _ s2 fun c hc o e=>up c o (ne1 c hc) (w5.extBut _ _ (fun e=>Z.of1 (e▸hc)) (w4.extBut _ _ (fun e=>Z.i2f1 (e▸hc)) (w3.extBut _ _ (fun e=>Z.of1 (e▸hc)) e)));have s6:S2 (k2+1) g8:=D2.frame _ _ _ s4 fun c hc o e=>up c o (ne2 c hc) (w5.extBut _ _ (fun e=>Z.of2 (e▸hc)) e);rw[sz]at y8 t8;refine ba9 ⟨_,rfl,?_⟩;show Q (.ref g5.objs.size) _;rw[sz];exact q g8 x y t4 px py y8 (up _ _ Z.TOz o5) s5 s6 t8 fun c o c1 c2 c3 c4 e=>up c o c1 (w5.extBut _ _ c2 (w4.extBut _ _ c4 (w3.extBut _ _ c2 (w2.extBut _ _ c3 (w1.extBut _ _ c1 e)))))
def kym{Q:Fin->ba7->Prop}(Z:ZAp z TI TO i1 i2 f1 f2)(D1:Draws prog w A i1 f1 n1 P1 S1)(D2:Draws prog w A i2 f2 n2 P2 S2)(z0:IsZip s.heap z TI TO .none)(z1:IsPair s.heap TI (.ref i1) (.ref i2))(z2:IsPair s.heap TO a b)
 (st1:S1 k1 s.heap)(st2:S2 k2 s.heap)(l1:k1=n1\/(k1<n1/\k2=n2))
 (q: ∀h' tk e,(∀ c o,c≠z->c≠TO->c≠i1->c≠i2->s.heap.get? c=some o->h'.get? c=some o)->(∃ o,h'.get? e=some o/\o.cls= .type "StopIteration")->E (.ref e) {s with heap:=h',toks:=tk}):
 be1 (bf9 prog w) A (Builtin.«zip.__next__» ⟨[.ref z],[]⟩) Q E s:=by
 show be1 _ _ (field (.ref z) 2 >>= _) _ _ _;refine ba0 (bk9 z0 rfl (x:= .bool false) rfl ?_);show be1 _ _ (field (.ref z) 3 >>= _) _ _ _;refine ba0 (bk9 z0 rfl (x:= .ref TI) rfl ?_);refine ba0 (bk4 z1 rfl ?_);show be1 _ _ (bg6 (.ref z) >>= _) _ _ _;refine ba0 ?_;unfold bg6;refine ba0 (bk9 z0 rfl (x:= .none) rfl (ba9 ?_));simp only[if_true];refine ba0 (bz9 ?_);refine ba0 (bk9 z0 rfl (x:= .ref TO) rfl ?_);refine ba0 (bl8 z0 (by simp) fun g1 y1 w1=>?_)
 replace y1:IsZip g1 z TI TO .ellipsis:=y1
 refine ba0 ?_;simp only[ch5,cj9,bt4,bs8];have ne1: ∀c∈f1,c≠z:=fun c hc e=>Z.zf1 (e▸hc);have ne2: ∀c∈f2,c≠z:=fun c hc e=>Z.zf2 (e▸hc);have r1:S1 k1 g1:=D1.frame _ _ _ st1 fun c hc o e=>w1.extBut _ _ (ne1 c hc) e;refine ba0 (ba0 (b83 ?_));show be1 _ _ (bh1 (.ref i1) >>= _) _ _ _;rcases l1 with rfl|⟨l1,rfl⟩
 .refine ba0 (D1.done _ _ _ r1 fun g2 e w2 he=>?_);obtain⟨oe,he1,he2⟩:=he;have y2:IsZip g2 z TI TO .ellipsis:=w2 _ _ Z.z1 y1;have hez:e≠z:=fun x=>by subst x;rw[y2]at he1;cases he1;simp at he2
  refine bl8 y2 (by simp) fun g3 O w3=>q g3 _ e (fun c o c1 O c3 O x=>w3.extBut _ _ c1 (w2 _ _ c3 (w1.extBut _ _ c1 x))) ⟨oe,w3.extBut _ _ hez he1,he2⟩
 .refine ba0 (D1.item k1 _ _ _ l1 r1 fun x g2 t2 px s2 w2=>ba9 ?_);have o2:IsPair g2 TO a b:=w2.extBut _ _ Z.TO1 (w1.extBut _ _ Z.TOz z2);refine ba0 (bk4 o2 rfl ?_);refine ba0 (b24 o2 fun g3 o3 w3=>?_);refine ba0 (b35 (ba9 ?_));have r2:S2 k2 g3:=D2.frame _ _ _ st2 fun c hc o e=>w3.extBut _ _ (fun e=>Z.of2 (e▸hc)) (w2.extBut _ _ (fun e=>Z.i1f2 (e▸hc)) (w1.extBut _ _ (ne2 c hc) e));refine ba0 (ba0 (b83 ?_));show be1 _ _ (bh1 (.ref i2) >>= _) _ _ _;refine ba0 (D2.done _ _ _ r2 fun g4 e w4 he=>?_);obtain⟨oe,he1,he2⟩:=he;have y4:IsZip g4 z TI TO .ellipsis:=w4 _ _ Z.z2 (w3.extBut _ _ Z.TOz.symm (w2.extBut _ _ Z.z1 y1));have hez:e≠z:=fun x=>by subst x;rw[y4]at he1;cases he1;simp at he2
  refine bl8 y4 (by simp) fun g5 O w5=>q g5 _ e (fun c o c1 c2 c3 c4 x=>w5.extBut _ _ c1 (w4 _ _ c4 (w3.extBut _ _ c2 (w2.extBut _ _ c3 (w1.extBut _ _ c1 x))))) ⟨oe,w5.extBut _ _ hez he1,he2⟩
def ktv{Q:Option ba6->ba7->Prop}(Z:ZAp z TI TO i1 i2 f1 f2)(D1:Draws prog w A.in1 i1 f1 n1 P1 S1)(D2:Draws prog w A.in1 i2 f2 n2 P2 S2)(z0:IsZip s.heap z TI TO .none)(z1:IsPair s.heap TI (.ref i1) (.ref i2))(z2:IsPair s.heap TO a b)
 (st1:S1 k1 s.heap)(st2:S2 k2 s.heap)(l1:k1<n1)(l2:k2<n2)
 (q: ∀h' x y tk,P1 k1 x->P2 k2 y->IsZip h' z TI TO (rawInt s.heap.objs.size)->IsPair h' TO x y->S1 (k1+1) h'->S2 (k2+1) h'->IsPair h' s.heap.objs.size x y->
   (∀ c o,c≠z->c≠TO->c≠i1->c≠i2->s.heap.get? c=some o->h'.get? c=some o)->Q (some (.ref s.heap.objs.size)) {s with heap:=h',toks:=tk}):
 be1 (bf9 prog w) A (pyNext (.ref z)) Q E s:=by
 have hT:s.TypeIs (.ref z) "zip":=⟨_,z0,rfl⟩
 unfold pyNext;refine ba0 (bu3 (bi8 (name:=br2 "__next__") hT br6 (bg4 br6 hT b20 ?_ (b00 _))));exact ktu Z D1 D2 z0 z1 z2 st1 st2 l1 l2 fun h' x y tk a1 a2 a3 a4 a5 a6 a7 a8=>ba9 (q h' x y tk a1 a2 a3 a4 a5 a6 a7 a8)
def kju{Q:Option ba6->ba7->Prop}(Z:ZAp z TI TO i1 i2 f1 f2)(D1:Draws prog w A.in1 i1 f1 n1 P1 S1)(D2:Draws prog w A.in1 i2 f2 n2 P2 S2)(z0:IsZip s.heap z TI TO .none)(z1:IsPair s.heap TI (.ref i1) (.ref i2))(z2:IsPair s.heap TO a b)
 (st1:S1 k1 s.heap)(st2:S2 k2 s.heap)(l1:k1=n1\/(k1<n1/\k2=n2))
 (q: ∀h' tk,(∀ c o,c≠z->c≠TO->c≠i1->c≠i2->s.heap.get? c=some o->h'.get? c=some o)->Q none {s with heap:=h',toks:=tk}):be1 (bf9 prog w) A (pyNext (.ref z)) Q E s:=by
 have hT:s.TypeIs (.ref z) "zip":=⟨_,z0,rfl⟩
 unfold pyNext;refine ba0 (bu3 (bi8 (name:=br2 "__next__") hT br6 (bg4 br6 hT b20 (kym Z D1 D2 z0 z1 z2 st1 st2 l1 fun h' tk e hk he=>?_) (b00 _))));obtain⟨o,ho,hc⟩:=he;refine ba0 (bs4 (T:="StopIteration") (b:=true) ⟨o,ho,hc⟩ cb9 ?_);exact ba9 (q _ _ hk)
end
abbrev SqB(b:Bool)(H:Hp)(a:Addr)(xs:List V):Prop:=H a=some (if b=true then .lst xs else .tup xs)
def SqB.inj{b:Bool}{H:Hp}{a:Addr}{xs ys:List V}(h:SqB b H a xs)(h':SqB b H a ys):xs=ys:=by
 unfold SqB at h h';rw[h]at h';cases b
 .simpa using h'
 .simpa using h'
abbrev IterB(b:Bool)(h:Heap)(it a:Addr)(k:Nat):Prop:=if b=true then h.IsListIter it a k else h.IsTupleIter it a k
def IterB.at{b:Bool}{h h':Heap}{it a:Addr}{k:Nat}(x:IterB b h it a k)(e: ∀o,h.get? it=some o->h'.get? it=some o):IterB b h' it a k:=by
 unfold IterB at x⊢;cases b
 .rw[zN bb6]at x⊢;exact Heap.IsTupleIter.at x e
 .rw[zP rfl]at x⊢;exact Heap.IsListIter.at x e
def IterB.obj{b:Bool}{h:Heap}{it a:Addr}{k:Nat}(x:IterB b h it a k): ∃o,h.get? it=some o/\∀v,o.data≠ .cell v:=by
 unfold IterB at x;cases b
 .rw[zN bb6]at x;obtain⟨o,e,c,d⟩:=x;exact⟨o,e,fun v z=>by rw[d]at z;cases z⟩
 .rw[zP rfl]at x;obtain⟨o,e,c,d⟩:=x;exact⟨o,e,fun v z=>by rw[d]at z;cases z⟩
abbrev khh(b:Bool)(h:Heap)(a:Addr)(its:Array ba6):Prop:=if b=true then h.IsList a its else h.IsTuple a its
def kl1{prog:bb9}{w:be5}{A:bg1}(b:Bool)(hh:A.handled=none)(it a:Addr)(hne:a≠it)(its:Array ba6):Draws prog w A it [it,a] its.size (fun i v=>its[i]?=some v) (fun i h=>IterB b h it a i/\khh b h a its):=by
 cases b
 .have:=k2k (prog:=prog) (w:=w) (A:=A) hh it a hne its;exact this
 .have:=Draws.list (prog:=prog) (w:=w) (A:=A) hh it a hne its;exact this
section
variable{X:Cx}{pI:List (Addr×Obj)}{σ:St}{H:Hp}{s:ba7}
def Inv.itemsB{b:Bool}{a:Addr}{xs:List V}(I:Inv X pI σ H s)(h:SqB b H a xs): ∃its:List ba6,Vals xs its/\khh b s.heap a its.toArray/\xs.length<=sizeLine:=by
 unfold SqB at h;unfold khh;cases b
 .simp only[bj1,if_false]at h⊢;obtain⟨its,r,p,hz⟩:=I.tuple (SqT.of (K:=X.K) h);exact⟨its,r,p,hz⟩
 .simp only[if_true]at h⊢;obtain⟨its,r,p,hz⟩:=I.list (SqL.of (K:=X.K) h);exact⟨its,r,p.isList,hz⟩
def Inv.turnedL{fp:List Addr}{p:Addr}{xs:List V}{its:List ba6}{h':Heap}{t':Nat}(I:Inv X pI σ H s)(hf: ∀b∈fp,kng X pI H b)(hk: ∀b o,b ∉ fp->s.heap.get? b=some o->h'.get? b=some o)(hp:p=s.heap.objs.size)
 (hz:xs.length<=sizeLine)(r:Vals xs its)(ht:IsTup h' p its.toArray)(nd:NoD h' p)(hfl: ∀b∈fp,b<s.heap.objs.size):Inv X pI σ (upd H p (.tup xs)) {s with heap:=h',toks:=t'}:=by
 subst hp;have hn:H s.heap.objs.size=none:=I.hok.fresh (bb7 _);have nf: ∀b o,H b=some o->b ∉ fp:=fun b o e z=>by rw[(hf b z).1]at e;cases e
 refine I.call (ch:=fp) (g':=s.gens) (d':=s.drawn) ⟨fun b o e n O hc=>hk b o hc e,fun b o e n O hc=>⟨o.slots,hk b o hc e⟩,fun b o e n O=>?_,fun b o e hc=>⟨o,hk b o hc e⟩,fun b ys e=>?_,fun b o u e=>?_,fun b ps e=>⟨#[],?_⟩⟩ (fun b o e=>?_) I.bare fun b hb=>?_
 .rw[kar (bf5 (bd0 e))];exact n
 .rw[kar (kan e hn)];exact e
 .rw[kar (kan e hn)];exact e
 .rw[kar (kan e hn),e];simp
 .by_cases hb:b=s.heap.objs.size
  .subst hb;rw[kak]at e;cases e;exact⟨⟨nd,hz⟩,its,r,ht⟩
  .rw[kar hb]at e;refine(I.hok b o e).stay (fun c u hc q=>hk c u ?_ q) (fun c q=>by rw[kar (kan q hn)];exact q) fun c ys q=>by rw[kar (kan q hn)];exact q
   rcases hc with rfl|hc
   .exact nf _ _ e
   .exact nf _ _ hc
 .obtain⟨f0,f1,f2,f3,f4,f5⟩:=hf b hb;exact⟨f3,f1,f4,f5⟩
def Inv.turnedN{fp:List Addr}{h':Heap}{t':Nat}(I:Inv X pI σ H s)(hf: ∀b∈fp,kng X pI H b)(hk: ∀b o,b ∉ fp->s.heap.get? b=some o->h'.get? b=some o):Inv X pI σ H {s with heap:=h',toks:=t'}:=by
 have nf: ∀b o,H b=some o->b ∉ fp:=fun b o e z=>by rw[(hf b z).1]at e;cases e
 refine I.call (ch:=fp) (g':=s.gens) (d':=s.drawn) ⟨fun b o e n O hc=>hk b o hc e,fun b o e n O hc=>⟨o.slots,hk b o hc e⟩,fun b o e n O=>n,fun b o e hc=>⟨o,hk b o hc e⟩,fun b ys e=>e,fun b o u e=>e,fun b ps e=>⟨#[],?_⟩⟩ (fun b o e=>?_) I.bare fun b hb=>?_
 .rw[e];simp
 .refine(I.hok b o e).stay (fun c u hc q=>hk c u ?_ q) (fun c q=>q) fun c ys q=>q;rcases hc with rfl|hc
  .exact nf _ _ e
  .exact nf _ _ hc
 .obtain⟨f0,f1,f2,f3,f4,f5⟩:=hf b hb;exact⟨f3,f1,f4,f5⟩
end
abbrev Itz(b1:Bool)(a1:Addr)(b2:Bool)(a2:Addr):It where
 go:=fun i H=>∃xs ys,SqB b1 H a1 xs/\SqB b2 H a2 ys/\i<xs.length/\i<ys.length
 yld:=fun i H v H'=>∃p x y,v= .ref p/\H p=none/\H'=upd H p (.tup [x,y])/\(∀ xs,SqB b1 H a1 xs->xs[i]?=some x)/\(∀ ys,SqB b2 H a2 ys->ys[i]?=some y)
 stop:=fun i H=>∃xs ys,SqB b1 H a1 xs/\SqB b2 H a2 ys/\i=min xs.length ys.length
section
variable{a b c d e:Addr}
def mz1:a∈[a,b,c,d,e]:= .head _
def mz2:b∈[a,b,c,d,e]:= .tail _ (.head _)
def mz3:c∈[a,b,c,d,e]:= .tail _ (.tail _ (.head _))
def mz4:d∈[a,b,c,d,e]:= .tail _ (.tail _ (.tail _ (.head _)))
def mz5:e∈[a,b,c,d,e]:= .tail _ (.tail _ (.tail _ (.tail _ (.head _))))
def five{P:Addr->Prop}(h1:P a)(h2:P b)(h3:P c)(h4:P d)(h5:P e): ∀x∈[a,b,c,d,e],P x
 | _,.head _=>h1
 | _,.tail _ (.head _)=>h2
 | _,.tail _ (.tail _ (.head _))=>h3
 | _,.tail _ (.tail _ (.tail _ (.head _)))=>h4
 | _,.tail _ (.tail _ (.tail _ (.tail _ (.head _))))=>h5
def khi(h1:c≠a)(h2:b≠c):c ∉ [a,b]
 | .head _=>h1 rfl
 | .tail _ (.head _)=>h2 rfl
def knr{α:Type}{l:List α}{i:Nat}(h:i<l.length):l[i]?=some l[i]:=ba4 h
end
def kwd{a1 a2 z TI TO i1 i2:Addr}(h1:TI≠z)(h2:TO≠z)(h3:TI≠TO)(h4:TI≠i1)(h5:TI≠i2)(h6:TO≠i1)(h7:TO≠i2)(h8:z≠i1)(h9:z≠i2)(h10:i1≠i2)(n1: ∀b∈[z,TI,TO,i1,i2],a1≠b)(n2: ∀b∈[z,TI,TO,i1,i2],a2≠b):ZAp z TI TO i1 i2 [i1,a1] [i2,a2]:=
 ⟨h1,h2,h3,h4,h5,h6,h7,h8,h9,khi h8 (n1 z mz1),khi h9 (n2 z mz1),khi h6 (n1 TO mz3),khi h7 (n2 TO mz3),khi h10.symm (n1 i2 mz5),khi h10 (n2 i1 mz4)⟩
def ktw{P:bb9}{w:be5}{K:ba2}{elts:List Expr}{kk:Nat}{tpos:Pos}(b1 b2:Bool)(a1 a2 z TI TO i1 i2:Addr)(h1:TI≠z)(h2:TO≠z)(h3:TI≠TO)(h4:TI≠i1)(h5:TI≠i2)(h6:TO≠i1)(h7:TO≠i2)(h8:z≠i1)(h9:z≠i2)(h10:i1≠i2):
 Turn P w K (.Tuple elts kk tpos) (Itz b1 a1 b2 a2) [z,TI,TO,i1,i2] z (fun i h=>IsZip h z TI TO .none/\IsPair h TI (.ref i1) (.ref i2)/\(∃ a b,IsPair h TO a b)/\IterB b1 h i1 a1 i/\IterB b2 h i2 a2 i) where
 mem:=mz1
 obj:=fun i h ⟨s1,s2,⟨x,y,s3⟩,s4,s5⟩=>five ⟨_,s1,fun O q=>nomatch q⟩ ⟨_,s2,fun O q=>nomatch q⟩ ⟨_,s3,fun O q=>nomatch q⟩ s4.obj s5.obj
 keep:=fun i h h' ⟨s1,s2,⟨x,y,s3⟩,s4,s5⟩ k=>⟨k z mz1 _ s1,k TI mz2 _ s2,⟨x,y,k TO mz3 _ s3⟩,s4.at fun o e=>k i1 mz4 o e,s5.at fun o e=>k i2 mz5 o e⟩
 item:=by
  intro X hP hw hK hc i pI s σ H E I hf ⟨s1,s2,⟨x0,y0,s3⟩,s4,s5⟩ hg;subst hP hw hK;obtain⟨xs,ys,q1,q2,l1,l2⟩:=hg;obtain⟨its1,r1,p1,z1⟩:=I.itemsB q1;obtain⟨its2,r2,p2,z2⟩:=I.itemsB q2;have nf: ∀b∈[z,TI,TO,i1,i2],∀o,H b≠some o:=fun b hb o e=>by rw[(hf b hb).1]at e;cases e
  have n1: ∀b∈[z,TI,TO,i1,i2],a1≠b:=fun b hb e=>by subst e;exact nf _ hb _ q1
  have n2: ∀b∈[z,TI,TO,i1,i2],a2≠b:=fun b hb e=>by subst e;exact nf _ hb _ q2
  have hh:X.A.in1.handled=none:=I.ok.hd hc;have D1:=kl1 (prog:=X.prog) (w:=X.w) b1 hh i1 a1 (n1 i1 mz4) its1.toArray;have D2:=kl1 (prog:=X.prog) (w:=X.w) b2 hh i2 a2 (n2 i2 mz5) its2.toArray;have Z:ZAp z TI TO i1 i2 [i1,a1] [i2,a2]:=kwd h1 h2 h3 h4 h5 h6 h7 h8 h9 h10 n1 n2;have e1:=r1.length;have e2:=r2.length;refine ktv Z D1 D2 s1 s2 s3 (k1:=i) (k2:=i) ⟨s4,p1⟩ ⟨s5,p2⟩ (by simp;lia) (by simp;lia) fun h' x y tk px py g1 g2 g3 g4 g5 g6=>?_;refine⟨_,rfl,wpAny_letOwnedTupleGo_zip (s:={s with heap:=h',toks:=tk}) g1 fun h2' w1 w2=>?_⟩
  replace w2:bn0 z h' h2':=w2
  obtain⟨o4,lt4,_⟩:=s4.obj;obtain⟨o5,lt5,_⟩:=s5.obj;have lt: ∀b∈[z,TI,TO,i1,i2],b<s.heap.objs.size:=five (bd0 s1) (bd0 s2) (bd0 s3) (bd0 lt4) (bd0 lt5);obtain⟨vx,hvx,rvx⟩: ∃vx,xs[i]?=some vx/\RelV vx x:=by
   obtain⟨u,hu,ru⟩:=r1.get (i:=i) (x:=xs[i]) (knr l1);have px:its1[i]?=some x:=(by simpa using px)
   rw[px]at hu;cases hu;exact⟨_,knr l1,ru⟩
  obtain⟨vy,hvy,rvy⟩: ∃vy,ys[i]?=some vy/\RelV vy y:=by
   obtain⟨u,hu,ru⟩:=r2.get (i:=i) (x:=ys[i]) (knr l2);have py:its2[i]?=some y:=(by simpa using py)
   rw[py]at hu;cases hu;exact⟨_,knr l2,ru⟩
  have zl:s.heap.objs.size≠z:=bv7 (lt z mz1);have tup2:h2'.get? s.heap.objs.size=some {cls:= .type "tuple",data:= .seq #[x,y]}:=w2.extBut _ _ zl g5;refine⟨.ref s.heap.objs.size,upd H s.heap.objs.size (.tup [vx,vy]),?_,rfl,⟨_,vx,vy,rfl,I.hok.fresh (bb7 _),rfl,fun xs' h=>?_,fun ys' h=>?_⟩,⟨w1,?_,⟨x,y,w2.extBut _ _ h2 g2⟩,?_,?_⟩,fun b hb=>?_⟩
  .refine Inv.turnedL (s:=s) (h':=h2') (t':=tk) (fp:=[z,TI,TO,i1,i2]) (its:=[x,y]) I hf (fun b o hb e=>?_) rfl (by show 2<=sizeLine;decide) (.cons rvx (.cons rvy .nil)) ⟨_,tup2,rfl,_,rfl⟩ ⟨_,tup2,rfl⟩ lt;simp only[bc6,bg9,or_false,not_or]at hb;exact w2.extBut _ _ hb.1 (g6 b o hb.1 hb.2.2.1 hb.2.2.2.1 hb.2.2.2.2 e)
  .rw[h.inj q1];exact hvx
  .rw[h.inj q2];exact hvy
  .exact w2.extBut _ _ h1 (g6 TI _ h1 h3 h4 h5 s2)
  .exact g3.1.at fun o e=>w2.extBut _ _ h8.symm e
  .exact g4.1.at fun o e=>w2.extBut _ _ h9.symm e
  .rw[kar (bf5 (lt b hb))];exact(hf b hb).1
 done:=by
  intro X hP hw hK hc i pI s σ H E I hf ⟨s1,s2,⟨x0,y0,s3⟩,s4,s5⟩ hg;subst hP hw hK;obtain⟨xs,ys,q1,q2,hi⟩:=hg;obtain⟨its1,r1,p1,z1⟩:=I.itemsB q1;obtain⟨its2,r2,p2,z2⟩:=I.itemsB q2;have nf: ∀b∈[z,TI,TO,i1,i2],∀o,H b≠some o:=fun b hb o e=>by rw[(hf b hb).1]at e;cases e
  have n1: ∀b∈[z,TI,TO,i1,i2],a1≠b:=fun b hb e=>by subst e;exact nf _ hb _ q1
  have n2: ∀b∈[z,TI,TO,i1,i2],a2≠b:=fun b hb e=>by subst e;exact nf _ hb _ q2
  have hh:X.A.in1.handled=none:=I.ok.hd hc;have D1:=kl1 (prog:=X.prog) (w:=X.w) b1 hh i1 a1 (n1 i1 mz4) its1.toArray;have D2:=kl1 (prog:=X.prog) (w:=X.w) b2 hh i2 a2 (n2 i2 mz5) its2.toArray;have Z:ZAp z TI TO i1 i2 [i1,a1] [i2,a2]:=kwd h1 h2 h3 h4 h5 h6 h7 h8 h9 h10 n1 n2;have e1:=r1.length;have e2:=r2.length;refine kju Z D1 D2 s1 s2 s3 (k1:=i) (k2:=i) ⟨s4,p1⟩ ⟨s5,p2⟩ (by simp;lia) fun h' tk g6=>⟨rfl,?_⟩
  refine Inv.turnedN (fp:=[z,TI,TO,i1,i2]) I hf fun b o hb e=>?_;simp only[bc6,bg9,or_false,not_or]at hb;exact g6 b o hb.1 hb.2.2.1 hb.2.2.2.1 hb.2.2.2.2 e
 self:=fun O O O O O st h=>b96 st.1 h
@[reducible]def ztH1(h:Heap)(l1:Addr):Heap:=h.push {cls:= .type "tuple_iterator",data:= .fields #[.ref l1,.int 0 0]}
@[reducible]def ztH2(h:Heap)(l1 l2:Addr):Heap:=(ztH1 h l1).push {cls:= .type "tuple_iterator",data:= .fields #[.ref l2,.int 0 0]}
@[reducible]def ztH3(h:Heap)(l1 l2:Addr):Heap:=(ztH2 h l1 l2).push {cls:= .type "tuple",data:= .seq #[.ref h.objs.size,.ref (ztH1 h l1).objs.size]}
@[reducible]def ztH4(h:Heap)(l1 l2:Addr):Heap:=(ztH3 h l1 l2).push {cls:= .type "tuple",data:= .seq #[.none,.none]}
@[reducible]def k0z(h:Heap)(l1 l2:Addr):Heap:=(ztH4 h l1 l2).push {cls:= .type "zip",data:= .fields #[.none,.bool false,.bool false,.ref (ztH2 h l1 l2).objs.size,.ref (ztH3 h l1 l2).objs.size]}
def ktx(l1 l2:Addr)(xs ys:Array ba6):
 Meets (Builtin.«zip.__new__» ⟨[.type "zip",.ref l1,.ref l2],[]⟩) (fun O R s=>s.heap.IsTuple l1 xs/\s.heap.IsTuple l2 ys/\
  R (.ok (.ret (.ref (ztH4 s.heap l1 l2).objs.size))) {s with heap:=k0z s.heap l1 l2}):=
 .of_wp fun prog w A R s h=>by
  obtain⟨hp,g,d,tk,os⟩:=s;obtain⟨hl1,hl2,h⟩:=h;have hsub:=sub_zip;have hL1:cn9 (cp1 ⟨hp,g,d,tk,os⟩) l1 xs:=hl1;have hL2:cn9 (cp1 ⟨hp.push {cls:= .type "tuple_iterator",data:= .fields #[.ref l1,.int 0 0]},g,d,tk,os⟩) l2 ys:=by
   obtain⟨o,e,c⟩:=hl2;exact⟨o,ba5 _ e,c⟩
  wp_walk using b49 hL1,b49 hL2
  exact⟨_,rfl,h⟩
section
variable{prog:bb9}{w:be5}{A:bg1}{E:ba6->ba7->Prop}{s:ba7}
def kpl{b:Bool}{l1 l2:Addr}{xs ys:Array ba6}{Q:ba6->ba7->Prop}(hl1:khh b s.heap l1 xs)(hl2:khh b s.heap l2 ys)
 (h: ∀h',IsZip h' (s.heap.objs.size+4) (s.heap.objs.size+2) (s.heap.objs.size+3) .none->IsPair h' (s.heap.objs.size+2) (.ref s.heap.objs.size) (.ref (s.heap.objs.size+1))->
   IsPair h' (s.heap.objs.size+3) .none .none->IterB b h' s.heap.objs.size l1 0->IterB b h' (s.heap.objs.size+1) l2 0->
   (∀ c o,s.heap.get? c=some o->h'.get? c=some o)->Q (.ref (s.heap.objs.size+4)) {s with heap:=h'}):
 be1 (bf9 prog w) A (call (.type "zip") [.ref l1,.ref l2]) Q E s:=by
 unfold khh at hl1 hl2;unfold IterB at h;cases b
 .rw[zN bb6]at hl1 hl2;simp only[bj1,if_false]at h;refine callType_new F.called_zip (by decide) (F.typeCall_zip_2 _ _) (F.newCall_zip_2 _ _) (fun obj=>F.args_object_init_3 obj _ _) F.entry_zip_new (ktx l1 l2 xs ys) ⟨hl1,hl2,?_⟩;have z1:(ztH1 s.heap l1).objs.size=s.heap.objs.size+1:=bn7 ..;have z2:(ztH2 s.heap l1 l2).objs.size=s.heap.objs.size+2:=by rw[bn7,z1]
  have z3:(ztH3 s.heap l1 l2).objs.size=s.heap.objs.size+3:=by rw[bn7,z2]
  have z4:(ztH4 s.heap l1 l2).objs.size=s.heap.objs.size+4:=by rw[bn7,z3]
  have g5:(k0z s.heap l1 l2).get? (ztH4 s.heap l1 l2).objs.size=some _:=bc7 _ rfl;have g4:(k0z s.heap l1 l2).get? (ztH3 s.heap l1 l2).objs.size=some _:=ba5 _ (bc7 _ rfl);have g3:(k0z s.heap l1 l2).get? (ztH2 s.heap l1 l2).objs.size=some _:=ba5 _ (ba5 _ (bc7 _ rfl));have g2:(k0z s.heap l1 l2).get? (ztH1 s.heap l1).objs.size=some _:=ba5 _ (ba5 _ (ba5 _ (bc7 _ rfl)));have g1:(k0z s.heap l1 l2).get? s.heap.objs.size=some _:=ba5 _ (ba5 _ (ba5 _ (ba5 _ (bc7 _ rfl))));show _/\_;rw[z2,z3,z4]at g5;rw[z1,z2]at g3;rw[z3]at g4;rw[z1]at g2;rw[z4];exact⟨⟨_,g5,rfl⟩,h _ g5 g3 g4 ⟨_,g1,rfl,rfl⟩ ⟨_,g2,rfl,rfl⟩ fun c o x=>
   ba5 _ (ba5 _ (ba5 _ (ba5 _ (ba5 _ x))))⟩
 .rw[zP rfl]at hl1 hl2;simp only[if_true]at h;exact call_zip_2 hl1 hl2 fun h' a b c d e O g=>h h' a b c d e g
end
def apN(n:Nat):n+2≠n+4/\n+3≠n+4/\n+2≠n+3/\n+2≠n/\n+2≠n+1/\n+3≠n/\n+3≠n+1/\n+4≠n/\n+4≠n+1/\n≠n+1:=by lia
def leN{n c:Nat}(h:c=n+4\/c=n+2\/c=n+3\/c=n\/c=n+1):n<=c:=by lia
section
variable{X:Cx}{elts:List Expr}{kk:Nat}{tpos:Pos}
abbrev iZip(ta:TA):TI:=fun σ H R=>ta σ H fun vs H2=>∃b a1 a2 xs ys,vs=[.ref a1,.ref a2]/\SqB b H2 a1 xs/\SqB b H2 a2 ys/\(xs.length<=sizeLine->R (Itz b a1 b a2) H2)
def k2l{a b:Expr}{ta:TA}{p pos:Pos}(hg:Gl X "zip")(hm:X.mg "zip"=none)(ha:PA X [a,b] ta)(hs:autoParam (bc5 [a,b] X.env=[(false,eval a X.env),(false,eval b X.env)]) Z4)(hs2:autoParam (bc5 [b] X.env=[(false,eval b X.env)]) Z4):
 PI X (.Tuple elts kk tpos) (.Call (.Name "zip" p) [a,b] [] pos) (iZip ta):=by
 intro pI s σ H R I h;refine Call_ (kdi I hg hm boot_zip (bh4 (thn (ha pos pI s σ H _ I h) fun us s1 ⟨vs,H1,I1,r1,q1⟩=>?_) (by rw[hs,hs2]) (by rw[hs2];rfl)));obtain⟨b,a1,a2,xs,ys,e,h1,h2,q⟩:=q1;subst e;cases r1 with
 | cons ra rr=>
   cases rr with
   | cons rb rr=>
     cases rr;cases ra;cases rb;obtain⟨its1,r1,p1,z1⟩:=I1.itemsB h1;obtain⟨its2,r2,p2,z2⟩:=I1.itemsB h2;refine kpl p1 p2 fun h' g1 g2 g3 g4 g5 kp=>?_;refine b96 (s:={s1 with heap:=h'}) g1 ?_;refine⟨s1.heap.objs.size+4,[s1.heap.objs.size+4,s1.heap.objs.size+2,s1.heap.objs.size+3,s1.heap.objs.size,s1.heap.objs.size+1],_,_,H1,rfl,I1.kept (t':=s1.toks) kp,
      ktw b b a1 a2 (s1.heap.objs.size+4) (s1.heap.objs.size+2) (s1.heap.objs.size+3) s1.heap.objs.size (s1.heap.objs.size+1) (apN _).1 (apN _).2.1 (apN _).2.2.1 (apN _).2.2.2.1 (apN _).2.2.2.2.1 (apN _).2.2.2.2.2.1 (apN _).2.2.2.2.2.2.1 (apN _).2.2.2.2.2.2.2.1 (apN _).2.2.2.2.2.2.2.2.1 (apN _).2.2.2.2.2.2.2.2.2,⟨g1,g2,⟨_,_,g3⟩,g4,g5⟩,fun c hc=>?_,q z1⟩
     have le:s1.heap.objs.size<=c:=by
      simp only[bc6,bg9,or_false]at hc;exact leN hc
     exact I1.fpOk le (I1.hok.fresh le)
end
abbrev kns(xs ys:List bb0):List bb0:=(xs.zip ys).map fun p=> .tuple [p.1,p.2]
def kty{xs ys:List bb0}{i:Nat}{d:bb0}(h:(kns xs ys)[i]?=some d): ∃x y,xs[i]?=some x/\ys[i]?=some y/\d= .tuple [x,y]:=by
 unfold kns at h;rw[bc8]at h;obtain⟨⟨x,y⟩,hp,rfl⟩:=be2.mp h;obtain⟨h1,h2⟩:=List.getElem?_zip_eq_some.mp hp;exact⟨x,y,h1,h2,rfl⟩
def kf5(xs ys:List bb0):(kns xs ys).length=min xs.length ys.length:=by unfold kns;rw[ba3,List.length_zip]
section
variable{He:Hp}{K:ba2}{ι:Type}{Y:ι->Cx}{a b:Expr}{pos:Pos}{elts:List Expr}{kk:Nat}{tpos:Pos}
def kpm{R:Hp}{c:Bool}{a1 a2:Addr}{us ws:List V}{xs ys:List bb0}(h1:SqB c R a1 us)(h2:SqB c R a2 ws)(r1:RpAll K R us xs)(r2:RpAll K R ws ys):Yld K (Itz c a1 c a2) R (kns xs ys):=by
 have e1:=r1.len;have e2:=r2.len;refine⟨fun R1 H1 i s w hi=>?_,fun R1 H1 i d x H2 s w hd y=>?_,fun R1 H1 s w=>?_⟩
 .rw[kf5]at hi;exact⟨us,ws,(s.trans w.rh) _ _ h1,(s.trans w.rh) _ _ h2,by lia,by lia⟩
 .obtain⟨dx,dy,hx,hy,rfl⟩:=kty hd;obtain⟨p,vx,vy,rfl,hp,rfl,g1,g2⟩:=y;have z1:=g1 us ((s.trans w.rh) _ _ h1);have z2:=g2 ws ((s.trans w.rh) _ _ h2);obtain⟨d1,k1,q1⟩:=r1.get z1;obtain⟨d2,k2,q2⟩:=r2.get z2;rw[hx]at k1;cases k1;rw[hy]at k2;cases k2;have e:=Ext.new (o:= .tup [vx,vy]) w hp;exact⟨_,e,.tup kak (.cons (Rp.same (s.trans e.rr) q1) (.cons (Rp.same (s.trans e.rr) q2) .nil))⟩
 .exact⟨us,ws,(s.trans w.rh) _ _ h1,(s.trans w.rh) _ _ h2,by rw[kf5];lia⟩
abbrev xZip(ta tb:De):Dq:=fun env P=>ta env fun x=>tb env fun y=>∃xs ys,((x= .list xs/\y= .list ys)\/(x= .tuple xs/\y= .tuple ys))/\P (kns xs ys)
def k2m{ta tb:De}{p:Pos}(ha:DE He K Y a ta)(hb:DE He K Y b tb)(hm: ∀i,(Y i).mg "zip"=none)(hg:autoParam (∀ i,Gl (Y i) "zip") Z3)(hs:autoParam (∀ i,bc5 [a,b] (Y i).env=[(false,eval a (Y i).env),(false,eval b (Y i).env)]) Z3)
 (hs2:autoParam (∀ i,bc5 [b] (Y i).env=[(false,eval b (Y i).env)]) Z3):DI He K Y (.Tuple elts kk tpos) (.Call (.Name "zip" p) [a,b] [] pos) (xZip ta tb):=by
 obtain⟨te,h1,h2⟩:=ha;obtain⟨te',h3,h4⟩:=hb;refine⟨_,fun i=>k2l (hg i) (hm i) (kaq (h1 i) (kaq (h3 i) ka2 (hs2 i)) (by rw[hs i,hs2 i])) (hs i) (hs2 i),fun P Q F p k=>h2 _ _ F p fun d v R1 H1 q1 e1 r1=>h4 _ _ (F.next e1) q1 fun d2 v2 R' H' ⟨xs,ys,hc,pl⟩ ex r=>?_⟩;have r1:=Rp.same ex.rr r1;rcases hc with⟨rfl,rfl⟩|⟨rfl,rfl⟩
 .obtain⟨a1,us,rfl,g1,w1⟩:=r1.lst_inv;obtain⟨a2,ws,rfl,g2,w2⟩:=r.lst_inv;refine⟨true,a1,a2,us,ws,rfl,ex.rh _ _ g1,ex.rh _ _ g2,fun hz=>k _ _ R' H' pl (e1.trans ex) ?_ (kpm g1 g2 w1 w2)⟩;rw[kf5,<- w1.len];lia
 .obtain⟨a1,us,rfl,g1,w1⟩:=r1.tup_inv;obtain⟨a2,ws,rfl,g2,w2⟩:=r.tup_inv;refine⟨false,a1,a2,us,ws,rfl,ex.rh _ _ g1,ex.rh _ _ g2,fun hz=>k _ _ R' H' pl (e1.trans ex) ?_ (kpm g1 g2 w1 w2)⟩;rw[kf5,<- w1.len];lia
end
def kyn(bs:List Bool):((ba8 bs.length).all fun i=>(bs[i]?).getD true)=bs.all id:=by
 rw[bh5,bi0,bi0];constructor
 .intro h b hb;obtain⟨i,hi,e⟩:=bf3 hb;have:=h i (bb2.mpr hi);simp only[ba4 hi,bu6,e]at this;exact this
 .intro h i hi;have hi':=bb2.mp hi;simp only[ba4 hi',bu6];exact h _ (bf1 hi')
section
variable{X:Cx}
def kyo{bs:List Bool}{its:List ba6}{i:Nat}{v:ba6}(r:Vals (bs.map V.bl) its)(h:its[i]?=some v): ∃b,bs[i]?=some b/\v= .bool b:=by
 have hl:=r.length;rw[ba3]at hl;have hi:i<its.length:=(bb3.mp h).1;obtain⟨u,hu,ru⟩:=r.get (i:=i) (x:=V.bl (bs[i]'(by lia))) (by simp[show i<bs.length by lia]);rw[h]at hu;cases hu;exact⟨_,by simp[show i<bs.length by lia],ru⟩
def ktz(K:ba2)(hc:X.calm=true)(hK:X.K=K):kdk X (.builtin "all") (fun xs H Q=>∃(p:Addr)(bs:List Bool),xs=[.ref p]/\SqL K H p (bs.map V.bl)/\Q (.bl (bs.all id)) H):=by
 subst hK;intro pI s σ H xs us Q I r h;obtain⟨p,bs,rfl,hq,q⟩:=h;obtain⟨u,rfl,rx⟩:=kef r;cases rx;obtain⟨its,rv,pl,hz⟩:=I.list hq;have hl:=pl.isList;have hlt:p<s.heap.objs.size:=by obtain⟨_,e,_⟩:=hl;exact bd0 e
 have hh:X.A.in1.handled=none:=I.ok.hd hc;refine call_all_walk (b73 hl ?_);refine⟨s.heap.objs.size,[s.heap.objs.size,p],[s.heap.objs.size],its.toArray.size,_,_,fun i=>(bs[i]?).getD true,rfl,cp5 (A:=X.A.in1) hh _ p (bf5 hlt) its.toArray,
  ⟨⟨_,bc7 _ rfl,rfl,rfl⟩,hl.push _⟩,fun i v s' Q' E' hP hQ=>?_,fun h' tk hk=>?_⟩
 .obtain⟨b,e,rfl⟩:=kyo rv (i:=i) (v:=v) (by simpa using hP);simp only[e,bu6]at hQ;exact bo0 hQ
 .have e:((ba8 its.toArray.size).all fun i=>(bs[i]?).getD true)=bs.all id:=by
   rw[bd6,<- rv.length,ba3];exact kyn bs
  rw[e];have kp: ∀b o,s.heap.get? b=some o->h'.get? b=some o:=fun b x e=>hk b x (fun hm=>by rw[bc4.mp hm]at e;exact bk7 _ (bd0 e)) (ba5 _ e);exact⟨.bl _,H,I.kept kp,rfl,q⟩
end
section
variable{He:Hp}{K:ba2}{ι:Type}{Y:ι->Cx}{e a b:Expr}{pos:Pos}
def k2n:bootBuiltins "all"=some (.builtin "all"):=by decide +kernel
abbrev xAll(t:Dq):De:=fun env P=>t env fun l=>∃bs:List Bool,l=bs.map cc3/\P (.bool (bs.all id))
def kpn{t:Dq}{p:Pos}(h:DL He K Y a t)(hm: ∀i,(Y i).mg "all"=none)(hc:autoParam (∀ i,(Y i).calm=true) Z3)(hg:autoParam (∀ i,Gl (Y i) "all") Z3)(hK:autoParam (∀ i,(Y i).K=K) Z3)(hs:autoParam (∀ i,bc5 [a] (Y i).env=[(false,eval a (Y i).env)]) Z3):
 DE He K Y (.Call (.Name "all" p) [a] [] pos) (xAll t):=by
 obtain⟨te,h1,h2⟩:=h;refine⟨_,fun i=>kcw (ktz K (hc i) (hK i)) (hg i) (hm i) k2n (kaq (h1 i) ka2 (hs i)) (by decide) (by decide) (hs i),fun P Q F p k=>h2 _ _ F p fun l x ys R1 H1 ⟨bs,hb,q1⟩ e1 s1 r1=>?_⟩;subst hb;rw[RpAll.bools_inv r1]at s1;exact⟨x,bs,rfl,SqL.of s1,k _ _ R1 H1 q1 e1 (.bl _)⟩
end
section
variable{X:Cx}
def kpo(K:ba2)(hu:X.A.units+10<cLine)(h:autoParam (X.K=K) Z4):OpR X (bh0 .NotIn) (fun x y H Q=>∃p xs ds dx,y= .ref p/\(SqL K H p xs\/SqT K H p xs)/\RpAll K H xs ds/\Rp K H x dx/\bd7 ds=true/\dx.canLay0=true/\dx.depth<=9/\Q (.bl (!(ds.any fun d=>bg3 d dx))) H):=by
 subst h;intro pI s σ H x y v u Q I rx ry h;obtain⟨p,xs,ds,dx,rfl,hq,ha,hx,l1,l2,hd,q⟩:=h;cases ry;obtain⟨as,ra⟩:=I.reads hx rx l2;have hu1:X.A.in1.units+dx.depth<cLine:=by show X.A.units+1+dx.depth<cLine;lia
 rcases hq with hq|hq
 .obtain⟨its,r,pl,hz⟩:=I.list hq;obtain⟨bs,rb⟩:=I.readsAll ha r l1;refine SeqAt.notIn_listAt (eqR s.heap dx) pl.isList (fun w hw=>kgh ra l2 hu1 rb l1 w (by simpa using hw)) ⟨.bl _,H,I,rfl,?_⟩;rw[show its.toArray.any (eqR s.heap dx)=its.any (eqR s.heap dx) by simp,kgg rb l1];exact q
 .obtain⟨its,r,pl,hz⟩:=I.tuple hq;obtain⟨bs,rb⟩:=I.readsAll ha r l1;refine SeqAt.notIn_tupleAt (eqR s.heap dx) pl (fun w hw=>kgh ra l2 hu1 rb l1 w (by simpa using hw)) ⟨.bl _,H,I,rfl,?_⟩;rw[show its.toArray.any (eqR s.heap dx)=its.any (eqR s.heap dx) by simp,kgg rb l1];exact q
end
section
variable{He:Hp}{K:ba2}{ι:Type}{Y:ι->Cx}{e a b c:Expr}{es:List Expr}{pos:Pos}{lo hi:Option Expr}
abbrev kkq:bb0->bb0->(bb0->Prop)->Prop:=fun x y P=>∃l,ko7 y=some l/\bd7 l=true/\okD x/\khx x/\P (.bool (!(l.any fun d=>bg3 d x)))
def kh0(hu: ∀i,(Y i).A.units+10<cLine)(hK:autoParam (∀ i,(Y i).K=K) Z3):OD K Y (bh0 .NotIn) kkq:=by
 refine⟨_,fun i=>kpo K (hu i) (hK i),fun P Q r1 r2 p k=>?_⟩;obtain⟨l,h1,h2,h3,h4,p⟩:=p;obtain⟨a,ys,rfl,h5,h6⟩:=kgj r2 h1;exact⟨a,ys,l,_,rfl,h5,h6,r1,h2,h3,h4,k _ _ p (ko9 _)⟩
@[reducible]def Dp:=List Dt->(Option Int->Prop)->Prop
abbrev DP(He:Hp)(K:ba2){ι:Type}(Y:ι->Cx)(e:Option Expr)(t:Dp):Prop:=∃te:TO,(∀ i,PO (Y i) e te)/\∀{H0 R H:Hp}{σ:St}{env:List Dt}(P:Option Int->Prop)(Q:Option Int->Hp->Prop),Fra He K H0 R H σ env->t env P->
 (∀ o R' H',P o->Ext R H R' H'->Q o H')->te σ H Q
abbrev xPn:Dp:=fun O P=>P none
abbrev xPs(t:De):Dp:=fun env P=>t env fun d=>∃i,d= .int i/\P (some i)
def kkr:DP He K Y none xPn:=⟨_,fun O=>kow,fun P Q F p k=>k none _ _ p (.refl F.wd)⟩
def kks{t:De}(h:DB He K Y e t):DP He K Y (some e) (xPs t):=by
 obtain⟨te,h1,h2⟩:=h;refine⟨_,fun i=>kox (h1 i),fun P Q F p k=>h2 _ _ F p fun d v R' H' ⟨i,hi,q⟩ ex r=>?_⟩;subst hi;exact⟨i,r.int_inv,k _ R' H' q ex⟩
abbrev kyp(xs:List bb0)(lo hi:Option Int):List bb0:=(xs.drop (HT.sIx xs.length 0 lo)).take (HT.sIx xs.length xs.length hi-HT.sIx xs.length 0 lo)
def RpAll.cut{R:Hp}{ys:List V}{l:List bb0}(r:RpAll K R ys l)(lo hi:Option Int):RpAll K R (koy ys lo hi) (kyp l lo hi):=by
 unfold koy kyp;rw[r.len];exact RpAll.take _ (RpAll.drop _ r)
def kt0{X:Cx}(K:ba2)(h:autoParam (X.K=K) Z4):SlR X (rSlL K):=h▸kx0
def kyq{X:Cx}(K:ba2)(h:autoParam (X.K=K) Z4):SlR X (rSlT K):=h▸k10
abbrev kpp(t:Dq)(tl th:Dp):Dq:=fun env P=>t env fun xs=>tl env fun l=>th env fun h=>P (kyp xs l h)
def kh1{t:Dq}{tl th:Dp}{p2:Pos}(h:DL He K Y e t)(hl:DP He K Y lo tl)(hh:DP He K Y hi th)(hK:autoParam (∀ i,(Y i).K=K) Z3):DO He K Y (.Subscript e (.Slice lo hi none p2) pos) (kpp t tl th):=by
 obtain⟨te,h1,h2⟩:=h;obtain⟨tl',l1,l2⟩:=hl;obtain⟨th',u1,u2⟩:=hh;refine⟨_,fun i=>klo (kt0 K (hK i)) (h1 i) (l1 i) (u1 i),fun P Q F p k=>?_⟩;refine h2 _ _ F p fun l a ys R1 H1 q1 e1 s1 r1=>?_;refine l2 _ _ (F.next e1) q1 fun ol R2 H2 q2 e2=>?_;refine u2 _ _ (F.next (e1.trans e2)) q2 fun oh R3 H3 q3 e3=>?_;have ee:=e1.trans (e2.trans e3);refine⟨a,ys,rfl,SqL.of ((e2.trans e3).hh _ _ s1),fun p hp=>?_⟩;have e4:=Ext.newO (o:= .lst (koy ys ol oh)) ee.wd hp trivial;exact k _ _ _ _ _ q3 (ee.trans e4) (ee.hh.free hp) kak (ee.wd.rh.free hp) (RpAll.cut (RpAll.same (e2.trans e3).rr r1) ol oh)
def RpAll.erase{R:Hp}: ∀{vs:List V}{ds:List bb0}(j:Nat),RpAll K R vs ds->RpAll K R (vs.eraseIdx j) (ds.eraseIdx j)
 | _,_,_,.nil=> .nil
 | _,_,0,.cons _ t=>t
 | _,_,j+1,.cons x t=> .cons x (RpAll.erase j t)
def kyr{X:Cx}{o:Expr}{to:TE}{name:Str}{apos cpos:Pos}{T id:String}{r:V->List V->Hp->VK->Prop}(K:ba2)(hK:X.K=K)(pa:PlainAttrs T)(slot:Slot T name id)(hty:typeOf (.builtin id)=pure (.type "method_descriptor"))(hm:MtR X id r)(ho:PE X o to)
 (hbase:bm8 o name X.env (eval o X.env)=eval o X.env)(hline:(apos.endLine==cpos.line)=true):PE X (.Call (.Attribute o name apos) [] [] cpos) (tBM0 K T r to):=hK▸k14 pa slot hty hm ho hbase hline
abbrev kpq(t:Db)(tb:Ds):Ds:=fun D env=>∃(I:Nat->List Dt->Prop),(∃ m,I m env)/\∀m env1,I m env1->t env1 fun b=>if b=true then tb {nx:=fun e=>∃m',m'<m/\I m' e,rt:=D.rt,bk:=D.nx,ct:=fun e=>∃m',m'<m/\I m' e} env1 else D.nx env1
def kf6{t:Db}{tb:Ds}{body:List Stmt}(hp: ∀i,PassesOwn (bf9 (Y i).prog (Y i).w) (Y i).A (Y i).env (Y i).xe)(hc:DT He K Y c t)(hb:DSs He K Y body tb):DS He K Y (.While c body [] pos) (kpq t tb):=by
 obtain⟨ct,c1,c2⟩:=hc;obtain⟨bt,b1,b2⟩:=hb;refine⟨_,fun j=>ktd (hp j) (c1 j) (b1 j),fun{H0 R0 R H σ env} D E F s c p=>?_⟩;obtain⟨I,⟨m0,p0⟩,hI⟩:=p;refine⟨fun m σ2 H2=>∃R2 env2,Fra He K H0 R2 H2 σ2 env2/\Same R0 R2/\I m env2,⟨m0,R,env,F,s,p0⟩,?_⟩;rintro m σ2 H2 ⟨R2,env2,F2,s2,p2⟩;refine c2 _ _ F2 (hI m env2 p2) fun b R3 H3 q e3=>?_;cases b with
 | true=>
   rw[zP rfl]at q;refine⟨fun σ' H'=>∃m',m'<m/\∃R2 env2,Fra He K H0 R2 H' σ' env2/\Same R0 R2/\I m' env2,fun σ' H' ⟨m',h1,h2⟩=>⟨m',h1,h2⟩,?_⟩;refine b2 (R0:=R0) {nx:=fun e=>∃m',m'<m/\I m' e,rt:=D.rt,bk:=D.nx,ct:=fun e=>∃m',m'<m/\I m' e} _ (F2.next e3) (s2.trans e3.rr) ⟨fun env' R' H' σ' ⟨m',h1,h2⟩ s' F'=>⟨m',h1,R',env',F',s',h2⟩,c.rt,fun env' R' H' σ' q s' F'=>c.nx _ _ _ _ q s' F',fun env' R' H' σ' ⟨m',h1,h2⟩ s' F'=>⟨m',h1,R',env',F',s',h2⟩⟩ q
 | false=>
   rw[zN bb6]at q;exact c.nx _ _ _ _ q (s2.trans e3.rr) (F2.next e3)
end
def k2o(x:bb0):kv7 (.d x)=some x:=rfl
def k2p(x:List bb0):kv7 (.o x)=some (.list x):=rfl
def k2q(xs:List bb0):ko7 (.list xs)=some xs:=rfl
def k2r(xs:List bb0):ko7 (.tuple xs)=some xs:=rfl
def kpr(ns:List Int):ko7 (kd7 ns)=some (ns.map ba1):=by
 show(if excK (ns.map fun n=>(ba1 n,bs9))=true then none else some ((ns.map fun n=>(ba1 n,bs9)).map (·.1)))=_;rw[klw,zN bb6,bc1];rfl
abbrev Gf{α:Type}(l:List α)(f:α->bb0)(q:α->Bool)(h:α->bb0):bb0->Option bb0->Prop:=fun y z=>∃x,x∈l/\y=f x/\((q x=true/\z=some (h x))\/(q x=false/\z=none))
def Gf.keep{α:Type}{l:List α}{f:α->bb0}{q:α->Bool}{h:α->bb0}{x:α}{z:bb0}(hx:x∈l)(hq:q x=true)(hz:z=h x):Gf l f q h (f x) (some z):=⟨x,hx,rfl,.inl ⟨hq,by rw[hz]⟩⟩
def Gf.skip{α:Type}{l:List α}{f:α->bb0}{q:α->Bool}{h:α->bb0}{x:α}(hx:x∈l)(hq:q x=false):Gf l f q h (f x) none:=⟨x,hx,rfl,.inr ⟨hq,rfl⟩⟩
def Gf.out{α:Type}{l0:List α}{f:α->bb0}{q:α->Bool}{h:α->bb0}(hf: ∀a b,f a=f b->a=b): ∀{l:List α}{o:List bb0},LcR (Gf l0 f q h) (l.map f) o->o=(l.filter q).map h
 | [],_,.nil=>rfl
 | x::l,_,.skip a b=>by
   obtain⟨x',_,e,hz⟩:=a;have e:=hf _ _ e;subst e;rcases hz with⟨_,z⟩|⟨hq,_⟩
   .cases z
   .rw[bo8 (by rw[hq];exact bb6)];exact Gf.out hf b
 | x::l,_,.keep a b=>by
   obtain⟨x',_,e,hz⟩:=a;have e:=hf _ _ e;subst e;rcases hz with⟨hq,z⟩|⟨_,z⟩
   .rw[bm7 hq,bg2];cases z;exact zC _ (Gf.out hf b)
   .cases z
def Gf.all{α:Type}{l0:List α}{f:α->bb0}{h:α->bb0}(hf: ∀a b,f a=f b->a=b){o:List bb0}(r:LcR (Gf l0 f (fun O=>true) h) (l0.map f) o):o=l0.map h:=by
 rw[Gf.out hf r,bx6.mpr fun O O=>rfl]
def kbp: ∀a b:Int,ba1 a=ba1 b->a=b:=fun O O h=>b59 h
def kgo: ∀a b:Nat,ba1 (a:Int)=ba1 (b:Int)->a=b:=fun O O h=>bu4 (b59 h)
def kt1: ∀a b:Int×Int,b51 [.int a.1,.int a.2]=b51 [.int b.1,.int b.2]->a=b:=fun a b h=>by
 injection h with h;injection h with h1 h2;injection h2 with h2 _;exact by4 (b59 h1) (b59 h2)
def kjv(n:Nat):kel 0 n=(ba8 n).map fun(i:Nat)=>ba1 (i:Int):=by
 unfold kel;exact bh9 fun a O=>by rw[bp8]
def all_map{α:Type}(l:List α)(p:α->Bool):(l.map p).all id=l.all p:=by rw[List.all_map];rfl
def kff{c:Bool}{A B:Prop}(hc:c=false)(h:B):if c=true then A else B:=by
 subst hc;exact h
def ka0{t u:Ds}{D:DEnds}{env:List Dt}(G:List Dt->Prop)(h1: ∀N:List Dt->Prop,(∀ e,G e->N e)->t {D with nx:=N} env)(h2: ∀e,G e->u D e):sSeq t u D env:=h1 (u D) h2
section
variable{X:Cx}
def knt{prog:bb9}{w:be5}{A:bg1}{E:ba6->ba7->Prop}{s:ba7}{l:Addr}{vs:List ba6}{ns:List Int}{k:Int}{t:Tok}{Q:ba6->ba7->Prop}(hl:s.heap.IsList l vs.toArray)(hi:IntsAre vs ns)
 (hb:ns.length<2 ^ 62)(hk:k∈ns)(h:Q (.int (ns.idxOf k:Nat) s.toks) {s with toks:=s.toks+1}):
 be1 (bf9 prog w) A (call (.builtin "list.index") [.ref l,.int k t]) Q E s:=by
 obtain⟨⟨cls,dd,data,sl⟩,ho,hc,n,hd⟩:=id hl;simp only at hc hd;subst hc hd;have hlen:=hi.length;have hj:ns.idxOf k<ns.length:=bg7.mpr hk;refine b28 b84 ⟨_,ho,rfl⟩ PySem.F.entry_list_index (PySem.F.args_list_index_2 _ _)
  (PySem.SeqAt.list_indexAt l vs.toArray n dd sl (.int k t) (isInt k) (ns.idxOf k) (by simpa[hlen]using hj) (by lia) ?_ ?_) ⟨ho,fun y hy=>(eq_isInt k t hi y (by simpa using hy)).at _ _,h⟩
 .show isInt k vs[ns.idxOf k]=true;rw[isInt_at k hi _ (by lia) hj];simpa using bo9 hj
 .intro j hjs hlt;show isInt k vs[j]=false;rw[isInt_at k hi j (by simpa using hjs) (by lia)];exact ne_of_lt_idxOf hlt _
def kt2(K:ba2)(hK:X.K=K):MtR X "list.index" (fun x xs H Q=>∃(p:Addr)(ns:List Int)(k:Int),x= .ref p/\xs=[.int k]/\SqL K H p (ns.map V.int)/\k∈ns/\Q (.int (ns.idxOf k:Nat)) H):=by
 subst hK;intro pI s σ H x xs v us Q I rx rs h;obtain⟨p,ns,k,rfl,rfl,hq,hk,q⟩:=h;cases rx;obtain⟨u,rfl,t,rfl⟩:=Vals.one rs;obtain⟨its,rv,pl,hz⟩:=I.list hq;have hz:ns.length<=sizeLine:=by rw[ba3]at hz;exact hz
 have hs:sizeLine<2 ^ 62:=by decide
 exact knt pl.isList (khc rv) (by lia) hk ⟨.int _,H,I.tok _,⟨_,rfl⟩,q⟩
end
section
variable{He:Hp}{K:ba2}{ι:Type}{Y:ι->Cx}{e a b:Expr}{pos:Pos}
def kys:bootBuiltins "int"=some (.type "int"):=by decide +kernel
abbrev kps(t:De):De:=fun env P=>t env fun d=>(∃ i,d= .int i/\P (.int i))\/∃b:Bool,d= .bool b/\P (.int (if b then 1 else 0))
def kl2{t:De}{p:Pos}(h:DB He K Y a t)(hm: ∀i,(Y i).mg "int"=none)(hg:autoParam (∀ i,Gl (Y i) "int") Z3)(hs:autoParam (∀ i,bc5 [a] (Y i).env=[(false,eval a (Y i).env)]) Z3):
 DE He K Y (.Call (.Name "int" p) [a] [] pos) (kps t):=by
 obtain⟨te,h1,h2⟩:=h;refine⟨_,fun i=>kco kor (hg i) (hm i) kys (kaq (h1 i) ka2 (hs i)) (by decide) (by decide) (hs i),fun P Q F p k=>h2 _ _ F p fun d v R1 H1 q1 e1 r1=>?_⟩;rcases q1 with⟨i,rfl,q1⟩|⟨b,rfl,q1⟩
 .exact .inl ⟨i,by rw[r1.int_inv],k _ _ R1 H1 q1 e1 (.int _)⟩
 .exact .inr ⟨b,by rw[r1.bl_inv],k _ _ R1 H1 q1 e1 (.int _)⟩
abbrev kpt(t:Dq)(u:De):De:=fun env P=>t env fun l=>u env fun d=>∃(ns:List Int)(k:Int),l=ns.map ba1/\d= .int k/\k∈ns/\P (.int (ns.idxOf k:Nat))
def kf7{t:Dq}{u:De}{apos cpos:Pos}(ho:DL He K Y a t)(h:DB He K Y e u)(hK:autoParam (∀ i,(Y i).K=K) Z3)
 (hbase:autoParam (∀ j,bm8 a "index" (Y j).env (eval a (Y j).env)=eval a (Y j).env) Z3)
 (hfew:autoParam (∀ j,((backTo cpos (bc5 [e] (Y j).env)).all (fun x=> !x.1)&&(b09 cpos (bt1 [] (Y j).env)).all (fun x=>x.1.isSome)
   &&decide (([e]:List Expr).length+([]:List Keyword).length+(if([]:List Keyword).isEmpty then 0 else 1)<30))=true) Z3)
 (hline:autoParam ((apos.endLine==cpos.line)=true) Z4)(hs:autoParam (∀ j,bc5 [e] (Y j).env=(false,eval e (Y j).env)::bc5 [] (Y j).env) Z3)(hplain:autoParam (∀ j,(backTo cpos (bc5 [] (Y j).env)).any (·.1)=false) Z3):
 DE He K Y (.Call (.Attribute a "index" apos) [e] [] cpos) (kpt t u):=by
 obtain⟨te,a1,a2⟩:=ho;obtain⟨te',b1,b2⟩:=h;refine⟨_,fun j=>kf0 K (hK j) bk1 b84 PySem.F.type_list_index (kt2 K (hK j)) (a1 j) (kaq (b1 j) ka2 (hs j)) (hbase j) (hfew j) hline (hs j) (hplain j),fun P Q F p k=>?_⟩;refine a2 _ _ F p fun l x ys R1 H1 q1 e1 s1 r1=>?_;refine⟨.inl ⟨rfl,_,SqL.of s1⟩,b2 _ _ (F.next e1) q1 fun d v R2 H2 ⟨ns,m,hl,hd,hm,q2⟩ e2 r2=>?_⟩;subst hl hd;have ev:=r2.int_inv;subst ev;have ey:=RpAll.ints_inv r1;subst ey;exact⟨x,ns,m,rfl,rfl,SqL.of (e2.hh _ _ s1),hm,k _ _ R2 H2 q2 (e1.trans e2) (.int _)⟩
abbrev kyt(i:Nat)(t:De):Ds:=fun D env=>∃xs,env[i]?=some (.o xs)/\t env fun d=>∃j:Nat,d= .int (j:Int)/\j<xs.length/\j<=100000/\D.nx (env.set i (.o (xs.eraseIdx j)))
def kpu(i:Nat){x:Str}{t:De}{p2 apos cpos:Pos}(h:DB He K Y e t)(hv:autoParam (∀ j,PE (Y j) (.Name x p2) (kg9 i)) Z8)(hK:autoParam (∀ i,(Y i).K=K) Z3)
 (hbase:autoParam (∀ j,bm8 (.Name x p2) "pop" (Y j).env (eval (.Name x p2) (Y j).env)=eval (.Name x p2) (Y j).env) Z3)
 (hfew:autoParam (∀ j,((backTo cpos (bc5 [e] (Y j).env)).all (fun x=> !x.1)&&(b09 cpos (bt1 [] (Y j).env)).all (fun x=>x.1.isSome)
   &&decide (([e]:List Expr).length+([]:List Keyword).length+(if([]:List Keyword).isEmpty then 0 else 1)<30))=true) Z3)
 (hline:autoParam ((apos.endLine==cpos.line)=true) Z4)(hs:autoParam (∀ j,bc5 [e] (Y j).env=(false,eval e (Y j).env)::bc5 [] (Y j).env) Z3)(hplain:autoParam (∀ j,(backTo cpos (bc5 [] (Y j).env)).any (·.1)=false) Z3)
 (hsw:autoParam (∀ j,bs6 (.Call (.Attribute (.Name x p2) "pop" apos) [e] [] cpos) none pos.line (Y j).env=pure false) Z3):
 DS He K Y (.Expr (.Call (.Attribute (.Name x p2) "pop" apos) [e] [] cpos) pos) (kyt i t):=by
 obtain⟨te,a1,a2⟩:=h;refine⟨_,fun j=>kgc (kf0 K (hK j) bk1 b13 b14 klq (hv j) (kaq (a1 j) ka2 (hs j)) (hbase j) (hfew j) hline (hs j) (hplain j)) (hsw j),fun D E F s c p=>?_⟩;obtain⟨xs,ex,p⟩:=p;obtain⟨a,ys,h1,h2,h3,h4,h5⟩:=F.lstAt ex;refine⟨_,h1,.inl ⟨rfl,_,SqL.of h2⟩,a2 _ _ F p fun d v R' H' ⟨j,hj,hl,hb,q⟩ ee r=>?_⟩;subst hj;have ev:=r.int_inv;subst ev;have r5:=RpAll.same ee.rr h5;have hjl:j<ys.length:=by rw[h5.len];exact hl
 refine⟨a,ys,(j:Int),j,ys[j],rfl,rfl,ee.hh _ _ h2,by lia,by lia,cf2 (by lia) (by lia),ba4 hjl,?_⟩;exact c.nx _ _ _ _ q (s.trans ee.rr) ((F.next ee).lstSet ex h1 (ee.nn _ _ h2 h3) h4 (RpAll.erase j r5))
end
section
variable{He:Hp}{K:ba2}{ι:Type}{Y:ι->Cx}{e:Expr}
end
section
variable{prog:bb9}{w:be5}{A:bg1}{E:ba6->ba7->Prop}{s:ba7}
def ke4{R:cg8->ba7->Prop}{r:Addr}{a b c:Int}{t u v:Tok}{n:Nat}(hh:A.handled=none)(hr:IsRange s.heap r a b c t u v)(hsmall:bx7 a b c=true)
 (hn:bm5 a b c=n)(hlen:n<=2 ^ 24)
 (hR: ∀h' tk acc c',(∀ b o,s.heap.get? b=some o->h'.get? b=some o)->h'.get? s.heap.objs.size=some {cls:= .type "list",dict:=none,data:= .seq acc c',slots:= #[]}->ItemsOf (fun i v=>∃t,v= .int (a+i*c) t) acc n->R (.ok (.ret (.ref s.heap.objs.size))) {s with heap:=h',toks:=tk}):
 codeAny (bf9 prog w) A (.builtin "proto.collect" ⟨[.ref r],[]⟩) R s:=by
 refine br7 F.entry_proto_collect ?_;rw[bp4 F.plain_proto_collect _];show be1 _ A.in1 (newList [] >>= fun l=>again (.builtin "list.__iadd__" ⟨[l,.ref r],[]⟩)) _ _ s;refine ba0 (bj8 ?_);refine ba9 ⟨by6 cf3 _,br7 F.entry_list_iadd ?_⟩;rw[bp4 cf3 _];show be1 _ A.in1 (bi4 (.ref s.heap.objs.size) (.ref r) (.ref s.heap.objs.size)) _ _ _;have hS:(s.heap.push {cls:= .type "list",data:= .seq ([]:List ba6).toArray}).get? s.heap.objs.size=some {cls:= .type "list",data:= .seq #[]}:=bc7 _ rfl;exact wpAny_extend_range (A:=A) (R:=R) (s:={s with heap:=s.heap.push {cls:= .type "list",data:= .seq ([]:List ba6).toArray}}) hh (ba5 _ hr) hsmall hn hlen s.heap.objs.size _ _ hS fun h' tk acc' c' kp e' hit=>
  hR h' tk acc' c' (fun b o e=>kp b o (bf5 (bd0 e)) (ba5 _ e)) e' hit
def kh2{Q:List ba6->ba7->Prop}{r:Addr}{a b c:Int}{t u v:Tok}{n:Nat}(hh:A.handled=none)(hr:IsRange s.heap r a b c t u v)(hsmall:bx7 a b c=true)
 (hn:bm5 a b c=n)(hlen:n<=2 ^ 24)
 (hQ: ∀h' tk acc,(∀ b o,s.heap.get? b=some o->h'.get? b=some o)->ItemsOf (fun i v=>∃t,v= .int (a+i*c) t) acc n->Q acc.toList {s with heap:=h',toks:=tk}):
 be1 (bf9 prog w) A (collect (.ref r)) Q E s:=by
 unfold collect;refine ba0 (wpAny_runValue (ke4 hh hr hsmall hn hlen fun h' tk acc' c' kp e' hit=>?_));show be1 _ A (load s.heap.objs.size >>= _) _ _ _;refine ba0 (wpAny_load e' ?_);exact ba9 (hQ h' tk acc' kp hit)
def kdq(r:Addr)(a b c:Int)(t u v:Tok)(n:Nat)(hsmall:bx7 a b c=true)(hn:bm5 a b c=n)(hlen:n<=2 ^ 24)(hsz:n<=sizeLine):
 Meets (Builtin.«tuple.__new__» ⟨[.type "tuple",.ref r],[]⟩)
  (fun A R s=>A.handled=none/\IsRange s.heap r a b c t u v/\∀(h':Heap)(tk:Nat)(acc:Array ba6),(∀ b o,s.heap.get? b=some o->h'.get? b=some o)->ItemsOf (fun i v=>∃t,v= .int (a+i*c) t) acc n->
    R (.ok (.ret (.ref h'.objs.size))) {s with heap:=h'.push {cls:= .type "tuple",data:= .seq acc},toks:=tk}):=
 .of_wp fun prog w A R s h=>by
  obtain⟨hh,hr,h⟩:=h;have hsub:=sub_tuple_self;have hinit:=init_tuple_lookup;have hmh:=madeHere_tuple;have hT:s.TypeIs (.ref r) "range":=⟨_,hr,rfl⟩
  have hh1:A.in1.handled=none:=hh
  wp_walk using b11 hT,kh2 hh1 hr hsmall hn hlen
  intro h' tk acc hk hacc;show be1 _ _ (bo2 acc.toList.toArray >>= fun v=>ret v) _ _ _;unfold bo2;refine ba0 (bj8 ?_ (show acc.toList.toArray.size<=sizeLine by simp only[bw8];rw[hacc.1];exact hsz));refine ba9 ⟨_,rfl,?_⟩;have e:acc.toList.toArray=acc:=by simp
  rw[e];exact h h' tk acc hk hacc
def kf3{Q:ba6->ba7->Prop}{r:Addr}{a b c:Int}{t u v:Tok}{n:Nat}(hh:A.handled=none)(hr:IsRange s.heap r a b c t u v)(hsmall:bx7 a b c=true)(hn:bm5 a b c=n)(hlen:n<=2 ^ 24)(hsz:n<=sizeLine)
 (h: ∀(h':Heap)(tk:Nat)(acc:Array ba6),(∀ b o,s.heap.get? b=some o->h'.get? b=some o)->ItemsOf (fun i v=>∃t,v= .int (a+i*c) t) acc n->Q (.ref h'.objs.size) {s with heap:=h'.push {cls:= .type "tuple",data:= .seq acc},toks:=tk}):
 be1 (bf9 prog w) A (call (.type "tuple") [.ref r]) Q E s:=
 callType_new F.called_tuple (by decide) (F.typeCall_tuple_1 _) (F.newCall_tuple_1 _) (fun obj=>F.args_object_init_2 obj _) F.entry_tuple_new
  (kdq r a b c t u v n hsmall hn hlen hsz) ⟨hh,hr,fun h' tk acc hk hacc=>⟨⟨_,bc7 _ rfl,rfl⟩,h h' tk acc hk hacc⟩⟩
end
section
variable{X:Cx}
def kg7(hc:X.calm=true):kdk X (.type "tuple") (fun xs H Q=>∃p lo hi,xs=[.ref p]/\H p=some (.rng lo hi)/\(-(2 ^ 62)<=lo/\lo<2 ^ 62/\ -(2 ^ 62)<=hi/\hi<2 ^ 62)/\(hi-lo).toNat<=sizeLine/\∀l,H l=none->Q (.ref l) (upd H l (.tup (rangeV lo (hi-lo).toNat)))):=by
 intro pI s σ H xs us Q I r h;obtain⟨p,lo,hi,rfl,hp,⟨b1,b2,b3,b4⟩,hz,q⟩:=h;obtain⟨u,rfl,rx⟩:=kef r;cases rx;obtain⟨t,u,v,e⟩:=(show ∃t u v,s.heap.get? p=some {cls:= .type "range",data:= .fields #[.int lo t,.int hi u,.int 1 v]}from I.hok p _ hp);have hn:bm5 lo hi 1=(((hi-lo).toNat:Nat):Int):=by rw[cc9];split <;> lia
 refine kf3 (n:=(hi-lo).toNat) (I.ok.hd hc) e (small_one b1 b2 b3 b4) hn (by rw[bu0]at hz;lia) hz fun h' tk acc' kp hit=>?_;have I1:Inv X pI σ H {s with heap:=h',toks:=tk}:=I.kept (t':=tk) kp;have I2:Inv X pI σ (upd H h'.objs.size (.tup (rangeV lo (hi-lo).toNat))) {s with heap:=h'.push {cls:= .type "tuple",data:= .seq acc'},toks:=tk}:=
  I1.laid (t':=tk) (fun b o e=>ba5 _ e) (bb7 _) (show ObjOk X.prog X.w _ _ _ (.tup (rangeV lo (hi-lo).toNat))from⟨⟨⟨_,bc7 _ rfl,rfl⟩,?_⟩,acc'.toList,?_,by rw[show acc'.toList.toArray=acc' by simp];exact cn6 _ _⟩)
 .exact⟨.ref h'.objs.size,_,I2,rfl,q _ (I1.hok.fresh (bb7 _))⟩
 .unfold rangeV;rw[ba3,be8];exact hz
 .refine khe (P:=fun O O=>True) (us:=acc'.toList) (fun i=>V.int (lo+(i:Int))) (by rw[bf0];exact hit.1) fun j v hj=>?_;obtain⟨t',ev⟩:=hit.2 j v (by rw[<- bf2];exact hj);exact⟨t',by rw[ev,cj0]⟩
end
section
variable{He:Hp}{K:ba2}{ι:Type}{Y:ι->Cx}{a:Expr}{pos:Pos}
abbrev ken(t:De):De:=fun env P=>t env fun d=>∃j:Int,d= .int j/\j<=100000/\ -(2 ^ 62)<=j/\P (.tuple (kel 0 j.toNat))
def kh3{t:De}{p p2:Pos}{pos2:Pos}(h:DB He K Y a t)(hm: ∀i,(Y i).mg "tuple"=none)(hm2: ∀i,(Y i).mg "range"=none)(hc:autoParam (∀ i,(Y i).calm=true) Z3)(hg:autoParam (∀ i,Gl (Y i) "tuple") Z3)(hg2:autoParam (∀ i,Gl (Y i) "range") Z3)
 (hs:autoParam (∀ i,bc5 [a] (Y i).env=[(false,eval a (Y i).env)]) Z3)
 (hs2:autoParam (∀ i,bc5 [.Call (.Name "range" p2) [a] [] pos2] (Y i).env=[(false,eval (.Call (.Name "range" p2) [a] [] pos2) (Y i).env)]) Z3):
 DE He K Y (.Call (.Name "tuple" p) [.Call (.Name "range" p2) [a] [] pos2] [] pos) (ken t):=by
 obtain⟨te,h1,h2⟩:=h;refine⟨_,fun i=>kco (kg7 (hc i)) (hg i) (hm i) cl9 (kaq (kjp (hg2 i) (hm2 i) (kaq (h1 i) ka2 (hs i)) (hs i)) ka2 (hs2 i)) (by decide) (by decide) (hs2 i),fun P Q F p k=>h2 _ _ F p fun d v R1 H1 q1 e1 r1=>?_⟩;obtain⟨j,rfl,hj,hj2,q1⟩:=q1;have ev:=r1.int_inv;subst ev;refine⟨j,rfl,fun p hp=>⟨p,0,j,rfl,kak,⟨by decide,by decide,hj2,by lia⟩,szl (by lia),fun l hl=>?_⟩⟩;have e2:=Ext.new (o:= .rng 0 j) e1.wd hp;have e3:=Ext.new (o:= .tup (rangeV 0 (j-0).toNat)) e2.wd hl;have ee:=e1.trans (e2.trans e3);refine k _ _ _ _ q1 ee (.tup kak ?_);rw[cn8];exact RpAll.rangeV _ 0 _
end
section
variable{X:Cx}
end
section
variable{He:Hp}{K:ba2}{ι:Type}{Y:ι->Cx}
end
abbrev F2(h h':Heap):Prop:=∀b o vs,h.get? b=some o->o.data= .fields vs->∃o' vs',h'.get? b=some o'/\o'.data= .fields vs'/\vs'[2]?=vs[2]?/\o'.cls=o.cls/\vs'[0]?=vs[0]?
section
variable{M:Model}{A:bg1}{E:ba6->ba7->Prop}{s:ba7}{base:Heap}{env env':Env}{outer:List Env}{L e T:Addr}
end
section
variable{M:Model}{A:bg1}{E:ba6->ba7->Prop}{s:ba7}{base h0:Heap}{H:Hp}{env:Env}{outer:List Env}{L e:Addr}{C:ba6}{Q:Unit->ba7->Prop}
end
def ObjOk.sits{P:bb9}{w:be5}{H:Hp}{h:Heap}{a:Addr}{o:HO}(x:ObjOk P w H h a o): ∃u,h.get? a=some u:=by
 cases o with
 | lst xs=>obtain⟨_,_,_,_,e⟩:=x;exact⟨_,e⟩
 | tup xs=>obtain⟨_,_,_,o,e,_⟩:=x;exact⟨_,e⟩
 | dK kvs=>obtain⟨_,_,_,_,o,_,_,e,_⟩:=x;exact⟨_,e⟩
 | dT kvs=>obtain⟨_,_,_,_,o,_,_,e,_⟩:=x;exact⟨_,e⟩
 | set S n=>obtain⟨o,_,_,_,e,_⟩:=x;exact⟨_,e⟩
 | ins C dx fs=>obtain⟨_,_,_,e,_⟩:=x;exact⟨_,e⟩
 | own y=>obtain⟨_,e⟩:=x;exact⟨_,e⟩
 | xd fs=>obtain⟨_,⟨_,_,_,e,_⟩,_⟩:=x;exact⟨_,e⟩
 | rng lo hi=>obtain⟨_,_,_,e⟩:=x;exact⟨_,e⟩
 | frz ob u=>obtain⟨e,_⟩:=x;exact⟨_,e⟩
 | tbl ps=>exact⟨_,(show h.get? a=some _ from x)⟩
 | met f y=>exact⟨_,(show h.get? a=some _ from x)⟩
 | ext φ=>obtain⟨_,⟨_,e⟩,_⟩:=x;exact⟨_,e⟩
def HOk.gone{P:bb9}{w:be5}{H:Hp}{h:Heap}(x:HOk P w H h){a:Addr}(e:h.get? a=none):H a=none:=by
 cases q:H a with
 | none=>rfl
 | some o=>
   obtain⟨u,z⟩:=(x a o q).sits;rw[e]at z;cases z
section
variable{P:bb9}{w:be5}{K:ba2}{mg:Str->Option ba6}{base:Heap}{N:List Str}{qual:Str}{scope:b05}{f:Addr}{cd:ba6}{A:bg1}{outer:List Env}{s:ba7}{H:Hp}{E:XK}
end
section
variable{P:bb9}{w:be5}{K:ba2}{mg:Str->Option ba6}{base:Heap}{N:List Str}{qual:Str}{scope:b05}{f:Addr}{cd:ba6}{A:bg1}{outer:List Env}{s:ba7}{H:Hp}{E:XK}{x:Str}{C:Addr}{np cpos pos:Pos}{msg:Str}{jj:Nat}{mp:Pos}
end
section
variable{X:Cx}{k:Nat}{f:Addr}{fd:be7}{ps:List Str}{x:Str}{p pos:Pos}{e:Expr}{es:List Expr}{t:TA}{K:ba2}{P:List bb0->(Dt->Prop)->(Addr->Prop)->Prop}
end
section
variable{X:Cx}{k:Nat}{f:Addr}{fd:be7}{ps:List Str}{x:Str}{p pos:Pos}{e:Expr}{es:List Expr}{t:TA}{K:ba2}{P:List bb0->(Dt->Prop)->(Addr->Prop)->Prop}{E:XK}
end
section
variable{He:Hp}{K:ba2}{ι:Type}{Y:ι->Cx}{e:Expr}{es:List Expr}{pos p:Pos}{prog:bb9}{w:be5}{mg:Str->Option ba6}{base:Heap}{x:Str}{k:Nat}{ps:List Str}{P:List bb0->(Dt->Prop)->(Addr->Prop)->Prop}{t:Dq}{E:XK}{W:Addr->Prop}
end
section
variable{P:bb9}{w:be5}{K:ba2}{mg:Str->Option ba6}{base:Heap}{N:List Str}{qual:Str}{scope:b05}{f:Addr}{cd:ba6}{A:bg1}{outer:List Env}{s:ba7}{H:Hp}{E:XK}{x:Str}{C:Addr}{np cpos pos:Pos}{msg:Str}{jj:Nat}{mp:Pos}{W:Addr->Prop}
end
section
variable{M:Model}{A:bg1}{E:ba6->ba7->Prop}{C D:Addr}
variable{nm q:Str}{N:Addr}{bs bm:List ba6}{hdct:Bool}{sn:List Str}{sub:List ba6}{ab:Bool}{col:Option Bool}{dd:Option Addr}{k0 k1 k2 k3 k5:Option ba6}{newId:String}
variable{nm' q':Str}{N':Addr}{bs' bm':List ba6}{hdct':Bool}{sn':List Str}{sub':List ba6}{ab':Bool}{col':Option Bool}{dd':Option Addr}{k0' k1' k2' k3' k5':Option ba6}{newId':String}
end
section
variable{prog:bb9}{w:be5}{A:bg1}{E:ba6->ba7->Prop}{s:ba7}{base h0:Heap}{H:Hp}{env:Env}{outer:List Env}{L e C D:Addr}{Q:Flow->ba7->Prop}{x n:Str}{b₀:Stmt}{suite:List Stmt}{pos np:Pos}{kdh:List ExceptHandler}
end
section
variable{X:Cx}{pI:List (Addr×Obj)}{σ:St}{H:Hp}{s:ba7}
end
section
open PySem.W PySem.Calls Builtin Builtin.ObjectAttr Builtin.Getset_descriptor
section
variable{prog:bb9}{w:be5}{A:bg1}{E:ba6->ba7->Prop}{h:Heap}{g:Array GenState}{d:Drawn}{t:Nat}{os:OsState}{a D:Addr}{o:Obj}{K:ba2}
end
end
section
variable{X:Cx}{pI:List (Addr×Obj)}{σ:St}{H:Hp}{s:ba7}
end
section
variable{P:bb9}{w:be5}{K:ba2}{mg:Str->Option ba6}{base:Heap}
end
section
variable{He:Hp}{K:ba2}{ι:Type}{Y:ι->Cx}{a:Expr}{pos:Pos}
end
section
variable{P:bb9}{w:be5}{K:ba2}{mg:Str->Option ba6}{base:Heap}
end
section
variable{He:Hp}{K:ba2}{ι:Type}{Y:ι->Cx}{e tg:Expr}{pos:Pos}{ts:List Nat}
end
section
open PySem.W
section
variable{key:Nat->Int}{N:Nat}{cmp:Nat->Nat->(Bool->ba7->Prop)->ba7->Prop}{s:ba7}
def kkt{p q:Array Nat}{i j:Nat}(h:p[i]?=q[j]?):p.getD i 0=q.getD j 0:=by
 simp[Array.getD_eq_getD_getElem?,h]
variable(hc: ∀(i j:Nat)(C:Bool->ba7->Prop),i<N->j<N->C (decide (key i<key j)) s->cmp i j C s)(h0:0<N)
include hc h0
end
end
section
open PySem.W PySem.Calls
section
variable{prog:bb9}{w:be5}{A:bg1}{E:ba6->ba7->Prop}{s:ba7}
def kyu{x y:Addr}{ox oy:Obj}{n k:Nat}{a b c d:Int}{t1 t2 t3 t4:Tok}{Q:Bool->ba7->Prop}(hx:s.heap.get? x=some ox)(dx:ox.data= .seq #[.int a t1,.int b t2] n)(hy:s.heap.get? y=some oy)(dy:oy.data= .seq #[.int c t3,.int d t4] k)
 (hu:A.units<cLine)(h:Q (decide (a<c\/a=c/\b<d)) s):be1 (bf9 prog w) A (keyLt' (tuples' true) (.ref x) (.ref y)) Q E s:=by
 refine kat_lt hx dx hy dy (ci7 (bs1 ?_));by_cases e1:a=c
 .subst e1;rw[show(a==a)=true by simp];refine cm3 (ci7 (bs1 ?_));by_cases e2:b=d
  .subst e2;rw[show(b==b)=true by simp];refine cm3 (kat_nil ?_);have:decide (a<a\/a=a/\b<b)=false:=(by simp)
   rw[this]at h;exact h
  .rw[show(b==d)=false by simp[e2]];refine kat_no (kat_one _ _ ?_);have:decide (a<a\/a=a/\b<d)=decide (b<d):=(by simp)
   rw[this]at h;exact ck8 h
 .rw[show(a==c)=false by simp[e1]];refine kat_no ?_;have:decide (a<c\/a=c/\b<d)=decide (a<c):=by simp[e1]
  rw[this]at h;exact oneLt_int h
end
section
variable{X:Cx}{pI:List (Addr×Obj)}{σ:St}{H:Hp}{s:ba7}
def kh4{ys:List V}{its:List ba6}(r:Vals ys its): ∀(π:List Nat),(∀ i∈π,i<ys.length)->Vals (π.map fun i=>ys.getD i V.non) (π.map fun i=>its.getD i bd8)
 | [],_=> .nil
 | i::π,h=>by
   have hi:=h i bb8;have e1:ys[i]?=some ys[i]:=ba4 hi;obtain⟨u,e2,r2⟩:=r.get e1;refine .cons ?_ (kh4 r π fun j hj=>h j (bc0 _ hj));show RelV (ys.getD i V.non) (its.getD i bd8);rw[bb5,bb5,e1,e2];exact r2
abbrev allN(base h:Heap)(L:Addr):List (Addr×Obj):=(ba8 h.objs.size).filterMap fun b=>match h.get? b with
 | some o=>if b≠L/\(base.get? b).isNone=true then some (b,o)else none
 | none=>none
set_option tactic.hygienic true in
def kpv{base h:Heap}{L:Addr}:News base L h (allN base h L):=fun p hp=>by
 obtain⟨b,hb,e⟩:=bv4.mp hp;split at e
 .rename_i o ho;split at e
  .rename_i hc;cases e;exact⟨ho,hc.1,by simpa using hc.2⟩
  .cases e
 .cases e
def kh5{base h:Heap}{L b:Addr}{o:Obj}(ho:h.get? b=some o)(hL:b≠L)(hb:base.get? b=none):(b,o)∈allN base h L:=by
 refine bv4.mpr ⟨b,bb2.mpr (bd0 ho),?_⟩;rw[ho];show(if b≠L/\(base.get? b).isNone=true then some (b,o)else none)=some (b,o);rw[zP ⟨hL,by rw[hb];rfl⟩]
def Inv.newAt{h':Heap}{m:Str->Option ba6}{D:Addr}{zs:List V}{out:List ba6}{c:Nat}(I:Inv X pI σ H s)(hn:s.heap.Ns X.env.locals m)(F:Fr X.base X.env.locals h' m)(N:News X.base X.env.locals h' ((D,listOf out.toArray c)::allN X.base s.heap X.env.locals))
 (hD: ∀q∈allN X.base s.heap X.env.locals,q.1<D)(r:Vals zs out)(hz:zs.length<=sizeLine):H D=none/\Inv X pI σ (upd H D (.lst zs)) {s with heap:=h'}:=by
 obtain⟨d1,d2,d3⟩:=N _ bb8;have d0:s.heap.get? D=none:=by
  cases e:s.heap.get? D with
  | none=>rfl
  | some o=>exact zA (hD _ (kh5 e d2 d3)) (bk7 _)
 have hHD:H D=none:=I.hok.gone d0;have keep: ∀b o,s.heap.get? b=some o->b≠X.env.locals->h'.get? b=some o:=fun b o e hb=>by
  cases q:X.base.get? b with
  | some o2=>
    have e2:=I.bk b o2 q;rw[e]at e2;cases e2;exact F.keep b o q
  | none=>exact(N _ (bc0 _ (kh5 e hb q))).1
 have neD: ∀b o,s.heap.get? b=some o->b≠D:=fun b o e z=>by rw[z,d0]at e;cases e
 have nL: ∀b u,H b=some u->b≠X.env.locals:=fun b u e z=>by rw[z,I.free]at e;cases e
 refine⟨hHD,I.step (g':=s.gens) (d':=s.drawn) (t':=s.toks) (ch:=[]) (fun O z=>nomatch z) (fun b o hb O O e O=>keep b o e hb) (fun b o hb O O e O=>⟨o.slots,keep b o e hb⟩) (fun b o O e n=>by rw[kar (neD b o e)];exact n) (fun b o O e=>?_)
  (fun b xs e=>by rw[kar (kan e hHD)];exact e) (fun b o u e=>by rw[kar (kan e hHD)];exact e) (fun b ps e=>⟨#[],by rw[kar (kan e hHD),e];simp⟩) (fun m2 hm2=>?_) (fun b u e=>?_) I.bare⟩
 .by_cases hb:b=X.env.locals
  .obtain⟨oL,_,_,hoL,_⟩:=F.ns;exact⟨oL,by rw[hb];exact hoL⟩
  .exact⟨o,keep b o e hb⟩
 .have em:m2=m:=by
   obtain⟨o1,es1,ep1,a1,a2,_,a4⟩:=hm2;obtain⟨o2,es2,ep2,b1,b2,_,b4⟩:=hn;rw[a1]at b1;cases b1;rw[a2]at b2;cases b2
   funext x
   rw[<- a4,<- b4]
  rw[em];exact F.ns
 .by_cases hb:b=D
  .subst hb;rw[kak]at e;cases e;exact⟨hz,out,c,r,d1⟩
  .rw[kar hb]at e;refine(I.hok b u e).stay (fun c v hc q=>keep c v q ?_) (fun c q=>by rw[kar (kan q hHD)];exact q) fun c xs q=>by rw[kar (kan q hHD)];exact q
   rcases hc with rfl|hc
   .exact nL c _ e
   .exact nL c _ hc
end
section
variable{prog:bb9}{w:be5}{A:bg1}{E:ba6->ba7->Prop}{s:ba7}
def kh6{α:Type}: ∀l:List α,l.zip l=l.map fun x=>(x,x)
 | []=>rfl
 | a::l=>by rw[cd4,kh6 l,bg2]
def khj{a:Addr}{vs:List ba6}{n:Nat}{P:b15->ba7->Prop}(ho:s.heap.get? a=some (seqObj "list" vs.toArray n))(h2:vs.length<2)
 (h:P (.done (.ret .none)) {s with heap:=sortedHeap s.heap a vs vs.toArray}):be1 (bf9 prog w) A (Builtin.«list.sort» ⟨[.ref a],[]⟩) P E s:=by
 rw[list_sort_plain];obtain⟨e1,o1⟩: ∃e,(s.heap.update a (bj9 fun O=>(#[]:Array ba6))).get? a=some (seqObj "list" #[] e):=⟨_,get?_update_seq ho _⟩
 have o6:=ba5 (seqObj "list" #[] 0) (ba5 (seqObj "tuple" vs.toArray 0) o1);have c2:vs.toArray.size<2:=by simpa using h2
 have zz:vs.length<=sizeLine:=by rw[bu0];lia
 refine ba0 (listItems_at ho rfl (ba0 (b85 ho rfl (ba0 (cc4 o1 rfl (ba0 (b58 (ba0 (b86 (bk0 ?_) (bf7 _))) zz)))) (by simpa using zz) (bf7 _))));simp only[zP c2];refine ba0 (ba9 ?_);rw[StateT.run_pure];refine ba0 (ba9 ?_);dsimp only;have eo:(arrOf (cp6 general' (vs.toArray.zip vs.toArray) #[] 7 none)).map (·.2)=vs.toArray:=by
  show(vs.toArray.zip vs.toArray).map (·.2)=vs.toArray;simp only[ch6,List.map_toArray];rw[show vs.zip vs=vs.map fun x=>(x,x)from kh6 vs,bc1];exact zC List.toArray (cp2 vs)
 rw[eo];refine ba0 (cc4 o6 rfl (ba0 (b85 o6 rfl ?_ (bf7 _) (by simpa using b71 zz))));simp only[bne_self_eq_false,bj1,if_false];exact ba9 h
def kf1{l:Addr}{vs:List ba6}{Q:ba6->ba7->Prop}(hl:s.heap.IsList l vs.toArray)(h2:vs.length<2)(h:Q (.ref (s.heap.objs.size+1)) {s with heap:=sortedAll s.heap vs vs.toArray}):be1 (bf9 prog w) A (call (.builtin "sorted") [.ref l]) Q E s:=by
 have zz:vs.length<=sizeLine:=by rw[bu0];lia
 apply bx1 kind_sorted plain_sorted entry_sorted
 .exact args_sorted1 _
 unfold Builtin.«sorted»;refine ba0 (m:=checkCount "sorted" 1 1 _) (ba9 (ba0 (collect_list hl (ba0 (b86 ?_ zz)) zz)));have hz:((s.heap.push (seqObj "list" #[] 0)).update s.heap.objs.size (bj9 (· ++vs.toArray))).objs.size=s.heap.objs.size+1:=(ch7 ..).trans (size_push' ..);have ol:(((s.heap.push (seqObj "list" #[] 0)).update s.heap.objs.size (bj9 (· ++vs.toArray))).push (seqObj "list" vs.toArray 0)).get? (s.heap.objs.size+1)=some (seqObj "list" vs.toArray 0):=hz▸bc7 _ rfl
 change be1 _ _ _ _ _ {s with heap:=((s.heap.push (seqObj "list" #[] 0)).update s.heap.objs.size (bj9 (· ++vs.toArray))).push (seqObj "list" vs.toArray 0)}
 rw[hz];exact ba0 (bk0 (bg4 b60 ⟨_,ol,rfl⟩ b36 (khj ol h2 ⟨_,rfl,ba9 ⟨_,rfl,h⟩⟩) (b61 _)))
end
def kb5{α:Type}(l:List α)(d:α):(ba8 l.length).map (fun i=>l.getD i d)=l:=by
 apply bx4
 .simp
 .intro i h1 h2;simp[h2]
abbrev kpw(B:Int)(ps:List (Int×Int))(i:Nat):Int:=(ps.getD i (0,0)).1*B+(ps.getD i (0,0)).2
def kyv{B a b c d:Int}(h1:0<=b)(h2:b<B)(h3:0<=d)(h4:d<B):(a<c\/a=c/\b<d)↔a*B+b<c*B+d:=by
 constructor
 .rintro(h|⟨rfl,h⟩)
  .have:(a+1)*B<=c*B:=b16 (by lia) (by lia);rw[Int.add_mul,Int.one_mul]at this;lia
  .lia
 .intro h;by_cases e:a=c
  .subst e;right;exact⟨rfl,by lia⟩
  .left;apply Decidable.byContradiction;intro z;have:(c+1)*B<=a*B:=b16 (by lia) (by lia);rw[Int.add_mul,Int.one_mul]at this;lia
section
variable{X:Cx}
end
end
def ke5:bootBuiltins "sorted"=some (.builtin "sorted"):=by decide +kernel
@[reducible]def pr2(q:Int×Int):bb0:= .tuple [.int q.1,.int q.2]
section
variable{He:Hp}{K:ba2}{ι:Type}{Y:ι->Cx}{e:Expr}{pos p:Pos}
def kyw{R:Hp}{ys:List V}{ds:List bb0}(r:RpAll K R ys ds): ∀(π:List Nat),(∀ i∈π,i<ys.length)->RpAll K R (π.map fun i=>ys.getD i V.non) (π.map fun i=>ds.getD i bs9)
 | [],_=> .nil
 | i::π,h=>by
   have hi:=h i bb8;have e1:ys[i]?=some ys[i]:=ba4 hi;obtain⟨d,e2,r2⟩:=r.get e1;refine .cons ?_ (kyw r π fun j hj=>h j (bc0 _ hj));show Rp K R (ys.getD i V.non) (ds.getD i bs9);rw[bb5,bb5,e1,e2];exact r2
end
section
variable{He:Hp}{K:ba2}{ι:Type}{Y:ι->Cx}{pos:Pos}
end
section
variable{He:Hp}{K:ba2}{ι:Type}{Y:ι->Cx}{e:Expr}{pos:Pos}
end
section
open PySem.W
section
variable{prog:bb9}{w:be5}{A:bg1}{E:ba6->ba7->Prop}{s:ba7}
@[reducible]def WS{α:Type}(prog:bb9)(w:be5)(A:bg1)(E:ba6->ba7->Prop)(s:ba7)(m:StateT bq3 Sem α)(Q:α->bq3->Prop)(st:bq3):Prop:=wpS (bf9 prog w) A E s m Q st
abbrev elT:Array bi6->Nat->StateT bq3 Sem bi6:=PySem.W.Fast.tw4424054534610556225
abbrev ltT:bi6->bi6->StateT bq3 Sem (Option Bool):=PySem.W.Fast.tw5462128846355204966
def k2s:elem'=elT:=PySem.W.Fast.te4424054534610556225
def kyx:lt'=ltT:=PySem.W.Fast.te5462128846355204966
def k2t{arr:Array bi6}{i:Nat}{p:bi6}{Q:bi6->bq3->Prop}{st:bq3}(h:arr[i]?=some p)(k:Q p st):WS prog w A E s (elT arr i) Q st:=by
 rw[<- k2s,elem'_eq,h];exact bp0 k
abbrev kt3(prog:bb9)(w:be5)(A:bg1)(E:ba6->ba7->Prop)(s:ba7)(key:bi6->Int)(κ:bu5)(ok:bi6->Prop):Prop:=
 ∀(x y:bi6)(st:bq3)(Q:Option Bool->bq3->Prop),ok x->ok y->kindOf st=κ->Q (some (decide (key x<key y))) st->WS prog w A E s (ltT x y) Q st
end
section
variable{key:bi6->Int}{P Q O0:List bi6}{i j:Nat}
abbrev UpL(key:bi6->Int)(l:List bi6):Prop:=l.Pairwise fun x y=>key x<=key y
def kpx{l:List bi6}(h:UpL key l){x:bi6}{i:Nat}(hx:l[i]?=some x): ∀y∈l.drop i,key x<=key y:=by
 have hi:i<l.length:=(bb3.mp hx).1;have e:l.drop i=x::l.drop (i+1):=by
  rw[bk5 hi,(bb3.mp hx).2]
 have sd:UpL key (l.drop i):=h.sublist (cf4 _ _);unfold UpL at sd;rw[e,bl3]at sd;intro y hy;rw[e]at hy;rcases bc6.mp hy with rfl|hy
 .exact b01 _
 .exact sd.1 y hy
end
section
variable{prog:bb9}{w:be5}{A:bg1}{E:ba6->ba7->Prop}{s:ba7}
@[reducible]def Stt(st st':bq3):Prop:=kindOf st'=kindOf st/\arrOf st'=arrOf st/\pendingOf st'=pendingOf st/\failedOf st'=failedOf st
def kpy{x:String}{Q:Unit->bq3->Prop}{st:bq3}(h:Q () st):WS prog w A E s (liftM (rule x)) Q st:=wpS_lift (bz9 ⟨rfl,h⟩)
def kby{α:Type}{c:Prop} [Decidable c]{t e:StateT bq3 Sem α}{Q:α->bq3->Prop}{st:bq3}(h1:c->WS prog w A E s t Q st)(h2: ¬c->WS prog w A E s e Q st):WS prog w A E s (if c then t else e) Q st:=by
 by_cases h:c
 .rw[zP h];exact h1 h
 .rw[zN h];exact h2 h
section
variable{key:bi6->Int}{a b out:Array bi6}{ia ib:Nat}
end
end
end
section
open PySem.W
section
variable{prog:bb9}{w:be5}{A:bg1}{E:ba6->ba7->Prop}{s:ba7}
end
end
section
open PySem.W
section
variable{key:bi6->Int}{P Q O0:List bi6}{i j:Nat}
def kyy{l:List bi6}(h:UpL key l){x:bi6}{i:Nat}(hx:l[i]?=some x): ∀y∈l.take (i+1),key y<=key x:=by
 intro y hy;rw[bz8,hx]at hy;have hi:i<l.length:=(bb3.mp hx).1;rcases bh3.mp hy with hy|hy
 .obtain⟨j,hj,e⟩:=bf3 hy;rw[bn9]at hj;have:=be0.mp h j i (by lia) hi (by lia);rw[(bb3.mp hx).2]at this;rw[<- e,List.getElem_take];exact this
 .have hy:y=x:=by simpa using hy
  rw[hy];exact b01 _
end
section
variable{key:bi6->Int}{a b out:Array bi6}{na nb:Nat}
end
end
section
open PySem.W
section
variable{prog:bb9}{w:be5}{A:bg1}{E:ba6->ba7->Prop}{s:ba7}
end
end
section
open PySem.W
section
variable{prog:bb9}{w:be5}{A:bg1}{E:ba6->ba7->Prop}{s:ba7}{key:bi6->Int}{κ:bu5}{ok:bi6->Prop}
def kwe{arr:Array bi6}{T1 Al R:List bi6}(e:arr.toList=T1++(Al++R)){i:Nat}(h:i<Al.length):arr[T1.length+i]?=some Al[i]:=by
 rw[<- bf2,e,bc2 (by lia),Nat.add_sub_cancel_left,bc9 h,ba4 h]
end
end
section
open PySem.W
section
variable{prog:bb9}{w:be5}{A:bg1}{E:ba6->ba7->Prop}{s:ba7}{key:bi6->Int}{κ:bu5}{ok:bi6->Prop}
end
end
section
open PySem.W
section
def kt4{arr:Array bi6}{T P R:List bi6}{x:bi6}(e:arr.toList=T++(P++(x::R))){d:Nat}(hd:d<=P.length):(bubble arr (T.length+P.length) d).toList=T++(P.take (P.length-d)++(x::(P.drop (P.length-d)++R))):=by
 have sz:=zC bu1 e;simp only[bf0,bb4,bg5]at sz;have at_: ∀i,arr[i]?=(T++(P++(x::R)))[i]?:=fun i=>by rw[<- e,bf2]
 apply bt5;intro i;rw[bf2,getElem?_bubble (by lia) d (by lia)];have lt:(P.take (P.length-d)).length=P.length-d:=by rw[bn9];lia
 have ld:(P.drop (P.length-d)).length=d:=by rw[bq7];lia
 by_cases h1:i<T.length
 .rw[zN (by lia),zN (by lia),at_,bc9 h1,bc9 h1]
 have h1:T.length<=i:=by lia
 rw[bc2 (l₁:=T) h1];by_cases h2:i=T.length+P.length-d
 .rw[zP h2,at_,bc2 (by lia),bc2 (by lia),bc2 (by lia),lt,show T.length+P.length-T.length-P.length=0 by lia,show i-T.length-(P.length-d)=0 by lia];rfl
 rw[zN h2];by_cases h3:T.length+P.length-d<i/\i<=T.length+P.length
 .rw[zP h3,at_,bc2 (by lia),bc9 (by lia),bc2 (by lia),lt];obtain⟨k,hk⟩: ∃k,i-T.length-(P.length-d)=k+1:=⟨i-T.length-(P.length-d)-1,by lia⟩
  rw[hk,bl5,bc9 (by lia),List.getElem?_drop,show P.length-d+k=i-1-T.length by lia]
 .rw[zN h3,at_,bc2 (by lia)];by_cases h4:i-T.length<P.length-d
  .rw[bc9 (by lia),bc9 (by lia),b52,zP h4]
  .rw[bc2 (by lia),bc2 (by lia),lt];obtain⟨k,hk⟩: ∃k,i-T.length-P.length=k+1:=⟨i-T.length-P.length-1,by lia⟩
   rw[hk,show i-T.length-(P.length-d)=(k+d)+1 by lia,bl5,bl5,bc2 (by lia),ld,cd5]
def kt5{arr:Array bi6}{T S R:List bi6}(e:arr.toList=T++(S++R)){j:Nat}(hj:j=T.length+S.length):(mirror arr T.length j ((j-T.length)/2)).toList=T++(S.reverse++R):=by
 subst hj;have sz:=zC bu1 e;simp only[bf0,bb4]at sz;have at_: ∀i,arr[i]?=(T++(S++R))[i]?:=fun i=>by rw[<- e,bf2]
 apply bt5;intro i;rw[bf2,getElem?_mirror_all (by lia)];by_cases h1:i<T.length
 .rw[zN (by lia),at_,bc9 h1,bc9 h1]
 rw[bc2 (l₁:=T) (by lia)];by_cases h2:i<T.length+S.length
 .rw[zP ⟨by lia,h2⟩,at_,bc2 (by lia),bc9 (by lia),bc9 (by rw[bj5];lia),b17 (by lia),show T.length+(T.length+S.length)-1-i-T.length=S.length-1-(i-T.length) by lia]
 .rw[zN (by lia),at_,bc2 (by lia),bc2 (by lia),bc2 (by rw[bj5];lia),bj5]
end
section
variable{prog:bb9}{w:be5}{A:bg1}{E:ba6->ba7->Prop}{s:ba7}{key:bi6->Int}{κ:bu5}{ok:bi6->Prop}
structure Pc(κ:bu5)(st:bq3)(T1 T2 S0:List bi6)(st':bq3)(S:List bi6):Prop where
 kd:kindOf st'=κ
 fl:failedOf st'=none
 pd:pendingOf st'=pendingOf st
 ar:(arrOf st').toList=T1++(S++T2)
 pm:S.Perm S0
def k2u(L:kt3 prog w A E s key κ ok){st st':bq3}{T1 T2 S0 S:List bi6}(h:Pc κ st T1 T2 S0 st' S)(o: ∀z∈S0,ok z){i j a b:Nat}{Q:Option Bool->bq3->Prop}(hi:i<S.length)(hj:j<S.length)(ea:a=T1.length+i)(eb:b=T1.length+j)(k:Q (some (decide (key S[i]<key S[j]))) st'):WS prog w A E s (ltAt' a b) Q st':=by
 subst ea eb;rw[ltAt'_eq,k2s,kyx];have os: ∀i (h:i<S.length),ok S[i]:=fun i hi=>o _ (h.pm.mem_iff.mp (bf1 _));exact bk6 (cf5 (bk6 (k2t (kwe h.ar hi) (bk6 (k2t (kwe h.ar hj) (L _ _ _ _ (os i hi) (os j hj) h.kd k))))))
def kt6(L:kt3 prog w A E s key κ ok){st st0:bq3}{T1 T2 S0 S:List bi6}(h:Pc κ st T1 T2 S0 st0 S)(o: ∀z∈S0,ok z){m n:Nat}{Q:Bool->bq3->Prop}(hm:1<=m)(hmn:m<=n)(hn:n=S.length)(up:UpL key (S.take m))(k: ∀st' S',Pc κ st T1 T2 S0 st' S'->UpL key S'->Q true st'):WS prog w A E s (binarySort' T1.length n m) Q st0:=by
 have l0:S0.length=n:=by rw[hn,h.pm.length_eq]
 rw[binarySort'_eq,show max m 1=m by lia];refine bk6 (cb5 (Q:=fun c st'=>c.1=none/\∃S',Pc κ st T1 T2 S0 st' S'/\UpL key S') (b18 (fun j c st'=>c=(none,())/\∃S',Pc κ st T1 T2 S0 st' S'/\UpL key (S'.take j)) ?_ ?_ ⟨rfl,S,h,up⟩) ?_)
 .rintro i c st' hi1 hi2⟨rfl,S',h',up'⟩;have lS:S'.length=n:=by rw[h'.pm.length_eq,l0]
  have hiS:i<S'.length:=by lia
  have sI:S'=S'.take i++(S'[i]::S'.drop (i+1)):=by rw[<- bk5 hiS,bm2]
  have lT:(S'.take i).length=i:=by rw[bn9];lia
  refine bk6 (cb5 (Q:=fun c st2=>st2=st'/\c.1=none/\c.2.1<=i/\(∀ z∈S'.take c.2.1,key z<=key S'[i])/\(∀ z∈(S'.take i).drop c.2.1,key S'[i]<=key z)) (b18 (fun j c st2=>st2=st'/\∃l r,c=(none,l,r)/\l<=r/\r<=i/\(∀ z∈S'.take l,key z<=key S'[i])/\(∀ z∈(S'.take i).drop r,key S'[i]<=key z)/\r-l<=i-j) ?_ ?_ ⟨rfl,0,i,rfl,bf7 _,bb7 _,fun z hz=>(by cases hz),fun z hz=>(by rw[List.drop_of_length_le (by lia)]at hz;cases hz),by lia⟩) ?_)
  .rintro j c st2 _ hj⟨rfl,l,r,rfl,hlr,hri,b1,b2,hm'⟩;dsimp only;refine kby (fun c=>bp0 ?_) fun c=>?_
   .have:l=r:=(by lia)
    subst this;exact⟨rfl,rfl,hri,b1,b2⟩
   have hM:(l+r)/2<i:=(by lia)
   refine bk6 (k2u L h' o (i:=i) (j:=(l+r)/2) hiS (by lia) rfl rfl ?_);have tk: ∀z,z∈S'.take ((l+r)/2+1)->key z<=key (S'[(l+r)/2]'(by lia)):=fun z hz=>by
    have e1:S'.take ((l+r)/2+1)=(S'.take i).take ((l+r)/2+1):=(by rw[b62,bw0 (by lia)])
    rw[e1]at hz;exact kyy up' (by rw[b52,zP hM,ba4 (by lia)]) z hz
   have dk: ∀z,z∈(S'.take i).drop ((l+r)/2)->key (S'[(l+r)/2]'(by lia))<=key z:=fun z hz=>kpx up' (by rw[b52,zP hM,ba4 (by lia)]) z hz;by_cases hlt:key S'[i]<key (S'[(l+r)/2]'(by lia))
   .rw[zT hlt];exact kby (fun O=>bp0 ⟨rfl,l,(l+r)/2,rfl,by lia,by lia,b1,fun z hz=>co0 (Int.le_of_lt hlt) (dk z hz),by lia⟩) fun z=>zA rfl z
   .rw[zF hlt];exact kby (fun z=>zA z bb6) fun O=>bp0 ⟨rfl,(l+r)/2+1,r,rfl,by lia,hri,fun z hz=>by have:=tk z hz;lia,b2,by lia⟩
  .rintro c st2⟨rfl,l,r,rfl,hlr,hri,b1,b2,hm'⟩;have:l=r:=(by lia)
   subst this;exact⟨rfl,rfl,hri,b1,b2⟩
  .rintro⟨r0,l,r⟩ st2 ⟨rfl,e0,hl,b1,b2⟩;cases e0;dsimp only at hl b1 b2⊢;rw[moveDown'_eq];refine bk6 (cm0 (bp0 ⟨rfl,S'.take l++(S'[i]::((S'.take i).drop l++S'.drop (i+1))),⟨h'.kd,h'.fl,h'.pd,?_,?_⟩,?_⟩))
   .have e1:(arrOf st2).toList=T1++(S'.take i++(S'[i]::(S'.drop (i+1)++T2))):=by
     rw[h'.ar]
     conv=>lhs;rw[sI]
     simp only[bh6,bu7]
    have:=kt4 e1 (d:=i-l) (by lia);rw[lT,show i-(i-l)=l by lia,b62,bw0 hl]at this;show(bubble (arrOf st2) (T1.length+i) (T1.length+i-(T1.length+l))).toList=_;rw[show T1.length+i-(T1.length+l)=i-l by lia,this];simp only[bh6,bu7]
   .refine ck0 ?_ h'.pm
    conv=>rhs;rw[sI]
    have e2:S'.take i=S'.take l++(S'.take i).drop l:=by
     conv=>lhs;rw[<- bm2 l (S'.take i)]
     rw[b62,bw0 hl]
    conv=>rhs;rw[e2]
    rw[bh6];refine List.Perm.append_left _ ?_;exact(List.perm_middle).symm
   .have e3:(S'.take l++(S'[i]::((S'.take i).drop l++S'.drop (i+1)))).take (i+1)=S'.take l++(S'[i]::(S'.take i).drop l):=by
     have:S'.take l++(S'[i]::((S'.take i).drop l++S'.drop (i+1)))=(S'.take l++(S'[i]::(S'.take i).drop l))++S'.drop (i+1):=(by simp)
     rw[this,ck1 (by simp only[bb4,bg5,bn9,bq7];lia)]
    rw[e3];have e2:S'.take i=S'.take l++(S'.take i).drop l:=by
     conv=>lhs;rw[<- bm2 l (S'.take i)]
     rw[b62,bw0 hl]
    have u2:=up';unfold UpL at u2;rw[e2,bl7]at u2;refine bl7.mpr ⟨u2.1,bl3.mpr ⟨fun z hz=>b2 z hz,u2.2.1⟩,fun z hz u hu=>?_⟩;rcases bc6.mp hu with rfl|hu
    .exact b1 z hz
    .exact u2.2.2 z hz u hu
 .rintro c st'⟨rfl,S',h',up'⟩;rw[br8 (by rw[h'.pm.length_eq];lia)]at up';exact⟨rfl,S',h',up'⟩
 .rintro⟨r0,_⟩ st' ⟨e0,S',h',up'⟩;cases e0;exact bp0 (k st' S' h' up')
end
end
section
open PySem.W
section
variable{prog:bb9}{w:be5}{A:bg1}{E:ba6->ba7->Prop}{s:ba7}{key:bi6->Int}{κ:bu5}{ok:bi6->Prop}
def kl3(L:kt3 prog w A E s key κ ok){st st':bq3}{T1 T2 S0 S:List bi6}(h:Pc κ st T1 T2 S0 st' S)(o: ∀z∈S0,ok z){i j a b:Nat}{x y:bi6}{Q:Option Bool->bq3->Prop}(hx:S[i]?=some x)(hy:S[j]?=some y)(ea:a=T1.length+i)(eb:b=T1.length+j)(k:Q (some (decide (key x<key y))) st'):WS prog w A E s (ltAt' a b) Q st':=by
 obtain⟨hi,ex⟩:=bb3.mp hx;obtain⟨hj,ey⟩:=bb3.mp hy;exact k2u L h o hi hj ea eb (by rw[ex,ey];exact k)
def kl4{st st':bq3}{T1 T2 S0 U V W:List bi6}(h:Pc κ st T1 T2 S0 st' (U++(V++W))){i j:Nat}{Q:Unit->bq3->Prop}(ei:i=T1.length+U.length)(ej:j=T1.length+U.length+V.length)(k: ∀st'',Pc κ st T1 T2 S0 st'' (U++(V.reverse++W))->Q () st''):WS prog w A E s (reverseSlice' i j) Q st':=by
 refine wpS_reverse (k _ ⟨h.kd,h.fl,h.pd,?_,?_⟩)
 .have e:(arrOf st').toList=(T1++U)++(V++(W++T2)):=by rw[h.ar];simp only[bh6]
  have:=kt5 e (j:=j) (by rw[ej,bb4]);rw[bb4,<- ei]at this;show(mirror (arrOf st') i j ((j-i)/2)).toList=_;rw[this];simp only[bh6]
 .refine ck0 ?_ h.pm;exact((List.reverse_perm V).append_right W).append_left U
abbrev DnL(key:bi6->Int)(l:List bi6):Prop:=l.Pairwise fun x y=>key y<=key x
def kh7{D:List bi6}{x y:bi6}(u:UpL key (D++[y]))(h:key y<=key x):UpL key ((D++[y])++[x]):=by
 refine bl7.mpr ⟨u,br1 _ _,fun z hz v hv=>?_⟩;rw[bc4.mp hv];rcases bh3.mp hz with hz|hz
 .exact co0 ((bl7.mp u).2.2 z hz y (bc4.mpr rfl)) h
 .rw[bc4.mp hz];exact h
def k2v{D:List bi6}(u:DnL key D):UpL key D.reverse:=List.pairwise_reverse.mpr u
def kfl{D:List bi6}(h:0<D.length): ∃D' y,D=D'++[y]:=by
 rcases List.eq_nil_or_concat D with rfl|⟨D',y,e⟩
 .cases h
 .exact⟨D',y,by rw[e,List.concat_eq_append]⟩
def kpz{D W:List bi6}{x y:bi6}:((D++[y])++(x::W))[(D++[y]).length]?=some x/\((D++[y])++(x::W))[D.length]?=some y:=by
 constructor
 .rw[bc2 (bb7 _),cg6];rfl
 .rw[bh6,bc2 (bb7 _),cg6];rfl
abbrev k2w(key:bi6->Int)(V:List bi6):Prop:=∀x∈V,∀y∈V,key x=key y
def kp0{U V:List bi6}(d:DnL key (U++V))(o:k2w key V):DnL key (U++V.reverse):=by
 have h:=bl7.mp d;refine bl7.mpr ⟨h.1,?_,fun x hx y hy=>h.2.2 x hx y (bq8.mp hy)⟩;exact be0.mpr fun i j hi hj O=>co1 (o _ (bq8.mp (bf1 hj)) _ (bq8.mp (bf1 hi)))
def kwf(L:kt3 prog w A E s key κ ok){st st0:bq3}{T1 T2 S0 D W:List bi6}(h:Pc κ st T1 T2 S0 st0 (D++W))(o: ∀z∈S0,ok z){n m:Nat}(hn:n=D.length)(h0:0<n)(hm:m=S0.length)(up:UpL key D){F:Nat->Option (Option Nat)×Nat->StateT bq3 Sem (ForInStep (Option (Option Nat)×Nat))}{Q:Option (Option Nat)×Nat->bq3->Prop}
 (hF: ∀i j R st',WS prog w A E s (ltAt' (T1.length+j) (T1.length+j-1)) (fun c st''=>∃b,c=some b/\(b=true->R (.done (none,j)) st'')/\(b=false->R (.yield (none,j+1)) st'')) st'->WS prog w A E s (F i (none,j)) R st')
 (k: ∀D' W',D'++W'=D++W->D.length<=D'.length->UpL key D'->(∀ x W'',W'=x::W''->∃D'' y,D'=D''++[y]/\key x<key y)->Q (none,D'.length) st0):WS prog w A E s (forIn [n:m] (none,n) F) Q st0:=by
 have lS:D.length+W.length=m:=by rw[hm,<- h.pm.length_eq,bb4]
 refine b18 (fun i c st'=>st'=st0/\∃D' W',D'++W'=D++W/\c=(none,i)/\D'.length=i/\D.length<=i/\UpL key D') ?_ ?_ ⟨rfl,D,W,rfl,rfl,hn.symm,by lia,up⟩
 .rintro i c st' h1 h2⟨rfl,D',W',e,rfl,l,ld,u⟩;have lW:D'.length+W'.length=m:=by rw[<- lS,<- bb4,e,bb4]
  obtain⟨D'',y,rfl⟩:=kfl (D:=D') (by lia);cases W' with
  | nil=>simp only[bt6]at lW;lia
  | cons x W''=>
    have two:=kpz (D:=D'') (W:=W'') (x:=x) (y:=y);rw[e,l]at two;rw[bb4,bf8]at l;refine hF i i _ _ (kl3 L h o two.1 two.2 rfl (by lia) ?_);refine⟨_,rfl,fun hb=>?_,fun hb=>⟨rfl,(D''++[y])++[x],W'',by rw[<- e];simp,rfl,by simp;lia,by lia,kh7 u ?_⟩⟩
    .rw[decide_eq_true_eq]at hb;have:=k (D''++[y]) (x::W'') e (by rw[bb4,bf8];lia) u (fun x' W3 e3=>by cases e3;exact⟨D'',y,rfl,hb⟩);rw[bb4,bf8,l]at this;exact this
    .rw[decide_eq_false_iff_not]at hb;lia
 .rintro c st'⟨rfl,D',W',e,rfl,l,ld,u⟩;have lW:D'.length+W'.length=m:=by rw[<- lS,<- bb4,e,bb4]
  have:=k D' W' e (by lia) u (fun x W'' e3=>by rw[e3,bg5]at lW;lia);rw[l]at this;exact this
end
end
section
open PySem.W
section
variable{prog:bb9}{w:be5}{A:bg1}{E:ba6->ba7->Prop}{s:ba7}{key:bi6->Int}{κ:bu5}{ok:bi6->Prop}
def kl5{D:List bi6}{x:bi6}(d:DnL key D)(h: ∀z∈D,key x<=key z):DnL key (D++[x]):=
 bl7.mpr ⟨d,br1 _ _,fun z hz v hv=>by rw[bc4.mp hv];exact h z hz⟩
def kyz{D:List bi6}{y:bi6}(d:DnL key (D++[y])): ∀z∈D++[y],key y<=key z:=fun z hz=>by
 rcases bh3.mp hz with hz|hz
 .exact(bl7.mp d).2.2 z hz y (bc4.mpr rfl)
 .rw[bc4.mp hz];exact b01 _
def kt7{D:List bi6}{y:bi6}(d:UpL key (D++[y])): ∀z∈D++[y],key z<=key y:=fun z hz=>by
 rcases bh3.mp hz with hz|hz
 .exact(bl7.mp d).2.2 z hz y (bc4.mpr rfl)
 .rw[bc4.mp hz];exact b01 _
def k2x{V:List bi6}(o:k2w key V):DnL key V:=be0.mpr fun i j hi hj O=>co1 (o _ (bf1 hj) _ (bf1 hi))
def kt8(L:kt3 prog w A E s key κ ok){st st0:bq3}{T1 T2 S0 S:List bi6}(h:Pc κ st T1 T2 S0 st0 S)(o: ∀z∈S0,ok z){m:Nat}{Q:Option Nat->bq3->Prop}(hm:m=S0.length)(h0:0<m)(k: ∀st' D W,Pc κ st T1 T2 S0 st' (D++W)->0<D.length->UpL key D->Q (some D.length) st'):WS prog w A E s (countRun' T1.length m) Q st0:=by
 obtain⟨x0,W0,rfl⟩: ∃x W,S=x::W:=by
  cases S with
  | nil=>rw[hm,<- h.pm.length_eq]at h0;cases h0
  | cons x W=>exact⟨x,W,rfl⟩
 have lm: ∀{st':bq3}{D W:List bi6},Pc κ st T1 T2 S0 st' (D++W)->D.length+W.length=m:=fun{st' D W} p=>by rw[hm,<- p.pm.length_eq,bb4]
 rw[countRun'_eq];refine bk6 (kwf L (D:=[x0]) (W:=W0) h o rfl (ca6 0) hm (br1 _ _) (fun i j R st' H=>?_) fun D W e hle u nx=>?_)
 .refine bk6 (cb5 H fun c st'' ⟨b,hb,h1,h2⟩=>?_);subst hb;cases b with
  | true=>exact kby (fun O=>bp0 (h1 rfl)) fun z=>zA rfl z
  | false=>exact kby (fun z=>zA z bb6) fun O=>bp0 (h2 rfl)
 have hP:Pc κ st T1 T2 S0 st0 (D++W):=by rw[e];exact h
 have lW:=lm hP;have hD0:0<D.length:=by
  cases D with
  | nil=>simp at hle
  | cons=>exact ca6 _
 dsimp only;refine kby (fun c=>bp0 (k st0 D W hP hD0 u)) fun c=>?_;have c:D.length≠m:=fun z=>c (beq_iff_eq.mpr z);obtain⟨x,W,rfl⟩: ∃x W',W=x::W':=by
  cases W with
  | nil=>exact zA (by simpa using lW) c
  | cons x W=>exact⟨x,W,rfl⟩
 obtain⟨D,y,rfl,hxy⟩:=nx x W rfl;obtain⟨n,hn⟩: ∃n,n=(D++[y]).length:=⟨_,rfl⟩
 rw[<- hn];have two:=kpz (D:=D) (W:=W) (x:=x) (y:=y);have hn':n=D.length+1:=by rw[hn,bb4,bf8]
 refine kby (fun c1=>?_) (fun c1=>?_);obtain⟨z,D3,rfl⟩: ∃z D3,D=z::D3:=by
  cases D with
  | nil=>rw[hn']at c1;simp at c1
  | cons z D3=>exact⟨z,D3,rfl⟩
 refine bk6 (kl3 L hP o (i:=0) (x:=z) rfl two.2 rfl (by lia) ?_);by_cases hr:key z<key y
 .rw[zT hr];refine kby (fun O=>bp0 ?_) fun q=>zA rfl q;rw[hn];exact k st0 _ _ hP hD0 u
 rw[zF hr];refine kby (fun q=>zA q bb6) fun O=>?_;have hone:k2w key (z::D3++[y]):=by
  have hz: ∀v∈z::D3++[y],key v=key y:=fun v hv=>by
   have a1:=kt7 u v hv;have a2:key z<=key v:=kpx u (i:=0) (x:=z) rfl v hv;lia
  exact fun v hv v' hv'=>by rw[hz v hv,hz v' hv']
 refine bk6 (kl4 (U:=[]) (V:=z::D3++[y]) (W:=x::W) hP rfl (by rw[bt6];lia) fun st1 hP1=>?_);rw[by5]at hP1;have lD1:((z::D3++[y]).reverse).length=n:=by rw[bj5,hn]
 have d1:DnL key (z::D3++[y]).reverse:=k2x fun v hv v' hv'=>hone v (bq8.mp hv) v' (bq8.mp hv');have hx1: ∀v∈(z::D3++[y]).reverse,key x<=key v:=fun v hv=>by
  have:=hone v (bq8.mp hv) y (by simp);lia
 generalize(z::D3++[y]).reverse=D1 at hP1 lD1 d1 hx1;clear two hone hr hxy u hP hn'
 rotate_left
 obtain rfl:D=[]:=by
  cases D with
  | nil=>rfl
  | cons z D3=>simp only[bg5]at hn';lia
 have hP1:=hP;have lD1:([]++[y]).length=n:=hn.symm;have d1:DnL key ([]++[y]):=br1 _ _;have hx1: ∀v∈[]++[y],key x<=key v:=fun v hv=>by rw[bc4.mp hv];lia
 generalize[]++[y]=D1 at hP1 lD1 d1 hx1;clear two hxy u hP hn'
 all_goals
  refine bk6 (kpy ?_);have hS:D1++x::W=(D1++[x])++W:=by simp
  have l1:=lm hP1;rw[bg5]at l1;refine bk6 (cb5 (Q:=fun c st'=>c.1=none/\∃D W U V,Pc κ st T1 T2 S0 st' (D++W)/\D.length=c.2.1/\0<D.length/\DnL key D/\D=U++V/\V.length=c.2.2+1/\k2w key V)
   (b18 (fun i c st'=>∃D W U V q,c=(none,i,q)/\Pc κ st T1 T2 S0 st' (D++W)/\D.length=i/\0<D.length/\DnL key D/\D=U++V/\V.length=q+1/\k2w key V) ?_ ?_ ⟨D1++[x],W,D1,[x],0,rfl,hS▸hP1,by rw[bb4,bf8,lD1],by simp,kl5 d1 hx1,rfl,rfl,fun v hv v' hv'=>by rw[bc4.mp hv,bc4.mp hv']⟩) ?_)
  .rintro i c st' hi1 hi2⟨D,W,U,V,q,rfl,hP,lD,h0D,d,eD,lV,oV⟩;have lW:=lm hP;obtain⟨D',y',hD'⟩:=kfl h0D;obtain⟨x',W',rfl⟩: ∃x W',W=x::W':=by
    cases W with
    | nil=>rw[bt6]at lW;lia
    | cons x W=>exact⟨x,W,rfl⟩
   have two:=kpz (D:=D') (W:=W') (x:=x') (y:=y');rw[<- hD',lD]at two;have lD':D'.length+1=i:=(by rw[<- lD,hD',bb4,bf8])
   have hyl: ∀v∈D,key y'<=key v:=(by rw[hD'];rw[hD']at d;exact kyz d)
   have hyV:y'∈V:=by
    obtain⟨V',v,rfl⟩:=kfl (D:=V) (by lia);rw[hD',<- bh6]at eD;have:=List.append_inj_right' eD rfl;rw[List.cons.inj this |>.1];simp
   dsimp only;refine bk6 (kl3 L hP o two.1 two.2 rfl (by lia) ?_);by_cases h1:key x'<key y'
   .rw[zT h1];refine kby (fun O=>?_) fun z=>zA rfl z;refine kby (fun hq=>?_) fun hq=>?_
    .refine bk6 (kl4 (U:=U) (V:=V) (W:=x'::W') (by rw[<- bh6,<- eD];exact hP) (by have:=zC bu1 eD;rw[bb4]at this;lia) (by have:=zC bu1 eD;rw[bb4]at this;lia) fun st2 hP2=>bp0 ?_);have hD2: ∀v∈U++V.reverse,v∈D:=fun v hv=>by
      rw[eD];rcases bh3.mp hv with hv|hv
      .exact bp3 _ hv
      .exact bh7 _ (bq8.mp hv)
     refine⟨(U++V.reverse)++[x'],W',U++V.reverse,[x'],0,rfl,?_,?_,(by rw[bb4,bf8];exact ca6 _),kl5 (kp0 (eD▸d) oV) fun v hv=>by have:=hyl v (hD2 v hv);lia,rfl,rfl,fun v hv v' hv'=>by rw[bc4.mp hv,bc4.mp hv']⟩
     .have:U++(V.reverse++x'::W')=U++V.reverse++[x']++W':=(by simp)
      rw[<- this];exact hP2
     .rw[bb4,bb4,bj5,<- bb4,<- eD,lD];rfl
    .refine bp0 ⟨D++[x'],W',D,[x'],0,rfl,?_,by rw[bb4,lD];rfl,by simp,kl5 d fun v hv=>by have:=hyl v hv;lia,rfl,rfl,fun v hv v' hv'=>by rw[bc4.mp hv,bc4.mp hv']⟩;have:D++x'::W'=D++[x']++W':=(by simp)
     rw[<- this];exact hP
   .rw[zF h1];refine kby (fun z=>zA z bb6) fun O=>?_;refine bk6 (kl3 L hP o two.2 two.1 (by lia) rfl ?_);by_cases h2:key y'<key x'
    .rw[zT h2];exact kby (fun O=>bp0 ⟨rfl,D,x'::W',U,V,hP,lD,h0D,d,eD,lV,oV⟩) fun z=>zA rfl z
    .rw[zF h2];refine kby (fun z=>zA z bb6) fun O=>bp0 ⟨D++[x'],W',U,V++[x'],q+1,rfl,?_,by rw[bb4,lD];rfl,by simp,kl5 d fun v hv=>by have:=hyl v hv;lia,by rw[eD,bh6],by rw[bb4,lV];rfl,?_⟩
     .have:D++x'::W'=D++[x']++W':=(by simp)
      rw[<- this];exact hP
     .have hv1: ∀v∈V++[x'],key v=key y':=fun v hv=>by
       rcases bh3.mp hv with hv|hv
       .exact oV v hv y' hyV
       .rw[bc4.mp hv];lia
      exact fun v hv v' hv'=>by rw[hv1 v hv,hv1 v' hv']
  .rintro c st'⟨D,W,U,V,q,rfl,hP,lD,h0D,d,eD,lV,oV⟩;exact⟨rfl,D,W,U,V,hP,lD,h0D,d,eD,lV,oV⟩
  .rintro⟨r0,n2,q⟩ st2 ⟨e0,D2,W2,U,V,hP2,lD2,h0D2,d2,eD2,lV,oV⟩;cases e0;dsimp only at lD2 lV⊢;refine kby (fun hq=>?_) fun hq=>?_;refine bk6 (kl4 (U:=U) (V:=V) (W:=W2) (by rw[<- bh6,<- eD2];exact hP2) (by have:=zC bu1 eD2;rw[bb4]at this;lia) (by have:=zC bu1 eD2;rw[bb4]at this;lia) fun st3 hP3=>?_);rw[<- bh6]at hP3;have l3:(U++V.reverse).length=n2:=(by rw[bb4,bj5,<- bb4,<- eD2,lD2])
   have d3:=kp0 (eD2▸d2) oV;generalize U++V.reverse=D3 at hP3 l3 d3
   rotate_left
   have hP3:=hP2;have l3:=lD2;have d3:=d2;generalize D2=D3 at hP3 l3 d3
   all_goals
    refine bk6 (kl4 (U:=[]) (V:=D3) (W:=W2) hP3 rfl (by rw[bt6];lia) fun st4 hP4=>?_);refine bk6 (kwf L (D:=D3.reverse) (W:=W2) hP4 o (by rw[bj5,l3]) (by lia) hm (k2v d3) (fun i j R st' H=>?_) fun D W e hle u nx=>?_)
    .refine bk6 (cb5 H fun c st'' ⟨b,hb,h1,h2⟩=>?_);subst hb;cases b with
     | true=>exact kby (fun O=>bp0 (h1 rfl)) fun z=>zA rfl z
     | false=>exact kby (fun z=>zA z bb6) fun O=>bp0 (h2 rfl)
    .refine bp0 (k st4 D W ?_ (by rw[bj5]at hle;lia) u);rw[e];exact hP4
end
end
section
open PySem.W
inductive PenOk:Nat->List (List bi6)->List (Nat×Nat×Nat)->Prop
 | nil (b:Nat):PenOk b [] []
 | cons {b:Nat} {r:List bi6} {Rs:List (List bi6)} {ps:List (Nat×Nat×Nat)} (pw:Nat):PenOk (b+r.length) Rs ps->PenOk b (r::Rs) ((b,r.length,pw)::ps)
def PenOk.len{b:Nat}{Rs:List (List bi6)}{ps:List (Nat×Nat×Nat)}(h:PenOk b Rs ps):ps.length=Rs.length:=by
 induction h with
 | nil=>rfl
 | cons _ _ ih=>rw[bg5,bg5,ih]
def PenOk.snoc{b:Nat}{Rs:List (List bi6)}{ps:List (Nat×Nat×Nat)}(h:PenOk b Rs ps)(r:List bi6)(pw:Nat):PenOk b (Rs++[r]) (ps++[(b+Rs.flatten.length,r.length,pw)]):=by
 induction h with
 | nil b=>exact .cons pw (.nil _)
 | @cons b r' Rs ps pw' _ ih=>
   refine .cons pw' ?_;rw[bo3,bb4,<- b87];exact ih
section
variable{prog:bb9}{w:be5}{A:bg1}{E:ba6->ba7->Prop}{s:ba7}{key:bi6->Int}{κ:bu5}{ok:bi6->Prop}
structure Rn(key:bi6->Int)(κ:bu5)(S0:List bi6)(st:bq3)(Rs:List (List bi6))(Rest:List bi6):Prop where
 kd:kindOf st=κ
 fl:failedOf st=none
 ar:(arrOf st).toList=Rs.flatten++Rest
 pm:(Rs.flatten++Rest).Perm S0
 rs: ∀r∈Rs,0<r.length/\UpL key r
 pd:PenOk 0 Rs (pendingOf st).toList
end
end
section
open PySem.W
section
variable{prog:bb9}{w:be5}{A:bg1}{E:ba6->ba7->Prop}{s:ba7}{key:bi6->Int}{κ:bu5}{ok:bi6->Prop}
end
end
section
open PySem.W PySem.Calls
section
variable{prog:bb9}{w:be5}{A:bg1}{E:ba6->ba7->Prop}{s:ba7}
def kh8{α β:Type}{f:α->β}{l m:List β}(h:l.Perm m): ∀r:List α,m=r.map f->∃π:List α,π.Perm r/\l=π.map f:=by
 induction h with
 | nil=>intro r e;exact⟨r,bo6 _,e⟩
 | @cons x l m _ ih=>
   intro r e;cases r with
   | nil=>cases e
   | cons a r=>
     rw[bg2]at e;injection e with e1 e2;obtain⟨π,h1,h2⟩:=ih r e2;exact⟨a::π,h1.cons a,by rw[h2,e1];rfl⟩
 | swap x y l=>
   intro r e
   match r,e with
   | a::b::r,e=>
     rw[bg2,bg2]at e;injection e with e1 e2;injection e2 with e2 e3;exact⟨b::a::r,ck9 a b r,by rw[e1,e2,e3];rfl⟩
 | trans _ _ ih1 ih2=>
   intro r e;obtain⟨π,h1,h2⟩:=ih2 r e;obtain⟨π',h3,h4⟩:=ih1 π h2;exact⟨π',h3.trans h1,h4⟩
abbrev ky0(h:Heap)(a:Addr)(vs:List ba6):Heap:=((h.update a (bj9 fun O=>(#[]:Array ba6))).push (seqObj "tuple" vs.toArray 0)).push (seqObj "list" #[] 0)
end
end
section
open PySem.W PySem.Calls
section
variable{X:Cx}
end
end
section
variable{He:Hp}{K:ba2}{ι:Type}{Y:ι->Cx}{e:Expr}{pos p:Pos}
end
section
variable{He:Hp}{K:ba2}{ι:Type}{Y:ι->Cx}{e:Expr}{pos:Pos}
end
section
variable{K:ba2}{R:Hp}
end
section
variable{He:Hp}{K:ba2}{ι:Type}{Y:ι->Cx}{e a b c:Expr}{es:List Expr}{pos:Pos}
abbrev ky1(i j:Nat):Ds:=fun D env=>∃xs d,env[i]?=some (.o (xs++[d]))/\D.nx ((env.set i (.o xs)).set j (.d d))
def kp1(i j:Nat){x y:Str}{p2 p3 apos cpos:Pos}(hN: ∀m,(Y m).N.Nodup)(hv:autoParam (∀ m,PE (Y m) (.Name x p2) (kg9 i)) Z8)(hi:autoParam (∀ m,(Y m).N[j]?=some y) Z3)(hx:autoParam (∀ m,Loc (Y m).env.scope y) Z12)(hK:autoParam (∀ m,(Y m).K=K) Z3)
 (hbase:autoParam (∀ m,bm8 (.Name x p2) "pop" (Y m).env (eval (.Name x p2) (Y m).env)=eval (.Name x p2) (Y m).env) Z3)(hline:autoParam ((apos.endLine==cpos.line)=true) Z4)
 (hs:autoParam (∀ m,bs6 (.Call (.Attribute (.Name x p2) "pop" apos) [] [] cpos) (some (.Name y p3)) pos.line (Y m).env=pure false) Z3)(hf:autoParam (∀ m,(Y m).fn y=true\/(Y m).env.scope.names.lookup y=some .local) Z13):
 DS He K Y (.Assign [.Name y p3] (.Call (.Attribute (.Name x p2) "pop" apos) [] [] cpos) pos) (ky1 i j):=by
 refine⟨_,fun m=>kgd (hN m) (hi m) (hx m) (kyr K (hK m) bk1 b13 b14 k16 (hv m) (hbase m) hline) (hs m) (hf m),fun{H0 R0 R H σ env} D E F s c p=>?_⟩;obtain⟨xs,d,ex,p⟩:=p;obtain⟨a,ys,h1,h2,h3,h4,h5⟩:=F.lstAt ex;obtain⟨v,hv',rv⟩:=h5.get' (i:=xs.length) (d:=d) (by simp);have hl:ys.length=xs.length+1:=by rw[h5.len];simp
 have r':RpAll K R ys.dropLast xs:=by
  have:=RpAll.take xs.length h5;rw[ck1]at this
  .rwa [List.dropLast_eq_take,hl]
  .rfl
 refine⟨_,h1,.inl ⟨rfl,_,SqL.of h2⟩,a,ys,v,rfl,rfl,h2,by rw[hl];exact hv',?_⟩;exact c.nx _ _ _ _ p s ((F.lstSet ex h1 h3 h4 r').setD j rv)
end
section
open PySem.W
section
variable{X:Cx}{pI:List (Addr×Obj)}{σ:St}{H:Hp}{s:ba7}
def kl6: ∀{ns:List Int}{its:List ba6},Vals (ns.map V.int) its->IntsAre its ns
 | [],_,r=>by rw[b12]at r;cases r;exact IntsAre.nil
 | n::ns,_,r=>by
   rw[bg2]at r;cases r with
   | cons h t=>
     obtain⟨tk,rfl⟩:=h;exact IntsAre.cons _ _ (kl6 t)
end
section
variable{He:Hp}{K:ba2}{ι:Type}{Y:ι->Cx}{e:Expr}{pos p:Pos}
end
section
variable{X:Cx}
def kjw: ∀{vs:List ba6}{ns:List Int},IntsAre vs ns->Vals (ns.map V.int) vs
 | _,_,.nil=> .nil
 | _,_,.cons _ t h=> .cons ⟨t,rfl⟩ (kjw h)
end
section
variable{He:Hp}{K:ba2}{ι:Type}{Y:ι->Cx}{e:Expr}{pos p:Pos}
end
end
section
variable{K:ba2}{R:Hp}
end
section
variable{He:Hp}{K:ba2}{ι:Type}{Y:ι->Cx}{e a b c:Expr}{es:List Expr}{pos:Pos}
end
section
open PySem.W PySem.Calls
section
variable{prog:bb9}{w:be5}{A:bg1}{E:ba6->ba7->Prop}{s:ba7}{d it:Addr}{es:Array DictEntry}{ep i:Nat}
end
end
section
open PySem.W PySem.Calls
def kp2{h0 h:Heap}{L D:Addr}{m:Str->Option ba6}{news:List (Addr×Obj)}{vs out:List ba6}(F:Fr h0 L h m)(N:News h0 L h ((D,listOf vs.toArray 0)::news))(hD: ∀q∈news,q.1<D):
 ∃c,Fr h0 L (sortedHeap h D vs out.toArray) m/\News h0 L (sortedHeap h D vs out.toArray) ((D,listOf out.toArray c)::news):=by
 have z:=N _ bb8;obtain⟨c,hc⟩:=sortedHeap_at (vs:=vs) (out:=out.toArray) (n:=0) z.1;refine⟨c,ksk_fr (((ksk_fr F (br5 h D _) z.2.1 z.2.2).push _).push _) (br5 _ D _) z.2.1 z.2.2,fun p hp=>?_⟩;rcases bc6.mp hp with rfl|hp
 .exact⟨hc,z.2⟩
 .have y:=N p (bc0 _ hp);exact⟨(sortedHeap_old (fun e=>zA (hD p hp) (by rw[e];exact bk7 _)) (bd0 y.1)).trans y.1,y.2⟩
def kjx{α:Type}{f:α->Addr}: ∀l:List α,Vals (l.map fun x=>V.ref (f x)) (l.map fun x=>bg0 (f x))
 | []=> .nil
 | _::l=> .cons rfl (kjx l)
section
variable{X:Cx}
end
section
variable{He:Hp}{K:ba2}{ι:Type}{Y:ι->Cx}{e:Expr}{pos p:Pos}
end
end
section
variable{He:Hp}{K:ba2}{H0 R H:Hp}{σ:St}{env:List Dt}
end
section
variable{He:Hp}{K:ba2}{ι:Type}{Y:ι->Cx}{e a b c:Expr}{es:List Expr}{pos:Pos}
end
section
variable{He:Hp}{K:ba2}{ι:Type}{Y:ι->Cx}{e:Expr}{es:List Expr}{pos p:Pos}{prog:bb9}{w:be5}{mg:Str->Option ba6}{base:Heap}{x:Str}{k:Nat}{ps:List Str}{P:List bb0->(Dt->Prop)->Prop}{t:Dq}
def SlotR.old{H0 H1 R H:Hp}{v:Option V}{d:Dt}(h:SlotR K H1 R H v d)(s:Same H0 H1):SlotR K H0 R H v d:=by
 cases d with
 | un=>cases v <;> trivial
 | d y=>cases v <;> exact h
 | o xs=>cases v with
   | none=>exact h
   | some v=>obtain⟨a,ys,h1,h2,h3,h4,h5⟩:=h;exact⟨a,ys,h1,h2,h3,s.free h4,h5⟩
 | dv xs=>cases v with
   | none=>exact h
   | some v=>obtain⟨a,ys,h1,h2,h3,h4,h5⟩:=h;exact⟨a,ys,h1,h2,h3,s.free h4,h5⟩
 | ot xs xss=>cases v with
   | none=>exact h
   | some v=>obtain⟨a,ys,zs,h1,h2,h3,h4,h5,h6⟩:=h;exact⟨a,ys,zs,h1,h2,h3,h4,Paired.mapP h5 fun _ _ ⟨b,zs,k1,k2,k3,k4,k5⟩=>⟨b,zs,k1,k2,k3,s.free k4,k5⟩,h6⟩
abbrev kp3(i:Nat)(P:List bb0->(Dt->Prop)->Prop)(t:Dq):Ds:=fun D env=>t env fun ds=>P ds fun dt=>D.nx (env.set i dt)
def kh9(i:Nat){y:Str}{pos':Pos}{cp:Pos}(hN: ∀j,(Y j).N.Nodup)(G:Fn prog w K mg base x k ps (spG K P))(hr: ∀i,Room k (Y i).A)(ha:DA He K Y (e::es) t)(hi:autoParam (∀ j,(Y j).N[i]?=some y) Z3)(hx:autoParam (∀ j,Loc (Y j).env.scope y) Z12)
 (hX:autoParam (∀ i,(Y i).prog=prog/\(Y i).w=w/\(Y i).K=K/\(Y i).mg=mg/\(Y i).base=base) Z11)(hg:autoParam (∀ i,Gl (Y i) x) Z3)
 (hdb:autoParam ((x==("__debug__":Str))=false) Z2)(he:autoParam (∀ i,bc5 (e::es) (Y i).env=(false,eval e (Y i).env)::bc5 es (Y i).env) Z3)(hpl:autoParam (∀ i,(backTo cp (bc5 es (Y i).env)).any (·.1)=false) Z3)
 (hs:autoParam (∀ j,bs6 (.Call (.Name x p) (e::es) [] cp) (some (.Name y pos')) pos.line (Y j).env=pure false) Z3)(hf:autoParam (∀ j,(Y j).fn y=true\/(Y j).env.scope.names.lookup y=some .local) Z13):
 DS He K Y (.Assign [.Name y pos'] (.Call (.Name x p) (e::es) [] cp) pos) (kp3 i P t):=by
 obtain⟨te,h1,h2⟩:=ha;refine⟨k1m (k2i K P te) (kol i),fun j=>kgd (hN j) (hi j) (hx j) ?_ (hs j) (hf j),fun D E F s c pp=>h2 _ _ F pp fun ds vs R1 H1 q1 e1 r1=>⟨R1,ds,_,e1.wd,r1,q1,fun dt v R' H' q ex sl=>?_⟩⟩
 .obtain⟨a1,a2,a3,a4,a5⟩:=hX j;subst a1 a2 a3 a4 a5;exact klz G (hr j) (h1 j) rfl (hg j) hdb (he j) (hpl j)
 .have e2:=e1.trans ex;refine c.nx _ _ _ _ q (s.trans e2.rr) (F.setN' e2 i ?_ fun b hb=>?_)
  .exact sl.old (F.ext.hh.trans e1.hh)
  .obtain⟨_,_,_,z⟩:=sl.hasAt hb;exact e1.hh.free z
end
section
open PySem.W PySem.Calls
section
variable{prog:bb9}{w:be5}{A:bg1}{E:ba6->ba7->Prop}{s:ba7}
end
section
variable{X:Cx}{pos:Pos}
def knu(K:ba2)(hK:X.K=K):kdk X (.builtin "sorted") (fun xs H Q=>∃(p:Addr)(ns:List Int),xs=[.ref p]/\SqL K H p (ns.map V.int)/\ns.length<64/\∀(l:Addr)(ms:List Int),H l=none->ms.Perm ns->ms.Pairwise (· <= ·)->Q (.ref l) (upd H l (.lst (ms.map V.int)))):=by
 subst hK;intro pI s σ H xs us Q I r h;obtain⟨p,ns,rfl,hq,h64,k⟩:=h;obtain⟨u,rfl,r1⟩:=kef r;cases(show u=bg0 p from r1);obtain⟨its,rv,pl,hz⟩:=I.list hq;have hi:=kl6 rv;refine sorted_ints pl.isList hi (by rw[<- rv.length,ba3];exact h64) fun out ms h1 h2 h3=>?_;obtain⟨e,at_⟩:=cg7 s.heap its out;have hf:H (s.heap.objs.size+1)=none:=I.hok.fresh (bu2 _);refine⟨.ref (s.heap.objs.size+1),upd H (s.heap.objs.size+1) (.lst (ms.map V.int)),?_,rfl,k _ ms hf h2 h3⟩;exact I.laid (t':=s.toks) (fun b o e=>cd6 e) (bu2 _) ⟨by rw[ba3,h2.length_eq,bu0];lia,out.toList,e,kjw h1,by rw[bw8];exact at_⟩
end
section
variable{He:Hp}{K:ba2}{ι:Type}{Y:ι->Cx}{e a b:Expr}{pos p:Pos}
abbrev kp4(t:Dq):Dq:=fun env P=>t env fun xs=>∃ns:List Int,xs=ns.map ba1/\ns.length<64/\∀ms:List Int,ms.Perm ns->ms.Pairwise (· <= ·)->P (ms.map ba1)
def kt9{t:Dq}(h:DL He K Y e t)(hm: ∀i,(Y i).mg "sorted"=none)(hg:autoParam (∀ i,Gl (Y i) "sorted") Z3)(hK:autoParam (∀ i,(Y i).K=K) Z3)(hs:autoParam (∀ i,bc5 [e] (Y i).env=[(false,eval e (Y i).env)]) Z3):
 DO He K Y (.Call (.Name "sorted" p) [e] [] pos) (kp4 t):=by
 obtain⟨te,h1,h2⟩:=h;refine⟨_,fun i=>kcw (knu K (hK i)) (hg i) (hm i) ke5 (kaq (h1 i) ka2 (hs i)) (by decide) (by decide) (hs i) rfl,fun P Q F p k=>h2 _ _ F p fun ds a ys R1 H1 pd e1 ha r1=>?_⟩;obtain⟨ns,rfl,h64,kk⟩:=pd;refine⟨a,ns,rfl,by rw[<- r1.ints_inv];exact SqL.of ha,h64,fun l ms hn hp hs=>?_⟩;exact k _ l _ R1 _ (kk _ hp hs) (e1.trans (Ext.newO e1.wd hn trivial)) (e1.hh.free hn) kak (e1.wd.rh.free hn) (RpAll.ints ms)
end
section
variable{X:Cx}
end
section
variable{X:Cx}{e:Expr}{es:List Expr}{pos p2:Pos}
end
section
variable{He:Hp}{K:ba2}{ι:Type}{Y:ι->Cx}{e a b:Expr}{es:List Expr}{pos p p2 apos cpos:Pos}{lo hi:Option Expr}
def Rp.str_inv'{R:Hp}{v:V}{s:Str}(r:Rp K R v (.str s)):v= .str s:=by
 generalize hd:bb0.str s=d at r;cases r with
 | str _=>cases hd;rfl
 | scr _=>unfold kd7 at hd;cases hd
 | any=>unfold anyD at hd;cases hd
 | xc _=>unfold excD at hd;cases hd
 | _=>cases hd
def kp5(a b:Str):(a.cps.toList==b.cps.toList)=decide (a=b):=by
 rw[bh5,beq_iff_eq,decide_eq_true_iff];refine⟨fun h=>?_,fun h=>by rw[h]⟩;obtain⟨⟨a⟩⟩:=a;obtain⟨⟨b⟩⟩:=b;exact zC (fun l=>(⟨⟨l⟩⟩:Str)) h
abbrev kua(n:Bool):bb0->bb0->(bb0->Prop)->Prop:=fun x y P=>∃a b,x= .str a/\y= .str b/\P (.bool (xor n (decide (a=b))))
abbrev rEqS(n:Bool):R2:=fun x y H Q=>∃a b,x= .str a/\y= .str b/\Q (.bl (xor n (decide (a=b)))) H
def k2y{X:Cx}:OpR X (bh0 .Eq) (rEqS false):=by
 intro pI s σ H x y v u Q I rx ry h;obtain⟨a,b,rfl,rfl,q⟩:=h;obtain⟨t,rfl⟩:=rx;obtain⟨t',rfl⟩:=ry;exact PySem.P.eq_str ⟨.bl _,H,I,rfl,by rw[kp5];rw[cc0]at q;exact q⟩
def k2z{X:Cx}:OpR X (bh0 .NotEq) (rEqS true):=by
 intro pI s σ H x y v u Q I rx ry h;obtain⟨a,b,rfl,rfl,q⟩:=h;obtain⟨t,rfl⟩:=rx;obtain⟨t',rfl⟩:=ry;refine PySem.P.ne_str ⟨.bl _,H,I,rfl,?_⟩;have:(a.cps.toList != b.cps.toList)=xor true (decide (a=b)):=by rw[<- kp5,cd7];rfl
 rw[this];exact q
def k20:OD K Y (bh0 .Eq) (kua false):=by
 refine⟨_,fun O=>k2y,fun P Q r1 r2 p k=>?_⟩;obtain⟨a,b,rfl,rfl,p⟩:=p;exact⟨a,b,r1.str_inv',r2.str_inv',k _ _ p (ko9 _)⟩
def kwg:OD K Y (bh0 .NotEq) (kua true):=by
 refine⟨_,fun O=>k2z,fun P Q r1 r2 p k=>?_⟩;obtain⟨a,b,rfl,rfl,p⟩:=p;exact⟨a,b,r1.str_inv',r2.str_inv',k _ _ p (ko9 _)⟩
end
end
section
variable{prog:bb9}{w:be5}{A:bg1}{E:ba6->ba7->Prop}
end
section
variable{X:Cx}{pI:List (Addr×Obj)}{σ:St}{H:Hp}{s:ba7}{C:Addr}{x:Str}{np cpos pos mp pp:Pos}{msg:Str}{jj kk:Nat}{Q:ba6->ba7->Prop}{E:ba6->ba7->Prop}
end
section
variable{P:bb9}{w:be5}{K:ba2}{mg:Str->Option ba6}{base:Heap}{N:List Str}{qual:Str}{scope:b05}{f:Addr}{cd:ba6}{A:bg1}{outer:List Env}{s:ba7}{H:Hp}{E:XK}{x c:Str}{C D:Addr}{np np2 cpos rpos hpos pos mp pp:Pos}{msg:Str}{jj kk:Nat}{W:Addr->Prop}{body:List Stmt}{t:Ds}
end
section
variable{P:bb9}{w:be5}{K:ba2}{mg:Str->Option ba6}{base:Heap}{N:List Str}{qual:Str}{scope:b05}{f:Addr}{cd:ba6}{A:bg1}{outer:List Env}{s:ba7}{H:Hp}{E:XK}
end
section
variable{X:Cx}{scope:b05}{N':List Str}{s:ba7}{H:Hp}{fp:List Addr}
end
section
variable{P:bb9}{w:be5}{K:ba2}{mg:Str->Option ba6}{base:Heap}{N:List Str}{qual:Str}{fscope:b05}{f:Addr}{cd:ba6}{A:bg1}{outer:List Env}{s0:ba7}{H0:Hp}{E0:XK}
variable{scope:b05}{N':List Str}{js:List (Option Nat)}{elt tg iter:Expr}{ifs:List Expr}{pos:Pos}{wi:TI}{g:TG}{tc:TT}{te:TE}{Wc:Addr->Prop}
end
section
open PySem.W PySem.Calls
section
variable{X:Cx}
def kwh{a b:Int}{its:List ba6}(r:Vals [V.int a,V.int b] its): ∃t u,its=[.int a t,.int b u]:=by
 cases r with
 | cons h1 r=>
   cases r with
   | cons h2 r=>
     cases r;obtain⟨t,rfl⟩:=h1;obtain⟨u,rfl⟩:=h2;exact⟨t,u,rfl⟩
end
section
variable{He:Hp}{K:ba2}{ι:Type}{Y:ι->Cx}{e a b tg:Expr}{es:List Expr}{pos p p2:Pos}
end
end
end L2
namespace L2
open PySem PySem.SetTable
def kub{xs:Array Nat}(hs:xs.toList.Pairwise (· < ·))(j:Nat): ∀fuel lo hi:Nat,hi-lo<=fuel->lo<=hi->hi<=xs.size->(∀ i (h:i<xs.size),i<lo->xs[i]<j)->(∀ i (h:i<xs.size),hi<=i->j<=xs[i])->
 below.go xs j fuel lo hi<=xs.size/\(∀ i (h:i<xs.size),i<below.go xs j fuel lo hi->xs[i]<j)/\∀i (h:i<xs.size),below.go xs j fuel lo hi<=i->j<=xs[i]:=by
 have le: ∀a b (ha:a<xs.size) (hb:b<xs.size),a<=b->xs[a]<=xs[b]:=fun a b ha hb h=>by
  rcases bp1 h with h|rfl
  .have:=be0.mp hs a b (by simpa using ha) (by simpa using hb) h;simp only[b25]at this;exact ca3 this
  .exact bb7 _
 intro fuel;induction fuel with
 | zero=>
   intro lo hi h1 h2 h3 h4 h5;have:lo=hi:=(by lia)
   subst this;exact⟨h3,h4,h5⟩
 | succ fuel ih=>
   intro lo hi h1 h2 h3 h4 h5;unfold below.go;by_cases c:lo<hi
   .rw[zP c];have hm:(lo+hi)/2<xs.size:=(by lia)
    dsimp only;rw[show xs.getD ((lo+hi)/2) j=xs[(lo+hi)/2]from by simp[hm]];by_cases d:xs[(lo+hi)/2]<j
    .rw[zP d];exact ih _ _ (by lia) (by lia) h3 (fun i h q=>b50 (le i _ h hm (by lia)) d) h5
    .rw[zN d];exact ih _ _ (by lia) (by lia) (by lia) h4 fun i h q=>bi9 (ch4 d) (le _ i hm h q)
   .rw[zN c];have:lo=hi:=(by lia)
    subst this;exact⟨h3,h4,h5⟩
def kia{xs:Array Nat}(hs:xs.toList.Pairwise (· < ·))(j:Nat):below xs j<=xs.size/\(∀ i (h:i<xs.size),i<below xs j->xs[i]<j)/\∀i (h:i<xs.size),below xs j<=i->j<=xs[i]:=
 kub hs j _ _ _ (by lia) (bf7 _) (bb7 _) (fun i O h=>zA h (bj6 _)) fun i h q=>zA h (by lia)
def kuc{xs:Array Nat}(hs:xs.toList.Pairwise (· < ·)){j i:Nat}(h:xs[i]?=some j):below xs j=i:=by
 obtain⟨hi,e⟩:=b45.mp h;obtain⟨a,b,c⟩:=kia hs j;have lt: ∀a b (ha:a<xs.size) (hb:b<xs.size),a<b->xs[a]<xs[b]:=fun a b ha hb h=>by
  have:=be0.mp hs a b (by simpa using ha) (by simpa using hb) h;simpa only[b25]using this
 rcases bl1 (below xs j) i with z|z|z
 .have h1:=c (below xs j) (by lia) (bb7 _);have h2:=lt _ _ (by lia) hi z;lia
 .exact z
 .have:=b i hi z;lia
@[reducible]def kd1:=Nat×(Int×ba6)
structure TbR(t:SetTable)(es:Array (Int×ba6))(R:List kd1):Prop where
 p:t.place.toList=R.map (·.1)
 e:es.toList=R.map (·.2)
 d:t.dummies= #[]
 up:(R.map (·.1)).Pairwise (· < ·)
 le: ∀r∈R,r.1<=t.mask
def TbR.slot_live{t:SetTable}{es:Array (Int×ba6)}{R:List kd1}(T:TbR t es R){i:Nat}{r:kd1}(h:R[i]?=some r):t.slot r.1= .live i:=by
 have hp:t.place[i]?=some r.1:=by
  rw[<- bf2,T.p,bc8,h];rfl
 have hb:=kuc (by rw[T.p];exact T.up) hp;unfold cm4;dsimp only;rw[hb,hp,zP (beq_self_eq_true _)]
def TbR.slot_empty{t:SetTable}{es:Array (Int×ba6)}{R:List kd1}(T:TbR t es R){j:Nat}(h: ∀r∈R,r.1≠j):t.slot j= .empty:=by
 unfold cm4;dsimp only;rw[zN]
 .rw[T.d];rfl
 .intro z;have z:=cj1 z;rw[<- bf2,T.p,bc8]at z;obtain⟨r,hr,e⟩:=be2.mp z;exact h r (bd9 hr) e
abbrev adv(m:Nat)(p:Probe):Probe:=
 if p.more > 0 then{p with j:=p.j+1,more:=p.more-1}else{p with j:=(leap m p.i p.perturb).1,more:=runEnd m (leap m p.i p.perturb).1-(leap m p.i p.perturb).1,i:=(leap m p.i p.perturb).1,perturb:=(leap m p.i p.perturb).2}
abbrev at0(m i q:Nat):Probe:=⟨i,runEnd m i-i,i,q,none⟩
abbrev pr(m:Nat)(h:Int):Nat->Probe
 | 0=>at0 m (bits h % (m+1)) (bits h)
 | n+1=>adv m (pr m h n)
def kic(m:Nat)(h:Int): ∀n,(pr m h n).dummy=none
 | 0=>rfl
 | n+1=>by
   show(adv m (pr m h n)).dummy=none;unfold adv;split <;> exact kic m h n
abbrev Past(R:List kd1)(m:Nat)(h:Int)(a b:Nat):Prop:=∀q,a<=q->q<b->∃r∈R,r.1=(pr m h q).j/\r.2.1≠h
def Past.one{R:List kd1}{m:Nat}{h:Int}{a b:Nat}{r:kd1}(hr:r∈R)(e:r.1=(pr m h a).j)(n:r.2.1≠h)(x:Past R m h (a+1) b):Past R m h a b:=fun q h1 h2=>by
 rcases bp1 h1 with z|rfl
 .exact x q z h2
 .exact⟨r,hr,e,n⟩
abbrev ky2(R:List kd1)(m:Nat)(h:Int)(n fuel:Nat):Option Met->Prop
 | none=>Past R m h n (n+fuel)
 | some (.empty j d)=>d=none/\∃k,n<=k/\j=(pr m h k).j/\(∀ r∈R,r.1≠j)/\Past R m h n k
 | some (.candidate j i next)=>∃k r,n<=k/\j=(pr m h k).j/\R[i]?=some r/\r.1=j/\r.2.1=h/\next=pr m h (k+1)/\Past R m h n k
def k21{t:SetTable}{es:Array (Int×ba6)}{R:List kd1}(T:TbR t es R){f:Nat->Int}{h:Int}(hf: ∀i r,R[i]?=some r->f i=r.2.1):
 ∀fuel n,ky2 R t.mask h n fuel (probe.go t f h fuel (pr t.mask h n))
 | 0,n=>fun q h1 h2=>by lia
 | fuel+1,n=>by
   unfold probe.go;by_cases c: ∃r∈R,r.1=(pr t.mask h n).j
   .obtain⟨r,hr,e⟩:=c;obtain⟨i,hi⟩:=bj0.mp hr;rw[<- e,T.slot_live hi];dsimp only;rw[hf i r hi];by_cases d:r.2.1=h
    .rw[d,zP (beq_self_eq_true _)];exact⟨n,r,bb7 _,e,hi,rfl,d,rfl,fun q h1 h2=>by lia⟩
    .rw[zN (fun z=>d (cj1 z))];have ih:=k21 (h:=h) T hf fuel (n+1);show ky2 R t.mask h n (fuel+1) (probe.go t f h fuel (pr t.mask h (n+1)))
     revert ih
     generalize probe.go t f h fuel (pr t.mask h (n+1))=g;intro ih
     match g,ih with
     | none,ih=>exact Past.one hr e d (by rw[show n+(fuel+1)=n+1+fuel by lia];exact ih)
     | some (.empty j d'),⟨h1,k,h2,h3,h4,h5⟩=>exact⟨h1,k,by lia,h3,h4,Past.one hr e d h5⟩
     | some (.candidate j i' nx),⟨k,r',h2,h3,h4,h5,h6,h7,h8⟩=>exact⟨k,r',by lia,h3,h4,h5,h6,h7,Past.one hr e d h8⟩
   .rw[T.slot_empty (fun r hr e=>c ⟨r,hr,e⟩)];exact⟨kic _ _ _,n,bb7 _,rfl,fun r hr e=>c ⟨r,hr,e⟩,fun q h1 h2=>by lia⟩
abbrev OkM(m:Nat):Prop:=m=7\/m=31
abbrev lf(m i:Nat):Nat:=(i*5+1) % (m+1)
abbrev itr(m i:Nat):Nat->Nat
 | 0=>i
 | r+1=>lf m (itr m i r)
def all7: ∀i<8,∀s<8,∃r<8,itr 7 i r=s:=by decide +kernel
def all31: ∀i<32,∀s<32,∃r<32,itr 31 i r=s:=by decide +kernel
def OkM.all{m:Nat}(h:OkM m){i s:Nat}(hi:i<=m)(hs:s<=m): ∃r,r<=m/\itr m i r=s:=by
 rcases h with rfl|rfl
 .obtain⟨r,h1,h2⟩:=all7 i (by lia) s (by lia);exact⟨r,by lia,h2⟩
 .obtain⟨r,h1,h2⟩:=all31 i (by lia) s (by lia);exact⟨r,by lia,h2⟩
abbrev adN(m:Nat)(p:Probe):Nat->Probe
 | 0=>p
 | n+1=>adv m (adN m p n)
def kid(m:Nat)(p:Probe)(a:Nat): ∀b,adN m p (a+b)=adN m (adN m p a) b
 | 0=>rfl
 | b+1=>by show adv m (adN m p (a+b))=adv m _;rw[kid m p a b]
def kp6(m:Nat)(h:Int)(a:Nat): ∀b,pr m h (a+b)=adN m (pr m h a) b
 | 0=>rfl
 | b+1=>by show adv m (pr m h (a+b))=adv m _;rw[kp6 m h a b]
def kf8(m:Nat): ∀(c:Nat)(p:Probe),p.more=c->p.dummy=none->adN m p (c+1)=at0 m (leap m p.i p.perturb).1 (leap m p.i p.perturb).2
 | 0,p,h,hd=>by
   show adv m p=_;unfold adv;rw[zN (by lia)];unfold at0;rw[<- hd]
 | c+1,p,h,hd=>by
   have e:adv m p={p with j:=p.j+1,more:=p.more-1}:=(by unfold adv;rw[zP (by lia)])
   rw[show c+1+1=1+(c+1) by lia,kid];show adN m (adv m p) (c+1)=_;rw[e];exact kf8 m c _ (by show p.more-1=c;lia) hd
def kgp(m i:Nat):runEnd m i-i<=9:=by unfold runEnd;split <;> lia
def kp7(m:Nat)(h:Int): ∀n,(pr m h n).more<=9
 | 0=>kgp _ _
 | n+1=>by
   show(adv m (pr m h n)).more<=9;unfold adv;split
   .have:=kp7 m h n;dsimp only;lia
   .exact kgp _ _
def kp8(h:Int):bits h<2 ^ 64:=by
 unfold bits;have h1:0<=h % (2 ^ 64:Int):=bp9 _ (by decide);have h2:h % (2 ^ 64:Int)<2 ^ 64:=bp2 _ (by decide);lia
def kp9(m:Nat)(h:Int): ∀n,(pr m h n).perturb<2 ^ 64
 | 0=>kp8 h
 | n+1=>by
   have ih:=kp9 m h n;show(adv m (pr m h n)).perturb<2 ^ 64;unfold adv;split
   .exact ih
   .show(pr m h n).perturb/32<2 ^ 64;lia
abbrev trn(m:Nat):Nat->Nat->Nat->Nat×Nat
 | i,q,0=>(i,q)
 | i,q,r+1=>leap m (trn m i q r).1 (trn m i q r).2
def kjy(m i q:Nat): ∀r,∃n,n<=10*r/\adN m (at0 m i q) n=at0 m (trn m i q r).1 (trn m i q r).2
 | 0=>⟨0,bb7 _,rfl⟩
 | r+1=>by
   obtain⟨n,h1,h2⟩:=kjy m i q r;have:=kgp m (trn m i q r).1;refine⟨n+((runEnd m (trn m i q r).1-(trn m i q r).1)+1),by lia,?_⟩;rw[kid,h2];exact kf8 m _ (at0 m _ _) rfl rfl
def kl7(m i q:Nat): ∀r,(trn m i q r).2=q/32 ^ r
 | 0=>by simp[trn]
 | r+1=>by
   show(trn m i q r).2/32=_;rw[kl7 m i q r,Nat.div_div_eq_div_mul,co2]
def kku(m i q a:Nat): ∀b,trn m i q (a+b)=trn m (trn m i q a).1 (trn m i q a).2 b
 | 0=>rfl
 | b+1=>by
   show leap m (trn m i q (a+b)).1 (trn m i q (a+b)).2=leap m _ _;rw[kku m i q a b]
def kl8(m i:Nat): ∀r,trn m i 0 r=(itr m i r,0)
 | 0=>rfl
 | r+1=>by
   show leap m (trn m i 0 r).1 (trn m i 0 r).2=_;rw[kl8 m i r];simp[leap,itr,lf]
def kkv(m i q:Nat):(leap m i q).1<=m:=by
 have:(i*5+1+q/32) % (m+1)<m+1:=b29 _ (by lia);show(i*5+1+q/32) % (m+1)<=m;lia
def kjz{m:Nat}(hm:OkM m){i q s:Nat}(hi:i<=m)(hq:q<2 ^ 64)(hs:s<=m): ∃r,r<=13+m/\(trn m i q r).1=s:=by
 have h13:(trn m i q 13).2=0:=by rw[kl7];exact Nat.div_eq_of_lt (by lia)
 have hi':(trn m i q 13).1<=m:=kkv m _ _;obtain⟨r,h1,h2⟩:=hm.all hi' hs;exact⟨13+r,by lia,by rw[kku,h13,kl8];exact h2⟩
def kwi{m:Nat}(hm:OkM m)(h:Int)(n:Nat){s:Nat}(hs:s<=m): ∃k,n<=k/\k<n+10*turns m/\(pr m h k).j=s:=by
 have h1:=kf8 m _ (pr m h n) rfl (kic m h n);obtain⟨r,h2,h3⟩:=kjz hm (kkv m (pr m h n).i (pr m h n).perturb) (q:=(leap m (pr m h n).i (pr m h n).perturb).2) (by have:=kp9 m h n;show(pr m h n).perturb/32<_;lia) hs;obtain⟨k,h4,h5⟩:=kjy m (leap m (pr m h n).i (pr m h n).perturb).1 (leap m (pr m h n).i (pr m h n).perturb).2 r;have:=kp7 m h n;refine⟨n+(((pr m h n).more+1)+k),by lia,by unfold turns;lia,?_⟩;rw[kp6,kid,h1,h5];exact h3
def kud{m:Nat}(hm:OkM m){R:List kd1}{h:Int}{n:Nat}(hl:R.length<=m)(x:Past R m h n (n+10*turns m)):False:=by
 have sub:ba8 (m+1) ⊆ R.map (·.1):=fun s hs=>by
  obtain⟨k,h1,h2,h3⟩:=kwi hm h n (s:=s) (by have:=bb2.mp hs;lia);obtain⟨r,hr,e,_⟩:=x k h1 h2;exact bb1.mpr ⟨r,hr,e.trans h3⟩
 have:=(bj2 (n:=m+1)).length_le_of_subset sub;rw[be8,ba3]at this;lia
def ky3(j:Nat):has #[] j=false:=rfl
def kl9{α:Type}(xs:Array α)(p:Nat)(x:α):(insertAt xs p x).toList=xs.toList.take p++x::xs.toList.drop p:=by
 unfold insertAt;simp[List.extract_eq_drop_take];exact br8 (by simp)
def k22: ∀{l:List Nat}{j p:Nat},l.Pairwise (· < ·)->(∀ i (h:i<l.length),i<p->l[i]<j)->(∀ i (h:i<l.length),p<=i->j<l[i])->(l.take p++j::l.drop p).Pairwise (· < ·):=fun{l j p} hs h1 h2=>by
 refine bl7.mpr ⟨hs.sublist (b70 _ _),bl3.mpr ⟨fun y hy=>?_,hs.sublist (cf4 _ _)⟩,fun a ha b hb=>?_⟩
 .obtain⟨i,hi,rfl⟩:=b63.mp hy;exact h2 (p+i) (by lia) (by lia)
 .obtain⟨i,hi,rfl⟩:=b64.mp ha;have hlt:=h1 i (by lia) (by lia);rcases bc6.mp hb with rfl|hb
  .exact hlt
  .obtain⟨k,hk,rfl⟩:=b63.mp hb;exact cn5 hlt (h2 (p+k) (by lia) (by lia))
def TbR.put{t:SetTable}{es:Array (Int×ba6)}{R:List kd1}(T:TbR t es R){j:Nat}{x:Int×ba6}(hj: ∀r∈R,r.1≠j)(hm:j<=t.mask):
 ∃R',TbR (t.put j).1 (insertAt es (t.put j).2 x) R'/\R'.Perm ((j,x)::R):=by
 obtain⟨b1,b2,b3⟩:=kia (xs:=t.place) (by rw[T.p];exact T.up) j;refine⟨R.take (below t.place j)++(j,x)::R.drop (below t.place j),⟨?_,?_,?_,?_,?_⟩,List.perm_middle.trans (by rw[bm2])⟩
 .show(insertAt t.place (below t.place j) j).toList=_;rw[kl9,T.p];simp[b88,b89]
 .show(insertAt es (below t.place j) x).toList=_;rw[kl9,T.e];simp[b88,b89]
 .show(if has t.dummies j=true then _ else t.dummies)=_;rw[T.d,ky3];rfl
 .have:=k22 (j:=j) (p:=below t.place j) T.up (fun i h hi=>by
   have:=b2 i (by rw[<- bf0,T.p];exact h) hi;simpa[<- T.p]using this) (fun i h hi=>by
   have h':i<t.place.size:=(by rw[<- bf0,T.p];exact h)
   have h3:=b3 i h' hi;have e:t.place[i]=(R.map (·.1))[i]:=(by simp[<- T.p])
   have ne:(R.map (·.1))[i]≠j:=by
    obtain⟨r,hr,e⟩:=bb1.mp (bf1 h);rw[<- e];exact hj r hr
   lia)
  simpa[b88,b89]using this
 .intro r hr;show r.1<=t.mask;rcases bh3.mp hr with h|h
  .exact T.le r (List.mem_of_mem_take h)
  .rcases bc6.mp h with rfl|h
   .exact hm
   .exact T.le r (List.mem_of_mem_drop h)
abbrev Rch(R:List kd1)(m:Nat):Prop:=∀r∈R,∃n,r.1=(pr m r.2.1 n).j/\∀q,q<n->∃r'∈R,r'.1=(pr m r.2.1 q).j
def Rch.put{R R':List kd1}{m k:Nat}{x:Int×ba6}(H:Rch R m)(p:R'.Perm (((pr m x.1 k).j,x)::R))(hp: ∀q,q<k->∃r'∈R,r'.1=(pr m x.1 q).j):Rch R' m:=fun r hr=>by
 have up: ∀r'∈R,r'∈R':=fun r' h=>p.mem_iff.mpr (bc0 _ h);rcases bc6.mp (p.mem_iff.mp hr)with rfl|h
 .exact⟨k,rfl,fun q hq=>by obtain⟨r',h1,h2⟩:=hp q hq;exact⟨r',up _ h1,h2⟩⟩
 .obtain⟨n,h1,h2⟩:=H r h;exact⟨n,h1,fun q hq=>by obtain⟨r',h3,h4⟩:=h2 q hq;exact⟨r',up _ h3,h4⟩⟩
def kue{m:Nat}(hm:OkM m)(h:Int): ∀n,(pr m h n).j+(pr m h n).more<=m
 | 0=>by
   have:bits h % (m+1)<m+1:=b29 _ (by lia);show bits h % (m+1)+(runEnd m _-_)<=m;unfold runEnd;split <;> lia
 | n+1=>by
   have ih:=kue hm h n;show(adv m (pr m h n)).j+(adv m (pr m h n)).more<=m;unfold adv;split
   .dsimp only;lia
   .have:=kkv m (pr m h n).i (pr m h n).perturb;dsimp only;unfold runEnd;split <;> lia
def win{m:Nat}{h:Int}{n i q:Nat}(e:pr m h n=at0 m i q): ∀c,c<=runEnd m i-i->pr m h (n+c)=⟨i+c,runEnd m i-i-c,i,q,none⟩
 | 0,_=>e
 | c+1,hc=>by
   show adv m (pr m h (n+c))=_;rw[win e c (by lia)];unfold adv;rw[zP (show runEnd m i-i-c > 0 by lia)];rfl
abbrev Fre(o:Array (Option Nat))(j:Nat):Bool:=(o.getD j (some 0)).isNone
set_option tactic.hygienic true in
def kj0{m:Nat}{h:Int}{o:Array (Option Nat)}: ∀(fuel i q n j:Nat),pr m h n=at0 m i q->layClean.free m o fuel i q=some j->∃k,n<=k/\j=(pr m h k).j/\Fre o j=true/\∀a,n<=a->a<k->Fre o (pr m h a).j=false
 | 0,i,q,n,j,e,z=>by cases z
 | fuel+1,i,q,n,j,e,z=>by
   unfold layClean.free at z;have w: ∀c,c<runEnd m i+1-i->(pr m h (n+c)).j=i+c:=fun c hc=>by
    have hr:i<=runEnd m i:=(by unfold runEnd;split <;> lia)
    rw[win e c (by lia)]
   split at z
   .rename_i k hk;obtain⟨h1,h2,h3⟩:=b74.mp hk;cases z;refine⟨n+k,by lia,(w k (bb2.mp h2)).symm,h1,fun a ha hb=>?_⟩;have:=h3 (a-n) (by lia);have hw:=w (a-n) (by have:=bb2.mp h2;lia);rw[show n+(a-n)=a by lia]at hw;rw[hw];simpa[Fre]using this
   .rename_i hk;have hk:=by1.mp hk;have hr:i<=runEnd m i:=(by unfold runEnd;split <;> lia)
    have e2:pr m h (n+((runEnd m i-i)+1))=at0 m (leap m i q).1 (leap m i q).2:=by
     rw[kp6,e];exact kf8 m _ (at0 m i q) rfl rfl
    obtain⟨k,h1,h2,h3,h4⟩:=kj0 fuel _ _ _ j e2 z;refine⟨k,by lia,h2,h3,fun a ha hb=>?_⟩;by_cases c:a<n+((runEnd m i-i)+1)
    .have:=hk (a-n) (by lia);have hw:=w (a-n) (by lia);rw[show n+(a-n)=a by lia]at hw;rw[hw];simpa[Fre]using this
    .exact h4 a (by lia) hb
set_option tactic.hygienic true in
def kj1{m:Nat}{o:Array (Option Nat)}: ∀(fuel i q:Nat),layClean.free m o fuel i q=none->∀r,r<fuel->Fre o (trn m i q r).1=false
 | 0,i,q,_,r,hr=>by lia
 | fuel+1,i,q,z,r,hr=>by
   unfold layClean.free at z;split at z
   .cases z
   .rename_i hk;have hk:=by1.mp hk;cases r with
    | zero=>
      have:=hk 0 (by unfold runEnd;split <;> lia);simpa[Fre,trn]using this
    | succ r=>
      have:=kj1 fuel _ _ z r (by lia);rw[show r+1=1+r by lia,kku];exact this
structure OwnI(m:Nat)(hs:List Int)(o:Array (Option Nat))(S:List Nat):Prop where
 sz:o.size=m+1
 len:S.length=hs.length
 le: ∀s∈S,s<=m
 nd:S.Nodup
 ow: ∀j q:Nat,o[j]?=some (some q)↔S[q]?=some j
 rch: ∀(q:Nat)(h:Int),hs[q]?=some h->∃s n:Nat,S[q]?=some s/\s=(pr m h n).j/\∀a,a<n->(pr m h a).j∈S
def OwnI.fre{m:Nat}{hs:List Int}{o:Array (Option Nat)}{S:List Nat}(I:OwnI m hs o S){j:Nat}(hj:j<=m):Fre o j= !decide (j∈S):=by
 have hlt:j<o.size:=by rw[I.sz];lia
 have eg:o.getD j (some 0)=o[j]:=by simp[hlt]
 unfold Fre;rw[eg];cases h:o[j]with
 | none=>
   have:j ∉ S:=fun z=>by
    obtain⟨q,hq⟩:=bj0.mp z;have:=(I.ow j q).mpr hq;rw[bh2 hlt,h]at this;cases this
   simp[this]
 | some q=>
   have:=(I.ow j q).mp (by rw[bh2 hlt,h]);simp[bd9 this]
def OwnI.nil(m:Nat):OwnI m [] (ca7 (m+1) none) [] where
 sz:=by simp
 len:=rfl
 le:=fun O h=>by cases h
 nd:=bt0
 ow:=fun j q=>by
  rw[Array.getElem?_replicate];constructor
  .intro h;split at h <;> cases h
  .intro h;cases h
 rch:=fun q h e=>by cases e
def OwnI.step{m:Nat}(hm:OkM m){hs:List Int}{o:Array (Option Nat)}{S:List Nat}(I:OwnI m hs o S)(hl:hs.length<=m)(h:Int):
 ∃j,layClean.free m o (turns m) (bits h % (m+1)) (bits h)=some j/\OwnI m (hs++[h]) (o.setIfInBounds j (some hs.length)) (S++[j]):=by
 cases z:layClean.free m o (turns m) (bits h % (m+1)) (bits h)with
 | none=>
   exfalso;have hz:=kj1 _ _ _ z;have sub:ba8 (m+1) ⊆ S:=fun s hs'=>by
    have hs':s<=m:=(by have:=bb2.mp hs';lia)
    obtain⟨r,h1,h2⟩:=kjz hm (i:=bits h % (m+1)) (q:=bits h) (by have:bits h % (m+1)<m+1:=b29 _ (by lia);lia) (kp8 h) hs';have:=hz r (by unfold turns;lia);rw[h2,I.fre hs']at this;simpa using this
   have:=(bj2 (n:=m+1)).length_le_of_subset sub;rw[be8,I.len]at this;lia
 | some j=>
   obtain⟨k,_,h2,h3,h4⟩:=kj0 _ _ _ 0 j rfl z;have hjm:j<=m:=(by have:=kue hm h k;lia)
   have hj:j ∉ S:=(by rw[I.fre hjm]at h3;simpa using h3)
   have hjs:j<o.size:=(by rw[I.sz];lia)
   refine⟨j,rfl,⟨by simp[I.sz],by simp[I.len],?_,?_,?_,?_⟩⟩
   .intro s hs';rcases bh3.mp hs' with x|x
    .exact I.le s x
    .rw[bc4.mp x];exact hjm
   .exact bw4.mpr ⟨I.nd,by simp,fun a ha b hb=>by rw[bc4.mp hb];exact fun e=>hj (e▸ha)⟩
   .intro j' q;rw[Array.getElem?_setIfInBounds];by_cases e:j=j'
    .subst e;rw[zP rfl,zP hjs,<- I.len];constructor
     .intro x;cases x;exact b37
     .intro x;have:q=S.length:=by
       rcases bl1 q S.length with y|y|y
       .rw[bc9 y]at x;exact zA (bd9 x) hj
       .exact y
       .rw[bq0 (by simp;lia)]at x;cases x
      rw[this]
    .rw[zN e,I.ow];constructor
     .intro x;rw[bc9 (bb3.mp x).1];exact x
     .intro x;rcases ca8 q S.length with y|y
      .rwa [bc9 y]at x
      .rw[bc2 y]at x;cases hq:q-S.length with
       | zero=>rw[hq]at x;cases x;exact zA rfl e
       | succ _=>rw[hq]at x;cases x
   .intro q h' hq;rcases ca8 q hs.length with y|y
    .rw[bc9 y]at hq;obtain⟨s,n,a1,a2,a3⟩:=I.rch q h' hq;exact⟨s,n,by rw[bc9 (by rw[I.len];exact y)];exact a1,a2,fun a ha=>bp3 _ (a3 a ha)⟩
    .rw[bc2 y]at hq;have hq0:q=hs.length:=by
      cases hq':q-hs.length with
      | zero=>lia
      | succ _=>rw[hq']at hq;cases hq
     subst hq0;rw[cg6]at hq;cases hq;refine⟨j,k,by rw[<- I.len];exact b37,h2,fun a ha=>bp3 _ ?_⟩;have hp:=kue hm h a;have:=h4 a (bf7 _) ha;rw[I.fre (by lia)]at this;simpa using this
def kma{m:Nat}(hm:OkM m): ∀(todo hs:List Int)(o:Array (Option Nat))(S:List Nat),OwnI m hs o S->hs.length+todo.length<=m+1->
 ∃o' S',todo.foldl (fun acc h=>do
  let(owner,k) <- acc
  let j <- layClean.free m owner (turns m) (bits h % (m+1)) (bits h)
  pure (owner.setIfInBounds j (some k),k+1)) (some (o,hs.length))=some (o',(hs++todo).length)/\OwnI m (hs++todo) o' S'
 | [],hs,o,S,I,_=>⟨o,S,by simp,by simpa using I⟩
 | h::todo,hs,o,S,I,hl=>by
   obtain⟨j,h1,h2⟩:=I.step hm (by simp at hl;lia) h;obtain⟨o',S',h3,h4⟩:=kma hm todo (hs++[h]) _ _ h2 (by simp at hl⊢;lia);refine⟨o',S',?_,by simpa using h4⟩;rw[cj4];show ce9 _ ((layClean.free m o (turns m) (bits h % (m+1)) (bits h)).bind fun j=>some (o.setIfInBounds j (some hs.length),hs.length+1)) todo=_;rw[h1];simpa using h3
def kj2{α β:Type}{f:α->Option β}{g:α->β}: ∀{l:List α},(∀ x∈l,f x=some (g x))->l.filterMap f=l.map g
 | [],_=>rfl
 | x::l,h=>by
   rw[bt9,h x bb8,bg2,kj2 fun y hy=>h y (bc0 _ hy)]
def kuf{m:Nat}(hm:OkM m){hs:Array Int}(hl:hs.size<=m): ∃o S,layClean m hs=some o/\OwnI m hs.toList o S:=by
 obtain⟨o,S,h1,h2⟩:=kma hm hs.toList [] _ _ (OwnI.nil m) (by simp;lia);refine⟨o,S,?_,by simpa using h2⟩;unfold layClean;rw[<- Array.foldl_toList];rw[show(some (ca7 (m+1) none,0):Option (Array (Option Nat)×Nat))=some (ca7 (m+1) none,([]:List Int).length)from rfl,h1];rfl
abbrev kie(m:Nat)(o:Array (Option Nat)):List (Nat×Nat):=(ba8 (m+1)).filterMap fun j=>(o.getD j none).map (j,·)
def ke6{m:Nat}{hs:List Int}{o:Array (Option Nat)}{S:List Nat}(I:OwnI m hs o S){x:Nat×Nat}:x∈kie m o↔S[x.2]?=some x.1:=by
 unfold kie;rw[bv4];constructor
 .rintro⟨j,hj,e⟩;obtain⟨q,hq,rfl⟩:=be2.mp e;have hlt:j<o.size:=by rw[I.sz];exact bb2.mp hj
  rw[show o.getD j none=o[j] by simp[hlt]]at hq;exact(I.ow j q).mp (by rw[bh2 hlt,hq])
 .intro h;have hle:=I.le _ (bd9 h);have hlt:x.1<o.size:=by rw[I.sz];lia
  have:=(I.ow x.1 x.2).mpr h;rw[bh2 hlt]at this;exact⟨x.1,bb2.mpr (by lia),by rw[show o.getD x.1 none=o[x.1] by simp[hlt],bf4 this];rfl⟩
def kqa(o:Array (Option Nat)): ∀(l:List Nat),l.Pairwise (· < ·)->((l.filterMap fun j=>(o.getD j none).map (j,·)).map (·.1)).Pairwise (· < ·)
 | [],_=>bz5
 | j::l,h=>by
   have ih:=kqa o l (bl3.mp h).2;rw[bt9];cases e:o.getD j none with
   | none=>exact ih
   | some q=>
     refine bl3.mpr ⟨fun y hy=>?_,ih⟩;obtain⟨z,hz,rfl⟩:=bb1.mp hy;obtain⟨k,hk,e'⟩:=bv4.mp hz;obtain⟨q',_,rfl⟩:=be2.mp e';exact(bl3.mp h).1 k hk
def kug(n:Nat):(ba8 n).Pairwise (· < ·):=List.pairwise_lt_range
def kmb: ∀{l:List (Nat×Nat)},(l.map (·.1)).Pairwise (· < ·)->l.Nodup
 | [],_=>bt0
 | x::l,h=>by
   rw[bg2]at h;obtain⟨h1,h2⟩:=bl3.mp h;exact bj4.mpr ⟨fun z=>bk7 _ (h1 x.1 (bi7 z)),kmb h2⟩
def ky4{m:Nat}(hm:OkM m){es:Array (Int×ba6)}(hl:es.size<=m)(finger moves:Nat)(led plain:Bool):
 ∃t order R,cm5 m finger moves led plain (es.map (·.1))=some (t,order)/\t.mask=m/\t.led=led/\t.plain=plain/\t.moves=moves/\TbR t (order.filterMap (es[·]?)) R/\Rch R m/\(R.map (·.2)).Perm es.toList:=by
 obtain⟨o,S,h1,I⟩:=kuf hm (hs:=es.map (·.1)) (by simpa using hl);have hS:S.length=es.size:=by rw[I.len];simp
 have up:=kqa o (ba8 (m+1)) (kug _)
 let gv:Nat×Nat->Int×ba6:=fun x=>es.getD x.2 (0,.none)
 have hq: ∀x∈kie m o,x.2<es.size:=fun x hx=>by
  have:=(bb3.mp ((ke6 I).mp hx)).1;lia
 have hg: ∀x∈kie m o,es[x.2]?=some (gv x):=fun x hx=>by
  have:=hq x hx;simp[gv,this]
 have pm:(kie m o).Perm ((ba8 es.size).map fun q=>(S.getD q 0,q)):=by
  refine(bm9 (show(kie m o).Nodup from kmb up) ?_).mpr fun x=>?_
  .exact b75 _ (fun a b hab e=>hab (Prod.mk.inj e).2) bj2
  .rw[ke6 I];constructor
   .intro h;obtain⟨h2,h3⟩:=bb3.mp h;exact bb1.mpr ⟨x.2,bb2.mpr (by lia),by simp[h2,h3]⟩
   .intro h;obtain⟨q,h2,rfl⟩:=bb1.mp h;have h2:=bb2.mp h2;have h3:q<S.length:=(by lia)
    simp[h3]
 refine⟨_,_,(kie m o).map fun x=>(x.1,gv x),by unfold cm5;rw[h1];rfl,rfl,rfl,rfl,rfl,⟨?_,?_,rfl,?_,?_⟩,?_,?_⟩
 .show((kie m o).map (·.1)).toArray.toList=_;simp
 .show(((kie m o).map (·.2)).toArray.filterMap (es[·]?)).toList=_;rw[Array.toList_filterMap];simp only[cd0,bc1];exact kj2 hg
 .rw[bc1];exact up
 .intro r hr;obtain⟨x,hx,rfl⟩:=bb1.mp hr;exact I.le _ (bd9 ((ke6 I).mp hx))
 .intro r hr;obtain⟨x,hx,rfl⟩:=bb1.mp hr;obtain⟨s,n,a1,a2,a3⟩:=I.rch x.2 (gv x).1 (by rw[bf2,Array.getElem?_map,hg x hx];rfl);have:=(ke6 I).mp hx;rw[a1]at this;cases this;refine⟨n,a2,fun a ha=>?_⟩;obtain⟨q,hq'⟩:=bj0.mp (a3 a ha);exact⟨_,bi7 ((ke6 I (x:=((pr m (gv x).1 a).j,q))).mpr hq'),rfl⟩
 .rw[bc1];refine(pm.map _).trans ?_;rw[bc1];refine List.Perm.of_eq (bx4 (by simp) fun i h2 h3=>?_);simp at h2 h3;simp[gv,h2]
end L2
namespace L2
open PySem PySem.Spec PySem.SetTable
structure Ky(prog:bb9)(w:be5)(A:bg1)(C:Heap->Prop)(x:ba6)(h:Int):Prop where
 ref: ∃a,x= .ref a
 hash: ∀(s:ba7)(E:ba6->ba7->Prop)(Q:Int->ba7->Prop),C s.heap->(∀ tk,Q h {s with toks:=tk})->be1 (bf9 prog w) A (pyHash x) Q E s
 quiet: ∀(s:ba7)(E:ba6->ba7->Prop)(Q:Bool->ba7->Prop),C s.heap->Q true s->be1 (bf9 prog w) A (eqIsQuiet 8 x) Q E s
 nocl: ∀(s:ba7)(E:ba6->ba7->Prop)(Q:Bool->ba7->Prop),C s.heap->Q false s->be1 (bf9 prog w) A (ofAClassStatement 8 x) Q E s
 byv: ∀(s:ba7)(E:ba6->ba7->Prop)(Q:Bool->ba7->Prop),C s.heap->Q true s->be1 (bf9 prog w) A (hashByValue 8 x) Q E s
section
variable{prog:bb9}{w:be5}{A:bg1}{C:Heap->Prop}{E:ba6->ba7->Prop}{s:ba7}
def kbs{α:Type}{M:Model}{c:Prop} [Decidable c]{m1 m2:Sem α}{Q:α->ba7->Prop}(h1:c->be1 M A m1 Q E s)(h2: ¬c->be1 M A m2 Q E s):be1 M A (if c then m1 else m2) Q E s:=by
 by_cases h:c
 .rw[zP h];exact h1 h
 .rw[zN h];exact h2 h
def ky5{x:ba6}{h:Int}(kx:Ky prog w A C x h)(c:C s.heap): ∀{ys:List ba6}{Q:Bool->ba7->Prop},(∀ y∈ys,∃k,Ky prog w A C y k)->Q false s->be1 (bf9 prog w) A (searchCouldBeSeen x ys) Q E s:=fun{ys Q} hy hQ=>by
 unfold searchCouldBeSeen;refine ba0 ?_;refine bs5 _ (fun kdh r s'=>r.1=none/\s'=s/\∀y∈kdh,∃k,Ky prog w A C y k) _ ?_ ?_ _ _ ⟨rfl,rfl,hy⟩
 .rintro y kdh r s'⟨hr,rfl,hall⟩;obtain⟨k,ky⟩:=hall y bb8;have tl: ∀z∈kdh,∃k,Ky prog w A C z k:=fun z hz=>hall z (bc0 _ hz);dsimp only;refine kbs (fun O=>ba9 ⟨rfl,rfl,tl⟩) fun O=>?_;refine ba0 (kx.quiet _ _ _ c (kbs (fun z=>nomatch z) fun O=>?_));refine ba0 (ky.quiet _ _ _ c (kbs (fun z=>nomatch z) fun O=>?_));refine ba0 (kx.nocl _ _ _ c (kbs (fun z=>nomatch z) fun O=>?_));exact ba0 (ky.nocl _ _ _ c (kbs (fun z=>nomatch z) fun O=>ba9 ⟨rfl,rfl,tl⟩))
 .rintro⟨r1,r2⟩ s' ⟨hr,rfl,_⟩;simp only at hr;subst hr;exact ba9 hQ
end
def kwj{t:SetTable}{es:Array (Int×ba6)}{R:List kd1}(T:TbR t es R){f:Nat->Int}{h:Int}{p:Probe}{n:Nat}{m:Option Met}(hm:t.probe f h p=m)(hp:p=pr t.mask h n)(hf: ∀i r,R[i]?=some r->f i=r.2.1):
 ky2 R t.mask h n (10*turns t.mask) m:=by
 subst hp;rw[<- hm];exact k21 T hf _ n
def ky6{α:Type}{o:Option α}(h: ∀m,o=some m->False):o=none:=by
 cases o with
 | none=>rfl
 | some m=>exact(h m rfl).elim
def TbR.es_at{t:SetTable}{es:Array (Int×ba6)}{R:List kd1}(T:TbR t es R){i:Nat}{r:kd1}(h:R[i]?=some r):es[i]?=some r.2:=by
 rw[<- bf2,T.e,bc8,h];rfl
def TbR.size{t:SetTable}{es:Array (Int×ba6)}{R:List kd1}(T:TbR t es R):es.size=R.length:=by
 rw[<- bf0,T.e,ba3]
def TbR.fits{t:SetTable}{es:Array (Int×ba6)}{R:List kd1}(T:TbR t es R)(hl:R.length<=t.mask):t.fits es.size=true:=by
 have h1:t.place.size=R.length:=by rw[<- bf0,T.p,ba3]
 unfold SetTable.fits cm6;rw[T.size,h1,T.d];simp[hl]
section
variable{prog:bb9}{w:be5}{A:bg1}{C:Heap->Prop}{E:ba6->ba7->Prop}{s:ba7}
abbrev Gone(R:List kd1)(m:Nat)(h:Int)(e:ba6->Bool)(n:Nat):Prop:=∀q,q<n->∃r∈R,r.1=(pr m h q).j/\(r.2.1=h->e r.2.2=false)
def Gone.past{R:List kd1}{m:Nat}{h:Int}{e:ba6->Bool}{n k:Nat}(g:Gone R m h e n)(p:Past R m h n k):Gone R m h e k:=fun q hq=>by
 by_cases c:q<n
 .exact g q c
 .obtain⟨r,h1,h2,h3⟩:=p q (by lia) hq;exact⟨r,h1,h2,fun z=>zA z h3⟩
set_option tactic.hygienic true in
def khk{d:Addr}{o:Obj}{es:Array (Int×ba6)}{ep:Nat}{t:SetTable}{R:List kd1}{x:ba6}{h:Int}(ho:s.heap.get? d=some o)(hd:o.data= .set es ep t)(T:TbR t es R)(hm:OkM t.mask)(hl:R.length<=t.mask)
 (kx:Ky prog w A C x h)(hk: ∀r∈R,∃k,Ky prog w A C r.2.2 k)(c:C s.heap){e:ba6->Bool}(he: ∀r∈R,bz7 A s r.2.2 x (e r.2.2)){k0:Nat}(h0: ∀r∈R,r.1≠(pr t.mask h k0).j)
 {Q:SetFound->ba7->Prop}(hT: ∀r∈R,r.2.1=h->e r.2.2=true->Q (.there none) s)
 (hF: ∀k,(∀ r∈R,r.1≠(pr t.mask h k).j)->Gone R t.mask h e k->Q (.free (pr t.mask h k).j false) s):
 ∀(fuel n:Nat)(stand:Option Probe),stand.getD (t.probeStart h)=pr t.mask h n->n<=k0->k0<n+fuel->Gone R t.mask h e n->be1 (bf9 prog w) A (setSearchFrom d x h true fuel stand) Q E s
 | 0,n,stand,_,h1,h2,_=>by lia
 | fuel+1,n,stand,hs,h1,h2,g=>by
   have hfit:=T.fits hl;unfold setSearchFrom;refine ba0 (bp5 ho hd hfit ?_);dsimp only;refine kbs (fun z=>?_) fun O=>?_
   .exfalso;unfold SetTable.gaveWay at z;rcases hm with q|q <;> rw[q]at z <;> exact nomatch z
   have hf: ∀(i:Nat)(r:kd1),R[i]?=some r->((es[i]?.map (·.1)).getD 0)=r.2.1:=fun i r hr=>by rw[T.es_at hr];rfl
   split
   .rename_i met heq;have mo:=kwj T heq hs hf;cases met with
    | empty j dm=>
      obtain⟨rfl,k,a1,a2,a3,a4⟩:=mo;dsimp only;subst a2;exact ba9 (hF k a3 (g.past a4))
    | candidate j i nx=>
      obtain⟨k,r,a1,a2,a3,a4,a5,a6,a7⟩:=mo;have hr:=bd9 a3;have hk0:k<k0:=by
       rcases bl1 k k0 with z|z|z
       .exact z
       .subst z;exact zA (a4.trans a2) (h0 r hr)
       .obtain⟨r',b1,b2,_⟩:=a7 k0 h1 z;exact zA b2 (h0 r' b1)
      have tail:be1 (bf9 prog w) A (do
       let equal <- holding [r.2.2] (eqBool r.2.2 x)
       let(es',_,t') <- setState d
       if true&&equal then return SetFound.there none
       let some same:=t'.sameMemory t.moves t.mask|unsupported "set.changed-during-lookup:is-the-new-block-at-the-old-address"
       let still <- match(if same then t'.slot j else .empty)with
        | .live i'=>match es'[i']? with
          | some (_,y')=>do pure (if <- isSame y' r.2.2 then some i' else none)
          | none=>pure none
        | _=>pure none
       match still with
       | none=>rule "set.search.anew";setSearchFrom d x h true fuel none
       | some i'=>if equal then return .there (some i')else setSearchFrom d x h true fuel (some nx)) Q E s:=by
       refine ba0 (bk0 (he r hr prog w E _ ?_));refine ba0 (bp5 ho hd hfit ?_);dsimp only;cases hb:e r.2.2 with
       | true=>exact ba9 (hT r hr a5 hb)
       | false=>
         rw[show t.sameMemory t.moves t.mask=some true by unfold SetTable.sameMemory;rw[zP (beq_self_eq_true _)]];rw[<- a4,T.slot_live a3];simp only[b07,bj1,if_false,if_true,T.es_at a3];obtain⟨_,ky⟩:=hk r hr;obtain⟨b,hb'⟩:=ky.ref;rw[hb'];refine ba0 (wpAny_isSame_ref_self (ba0 (ba9 ?_)));exact khk ho hd T hm hl kx hk c he h0 hT hF fuel (k+1) (some nx) a6 (by lia) (by lia) fun q hq=>by
          rcases bp1 (b02 hq)with z|rfl
          .exact(g.past a7) q z
          .exact⟨r,hr,a4.trans a2,fun O=>hb⟩
      dsimp only;refine kbs (fun O=>ba0 (ky5 kx c (fun y hy=>?_) (kbs (fun z=>nomatch z) fun O=>?_))) fun O=>?_
      .obtain⟨z,hz,rfl⟩:=bb1.mp hy;have hz:z∈es.toList:=(by simpa using(Array.mem_filter.mp (cb6.mp hz)).1)
       rw[T.e]at hz;obtain⟨r',hr',rfl⟩:=bb1.mp hz;exact hk r' hr'
      .rw[T.es_at a3];exact tail
      .rw[T.es_at a3];exact tail
   .rename_i heq;exact zA (kwj T (ky6 heq) hs hf) (kud hm hl)
end
abbrev k00(ld:Bool)(hp:Heap)(d:Addr)(R:List kd1):Prop:=
 ∃o es ep t,hp.get? d=some o/\o.ExactSet/\o.data= .set es ep t/\TbR t es R/\Rch R t.mask/\OkM t.mask/\R.length*5<t.mask*3/\t.plain=true/\t.led=ld
section
variable{prog:bb9}{w:be5}{A:bg1}{C:Heap->Prop}{E:ba6->ba7->Prop}{s:ba7}{ld:Bool}
def kmc{hp:Heap}{d:Addr}{o:Obj}{es:Array (Int×ba6)}{ep:Nat}{t:SetTable}(ho:hp.get? d=some o)(hd:o.data= .set es ep t)(es':Array (Int×ba6))(t':SetTable):
 (hp.update d (cm1 es' t')).get? d=some {o with data:= .set es' (ep+1) t'}:=by
 have:=bm1 (cm1 es' t') ho (by rw[putSet_of es' t' hd];rfl)
 rwa [putSet_of es' t' hd]at this
def kqb{d:Addr}{o:Obj}{es:Array (Int×ba6)}{ep:Nat}{t:SetTable}{R:List kd1}(ho:s.heap.get? d=some o)(hx:o.ExactSet)(hd:o.data= .set es ep t)(T:TbR t es R)(hl:R.length<=t.mask)(hn:R.length=5)(hp:t.plain=true)(hld:t.led=ld){Q:Unit->ba7->Prop}
 (hQ: ∀h' R',bn0 d s.heap h'->k00 ld h' d R'->(R'.map (·.2)).Perm (R.map (·.2))->Q () {s with heap:=h'}):
 be1 (bf9 prog w) A (setRelay d (cl0 5)) Q E s:=by
 have hz:es.size=5:=by rw[T.size,hn]
 obtain⟨t',order,R',h1,h2,h3,h4,_,T',H',p⟩:=ky4 (m:=31) (.inr rfl) (es:=es) (by lia) t.finger (t.movedTo 31) t.led t.plain;have e1:t.relaid (es.map (·.1)) (cl0 5)=some (t',order):=h1;have pl:R'.length=5:=by
  have:=p.length_eq;simpa[hz]using this
 have hz':(order.filterMap (es[·]?)).size=5:=by rw[T'.size,pl]
 unfold setRelay;refine ba0 (bp5 ho hd (T.fits hl) ?_);dsimp only;refine kbs (fun z=>zA z (by decide +kernel)) fun O=>?_;rw[e1];refine ba0 (show be1 _ _ (if((order.filterMap (es[·]?)).size != es.size)=true then(unsupported "internal:set-table-lost-an-element" >>= fun O=>pure (order.filterMap (es[·]?),t'))else pure (order.filterMap (es[·]?),t')) _ _ _ from ?_);refine kbs (fun z=>zA z (by rw[hz',hz];decide)) fun O=>ba9 ?_;dsimp only;refine cf6 ho hd (hQ _ R' (br5 _ _ _) ⟨_,_,_,t',kmc ho hd _ _,hx,rfl,T',by rw[h2];exact H',.inr h2,by rw[h2,pl];decide,by rw[h4];exact hp,by rw[h3];exact hld⟩ (p.trans (by rw[T.e]))) (by rw[hz',bu0];decide)
def kqc{m:Nat}{R:List kd1}(hl:R.length<=m): ∃j,j<=m/\∀r∈R,r.1≠j:=by
 refine bp7 fun z=>?_;have sub:ba8 (m+1) ⊆ R.map (·.1):=fun j hj=>bp7 fun y=>z ⟨j,by have:=bb2.mp hj;lia,fun r hr e=>y (bb1.mpr ⟨r,hr,e⟩)⟩;have:=(bj2 (n:=m+1)).length_le_of_subset sub;rw[be8,ba3]at this;lia
def Gone.none{R:List kd1}{m k:Nat}{h:Int}{e:ba6->Bool}(H:Rch R m)(g:Gone R m h e k)(hf: ∀r∈R,r.1≠(pr m h k).j)(up:(R.map (·.1)).Pairwise (· < ·))(hh: ∀r∈R,e r.2.2=true->r.2.1=h): ∀r∈R,e r.2.2=false:=fun r hr=>by
 cases z:e r.2.2 with
 | false=>rfl
 | true=>
   exfalso;have hz:=hh r hr z;obtain⟨n,h1,h2⟩:=H r hr;rw[hz]at h1 h2;rcases bl1 n k with y|y|y
   .obtain⟨r',b1,b2,b3⟩:=g n y;have:r'=r:=by
     have e1:r'.1=r.1:=b2.trans h1.symm;obtain⟨i,hi,rfl⟩:=bf3 b1;obtain⟨j,hj,rfl⟩:=bf3 hr;have pw:=be0.mp up;rcases bl1 i j with q|q|q
     .have:=pw i j (by simpa using hi) (by simpa using hj) q;simp at this;lia
     .subst q;rfl
     .have:=pw j i (by simpa using hj) (by simpa using hi) q;simp at this;lia
    subst this;rw[b3 hz]at z;cases z
   .subst y;exact hf r hr h1
   .obtain⟨r',b1,b2⟩:=h2 k y;exact hf r' b1 b2
def kuh{d:Addr}{R:List kd1}{x:ba6}{h:Int}(S:k00 ld s.heap d R)(hR:R.length<=16)(kx:Ky prog w A C x h)(hk: ∀r∈R,∃k,Ky prog w A C r.2.2 k)
 (c:C s.heap){e:ba6->Bool}(he: ∀r∈R,bz7 A s r.2.2 x (e r.2.2))(hh: ∀r∈R,e r.2.2=true->r.2.1=h){Q:Bool->ba7->Prop}
 (h1:(∃ r∈R,e r.2.2=true)->Q false s)
 (h2:(∀ r∈R,e r.2.2=false)->∀h' R',bn0 d s.heap h'->k00 ld h' d R'->(R'.map (·.2)).Perm ((h,x)::R.map (·.2))->Q true {s with heap:=h'}):
 be1 (bf9 prog w) A (setAddHashed d x h) Q E s:=by
 obtain⟨o,es,ep,t,ho,hx,hd,T,H,hm,hl,hp,hld⟩:=S;have hl':R.length<=t.mask:=by lia
 have hfit:=T.fits hl';obtain⟨xa,rfl⟩:=kx.ref;obtain⟨j0,j1,j2⟩:=kqc hl';obtain⟨k0,_,k1,k2⟩:=kwi hm h 0 j1;have k3:k0<0+100000:=by
  have:10*turns t.mask<=1000:=by unfold turns;rcases hm with q|q <;> rw[q] <;> decide
  lia
 unfold setAddHashed;refine bk0 ?_;show be1 _ _ (setAddHashedIn d (.ref xa) h (99999+1)) _ _ _;unfold setAddHashedIn;refine ba0 (bp5 ho hd hfit ?_);dsimp only;rw[show byScan (.ref xa) es=false from rfl];simp only[bj1,if_false];refine ba0 ?_;show be1 _ _ (setSearchFrom d (.ref xa) h true 100000 none) _ _ _;refine khk ho hd T hm hl' kx hk c he (k0:=k0) (by rw[k2];exact j2) (fun r hr O ht=>?_) (fun k hf g=>?_) 100000 0 none rfl (bf7 _) k3 (fun q hq=>zA hq (bj6 _))
 .exact ba9 (h1 ⟨r,hr,ht⟩)
 have hno:=g.none H hf T.up hh;have hj:(pr t.mask h k).j<=t.mask:=by have:=kue hm h k;lia
 obtain⟨R',T',p⟩:=T.put (x:=(h,bg0 xa)) hf hj;have H':Rch R' t.mask:=H.put (x:=(h,bg0 xa)) (k:=k) p fun q hq=>by obtain⟨r,b1,b2,_⟩:=g q hq;exact⟨r,b1,b2⟩
 have pl:R'.length=R.length+1:=p.length_eq;have ps:(R'.map (·.2)).Perm ((h,bg0 xa)::R.map (·.2)):=p.map (·.2);dsimp only;refine ba0 (bp5 ho hd hfit ?_);dsimp only;have hpp:(t.put (pr t.mask h k).j).1.plain=true:=hp;have hpm:(t.put (pr t.mask h k).j).1.mask=t.mask:=rfl;rw[hpp];simp only[if_true];refine ba0 (kx.byv _ _ _ c ?_);simp only[if_true];have hsz:(insertAt es (t.put (pr t.mask h k).j).2 (h,bg0 xa)).size<=sizeLine:=by
  rw[T'.size,pl,bu0];lia
 refine ba0 (cf6 ho hd ?_ hsz);have ho':=kmc ho hd (insertAt es (t.put (pr t.mask h k).j).2 (h,bg0 xa)) (t.put (pr t.mask h k).j).1;have sb:=br5 s.heap d (cm1 (insertAt es (t.put (pr t.mask h k).j).2 (h,bg0 xa)) (t.put (pr t.mask h k).j).1);have hfill:(t.put (pr t.mask h k).j).1.fill=R.length+1:=by
  unfold cm6;rw[T'.d,<- bf0,T'.p,ba3,pl];rfl
 refine kbs (fun z=>?_) fun z=>?_
 .have hz:(R.length+1)*5>=t.mask*3:=by
   simp only[cc1,b90,ch8,hfill,hpm,ge_iff_le,decide_eq_true_eq]at z;exact z
  have h5:R.length+1=5:=by rcases hm with q|q <;> rw[q]at hz hl <;> lia
  rw[show es.size+1=5 by rw[T.size];exact h5];refine ba0 (kqb (R:=R') (o:={o with data:= .set (insertAt es (t.put (pr t.mask h k).j).2 (h,bg0 xa)) (ep+1) (t.put (pr t.mask h k).j).1}) ho' hx rfl T' (by rw[pl];show _<=t.mask;rcases hm with q|q <;> rw[q] <;> lia) (by rw[pl];exact h5) hpp hld fun h' R2 sb2 S2 p2=>?_);exact ba9 (h2 hno _ R2 (sb.trans sb2) S2 (p2.trans ps))
 .have hz:(R.length+1)*5<t.mask*3:=by
   simp only[cc1,b90,ch8,hfill,hpm,ge_iff_le,decide_eq_true_eq]at z;lia
  exact ba9 (h2 hno _ R' sb ⟨_,_,_,_,ho',hx,rfl,T',H',hm,by rw[pl];exact hz,hpp,hld⟩ ps)
def ky7{d:Addr}{R:List kd1}{x:ba6}{h:Int}(S:k00 ld s.heap d R)(hR:R.length<=16)(kx:Ky prog w A C x h)(hk: ∀r∈R,∃k,Ky prog w A C r.2.2 k)
 (c:C s.heap){e:ba6->Bool}(he: ∀r∈R,∀s',C s'.heap->bz7 A s' r.2.2 x (e r.2.2))(hh: ∀r∈R,e r.2.2=true->r.2.1=h){Q:Bool->ba7->Prop}
 (h1:(∃ r∈R,e r.2.2=true)->∀tk,Q false {s with toks:=tk})
 (h2:(∀ r∈R,e r.2.2=false)->∀h' R' tk,bn0 d s.heap h'->k00 ld h' d R'->(R'.map (·.2)).Perm ((h,x)::R.map (·.2))->Q true {s with heap:=h',toks:=tk}):
 be1 (bf9 prog w) A (setAdd d x) Q E s:=by
 unfold setAdd;refine bk0 (ba0 (kx.hash _ _ _ c fun tk=>?_));exact kuh (s:={s with toks:=tk}) S hR kx hk c (fun r hr=>he r hr _ c) hh (fun z=>h1 z tk) fun z h' R' sb S' p=>h2 z h' R' tk sb S' p
end
end L2
namespace L2
open PySem PySem.Spec PyProof.Rows
section
variable{prog:bb9}{w:be5}{A:bg1}{R:cg8->ba7->Prop}{I:Addr}{fp wr:List Addr}{G:Array GenState->Array GenState->Prop}{n:Nat}{P:Nat->ba6->Prop}{St:Nat->ba7->Prop}
def kmd(W:WalksS prog w A.in1 I fp wr G n P St){d:Addr}(hdf:d ∉ fp){J:Nat->Heap->Prop}(jm: ∀i h h',J i h->(∀ b o,b ∉ wr->h.get? b=some o->h'.get? b=some o)->J i h')
 (js: ∀(i:Nat)(v:ba6)(s:ba7)(E:ba6->ba7->Prop)(Q:Bool->ba7->Prop),i<n->P i v->J i s.heap->(∀ b h' tk,bn0 d s.heap h'->J (i+1) h'->Q b {s with heap:=h',toks:=tk})->be1 (bf9 prog w) A.in1 (setAdd d v) Q E s):
 ∀(k i:Nat)(s:ba7),n-i=k->i<=n->St i s->J i s.heap->(∀ s',Moved (d::wr) G s s'->J n s'.heap->R (.ok (.ret .none)) s')->codeAny (bf9 prog w) A (.builtin "set.update.loop" ⟨[.ref d,.ref I],[]⟩) R s
 | 0,i,s,hk,hi,st,j,hR=>by
   obtain rfl:i=n:=(by lia)
   refine br7 b91 ?_;rw[bp4 by7 _];refine ba0 (W.done s _ _ st fun s' mv=>?_);exact ba9 (hR s' (mv.mono fun b hb=>bc0 _ hb) (jm _ _ _ j mv.heap))
 | k+1,i,s,hk,hi,st,j,hR=>by
   have hlt:i<n:=(by lia)
   refine br7 b91 ?_;rw[bp4 by7 _];refine ba0 (W.item i s _ _ hlt st fun v s' hP st' mv=>?_);have j':=jm i _ _ j mv.heap;refine ba0 (bk0 (wpAny_with_toks (bb7 s'.toks) ?_));refine js i v s' _ _ hlt hP j' fun b h' tk sb jn le=>?_;refine ba9 ⟨by6 by7 _,kmd W hdf jm js k (i+1) _ (by lia) hlt ?_ jn fun s2 mv2 j2=>?_⟩
   .exact W.frame _ s' h' tk st' le fun b hb o e=>by rw[sb.2 b (fun z=>hdf (z▸hb))];exact e
   .refine hR s2 (Moved.trans W.gtrans ((mv.mono fun b hb=>bc0 _ hb).then_heap le fun b o hb e=>?_) mv2) j2;rw[sb.2 b (fun z=>hb (by rw[z];exact bb8))];exact e
end
@[reducible]def knv(w:be5):Bool:= !w.params.followText "set-order"
@[reducible]def ks6(led:Bool):Obj:={cls:= .type "set",dict:=none,data:= .set #[] 0 (.fresh 0 0 led)}
section
variable{prog:bb9}{w:be5}{A:bg1}{E:ba6->ba7->Prop}{s:ba7}
def ky8(a:ba6){Q1:ba6->ba7->Prop}(h:Q1 (.ref s.heap.objs.size) {s with heap:=s.heap.push (ks6 (knv w))}):codeAny (bf9 prog w) A (.call (.builtin "set.__new__") ⟨[.type "set",a],[]⟩) (wants Q1 E) s:=by
 refine codeAny_of_tree (show be1 _ A.in1 (do checkBuiltinCall "set.__new__" ⟨[.type "set",a],[]⟩;again (.builtin "set.__new__" ⟨[.type "set",a],[]⟩)) _ _ s from ba0 (bv9 (PySem.F.newCall_set_1 a) (ba9 ⟨by6 ck2 _,br7 F.entry_set_new ?_⟩)));rw[bp4 ck2 _];unfold Builtin.«set.__new__» Builtin.Frozenset.newClass;have g:=sub_set_self;obtain⟨hp,g0,d,tk,os⟩:=s;dsimp only
 wp_walk
 refine bx5 (ba9 ?_);dsimp only;simp only[newObj];exact ba0 (wpAny_alloc (ba9 (ba9 h)))
def kqd{l:Addr}{items:Array ba6}{Q:ba6->ba7->Prop}{J:Nat->Heap->Prop}(hh:A.handled=none)(hl:s.heap.IsList l items)
 (j0: ∀h',h'.get? s.heap.objs.size=some (ks6 (knv w))->(∀ b o,s.heap.get? b=some o->h'.get? b=some o)->J 0 h')
 (jm: ∀i h h',J i h->(∀ b o,b≠s.heap.objs.size+1->h.get? b=some o->h'.get? b=some o)->J i h')
 (js: ∀(i:Nat)(v:ba6)(s':ba7)(E:ba6->ba7->Prop)(Q:Bool->ba7->Prop),items[i]?=some v->J i s'.heap->(∀ b h' tk,bn0 s.heap.objs.size s'.heap h'->J (i+1) h'->Q b {s' with heap:=h',toks:=tk})->be1 (bf9 prog w) A.in1.in1.in1 (setAdd s.heap.objs.size v) Q E s')
 (q: ∀h' tk,J items.size h'->(∀ b o,b<s.heap.objs.size->s.heap.get? b=some o->h'.get? b=some o)->Q (.ref s.heap.objs.size) {s with heap:=h',toks:=tk}):
 be1 (bf9 prog w) A (call (.type "set") [.ref l]) Q E s:=by
 obtain⟨c,tl,hmro⟩:=PySem.F.called_set.mro;have g1:=PySem.F.called_set.made;have g2:=PySem.F.called_set.sub;have g3:=PySem.F.called_set.notType;have g4:=PySem.F.called_set.canCreate;have g5:=PySem.F.typeCall_set_1 (.ref l);refine wpAny_call (codeAny_of_tree (show be1 _ _ (callAny (.type "set") _) _ _ _ from ba9 ⟨Code.quiet_builtin _ (by decide +kernel),br7 PySem.F.entry_type_call ?_⟩));rw[bg1.under_plain (weight_type_call_type "set" [.ref l] []) rfl]
 repeat (any_goals (first|assumption|wp_step))
 refine b48 (ky8 (.ref l) (E:=E) (Q1:=fun ob s1=>ob= .ref s.heap.objs.size/\s1={s with heap:=s.heap.push (ks6 (knv w))}) ⟨rfl,rfl⟩) fun r s1 hr=>?_;cases r with
 | error e=>exact hr
 | ok fl=>
   cases fl with
   | ret ob=>
     obtain⟨rfl,rfl⟩:=hr;have hS:(s.heap.push (ks6 (knv w))).get? s.heap.objs.size=some (ks6 (knv w)):=bc7 _ rfl;have ty:ba7.TypeIs {s with heap:=s.heap.push (ks6 (knv w))} (.ref s.heap.objs.size) "set":=⟨_,hS,rfl⟩
     have g6:=PySem.F.called_set.init.lookup;have g7:=PySem.F.called_set.init.bind (.ref s.heap.objs.size)
     repeat (any_goals (first|assumption|wp_step))
     refine b48 (codeAny_call_builtin (R:=wants (fun r s2=>r= .none/\∃h' tk,s2={s with heap:=h',toks:=tk}/\J items.size h'/\∀b o,b<s.heap.objs.size->s.heap.get? b=some o->h'.get? b=some o) E) PySem.F.called_set.init.plain PySem.F.entry_set_init (check_set_init_1 ty ?_)) fun r2 s2 hr2=>?_
     .obtain⟨ol,hol,hcl,nl,hdl⟩:=hl;obtain⟨_,od,_,osl⟩:=ol;simp only at hcl hdl;subst hcl;subst hdl;have hol':(s.heap.push (ks6 (knv w))).get? l=some {cls:= .type "list",dict:=od,data:= .seq items nl,slots:=osl}:=ba5 _ hol;have g8:=PySem.F.sub_list_set;have g9:=PySem.F.sub_list_frozenset;have ne:(bq4 "list" ==bq4 "dict")=false:=(by decide)
      have hl1:(s.heap.push (ks6 (knv w))).IsList l items:=⟨_,hol',rfl,nl,rfl⟩
      have lS:l<s.heap.objs.size:=bd0 hol;unfold Builtin.«set.__init__» noKeywords Builtin.Frozenset.updateFrom;generalize hPI:pyIter=PI
      wp_walk
      subst hPI;refine b73 hl1 (ba0 (wpAny_runValue ?_));have sz:(s.heap.push (ks6 (knv w))).objs.size=s.heap.objs.size+1:=bn7 ..;refine kmd ((cp5 (A:=A.in1.in1.in1) (by simp[hh]) _ l (by rw[sz];exact bf5 (bl0 lS)) items).toS) (d:=s.heap.objs.size) (J:=J) (fun z=>by
       rw[sz]at z;rcases bc6.mp z with z|z
       .exact bf5 (bs3 _) z
       .exact bv7 lS (bc4.mp z)) (fun i h h' j k=>jm i h h' j fun b o hb=>k b o (by rw[sz];simpa using hb)) (fun i v s' E Q O hv j k=>js i v s' E Q hv j k) (items.size-0) 0 _ (by lia) (bf7 _)
       ⟨⟨_,bc7 _ rfl,rfl,rfl⟩,(hl1.push _)⟩ (j0 _ (ba5 _ hS) fun b o e=>ba5 _ (ba5 _ e)) ?_
      intro s' mv j;obtain⟨h',g',d',tk',os'⟩:=s';obtain⟨m1,m2,m3,m4,_⟩:=mv;cases m2;cases m3;cases m4;show be1 _ _ _ _ _ _;refine ba9 (show be1 _ _ (ret bd8) _ _ _ from ba9 ⟨rfl,h',tk',rfl,j,fun b o hb e=>?_⟩);exact m1 b o (fun z=>by
       rw[sz]at z;rcases bc6.mp z with z|z
       .exact bf5 hb z
       .exact bf5 (bl0 hb) (bc4.mp z)) (ba5 _ (ba5 _ e))
     .cases r2 with
      | error e=>exact hr2
      | ok fl2=>
        cases fl2 with
        | ret r=>
          obtain⟨rfl,h',tk,rfl,jj,kk⟩:=hr2
          repeat (any_goals (first|assumption|wp_step))
          exact q _ _ jj kk
        | _=>exact hr2.elim
   | _=>exact hr.elim
end
section
open PySem.SetTable
def khl{α:Type}: ∀(l:List α)(i:Nat)(h:i<l.length),(l[i]::l.eraseIdx i).Perm l
 | _::_,0,_=>bo6 _
 | x::l,i+1,h=>(ck9 ..).trans ((khl l i (Nat.lt_of_succ_lt_succ h)).cons x)
def kqe{α:Type}(nx:Nat->Nat): ∀(fuel k:Nat)(left:List α)(out:Array α),left.length=fuel->(pickOrder.go nx fuel k left out).toList.Perm (out.toList++left)
 | 0,k,left,out,h=>by
   rw[by8.mp h,be9];exact bo6 _
 | fuel+1,k,left,out,h=>by
   have hlt:nx k % left.length<left.length:=b29 _ (by lia);unfold pickOrder.go;rw[ba4 hlt];dsimp only;refine(kqe nx fuel (k+1) _ _ (by rw[bl4 hlt];lia)).trans ?_;rw[cf7,bh6];exact(khl left _ hlt).append_left _
def kqf{α:Type}(nx:Nat->Nat)(xs:Array α):(pickOrder nx xs).toList.Perm xs.toList:=by
 have:=kqe nx xs.size 0 xs.toList #[] (by simp);simpa[pickOrder]using this
abbrev kec(w:be5)(d:Addr)(es:Array (Int×ba6))(ep:Nat):Array (Int×ba6):=if w.params.followText "set-order" then pickOrder (w.params.setOrder d ep) es else es
def kme(w:be5)(d:Addr)(es:Array (Int×ba6))(ep:Nat):(kec w d es ep).toList.Perm es.toList:=by
 unfold kec;split
 .exact kqf _ _
 .exact bo6 _
def kif(w:be5)(d:Addr)(es:Array (Int×ba6))(ep:Nat):(kec w d es ep).size=es.size:=by
 have:=(kme w d es ep).length_eq;simpa using this
abbrev kci(w:be5)(t:SetTable)(i:Nat):Nat:=if w.params.followText "set-order" then 0 else if i=0 then 0 else t.place.getD (i-1) 0+1
structure SAt(w:be5)(h:Heap)(d:Addr)(es:Array (Int×ba6))(ep:Nat)(t:SetTable)(R:List kd1):Prop where
 at_:h.get? d=some {cls:= .type "set",dict:=none,data:= .set es ep t,slots:= #[]}
 tb:TbR t es R
 le:R.length<=t.mask
 pl:t.plain=true
 ld:t.led=knv w
def SAt.lt{w:be5}{h:Heap}{d:Addr}{es:Array (Int×ba6)}{ep:Nat}{t:SetTable}{R:List kd1}(S:SAt w h d es ep t R):d<h.objs.size:=bd0 S.at_
def SAt.to{w:be5}{h h':Heap}{d:Addr}{es:Array (Int×ba6)}{ep:Nat}{t:SetTable}{R:List kd1}(S:SAt w h d es ep t R)(k: ∀o,h.get? d=some o->h'.get? d=some o):SAt w h' d es ep t R:=⟨k _ S.at_,S.tb,S.le,S.pl,S.ld⟩
def knw{t:SetTable}{es:Array (Int×ba6)}{R:List kd1}(T:TbR t es R){i:Nat}(hi:i<=es.size):below t.place (if i=0 then 0 else t.place.getD (i-1) 0+1)=i:=by
 have up:t.place.toList.Pairwise (· < ·):=by rw[T.p];exact T.up
 have hsz:t.place.size=es.size:=by rw[T.size,<- bf0,T.p,ba3]
 have lt: ∀a b (ha:a<t.place.size) (hb:b<t.place.size),a<b->t.place[a]<t.place[b]:=fun a b ha hb h=>by
  have:=be0.mp up a b (by simpa using ha) (by simpa using hb) h;simpa only[b25]using this
 obtain⟨b1,b2,b3⟩:=kia up (if i=0 then 0 else t.place.getD (i-1) 0+1);generalize below t.place _=b at b1 b2 b3;by_cases h0:i=0
 .subst h0;simp only[if_true]at b2 b3;cases b with
  | zero=>rfl
  | succ b=>exact zA (b2 0 (by lia) (by lia)) (bj6 _)
 .simp only[zN h0]at b2 b3;have hp:i-1<t.place.size:=by lia
  rw[show t.place.getD (i-1) 0=t.place[i-1] by simp[hp]]at b2 b3;rcases bl1 b i with z|z|z
  .have h1:=b3 (i-1) hp (by lia);lia
  .exact z
  .have h1:=b2 i (by lia) z;have h2:=lt (i-1) i hp (by lia) (by lia);lia
section
variable{prog:bb9}{w:be5}{A:bg1}{E:ba6->ba7->Prop}{s:ba7}{d:Addr}{es:Array (Int×ba6)}{ep:Nat}{t:SetTable}{R:List kd1}
def kmf(S:SAt w s.heap d es ep t R){i:Nat}(hi:i<=es.size){Q:Option (ba6×Nat)->ba7->Prop}(q:Q ((kec w d es ep)[i]?.map fun e=>(e.2,kci w t (i+1))) s):
 be1 (bf9 prog w) A (setNext d (kci w t i) i ep) Q E s:=by
 have hf:=S.tb.fits S.le;unfold setNext;refine ba0 (bp5 S.at_ rfl hf ?_);dsimp only;unfold setsByText;refine ba0 (ba0 (bx5 (ba9 ?_)));show be1 _ _ (if w.params.followText "set-order"=true then _ else _) _ _ _;unfold kec kci at q;cases hb:w.params.followText "set-order" with
 | true=>
   rw[hb]at q;simp only[if_true]at q⊢;rw[zN (by simp)];refine ba0 ?_;unfold setWalk setsByText;refine ba0 (bp5 S.at_ rfl hf ?_);dsimp only;refine ba0 (ba0 (bx5 (ba9 ?_)));show be1 _ _ (if w.params.followText "set-order"=true then _ else _) _ _ _;rw[zP hb];refine ba0 (bx5 (ba9 (ba9 ?_)));unfold kci;rw[zP hb];exact q
 | false=>
   rw[hb]at q;simp only[bj1,if_false]at q⊢;refine kbs (fun z=>?_) fun O=>?_
   .have z:(!t.plain&&decide (es.size > 1))=true:=z;rw[S.pl]at z;exact nomatch z
   refine ba0 (show be1 _ _ (if(!t.led&& !es.isEmpty)=true then unsupported "set:maker-not-led" else pure ()) _ _ _ from kbs (fun z=>?_) fun O=>ba9 ?_)
   .rw[S.ld]at z;unfold knv at z;rw[hb]at z;exact nomatch z
   unfold kci;rw[hb];simp only[bj1,if_false];rw[knw S.tb hi];refine ba9 ?_;rcases ca8 i es.size with h|h
   .have hp:i<t.place.size:=(by rw[<- bf0,S.tb.p,ba3,<- S.tb.size];exact h)
    rw[bh2 h,bh2 hp];rw[bh2 h]at q;simpa[hp]using q
   .rw[bv1 h];rw[bv1 h]at q;exact q
end
def kfm:Slot "set_iterator" "__next__" "set_iterator.__next__":= .of (owner:="set_iterator") (n:="__next__") (by rw[bw1,bq1];kernel_rfl) (by decide +kernel) (by decide +kernel) (by decide +kernel) (by first|exact .inl (by decide +kernel)|exact .inr (by decide +kernel)) (by rw[b65];kernel_rfl)
def kqg:Slot "set_iterator" "__iter__" "set_iterator.__iter__":= .of (owner:="set_iterator") (n:="__iter__") (by rw[bw1,bq1];kernel_rfl) (by decide +kernel) (by decide +kernel) (by decide +kernel) (by first|exact .inl (by decide +kernel)|exact .inr (by decide +kernel)) (by rw[b65];kernel_rfl)
def kqh:entryFor table "set_iterator.__next__"=some Builtin.«set_iterator.__next__» :=entryFor_of_tree (by kernel_rfl)
def ky9:entryFor table "set_iterator.__iter__"=some Builtin.«dict_keyiterator.__iter__» :=entryFor_alias (id':="dict_keyiterator.__iter__") (by kernel_rfl) rfl (by decide +kernel) (by kernel_rfl)
def k23:entryFor table "set.__iter__"=some Builtin.«frozenset.__iter__» :=entryFor_alias (id':="frozenset.__iter__") (by kernel_rfl) rfl (by decide +kernel) (by kernel_rfl)
def kqi(a:ba6):argsOk "set_iterator.__next__" ⟨[a],[]⟩:=by unfold argsOk;kernel_rfl
def kza(a:ba6):argsOk "set_iterator.__iter__" ⟨[a],[]⟩:=by unfold argsOk;kernel_rfl
abbrev SIt(h:Heap)(it d:Addr)(sl i n ep:Nat):Prop:=h.get? it=some {cls:= .type "set_iterator",dict:=none,data:= .fields #[.int sl 0,.int i 0,.ref d,.int n 0,.int ep 0],slots:= #[]}
section
variable{prog:bb9}{w:be5}{A:bg1}{E:ba6->ba7->Prop}{s:ba7}{d it:Addr}{es:Array (Int×ba6)}{ep i:Nat}{t:SetTable}{R:List kd1}
def SIt.ty{sl n:Nat}(x:SIt s.heap it d sl i n ep):s.TypeIs (.ref it) "set_iterator":=⟨_,x,rfl⟩
def kzb(S:SAt w s.heap d es ep t R)(x:SIt s.heap it d (kci w t i) i es.size ep){e:Int×ba6}(he:(kec w d es ep)[i]?=some e){Q:Option ba6->ba7->Prop}
 (q: ∀h',SIt h' it d (kci w t (i+1)) (i+1) es.size ep->bn0 it s.heap h'->Q (some e.2) {s with heap:=h'}):be1 (bf9 prog w) A (pyNext (.ref it)) Q E s:=by
 have hi:i<=es.size:=by
  have:=(b45.mp he).1;rw[kif]at this;lia
 have ty:=x.ty;have hf:=S.tb.fits S.le;unfold pyNext;refine ba0 (bu3 (bi8 (name:=br2 "__next__") ty kfm (bg4 kfm ty kqh ?_ (kqi _))));unfold Builtin.«set_iterator.__next__»;refine ba0 (ba9 ?_);refine ba0 (wpAny_fieldsOf x rfl ?_);dsimp only;refine ba0 (b38 S.at_ rfl hf ?_);refine kbs (fun z=>zA z (by simp)) fun O=>?_;simp only[bc3];refine ba0 (kmf S hi ?_);rw[he];dsimp only[cp7];refine ba0 (bl8 x (by simp) fun h1 y1 b1=>?_);refine ba0 (bl8 (s:={s with heap:=h1}) y1 (by simp) fun h2 y2 b2=>?_);exact ba9 ⟨_,rfl,ba9 (q _ (by simpa[SIt,rawInt]using y2) (b1.trans b2))⟩
def k24(hh:A.handled=none)(S:SAt w s.heap d es ep t R)(x:SIt s.heap it d (kci w t es.size) es.size es.size ep){Q:Option ba6->ba7->Prop}
 (q: ∀h',cj8 it s.heap h'->Q none {s with heap:=h'}):be1 (bf9 prog w) A (pyNext (.ref it)) Q E s:=by
 have ty:=x.ty;have hf:=S.tb.fits S.le;unfold pyNext;refine ba0 (bu3 (bi8 (name:=br2 "__next__") ty kfm (bg4 kfm ty kqh ?_ (kqi _))));unfold Builtin.«set_iterator.__next__»;refine ba0 (ba9 (ba0 (wpAny_fieldsOf x rfl ?_)));dsimp only;refine ba0 (b38 S.at_ rfl hf (kbs (fun z=>zA z (by simp)) fun O=>?_));simp only[bc3];refine ba0 (kmf S (bb7 _) ?_);rw[bv1 (by rw[kif];exact bb7 _)];dsimp only[cp7];refine ba0 (bl8 x (by simp) fun h1 y1 b1=>?_);refine ba0 ?_;simp only[newExc,newTuple];refine ba0 (bj8 (ba0 (m:=firstArgMember _ _) (bv9 (a:=bd8) (by first|rfl|(simp only[firstArgMember];rfl)) (bj8 ?_ (by size_fits)))) (by size_fits));simp only[raiseNew];refine ba0 (wpAny_handled ?_);rw[show A.in1.handled=none from hh];refine ba0 (ba9 (wpAny_throw ?_));refine ba0 (bs4 (T:="StopIteration") (b:=true) ⟨_,bc7 _ rfl,rfl⟩ cb9 ?_);exact ba9 (q _ ((b1.extBut.push _).push _))
def kui(S:SAt w s.heap d es ep t R){Q:ba6->ba7->Prop}
 (q:Q (.ref s.heap.objs.size) {s with heap:=s.heap.push {cls:= .type "set_iterator",data:= .fields #[.int (kci w t 0:Nat) 0,.int (0:Nat) 0,.ref d,.int es.size 0,.int ep 0]}}):be1 (bf9 prog w) A (pyIter (.ref d)) Q E s:=by
 have ty:s.TypeIs (.ref d) "set":=⟨_,S.at_,rfl⟩
 have hf:=S.tb.fits S.le;have h0:kci w t 0=0:=by unfold kci;split <;> rfl
 rw[h0]at q;refine cf8 ty ca9 (bg4 ca9 ty k23 ?_ (PySem.F.args_set_iter_1 _));unfold Builtin.«frozenset.__iter__»;refine ba0 (ba9 ?_);unfold Builtin.Frozenset.sizeOf;refine ba0 (ba0 (b38 S.at_ rfl hf (ba9 ?_)));refine ba0 ?_;unfold setDrawn setsByText;refine ba0 (bp5 S.at_ rfl hf (ba0 (ba0 (bx5 (ba9 (ba9 ?_))))));refine kbs (fun z=>?_) fun O=>ba0 (ba9 ?_)
 .have z:(!w.params.followText "set-order" &&(!t.plain&&decide (es.size > 1)))=true:=z;rw[S.pl]at z;simp at z
 refine ba0 (wpAny_setEpoch_of S.at_ rfl hf (ba0 ?_));unfold newFields;exact bj8 (ba9 ⟨_,rfl,"set_iterator",_,⟨_,bc7 _ rfl,rfl⟩,kfm.lookup,q⟩)
def kzc{sl n:Nat}(x:SIt s.heap it d sl i n ep){Q:ba6->ba7->Prop}(q:Q (.ref it) s):be1 (bf9 prog w) A (pyIter (.ref it)) Q E s:=
 cf8 x.ty kqg (bg4 kqg x.ty ky9 (show be1 _ _ (ret (.ref it)) _ _ s from ba9 ⟨_,rfl,"set_iterator",_,x.ty,kfm.lookup,q⟩) (kza _))
def kuj(hh:A.handled=none)(I:Addr)(ne:d≠I):Walks prog w A I [I,d] [I] es.size (fun i v=>∃e,(kec w d es ep)[i]?=some e/\v=e.2) (fun i h=>SIt h I d (kci w t i) i es.size ep/\SAt w h d es ep t R):=by
 refine{sub:=fun b hb=>by simp at hb;simp[hb],frame:=fun O O O st k=>⟨k I (by simp) _ st.1,st.2.to fun o e=>k d (by simp) o e⟩,item:=fun i s Q E hi st hQ=>?_,done:=fun s Q E st hQ=>?_,self:=fun O O O O st hQ=>kzc st.1 hQ}
 .have hi':i<(kec w d es ep).size:=by rw[kif];exact hi
  refine kzb st.2 st.1 (e:=(kec w d es ep)[i]) (by simp[hi']) fun h' hit hs=>hQ _ h' s.toks ⟨_,by simp[hi'],rfl⟩ ⟨hit,st.2.to fun o e=>hs.extBut d o ne e⟩ fun b o hb e=>hs.extBut b o (fun z=>hb (by simp[z])) e
 .exact k24 hh st.2 st.1 fun h' he=>hQ h' s.toks fun b o hb e=>he b o (fun z=>hb (by simp[z])) e
def kuk(ty:s.TypeIs (.ref d) "set"){Q:Bool->ba7->Prop}(q:Q false s):be1 (bf9 prog w) A (bm3 (.ref d)) Q E s:=by
 unfold bm3;refine ba0 (bm0 ty PySem.F.slot_set_len.lookup ?_);generalize hz:("set.__len__":String)=z0
 wp_delta;rw[show splitId z0=some ("set","__len__")from by subst hz;decide +kernel];subst hz
 refine ba0 (bs4 (T:="set") (b:=true) ty (by rw[b65];kernel_rfl) (kbs (fun z=>zA z (by decide)) fun O=>kbs (fun O=>ba0 (b11 ty ?_)) fun z=>zA (by decide +kernel) z));exact ba9 q
def kzd:W.KdlSrc prog w "set" d d es.size (fun i v=>∃e,(kec w d es ep)[i]?=some e/\v=e.2) (fun h=>SAt w h d es ep t R):=by
 refine{type:=fun O x=>⟨_,x.at_,rfl⟩,there:=fun O x=>⟨x.lt,x.lt⟩,keep:=fun O O x k=>x.to fun o e=>k d (.inl rfl) o e,notList:=by decide,notTuple:=by decide,hint:=fun O O s O x q=>kuk (s:=s) ⟨_,x.at_,rfl⟩ q,iter:=fun O O hh x=>?_};exact⟨_,_,(fun O O q=>kui x q),kuj hh _ (bf5 x.lt),⟨bc7 _ rfl,x.to fun o e=>ba5 _ e⟩⟩
end
end
abbrev TpA(h:Heap)(a:Addr)(its:List ba6):Prop:=∃o n,h.get? a=some o/\o.cls= .type "tuple"/\o.data= .seq its.toArray n
section
variable{prog:bb9}{w:be5}{A:bg1}{E:ba6->ba7->Prop}{s:ba7}{a b:Addr}{its:List ba6}
def TpA.ty(x:TpA s.heap a its):s.TypeIs (.ref a) "tuple":=let⟨o,_,h1,h2,_⟩:=x;⟨o,h1,h2⟩
def kd3(x:TpA s.heap a its)(k:Nat)(hq: ∀v∈its,∀(E:ba6->ba7->Prop)(Q:Bool->ba7->Prop),Q true s->be1 (bf9 prog w) A (eqIsQuiet k v) Q E s){Q:Bool->ba7->Prop}(q:Q true s):be1 (bf9 prog w) A (eqIsQuiet (k+1) (.ref a)) Q E s:=by
 have ty:=x.ty;obtain⟨o,n,ho,_,hd⟩:=x;unfold eqIsQuiet;refine ba0 (bm0 ty F.slot_tuple_eq.lookup (show be1 _ _ (isInstance (.ref a) (.type "tuple") >>= _) _ _ s from ba0 (bs4 ty cb0 ?_)));refine kbs (fun z=>nomatch z) fun O=>ba0 (bk4 ho hd (ba0 ?_));show be1 _ _ (forIn its.toArray _ _) _ _ s;rw[<- bq5];refine bs5 _ (fun kdh r s'=>r.1=none/\s'=s/\∀v∈kdh,v∈its) _ ?_ ?_ _ _ ⟨rfl,rfl,fun v hv=>by simpa using hv⟩
 .rintro v kdh r s'⟨hr,rfl,hall⟩;exact ba0 (hq v (hall v bb8) _ _ (kbs (fun z=>nomatch z) fun O=>ba9 ⟨rfl,rfl,fun u hu=>hall u (bc0 _ hu)⟩))
 .rintro⟨r1,r2⟩ s' ⟨hr,rfl,_⟩;cases(show r1=none from hr);exact ba9 q
def kkw(x:TpA s.heap a its)(k:Nat)(hq: ∀v∈its,∀(E:ba6->ba7->Prop)(Q:Bool->ba7->Prop),Q false s->be1 (bf9 prog w) A (ofAClassStatement k v) Q E s){Q:Bool->ba7->Prop}(q:Q false s):be1 (bf9 prog w) A (ofAClassStatement (k+1) (.ref a)) Q E s:=by
 have ty:=x.ty;obtain⟨o,n,ho,_,hd⟩:=x;unfold ofAClassStatement;refine ba0 (b11 ty ?_);dsimp only;refine kbs (fun O=>ba0 (ba9 (kbs (fun z=>nomatch z) fun O=>ba0 (bk4 ho hd ?_)))) fun z=>zA (by decide) z;dsimp only;refine ba0 ?_;rw[<- bq5];refine bs5 _ (fun kdh r s'=>r.1=none/\s'=s/\∀v∈kdh,v∈its) _ ?_ ?_ _ _ ⟨rfl,rfl,fun v hv=>by simpa using hv⟩
 .rintro v kdh r s'⟨hr,rfl,hall⟩;exact ba0 (hq v (hall v bb8) _ _ (kbs (fun z=>nomatch z) fun O=>ba9 ⟨rfl,rfl,fun u hu=>hall u (bc0 _ hu)⟩))
 .rintro⟨r1,r2⟩ s' ⟨hr,rfl,_⟩;cases(show r1=none from hr);exact ba9 q
def kqj(x:TpA s.heap a its)(k:Nat)(hq: ∀v∈its,∀(E:ba6->ba7->Prop)(Q:Bool->ba7->Prop),Q true s->be1 (bf9 prog w) A (hashByValue k v) Q E s){Q:Bool->ba7->Prop}(q:Q true s):be1 (bf9 prog w) A (hashByValue (k+1) (.ref a)) Q E s:=by
 have ty:=x.ty;obtain⟨o,n,ho,_,hd⟩:=x;unfold hashByValue;refine ba0 (bm0 ty bo4.lookup ?_);show be1 _ _ (seqItems? (.ref a) >>= _) _ _ s;refine ba0 (bk4 ho hd (ba0 ?_));show be1 _ _ (forIn its.toArray _ _) _ _ s;rw[<- bq5];refine bs5 _ (fun kdh r s'=>r.1=none/\s'=s/\∀v∈kdh,v∈its) _ ?_ ?_ _ _ ⟨rfl,rfl,fun v hv=>by simpa using hv⟩
 .rintro v kdh r s'⟨hr,rfl,hall⟩;exact ba0 (hq v (hall v bb8) _ _ (kbs (fun z=>nomatch z) fun O=>ba9 ⟨rfl,rfl,fun u hu=>hall u (bc0 _ hu)⟩))
 .rintro⟨r1,r2⟩ s' ⟨hr,rfl,_⟩;cases(show r1=none from hr);exact ba9 q
def kqk(hu:A.units<cLine)(x:TpA s.heap a its){hs:List Int}(hq:Paired (fun v h=>∀(s':ba7)(E:ba6->ba7->Prop)(Q:Int->ba7->Prop),s'.heap=s.heap->(∀ tk,Q h {s' with toks:=tk})->be1 (bf9 prog w) A.in1 (pyHash v) Q E s') its hs)
 {Q:Int->ba7->Prop}(q: ∀tk,Q (reduceHash (bi2 hs)) {s with toks:=tk}):be1 (bf9 prog w) A (pyHash (.ref a)) Q E s:=by
 have ty:=x.ty;obtain⟨o,n,ho,_,hd⟩:=x;unfold pyHash pyHashByItsType;refine ba0 (cf9 (.inr hu) (ba0 (bm0 ty bo4.lookup ?_)));show be1 _ _ (if(some (cm7 "tuple.__hash__")==some bd8)=true then _ else _) Q E s;refine kbs (fun z=>zA z (by rw[ch9];decide)) fun O=>ba0 (bm0 ty bo4.lookup ?_);show be1 _ _ (callSpecialIfBoundUnlessNone? (.ref a) "__hash__" _ >>= _) Q E s;refine ba0 (bv5 ty bo4 (bg4 bo4 ty cd8 ?_ (cc5 _)));show be1 _ _ (br9 (.ref a) >>= _) _ _ s;refine ba0 (by9 ho hd (ba0 ?_));rw[<- bq5];refine bs5 _ (fun kdh (b:Array Int) s'=>∃left,b.toList++left=hs/\s'.heap=s.heap/\(∃ tk,s'={s with toks:=tk})/\Paired (fun v h=>∀(s':ba7)(E:ba6->ba7->Prop)(Q:Int->ba7->Prop),s'.heap=s.heap->(∀ tk,Q h {s' with toks:=tk})->be1 (bf9 prog w) A.in1 (pyHash v) Q E s') kdh left) _ ?_ ?_ _ _ ⟨hs,rfl,rfl,⟨s.toks,rfl⟩,by simpa using hq⟩
 .rintro v kdh b s'⟨left,e1,e2,⟨tk,rfl⟩,pl⟩;cases pl with
  | @cons _ h _ left p1 p2=>
    refine ba0 (p1 _ _ _ e2 fun tk'=>?_);exact ba9 ⟨left,by simpa using e1,rfl,⟨tk',rfl⟩,p2⟩
 .rintro b s'⟨left,e1,e2,⟨tk,rfl⟩,pl⟩;cases pl;rw[be9]at e1;show be1 _ _ (retInt (bi2 b.toList)) _ _ _;rw[e1];refine cb1 ?_;show be1 _ _ (if(decide (-(2:Int) ^ 63<=bi2 hs)&&decide (bi2 hs<2 ^ 63))=true then _ else _) Q E _;unfold reduceHash at q;refine kbs (fun z=>?_) fun z=>?_
  .simp only[zP z]at q;exact ba9 (q _)
  .simp only[zN z]at q;exact ba0 (bz9 (ba9 (q _)))
def TpA.isT(x:TpA s.heap a its):s.heap.IsTuple a its.toArray:=let⟨o,n,h1,h2,h3⟩:=x;⟨o,h1,h2,n,h3⟩
def k25{α:Type} [DecidableEq α](hu:A.units<cLine){xs ys:List ba6}{x y:List α}(ha:TpA s.heap a xs)(hb:TpA s.heap b ys)(lx:xs.length=x.length)(ly:ys.length=y.length)(inj:a=b->x=y)
 (he: ∀(j:Nat)(u v:ba6)(p q:α),xs[j]?=some u->ys[j]?=some v->x[j]?=some p->y[j]?=some q->bz7 A.in1 s u v (decide (p=q))):bz7 A s (.ref a) (.ref b) (decide (x=y)):=by
 by_cases hab:a=b
 .rw[inj hab];subst hab;simpa using bz7.same (A:=A) (s:=s) (.ref a)
 .have h:=SeqAt.RcAt.tuples (e:=fun j=>decide (x[j]?=y[j]?)) ha.isT hb.isT hu fun j h1 h2=>by
   simp only[bd6]at h1 h2;have:=he j xs[j] ys[j] (x[j]'(by lia)) (y[j]'(by lia)) (by simp[h1]) (by simp[h2]) (by simp) (by simp);simpa[show j<x.length by lia,show j<y.length by lia]using this
  rw[show((ba8 (min xs.toArray.size ys.toArray.size)).all (fun j=>decide (x[j]?=y[j]?))&&xs.toArray.size==ys.toArray.size)=decide (x=y)from ?_]at h
  .exact bz7.of_refs hab h
  .rw[bh5];simp only[bm4,bi0,bb2,decide_eq_true_eq,beq_iff_eq,bd6];constructor
   .rintro⟨h1,h2⟩;apply bt5;intro i;by_cases hi:i<x.length
    .exact h1 i (by lia)
    .rw[bq0 (by lia),bq0 (by lia)]
   .rintro rfl;exact⟨fun O O=>rfl,by lia⟩
abbrev ltL:List Int->List Int->Bool
 | _,[]=>false
 | [],_::_=>true
 | a::x,b::y=>if a=b then ltL x y else decide (a<b)
def k26{m k:Int}{x y:List Int}(e:m≠k):ltL (m::x) (k::y)=decide (m<k):=by
 unfold ltL;rw[zN e]
def kze{x y:List Int}(h:x=[]\/y=[]):ltL x y=decide (x.length<y.length):=by
 rcases h with rfl|rfl
 .cases y <;> rfl
 .cases x <;> rfl
def k27{xs ys:List ba6}{x y:List Int}(ha:TpA s.heap a xs)(hb:TpA s.heap b ys)(ix:IntsAre xs x)(iy:IntsAre ys y)(hu:A.units<cLine){Q:ba6->ba7->Prop}(q:Q (.bool (ltL x y)) s):be1 (bf9 prog w) A (bh0 .Lt (.ref a) (.ref b)) Q E s:=by
 have ta:=ha.ty;have tb:=hb.ty;obtain⟨oa,na,hoa,_,hda⟩:=ha;obtain⟨ob,nb,hob,_,hdb⟩:=hb;show be1 _ _ (richCompare .Lt (.ref a) (.ref b)) _ _ _;refine wpAny_richCompare_same_room (op:= .Lt) ta tb ck3 (bg4 ck3 ta F.entry_tuple_lt ?_ (F.args_tuple_lt_2 _ _)) hu;show be1 _ _ (isInstance (.ref b) (.type "tuple") >>= _) _ _ s;refine ba0 (bs4 tb cb0 (kbs (fun z=>nomatch z) fun O=>ba0 (by9 hoa hda (ba0 (by9 hob hdb (ba0 ?_))))));refine bs5 _ (fun kdh r s'=>r.1=none/\s'=s/\∃xs' ys' x' y',kdh=List.zip xs' ys'/\IntsAre xs' x'/\IntsAre ys' y'/\ltL x' y'=ltL x y/\decide (xs'.length<ys'.length)=decide (xs.length<ys.length)) _ ?_ ?_ _ _ ⟨rfl,rfl,xs,ys,x,y,by simp,ix,iy,rfl,rfl⟩
 .rintro⟨u,v⟩ kdh r s' ⟨hr,rfl,xs',ys',x',y',hz,ix',iy',h1,h2⟩;cases ix' with
  | nil=>cases hz
  | cons m t1 ix'=>
    cases iy' with
    | nil=>cases hz
    | cons k t2 iy'=>
      rw[cd4]at hz;injection hz with z1 z2;cases z1;subst z2;refine ba0 (bs1 ?_);by_cases e:m=k
      .subst e;refine kbs (fun z=>zA z (by simp)) fun O=>ba9 ⟨rfl,rfl,_,_,_,_,rfl,ix',iy',by rw[<- h1];simp[ltL],by rw[<- h2];simp⟩
      .refine kbs (fun O=>?_) fun z=>zA (by simp[e]) z;dsimp only;refine ba0 (bz9 ?_);refine ba0 (show be1 _ _ (bh0 .Lt (.int m t1) (.int k t2)) _ _ _ from ck8 ?_);rw[<- h1,k26 e]at q;exact ba0 (ba9 (ba9 (ba9 ⟨_,rfl,(fun z=>nomatch z),q⟩)))
 .rintro⟨r1,r2⟩ s' ⟨hr,rfl,xs',ys',x',y',hz,ix',iy',h1,h2⟩;cases(show r1=none from hr);have hx:xs'=[]\/ys'=[]:=by
   cases xs' with
   | nil=>exact .inl rfl
   | cons _ _=>cases ys' with
     | nil=>exact .inr rfl
     | cons _ _=>cases hz
  have lx:=ix'.length;have ly:=iy'.length;have hn:x'=[]\/y'=[]:=by
   rcases hx with rfl|rfl
   .exact .inl (by8.mp (by simpa using lx.symm))
   .exact .inr (by8.mp (by simpa using ly.symm))
  rw[<- h1,kze hn,<- lx,<- ly,h2]at q;refine ba9 ⟨_,rfl,(fun z=>nomatch z),?_⟩;simpa[Builtin.Tuple.tupleCompareSizes]using q
end
abbrev VwA(h:Heap)(a:Addr)(k:Vw):Prop:=∃tk p q us os,TpA h a [.int k.1 tk,.ref p,.ref q]/\TpA h p us/\IntsAre us k.2.1/\TpA h q os/\IntsAre os k.2.2
def TpA.inj{h:Heap}{a:Addr}{x y:List ba6}(hx:TpA h a x)(hy:TpA h a y):x=y:=by
 obtain⟨o,n,h1,_,h3⟩:=hx;obtain⟨o',n',h1',_,h3'⟩:=hy;rw[h1]at h1';cases h1';rw[h3]at h3';injection h3' with z _;simpa using zC ca4 z
def kf9: ∀{vs:List ba6}{x y:List Int},IntsAre vs x->IntsAre vs y->x=y
 | _,_,_,.nil,.nil=>rfl
 | _,_,_,.cons n t r,.cons _ _ r'=>by rw[kf9 r r']
def VwA.inj{h:Heap}{a:Addr}{x y:Vw}(hx:VwA h a x)(hy:VwA h a y):x=y:=by
 obtain⟨tk,p,q,us,os,h1,h2,h3,h4,h5⟩:=hx;obtain⟨tk',p',q',us',os',h1',h2',h3',h4',h5'⟩:=hy;have e:=h1.inj h1';injection e with e1 e2;injection e2 with e2 e3;injection e3 with e3 _;injection e1 with e1 _;injection e2 with e2;injection e3 with e3;subst e2;subst e3;cases h2.inj h2';cases h4.inj h4';exact by4 e1 (by4 (kf9 h3 h3') (kf9 h5 h5'))
def TpA.to{h h':Heap}{a:Addr}{x:List ba6}(t:TpA h a x)(k: ∀o,h.get? a=some o->o.cls= .type "tuple"->h'.get? a=some o):TpA h' a x:=by
 obtain⟨o,n,h1,h2,h3⟩:=t;exact⟨o,n,k o h1 h2,h2,h3⟩
def VwA.to{h h':Heap}{a:Addr}{x:Vw}(t:VwA h a x)(k: ∀b o,h.get? b=some o->o.cls= .type "tuple"->h'.get? b=some o):VwA h' a x:=by
 obtain⟨tk,p,q,us,os,h1,h2,h3,h4,h5⟩:=t;exact⟨tk,p,q,us,os,h1.to (k _),h2.to (k _),h3,h4.to (k _),h5⟩
section
variable{prog:bb9}{w:be5}{A:bg1}{E:ba6->ba7->Prop}{s:ba7}{a b:Addr}{its:List ba6}
def kmg(hu:A.units<cLine){x:List Int}(t:TpA s.heap a its)(ix:IntsAre its x){Q:Int->ba7->Prop}(q: ∀tk,Q (kv6 x) {s with toks:=tk}):be1 (bf9 prog w) A (pyHash (.ref a)) Q E s:=by
 refine kqk hu t (hs:=x.map hashInt) ?_ q;clear q t;induction ix with
 | nil=>exact .nil
 | cons n tk r ih=>exact .cons (fun s' E Q O q=>bx2 (q _)) ih
def kkx(p q:Int):(p==q)=decide (p=q):=by
 rw[bh5];simp
def kmh(hu:A.units<cLine){x y:List Int}{ts:List ba6}(ta:TpA s.heap a its)(ix:IntsAre its x)(tb:TpA s.heap b ts)(iy:IntsAre ts y):bz7 A s (.ref a) (.ref b) (decide (x=y)):=by
 refine k25 hu ta tb ix.length iy.length (fun e=>by subst e;cases ta.inj tb;exact kf9 ix iy) fun j u v p q h1 h2 h3 h4=>?_;obtain⟨t1,rfl⟩:=cl1 ix j u h1;obtain⟨t2,rfl⟩:=cl1 iy j v h2;have e1:x.getD j 0=p:=by rw[bb5,h3];rfl
 have e2:y.getD j 0=q:=by rw[bb5,h4];rfl
 rw[e1,e2];rw[<- kkx];exact cd9 p t1 q t2
def k28(hu:A.units+1<cLine){x y:Vw}(ha:VwA s.heap a x)(hb:VwA s.heap b y):bz7 A s (.ref a) (.ref b) (decide (x=y)):=by
 have inj:a=b->x=y:=fun e=>by subst e;exact ha.inj hb
 obtain⟨tk,p,q,us,os,h1,h2,h3,h4,h5⟩:=ha;obtain⟨tk',p',q',us',os',h1',h2',h3',h4',h5'⟩:=hb;have:=k25 (A:=A) (α:=Int ⊕ List Int) (x:=[.inl x.1,.inr x.2.1,.inr x.2.2]) (y:=[.inl y.1,.inr y.2.1,.inr y.2.2]) (by lia) h1 h1' rfl rfl (fun e=>by rw[inj e]) fun j u v p q i1 i2 i3 i4=>by
  match j,i1,i2,i3,i4 with
  | 0,i1,i2,i3,i4=>
    cases i1;cases i2;cases i3;cases i4;rw[show decide (ca1 (β:=List Int) x.1=ca1 y.1)=decide (x.1=y.1) by simp,<- kkx];exact cd9 _ _ _ _
  | 1,i1,i2,i3,i4=>
    cases i1;cases i2;cases i3;cases i4;rw[show decide (b57 (α:=Int) x.2.1=b57 y.2.1)=decide (x.2.1=y.2.1) by simp];exact kmh (A:=A.in1) hu h2 h3 h2' h3'
  | 2,i1,i2,i3,i4=>
    cases i1;cases i2;cases i3;cases i4;rw[show decide (b57 (α:=Int) x.2.2=b57 y.2.2)=decide (x.2.2=y.2.2) by simp];exact kmh (A:=A.in1) hu h4 h5 h4' h5'
  | j+3,i1,_,_,_=>cases i1
 rwa [show decide (([.inl x.1,.inr x.2.1,.inr x.2.2]:List (Int ⊕ List Int))=[.inl y.1,.inr y.2.1,.inr y.2.2])=decide (x=y)from by
  rw[decide_eq_decide];simp[Prod.ext_iff]]at this
def kdr{x:List Int}: ∀{its:List ba6},IntsAre its x->∀v∈its,∃n t,v= .int n t:=by
 intro its ix;induction ix with
 | nil=>intro v hv;cases hv
 | cons n t r ih=>
   intro v hv;rcases bc6.mp hv with rfl|hv
   .exact⟨n,t,rfl⟩
   .exact ih v hv
def k29(hu:A.units+1<cLine){C:Heap->Prop}{x:Vw}(hC: ∀h,C h->VwA h a x):Ky prog w A C (.ref a) (vwH x) where
 ref:=⟨a,rfl⟩
 hash:=fun s E Q c q=>by
  obtain⟨tk,p,r,us,os,h1,h2,h3,h4,h5⟩:=hC _ c;exact kqk (by lia) h1 (hs:=[hashInt x.1,kv6 x.2.1,kv6 x.2.2]) (.cons (fun s' E Q O q=>bx2 (q _)) (.cons (fun s' E Q e q=>kmg (A:=A.in1) hu (e▸h2) h3 q) (.cons (fun s' E Q e q=>kmg (A:=A.in1) hu (e▸h4) h5 q) .nil))) q
 quiet:=fun s E Q c q=>by
  obtain⟨tk,p,r,us,os,h1,h2,h3,h4,h5⟩:=hC _ c;refine kd3 h1 7 (fun v hv E Q q=>?_) q;simp only[bc6,bg9,or_false]at hv;rcases hv with rfl|rfl|rfl
  .exact bv9 (bt7 _ rfl) q
  .exact kd3 h2 6 (fun v hv E Q q=>by obtain⟨n,t,rfl⟩:=kdr h3 v hv;exact bv9 (bt7 _ rfl) q) q
  .exact kd3 h4 6 (fun v hv E Q q=>by obtain⟨n,t,rfl⟩:=kdr h5 v hv;exact bv9 (bt7 _ rfl) q) q
 nocl:=fun s E Q c q=>by
  obtain⟨tk,p,r,us,os,h1,h2,h3,h4,h5⟩:=hC _ c;refine kkw h1 7 (fun v hv E Q q=>?_) q;simp only[bc6,bg9,or_false]at hv;rcases hv with rfl|rfl|rfl
  .exact ba9 q
  .exact kkw h2 6 (fun v hv E Q q=>by obtain⟨n,t,rfl⟩:=kdr h3 v hv;exact ba9 q) q
  .exact kkw h4 6 (fun v hv E Q q=>by obtain⟨n,t,rfl⟩:=kdr h5 v hv;exact ba9 q) q
 byv:=fun s E Q c q=>by
  obtain⟨tk,p,r,us,os,h1,h2,h3,h4,h5⟩:=hC _ c;refine kqj h1 7 (fun v hv E Q q=>?_) q;simp only[bc6,bg9,or_false]at hv;rcases hv with rfl|rfl|rfl
  .exact ba9 q
  .exact kqj h2 6 (fun v hv E Q q=>by obtain⟨n,t,rfl⟩:=kdr h3 v hv;exact ba9 q) q
  .exact kqj h4 6 (fun v hv E Q q=>by obtain⟨n,t,rfl⟩:=kdr h5 v hv;exact ba9 q) q
end
section
open PySem.W
structure Ord(α:Type)(lt:α->α->Bool):Prop where
 irr: ∀x,lt x x=false
 tr: ∀x y z,lt x y=true->lt y z=true->lt x z=true
 tot: ∀x y,x≠y->lt x y=true\/lt y x=true
def kky: ∀x:List Int,ltL x x=false
 | []=>rfl
 | a::x=>by unfold ltL;rw[zP rfl];exact kky x
def kwk: ∀x y z:List Int,ltL x y=true->ltL y z=true->ltL x z=true
 | _,[],_,h,_=>by cases h':(‹List Int› :List Int) <;> simp_all [ltL]
 | _,_::_,[],_,h=>by simp[ltL]at h
 | [],_::_,_::_,_,_=>rfl
 | a::x,b::y,c::z,h1,h2=>by
   unfold ltL at h1 h2⊢;by_cases e1:a=b
   .subst e1;rw[zP rfl]at h1;by_cases e2:a=c
    .subst e2;rw[zP rfl]at h2⊢;exact kwk x y z h1 h2
    .rw[zN e2]at h2⊢;exact h2
   .rw[zN e1]at h1;have h1:=zO h1;by_cases e2:b=c
    .subst e2;rw[zN e1];exact zT h1
    .rw[zN e2]at h2;have h2:=zO h2;rw[zN (by lia)];exact zT (by lia)
def kql: ∀x y:List Int,x≠y->ltL x y=true\/ltL y x=true
 | [],[],h=>zA rfl h
 | [],_::_,_=> .inl rfl
 | _::_,[],_=> .inr rfl
 | a::x,b::y,h=>by
   by_cases e:a=b
   .subst e;have:=kql x y fun z=>h (by rw[z]);unfold ltL;rw[zP rfl,zP rfl];exact this
   .unfold ltL;rw[zN e,zN (bv6 e)];rcases Int.lt_or_lt_of_ne e with z|z
    .exact .inl (zT z)
    .exact .inr (zT z)
def ordL:Ord (List Int) ltL:=⟨kky,kwk,kql⟩
abbrev kzf{α β:Type} [DecidableEq α](l1:α->α->Bool)(l2:β->β->Bool)(x y:α×β):Bool:=if x.1=y.1 then l2 x.2 y.2 else l1 x.1 y.1
def Ord.lex{α β:Type} [DecidableEq α]{l1:α->α->Bool}{l2:β->β->Bool}(h1:Ord α l1)(h2:Ord β l2):Ord (α×β) (kzf l1 l2) where
 irr:=fun x=>by unfold kzf;rw[zP rfl];exact h2.irr _
 tr:=fun x y z a b=>by
  unfold kzf at a b⊢;by_cases e1:x.1=y.1
  .rw[zP e1]at a;by_cases e2:y.1=z.1
   .rw[zP e2]at b;rw[zP (e1.trans e2)];exact h2.tr _ _ _ a b
   .rw[zN e2]at b;rw[e1,zN e2];exact b
  .rw[zN e1]at a;by_cases e2:y.1=z.1
   .rw[<- e2,zN e1];exact a
   .rw[zN e2]at b;have:=h1.tr _ _ _ a b;rw[zN (fun z=>by rw[z,h1.irr]at this;cases this)];exact this
 tot:=fun x y h=>by
  unfold kzf;by_cases e:x.1=y.1
  .rw[zP e,zP e.symm];exact h2.tot _ _ fun z=>h (by4 e z)
  .rw[zN e,zN (bv6 e)];exact h1.tot _ _ e
def ordI:Ord Int (fun a b=>decide (a<b)):=⟨fun x=>by simp,fun x y z a b=>by simp at a b⊢;lia,fun x y h=>by simp;lia⟩
abbrev ltV:Vw->Vw->Bool:=kzf (fun a b=>decide (a<b)) (kzf ltL ltL)
def k3a:Ord Vw ltV:=ordI.lex (ordL.lex ordL)
abbrev rk{α:Type}(lt:α->α->Bool)(L:List α)(x:α):Int:=(L.countP fun z=>lt z x:Nat)
def kj3{α:Type}{p q:α->Bool}: ∀{L:List α}{x:α},x∈L->(∀ z,p z=true->q z=true)->p x=false->q x=true->L.countP p<L.countP q
 | y::L,x,hx,h,hp,hq=>by
   rw[ci0,ci0];have le:L.countP p<=L.countP q:=cb2 fun z O=>h z;rcases bc6.mp hx with rfl|hx
   .rw[hp,hq];simp;lia
   .have ih:=kj3 hx h hp hq;have:(if p y=true then 1 else 0)<=(if q y=true then 1 else 0):=by
     by_cases z:p y=true
     .rw[zP z,zP (h y z)];exact bb7 _
     .rw[zN z];exact bf7 _
    lia
def k3b{α:Type}{lt:α->α->Bool}(O0:Ord α lt) [DecidableEq α]{L:List α}{x y:α}(hx:x∈L)(hy:y∈L):lt x y=decide (rk lt L x<rk lt L y):=by
 have up: ∀x y,x∈L->lt x y=true->rk lt L x<rk lt L y:=fun x y hx h=>by
  unfold rk;exact Int.ofNat_lt.mpr (kj3 hx (fun z hz=>O0.tr _ _ _ hz h) (O0.irr x) h)
 cases h:lt x y with
 | true=>exact(zT (up x y hx h)).symm
 | false=>
   refine(zF fun z=>?_).symm;by_cases e:x=y
   .rw[e]at z;exact Int.lt_irrefl _ z
   .rcases O0.tot x y e with q|q
    .rw[h]at q;cases q
    .exact zA (up y x hy q) (by lia)
section
variable{prog:bb9}{w:be5}{A:bg1}{E:ba6->ba7->Prop}{s:ba7}{a b:Addr}
def vw_lt(hu:A.units+1<cLine){x y:Vw}(ha:VwA s.heap a x)(hb:VwA s.heap b y){Q:Bool->ba7->Prop}(q:Q (ltV x y) s):be1 (bf9 prog w) A (keyLt' (tuples' true) (.ref a) (.ref b)) Q E s:=by
 obtain⟨tk,p,r,us,os,⟨o1,n1,g1,_,d1⟩,h2,h3,h4,h5⟩:=ha;obtain⟨tk',p',r',us',os',⟨o2,n2,g2,_,d2⟩,h2',h3',h4',h5'⟩:=hb;have hu0:A.units<cLine:=by lia
 unfold ltV kzf at q;refine kat_lt g1 d1 g2 d2 (ci7 (bs1 ?_));rw[kkx];refine kat_go (fun e1=>cm3 (ci7 (kmh hu0 h2 h3 h2' h3' prog w _ _ ?_))) fun e1=>kat_no ?_
 .rw[zP (zO e1)]at q;refine kat_go (fun e2=>cm3 (ci7 (kmh hu0 h4 h5 h4' h5' prog w _ _ ?_))) fun e2=>kat_no (kat_one _ _ ?_)
  .rw[zP (zO e2)]at q;refine kat_go (fun e3=>cm3 (kat_nil ?_)) fun e3=>kat_no (kat_one _ _ ?_)
   .rw[zO e3,kky]at q;exact q
   .exact k27 h4 h4' h5 h5' hu0 q
  .rw[zN (of_decide_eq_false e2)]at q;exact k27 h2 h2' h3 h3' hu0 q
 .rw[zN (of_decide_eq_false e1)]at q;exact oneLt_int q
end
end
section
open PySem.W PySem.Calls
section
variable{prog:bb9}{w:be5}{A:bg1}{E:ba6->ba7->Prop}{s:ba7}{key:bi6->Int}{κ:bu5}{ok:bi6->Prop}
def kzg(L:kt3 prog w A E s key κ ok){st:bq3}{S0:List bi6}(o: ∀z∈S0,ok z)(hk:kindOf st=κ)(hf:failedOf st=none)(hp:pendingOf st= #[])(ha:(arrOf st).toList=S0)(h0:0<S0.length)(h64:S0.length<64){Q:Unit->bq3->Prop}
 (k: ∀st',failedOf st'=none->(arrOf st').toList.Perm S0->UpL key (arrOf st').toList->Q () st'):WS prog w A E s sortRuns' Q st:=by
 have sz:(arrOf st).size=S0.length:=by rw[<- ha,bf0]
 rw[sortRuns'_eq];refine bk6 (cf5 ?_);rw[sz];dsimp (zeta:=false) only;refine bk6 (cb5 (Q:=fun c st'=>c.1=none/\∃Rs,Rn key κ S0 st' Rs []/\Rs.length<=1) (b18 (fun i c st'=>∃Rs Rest,c=(none,Rs.flatten.length)/\Rn key κ S0 st' Rs Rest/\i<=Rs.flatten.length/\(Rs=[]\/(Rest=[]/\Rs.length<=1))) ?_ ?_ ⟨[],S0,rfl,⟨hk,hf,ha,bo6 _,fun r hr=>(by cases hr),by rw[hp];exact .nil 0⟩,bb7 _,.inl rfl⟩) ?_)
 .rintro i c st' _ hi⟨Rs,Rest,rfl,h,hl,alt⟩;have lt:Rs.flatten.length+Rest.length=S0.length:=by rw[<- bb4,h.pm.length_eq]
  dsimp (zeta:=false) only;refine kby (fun c=>bp0 ⟨rfl,Rs,?_⟩) fun c=>?_
  .obtain rfl:Rest=[]:=bu8 (by lia);refine⟨h,?_⟩;rcases alt with rfl|alt
   .exact bf7 _
   .exact alt.2
  obtain rfl:Rs=[]:=alt.resolve_right fun z=>by
   have:=zC bu1 z.1;simp only[bt6]at this;lia
  have h1:Pc κ st' ([]:List (List bi6)).flatten [] Rest st' Rest:=⟨h.kd,h.fl,rfl,by rw[h.ar,be9],bo6 _⟩
  have oR: ∀z∈Rest,ok z:=fun z hz=>o z (h.pm.mem_iff.mp (bh7 _ hz));refine bk6 (kt8 L h1 oR (by lia) (by lia) fun st1 D W hP hD up=>?_);have lDW:D.length+W.length=Rest.length:=by rw[<- bb4,hP.pm.length_eq]
  dsimp only;have fin: ∀(st2:bq3)(D2:List bi6),Rn key κ S0 st2 [] D2->0<D2.length->UpL key D2->Rn key κ S0 (setPending st2 ((pendingOf st2).push (([]:List (List bi6)).flatten.length,D2.length,0))) [D2] []/\[D2].flatten.length=([]:List (List bi6)).flatten.length+D2.length:=fun st2 D2 h3 hD2 up2=>by
   have fl:[D2].flatten=D2:=(by simp)
   refine⟨⟨h3.kd,h3.fl,?_,?_,fun r hr=>?_,?_⟩,by rw[fl];simp⟩
   .show(arrOf st2).toList=_;rw[h3.ar,fl];simp
   .rw[fl,be9];simpa using h3.pm
   .rw[bc4.mp hr];exact⟨hD2,up2⟩
   .show PenOk 0 ([]++[D2]) ((pendingOf st2).push (([]:List (List bi6)).flatten.length,D2.length,0)).toList;rw[cf7];exact h3.pd.snoc D2 0
  have done: ∀(st2:bq3)(D2:List bi6),Rn key κ S0 st2 [] D2->(pendingOf st2).back?=none:=fun st2 D2 h3=>by
   have:=h3.pd.len;rw[bf0]at this;have:(pendingOf st2)= #[]:=Array.eq_empty_of_size_eq_zero this;rw[this];rfl
  have em:min (S0.length-([]:List (List bi6)).flatten.length) (minRun' S0.length S0.length 0)=S0.length:=by
   obtain⟨m,hm⟩: ∃m,S0.length=m+1:=⟨S0.length-1,by lia⟩
   rw[hm,minRun'_succ,zP (by lia)];simp
  rw[em];have lR:Rest.length=S0.length:=by simpa using lt
  refine kby (fun cm=>?_) (fun cm=>?_)
  .refine bk6 (kpy ?_);have h2:Pc κ st' ([]:List (List bi6)).flatten [] (D++W) st1 (D++W):=⟨hP.kd,hP.fl,hP.pd,hP.ar,bo6 _⟩
   refine bk6 (kt6 L h2 (fun z hz=>oR z (hP.pm.mem_iff.mp hz)) (m:=D.length) (by lia) (by lia) (by rw[bb4];lia) (by rw[List.take_left];exact up) fun st2 D2 hP2 up2=>?_);refine kby (fun z=>zA z (by simp)) fun O=>?_;have hl2:D2.length=S0.length:=(by rw[hP2.pm.length_eq,bb4];lia)
   have hR:Rn key κ S0 st2 [] D2:=⟨hP2.kd,hP2.fl,by rw[hP2.ar,be9],by simpa using hP2.pm.trans (hP.pm.trans (by simpa using h.pm)),fun r hr=>(by cases hr),by rw[hP2.pd];exact h.pd⟩
   obtain⟨f1,f2⟩:=fin st2 D2 hR (by lia) up2;refine bk6 (cf5 ?_);rw[done st2 D2 hR];rw[hl2]at f1 f2;exact bk6 (cm0 (bp0 ⟨_,_,by rw[f2],f1,by rw[f2];lia,.inr ⟨rfl,bb7 _⟩⟩))
  .have hW:W=[]:=bu8 (by lia);subst hW;rw[be9]at hP;have hR:Rn key κ S0 st1 [] D:=⟨hP.kd,hP.fl,by rw[hP.ar,be9],by simpa using hP.pm.trans (by simpa using h.pm),fun r hr=>(by cases hr),by rw[hP.pd];exact h.pd⟩
   obtain⟨f1,f2⟩:=fin st1 D hR hD up;refine bk6 (cf5 ?_);rw[done st1 D hR];exact bk6 (cm0 (bp0 ⟨_,_,by rw[f2],f1,by rw[f2];lia,.inr ⟨rfl,bb7 _⟩⟩))
 .rintro c st'⟨Rs,Rest,rfl,h,hl,alt⟩;have lt:Rs.flatten.length+Rest.length=S0.length:=by rw[<- bb4,h.pm.length_eq]
  obtain rfl:Rest=[]:=bu8 (by lia);refine⟨rfl,Rs,h,?_⟩;rcases alt with rfl|alt
  .exact bf7 _
  .exact alt.2
 .rintro⟨r0,lo⟩ st' ⟨e0,Rs,h,hl1⟩;cases e0;have lt:Rs.flatten.length=S0.length:=by rw[<- h.pm.length_eq,be9]
  refine bk6 (cb5 (Q:=fun c st'=>c.1=none/\∃Rs,Rn key κ S0 st' Rs []/\Rs.length<=1) (b18 (fun i c st'=>c=(none,())/\∃Rs,Rn key κ S0 st' Rs []/\Rs.length<=1) ?_ ?_ ⟨rfl,Rs,h,hl1⟩) ?_)
  .rintro i c st' _ hi⟨rfl,Rs,h,hl⟩;have lp:(pendingOf st').size=Rs.length:=(by rw[<- bf0];exact h.pd.len)
   refine bk6 (cf5 ?_);dsimp only;rw[lp];exact kby (fun c=>bp0 ⟨rfl,Rs,h,c⟩) fun c=>zA hl c
  .rintro c st'⟨rfl,Rs,h,hl⟩;exact⟨rfl,Rs,h,hl⟩
  .rintro⟨r0,_⟩ st' ⟨e0,Rs,h,hl⟩;cases e0;have e1:(arrOf st').toList=Rs.flatten:=(by rw[h.ar,be9])
   refine bp0 (k st' h.fl (by rw[h.ar];exact h.pm) ?_);rw[e1]
   match Rs,h,hl with
   | [],_,_=>exact bz5
   | [r],h,_=>rw[bo3,List.flatten_nil,be9];exact(h.rs r bb8).2
end
section
variable{prog:bb9}{w:be5}{A:bg1}{E:ba6->ba7->Prop}{s:ba7}
def kmi{a:Addr}{vs:List ba6}{n:Nat}{P:b15->ba7->Prop}{key:bi6->Int}{κ:bu5}{ok:bi6->Prop}(ho:s.heap.get? a=some (seqObj "list" vs.toArray n))(h2:2<=vs.length)(h64:vs.length<64)(zz:vs.length<=sizeLine)
 (hkd: ∀R:bu5->ba7->Prop,R κ {s with heap:=ky0 s.heap a vs}->be1 (bf9 prog w) A (keyKind' vs.toArray) R E {s with heap:=ky0 s.heap a vs})
 (L:kt3 prog w A E {s with heap:=ky0 s.heap a vs} key κ ok)(ov: ∀v∈vs,ok (v,v))
 (h: ∀out:List ba6,(∃ l:List bi6,l.Perm (vs.map fun v=>(v,v))/\UpL key l/\out=l.map (·.2))->P (.done (.ret .none)) {s with heap:=sortedHeap s.heap a vs out.toArray}):be1 (bf9 prog w) A (Builtin.«list.sort» ⟨[.ref a],[]⟩) P E s:=by
 rw[list_sort_plain];obtain⟨e1,o1⟩: ∃e,(s.heap.update a (bj9 fun O=>(#[]:Array ba6))).get? a=some (seqObj "list" #[] e):=⟨_,get?_update_seq ho _⟩
 have o6:=ba5 (seqObj "list" #[] 0) (ba5 (seqObj "tuple" vs.toArray 0) o1);have c2: ¬vs.toArray.size<2:=by simpa using h2
 refine ba0 (listItems_at ho rfl (ba0 (b85 ho rfl (ba0 (cc4 o1 rfl (ba0 (b58 (ba0 (b86 (bk0 ?_) (bf7 _))) zz)))) (by simpa using zz) (bf7 _))));simp only[zN c2];refine ba0 (hkd _ ?_);have hr:=kzg (Q:=fun O st'=>failedOf st'=none/\(arrOf st').toList.Perm (vs.map fun v=>(v,v))/\UpL key (arrOf st').toList) L (st:=cp6 κ (vs.toArray.zip vs.toArray) #[] 7 none) (S0:=vs.map fun v=>(v,v)) (fun z hz=>by
  obtain⟨v,hv,rfl⟩:=bb1.mp hz;exact ov v hv) rfl rfl rfl (by show(vs.toArray.zip vs.toArray).toList=_;simp only[ch6];exact kh6 vs) (by rw[ba3];lia) (by rw[ba3];exact h64) (fun st' a1 a2 a3=>⟨a1,a2,a3⟩)
 refine ba0 (bs2 hr ?_ fun O O z=>z);rintro⟨_,st'⟩ s' ⟨rfl,hf,hp,hu⟩;dsimp only;have eo:(arrOf st').map (·.2)=((arrOf st').toList.map (·.2)).toArray:=by
  apply Array.toList_inj.mp;rw[Array.toList_map]
 have lo:((arrOf st').toList.map (·.2)).length=vs.length:=by rw[ba3,hp.length_eq,ba3]
 rw[eo,hf];refine ba0 (cc4 o6 rfl (ba0 (b85 o6 rfl ?_ (bf7 _) (by rw[bd6,lo];exact b71 zz))));simp only[bne_self_eq_false,bj1,if_false];exact ba9 (h _ ⟨_,hp,hu,rfl⟩)
def khm{l:Addr}{vs:List ba6}{Q:ba6->ba7->Prop}{key:bi6->Int}{κ:bu5}{ok:bi6->Prop}(hl:s.heap.IsList l vs.toArray)(h2:2<=vs.length)(h64:vs.length<64)(zz:vs.length<=sizeLine)
 (hkd: ∀(A':bg1)(E':ba6->ba7->Prop)(h':Heap),(∀ b o,s.heap.get? b=some o->h'.get? b=some o)->A'.units<=A.units+2->(∀ R:bu5->ba7->Prop,R κ {s with heap:=h'}->be1 (bf9 prog w) A' (keyKind' vs.toArray) R E' {s with heap:=h'})/\kt3 prog w A' E' {s with heap:=h'} key κ ok)(ov: ∀v∈vs,ok (v,v))
 (h: ∀out:List ba6,(∃ l:List bi6,l.Perm (vs.map fun v=>(v,v))/\UpL key l/\out=l.map (·.2))->Q (.ref (s.heap.objs.size+1)) {s with heap:=sortedAll s.heap vs out.toArray}):be1 (bf9 prog w) A (call (.builtin "sorted") [.ref l]) Q E s:=by
 apply bx1 kind_sorted plain_sorted entry_sorted
 .exact args_sorted1 _
 unfold Builtin.«sorted»;refine ba0 (m:=checkCount "sorted" 1 1 _) (ba9 (ba0 (collect_list hl (ba0 (b86 ?_ zz)) zz)));have hz:((s.heap.push (seqObj "list" #[] 0)).update s.heap.objs.size (bj9 (· ++vs.toArray))).objs.size=s.heap.objs.size+1:=(ch7 ..).trans (size_push' ..);have ol:(((s.heap.push (seqObj "list" #[] 0)).update s.heap.objs.size (bj9 (· ++vs.toArray))).push (seqObj "list" vs.toArray 0)).get? (s.heap.objs.size+1)=some (seqObj "list" vs.toArray 0):=hz▸bc7 _ rfl
 change be1 _ _ _ _ _ {s with heap:=((s.heap.push (seqObj "list" #[] 0)).update s.heap.objs.size (bj9 (· ++vs.toArray))).push (seqObj "list" vs.toArray 0)}
 rw[hz];refine ba0 (bk0 (bg4 b60 ⟨_,ol,rfl⟩ b36 (kmi ol h2 h64 zz (hkd _ _ _ ?hh ?hu).1 (hkd _ _ _ ?hh ?hu).2 ov fun out ho=>⟨_,rfl,ba9 ⟨_,rfl,h out ho⟩⟩) (b61 _)))
 case hh=>
  intro b o hb;have lb:=bd0 hb;have n1:b≠s.heap.objs.size:=bf5 lb;have n2:b≠s.heap.objs.size+1:=bf5 (bl0 lb);unfold ky0;refine ba5 _ (ba5 _ ?_);rw[b39 _ _ _ _ n2];refine ba5 _ ?_;rw[b39 _ _ _ _ n1];exact ba5 _ hb
 case hu=>exact bb7 _
end
end
section
open PySem.W PySem.Calls
def kig: ∀{x:List Int}{ts:List ba6},Vals (x.map V.int) ts->IntsAre ts x
 | [],_,r=>by cases r;exact .nil
 | n::x,_,r=>by
   rw[bg2]at r;cases r with
   | cons h t=>
     obtain⟨tk,rfl⟩:=(show ∃t,_=by2 n t from h)
     exact .cons n tk (kig t)
def kmj{P:bb9}{w:be5}{H:Hp}{h:Heap}{a:Addr}{xs:List V}(ok:HOk P w H h)(e:H a=some (.tup xs)): ∃ts,Vals xs ts/\TpA h a ts:=by
 obtain⟨_,ts,r,o,h1,h2,n,h3⟩:=(show ObjOk P w H h a (.tup xs)from ok a _ e)
 exact⟨ts,r,o,n,h1,h2,h3⟩
def khn{P:bb9}{w:be5}{H:Hp}{h:Heap}{a:Addr}{k:Vw}(ok:HOk P w H h)(v:VwH H a k):VwA h a k:=by
 obtain⟨p,q,h1,h2,h3⟩:=v;obtain⟨ts,r,t1⟩:=kmj ok h1;obtain⟨us,ru,t2⟩:=kmj ok h2;obtain⟨os,ro,t3⟩:=kmj ok h3;cases r with
 | cons r1 r=>
   cases r with
   | cons r2 r=>
     cases r with
     | cons r3 r=>
       cases r;obtain⟨tk,rfl⟩:=(show ∃t,_=by2 k.1 t from r1)
       cases(show _=bg0 p from r2);cases(show _=bg0 q from r3);exact⟨tk,p,q,us,os,t1,t2,kig ru,t3,kig ro⟩
def kqm{M:Model}{A:bg1}{E:ba6->ba7->Prop}{s:ba7}{its:List ba6}(h2:0<its.length)(hv: ∀v∈its,∃a k,v= .ref a/\VwA s.heap a k){R:bu5->ba7->Prop}(q:R (tuples' true) s):be1 M A (keyKind' its.toArray) R E s:=by
 have tups: ∀(l:List ba6),(∀ v∈l,∃a k,v= .ref a/\VwA s.heap a k)->∃fs,fs.length=l.length/\KatTups s.heap l fs/\∀f∈fs,∃x t,f=by2 x t:=fun l=>by
  induction l with
  | nil=>exact fun O=>⟨[],rfl,cp3,fun O z=>nomatch z⟩
  | cons v l ih=>
    intro hv;obtain⟨fs,f1,f2,f3⟩:=ih fun v hm=>hv v (bc0 _ hm);obtain⟨a,k,rfl,tk,p,q,us,os,⟨o,n,a1,a2,a3⟩,_⟩:=hv v bb8;exact⟨.int k.1 tk::fs,by rw[bg5,bg5,f1],co3 a1 a2 a3 rfl f2,fun f hf=>(bc6.mp hf).elim (fun z=>⟨_,tk,z⟩) (f3 f)⟩
 obtain⟨fs,f1,f2,f3⟩:=tups its hv;refine kat_kind (T:= .type "int") f2 (by lia) (fun v hv=>?_) (by decide) ?_
 .obtain⟨x,t,rfl⟩:=f3 v hv;exact cm8 rfl
 rw[show(bq4 "int" != bq4 "tuple")=true by decide];exact q
abbrev vw0:Vw:=(0,[],[])
abbrev UpV(vs:List Vw)(π:List Nat):Prop:=∀i j,i<=j->j<π.length->ltV (vs.getD (π.getD j 0) vw0) (vs.getD (π.getD i 0) vw0)=false
def kwl{its:List ba6}{vs:List Vw}(hl:its.length=vs.length)(same: ∀i j,i<its.length->j<its.length->its.getD i bd8=its.getD j bd8->vs.getD i vw0=vs.getD j vw0):
 ∃key:bi6->Int,∀i,i<its.length->∀v,key (its.getD i bd8,v)=rk ltV vs (vs.getD i vw0):=by
 classical
 refine⟨fun kd=>if hh: ∃i,i<its.length/\its.getD i bd8=kd.1 then rk ltV vs (vs.getD hh.choose vw0)else 0,fun i hi v=>?_⟩;have hh: ∃j,j<its.length/\its.getD j bd8=its.getD i bd8:=⟨i,hi,rfl⟩
 show(if hh: ∃j,j<its.length/\its.getD j bd8=its.getD i bd8 then rk ltV vs (vs.getD hh.choose vw0)else 0)=_;rw[dif_pos hh,same _ _ hh.choose_spec.1 hi hh.choose_spec.2]
def kga{vs:List Vw}{i:Nat}(h:i<vs.length):vs.getD i vw0∈vs:=by
 rw[bb5,ba4 h];exact bf1 h
def kul{vs:List Vw}{i j:Nat}(hi:i<vs.length)(hj:j<vs.length)(h:rk ltV vs (vs.getD i vw0)<=rk ltV vs (vs.getD j vw0)):ltV (vs.getD j vw0) (vs.getD i vw0)=false:=by
 rw[k3b k3a (kga hj) (kga hi)];exact zF (by lia)
def k3c{prog:bb9}{w:be5}{A:bg1}{E:ba6->ba7->Prop}{s:ba7}{its:List ba6}{vs:List Vw}{key:bi6->Int}(hu:A.units+1<cLine)(hl:its.length=vs.length)
 (at_: ∀i,i<its.length->∃a,its.getD i bd8= .ref a/\VwA s.heap a (vs.getD i vw0))(hkey: ∀i,i<its.length->∀v,key (its.getD i bd8,v)=rk ltV vs (vs.getD i vw0)):
 kt3 prog w A E s key (tuples' true) (fun kd=>∃i,i<its.length/\kd=(its.getD i bd8,its.getD i bd8)):=fun x y st R ⟨i,hi,ex⟩ ⟨j,hj,ey⟩ hk hR=>by
 subst ex ey;rw[<- kyx,lt'_eq];obtain⟨a,e1,va⟩:=at_ i hi;obtain⟨b,e2,vb⟩:=at_ j hj;refine bk6 (cf5 (bk6 (wpS_lift (bu3 ?_))));rw[hk];dsimp only;rw[e1,e2];refine vw_lt hu va vb ⟨rfl,bp0 ?_⟩;rw[hkey i hi,hkey j hj]at hR;rw[k3b k3a (kga (by lia)) (kga (by lia))];exact hR
def kwm{its:List ba6}{vs:List Vw}{key:bi6->Int}(hl:its.length=vs.length)(hkey: ∀i,i<its.length->∀v,key (its.getD i bd8,v)=rk ltV vs (vs.getD i vw0)){l:List bi6}(lp:l.Perm (its.map fun v=>(v,v)))(lu:UpL key l):
 ∃π:List Nat,π.Perm (ba8 vs.length)/\UpV vs π/\l.map (·.2)=π.map fun i=>its.getD i bd8:=by
 obtain⟨π,hp,rfl⟩:=kh8 (f:=fun i=>(its.getD i bd8,its.getD i bd8)) lp (ba8 its.length) (by
  conv=>lhs;rw[<- kb5 its bd8]
  rw[bc1];rfl)
 have pin: ∀i∈π,i<its.length:=fun i hi=>bb2.mp (hp.mem_iff.mp hi);refine⟨π,by rw[<- hl];exact hp,fun i j hij hj=>?_,by rw[bc1];rfl⟩;rw[show π.getD i 0=π[i]'(by lia) by simp[show i<π.length by lia],show π.getD j 0=π[j] by simp[hj]];have q1:=pin _ (bf1 (l:=π) (n:=i) (by lia));have q2:=pin _ (bf1 (l:=π) (n:=j) hj);refine kul (by lia) (by lia) ?_;rcases bp1 hij with q|q
 .have z:=be0.mp lu i j (by rw[ba3];lia) (by rw[ba3];exact hj) q;rw[bq9,bq9,hkey _ q1,hkey _ q2]at z;exact z
 .subst q;exact b01 _
section
variable{X:Cx}
def knx(K:ba2)(hK:X.K=K)(hu:X.A.units+40<cLine):kdk X (.builtin "sorted") (fun xs H Q=>∃(p:Addr)(ys:List V)(vs:List Vw),xs=[.ref p]/\SqL K H p ys/\ys.length=vs.length/\vs.length<64/\
 (∀ (i:Nat)(v:Vw),vs[i]?=some v->∃a,ys[i]?=some (.ref a)/\VwH H a v)/\
 ∀(l:Addr)(π:List Nat),H l=none->π.Perm (ba8 vs.length)->UpV vs π->Q (.ref l) (upd H l (.lst (π.map fun i=>ys.getD i V.non)))):=by
 subst hK;intro pI s σ H xs us Q I r h;obtain⟨p,ys,vs,rfl,hq,hl,h64,hat,k⟩:=h;obtain⟨u,rfl,r1⟩:=kef r;cases(show u=bg0 p from r1);obtain⟨its,rv,⟨op,n0,hop,hc,_,hd⟩,hz⟩:=I.list hq;have hL:s.heap.IsList p its.toArray:=⟨op,hop,hc,n0,hd⟩
 have hil:its.length=vs.length:=by rw[<- rv.length,hl]
 have hf:H (s.heap.objs.size+1)=none:=I.hok.fresh (bu2 _);have fin: ∀π:List Nat,π.Perm (ba8 vs.length)->UpV vs π->∃v H',Inv X pI σ H' {s with heap:=sortedAll s.heap its (π.map fun i=>its.getD i bd8).toArray}/\RelV v (.ref (s.heap.objs.size+1))/\Q v H':=fun π hp ho=>by
  obtain⟨e,at_⟩:=cg7 s.heap its (π.map fun i=>its.getD i bd8).toArray;have pin: ∀i∈π,i<ys.length:=fun i hi=>by rw[hl];exact bb2.mp (hp.mem_iff.mp hi)
  refine⟨.ref (s.heap.objs.size+1),upd H (s.heap.objs.size+1) (.lst (π.map fun i=>ys.getD i V.non)),?_,rfl,k _ _ hf hp ho⟩;exact I.laid (t':=s.toks) (fun b o e=>cd6 e) (bu2 _) ⟨by rw[ba3,hp.length_eq,be8,<- hl];exact hz,π.map fun i=>its.getD i bd8,e,kh4 rv π pin,at_⟩
 by_cases h2:its.length<2
 .refine kf1 hL h2 ?_;have:=fin (ba8 vs.length) (bo6 _) fun i j hij hj=>by
   rw[be8]at hj;have:i=j:=(by lia)
   rw[this];exact k3a.irr _
  rw[show(ba8 vs.length).map (fun i=>its.getD i bd8)=its by rw[<- hil];exact kb5 its bd8]at this;exact this
 have h2:2<=its.length:=by lia
 have at0: ∀i,i<its.length->∃a,its.getD i bd8= .ref a/\VwA s.heap a (vs.getD i vw0):=fun i hi=>by
  have e1:vs[i]?=some vs[i]:=ba4 (by lia);obtain⟨a,ha,hH⟩:=hat i _ e1;obtain⟨u,e2,r2⟩:=rv.get ha;cases(show u=bg0 a from r2);refine⟨a,by rw[bb5,e2];rfl,?_⟩;rw[show vs.getD i vw0=vs[i] by simp[show i<vs.length by lia]];exact khn I.hok hH
 obtain⟨key,hkey⟩:=kwl hil fun i j hi hj e=>by
  obtain⟨a,e1,v1⟩:=at0 i hi;obtain⟨b,e2,v2⟩:=at0 j hj;rw[e1,e2]at e;cases e;exact v1.inj v2
 refine khm (κ:=tuples' true) (key:=key) (ok:=fun kd=>∃i,i<its.length/\kd=(its.getD i bd8,its.getD i bd8)) hL h2 (by lia) (by rw[<- rv.length];exact hz) (fun A' E' h' keep hA=>?_) (fun v hv=>?_) fun out ho=>?_
 .have at1: ∀i,i<its.length->∃a,its.getD i bd8= .ref a/\VwA h' a (vs.getD i vw0):=fun i hi=>by
   obtain⟨a,e,v⟩:=at0 i hi;exact⟨a,e,v.to fun b o q O=>keep b o q⟩
  refine⟨fun R hR=>kqm (by lia) (fun v hv=>?_) hR,k3c (by lia) hil at1 hkey⟩;obtain⟨i,hi,e⟩:=bf3 hv;obtain⟨a,e1,v1⟩:=at1 i hi;exact⟨a,_,by rw[<- e1];simp[hi,e],v1⟩
 .obtain⟨i,hi,e⟩:=bf3 hv;exact⟨i,hi,by rw[show its.getD i bd8=v by simp[hi,e]]⟩
 .obtain⟨l,lp,lu,rfl⟩:=ho;obtain⟨π,p1,p2,p3⟩:=kwm hil hkey lp lu;rw[p3];exact fin π p1 p2
end
end
section
open PySem.W PySem.Calls PySem.SetTable
abbrev SetV(w:be5)(l:Addr)(zs:List (Addr×Vw))(h:Heap):Prop:=∃R,k00 (knv w) h l R/\(R.map (·.2)).Perm (zs.map fun z=>(vwH z.2,bg0 z.1))
def SetV.to{w:be5}{l:Addr}{zs:List (Addr×Vw)}{h h':Heap}(x:SetV w l zs h)(k: ∀o,h.get? l=some o->h'.get? l=some o):SetV w l zs h':=by
 obtain⟨R,⟨o,es,ep,t,h1,r⟩,p⟩:=x;exact⟨R,⟨o,es,ep,t,k o h1,r⟩,p⟩
def SetV.obj{w:be5}{l:Addr}{zs:List (Addr×Vw)}{h:Heap}(x:SetV w l zs h): ∃o,h.get? l=some o:=by
 obtain⟨R,⟨o,es,ep,t,h1,r⟩,p⟩:=x;exact⟨o,h1⟩
section
variable{prog:bb9}{w:be5}{A:bg1}{E:ba6->ba7->Prop}{s:ba7}
def kum{C:Heap->Prop}{d:Addr}{zs:List (Addr×Vw)}{a:Addr}{k:Vw}(hu:A.units+1<cLine)(S:SetV w d zs s.heap)(hl:zs.length<=16)(c:C s.heap)(hz: ∀z∈zs,∀h,C h->VwA h z.1 z.2)(hk: ∀h,C h->VwA h a k){Q:Bool->ba7->Prop}
 (h1:k∈zs.map (·.2)->∀tk,Q false {s with toks:=tk})(h2:k ∉ zs.map (·.2)->∀h' tk,bn0 d s.heap h'->SetV w d ((a,k)::zs) h'->Q true {s with heap:=h',toks:=tk}):
 be1 (bf9 prog w) A (setAdd d (.ref a)) Q E s:=by
 classical
 obtain⟨R,S,p⟩:=S;have rz: ∀r∈R,∃z∈zs,r.2=(vwH z.2,bg0 z.1):=fun r hr=>by
  obtain⟨z,hz,e⟩:=bb1.mp (p.mem_iff.mp (bi7 hr));exact⟨z,hz,e.symm⟩
 let e:ba6->Bool:=fun u=>decide (∃ z∈zs,u= .ref z.1/\z.2=k)
 have ee: ∀z∈zs,e (.ref z.1)=decide (z.2=k):=fun z hz'=>by
  show decide (∃ z'∈zs,bg0 z.1= .ref z'.1/\z'.2=k)=_;rw[decide_eq_decide];constructor
  .rintro⟨z',m',q1,q2⟩;injection q1 with q1;have v1:=hz z hz' _ c;have v2:=hz z' m' _ c;rw[<- q1]at v2;rw[v1.inj v2];exact q2
  .intro q;exact⟨z,hz',rfl,q⟩
 refine ky7 (C:=C) (h:=vwH k) (e:=e) S (by have:=p.length_eq;simp at this;lia) (k29 hu hk) (fun r hr=>?_) c (fun r hr s' c'=>?_) (fun r hr he=>?_) (fun⟨r,hr,he⟩=>?_) fun hno h' R' tk sb S' p'=>?_
 .obtain⟨z,hz',e⟩:=rz r hr;rw[e];exact⟨_,k29 hu (hz z hz')⟩
 .obtain⟨z,hz',e⟩:=rz r hr;rw[e,ee z hz'];exact k28 hu (hz z hz' _ c') (hk _ c')
 .obtain⟨z,hz',q⟩:=rz r hr;rw[q]at he⊢;rw[ee z hz']at he;rw[zO he]
 .obtain⟨z,hz',q⟩:=rz r hr;rw[q,ee z hz']at he;exact h1 (bb1.mpr ⟨z,hz',zO he⟩)
 .refine h2 (fun z=>?_) h' tk sb ⟨R',S',p'.trans ?_⟩
  .obtain⟨z,hz',q⟩:=bb1.mp z;obtain⟨r,hr,q2⟩:=bb1.mp (p.mem_iff.mpr (bi7 hz'));have:=hno r hr;rw[q2,ee z hz',zT q]at this;cases this
  .exact p.cons _
end
def kun{w:be5}{l:Addr}{h:Heap}(e:h.get? l=some (ks6 (knv w))):SetV w l [] h:=
 ⟨[],⟨_,#[],0,_,e,⟨rfl,rfl,rfl⟩,rfl,⟨rfl,rfl,rfl,bz5,fun O z=>nomatch z⟩,(fun O z=>nomatch z),.inl rfl,(show 0*5<7*3 by decide),rfl,rfl⟩,bo6 _⟩
abbrev JV(w:be5)(ys:List V)(vs:List Vw)(h0:Heap)(i:Nat)(h:Heap):Prop:=(∀ b o,h0.get? b=some o->h.get? b=some o)/\∃zs:List (Addr×Vw),SetV w h0.objs.size zs h/\(zs.map (·.2)).Nodup/\(∀ v,v∈zs.map (·.2)↔v∈vs.take i)/\(∀ z∈zs,∃j:Nat,ys[j]?=some (V.ref z.1)/\vs[j]?=some z.2)/\zs.length<=i
section
variable{X:Cx}
def kqn(K:ba2)(w:be5)(hw:X.w=w)(hK:X.K=K)(hc:X.calm=true)(hu:X.A.units+40<cLine):kdk X (.type "set") (fun xs H Q=>∃(p:Addr)(ys:List V)(vs:List Vw),xs=[.ref p]/\SqL K H p ys/\ys.length=vs.length/\vs.length<=16/\
 (∀ (i:Nat)(v:Vw),vs[i]?=some v->∃a,ys[i]?=some (.ref a)/\VwH H a v)/\
 ∀(l:Addr)(zs:List (Addr×Vw)),H l=none->(zs.map (·.2)).Nodup->(∀ v,v∈zs.map (·.2)↔v∈vs)->(∀ z∈zs,∃j:Nat,ys[j]?=some (V.ref z.1)/\vs[j]?=some z.2)->Q (.ref l) (upd H l (.ext (SetV w l zs)))):=by
 subst hK;subst hw;intro pI s σ H xs us Q I r h;obtain⟨p,ys,vs,rfl,hq,hl,h16,hat,k⟩:=h;obtain⟨u,rfl,r1⟩:=kef r;cases(show u=bg0 p from r1);obtain⟨its,rv,⟨op,n0,hop,hcl,_,hd⟩,hz⟩:=I.list hq;have hL:s.heap.IsList p its.toArray:=⟨op,hop,hcl,n0,hd⟩
 have hil:its.length=vs.length:=by rw[<- rv.length,hl]
 have at0: ∀(i:Nat)(v:ba6),its[i]?=some v->∃a k,v= .ref a/\vs[i]?=some k/\VwH H a k/\ys[i]?=some (.ref a):=fun i v hv=>by
  have hi:i<its.length:=(bb3.mp hv).1;have e1:vs[i]?=some vs[i]:=ba4 (by lia);obtain⟨a,ha,hH⟩:=hat i _ e1;obtain⟨u,e2,r2⟩:=rv.get ha;cases(show u=bg0 a from r2);rw[hv]at e2;cases e2;exact⟨a,_,rfl,e1,hH,ha⟩
 let C:Heap->Prop:=fun h=>∀b o,s.heap.get? b=some o->h.get? b=some o
 have cv: ∀a k,VwH H a k->∀h,C h->VwA h a k:=fun a k v h c=>(khn I.hok v).to fun b o q O=>c b o q;refine kqd (J:=JV X.w ys vs s.heap) (I.ok.hd hc) hL (fun h' e c=>⟨c,[],kun e,bt0,by simp,(fun O z=>nomatch z),bb7 _⟩) (fun i h h' ⟨c,zs,S,r⟩ kp=>⟨fun b o e=>kp b o (fun z=>zA (bd0 e) (by rw[z];exact cl8.mpr (bu2 _))) (c b o e),zs,S.to fun o e=>kp _ o (bf5 (bs3 _)) e,r⟩) (fun i v s' E Q hv ⟨c,zs,S,nd,mem,vz,le⟩ q=>?_) fun h' tk ⟨c,zs,S,nd,mem,vz,le⟩ kp=>?_
 .obtain⟨a,kv,rfl,e1,va,ea⟩:=at0 i v (by simpa using hv);have vzH: ∀z∈zs,VwH H z.1 z.2:=fun z hz=>by
   obtain⟨j,j1,j2⟩:=vz z hz;obtain⟨b,b1,b2⟩:=hat j _ j2;rw[j1]at b1;cases b1;exact b2
  have hlt:i<vs.length:=(bb3.mp e1).1;have tk1:vs.take (i+1)=vs.take i++[kv]:=by rw[bz8,e1];rfl
  refine kum (C:=C) (zs:=zs) (k:=kv) (by simp only[b21];lia) S (by lia) c (fun z hz=>cv _ _ (vzH z hz)) (cv a kv va) (fun hm tk=>?_) fun hm h' tk sb S'=>?_
  .refine q false s'.heap tk (cf1 _ _) ⟨c,zs,S,nd,fun v=>?_,vz,by lia⟩;rw[mem v,tk1,bh3,bc4];constructor
   .exact .inl
   .rintro(z|rfl)
    .exact z
    .exact(mem _).mp hm
  .refine q true h' tk sb ⟨fun b o e=>?_,(a,kv)::zs,S',bj4.mpr ⟨hm,nd⟩,fun v=>?_,fun z hz=>?_,by simp;lia⟩
   .rw[sb.2 b (bf5 (bd0 e))];exact c b o e
   .rw[bg2,bc6,mem v,tk1,bh3,bc4,or_comm]
   .rcases bc6.mp hz with rfl|hz
    .exact⟨i,ea,e1⟩
    .exact vz z hz
 .have hf:H s.heap.objs.size=none:=I.hok.fresh (bb7 _);refine⟨.ref s.heap.objs.size,_,I.laid (a:=s.heap.objs.size) (o:= .ext (SetV X.w s.heap.objs.size zs)) (t':=tk) (fun b o e=>c b o e) (bb7 _) (show SetV X.w s.heap.objs.size zs h'/\_/\_ from⟨S,S.obj,fun h1 h2 x y=>x.to y⟩),rfl,k _ zs hf nd (fun v=>?_) vz⟩;rw[mem v,br8 (by simp;lia)]
end
end
section
open PySem.W PySem.Calls PySem.SetTable
@[reducible]def zv0:Addr×Vw:=(0,vw0)
section
variable{X:Cx}
def kny(w:be5)(hw:X.w=w)(hc:X.calm=true)(hu:X.A.units+40<cLine):kdk X (.builtin "sorted") (fun xs H Q=>∃(a:Addr)(zs:List (Addr×Vw)),xs=[.ref a]/\H a=some (.ext (SetV w a zs))/\zs.length<=16/\(∀ z∈zs,VwH H z.1 z.2)/\
 ∀(l:Addr)(ts:List (Addr×Vw)),H l=none->ts.Perm zs->ts.Pairwise (fun x y=>ltV y.2 x.2=false)->Q (.ref l) (upd H l (.lst (ts.map fun z=>V.ref z.1)))):=by
 subst hw;intro pI s σ H xs us Q I r h;obtain⟨a,zs,rfl,ha,h16,hv,q⟩:=h;obtain⟨u,rfl,r1⟩:=kef r;cases(show u=bg0 a from r1);obtain⟨⟨R,⟨o,es,ep,t,h1,h2,h3,T,_,hm,hl5,hpl,hld⟩,pz⟩,_,_⟩:=(show ObjOk X.prog X.w H s.heap a (.ext (SetV X.w a zs))from I.hok a _ ha)
 obtain⟨m,hn,_⟩:=id I.loc;have F0:Fr X.base X.env.locals s.heap m:=⟨hn,I.bk,bi9 I.ok.bsz I.ok.above⟩
 have S:SAt X.w s.heap a es ep t R:=by
  obtain⟨c1,c2,c3,c4⟩:=o;obtain⟨x1,x2,x3⟩:=h2;simp only at x1 x2 x3 h3;subst x1;subst x2;subst x3;subst h3;exact⟨h1,T,by lia,hpl,hld⟩
 have hR:R.length=zs.length:=by have:=pz.length_eq;simpa using this
 have hes:es.size=zs.length:=by rw[T.size,hR]
 obtain⟨ts0,tp,te⟩:=kh8 (f:=fun z:Addr×Vw=>(vwH z.2,bg0 z.1)) ((kme X.w a es ep).trans (by rw[T.e];exact pz)) zs rfl;have tl:ts0.length=zs.length:=tp.length_eq;have sl:zs.length<=sizeLine:=by rw[bu0];lia
 refine kdu_sorted (kzd (es:=es) (ep:=ep) (t:=t) (R:=R)) (I.ok.hd hc) F0 (kpv (base:=X.base)) S (by rw[hes];exact sl) fun D h' tk vs F' N' hD hl' hvs=>?_;have hvs:vs=ts0.map fun z=>bg0 z.1:=by
  apply bx4
  .rw[hl',hes,ba3,tl]
  .intro i i1 i2;obtain⟨e,e1,e2⟩:=hvs i _ (ba4 i1);rw[e2,bq9];rw[<- bf2,te,bc8,ba4 (by rw[ba3]at i2;exact i2)]at e1;cases e1;rfl
 have hil:vs.length=ts0.length:=by rw[hvs,ba3]
 have rv:Vals (ts0.map fun z=>V.ref z.1) vs:=by rw[hvs];exact kjx (f:=fun z:Addr×Vw=>z.1) ts0
 have ol:h'.get? D=some (seqObj "list" vs.toArray 0):=(N' _ bb8).1;have keep: ∀b o,s.heap.get? b=some o->b≠X.env.locals->(ky0 h' D vs).get? b=some o:=fun b o e hb=>by
  have:h'.get? b=some o/\b≠D:=by
   cases q:X.base.get? b with
   | some o2=>
     have e2:=I.bk b o2 q;rw[e]at e2;cases e2;exact⟨F'.keep b o q,fun z=>by have:=(N' _ bb8).2.2;dsimp only at this;rw[<- z,q]at this;cases this⟩
   | none=>
     have mm:=kh5 e hb q;exact⟨(N' _ (bc0 _ mm)).1,bf5 (hD _ mm)⟩
  unfold ky0;refine ba5 _ (ba5 _ ?_);rw[b39 _ _ _ _ this.2];exact this.1
 have zin: ∀i,i<ts0.length->ts0.getD i zv0∈zs:=fun i hi=>by
  rw[show ts0.getD i zv0=ts0[i] by simp[hi]];exact tp.mem_iff.mp (bf1 hi)
 have lo: ∀b xs,H b=some (.tup xs)->b≠X.env.locals:=fun b xs e z=>by rw[z,I.free]at e;cases e
 have vw1: ∀i,i<vs.length->∃a,vs.getD i bd8= .ref a/\VwA (ky0 h' D vs) a ((ts0.map (·.2)).getD i vw0):=fun i hi=>by
  have hi':i<ts0.length:=by lia
  refine⟨(ts0.getD i zv0).1,by rw[hvs];simp[hi'],?_⟩;have hz:=hv _ (zin i hi');rw[show(ts0.map (·.2)).getD i vw0=(ts0.getD i zv0).2 by simp[hi']];obtain⟨p,q,e1,e2,e3⟩:=id hz;obtain⟨tk0,p',q',us,os,t1,t2,t3,t4,t5⟩:=khn I.hok hz;have t6:=(kmj I.hok e1)
  obtain⟨ts,rr,t6⟩:=t6;cases t1.inj t6;have rr1:Vals [.int (ts0.getD i zv0).2.1,.ref p,.ref q] [.int (ts0.getD i zv0).2.1 tk0,.ref p',.ref q']:=rr;cases rr1 with
  | cons r1 rr=>
    cases rr with
    | cons r2 rr=>
      cases rr with
      | cons r3 _=>
        cases(show bg0 p'=bg0 p from r2);cases(show bg0 q'=bg0 q from r3);exact⟨tk0,p,q,us,os,t1.to fun o g O=>keep _ _ g (lo _ _ e1),t2.to fun o g O=>keep _ _ g (lo _ _ e2),t3,t4.to fun o g O=>keep _ _ g (lo _ _ e3),t5⟩
 have zv:vs.length<=sizeLine:=by lia
 have fin: ∀π:List Nat,π.Perm (ba8 ts0.length)->UpV (ts0.map (·.2)) π->∃v H',Inv X pI σ H' {s with heap:=sortedHeap h' D vs (π.map fun i=>vs.getD i bd8).toArray,toks:=tk}/\RelV v (.ref D)/\Q v H':=fun π hp hs=>by
  obtain⟨c,F2,N2⟩:=kp2 (out:=π.map fun i=>vs.getD i bd8) F' N' hD;have pin: ∀i∈π,i<ts0.length:=fun i hi=>bb2.mp (hp.mem_iff.mp hi);have J:=I.newAt hn F2 N2 hD (kh4 rv π fun i hi=>by rw[ba3];exact pin i hi) (by rw[ba3,hp.length_eq,be8];lia);have eq:(π.map fun i=>(ts0.map fun z=>V.ref z.1).getD i V.non)=(π.map fun i=>ts0.getD i zv0).map fun z=>V.ref z.1:=by
   rw[bc1];refine bh9 fun i hi=>?_;have:=pin i hi;simp[this]
  rw[eq]at J;refine⟨.ref D,_,J.2.tok tk,rfl,q D _ J.1 ?_ ?_⟩
  .have:=hp.map fun i=>ts0.getD i zv0;rw[kb5]at this;exact this.trans tp
  .rw[be0];intro i j hi hj hij;rw[ba3]at hi hj;have z:=hs i j (by lia) hj;simp only[bq9];rw[show π.getD i 0=π[i] by simp[hi],show π.getD j 0=π[j] by simp[hj]]at z;have p1:=pin _ (bf1 hi);have p2:=pin _ (bf1 hj);simpa[p1,p2]using z
 have hil2:vs.length=(ts0.map (·.2)).length:=by rw[ba3];exact hil
 by_cases h2:vs.length<2
 .refine bg4 b60 ⟨_,ol,rfl⟩ b36 (khj ol h2 ⟨_,rfl,?_⟩) (b61 _);have:=fin (ba8 ts0.length) (bo6 _) fun i j hij hj=>by
   rw[be8]at hj;have:i=j:=(by lia)
   rw[this];exact k3a.irr _
  rw[show(ba8 ts0.length).map (fun i=>vs.getD i bd8)=vs by rw[<- hil];exact kb5 vs bd8]at this;exact this
 have h2:2<=vs.length:=by lia
 obtain⟨key,hkey⟩:=kwl hil2 fun i j hi hj e=>by
  obtain⟨a,e1,v1⟩:=vw1 i hi;obtain⟨b,e2,v2⟩:=vw1 j hj;rw[e1,e2]at e;cases e;exact v1.inj v2
 refine bg4 b60 ⟨_,ol,rfl⟩ b36 (kmi (κ:=tuples' true) (key:=key) (ok:=fun kd=>∃i,i<vs.length/\kd=(vs.getD i bd8,vs.getD i bd8)) ol h2 (by lia) zv (fun R hR=>kqm (by lia) (fun v hv=>?_) hR) (k3c (by simp only[b21];lia) hil2 vw1 hkey) (fun v hv=>?_) fun out ho=>⟨_,rfl,?_⟩) (b61 _)
 .obtain⟨i,hi,e⟩:=bf3 hv;obtain⟨a,e1,v1⟩:=vw1 i hi;exact⟨a,_,by rw[<- e1];simp[hi,e],v1⟩
 .obtain⟨i,hi,e⟩:=bf3 hv;exact⟨i,hi,by rw[show vs.getD i bd8=v by simp[hi,e]]⟩
 .obtain⟨l,lp,lu,rfl⟩:=ho;obtain⟨π,p1,p2,p3⟩:=kwm hil2 hkey lp lu;rw[p3];exact fin π (by rw[ba3]at p1;exact p1) p2
end
end
section
variable{prog:bb9}{w:be5}{A:bg1}{E:ba6->ba7->Prop}{s:ba7}{a b:Addr}{its:List ba6}
abbrev HsN(prog:bb9)(w:be5)(A:bg1)(hp:Heap)(v:ba6)(h:Int×Nat):Prop:=∀(s:ba7)(E:ba6->ba7->Prop)(Q:Int->ba7->Prop),s.heap=hp->Q h.1 {s with toks:=s.toks+h.2}->be1 (bf9 prog w) A (pyHash v) Q E s
def kmk(hu:A.units<cLine)(x:TpA s.heap a its){hs:List (Int×Nat)}(hq:Paired (HsN prog w A.in1 s.heap) its hs)
 {Q:Int->ba7->Prop}(q:Q (reduceHash (bi2 (hs.map (·.1)))) {s with toks:=s.toks+((hs.map (·.2)).sum+1)}):be1 (bf9 prog w) A (pyHash (.ref a)) Q E s:=by
 have ty:=x.ty;obtain⟨o,n,ho,_,hd⟩:=x;unfold pyHash pyHashByItsType;refine ba0 (cf9 (.inr hu) (ba0 (bm0 ty bo4.lookup ?_)));show be1 _ _ (if(some (cm7 "tuple.__hash__")==some bd8)=true then _ else _) Q E s;refine kbs (fun z=>zA z (by rw[ch9];decide)) fun O=>ba0 (bm0 ty bo4.lookup ?_);show be1 _ _ (callSpecialIfBoundUnlessNone? (.ref a) "__hash__" _ >>= _) Q E s;refine ba0 (bv5 ty bo4 (bg4 bo4 ty cd8 ?_ (cc5 _)));show be1 _ _ (br9 (.ref a) >>= _) _ _ s;refine ba0 (by9 ho hd (ba0 ?_));rw[<- bq5];refine bs5 _ (fun kdh (b:Array Int) s'=>∃done left,done++left=hs/\b.toList=done.map (·.1)/\s'={s with toks:=s.toks+(done.map (·.2)).sum}/\Paired (HsN prog w A.in1 s.heap) kdh left) _ ?_ ?_ _ _ ⟨[],hs,rfl,rfl,rfl,by simpa using hq⟩
 .rintro v kdh b s'⟨done,left,e1,e2,rfl,pl⟩;cases pl with
  | @cons _ h _ left p1 p2=>
    refine ba0 (p1 _ _ _ rfl ?_);exact ba9 ⟨done++[h],left,by simpa using e1,by simp[e2],by simp[b87],p2⟩
 .rintro b s'⟨done,left,e1,e2,rfl,pl⟩;cases pl;rw[be9]at e1;subst e1;show be1 _ _ (retInt (bi2 b.toList)) _ _ _;rw[e2];refine cb1 ?_;show be1 _ _ (if(decide (-(2:Int) ^ 63<=bi2 (done.map (·.1)))&&decide (bi2 (done.map (·.1))<2 ^ 63))=true then _ else _) Q E _;unfold reduceHash at q;refine kbs (fun z=>?_) fun z=>?_
  .rw[zP z]at q;exact ba9 (by simpa[b87]using q)
  .rw[zN z]at q;exact ba0 (bz9 (ba9 (by simpa[b87]using q)))
def kj4(hu:A.units<cLine){hp:Heap}{x:List Int}(t:TpA hp a its)(ix:IntsAre its x):HsN prog w A hp (.ref a) (kv6 x,x.length+1):=fun s E Q e q=>by
 subst e;have:Paired (HsN prog w A.in1 s.heap) its (x.map fun n=>(hashInt n,1)):=by
  clear q t;induction ix with
  | nil=>exact .nil
  | cons n tk r ih=>exact .cons (fun s' E Q O q=>bx2 q) ih
 refine kmk hu t this ?_;have e1:(x.map fun n=>(hashInt n,1)).map (·.1)=x.map hashInt:=by rw[bc1];rfl
 have e2:((x.map fun n=>(hashInt n,1)).map (·.2)).sum=x.length:=by
  rw[bc1];clear q this ix e1;induction x with
  | nil=>rfl
  | cons n x ih=>simp at ih⊢;lia
 rw[e1,e2];exact q
abbrev kqo(k:Vw):Nat:=1+((k.2.1.length+1)+(k.2.2.length+1))+1
def kuo(hu:A.units+1<cLine){x:Vw}(v:VwA s.heap a x){Q:Int->ba7->Prop}(q:Q (vwH x) {s with toks:=s.toks+kqo x}):be1 (bf9 prog w) A (pyHash (.ref a)) Q E s:=by
 obtain⟨tk,p,r,us,os,h1,h2,h3,h4,h5⟩:=v;refine kmk (by lia) h1 (hs:=[(hashInt x.1,1),(kv6 x.2.1,x.2.1.length+1),(kv6 x.2.2,x.2.2.length+1)]) (.cons (fun s' E Q O q=>bx2 q) (.cons (kj4 (A:=A.in1) hu h2 h3) (.cons (kj4 (A:=A.in1) hu h4 h5) .nil))) ?_;exact q
def kup{x:Vw}(v:VwA s.heap a x){Q:Bool->ba7->Prop}(q:Q true s):be1 (bf9 prog w) A (eqIsQuiet 8 (.ref a)) Q E s:=by
 obtain⟨tk,p,r,us,os,h1,h2,h3,h4,h5⟩:=v;refine kd3 h1 7 (fun v hv E Q q=>?_) q;simp only[bc6,bg9,or_false]at hv;rcases hv with rfl|rfl|rfl
 .exact bv9 (bt7 _ rfl) q
 .exact kd3 h2 6 (fun v hv E Q q=>by obtain⟨n,t,rfl⟩:=kdr h3 v hv;exact bv9 (bt7 _ rfl) q) q
 .exact kd3 h4 6 (fun v hv E Q q=>by obtain⟨n,t,rfl⟩:=kdr h5 v hv;exact bv9 (bt7 _ rfl) q) q
def TpA.sb{h h':Heap}{d:Addr}{o:Obj}{es:Array DictEntry}{ep:Nat}(t:TpA h a its)(ho:h.get? d=some o)(hd:o.data= .dict es ep)(sb:bn0 d h h'):TpA h' a its:=by
 obtain⟨o',n,h1,h2,h3⟩:=t;have:a≠d:=fun z=>by
  subst z;rw[ho]at h1;cases h1;rw[hd]at h3;cases h3
 exact⟨o',n,(sb.2 a this).trans h1,h2,h3⟩
abbrev kj5(prog:bb9)(w:be5):HeapKind prog w Vw where
 is:=fun h k a=>VwA h a k
 hash:=vwH
 draws:=kqo
 room:=fun A=>A.units+1<cLine
 inj:=fun x y=>x.inj y
 keeps:=fun⟨tk,p,q,us,os,h1,h2,h3,h4,h5⟩ ho hd sb=>⟨tk,p,q,us,os,h1.sb ho hd sb,h2.sb ho hd sb,h3,h4.sb ho hd sb,h5⟩
 pyHash:=fun hu x q=>kuo hu x q
 eqBool:=fun hu x y q=>k28 hu x y _ _ _ _ q
 quiet:=fun x q=>kup x q
end
def DicV.to{l:Addr}{zs:List ((Addr×Vw)×Int)}{h h':Heap}(x:DicV l zs h)(k: ∀o,h.get? l=some o->h'.get? l=some o):DicV l zs h':=by
 obtain⟨e,o,es,ep,h1,r⟩:=x;exact⟨e,o,es,ep,k o h1,r⟩
def DicV.obj{l:Addr}{zs:List ((Addr×Vw)×Int)}{h:Heap}(x:DicV l zs h): ∃o,h.get? l=some o:=by
 obtain⟨e,o,es,ep,h1,r⟩:=x;exact⟨o,h1⟩
@[reducible]def VxR:List ((Addr×Vw)×Int)->List (Vw×Addr×ba6)->Prop:=Paired fun z x=>x.1=z.1.2/\x.2.1=z.1.1/\∃t,x.2.2= .int z.2 t
def vx_of{prog:bb9}{w:be5}: ∀{zs:List ((Addr×Vw)×Int)}{es:List DictEntry},Paired (fun(z:(Addr×Vw)×Int)(e:DictEntry)=>e.hash=vwH z.1.2/\e.key= .ref z.1.1/\∃t,e.val= .int z.2 t) zs es->∃xs,es=xs.map (entryOfKey (kj5 prog w))/\VxR zs xs:=by
 intro zs es r;induction r with
 | nil=>exact⟨[],rfl,.nil⟩
 | @cons z e zs es h t ih=>
   obtain⟨xs,rfl,p⟩:=ih;obtain⟨h1,h2,tk,h3⟩:=h;refine⟨(z.1.2,z.1.1,e.val)::xs,?_,.cons ⟨rfl,rfl,tk,h3⟩ p⟩;rw[bg2];congr 1;obtain⟨e1,e2,e3⟩:=e;simp only at h1 h2;subst h1;subst h2;rfl
def vx_to{prog:bb9}{w:be5}: ∀{zs:List ((Addr×Vw)×Int)}{xs:List (Vw×Addr×ba6)},VxR zs xs->Paired (fun(z:(Addr×Vw)×Int)(e:DictEntry)=>e.hash=vwH z.1.2/\e.key= .ref z.1.1/\∃t,e.val= .int z.2 t) zs (xs.map (entryOfKey (kj5 prog w))):=by
 intro zs xs r;induction r with
 | nil=>exact .nil
 | @cons z x zs xs h t ih=>
   obtain⟨h1,h2,h3⟩:=h;exact .cons ⟨by rw[<- h1];rfl,by rw[<- h2];rfl,h3⟩ ih
def VxR.snoc{b:Addr}{k:Vw}{n:Int}{r:ba6}(rr: ∃t,r= .int n t): ∀{zs:List ((Addr×Vw)×Int)}{xs:List (Vw×Addr×ba6)},VxR zs xs->VxR (zs++[((b,k),n)]) (xs++[(k,b,r)])
 | _,_,.nil=> .cons ⟨rfl,rfl,rr⟩ .nil
 | _,_,.cons q t=> .cons q (VxR.snoc rr t)
def VxR.keys: ∀{zs:List ((Addr×Vw)×Int)}{xs:List (Vw×Addr×ba6)},VxR zs xs->xs.map (·.1)=zs.map (·.1.2):=by
 intro zs xs r;induction r with
 | nil=>rfl
 | @cons z x zs xs h t ih=>rw[bg2,bg2,ih,h.1]
def VxR.find: ∀{zs:List ((Addr×Vw)×Int)}{xs:List (Vw×Addr×ba6)},VxR zs xs->∀{k:Vw}{n:Int},(zs.map (·.1.2)).Nodup->(k,n)∈zs.map (fun z=>(z.1.2,z.2))->∃p,atKey xs k=some p/\∃t,p.2= .int n t:=by
 intro zs xs r;induction r with
 | nil=>intro k n O h;cases h
 | @cons z x zs xs h t ih=>
   intro k n nd m;rw[bg2]at m nd;obtain⟨n1,n2⟩:=bj4.mp nd;obtain⟨h1,h2,tk,h3⟩:=h;rcases bc6.mp m with e|m
   .injection e with e1 e2;refine⟨x.2,?_,tk,by rw[h3,e2]⟩;unfold atKey;rw[List.find?_cons_of_pos (by simp[h1,e1])];rfl
   .have hk:x.1≠k:=fun e=>by
     obtain⟨z',m1,m2⟩:=bb1.mp m;injection m2 with m2 _;exact n1 (by rw[<- h1,e,<- m2];exact bi7 (f:=fun z:(Addr×Vw)×Int=>z.1.2) m1)
    obtain⟨p,hp,q⟩:=ih n2 m;refine⟨p,?_,q⟩;unfold atKey at hp⊢;rw[List.find?_cons_of_neg (by simp[hk])];exact hp
section
variable{X:Cx}{pI:List (Addr×Obj)}{σ:St}{H:Hp}{s:ba7}{a b:Addr}{A:bg1}{E:ba6->ba7->Prop}{zs:List ((Addr×Vw)×Int)}{k:Vw}
def k3d(I:Inv X pI σ H s)(e:H a=some (.ext (DicV a zs)))(hz: ∀z∈zs,VwH H z.1.1 z.1.2)(nd:(zs.map (·.1.2)).Nodup):(a==sysModules)=false/\∃xs,VxR zs xs/\s.heap.DictOfH (kj5 X.prog X.w) a xs:=by
 obtain⟨⟨h0,o,es,ep,h1,h2,h3,r⟩,_,_⟩:=(show ObjOk X.prog X.w H s.heap a (.ext (DicV a zs))from I.hok a _ e)
 obtain⟨xs,e1,p⟩:=vx_of (prog:=X.prog) (w:=X.w) r;refine⟨h0,xs,p,o,es,ep,h1,h2,h3,e1,?_,by rw[p.keys];exact nd⟩;intro x hx;have: ∀{zs:List ((Addr×Vw)×Int)}{xs:List (Vw×Addr×ba6)},VxR zs xs->(∀ z∈zs,VwH H z.1.1 z.1.2)->∀x∈xs,VwA s.heap x.2.1 x.1:=by
  intro zs xs r;induction r with
  | nil=>intro O x hx;cases hx
  | @cons z y zs xs h t ih=>
    intro hz x hx;rcases bc6.mp hx with rfl|hx
    .rw[h.1,h.2.1];exact khn I.hok (hz z bb8)
    .exact ih (fun z m=>hz z (bc0 _ m)) x hx
 exact this p hz x hx
def kqp{n:Int}{Q:ba6->ba7->Prop}(hu:A.units+2<cLine)(I:Inv X pI σ H s)(e:H a=some (.ext (DicV a zs)))(hz: ∀z∈zs,VwH H z.1.1 z.1.2)(nd:(zs.map (·.1.2)).Nodup)(vb:VwH H b k)(m:(k,n)∈zs.map (fun z=>(z.1.2,z.2)))
 (h: ∀t s',Inv X pI σ H s'->Q (.int n t) s'):be1 (bf9 X.prog X.w) A (getItem (.ref a) (.ref b)) Q E s:=by
 obtain⟨h0,xs,p,dd⟩:=k3d I e hz nd;obtain⟨q,hq,t,ht⟩:=p.find nd m;refine wpAny_getItem_heap (knd:=kj5 X.prog X.w) (show A.in1.units+1<cLine from by simp only[b21];lia) (khn I.hok vb) dd hq ?_;rw[ht];exact h t _ (I.tok _)
def kqq{n:Int}{r:ba6}{Q:Unit->ba7->Prop}(hu:A.units+2<cLine)(I:Inv X pI σ H s)(e:H a=some (.ext (DicV a zs)))(hz: ∀z∈zs,VwH H z.1.1 z.1.2)(nd:(zs.map (·.1.2)).Nodup)(hl:zs.length<=1000)(vb:VwH H b k)(hn:k ∉ zs.map (·.1.2))(rr: ∃t,r= .int n t)
 (h: ∀s',Inv X pI σ (upd H a (.ext (DicV a (zs++[((b,k),n)])))) s'->Q () s'):be1 (bf9 X.prog X.w) A (setItem (.ref a) (.ref b) r) Q E s:=by
 obtain⟨h0,xs,p,dd⟩:=k3d I e hz nd;have lx:xs.length=zs.length:=(Paired.length p).symm;refine wpAny_setItem_heap (knd:=kj5 X.prog X.w) (hsz:=by rw[lx,bu0];lia) (show A.in1.units+1<cLine from by simp only[b21];lia) (khn I.hok vb) dd fun h' dd' sb=>h _ ?_;have hk:atKey xs k=none:=by
  unfold atKey;rw[ce3.mpr fun x hx=>?_]
  .rfl
  .intro z;refine hn ?_;rw[<- p.keys,<- zO z];exact bi7 hx
 rw[storedH_new hk]at dd';obtain⟨o,es,ep,g1,g2,g3,g4,_,_⟩:=dd';have new:DicV a (zs++[((b,k),n)]) h':=by
  refine⟨h0,o,es,ep,g1,g2,g3,?_⟩;rw[g4];exact vx_to (VxR.snoc rr p)
 exact kxx I (by rw[e];exact b68) sb ⟨o,g1⟩ (show DicV a (zs++[((b,k),n)]) h'/\_/\_ from⟨new,new.obj,fun h1 h2 x y=>x.to y⟩)
def v_len{Q:ba6->ba7->Prop}(I:Inv X pI σ H s)(e:H a=some (.ext (DicV a zs)))(hl:zs.length<=1000)(h: ∀t s',Inv X pI σ H s'->Q (.int zs.length t) s'):be1 (bf9 X.prog X.w) A (call (.builtin "len") [.ref a]) Q E s:=by
 obtain⟨⟨h0,o,es,ep,h1,h2,h3,r⟩,_,_⟩:=(show ObjOk X.prog X.w H s.heap a (.ext (DicV a zs))from I.hok a _ e)
 have ty:s.TypeIs (.ref a) "dict":=⟨o,h1,h2.1⟩
 have hes:es.size=zs.length:=by rw[<- bf0];exact(Paired.length r).symm
 refine bx1 kind_len plain_len entry_len (args_len1 _) ?_;unfold Builtin.«len»;refine ba0 (m:=oneArg "len" _) (ba9 (ba0 (m:=callSpecial? (.ref a) (br2 "__len__")) (bi8 (name:=br2 "__len__") ty cb3 (bg4 cb3 ty PySem.F.entry_dict_len ?_ (PySem.F.args_dict_len_1 _)))));unfold Builtin.«dict.__len__» Builtin.Dict.dictSlotNone;refine ba0 (ba0 (wpAny_notOrdered_dict ty (ba9 (a:=bg0 a) ?_)));refine ba0 (ba9 ?_);unfold dictSize Builtin.Dict.pendingCount;refine ba0 (ba0 (wpAny_dictEntries h1 h3 (ba9 (ba0 (kbs (fun z=>zA z (by rw[h0];decide)) fun O=>ba9 ?_)))));rw[hes];refine cb1 ?_;rw[show((zs.length:Int)+((0:Nat):Int))=zs.length by simp];refine ba0 (bk0 (ba9 (ba0 (b35 ?_))));refine kbs (fun z=>zA z (by lia)) fun O=>kbs (fun z=>zA z (by lia)) fun O=>?_;exact ba0 (wpAny_mkInt (ba9 ⟨_,rfl,h _ _ (I.tok _)⟩))
end
abbrev vwD(k:Vw):bb0:= .tuple [.int k.1,.tuple (k.2.1.map ba1),.tuple (k.2.2.map ba1)]
def kkz{K:ba2}{R:Hp}: ∀{x:List Int}{zs:List V},RpAll K R zs (x.map ba1)->zs=x.map V.int
 | [],_,r=>by cases r;rfl
 | n::x,_,r=>by
   rw[bg2]at r;cases r with
   | cons h t=>rw[h.int_inv,kkz t];rfl
def knz{K:ba2}{R:Hp}{v:V}{k:Vw}(r:Rp K R v (vwD k)): ∃a,v= .ref a/\VwH R a k:=by
 obtain⟨a,zs,rfl,ha,rz⟩:=r.tup_inv;cases rz with
 | cons z1 rz=>
   cases rz with
   | cons z2 rz=>
     cases rz with
     | cons z3 rz=>
       cases rz;obtain⟨p,us,rfl,hp,ru⟩:=z2.tup_inv;obtain⟨q,os,rfl,hq,ro⟩:=z3.tup_inv;rw[z1.int_inv]at ha;rw[kkz ru]at hp;rw[kkz ro]at hq;exact⟨a,rfl,p,q,ha,hp,hq⟩
abbrev k3e:TE:=fun O H Q=>∀p,H p=none->Q (.ref p) (upd H p (.ext (DicV p [])))
def kuq{X:Cx}{pos:Pos}:PE X (.Dict [] [] pos) k3e:=fun pI s σ H Q I h=>by
 have hb:(s.heap.objs.size==sysModules)=false:=beq_eq_false_iff_ne.mpr (bv6 (bf5 I.big));have new:DicV s.heap.objs.size [] (s.heap.push {cls:= .type "dict",data:= .dict #[]}):=⟨hb,_,#[],0,bc7 _ rfl,⟨rfl,rfl,rfl⟩,rfl,.nil⟩
 exact wpAny_Dict_empty ⟨.ref s.heap.objs.size,_,I.laid (a:=s.heap.objs.size) (o:= .ext (DicV s.heap.objs.size [])) (t':=s.toks) (fun O O q=>ba5 _ q) (bb7 _) (show DicV _ [] _/\_/\_ from⟨new,new.obj,fun h1 h2 x y=>x.to y⟩),rfl,h _ (I.hok.fresh (bb7 _))⟩
section
variable{He:Hp}{K:ba2}{ι:Type}{Y:ι->Cx}{e a b c:Expr}{es:List Expr}{pos:Pos}
def Fra.dvAt{H0 R H:Hp}{σ:St}{env:List Dt}{i:Nat}{kvs:List (Vw×Int)}(F:Fra He K H0 R H σ env)(h:env[i]?=some (.dv kvs)): ∃a zs,σ[i]?=some (some (.ref a))/\H a=some (.ext (DicV a zs))/\R a=none/\H0 a=none/\DvR R zs kvs:=by
 obtain⟨v,hs,a,zs,rfl,h2,h3,h4,h5⟩:=F.get h (by intro z;cases z);exact⟨a,zs,hs,h2,h3,h4,h5⟩
abbrev kzh(i:Nat):Ds:=fun D env=>D.nx (env.set i (.dv []))
def kzi(i:Nat){x:Str}{p2 p3:Pos}(hN: ∀j,(Y j).N.Nodup)(hi:autoParam (∀ j,(Y j).N[i]?=some x) Z3)(hx:autoParam (∀ j,Loc (Y j).env.scope x) Z12)
 (hs:autoParam (∀ j,bs6 (.Dict [] [] p3) (some (.Name x p2)) pos.line (Y j).env=pure false) Z3)(hf:autoParam (∀ j,(Y j).fn x=true\/(Y j).env.scope.names.lookup x=some .local) Z13):
 DS He K Y (.Assign [.Name x p2] (.Dict [] [] p3) pos) (kzh i):=
 ⟨_,fun j=>kgd (hN j) (hi j) (hx j) kuq (hs j) (hf j),fun D E F s c p q hn=>c.nx _ _ _ _ p s (F.setN (Ext.newO (o:= .ext (DicV q [])) F.wd hn trivial) i hn ⟨q,[],rfl,kak,F.wd.rh.free hn,F.ext.hh.free hn,rfl,fun O z=>nomatch z⟩)⟩
abbrev sVPut(td ty tv:TE):TS:=fun D σ H=>tv σ H fun v H1=>td σ H1 fun x H2=>ty σ H2 fun y H3=>∃(a b:Addr)(zs:List ((Addr×Vw)×Int))(k:Vw)(n:Int),x= .ref a/\y= .ref b/\v= .int n/\H3 a=some (.ext (DicV a zs))/\(∀ z∈zs,VwH H3 z.1.1 z.1.2)/\(zs.map (·.1.2)).Nodup/\zs.length<=1000/\VwH H3 b k/\k ∉ zs.map (·.1.2)/\D.nx σ (upd H3 a (.ext (DicV a (zs++[((b,k),n)]))))
def kzj{X:Cx}{o i value:Expr}{pos':Pos}{td ty tv:TE}(hu:X.A.units+2<cLine)(ho:PE X o td)(hi:PE X i ty)(hv:PE X value tv)(hs:bs6 value (some (.Subscript o i pos')) pos.line X.env=pure false):PS X (.Assign [.Subscript o i pos'] value pos) (sVPut td ty tv):=by
 intro pI s σ H D I h;refine wpAny_Assign_Subscript (thn (hv pI s σ H _ I h) fun r s1 ⟨v,H1,I1,rv,q1⟩=>thn (ho pI s1 σ H1 _ I1 q1) fun u s2 ⟨x,H2,I2,rx,q2⟩=>thn (hi pI s2 σ H2 _ I2 q2) fun iv s3 ⟨y,H3,I3,ry,a,b,zs,k,n,ex,ey,ev,g1,g2,g3,g4,g5,g6,q3⟩=>?_) hs;subst ex;subst ey;subst ev;obtain rfl:u=bg0 a:=rx;obtain rfl:iv=bg0 b:=ry;exact kqq hu I3 g1 g2 g3 g4 g5 g6 rv fun s4 I4=>⟨σ,_,I4,q3⟩
def DvR.keys{R:Hp}{zs:List ((Addr×Vw)×Int)}{kvs:List (Vw×Int)}(h:DvR R zs kvs):zs.map (·.1.2)=kvs.map (·.1):=by rw[h.1,bc1];rfl
abbrev kzk(i:Nat)(ta tb:De):Ds:=fun D env=>tb env fun v=>∃kvs n,env[i]?=some (.dv kvs)/\v= .int n/\kvs.length<=1000/\(kvs.map (·.1)).Nodup/\ta env fun y=>∃k,y=vwD k/\k ∉ kvs.map (·.1)/\D.nx (env.set i (.dv (kvs++[(k,n)])))
def kzl(i:Nat){x:Str}{p2 p3:Pos}{ta tb:De}(hu: ∀j,(Y j).A.units+2<cLine)(ha:DE He K Y a ta)(hb:DE He K Y b tb)(hv:autoParam (∀ j,PE (Y j) (.Name x p2) (kg9 i)) Z8)
 (hs:autoParam (∀ j,bs6 b (some (.Subscript (.Name x p2) a p3)) pos.line (Y j).env=pure false) Z3):
 DS He K Y (.Assign [.Subscript (.Name x p2) a p3] b pos) (kzk i ta tb):=by
 obtain⟨t1,a1,a2⟩:=ha;obtain⟨t2,b1,b2⟩:=hb;refine⟨_,fun j=>kzj (hu j) (hv j) (a1 j) (b1 j) (hs j),fun D E F s c p=>?_⟩;refine b2 _ _ F p fun d v R1 H1 ⟨kvs,n,hx,hn,hl,nd,p1⟩ e1 r1=>?_;subst hn;obtain⟨q,zs,h1,h2,h3,h4,h5⟩:=(F.next e1).dvAt hx;refine⟨_,h1,a2 _ _ (F.next e1) p1 fun d2 v2 R2 H2 ⟨k,hk,nk,p2⟩ e2 r2=>?_⟩;subst hk;obtain⟨pp,rfl,hpp⟩:=knz r2;have F2:=(F.next e1).next e2
 have l2:=e2.hh q _ h2;have h5':=h5.same e2.rr;refine⟨q,pp,zs,k,n,rfl,rfl,r1.int_inv,l2,fun z hz=>(h5'.2 z hz).same F2.wd.rh,by rw[h5.keys];exact nd,by rw[h5.1,ba3]at hl;exact hl,hpp.same F2.wd.rh,by rw[h5.keys];exact nk,?_⟩;refine c.nx _ _ _ _ p2 (s.trans (e1.trans e2).rr) (F2.mut hx rfl h1 trivial ⟨q,_,rfl,kak,e2.nn _ _ h2 h3,h4,by rw[h5.1];simp,fun z hz=>?_⟩);rcases bh3.mp hz with hz|hz
 .exact h5'.2 z hz
 .rw[bc4.mp hz];exact hpp
abbrev tVGet(td ty:TE):TE:=fun σ H Q=>td σ H fun x H1=>ty σ H1 fun y H2=>∃(a b:Addr)(zs:List ((Addr×Vw)×Int))(k:Vw)(n:Int),x= .ref a/\y= .ref b/\H2 a=some (.ext (DicV a zs))/\(∀ z∈zs,VwH H2 z.1.1 z.1.2)/\(zs.map (·.1.2)).Nodup/\VwH H2 b k/\(k,n)∈zs.map (fun z=>(z.1.2,z.2))/\Q (.int n) H2
def dv_ty{X:Cx}{pI:List (Addr×Obj)}{σ:St}{H:Hp}{s:ba7}{a:Addr}{zs:List ((Addr×Vw)×Int)}(I:Inv X pI σ H s)(e:H a=some (.ext (DicV a zs))):s.TypeIs (.ref a) "dict":=by
 obtain⟨⟨h0,o,es,ep,h1,h2,_⟩,_,_⟩:=(show ObjOk X.prog X.w H s.heap a (.ext (DicV a zs))from I.hok a _ e)
 exact⟨o,h1,h2.1⟩
def kzm{X:Cx}{o i:Expr}{td ty:TE}(hu:X.A.units+2<cLine)(ho:PE X o td)(hi:PE X i ty)(hs:NoSl i):PE X (.Subscript o i pos) (tVGet td ty):=by
 intro pI s σ H Q I h;refine kxy PySem.F.slot_dict_getitem.lookup hs (thn (ho pI s σ H _ I h) fun u s1 ⟨x,H1,I1,rx,q1⟩=>thn (hi pI s1 σ H1 _ I1 q1) fun iv s2 ⟨y,H2,I2,ry,a,b,zs,k,n,ex,ey,g1,g2,g3,g4,g5,q2⟩=>?_);subst ex;subst ey;obtain rfl:u=bg0 a:=rx;obtain rfl:iv=bg0 b:=ry;exact⟨dv_ty I2 g1,kqp hu I2 g1 g2 g3 g4 g5 fun t s3 I3=>⟨.int n,H2,I3,⟨t,rfl⟩,q2⟩⟩
abbrev kzn(i:Nat)(ta:De):De:=fun env P=>∃kvs,env[i]?=some (.dv kvs)/\(kvs.map (·.1)).Nodup/\ta env fun y=>∃k n,y=vwD k/\(k,n)∈kvs/\P (.int n)
def kqr(i:Nat){x:Str}{p2:Pos}{ta:De}(hu: ∀j,(Y j).A.units+2<cLine)(ha:DE He K Y a ta)(hv:autoParam (∀ j,PE (Y j) (.Name x p2) (kg9 i)) Z8)
 (hs:autoParam (NoSl a) Z10):DE He K Y (.Subscript (.Name x p2) a pos) (kzn i ta):=by
 obtain⟨t1,a1,a2⟩:=ha;refine⟨_,fun j=>kzm (hu j) (hv j) (a1 j) hs,fun P Q F p k=>?_⟩;obtain⟨kvs,hx,nd,p⟩:=p;obtain⟨q,zs,h1,h2,h3,h4,h5⟩:=F.dvAt hx;refine⟨_,h1,a2 _ _ F p fun d v R1 H1 ⟨kk,n,hk,hm,p1⟩ e1 r1=>?_⟩;subst hk;obtain⟨pp,rfl,hpp⟩:=knz r1;have h5':=h5.same e1.rr;have F1:=F.next e1
 exact⟨q,pp,zs,kk,n,rfl,rfl,e1.hh _ _ h2,fun z hz=>(h5'.2 z hz).same F1.wd.rh,by rw[h5.keys];exact nd,hpp.same F1.wd.rh,by rw[<- h5.1];exact hm,k _ _ R1 H1 p1 e1 (.int _)⟩
def kqs{X:Cx}:kdk X (.builtin "len") (fun xs H Q=>∃(a:Addr)(zs:List ((Addr×Vw)×Int)),xs=[V.ref a]/\H a=some (.ext (DicV a zs))/\zs.length<=1000/\Q (.int zs.length) H):=by
 intro pI s σ H xs us Q I r h;obtain⟨a,zs,rfl,ha,hl,q⟩:=h;obtain⟨u,rfl,ru⟩:=kef r;cases ru;exact v_len I ha hl fun t s' I'=>⟨.int zs.length,H,I',⟨t,rfl⟩,q⟩
abbrev kzo(i:Nat):De:=fun env P=>∃kvs,env[i]?=some (.dv kvs)/\kvs.length<=1000/\P (.int kvs.length)
def kqt(i:Nat){x:Str}{p2 p:Pos}(hm: ∀j,(Y j).mg "len"=none)(hv:autoParam (∀ j,PE (Y j) (.Name x p2) (kg9 i)) Z8)(hg:autoParam (∀ j,Gl (Y j) "len") Z3)
 (hs:autoParam (∀ j,bc5 [.Name x p2] (Y j).env=[(false,eval (.Name x p2) (Y j).env)]) Z3):DE He K Y (.Call (.Name "len" p) [.Name x p2] [] pos) (kzo i):=by
 refine⟨_,fun j=>kcw kqs (hg j) (hm j) boot_len (kaq (hv j) ka2 (hs j)) (by decide) (by decide) (hs j) rfl,fun P Q F p k=>?_⟩;obtain⟨kvs,hx,hl,p⟩:=p;obtain⟨q,zs,h1,h2,h3,h4,h5⟩:=F.dvAt hx;have e:zs.length=kvs.length:=by rw[h5.1,ba3]
 refine⟨_,h1,q,zs,rfl,h2,by rw[e];exact hl,?_⟩;rw[e];exact k _ _ _ _ p (.refl F.wd) (.int _)
abbrev kqu(t:Dq):Dq:=fun env P=>t env fun xs=>∃vs:List Vw,xs=vs.map vwD/\vs.length<64/\∀ws:List Vw,ws.Perm vs->ws.Pairwise (fun x y=>ltV y x=false)->P (ws.map vwD)
def kml{t:Dq}{p:Pos}(h:DL He K Y e t)(hm: ∀i,(Y i).mg "sorted"=none)(hu: ∀i,(Y i).A.units+40<cLine)(hg:autoParam (∀ i,Gl (Y i) "sorted") Z3)(hK:autoParam (∀ i,(Y i).K=K) Z3)(hs:autoParam (∀ i,bc5 [e] (Y i).env=[(false,eval e (Y i).env)]) Z3):
 DO He K Y (.Call (.Name "sorted" p) [e] [] pos) (kqu t):=by
 obtain⟨te,h1,h2⟩:=h;refine⟨_,fun i=>kcw (knx K (hK i) (hu i)) (hg i) (hm i) ke5 (kaq (h1 i) ka2 (hs i)) (by decide) (by decide) (hs i) rfl,fun P Q F p k=>h2 _ _ F p fun ds a ys R1 H1 pd e1 ha r1=>?_⟩;obtain⟨vs,rfl,h64,kk⟩:=pd;have hl:ys.length=vs.length:=by rw[r1.len,ba3]
 refine⟨a,ys,vs,rfl,SqL.of ha,hl,h64,fun i v hv=>?_,fun l π hn hp hs=>?_⟩
 .obtain⟨u,hu',ru⟩:=r1.get' (i:=i) (d:=vwD v) (by rw[bc8,hv];rfl);obtain⟨b,rfl,hb⟩:=knz ru;exact⟨b,hu',hb.same e1.wd.rh⟩
 .have pin: ∀i∈π,i<vs.length:=fun i hi=>bb2.mp (hp.mem_iff.mp hi);have er:(π.map fun i=>(vs.map vwD).getD i bs9)=(π.map fun i=>vs.getD i vw0).map vwD:=by
   rw[bc1];refine bh9 fun i hi=>?_;have:=pin i hi;simp[this]
  have ra:=kyw r1 π fun i hi=>by rw[hl];exact pin i hi
  rw[er]at ra;have hp2:(π.map fun i=>vs.getD i vw0).Perm vs:=by
   have:=hp.map fun i=>vs.getD i vw0
   rwa [kb5]at this
  have hpw:(π.map fun i=>vs.getD i vw0).Pairwise (fun x y=>ltV y x=false):=by
   rw[be0];intro i j hi hj hij;rw[ba3]at hi hj;have z:=hs i j (by lia) hj;simp only[bq9];rw[show π.getD i 0=π[i] by simp[hi],show π.getD j 0=π[j] by simp[hj]]at z;exact z
  exact k _ l _ R1 _ (kk _ hp2 hpw) (e1.trans (Ext.newO e1.wd hn trivial)) (e1.hh.free hn) kak (e1.wd.rh.free hn) ra
def k3f:bootBuiltins "set"=some (.type "set"):=by decide +kernel
abbrev kqv(t:Dq):Dq:=fun env P=>t env fun xs=>∃vs:List Vw,xs=vs.map vwD/\vs.length<=16/\∀ws:List Vw,ws.Nodup->(∀ v,v∈ws↔v∈vs)->ws.Pairwise (fun x y=>ltV y x=false)->P (ws.map vwD)
def kur{t:Dq}{p p' pos':Pos}(w:be5)(h:DL He K Y e t)(hm: ∀i,(Y i).mg "sorted"=none)(hm2: ∀i,(Y i).mg "set"=none)(hu: ∀i,(Y i).A.units+40<cLine)(hw:autoParam (∀ i,(Y i).w=w) Z3)(hc:autoParam (∀ i,(Y i).calm=true) Z3)(hg:autoParam (∀ i,Gl (Y i) "sorted") Z3)(hg2:autoParam (∀ i,Gl (Y i) "set") Z3)(hK:autoParam (∀ i,(Y i).K=K) Z3)
 (hs:autoParam (∀ i,bc5 [e] (Y i).env=[(false,eval e (Y i).env)]) Z3)(hs2:autoParam (∀ i,bc5 [.Call (.Name "set" p') [e] [] pos'] (Y i).env=[(false,eval (.Call (.Name "set" p') [e] [] pos') (Y i).env)]) Z3):
 DO He K Y (.Call (.Name "sorted" p) [.Call (.Name "set" p') [e] [] pos'] [] pos) (kqv t):=by
 obtain⟨te,h1,h2⟩:=h;refine⟨_,fun i=>kcw (kny w (hw i) (hc i) (hu i)) (hg i) (hm i) ke5 (kaq (kco (kqn K w (hw i) (hK i) (hc i) (hu i)) (hg2 i) (hm2 i) k3f (kaq (h1 i) ka2 (hs i)) (by decide) (by decide) (hs i) rfl) ka2 (hs2 i)) (by decide) (by decide) (hs2 i) rfl,fun P Q F p k=>h2 _ _ F p fun ds a ys R1 H1 pd e1 ha r1=>?_⟩;obtain⟨vs,rfl,h16,kk⟩:=pd;have hl:ys.length=vs.length:=by rw[r1.len,ba3]
 have at1: ∀(i:Nat)(v:Vw),vs[i]?=some v->∃b,ys[i]?=some (.ref b)/\Rp K R1 (.ref b) (vwD v):=fun i v hv=>by
  obtain⟨u,hu',ru⟩:=r1.get' (i:=i) (d:=vwD v) (by rw[bc8,hv];rfl);obtain⟨b,rfl,hb⟩:=knz ru;exact⟨b,hu',ru⟩
 refine⟨a,ys,vs,rfl,SqL.of ha,hl,h16,fun i v hv=>?_,fun l zs hn nd mem hz=>?_⟩
 .obtain⟨b,b1,b2⟩:=at1 i v hv;obtain⟨b',e',hb⟩:=knz b2;cases e';exact⟨b,b1,hb.same e1.wd.rh⟩
 have rz: ∀z∈zs,Rp K R1 (.ref z.1) (vwD z.2):=fun z m=>by
  obtain⟨j,j1,j2⟩:=hz z m;obtain⟨b,b1,b2⟩:=at1 j _ j2;rw[j1]at b1;cases b1;exact b2
 have ex1:=Ext.newO (o:= .ext (SetV w l zs)) e1.wd hn trivial;have le:zs.length<=16:=by
  have:=nd.length_le_of_subset (fun v hv=>(mem v).mp hv);rw[ba3]at this;lia
 refine⟨l,zs,rfl,kak,le,fun z m=>?_,fun l2 ts hn2 tp pw=>?_⟩
 .obtain⟨b',e',hb⟩:=knz (rz z m);cases e';exact(hb.same e1.wd.rh).same ex1.hh
 have ra:RpAll K R1 (ts.map fun z=>V.ref z.1) ((ts.map (·.2)).map vwD):=by
  have: ∀{us:List (Addr×Vw)},(∀ z∈us,Rp K R1 (.ref z.1) (vwD z.2))->RpAll K R1 (us.map fun z=>V.ref z.1) ((us.map (·.2)).map vwD):=by
   intro us;induction us with
   | nil=>intro O;exact .nil
   | cons z us ih=>intro h;exact .cons (h z bb8) (ih fun z m=>h z (bc0 _ m))
  exact this fun z m=>rz z (tp.mem_iff.mp m)
 have tn:(ts.map (·.2)).Perm (zs.map (·.2)):=tp.map _;refine k _ l2 _ R1 _ (kk (ts.map (·.2)) (tn.nodup_iff.mpr nd) (fun v=>by rw[tn.mem_iff];exact mem v) (bw5.mpr pw)) (e1.trans (ex1.trans (Ext.newO ex1.wd hn2 trivial))) (e1.hh.free (ex1.hh.free hn2)) kak (ex1.wd.rh.free hn2) ra
end
section
variable{X:Cx}
def kus(K:ba2)(hK:X.K=K):MtR X "list.count" (fun x xs H Q=>∃(p:Addr)(ns:List Int)(k:Int),x= .ref p/\xs=[.int k]/\SqL K H p (ns.map V.int)/\Q (.int (ns.count k:Nat)) H):=by
 subst hK;intro pI s σ H x xs v us Q I rx rs h;obtain⟨p,ns,k,rfl,rfl,hq,q⟩:=h;cases rx;obtain⟨u,rfl,t,rfl⟩:=Vals.one rs;obtain⟨its,rv,pl,hz⟩:=I.list hq;exact count_list_ints pl.isList (khc rv) ⟨.int _,H,I.tok _,⟨_,rfl⟩,q⟩
end
section
variable{He:Hp}{K:ba2}{ι:Type}{Y:ι->Cx}{e a b:Expr}{pos:Pos}
abbrev kqw(t:Dq)(u:De):De:=fun env P=>t env fun l=>u env fun d=>∃(ns:List Int)(k:Int),l=ns.map ba1/\d= .int k/\P (.int (ns.count k:Nat))
def kut{t:Dq}{u:De}{apos cpos:Pos}(ho:DL He K Y a t)(h:DB He K Y e u)(hK:autoParam (∀ i,(Y i).K=K) Z3)
 (hbase:autoParam (∀ j,bm8 a "count" (Y j).env (eval a (Y j).env)=eval a (Y j).env) Z3)
 (hfew:autoParam (∀ j,((backTo cpos (bc5 [e] (Y j).env)).all (fun x=> !x.1)&&(b09 cpos (bt1 [] (Y j).env)).all (fun x=>x.1.isSome)
   &&decide (([e]:List Expr).length+([]:List Keyword).length+(if([]:List Keyword).isEmpty then 0 else 1)<30))=true) Z3)
 (hline:autoParam ((apos.endLine==cpos.line)=true) Z4)(hs:autoParam (∀ j,bc5 [e] (Y j).env=(false,eval e (Y j).env)::bc5 [] (Y j).env) Z3)(hplain:autoParam (∀ j,(backTo cpos (bc5 [] (Y j).env)).any (·.1)=false) Z3):
 DE He K Y (.Call (.Attribute a "count" apos) [e] [] cpos) (kqw t u):=by
 obtain⟨te,a1,a2⟩:=ho;obtain⟨te',b1,b2⟩:=h;refine⟨_,fun j=>kf0 K (hK j) bk1 PySem.F.slot_list_count PySem.F.type_list_count (kus K (hK j)) (a1 j) (kaq (b1 j) ka2 (hs j)) (hbase j) (hfew j) hline (hs j) (hplain j),fun P Q F p k=>?_⟩;refine a2 _ _ F p fun l x ys R1 H1 q1 e1 s1 r1=>?_;refine⟨.inl ⟨rfl,_,SqL.of s1⟩,b2 _ _ (F.next e1) q1 fun d v R2 H2 ⟨ns,m,hl,hd,q2⟩ e2 r2=>?_⟩;subst hl hd;have ev:=r2.int_inv;subst ev;have ey:=RpAll.ints_inv r1;subst ey;exact⟨x,ns,m,rfl,rfl,SqL.of (e2.hh _ _ s1),k _ _ R2 H2 q2 (e1.trans e2) (.int _)⟩
end
abbrev Ite(a:Addr):It where
 go:=fun i H=>∃xs,SqB true H a xs/\i<xs.length
 yld:=fun i H v H'=>∃p x,v= .ref p/\H p=none/\H'=upd H p (.tup [.int (i:Nat),x])/\∀xs,SqB true H a xs->xs[i]?=some x
 stop:=fun i H=>∃xs,SqB true H a xs/\i=xs.length
def two{P:Addr->Prop}{a b:Addr}(h1:P a)(h2:P b): ∀x∈[a,b],P x
 | _,.head _=>h1
 | _,.tail _ (.head _)=>h2
def kqx{P:bb9}{w:be5}{K:ba2}{elts:List Expr}{kk:Nat}{tpos:Pos}(a e it:Addr)(hei:e≠it):
 Turn P w K (.Tuple elts kk tpos) (Ite a) [e,it] e (fun i h=>(∃ old,IsEnum h e it i old)/\h.IsListIter it a i) where
 mem:= .head _
 obj:=fun i h ⟨⟨old,s1⟩,s2⟩=>two ⟨_,s1,fun O q=>nomatch q⟩ (by obtain⟨o,e,c,d⟩:=s2;exact⟨o,e,fun v z=>by rw[d]at z;cases z⟩)
 keep:=fun i h h' ⟨⟨old,s1⟩,s2⟩ k=>⟨⟨old,k e (.head _) _ s1⟩,s2.at fun o x=>k it (.tail _ (.head _)) o x⟩
 item:=by
  intro X hP hw hK hc i pI s σ H E I hf ⟨⟨old,s1⟩,s2⟩ hg;subst hP hw hK;obtain⟨xs,q1,l1⟩:=hg;obtain⟨its,r1,p1,z1⟩:=I.itemsB q1;have p1:s.heap.IsList a its.toArray:=p1;have nf: ∀b∈[e,it],∀o,H b≠some o:=fun b hb o e=>by rw[(hf b hb).1]at e;cases e
  have e1:=r1.length;have hi:i<its.length:=by lia
  have hx:its.toArray[i]?=some its[i]:=by simp[hi]
  refine wpAny_pyNext_enum_item s1 s2 p1 hx hei fun h' ho hit' hT hsz hk=>?_;refine⟨_,rfl,wpAny_letOwnedTupleGo_enum (s:={s with heap:=h',toks:=s.toks+1}) ho fun h2' w1 w2=>?_⟩
  replace w2:bn0 e h' h2':=w2
  obtain⟨oi,gi,_⟩:=id s2;have lt: ∀b∈[e,it],b<s.heap.objs.size:=two (bd0 s1) (bd0 gi);obtain⟨vx,hvx,rvx⟩: ∃vx,xs[i]?=some vx/\RelV vx its[i]:=by
   obtain⟨u,hu,ru⟩:=r1.get (i:=i) (x:=xs[i]) (knr l1);have:its[i]?=some its[i]:=ba4 hi;rw[this]at hu;cases hu;exact⟨_,knr l1,ru⟩
  have ze:s.heap.objs.size≠e:=bv7 (lt e (.head _));have tup2:=w2.extBut _ _ ze hT;refine⟨.ref s.heap.objs.size,upd H s.heap.objs.size (.tup [.int (i:Nat),vx]),?_,rfl,⟨_,vx,rfl,I.hok.fresh (bb7 _),rfl,fun xs' h=>?_⟩,⟨⟨_,by simpa using w1⟩,?_⟩,fun b hb=>?_⟩
  .refine Inv.turnedL (s:=s) (h':=h2') (t':=s.toks+1) (fp:=[e,it]) (its:=[.int (i:Nat) s.toks,its[i]]) I hf (fun b o hb x=>?_) rfl (by show 2<=sizeLine;decide) (.cons ⟨_,rfl⟩ (.cons rvx .nil)) ⟨_,tup2,rfl,_,rfl⟩ ⟨_,tup2,rfl⟩ lt;simp only[bc6,bg9,or_false,not_or]at hb;exact w2.extBut _ _ hb.1 (hk b o hb.1 hb.2 x)
  .rw[h.inj q1];exact hvx
  .exact hit'.at fun o x=>w2.extBut _ _ hei.symm x
  .rw[kar (bf5 (lt b hb))];exact(hf b hb).1
 done:=by
  intro X hP hw hK hc i pI s σ H E I hf ⟨⟨old,s1⟩,s2⟩ hg;subst hP hw hK;obtain⟨xs,q1,hi⟩:=hg;obtain⟨its,r1,p1,z1⟩:=I.itemsB q1;have p1:s.heap.IsList a its.toArray:=p1;have hh:X.A.in1.handled=none:=I.ok.hd hc;have e1:=r1.length;refine wpAny_pyNext_enum_end hh s1 s2 p1 (bv1 (by simp;lia)) fun h' hx=>⟨rfl,?_⟩
  refine Inv.turnedN (fp:=[e,it]) (t':=s.toks) I hf fun b o hb x=>?_;simp only[bc6,bg9,or_false,not_or]at hb;exact hx b o hb.2 x
 self:=fun O O O O O st h=>by
  obtain⟨⟨old,s1⟩,_⟩:=st;exact cg0 s1 h
def kqy:bootBuiltins "enumerate"=some (.type "enumerate"):=by decide +kernel
section
variable{X:Cx}{elts:List Expr}{kk:Nat}{tpos:Pos}
abbrev iEnum(ta:TA):TI:=fun σ H R=>ta σ H fun vs H2=>∃a xs,vs=[.ref a]/\SqB true H2 a xs/\(xs.length<=sizeLine->R (Ite a) H2)
def kzp{a:Expr}{ta:TA}{p pos:Pos}(hg:Gl X "enumerate")(hm:X.mg "enumerate"=none)(ha:PA X [a] ta)(hs:autoParam (bc5 [a] X.env=[(false,eval a X.env)]) Z4):
 PI X (.Tuple elts kk tpos) (.Call (.Name "enumerate" p) [a] [] pos) (iEnum ta):=by
 intro pI s σ H R I h;refine Call_ (kdi I hg hm kqy (bh4 (thn (ha pos pI s σ H _ I h) fun us s1 ⟨vs,H1,I1,r1,q1⟩=>?_) (by rw[hs];rfl) rfl));obtain⟨b,xs,e,h1,q⟩:=q1;subst e;obtain⟨u,rfl,ra⟩:=kef r1;cases ra;obtain⟨its,r2,p2,z2⟩:=I1.itemsB h1;refine call_enumerate_list p2 fun h' g1 g2 O kp=>?_;refine cg0 (s:={s1 with heap:=h'}) g1 ?_;refine⟨s1.heap.objs.size+1,[s1.heap.objs.size+1,s1.heap.objs.size],_,_,H1,rfl,I1.kept (t':=s1.toks) kp,kqx b (s1.heap.objs.size+1) s1.heap.objs.size (bv7 (bs3 _)),⟨⟨_,g1⟩,g2⟩,fun c hc=>?_,q z2⟩;have le:s1.heap.objs.size<=c:=by
  simp only[bc6,bg9,or_false]at hc;rcases hc with rfl|rfl
  .exact bu2 _
  .exact bb7 _
 exact I1.fpOk le (I1.hok.fresh le)
end
abbrev kj6(xs:List bb0):List bb0:=xs.zipIdx.map fun p=> .tuple [.int (p.2:Nat),p.1]
def kc5(xs:List bb0):(kj6 xs).length=xs.length:=by unfold kj6;rw[ba3,b53]
def ke7{xs:List bb0}{i:Nat}{d:bb0}(h:(kj6 xs)[i]?=some d): ∃x,xs[i]?=some x/\d= .tuple [.int (i:Nat),x]:=by
 unfold kj6 at h;rw[bc8,List.getElem?_zipIdx]at h;cases e:xs[i]? with
 | none=>rw[e]at h;cases h
 | some x=>rw[e]at h;simp at h;exact⟨x,rfl,h.symm⟩
section
variable{He:Hp}{K:ba2}{ι:Type}{Y:ι->Cx}{a b:Expr}{pos:Pos}{elts:List Expr}{kk:Nat}{tpos:Pos}
def kuu{R:Hp}{a1:Addr}{us:List V}{xs:List bb0}(h1:SqB true R a1 us)(r1:RpAll K R us xs):Yld K (Ite a1) R (kj6 xs):=by
 have e1:=r1.len;refine⟨fun R1 H1 i s w hi=>?_,fun R1 H1 i d x H2 s w hd y=>?_,fun R1 H1 s w=>?_⟩
 .rw[kc5]at hi;exact⟨us,(s.trans w.rh) _ _ h1,by lia⟩
 .obtain⟨dx,hx,rfl⟩:=ke7 hd;obtain⟨p,vx,rfl,hp,rfl,g1⟩:=y;have z1:=g1 us ((s.trans w.rh) _ _ h1);obtain⟨d1,k1,q1⟩:=r1.get z1;rw[hx]at k1;cases k1;have e:=Ext.new (o:= .tup [.int (i:Nat),vx]) w hp;exact⟨_,e,.tup kak (.cons (.int _) (.cons (Rp.same (s.trans e.rr) q1) .nil))⟩
 .exact⟨us,(s.trans w.rh) _ _ h1,by rw[kc5];lia⟩
abbrev kzq(ta:De):Dq:=fun env P=>ta env fun x=>∃xs,x= .list xs/\P (kj6 xs)
def kih{ta:De}{p:Pos}(ha:DE He K Y a ta)(hm: ∀i,(Y i).mg "enumerate"=none)(hg:autoParam (∀ i,Gl (Y i) "enumerate") Z3)(hs:autoParam (∀ i,bc5 [a] (Y i).env=[(false,eval a (Y i).env)]) Z3):
 DI He K Y (.Tuple elts kk tpos) (.Call (.Name "enumerate" p) [a] [] pos) (kzq ta):=by
 obtain⟨te,h1,h2⟩:=ha;refine⟨_,fun i=>kzp (hg i) (hm i) (kaq (h1 i) ka2 (hs i)) (hs i),fun P Q F p k=>h2 _ _ F p fun d v R1 H1 ⟨xs,hc,pl⟩ e1 r1=>?_⟩;subst hc;obtain⟨a1,us,rfl,g1,w1⟩:=r1.lst_inv;refine⟨a1,us,rfl,e1.rh _ _ g1,fun hz=>k _ _ R1 H1 pl e1 ?_ (kuu g1 w1)⟩;rw[kc5,<- w1.len];lia
end
@[reducible]def ZS(h:Heap)(z TI TO T:Addr)(b:Bool):Prop:=
 h.get? z=some {cls:= .type "zip",dict:=none,data:= .fields #[rawInt T,.bool b,.bool false,.ref TI,.ref TO],slots:= #[]}
section
variable{prog:bb9}{w:be5}{A:bg1}{E:ba6->ba7->Prop}{s:ba7}
def kqz{a:Addr}{Q:Option Obj->ba7->Prop}(h:Q (s.heap.get? a) s):be1 (bf9 prog w) A (loadIfAlive a) Q E s:=by
 exact fun O O O=>h
def kmm{z TI TO T:Addr}{bl:Bool}{oT:Obj}{Q:Bool->ba7->Prop}(hz:ZS s.heap z TI TO T bl)(hT:s.heap.get? T=some oT)
 (hQ: ∀h',ZS h' z TI TO T true->cj8 z s.heap h'->h'.objs.size=s.heap.objs.size->Q false {s with heap:=h'}):be1 (bf9 prog w) A (bg6 (.ref z)) Q E s:=by
 unfold bg6;refine ba0 (bk9 hz rfl (x:=rawInt T) rfl ?_);unfold rawInt;dsimp only;refine ba0 (kqz ?_);rw[bc3,hT];dsimp only[Option.isNone];rw[zN bb6];refine ba0 (bk9 hz rfl (x:= .bool bl) rfl ?_);cases bl
 .rw[zP (by decide)];exact ba0 (bl8 hz (by simp) fun h₁ hz₁ hs₁=>ba9 (hQ h₁ hz₁ hs₁.extBut hs₁.1))
 .rw[zN (by decide)];exact ba9 (hQ s.heap hz (fun O O O e=>e) rfl)
def kuv{z TI TO T i1 i2 l1 l2:Addr}{bl:Bool}{k1 k2:Nat}{xs ys:Array ba6}{x y:ba6}{oT:Obj}{Q:ba6->ba7->Prop}(D:ZipApart z TI TO i1 i2 l1 l2)
 (hz:ZS s.heap z TI TO T bl)(hT:s.heap.get? T=some oT)(hTI:IsPair s.heap TI (.ref i1) (.ref i2))
 (h1:s.heap.IsListIter i1 l1 k1)(h2:s.heap.IsListIter i2 l2 k2)(hl1:s.heap.IsList l1 xs)(hl2:s.heap.IsList l2 ys)(hx:xs[k1]?=some x)(hy:ys[k2]?=some y)
 (hQ: ∀h',ZS h' z TI TO T true->h'.IsListIter i1 l1 (k1+1)->h'.IsListIter i2 l2 (k2+1)->IsPair h' s.heap.objs.size x y->
   (∀ c o,c≠z->c≠i1->c≠i2->s.heap.get? c=some o->h'.get? c=some o)->Q (.ref s.heap.objs.size) {s with heap:=h'}):
 be1 (bf9 prog w) A (Builtin.«zip.__next__» ⟨[.ref z],[]⟩) (fun fin s'=>∃v,fin= .done (.ret v)/\Q v s') E s:=by
 show be1 _ _ (field (.ref z) 2 >>= _) _ _ _;refine ba0 (bk9 hz rfl (x:= .bool false) rfl ?_);show be1 _ _ (field (.ref z) 3 >>= _) _ _ _;refine ba0 (bk9 hz rfl (x:= .ref TI) rfl ?_);refine ba0 (bk4 hTI rfl ?_);show be1 _ _ (bg6 (.ref z) >>= _) _ _ _;refine ba0 (kmm hz hT fun h₁ hz₁ hs₁ z₁=>?_);simp only[bj1,if_false];refine ba0 ?_;rw[<- bq5];simp only[bt4,bs8];refine ba0 (ba0 (bk0 ?_));show be1 _ _ (bh1 (.ref i1) >>= _) _ _ _;refine ba0 (ca0 (h1.extBut hs₁ D.i1z) (hl1.extBut hs₁ D.l1z) hx fun h₂ h1₂ hs₂=>ba9 ?_);refine ba9 ?_;refine ba0 (ba0 (bk0 ?_));show be1 _ _ (bh1 (.ref i2) >>= _) _ _ _;refine ba0 (ca0 ((h2.extBut hs₁ D.i2z).extBut hs₂.extBut D.i12.symm) ((hl2.extBut hs₁ D.l2z).extBut hs₂.extBut D.l2i1) hy fun h₃ h2₃ hs₃=>ba9 ?_);refine ba9 (ba9 ?_);refine ba0 (b58 (hsz:=show 2<=sizeLine by decide) (ba9 ⟨_,rfl,?_⟩));have hsz:h₃.objs.size=s.heap.objs.size:=by rw[hs₃.1,hs₂.1,z₁]
 show Q (.ref h₃.objs.size) _;rw[hsz];have up: ∀c o,h₃.get? c=some o->(h₃.push {cls:= .type "tuple",data:= .seq #[x,y]}).get? c=some o:=fun c o e=>ba5 _ e;refine hQ _ (up _ _ (hs₃.extBut _ _ D.i2z.symm (hs₂.extBut _ _ D.i1z.symm hz₁))) ((h1₂.extBut hs₃.extBut D.i12).at fun o e=>up _ o e) (h2₃.at fun o e=>up _ o e) ?_ fun c o c1 c2 c3 e=>up _ _ (hs₃.extBut _ _ c3 (hs₂.extBut _ _ c2 (hs₁ _ _ c1 e)));rw[<- hsz];exact bc7 _ rfl
def kuw{z TI TO T i1 i2 l1 l2:Addr}{bl:Bool}{k1:Nat}{xs:Array ba6}{oT:Obj}{Q:Fin->ba7->Prop}(hh:A.handled=none)(D:ZipApart z TI TO i1 i2 l1 l2)
 (hz:ZS s.heap z TI TO T bl)(hT:s.heap.get? T=some oT)(hTI:IsPair s.heap TI (.ref i1) (.ref i2))
 (h1:s.heap.IsListIter i1 l1 k1)(hl1:s.heap.IsList l1 xs)(hx:xs[k1]?=none)
 (hE: ∀h' e,(∀ c o,c≠z->c≠i1->s.heap.get? c=some o->h'.get? c=some o)->(∃ o,h'.get? e=some o/\o.cls= .type "StopIteration")->E (.ref e) {s with heap:=h'}):
 be1 (bf9 prog w) A (Builtin.«zip.__next__» ⟨[.ref z],[]⟩) Q E s:=by
 show be1 _ _ (field (.ref z) 2 >>= _) _ _ _;refine ba0 (bk9 hz rfl (x:= .bool false) rfl ?_);show be1 _ _ (field (.ref z) 3 >>= _) _ _ _;refine ba0 (bk9 hz rfl (x:= .ref TI) rfl ?_);refine ba0 (bk4 hTI rfl ?_);show be1 _ _ (bg6 (.ref z) >>= _) _ _ _;refine ba0 (kmm hz hT fun h₁ hz₁ hs₁ z₁=>?_);simp only[bj1,if_false];refine ba0 ?_;rw[<- bq5];simp only[bt4,bs8];refine ba0 (ba0 (bk0 ?_));show be1 _ _ (bh1 (.ref i1) >>= _) _ _ _;exact ba0 (wpAny_nextOf_list_end hh (h1.extBut hs₁ D.i1z) (hl1.extBut hs₁ D.l1z) hx fun h₂ e hs₂ he=>hE h₂ e (fun c o c1 c2 x=>hs₂ _ _ c2 (hs₁ _ _ c1 x)) he)
def kq0{z TI TO T i1 i2 l1 l2:Addr}{bl:Bool}{k1 k2:Nat}{xs ys:Array ba6}{x y:ba6}{oT:Obj}{Q:Option ba6->ba7->Prop}(D:ZipApart z TI TO i1 i2 l1 l2)
 (hz:ZS s.heap z TI TO T bl)(hT:s.heap.get? T=some oT)(hTI:IsPair s.heap TI (.ref i1) (.ref i2))
 (h1:s.heap.IsListIter i1 l1 k1)(h2:s.heap.IsListIter i2 l2 k2)(hl1:s.heap.IsList l1 xs)(hl2:s.heap.IsList l2 ys)(hx:xs[k1]?=some x)(hy:ys[k2]?=some y)
 (hQ: ∀h',ZS h' z TI TO T true->h'.IsListIter i1 l1 (k1+1)->h'.IsListIter i2 l2 (k2+1)->IsPair h' s.heap.objs.size x y->
   (∀ c o,c≠z->c≠i1->c≠i2->s.heap.get? c=some o->h'.get? c=some o)->Q (some (.ref s.heap.objs.size)) {s with heap:=h'}):
 be1 (bf9 prog w) A (pyNext (.ref z)) Q E s:=by
 have ty:s.TypeIs (.ref z) "zip":=⟨_,hz,rfl⟩
 unfold pyNext;exact ba0 (bu3 (bi8 (name:=br2 "__next__") ty br6
  (bg4 br6 ty b20
    (kuv D hz hT hTI h1 h2 hl1 hl2 hx hy fun h' a1 a2 a3 a4 a5=>ba9 (hQ h' a1 a2 a3 a4 a5)) (b00 _))))
def kq1{z TI TO T i1 i2 l1 l2:Addr}{bl:Bool}{k1:Nat}{xs:Array ba6}{oT:Obj}{Q:Option ba6->ba7->Prop}(hh:A.handled=none)(D:ZipApart z TI TO i1 i2 l1 l2)
 (hz:ZS s.heap z TI TO T bl)(hT:s.heap.get? T=some oT)(hTI:IsPair s.heap TI (.ref i1) (.ref i2))
 (h1:s.heap.IsListIter i1 l1 k1)(hl1:s.heap.IsList l1 xs)(hx:xs[k1]?=none)
 (hQ: ∀h',(∀ c o,c≠z->c≠i1->s.heap.get? c=some o->h'.get? c=some o)->Q none {s with heap:=h'}):be1 (bf9 prog w) A (pyNext (.ref z)) Q E s:=by
 have ty:s.TypeIs (.ref z) "zip":=⟨_,hz,rfl⟩
 unfold pyNext;refine ba0 (bu3 (bi8 (name:=br2 "__next__") ty br6
  (bg4 br6 ty b20 (kuw hh D hz hT hTI h1 hl1 hx fun h' e hk he=>?_) (b00 _))))
 obtain⟨o,ho,hc⟩:=he;refine ba0 (bs4 (T:="StopIteration") (b:=true) ⟨o,ho,hc⟩ cb9 ?_);exact ba9 (hQ _ hk)
end
abbrev ZL(h:Heap)(z TI TO:Addr)(bad:List Addr):Prop:=(IsZip h z TI TO .none/\∃a b,IsPair h TO a b)\/∃T o bl,ZS h z TI TO T bl/\h.get? T=some o/\T ∉ bad
structure ZW(h:Heap)(z TI TO i1 i2 l1 l2:Addr)(xs ys:Array ba6)(bad:List Addr)(i:Nat):Prop where
 zl:ZL h z TI TO bad
 ti:IsPair h TI (.ref i1) (.ref i2)
 h1:h.IsListIter i1 l1 i
 h2:h.IsListIter i2 l2 i
 s1:h.IsList l1 xs
 s2:h.IsList l2 ys
 ex: ∀b∈bad,∃o,h.get? b=some o
abbrev PrOk(h:Heap)(xs ys:Array ba6)(S:Addr)(bad:List Addr)(acc:Array ba6):Prop:=∀(j:Nat)(v:ba6),acc[j]?=some v->∃(T:Addr)(x y:ba6),v=bg0 T/\xs[j]?=some x/\ys[j]?=some y/\IsPair h T x y/\T ∉ bad/\S<T
set_option tactic.hygienic true in
def PrOk.push{h:Heap}{xs ys:Array ba6}{S:Addr}{bad:List Addr}{acc:Array ba6}{T:Addr}{x y:ba6}(p:PrOk h xs ys S bad acc)(hx:xs[acc.size]?=some x)(hy:ys[acc.size]?=some y)(hT:IsPair h T x y)(hb:T ∉ bad)(hS:S<T):PrOk h xs ys S bad (acc.push (.ref T)):=fun j v e=>by
 rw[Array.getElem?_push]at e;split at e
 .rename_i c;cases e;rw[c];exact⟨T,x,y,rfl,hx,hy,hT,hb,hS⟩
 .exact p j v e
def PrOk.mono{h h':Heap}{xs ys:Array ba6}{S:Addr}{bad:List Addr}{acc:Array ba6}(p:PrOk h xs ys S bad acc)(k: ∀b o,b ∉ bad->h.get? b=some o->h'.get? b=some o):PrOk h' xs ys S bad acc:=fun j v e=>by
 obtain⟨T,x,y,e1,e2,e3,e4,e5,e6⟩:=p j v e;exact⟨T,x,y,e1,e2,e3,k _ _ e5 e4,e5,e6⟩
section
variable{prog:bb9}{w:be5}{A:bg1}{E:ba6->ba7->Prop}{s:ba7}{z TI TO i1 i2 l1 l2 S:Addr}{xs ys:Array ba6}{i:Nat}
def kzr{bad:List Addr}{h:Heap}(ex: ∀b∈bad,∃o,h.get? b=some o):h.objs.size ∉ bad:=fun m=>by
 obtain⟨o,e⟩:=ex _ m;exact zA (bd0 e) (bk7 _)
def kux{x y:ba6}{Q:Option ba6->ba7->Prop}(D:ZipApart z TI TO i1 i2 l1 l2)(W:ZW s.heap z TI TO i1 i2 l1 l2 xs ys [S,z,TO,i1,i2] i)(hS:S≠z/\S≠TO/\S≠i1/\S≠i2)(hx:xs[i]?=some x)(hy:ys[i]?=some y)
 (hQ: ∀T h',T=s.heap.objs.size->ZW h' z TI TO i1 i2 l1 l2 xs ys [S,z,TO,i1,i2] (i+1)->IsPair h' T x y->T ∉ [S,z,TO,i1,i2]->(∀ c o,c≠z->c≠TO->c≠i1->c≠i2->s.heap.get? c=some o->h'.get? c=some o)->Q (some (.ref T)) {s with heap:=h'}):
 be1 (bf9 prog w) A (pyNext (.ref z)) Q E s:=by
 have nb:=kzr W.ex;have mk: ∀h',ZL h' z TI TO [S,z,TO,i1,i2]->h'.IsListIter i1 l1 (i+1)->h'.IsListIter i2 l2 (i+1)->(∃ o,h'.get? z=some o)->(∃ o,h'.get? TO=some o)->(∀ c o,c≠z->c≠TO->c≠i1->c≠i2->s.heap.get? c=some o->h'.get? c=some o)->ZW h' z TI TO i1 i2 l1 l2 xs ys [S,z,TO,i1,i2] (i+1):=fun h' zl a3 a4 ez eT kp=>
  ⟨zl,kp _ _ D.TIz D.TITO D.TIi1 D.TIi2 W.ti,a3,a4,by obtain⟨o,e,r⟩:=W.s1;exact⟨o,kp _ _ D.l1z D.l1TO D.l1i1 D.l1i2 e,r⟩,by obtain⟨o,e,r⟩:=W.s2;exact⟨o,kp _ _ D.l2z D.l2TO D.l2i1 D.l2i2 e,r⟩,fun b hb=>by
    simp only[bc6,bg9,or_false]at hb;rcases hb with rfl|rfl|rfl|rfl|rfl
    .obtain⟨o,e⟩:=W.ex _ bb8;exact⟨o,kp _ _ hS.1 hS.2.1 hS.2.2.1 hS.2.2.2 e⟩
    .exact ez
    .exact eT
    .obtain⟨o,e,_⟩:=a3;exact⟨o,e⟩
    .obtain⟨o,e,_⟩:=a4;exact⟨o,e⟩⟩
 rcases W.zl with⟨hz,a,b,hTO⟩|⟨T,o,bl,hz,hT,hb⟩
 .refine wpAny_pyNext_zip_item D hz W.ti hTO W.h1 W.h2 W.s1 W.s2 hx hy fun h' a1 a2 a3 a4 a5 O kp=>?_;exact hQ _ h' rfl (mk h' (.inr ⟨_,_,false,a1,a5,nb⟩) a3 a4 ⟨_,a1⟩ ⟨_,a2⟩ kp) a5 nb kp
 .refine kq0 D hz hT W.ti W.h1 W.h2 W.s1 W.s2 hx hy fun h' a1 a3 a4 a5 kp=>?_;have kp': ∀c o,c≠z->c≠TO->c≠i1->c≠i2->s.heap.get? c=some o->h'.get? c=some o:=fun c o c1 O c3 c4 e=>kp c o c1 c3 c4 e;obtain⟨oo,eo⟩:=W.ex TO (by simp);simp only[bc6,bg9,or_false,not_or]at hb;exact hQ _ h' rfl (mk h' (.inr ⟨T,o,true,a1,kp _ _ hb.2.1 hb.2.2.2.1 hb.2.2.2.2 hT,by simp only[bc6,bg9,or_false,not_or];exact hb⟩) a3 a4 ⟨_,a1⟩ ⟨oo,kp _ _ D.TOz D.TOi1 D.TOi2 eo⟩ kp') a5 nb kp'
def kuy{Q:Option ba6->ba7->Prop}(hh:A.handled=none)(D:ZipApart z TI TO i1 i2 l1 l2){bad:List Addr}(W:ZW s.heap z TI TO i1 i2 l1 l2 xs ys bad i)(hx:xs[i]?=none)
 (hQ: ∀h',(∀ c o,c≠z->c≠TO->c≠i1->c≠i2->s.heap.get? c=some o->h'.get? c=some o)->Q none {s with heap:=h'}):be1 (bf9 prog w) A (pyNext (.ref z)) Q E s:=by
 rcases W.zl with⟨hz,a,b,hTO⟩|⟨T,o,bl,hz,hT,hb⟩
 .exact wpAny_pyNext_zip_end hh D hz W.ti hTO W.h1 W.h2 W.s1 W.s2 (.inl hx) hQ
 .exact kq1 hh D hz hT W.ti W.h1 W.s1 hx fun h' kp=>hQ h' fun c o c1 O c3 O e=>kp c o c1 c3 e
def ZW.upd{h h':Heap}{bad:List Addr}(W:ZW h z TI TO i1 i2 l1 l2 xs ys bad i)(hS:S≠z/\S≠TO/\S≠i1/\S≠i2/\S≠TI/\S≠l1/\S≠l2)(hm:S∈bad)(eS: ∃o,h'.get? S=some o)(k: ∀b o,b≠S->h.get? b=some o->h'.get? b=some o):ZW h' z TI TO i1 i2 l1 l2 xs ys bad i:=by
 obtain⟨n1,n2,n3,n4,n5,n6,n7⟩:=hS;refine⟨?_,k _ _ n5.symm W.ti,W.h1.at fun o e=>k _ o n3.symm e,W.h2.at fun o e=>k _ o n4.symm e,by obtain⟨o,e,r⟩:=W.s1;exact⟨o,k _ _ n6.symm e,r⟩,by obtain⟨o,e,r⟩:=W.s2;exact⟨o,k _ _ n7.symm e,r⟩,fun b hb=>?_⟩
 .rcases W.zl with⟨hz,a,b,hTO⟩|⟨T,o,bl,hz,hT,hb⟩
  .exact .inl ⟨k _ _ n1.symm hz,a,b,k _ _ n2.symm hTO⟩
  .exact .inr ⟨T,o,bl,k _ _ n1.symm hz,k _ _ (fun e=>hb (by rw[e];exact hm)) hT,hb⟩
 .by_cases c:b=S
  .rw[c];exact eS
  .obtain⟨o,e⟩:=W.ex b hb;exact⟨o,k _ _ c e⟩
def kuz{R:cg8->ba7->Prop}{n:Nat}(hh:A.in1.handled=none)(D:ZipApart z TI TO i1 i2 l1 l2)(hS:S≠z/\S≠TO/\S≠i1/\S≠i2/\S≠TI/\S≠l1/\S≠l2)(h1:xs.size=n)(h2:ys.size=n)(hn:n<=sizeLine)(res:ba6):
 ∀(k i:Nat)(s:ba7)(acc:Array ba6)(c:Nat),n-i=k->i<=n->ZW s.heap z TI TO i1 i2 l1 l2 xs ys [S,z,TO,i1,i2] i->s.heap.get? S=some {cls:= .type "list",dict:=none,data:= .seq acc c,slots:= #[]}->acc.size=i->PrOk s.heap xs ys S [S,z,TO,i1,i2] acc->
 (∀ h' acc' c',(∀ b o,b ∉ [S,z,TO,i1,i2]->s.heap.get? b=some o->h'.get? b=some o)->h'.get? S=some {cls:= .type "list",dict:=none,data:= .seq acc' c',slots:= #[]}->acc'.size=n->PrOk h' xs ys S [S,z,TO,i1,i2] acc'->R (.ok (.ret res)) {s with heap:=h'})->
 codeAny (bf9 prog w) A (.builtin "list.extend.loop" ⟨[.ref S,.ref z,res],[]⟩) R s:=by
 have bd: ∀{b:Addr},b ∉ [S,z,TO,i1,i2]->b≠S/\b≠z/\b≠TO/\b≠i1/\b≠i2:=fun{b} hb=>by
  simp only[bc6,bg9,or_false,not_or]at hb;exact hb
 intro k;induction k with
 | zero=>
   intro i s acc c hk hi W hL ha pr hR;have e:i=n:=(by lia)
   subst e;refine br7 cc6 ?_;rw[bp4 b40 _];show be1 _ A.in1 (pyNext (.ref z) >>= _) _ _ s;refine ba0 (kuy hh D W (by rw[Array.getElem?_eq_none_iff];lia) fun h' kp=>?_);have kp': ∀b o,b ∉ [S,z,TO,i1,i2]->s.heap.get? b=some o->h'.get? b=some o:=fun b o hb e=>kp b o (bd hb).2.1 (bd hb).2.2.1 (bd hb).2.2.2.1 (bd hb).2.2.2.2 e;exact ba9 (hR h' acc c kp' (kp _ _ hS.1 hS.2.1 hS.2.2.1 hS.2.2.2.1 hL) ha (pr.mono kp'))
 | succ k ih=>
   intro i s acc c hk hi W hL ha pr hR;have hlt:i<n:=(by lia)
   refine br7 cc6 ?_;rw[bp4 b40 _];show be1 _ A.in1 (pyNext (.ref z) >>= _) _ _ s;obtain⟨x,hx⟩: ∃x,xs[i]?=some x:=⟨_,bh2 (by lia)⟩
   obtain⟨y,hy⟩: ∃y,ys[i]?=some y:=⟨_,bh2 (by lia)⟩
   refine ba0 (kux D W ⟨hS.1,hS.2.1,hS.2.2.1,hS.2.2.2.1⟩ hx hy fun T h' eT W' pT nT kp=>?_);have kp': ∀b o,b ∉ [S,z,TO,i1,i2]->s.heap.get? b=some o->h'.get? b=some o:=fun b o hb e=>kp b o (bd hb).2.1 (bd hb).2.2.1 (bd hb).2.2.2.1 (bd hb).2.2.2.2 e;have hL':h'.get? S=_:=kp _ _ hS.1 hS.2.1 hS.2.2.1 hS.2.2.2.1 hL;show be1 _ A.in1 (updateSeq S (·.push (.ref T)) >>= _) _ _ _;refine ba0 ?_;have oth: ∀b o,b≠S->h'.get? b=some o->(h'.update S (bj9 (·.push (.ref T)))).get? b=some o:=fun b o hb e=>(bn5 _ _ (bv6 hb)).trans e;have hS2:=bm1 (bj9 (·.push (bg0 T))) hL' rfl;refine bz0 (s:={s with heap:=h'}) hL' rfl (ba9 ⟨by6 b40 _,ih (i+1) _ (acc.push (.ref T)) _ (by lia) hlt (W'.upd hS bb8 ⟨_,hS2⟩ oth) hS2 (by rw[ck4,ha]) (((pr.mono kp').push (by rw[ha];exact hx) (by rw[ha];exact hy) pT nT (by rw[eT];exact bd0 hL)).mono fun b o hb e=>oth b o (bd hb).1 e) fun h2 acc' c' k2 e1 e2 e3=>hR h2 acc' c' (fun b o hb e=>k2 b o hb (oth b o (bd hb).1 (kp' b o hb e))) e1 e2 e3⟩)
    (by rw[ha];lia) (by show(acc.push (.ref T)).size<=sizeLine+1;rw[ck4,ha];lia)
end
def kq2:typeLookup (.type "zip") "__len__"=pure none:=by rw[bw1,bq1];kernel_rfl
def kn0:typeLookup (.type "zip") "__length_hint__"=pure none:=by rw[bw1,bq1];kernel_rfl
section
variable{prog:bb9}{w:be5}{A:bg1}{E:ba6->ba7->Prop}{s:ba7}{z TI TO i1 i2 l1 l2 S:Addr}{xs ys:Array ba6}
def ku0{Q:Bool->ba7->Prop}(hT:s.TypeIs (.ref z) "zip")(h:Q true s):be1 (bf9 prog w) A (bm3 (.ref z)) Q E s:=by
 unfold bm3;refine ba0 (bm0 hT kq2 ?_)
 wp_delta
 refine bq2 (fun hab=>zA hab (by decide +kernel)) (fun O=>?_);refine bq2 (fun hab=>zA hab (by decide)) (fun O=>?_);refine ba0 (bm0 hT kn0 ?_);exact ba9 h
def kzs{R:cg8->ba7->Prop}{n:Nat}{a b:ba6}(hh:A.handled=none)(D:ZipApart z TI TO i1 i2 l1 l2)(hS:S≠z/\S≠TO/\S≠i1/\S≠i2/\S≠TI/\S≠l1/\S≠l2)(h1:xs.size=n)(h2:ys.size=n)(hn:n<=sizeLine)(res:ba6)(c:Nat)
 (hz:IsZip s.heap z TI TO .none)(W:ZW s.heap z TI TO i1 i2 l1 l2 xs ys [S,z,TO,i1,i2] 0)(hL:s.heap.get? S=some {cls:= .type "list",dict:=none,data:= .seq #[] c,slots:= #[]})
 (hR: ∀h' acc' c',(∀ b o,b ∉ [S,z,TO,i1,i2]->s.heap.get? b=some o->h'.get? b=some o)->h'.get? S=some {cls:= .type "list",dict:=none,data:= .seq acc' c',slots:= #[]}->acc'.size=n->PrOk h' xs ys S [S,z,TO,i1,i2] acc'->R (.ok (.ret res)) {s with heap:=h'}):
 be1 (bf9 prog w) A.in1 (bi4 (.ref S) (.ref z) res)
  (fun fin s'=>match fin with| .done f=>R (.ok f) s'| .again c'=>c'.quiet=true/\codeAny (bf9 prog w) A c' R s') (fun e s'=>R (.error e) s') s:=by
 have ty:s.TypeIs (.ref z) "zip":=⟨_,hz,rfl⟩
 unfold bi4;refine ba0 (b11 (T:="zip") ty ?_);have e1:bt8 (.ref S) (.ref z)=false:=by simp[bt8,hS.1]
 have e2:(bq4 "zip" ==bq4 "list")=false:=by decide
 have e3:(bq4 "zip" ==bq4 "tuple")=false:=by decide
 simp only[e1,e2,e3,b81,bj1,if_false];refine ba0 (b96 hz ?_);refine ba0 (bk0 (ku0 ty ?_));refine bq2 (fun O=>?_) (fun hab=>zA (by rfl) hab);refine ba0 (bz9 ?_);refine ba0 ?_;show be1 _ _ (updateSeq S (·.push .none) >>= fun O=>updateSeq S (·.pop)) _ _ _;refine ba0 (bz0 hL rfl ?_);have g2:=bm1 (bj9 (·.push bd8)) hL rfl;refine bz0 (hz:=by seq_fits) g2 rfl ?_;have g3:=bm1 (bj9 (·.pop)) g2 rfl;have oth: ∀b o,b≠S->s.heap.get? b=some o->((s.heap.update S (bj9 (·.push bd8))).update S (bj9 (·.pop))).get? b=some o:=fun b o hb e=>(bn5 _ _ (bv6 hb)).trans ((bn5 _ _ (bv6 hb)).trans e);refine ba9 ⟨by6 b66 _,?_⟩;refine kuz (A:=A) hh D hS h1 h2 hn res n 0 {s with heap:=(s.heap.update S (bj9 (·.push bd8))).update S (bj9 (·.pop))} #[] _ rfl (bf7 _) (W.upd hS bb8 ⟨_,g3⟩ oth) g3 rfl (fun j v e=>by simp at e) fun h' acc' c' k e1 e2 e3=>hR h' acc' c' (fun b o hb e=>k b o hb (oth b o (fun z=>hb (by rw[z];exact bb8)) e)) e1 e2 e3
def ku1{R:cg8->ba7->Prop}{n:Nat}{a b:ba6}(hh:A.handled=none)(D:ZipApart z TI TO i1 i2 l1 l2)(hS:S≠z/\S≠TO/\S≠i1/\S≠i2/\S≠TI/\S≠l1/\S≠l2)(h1:xs.size=n)(h2:ys.size=n)(hn:n<=sizeLine)(c:Nat)
 (hz:IsZip s.heap z TI TO .none)(W:ZW s.heap z TI TO i1 i2 l1 l2 xs ys [S,z,TO,i1,i2] 0)(hL:s.heap.get? S=some {cls:= .type "list",dict:=none,data:= .seq #[] c,slots:= #[]})
 (hR: ∀h' acc' c',(∀ b o,b ∉ [S,z,TO,i1,i2]->s.heap.get? b=some o->h'.get? b=some o)->h'.get? S=some {cls:= .type "list",dict:=none,data:= .seq acc' c',slots:= #[]}->acc'.size=n->PrOk h' xs ys S [S,z,TO,i1,i2] acc'->R (.ok (.ret .none)) {s with heap:=h'}):
 be1 (bf9 prog w) A.in1 (Builtin.«list.__init__» ⟨[.ref S,.ref z],[]⟩)
  (fun fin s'=>match fin with| .done f=>R (.ok f) s'| .again c'=>c'.quiet=true/\codeAny (bf9 prog w) A c' R s') (fun e s'=>R (.error e) s') s:=by
 show be1 _ _ (do let old <- bv2 (.ref S);b92 (.ref S) (fun O=> #[]);letGo old.toList.reverse;bi4 (.ref S) (.ref z) .none) _ _ s;refine ba0 ?_;unfold bv2;refine ba0 (bk4 hL rfl (ba9 ?_));show be1 _ _ (updateSeq S (fun O=> #[]) >>= fun O=>letGo (#[]:Array ba6).toList.reverse >>= fun O=>bi4 (.ref S) (.ref z) .none) _ _ s;refine ba0 (bz0 hL rfl ?_);have g2:=bm1 (bj9 (fun O=>(#[]:Array ba6))) hL rfl;have oth: ∀b o,b≠S->s.heap.get? b=some o->(s.heap.update S (bj9 (fun O=>(#[]:Array ba6)))).get? b=some o:=fun b o hb e=>(bn5 _ _ (bv6 hb)).trans e;refine ba0 (b35 ?_);exact kzs (a:=a) (b:=b) hh D hS h1 h2 hn .none _ (oth _ _ hS.1.symm hz) (W.upd hS bb8 ⟨_,g2⟩ oth) g2 fun h' acc' c' k e1 e2 e3=>hR h' acc' c' (fun b o hb e=>k b o hb (oth b o (fun z=>hb (by rw[z];exact bb8)) e)) e1 e2 e3
def ku2{Q:ba6->ba7->Prop}{n:Nat}{a b:ba6}(hh:A.handled=none)(D:ZipApart z TI TO i1 i2 l1 l2)(h1:xs.size=n)(h2:ys.size=n)(hn:n<=sizeLine)
 (hz:IsZip s.heap z TI TO .none)(ht:IsPair s.heap TO a b)(hi:IsPair s.heap TI (.ref i1) (.ref i2))(k1:s.heap.IsListIter i1 l1 0)(k2:s.heap.IsListIter i2 l2 0)(s1:s.heap.IsList l1 xs)(s2:s.heap.IsList l2 ys)
 (hQ: ∀h' acc' c',(∀ b o,b ∉ [s.heap.objs.size,z,TO,i1,i2]->s.heap.get? b=some o->h'.get? b=some o)->h'.get? s.heap.objs.size=some {cls:= .type "list",dict:=none,data:= .seq acc' c',slots:= #[]}->acc'.size=n->PrOk h' xs ys s.heap.objs.size [s.heap.objs.size,z,TO,i1,i2] acc'->Q (.ref s.heap.objs.size) {s with heap:=h'}):
 be1 (bf9 prog w) A (call (.type "list") [.ref z]) Q E s:=by
 refine callType_codes (Q₁:=fun obj s₁=>obj= .ref s.heap.objs.size/\s₁={s with heap:=s.heap.push {cls:= .type "list",data:= .seq #[]}}) cc7 (b93 _) b94 (code_list_new _ ⟨rfl,rfl⟩) fun obj s₁ g₁=>?_;obtain⟨rfl,rfl⟩:=g₁;have hL:(s.heap.push {cls:= .type "list",data:= .seq #[]}).get? s.heap.objs.size=some {cls:= .type "list",data:= .seq #[]}:=bc7 _ rfl;have up: ∀b o,s.heap.get? b=some o->(s.heap.push {cls:= .type "list",data:= .seq #[]}).get? b=some o:=fun b o e=>ba5 _ e;have ne: ∀{b:Addr}{o:Obj},s.heap.get? b=some o->s.heap.objs.size≠b:=fun e z=>zA (bd0 e) (by rw[<- z];exact bk7 _);obtain⟨o1,e1,_⟩:=id k1;obtain⟨o2,e2,_⟩:=id k2;obtain⟨o3,e3,_⟩:=id s1;obtain⟨o4,e4,_⟩:=id s2;have hS:s.heap.objs.size≠z/\s.heap.objs.size≠TO/\s.heap.objs.size≠i1/\s.heap.objs.size≠i2/\s.heap.objs.size≠TI/\s.heap.objs.size≠l1/\s.heap.objs.size≠l2:=⟨ne hz,ne ht,ne e1,ne e2,ne hi,ne e3,ne e4⟩
 refine⟨⟨_,hL,rfl⟩,b76 _ _,ku1 (a:=a) (b:=b) (A:=A.in1) hh D hS h1 h2 hn 0 (up _ _ hz) ⟨.inl ⟨up _ _ hz,a,b,up _ _ ht⟩,up _ _ hi,k1.at fun o e=>up _ o e,k2.at fun o e=>up _ o e,by obtain⟨o,e,r⟩:=s1;exact⟨o,up _ _ e,r⟩,by obtain⟨o,e,r⟩:=s2;exact⟨o,up _ _ e,r⟩,fun b hb=>?_⟩ hL (fun h' acc' c' k g1 g2 g3=>⟨rfl,hQ h' acc' c' (fun b o hb e=>k b o hb (up b o e)) g1 g2 g3⟩)⟩;simp only[bc6,bg9,or_false]at hb;rcases hb with rfl|rfl|rfl|rfl|rfl
 .exact⟨_,hL⟩
 .exact⟨_,up _ _ hz⟩
 .exact⟨_,up _ _ ht⟩
 .exact⟨_,up _ _ e1⟩
 .exact⟨_,up _ _ e2⟩
end
section
open PySem.W PySem.Calls
section
variable{prog:bb9}{w:be5}{A:bg1}{E:ba6->ba7->Prop}{s:ba7}
end
section
variable{X:Cx}
end
section
variable{He:Hp}{K:ba2}{ι:Type}{Y:ι->Cx}{e:Expr}{pos p:Pos}
end
end
section
variable{He:Hp}{K:ba2}{ι:Type}{Y:ι->Cx}{e:Expr}{pos:Pos}
abbrev kk0(i j:Nat)(t:De):Ds:=fun D env=>∃xs ys,env[i]?=some (.o xs)/\env[j]?=some (.o ys)/\i≠j/\xs.length<=100000/\t env fun d=>∃(k:Nat)(y:bb0),d= .int (k:Int)/\ys[k]?=some y/\k<=100000/\D.nx ((env.set j (.o (ys.eraseIdx k))).set i (.o (xs++[y])))
def kj7(i j:Nat){x z:Str}{t:De}{p2 apos cpos p3 apos3 cpos3:Pos}(h:DB He K Y e t)(hv:autoParam (∀ j,PE (Y j) (.Name x p2) (kg9 i)) Z8)(hw:autoParam (∀ m,PE (Y m) (.Name z p3) (kg9 j)) Z8)(hK:autoParam (∀ i,(Y i).K=K) Z3)
 (hbase:autoParam (∀ j,bm8 (.Name x p2) "append" (Y j).env (eval (.Name x p2) (Y j).env)=eval (.Name x p2) (Y j).env) Z3)
 (hbase3:autoParam (∀ j,bm8 (.Name z p3) "pop" (Y j).env (eval (.Name z p3) (Y j).env)=eval (.Name z p3) (Y j).env) Z3)
 (hfew:autoParam (∀ j,((backTo cpos (bc5 [.Call (.Attribute (.Name z p3) "pop" apos3) [e] [] cpos3] (Y j).env)).all (fun x=> !x.1)&&(b09 cpos (bt1 [] (Y j).env)).all (fun x=>x.1.isSome)
   &&decide (([.Call (.Attribute (.Name z p3) "pop" apos3) [e] [] cpos3]:List Expr).length+([]:List Keyword).length+(if([]:List Keyword).isEmpty then 0 else 1)<30))=true) Z3)
 (hfew3:autoParam (∀ j,((backTo cpos3 (bc5 [e] (Y j).env)).all (fun x=> !x.1)&&(b09 cpos3 (bt1 [] (Y j).env)).all (fun x=>x.1.isSome)
   &&decide (([e]:List Expr).length+([]:List Keyword).length+(if([]:List Keyword).isEmpty then 0 else 1)<30))=true) Z3)
 (hline:autoParam ((apos.endLine==cpos.line)=true) Z4)(hline3:autoParam ((apos3.endLine==cpos3.line)=true) Z4)
 (hs:autoParam (∀ j,bc5 [.Call (.Attribute (.Name z p3) "pop" apos3) [e] [] cpos3] (Y j).env=(false,eval (.Call (.Attribute (.Name z p3) "pop" apos3) [e] [] cpos3) (Y j).env)::bc5 [] (Y j).env) Z3)(hs3:autoParam (∀ j,bc5 [e] (Y j).env=(false,eval e (Y j).env)::bc5 [] (Y j).env) Z3)
 (hplain:autoParam (∀ j,(backTo cpos (bc5 [] (Y j).env)).any (·.1)=false) Z3)(hplain3:autoParam (∀ j,(backTo cpos3 (bc5 [] (Y j).env)).any (·.1)=false) Z3)
 (hsw:autoParam (∀ j,bs6 (.Call (.Attribute (.Name x p2) "append" apos) [.Call (.Attribute (.Name z p3) "pop" apos3) [e] [] cpos3] [] cpos) none pos.line (Y j).env=pure false) Z3):
 DS He K Y (.Expr (.Call (.Attribute (.Name x p2) "append" apos) [.Call (.Attribute (.Name z p3) "pop" apos3) [e] [] cpos3] [] cpos) pos) (kk0 i j t):=by
 obtain⟨te,a1,a2⟩:=h;refine⟨_,fun m=>kgc (kf0 K (hK m) bk1 bx9 by0 ke1 (hv m) (kaq (kf0 K (hK m) bk1 b13 b14 klq (hw m) (kaq (a1 m) ka2 (hs3 m)) (hbase3 m) (hfew3 m) hline3 (hs3 m) (hplain3 m)) ka2 (hs m)) (hbase m) (hfew m) hline (hs m) (hplain m)) (hsw m),fun{H0 R0 R H σ env} D E F s c p=>?_⟩;obtain⟨xs,ys,ex,ey,ne,xl,p⟩:=p;obtain⟨a,us,h1,h2,h3,h4,h5⟩:=F.lstAt ex;obtain⟨b,vs,k1,k2,k3,k4,k5⟩:=F.lstAt ey;refine⟨_,h1,.inl ⟨rfl,_,SqL.of h2⟩,_,k1,.inl ⟨rfl,_,SqL.of k2⟩,a2 _ _ F p fun d v R' H' ⟨k,y,hd,hy,hb,q⟩ ee r=>?_⟩;subst hd;have ev:=r.int_inv;subst ev;have r5:=RpAll.same ee.rr h5;have s5:=RpAll.same ee.rr k5;obtain⟨vy,hvy,ry⟩:=s5.get' hy;have hkl:k<vs.length:=(bb3.mp hvy).1;refine⟨b,vs,(k:Int),k,vy,rfl,rfl,ee.hh _ _ k2,by lia,by lia,cf2 (by lia) (by lia),hvy,?_⟩;have F2:=(F.next ee).lstSet ey k1 (ee.nn _ _ k2 k3) k4 (RpAll.erase k s5);have hab:a≠b:=fun z=>by
  subst z;exact ne (F.apart i j _ _ a ex ey (by rw[h1];exact rfl) (by rw[k1];exact rfl))
 have ex2:(env.set j (.o (ys.eraseIdx k)))[i]?=some (.o xs):=by rw[bw6 ne.symm];exact ex
 refine⟨a,us,vy,rfl,rfl,by rw[kar hab];exact ee.hh _ _ h2,kyl (by rw[h5.len];exact xl),?_⟩;exact c.nx _ _ _ _ q (s.trans ee.rr) (F2.lstSet ex2 h1 (ee.nn _ _ h2 h3) h4 (RpAll.append r5 (.one ry)))
end
section
variable{X:Cx}{pI:List (Addr×Obj)}{σ:St}{H H':Hp}{s:ba7}{h':Heap}
def Inv.many{t':Nat}(I:Inv X pI σ H s)(k: ∀b u,s.heap.get? b=some u->h'.get? b=some u)(hs: ∀b o,H b=some o->H' b=some o)(hn: ∀b,b<s.heap.objs.size->H b=none->H' b=none)(new: ∀b o,H b=none->H' b=some o->ObjOk X.prog X.w H' h' b o):Inv X pI σ H' {s with heap:=h',toks:=t'}:=by
 refine I.un ⟨fun b u q O O O=>k b u q,fun b u q O O O=>⟨u.slots,k b u q⟩,fun b u q n O=>hn b (bd0 q) n,fun b u q O=>⟨u,k b u q⟩,fun b xs q=>hs b _ q,fun b u xs q=>hs b _ q,fun b ps q=>⟨#[],by rw[hs b _ q];simp⟩⟩ fun b o e=>?_;cases q:H b with
 | none=>exact new b o q e
 | some u=>
   have e2:=hs b u q;rw[e]at e2;cases e2;exact(I.hok b o q).stay (fun c v O g=>k c v g) (fun c g=>hs c _ g) fun c xs g=>hs c _ g
end
abbrev tLZ(ta:TA):TE:=fun σ H Q=>ta σ H fun vs H2=>∃a1 a2 xs ys,vs=[.ref a1,.ref a2]/\H2 a1=some (.lst xs)/\H2 a2=some (.lst ys)/\xs.length=ys.length/\∀(H3:Hp)(l:Addr)(ts:List Addr),Same H2 H3->(∀ b o,H2 b=none->H3 b=some o->b=l\/b∈ts)->H2 l=none->l ∉ ts->
 H3 l=some (.lst (ts.map V.ref))->ts.length=xs.length->(∀ (j:Nat)(T:Addr)(x y:V),ts[j]?=some T->xs[j]?=some x->ys[j]?=some y->H2 T=none/\H3 T=some (.tup [x,y]))->Q (.ref l) H3
def zap_n(n a1 a2:Nat)(h1:a1<n)(h2:a2<n):ZipApart (n+4) (n+2) (n+3) n (n+1) a1 a2:=by
 constructor <;> (show @Ne Nat _ _) <;> lia
def ne5(n b S:Nat)(h:b<n)(e:S=n+5): ¬b=S/\¬b=n+4/\¬b=n+3/\¬b=n/\¬b=n+1:=by lia
abbrev rfA:ba6->Addr
 | .ref T=>T
 | _=>0
section
variable{X:Cx}
def kn1{a b:Expr}{ta:TA}{p1 p2 pos pos2:Pos}(hg:Gl X "zip")(hm:X.mg "zip"=none)(hg2:Gl X "list")(hm2:X.mg "list"=none)(hc:X.calm=true)(ha:PA X [a,b] ta)(hs:autoParam (bc5 [a,b] X.env=[(false,eval a X.env),(false,eval b X.env)]) Z4)(hs2:autoParam (bc5 [b] X.env=[(false,eval b X.env)]) Z4)
 (hz:autoParam (bc5 [.Call (.Name "zip" p2) [a,b] [] pos2] X.env=[(false,eval (.Call (.Name "zip" p2) [a,b] [] pos2) X.env)]) Z4):
 PE X (.Call (.Name "list" p1) [.Call (.Name "zip" p2) [a,b] [] pos2] [] pos) (tLZ ta):=by
 intro pI s σ H Q I h;refine bo7 (kdi I hg2 hm2 boot_list ?_);refine bh4 ?_ (by rw[hz];rfl) rfl;rw[hz];refine b47 ?_;refine bo7 (kdi I hg hm boot_zip ?_);refine bh4 (thn (ha pos2 pI s σ H _ I h) fun us s1 ⟨vs,H1,I1,r1,q1⟩=>?_) (by rw[hs,hs2]) (by rw[hs2];rfl);obtain⟨a1,a2,xs,ys,e,g1,g2,hl,q⟩:=q1;subst e;cases r1 with
 | cons ra rr=>
   cases rr with
   | cons rb rr=>
     cases rr;cases ra;cases rb;obtain⟨its1,v1,p1,z1⟩:=I1.list (SqL.of (K:=X.K) g1);obtain⟨its2,v2,p2,z2⟩:=I1.list (SqL.of (K:=X.K) g2);refine call_zip_2 p1.isList p2.isList fun h' b1 b2 b3 b4 b5 sz kp=>?_;refine b69 ?_;have l1:a1<s1.heap.objs.size:=(by obtain⟨o,ho,_⟩:=p1.isList;exact bd0 ho)
     have l2:a2<s1.heap.objs.size:=(by obtain⟨o,ho,_⟩:=p2.isList;exact bd0 ho)
     have D:ZipApart (s1.heap.objs.size+4) (s1.heap.objs.size+2) (s1.heap.objs.size+3) s1.heap.objs.size (s1.heap.objs.size+1) a1 a2:=zap_n _ _ _ l1 l2;have L1:=v1.length;have L2':=v2.length;refine ku2 (s:={s1 with heap:=h'}) (xs:=its1.toArray) (ys:=its2.toArray) (n:=its1.length) (a:= .none) (b:= .none) (I1.ok.hd hc) D (by simp) (by rw[bd6];lia) (by lia) b1 b3 b2 b4 b5 (p1.isList.at fun o e=>kp _ o e) (p2.isList.at fun o e=>kp _ o e) fun h2 acc c k e1 e2 pr=>?_;have S5:({s1 with heap:=h'}:ba7).heap.objs.size=s1.heap.objs.size+5:=sz;generalize({s1 with heap:=h'}:ba7).heap.objs.size=S at*;have keep: ∀b o,s1.heap.get? b=some o->h2.get? b=some o:=fun b o e=>by
      have lt:=bd0 e;refine k b o ?_ (kp b o e);simp only[bc6,bg9,or_false,not_or];exact ne5 _ _ _ lt S5
     have tl:(acc.toList.map rfA).length=its1.length:=(by rw[ba3,bf0];exact e2)
     have at': ∀(j:Nat)(T:Addr),(acc.toList.map rfA)[j]?=some T->∃x y,its1[j]?=some x/\its2[j]?=some y/\IsPair h2 T x y/\S<T/\acc.toList[j]?=some (.ref T):=fun j T hT=>by
      rw[bc8]at hT;obtain⟨v,hv,e⟩:=be2.mp hT;obtain⟨T',x,y,f1,f2,f3,f4,_,f5⟩:=pr j v (by rw[<- bf2];exact hv);subst f1;have e:T'=T:=e;subst e;exact⟨x,y,by simpa using f2,by simpa using f3,f4,f5,hv⟩
     have inT: ∀T,T∈acc.toList.map rfA->S<T:=fun T hT=>by
      obtain⟨j,hj⟩:=bj0.mp hT;obtain⟨_,_,_,_,_,f,_⟩:=at' j T hj;exact f
     have fr: ∀b,s1.heap.objs.size<=b->H1 b=none:=fun b hb=>I1.hok.fresh hb;generalize hts:acc.toList.map rfA=ts at*
     let H3:Hp:=fun b=>if b=S then some (.lst (ts.map V.ref))else if b∈ts then some (.tup [xs.getD (ts.idxOf b) V.non,ys.getD (ts.idxOf b) V.non])else H1 b
     have old: ∀b,b<s1.heap.objs.size->H3 b=H1 b:=fun b hb=>by
      show(if b=S then _ else if b∈ts then _ else H1 b)=H1 b;rw[zN (by lia),zN fun z=>by have:=inT b z;lia]
     have hS:H3 S=some (.lst (ts.map V.ref)):=zP rfl;have tup: ∀(j:Nat)(T:Addr)(x y:V),ts[j]?=some T->xs[j]?=some x->ys[j]?=some y->H3 T=some (.tup [x,y]):=fun j T x y hT hx hy=>by
      have mT:T∈ts:=bd9 hT;have lt:=inT T mT;show(if T=S then _ else if T∈ts then _ else H1 T)=_;rw[zN (bv7 lt),zP mT];have il:ts.idxOf T<ts.length:=bg7.mpr mT;have hi:ts[ts.idxOf T]?=some T:=(by rw[ba4 il,bo9 il])
      obtain⟨x1,y1,f1,f2,f3,_,_⟩:=at' _ T hi;obtain⟨x2,y2,f4,f5,f6,_,_⟩:=at' _ T hT;have ee:=f3.symm.trans f6;injection ee with ee;injection ee with _ _ ee;injection ee with ee;have e3:x1=x2/\y1=y2:=(by simpa using ee)
      obtain⟨xv,hxv,rx⟩:=v1.get hx;obtain⟨yv,hyv,ry⟩:=v2.get hy;have li:ts.idxOf T<xs.length:=(by lia)
      have lj:ts.idxOf T<ys.length:=(by lia)
      obtain⟨xw,hxw,rxw⟩:=v1.get (ba4 li);obtain⟨yw,hyw,ryw⟩:=v2.get (ba4 lj);rw[f1]at hxw;rw[f2]at hyw;rw[f4]at hxv;rw[f5]at hyv;cases hxw;cases hyw;cases hxv;cases hyv;rw[e3.1]at rxw;rw[e3.2]at ryw;rw[bb5,bb5,ba4 li,ba4 lj];show some (HO.tup [xs[ts.idxOf T],ys[ts.idxOf T]])=_;rw[rxw.inj rx,ryw.inj ry]
     have J:Inv X pI σ H3 {s1 with heap:=h2,toks:=s1.toks}:=by
      refine I1.many keep (fun b o e=>?_) (fun b hb n=>by rw[old b hb];exact n) fun b o n e=>?_
      .have lt:b<s1.heap.objs.size:=ci1 fun z=>by rw[fr b z]at e;cases e
       rw[old b lt];exact e
      .by_cases c1:b=S
       .rw[c1,hS]at e;cases e;rw[c1];refine⟨by rw[ba3];lia,acc.toList,c,?_,by rw[bw8];exact e1⟩;have go: ∀(vs:List ba6),(∀ v∈vs,∃T,v=bg0 T)->Vals ((vs.map rfA).map V.ref) vs:=fun vs=>by
         induction vs with
         | nil=>exact fun O=> .nil
         | cons v vs ih=>
           intro hv;obtain⟨T,rfl⟩:=hv v bb8;exact .cons rfl (ih fun u hu=>hv u (bc0 _ hu))
        rw[<- hts];refine go _ fun v hv=>?_;obtain⟨j,hj⟩:=bj0.mp hv;obtain⟨T',_,_,f1,_⟩:=pr j v (by rw[<- bf2];exact hj);exact⟨T',f1⟩
       .by_cases c2:b∈ts
        .obtain⟨j,hj⟩:=bj0.mp c2;obtain⟨x,y,f1,f2,f3,_,_⟩:=at' j b hj;have jl:=(bb3.mp hj).1;have q1:xs[j]?=some xs[j]:=ba4 (by lia);have q2:ys[j]?=some ys[j]:=ba4 (by lia);rw[tup j b _ _ hj q1 q2]at e;cases e;obtain⟨u,hu,ru⟩:=v1.get q1;obtain⟨w,hw,rw'⟩:=v2.get q2;rw[f1]at hu;rw[f2]at hw;cases hu;cases hw;exact⟨⟨⟨_,f3,rfl⟩,(show 2<=sizeLine by decide)⟩,[x,y],.cons ru (.cons rw' .nil),⟨_,f3,rfl,_,rfl⟩⟩
        .have:H3 b=H1 b:=by
          show(if b=S then _ else if b∈ts then _ else H1 b)=H1 b;rw[zN c1,zN c2]
         rw[this,n]at e;cases e
     refine⟨.ref S,H3,J,rfl,q H3 S ts (fun b o e=>?_) (fun b o n e=>?_) (fr S (by lia)) (fun z=>zA (inT S z) (bk7 _)) hS (by lia) fun j T x y hT hx hy=>⟨fr T (by have:=inT T (bd9 hT);lia),tup j T x y hT hx hy⟩⟩
     .have lt:b<s1.heap.objs.size:=ci1 fun z=>by rw[fr b z]at e;cases e
      rw[old b lt];exact e
     .by_cases c1:b=S
      .exact .inl c1
      .by_cases c2:b∈ts
       .exact .inr c2
       .have:H3 b=H1 b:=by
         show(if b=S then _ else if b∈ts then _ else H1 b)=H1 b;rw[zN c1,zN c2]
        rw[this,n]at e;cases e
end
def kwn{K:ba2}{R:Hp}: ∀(ts:List Addr){us ws:List V}{xs ys:List bb0},ts.length=us.length->us.length=ws.length->RpAll K R us xs->RpAll K R ws ys->(∀ (j:Nat)(T:Addr)(x y:V),ts[j]?=some T->us[j]?=some x->ws[j]?=some y->R T=some (.tup [x,y]))->RpAll K R (ts.map V.ref) (kns xs ys)
 | [],us,ws,xs,ys,h1,h2,r1,r2,_=>by
   cases r1 with
   | nil=>exact .nil
   | cons _ _=>cases h1
 | T::ts,us,ws,xs,ys,h1,h2,r1,r2,h=>by
   cases r1 with
   | nil=>cases h1
   | @cons u us x xs q1 r1=>
     cases r2 with
     | nil=>cases h2
     | @cons w ws y ys q2 r2=>
       show RpAll K R (V.ref T::ts.map V.ref) (.tuple [x,y]::kns xs ys);exact .cons (.tup (h 0 T u w rfl rfl rfl) (.cons q1 (.cons q2 .nil))) (kwn ts (bw2 h1) (bw2 h2) r1 r2 fun j T' x' y' a b c=>h (j+1) T' x' y' a b c)
section
variable{He:Hp}{K:ba2}{ι:Type}{Y:ι->Cx}{a b:Expr}{p1 p2 pos pos2:Pos}
abbrev kij(ta tb:De):Dq:=fun env P=>ta env fun x=>tb env fun y=>∃xs ys,x= .list xs/\y= .list ys/\xs.length=ys.length/\P (kns xs ys)
def kn2{ta tb:De}(ha:DE He K Y a ta)(hb:DE He K Y b tb)(hm: ∀i,(Y i).mg "zip"=none)(hm2: ∀i,(Y i).mg "list"=none)(hg:autoParam (∀ i,Gl (Y i) "zip") Z3)(hg2:autoParam (∀ i,Gl (Y i) "list") Z3)(hc:autoParam (∀ i,(Y i).calm=true) Z3)
 (hs:autoParam (∀ i,bc5 [a,b] (Y i).env=[(false,eval a (Y i).env),(false,eval b (Y i).env)]) Z3)(hs2:autoParam (∀ i,bc5 [b] (Y i).env=[(false,eval b (Y i).env)]) Z3)
 (hz:autoParam (∀ i,bc5 [.Call (.Name "zip" p2) [a,b] [] pos2] (Y i).env=[(false,eval (.Call (.Name "zip" p2) [a,b] [] pos2) (Y i).env)]) Z3):
 DO He K Y (.Call (.Name "list" p1) [.Call (.Name "zip" p2) [a,b] [] pos2] [] pos) (kij ta tb):=by
 classical
 obtain⟨te,h1,h2⟩:=ha;obtain⟨te',h3,h4⟩:=hb;refine⟨_,fun i=>kn1 (hg i) (hm i) (hg2 i) (hm2 i) (hc i) (kaq (h1 i) (kaq (h3 i) ka2 (hs2 i)) (by rw[hs i,hs2 i])) (hs i) (hs2 i) (hz i),fun P Q F p k=>h2 _ _ F p fun d v R1 H1 q1 e1 r1=>h4 _ _ (F.next e1) q1 fun d2 v2 R' H' ⟨xs,ys,hx,hy,hl,pl⟩ ex r=>?_⟩;subst hx hy;have r1:=Rp.same ex.rr r1;obtain⟨a1,us,rfl,g1,w1⟩:=r1.lst_inv;obtain⟨a2,ws,rfl,g2,w2⟩:=r.lst_inv;have ul:us.length=ws.length:=by rw[w1.len,w2.len,hl]
 refine⟨a1,a2,us,ws,rfl,ex.rh _ _ g1,ex.rh _ _ g2,ul,fun H3 l ts sm new l0 lt hL tl tup=>?_⟩;have tn: ∀T,T∈ts->H' T=none:=fun T hT=>by
  obtain⟨j,hj⟩:=bj0.mp hT;have jl:=(bb3.mp hj).1;exact(tup j T _ _ hj (ba4 (by lia)) (ba4 (by lia))).1
 let R3:Hp:=fun b=>if b∈ts then H3 b else R' b
 have ri: ∀b,b∈ts->R3 b=H3 b:=fun b hb=>zP hb;have ro: ∀b,b ∉ ts->R3 b=R' b:=fun b hb=>zN hb;have nt: ∀b o,H' b=some o->b ∉ ts:=fun b o e z=>by rw[tn b z]at e;cases e
 have E3:Ext R' H' R3 H3:=by
  refine⟨sm,fun b o e=>?_,fun b o e=>?_,fun b o e n=>?_,fun b o e n=>?_⟩
  .rw[ro b (nt b o (ex.rh b o e))];exact e
  .by_cases c:b∈ts
   .rw[ri b c]at e;exact e
   .rw[ro b c]at e;exact sm b o (ex.rh b o e)
  .rw[ro b (nt b o e)];exact n
  .by_cases c:b∈ts
   .rw[ri b c,e]at n;cases n
   .rw[ro b c]at n;cases q:H' b with
    | none=>
      rcases new b o q e with z|z
      .rw[z,hL]at e;cases e;exact trivial
      .exact zA z c
    | some o'=>
      have:=sm b o' q;rw[e]at this;cases this;exact ex.ls b o q n
 have eA:=e1.trans ex;refine k _ l _ R3 H3 pl (eA.trans E3) (eA.hh.free l0) hL ?_ (kwn ts tl ul (RpAll.same E3.rr w1) (RpAll.same E3.rr w2) fun j T x y a b c=>?_)
 .rw[ro l lt];exact ex.rh.free l0
 .rw[ri T (bd9 a)];exact(tup j T x y a b c).2
end
def kzt(a b:ba6):argsOk "tuple.index" ⟨[a,b],[]⟩:=by
 unfold argsOk;rw[signature?_of (id:="tuple.index") (n:=['x','e','d','n','i']) (o:=['e','l','p','u','t']) (by kernel_rfl) PySem.F.owner_tuple];kernel_rfl
section
variable{prog:bb9}{w:be5}{A:bg1}{E:ba6->ba7->Prop}{s:ba7}
def kmn{F:Nat->Option b15×Unit->Sem (ForInStep (Option b15×Unit))}{m p:Nat}(hp:p<m)
 (h1: ∀(i:Nat)(r:Option b15×Unit)(Q:ForInStep (Option b15×Unit)->ba7->Prop),i<p->Q (.yield (none,())) s->be1 (bf9 prog w) A (F i r) Q E s)
 (h2: ∀(r:Option b15×Unit)(Q:ForInStep (Option b15×Unit)->ba7->Prop),Q (.done (some (.done (.ret (.int (p:Nat) s.toks))),())) {s with toks:=s.toks+1}->be1 (bf9 prog w) A (F p r) Q E s):
 ∀(j i:Nat),i+j=m->i<=p->be1 (bf9 prog w) A (forIn (List.range' i j 1) ((none,()):Option b15×Unit) F) (fun r s'=>r=(some (.done (.ret (.int (p:Nat) s.toks))),())/\s'={s with toks:=s.toks+1}) E s
 | 0,i,e,le=>by lia
 | j+1,i,e,le=>by
   rw[List.range'_succ,bt4];by_cases c:i=p
   .subst c;exact ba0 (h2 _ _ (ba9 ⟨rfl,rfl⟩))
   .refine ba0 (h1 i _ _ (by lia) ?_);exact kmn hp h1 h2 j (i+1) (by lia) (by lia)
def kq3{l:Addr}{o:Obj}{n:Nat}{vs:List ba6}{ns:List Int}{k:Int}{t:Tok}{Q:ba6->ba7->Prop}(ho:s.heap.get? l=some o)(hc:o.cls= .type "tuple")(hd:o.data= .seq vs.toArray n)(hlen:vs.length=ns.length)(at': ∀(i:Nat)(h:i<ns.length),∃tk,vs.toArray[i]?=some (.int ns[i] tk))(hk:k∈ns)
 (h:Q (.int (ns.idxOf k:Nat) s.toks) {s with toks:=s.toks+1}):be1 (bf9 prog w) A (call (.builtin "tuple.index") [.ref l,.int k t]) Q E s:=by
 have il:ns.idxOf k<ns.length:=bg7.mpr hk;refine bg4 b77 ⟨o,ho,hc⟩ PySem.F.entry_tuple_index ?_ (kzt _ _);unfold Builtin.«tuple.index»;refine ba0 (ba9 (a:=(bg0 l,[by2 k t])) ?_);refine ba0 ?_;unfold br9;refine ba0 (bk4 ho hd (ba9 ?_));show be1 _ _ ((pure 0:Sem Nat) >>= _) _ _ _;refine ba0 (ba9 ?_);show be1 _ _ ((pure vs.toArray.size:Sem Nat) >>= _) _ _ _;refine ba0 (ba9 ?_);show be1 _ _ (forIn ([0:min vs.toArray.size vs.toArray.size]:Std.Legacy.Range) _ _ >>= _) _ _ _;refine ba0 ?_;rw[Nat.min_self,Std.Legacy.Range.forIn_eq_forIn_range'];simp only[Std.Legacy.Range.size,co4,cd5,Nat.div_one];refine bs2 (kmn (m:=vs.toArray.size) (p:=ns.idxOf k) (by rw[bd6,hlen];exact il) (fun i r Q hi' q=>?_) (fun r Q q=>?_) _ 0 (by simp) (bf7 _)) (fun r s' ⟨e1,e2⟩=>?_) fun O O e=>e
 .obtain⟨tk,e⟩:=at' i (by lia);simp only[e];refine ba0 (bs1 ?_);rw[show(ns[i]==k)=false from ne_of_lt_idxOf hi' _,zN bb6];exact ba9 q
 .obtain⟨tk,e⟩:=at' _ il;simp only[e];refine ba0 (bs1 ?_);rw[show(ns[ns.idxOf k]==k)=true by simp,zP rfl];exact ba0 (ba0 (wpAny_mkInt (ba9 (ba9 q))))
 .subst e1 e2;exact ba9 ⟨_,rfl,h⟩
end
section
variable{X:Cx}
def kq4(K:ba2)(hK:X.K=K):MtR X "tuple.index" (fun x xs H Q=>∃(p:Addr)(ns:List Int)(k:Int),x= .ref p/\xs=[.int k]/\SqT K H p (ns.map V.int)/\k∈ns/\Q (.int (ns.idxOf k:Nat)) H):=by
 subst hK;intro pI s σ H x xs v us Q I rx rs h;obtain⟨p,ns,k,rfl,rfl,hq,hk,q⟩:=h;cases rx;obtain⟨u,rfl,t,rfl⟩:=Vals.one rs;obtain⟨its,rv,⟨o,ho,hc,n,hd⟩,hz⟩:=I.tuple hq;refine kq3 ho hc hd (by rw[<- rv.length,ba3]) (fun i hi=>?_) hk ⟨.int _,H,I.tok _,⟨_,rfl⟩,q⟩;obtain⟨u,e,tk,rfl⟩:=rv.get (i:=i) (x:= .int ns[i]) (by rw[bc8,ba4 hi];rfl);exact⟨tk,by simpa using e⟩
end
section
variable{He:Hp}{K:ba2}{ι:Type}{Y:ι->Cx}{e a:Expr}
abbrev kk1(t:De)(u:De):De:=fun env P=>t env fun x=>∃ns:List Int,x= .tuple (ns.map ba1)/\u env fun d=>∃k:Int,d= .int k/\k∈ns/\P (.int (ns.idxOf k:Nat))
def kq5{t u:De}{apos cpos:Pos}(ho:DE He K Y a t)(h:DB He K Y e u)(hK:autoParam (∀ i,(Y i).K=K) Z3)
 (hbase:autoParam (∀ j,bm8 a "index" (Y j).env (eval a (Y j).env)=eval a (Y j).env) Z3)
 (hfew:autoParam (∀ j,((backTo cpos (bc5 [e] (Y j).env)).all (fun x=> !x.1)&&(b09 cpos (bt1 [] (Y j).env)).all (fun x=>x.1.isSome)
   &&decide (([e]:List Expr).length+([]:List Keyword).length+(if([]:List Keyword).isEmpty then 0 else 1)<30))=true) Z3)
 (hline:autoParam ((apos.endLine==cpos.line)=true) Z4)(hs:autoParam (∀ j,bc5 [e] (Y j).env=(false,eval e (Y j).env)::bc5 [] (Y j).env) Z3)(hplain:autoParam (∀ j,(backTo cpos (bc5 [] (Y j).env)).any (·.1)=false) Z3):
 DE He K Y (.Call (.Attribute a "index" apos) [e] [] cpos) (kk1 t u):=by
 obtain⟨te,a1,a2⟩:=ho;obtain⟨te',b1,b2⟩:=h;refine⟨_,fun j=>kf0 K (hK j) PySem.F.plainAttrs_tuple b77 PySem.F.type_tuple_index (kq4 K (hK j)) (a1 j) (kaq (b1 j) ka2 (hs j)) (hbase j) (hfew j) hline (hs j) (hplain j),fun P Q F p k=>?_⟩;refine a2 _ _ F p fun l x R1 H1 ⟨ns,hx,q1⟩ e1 r1=>?_;subst hx;obtain⟨p,ys,rfl,h1,h2⟩:=r1.tup_inv;have ey:=RpAll.ints_inv h2;subst ey;have s1:SqT K H1 p (ns.map V.int):= .inl (.inl (e1.rh _ _ h1));refine⟨?_,b2 _ _ (F.next e1) q1 fun d v R2 H2 ⟨m,hd,hm,q2⟩ e2 r2=>?_⟩
 .exact .inr (.inr (.inr (.inr ⟨rfl,_,e1.rh _ _ h1⟩)))
 subst hd;have ev:=r2.int_inv;subst ev;exact⟨p,ns,m,rfl,rfl,.inl (.inl (e2.hh _ _ (e1.rh _ _ h1))),hm,k _ _ R2 H2 q2 (e1.trans e2) (.int _)⟩
end
section
open PySem.W
def kq6:typeLookup (.type "list_reverseiterator") "__len__"=pure none:=by rw[bw1,bq1];kernel_rfl
def ku3:typeLookup (.type "list_reverseiterator") "__length_hint__"=pure (some (.builtin "list_reverseiterator.__length_hint__")):=by rw[bw1,bq1];kernel_rfl
section
variable{prog:bb9}{w:be5}{A:bg1}{E:ba6->ba7->Prop}{s:ba7}{r l S:Addr}{xs:Array ba6}
def ku4{Q:Bool->ba7->Prop}(hT:s.TypeIs (.ref r) "list_reverseiterator")(h:Q false s):be1 (bf9 prog w) A (bm3 (.ref r)) Q E s:=by
 unfold bm3;refine ba0 (bm0 hT kq6 ?_)
 wp_delta
 refine bq2 (fun hab=>zA hab (by decide +kernel)) (fun O=>?_);refine bq2 (fun hab=>zA hab (by decide)) (fun O=>?_);refine ba0 (bm0 hT ku3 ?_);generalize hid:("list_reverseiterator.__length_hint__":String)=id0
 wp_delta
 rw[show splitId id0=some ("list_reverseiterator","__length_hint__")from by subst hid;decide +kernel];subst hid;refine ba0 (bs4 (T:="list_reverseiterator") (b:=true) hT (by rw[b65];kernel_rfl) ?_);refine bq2 (fun hab=>zA hab (by decide)) (fun O=>?_);refine bq2 (fun O=>?_) (fun hab=>zA (by decide +kernel) hab);refine bq2 (fun hab=>zA hab (by decide +kernel)) (fun O=>?_);exact ba9 h
def kzu{R:cg8->ba7->Prop}(hh:A.handled=none)(hS:S≠r/\S≠l)(hrl:l≠r)(hn:xs.size<=sizeLine)(res:ba6)(c:Nat)
 (hr:s.heap.IsRevIter r l ((xs.size:Int)-1))(hl:s.heap.IsList l xs)(hL:s.heap.get? S=some {cls:= .type "list",data:= .seq #[] c})
 (hR: ∀h' tk acc' c',(∀ b o,b ∉ [S,r]->s.heap.get? b=some o->h'.get? b=some o)->h'.get? S=some {cls:= .type "list",dict:=none,data:= .seq acc' c',slots:= #[]}->ItemsOf (fun i v=>xs[xs.size-1-i]?=some v) acc' xs.size->R (.ok (.ret res)) {s with heap:=h',toks:=tk}):
 be1 (bf9 prog w) A.in1 (bi4 (.ref S) (.ref r) res)
  (fun fin s'=>match fin with| .done f=>R (.ok f) s'| .again c'=>c'.quiet=true/\codeAny (bf9 prog w) A c' R s') (fun e s'=>R (.error e) s') s:=by
 unfold bi4;refine ba0 (b11 (T:="list_reverseiterator") hr.typeIs ?_);have e1:bt8 (.ref S) (.ref r)=false:=by simp[bt8,hS.1]
 have e2:(bq4 "list_reverseiterator" ==bq4 "list")=false:=by decide
 have e3:(bq4 "list_reverseiterator" ==bq4 "tuple")=false:=by decide
 simp only[e1,e2,e3,b81,bj1,if_false];refine ba0 (wpAny_pyIter_revIter hr ?_);refine ba0 (bk0 (ku4 hr.typeIs ?_));refine bq2 (fun hab=>zA hab (by decide +kernel)) (fun O=>?_);have W:=Walks.listRev (prog:=prog) (w:=w) (A:=A.in1) hh r l hrl xs;refine ba9 ⟨by6 b66 _,?_⟩;refine codeAny_extend_loopS W.toS hn S (by simp only[bc6,bg9,or_false,not_or];exact hS) res xs.size 0 s #[] c rfl (bf7 _) ⟨bf7 _,by simpa using hr,hl⟩ hL (ItemsOf.nil _) fun s' acc' c' hm hS' hacc=>?_;rw[Moved.eq_with hm];exact hR s'.heap s'.toks acc' c' (fun b o hb e=>hm.heap b o (fun z=>hb (by simpa using z)) e) hS' hacc
end
end
section
open PySem.W PySem.Calls
section
variable{X:Cx}
def kn3(K:ba2)(hK:X.K=K)(hu:X.A.units+40<cLine):kdk X (.builtin "sorted") (fun xs H Q=>∃(p:Addr)(ys:List V)(ps:List (Int×Int))(B:Int),xs=[.ref p]/\SqL K H p ys/\ys.length=ps.length/\
 (∀ (i:Nat)(q:Int×Int),ps[i]?=some q->∃a,ys[i]?=some (.ref a)/\H a=some (.tup [.int q.1,.int q.2]))/\ps.length<64/\(∀ q∈ps,0<=q.2/\q.2<B)/\
 ∀(l:Addr)(π:List Nat),H l=none->π.Perm (ba8 ps.length)->(∀ i j,i<=j->j<π.length->kpw B ps (π.getD i 0)<=kpw B ps (π.getD j 0))->Q (.ref l) (upd H l (.lst (π.map fun i=>ys.getD i V.non)))):=by
 subst hK;intro pI s σ H xs us Q I r h;obtain⟨p,ys,ps,B,rfl,hq,hl,hat,h64,hB,k⟩:=h;obtain⟨u,rfl,r1⟩:=kef r;cases(show u=bg0 p from r1);obtain⟨its,rv,⟨op,n0,hop,hc,_,hd⟩,hz⟩:=I.list hq;have hL:s.heap.IsList p its.toArray:=⟨op,hop,hc,n0,hd⟩
 have hil:its.length=ps.length:=by rw[<- rv.length,hl]
 have hf:H (s.heap.objs.size+1)=none:=I.hok.fresh (bu2 _);have fin: ∀π:List Nat,π.Perm (ba8 ps.length)->(∀ i j,i<=j->j<π.length->kpw B ps (π.getD i 0)<=kpw B ps (π.getD j 0))->∃v H',Inv X pI σ H' {s with heap:=sortedAll s.heap its (π.map fun i=>its.getD i bd8).toArray}/\RelV v (.ref (s.heap.objs.size+1))/\Q v H':=fun π hp ho=>by
  obtain⟨e,at_⟩:=cg7 s.heap its (π.map fun i=>its.getD i bd8).toArray;have pin: ∀i∈π,i<ys.length:=fun i hi=>by rw[hl];exact bb2.mp (hp.mem_iff.mp hi)
  refine⟨.ref (s.heap.objs.size+1),upd H (s.heap.objs.size+1) (.lst (π.map fun i=>ys.getD i V.non)),?_,rfl,k _ _ hf hp ho⟩;exact I.laid (t':=s.toks) (fun b o e=>cd6 e) (bu2 _) ⟨by rw[ba3,hp.length_eq,be8,<- hl];exact hz,π.map fun i=>its.getD i bd8,e,kh4 rv π pin,at_⟩
 by_cases h2:its.length<2
 .refine kf1 hL h2 ?_;have:=fin (ba8 ps.length) (bo6 _) fun i j hij hj=>by
   rw[be8]at hj;have:i=j:=(by lia)
   rw[this];exact b01 _
  rw[show(ba8 ps.length).map (fun i=>its.getD i bd8)=its by rw[<- hil];exact kb5 its bd8]at this;exact this
 have h2:2<=its.length:=by lia
 have tup0: ∀(i:Nat),i<its.length->∃a o n t1 t2,its.getD i bd8= .ref a/\s.heap.get? a=some o/\o.cls= .type "tuple"/\o.data= .seq #[.int (ps.getD i (0,0)).1 t1,.int (ps.getD i (0,0)).2 t2] n:=fun i hi=>by
  have e1:ps[i]?=some ps[i]:=ba4 (by lia);obtain⟨a,ha,hH⟩:=hat i _ e1;obtain⟨u,e2,r2⟩:=rv.get ha;cases(show u=bg0 a from r2);obtain⟨_,ts,rt,ot,ho,ct,nt,dt⟩:=(show ObjOk X.prog X.w H s.heap a (.tup [.int ps[i].1,.int ps[i].2])from I.hok a _ hH)
  obtain⟨u1,u2,rfl,q1,q2⟩:=k1y rt;obtain⟨t1,rfl⟩:=(show ∃t,u1=by2 ps[i].1 t from q1)
  obtain⟨t2,rfl⟩:=(show ∃t,u2=by2 ps[i].2 t from q2)
  have ep:ps.getD i (0,0)=ps[i]:=by simp[show i<ps.length by lia]
  refine⟨a,ot,nt,t1,t2,?_,ho,ct,?_⟩
  .rw[bb5,e2];rfl
  .rw[ep];exact dt
 have same: ∀i j,i<its.length->j<its.length->its.getD i bd8=its.getD j bd8->ps.getD i (0,0)=ps.getD j (0,0):=fun i j hi hj e=>by
  obtain⟨a,o,n,t1,t2,e1,a1,_,a3⟩:=tup0 i hi;obtain⟨a',o',n',t1',t2',e1',a1',_,a3'⟩:=tup0 j hj;rw[e1,e1']at e;cases e;rw[a1]at a1';cases a1';rw[a3]at a3';injection a3' with a3';have:=zC ca4 a3';injection this with b1 b2;injection b2 with b2 b3;injection b1 with b1;injection b2 with b2;exact by4 b1 b2
 obtain⟨key,hkey⟩: ∃key:bi6->Int,∀i,i<its.length->∀v,key (its.getD i bd8,v)=kpw B ps i:=by
  classical
  refine⟨fun kd=>if hh: ∃i,i<its.length/\its.getD i bd8=kd.1 then kpw B ps hh.choose else 0,fun i hi v=>?_⟩;have hh: ∃j,j<its.length/\its.getD j bd8=its.getD i bd8:=⟨i,hi,rfl⟩
  show(if hh: ∃j,j<its.length/\its.getD j bd8=its.getD i bd8 then kpw B ps hh.choose else 0)=_;rw[dif_pos hh];unfold kpw;rw[same _ _ hh.choose_spec.1 hi hh.choose_spec.2]
 refine khm (κ:=tuples' true) (key:=key) (ok:=fun kd=>∃i,i<its.length/\kd=(its.getD i bd8,its.getD i bd8)) hL h2 (by lia) (by rw[<- rv.length];exact hz) (fun A' E' h' keep hA=>⟨fun R hR=>?_,fun x y st R ⟨i,hi,ex⟩ ⟨j,hj,ey⟩ hk hR=>?_⟩) (fun v hv=>?_) fun out ho=>?_
 .have tups: ∀(l:List ba6),(∀ v∈l,∃a o n t1 t2 x y,v= .ref a/\h'.get? a=some o/\o.cls= .type "tuple"/\o.data= .seq #[.int x t1,.int y t2] n)->∃fs,fs.length=l.length/\KatTups h' l fs/\∀f∈fs,∃x t,f=by2 x t:=fun l=>by
   induction l with
   | nil=>exact fun O=>⟨[],rfl,cp3,fun O z=>nomatch z⟩
   | cons v l ih=>
     intro hv;obtain⟨fs,f1,f2,f3⟩:=ih fun v hm=>hv v (bc0 _ hm);obtain⟨a,o,n,t1,t2,x,y,rfl,a1,a2,a3⟩:=hv v bb8;exact⟨.int x t1::fs,by rw[bg5,bg5,f1],co3 a1 a2 a3 rfl f2,fun f hf=>(bc6.mp hf).elim (fun z=>⟨x,t1,z⟩) (f3 f)⟩
  obtain⟨fs,f1,f2,f3⟩:=tups its fun v hv=>by
   obtain⟨i,hi,e⟩:=bf3 hv;obtain⟨a,o,n,t1,t2,e1,a1,a2,a3⟩:=tup0 i hi;have e2:its.getD i bd8=v:=(by simp[hi,e])
   exact⟨a,o,n,t1,t2,_,_,e2▸e1,keep a o a1,a2,a3⟩
  refine kat_kind (T:= .type "int") f2 (by lia) (fun v hv=>?_) (by decide) ?_
  .obtain⟨x,t,rfl⟩:=f3 v hv;exact cm8 rfl
  rw[show(bq4 "int" != bq4 "tuple")=true by decide];exact hR
 .subst ex ey;rw[<- kyx,lt'_eq];obtain⟨a,o,n,t1,t2,e1,a1,_,a3⟩:=tup0 i hi;obtain⟨a',o',n',t1',t2',e1',a1',_,a3'⟩:=tup0 j hj;refine bk6 (cf5 (bk6 (wpS_lift (bu3 ?_))));rw[hk];dsimp only;rw[e1,e1'];refine kyu (keep _ _ a1) a3 (keep _ _ a1') a3' (by lia) ⟨rfl,bp0 ?_⟩;have bi:=hB (ps.getD i (0,0)) (by rw[bb5,ba4 (by lia)];exact bf1 _);have bj:=hB (ps.getD j (0,0)) (by rw[bb5,ba4 (by lia)];exact bf1 _);rw[hkey i hi,hkey j hj]at hR;rw[show decide ((ps.getD i (0,0)).1<(ps.getD j (0,0)).1\/(ps.getD i (0,0)).1=(ps.getD j (0,0)).1/\(ps.getD i (0,0)).2<(ps.getD j (0,0)).2)=decide (kpw B ps i<kpw B ps j)from decide_eq_decide.mpr (kyv bi.1 bi.2 bj.1 bj.2)];exact hR
 .obtain⟨i,hi,e⟩:=bf3 hv;exact⟨i,hi,by rw[show its.getD i bd8=v by simp[hi,e]]⟩
 .obtain⟨l,lp,lu,rfl⟩:=ho;obtain⟨π,hp,rfl⟩:=kh8 (f:=fun i=>(its.getD i bd8,its.getD i bd8)) lp (ba8 its.length) (by
   conv=>lhs;rw[<- kb5 its bd8]
   rw[bc1];rfl)
  have pin: ∀i∈π,i<its.length:=fun i hi=>bb2.mp (hp.mem_iff.mp hi);have:=fin π (by rw[<- hil];exact hp) fun i j hij hj=>by
   rw[show π.getD i 0=π[i]'(by lia) by simp[show i<π.length by lia],show π.getD j 0=π[j] by simp[hj]];rcases bp1 hij with q|q
   .have z:=be0.mp lu i j (by rw[ba3];lia) (by rw[ba3];exact hj) q;rw[bq9,bq9,hkey _ (pin _ (bf1 _)),hkey _ (pin _ (bf1 _))]at z;exact z
   .subst q;exact b01 _
  rw[bc1];exact this
end
end
section
variable{He:Hp}{K:ba2}{ι:Type}{Y:ι->Cx}{e:Expr}{pos p:Pos}
abbrev kq7(t:Dq):Dq:=fun env P=>t env fun xs=>∃(ps:List (Int×Int))(B:Int),xs=ps.map pr2/\ps.length<64/\(∀ q∈ps,0<=q.2/\q.2<B)/\∀qs:List (Int×Int),qs.Perm ps->qs.Pairwise (fun x y=>x.1*B+x.2<=y.1*B+y.2)->P (qs.map pr2)
def kmo{t:Dq}(h:DL He K Y e t)(hm: ∀i,(Y i).mg "sorted"=none)(hu: ∀i,(Y i).A.units+40<cLine)(hg:autoParam (∀ i,Gl (Y i) "sorted") Z3)(hK:autoParam (∀ i,(Y i).K=K) Z3)(hs:autoParam (∀ i,bc5 [e] (Y i).env=[(false,eval e (Y i).env)]) Z3):
 DO He K Y (.Call (.Name "sorted" p) [e] [] pos) (kq7 t):=by
 obtain⟨te,h1,h2⟩:=h;refine⟨_,fun i=>kcw (kn3 K (hK i) (hu i)) (hg i) (hm i) ke5 (kaq (h1 i) ka2 (hs i)) (by decide) (by decide) (hs i) rfl,fun P Q F p k=>h2 _ _ F p fun ds a ys R1 H1 pd e1 ha r1=>?_⟩;obtain⟨ps,B,rfl,h64,hB,kk⟩:=pd;have hl:ys.length=ps.length:=by rw[r1.len,ba3]
 refine⟨a,ys,ps,B,rfl,SqL.of ha,hl,fun i q hq=>?_,h64,hB,fun l π hn hp hs=>?_⟩
 .obtain⟨v,hv,rv⟩:=r1.get' (i:=i) (d:=pr2 q) (by rw[bc8,hq];rfl);obtain⟨b,zs,rfl,hb,rz⟩:=rv.tup_inv;cases rz with
  | cons z1 rz=>
    cases rz with
    | cons z2 rz=>
      cases rz;rw[z1.int_inv,z2.int_inv]at hb;exact⟨b,hv,e1.rh _ _ hb⟩
 .have pin: ∀i∈π,i<ps.length:=fun i hi=>bb2.mp (hp.mem_iff.mp hi);have er:(π.map fun i=>(ps.map pr2).getD i bs9)=(π.map fun i=>ps.getD i (0,0)).map pr2:=by
   rw[bc1];refine bh9 fun i hi=>?_;have:=pin i hi;simp[this]
  have ra:=kyw r1 π fun i hi=>by rw[hl];exact pin i hi
  rw[er]at ra;have hp2:(π.map fun i=>ps.getD i (0,0)).Perm ps:=by
   have:=hp.map fun i=>ps.getD i (0,0)
   rwa [kb5]at this
  have hpw:(π.map fun i=>ps.getD i (0,0)).Pairwise (fun x y=>x.1*B+x.2<=y.1*B+y.2):=by
   rw[be0];intro i j hi hj hij;rw[ba3]at hi hj;have z:=hs i j (by lia) hj;unfold kpw at z;simp only[bq9];rw[show π.getD i 0=π[i] by simp[hi],show π.getD j 0=π[j] by simp[hj]]at z;exact z
  exact k _ l _ R1 _ (kk _ hp2 hpw) (e1.trans (Ext.newO e1.wd hn trivial)) (e1.hh.free hn) kak (e1.wd.rh.free hn) ra
end
section
open PySem.W
section
variable{prog:bb9}{w:be5}{A:bg1}{E:ba6->ba7->Prop}{s:ba7}{r l S:Addr}{xs:Array ba6}
def ku5{R:cg8->ba7->Prop}(hh:A.handled=none)(hS:S≠r/\S≠l)(hrl:l≠r)(hn:xs.size<=sizeLine)(c:Nat)
 (hr:s.heap.IsRevIter r l ((xs.size:Int)-1))(hl:s.heap.IsList l xs)(hL:s.heap.get? S=some {cls:= .type "list",data:= .seq #[] c})
 (hR: ∀h' tk acc' c',(∀ b o,b ∉ [S,r]->s.heap.get? b=some o->h'.get? b=some o)->h'.get? S=some {cls:= .type "list",dict:=none,data:= .seq acc' c',slots:= #[]}->ItemsOf (fun i v=>xs[xs.size-1-i]?=some v) acc' xs.size->R (.ok (.ret .none)) {s with heap:=h',toks:=tk}):
 be1 (bf9 prog w) A.in1 (Builtin.«list.__init__» ⟨[.ref S,.ref r],[]⟩)
  (fun fin s'=>match fin with| .done f=>R (.ok f) s'| .again c'=>c'.quiet=true/\codeAny (bf9 prog w) A c' R s') (fun e s'=>R (.error e) s') s:=by
 change be1 _ _ (do let old <- bv2 (.ref S);b92 (.ref S) (fun O=> #[]);letGo old.toList.reverse;bi4 (.ref S) (.ref r) .none) _ _ s
 refine ba0 ?_;unfold bv2;refine ba0 (bk4 hL rfl (ba9 ?_))
 change be1 _ _ (updateSeq S (fun O=> #[]) >>= fun O=>letGo (#[]:Array ba6).toList.reverse >>= fun O=>bi4 (.ref S) (.ref r) .none) _ _ s
 refine ba0 (bz0 hL rfl ?_);have g2:=bm1 (bj9 (fun O=>(#[]:Array ba6))) hL rfl;have oth: ∀b o,b≠S->s.heap.get? b=some o->(s.heap.update S (bj9 (fun O=>(#[]:Array ba6)))).get? b=some o:=fun b o hb e=>(bn5 _ _ (bv6 hb)).trans e;refine ba0 (b35 ?_);exact kzu hh hS hrl hn .none _ (hr.at fun o e=>oth _ _ hS.1.symm e) (hl.at fun o e=>oth _ _ hS.2.symm e) g2 fun h' tk acc' c' k e1 e2=>hR h' tk acc' c' (fun b o hb e=>k b o hb (oth b o (fun z=>hb (by rw[z];exact bb8)) e)) e1 e2
def ku6{Q:ba6->ba7->Prop}(hh:A.handled=none)(hrl:l≠r)(hn:xs.size<=sizeLine)(hr:s.heap.IsRevIter r l ((xs.size:Int)-1))(hl:s.heap.IsList l xs)
 (hQ: ∀h' tk acc' c',(∀ b o,b ∉ [s.heap.objs.size,r]->s.heap.get? b=some o->h'.get? b=some o)->h'.get? s.heap.objs.size=some {cls:= .type "list",dict:=none,data:= .seq acc' c',slots:= #[]}->ItemsOf (fun i v=>xs[xs.size-1-i]?=some v) acc' xs.size->Q (.ref s.heap.objs.size) {s with heap:=h',toks:=tk}):
 be1 (bf9 prog w) A (call (.type "list") [.ref r]) Q E s:=by
 refine callType_codes (Q₁:=fun obj s₁=>obj= .ref s.heap.objs.size/\s₁={s with heap:=s.heap.push {cls:= .type "list",data:= .seq #[]}}) cc7 (b93 _) b94 (code_list_new _ ⟨rfl,rfl⟩) fun obj s₁ g₁=>?_;obtain⟨rfl,rfl⟩:=g₁;have hL:(s.heap.push {cls:= .type "list",data:= .seq #[]}).get? s.heap.objs.size=some {cls:= .type "list",data:= .seq #[]}:=bc7 _ rfl;have up: ∀b o,s.heap.get? b=some o->(s.heap.push {cls:= .type "list",data:= .seq #[]}).get? b=some o:=fun b o e=>ba5 _ e;have ne: ∀{b:Addr}{o:Obj},s.heap.get? b=some o->s.heap.objs.size≠b:=fun e z=>zA (bd0 e) (by rw[<- z];exact bk7 _);obtain⟨o1,e1,_⟩:=id hr;obtain⟨o2,e2,_⟩:=id hl;exact⟨⟨_,hL,rfl⟩,b76 _ _,ku5 (A:=A.in1) hh ⟨ne e1,ne e2⟩ hrl hn 0 (hr.at fun o e=>up _ o e) (hl.at fun o e=>up _ o e) hL fun h' tk acc' c' k g1 g2=>⟨rfl,hQ h' tk acc' c' (fun b o hb e=>k b o hb (up b o e)) g1 g2⟩⟩
end
abbrev tLR(K:ba2)(ta:TA):TE:=fun σ H Q=>ta σ H fun vs H2=>∃a xs,vs=[.ref a]/\SqL K H2 a xs/\∀l,H2 l=none->Q (.ref l) (upd H2 l (.lst xs.reverse))
def ku7:bootBuiltins "reversed"=some (.type "reversed"):=by decide +kernel
def ku8{vs:List V}{us:List ba6}(h:Vals vs us):Vals vs.reverse us.reverse:=by
 induction h with
 | nil=>exact .nil
 | cons r _ ih=>rw[b03,b03];exact ih.append (.cons r .nil)
section
variable{X:Cx}
def kn4{e:Expr}{ta:TA}{p1 p2 pos pos2:Pos}(K:ba2)(hK:X.K=K)(hg:Gl X "reversed")(hm:X.mg "reversed"=none)(hg2:Gl X "list")(hm2:X.mg "list"=none)(hc:X.calm=true)(he:PA X [e] ta)(hs:autoParam (bc5 [e] X.env=[(false,eval e X.env)]) Z4)
 (hz:autoParam (bc5 [.Call (.Name "reversed" p2) [e] [] pos2] X.env=[(false,eval (.Call (.Name "reversed" p2) [e] [] pos2) X.env)]) Z4):
 PE X (.Call (.Name "list" p1) [.Call (.Name "reversed" p2) [e] [] pos2] [] pos) (tLR K ta):=by
 subst hK;intro pI s σ H Q I h;refine bo7 (kdi I hg2 hm2 boot_list ?_);refine bh4 ?_ (by rw[hz];rfl) rfl;rw[hz];refine b47 ?_;refine bo7 (kdi I hg hm ku7 ?_);refine bh4 (thn (he pos2 pI s σ H _ I h) fun us s1 ⟨vs,H1,I1,r1,q1⟩=>?_) (by rw[hs];rfl) rfl;obtain⟨a,xs,e,hq,q⟩:=q1;subst e;obtain⟨u,rfl,ru⟩:=kef r1;cases(show u=bg0 a from ru);obtain⟨its,rv,pl,hz2⟩:=I1.list hq;have hl:=pl.isList;have lt:a<s1.heap.objs.size:=by obtain⟨o,ho,_⟩:=hl;exact bd0 ho
 have L1:=rv.length;refine call_reversed_list hl ?_;refine b69 ?_;have sz:(s1.heap.push (revObj a ((its.toArray.size:Int)-1))).objs.size=s1.heap.objs.size+1:=bn7 ..;refine ku6 (s:={s1 with heap:=s1.heap.push (revObj a ((its.toArray.size:Int)-1))}) (xs:=its.toArray) (I1.ok.hd hc) (bf5 lt) (by rw[bd6];lia) ⟨_,bc7 _ rfl,rfl,rfl⟩ (hl.at fun o e=>ba5 _ e) fun h2 tk acc c k e1 e2=>?_;have S5:({s1 with heap:=s1.heap.push (revObj a ((its.toArray.size:Int)-1))}:ba7).heap.objs.size=s1.heap.objs.size+1:=sz;generalize({s1 with heap:=s1.heap.push (revObj a ((its.toArray.size:Int)-1))}:ba7).heap.objs.size=S at*;have keep: ∀b o,s1.heap.get? b=some o->h2.get? b=some o:=fun b o e=>by
  have lt:=bd0 e;refine k b o ?_ (ba5 _ e);simp only[bc6,bg9,or_false,not_or];exact⟨bf5 (by rw[S5];exact bl0 lt),bf5 lt⟩
 have le:s1.heap.objs.size<=S:=by rw[S5];exact bu2 _
 have ea:acc.toList=its.reverse:=by
  apply bt5;intro j;obtain⟨f1,f2⟩:=e2;by_cases hj:j<its.length
  .have hja:j<acc.size:=(by rw[f1,bd6];exact hj)
   have:=f2 j acc[j] (bh2 hja);rw[bf2,bh2 hja,b17 hj];simpa using this.symm
  .rw[bq0 (by rw[bf0,f1,bd6];lia),bq0 (by rw[bj5];lia)]
 refine⟨.ref S,_,I1.laid (o:= .lst xs.reverse) (t':=tk) keep le ⟨by rw[bj5];lia,acc.toList,c,by rw[ea];exact ku8 rv,by rw[bw8];exact e1⟩,rfl,q S (I1.hok.fresh le)⟩
end
section
variable{He:Hp}{K:ba2}{ι:Type}{Y:ι->Cx}{e:Expr}{p1 p2 pos pos2:Pos}
abbrev xRev(t:Dq):Dq:=fun env P=>t env fun xs=>P xs.reverse
def kwo{R:Hp}: ∀{ys:List V}{ds:List bb0},RpAll K R ys ds->RpAll K R ys.reverse ds.reverse
 | _,_,.nil=> .nil
 | _,_,.cons r h=>by rw[b03,b03];exact RpAll.append (kwo h) (.one r)
def kn5{t:Dq}(h:DL He K Y e t)(hm: ∀i,(Y i).mg "reversed"=none)(hm2: ∀i,(Y i).mg "list"=none)(hg:autoParam (∀ i,Gl (Y i) "reversed") Z3)(hg2:autoParam (∀ i,Gl (Y i) "list") Z3)(hc:autoParam (∀ i,(Y i).calm=true) Z3)(hK:autoParam (∀ i,(Y i).K=K) Z3)
 (hs:autoParam (∀ i,bc5 [e] (Y i).env=[(false,eval e (Y i).env)]) Z3)
 (hz:autoParam (∀ i,bc5 [.Call (.Name "reversed" p2) [e] [] pos2] (Y i).env=[(false,eval (.Call (.Name "reversed" p2) [e] [] pos2) (Y i).env)]) Z3):
 DO He K Y (.Call (.Name "list" p1) [.Call (.Name "reversed" p2) [e] [] pos2] [] pos) (xRev t):=by
 obtain⟨te,h1,h2⟩:=h;refine⟨_,fun i=>kn4 K (hK i) (hg i) (hm i) (hg2 i) (hm2 i) (hc i) (kaq (h1 i) ka2 (by rw[hs i];rfl)) (hs i) (hz i),fun P Q F p k=>h2 _ _ F p fun ds a ys R1 H1 pd e1 ha r1=>?_⟩;refine⟨a,ys,rfl,SqL.of ha,fun l hn=>?_⟩;exact k _ l _ R1 _ pd (e1.trans (Ext.newO e1.wd hn trivial)) (e1.hh.free hn) kak (e1.wd.rh.free hn) (kwo r1)
end
end
section
variable{He:Hp}{K:ba2}{H0 R H:Hp}{σ:St}{env:List Dt}
def Fra.otAt{i:Nat}{xs:List bb0}{xss:List (List bb0)}(F:Fra He K H0 R H σ env)(h:env[i]?=some (.ot xs xss)): ∃a ys zs,σ[i]?=some (some (.ref a))/\R a=some (.tup (ys++zs))/\H a=some (.tup (ys++zs))/\RpAll K R ys xs/\OwnR K H0 R H zs xss/\zs.Nodup:=by
 obtain⟨v,hs,a,ys,zs,rfl,h2⟩:=F.get h (by intro z;cases z);exact⟨a,ys,zs,hs,h2⟩
def Fra.frzOT{i:Nat}{xs:List bb0}{xss:List (List bb0)}(F:Fra He K H0 R H σ env)(h:env[i]?=some (.ot xs xss)): ∃R' zs,Same R R'/\OwnR K H0 R H zs xss/\(∀ b,V.ref b ∉ zs->R' b=R b)/\Fra He K H0 R' H σ (env.set i (.d (.tuple (xs++xss.map bv8)))):=by
 classical
 obtain⟨a,ys,zs,h1,h2,h3,h4,h5,h6⟩:=F.otAt h;have hj:(σ[i]?).join=some (.ref a):=by rw[h1];rfl
 have e1: ∀b,V.ref b∈zs->(fun b=>if V.ref b∈zs then H b else R b) b=H b:=fun b s=>zP s;have e2: ∀b,V.ref b ∉ zs->(fun b=>if V.ref b∈zs then H b else R b) b=R b:=fun b s=>zN s;generalize(fun b=>if V.ref b∈zs then H b else R b)=R' at e1 e2;have sm:Same R R':=fun b o e=>by
  by_cases m:V.ref b∈zs
  .obtain⟨_,_,z,_⟩:=h5.mem m;rw[e]at z;cases z
  .rw[e2 b m];exact e
 refine⟨R',zs,sm,h5,e2,F.give h sm (fun b o e=>?_) (by rw[hj];exact .tup (sm _ _ h2) (RpAll.append (RpAll.same sm h4) (h5.rp sm fun b zs m z=>by rw[e1 b m];exact z))) fun b z=>by cases z⟩;by_cases m:V.ref b∈zs
 .rw[e1 b m]at e;exact .inr ⟨by rw[hj];exact⟨a,_,rfl,h3,by rw[klu h4];exact m⟩,e⟩
 .rw[e2 b m]at e;exact .inl e
set_option tactic.hygienic true in
def Ext.backS{R H R' R1 H1:Hp}(S:Addr->Prop)(hS: ∀b,S b->R b=none/\∃ys,H b=some (.lst ys))(hR: ∀b,¬S b->R' b=R b)(ex:Ext R' H R1 H1): ∃R2,Ext R H R2 H1:=by
 classical
 refine⟨fun b=>if S b then none else R1 b,ex.hh,fun b o z=>?_,fun b o z=>?_,fun b o z n=>?_,fun b o z n=>?_⟩
 .have hb: ¬S b:=fun s=>by rw[(hS b s).1]at z;cases z
  show(if S b then none else R1 b)=some o;rw[zN hb];exact ex.rr b o (by rw[hR b hb];exact z)
 .have z:(if S b then none else R1 b)=some o:=z;split at z
  .cases z
  .exact ex.rh b o z
 .show(if S b then none else R1 b)=none;split
  .rfl
  .rename_i hb;exact ex.nn b o z (by rw[hR b hb];exact n)
 .have n:(if S b then none else R1 b)=none:=n;split at n
  .rename_i hb;obtain⟨_,ys,q⟩:=hS b hb;rw[ex.hh b _ q]at z;cases z;trivial
  .exact ex.ls b o z n
end
section
variable{He:Hp}{K:ba2}{ι:Type}{Y:ι->Cx}{e:Expr}{es:List Expr}{pos:Pos}
abbrev kq8(i:Nat)(t:Db):Db:=fun env P=>∃xs xss,env[i]?=some (.ot xs xss)/\t (env.set i (.d (.tuple (xs++xss.map bv8)))) P
def DT.lend(i:Nat){t:Db}(h:DT He K Y e t):DT He K Y e (kq8 i t):=by
 obtain⟨te,h1,h2⟩:=h;refine⟨te,h1,fun P Q F p k=>?_⟩;obtain⟨xs,xss,ex,p⟩:=p;obtain⟨R',zs,sm,h5,e2,F'⟩:=F.frzOT ex;refine h2 P Q F' p fun b R1 H1 pb e=>?_;obtain⟨R2,e3⟩:=Ext.backS (fun b=>V.ref b∈zs) (fun b m=>by obtain⟨ys,a,b,_⟩:=h5.mem m;exact⟨b,ys,a⟩) e2 e;exact k b R2 H1 pb e3
abbrev kq9(i:Nat)(t:Ds):Ds:=fun D env=>∃xs xss,env[i]?=some (.ot xs xss)/\t D (env.set i (.d (.tuple (xs++xss.map bv8))))
def DSs.frzOT{sts:List Stmt}{t:Ds}(i:Nat)(h:DSs He K Y sts t):DSs He K Y sts (kq9 i t):=by
 obtain⟨a,a1,a2⟩:=h;refine⟨a,a1,fun D E F s c ⟨xs,xss,e,p⟩=>?_⟩;obtain⟨R',zs,sm,_,_,F'⟩:=F.frzOT e;exact a2 D E F' (s.trans sm) c p
@[reducible]def Du:=List Dt->(List bb0->List (List bb0)->Prop)->Prop
abbrev DU(He:Hp)(K:ba2){ι:Type}(Y:ι->Cx)(es:List Expr)(t:Du):Prop:=∃te:TA,(∀ i,PA (Y i) es te)/\∀{H0 R H:Hp}{σ:St}{env:List Dt}(P:List bb0->List (List bb0)->Prop)(Q:List V->Hp->Prop),Fra He K H0 R H σ env->t env P->
 (∀ ds xss ys zs R' H',P ds xss->Ext R H R' H'->RpAll K R' ys ds->OwnR K H0 R' H' zs xss->zs.Nodup->Q (ys++zs) H')->te σ H Q
abbrev xU2(i j:Nat):Du:=fun env P=>∃xs ys,env[i]?=some (.o xs)/\env[j]?=some (.o ys)/\i≠j/\P [] [xs,ys]
def kwp(i j:Nat){x y:Str}{p2 p3:Pos}(hv:autoParam (∀ j,PE (Y j) (.Name x p2) (kg9 i)) Z8)(hw:autoParam (∀ m,PE (Y m) (.Name y p3) (kg9 j)) Z8)
 (hs:autoParam (∀ i,bc5 [.Name x p2,.Name y p3] (Y i).env=(false,eval (.Name x p2) (Y i).env)::bc5 [.Name y p3] (Y i).env) Z3)(hs2:autoParam (∀ i,bc5 [.Name y p3] (Y i).env=(false,eval (.Name y p3) (Y i).env)::bc5 [] (Y i).env) Z3):DU He K Y [.Name x p2,.Name y p3] (xU2 i j):=by
 refine⟨_,fun m=>kaq (hv m) (kaq (hw m) ka2 (hs2 m)) (hs m),fun P Q F p k=>?_⟩;obtain⟨xs,ys,ex,ey,ne,p⟩:=p;obtain⟨a,zs,h1,h2,h3,h4,h5⟩:=F.lstAt ex;obtain⟨b,ws,k1,k2,k3,k4,k5⟩:=F.lstAt ey;have nab:V.ref a≠V.ref b:=fun z=>by
  cases z;exact ne (F.apart i j _ _ a ex ey (by rw[h1];exact rfl) (by rw[k1];exact rfl))
 exact⟨_,h1,_,k1,k [] [xs,ys] [] [.ref a,.ref b] _ _ p (.refl F.wd) .nil (.cons ⟨a,zs,rfl,h2,h3,h4,h5⟩ (.cons ⟨b,ws,rfl,k2,k3,k4,k5⟩ .nil)) (by simpa using nab)⟩
abbrev xUc(t:De)(u:Du):Du:=fun env P=>t env fun d=>u env fun ds xss=>P (d::ds) xss
def kik{t:De}{u:Du}(h:DE He K Y e t)(h':DU He K Y es u)(hs:autoParam (∀ i,bc5 (e::es) (Y i).env=(false,eval e (Y i).env)::bc5 es (Y i).env) Z3):DU He K Y (e::es) (xUc t u):=by
 obtain⟨te,h1,h2⟩:=h;obtain⟨te',h3,h4⟩:=h';refine⟨_,fun i=>kaq (h1 i) (h3 i) (hs i),fun P Q F p k=>?_⟩;refine h2 _ _ F p fun d v R1 H1 q1 e1 r1=>?_;refine h4 _ _ (F.next e1) q1 fun ds xss ys zs R2 H2 q2 e2 r2 o2 n2=>?_;exact k _ _ (v::ys) zs R2 H2 q2 (e1.trans e2) (.cons (Rp.same e2.rr r1) r2) o2 n2
abbrev kzv(t:Du):Ds:=fun D env=>t env fun ds xss=>ds.length+xss.length<=100000/\D.rt (.ot ds xss)
def kra{t:Du}{x1}{p2:Pos}(h:DU He K Y es t):DS He K Y (.Return (some (.Tuple es x1 p2)) pos) (kzv t):=by
 obtain⟨te,h1,h2⟩:=h;refine⟨_,fun j=>kja (klm (h1 j)),fun D E F s c p=>h2 _ _ F p fun ds xss ys zs R1 H1 ⟨hl,q⟩ e1 r1 o1 n1=>⟨szl (by rw[bb4,r1.len,Paired.length o1];exact hl),fun a ha=>?_⟩⟩;have e2:=Ext.new (o:= .tup (ys++zs)) e1.wd ha;exact c.rt _ _ _ _ q (F.ext.trans (e1.trans e2)) ⟨a,ys,zs,rfl,kak,kak,RpAll.same e2.rr r1,o1.next e2,n1⟩
def k3g(xs:List bb0)(xss:List (List bb0)):kv7 (.ot xs xss)=some (.tuple (xs++xss.map bv8)):=rfl
abbrev plainS:Dt->Bool
 | .un=>true
 | .d _=>true
 | _=>false
def plainS.no{H:Hp}{d:Dt}{x:Option V}{b:Addr}(h:plainS d=true): ¬d.has H x b:=by
 cases d with
 | un=>exact fun z=>z
 | d _=>exact fun z=>z
 | _=>cases h
abbrev Rest(K:ba2)(H0 R H:Hp)(vs:List V):Prop:=∃ys zs ds xss,vs=ys++zs/\RpAll K R ys ds/\OwnR K H0 R H zs xss/\zs.Nodup/\(∀ d∈ds,khg d=true/\bi1 K (tyD d) (.type "list")=some false)/\∀l∈xss,l.length<100000
def Rest.next{H0 R H R' H':Hp}{vs:List V}(h:Rest K H0 R H vs)(e:Ext R H R' H'):Rest K H0 R' H' vs:=by
 obtain⟨ys,zs,ds,xss,h1,h2,h3,h4⟩:=h;exact⟨ys,zs,ds,xss,h1,RpAll.same e.rr h2,h3.next e,h4⟩
def Rest.step{H0 R H:Hp}{v:V}{vs:List V}(h:Rest K H0 R H (v::vs)):(∃ d,Rp K R v d/\(khg d=true/\bi1 K (tyD d) (.type "list")=some false)/\Rest K H0 R H vs)\/
 ∃b zs l,v= .ref b/\H b=some (.lst zs)/\R b=none/\H0 b=none/\RpAll K R zs l/\l.length<100000/\∀{R' H':Hp}(o:HO),Ext R H R' H'->Rest K H0 R' (upd H' b o) vs:=by
 obtain⟨ys,zs,ds,xss,h1,h2,h3,h4,h5,h6⟩:=h;cases h2 with
 | nil=>
   rw[by5]at h1;subst h1;cases h3 with
   | cons q t=>
     obtain⟨b,ws,rfl,e2,e3,e4,e5⟩:=q;refine .inr ⟨b,ws,_,rfl,e2,e3,e4,e5,h6 _ bb8,fun{R' H'} o e=>⟨[],_,[],_,rfl,.nil,OwnR.mut (OwnR.next t e) (bj4.mp h4).1,(bj4.mp h4).2,fun d z=>(by cases z),fun l m=>h6 l (bc0 _ m)⟩⟩
 | cons r t=>
   rw[bu7]at h1;cases h1;exact .inl ⟨_,r,h5 _ bb8,_,zs,_,xss,rfl,t,h3,h4,fun d m=>h5 d (bc0 _ m),h6⟩
abbrev kzw(K:ba2)(i j:Nat):Ds:=fun D env=>∃x xs xss,env[i]?=some (.ot (x::xs) xss)/\j<env.length/\(∀ d∈xs,khg d=true/\bi1 K (tyD d) (.type "list")=some false)/\bi1 K (.type "list") (.type "list")=some true/\(∀ l∈xss,l.length<100000)/\
 xs.length+xss.length<100000/\((env.set i .un).set j .un).all plainS=true/\D.nx ((env.set i .un).set j .un)
def cutV1{v:V}{vs:List V}(h:vs.length<100000): ¬(HT.sIx (v::vs).length 0 (some 1)=0/\HT.sIx (v::vs).length (v::vs).length none=(v::vs).length)/\koy (v::vs) (some 1) none=vs:=by
 have h1:HT.sIx (v::vs).length 0 (some 1)=1:=by
  simp[HT.sIx,bg5]
  try lia
 have h2:HT.sIx (v::vs).length (v::vs).length none=vs.length+1:=by simp[HT.sIx]
 refine⟨fun z=>by rw[h1]at z;exact zA z.1 (by decide),?_⟩;unfold koy;rw[h1,h2];simp
def kzx(i j:Nat){x y:Str}{c:Expr}{p1 p2 p3 p4 p5 p6 p7 apos cpos pos2 pos3:Pos}{kd kd2}(hp: ∀i,PassesOwn (bf9 (Y i).prog (Y i).w) (Y i).A (Y i).env (Y i).xe)(hN: ∀j,(Y j).N.Nodup)(hT:DT He K Y c (xB (xIsi K "list" (ktn j))))
 (hi:autoParam (∀ k,(Y k).N[j]?=some y) Z3)(hx:autoParam (∀ j,Loc (Y j).env.scope y) Z12)(hf:autoParam (∀ j,(Y j).fn y=true\/(Y j).env.scope.names.lookup y=some .local) Z13)
 (hv:autoParam (∀ j,PE (Y j) (.Name x p2) (kg9 i)) Z8)(hw:autoParam (∀ m,PE (Y m) (.Name y p3) (kg9 j)) Z8)(hK:autoParam (∀ i,(Y i).K=K) Z3)(hc:autoParam (∀ i,(Y i).calm=true) Z3)
 (hs:autoParam (∀ i z,foldedSetIterable (.Subscript (.Name x p2) (.Slice (some (.Constant (.int 1) kd p4)) none none p5) p6) (Y i).env z=pure z) Z10)
 (hbase:autoParam (∀ j,bm8 (.Name y p3) "append" (Y j).env (eval (.Name y p3) (Y j).env)=eval (.Name y p3) (Y j).env) Z3)
 (hfew:autoParam (∀ j,((backTo cpos (bc5 [.Constant (.int 0) kd2 p7] (Y j).env)).all (fun x=> !x.1)&&(b09 cpos (bt1 [] (Y j).env)).all (fun x=>x.1.isSome)
   &&decide (([.Constant (.int 0) kd2 p7]:List Expr).length+([]:List Keyword).length+(if([]:List Keyword).isEmpty then 0 else 1)<30))=true) Z3)
 (hline:autoParam ((apos.endLine==cpos.line)=true) Z4)(hst:autoParam (∀ j,bc5 [.Constant (.int 0) kd2 p7] (Y j).env=(false,eval (.Constant (.int 0) kd2 p7) (Y j).env)::bc5 [] (Y j).env) Z3)(hplain:autoParam (∀ j,(backTo cpos (bc5 [] (Y j).env)).any (·.1)=false) Z3)
 (hsw:autoParam (∀ j,bs6 (.Call (.Attribute (.Name y p3) "append" apos) [.Constant (.int 0) kd2 p7] [] cpos) none pos2.line (Y j).env=pure false) Z3):
 DS He K Y (.For (.Name y p1) (.Subscript (.Name x p2) (.Slice (some (.Constant (.int 1) kd p4)) none none p5) p6) [.If c [.Expr (.Call (.Attribute (.Name y p3) "append" apos) [.Constant (.int 0) kd2 p7] [] cpos) pos2] [] pos3] [] pos) (kzw K i j):=by
 obtain⟨tc,c1,c2⟩:=hT;refine⟨_,fun m=>kha (hp m) (hc m) (kpg K (klo (kyq K (hK m)) (hv m) (kox koj) kow) (hK m)) (kcn (hN m) (hi m) (hx m) (hf m))
  (kc7 (kxm (c1 m) (kc7 (kgc (kf0 K (hK m) bk1 bx9 by0 ke1 (hw m) (kaq koj ka2 (hst m)) (hbase m) (hfew m) hline (hst m) (hplain m)) (hsw m))) kki)) (hs m),fun{H0 R0 R H σ env} D E F s c p=>?_⟩
 obtain⟨d0,xs,xss,ex,hj,hds,hll,hxs,hz,hpl,q⟩:=p;obtain⟨a,ys,zs,h1,h2,h3,h4,h5,h6⟩:=F.otAt ex;cases h4 with
 | @cons v ys _ _ r0 h4=>
 rw[bu7]at h2 h3;have hlen:(ys++zs).length<100000:=by rw[bb4,h4.len,Paired.length h5];exact hz
 obtain⟨cw,cv⟩:=cutV1 (v:=v) hlen;refine⟨_,h1,1,rfl,a,_,rfl,SqT.of h3,cw,fun t ht=>?_⟩;rw[cv];have e1:=Ext.new (o:= .tup (ys++zs)) F.wd ht;have F1:=((F.drop i).drop j).next e1
 have pl: ∀(k:Nat)(d:Dt),((env.set i .un).set j .un)[k]?=some d->plainS d=true:=fun k d e=>bi0.mp hpl d (bd9 e);have eu:((env.set i .un).set j .un)[j]?=some .un:=by rw[bn4 (by rw[cj3];exact hj)]
 generalize hE:(env.set i .un).set j .un=env1 at F1 pl eu q;have lj:j<env1.length:=by
  rcases ca8 j env1.length with z|z
  .exact z
  .rw[bq0 z]at eu;cases eu
 have set1: ∀d:Dt,(env1.set j d).set j .un=env1:=fun d=>by
  rw[co5];refine bt5 fun k=>?_;rw[br4];by_cases hk:j=k
  .subst hk;rw[zP rfl,zP lj,eu]
  .rw[zN hk]
 refine⟨t,_,rfl,.inr ⟨SqT.of kak,fun O=>?_⟩⟩;refine⟨fun n m σ2 H2=>m=(ys++zs).length-n/\n<=(ys++zs).length/\∃R2,Fra He K H0 R2 H2 σ2 env1/\Same (upd R t (.tup (ys++zs))) R2/\Rest K H0 R2 H2 ((ys++zs).drop n),⟨_,rfl,bf7 _,_,F1,Same.refl _,?_⟩,?_⟩
 .exact Rest.next (K:=K) (H0:=H0) (R:=R) (H:=H) ⟨ys,zs,xs,xss,rfl,h4,h5,h6,hds,hxs⟩ e1
 rintro n m σ2 H2 ⟨rfl,hn,R2,F2,s2,rs⟩;have sq:SqT K H2 t (ys++zs):=SqT.of (F2.wd.rh _ _ (s2 _ _ kak));by_cases hlt:n<(ys++zs).length
 .have hg:(ys++zs)[n]?=some (ys++zs)[n]:=ba4 hlt;refine .inr ⟨⟨_,_,sq,hg⟩,fun σ' H'=>∃R3,Fra He K H0 R3 H' σ' env1/\Same (upd R t (.tup (ys++zs))) R3/\Rest K H0 R3 H' ((ys++zs).drop (n+1)),fun σ' H' n'=>⟨(ys++zs).length-(n+1),by lia,rfl,hlt,n'⟩,?_⟩;rintro u H'⟨rfl,hu⟩;have eu':=hu _ sq;rw[hg]at eu';have eu':=bf4 eu';rw[bk5 hlt,eu']at rs;show tIfS _ _ _ _ (σ2.set j (some u)) _;have lσ:(σ2.set j (some u))[j]?=some (some u):=by rw[bn4 (by rw[F2.len];exact lj)]
  rcases rs.step with⟨d,r,⟨hd1,hd2⟩,rs⟩|⟨b,ws,l,rfl,b1,b2,b3,b4,b5,rs⟩
  .have F3:=F2.setD j r;refine c2 (fun b=>false=b) _ F3 ⟨_,d,by rw[bn4 lj],rfl,false,hd1,hd2,false,rfl,rfl⟩ fun b R3 H3 pb e3=>?_;subst pb;rw[zN bb6];have F4:=(F3.next e3).drop j;rw[set1]at F4;exact⟨R3,F4,s2.trans e3.rr,rs.next e3⟩
  .have F3:=F2.set j (v:= .ref b) (d:= .o l) ⟨b,ws,rfl,b1,b2,b3,b4⟩ fun b' O k dk O ek=>plainS.no (pl k dk ek);refine c2 (fun b=>true=b) _ F3 ⟨_,.list l,by rw[bn4 lj],rfl,true,rfl,hll,true,rfl,rfl⟩ fun b' R3 H3 pb e3=>?_;subst pb;rw[zP rfl];have z1:=e3.hh _ _ b1;refine⟨_,lσ,.inl ⟨rfl,_,SqL.of z1⟩,b,ws,_,rfl,rfl,z1,kyl (by rw[b4.len];lia),?_⟩;have F4:=(F3.next e3).lstSet (i:=j) (xs:=l) (xs':=l++[.int 0]) (ys':=ws++[.int 0]) (by rw[bn4 lj]) lσ (e3.nn _ _ b1 b2) b3 (RpAll.append (RpAll.same e3.rr b4) (.one (.int 0)));have F5:=F4.drop j;rw[co5,set1]at F5;exact⟨R3,F5,s2.trans e3.rr,rs _ e3⟩
 .have e:n=(ys++zs).length:=by lia
  subst e;exact .inl ⟨⟨_,sq,bb7 _⟩,c.nx _ _ _ _ q (s.trans (e1.rr.trans s2)) F2⟩
end
end L2
open PySem L2
local macro_rules | `(tactic| simp only [rD,$ls,*] $[$l]?)=>do `(tactic| simp only [$((← ("kzw kzv xUc xU2 kq9 kq8 Dt.ot.injEq k3g xRev kk1 kij kk0 kzq kzh kzk kzn kzo kqu kqv kqw Dt.dv.injEq kua cc0 cd7 ci2 kp4 ky1 kp3 kq7 kyi sSeq sSet kpj sRet kyj kyk sIf sFrz sApp xVar xC ktn kx5 kyc xSeq xL xLst x2 xB xNot xAnd xOr kx6 xOrV kx7 xNeg xIf kjq xIx xNil ktq xTup kya xLen kly xIsi xCat xRep kye kpe kpf kko kkp kfk ken xZip xAll xPn xPs kps kpt kyt kpp gN gN2 kv8 rdI rdEq rdNe rdIn kkq reduceCtorEq false_or or_false false_and exists_false exists_const k2o k2p seqS k2q k2r kpr kdp knp bg2 b12 bg5 bt6 br0 bl5 b54 b55 bk3 cc8 bu7 by5 bw3 Dt.d.injEq Dt.o.injEq ci3 cg1 ce0 cg2 exists_eq_left exists_eq_left' exists_eq_right exists_and_left true_and and_true ne_eq not_false_eq_true bu6 bx3 cm9 cn0 ci4 bf7 bb7".splitOn " ").mapM fun s=>`(Lean.Parser.Tactic.simpLemma|$(Lean.mkIdent s.toName):term)).toArray),*,$ls,*] $[$l]?)
local macro_rules | `(tactic| simp only [rD] $[$l]?)=>`(tactic| simp only [$(Lean.mkIdent `rD):term,sSeq] $[$l]?)
namespace Me
open PySem L2
@[reducible]def dI(i:Int):Dt:=.d (.int i)
@[reducible]def iO(l:List Int):Dt:=.o (l.map ba1)
@[inline]def top(i:Nat):Stmt:=PySem.Challenge.pw_fewpoints_k12_whole_judged.main.body.getD i (.Pass ⟨0,0,0,0⟩)
@[reducible]def krb:Stmt:=top 5
@[reducible]def kzy:Stmt:=top 6
@[reducible]def kcz:Stmt:=top 7
@[reducible]def kdd:Stmt:=top 8
@[reducible]def krc:Stmt:=top 10
@[reducible]def kil:Stmt:=top 11
@[reducible]def kgq:Stmt:=top 12
@[reducible]def kfn:Stmt:=top 13
@[reducible]def kim:Stmt:=top 14
@[reducible]def kgr:Stmt:=top 15
@[reducible]def keo:Stmt:=top 16
@[reducible]def kk2:Stmt:=top 17
@[reducible]def krd:Stmt:=top 18
@[reducible]def kfo:Stmt:=top 19
@[reducible]def kk3:Stmt:=top 20
@[reducible]def kk4:Stmt:=top 22
@[reducible]def kgs:Stmt:=top 23
@[reducible]def kk5:Stmt:=top 24
@[reducible]def kfp:Stmt:=top 25
@[reducible]def kfq:Stmt:=top 26
@[reducible]def kfr:Stmt:=top 27
@[reducible]def kep:Stmt:=top 28
@[reducible]def kde:Stmt:=top 30
@[reducible]def kfs:Stmt:=top 31
@[reducible]def kft:Stmt:=top 32
@[reducible]def kio:Stmt:=top 33
@[reducible]def kcq:Stmt:=top 34
@[reducible]def kgt:Stmt:=top 35
@[reducible]def kzz:Stmt:=top 37
@[reducible]def kz0:Stmt:=top 38
@[reducible]def kre:Stmt:=top 39
@[reducible]def kz1:Stmt:=top 40
@[reducible]def kk6:Stmt:=top 41
@[reducible]def sRaw:Stmt:=top 42
@[reducible]def sDig:Stmt:=top 43
@[reducible]def sMix:Stmt:=top 44
@[reducible]def krf:Stmt:=top 45
@[reducible]def sLeq:Stmt:=top 46
@[reducible]def kz2:Stmt:=top 47
@[reducible]def kds:Stmt:=top 48
@[reducible]def kcr:Stmt:=top 49
@[reducible]def keq:Stmt:=top 50
@[reducible]def kc0:Stmt:=top 51
@[reducible]def ker:Stmt:=top 52
@[reducible]def kcs:Stmt:=top 53
@[reducible]def kcj:Stmt:=top 54
@[reducible]def kdt:Stmt:=top 55
@[reducible]def kb2:Stmt:=top 56
@[reducible]def kes:Stmt:=top 57
@[reducible]def kdv:Stmt:=top 58
@[reducible]def kdw:Stmt:=top 59
@[reducible]def kdx:Stmt:=top 60
@[reducible]def ku9:Stmt:=top 61
@[reducible]def Rel:=Nat->Nat->Bool
abbrev stp(t:Rel)(k a b:Nat):Rel:=if(t a k&&t k b)=true then(fun x y=>if x=a/\y=b then true else t x y)else t
abbrev w3(t:Rel)(k a:Nat):Nat->Rel
 | 0=>t
 | n+1=>stp (w3 t k a n) k a n
abbrev w2(m:Nat)(t:Rel)(k:Nat):Nat->Rel
 | 0=>t
 | n+1=>w3 (w2 m t k n) k n m
abbrev w1(m:Nat)(t:Rel):Nat->Rel
 | 0=>t
 | n+1=>w2 m (w1 m t n) n m
def k3h(t:Rel)(k a:Nat): ∀(n x y:Nat),w3 t k a n x y=(t x y||(decide (x=a)&&decide (y<n)&&t a k&&t k y))
 | 0,x,y=>by simp[w3]
 | n+1,x,y=>by
   have ih:=k3h t k a n;have e1:w3 t k a n a k=t a k:=by
    rw[ih];cases t a k <;> simp
   have e2:w3 t k a n k n=t k n:=by
    rw[ih];simp
   show stp (w3 t k a n) k a n x y=_;unfold stp;rw[e1,e2];by_cases hc:(t a k&&t k n)=true
   .rw[zP hc];have hc:=bw7.mp hc;by_cases hxy:x=a/\y=n
    .rw[zP hxy];obtain⟨rfl,rfl⟩:=hxy;simp[hc.1,hc.2]
    .rw[zN hxy,ih];by_cases hx:x=a
     .subst hx;have hy: ¬y=n:=fun z=>hxy ⟨rfl,z⟩;have:decide (y<n)=decide (y<n+1):=(by simp;lia)
      rw[this]
     .simp[hx]
   .rw[zN hc,ih];by_cases hx:x=a
    .subst hx;by_cases hy:y=n
     .subst hy;have:(t x k&&t k y)=false:=(by simpa using hc)
      simp only[bk7,decide_false,b07,cb7,decide_true,b90,bs3,this,b81]
     .have:decide (y<n)=decide (y<n+1):=(by simp;lia)
      rw[this]
    .simp[hx]
def k3i(m:Nat)(t:Rel)(k:Nat): ∀(n x y:Nat),w2 m t k n x y=(t x y||(decide (x<n)&&decide (y<m)&&t x k&&t k y))
 | 0,x,y=>by simp[w2]
 | n+1,x,y=>by
   have ih:=k3i m t k n;show w3 (w2 m t k n) k n m x y=_;rw[k3h];have e1:w2 m t k n n k=t n k:=(by rw[ih];simp)
   have e2:w2 m t k n k y=t k y:=(by rw[ih];cases t k y <;> simp)
   rw[e1,e2,ih];by_cases hx:x=n
   .subst hx;simp
   .have:decide (x<n)=decide (x<n+1):=(by simp;lia)
    rw[this];simp[hx]
def kip(m:Nat)(t:Rel)(n x y:Nat)(hx:x<m)(hy:y<m):w1 m t (n+1) x y=(w1 m t n x y||(w1 m t n x n&&w1 m t n n y)):=by
 show w2 m (w1 m t n) n m x y=_;rw[k3i];simp[hx,hy]
def kiq(m:Nat)(t:Rel): ∀(n:Nat),n<=m->∀c a b,c<n->a<m->b<m->w1 m t n a c=true->w1 m t n c b=true->w1 m t n a b=true
 | 0,_,c,_,_,h,_,_,_,_=>zA h (bj6 _)
 | n+1,hn,c,a,b,hc,ha,hb,h1,h2=>by
   have ih:=kiq m t n (by lia);have hcm:c<m:=(by lia)
   have hnm:n<m:=(by lia)
   rw[kip m t n a c ha hcm]at h1;rw[kip m t n c b hcm hb]at h2;rw[kip m t n a b ha hb];simp only[b32,bm4]at h1 h2⊢;by_cases e:c=n
   .subst e;have k1:w1 m t c a c=true:=h1.elim id fun z=>z.1;have k2:w1 m t c c b=true:=h2.elim id fun z=>z.2;exact .inr ⟨k1,k2⟩
   .have hc':c<n:=(by lia)
    rcases h1 with h1|⟨h1,h1'⟩ <;> rcases h2 with h2|⟨h2,h2'⟩
    .exact .inl (ih c a b hc' ha hb h1 h2)
    .exact .inr ⟨ih c a n hc' ha hnm h1 h2,h2'⟩
    .exact .inr ⟨h1,ih c n b hc' hnm hb h1' h2⟩
    .exact .inr ⟨h1,h2'⟩
def kj8(m:Nat)(t:Rel)(S:Nat->Nat->Prop)(h0: ∀x y,x<m->y<m->t x y=true->S x y)(hS: ∀a b c,a<m->b<m->c<m->S a b->S b c->S a c): ∀(n x y:Nat),n<=m->x<m->y<m->w1 m t n x y=true->S x y
 | 0,x,y,_,hx,hy,h=>h0 x y hx hy h
 | n+1,x,y,hn,hx,hy,h=>by
   rw[kip m t n x y hx hy]at h;simp only[b32,bm4]at h;rcases h with h|⟨h1,h2⟩
   .exact kj8 m t S h0 hS n x y (by lia) hx hy h
   .exact hS x n y hx (by lia) hy (kj8 m t S h0 hS n x n (by lia) hx (by lia) h1) (kj8 m t S h0 hS n n y (by lia) (by lia) hy h2)
abbrev ket(m:Nat)(t:Rel)(a:Nat):List (Int×Int):=((ba8 m).filter (t a)).map fun(b:Nat)=>((a:Int),(b:Int))
abbrev kac(m:Nat)(t:Rel):List (Int×Int):=(ba8 m).flatMap (ket m t)
abbrev t0(ps:List (Int×Int)):Rel:=fun a b=>decide (((a:Int),(b:Int))∈ps/\a≠b)
abbrev clo(m:Nat)(ps:List (Int×Int)):List (Int×Int):=kac m (w1 m (t0 ps) m)
def ka3{m:Nat}{t:Rel}{q:Int×Int}:q∈kac m t↔∃a b:Nat,a<m/\b<m/\t a b=true/\q=((a:Int),(b:Int)):=by
 unfold kac ket;rw[List.mem_flatMap];constructor
 .rintro⟨a,ha,h⟩;obtain⟨b,hb,rfl⟩:=bb1.mp h;obtain⟨h1,h2⟩:=be6.mp hb;exact⟨a,b,bb2.mp ha,bb2.mp h1,h2,rfl⟩
 .rintro⟨a,b,ha,hb,h,rfl⟩;exact⟨a,bb2.mpr ha,bb1.mpr ⟨b,be6.mpr ⟨bb2.mpr hb,h⟩,rfl⟩⟩
def kay{m:Nat}{t:Rel}{a b:Nat}:((a:Int),(b:Int))∈kac m t↔a<m/\b<m/\t a b=true:=by
 rw[ka3];constructor
 .rintro⟨x,y,h1,h2,h3,e⟩;have e1:a=x:=bu4 (zC bz1 e);have e2:b=y:=bu4 (zC bz2 e);subst e1 e2;exact⟨h1,h2,h3⟩
 .rintro⟨h1,h2,h3⟩;exact⟨a,b,h1,h2,h3,rfl⟩
def krg(m:Nat)(t:Rel)(a:Nat):(ket m t a).length<=m:=by
 unfold ket;rw[ba3];exact bi9 (bo5 _ _) (by rw[be8];exact bb7 _)
def keu(m:Nat)(t:Rel): ∀n,((ba8 n).flatMap (ket m t)).length<=n*m
 | 0=>by simp
 | n+1=>by
   rw[bn8,bx8,bb4];have h1:=keu m t n;have h2:=krg m t n;simp only[b04,b22,be9];rw[cg5];lia
def kk7(m:Nat)(t:Rel):(kac m t).length<=m*m:=keu m t m
abbrev IsSp(m:Nat)(ts:List (Int×Int)):Prop:=∃t:Rel,ts=kac m t/\(∀ a,a<m->t a a=false)/\∀a b c,a<m->b<m->c<m->t a b=true->t b c=true->t a c=true
abbrev Up(os:List Int)(q:Int×Int):Prop:=∃j i:Nat,j<i/\os[j]?=some q.1/\os[i]?=some q.2
def kgb{os:List Int}(nd:os.Nodup){i j:Nat}{x:Int}(h:os[i]?=some x)(h':os[j]?=some x):i=j:=by
 obtain⟨hi,ei⟩:=bb3.mp h;obtain⟨hj,ej⟩:=bb3.mp h';have pw:=be0.mp nd;rcases bl1 i j with z|z|z
 .exact zA (ei.trans ej.symm) (pw i j hi hj z)
 .exact z
 .exact zA (ej.trans ei.symm) (pw j i hj hi z)
def kwq{m:Nat}{ps:List (Int×Int)}{os:List Int}(nd:os.Nodup)(hu: ∀q∈ps,Up os q):IsSp m (clo m ps):=by
 have S: ∀x y:Nat,x<m->y<m->w1 m (t0 ps) m x y=true->Up os ((x:Int),(y:Int)):=by
  intro x y hx hy h;refine kj8 m (t0 ps) (fun x y=>Up os ((x:Int),(y:Int))) (fun x y O O h=>?_) (fun a b c O O O h1 h2=>?_) m x y (bb7 _) hx hy h
  .exact hu _ (zO h).1
  .obtain⟨i1,i2,l1,g1,g2⟩:=h1;obtain⟨i3,i4,l2,g3,g4⟩:=h2;have:i2=i3:=kgb nd g2 g3;exact⟨i1,i4,by lia,g1,g4⟩
 refine⟨w1 m (t0 ps) m,rfl,fun a ha=>?_,fun a b c ha hb hc h1 h2=>kiq m (t0 ps) m (bb7 _) b a c hb ha hc h1 h2⟩;cases e:w1 m (t0 ps) m a a with
 | false=>rfl
 | true=>
   obtain⟨j,i,l,g1,g2⟩:=S a a ha ha e;have:=kgb nd g1 g2;lia
abbrev pD(p:Int×Int):bb0:= .tuple [.int p.1,.int p.2]
abbrev spD(n:Int)(ps:List (Int×Int)):bb0:= .tuple [.int n,.tuple (ps.map pD)]
def kbq: ∀ps:List (Int×Int),khd (ps.map pD)=true
 | []=>rfl
 | p::r=>by
   show(k2a (pD p)&&khd (r.map pD))=true;rw[kbq r];rfl
def kbk: ∀ps:List (Int×Int),bd7 (ps.map pD)=true
 | []=>rfl
 | p::r=>by
   show(bl2 (pD p)&&bd7 (r.map pD))=true;rw[kbk r];rfl
def kmp(p:Int×Int):(pD p).depth<=3:=by simp[pD,br3,bg8]
def krh(p q:Int×Int):bg3 (pD p) (pD q)=decide (p=q):=by
 obtain⟨a,b⟩:=p;obtain⟨c,d⟩:=q;simp only[pD,bg3,bl9];by_cases h1:a=c <;> by_cases h2:b=d <;> simp[h1,h2]
def ked(p:Int×Int): ∀ps:List (Int×Int),((ps.map pD).any fun d=>bg3 d (pD p))=decide (p∈ps)
 | []=>by simp
 | q::r=>by
   rw[bg2,cd1,ked p r,krh];by_cases h:q=p
   .subst h;simp
   .have h': ¬p=q:=fun e=>h e.symm;simp[h,h']
def kwr{K:ba2}{H:Hp}{a:Addr}{x y:Int}(h:H a=some (.tup [.int x,.int y])):Rp K H (.ref a) (pD (x,y)):= .tup h (.cons (.int x) (.cons (.int y) .nil))
abbrev kfu(qs:List (Int×Int))(a b:Int):Prop:=a=b\/(a,b)∈qs
abbrev inR(n:Int)(q:Int×Int):Prop:=0<=q.1/\q.1<n/\0<=q.2/\q.2<n
def modB(v m:Int)(h:0<m)(hm:m<2 ^ 64): -(2 ^ 64)<v % m/\v % m<2 ^ 64:=by
 have h1:=bp9 v (co6 h);have h2:=bp2 v h;lia
def szle{n:Nat}(h:n<=100000):n<=sizeLine:=bi9 h (by decide)
def szlt{n:Nat}(h:n<=100000):n<sizeLine:=b50 h (by decide)
def kd4{n:Nat}{g:TG}{tb:TS}{D:Ends}{σ:St}{H:Hp}(Pv:Nat->St->Hp->Prop)(h0:Pv 0 σ H)
 (hs: ∀i σ H,i<n->Pv i σ H->g (.int (i:Int)) σ H fun σ2 H2=>tb {D with nx:=Pv (i+1),ct:=Pv (i+1),bk:=D.nx} σ2 H2)(hd: ∀σ H,Pv n σ H->D.nx σ H):
 ∃W:Nat->Nat->St->Hp->Prop,(∃ m,W 0 m σ H)/\∀i m σ H,W i m σ H->
  ((Itr 0 n).stop i H/\D.nx σ H)\/((Itr 0 n).go i H/\∃N:St->Hp->Prop,(∀ σ' H',N σ' H'->∃m',m'<m/\W (i+1) m' σ' H')/\∀x H',(Itr 0 n).yld i H x H'->g x σ H' fun σ2 H2=>tb {D with nx:=N,ct:=N,bk:=D.nx} σ2 H2):=
 kop (lo:=0) Pv h0 (fun i σ H hi p=>by rw[bp8];exact hs i σ H hi p) hd
def kgu{n:Nat}{g:TG}{tc:TT}{te:TE}{Q:VK}{D:Addr}{σ:St}{H:Hp}(Pv:Nat->St->List V->Hp->Prop)(h0:Pv 0 σ [] H)
 (hs: ∀i σ acc H,i<n->Pv i σ acc H->g (.int (i:Int)) σ H fun σ2 H2=>tc σ2 H2 fun b H3=>if b=true then te σ2 H3 fun y H4=>H4 D=some (.lst acc)/\acc.length<sizeLine/\Pv (i+1) σ2 (acc++[y]) (upd H4 D (.lst (acc++[y])))else Pv (i+1) σ2 acc H3)
 (hd: ∀σ acc H,Pv n σ acc H->Q (.ref D) H):
 ∃W:Nat->Nat->St->List V->Hp->Prop,(∃ m,W 0 m σ [] H)/\klr (Itr 0 n) g tc te Q D W:=
 ktk (lo:=0) Pv h0 (fun i σ acc H hi p=>by rw[bp8];exact hs i σ acc H hi p) hd
def k3j:bootBuiltins "int"=some (.type "int"):=by decide +kernel
def kz3:bootBuiltins "bool"=some (.type "bool"):=by decide +kernel
def kir:bootBuiltins "list"=some (.type "list"):=by decide +kernel
def kis:bootBuiltins "tuple"=some (.type "tuple"):=by decide +kernel
def kz4{n j:Nat}(h:j<n):ixN n (j:Int)=some j:=by
 unfold ixN;rw[zP (by lia),zP (by lia)];simp
structure Txt(K:ba2)(mg:Str->Option ba6):Prop where
 a:mg "range"=none
 b:mg "len"=none
 c:mg "list"=none
 d:mg "tuple"=none
 g:mg "isinstance"=none
 int:mg "int"=none
 bool:mg "bool"=none
 zip:mg "zip"=none
 all:mg "all"=none
 e:mg "sorted"=none
 f:mg "enumerate"=none
 set:mg "set"=none
 i:mg "reversed"=none
 kii:bi1 K (.type "int") (.type "int")=some true
 kib:bi1 K (.type "int") (.type "bool")=some false
 ktt:bi1 K (.type "tuple") (.type "tuple")=some true
 kll:bi1 K (.type "list") (.type "list")=some true
 ktl:bi1 K (.type "tuple") (.type "list")=some false
abbrev kit(K:ba2):Sp:=fun vs H Q O=>∃(m:Nat)(p:Addr)(xs:List V)(ps:List (Int×Int)),vs=[.int (m:Int),.ref p]/\m<=16/\H p=some (.lst xs)/\RpAll K H xs (ps.map pD)/\
 ∀(v:V)(H':Hp),Same H H'->Rp K H' v (.tuple ((clo m ps).map pD))->Q v H'
section
variable{P:bb9}{w:be5}{K:ba2}{mg:Str->Option ba6}{base:Heap}
end
abbrev kn6(m:Nat)(t:Rel)(i:Nat):List V:=(ba8 m).map fun(j:Nat)=>V.bl (t i j)
def kva(m:Nat)(t:Rel)(i:Nat):(kn6 m t i).length=m:=by unfold kn6;simp
abbrev kwt(t:Rel)(a b:Nat):Rel:=fun x y=>if x=a/\y=b then true else t x y
def kvb{m:Nat}{t:Rel}{a b:Nat}:(kn6 m t a).set b (V.bl true)=kn6 m (kwt t a b) a:=by
 refine bt5 fun i=>?_;unfold kn6;rw[br4];by_cases hi:b=i
 .subst hi;rw[zP rfl];by_cases hb:b<m
  .simp[hb,kwt]
  .simp[hb]
 .rw[zN hi];by_cases hm:i<m
  .have: ¬i=b:=fun z=>hi z.symm;simp[hm,kwt,this]
  .simp[hm]
def kn7{m:Nat}{t:Rel}{a b i:Nat}(h:i≠a):kn6 m (kwt t a b) i=kn6 m t i:=by
 unfold kn6 kwt;exact bh9 fun j O=>by simp[h]
structure Tb(H0 H:Hp)(D:Addr)(rs:List Addr)(m:Nat)(t:Rel):Prop where
 same:Same H0 H
 out:H0 D=none
 tab:H D=some (.lst (rs.map V.ref))
 nD: ∀r∈rs,r≠D
 nd:rs.Nodup
 row: ∀(i:Nat)(r:Addr),rs[i]?=some r->H0 r=none/\H r=some (.lst (kn6 m t i))
def Tb.mono{H0 H H':Hp}{D:Addr}{rs:List Addr}{m:Nat}{t:Rel}(b:Tb H0 H D rs m t)(s:Same H H'):Tb H0 H' D rs m t:=
 ⟨b.same.trans s,b.out,s _ _ b.tab,b.nD,b.nd,fun i r hr=>let⟨h1,h2⟩:=b.row i r hr;⟨h1,s _ _ h2⟩⟩
def Tb.put{H0 H:Hp}{D:Addr}{rs:List Addr}{m:Nat}{t:Rel}{l:Addr}{o:HO}(b:Tb H0 H D rs m t)(h0:H0 l=none)(h1:D≠l)(h2: ∀r∈rs,r≠l):Tb H0 (upd H l o) D rs m t:=
 ⟨b.same.put h0,b.out,by rw[kar h1];exact b.tab,b.nD,b.nd,fun i r hr=>let⟨h3,h4⟩:=b.row i r hr;⟨h3,by rw[kar (h2 r (bd9 hr))];exact h4⟩⟩
def kri{os:List Addr}(nd:os.Nodup){i j:Nat}{x:Addr}(h:os[i]?=some x)(h':os[j]?=some x):i=j:=by
 obtain⟨hi,ei⟩:=bb3.mp h;obtain⟨hj,ej⟩:=bb3.mp h';have pw:=be0.mp nd;rcases bl1 i j with z|z|z
 .exact zA (ei.trans ej.symm) (pw i j hi hj z)
 .exact z
 .exact zA (ej.trans ei.symm) (pw j i hj hi z)
def Tb.set{H0 H:Hp}{D:Addr}{rs:List Addr}{m:Nat}{t:Rel}{r:Addr}{a b:Nat}(x:Tb H0 H D rs m t)(hr:rs[a]?=some r):Tb H0 (upd H r (.lst ((kn6 m t a).set b (V.bl true)))) D rs m (kwt t a b):=by
 have hm:=bd9 hr;refine⟨x.same.put (x.row a r hr).1,x.out,by rw[kar (x.nD r hm).symm];exact x.tab,x.nD,x.nd,fun i q hq=>⟨(x.row i q hq).1,?_⟩⟩;by_cases e:q=r
 .subst e;have:=kri x.nd hq hr;subst this;rw[kak,kvb]
 .have ne:i≠a:=fun z=>by subst z;rw[hr]at hq;cases hq;exact e rfl
  rw[kar e,kn7 ne];exact(x.row i q hq).2
def Tb.at{H0 H:Hp}{D:Addr}{rs:List Addr}{m:Nat}{t:Rel}(x:Tb H0 H D rs m t)(hm:rs.length=m){a:Nat}(ha:a<m): ∃r,rs[a]?=some r/\atI (rs.map V.ref) (a:Int)=some (.ref r)/\H r=some (.lst (kn6 m t a))/\∀b:Nat,b<m->atI (kn6 m t a) (b:Int)=some (.bl (t a b)):=by
 have ha':a<rs.length:=by lia
 refine⟨rs[a],by simp[ha'],kb9 (by simp[ha']),(x.row a rs[a] (by simp[ha'])).2,fun b hb=>kb9 ?_⟩;unfold kn6;simp[hb]
def kz5{t:Rel}{k a b:Nat}(h1:t a k=true)(h2:t k b=true):stp t k a b=kwt t a b:=by
 unfold stp kwt;rw[h1,h2];rfl
def kvc{t:Rel}{k a b:Nat}(h1: ¬t a k=true):stp t k a b=t:=by
 unfold stp;rw[bz6.mpr h1];rfl
def kvd{t:Rel}{k a b:Nat}(h1: ¬t k b=true):stp t k a b=t:=by
 unfold stp;rw[bz6.mpr h1,b07];rfl
def kj9{t:Rel}{a j:Nat}:(((ba8 (j+1)).filter (t a)).map fun(b:Nat)=>((a:Int),(b:Int)))=(((ba8 j).filter (t a)).map fun(b:Nat)=>((a:Int),(b:Int)))++(if t a j=true then[((a:Int),(j:Int))]else[]):=by
 rw[bn8,bn2,be3];congr 1;by_cases h:t a j=true
 .rw[zP h,bm7 h];rfl
 .rw[zN h,bo8 h];rfl
section
variable{P:bb9}{w:be5}{K:ba2}{mg:Str->Option ba6}{base:Heap}
def nd1:(["a","many","pairs"]:List Str).Nodup:=by decide +kernel
def nd2:(["b","a","pairs"]:List Str).Nodup:=by decide +kernel
def nd3:(["b","a","table"]:List Str).Nodup:=by decide +kernel
def kdf:FnScope ["many","pairs","table","k","a","b","found"] ["many","pairs"] (kaj kk6):=by ac_rfl
@[reducible]def Cl1(H:Hp)(D p:Addr)(m:Nat)(ps:List (Int×Int))(i:Nat)(σ:St)(acc:List V)(H1:Hp):Prop:=∃(rs:List Addr)(va:Option V),σ=[va,some (.int m),some (.ref p)]/\acc=rs.map V.ref/\Tb H H1 D rs m (t0 ps)/\rs.length=i
@[reducible]def Cl2(H1:Hp)(D2 p:Addr)(ps:List (Int×Int))(i j:Nat)(σ2:St)(acc2:List V)(H2:Hp):Prop:=∃(vb:Option V),σ2=[vb,some (.int i),some (.ref p)]/\acc2=((ba8 j).map fun(y:Nat)=>V.bl (t0 ps i y))/\Same H1 H2/\H2 D2=some (.lst acc2)
@[reducible]def Cl3(H:Hp)(D p:Addr)(m:Nat)(rs:List Addr)(ps:List (Int×Int))(i:Nat)(σ:St)(H2:Hp):Prop:=∃vk va vb,σ=[some (.int m),some (.ref p),some (.ref D),vk,va,vb,none]/\Tb H H2 D rs m (w1 m (t0 ps) i)
@[reducible]def Cl4(H:Hp)(D p:Addr)(m:Nat)(rs:List Addr)(ps:List (Int×Int))(kk:Nat)(i:Nat)(σ:St)(H3:Hp):Prop:=∃va vb,σ=[some (.int m),some (.ref p),some (.ref D),some (.int kk),va,vb,none]/\Tb H H3 D rs m (w2 m (w1 m (t0 ps) kk) kk i)
@[reducible]def Cl5(H:Hp)(D p:Addr)(m:Nat)(rs:List Addr)(ps:List (Int×Int))(kk aa:Nat)(i:Nat)(σ:St)(H4:Hp):Prop:=∃vb,σ=[some (.int m),some (.ref p),some (.ref D),some (.int kk),some (.int aa),vb,none]/\Tb H H4 D rs m (w3 (w2 m (w1 m (t0 ps) kk) kk aa) kk aa i)
@[reducible]def Cl6(K:ba2)(H:Hp)(D p fl:Addr)(m:Nat)(rs:List Addr)(vk vb:Option V)(cl:Nat->Nat->Bool)(i:Nat)(σ:St)(H3:Hp):Prop:=∃(va:Option V)(ws:List V),σ=[some (.int m),some (.ref p),some (.ref D),vk,va,vb,some (.ref fl)]/\Tb H H3 D rs m cl/\H3 fl=some (.lst ws)/\RpAll K H3 ws (((ba8 i).flatMap (ket m cl)).map pD)
def krj{f:Addr}{fd:be7}(F:Fun K "_law_closed" "_law_closed" kk6 f fd)(T:Txt K mg):FnOk P w K mg base CX0 1 f fd ["many","pairs"] (kit K):=by
 refine F.ok kdf (fun vs H Q E h=>?_) (fun cdv A outer s H vs Q E hr h=>?_)
 .obtain⟨m,p,xs,ps,rfl,_⟩:=h;rfl
 .obtain⟨m,p,xs,ps,rfl,hm,hp,hps,k⟩:=h;refine⟨_,kez (kgd (i:=2) kdf.nd rfl (ci9 rfl) (kf4 (N':=["a","many","pairs"]) rfl (.own (.cap 0 rfl rfl rfl (.cap 1 rfl rfl rfl .nil))) (kcd (by rfl) T.a (kaq (pv 0) ka2))
   (fun s H fp=>kcn (i:=0) nd1 rfl (ci9 rfl)) (fun s H fp=>kkl)
   (fun s H fp=>kf4 (N':=["b","a","pairs"]) rfl (.own (.cap 0 rfl rfl rfl (.cap 2 rfl rfl rfl .nil))) (kcd (by rfl) T.a (kaq (pv 1) ka2))
     (fun s H fp=>kcn (i:=0) nd2 rfl (ci8 rfl)) (fun s H fp=>kkl)
     (fun s H fp=>kvy (kkj (kv5 K (kau hr (by decide))) (klm (kaq (pv 1) (kaq (pv 0) ka2))) (pv 2) rfl) (kvx (kkj op_ne (pv 1) (pv 0) (kvz _)))))))
   (kez (kha be4 rfl (kcd (by rfl) T.a (kaq (pv 0) ka2)) (kcn (i:=3) kdf.nd rfl (ci8 rfl))
     (kc7 (kha be4 rfl (kcd (by rfl) T.a (kaq (pv 0) ka2)) (kcn (i:=4) kdf.nd rfl (ci9 rfl))
       (kc7 (kha be4 rfl (kcd (by rfl) T.a (kaq (pv 0) ka2)) (kcn (i:=5) kdf.nd rfl (ci8 rfl))
         (kc7 (kxm (kvw (kli (kjh keg (kjh keg (pv 2) (pv 4) (fun O O=>rfl)) (pv 3) (fun O O=>rfl))) (kok (kli (kjh keg (kjh keg (pv 2) (pv 3) (fun O O=>rfl)) (pv 5) (fun O O=>rfl))))).pt
           (kc7 (k1n k1d (k1l (kjh keg (pv 2) (pv 4) (fun O O=>rfl)) (pv 5) kth))) kki)))))))
   (kez (kgd (i:=6) kdf.nd rfl (ci8 rfl) (kv0 ka2))
   (kez (kha be4 rfl (kcd (by rfl) T.a (kaq (pv 0) ka2)) (kcn (i:=4) kdf.nd rfl (ci9 rfl))
     (kc7 (kgc (k15 bk1 PySem.F.slot_list_extend PySem.F.type_list_extend ko1 (pv 6)
       (kaq (kf4 (N':=["b","a","table"]) rfl (.own (.cap 4 rfl rfl rfl (.cap 2 rfl rfl rfl .nil))) (kcd (by rfl) T.a (kaq (pv 0) ka2))
         (fun s H fp=>kcn (i:=0) nd3 rfl (ci8 rfl)) (fun s H fp=>ko4 (kli (kjh (klt K) (kjh (klt K) (pv 2) (pv 1) (fun O O=>rfl)) (pv 0) (fun O O=>rfl))))
         (fun s H fp=>klm (kaq (pv 1) (kaq (pv 0) ka2)))) ka2)))))
   (kc7 (kja (kco ke0 (by rfl) T.d kis (kaq (pv 6) ka2))))))),?_⟩
  try dsimp only[kv1]
  refine⟨_,rfl,(m:Int),rfl,by lia,by lia,fun D hD=>?_⟩;refine kgu (n:=m) (Cl1 H D p m ps) ⟨[],none,rfl,rfl,⟨Same.new hD,hD,kak,(fun r hr=>nomatch hr),bt0,(fun i r hr=>by simp at hr)⟩,rfl⟩ ?_ ?_
  .rintro i σ acc H1 hi ⟨rs,va,rfl,rfl,t,hl⟩;refine⟨_,rfl,(m:Int),rfl,by lia,by lia,fun D2 hD2=>?_⟩;refine kgu (n:=m) (Cl2 H1 D2 p ps i) ⟨none,rfl,rfl,Same.new hD2,kak⟩ ?_ ?_
   .rintro j σ2 acc2 H2 hj ⟨vb,rfl,rfl,s2,h2⟩;refine⟨_,rfl,_,rfl,szle (by show 2<=100000;decide),fun q hq=>?_⟩;have s3:Same H (upd H2 q (.tup [.int (i:Int),.int (j:Int)])):=t.same.trans (s2.trans (Same.new hq));have fin: ∀c:Bool,c=t0 ps i j->(upd H2 q (.tup [.int (i:Int),.int (j:Int)])) D2=some (.lst ((ba8 j).map fun(y:Nat)=>V.bl (t0 ps i y)))/\((ba8 j).map fun(y:Nat)=>V.bl (t0 ps i y)).length<sizeLine/\Cl2 H1 D2 p ps i (j+1) [some (V.int j),some (V.int i),some (V.ref p)] (((ba8 j).map fun(y:Nat)=>V.bl (t0 ps i y))++[V.bl c]) (upd (upd H2 q (.tup [.int (i:Int),.int (j:Int)])) D2 (.lst (((ba8 j).map fun(y:Nat)=>V.bl (t0 ps i y))++[V.bl c]))):=fun c hc=>
     ⟨by rw[kar (kan h2 hq)];exact h2,szlt (by rw[ba3,be8];lia),_,rfl,by rw[hc,bn8,be3];rfl,(s2.trans (Same.new hq)).put hD2,kak⟩
    refine⟨_,rfl,p,xs,ps.map pD,pD ((i:Int),(j:Int)),rfl,.inl (SqL.of (s3 _ _ hp)),RpAll.same s3 hps,kwr kak,kbk ps,rfl,bi9 (kmp ((i:Int),(j:Int))) (by decide),_,rfl,?_⟩;rw[ked];refine kck (fun e=>?_) (fun e=>fin false ?_)
    .refine⟨_,rfl,_,rfl,rfl,fin _ ?_⟩;have e:=zO e;unfold t0;by_cases hij:i=j
     .subst hij;simp
     .have h1: ¬(V.int (i:Int)=V.int (j:Int)):=fun z=>hij (bu4 (V.int.inj z));rw[zF h1,zT (show((i:Int),(j:Int))∈ps/\i≠j from⟨e,hij⟩)];rfl
    .unfold t0;rw[zF];intro z;exact e (zT z.1)
   .rintro σ2 acc2 H2 ⟨vb,rfl,rfl,s2,h2⟩;have hDD:D≠D2:=kan t.tab hD2;have t2:=t.mono s2;have nw: ∀r∈rs,r≠D2:=fun r hr=>by
     obtain⟨z,hz⟩:=bj0.mp hr;exact kan (t.row z r hz).2 hD2
    refine⟨t2.tab,szlt (by rw[ba3];lia),rs++[D2],_,rfl,by simp,⟨t2.same.put hD,hD,by rw[kak];simp,fun r hr=>?_,?_,fun z r hr=>?_⟩,by simp[hl]⟩
    .rcases bh3.mp hr with z|z
     .exact t.nD r z
     .rw[bc4.mp z];exact hDD.symm
    .refine bw4.mpr ⟨t.nd,by simp,fun a ha b hb=>?_⟩;rw[bc4.mp hb];exact nw a ha
    .by_cases hz:z<rs.length
     .rw[bc9 hz]at hr;obtain⟨h3,h4⟩:=t2.row z r hr;exact⟨h3,by rw[kar (t.nD r (bd9 hr))];exact h4⟩
     .rw[bc2 (by lia)]at hr;have hz0:z-rs.length=0:=by
       have:=(bb3.mp hr).1;simp at this;lia
      rw[hz0]at hr;have hr:D2=r:=(by simpa using hr)
      subst hr;have:z=i:=(by lia)
      subst this;exact⟨t.same.free hD2,by rw[kar hDD.symm];exact h2⟩
  rintro σ acc H1 ⟨rs,va,rfl,rfl,t,hl⟩;refine⟨_,rfl,(m:Int),rfl,by lia,by lia,kd4 (n:=m) (Cl3 H D p m rs ps) ⟨none,none,none,rfl,t⟩ ?_ ?_⟩
  .rintro kk σ H2 hk ⟨vk,va,vb,rfl,t2⟩;refine⟨_,rfl,(m:Int),rfl,by lia,by lia,kd4 (n:=m) (Cl4 H D p m rs ps kk) ⟨va,vb,rfl,t2⟩ ?_ ?_⟩
   .rintro aa σ H3 ha ⟨va,vb,rfl,t3⟩;refine⟨_,rfl,(m:Int),rfl,by lia,by lia,kd4 (n:=m) (Cl5 H D p m rs ps kk aa) ⟨vb,rfl,t3⟩ ?_ ?_⟩
    .rintro bb σ H4 hb ⟨vb,rfl,t4⟩;obtain⟨ra,hra,ea,ha4,ga⟩:=t4.at hl ha;obtain⟨rk,hrk,ek,hk4,gk⟩:=t4.at hl hk;have e1:=ga kk hk;have e2:=gk bb hb;refine⟨_,rfl,_,rfl,D,_,_,_,rfl,rfl,SqL.of t4.tab,ea,_,rfl,ra,_,_,_,rfl,rfl,SqL.of ha4,e1,_,rfl,?_⟩;refine kck (fun c1=>?_) (fun c1=>⟨_,rfl,?_⟩)
     .refine⟨_,rfl,_,rfl,D,_,_,_,rfl,rfl,SqL.of t4.tab,ek,_,rfl,rk,_,_,_,rfl,rfl,SqL.of hk4,e2,_,rfl,?_⟩;refine kck (fun c2=>?_) (fun c2=>⟨_,rfl,?_⟩)
      .refine⟨_,rfl,_,rfl,D,_,_,_,rfl,rfl,SqL.of t4.tab,ea,_,rfl,ra,_,_,bb,rfl,rfl,ha4,kz4 (by rw[kva];lia),?_⟩;refine⟨_,rfl,?_⟩;show Tb H _ D rs m (stp _ kk aa bb);rw[kz5 c1 c2];exact t4.set hra
      .show Tb H H4 D rs m (stp _ kk aa bb);rw[kvd c2];exact t4
     .show Tb H H4 D rs m (stp _ kk aa bb);rw[kvc c1];exact t4
    .rintro σ H4 ⟨vb,rfl,t4⟩;exact⟨_,_,rfl,t4⟩
   .rintro σ H3 ⟨va,vb,rfl,t3⟩;exact⟨_,_,_,rfl,t3⟩
  rintro σ H2 ⟨vk,va,vb,rfl,t2⟩;generalize hcl:w1 m (t0 ps) m=cl at t2;refine⟨szle (by show 0<=100000;decide),fun fl hf=>?_⟩;have t3:Tb H (upd H2 fl (.lst [])) D rs m cl:=t2.mono (Same.new hf);have nfD:D≠fl:=kan t2.tab hf;have nfr: ∀r∈rs,r≠fl:=fun r hr=>by
   obtain⟨z,hz⟩:=bj0.mp hr;exact kan (t2.row z r hz).2 hf
  have hf0:H fl=none:=t2.same.free hf;refine⟨_,rfl,(m:Int),rfl,by lia,by lia,kd4 (n:=m) (Cl6 K H D p fl m rs vk vb cl)
   ⟨va,[],rfl,t3,kak,.nil⟩ ?_ ?_⟩
  .rintro aa σ H3 ha ⟨va,ws,rfl,t4,h4,r4⟩;refine⟨_,rfl,.inl ⟨rfl,_,SqL.of h4⟩,_,rfl,(m:Int),rfl,by lia,by lia,fun D2 hD2=>?_⟩;have l4:=keu m cl aa;have hmm:aa*m<=16*16:=cc2 (by lia) hm;refine kgu (n:=m) (fun j σ2 acc H5=>∃(vb:Option V),σ2=[vb,some (.int aa),some (.ref D)]/\Same H3 H5/\H5 D2=some (.lst acc)/\RpAll K H5 acc ((((ba8 j).filter (cl aa)).map fun(b:Nat)=>((aa:Int),(b:Int))).map pD)/\acc.length<=j)
    ⟨none,rfl,Same.new hD2,kak,.nil,bf7 _⟩ ?_ ?_
   .rintro j σ2 acc H5 hj ⟨vb2,rfl,s5,h5,r5,l5⟩;have t5:=t4.mono s5;obtain⟨ra,hra,ea,ha4,ga⟩:=t5.at hl ha;refine⟨_,rfl,_,rfl,D,_,_,_,rfl,rfl,SqL.of t5.tab,ea,_,rfl,ra,_,_,_,rfl,rfl,SqL.of ha4,ga j hj,_,rfl,?_⟩;refine kck (fun c=>?_) (fun c=>⟨_,rfl,s5,h5,?_,by lia⟩)
    .refine⟨_,rfl,_,rfl,szle (by show 2<=100000;decide),fun q hq=>?_⟩;refine⟨by rw[kar (kan h5 hq)];exact h5,szlt (by lia),_,rfl,(s5.trans (Same.new hq)).put hD2,kak,?_,?_⟩
     .rw[kj9,zP c,be3];have hl5:(upd H5 q (HO.tup [V.int aa,V.int j])) D2=some (.lst acc):=(by rw[kar (kan h5 hq)];exact h5)
      exact RpAll.append (RpAll.keep ((TK.new hq).trans (TK.lst hl5)) r5 (kbq _)) (.one (kwr (by rw[kar (kan h5 hq).symm];exact kak)))
     .rw[bb4,bf8];lia
    .rw[kj9,zN c,be9];exact r5
   .rintro σ2 acc H5 ⟨vb2,rfl,s5,h5,r5,l5⟩;have wl:ws.length=((ba8 aa).flatMap (ket m cl)).length:=(by rw[r4.len,ba3])
    have h6:=s5 _ _ h4;refine⟨fl,D2,ws,acc,rfl,rfl,h6,h5,szle (by lia),_,ws++acc,rfl,(t4.mono s5).put hf0 nfD nfr,kak,?_⟩;rw[bn8,bx8,be3];simp only[b04,b22,be9];exact RpAll.append (RpAll.keep (s5.tk.trans (TK.lst h6)) r4 (kbq _)) (RpAll.keep (TK.lst h6) r5 (kbq _))
  .rintro σ H3 ⟨va,ws,rfl,t4,h4,r4⟩;refine⟨_,rfl,fl,ws,rfl,.inl ⟨SqL.of h4,fun l hl=>?_⟩⟩;refine k _ _ (t4.same.trans (Same.new hl)) (.tup kak (RpAll.keep (TK.new hl) ?_ (kbq _)));show RpAll K H3 ws ((kac m (w1 m (t0 ps) m)).map pD);rw[hcl];exact r4
end
def kmq(c t:Int)(h1:1<=t)(h2:t<=16): ∃m:Nat,1+c % t=(m:Int)/\1<=m/\(m:Int)<=t:=by
 have a:=bp9 c (show t≠0 by lia);have b:=bp2 c (show 0<t by lia);exact⟨(1+c % t).toNat,by lia,by lia,by lia⟩
def kh7{os:List Int}{ps:List (Int×Int)}{i j:Nat}(h: ∀q∈ps,Up os q)(hji:j<i)(hj:j<os.length)(hi:i<os.length): ∀q∈ps++[(os[j],os[i])],Up os q:=fun q hq=>by
 rcases bh3.mp hq with z|z
 .exact h q z
 .rw[bc4.mp z];exact⟨j,i,hji,by simp[hj],by simp[hi]⟩
def kiu(m:Nat):(((ba8 m).map fun(i:Nat)=>(i:Int))++[]).Nodup:=by
 rw[be9];refine b75 _ (fun a b h=>?_) bj2;intro z;exact h (bu4 z)
section
variable{P:bb9}{w:be5}{K:ba2}{mg:Str->Option ba6}{base:Heap}
end
abbrev gt(xs:List Int)(i:Int):Int:=xs.getD i.toNat 0
abbrev kho(n:Int)(ps:List (Int×Int))(m:Int)(qs:List (Int×Int))(xs:List Int):Prop:=(xs.length:Int)=n/\(∀ x∈xs,0<=x/\x<m)/\∀p∈ps,kfu qs (gt xs p.1) (gt xs p.2)
abbrev ka9(xs:List Int):bb0:= .tuple (xs.map ba1)
abbrev krk(ds:List bb0)(RS:Dt->Prop):Prop:=∃c:Int,ds=[.int c]/\∀r:Int,RS (dI r)
abbrev kk8(ds:List bb0)(RS:Dt->Prop):Prop:=∃(ns:List Int)(k:Nat),ds=[kd7 ns,.int (k:Int)]/\∀r:Int,RS (dI r)
abbrev krl(ds:List bb0)(RS:Dt->Prop):Prop:=∃i:Int,ds=[.int i]/\RS (.d (.bool true))
abbrev kve(ds:List bb0)(RS:Dt->Prop):Prop:=∃c k b:Int,ds=[.int c,.int k,.int b]/\0<b/\∀r:Int,0<=r->r<b->RS (dI r)
abbrev kev(ps:List (Int×Int))(a b:Int):Bool:= @decide (kfu ps a b) (bm6 _)
def kbc{ps:List (Int×Int)}{a b:Int}:kev ps a b=true↔kfu ps a b:= @decide_eq_true_iff _ (bm6 _)
abbrev kwu(ds:List bb0)(RS:Dt->Prop):Prop:=∃(n:Int)(ps:List (Int×Int))(a b:Int),ds=[spD n ps,.int a,.int b]/\RS (.d (.bool (kev ps a b)))
abbrev kmr(ds:List bb0)(RS:Dt->Prop):Prop:=∃(ns:List Int)(k:Nat)(t:Int),ds=[kd7 ns,.int (k:Int),.int t]/\1<=t/\t<=16/\∀(m:Nat)(ts:List (Int×Int)),1<=m->(m:Int)<=t->IsSp m ts->RS (.d (spD m ts))
section
variable{K:ba2}{vs:List V}{H:Hp}{Q:VK}{E:XK}
end
abbrev kgv(ds:List bb0)(RS:Dt->Prop):Prop:=∃(m:Nat)(ps:List (Int×Int)),ds=[.int (m:Int),.list (ps.map pD)]/\m<=16/\RS (.d (.tuple ((clo m ps).map pD)))
def krm{K:ba2}{vs:List V}{H:Hp}{Q:VK}{E:XK}(h:spG K kgv vs H Q E):kit K vs H Q E:=by
 obtain⟨ds,RS,r,⟨m,ps,rfl,hm,hR⟩,k⟩:=h;cases r with
 | cons r1 r2=>
   cases r2 with
   | cons r2 r3=>
     cases r3;obtain⟨a,ys,rfl,h1,h2⟩:=r2.lst_inv;exact⟨m,a,ys,ps,by rw[r1.int_inv],hm,h1,h2,fun v H' s rv=>k _ _ H' H' hR (.of_same s) rv⟩
def fn_cv{P:bb9}{w:be5}{K:ba2}{mg:Str->Option ba6}{base:Heap}{x:Str}{lvl:Nat}{ps:List Str}{sp sp':Sp}(G:Fn P w K mg base x lvl ps sp)(h: ∀vs H Q E,sp' vs H Q E->sp vs H Q E):Fn P w K mg base x lvl ps sp':=by
 obtain⟨f,fd,F,a⟩:=G;exact⟨f,fd,F.imp h,a⟩
def okI(i:Int):okD (.int i):=rfl
def okB(i:Bool):okD (.bool i):=rfl
def shI(i:Int):khx (.int i):=by unfold khx;simp[br3]
def shB(i:Bool):khx (.bool i):=by unfold khx;simp[br3]
def okP(p:Int×Int):okD (pD p):=rfl
def shP(p:Int×Int):khx (pD p):=bi9 (kmp p) (by decide)
def ka1(i j:Int):bg3 (.int i) (.int j)=decide (i=j):=by
 show(i==j)=_;by_cases h:i=j <;> simp[h]
def at0{α:Type}(a:α)(l:List α):atI (a::l) 0=some a:=kb9 (j:=0) rfl
def at1{α:Type}(a b:α)(l:List α):atI (a::b::l) 1=some b:=kb9 (j:=1) rfl
def kc1{xs:List Int}{i:Int}(h0:0<=i)(h1:i<xs.length):atI (xs.map ba1) i=some (.int (xs.getD i.toNat 0)):=by
 obtain⟨j,rfl⟩:=bi3 h0;have hj:j<xs.length:=by lia
 refine kb9 (j:=j) ?_;simp[hj]
abbrev krn(ds:List bb0)(RS:Dt->Prop):Prop:=∃n x:Int,ds=[.int n,.int x]/\RS (.d (.bool (decide (0<=x/\x<n))))
def ka4(n:Int)(ps:List (Int×Int)):ko7 (spD n ps)=some [.int n,.tuple (ps.map pD)]:=rfl
def kee: ∀a b:Int×Int,pD a=pD b->a=b:=kt1
abbrev pu(ps:List (Int×Int))(p:Int):List Int:=(ps.filter fun q=>decide (q.2=p)).map (·.1)
abbrev po(ps:List (Int×Int))(p:Int):List Int:=(ps.filter fun q=>decide (q.1=p)).map (·.2)
abbrev kog(ps:List (Int×Int))(pts:List Int):Option Int:=pts.find? fun p=>pts.all fun a=>kev ps p a
abbrev kgw(ps:List (Int×Int))(pts:List Int):Option Int:=pts.find? fun p=>pts.all fun a=>kev ps a p
abbrev kbl(ps:List (Int×Int))(p:Int):Option Int:=(kog ps (po ps p)).or (kgw ps (pu ps p))
abbrev k3k:Option Int->bb0
 | none=> .none
 | some x=> .int x
abbrev kbr(n:Nat)(ps:List (Int×Int)):List Int:=((ba8 n).map fun(i:Nat)=>(i:Int)).filter fun p=>(kbl ps p).isSome
abbrev cu(p x:Int):Int:=if x > p then x-1 else x
abbrev cu2(p:Int)(q:Int×Int):Int×Int:=(cu p q.1,cu p q.2)
abbrev woF(ps:List (Int×Int))(p:Int):List (Int×Int):=(ps.filter fun q=>decide (p≠q.1)&&decide (p≠q.2)).map (cu2 p)
abbrev Ppu(ds:List bb0)(RS:Dt->Prop):Prop:=∃(n:Int)(ps:List (Int×Int))(p:Int),ds=[spD n ps,.int p]/\RS (.o ((pu ps p).map ba1))
abbrev Ppo(ds:List bb0)(RS:Dt->Prop):Prop:=∃(n:Int)(ps:List (Int×Int))(p:Int),ds=[spD n ps,.int p]/\RS (.o ((po ps p).map ba1))
abbrev Plow(ds:List bb0)(RS:Dt->Prop):Prop:=∃(n:Int)(ps:List (Int×Int))(pts:List Int),ds=[spD n ps,.list (pts.map ba1)]/\RS (.d (k3k (kog ps pts)))
abbrev kz6(ds:List bb0)(RS:Dt->Prop):Prop:=∃(n:Int)(ps:List (Int×Int))(pts:List Int),ds=[spD n ps,.list (pts.map ba1)]/\RS (.d (k3k (kgw ps pts)))
abbrev kro(ds:List bb0)(RS:Dt->Prop):Prop:=∃(n:Int)(ps:List (Int×Int))(p:Int),ds=[spD n ps,.int p]/\0<=p/\p<n/\RS (.d (k3k (kbl ps p)))
abbrev kms(ds:List bb0)(RS:Dt->Prop):Prop:=∃(n:Int)(ps:List (Int×Int))(p:Int),ds=[spD n ps,.int p]/\RS (.d (k3k (kbl ps p)))
abbrev kct(ds:List bb0)(RS:Dt->Prop):Prop:=∃(n:Nat)(ps:List (Int×Int)),ds=[spD n ps]/\n<=100/\RS (.o ((kbr n ps).map ba1))
abbrev Pcu(ds:List bb0)(RS:Dt->Prop):Prop:=∃x p:Int,ds=[.int x,.int p]/\RS (dI (cu p x))
abbrev Pwo(ds:List bb0)(RS:Dt->Prop):Prop:=∃(n:Int)(ps:List (Int×Int))(p:Int),ds=[spD n ps,.int p]/\RS (.d (spD (n-1) (woF ps p)))
abbrev kgx(ds:List bb0)(RS:Dt->Prop):Prop:=∃(n:Int)(ps:List (Int×Int))(p:Int),ds=[spD n ps,.int p]/\0<=p/\p<n/\(kbl ps p).isSome=true/\RS (.d (spD (n-1) (woF ps p)))
def kc6(o:Option Int):isNone (k3k o)=o.isNone:=by cases o <;> rfl
def ke8{α:Type}{p:α->Bool}{l:List α}{k:Nat}{x:α}(hx:l[k]?=some x)(h:p x=true)(hn: ∀(j:Nat)(y:α),j<k->l[j]?=some y->p y=false):l.find? p=some x:=by
 rw[List.find?_eq_some_iff_getElem];obtain⟨hk,e⟩:=bb3.mp hx;refine⟨h,k,hk,e,fun j hj=>?_⟩;have:=hn j l[j] hj (ba4 (by lia));simp[this]
def ke9{α:Type}{p:α->Bool}{l:List α}(hn: ∀(j:Nat)(y:α),j<l.length->l[j]?=some y->p y=false):l.find? p=none:=by
 rw[ce3];intro x hx;obtain⟨j,hj,e⟩:=bf3 hx;rw[hn j x hj (by rw[<- e];exact ba4 hj)];exact bb6
def atc0{α:Type}(a:α)(l:List α):atI (a::l) ((0:Nat):Int)=some a:=kb9 (j:=0) rfl
def atc1{α:Type}(a b:α)(l:List α):atI (a::b::l) ((1:Nat):Int)=some b:=kb9 (j:=1) rfl
def atd1{α:Type}(a b:α)(l:List α):atI (a::b::l) (1-((0:Nat):Int))=some b:=kb9 (j:=1) rfl
def atd0{α:Type}(a:α)(l:List α):atI (a::l) (1-((1:Nat):Int))=some a:=kb9 (j:=0) rfl
def kn8(ps:List (Int×Int))(near:List Int)(x:Int):((near.filter fun o=> !decide (o=x)).all fun o=>decide ((x,o)∈ps))=near.all fun a=>kev ps x a:=by
 rw[bh5,bi0,bi0];constructor
 .intro h a ha;rw[kbc];by_cases e:a=x
  .exact .inl e.symm
  .exact .inr (zO (h a (be6.mpr ⟨ha,by simp[e]⟩)))
 .intro h o ho;obtain⟨h1,h2⟩:=be6.mp ho;have h2: ¬o=x:=by simpa using h2
  rcases kbc.mp (h o h1)with z|z
  .exact zA z.symm h2
  .exact zT z
def kk9(ps:List (Int×Int))(near:List Int)(x:Int):((near.filter fun o=> !decide (o=x)).all fun o=>decide ((o,x)∈ps))=near.all fun a=>kev ps a x:=by
 rw[bh5,bi0,bi0];constructor
 .intro h a ha;rw[kbc];by_cases e:a=x
  .exact .inl e
  .exact .inr (zO (h a (be6.mpr ⟨ha,by simp[e]⟩)))
 .intro h o ho;obtain⟨h1,h2⟩:=be6.mp ho;have h2: ¬o=x:=by simpa using h2
  rcases kbc.mp (h o h1)with z|z
  .exact zA z h2
  .exact zT z
@[reducible]def Elg(n:Int)(ps:List (Int×Int))(p:Int)(k:Nat)(v3 v4 v5:Dt):List Dt:=[.d (spD n ps),dI p,.d (.int ((k:Nat):Int)),v3,v4,v5]
section
variable{P:bb9}{w:be5}{K:ba2}{mg:Str->Option ba6}{base:Heap}
def kn9:FnScope ["cell","found","factor","mixed"] ["cell"] (kaj kzz):=by ac_rfl
def k3l{f:Addr}{fd:be7}(F:Fun K "_law_stir" "_law_stir" kzz f fd)(T:Txt K mg):
 FnOk P w K mg base CX0 1 f fd ["cell"] (spG K krk):=by
 refine F.okG kn9 (fun ds RS h=>?_) (fun a A o s H E hr=>(kab (kap 1 (fun O=>kn9.nd) (kae))
  (kab (kbn nofun (ka8 ((kbj (kaa (kae) (kaa (kae) (kaa (kae) (kaa (kae) kah))))).ew)) (kaz 2 (fun O=>kn9.nd)) (kab (kap 3 (fun O=>kn9.nd) (kao kbo (kao kc3 (kao kdn (kaf 0) (kaf 2)).bw (kae).bw).bw (kae).bw))
  (kab (kap 3 (fun O=>kn9.nd) (kao kbo (kao kdn (kao kbo (kao kdn (kaf 3) (kaf 3)).bw (kae).bw).bw (kae).bw).bw (kae).bw))
  (kag (kap 1 (fun O=>kn9.nd) (kao kc3 (kao kdn (kaf 1) (kao k2e (kae).bw (kae).bw).bw).bw (kao kbw (kaf 3) (kae).bw).bw))))))
  (kag (kb8 1))))) (fun ds RS h=>?_)
 .obtain⟨c,rfl,_⟩:=h;rfl
 .obtain⟨c,rfl,hR⟩:=h;simp only[rD,kof];refine⟨fun k env=>∃(r:Int)(f m:Dt),env=[dI c,dI r,f,m],⟨_,_,_,rfl⟩,?_,?_⟩
  .rintro k y env hy⟨r,f,m,rfl⟩;obtain⟨z,rfl,z1,z2⟩: ∃z:Int,y= .int z/\0<z/\z<2 ^ 32:=by
    have hm:=bd9 hy;simp only[bc6,bg9,or_false]at hm;rcases hm with rfl|rfl|rfl|rfl <;> exact⟨_,rfl,by decide,by decide⟩
   simp only[rD];exact⟨.inr ⟨by lia,by lia⟩,by decide,.inl (modB _ _ (by decide) (by decide)),by decide,.inr ⟨by decide,by decide⟩,by decide,⟨by decide,by decide,by decide⟩,.inr ⟨by decide,by decide⟩,⟨by decide,by decide⟩,_,_,_,rfl⟩
  .rintro env⟨r,f,m,rfl⟩;exact⟨_,rfl,(fun z=>by cases z),hR r⟩
def kvf:FnScope ["cell","k","bound","stir"] ["cell","k","bound"] (kaj kz1):=by ac_rfl
def k3m{f:Addr}{fd:be7}(F:Fun K "_law_draw" "_law_draw" kz1 f fd)(T:Txt K mg):
 FnOk P w K mg base CX0 1 f fd ["cell","k","bound"] (spG K kve):=by
 refine F.okG kvf (fun ds RS h=>?_) (fun a A o s H E hr=>(kab (kap 3 (fun O=>kvf.nd) (kao kbo (kao kc3 (kao kc3 (kao kbo (kaf 0) (kae).bw).bw (kae).bw).bw (kao kdn (kaf 1) (kae).bw).bw).bw (kae).bw))
  (kab (kap 3 (fun O=>kvf.nd) (kao kbo (kao kdn (kao kbo (kao kdn (kaf 3) (kaf 3)).bw (kae).bw).bw (kae).bw).bw (kae).bw))
  (kab (kap 3 (fun O=>kvf.nd) (kao kbo (kao kdn (kao kbo (kao kdn (kaf 3) (kaf 3)).bw (kae).bw).bw (kae).bw).bw (kae).bw))
  (kag (kax (kao kbo (kao kbw (kaf 3) (kae).bw).bw (kaf 2)))))))) (fun ds RS h=>?_)
 .obtain⟨c,k,b,rfl,_⟩:=h;rfl
 .obtain⟨c,j,b,rfl,hb,hR⟩:=h;simp only[rD];exact⟨by decide,.inr ⟨by decide,by decide⟩,by decide,.inl (modB _ _ (by decide) (by decide)),by decide,.inr ⟨by decide,by decide⟩,by decide,.inl (modB _ _ (by decide) (by decide)),by decide,.inr ⟨by decide,by decide⟩,by decide,⟨by decide,by decide⟩,hb,hR _ (bp9 _ (co6 hb)) (bp2 _ hb)⟩
def scDRw:FnScope ["script","k"] ["script","k"] (kaj sRaw):=by ac_rfl
def k3n{f:Addr}{fd:be7}(F:Fun K "_law_raw" "_law_raw" sRaw f fd)(T:Txt K mg):
 FnOk P w K mg base CX0 1 f fd ["script","k"] (spG K kk8):=by
 refine F.okG scDRw (fun ds RS h=>?_) (fun a A o s H E hr=>(kab (kba (kaw kkn (kaf 1) (kbv (kai 0) (fun O=>T.b)).bw) (kag (kax (kam (kai 0) (kaf 1)))) kav)
  (kag (kax (kae))))) (fun ds RS h=>?_)
 .obtain⟨ns,k,rfl,_⟩:=h;rfl
 .obtain⟨ns,k,rfl,hR⟩:=h;simp only[rD];refine kck (fun e=>?_) (fun e=>hR 0);exact⟨_,kc1 (by lia) (by simpa using e),hR _⟩
def scDCl:FnScope ["script","k"] ["script","k"] (kaj kz0):=by ac_rfl
@[reducible]def F7(P)(w)(K)(mg)(base):=Fn P w K mg base "_law_stir" 1 ["cell"] (spG K krk)
def k3o{f:Addr}{fd:be7}(F:Fun K "_law_cell" "_law_cell" kz0 f fd)(T:Txt K mg)(GDSt:F7 P w K mg base):
 FnOk P w K mg base CX0 2 f fd ["script","k"] (spG K kk8):=by
 refine F.okG scDCl (fun ds RS h=>?_) (fun a A o s H E hr=>(kab (kba (kaw kkn (kaf 1) (kbv (kai 0) (fun O=>T.b)).bw) (kag (kax (kal GDSt ⋯ (kaa (kam (kai 0) (kaf 1)) kah)))) kav)
  (kag (kax (kal GDSt ⋯ (kaa (kae) kah)))))) (fun ds RS h=>?_)
 .obtain⟨ns,k,rfl,_⟩:=h;rfl
 .obtain⟨ns,k,rfl,hR⟩:=h;simp only[rD];refine kck (fun e=>?_) (fun e=>⟨_,rfl,fun r=>⟨_,rfl,hR r⟩⟩);exact⟨_,kc1 (by lia) (by simpa using e),_,rfl,fun r=>⟨_,rfl,hR r⟩⟩
def scDWh:FnScope ["found"] ["found"] (kaj kre):=by ac_rfl
def k3p{f:Addr}{fd:be7}(F:Fun K "_law_whole" "_law_whole" kre f fd)(T:Txt K mg):
 FnOk P w K mg base CX0 1 f fd ["found"] (spG K krl):=by
 refine F.okG scDWh (fun ds RS h=>?_) (fun a A o s H E hr=>(kag (kax (kv9 (kfz (kaf 0) k3j (fun O=>T.int) (fun O=>T.g)) (klx (kwa (kfz (kaf 0) kz3 (fun O=>T.bool) (fun O=>T.g)))))))) (fun ds RS h=>?_)
 .obtain⟨i,rfl,_⟩:=h;rfl
 .obtain⟨i,rfl,hR⟩:=h;simp only[rD];exact⟨rfl,_,T.kii,rfl,_,T.kib,hR⟩
def scDLq:FnScope ["space","a","b"] ["space","a","b"] (kaj sLeq):=by ac_rfl
def k3q{f:Addr}{fd:be7}(F:Fun K "_law_leq" "_law_leq" sLeq f fd)(T:Txt K mg):
 FnOk P w K mg base CX0 1 f fd ["space","a","b"] (spG K kwu):=by
 refine F.okG scDLq (fun ds RS h=>?_) (fun a A o s H E hr=>(kag (kax (k2g (kc2 (kcg ∅) (kaf 1) (kaf 2)) (klx (kc2 (kjr ∅) (kbf (kaa (kad 1) (kaa (kad 2) kah))).bw (kam (kai 0) (kae).bw).bw)))))) (fun ds RS h=>?_)
 .obtain⟨n,ps,a,b,rfl,_⟩:=h;rfl
 .obtain⟨n,ps,a,b,rfl,hR⟩:=h;simp only[rD,ka4,at1];refine⟨okI _,okI _,.inl (shI _),?_⟩;rw[ka1];refine kck (fun e=>?_) (fun e=>⟨kbk ps,okP (a,b),shP (a,b),?_⟩)
  .rw[kbc.mpr (.inl (zO e))]at hR;exact hR
  .rw[show((ps.map pD).any fun d=>d.eqv (.tuple [.int a,.int b]))=decide ((a,b)∈ps)from ked (a,b) ps,show decide ((a,b)∈ps)=kev ps a b from ?_]
   .exact hR
   .rw[bh5,kbc,decide_eq_true_iff];exact⟨.inr,fun z=>z.resolve_left fun z=>e (zT z)⟩
def scDSm:FnScope ["space","a","b"] ["space","a","b"] (kaj kzy):=by ac_rfl
def k3r{f:Addr}{fd:be7}(F:Fun K "same_or_under" "same_or_under" kzy f fd)(T:Txt K mg):
 FnOk P w K mg base CX0 1 f fd ["space","a","b"] (spG K kwu):=by
 refine F.okG scDSm (fun ds RS h=>?_) (fun a A o s H E hr=>(kag (kax (k2g (kc2 (kcg ∅) (kaf 1) (kaf 2)) (klx (kc2 (kjr ∅) (kbf (kaa (kad 1) (kaa (kad 2) kah))).bw (kam (kai 0) (kae).bw).bw)))))) (fun ds RS h=>?_)
 .obtain⟨n,ps,a,b,rfl,_⟩:=h;rfl
 .obtain⟨n,ps,a,b,rfl,hR⟩:=h;simp only[rD,ka4,at1];refine⟨okI _,okI _,.inl (shI _),?_⟩;rw[ka1];refine kck (fun e=>?_) (fun e=>⟨kbk ps,okP (a,b),shP (a,b),?_⟩)
  .rw[kbc.mpr (.inl (zO e))]at hR;exact hR
  .rw[show((ps.map pD).any fun d=>d.eqv (.tuple [.int a,.int b]))=decide ((a,b)∈ps)from ked (a,b) ps,show decide ((a,b)∈ps)=kev ps a b from ?_]
   .exact hR
   .rw[bh5,kbc,decide_eq_true_iff];exact⟨.inr,fun z=>z.resolve_left fun z=>e (zT z)⟩
def scDPt:FnScope ["many","number"] ["many","number"] (kaj krb):=by ac_rfl
def k3s{f:Addr}{fd:be7}(F:Fun K "is_point" "is_point" krb f fd)(T:Txt K mg):
 FnOk P w K mg base CX0 1 f fd ["many","number"] (spG K krn):=by
 refine F.okG scDPt (fun ds RS h=>?_) (fun a A o s H E hr=>(kag (kax (kto ktp kkn (kae).bw (kaf 1) (kaf 0))))) (fun ds RS h=>?_)
 .obtain⟨n,x,rfl,_⟩:=h;rfl
 .obtain⟨n,x,rfl,hR⟩:=h;simp only[rD];refine kck (fun e=>?_) (fun e=>?_)
  .rw[show decide (0<=x/\x<n)=decide (x<n)from ?_]at hR
   .exact hR
   .simp[zO e]
  .rw[zF (fun z=>e (zT z.1))]at hR;exact hR
end
abbrev k02(ds:List bb0)(RS:Dt->Prop):Prop:=∃c t:Int,ds=[.int c,.int t]/\1<=t/\t<=16/\∀(m:Nat)(ts:List (Int×Int)),1<=m->(m:Int)<=t->IsSp m ts->RS (.d (spD m ts))
def krp{l:List Int}{j:Nat}(h:j<l.length):(l[j]::l.eraseIdx j).Perm l:=by
 rw[List.eraseIdx_eq_take_drop_succ];have e:l=l.take j++l[j]::l.drop (j+1):=by rw[<- bk5 h,bm2]
 exact List.perm_middle.symm.trans (.of_eq e.symm)
def kwv(m:Nat):((ba8 m).map fun(i:Nat)=>(i:Int)).Nodup:=by
 have:=kiu m
 rwa [be9]at this
def atN_{xs:List Int}{k:Nat}{x:Int}(h:xs[k]?=some x):atI (xs.map ba1) (k:Int)=some (.int x):=kb9 (by rw[bc8,h];rfl)
def drawn{fs os:List Int}{m k:Nat}{j:Nat}(hj:j<fs.length)(ol:os.length=k)(fl:fs.length+k=m)(nd:(os++fs).Nodup):(fs.map ba1)[j]?=some (.int fs[j])/\(fs.map ba1).eraseIdx j=(fs.eraseIdx j).map ba1/\(os++[fs[j]]).length=k+1/\(fs.eraseIdx j).length+(k+1)=m/\(os++[fs[j]]++fs.eraseIdx j).Nodup:=by
 refine⟨by rw[bc8,ba4 hj];rfl,by rw[ke3],by rw[bb4,ol];rfl,by rw[bl4 hj];lia,?_⟩;have p:(os++[fs[j]]++fs.eraseIdx j).Perm (os++fs):=by
  rw[bh6];exact(krp hj).append_left os
 exact p.nodup_iff.mpr nd
section
variable{P:bb9}{w:be5}{K:ba2}{mg:Str->Option ba6}{base:Heap}
def krq:FnScope ["cell","most","many","free","order","k","pairs","i","j"] ["cell","most"] (kaj sDig):=by ac_rfl
@[reducible]def F8(P)(w)(K)(mg)(base):=Fn P w K mg base "_law_closed" 1 ["many","pairs"] (spG K kgv)
def ok_Dg{f:Addr}{fd:be7}(F:Fun K "_law_by_digits" "_law_by_digits" sDig f fd)(T:Txt K mg)(GDCd:F8 P w K mg base):
 FnOk P w K mg base CX0 2 f fd ["cell","most"] (spG K k02):=by
 refine F.okG krq (fun ds RS h=>?_) (fun a A o s H E hr=>(kab (kap 2 (fun O=>krq.nd) (kao kc3 (kae).bw (kao kbo (kaf 0) (kaf 1)).bw))
  (kab (kap 0 (fun O=>krq.nd) (kao kbw (kaf 0) (kaf 1)))
  (kab (kbh 3 (fun O=>krq.nd) (kb4 (kaf 2) (fun O=>T.c) (fun O=>T.a)))
  (kab (kbh 4 (fun O=>krq.nd) (kbj kah))
  (kab (kbn nofun (ka6 (kaf 2) (fun O=>T.a)) (kaz 5 (fun O=>krq.nd)) (kab (kj7 4 3 (kao kbo (kaf 0) (kbv (kai 3) (fun O=>T.b)).bw).bw)
  (kag (kap 0 (fun O=>krq.nd) (kao kbw (kaf 0) (kao kgk (kaf 2) (kaf 5)).bw)))))
  (kab (kbh 6 (fun O=>krq.nd) (kbj kah))
  (kab (kbn nofun (ka6 (kaf 2) (fun O=>T.a)) (kaz 7 (fun O=>krq.nd)) (kag (kbn nofun (ka6 (kaf 7) (fun O=>T.a)) (kaz 8 (fun O=>krq.nd)) (kab (kba (kaw (kcg ∅) (kao kbo (kaf 0) (kae).bw).bw (kae).bw) (kag (keb 6 (kbf (kaa (kam (kai 4) (kaf 8)) (kaa (kam (kai 4) (kaf 7)) kah))))) kav)
  (kag (kap 0 (fun O=>krq.nd) (kao kbw (kaf 0) (kae).bw)))))))
  (kag (kax (kbf (kaa (kad 2) (kaa (kd0 GDCd ⋯ (kbz (kaf 2) (kbz (kaf 6) kfj))) kah))))))))))))) (fun ds RS h=>?_)
 .obtain⟨c,t,rfl,_⟩:=h;rfl
 .obtain⟨c0,t,rfl,t1,t16,hR⟩:=h;obtain⟨m,em,m1,mt⟩:=kmq c0 t t1 t16;exists fun env=>env=[dI c0,dI t,dI (m:Nat),.un,.un,.un,.un,.un,.un]
  .simp only[rD];rw[em];exact⟨by lia,hN _ rfl⟩
  rintro env rfl;exists fun env=>∃c:Int,env=[dI c,dI t,dI (m:Nat),.un,.un,.un,.un,.un,.un]
  .simp only[rD];exact⟨⟨by lia,by lia⟩,hN _ ⟨_,rfl⟩⟩
  rintro env⟨c,rfl⟩;exists fun env=>env=[dI c,dI t,dI (m:Nat),.o (((ba8 m).map fun(i:Nat)=>(i:Int)).map ba1),.un,.un,.un,.un,.un]
  .simp only[rD];rw[bc3,kjv];exact⟨by lia,by lia,hN _ (by rw[bc1];rfl)⟩
  rintro env rfl;exists fun env=>env=[dI c,dI t,dI (m:Nat),.o (((ba8 m).map fun(i:Nat)=>(i:Int)).map ba1),.o [],.un,.un,.un,.un]
  .simp only[rD];exact hN _ rfl
  rintro env rfl;exists fun env=>∃(c:Int)(fs os:List Int)(v5:Dt),env=[dI c,dI t,dI (m:Nat),iO fs,iO os,v5,.un,.un,.un]/\os.length=m/\os.Nodup
  .simp only[rD,kof];refine⟨by lia,by lia,fun k env=>∃(c:Int)(fs os:List Int)(v5:Dt),env=[dI c,dI t,dI (m:Nat),iO fs,iO os,v5,.un,.un,.un]/\os.length=k/\fs.length+k=m/\(os++fs).Nodup,⟨_,(ba8 m).map fun(i:Nat)=>(i:Int),[],_,rfl,rfl,by simp,kwv m⟩,?_,?_⟩
   .rintro k y env hy⟨c,fs,os,v5,rfl,ol,fl,nd⟩;obtain⟨hk,rfl⟩:=kb7 hy;rw[bc3]at hk;simp only[rD];rw[bp8,ba3,ba3];have r0:0<=c % (fs.length:Int):=bp9 _ (by lia);have r1:c % (fs.length:Int)<fs.length:=bp2 _ (by lia);obtain⟨j,hj⟩:=bi3 r0;have hj':j<fs.length:=(by lia)
    obtain⟨d1,d2,d3,d4,d5⟩:=drawn hj' ol fl nd;refine⟨by lia,by lia,by lia,j,hj,_,d1,by lia,⟨by lia,by lia⟩,c/((m:Int)-k),fs.eraseIdx j,os++[fs[j]],dI (k:Nat),?_,d3,d4,d5⟩;unfold iO;rw[d2,be3];rfl
   .rintro env⟨c,fs,os,v5,rfl,ol,fl,nd⟩;rw[kb0,bc3]at ol;exact hN _ ⟨c,fs,os,v5,rfl,ol,(bw4.mp nd).1⟩
  rintro env⟨c,fs,os,v5,rfl,ol,nd⟩;exists fun env=>env=[dI c,dI t,dI (m:Nat),iO fs,iO os,v5,.o [],.un,.un]
  .simp only[rD];exact hN _ rfl
  rintro env rfl;exists fun env=>∃(c:Int)(ps:List (Int×Int))(v7 v8:Dt),env=[dI c,dI t,dI (m:Nat),iO fs,iO os,v5,.o (ps.map pD),v7,v8]/\∀q∈ps,Up os q
  .simp only[rD,kof];refine⟨by lia,by lia,fun i env=>∃(c:Int)(ps:List (Int×Int))(v7 v8:Dt),env=[dI c,dI t,dI (m:Nat),iO fs,iO os,v5,.o (ps.map pD),v7,v8]/\(∀ q∈ps,Up os q)/\ps.length<=16*i,⟨c,[],_,_,rfl,fun q hq=>(by cases hq),bb7 _⟩,?_,?_⟩
   .rintro i y env hy⟨c,ps,v7,v8,rfl,up,pl⟩;obtain⟨hi,rfl⟩:=kb7 hy;rw[bc3]at hi;rw[bp8];simp only[rD];refine⟨by lia,by lia,fun j env=>∃(c:Int)(ps:List (Int×Int))(v8:Dt),env=[dI c,dI t,dI (m:Nat),iO fs,iO os,v5,.o (ps.map pD),dI (i:Nat),v8]/\(∀ q∈ps,Up os q)/\ps.length<=16*i+j,⟨c,ps,_,rfl,up,pl⟩,?_,?_⟩
    .rintro j y env hy⟨c,ps,v8,rfl,up,pl⟩;obtain⟨hj,rfl⟩:=kb7 hy;rw[bc3]at hj;simp only[rD];rw[bp8];refine⟨by decide,okI _,okI _,.inl (shI _),kck (fun O=>?_) (fun O=>⟨⟨by decide,by decide⟩,_,ps,_,rfl,up,by lia⟩)⟩;have oj:j<os.length:=(by lia)
     have oi:i<os.length:=(by lia)
     refine⟨_,atN_ (ba4 oj),_,atN_ (ba4 oi),by rw[ba3];lia,⟨by decide,by decide⟩,_,ps++[(os[j],os[i])],_,by rw[be3];rfl,kh7 up hj oj oi,by rw[bb4,bf8];lia⟩
    .rintro env⟨c,ps,v8,rfl,up,pl⟩;rw[kb0,bc3]at pl;exact⟨c,ps,_,v8,rfl,up,by lia⟩
   .rintro env⟨c,ps,v7,v8,rfl,up,_⟩;exact hN _ ⟨c,ps,v7,v8,rfl,up⟩
  rintro env⟨c,ps,v7,v8,rfl,up⟩;simp only[rD];exact⟨m,ps,rfl,by lia,_,rfl,kbq _,hR m _ m1 mt (kwq nd up)⟩
def krr:FnScope ["cell","most","many","free","order","k","share","half","pairs","i","j","drawn"] ["cell","most"] (kaj sMix):=by ac_rfl
@[reducible]def F11(P)(w)(K)(mg)(base):=Fn P w K mg base "_law_draw" 1 ["cell","k","bound"] (spG K kve)
def ok_Mx{f:Addr}{fd:be7}(F:Fun K "_law_mixed" "_law_mixed" sMix f fd)(T:Txt K mg)(GDCd:F8 P w K mg base)(GDDr:F11 P w K mg base):
 FnOk P w K mg base CX0 2 f fd ["cell","most"] (spG K k02):=by
 refine F.okG krr (fun ds RS h=>?_) (fun a A o s H E hr=>(kab (kap 2 (fun O=>krr.nd) (kao kc3 (kae).bw (kao kbo (kaf 0) (kaf 1)).bw))
  (kab (kbh 3 (fun O=>krr.nd) (kb4 (kaf 2) (fun O=>T.c) (fun O=>T.a)))
  (kab (kbh 4 (fun O=>krr.nd) (kbj kah))
  (kab (kbn nofun (ka6 (kaf 2) (fun O=>T.a)) (kaz 5 (fun O=>krr.nd)) (kag (kj7 4 3 (kal GDDr ⋯ (kaa (kao kbw (kaf 0) (kae).bw) (kaa (kad 5) (kaa (kbv (kai 3) (fun O=>T.b)) kah)))).bw)))
  (kab (kap 6 (fun O=>krr.nd) (kao kc3 (kae).bw (kal GDDr ⋯ (kaa (kao kbw (kaf 0) (kae).bw) (kaa (kae) (kaa (kae) kah)))).bw))
  (kab (kap 7 (fun O=>krr.nd) (kao kbw (kao kdn (kaf 2) (kal GDDr ⋯ (kaa (kao kbw (kaf 0) (kae).bw) (kaa (kae) (kaa (kae) kah)))).bw).bw (kae).bw))
  (kab (kbh 8 (fun O=>krr.nd) (kbj kah))
  (kab (kbn nofun (ka6 (kaf 2) (fun O=>T.a)) (kaz 9 (fun O=>krr.nd)) (kag (kbn nofun (ka6 (kaf 9) (fun O=>T.a)) (kaz 10 (fun O=>krr.nd)) (kab (kap 11 (fun O=>krr.nd) (kal GDDr ⋯ (kaa (kao kbw (kaf 0) (kae).bw) (kaa (kao kc3 (kao kc3 (kae).bw (kao kdn (kae).bw (kaf 9)).bw).bw (kaf 10)) (kaa (kam (kbj (kaa (kad 6) (kaa (kae) kah))).q (kl2 (kc2 kpb (kaf 7) (kae).bw).bw (fun O=>T.int)).bw) kah)))))
  (kag (kba ((kd8 ((kfy (kaw (kcg ∅) (kaf 7) (kae).bw) (kek (kaw (kcg ∅) (kaf 11) (kae).bw))).t) (kdj ((kfy (khw kkn ktp (kaf 10) (kaf 7) (kaf 9)) (kek (kaw kpb (kaf 11) (kae).bw))).t))).t) (kag (keb 8 (kbf (kaa (kam (kai 4) (kaf 10)) (kaa (kam (kai 4) (kaf 9)) kah))))) kav))))))
  (kag (kax (kbf (kaa (kad 2) (kaa (kd0 GDCd ⋯ (kbz (kaf 2) (kbz (kaf 8) kfj))) kah)))))))))))))) (fun ds RS h=>?_)
 .obtain⟨c,t,rfl,_⟩:=h;rfl
 .obtain⟨c,t,rfl,t1,t16,hR⟩:=h;obtain⟨m,em,m1,mt⟩:=kmq c t t1 t16;exists fun env=>env=[dI c,dI t,dI (m:Nat),.un,.un,.un,.un,.un,.un,.un,.un,.un]
  .simp only[rD];rw[em];exact⟨by lia,hN _ rfl⟩
  rintro env rfl;exists fun env=>env=[dI c,dI t,dI (m:Nat),.o (((ba8 m).map fun(i:Nat)=>(i:Int)).map ba1),.un,.un,.un,.un,.un,.un,.un,.un]
  .simp only[rD];rw[bc3,kjv];exact⟨by lia,by lia,hN _ (by rw[bc1];rfl)⟩
  rintro env rfl;exists fun env=>env=[dI c,dI t,dI (m:Nat),.o (((ba8 m).map fun(i:Nat)=>(i:Int)).map ba1),.o [],.un,.un,.un,.un,.un,.un,.un]
  .simp only[rD];exact hN _ rfl
  rintro env rfl;exists fun env=>∃(fs os:List Int)(v5:Dt),env=[dI c,dI t,dI (m:Nat),iO fs,iO os,v5,.un,.un,.un,.un,.un,.un]/\os.length=m/\os.Nodup
  .simp only[rD,kof];refine⟨by lia,by lia,fun k env=>∃(fs os:List Int)(v5:Dt),env=[dI c,dI t,dI (m:Nat),iO fs,iO os,v5,.un,.un,.un,.un,.un,.un]/\os.length=k/\fs.length+k=m/\(os++fs).Nodup,⟨(ba8 m).map fun(i:Nat)=>(i:Int),[],_,rfl,rfl,by simp,kwv m⟩,?_,?_⟩
   .rintro k y env hy⟨fs,os,v5,rfl,ol,fl,nd⟩;obtain⟨hk,rfl⟩:=kb7 hy;rw[bc3]at hk;simp only[rD];rw[bp8,ba3,ba3];refine⟨by lia,by lia,⟨by decide,by decide⟩,_,_,_,rfl,by lia,fun r r0 r1=>?_⟩;obtain⟨j,rfl⟩:=bi3 r0;obtain⟨d1,d2,d3,d4,d5⟩:=drawn (j:=j) (by lia) ol fl nd;refine⟨_,rfl,j,rfl,_,d1,by lia,fs.eraseIdx j,os++[fs[j]],dI (k:Nat),?_,d3,d4,d5⟩;unfold iO;rw[d2,be3];rfl
   .rintro env⟨fs,os,v5,rfl,ol,fl,nd⟩;rw[kb0,bc3]at ol;exact hN _ ⟨fs,os,v5,rfl,ol,(bw4.mp nd).1⟩
  rintro env⟨fs,os,v5,rfl,ol,nd⟩;exists fun env=>∃sh:Int,env=[dI c,dI t,dI (m:Nat),iO fs,iO os,v5,dI sh,.un,.un,.un,.un,.un]/\0<sh
  .simp only[rD];exact⟨⟨by decide,by decide⟩,_,_,_,rfl,by decide,fun sh s0 O=>⟨_,rfl,sh,rfl,hN _ ⟨_,rfl,by lia⟩⟩⟩
  rintro env⟨sh,rfl,s2⟩;exists fun env=>∃hf:Int,env=[dI c,dI t,dI (m:Nat),iO fs,iO os,v5,dI sh,dI hf,.un,.un,.un,.un]
  .simp only[rD];exact⟨⟨by decide,by decide⟩,_,_,_,rfl,by decide,fun hf O O=>⟨_,rfl,hf,rfl,.inl ⟨by lia,by lia⟩,⟨by decide,by decide⟩,hN _ ⟨_,rfl⟩⟩⟩
  rintro env⟨hf,rfl⟩;exists fun env=>env=[dI c,dI t,dI (m:Nat),iO fs,iO os,v5,dI sh,dI hf,.o [],.un,.un,.un]
  .simp only[rD];exact hN _ rfl
  rintro env rfl;exists fun env=>∃(ps:List (Int×Int))(v9 v10 v11:Dt),env=[dI c,dI t,dI (m:Nat),iO fs,iO os,v5,dI sh,dI hf,.o (ps.map pD),v9,v10,v11]/\∀q∈ps,Up os q
  .refine⟨_,_,rfl,rfl,((m:Nat):Int),rfl,by lia,by lia,fun i env=>∃(ps:List (Int×Int))(v9 v10 v11:Dt),env=[dI c,dI t,dI (m:Nat),iO fs,iO os,v5,dI sh,dI hf,.o (ps.map pD),v9,v10,v11]/\(∀ q∈ps,Up os q)/\ps.length<=16*i,⟨[],_,_,_,rfl,fun q hq=>(by cases hq),bb7 _⟩,?_,?_⟩
   .rintro i y env hy⟨ps,v9,v10,v11,rfl,up,pl⟩;obtain⟨hi,rfl⟩:=kb7 hy;rw[bc3]at hi;rw[bp8];refine⟨_,_,rfl,rfl,((i:Nat):Int),rfl,by lia,by lia,fun j env=>∃(ps:List (Int×Int))(v10 v11:Dt),env=[dI c,dI t,dI (m:Nat),iO fs,iO os,v5,dI sh,dI hf,.o (ps.map pD),dI (i:Nat),v10,v11]/\(∀ q∈ps,Up os q)/\ps.length<=16*i+j,⟨ps,_,_,rfl,up,pl⟩,?_,?_⟩
    .rintro j y env hy⟨ps,v10,v11,rfl,up,pl⟩;obtain⟨hj,rfl⟩:=kb7 hy;rw[bc3]at hj;rw[bp8];have oj:j<os.length:=(by lia)
     have oi:i<os.length:=(by lia)
     exists fun env=>∃d:Int,env=[dI c,dI t,dI (m:Nat),iO fs,iO os,v5,dI sh,dI hf,.o (ps.map pD),dI (i:Nat),dI (j:Nat),dI d]
     .simp only[rD];obtain⟨b,hb,b0⟩: ∃b:Int,atI [ba1 sh,.int 3] (if decide (0<hf)=true then 1 else 0)=some (.int b)/\0<b:=by
       by_cases hh:0<hf
       .rw[zT hh];exact⟨3,at1 _ _ _,by decide⟩
       .rw[zF hh];exact⟨sh,at0 _ _,s2⟩
      exact⟨⟨by decide,by decide⟩,.inl ⟨by decide,by decide⟩,_,hb,_,_,_,rfl,b0,fun d O O=>⟨_,rfl,hN _ ⟨d,rfl⟩⟩⟩
     rintro env⟨d,rfl⟩;simp only[rD];refine⟨okI _,okI _,.inl (shI _),kck (fun O=>⟨okI _,okI _,.inl (shI _),kck (fun O=>?_) (fun O=>kck (fun O=>kck (fun O=>kck (fun O=>?_) (fun O=>?_)) (fun O=>?_)) (fun O=>?_))⟩) (fun O=>(zN id).mpr (kck (fun O=>kck (fun O=>kck (fun O=>?_) (fun O=>?_)) (fun O=>?_)) (fun O=>?_)))⟩ <;>
      first|exact⟨ps,_,_,rfl,up,by lia⟩|exact⟨_,atN_ (ba4 oj),_,atN_ (ba4 oi),by rw[ba3];lia,ps++[(os[j],os[i])],_,_,by rw[be3];rfl,kh7 up hj oj oi,by rw[bb4,bf8];lia⟩
    .rintro env⟨ps,v10,v11,rfl,up,pl⟩;rw[kb0,bc3]at pl;exact⟨ps,_,v10,v11,rfl,up,by lia⟩
   .rintro env⟨ps,v9,v10,v11,rfl,up,_⟩;exact hN _ ⟨ps,v9,v10,v11,rfl,up⟩
  rintro env⟨ps,v9,v10,v11,rfl,up⟩;simp only[rD];exact⟨m,ps,rfl,by lia,_,rfl,kbq _,hR m _ m1 mt (kwq nd up)⟩
def k3t:FnScope ["script","at","most","cell"] ["script","at","most"] (kaj krf):=by ac_rfl
@[reducible]def F12(P)(w)(K)(mg)(base):=Fn P w K mg base "_law_raw" 1 ["script","k"] (spG K kk8)
def k3u{f:Addr}{fd:be7}(F:Fun K "_law_space" "_law_space" krf f fd)(T:Txt K mg)(GDRw:F12 P w K mg base)(GDSt:F7 P w K mg base)(GDg:Fn P w K mg base "_law_by_digits" 2 ["cell","most"] (spG K k02))(GMx:Fn P w K mg base "_law_mixed" 2 ["cell","most"] (spG K k02)):
 FnOk P w K mg base CX0 3 f fd ["script","at","most"] (spG K kmr):=by
 refine F.okG k3t (fun ds RS h=>?_) (fun a A o s H E hr=>(kab (kap 3 (fun O=>k3t.nd) (kal GDRw ⋯ (kaa (kad 0) (kaa (kad 1) kah))))
  (kab (kba (kaw (kcg ∅) (kao kbo (kaf 3) (kae).bw).bw (kae).bw) (kag (kax (kal GDg ⋯ (kaa (kao kbw (kaf 3) (kae).bw) (kaa (kad 2) kah))))) kav)
  (kag (kax (kal GMx ⋯ (kaa (kal GDSt ⋯ (kaa (kad 3) kah)) (kaa (kad 2) kah)))))))) (fun ds RS h=>?_)
 .obtain⟨ns,k,t,rfl,_⟩:=h;rfl
 .obtain⟨ns,k,t,rfl,t1,t16,hR⟩:=h;simp only[rD];refine⟨ns,k,rfl,fun c=>⟨_,rfl,c,rfl,by decide,okI _,okI _,.inl (shI _),kck (fun O=>?_) (fun O=>?_)⟩⟩
  .exact⟨c,rfl,⟨by decide,by decide⟩,_,t,rfl,t1,t16,fun m ts h1 h2 h3=>⟨_,rfl,hR m ts h1 h2 h3⟩⟩
  .exact⟨_,rfl,fun r=>⟨_,rfl,_,t,rfl,t1,t16,fun m ts h1 h2 h3=>⟨_,rfl,hR m ts h1 h2 h3⟩⟩⟩
end
abbrev mB(n:Int)(ps:List (Int×Int))(m:Int)(qs:List (Int×Int))(xs:List Int):Bool:= @decide (kho n ps m qs xs) (bm6 _)
def kgy{n:Int}{ps:List (Int×Int)}{m:Int}{qs:List (Int×Int)}{xs:List Int}:mB n ps m qs xs=true↔kho n ps m qs xs:= @decide_eq_true_iff _ (bm6 _)
abbrev Prow(Rb:Int->List (Int×Int)->Int->List (Int×Int)->List Int->Bool)(ds:List bb0)(RS:Dt->Prop):Prop:=∃(n m:Int)(ps qs:List (Int×Int))(xs:List Int),ds=[spD n ps,spD m qs,ka9 xs]/\(∀ q∈ps,inR n q)/\RS (.d (.bool (Rb n ps m qs xs)))
def kiv(xs:List Int):ko7 (ka9 xs)=some (xs.map ba1):=rfl
abbrev kgz(qs:List (Int×Int))(xs ys:List Int):Bool:=decide (xs.length=ys.length)&&(xs.zip ys).all fun p=>kev qs p.1 p.2
abbrev kla(ds:List bb0)(RS:Dt->Prop):Prop:=∃(m:Int)(qs:List (Int×Int))(xs ys:List Int),ds=[spD m qs,ka9 xs,ka9 ys]/\RS (.d (.bool ((xs.zip ys).all fun p=>kev qs p.1 p.2)))
def kmt(xs ys:List Int):kns (xs.map ba1) (ys.map ba1)=(xs.zip ys).map fun p=> .tuple [.int p.1,.int p.2]:=by
 unfold kns;rw[List.zip_map,bc1];rfl
section
variable{P:bb9}{w:be5}{K:ba2}{mg:Str->Option ba6}{base:Heap}
def kz7:FnScope ["one","other","row","point","a","b"] ["one","other","row"] (kaj kz2):=by ac_rfl
@[reducible]def F13(P)(w)(K)(mg)(base):=Fn P w K mg base "_law_leq" 1 ["space","a","b"] (spG K kwu)
def k3v{f:Addr}{fd:be7}(F:Fun K "_law_is_map" "_law_is_map" kz2 f fd)(T:Txt K mg)(GDWh:Fn P w K mg base "_law_whole" 1 ["found"] (spG K krl))(GDLq:F13 P w K mg base):
 FnOk P w K mg base CX0 2 f fd ["one","other","row"] (spG K (Prow mB)):=by
 refine F.okG kz7 (fun ds RS h=>?_) (fun a A o s H E hr=>(kab (kba ((kd8 (kbx (kbi (kfz (kaf 2) kis (fun O=>T.d) (fun O=>T.g)).bw)) (kdj (kaw (kdm ∅) (kbv (kai 2) (fun O=>T.b)).bw (kam (kai 0) (kae).bw).bw))).t) (kag (kax (kcl))) kav)
  (kab (kbn nofun (ka8 (kad 2)) (kaz 3 (fun O=>kz7.nd)) (kag (kba ((kd8 (kbx (kbi (kal GDWh ⋯ (kaa (kad 3) kah)).bw)) (kdj (kbx (khw ktp kkn (kae).bw (kaf 3) (kam (kai 1) (kae).bw).bw)))).t) (kag (kax (kcl))) kav)))
  (kab (kbn nofun (ka8 (kam (kai 0) (kae).bw)) (kcb 4 5 (fun O=>kz7.nd)) (kag (kba (kbx (kbi (kal GDLq ⋯ (kaa (kad 1) (kaa (kam (kai 2) (kaf 4)) (kaa (kam (kai 2) (kaf 5)) kah)))).bw)) (kag (kax (kcl))) kav)))
  (kag (kax (kcl))))))) (fun ds RS h=>?_)
 .obtain⟨n,m,ps,qs,xs,rfl,_⟩:=h;rfl
 .obtain⟨n,m,ps,qs,xs,rfl,hin,hR⟩:=h;have no: ¬kho n ps m qs xs->RS (.d (.bool false)):=fun z=>by
   rw[show mB n ps m qs xs=false from(by cases e:mB n ps m qs xs with|false=>rfl|true=>exact zA (kgy.mp e) z)]at hR;exact hR
  exists fun env=>env=[.d (spD n ps),.d (spD m qs),.d (ka9 xs),.un,.un,.un]/\(xs.length:Int)=n
  .simp only[rD,kiv,ka4,at0];refine⟨rfl,_,T.ktt,kff rfl ⟨okI _,okI _,.inl (shI _),?_⟩⟩;rw[ka1,ba3];exact kck (fun e=>no fun z=>by rw[z.1]at e;simp at e) (fun e=>hN _ ⟨rfl,by simpa using e⟩)
  rintro env⟨rfl,xl⟩;exists fun env=>∃v,env=[.d (spD n ps),.d (spD m qs),.d (ka9 xs),v,.un,.un]/\∀x∈xs,0<=x/\x<m
  .simp only[rD,kof,kiv];refine⟨fun k env=>∃v,env=[.d (spD n ps),.d (spD m qs),.d (ka9 xs),v,.un,.un]/\∀(j:Nat)(x:Int),j<k->xs[j]?=some x->0<=x/\x<m,⟨_,rfl,fun j x hj=>zA hj (bj6 _)⟩,?_,?_⟩
   .rintro k y env hy⟨v,rfl,good⟩;rw[bc8]at hy;obtain⟨x,hx,rfl⟩:=be2.mp hy;simp only[rD,ka4,at0];have bad:=fun(z: ¬(0<=x/\x<m))=>no fun q=>z (q.2.1 x (bd9 hx));refine⟨x,rfl,_,rfl,_,rfl,kff rfl (kck (fun e1=>kck (fun e2=>bad fun z=>?_) (fun e2=>⟨_,rfl,fun j z hj hz=>?_⟩)) (fun e1=>bad fun z=>e1 (zT z.1)))⟩
    .rw[zT z.2]at e2;cases e2
    .rcases bj7.mp hj with q|q
     .exact good j z q hz
     .subst q;rw[hx]at hz;cases hz;exact⟨zO e1,by simpa using e2⟩
   .rintro env⟨v,rfl,good⟩;refine hN _ ⟨_,rfl,fun x hx=>?_⟩;obtain⟨j,hj,e⟩:=bf3 hx;exact good j x (by rw[ba3];exact hj) (by rw[<- e];exact ba4 hj)
  rintro env⟨v,rfl,all⟩;simp only[rD,kof,ka4,at1];refine⟨fun k env=>∃va vb,env=[.d (spD n ps),.d (spD m qs),.d (ka9 xs),v,va,vb]/\∀(j:Nat)(p:Int×Int),j<k->ps[j]?=some p->kfu qs (gt xs p.1) (gt xs p.2),⟨_,_,rfl,fun j x hj=>zA hj (bj6 _)⟩,?_,?_⟩
  .rintro k y env hy⟨va,vb,rfl,good⟩;rw[bc8]at hy;obtain⟨p,hp,rfl⟩:=be2.mp hy;obtain⟨g1,g2,g3,g4⟩:=hin p (bd9 hp);refine⟨_,_,rfl,?_⟩;simp only[rD,kiv];refine⟨_,kc1 g1 (by lia),_,kc1 g3 (by lia),m,qs,_,_,rfl,_,rfl,_,rfl,?_⟩;cases e:kev qs (xs.getD p.1.toNat 0) (xs.getD p.2.toNat 0)with
   | true=>
     refine kff rfl ⟨_,_,rfl,fun j q hj hq=>?_⟩;rcases bj7.mp hj with z|z
     .exact good j q z hq
     .subst z;rw[hp]at hq;cases hq;exact kbc.mp e
   | false=>exact no fun z=>zA (kbc.mpr (z.2.2 p (bd9 hp))) (by rw[show kev qs (gt xs p.1) (gt xs p.2)=false from e];exact bb6)
  .rintro env⟨va,vb,rfl,good⟩;rw[kgy.mpr ⟨xl,all,fun p hp=>?_⟩]at hR
   .exact hR
   .obtain⟨j,hj,e⟩:=bf3 hp;exact good j p (by rw[ba3];exact hj) (by rw[<- e];exact ba4 hj)
def scLb:FnScope ["other","first","second","a","b"] ["other","first","second"] (kaj kds):=by ac_rfl
def ok_Lb{f:Addr}{fd:be7}(F:Fun K "_law_below" "_law_below" kds f fd)(T:Txt K mg)(GDLq:F13 P w K mg base):
 FnOk P w K mg base CX0 2 f fd ["other","first","second"] (spG K kla):=by
 refine F.okG scLb (fun ds RS h=>?_) (fun a A o s H E hr=>(kab (kbn nofun (k2m (kad 1) (kad 2) (fun O=>T.zip)) (kcb 3 4 (fun O=>scLb.nd)) (kag (kba (kbx (kbi (kal GDLq ⋯ (kaa (kad 0) (kaa (kad 3) (kaa (kad 4) kah)))).bw)) (kag (kax (kcl))) kav)))
  (kag (kax (kcl))))) (fun ds RS h=>?_)
 .obtain⟨m,qs,xs,ys,rfl,_⟩:=h;rfl
 .obtain⟨m,qs,xs,ys,rfl,hR⟩:=h;refine⟨_,rfl,_,rfl,_,_,.inr ⟨rfl,rfl⟩,fun k env=>∃va vb,env=[.d (spD m qs),.d (ka9 xs),.d (ka9 ys),va,vb]/\∀j p,j<k->(xs.zip ys)[j]?=some p->kev qs p.1 p.2=true,⟨_,_,rfl,fun j p h=>zA h (bj6 _)⟩,?_,?_⟩
  .rintro k y env hy⟨va,vb,rfl,good⟩;rw[kmt,bc8]at hy;obtain⟨p,hp,rfl⟩:=be2.mp hy;refine⟨_,_,rfl,_,rfl,_,rfl,_,rfl,m,qs,p.1,p.2,rfl,_,rfl,_,rfl,?_⟩;cases e:kev qs p.1 p.2 with
   | true=>
     refine⟨_,_,rfl,fun j q hj hq=>?_⟩;rcases bj7.mp hj with z|z
     .exact good j q z hq
     .subst z;rw[hp]at hq;cases hq;exact e
   | false=>
     have:((xs.zip ys).all fun p=>kev qs p.1 p.2)=false:=by
      rw[List.all_eq_false];exact⟨p,bd9 hp,by rw[e];exact bb6⟩
     rw[this]at hR;exact hR
  .rintro env⟨va,vb,rfl,good⟩;have:((xs.zip ys).all fun p=>kev qs p.1 p.2)=true:=by
    rw[bi0];intro p hp;obtain⟨j,hj,e⟩:=bf3 hp;exact good j p (by rw[kmt,ba3];exact hj) (by rw[<- e];exact ba4 hj)
   rw[this]at hR;exact hR
end
abbrev kg8(qs:List (Int×Int))(x y:List Int):Bool:=kgz qs x y||kgz qs y x
abbrev kka(n:Int)(ps:List (Int×Int))(m:Int)(qs:List (Int×Int))(rs:List (List Int)):Prop:=rs≠[]/\(∀ r∈rs,mB n ps m qs r=true)/\∀(k:Nat)(x y:List Int),rs[k]?=some x->rs[k+1]?=some y->kg8 qs x y=true
abbrev krs(ds:List bb0)(RS:Dt->Prop):Prop:=∃(n m:Int)(ps qs:List (Int×Int))(rs:List (List Int)),ds=[spD n ps,spD m qs,.list (rs.map ka9)]/\(∀ q∈ps,inR n q)/\rs.length<=1000/\∀b:Bool,(b=true↔kka n ps m qs rs)->RS (.d (.bool b))
def kkb(xs:List Int):okD (ka9 xs):=kbb xs
def krt(rs:List (List Int)):okD (.list (rs.map ka9)):=by
 show bd7 (rs.map ka9)=true;induction rs with
 | nil=>rfl
 | cons r rs ih=>
   show(bl2 (ka9 r)&&bd7 (rs.map ka9))=true;rw[ih,show bl2 (ka9 r)=true from kkb r];rfl
def kd5: ∀xs:List Int,bg8 (xs.map ba1)=0
 | []=>rfl
 | x::xs=>by
   show max (br3 (.int x)) (bg8 (xs.map ba1))=0;rw[kd5 xs];rfl
def kww(xs:List Int):khx (ka9 xs):=by
 show bg8 (xs.map ba1)+1<=9;rw[kd5];decide
def kz8(rs:List (List Int)):khx (.list (rs.map ka9)):=by
 have:bg8 (rs.map ka9)<=1:=by
  induction rs with
  | nil=>exact bf7 _
  | cons r rs ih=>
    show max (br3 (ka9 r)) (bg8 (rs.map ka9))<=1;have:br3 (ka9 r)=1:=by
     show bg8 (r.map ba1)+1=1;rw[kd5]
    lia
 show bg8 (rs.map ka9)+1<=9;lia
def kiw: ∀xs ys:List Int,bl9 (xs.map ba1) (ys.map ba1)=decide (xs=ys)
 | [],[]=>rfl
 | [],_::_=>rfl
 | _::_,[]=>rfl
 | x::xs,y::ys=>by
   show(bg3 (.int x) (.int y)&&bl9 (xs.map ba1) (ys.map ba1))=_;rw[ka1,kiw xs ys];by_cases h1:x=y <;> by_cases h2:xs=ys <;> simp[h1,h2]
def klb(xs ys:List Int):bg3 (ka9 xs) (ka9 ys)=decide (xs=ys):=kiw xs ys
def kmu: ∀rs ss:List (List Int),bl9 (rs.map ka9) (ss.map ka9)=decide (rs=ss)
 | [],[]=>rfl
 | [],_::_=>rfl
 | _::_,[]=>rfl
 | x::xs,y::ys=>by
   show(bg3 (ka9 x) (ka9 y)&&bl9 (xs.map ka9) (ys.map ka9))=_;rw[klb,kmu xs ys];by_cases h1:x=y <;> by_cases h2:xs=ys <;> simp[h1,h2]
def kru(rs ss:List (List Int)):bg3 (.list (rs.map ka9)) (.list (ss.map ka9))=decide (rs=ss):=kmu rs ss
def kix{rs:List (List Int)}{k:Nat}{r:List Int}(h:rs[k]?=some r):atI (rs.map ka9) (k:Int)=some (ka9 r):=kb9 (by rw[bc8,h];rfl)
def kmv{n:Int}{ps:List (Int×Int)}{m:Int}{qs:List (Int×Int)}{x y:List Int}(hx:mB n ps m qs x=true)(hy:mB n ps m qs y=true):((x.zip y).all fun p=>kev qs p.1 p.2)=kgz qs x y:=by
 have h1:=(kgy.mp hx).1;have h2:=(kgy.mp hy).1;unfold kgz;rw[zT (show x.length=y.length by lia)];rfl
section
variable{P:bb9}{w:be5}{K:ba2}{mg:Str->Option ba6}{base:Heap}
def scLx:FnScope ["one","other","rows","k"] ["one","other","rows"] (kaj kcr):=by ac_rfl
@[reducible]def F14(P)(w)(K)(mg)(base):=Fn P w K mg base "_law_is_map" 2 ["one","other","row"] (spG K (Prow mB))
def ok_Lx{f:Addr}{fd:be7}(F:Fun K "_law_is_fence" "_law_is_fence" kcr f fd)(T:Txt K mg)(GDLm:F14 P w K mg base)(GLb:Fn P w K mg base "_law_below" 2 ["other","first","second"] (spG K kla)):
 FnOk P w K mg base CX0 3 f fd ["one","other","rows"] (spG K krs):=by
 refine F.okG scLx (fun ds RS h=>?_) (fun a A o s H E hr=>(kab (kba ((kd8 (kaw (kcg ∅) (kaf 2) (kbj kah).bw) (kdj (kbx (kbi (kal GDLm ⋯ (kaa (kad 0) (kaa (kad 1) (kaa (kam (kai 2) (kae).bw) kah)))).bw)))).t) (kag (kax (kcl))) kav)
  (kab (kbn nofun (kpi (kae).bw (kbv (kai 2) (fun O=>T.b)).bw (fun O=>T.a)) (kaz 3 (fun O=>scLx.nd)) (kab (kba (kbx (kbi (kal GDLm ⋯ (kaa (kad 0) (kaa (kad 1) (kaa (kam (kai 2) (kaf 3)) kah)))).bw)) (kag (kax (kcl))) kav)
  (kag (kba ((kfy (kbx (kbi (kal GLb ⋯ (kaa (kad 1) (kaa (kam (kai 2) (kao kgk (kaf 3) (kae).bw).bw) (kaa (kam (kai 2) (kaf 3)) kah)))).bw)) (kek (kbx (kbi (kal GLb ⋯ (kaa (kad 1) (kaa (kam (kai 2) (kaf 3)) (kaa (kam (kai 2) (kao kgk (kaf 3) (kae).bw).bw) kah)))).bw)))).t) (kag (kax (kcl))) kav))))
  (kag (kax (kcl)))))) (fun ds RS h=>?_)
 .obtain⟨n,m,ps,qs,rs,rfl,_⟩:=h;rfl
 .obtain⟨n,m,ps,qs,rs,rfl,hin,hz,hR⟩:=h;refine⟨_,_,rfl,rfl,bf7 _,krt rs,rfl,.inl (kz8 rs),_,rfl,?_⟩;have no: ¬kka n ps m qs rs->RS (.d (.bool false)):=fun hn=>hR false ⟨fun z=>zA z bb6,fun z=>zA z hn⟩;rw[show bg3 (.list (rs.map ka9)) (.list [])=decide (rs=[])from kru rs []];refine kck (fun e=>?_) (fun e=>?_)
  .exact no fun z=>z.1 (zO e)
  have hne:rs≠[]:=fun z=>e (zT z);obtain⟨r0,rs',rfl⟩:=b46 hne;refine⟨_,rfl,_,rfl,_,_,rfl,rfl,_,_,rfl,kix (k:=0) rfl,n,m,ps,qs,r0,rfl,hin,_,rfl,_,rfl,?_⟩;cases e0:mB n ps m qs r0 with
  | false=>exact no fun z=>by rw[z.2.1 r0 bb8]at e0;cases e0
  | true=>
    refine⟨_,_,rfl,rfl,1,_,rfl,rfl,⟨by decide,by decide,by lia,?_⟩,?_,?_⟩
    .rw[ba3];lia
    .rw[ba3];lia
    rw[ba3];generalize hrs:r0::rs'=rs at*;refine⟨fun k env=>∃va,env=[.d (spD n ps),.d (spD m qs),.d (.list (rs.map ka9)),va]/\(∀ j r,j<k+1->rs[j]?=some r->mB n ps m qs r=true)/\∀j x y,j<k->rs[j]?=some x->rs[j+1]?=some y->kg8 qs x y=true,⟨_,rfl,fun j r hj hr=>?_,fun j p q h=>zA h (bj6 _)⟩,?_,?_⟩
    .have:j=0:=(by lia)
     subst this;rw[<- hrs]at hr;cases hr;exact e0
    .rintro k y env hy⟨va,rfl,g1,g2⟩;obtain⟨hk,rfl⟩:=kb7 hy;have hk':k+1<rs.length:=(by lia)
     have h1:rs[k+1]?=some rs[k+1]:=ba4 hk';have h0:rs[k]?=some rs[k]:=ba4 (by lia);have ek:(1:Int)+(k:Int)=((k+1:Nat):Int):=(by lia)
     have ek2:(1:Int)+(k:Int)-1=((k:Nat):Int):=(by lia)
     generalize rs[k+1]=y1 at h1;generalize rs[k]=y0 at h0;have m0:=g1 k y0 (by lia) h0;have ek3:((k+1:Nat):Int)-1=(k:Int):=(by lia)
     simp only[rD,ek,ek3,kix h1,kix h0];refine⟨n,m,ps,qs,y1,rfl,hin,_,rfl,_,rfl,?_⟩;cases e1:mB n ps m qs y1 with
     | false=>exact no fun z=>by rw[z.2.1 y1 (bd9 h1)]at e1;cases e1
     | true=>
       have next:kg8 qs y0 y1=true->∃va,([Dt.d (spD n ps),.d (spD m qs),.d (.list (rs.map ka9)),.d (.int ((k+1:Nat):Int))]:List Dt)=[.d (spD n ps),.d (spD m qs),.d (.list (rs.map ka9)),va]/\(∀ j r,j<k+1+1->rs[j]?=some r->mB n ps m qs r=true)/\∀j x y,j<k+1->rs[j]?=some x->rs[j+1]?=some y->kg8 qs x y=true:=fun hn=>⟨_,rfl,fun j r hj hr=>by
        rcases bj7.mp hj with z|z
        .exact g1 j r z hr
        .subst z;rw[h1]at hr;cases hr;exact e1,fun j x y hj hx hy2=>by
        rcases bj7.mp hj with z|z
        .exact g2 j x y z hx hy2
        .subst z;rw[h0]at hx;rw[h1]at hy2;cases hx;cases hy2;exact hn⟩
       refine⟨m,qs,y0,y1,rfl,_,rfl,_,rfl,?_⟩;rw[kmv m0 e1];cases e2:kgz qs y0 y1 with
       | true=>exact next (by unfold kg8;rw[e2];rfl)
       | false=>
         refine⟨m,qs,y1,y0,rfl,_,rfl,_,rfl,?_⟩;rw[kmv e1 m0];cases e3:kgz qs y1 y0 with
         | true=>exact next (by unfold kg8;rw[e2,e3];rfl)
         | false=>
           refine no fun z=>?_;have:=z.2.2 k y0 y1 h0 h1;unfold kg8 at this;rw[e2,e3]at this;cases this
    .rintro env⟨va,rfl,g1,g2⟩;have hl:(kel 1 ((rs.length:Int)-1).toNat).length=rs.length-1:=(by rw[kb0];lia)
     rw[hl]at g1 g2;refine hR true ⟨fun O=>⟨hne,fun r hr=>?_,fun k x y h1 h2=>g2 k x y ?_ h1 h2⟩,fun O=>rfl⟩
     .obtain⟨j,hj,e⟩:=bf3 hr;exact g1 j r (by lia) (by rw[<- e];exact ba4 hj)
     .have:=(bb3.mp h2).1;lia
def scPu:FnScope ["space","point"] ["space","point"] (kaj kcz):=by ac_rfl
def ok_Pu{f:Addr}{fd:be7}(F:Fun K "points_under" "points_under" kcz f fd)(T:Txt K mg):
 FnOk P w K mg base CX0 1 f fd ["space","point"] (spG K Ppu):=by
 refine F.okG scPu (fun ds RS h=>?_) (fun a A o s H E hr=>(kag (kcy (kcv (N':=["a","b","point"]) (fun O=>(.own (.own (.cap 1 rfl rfl rfl .nil)))) (ka8 (kam (kai 0) (kae).bw)) (kcb 0 1 (fun O=>(by decide +kernel:(["a","b","point"]:List Str).Nodup))) (kch (kaw (kcg ∅) (kaf 1) (kaf 2))) (kad 0))))) (fun ds RS h=>?_)
 .obtain⟨n,ps,p,rfl,_⟩:=h;rfl
 .obtain⟨n,ps,p,rfl,hR⟩:=h;simp only[rD,xLC,ka4,at1];refine⟨Gf ps pD (fun q=>decide (q.2=p)) (fun q=> .int q.1),fun y hy=>?_,fun o ho=>?_⟩
  .obtain⟨q,hq,rfl⟩:=bb1.mp hy;refine⟨_,_,rfl,okI _,okI _,.inl (shI _),?_⟩;rw[ka1];exact kck (fun e=>Gf.keep hq e rfl) (fun e=>Gf.skip hq (by simpa using e))
  .rw[Gf.out kee ho];unfold pu at hR;rw[bc1]at hR;exact hR
def scPo:FnScope ["space","point"] ["space","point"] (kaj kdd):=by ac_rfl
def ok_Po{f:Addr}{fd:be7}(F:Fun K "points_over" "points_over" kdd f fd)(T:Txt K mg):
 FnOk P w K mg base CX0 1 f fd ["space","point"] (spG K Ppo):=by
 refine F.okG scPo (fun ds RS h=>?_) (fun a A o s H E hr=>(kag (kcy (kcv (N':=["a","b","point"]) (fun O=>(.own (.own (.cap 1 rfl rfl rfl .nil)))) (ka8 (kam (kai 0) (kae).bw)) (kcb 0 1 (fun O=>(by decide +kernel:(["a","b","point"]:List Str).Nodup))) (kch (kaw (kcg ∅) (kaf 0) (kaf 2))) (kad 1))))) (fun ds RS h=>?_)
 .obtain⟨n,ps,p,rfl,_⟩:=h;rfl
 .obtain⟨n,ps,p,rfl,hR⟩:=h;simp only[rD,xLC,ka4,at1];refine⟨Gf ps pD (fun q=>decide (q.1=p)) (fun q=> .int q.2),fun y hy=>?_,fun o ho=>?_⟩
  .obtain⟨q,hq,rfl⟩:=bb1.mp hy;refine⟨_,_,rfl,okI _,okI _,.inl (shI _),?_⟩;rw[ka1];exact kck (fun e=>Gf.keep hq e rfl) (fun e=>Gf.skip hq (by simpa using e))
  .rw[Gf.out kee ho];unfold po at hR;rw[bc1]at hR;exact hR
def scLw:FnScope ["space","points","point"] ["space","points"] (kaj kil):=by ac_rfl
@[reducible]def F15(P)(w)(K)(mg)(base):=Fn P w K mg base "same_or_under" 1 ["space","a","b"] (spG K kwu)
def ok_Lw{f:Addr}{fd:be7}(F:Fun K "lowest" "lowest" kil f fd)(T:Txt K mg)(GDSm:F15 P w K mg base):
 FnOk P w K mg base CX0 2 f fd ["space","points"] (spG K Plow):=by
 refine F.okG scLw (fun ds RS h=>?_) (fun a A o s H E hr=>(kab (kbn nofun (ka8 (kad 1)) (kaz 2 (fun O=>scLw.nd)) (kag (kba (kbi (kpn (kcv (N':=["another","space","point"]) (fun O=>(.own (.cap 0 rfl rfl rfl (.cap 2 rfl rfl rfl .nil)))) (ka8 (kad 1)) (kaz 0 (fun O=>(by decide +kernel:(["another","space","point"]:List Str).Nodup))) kbe (kal GDSm ⋯ (kaa (kad 1) (kaa (kad 2) (kaa (kad 0) kah))))).l (fun O=>T.all)).bw) (kag (kb8 2)) kav)))
  (kag (kax (kb6))))) (fun ds RS h=>?_)
 .obtain⟨n,ps,pts,rfl,_⟩:=h;rfl
 .obtain⟨n,ps,pts,rfl,hR⟩:=h;refine⟨_,rfl,_,rfl,fun k env=>∃v,env=[.d (spD n ps),.d (.list (pts.map ba1)),v]/\∀(j:Nat)(y:Int),j<k->pts[j]?=some y->(pts.all fun a=>kev ps y a)=false,⟨_,rfl,fun j y h=>zA h (bj6 _)⟩,?_,?_⟩
  .rintro k y env hy⟨v,rfl,no⟩;rw[bc8]at hy;obtain⟨x,hx,rfl⟩:=be2.mp hy;simp only[rD,xLC];refine⟨Gf pts ba1 (fun O=>true) (fun a=> .bool (kev ps x a)),fun y hy=>?_,fun o ho=>?_⟩
   .obtain⟨y,hy2,rfl⟩:=bb1.mp hy;exact⟨n,ps,x,y,rfl,_,rfl,Gf.keep hy2 rfl rfl⟩
   .rw[Gf.all kbp ho];refine⟨pts.map fun a=>kev ps x a,by rw[bc1];rfl,?_⟩;rw[all_map];refine kck (fun e=>?_) (fun e=>⟨_,rfl,fun j z hj hz=>?_⟩)
    .have:kog ps pts=some x:=ke8 hx e no;rw[this]at hR;exact hR
    .rcases bj7.mp hj with q|q
     .exact no j z q hz
     .subst q;rw[hx]at hz;cases hz;simpa using e
  .rintro env⟨v,rfl,no⟩;have:kog ps pts=none:=ke9 fun j y hj hy=>no j y (by rw[ba3];exact hj) hy;rw[this]at hR;exact hR
def scHg:FnScope ["space","points","point"] ["space","points"] (kaj kgq):=by ac_rfl
def ok_Hg{f:Addr}{fd:be7}(F:Fun K "highest" "highest" kgq f fd)(T:Txt K mg)(GDSm:F15 P w K mg base):
 FnOk P w K mg base CX0 2 f fd ["space","points"] (spG K kz6):=by
 refine F.okG scHg (fun ds RS h=>?_) (fun a A o s H E hr=>(kab (kbn nofun (ka8 (kad 1)) (kaz 2 (fun O=>scHg.nd)) (kag (kba (kbi (kpn (kcv (N':=["another","space","point"]) (fun O=>(.own (.cap 0 rfl rfl rfl (.cap 2 rfl rfl rfl .nil)))) (ka8 (kad 1)) (kaz 0 (fun O=>(by decide +kernel:(["another","space","point"]:List Str).Nodup))) kbe (kal GDSm ⋯ (kaa (kad 1) (kaa (kad 0) (kaa (kad 2) kah))))).l (fun O=>T.all)).bw) (kag (kb8 2)) kav)))
  (kag (kax (kb6))))) (fun ds RS h=>?_)
 .obtain⟨n,ps,pts,rfl,_⟩:=h;rfl
 .obtain⟨n,ps,pts,rfl,hR⟩:=h;refine⟨_,rfl,_,rfl,fun k env=>∃v,env=[.d (spD n ps),.d (.list (pts.map ba1)),v]/\∀(j:Nat)(y:Int),j<k->pts[j]?=some y->(pts.all fun a=>kev ps a y)=false,⟨_,rfl,fun j y h=>zA h (bj6 _)⟩,?_,?_⟩
  .rintro k y env hy⟨v,rfl,no⟩;rw[bc8]at hy;obtain⟨x,hx,rfl⟩:=be2.mp hy;simp only[rD,xLC];refine⟨Gf pts ba1 (fun O=>true) (fun a=> .bool (kev ps a x)),fun y hy=>?_,fun o ho=>?_⟩
   .obtain⟨y,hy2,rfl⟩:=bb1.mp hy;exact⟨n,ps,y,x,rfl,_,rfl,Gf.keep hy2 rfl rfl⟩
   .rw[Gf.all kbp ho];refine⟨pts.map fun a=>kev ps a x,by rw[bc1];rfl,?_⟩;rw[all_map];refine kck (fun e=>?_) (fun e=>⟨_,rfl,fun j z hj hz=>?_⟩)
    .have:kgw ps pts=some x:=ke8 hx e no;rw[this]at hR;exact hR
    .rcases bj7.mp hj with q|q
     .exact no j z q hz
     .subst q;rw[hx]at hz;cases hz;simpa using e
  .rintro env⟨v,rfl,no⟩;have:kgw ps pts=none:=ke9 fun j y hj hy=>no j y (by rw[ba3];exact hj) hy;rw[this]at hR;exact hR
def scGo:FnScope ["space","point","onto"] ["space","point"] (kaj krc):=by ac_rfl
@[reducible]def F16(P)(w)(K)(mg)(base):=Fn P w K mg base "points_under" 1 ["space","point"] (spG K Ppu)
@[reducible]def F17(P)(w)(K)(mg)(base):=Fn P w K mg base "points_over" 1 ["space","point"] (spG K Ppo)
def ok_Go{f:Addr}{fd:be7}(F:Fun K "goal" "goal" krc f fd)(T:Txt K mg)(GDPt:Fn P w K mg base "is_point" 1 ["many","number"] (spG K krn))(GPu:F16 P w K mg base)(GPo:F17 P w K mg base)(GLw:Fn P w K mg base "lowest" 2 ["space","points"] (spG K Plow))(GHg:Fn P w K mg base "highest" 2 ["space","points"] (spG K kz6)):
 FnOk P w K mg base CX0 3 f fd ["space","point"] (spG K kro):=by
 refine F.okG scGo (fun ds RS h=>?_) (fun a A o s H E hr=>(kab (kba (kbx (kbi (kal GDPt ⋯ (kaa (kam (kai 0) (kae).bw) (kaa (kad 1) kah))).bw)) (kag (kl0)) kav)
  (kab (kap 2 (fun O=>scGo.nd) (kal GLw ⋯ (kaa (kad 0) (kaa ((ka5 GPo ⋯ (kaa (kad 0) (kaa (kad 1) kah))).ew) kah))))
  (kab (kba (kaw kno (kaf 2) (kb6).bw) (kag (kap 2 (fun O=>scGo.nd) (kal GHg ⋯ (kaa (kad 0) (kaa ((ka5 GPu ⋯ (kaa (kad 0) (kaa (kad 1) kah))).ew) kah))))) kav)
  (kag (kb8 2)))))) (fun ds RS h=>?_)
 .obtain⟨n,ps,p,rfl,_⟩:=h;rfl
 .obtain⟨n,ps,p,rfl,h0,h1,hR⟩:=h;simp only[rD,ka4,at0];refine⟨n,p,rfl,_,rfl,_,rfl,?_⟩;refine kff (by rw[zT ⟨h0,h1⟩];rfl) ?_;refine⟨n,ps,p,rfl,_,rfl,n,ps,_,rfl,_,rfl,?_⟩;rw[kc6];cases e:kog ps (po ps p)with
  | some x=>
    have:kbl ps p=some x:=(by unfold kbl;rw[e];rfl)
    rw[this]at hR;exact hR
  | none=>
    have:kbl ps p=kgw ps (pu ps p):=(by unfold kbl;rw[e];rfl)
    rw[this]at hR;exact⟨n,ps,p,rfl,_,rfl,n,ps,_,rfl,_,rfl,hR⟩
def k3w:FnScope ["space","point","side","near","one","others"] ["space","point"] (kaj keq):=by ac_rfl
def ok_Lg{f:Addr}{fd:be7}(F:Fun K "_law_goal" "_law_goal" keq f fd)(T:Txt K mg):
 FnOk P w K mg base CX0 1 f fd ["space","point"] (spG K kms):=by
 refine F.okG k3w (fun ds RS h=>?_) (fun a A o s H E hr=>(kab (kbn nofun (ka6 (kae).bw (fun O=>T.a)) (kaz 2 (fun O=>k3w.nd)) (kab (kcc 3 (fun O=>k3w.nd) (N':=["pair","side","point"]) (fun O=>(.own (.cap 2 rfl rfl rfl (.cap 1 rfl rfl rfl .nil)))) (ka8 (kam (kai 0) (kae).bw)) (kaz 0 (fun O=>(by decide +kernel:(["pair","side","point"]:List Str).Nodup))) (kch (kaw (kcg ∅) (kam (kai 0) (kaf 1)).bw (kaf 2))) (kam (kai 0) (kao kgk (kae).bw (kaf 1)).bw))
  (DSs.frz 3 (kag (kbn nofun (ka8 (kad 3)) (kaz 4 (fun O=>k3w.nd)) (kab (kcc 5 (fun O=>k3w.nd) (N':=["other","one"]) (fun O=>(.own (.cap 4 rfl rfl rfl .nil))) (ka8 (kad 3)) (kaz 0 (fun O=>(by decide +kernel:(["other","one"]:List Str).Nodup))) (kch (kaw (kdm ∅) (kaf 0) (kaf 1))) (kad 0))
  (DSs.frz 5 (kag (kba (kbi (kpn (kcv (N':=["other","side","space","one"]) (fun O=>(.own (.cap 2 rfl rfl rfl (.cap 0 rfl rfl rfl (.cap 4 rfl rfl rfl .nil))))) (ka8 (kad 5)) (kaz 0 (fun O=>(by decide +kernel:(["other","side","space","one"]:List Str).Nodup))) kbe (kc2 (kjr ∅) (kam (kbj (kaa (kbf (kaa (kad 3) (kaa (kad 0) kah))) (kaa (kbf (kaa (kad 0) (kaa (kad 3) kah))) kah))).q (kaf 1)).bw (kam (kai 2) (kae).bw).bw)).l (fun O=>T.all)).bw) (kag (kb8 4)) kav)))))))))
  (kag (kax (kb6))))) (fun ds RS h=>?_)
 .obtain⟨n,ps,p,rfl,_⟩:=h;rfl
 .obtain⟨n,ps,p,rfl,hR⟩:=h;refine⟨2,rfl,by decide,by decide,fun k env=>∃v2 v3 v4 v5,env=[.d (spD n ps),dI p,v2,v3,v4,v5]/\(1<=k->kog ps (po ps p)=none)/\(2<=k->kgw ps (pu ps p)=none),⟨_,_,_,_,rfl,fun z=>zA z (by decide),fun z=>zA z (by decide)⟩,?_,?_⟩
  .rintro k y env hy⟨v2,v3,v4,v5,rfl,g1,g2⟩;obtain⟨hk,rfl⟩:=kb7 hy;rw[bp8];have k01:k=0\/k=1:=by
    have:k<2:=hk;lia
   rcases k01 with rfl|rfl
   .exists fun env=>env=Elg n ps p 0 (.o ((po ps p).map ba1)) v4 v5
    .simp only[rD,xLC,ka4,at0,at1];refine⟨Gf ps pD (fun q=>decide (q.1=p)) (fun q=> .int q.2),fun y hy=>?_,fun o ho=>?_⟩
     .obtain⟨q,hq,rfl⟩:=bb1.mp hy;refine⟨_,rfl,_,atc0 _ _,okI _,okI _,.inl (shI _),?_⟩;rw[ka1];exact kck (fun e=>⟨_,rfl,_,atd1 _ _ _,Gf.keep hq e rfl⟩) (fun e=>Gf.skip hq (by simpa using e))
     have en:((ps.filter fun q=>decide (q.1=p)).map fun q=>ba1 q.2)=(po ps p).map ba1:=(by unfold po;rw[bc1];rfl)
     rw[Gf.out kee ho,en];exact hN _ rfl
    rintro env rfl;refine⟨_,rfl,?_⟩;generalize hnear:po ps p=near at*;refine⟨_,rfl,_,rfl,fun k env=>∃v4 v5,env=Elg n ps p 0 (.d (.list (near.map ba1))) v4 v5/\∀(j:Nat)(y:Int),j<k->near[j]?=some y->(near.all fun a=>kev ps y a)=false,⟨_,_,rfl,fun j y h=>zA h (bj6 _)⟩,?_,?_⟩
    .rintro k y env hy⟨v4,v5,rfl,no⟩;rw[bc8]at hy;obtain⟨x,hx,rfl⟩:=be2.mp hy;exists fun env=>env=Elg n ps p 0 (.d (.list (near.map ba1))) (dI x) (.o ((near.filter fun o=> !decide (o=x)).map ba1))
     .simp only[rD,xLC];refine⟨Gf near ba1 (fun o=> !decide (o=x)) ba1,fun y hy=>?_,fun o ho=>?_⟩
      .obtain⟨z,hz,rfl⟩:=bb1.mp hy;refine⟨okI _,okI _,.inl (shI _),?_⟩;rw[ka1];exact kck (fun e=>Gf.keep hz e rfl) (fun e=>Gf.skip hz (by simpa using e))
      rw[Gf.out kbp ho];exact hN _ rfl
     rintro env rfl;refine⟨_,rfl,?_⟩;simp only[rD,xLC,ka4,at1];refine⟨Gf (near.filter fun o=> !decide (o=x)) ba1 (fun O=>true) (fun o=> .bool (decide ((x,o)∈ps))),fun y hy=>?_,fun o ho=>?_⟩
     .obtain⟨z,hz,rfl⟩:=bb1.mp hy;refine⟨_,atc0 _ _,kbk ps,okP (x,z),shP (x,z),?_⟩;exact Gf.keep hz rfl (zC cc3 (ked (x,z) ps))
     rw[Gf.all kbp ho];refine⟨(near.filter fun o=> !decide (o=x)).map fun o=>decide ((x,o)∈ps),by rw[bc1];rfl,?_⟩;rw[all_map,kn8];refine kck (fun e=>?_) (fun e=>⟨_,_,rfl,fun j z hj hz=>?_⟩)
     .have hf:kog ps near=some x:=ke8 hx e no;have hg:kbl ps p=some x:=(by unfold kbl;rw[hnear,hf];rfl)
      rw[hg]at hR;exact hR
     .rcases bj7.mp hj with q|q
      .exact no j z q hz
      .subst q;rw[hx]at hz;cases hz;simpa using e
    .rintro env⟨v4,v5,rfl,no⟩;have hn:kog ps near=none:=ke9 fun j y hj hy=>no j y (by rw[ba3];exact hj) hy;exact⟨_,_,_,_,rfl,fun O=>hn,fun z=>zA z (by decide)⟩
   .exists fun env=>env=Elg n ps p 1 (.o ((pu ps p).map ba1)) v4 v5
    .simp only[rD,xLC,ka4,at0,at1];refine⟨Gf ps pD (fun q=>decide (q.2=p)) (fun q=> .int q.1),fun y hy=>?_,fun o ho=>?_⟩
     .obtain⟨q,hq,rfl⟩:=bb1.mp hy;refine⟨_,rfl,_,atc1 _ _ _,okI _,okI _,.inl (shI _),?_⟩;rw[ka1];exact kck (fun e=>⟨_,rfl,_,atd0 _ _,Gf.keep hq e rfl⟩) (fun e=>Gf.skip hq (by simpa using e))
     have en:((ps.filter fun q=>decide (q.2=p)).map fun q=>ba1 q.1)=(pu ps p).map ba1:=(by unfold pu;rw[bc1];rfl)
     rw[Gf.out kee ho,en];exact hN _ rfl
    rintro env rfl;refine⟨_,rfl,?_⟩;generalize hnear:pu ps p=near at*;refine⟨_,rfl,_,rfl,fun k env=>∃v4 v5,env=Elg n ps p 1 (.d (.list (near.map ba1))) v4 v5/\∀(j:Nat)(y:Int),j<k->near[j]?=some y->(near.all fun a=>kev ps a y)=false,⟨_,_,rfl,fun j y h=>zA h (bj6 _)⟩,?_,?_⟩
    .rintro k y env hy⟨v4,v5,rfl,no⟩;rw[bc8]at hy;obtain⟨x,hx,rfl⟩:=be2.mp hy;exists fun env=>env=Elg n ps p 1 (.d (.list (near.map ba1))) (dI x) (.o ((near.filter fun o=> !decide (o=x)).map ba1))
     .simp only[rD,xLC];refine⟨Gf near ba1 (fun o=> !decide (o=x)) ba1,fun y hy=>?_,fun o ho=>?_⟩
      .obtain⟨z,hz,rfl⟩:=bb1.mp hy;refine⟨okI _,okI _,.inl (shI _),?_⟩;rw[ka1];exact kck (fun e=>Gf.keep hz e rfl) (fun e=>Gf.skip hz (by simpa using e))
      rw[Gf.out kbp ho];exact hN _ rfl
     rintro env rfl;refine⟨_,rfl,?_⟩;simp only[rD,xLC,ka4,at1];refine⟨Gf (near.filter fun o=> !decide (o=x)) ba1 (fun O=>true) (fun o=> .bool (decide ((o,x)∈ps))),fun y hy=>?_,fun o ho=>?_⟩
     .obtain⟨z,hz,rfl⟩:=bb1.mp hy;refine⟨_,atc1 _ _ _,kbk ps,okP (z,x),shP (z,x),?_⟩;exact Gf.keep hz rfl (zC cc3 (ked (z,x) ps))
     rw[Gf.all kbp ho];refine⟨(near.filter fun o=> !decide (o=x)).map fun o=>decide ((o,x)∈ps),by rw[bc1];rfl,?_⟩;rw[all_map,kk9];refine kck (fun e=>?_) (fun e=>⟨_,_,rfl,fun j z hj hz=>?_⟩)
     .have hf:kgw ps near=some x:=ke8 hx e no;have hg:kbl ps p=some x:=(by unfold kbl;rw[g1 (by decide),hnear,hf];rfl)
      rw[hg]at hR;exact hR
     .rcases bj7.mp hj with q|q
      .exact no j z q hz
      .subst q;rw[hx]at hz;cases hz;simpa using e
    .rintro env⟨v4,v5,rfl,no⟩;have hn:kgw ps near=none:=ke9 fun j y hj hy=>no j y (by rw[ba3];exact hj) hy;exact⟨_,_,_,_,rfl,fun O=>g1 (by decide),fun O=>hn⟩
  .rintro env⟨v2,v3,v4,v5,rfl,g1,g2⟩;rw[kb0]at g1 g2;have:kbl ps p=none:=(by unfold kbl;rw[g1 (by decide),g2 (by decide)];rfl)
   rw[this]at hR;exact hR
end
abbrev kfg(n:Int)(ps:List (Int×Int)):Prop:=∀q∈ps,inR n q
def kz9{n p x:Int}(h0:0<=x)(h1:x<n)(hp0:0<=p)(hp1:p<n)(hne:x≠p):0<=cu p x/\cu p x<n-1:=by
 unfold cu;split <;> lia
def krv{n p:Int}{ps:List (Int×Int)}(h:kfg n ps)(hp0:0<=p)(hp1:p<n):kfg (n-1) (woF ps p):=by
 intro q hq;obtain⟨r,hr,rfl⟩:=bb1.mp hq;obtain⟨h1,h2⟩:=be6.mp hr;obtain⟨a,b,c,d⟩:=h r h1;have h2:p≠r.1/\p≠r.2:=by simpa using h2
 have e1:=kz9 a b hp0 hp1 (bv6 h2.1);have e2:=kz9 c d hp0 hp1 (bv6 h2.2);exact⟨e1.1,e1.2,e2.1,e2.2⟩
abbrev nmF(n:Nat)(p:Int):List Int:=((ba8 n).map fun(i:Nat)=>(i:Int)).filter fun i=> !decide (i=p)
def kvg(k m:Nat):nmF (k+1+m) (k:Int)=((ba8 k).map fun(i:Nat)=>(i:Int))++((ba8 m).map fun(i:Nat)=>((k+1+i:Nat):Int)):=by
 unfold nmF;have e:ba8 (k+1+m)=ba8 k++[k]++(ba8 m).map fun i=>k+1+i:=by
  rw[<- bn8,List.range_add]
 rw[e,be3,be3,bn2,bn2];have f1:(((ba8 k).map fun(i:Nat)=>(i:Int)).filter fun i=> !decide (i=(k:Int)))=(ba8 k).map fun(i:Nat)=>(i:Int):=by
  rw[bx6];intro x hx;obtain⟨i,hi,rfl⟩:=bb1.mp hx;have:=bb2.mp hi;have: ¬((i:Int)=(k:Int)):=by lia
  simp[this]
 have f2:((([k]:List Nat).map fun(i:Nat)=>(i:Int)).filter fun i=> !decide (i=(k:Int)))=[]:=by simp
 have f3:((((ba8 m).map fun i=>k+1+i).map fun(i:Nat)=>(i:Int)).filter fun i=> !decide (i=(k:Int)))=(ba8 m).map fun(i:Nat)=>((k+1+i:Nat):Int):=by
  rw[bc1,bx6.mpr]
  .rfl
  .intro x hx;obtain⟨i,hi,rfl⟩:=bb1.mp hx;have: ¬(((k+1+i:Nat):Int)=(k:Int)):=(by lia)
   simpa using this
 rw[f1,f2,f3,be9]
def krw{l:List Int}(nd:l.Nodup){i:Nat}{x:Int}(h:l[i]?=some x):l.idxOf x=i:=by
 have hm:x∈l:=bd9 h;have hlt:l.idxOf x<l.length:=bg7.mpr hm;have e:l[l.idxOf x]?=some x:=by
  rw[ba4 hlt];exact zC some (bo9 hlt)
 exact kgb nd e h
def kvh(n:Nat)(p:Int):(nmF n p).Nodup:=by
 unfold nmF;refine List.Pairwise.filter _ ?_;have:=kiu n;rw[be9]at this;exact this
def kwx{n:Nat}{p a:Int}(hp0:0<=p)(hp1:p<n)(h0:0<=a)(h1:a<n)(hne:a≠p):a∈nmF n p/\(((nmF n p).idxOf a:Nat):Int)=cu p a:=by
 obtain⟨k,rfl⟩:=bi3 hp0;obtain⟨x,rfl⟩:=bi3 h0;obtain⟨m,rfl⟩: ∃m,n=k+1+m:=⟨n-(k+1),by lia⟩
 have at':(nmF (k+1+m) (k:Int))[(cu (k:Int) (x:Int)).toNat]?=some (x:Int):=by
  rw[kvg];unfold cu;by_cases hx:(x:Int) > (k:Int)
  .rw[zP hx];have e:((x:Int)-1).toNat=x-1:=(by lia)
   rw[e,bc2 (by simp;lia)];simp only[ba3,be8,bc8];rw[List.getElem?_range (by lia)];simp only[Option.map_some,bw3];lia
  .rw[zN hx];have e:((x:Int)).toNat=x:=(by lia)
   have hlt:x<k:=(by lia)
   rw[e,bc9 (by simp;lia)];simp[hlt]
 refine⟨bd9 at',?_⟩;rw[krw (kvh _ _) at'];have:=kz9 h0 h1 hp0 hp1 hne;lia
inductive Walk:Nat->List (Int×Int)->List Int->Nat->List (Int×Int)->Prop where
 | nil (n:Nat) (ps:List (Int×Int)):Walk n ps [] n ps
 | cons {n:Nat} {ps:List (Int×Int)} {p:Int} {row:List Int} {n':Nat} {ps':List (Int×Int)}:0<=p->p<((n+1:Nat):Int)->(kbl ps p).isSome=true->Walk n (woF ps p) row n' ps'->Walk (n+1) ps (p::row) n' ps'
def Walk.snoc{n:Nat}{ps:List (Int×Int)}{row:List Int}{n':Nat}{qs:List (Int×Int)}{p:Int}(w:Walk n ps row (n'+1) qs)(h0:0<=p)(h1:p<((n'+1:Nat):Int))(h2:(kbl qs p).isSome=true):Walk n ps (row++[p]) n' (woF qs p):=by
 generalize hm:n'+1=m at w;induction w with
 | nil n ps=>subst hm;exact .cons h0 h1 h2 (.nil _ _)
 | cons a b c _ ih=>exact .cons a b c (ih h2 hm)
def Walk.len{n:Nat}{ps:List (Int×Int)}{row:List Int}{n':Nat}{ps':List (Int×Int)}(w:Walk n ps row n' ps'):row.length+n'=n:=by
 induction w with
 | nil n ps=>simp
 | cons _ _ _ _ ih=>rw[bg5];lia
def kmw{n:Nat}{ps:List (Int×Int)}{p:Int}(h:p∈kbr n ps):0<=p/\p<n/\(kbl ps p).isSome=true:=by
 obtain⟨h1,h2⟩:=be6.mp h;obtain⟨i,hi,rfl⟩:=bb1.mp h1;have:=bb2.mp hi;exact⟨by lia,by lia,h2⟩
abbrev krx(ds:List bb0)(RS:Dt->Prop):Prop:=∃(n:Nat)(ps:List (Int×Int))(row:List Int)(n':Nat)(ps':List (Int×Int)),ds=[spD n ps,.list (row.map ba1)]/\Walk n ps row n' ps'/\RS (.d (spD n' ps'))
abbrev k0a(ds:List bb0)(RS:Dt->Prop):Prop:=∃(n:Nat)(ps:List (Int×Int)),ds=[spD n ps]/\n<=100/\∀(row:List Int)(n':Nat)(ps':List (Int×Int)),Walk n ps row n' ps'->kbr n' ps'=[]->RS (iO row)
abbrev Plwo(ds:List bb0)(RS:Dt->Prop):Prop:=∃(n:Nat)(ps:List (Int×Int))(p:Int),ds=[spD n ps,.int p]/\n<=100/\0<=p/\p<n/\kfg n ps/\RS (.d (spD ((n:Int)-1) (woF ps p)))
abbrev ka7(n:Nat):List Int:=(ba8 n).map fun(i:Nat)=>(i:Int)
def kbt(n:Nat):(ka7 n).length=n:=by unfold ka7;simp
def kcm(n:Nat):kel 0 n=(ka7 n).map ba1:=by rw[kjv];unfold ka7;rw[bc1];rfl
abbrev kkh(ps:List (Int×Int))(names last:List Int)(p:Int):List Int:=last.map fun a=>if a=names.getD p.toNat 0 then names.getD ((kbl ps p).getD 0).toNat 0 else a
abbrev wkN:List (Int×Int)->List Int->List Int->List Int
 | _,names,[]=>names
 | ps,names,p::row=>wkN (woF ps p) (names.eraseIdx p.toNat) row
abbrev wkS:List (Int×Int)->List Int->List Int->List Int->List (List Int)
 | _,_,_,[]=>[]
 | ps,names,last,p::row=>kkh ps names last p::wkS (woF ps p) (names.eraseIdx p.toNat) (kkh ps names last p) row
abbrev kmx(ds:List bb0)(RS:Dt->Prop):Prop:=∃(n:Nat)(ps:List (Int×Int))(row:List Int)(n':Nat)(ps':List (Int×Int)),ds=[spD n ps,.list (row.map ba1)]/\n<=100/\kfg n ps/\Walk n ps row n' ps'/\
 RS (.d (.tuple [spD n' ps',.list ((wkN ps (ka7 n) row).map ba1),.list ((ka7 n::wkS ps (ka7 n) (ka7 n) row).map ka9)]))
def kiy{α:Type}{p:α->Bool}{l:List α}{x:α}(h:l.find? p=some x):x∈l:=List.mem_of_find?_eq_some h
def kiz{n:Int}{ps:List (Int×Int)}{p g:Int}(h:kfg n ps)(hg:kbl ps p=some g):0<=g/\g<n:=by
 unfold kbl at hg;cases e:kog ps (po ps p)with
 | some x=>
   rw[e]at hg;have hg:x=g:=bf4 hg;subst hg;have hm:=kiy e;obtain⟨q,hq,rfl⟩:=bb1.mp hm;obtain⟨_,_,c,d⟩:=h q (be6.mp hq).1;exact⟨c,d⟩
 | none=>
   rw[e]at hg;have hg:kgw ps (pu ps p)=some g:=hg;have hm:=kiy hg;obtain⟨q,hq,rfl⟩:=bb1.mp hm;obtain⟨c,d,_,_⟩:=h q (be6.mp hq).1;exact⟨c,d⟩
def kfv{xs:List Int}{i:Int}(h0:0<=i)(h1:i<xs.length):atI (xs.map ba1) i=some (.int (xs.getD i.toNat 0)):=kc1 h0 h1
def sc1(m:Nat):((m+1:Nat):Int)-1=(m:Int):=by lia
def kvi(xs:List Int):ko7 (ka9 xs)=some (xs.map ba1):=rfl
@[reducible]def Elk(m:Nat)(qs:List (Int×Int))(row:List Int)(nm sd:List bb0)(p:Int)(v:Dt):List Dt:=[.d (spD ((m+1:Nat):Int) qs),.d (.list (row.map ba1)),.o nm,.o sd,dI p,v]
section
variable{P:bb9}{w:be5}{K:ba2}{mg:Str->Option ba6}{base:Heap}
def scFb:FnScope ["space"] ["space"] (kaj kfn):=by ac_rfl
@[reducible]def F9(P)(w)(K)(mg)(base):=Fn P w K mg base "goal" 3 ["space","point"] (spG K kro)
def ok_Fb{f:Addr}{fd:be7}(F:Fun K "foldable" "foldable" kfn f fd)(T:Txt K mg)(GGo:F9 P w K mg base):
 FnOk P w K mg base CX0 4 f fd ["space"] (spG K kct):=by
 refine F.okG scFb (fun ds RS h=>?_) (fun a A o s H E hr=>(kag (kcy (kcv (N':=["point","space"]) (fun O=>(.own (.cap 0 rfl rfl rfl .nil))) (ka6 (kam (kai 0) (kae).bw).bw (fun O=>T.a)) (kaz 0 (fun O=>(by decide +kernel:(["point","space"]:List Str).Nodup))) (kch (kaw khy (kal GGo ⋯ (kaa (kad 1) (kaa (kad 0) kah))).bw (kb6).bw)) (kad 0))))) (fun ds RS h=>?_)
 .obtain⟨n,ps,rfl,_⟩:=h;rfl
 .obtain⟨n,ps,rfl,hn,hR⟩:=h;simp only[rD,xLC,ka4,at0];refine⟨by lia,by lia,?_⟩;rw[bc3,kjv];refine⟨Gf (ba8 n) (fun(i:Nat)=>ba1 (i:Int)) (fun(i:Nat)=>(kbl ps (i:Int)).isSome) (fun(i:Nat)=> .int (i:Int)),fun y hy=>?_,fun o ho=>?_⟩
  .obtain⟨i,hi,rfl⟩:=bb1.mp hy;have:=bb2.mp hi;refine⟨n,ps,(i:Int),rfl,by lia,by lia,_,rfl,?_⟩;rw[kc6];cases e:kbl ps (i:Int)with
   | some x=>
     have hs:(kbl ps (i:Int)).isSome=true:=(by rw[e];rfl)
     rw[zP (show(!(some x:Option Int).isNone)=true from rfl)];exact Gf.keep hi hs rfl
   | none=>
     have hs:(kbl ps (i:Int)).isSome=false:=(by rw[e];rfl)
     rw[zN (show ¬(!(none:Option Int).isNone)=true from bb6)];exact Gf.skip hi hs
  .rw[Gf.out kgo ho];unfold kbr at hR;rw[b41,bc1]at hR;exact hR
def scLf:FnScope ["space"] ["space"] (kaj kcs):=by ac_rfl
@[reducible]def F18(P)(w)(K)(mg)(base):=Fn P w K mg base "_law_goal" 1 ["space","point"] (spG K kms)
def ok_Lf{f:Addr}{fd:be7}(F:Fun K "_law_foldable" "_law_foldable" kcs f fd)(T:Txt K mg)(GLg:F18 P w K mg base):
 FnOk P w K mg base CX0 2 f fd ["space"] (spG K kct):=by
 refine F.okG scLf (fun ds RS h=>?_) (fun a A o s H E hr=>(kag (kcy (kcv (N':=["point","space"]) (fun O=>(.own (.cap 0 rfl rfl rfl .nil))) (ka6 (kam (kai 0) (kae).bw).bw (fun O=>T.a)) (kaz 0 (fun O=>(by decide +kernel:(["point","space"]:List Str).Nodup))) (kch (kaw khy (kal GLg ⋯ (kaa (kad 1) (kaa (kad 0) kah))).bw (kb6).bw)) (kad 0))))) (fun ds RS h=>?_)
 .obtain⟨n,ps,rfl,_⟩:=h;rfl
 .obtain⟨n,ps,rfl,hn,hR⟩:=h;simp only[rD,xLC,ka4,at0];refine⟨by lia,by lia,?_⟩;rw[bc3,kjv];refine⟨Gf (ba8 n) (fun(i:Nat)=>ba1 (i:Int)) (fun(i:Nat)=>(kbl ps (i:Int)).isSome) (fun(i:Nat)=> .int (i:Int)),fun y hy=>?_,fun o ho=>?_⟩
  .obtain⟨i,hi,rfl⟩:=bb1.mp hy;have:=bb2.mp hi;refine⟨n,ps,(i:Int),rfl,_,rfl,?_⟩;rw[kc6];cases e:kbl ps (i:Int)with
   | some x=>
     have hs:(kbl ps (i:Int)).isSome=true:=(by rw[e];rfl)
     rw[zP (show(!(some x:Option Int).isNone)=true from rfl)];exact Gf.keep hi hs rfl
   | none=>
     have hs:(kbl ps (i:Int)).isSome=false:=(by rw[e];rfl)
     rw[zN (show ¬(!(none:Option Int).isNone)=true from bb6)];exact Gf.skip hi hs
  .rw[Gf.out kgo ho];unfold kbr at hR;rw[b41,bc1]at hR;exact hR
def scCu:FnScope ["number","gone"] ["number","gone"] (kaj keo):=by ac_rfl
def ok_Cu{f:Addr}{fd:be7}(F:Fun K "closed_up" "closed_up" keo f fd)(T:Txt K mg):
 FnOk P w K mg base CX0 1 f fd ["number","gone"] (spG K Pcu):=by
 refine F.okG scCu (fun ds RS h=>?_) (fun a A o s H E hr=>(kag (kax (kx8 (kaw kpb (kaf 0) (kaf 1)) (kao kgk (kaf 0) (kae).bw) (kad 0))))) (fun ds RS h=>?_)
 .obtain⟨x,p,rfl,_⟩:=h;rfl
 .obtain⟨x,p,rfl,hR⟩:=h;simp only[rD];unfold cu at hR;refine kck (fun e=>?_) (fun e=>?_)
  .rw[zP (zO e)]at hR;exact hR
  .rw[zN (fun z=>e (zT z))]at hR;exact hR
def scWo:FnScope ["space","point","ties"] ["space","point"] (kaj kgr):=by ac_rfl
def ok_Wo{f:Addr}{fd:be7}(F:Fun K "without" "without" kgr f fd)(T:Txt K mg)(GCu:Fn P w K mg base "closed_up" 1 ["number","gone"] (spG K Pcu)):
 FnOk P w K mg base CX0 2 f fd ["space","point"] (spG K Pwo):=by
 refine F.okG scWo (fun ds RS h=>?_) (fun a A o s H E hr=>(kab (kcc 2 (fun O=>scWo.nd) (N':=["a","b","point"]) (fun O=>(.own (.own (.cap 1 rfl rfl rfl .nil)))) (ka8 (kam (kai 0) (kae).bw)) (kcb 0 1 (fun O=>(by decide +kernel:(["a","b","point"]:List Str).Nodup))) (kch ((kfy (kaw (kdm ∅) (kaf 2) (kaf 0)) (kek (kaw (kdm ∅) (kaf 2) (kaf 1)))).t)) (kbf (kaa (kal GCu ⋯ (kaa (kad 0) (kaa (kad 2) kah))) (kaa (kal GCu ⋯ (kaa (kad 1) (kaa (kad 2) kah))) kah))))
  (DSs.frz 2 (kag (kax (kbf (kaa (kao kgk (kam (kai 0) (kae).bw).bw (kae).bw) (kaa (kdo 2 (fun O=>T.d)) kah)))))))) (fun ds RS h=>?_)
 .obtain⟨n,ps,p,rfl,_⟩:=h;rfl
 .obtain⟨n,ps,p,rfl,hR⟩:=h;simp only[rD,xLC,ka4,at0,at1];refine⟨Gf ps pD (fun q=>decide (p≠q.1)&&decide (p≠q.2)) (fun q=>pD (cu2 p q)),fun y hy=>?_,fun o ho=>?_⟩
  .obtain⟨q,hq,rfl⟩:=bb1.mp hy;have go:(decide (p≠q.1)&&decide (p≠q.2))=true->Pcu [.int q.1,.int p] fun dt=>∃d,kv7 dt=some d/\Pcu [.int q.2,.int p] fun dt=>∃d_1,kv7 dt=some d_1/\Gf ps pD (fun q=>decide (p≠q.1)&&decide (p≠q.2)) (fun q=>pD (cu2 p q)) (pD q) (some (.tuple [d,d_1])):=fun e=>⟨_,_,rfl,_,rfl,_,_,rfl,_,rfl,Gf.keep hq e rfl⟩
   refine⟨_,_,rfl,okI _,okI _,.inl (shI _),?_⟩;rw[ka1];refine kck (fun e=>⟨okI _,okI _,.inl (shI _),?_⟩) (fun e=>Gf.skip hq ?_)
   .rw[ka1];refine kck (fun e2=>go (by simp at e e2⊢;exact⟨e,e2⟩)) (fun e2=>Gf.skip hq (by simp at e e2⊢;intro O;exact e2))
   .simp at e⊢;intro z;exact zA e z
  .rw[Gf.out kee ho];unfold woF at hR;rw[show spD (n-1) ((ps.filter fun q=>decide (p≠q.1)&&decide (p≠q.2)).map (cu2 p))= .tuple [.int (n-1),.tuple ((ps.filter fun q=>decide (p≠q.1)&&decide (p≠q.2)).map fun q=>pD (cu2 p q))] by unfold spD;rw[bc1];rfl]at hR;exact hR
def scLo:FnScope ["space","point","names","ties"] ["space","point"] (kaj kc0):=by ac_rfl
def ok_Lo{f:Addr}{fd:be7}(F:Fun K "_law_without" "_law_without" kc0 f fd)(T:Txt K mg):
 FnOk P w K mg base CX0 1 f fd ["space","point"] (spG K Plwo):=by
 refine F.okG scLo (fun ds RS h=>?_) (fun a A o s H E hr=>(kab (kap 2 (fun O=>scLo.nd) ((kcv (N':=["one","point"]) (fun O=>(.own (.cap 1 rfl rfl rfl .nil))) (ka6 (kam (kai 0) (kae).bw).bw (fun O=>T.a)) (kaz 0 (fun O=>(by decide +kernel:(["one","point"]:List Str).Nodup))) (kch (kaw (kdm ∅) (kaf 0) (kaf 1))) (kad 0)).ew))
  (kab (kcc 3 (fun O=>scLo.nd) (N':=["a","b","names","point"]) (fun O=>(.own (.own (.cap 2 rfl rfl rfl (.cap 1 rfl rfl rfl .nil))))) (ka8 (kam (kai 0) (kae).bw)) (kcb 0 1 (fun O=>(by decide +kernel:(["a","b","names","point"]:List Str).Nodup))) (kch ((kfy (kaw (kdm ∅) (kaf 0) (kaf 3)) (kek (kaw (kdm ∅) (kaf 1) (kaf 3)))).t)) (kbf (kaa (kf7 (kc4 2) (kaf 0)) (kaa (kf7 (kc4 2) (kaf 1)) kah))))
  (DSs.frz 3 (kag (kax (kbf (kaa (kao kgk (kam (kai 0) (kae).bw).bw (kae).bw) (kaa (kdo 3 (fun O=>T.d)) kah))))))))) (fun ds RS h=>?_)
 .obtain⟨n,ps,p,rfl,_⟩:=h;rfl
 .obtain⟨n,ps,p,rfl,hn,h0,h1,hin,hR⟩:=h;exists fun env=>env=[.d (spD n ps),dI p,.d (.list ((nmF n p).map ba1)),.un]
  .simp only[rD,xLC,ka4,at0];refine⟨by lia,by lia,?_⟩;rw[bc3,kjv,show(ba8 n).map (fun(i:Nat)=>ba1 (i:Int))=(((ba8 n).map fun(i:Nat)=>(i:Int))).map ba1 by rw[bc1];rfl];refine⟨Gf ((ba8 n).map fun(i:Nat)=>(i:Int)) ba1 (fun i=> !decide (i=p)) ba1,fun y hy=>?_,fun o ho=>?_⟩
   .obtain⟨i,hi,rfl⟩:=bb1.mp hy;refine⟨okI _,okI _,.inl (shI _),?_⟩;rw[ka1];exact kck (fun e=>Gf.keep hi e rfl) (fun e=>Gf.skip hi (by simpa using e))
   rw[Gf.out kbp ho];exact hN _ rfl
  rintro env rfl;exists fun env=>env=[.d (spD n ps),dI p,.d (.list ((nmF n p).map ba1)),.o ((woF ps p).map pD)]
  .simp only[rD,xLC,ka4,at1];refine⟨Gf ps pD (fun q=>decide (p≠q.1)&&decide (p≠q.2)) (fun q=>pD (cu2 p q)),fun y hy=>?_,fun o ho2=>?_⟩
   .obtain⟨q,hq,rfl⟩:=bb1.mp hy;obtain⟨a,b,c,d⟩:=hin q hq;refine⟨_,_,rfl,okI _,okI _,.inl (shI _),?_⟩;rw[ka1];refine kck (fun e=>⟨okI _,okI _,.inl (shI _),?_⟩) (fun e=>?_)
    .rw[ka1];have n1:q.1≠p:=(by simpa using e)
     refine kck (fun e2=>?_) (fun e2=>Gf.skip hq ?_)
     .have n2:q.2≠p:=(by simpa using e2)
      obtain⟨m1,i1⟩:=kwx h0 h1 a b n1;obtain⟨m2,i2⟩:=kwx h0 h1 c d n2;refine⟨nmF n p,rfl,q.1,rfl,m1,nmF n p,rfl,q.2,rfl,m2,?_⟩;rw[i1,i2];exact Gf.keep hq (by simp;exact⟨bv6 n1,bv6 n2⟩) rfl
     .have n2:q.2=p:=(by simpa using e2)
      simp[n2]
    .rw[zN (fun z=>z)];have n1:q.1=p:=(by simpa using e)
     exact Gf.skip hq (by simp[n1])
   .rw[Gf.out kee ho2];exact hN _ (by unfold woF;rw[bc1];rfl)
  rintro env rfl;refine⟨_,rfl,?_⟩;simp only[rD,ka4,at0];exact hR
def scFo:FnScope ["space","point"] ["space","point"] (kaj kim):=by ac_rfl
def ok_Fo{f:Addr}{fd:be7}(F:Fun K "folded" "folded" kim f fd)(T:Txt K mg)(GGo:F9 P w K mg base)(GWo:Fn P w K mg base "without" 2 ["space","point"] (spG K Pwo)):
 FnOk P w K mg base CX0 4 f fd ["space","point"] (spG K kgx):=by
 refine F.okG scFo (fun ds RS h=>?_) (fun a A o s H E hr=>(kab (kba (kaw kno (kal GGo ⋯ (kaa (kad 0) (kaa (kad 1) kah))).bw (kb6).bw) (kag (kl0)) kav)
  (kag (kax (kal GWo ⋯ (kaa (kad 0) (kaa (kad 1) kah))))))) (fun ds RS h=>?_)
 .obtain⟨n,ps,p,rfl,_⟩:=h;rfl
 .obtain⟨n,ps,p,rfl,h0,h1,h2,hR⟩:=h;simp only[rD];refine⟨n,ps,p,rfl,h0,h1,_,rfl,?_⟩;rw[kc6];refine kff ?_ ⟨n,ps,p,rfl,_,rfl,hR⟩;cases e:kbl ps p with
  | some x=>rfl
  | none=>rw[e]at h2;cases h2
def scAl:FnScope ["space","row","here","point"] ["space","row"] (kaj kk2):=by ac_rfl
@[reducible]def F10(P)(w)(K)(mg)(base):=Fn P w K mg base "folded" 4 ["space","point"] (spG K kgx)
def ok_Al{f:Addr}{fd:be7}(F:Fun K "along" "along" kk2 f fd)(T:Txt K mg)(GFo:F10 P w K mg base):
 FnOk P w K mg base CX0 5 f fd ["space","row"] (spG K krx):=by
 refine F.okG scAl (fun ds RS h=>?_) (fun a A o s H E hr=>(kab (kap 2 (fun O=>scAl.nd) (kad 0))
  (kab (kbn nofun (ka8 (kad 1)) (kaz 3 (fun O=>scAl.nd)) (kag (kap 2 (fun O=>scAl.nd) (kal GFo ⋯ (kaa (kad 2) (kaa (kad 3) kah))))))
  (kag (kb8 2))))) (fun ds RS h=>?_)
 .obtain⟨n,ps,row,n',ps',rfl,_⟩:=h;rfl
 .obtain⟨n,ps,row,n',ps',rfl,hw,hR⟩:=h;refine⟨_,rfl,_,rfl,_,rfl,fun k env=>∃(a:Nat)(qs:List (Int×Int))(v:Dt),env=[.d (spD n ps),.d (.list (row.map ba1)),.d (spD a qs),v]/\Walk a qs (row.drop k) n' ps',⟨n,ps,_,rfl,hw⟩,?_,?_⟩
  .rintro k y env hy⟨a,qs,v,rfl,w⟩;rw[bc8]at hy;obtain⟨p,hp,rfl⟩:=be2.mp hy;obtain⟨hk,e⟩:=bb3.mp hp;rw[bk5 hk,e]at w;cases w with
   | @cons m _ _ _ _ _ h0 h1 h2 w=>
     simp only[rD];refine⟨_,qs,p,rfl,h0,h1,h2,_,rfl,m,_,_,by rw[sc1],w⟩
  .rintro env⟨a,qs,v,rfl,w⟩;rw[ba3,b23]at w;cases w;exact⟨_,rfl,(fun z=>by cases z),hR⟩
def k03:FnScope ["space","row","here","can"] ["space"] (kaj kde):=by ac_rfl
def ok_Co{f:Addr}{fd:be7}(F:Fun K "row_to_core" "row_to_core" kde f fd)(T:Txt K mg)(GFb:Fn P w K mg base "foldable" 4 ["space"] (spG K kct))(GFo:F10 P w K mg base):
 FnOk P w K mg base CX0 5 f fd ["space"] (spG K k0a):=by
 refine F.okG k03 (fun ds RS h=>?_) (fun a A o s H E hr=>(kab (kbh 1 (fun O=>k03.nd) (kbj kah))
  (kab (kap 2 (fun O=>k03.nd) (kad 0))
  (kab (kap 3 (fun O=>k03.nd) ((ka5 GFb ⋯ (kaa (kad 2) kah)).ew))
  (kab (kf6 nofun (kaw kpb (kbv (kai 3) (fun O=>T.b)).bw (kae).bw) (kab (keb 1 (kam (kai 3) (kae).bw))
  (kab (kap 2 (fun O=>k03.nd) (kal GFo ⋯ (kaa (kad 2) (kaa (kam (kai 3) (kae).bw) kah))))
  (kag (kap 3 (fun O=>k03.nd) ((ka5 GFb ⋯ (kaa (kad 2) kah)).ew))))))
  (kag (kb8 1))))))) (fun ds RS h=>?_)
 .obtain⟨n,ps,rfl,_⟩:=h;rfl
 .obtain⟨n,ps,rfl,hn,hR⟩:=h;refine⟨bf7 _,_,rfl,_,rfl,n,ps,rfl,hn,_,rfl,?_⟩;refine⟨fun m env=>∃(qs:List (Int×Int))(row:List Int),env=[.d (spD n ps),iO row,.d (spD m qs),.d (.list ((kbr m qs).map ba1))]/\Walk n ps row m qs,⟨n,ps,[],rfl,.nil n ps⟩,?_⟩;rintro m env⟨qs,row,rfl,w⟩;have hl:=w.len;simp only[rD];refine kck (fun e=>?_) (fun e=>?_)
  .have hpos:0<(kbr m qs).length:=by
    have:=zO e;rw[ba3]at this;lia
   obtain⟨p,fs,hf⟩:=List.exists_cons_of_length_pos hpos;have hp:=kmw (n:=m) (ps:=qs) (p:=p) (by rw[hf];exact bb8);obtain⟨m',rfl⟩: ∃m',m=m'+1:=⟨m-1,by lia⟩
   rw[hf];refine⟨_,at0 _ _,by rw[ba3];lia,_,at0 _ _,_,qs,p,rfl,hp.1,hp.2.1,hp.2.2,_,rfl,?_⟩;rw[sc1];refine⟨m',_,rfl,by lia,_,rfl,m',bs3 _,_,row++[p],by unfold iO;rw[be3];rfl,w.snoc hp.1 hp.2.1 hp.2.2⟩
  .have h0:kbr m qs=[]:=by
    cases hf:kbr m qs with
    | nil=>rfl
    | cons p fs=>
      exfalso;apply e;rw[hf];simp
   exact hR row m qs w h0
def k04:FnScope ["space","row","names","sends","point","end"] ["space","row"] (kaj ker):=by ac_rfl
@[reducible]def F19(P)(w)(K)(mg)(base):=Fn P w K mg base "_law_without" 1 ["space","point"] (spG K Plwo)
def ok_Lk{f:Addr}{fd:be7}(F:Fun K "_law_walk" "_law_walk" ker f fd)(T:Txt K mg)(GLg:F18 P w K mg base)(GLo:F19 P w K mg base):
 FnOk P w K mg base CX0 3 f fd ["space","row"] (spG K kmx):=by
 refine F.okG k04 (fun ds RS h=>?_) (fun a A o s H E hr=>(kab (kbh 2 (fun O=>k04.nd) (kb4 (kam (kai 0) (kae).bw).bw (fun O=>T.c) (fun O=>T.a)))
  (kab (kbh 3 (fun O=>k04.nd) (kbj (kaa (kdo 2 (fun O=>T.d)) kah)))
  (kab (kbn nofun (ka8 (kad 1)) (kaz 4 (fun O=>k04.nd)) (kab (kba ((kd8 (kbx (khw ktp kkn (kae).bw (kaf 4) (kam (kai 0) (kae).bw).bw)) (kdj (kaw kno (kal GLg ⋯ (kaa (kad 0) (kaa (kad 4) kah))).bw (kb6).bw))).t) (kag (kax (kb6))) kav)
  (kab (kap 5 (fun O=>k04.nd) (kam (kai 2) (kal GLg ⋯ (kaa (kad 0) (kaa (kad 4) kah))).bw))
  (kab (keb 3 (kdc (kcv (N':=["at","end","names","point"]) (fun O=>(.own (.cap 5 rfl rfl rfl (.cap 2 rfl rfl rfl (.cap 4 rfl rfl rfl .nil))))) (ka8 (kam (kai 3) (kpd (kae)).bw)) (kaz 0 (fun O=>(by decide +kernel:(["at","end","names","point"]:List Str).Nodup))) kbe (kam (kbj (kaa (kad 0) (kaa (kad 1) kah))).q (kl2 (kc2 (kcg ∅) (kaf 0) (kam (kai 2) (kaf 3)).bw).bw (fun O=>T.int)).bw)) (fun O=>T.d)))
  (kab (kpu 2 (kaf 4))
  (kag (kap 0 (fun O=>k04.nd) (kal GLo ⋯ (kaa (kad 0) (kaa (kad 4) kah))))))))))
  (DSs.frz 3 (DSs.frz 2 (kag (kax (kbf (kaa (kad 0) (kaa (kad 2) (kaa (kad 3) kah)))))))))))) (fun ds RS h=>?_)
 .obtain⟨n,ps,row,n',ps',rfl,_⟩:=h;rfl
 .obtain⟨n,ps,row,n',ps',rfl,hn,hin,hw,hR⟩:=h;refine⟨_,_,rfl,rfl,_,_,rfl,at0 _ _,_,rfl,by lia,by lia,?_⟩;rw[bc3,kcm];refine⟨_,.inl rfl,(by show 1<=100000;decide),?_⟩;refine⟨_,rfl,_,rfl,fun k env=>∃(a:Nat)(qs:List (Int×Int))(names:List Int)(sends:List (List Int))(last:List Int)(v4 v5:Dt),env=[.d (spD a qs),.d (.list (row.map ba1)),iO names,.o ((sends++[last]).map ka9),v4,v5]/\
   Walk a qs (row.drop k) n' ps'/\kfg a qs/\names.length=a/\sends.length=k/\wkN ps (ka7 n) row=wkN qs names (row.drop k)/\ka7 n::wkS ps (ka7 n) (ka7 n) row=sends++[last]++wkS qs names last (row.drop k),
   ⟨n,ps,ka7 n,[],ka7 n,_,_,rfl,hw,hin,kbt n,rfl,rfl,rfl⟩,?_,?_⟩
  .rintro k y env hy⟨a,qs,names,sends,last,v4,v5,rfl,w,iq,ln,ls,e1,e2⟩;rw[bc8]at hy;obtain⟨p,hp,rfl⟩:=be2.mp hy;obtain⟨hk,e⟩:=bb3.mp hp;have wl:=hw.len;rw[bk5 hk,e]at w e1 e2;cases w with
   | @cons m _ _ _ _ _ h0 h1 h2 w=>
     have wl2:=w.len;rw[bq7]at wl2;obtain⟨g,hg⟩:=bo1.mp h2;have hgi:=kiz iq hg;have hlast:atI ((sends++[last]).map ka9) (-1)=some (ka9 last):=(by rw[be3];exact kht _ _)
     have hpn:p<names.length:=(by rw[ln];exact h1)
     exists fun env=>env=Elk m qs row (names.map ba1) ((sends++[last]).map ka9) p v5
     .simp only[rD,ka4,at0,zT h0,zT h1,cn1,bj1,reduceIte];refine⟨_,qs,p,rfl,_,rfl,?_⟩;rw[kc6,hg];exact kff rfl (hN _ rfl)
     rintro env rfl;exists fun env=>env=Elk m qs row (names.map ba1) ((sends++[last]).map ka9) p (dI (names.getD g.toNat 0))
     .simp only[rD];refine⟨_,qs,p,rfl,_,rfl,?_⟩;rw[hg];exact⟨g,rfl,_,kfv hgi.1 (by rw[ln];exact hgi.2),hN _ rfl⟩
     rintro env rfl;exists fun env=>env=Elk m qs row (names.map ba1) ((sends++[last]++[kkh qs names last p]).map ka9) p (dI (names.getD g.toNat 0))
     .simp only[rD,xLC,hlast,kvi,kfv h0 hpn];refine⟨Gf last ba1 (fun O=>true) (fun a=> .int (if a=names.getD p.toNat 0 then names.getD g.toNat 0 else a)),fun y hy=>?_,fun o ho=>?_⟩
      .obtain⟨x,hx,rfl⟩:=bb1.mp hy;refine⟨okI _,okI _,.inl (shI _),.int (if x=names.getD p.toNat 0 then names.getD g.toNat 0 else x),?_,Gf.keep hx rfl rfl⟩;rw[ka1];by_cases hxp:x=names.getD p.toNat 0
       .rw[zT hxp,zP rfl,zP hxp];exact at1 _ _ _
       .rw[zF hxp,zN bb6,zN hxp];exact at0 _ _
      have eo:b51 o=ka9 (kkh qs names last p):=by
       rw[Gf.all kbp ho];unfold ka9 kkh;rw[bc1,hg];rfl
      refine⟨by rw[ba3,bb4,bf8];lia,hN _ ?_⟩;rw[eo,be3 (l₂:=[kkh qs names last p])];rfl
     rintro env rfl;exists fun env=>env=Elk m qs row ((names.eraseIdx p.toNat).map ba1) ((sends++[last]++[kkh qs names last p]).map ka9) p (dI (names.getD g.toNat 0))
     .simp only[rD];refine⟨p.toNat,by lia,by rw[ba3];lia,by lia,hN _ ?_⟩;rw[ke3]
     rintro env rfl;have iq2:=krv iq h0 h1;rw[sc1]at iq2;simp only[rD];refine⟨m+1,qs,p,rfl,by lia,h0,h1,iq,_,rfl,m,woF qs p,names.eraseIdx p.toNat,sends++[last],kkh qs names last p,dI p,dI (names.getD g.toNat 0),?_,w,iq2,?_,?_,e1,?_⟩
     .rw[sc1]
     .rw[bl4 (by lia)];lia
     .rw[bb4,ls];rfl
     .rw[e2];show sends++[last]++(kkh qs names last p::_)=_;simp
  .rintro env⟨a,qs,names,sends,last,v4,v5,rfl,w,iq,ln,ls,e1,e2⟩;rw[ba3,b23]at w e1 e2;cases w;refine⟨_,rfl,_,rfl,?_⟩;refine⟨_,rfl,_,rfl,_,rfl,(by show 3<=100000;decide),?_⟩;rw[e1,e2,show sends++[last]++wkS ps' names last []=sends++[last]from be9 _]at hR;exact hR
end
structure Ordr(ps:List (Int×Int)):Prop where
 irr: ∀x,(x,x) ∉ ps
 trs: ∀x y z,(x,y)∈ps->(y,z)∈ps->(x,z)∈ps
def IsSp.ord{n:Nat}{ps:List (Int×Int)}(h:IsSp n ps):Ordr ps:=by
 obtain⟨t,rfl,h1,h2⟩:=h;refine⟨fun x hx=>?_,fun x y z hx hy=>?_⟩
 .obtain⟨a,b,ha,hb,ht,e⟩:=ka3.mp hx;have e1:x=(a:Int):=zC bz1 e;have e2:x=(b:Int):=zC bz2 e;have:a=b:=by lia
  subst this;rw[h1 a ha]at ht;cases ht
 .obtain⟨a,b,ha,hb,ht,e⟩:=ka3.mp hx;obtain⟨c,d,hc,hd,hu,e'⟩:=ka3.mp hy;have e1:x=(a:Int):=zC bz1 e;have e2:y=(b:Int):=zC bz2 e;have e3:y=(c:Int):=zC bz1 e';have e4:z=(d:Int):=zC bz2 e';have:b=c:=by lia
  subst this;rw[e1,e4];exact kay.mpr ⟨ha,hd,h2 a b d ha hb hd ht hu⟩
def kfa{ps:List (Int×Int)}(o:Ordr ps){x y z:Int}(h1:kfu ps x y)(h2:kfu ps y z):kfu ps x z:=by
 rcases h1 with rfl|h1
 .exact h2
 .rcases h2 with rfl|h2
  .exact .inr h1
  .exact .inr (o.trs _ _ _ h1 h2)
def kmy{ps:List (Int×Int)}{p a:Int}:a∈po ps p↔(p,a)∈ps:=by
 unfold po;rw[bb1];constructor
 .rintro⟨q,hq,rfl⟩;obtain⟨h1,h2⟩:=be6.mp hq;have:q.1=p:=zO h2;subst this;exact h1
 .intro h;exact⟨(p,a),be6.mpr ⟨h,zT rfl⟩,rfl⟩
def kmz{ps:List (Int×Int)}{p a:Int}:a∈pu ps p↔(a,p)∈ps:=by
 unfold pu;rw[bb1];constructor
 .rintro⟨q,hq,rfl⟩;obtain⟨h1,h2⟩:=be6.mp hq;have:q.2=p:=zO h2;subst this;exact h1
 .intro h;exact⟨(a,p),be6.mpr ⟨h,zT rfl⟩,rfl⟩
abbrev Goal(ps:List (Int×Int))(p g:Int):Prop:=((p,g)∈ps/\∀a,(p,a)∈ps->kfu ps g a)\/((g,p)∈ps/\∀a,(a,p)∈ps->kfu ps a g)
def kkc{ps:List (Int×Int)}{p g:Int}(h:kbl ps p=some g):Goal ps p g:=by
 unfold kbl at h;cases e:kog ps (po ps p)with
 | some x=>
   rw[e]at h;have h:x=g:=bf4 h;subst h;refine .inl ⟨kmy.mp (kiy e),fun a ha=>?_⟩;have:=ck5 e;exact kbc.mp (bi0.mp this a (kmy.mpr ha))
 | none=>
   rw[e]at h;have h:kgw ps (pu ps p)=some g:=h;refine .inr ⟨kmz.mp (kiy h),fun a ha=>?_⟩;have:=ck5 h;exact kbc.mp (bi0.mp this a (kmz.mpr ha))
structure Nm(n:Nat)(ps qs:List (Int×Int))(names:List Int):Prop where
 nd:names.Nodup
 inn: ∀x∈names,0<=x/\x<(n:Int)
 tie: ∀(i j:Nat)(x y:Int),names[i]?=some x->names[j]?=some y->((x,y)∈ps↔((i:Int),(j:Int))∈qs)
 inr:kfg names.length qs
def km0{n:Nat}{i:Nat}{x:Int}(h:(ka7 n)[i]?=some x):x=(i:Int)/\i<n:=by
 unfold ka7 at h;rw[bc8]at h;obtain⟨j,hj,rfl⟩:=be2.mp h;obtain⟨h1,h2⟩:=bb3.mp hj;rw[cd2]at h2;rw[be8]at h1;exact⟨by rw[h2],h1⟩
def kfb{n:Nat}{x:Int}:x∈ka7 n↔0<=x/\x<(n:Int):=by
 unfold ka7;rw[bb1];constructor
 .rintro⟨i,hi,rfl⟩;have:=bb2.mp hi;lia
 .rintro⟨h0,h1⟩;exact⟨x.toNat,bb2.mpr (by lia),by lia⟩
def klc(n:Nat):(ka7 n).Nodup:=by
 have:=kiu n;rw[be9]at this;exact this
def Nm.start{n:Nat}{ps:List (Int×Int)}(h:kfg n ps):Nm n ps ps (ka7 n):=by
 refine⟨klc n,fun x hx=>kfb.mp hx,fun i j x y hi hj=>?_,by rw[kbt];exact h⟩;rw[(km0 hi).1,(km0 hj).1]
abbrev upN(p i:Nat):Nat:=if i<p then i else i+1
def kry{l:List Int}{p i:Nat}:(l.eraseIdx p)[i]?=l[upN p i]?:=by
 rw[List.getElem?_eraseIdx];unfold upN;split <;> rfl
def krz{qs:List (Int×Int)}{p i j:Nat}:((i:Int),(j:Int))∈woF qs (p:Int)↔((upN p i:Int),(upN p j:Int))∈qs:=by
 unfold woF;rw[bb1];constructor
 .rintro⟨q,hq,e⟩;obtain⟨h1,h2⟩:=be6.mp hq;have h2:(p:Int)≠q.1/\(p:Int)≠q.2:=by simpa using h2
  have e1:cu (p:Int) q.1=(i:Int):=zC bz1 e;have e2:cu (p:Int) q.2=(j:Int):=zC bz2 e;have f1:q.1=(upN p i:Int):=by unfold cu at e1;unfold upN;split at e1 <;> split <;> lia
  have f2:q.2=(upN p j:Int):=by unfold cu at e2;unfold upN;split at e2 <;> split <;> lia
  rw[<- f1,<- f2];exact h1
 .intro h;refine⟨_,be6.mpr ⟨h,?_⟩,?_⟩
  .simp only[ne_eq,bm4,decide_eq_true_eq];constructor <;> (unfold upN;split <;> lia)
  .unfold cu2 cu;simp only[Prod.mk.injEq];constructor <;> (unfold upN;split <;> split <;> lia)
def ki0{l:List Int}(nd:l.Nodup){p:Nat}{x:Int}(h:l[p]?=some x):l.eraseIdx p=l.filter fun y=> !decide (y=x):=by
 induction l generalizing p with
 | nil=>cases h
 | cons a l ih=>
   obtain⟨h1,h2⟩:=bj4.mp nd;cases p with
   | zero=>
     have h:a=x:=bf4 h;subst h;rw[List.eraseIdx_cons_zero,bo8 (by simp),bx6.mpr];intro y hy;have: ¬y=a:=fun z=>h1 (z▸hy);simp[this]
   | succ p=>
     have h:l[p]?=some x:=h;have: ¬a=x:=fun z=>h1 (z▸bd9 h);rw[b82,bm7 (by simp[this]),ih h2 h]
def kg0{l:List Int}(nd:l.Nodup){p:Nat}{x y:Int}(h:l[p]?=some x):y∈l.eraseIdx p↔y∈l/\y≠x:=by
 rw[ki0 nd h,be6];simp
def Nm.step{n:Nat}{ps qs:List (Int×Int)}{names:List Int}(N:Nm n ps qs names){p:Nat}{P:Int}(h:names[p]?=some P):Nm n ps (woF qs (p:Int)) (names.eraseIdx p):=by
 have hp:=(bb3.mp h).1;refine⟨N.nd.sublist (cb4 _ _),fun x hx=>N.inn x ((kg0 N.nd h).mp hx).1,fun i j x y hi hj=>?_,?_⟩
 .rw[kry]at hi hj;rw[N.tie _ _ _ _ hi hj,krz]
 .rw[bl4 hp];have:=krv N.inr (p:=(p:Int)) (by lia) (by lia);rw[show((names.length-1:Nat):Int)=(names.length:Int)-1 by lia];exact this
abbrev koa(ps:List (Int×Int))(names:List Int)(P G:Int):Prop:=((P,G)∈ps/\∀y∈names,(P,y)∈ps->kfu ps G y)\/((G,P)∈ps/\∀y∈names,(y,P)∈ps->kfu ps y G)
def Nm.goal{n:Nat}{ps qs:List (Int×Int)}{names:List Int}(N:Nm n ps qs names){p g:Nat}{P G:Int}(hp:names[p]?=some P)(hg:names[g]?=some G)(h:Goal qs (p:Int) (g:Int)):koa ps names P G:=by
 have lq: ∀(i j:Nat)(x y:Int),names[i]?=some x->names[j]?=some y->kfu qs (i:Int) (j:Int)->kfu ps x y:=by
  intro i j x y hi hj l;rcases l with l|l
  .have:i=j:=(by lia)
   subst this;rw[hi]at hj;exact .inl (bf4 hj)
  .exact .inr ((N.tie _ _ _ _ hi hj).mpr l)
 rcases h with⟨h1,h2⟩|⟨h1,h2⟩
 .refine .inl ⟨(N.tie _ _ _ _ hp hg).mpr h1,fun y hy hpy=>?_⟩;obtain⟨j,hj⟩:=bj0.mp hy;exact lq _ _ _ _ hg hj (h2 _ ((N.tie _ _ _ _ hp hj).mp hpy))
 .refine .inr ⟨(N.tie _ _ _ _ hg hp).mpr h1,fun y hy hpy=>?_⟩;obtain⟨j,hj⟩:=bj0.mp hy;exact lq _ _ _ _ hj hg (h2 _ ((N.tie _ _ _ _ hj hp).mp hpy))
abbrev kg6(P G x:Int):Int:=if x=P then G else x
def kr0{ps:List (Int×Int)}(o:Ordr ps){names:List Int}{P G:Int}(h:koa ps names P G){x y:Int}(hx:x∈names)(hy:y∈names)(l:kfu ps x y):kfu ps (kg6 P G x) (kg6 P G y):=by
 unfold kg6;by_cases ex:x=P
 .by_cases ey:y=P
  .rw[zP ex,zP ey];exact .inl rfl
  .rw[zP ex,zN ey];subst ex;have hxy:(x,y)∈ps:=l.resolve_left fun z=>ey z.symm;rcases h with⟨h1,h2⟩|⟨h1,h2⟩
   .exact h2 y hy hxy
   .exact .inr (o.trs _ _ _ h1 hxy)
 .by_cases ey:y=P
  .rw[zN ex,zP ey];subst ey;have hxy:(x,y)∈ps:=l.resolve_left ex;rcases h with⟨h1,h2⟩|⟨h1,h2⟩
   .exact .inr (o.trs _ _ _ hxy h1)
   .exact h2 x hx hxy
  .rw[zN ex,zN ey];exact l
def kr1{ps:List (Int×Int)}{names:List Int}{P G:Int}(h:koa ps names P G):(∀ x,kfu ps x (kg6 P G x))\/∀x,kfu ps (kg6 P G x) x:=by
 unfold kg6;rcases h with⟨h1,_⟩|⟨h1,_⟩
 .refine .inl fun x=>?_;by_cases e:x=P
  .rw[zP e,e];exact .inr h1
  .rw[zN e];exact .inl rfl
 .refine .inr fun x=>?_;by_cases e:x=P
  .rw[zP e,e];exact .inr h1
  .rw[zN e];exact .inl rfl
structure Snd(n:Nat)(ps:List (Int×Int))(names last:List Int):Prop where
 len:last.length=n
 to: ∀x∈last,x∈names
 fix: ∀x∈names,gt last x=x
 mono: ∀q∈ps,kfu ps (gt last q.1) (gt last q.2)
def kg1{xs:List Int}{i:Int}(h0:0<=i)(h1:i<xs.length):gt xs i∈xs:=by
 unfold gt;rw[bb5,ba4 (by lia:i.toNat<xs.length)];exact bf1 _
def khp{xs:List Int}{f:Int->Int}{i:Int}(h0:0<=i)(h1:i<xs.length):gt (xs.map f) i=f (gt xs i):=by
 unfold gt;have:i.toNat<xs.length:=by lia
 simp[this]
def km1{n:Nat}{i:Int}(h0:0<=i)(h1:i<(n:Int)):gt (ka7 n) i=i:=by
 unfold gt ka7;have:i.toNat<n:=by lia
 simp[this];lia
def Snd.start{n:Nat}{ps:List (Int×Int)}(h:kfg n ps):Snd n ps (ka7 n) (ka7 n):=by
 refine⟨kbt n,fun x hx=>hx,fun x hx=>?_,fun q hq=>?_⟩
 .obtain⟨a,b⟩:=kfb.mp hx;exact km1 a b
 .obtain⟨a,b,c,d⟩:=h q hq;rw[km1 a b,km1 c d];exact .inr hq
def Snd.step{n:Nat}{ps:List (Int×Int)}{names last:List Int}(o:Ordr ps)(hin:kfg n ps)(nd:names.Nodup)(inn: ∀x∈names,0<=x/\x<(n:Int))(S:Snd n ps names last){p:Nat}{P G:Int}(hp:names[p]?=some P)(hG:G∈names)(hne:G≠P)(h:koa ps names P G):
 Snd n ps (names.eraseIdx p) (last.map (kg6 P G)):=by
 refine⟨by rw[ba3];exact S.len,fun x hx=>?_,fun x hx=>?_,fun q hq=>?_⟩
 .obtain⟨y,hy,rfl⟩:=bb1.mp hx;rw[kg0 nd hp];unfold kg6;by_cases e:y=P
  .rw[zP e];exact⟨hG,hne⟩
  .rw[zN e];exact⟨S.to y hy,e⟩
 .obtain⟨h1,h2⟩:=(kg0 nd hp).mp hx;obtain⟨a,b⟩:=inn x h1;rw[khp a (by rw[S.len];exact b),S.fix x h1];unfold kg6;rw[zN h2]
 .obtain⟨a,b,c,d⟩:=hin q hq;have l1:q.1<(last.length:Int):=by rw[S.len];exact b
  have l2:q.2<(last.length:Int):=by rw[S.len];exact d
  rw[khp a l1,khp c l2];exact kr0 o h (S.to _ (kg1 a l1)) (S.to _ (kg1 c l2)) (S.mono q hq)
abbrev mvF:List (Int×Int)->List Int->List Int->List (Int×Int)
 | _,_,[]=>[]
 | ps,names,p::row=>(names.getD p.toNat 0,names.getD ((kbl ps p).getD 0).toNat 0)::mvF (woF ps p) (names.eraseIdx p.toNat) row
abbrev sdF(last:List Int):List (Int×Int)->List (List Int)
 | []=>[]
 | m::mv=>last.map (kg6 m.1 m.2)::sdF (last.map (kg6 m.1 m.2)) mv
def k0b: ∀(row:List Int)(ps:List (Int×Int))(names last:List Int),wkS ps names last row=sdF last (mvF ps names row)
 | [],_,_,_=>rfl
 | p::row,ps,names,last=>by
   show kkh ps names last p::wkS (woF ps p) (names.eraseIdx p.toNat) (kkh ps names last p) row=_;rw[k0b row];rfl
def ki1{l:List Int}{p:Int}(h0:0<=p)(h1:p<l.length):l[p.toNat]?=some (l.getD p.toNat 0):=by
 have:p.toNat<l.length:=by lia
 rw[bb5,ba4 this];rfl
def kvj: ∀{a:Nat}{qs:List (Int×Int)}{row:List Int}{n':Nat}{ps':List (Int×Int)},Walk a qs row n' ps'->∀{names:List Int},names.length=a->names.Nodup->wkN qs names row=names.filter fun x=> !decide (x∈(mvF qs names row).map (·.1)):=by
 intro a qs row n' ps' w;induction w with
 | nil n ps=>
   intro names O O;show names=_;rw[bx6.mpr];intro x O;rfl
 | @cons m ps p row n' ps' h0 h1 h2 w ih=>
   intro names hl nd;have hp:=ki1 (l:=names) h0 (by rw[hl];exact h1);show wkN (woF ps p) (names.eraseIdx p.toNat) row=_;rw[ih (by rw[bl4 (by lia)];lia) (nd.sublist (cb4 _ _))];show _=names.filter fun x=> !decide (x∈names.getD p.toNat 0::(mvF (woF ps p) (names.eraseIdx p.toNat) row).map (·.1))
   conv=>lhs;rw[ki0 nd hp,b56]
   rw[<- ki0 nd hp];refine b78 fun x O=>?_;by_cases e1:x=names.getD p.toNat 0 <;> by_cases e2:x∈(mvF (woF ps p) (names.eraseIdx p.toNat) row).map (·.1) <;> simp only[e1,e2,bc6,true_or,false_or,or_true,or_false,decide_true,decide_false,cn1,cc1,Bool.and_true,b07,cb7,b90]
def ki2{n:Nat}{ps:List (Int×Int)}(o:Ordr ps)(hin:kfg n ps): ∀{a:Nat}{qs:List (Int×Int)}{row:List Int}{n':Nat}{ps':List (Int×Int)},Walk a qs row n' ps'->∀{names last:List Int},names.length=a->Nm n ps qs names->Snd n ps names last->
 (∀ r∈last::wkS qs names last row,∃names,Snd n ps names r/\∀x∈names,0<=x/\x<(n:Int))/\(∀ (k:Nat)(x y:List Int),(last::wkS qs names last row)[k]?=some x->(last::wkS qs names last row)[k+1]?=some y->∃P G:Int,y=x.map (kg6 P G)/\∃names,koa ps names P G)/\
 ∃ini fin,last::wkS qs names last row=ini++[fin]/\Snd n ps (wkN qs names row) fin/\Nm n ps ps' (wkN qs names row)/\(wkN qs names row).length=n':=by
 intro a qs row n' ps' w;induction w with
 | nil a qs=>
   intro names last hl N S;refine⟨fun r hr=>?_,fun k x y h1 h2=>?_,[],last,rfl,S,N,hl⟩
   .rw[bc4.mp hr];exact⟨_,S,N.inn⟩
   .have:=(bb3.mp h2).1;simp[wkS]at this
 | @cons m qs p row n' ps' h0 h1 h2 w ih=>
   intro names last hl N S;obtain⟨g,hg⟩:=bo1.mp h2;have gs:=kkc hg;have gi:=kiz N.inr hg;have hp:=ki1 (l:=names) h0 (by rw[hl];exact h1);have hgn:=ki1 (l:=names) gi.1 gi.2;have ep:((p.toNat:Nat):Int)=p:=(by lia)
   have eg:((g.toNat:Nat):Int)=g:=(by lia)
   have gn:=N.goal hp hgn (by rw[ep,eg];exact gs);have hG:names.getD g.toNat 0∈names:=bd9 hgn;have hne:names.getD g.toNat 0≠names.getD p.toNat 0:=by
    intro z;rcases gn with⟨h,_⟩|⟨h,_⟩
    .rw[z]at h;exact o.irr _ h
    .rw[z]at h;exact o.irr _ h
   have S2:=S.step o hin N.nd N.inn hp hG hne gn;have N2:=N.step hp;rw[ep]at N2;have es:kkh qs names last p=last.map (kg6 (names.getD p.toNat 0) (names.getD g.toNat 0)):=by
    unfold kkh kg6;rw[hg];rfl
   have l2:(names.eraseIdx p.toNat).length=m:=(by rw[bl4 (by lia)];lia)
   rw[<- es]at S2;obtain⟨i1,i2,ini,fin,i3,i4,i5,i6⟩:=ih l2 N2 S2;have ew:wkS qs names last (p::row)=kkh qs names last p::wkS (woF qs p) (names.eraseIdx p.toNat) (kkh qs names last p) row:=rfl;have en:wkN qs names (p::row)=wkN (woF qs p) (names.eraseIdx p.toNat) row:=rfl;rw[ew,en];refine⟨fun r hr=>?_,fun k x y h1 h2=>?_,last::ini,fin,by rw[i3];rfl,i4,i5,i6⟩
   .rcases bc6.mp hr with rfl|hr
    .exact⟨_,S,N.inn⟩
    .exact i1 r hr
   .cases k with
    | zero=>
      have e1:last=x:=bf4 h1;have e2:kkh qs names last p=y:=bf4 h2;subst e1;exact⟨_,_,by rw[<- e2,es],names,gn⟩
    | succ k=>exact i2 k x y h1 h2
abbrev km2(ds:List bb0)(RS:Dt->Prop):Prop:=∃(n:Nat)(ps:List (Int×Int))(row:List Int)(n':Nat)(ps':List (Int×Int)),ds=[spD n ps,.list (row.map ba1)]/\n<=100/\kfg n ps/\Walk n ps row n' ps'/\RS (.o ((mvF ps (ka7 n) row).map pD))
abbrev k0c(ds:List bb0)(RS:Dt->Prop):Prop:=∃(n:Nat)(ps:List (Int×Int))(row:List Int)(n':Nat)(ps':List (Int×Int)),ds=[spD n ps,.list (row.map ba1)]/\n<=100/\kfg n ps/\Walk n ps row n' ps'/\RS (.o ((wkN ps (ka7 n) row).map ba1))
abbrev k0d(ds:List bb0)(RS:Dt->Prop):Prop:=∃(n:Nat)(ps:List (Int×Int))(row:List Int)(n':Nat)(ps':List (Int×Int)),ds=[spD n ps,.list (row.map ba1)]/\n<=100/\kfg n ps/\Walk n ps row n' ps'/\RS (.o ((ka7 n::wkS ps (ka7 n) (ka7 n) row).map ka9))
abbrev kr2(ds:List bb0)(RS:Dt->Prop):Prop:=∃(n:Nat)(ps:List (Int×Int))(ns:List Int)(k:Nat),ds=[spD n ps,kd7 ns,.int (k:Int)]/\n<=100/\kfg n ps/\∀(row:List Int)(n':Nat)(ps':List (Int×Int)),Walk n ps row n' ps'->kbr n' ps'=[]->RS (iO row)
def kr3: ∀(row:List Int)(ps:List (Int×Int))(names:List Int),(mvF ps names row).length=row.length
 | [],_,_=>rfl
 | p::row,ps,names=>zC (· +1) (kr3 row _ _)
def kwy: ∀(mv:List (Int×Int))(last:List Int),(sdF last mv).length=mv.length
 | [],_=>rfl
 | m::mv,last=>zC (· +1) (kwy mv _)
def kvk(l:List Int)(x:Int):((l.map ba1).any fun d=>d.eqv (ba1 x))=decide (x∈l):=by
 rw[bh5,b97,decide_eq_true_iff];constructor
 .rintro⟨d,hd,e⟩;obtain⟨y,hy,rfl⟩:=bb1.mp hd;rw[ka1]at e;rw[<- zO e];exact hy
 .intro h;exact⟨.int x,bb1.mpr ⟨x,h,rfl⟩,by rw[ka1];exact zT rfl⟩
def k3x(xs:List Int):okD (.list (xs.map ba1)):=kbb xs
def k3y(xs:List Int):khx (.list (xs.map ba1)):=by
 show bg8 (xs.map ba1)+1<=9;rw[kd5];decide
def km3(n:Nat)(ps:List (Int×Int)):(kbr n ps).length<=n:=by
 unfold kbr;refine bi9 (bo5 _ _) ?_;simp
section
variable{P:bb9}{w:be5}{K:ba2}{mg:Str->Option ba6}{base:Heap}
def k0e:FnScope ["space","row","here","first_numbers","found","point","behind"] ["space","row"] (kaj kk3):=by ac_rfl
def ok_Mv{f:Addr}{fd:be7}(F:Fun K "moves" "moves" kk3 f fd)(T:Txt K mg)(GFo:F10 P w K mg base)(GGo:F9 P w K mg base):
 FnOk P w K mg base CX0 5 f fd ["space","row"] (spG K km2):=by
 refine F.okG k0e (fun ds RS h=>?_) (fun a A o s H E hr=>(kab (kap 2 (fun O=>k0e.nd) (kad 0))
  (kab (kbh 3 (fun O=>k0e.nd) (kb4 (kam (kai 0) (kae).bw).bw (fun O=>T.c) (fun O=>T.a)))
  (kab (kbh 4 (fun O=>k0e.nd) (kbj kah))
  (kab (kbn nofun (ka8 (kad 1)) (kaz 5 (fun O=>k0e.nd)) (kab (kap 6 (fun O=>k0e.nd) (kal GFo ⋯ (kaa (kad 2) (kaa (kad 5) kah))))
  (kab (keb 4 (kbf (kaa (kam (kai 3) (kaf 5)) (kaa (kam (kai 3) (kal GGo ⋯ (kaa (kad 2) (kaa (kad 5) kah))).bw) kah))))
  (kab (kpu 3 (kaf 5))
  (kag (kap 2 (fun O=>k0e.nd) (kad 6)))))))
  (kag (kb8 4))))))) (fun ds RS h=>?_)
 .obtain⟨n,ps,row,n',ps',rfl,_⟩:=h;rfl
 .obtain⟨n,ps,row,n',ps',rfl,hn,hin,hw,hR⟩:=h;exists fun env=>env=[.d (spD n ps),.d (.list (row.map ba1)),.d (spD n ps),.un,.un,.un,.un]
  .simp only[rD];exact hN _ rfl
  rintro env rfl;exists fun env=>env=[.d (spD n ps),.d (.list (row.map ba1)),.d (spD n ps),.o ((ka7 n).map ba1),.un,.un,.un]
  .simp only[rD,ka4,at0];refine⟨by lia,by lia,?_⟩;rw[bc3,kcm];exact hN _ rfl
  rintro env rfl;exists fun env=>env=[.d (spD n ps),.d (.list (row.map ba1)),.d (spD n ps),.o ((ka7 n).map ba1),.o [],.un,.un]
  .simp only[rD];exact hN _ rfl
  rintro env rfl;refine⟨_,rfl,_,rfl,fun k env=>∃(a:Nat)(qs:List (Int×Int))(names:List Int)(mv:List (Int×Int))(v5 v6:Dt),env=[.d (spD n ps),.d (.list (row.map ba1)),.d (spD a qs),iO names,.o (mv.map pD),v5,v6]/\
   Walk a qs (row.drop k) n' ps'/\kfg a qs/\names.length=a/\mv.length=k/\mvF ps (ka7 n) row=mv++mvF qs names (row.drop k),⟨n,ps,ka7 n,[],_,_,rfl,hw,hin,kbt n,rfl,rfl⟩,?_,?_⟩
  .rintro k y env hy⟨a,qs,names,mv,v5,v6,rfl,w,iq,ln,ls,e1⟩;rw[bc8]at hy;obtain⟨p,hp,rfl⟩:=be2.mp hy;obtain⟨hk,e⟩:=bb3.mp hp;have wl:=hw.len;rw[bk5 hk,e]at w e1;cases w with
   | @cons m _ _ _ _ _ h0 h1 h2 w=>
     have wl2:=w.len;rw[bq7]at wl2;obtain⟨g,hg⟩:=bo1.mp h2;have hgi:=kiz iq hg;have hpn:p<names.length:=(by rw[ln];exact h1)
     simp only[rD,kfv h0 hpn];refine⟨_,qs,p,rfl,h0,h1,h2,_,rfl,?_⟩;refine⟨_,qs,p,rfl,h0,h1,_,rfl,?_⟩;rw[hg];refine⟨g,rfl,_,kfv hgi.1 (by rw[ln];exact hgi.2),?_⟩;have eb:((names.map ba1).eraseIdx p.toNat)=(names.eraseIdx p.toNat).map ba1:=ke3 _ _ _;have iq2:=krv iq h0 h1;rw[sc1]at iq2;refine⟨by rw[ba3];lia,p.toNat,by lia,by rw[ba3];lia,by lia,m,woF qs p,names.eraseIdx p.toNat,mv++[(names.getD p.toNat 0,names.getD g.toNat 0)],dI p,.d (spD (m:Int) (woF qs p)),?_,w,iq2,?_,?_,?_⟩
     .rw[sc1,eb,be3];rfl
     .rw[bl4 (by lia)];lia
     .rw[bb4,ls];rfl
     .rw[e1,bh6];show mv++((_,names.getD ((kbl qs p).getD 0).toNat 0)::mvF (woF qs p) (names.eraseIdx p.toNat) _)=_;rw[hg];rfl
  .rintro env⟨a,qs,names,mv,v5,v6,rfl,w,iq,ln,ls,e1⟩;rw[ba3,b23]at w e1;cases w;refine⟨_,rfl,?_⟩;rw[e1,show mvF ps' names []=[]from rfl,be9]at hR;exact⟨(fun z=>by cases z),hR⟩
def scLe:FnScope ["space","row","gone"] ["space","row"] (kaj krd):=by ac_rfl
@[reducible]def F20(P)(w)(K)(mg)(base):=Fn P w K mg base "moves" 5 ["space","row"] (spG K km2)
def ok_Le{f:Addr}{fd:be7}(F:Fun K "left" "left" krd f fd)(T:Txt K mg)(GMv:F20 P w K mg base):
 FnOk P w K mg base CX0 6 f fd ["space","row"] (spG K k0c):=by
 refine F.okG scLe (fun ds RS h=>?_) (fun a A o s H E hr=>(kab (kap 2 (fun O=>scLe.nd) ((kcv (N':=["away","onto"]) (fun O=>(.own (.own .nil))) (ka8 ((ka5 GMv ⋯ (kaa (kad 0) (kaa (kad 1) kah))).ew)) (kcb 0 1 (fun O=>(by decide +kernel:(["away","onto"]:List Str).Nodup))) kbe (kad 0)).ew))
  (kag (kcy (kcv (N':=["point","gone"]) (fun O=>(.own (.cap 2 rfl rfl rfl .nil))) (ka6 (kam (kai 0) (kae).bw).bw (fun O=>T.a)) (kaz 0 (fun O=>(by decide +kernel:(["point","gone"]:List Str).Nodup))) (kch (kaw (kh0 ∅) (kaf 0) (kaf 1))) (kad 0)))))) (fun ds RS h=>?_)
 .obtain⟨n,ps,row,n',ps',rfl,_⟩:=h;rfl
 .obtain⟨n,ps,row,n',ps',rfl,hn,hin,hw,hR⟩:=h;exists fun env=>env=[.d (spD n ps),.d (.list (row.map ba1)),.d (.list (((mvF ps (ka7 n) row).map (·.1)).map ba1))]
  .simp only[rD,xLC];refine⟨n,ps,row,n',ps',rfl,hn,hin,hw,?_⟩;refine⟨_,rfl,Gf (mvF ps (ka7 n) row) pD (fun O=>true) (fun q=> .int q.1),fun y hy=>?_,fun o ho=>?_⟩
   .obtain⟨q,hq,rfl⟩:=bb1.mp hy;exact⟨_,_,rfl,Gf.keep hq rfl rfl⟩
   .rw[Gf.all kee ho];exact hN _ (by rw[bc1];rfl)
  rintro env rfl;simp only[rD,xLC,ka4,at0];refine⟨by lia,by lia,?_⟩;rw[bc3,kcm];refine⟨Gf (ka7 n) ba1 (fun x=> !decide (x∈(mvF ps (ka7 n) row).map (·.1))) ba1,fun y hy=>?_,fun o ho=>?_⟩
  .obtain⟨x,hx,rfl⟩:=bb1.mp hy;refine⟨kbb _,okI x,shI x,?_⟩;rw[kvk];exact kck (fun e=>Gf.keep hx e rfl) (fun e=>Gf.skip hx (by simpa using e))
  .rw[Gf.out kbp ho,<- kvj hw (kbt n) (klc n)];exact hR
def k3z:FnScope ["space","row","last","told","away","onto"] ["space","row"] (kaj kfo):=by ac_rfl
def ok_Se{f:Addr}{fd:be7}(F:Fun K "sendings" "sendings" kfo f fd)(T:Txt K mg)(GMv:F20 P w K mg base):
 FnOk P w K mg base CX0 6 f fd ["space","row"] (spG K k0d):=by
 refine F.okG k3z (fun ds RS h=>?_) (fun a A o s H E hr=>(kab (kap 2 (fun O=>k3z.nd) ((kb4 (kam (kai 0) (kae).bw).bw (fun O=>T.c) (fun O=>T.a)).ew))
  (kab (kbh 3 (fun O=>k3z.nd) (kbj (kaa (kdo 2 (fun O=>T.d)) kah)))
  (kab (kbn nofun (ka8 ((ka5 GMv ⋯ (kaa (kad 0) (kaa (kad 1) kah))).ew)) (kcb 4 5 (fun O=>k3z.nd)) (kab (kcc 2 (fun O=>k3z.nd) (N':=["point","onto","away"]) (fun O=>(.own (.cap 5 rfl rfl rfl (.cap 4 rfl rfl rfl .nil)))) (ka8 (kad 2)) (kaz 0 (fun O=>(by decide +kernel:(["point","onto","away"]:List Str).Nodup))) kbe (kx8 (kaw (kcg ∅) (kaf 0) (kaf 2)) (kad 1) (kad 0)))
  (DSs.frz 2 (kag (keb 3 (kdo 2 (fun O=>T.d)))))))
  (kag (kb8 3)))))) (fun ds RS h=>?_)
 .obtain⟨n,ps,row,n',ps',rfl,_⟩:=h;rfl
 .obtain⟨n,ps,row,n',ps',rfl,hn,hin,hw,hR⟩:=h;exists fun env=>env=[.d (spD n ps),.d (.list (row.map ba1)),.d (.list ((ka7 n).map ba1)),.un,.un,.un]
  .simp only[rD,ka4,at0];refine⟨by lia,by lia,?_⟩;rw[bc3,kcm];exact hN _ rfl
  rintro env rfl;exists fun env=>env=[.d (spD n ps),.d (.list (row.map ba1)),.d (.list ((ka7 n).map ba1)),.o [ka9 (ka7 n)],.un,.un]
  .simp only[rD];exact hN _ rfl
  rintro env rfl;have wl:=hw.len;refine⟨_,rfl,_,rfl,n,ps,row,n',ps',rfl,hn,hin,hw,_,rfl,_,rfl,fun k env=>∃(last:List Int)(told:List (List Int))(v4 v5:Dt),env=[.d (spD n ps),.d (.list (row.map ba1)),.d (.list (last.map ba1)),.o (told.map ka9),v4,v5]/\told.length=k+1/\ka7 n::sdF (ka7 n) (mvF ps (ka7 n) row)=told++sdF last ((mvF ps (ka7 n) row).drop k),⟨ka7 n,[ka7 n],_,_,rfl,rfl,rfl⟩,?_,?_⟩
  .rintro k y env hy⟨last,told,v4,v5,rfl,lt,e1⟩;rw[bc8]at hy;obtain⟨q,hq,rfl⟩:=be2.mp hy;obtain⟨hk,e⟩:=bb3.mp hq;have hk2:=hk;rw[kr3]at hk2;rw[bk5 hk,e]at e1;simp only[rD,xLC];refine⟨_,_,rfl,?_⟩;refine⟨Gf last ba1 (fun O=>true) (fun x=> .int (kg6 q.1 q.2 x)),fun y hy=>?_,fun o ho=>?_⟩
   .obtain⟨x,hx,rfl⟩:=bb1.mp hy;refine⟨okI _,okI _,.inl (shI _),?_⟩;rw[ka1];refine kck (fun e=>?_) (fun e=>?_)
    .exact Gf.keep hx rfl (by show ba1 q.2=ba1 (kg6 q.1 q.2 x);unfold kg6;rw[zP (zO e)])
    .exact Gf.keep hx rfl (by show ba1 x=ba1 (kg6 q.1 q.2 x);unfold kg6;rw[zN (by simpa using e)])
   .rw[Gf.all kbp ho];refine⟨by rw[ba3];lia,last.map (kg6 q.1 q.2),told++[last.map (kg6 q.1 q.2)],.d (.int q.1),.d (.int q.2),?_,by rw[bb4,lt];rfl,?_⟩
    .rw[be3,bc1,List.map_singleton];unfold ka9;rw[bc1];rfl
    .rw[e1,bh6];rfl
  .rintro env⟨last,told,v4,v5,rfl,lt,e1⟩;rw[ba3,b23]at e1;rw[k0b,e1,show sdF last []=[]from rfl,be9]at hR;exact⟨_,rfl,(fun z=>by cases z),hR⟩
def ks7:FnScope ["space","script","at","cell","digits","row","some","pick"] ["space","script","at"] (kaj kcj):=by ac_rfl
@[reducible]def F21(P)(w)(K)(mg)(base):=Fn P w K mg base "_law_foldable" 2 ["space"] (spG K kct)
def ok_Dw{f:Addr}{fd:be7}(F:Fun K "_law_drawn_row" "_law_drawn_row" kcj f fd)(T:Txt K mg)(GDRw:F12 P w K mg base)(GDDr:F11 P w K mg base)(GDSt:F7 P w K mg base)(GLf:F21 P w K mg base)(GLo:F19 P w K mg base):
 FnOk P w K mg base CX0 3 f fd ["space","script","at"] (spG K kr2):=by
 refine F.okG ks7 (fun ds RS h=>?_) (fun a A o s H E hr=>(kab (kap 3 (fun O=>ks7.nd) (kal GDRw ⋯ (kaa (kad 1) (kaa (kad 2) kah))))
  (kab (kap 4 (fun O=>ks7.nd) (kao kbw (kaf 3) (kae).bw))
  (kab (kbh 5 (fun O=>ks7.nd) (kbj kah))
  (kab (kap 6 (fun O=>ks7.nd) ((ka5 GLf ⋯ (kaa (kad 0) kah)).ew))
  (kab (kf6 nofun (kaw (kdm ∅) (kaf 6) (kbj kah).bw) (kab (kap 7 (fun O=>ks7.nd) (kao kbo (kaf 4) (kbv (kai 6) (fun O=>T.b)).bw))
  (kab (kap 4 (fun O=>ks7.nd) (kao kbw (kaf 4) (kbv (kai 6) (fun O=>T.b)).bw))
  (kab (kba (kaw (kcg ∅) (kao kbo (kaf 3) (kae).bw).bw (kae).bw) (kag (kap 7 (fun O=>ks7.nd) (kal GDDr ⋯ (kaa (kal GDSt ⋯ (kaa (kad 3) kah)) (kaa (kbv (kai 5) (fun O=>T.b)) (kaa (kbv (kai 6) (fun O=>T.b)) kah)))))) kav)
  (kab (keb 5 (kam (kai 6) (kaf 7)))
  (kab (kap 0 (fun O=>ks7.nd) (kal GLo ⋯ (kaa (kad 0) (kaa (kam (kai 5) (kpd (kae)).bw) kah))))
  (kag (kap 6 (fun O=>ks7.nd) ((ka5 GLf ⋯ (kaa (kad 0) kah)).ew)))))))))
  (kag (kb8 5)))))))) (fun ds RS h=>?_)
 .obtain⟨n,ps,ns,k,rfl,_⟩:=h;rfl
 .obtain⟨n,ps,ns,k0,rfl,hn,hin,hR⟩:=h;exists fun env=>∃c:Int,env=[.d (spD n ps),.d (kd7 ns),dI k0,dI c,.un,.un,.un,.un]
  .simp only[rD];exact⟨ns,k0,rfl,fun c=>⟨_,rfl,hN _ ⟨c,rfl⟩⟩⟩
  rintro env⟨c,rfl⟩;exists fun env=>∃dg:Int,env=[.d (spD n ps),.d (kd7 ns),dI k0,dI c,dI dg,.un,.un,.un]
  .simp only[rD];exact⟨by simp[k0y],hN _ ⟨_,rfl⟩⟩
  rintro env⟨dg,rfl⟩;exists fun env=>env=[.d (spD n ps),.d (kd7 ns),dI k0,dI c,dI dg,.o [],.un,.un]
  .simp only[rD];exact hN _ rfl
  rintro env rfl;exists fun env=>env=[.d (spD n ps),.d (kd7 ns),dI k0,dI c,dI dg,.o [],.d (.list ((kbr n ps).map ba1)),.un]
  .simp only[rD];exact⟨n,ps,rfl,hn,_,rfl,hN _ rfl⟩
  rintro env rfl;refine⟨fun m env=>∃(qs:List (Int×Int))(row:List Int)(dg:Int)(v7:Dt),env=[.d (spD m qs),.d (kd7 ns),dI k0,dI c,dI dg,iO row,.d (.list ((kbr m qs).map ba1)),v7]/\Walk n ps row m qs/\kfg m qs,⟨n,ps,[],dg,_,rfl,.nil n ps,hin⟩,?_⟩;rintro m env⟨qs,row,dg,v7,rfl,w,iq⟩;have hl:=w.len;refine⟨_,_,rfl,rfl,bf7 _,k3x _,rfl,.inl (k3y _),_,rfl,?_⟩;rw[show bg3 (.list ((kbr m qs).map ba1)) (.list [])=decide (kbr m qs=[])from kiw _ []];refine kck (fun e=>?_) (fun e=>?_)
  .have hne:kbr m qs≠[]:=(by simpa using e)
   have hpos:0<(kbr m qs).length:=List.length_pos_iff.mpr hne;exists fun env=>∃pk:Int,env=[.d (spD m qs),.d (kd7 ns),dI k0,dI c,dI dg,iO row,.d (.list ((kbr m qs).map ba1)),dI pk]/\0<=pk/\pk<(kbr m qs).length
   .simp only[rD];rw[ba3];exact⟨by lia,hN _ ⟨_,rfl,bp9 _ (by lia),bp2 _ (by lia)⟩⟩
   rintro env⟨pk,rfl,p0,p1⟩;exists fun env=>∃dg:Int,env=[.d (spD m qs),.d (kd7 ns),dI k0,dI c,dI dg,iO row,.d (.list ((kbr m qs).map ba1)),dI pk]
   .simp only[rD];rw[ba3];have:=km3 m qs;exact⟨⟨by lia,by lia⟩,hN _ ⟨_,rfl⟩⟩
   rintro env⟨dg,rfl⟩;exists fun env=>∃pk:Int,env=[.d (spD m qs),.d (kd7 ns),dI k0,dI c,dI dg,iO row,.d (.list ((kbr m qs).map ba1)),dI pk]/\0<=pk/\pk<(kbr m qs).length
   .simp only[rD];refine⟨by decide,okI _,okI _,.inl (shI _),kck (fun e=>?_) (fun e=>hN _ ⟨_,rfl,p0,p1⟩)⟩;exact⟨c,rfl,fun r=>⟨_,rfl,r,_,_,rfl,by rw[ba3];lia,fun r2 a1 a2=>⟨_,rfl,hN _ ⟨r2,rfl,a1,by rw[ba3]at a2;exact a2⟩⟩⟩⟩
   rintro env⟨pk,rfl,p0,p1⟩;obtain⟨m',rfl⟩: ∃m',m=m'+1:=⟨m-1,by have:=km3 m qs;lia⟩
   have hpm:(kbr (m'+1) qs).getD pk.toNat 0∈kbr (m'+1) qs:=kg1 (xs:=kbr (m'+1) qs) p0 p1;simp only[rD,kfv p0 p1];generalize(kbr (m'+1) qs).getD pk.toNat 0=p at hpm⊢;have hp:=kmw hpm;have iq2:=krv iq hp.1 hp.2.1;rw[sc1]at iq2;refine⟨by rw[ba3];lia,_,kht _ _,m'+1,qs,p,rfl,by lia,hp.1,hp.2.1,iq,_,rfl,?_⟩;rw[sc1];exact⟨m',woF qs p,rfl,by lia,_,rfl,m',bs3 _,woF qs p,row++[p],dg,_,by unfold iO;rw[be3];rfl,w.snoc hp.1 hp.2.1 hp.2.2,iq2⟩
  .have h0:kbr m qs=[]:=(by simpa using e)
   exact⟨_,rfl,(fun z=>by cases z),hR row m qs w h0⟩
end
abbrev Plaw(ds:List bb0)(RS:Dt->Prop):Prop:=∃ns:List Int,ds=[kd7 ns]/\ns.length<=63/\RS (.d (.bool true))
def km4(n:Int)(ps:List (Int×Int)):k2a (spD n ps)=true:=by
 show(khd (ps.map pD)&&true)=true;rw[kbq];rfl
def ok_sp(n:Int)(ps:List (Int×Int)):okD (spD n ps):=by
 show(bd7 (ps.map pD)&&true)=true;rw[kbk];rfl
def kg2: ∀ps:List (Int×Int),bg8 (ps.map pD)<=1
 | []=>bf7 _
 | p::r=>by
   show max (br3 (pD p)) (bg8 (r.map pD))<=1;have h1:=kg2 r;have h2:br3 (pD p)=1:=rfl;lia
def kkd: ∀ps qs:List (Int×Int),bl9 (ps.map pD) (qs.map pD)=decide (ps=qs)
 | [],[]=>rfl
 | [],_::_=>rfl
 | _::_,[]=>rfl
 | x::xs,y::ys=>by
   show(bg3 (pD x) (pD y)&&bl9 (xs.map pD) (ys.map pD))=_;rw[krh,kkd xs ys];by_cases h1:x=y <;> by_cases h2:xs=ys <;> simp[h1,h2]
@[reducible]def Rl:=Nat->Nat->Bool
structure Iso(n:Nat)(T U:Rl)(f:Nat->Nat):Prop where
 lt: ∀a,a<n->f a<n
 inj: ∀a b,a<n->b<n->f a=f b->a=b
 eq: ∀a b,a<n->b<n->T a b=U (f a) (f b)
def kcu{f:Nat->Nat}: ∀{l:List Nat},l.Nodup->(∀ a b,a∈l->b∈l->f a=f b->a=b)->(l.map f).Nodup
 | [],_,_=>bt0
 | a::l,h,hf=>by
   obtain⟨h1,h2⟩:=bj4.mp h;rw[bg2];refine bj4.mpr ⟨fun z=>?_,kcu h2 fun x y hx hy=>hf x y (bc0 _ hx) (bc0 _ hy)⟩;obtain⟨b,hb,e⟩:=bb1.mp z;have:=hf b a (bc0 _ hb) bb8 e;rw[this]at hb;exact h1 hb
def k0f{n:Nat}{f:Nat->Nat}(lt: ∀a,a<n->f a<n)(inj: ∀a b,a<n->b<n->f a=f b->a=b){b:Nat}(hb:b<n): ∃a,a<n/\f a=b:=by
 refine bp7 fun z=>?_;have nd:((ba8 n).map f).Nodup:=kcu bj2 fun x y hx hy=>inj x y (bb2.mp hx) (bb2.mp hy);have nd2:(b::(ba8 n).map f).Nodup:=bj4.mpr ⟨fun m=>by
  obtain⟨a,ha,e⟩:=bb1.mp m;exact z ⟨a,bb2.mp ha,e⟩,nd⟩
 have sub:(b::(ba8 n).map f) ⊆ ba8 n:=fun x hx=>by
  rcases bc6.mp hx with rfl|hx
  .exact bb2.mpr hb
  .obtain⟨a,ha,rfl⟩:=bb1.mp hx;exact bb2.mpr (lt a (bb2.mp ha))
 have:=nd2.length_le_of_subset sub;simp at this;lia
def Iso.onto{n:Nat}{T U:Rl}{f:Nat->Nat}(h:Iso n T U f){b:Nat}(hb:b<n): ∃a,a<n/\f a=b:=k0f h.lt h.inj hb
abbrev undr(T:Rl)(n p:Nat):List Nat:=(ba8 n).filter fun q=>T q p
abbrev ovr(T:Rl)(n p:Nat):List Nat:=(ba8 n).filter fun q=>T p q
def kbu{T:Rl}{n p q:Nat}:q∈undr T n p↔q<n/\T q p=true:=by unfold undr;rw[be6,bb2]
def kdg{T:Rl}{n p q:Nat}:q∈ovr T n p↔q<n/\T p q=true:=by unfold ovr;rw[be6,bb2]
def khq(T:Rl)(n p:Nat):(undr T n p).Nodup:=bj2.filter _
def kke(T:Rl)(n p:Nat):(ovr T n p).Nodup:=bj2.filter _
def Iso.undr{n:Nat}{T U:Rl}{f:Nat->Nat}(h:Iso n T U f){p:Nat}(hp:p<n):((undr T n p).map f).Perm (undr U n (f p)):=by
 refine(bm9 (kcu (khq T n p) fun a b ha hb=>h.inj a b (kbu.mp ha).1 (kbu.mp hb).1) (khq U n (f p))).mpr fun x=>?_;rw[kbu,bb1];constructor
 .rintro⟨a,ha,rfl⟩;obtain⟨h1,h2⟩:=kbu.mp ha;exact⟨h.lt a h1,by rw[<- h.eq a p h1 hp];exact h2⟩
 .rintro⟨h1,h2⟩;obtain⟨a,ha,rfl⟩:=h.onto h1;exact⟨a,kbu.mpr ⟨ha,by rw[h.eq a p ha hp];exact h2⟩,rfl⟩
def Iso.ovr{n:Nat}{T U:Rl}{f:Nat->Nat}(h:Iso n T U f){p:Nat}(hp:p<n):((ovr T n p).map f).Perm (ovr U n (f p)):=by
 refine(bm9 (kcu (kke T n p) fun a b ha hb=>h.inj a b (kdg.mp ha).1 (kdg.mp hb).1) (kke U n (f p))).mpr fun x=>?_;rw[kdg,bb1];constructor
 .rintro⟨a,ha,rfl⟩;obtain⟨h1,h2⟩:=kdg.mp ha;exact⟨h.lt a h1,by rw[<- h.eq p a hp h1];exact h2⟩
 .rintro⟨h1,h2⟩;obtain⟨a,ha,rfl⟩:=h.onto h1;exact⟨a,kdg.mpr ⟨ha,by rw[h.eq p a hp ha];exact h2⟩,rfl⟩
def kr4: ∀{x y:List Int},x.Pairwise (· <= ·)->y.Pairwise (· <= ·)->x.Perm y->x=y
 | [],y,_,_,p=>(ci5 p)
 | a::x,[],_,_,p=>zA p.length_eq (by simp)
 | a::x,b::y,hx,hy,p=>by
   obtain⟨h1,h2⟩:=bl3.mp hx;obtain⟨h3,h4⟩:=bl3.mp hy;have e:a=b:=by
    have m1:a∈b::y:=p.mem_iff.mp bb8;have m2:b∈a::x:=p.mem_iff.mpr bb8;rcases bc6.mp m1 with e|m1
    .exact e
    .rcases bc6.mp m2 with e|m2
     .exact e.symm
     .exact Int.le_antisymm (h1 b m2) (h3 a m1)
   subst e;rw[kr4 h2 h4 (ce1 p)]
abbrev kd9(l:List Int):List Int:=l.mergeSort (fun a b=>decide (a<=b))
def kd6(l:List Int):(kd9 l).Perm l:=List.mergeSort_perm ..
def km5(l:List Int):(kd9 l).Pairwise (· <= ·):=by
 have:=List.pairwise_mergeSort (le:=fun a b:Int=>decide (a<=b)) (fun a b c h1 h2=>by simp at h1 h2⊢;lia) (fun a b=>by simp;lia) l;exact this.imp fun h=>by simpa using h
def km6{l x:List Int}(h:x.Pairwise (· <= ·))(p:x.Perm l):x=kd9 l:=kr4 h (km5 l) (p.trans (kd6 l).symm)
def kg3{l x:List Int}(p:x.Perm l):kd9 x=kd9 l:=km6 (km5 x) ((kd6 x).trans p)
abbrev seen(T:Rl)(n:Nat)(M:Nat->Int)(p:Nat):Vw:=(M p,kd9 ((undr T n p).map M),kd9 ((ovr T n p).map M))
def Iso.seen{n:Nat}{T U:Rl}{f:Nat->Nat}(h:Iso n T U f){M N:Nat->Int}(r: ∀p,p<n->M p=N (f p)){p:Nat}(hp:p<n):seen T n M p=seen U n N (f p):=by
 unfold Me.seen;have e1:kd9 ((Me.undr T n p).map M)=kd9 ((Me.undr U n (f p)).map N):=by
  refine kg3 ?_;have:=(h.undr hp).map N;rw[bc1]at this;rw[show(Me.undr T n p).map M=(Me.undr T n p).map (N ∘ f)from bh9 fun q hq=>r q (kbu.mp hq).1];exact this
 have e2:kd9 ((Me.ovr T n p).map M)=kd9 ((Me.ovr U n (f p)).map N):=by
  refine kg3 ?_;have:=(h.ovr hp).map N;rw[bc1]at this;rw[show(Me.ovr T n p).map M=(Me.ovr T n p).map (N ∘ f)from bh9 fun q hq=>r q (kdg.mp hq).1];exact this
 rw[r p hp,e1,e2]
def Iso.all{n:Nat}{T U:Rl}{f:Nat->Nat}(h:Iso n T U f){M N:Nat->Int}(r: ∀p,p<n->M p=N (f p)):((ba8 n).map (Me.seen T n M)).Perm ((ba8 n).map (Me.seen U n N)):=by
 have pf:((ba8 n).map f).Perm (ba8 n):=by
  refine(bm9 (kcu bj2 fun a b ha hb=>h.inj a b (bb2.mp ha) (bb2.mp hb)) bj2).mpr fun x=>?_;rw[bb1,bb2];constructor
  .rintro⟨a,ha,rfl⟩;exact h.lt a (bb2.mp ha)
  .intro hx;obtain⟨a,ha,e⟩:=h.onto hx;exact⟨a,bb2.mpr ha,e⟩
 have:=pf.map (Me.seen U n N);rw[bc1]at this;rw[show(ba8 n).map (Me.seen T n M)=(ba8 n).map (Me.seen U n N ∘ f)from bh9 fun p hp=>h.seen r (bb2.mp hp)];exact this
def k30{n:Nat}{T U:Rl}{M N:Nat->Int}(hv:((ba8 n).map (seen T n M)).Perm ((ba8 n).map (seen U n N)))(hd: ∀a b,a<n->b<n->M a=M b->a=b){f:Nat->Nat}(hf: ∀p,p<n->f p<n/\N (f p)=M p):Iso n T U f:=by
 have mp:((ba8 n).map M).Perm ((ba8 n).map N):=by
  have:=hv.map (fun v:Vw=>v.1);rw[bc1,bc1]at this;exact this
 have ndM:((ba8 n).map M).Nodup:=by
  have: ∀{l:List Nat},l.Nodup->(∀ a b,a∈l->b∈l->M a=M b->a=b)->(l.map M).Nodup:=by
   intro l;induction l with
   | nil=>intro O O;exact bt0
   | cons a l ih=>
     intro h hf;obtain⟨h1,h2⟩:=bj4.mp h;rw[bg2];refine bj4.mpr ⟨fun z=>?_,ih h2 fun x y hx hy=>hf x y (bc0 _ hx) (bc0 _ hy)⟩;obtain⟨b,hb,e⟩:=bb1.mp z;have:=hf b a (bc0 _ hb) bb8 e;rw[this]at hb;exact h1 hb
  exact this bj2 fun a b ha hb=>hd a b (bb2.mp ha) (bb2.mp hb)
 have ndN:((ba8 n).map N).Nodup:=mp.nodup_iff.mp ndM;have hdN: ∀a b,a<n->b<n->N a=N b->a=b:=fun a b ha hb e=>by
  rcases bl1 a b with z|z|z
  .have:=be0.mp ndN a b (by simpa using ha) (by simpa using hb) z;simp at this;exact zA e this
  .exact z
  .have:=be0.mp ndN b a (by simpa using hb) (by simpa using ha) z;simp at this;exact zA e.symm this
 have sv: ∀p,p<n->seen T n M p=seen U n N (f p):=fun p hp=>by
  have m:seen T n M p∈(ba8 n).map (seen U n N):=hv.mem_iff.mp (bi7 (bb2.mpr hp));obtain⟨q,hq,e⟩:=bb1.mp m;have hq:=bb2.mp hq;have e1:N q=M p:=zC (fun v:Vw=>v.1) e;have:q=f p:=hdN q (f p) hq (hf p hp).1 (e1.trans (hf p hp).2.symm);rw[<- this];exact e.symm
 refine⟨fun a ha=>(hf a ha).1,fun a b ha hb e=>hd a b ha hb (by rw[<- (hf a ha).2,<- (hf b hb).2,e]),fun a b ha hb=>?_⟩;have e:=zC (fun v:Vw=>v.2.1) (sv b hb);have pm:((undr T n b).map M).Perm ((undr U n (f b)).map N):=((kd6 _).symm.trans (by rw[show kd9 ((undr T n b).map M)=kd9 ((undr U n (f b)).map N)from e])).trans (kd6 _);rw[bh5];constructor
 .intro h;have:M a∈(undr U n (f b)).map N:=pm.mem_iff.mp (bi7 (kbu.mpr ⟨ha,h⟩));obtain⟨q,hq,e⟩:=bb1.mp this;obtain⟨q1,q2⟩:=kbu.mp hq;have:q=f a:=hdN q (f a) q1 (hf a ha).1 (e.trans (hf a ha).2.symm);rw[<- this];exact q2
 .intro h;have:N (f a)∈(undr T n b).map M:=pm.mem_iff.mpr (bi7 (kbu.mpr ⟨(hf a ha).1,h⟩));obtain⟨q,hq,e⟩:=bb1.mp this;obtain⟨q1,q2⟩:=kbu.mp hq;have:q=a:=hd q a q1 ha (e.trans (hf a ha).2);rw[<- this];exact q2
abbrev swp(x y a:Nat):Nat:=if a=x then y else if a=y then x else a
def Iso.swap{n:Nat}{T U:Rl}{f:Nat->Nat}(h:Iso n T U f){x y:Nat}(hx:x<n)(hy:y<n)(irr: ∀a,a<n->U a a=false)(h1:Me.undr U n x=Me.undr U n y)(h2:Me.ovr U n x=Me.ovr U n y):Iso n T U (fun a=>swp x y (f a)):=by
 have eu: ∀a,a<n->U a x=U a y:=fun a ha=>by
  have:a∈Me.undr U n x↔a∈Me.undr U n y:=by rw[h1]
  rw[kbu,kbu]at this;rw[bh5];exact⟨fun z=>(this.mp ⟨ha,z⟩).2,fun z=>(this.mpr ⟨ha,z⟩).2⟩
 have eo: ∀a,a<n->U x a=U y a:=fun a ha=>by
  have:a∈Me.ovr U n x↔a∈Me.ovr U n y:=by rw[h2]
  rw[kdg,kdg]at this;rw[bh5];exact⟨fun z=>(this.mp ⟨ha,z⟩).2,fun z=>(this.mpr ⟨ha,z⟩).2⟩
 have sw: ∀a b,a<n->b<n->U (swp x y a) (swp x y b)=U a b:=fun a b ha hb=>by
  have l: ∀c,c<n->U (swp x y a) c=U a c:=fun c hc=>by
   unfold swp;by_cases e1:a=x
   .rw[zP e1,e1,eo c hc]
   .rw[zN e1];by_cases e2:a=y
    .rw[zP e2,e2,eo c hc]
    .rw[zN e2]
  have r: ∀c,c<n->U c (swp x y b)=U c b:=fun c hc=>by
   unfold swp;by_cases e1:b=x
   .rw[zP e1,e1,eu c hc]
   .rw[zN e1];by_cases e2:b=y
    .rw[zP e2,e2,eu c hc]
    .rw[zN e2]
  have hb':swp x y b<n:=by unfold swp;split;exact hy;split;exact hx;exact hb
  rw[l _ hb',r _ ha]
 refine⟨fun a ha=>?_,fun a b ha hb e=>h.inj a b ha hb ?_,fun a b ha hb=>by rw[sw _ _ (h.lt a ha) (h.lt b hb)];exact h.eq a b ha hb⟩
 .have:=h.lt a ha;show swp x y (f a)<n;unfold swp;split;exact hy;split;exact hx;exact this
 .have e:swp x y (f a)=swp x y (f b):=e;unfold swp at e;split at e <;> split at e <;> (try split at e) <;> (try split at e) <;> lia
abbrev kew(x:List Int×List Int):bb0:= .tuple [.tuple (x.1.map ba1),.tuple (x.2.map ba1)]
abbrev mAt(M:List Int)(p:Int):Int:=M.getD p.toNat 0
abbrev vwL(L:List (List Int×List Int))(M:List Int)(p:Nat):Vw:=(M.getD p 0,kd9 ((L.getD p ([],[])).1.map (mAt M)),kd9 ((L.getD p ([],[])).2.map (mAt M)))
abbrev kob(ws:List Vw):List (Vw×Int):=ws.zipIdx.map fun x=>(x.1,(x.2:Int))
structure LieOk(L:List (List Int×List Int))(m:Nat):Prop where
 len:L.length=m
 few:m<=16
 one: ∀x∈L,x.1.length<=16/\x.2.length<=16
 inr: ∀x∈L,(∀ p∈x.1,0<=p/\p<m)/\∀p∈x.2,0<=p/\p<m
abbrev kr5(ds:List bb0)(RS:Dt->Prop):Prop:=∃(n:Nat)(ps:List (Int×Int)),ds=[spD n ps]/\n<=16/\RS (.o ((ka7 n).map fun p=>kew (pu ps p,po ps p)))
abbrev ki3(ds:List bb0)(RS:Dt->Prop):Prop:=∃(M pts:List Int),ds=[.list (M.map ba1),.tuple (pts.map ba1)]/\pts.length<=16/\(∀ p∈pts,0<=p/\p<M.length)/\RS (.d (.tuple ((kd9 (pts.map (mAt M))).map ba1)))
abbrev kr6(ds:List bb0)(RS:Dt->Prop):Prop:=∃(L:List (List Int×List Int))(M:List Int),ds=[.list (L.map kew),.list (M.map ba1)]/\LieOk L M.length/\RS (.o ((ba8 M.length).map fun p=>vwD (vwL L M p)))
abbrev Pnum(ds:List bb0)(RS:Dt->Prop):Prop:=∃vs:List Vw,ds=[.list (vs.map vwD)]/\vs.length<=16/\∀ws:List Vw,ws.Nodup->(∀ v,v∈ws↔v∈vs)->ws.Pairwise (fun x y=>ltV y x=false)->RS (.dv (kob ws))
def kg4{α:Type}{l:List α}{f:α->bb0}{p:Int}(d:α)(h0:0<=p)(h1:p<l.length):atI (l.map f) p=some (f (l.getD p.toNat d)):=by
 obtain⟨j,rfl⟩:=bi3 h0;have hj:j<l.length:=by lia
 refine kb9 ?_;rw[bc8,ba4 hj];simp[hj]
def LieOk.at_{L:List (List Int×List Int)}{m p:Nat}(ok:LieOk L m)(hp:p<m):(L.getD p ([],[])).1.length<=16/\(L.getD p ([],[])).2.length<=16/\(∀ q∈(L.getD p ([],[])).1,0<=q/\q<m)/\∀q∈(L.getD p ([],[])).2,0<=q/\q<m:=by
 have hl:p<L.length:=by rw[ok.len];exact hp
 have hm:L.getD p ([],[])∈L:=by
  rw[bb5,ba4 hl];exact bf1 hl
 exact⟨(ok.one _ hm).1,(ok.one _ hm).2,(ok.inr _ hm).1,(ok.inr _ hm).2⟩
def kfc(ws:List Vw):(kob ws).length=ws.length:=by unfold kob;rw[ba3,b53]
def kg5(ws:List Vw):(kob ws).map (·.1)=ws:=by
 unfold kob;rw[bc1];exact List.zipIdx_map_fst 0 ws
def kr7{ws:List Vw}{k:Nat}{v:Vw}(h:ws[k]?=some v):kob (ws.take (k+1))=kob (ws.take k)++[(v,(k:Int))]:=by
 have hk:k<ws.length:=(bb3.mp h).1;rw[bz8,h];unfold kob;rw[Option.toList_some,List.zipIdx_append,be3,bn9];rw[show min k ws.length=k by lia];simp
def koc{α:Type}{l:List α}{k:Nat}{v:α}(nd:l.Nodup)(h:l[k]?=some v):v ∉ l.take k:=fun z=>by
 obtain⟨hk,e⟩:=bb3.mp h;obtain⟨i,hi,q⟩:=b64.mp z;have:=be0.mp nd i k (by lia) hk (by lia);exact this (q.trans e.symm)
abbrev kr8(M:List Int):Option Nat:=(ba8 M.length).find? fun p=>decide (1<M.count (M.getD p 0))
abbrev kr9(ds:List bb0)(RS:Dt->Prop):Prop:=∃M:List Int,ds=[.list (M.map ba1)]/\M.length<=16/\RS (.d (match kr8 M with|some p=> .int (p:Nat)|none=> .none))
abbrev kod(M:List Int)(p:Nat):List Int:=(ba8 M.length).map fun q=>if q=p then(M.length:Int)else M.getD q 0
abbrev ksa(ds:List bb0)(RS:Dt->Prop):Prop:=∃(M:List Int)(p:Nat),ds=[.list (M.map ba1),.int (p:Nat)]/\M.length<=16/\p<M.length/\RS (.o ((kod M p).map ba1))
def ksb{M:List Int}{k:Nat}(hk:k<M.length)(h:1<M.count (M.getD k 0))(no: ∀j,j<k->M.count (M.getD j 0)<=1):kr8 M=some k:=by
 unfold kr8;refine b74.mpr ⟨zT h,bb2.mpr hk,fun j hj=>?_⟩;have:=no j hj;simp;simpa using this
def ksc{M:List Int}(no: ∀j,j<M.length->M.count (M.getD j 0)<=1):kr8 M=none:=by
 unfold kr8;refine by1.mpr fun j hj=>?_;have:=no j hj;simp;simpa using this
abbrev k31(x:Int×Nat):bb0:= .tuple [.int (x.2:Nat),.int x.1]
def kvl: ∀a b,k31 a=k31 b->a=b:=fun a b h=>by
 unfold k31 at h;injection h with h;injection h with h1 h2;injection h2 with h2;injection h1 with h1;injection h2 with h2;exact by4 h2 (by lia)
def ksd(M:List Int):kj6 (M.map ba1)=M.zipIdx.map k31:=by
 unfold kj6;rw[List.zipIdx_map,bc1];rfl
def k0g(M:List Int)(p:Nat):(M.zipIdx.map fun x=>ba1 (if x.2=p then(M.length:Int)else x.1))=(kod M p).map ba1:=by
 unfold kod;rw[bc1];apply bx4
 .simp
 .intro i h1 h2;simp only[ba3,b53]at h1;simp[h1]
abbrev kex(T:Rl)(m:Nat):List (List Int×List Int):=(ba8 m).map fun p=>((undr T m p).map fun(q:Nat)=>(q:Int),(ovr T m p).map fun(q:Nat)=>(q:Int))
abbrev gM(M:List Int)(p:Nat):Int:=M.getD p 0
abbrev Rsp(m:Nat)(f:Nat->Nat)(M N:List Int):Prop:=∀p,p<m->gM M p=gM N (f p)
structure RefOk(m:Nat)(T U:Rl)(M N M' N':List Int):Prop where
 l1:M'.length=m
 l2:N'.length=m
 r1: ∀x∈M',0<=x/\x<m
 r2: ∀x∈N',0<=x/\x<m
 rsp: ∀f,Iso m T U f->Rsp m f M N->Rsp m f M' N'
 fin: ∀a b,a<m->b<m->gM M' a=gM M' b->gM M a=gM M b
 vws:((ba8 m).map (seen T m (gM M'))).Perm ((ba8 m).map (seen U m (gM N')))
abbrev Pref(ds:List bb0)(RS:Dt->Prop):Prop:=∃(m:Nat)(T U:Rl)(M N:List Int),ds=[.list ((kex T m).map kew),.list ((kex U m).map kew),.list (M.map ba1),.list (N.map ba1)]/\1<=m/\m<=16/\M.length=m/\N.length=m/\
 ((∀ f,Iso m T U f->¬Rsp m f M N)->RS (.d .none))/\∀M' N',RefOk m T U M N M' N'->RS (.d (.tuple [.list (M'.map ba1),.list (N'.map ba1)]))
def kse(T:Rl){m:Nat}(hm:m<=16):LieOk (kex T m) m where
 len:=by unfold kex;simp
 few:=hm
 one:=fun x hx=>by
  obtain⟨p,_,rfl⟩:=bb1.mp hx;have h1:(undr T m p).length<=m:=by unfold undr;exact bi9 (bo5 _ _) (by simp)
  have h2:(ovr T m p).length<=m:=by unfold ovr;exact bi9 (bo5 _ _) (by simp)
  simp only[ba3];lia
 inr:=fun x hx=>by
  obtain⟨p,_,rfl⟩:=bb1.mp hx;refine⟨fun q hq=>?_,fun q hq=>?_⟩
  .obtain⟨r,hr,rfl⟩:=bb1.mp hq;have:=(kbu.mp hr).1;lia
  .obtain⟨r,hr,rfl⟩:=bb1.mp hq;have:=(kdg.mp hr).1;lia
def kvm{T:Rl}{m:Nat}{M:List Int}{p:Nat}(hp:p<m):vwL (kex T m) M p=seen T m (gM M) p:=by
 have e:(kex T m).getD p ([],[])=((undr T m p).map fun(q:Nat)=>(q:Int),(ovr T m p).map fun(q:Nat)=>(q:Int)):=by unfold kex;simp[hp]
 unfold vwL seen;rw[e];simp only[bc1];rfl
def km7: ∀{x y:List Vw},x.Pairwise (fun a b=>ltV b a=false)->y.Pairwise (fun a b=>ltV b a=false)->x.Perm y->x=y
 | [],y,_,_,p=>(ci5 p)
 | a::x,[],_,_,p=>zA p.length_eq (by simp)
 | a::x,b::y,hx,hy,p=>by
   obtain⟨h1,h2⟩:=bl3.mp hx;obtain⟨h3,h4⟩:=bl3.mp hy;have e:a=b:=by
    have m1:a∈b::y:=p.mem_iff.mp bb8;have m2:b∈a::x:=p.mem_iff.mpr bb8;rcases bc6.mp m1 with e|m1
    .exact e
    .rcases bc6.mp m2 with e|m2
     .exact e.symm
     .refine bp7 fun ne=>?_;rcases k3a.tot a b ne with z|z
      .rw[h3 a m1]at z;cases z
      .rw[h1 b m2]at z;cases z
   subst e;rw[km7 h2 h4 (ce1 p)]
structure RefI(m:Nat)(T U:Rl)(M N M1 N1:List Int)(kn:Nat):Prop where
 l1:M1.length=m
 l2:N1.length=m
 rsp: ∀f,Iso m T U f->Rsp m f M N->Rsp m f M1 N1
 fin: ∀a b,a<m->b<m->gM M1 a=gM M1 b->gM M a=gM M b
 st:kn=0\/((∀ x∈M1,0<=x/\x<kn)/\(∀ x∈N1,0<=x/\x<kn)/\(∀ j:Nat,j<kn->(j:Int)∈M1))
 le:kn<=m
def RefI.start{m:Nat}{T U:Rl}{M N:List Int}(hM:M.length=m)(hN:N.length=m):RefI m T U M N M N 0:=⟨hM,hN,fun O O r=>r,fun O O O O e=>e,.inl rfl,bf7 _⟩
def kwz{T:Rl}{m:Nat}{M:List Int}(hM:M.length=m):(ba8 M.length).map (fun p=>vwD (vwL (kex T m) M p))=((ba8 m).map (seen T m (gM M))).map vwD:=by
 rw[hM,bc1];exact bh9 fun p hp=>by rw[kvm (bb2.mp hp)];rfl
def k32: ∀xs ys:List Int,bl9 (xs.map ba1) (ys.map ba1)=decide (xs=ys)
 | [],[]=>rfl
 | [],_::_=>rfl
 | _::_,[]=>rfl
 | x::xs,y::ys=>by
   show(bg3 (.int x) (.int y)&&bl9 (xs.map ba1) (ys.map ba1))=_;rw[ka1,k32 xs ys];by_cases h1:x=y <;> by_cases h2:xs=ys <;> simp[h1,h2]
def ksf(x y:Vw):bg3 (vwD x) (vwD y)=decide (x=y):=by
 show(bg3 (.int x.1) (.int y.1)&&(bl9 (x.2.1.map ba1) (y.2.1.map ba1)&&(bl9 (x.2.2.map ba1) (y.2.2.map ba1)&&true)))=_;rw[ka1,k32,k32];obtain⟨x1,x2,x3⟩:=x;obtain⟨y1,y2,y3⟩:=y;by_cases h1:x1=y1 <;> by_cases h2:x2=y2 <;> by_cases h3:x3=y3 <;> simp[h1,h2,h3]
def ksg: ∀xs ys:List Vw,bl9 (xs.map vwD) (ys.map vwD)=decide (xs=ys)
 | [],[]=>rfl
 | [],_::_=>rfl
 | _::_,[]=>rfl
 | x::xs,y::ys=>by
   show(bg3 (vwD x) (vwD y)&&bl9 (xs.map vwD) (ys.map vwD))=_;rw[ksf,ksg xs ys];by_cases h1:x=y <;> by_cases h2:xs=ys <;> simp[h1,h2]
def k0h(xs ys:List Vw):bg3 (.list (xs.map vwD)) (.list (ys.map vwD))=decide (xs=ys):=ksg xs ys
def ok_vw(x:Vw):bl2 (vwD x)=true:=by
 show(true&&(bd7 (x.2.1.map ba1)&&(bd7 (x.2.2.map ba1)&&true)))=true;rw[show bd7 (x.2.1.map ba1)=true from kbb _,show bd7 (x.2.2.map ba1)=true from kbb _];rfl
def kw0(xs:List Vw):okD (.list (xs.map vwD)):=by
 show bd7 (xs.map vwD)=true;induction xs with
 | nil=>rfl
 | cons r rs ih=>
   show(bl2 (vwD r)&&bd7 (rs.map vwD))=true;rw[ih,ok_vw];rfl
def kfd: ∀xs:List Int,bg8 (xs.map ba1)=0
 | []=>rfl
 | x::xs=>by
   show max (br3 (.int x)) (bg8 (xs.map ba1))=0;rw[kfd xs];rfl
def k33(x:Vw):br3 (vwD x)=2:=by
 show max 0 (max (bg8 (x.2.1.map ba1)+1) (max (bg8 (x.2.2.map ba1)+1) 0))+1=2;rw[kfd,kfd];rfl
def k34(xs:List Vw):khx (.list (xs.map vwD)):=by
 have:bg8 (xs.map vwD)<=2:=by
  induction xs with
  | nil=>exact bf7 _
  | cons r rs ih=>
    show max (br3 (vwD r)) (bg8 (rs.map vwD))<=2;rw[k33];lia
 show bg8 (xs.map vwD)+1<=9;lia
abbrev kdy(ws:List Vw)(v:Vw):Int:=(ws.idxOf v:Nat)
def ksh{ws:List Vw}{v:Vw}(h:v∈ws):(v,kdy ws v)∈kob ws:=by
 have hl:=bg7.mpr h;unfold kob kdy;refine bb1.mpr ⟨(v,ws.idxOf v),?_,rfl⟩;rw[List.mk_mem_zipIdx_iff_getElem?];rw[ba4 hl,bo9 hl]
def kw1{ws:List Vw}{v:Vw}(h:v∈ws):0<=kdy ws v/\kdy ws v<ws.length:=by
 have hl:=bg7.mpr h;unfold kdy;lia
def k0i{ws:List Vw}{u v:Vw}(hu:u∈ws)(hv:v∈ws)(h:kdy ws u=kdy ws v):u=v:=by
 have h1:=bg7.mpr hu;have h2:=bg7.mpr hv;have e:ws.idxOf u=ws.idxOf v:=by unfold kdy at h;lia
 have a:=bo9 h1;have b:=bo9 h2;rw[<- a,<- b];simp[e]
def ksi: ∀a b,vwD a=vwD b->a=b:=fun a b h=>by
 have:=ksf a b;rw[h,ksf b b]at this;simpa using this.symm
def km8{f:Nat->Vw}{g:Vw->Int}{m p:Nat}(hp:p<m):gM (((ba8 m).map f).map g) p=g (f p):=by
 unfold gM;simp[hp]
def RefI.ge{m:Nat}{T U:Rl}{M N M1 N1:List Int}{kn:Nat}(I:RefI m T U M N M1 N1 kn){ws:List Vw}(nd:ws.Nodup)(mem: ∀v,v∈ws↔v∈(ba8 m).map (seen T m (gM M1))):kn<=ws.length:=by
 rcases I.st with z|⟨_,_,z⟩
 .lia
 .have sub:((ba8 kn).map fun(j:Nat)=>(j:Int)) ⊆ ws.map (·.1):=fun x hx=>by
   obtain⟨j,hj,rfl⟩:=bb1.mp hx;obtain⟨p,hp,e⟩:=bf3 (z j (bb2.mp hj));have hp':p<m:=(by rw[<- I.l1];exact hp)
   refine bb1.mpr ⟨seen T m (gM M1) p,(mem _).mpr (bi7 (bb2.mpr hp')),?_⟩;show gM M1 p=_;unfold gM;rw[bb5,ba4 hp,<- e];rfl
  have nd2:((ba8 kn).map fun(j:Nat)=>(j:Int)).Nodup:=b75 _ (fun a b hab e=>hab (by lia)) bj2;have:=nd2.length_le_of_subset sub;simpa using this
def RefI.next{m:Nat}{T U:Rl}{M N M1 N1:List Int}{kn:Nat}(I:RefI m T U M N M1 N1 kn){ws:List Vw}(nd:ws.Nodup)(mem: ∀v,v∈ws↔v∈(ba8 m).map (seen T m (gM M1)))(pm:((ba8 m).map (seen T m (gM M1))).Perm ((ba8 m).map (seen U m (gM N1))))(wl:ws.length<=m):
 RefI m T U M N (((ba8 m).map (seen T m (gM M1))).map (kdy ws)) (((ba8 m).map (seen U m (gM N1))).map (kdy ws)) ws.length where
 l1:=by simp
 l2:=by simp
 rsp:=fun f iso r p hp=>by
  rw[km8 hp,km8 (iso.lt p hp),iso.seen (I.rsp f iso r) hp]
 fin:=fun a b ha hb e=>by
  rw[km8 ha,km8 hb]at e;have:=k0i ((mem _).mpr (bi7 (bb2.mpr ha))) ((mem _).mpr (bi7 (bb2.mpr hb))) e;exact I.fin a b ha hb (zC (fun v:Vw=>v.1) this)
 st:= .inr ⟨fun x hx=>by
  obtain⟨v,hv,rfl⟩:=bb1.mp hx;exact kw1 ((mem v).mpr hv),fun x hx=>by
  obtain⟨v,hv,rfl⟩:=bb1.mp hx;exact kw1 ((mem v).mpr (pm.mem_iff.mpr hv)),fun j hj=>by
  refine bb1.mpr ⟨ws[j],(mem _).mp (bf1 hj),?_⟩;unfold kdy;rw[nd.idxOf_getElem j hj]⟩
 le:=wl
section
variable{P:bb9}{w:be5}{K:ba2}{mg:Str->Option ba6}{base:Heap}
def scLy:FnScope ["space"] ["space"] (kaj kk4):=by ac_rfl
def ok_Ly{f:Addr}{fd:be7}(F:Fun K "lying" "lying" kk4 f fd)(T:Txt K mg)(GPu:F16 P w K mg base)(GPo:F17 P w K mg base):
 FnOk P w K mg base CX0 2 f fd ["space"] (spG K kr5):=by
 refine F.okG scLy (fun ds RS h=>?_) (fun a A o s H E hr=>(kag (kcy (kcv (N':=["point","space"]) (fun O=>(.own (.cap 0 rfl rfl rfl .nil))) (ka6 (kam (kai 0) (kae).bw).bw (fun O=>T.a)) (kaz 0 (fun O=>(by decide +kernel:(["point","space"]:List Str).Nodup))) kbe (kbf (kaa (kdc (ka5 GPu ⋯ (kaa (kad 1) (kaa (kad 0) kah))) (fun O=>T.d)) (kaa (kdc (ka5 GPo ⋯ (kaa (kad 1) (kaa (kad 0) kah))) (fun O=>T.d)) kah))))))) (fun ds RS h=>?_)
 .obtain⟨n,ps,rfl,_⟩:=h;rfl
 .obtain⟨n,ps,rfl,hn,hR⟩:=h;simp only[rD,xLC,ka4,at0];refine⟨by lia,by lia,?_⟩;rw[bc3,kcm];refine⟨Gf (ka7 n) ba1 (fun O=>true) (fun p=>kew (pu ps p,po ps p)),fun y hy=>?_,fun o ho=>?_⟩
  .obtain⟨p,hp,rfl⟩:=bb1.mp hy;exact⟨n,ps,p,rfl,_,rfl,n,ps,p,rfl,_,rfl,Gf.keep hp rfl rfl⟩
  .rw[Gf.all kbp ho];exact hR
def scMo:FnScope ["marks","points"] ["marks","points"] (kaj kfp):=by ac_rfl
def ok_Mo{f:Addr}{fd:be7}(F:Fun K "marks_of" "marks_of" kfp f fd)(T:Txt K mg):
 FnOk P w K mg base CX0 1 f fd ["marks","points"] (spG K ki3):=by
 refine F.okG scMo (fun ds RS h=>?_) (fun a A o s H E hr=>(kag (kax (kdc (kt9 (kcv (N':=["point","marks"]) (fun O=>(.own (.cap 0 rfl rfl rfl .nil))) (ka8 (kad 1)) (kaz 0 (fun O=>(by decide +kernel:(["point","marks"]:List Str).Nodup))) kbe (kam (kai 1) (kaf 0))).l (fun O=>T.e)) (fun O=>T.d))))) (fun ds RS h=>?_)
 .obtain⟨M,pts,rfl,_⟩:=h;rfl
 .obtain⟨M,pts,rfl,hl,hin,hR⟩:=h;simp only[rD,xLC];refine⟨Gf pts ba1 (fun O=>true) (fun p=> .int (mAt M p)),fun y hy=>?_,fun o ho=>?_⟩
  .obtain⟨p,hp,rfl⟩:=bb1.mp hy;obtain⟨h0,h1⟩:=hin p hp;exact⟨p,rfl,_,kg4 0 h0 h1,Gf.keep hp rfl rfl⟩
  .rw[Gf.all kbp ho];refine⟨pts.map (mAt M),by rw[bc1];rfl,by rw[ba3];lia,fun ms pm up=>?_⟩;rw[km6 up pm];exact hR
def scVi:FnScope ["lies","marks"] ["lies","marks"] (kaj kk5):=by ac_rfl
def ok_Vi{f:Addr}{fd:be7}(F:Fun K "views" "views" kk5 f fd)(T:Txt K mg)(GMo:Fn P w K mg base "marks_of" 1 ["marks","points"] (spG K ki3)):
 FnOk P w K mg base CX0 2 f fd ["lies","marks"] (spG K kr6):=by
 refine F.okG scVi (fun ds RS h=>?_) (fun a A o s H E hr=>(kag (kcy (kcv (N':=["point","marks","lies"]) (fun O=>(.own (.cap 1 rfl rfl rfl (.cap 0 rfl rfl rfl .nil)))) (ka6 (kbv (kai 1) (fun O=>T.b)).bw (fun O=>T.a)) (kaz 0 (fun O=>(by decide +kernel:(["point","marks","lies"]:List Str).Nodup))) kbe (kbf (kaa (kam (kai 1) (kaf 0)) (kaa (kal GMo ⋯ (kaa (kad 1) (kaa (kam (kam (kai 2) (kaf 0)).q (kae).bw) kah))) (kaa (kal GMo ⋯ (kaa (kad 1) (kaa (kam (kam (kai 2) (kaf 0)).q (kae).bw) kah))) kah)))))))) (fun ds RS h=>?_)
 .obtain⟨L,M,rfl,_⟩:=h;rfl
 .obtain⟨L,M,rfl,ok,hR⟩:=h;simp only[rD,xLC];have hm:=ok.few;rw[ba3];refine⟨by lia,by lia,?_⟩;rw[bc3,kcm];refine⟨Gf (ka7 M.length) ba1 (fun O=>true) (fun p=>vwD (vwL L M p.toNat)),fun y hy=>?_,fun o ho=>?_⟩
  .obtain⟨p,hp,rfl⟩:=bb1.mp hy;obtain⟨h0,h1⟩:=kfb.mp hp;obtain⟨q1,q2,q3,q4⟩:=ok.at_ (p:=p.toNat) (by lia);have h2:p<(L.length:Int):=(by rw[ok.len];exact h1)
   exact⟨p,rfl,_,kg4 0 h0 h1,p,rfl,_,kg4 ([],[]) h0 h2,_,rfl,_,at0 _ _,M,_,rfl,q1,q3,_,rfl,p,rfl,_,kg4 ([],[]) h0 h2,_,rfl,_,at1 _ _ _,M,_,rfl,q2,q4,_,rfl,Gf.keep hp rfl rfl⟩
  .rw[Gf.all kbp ho];unfold ka7;rw[bc1];exact hR
def scNu:FnScope ["some_views","numbers","number","view"] ["some_views"] (kaj kfq):=by ac_rfl
def ok_Nu{f:Addr}{fd:be7}(F:Fun K "numbered" "numbered" kfq f fd)(T:Txt K mg):
 FnOk P w K mg base CX0 1 f fd ["some_views"] (spG K Pnum):=by
 refine F.okG scNu (fun ds RS h=>?_) (fun a A o s H E hr=>(kab (kzi 1 (fun O=>scNu.nd))
  (kab (kbn nofun (kih ((kur w (kc4 0) (fun O=>T.e) (fun O=>T.set) ∅).ew) (fun O=>T.f)) (kcb 2 3 (fun O=>scNu.nd)) (kag (kzl 1 ∅ (kad 3) (kad 2))))
  (kag (kb8 1))))) (fun ds RS h=>?_)
 .obtain⟨vs,rfl,_⟩:=h;rfl
 .obtain⟨vs,rfl,hl,hR⟩:=h;simp only[rD,kof];refine⟨vs,rfl,hl,fun ws nd mem up=>⟨fun k env=>∃v2 v3,env=[.d (.list (vs.map vwD)),.dv (kob (ws.take k)),v2,v3],⟨_,_,rfl⟩,?_,?_⟩⟩
  .rintro k y env hy⟨v2,v3,rfl⟩;obtain⟨x,hx,rfl⟩:=ke7 hy;rw[bc8]at hx;obtain⟨v,hv,rfl⟩:=be2.mp hx;have hk:v ∉ ws.take k:=fun z=>koc nd hv z;have wl:ws.length<=vs.length:=nd.length_le_of_subset fun v hv=>(mem v).mp hv;refine⟨_,_,rfl,_,rfl,_,rfl,_,rfl,?_,?_,_,rfl,v,rfl,?_,dI (k:Nat),.d (vwD v),?_⟩
   .rw[kfc,bn9];lia
   .rw[kg5];exact nd.sublist (b70 _ _)
   .rw[kg5];exact hk
   .rw[kr7 hv];rfl
  .rintro env⟨v2,v3,rfl⟩;refine⟨_,rfl,(fun z=>nomatch z),?_⟩;rw[kc5,ba3,b95];exact hR ws nd mem up
def scDb:FnScope ["marks","point","mark"] ["marks"] (kaj kfr):=by ac_rfl
def ok_Db{f:Addr}{fd:be7}(F:Fun K "doubtful" "doubtful" kfr f fd)(T:Txt K mg):
 FnOk P w K mg base CX0 1 f fd ["marks"] (spG K kr9):=by
 refine F.okG scDb (fun ds RS h=>?_) (fun a A o s H E hr=>(kab (kbn nofun (kih (kad 0) (fun O=>T.f)) (kcb 1 2 (fun O=>scDb.nd)) (kag (kba (kaw kpb (kut (kc4 0) (kaf 2)).bw (kae).bw) (kag (kb8 1)) kav)))
  (kag (kax (kb6))))) (fun ds RS h=>?_)
 .obtain⟨M,rfl,_⟩:=h;rfl
 .obtain⟨M,rfl,hl,hR⟩:=h;simp only[rD,kof];refine⟨fun k env=>(∀ j,j<k->M.count (M.getD j 0)<=1)/\∃v1 v2,env=[.d (.list (M.map ba1)),v1,v2],⟨fun j hj=>zA hj (bj6 _),_,_,rfl⟩,?_,?_⟩
  .rintro k y env hy⟨no,v1,v2,rfl⟩;obtain⟨x,hx,rfl⟩:=ke7 hy;rw[bc8]at hx;obtain⟨m,hm,rfl⟩:=be2.mp hx;have hk:k<M.length:=(bb3.mp hm).1;have em:M.getD k 0=m:=(by rw[bb5,hm];rfl)
   refine⟨_,_,rfl,_,.inr rfl,_,rfl,_,rfl,M,rfl,m,rfl,?_⟩;by_cases c:1<M.count m
   .rw[zP (zT (by lia))];refine⟨_,rfl,(fun z=>nomatch z),?_⟩;rw[ksb hk (by rw[em];exact c) no]at hR;exact hR
   .rw[zN (by simp;lia)];refine⟨fun j hj=>?_,dI (k:Nat),dI m,rfl⟩;rcases bp1 (b02 hj)with z|rfl
    .exact no j z
    .rw[em];lia
  .rintro env⟨no,v1,v2,rfl⟩;rw[kc5,ba3]at no;rw[ksc no]at hR;exact hR
def scSa:FnScope ["marks","point"] ["marks","point"] (kaj kep):=by ac_rfl
def ok_Sa{f:Addr}{fd:be7}(F:Fun K "set_apart" "set_apart" kep f fd)(T:Txt K mg):
 FnOk P w K mg base CX0 1 f fd ["marks","point"] (spG K ksa):=by
 refine F.okG scSa (fun ds RS h=>?_) (fun a A o s H E hr=>(kag (kcy (kcv (N':=["place","mark","point","marks"]) (fun O=>(.own (.own (.cap 1 rfl rfl rfl (.cap 0 rfl rfl rfl .nil))))) (kih (kad 0) (fun O=>T.f)) (kcb 0 1 (fun O=>(by decide +kernel:(["place","mark","point","marks"]:List Str).Nodup))) kbe (kx8 (kaw (kcg ∅) (kaf 0) (kaf 2)) (kbv (kai 3) (fun O=>T.b)) (kad 1)))))) (fun ds RS h=>?_)
 .obtain⟨M,p,rfl,_⟩:=h;rfl
 .obtain⟨M,p,rfl,hl,hp,hR⟩:=h;simp only[rD,xLC];rw[ksd];refine⟨Gf M.zipIdx k31 (fun O=>true) (fun x=> .int (if x.2=p then(M.length:Int)else x.1)),fun y hy=>?_,fun o ho=>?_⟩
  .obtain⟨x,hx,rfl⟩:=bb1.mp hy;refine⟨_,_,rfl,?_⟩;show _/\_;refine⟨okI _,okI _,.inl (shI _),?_⟩;rw[ka1,ba3];by_cases e:x.2=p
   .rw[zP (by simp[e])];exact Gf.keep hx rfl (by rw[zP e])
   .rw[zN (by simp;lia)];exact Gf.keep hx rfl (by rw[zN e])
  .rw[Gf.all kvl ho,k0g];exact hR
def kw2:FnScope ["one_lying","other_lying","one_marks","other_marks","known","one_views","other_views","numbers"] ["one_lying","other_lying","one_marks","other_marks"] (kaj kgs):=by ac_rfl
def ok_Rf{f:Addr}{fd:be7}(F:Fun K "refined" "refined" kgs f fd)(T:Txt K mg)(GVi:Fn P w K mg base "views" 2 ["lies","marks"] (spG K kr6))(GNu:Fn P w K mg base "numbered" 1 ["some_views"] (spG K Pnum)):
 FnOk P w K mg base CX0 3 f fd ["one_lying","other_lying","one_marks","other_marks"] (spG K Pref):=by
 refine F.okG kw2 (fun ds RS h=>?_) (fun a A o s H E hr=>(kab (kap 4 (fun O=>kw2.nd) (kae))
  (kag (kf6 nofun (kbi (kcl).bw) (kab (kap 5 (fun O=>kw2.nd) ((ka5 GVi ⋯ (kaa (kad 0) (kaa (kad 2) kah))).ew))
  (kab (kap 6 (fun O=>kw2.nd) ((ka5 GVi ⋯ (kaa (kad 1) (kaa (kad 3) kah))).ew))
  (kab (kba (kaw (kdm ∅) (kml (kc4 5) (fun O=>T.e) ∅).bw (kml (kc4 6) (fun O=>T.e) ∅).bw) (kag (kax (kb6))) kav)
  (kab (kh9 7 (fun O=>kw2.nd) GNu ⋯ (kaa (kad 5) kah))
  (kab (kba (kaw (kcg ∅) (kqt 7 (fun O=>T.b)).bw (kaf 4)) (kag (kax (kbf (kaa (kad 2) (kaa (kad 3) kah))))) kav)
  (kab (kap 4 (fun O=>kw2.nd) (kqt 7 (fun O=>T.b)))
  (kab (kcc 2 (fun O=>kw2.nd) (N':=["view","numbers"]) (fun O=>(.own (.cap 7 rfl rfl rfl .nil))) (ka8 (kad 5)) (kaz 0 (fun O=>(by decide +kernel:(["view","numbers"]:List Str).Nodup))) kbe (kqr 1 ∅ (kad 0)))
  (DSs.frz 2 (kab (kcc 3 (fun O=>kw2.nd) (N':=["view","numbers"]) (fun O=>(.own (.cap 7 rfl rfl rfl .nil))) (ka8 (kad 6)) (kaz 0 (fun O=>(by decide +kernel:(["view","numbers"]:List Str).Nodup))) kbe (kqr 1 ∅ (kad 0))) (DSs.frz 3 kav)))))))))))))) (fun ds RS h=>?_)
 .obtain⟨m,T,U,M,N,rfl,_⟩:=h;rfl
 .obtain⟨m,T,U,M,N,rfl,m1,m16,hM,hN,hX,hR⟩:=h;simp only[rD,kpq];refine⟨fun k env=>∃(M1 N1:List Int)(kn:Nat)(v5 v6 v7:Dt),env=[.d (.list ((kex T m).map kew)),.d (.list ((kex U m).map kew)),.d (.list (M1.map ba1)),.d (.list (N1.map ba1)),dI (kn:Nat),v5,v6,v7]/\RefI m T U M N M1 N1 kn/\k+kn=17,⟨17,M,N,0,.un,.un,.un,rfl,RefI.start hM hN,rfl⟩,?_⟩;rintro k env⟨M1,N1,kn,v5,v6,v7,rfl,I,hk⟩;rw[zP trivial];have e1:(ba8 M1.length).map (fun p=>vwD (vwL (kex T m) M1 p))=((ba8 m).map (seen T m (gM M1))).map vwD:=kwz I.l1;have e2:(ba8 N1.length).map (fun p=>vwD (vwL (kex U m) N1 p))=((ba8 m).map (seen U m (gM N1))).map vwD:=kwz I.l2;refine⟨_,rfl,_,rfl,kex T m,M1,rfl,by rw[I.l1];exact kse T m16,_,rfl,_,rfl,_,rfl,kex U m,N1,rfl,by rw[I.l2];exact kse U m16,_,rfl,_,.inr rfl,_,e1,by rw[ba3,be8];lia,fun ws1 p1 u1=>⟨_,.inr rfl,_,e2,by rw[ba3,be8];lia,fun ws2 p2 u2=>⟨kw0 ws1,kw0 ws2,.inl (k34 ws1),?_⟩⟩⟩;rw[k0h];by_cases c:ws1=ws2
  .rw[zN (by simp[c])];have pm:((ba8 m).map (seen T m (gM M1))).Perm ((ba8 m).map (seen U m (gM N1))):=p1.symm.trans (by rw[c];exact p2);rw[e1,e2];refine⟨_,rfl,(ba8 m).map (seen T m (gM M1)),rfl,by rw[ba3,be8];exact m16,fun ws nd mem up=>?_⟩;have wl:ws.length<=m:=by
    have:=nd.length_le_of_subset fun v hv=>(mem v).mp hv
    rwa [ba3,be8]at this
   have w1:1<=ws.length:=List.length_pos_of_mem ((mem (seen T m (gM M1) 0)).mpr (bi7 (bb2.mpr m1)));refine⟨_,rfl,by rw[kfc];lia,_,rfl,_,rfl,okI _,okI _,.inl (shI _),?_⟩;rw[ka1,kfc];by_cases c2:ws.length=kn
   .rw[zP (zT (by lia))];refine⟨_,rfl,_,rfl,hR M1 N1 ?_⟩;rcases I.st with z|⟨z1,z2,_⟩
    .lia
    .have:=I.le;exact⟨I.l1,I.l2,fun x hx=>by have:=z1 x hx;lia,fun x hx=>by have:=z2 x hx;lia,I.rsp,I.fin,pm⟩
   .rw[zN (by simp;lia)];refine⟨_,rfl,by rw[kfc];lia,?_⟩;simp only[b54,b55,kfc];have mT: ∀v∈(ba8 m).map (seen T m (gM M1)),v∈ws:=fun v hv=>(mem v).mpr hv;have mU: ∀v∈(ba8 m).map (seen U m (gM N1)),v∈ws:=fun v hv=>(mem v).mpr (pm.mem_iff.mpr hv);have nk:((kob ws).map (·.1)).Nodup:=(by rw[kg5];exact nd)
    simp only[rD,xLC];refine⟨Gf ((ba8 m).map (seen T m (gM M1))) vwD (fun O=>true) (fun v=> .int (kdy ws v)),fun y hy=>?_,fun o ho=>?_⟩
    .obtain⟨v,hv,rfl⟩:=bb1.mp hy;exact⟨nk,v,rfl,kdy ws v,ksh (mT v hv),Gf.keep hv rfl rfl⟩
    .rw[Gf.all ksi ho];refine⟨Gf ((ba8 m).map (seen U m (gM N1))) vwD (fun O=>true) (fun v=> .int (kdy ws v)),fun y hy=>?_,fun o2 ho2=>?_⟩
     .obtain⟨v,hv,rfl⟩:=bb1.mp hy;exact⟨nk,v,rfl,kdy ws v,ksh (mU v hv),Gf.keep hv rfl rfl⟩
     .rw[Gf.all ksi ho2];have gt:kn<ws.length:=by
       have:=I.ge nd mem;lia
      refine⟨17-ws.length,by lia,((ba8 m).map (seen T m (gM M1))).map (kdy ws),((ba8 m).map (seen U m (gM N1))).map (kdy ws),ws.length,.d (.list (((ba8 m).map (seen T m (gM M1))).map vwD)),.d (.list (((ba8 m).map (seen U m (gM N1))).map vwD)),.dv (kob ws),?_,I.next nd mem pm wl,by lia⟩;simp only[bc1];rfl
  .rw[zP (by simp[c])];refine hX fun f iso r=>c ?_;exact km7 u1 u2 (p1.trans ((iso.all (I.rsp f iso r)).trans p2.symm))
end
abbrev Dst(m:Nat)(M:List Int)(d:Nat):Prop:=∃l:List Nat,l.length=d/\(∀ p∈l,p<m)/\l.Pairwise fun a b=>gM M a≠gM M b
def Dst.le{m d:Nat}{M:List Int}(h:Dst m M d):d<=m:=by
 obtain⟨l,rfl,h1,h2⟩:=h;have nd:l.Nodup:=h2.imp fun{a b} h e=>h (by rw[e]);have:=nd.length_le_of_subset (l₂:=ba8 m) fun x hx=>bb2.mpr (h1 x hx);simpa using this
def Dst.fine{m d:Nat}{M M':List Int}(h:Dst m M d)(fin: ∀a b,a<m->b<m->gM M' a=gM M' b->gM M a=gM M b):Dst m M' d:=by
 obtain⟨l,e,h1,h2⟩:=h;exact⟨l,e,h1,h2.imp_of_mem fun{a b} ha hb n z=>n (fin a b (h1 a ha) (h1 b hb) z)⟩
def ki4{M:List Int}{p q:Nat}(hq:q<M.length):gM (kod M p) q=if q=p then(M.length:Int)else gM M q:=by
 unfold gM kod;simp[hq]
def kw3{M:List Int}{q:Nat}(hq:q<M.length):gM M q∈M:=by
 unfold gM;rw[bb5,ba4 hq];exact bf1 hq
def Dst.apart{m d:Nat}{M:List Int}(h:Dst m M d)(hM:M.length=m)(r: ∀x∈M,0<=x/\x<m){p q:Nat}(hp:p<m)(hq:q<m)(ne:q≠p)(e:gM M q=gM M p):Dst m (kod M p) (d+1):=by
 obtain⟨l,rfl,h1,h2⟩:=h;have hs: ∀x∈l,(if x=p then q else x)<m/\(if x=p then q else x)≠p/\gM M (if x=p then q else x)=gM M x:=fun x hx=>by
  have:=h1 x hx;by_cases c:x=p
  .rw[zP c,c];exact⟨hq,ne,e⟩
  .rw[zN c];exact⟨this,c,rfl⟩
 have hg: ∀x∈l,gM (kod M p) (if x=p then q else x)=gM M x:=fun x hx=>by
  obtain⟨z1,z2,z3⟩:=hs x hx;rw[ki4 (by lia),zN z2,z3]
 refine⟨p::l.map (fun x=>if x=p then q else x),by simp,fun x hx=>?_,bl3.mpr ⟨fun y hy=>?_,bw5.mpr (h2.imp_of_mem fun{a b} ha hb n z=>n (by rw[<- hg a ha,<- hg b hb,z]))⟩⟩
 .rcases bc6.mp hx with rfl|hx
  .exact hp
  .obtain⟨y,hy,rfl⟩:=bb1.mp hx;exact(hs y hy).1
 .obtain⟨x,hx,rfl⟩:=bb1.mp hy;rw[hg x hx,ki4 (by lia),zP rfl];have:=r _ (kw3 (M:=M) (q:=x) (by rw[hM];exact h1 x hx));lia
def ksj{a:Int}: ∀{l:List Int},1<l.count a->∀p:Nat,∃q:Nat,q≠p/\l[q]?=some a
 | [],h,_=>by simp at h
 | x::t,h,p=>by
   rw[List.count_cons]at h;by_cases c:x=a
   .rw[zP (by simp[c])]at h;obtain⟨j,hj,e⟩:=bf3 (List.count_pos_iff.mp (show 0<t.count a by omega));by_cases c2:p=0
    .exact⟨j+1,by omega,by rw[bl5,ba4 hj,e]⟩
    .exact⟨0,by omega,by rw[br0,c]⟩
   .rw[zN (by simp[c])]at h;obtain⟨q,hq,e⟩:=ksj (l:=t) (by omega) (p-1);by_cases c2:p=0
    .exact⟨q+1,by omega,by rw[bl5,e]⟩
    .exact⟨q+1,by omega,by rw[bl5,e]⟩
def k0j{M:List Int}{p:Nat}(h:kr8 M=some p):p<M.length/\∃q,q<M.length/\q≠p/\gM M q=gM M p:=by
 unfold kr8 at h;obtain⟨h1,h2,_⟩:=b74.mp h;refine⟨bb2.mp h2,?_⟩;obtain⟨q,hq,e⟩:=ksj (zO h1) p;refine⟨q,(bb3.mp e).1,hq,?_⟩;unfold gM;rw[bb5,e];rfl
def k0k{M:List Int}(h:kr8 M=none): ∀a b,a<M.length->b<M.length->gM M a=gM M b->a=b:=by
 unfold kr8 at h;have no:=by1.mp h;have nd:M.Nodup:=List.nodup_iff_count.mpr fun x=>by
  by_cases c:x∈M
  .obtain⟨j,hj,e⟩:=bf3 c;have:=no j hj;rw[bb5,ba4 hj,e]at this;simp at this;exact this
  .rw[List.count_eq_zero.mpr c];exact bf7 _
 intro a b ha hb e;unfold gM at e;rw[bb5,bb5,ba4 ha,ba4 hb]at e;have e:M[a]=M[b]:=e;have pw:=be0.mp nd;rcases bl1 a b with z|z|z
 .exact zA e (pw a b ha hb z)
 .exact z
 .exact zA e.symm (pw b a hb ha z)
abbrev Bad(m:Nat)(T U:Rl)(M N:List Int)(p j:Nat):Prop:=∀f,Iso m T U f->Rsp m f M N->f p≠j
def ksk{m:Nat}{T U:Rl}{M N:List Int}{p j:Nat}(hM:M.length=m)(hN:N.length=m)(hp:p<m)(no: ∀f,Iso m T U f->¬Rsp m f (kod M p) (kod N j)):Bad m T U M N p j:=fun f iso r e=>no f iso fun q hq=>by
 have:=iso.lt q hq;rw[ki4 (by lia),ki4 (by lia),hM,hN];by_cases c:q=p
 .rw[zP c,zP (by rw[c];exact e)]
 .rw[zN c,zN (fun z=>c (iso.inj q p hq hp (z.trans e.symm)))];exact r q hq
def ksl{U:Rl}{m j:Nat}(hj:j<m):(kex U m).getD j ([],[])=((undr U m j).map fun(q:Nat)=>(q:Int),(ovr U m j).map fun(q:Nat)=>(q:Int)):=by unfold kex;simp[hj]
def kvn{m:Nat}{T U:Rl}{M N:List Int}{p i j:Nat}(irr: ∀a,a<m->U a a=false)(hp:p<m)(hi:i<m)(hj:j<m)(h:(kex U m).getD j ([],[])=(kex U m).getD i ([],[]))(b:Bad m T U M N p i)(e1:gM N i=gM M p):Bad m T U M N p j:=fun f iso r e=>by
 rw[ksl hj,ksl hi]at h;injection h with h1 h2;have ci: ∀x y:Nat,(x:Int)=(y:Int)->x=y:=fun x y h=>by lia
 have u:=(ce2 ci).mp h1;have o:=(ce2 ci).mp h2;have e2:gM N j=gM M p:=by rw[<- e];exact(r p hp).symm
 refine b _ (iso.swap hi hj irr u.symm o.symm) (fun q hq=>?_) ?_
 .show gM M q=gM N (swp i j (f q));rw[r q hq];unfold swp;by_cases c:f q=i
  .rw[zP c,c,e1,e2]
  .rw[zN c];by_cases c2:f q=j
   .rw[zP c2,c2,e1,e2]
   .rw[zN c2]
 .show swp i j (f p)=i;unfold swp;rw[e];by_cases c:j=i
  .rw[zP c,c]
  .rw[zN c,zP rfl]
def ksm(x y:List Int×List Int):bg3 (kew x) (kew y)=decide (x=y):=by
 show(bl9 (x.1.map ba1) (y.1.map ba1)&&(bl9 (x.2.map ba1) (y.2.map ba1)&&true))=_;rw[k32,k32];obtain⟨x1,x2⟩:=x;obtain⟨y1,y2⟩:=y;by_cases h1:x1=y1 <;> by_cases h2:x2=y2 <;> simp[h1,h2]
def kw4(x:List Int×List Int):bl2 (kew x)=true:=by
 show(bd7 (x.1.map ba1)&&(bd7 (x.2.map ba1)&&true))=true;rw[show bd7 (x.1.map ba1)=true from kbb _,show bd7 (x.2.map ba1)=true from kbb _];rfl
def k35(x:List Int×List Int):khx (kew x):=by
 show max (bg8 (x.1.map ba1)+1) (max (bg8 (x.2.map ba1)+1) 0)+1<=9;rw[kfd,kfd];decide
def ksn: ∀xs:List (List Int×List Int),bd7 (xs.map kew)=true
 | []=>rfl
 | x::xs=>by
   show(bl2 (kew x)&&bd7 (xs.map kew))=true;rw[kw4,ksn xs];rfl
def k0l(xs:List (List Int×List Int))(x:List Int×List Int):((xs.map kew).any fun d=>bg3 d (kew x))=decide (x∈xs):=by
 rw[co7];rw[bh5,b97,decide_eq_true_iff];constructor
 .rintro⟨y,hy,e⟩;have e:bg3 (kew y) (kew x)=true:=e;rw[ksm]at e;rw[<- zO e];exact hy
 .intro h;exact⟨x,h,by show bg3 (kew x) (kew x)=true;rw[ksm];simp⟩
abbrev Psr(k:Nat)(ds:List bb0)(RS:Dt->Prop):Prop:=∃(m:Nat)(T U:Rl)(M N:List Int)(d:Nat),ds=[.list ((kex T m).map kew),.list ((kex U m).map kew),.list (M.map ba1),.list (N.map ba1)]/\1<=m/\m<=16/\M.length=m/\N.length=m/\(∀ a,a<m->U a a=false)/\Dst m M d/\m<k+d/\
 ((∀ f,Iso m T U f->¬Rsp m f M N)->RS (.d .none))/\∀g:List Nat,g.length=m->Iso m T U (fun p=>g.getD p 0)->RS (.d (.tuple (g.map fun x=> .int (x:Nat))))
def kso{m:Nat}{T U:Rl}{M N M' N':List Int}(R:RefOk m T U M N M' N')(h:kr8 M'=none):(∀ x∈M',x∈N')/\Iso m T U (fun p=>(M'.map fun x=>N'.idxOf x).getD p 0):=by
 have rg: ∀{X:List Int},X.length=m->(ba8 m).map (gM X)=X:=fun{X} hX=>by
  apply bx4
  .simp[hX]
  .intro i h1 h2;simp[gM,h2]
 have mp:M'.Perm N':=by
  have:=R.vws.map (fun v:Vw=>v.1);rw[bc1,bc1]at this;have:((ba8 m).map (gM M')).Perm ((ba8 m).map (gM N')):=this
  rwa [rg R.l1,rg R.l2]at this
 have mm: ∀x∈M',x∈N':=fun x hx=>mp.mem_iff.mp hx;refine⟨mm,k30 R.vws (fun a b ha hb=>k0k h a b (by rw[R.l1];exact ha) (by rw[R.l1];exact hb)) fun p hp=>?_⟩;have hp':p<M'.length:=by rw[R.l1];exact hp
 have e:(M'.map fun x=>N'.idxOf x).getD p 0=N'.idxOf (gM M' p):=by simp[gM,hp']
 rw[e];have hx:=mm _ (kw3 hp');have hl:=bg7.mpr hx;refine⟨by rw[<- R.l2];exact hl,?_⟩;show N'.getD _ 0=_;rw[bb5,ba4 hl,bo9 hl];rfl
def kw5{ds:List bb0}{RS:Dt->Prop}(h:Psr 0 ds RS):False:=by
 obtain⟨m,T,U,M,N,d,_,_,_,_,_,_,D,l,_⟩:=h;have:=D.le;lia
section
variable{P:bb9}{w:be5}{K:ba2}{mg:Str->Option ba6}{base:Heap}
def k05:FnScope ["one_lying","other_lying","one_marks","other_marks","finer","point","tried","onto","mark","found"] ["one_lying","other_lying","one_marks","other_marks"] (kaj kft):=by ac_rfl
@[reducible]def F24(P)(w)(K)(mg)(base):=Fn P w K mg base "refined" 3 ["one_lying","other_lying","one_marks","other_marks"] (spG K Pref)
def k36{f:Addr}{fd:be7}(k:Nat)(F:Fun K "searched" "searched" kft f fd)(T:Txt K mg)(GRf:F24 P w K mg base)(GDb:Fn P w K mg base "doubtful" 1 ["marks"] (spG K kr9))(GSa:Fn P w K mg base "set_apart" 1 ["marks","point"] (spG K ksa))(GSr:Fn P w K mg base "searched" (4+k) ["one_lying","other_lying","one_marks","other_marks"] (spG K (Psr k))):
 FnOk P w K mg base CX0 (4+k+1) f fd ["one_lying","other_lying","one_marks","other_marks"] (spG K (Psr (k+1))):=by
 refine F.okG k05 (fun ds RS h=>?_) (fun cdv A outer s H E hr=>(kab (kap 4 (fun O=>k05.nd) (kal GRf (fun O=>hr.mono (by lia)) (kaa (kad 0) (kaa (kad 1) (kaa (kad 2) (kaa (kad 3) kah))))))
  (kab (kba (kaw kno (kaf 4) (kb6).bw) (kag (kax (kb6))) kav)
  (kab (kap 5 (fun O=>k05.nd) (kal GDb (fun O=>hr.mono (by lia)) (kaa (kam (kai 4) (kae).bw) kah)))
  (kab (kba (kaw kno (kaf 5) (kb6).bw) (kag (kax (kdc (kcv (N':=["mark","finer"]) (fun O=>(.own (.cap 4 rfl rfl rfl .nil))) (ka8 (kam (kai 4) (kae).bw)) (kaz 0 (fun O=>(by decide +kernel:(["mark","finer"]:List Str).Nodup))) kbe (kf7 (kam (kai 1) (kae).bw).l (kaf 0))) (fun O=>T.d)))) kav)
  (kab (kbh 6 (fun O=>k05.nd) (kbj kah))
  (kab (kbn nofun (kih (kam (kai 4) (kae).bw) (fun O=>T.f)) (kcb 7 8 (fun O=>k05.nd)) (kag (kba ((kfy (kaw (kcg ∅) (kaf 8) (kam (kam (kai 4) (kae).bw).q (kaf 5)).bw) (kek (kaw (kh0 ∅) (kam (kai 1) (kaf 7)).bw (kaf 6)))).t) (kab (kap 9 (fun O=>k05.nd) (kal GSr (fun O=>hr.mono (by lia)) (kaa (kad 0) (kaa (kad 1) (kaa ((ka5 GSa (fun O=>hr.mono (by lia)) (kaa (kam (kai 4) (kae).bw) (kaa (kad 5) kah))).ew) (kaa ((ka5 GSa (fun O=>hr.mono (by lia)) (kaa (kam (kai 4) (kae).bw) (kaa (kad 7) kah))).ew) kah))))))
  (kab (kba (kaw khy (kaf 9) (kb6).bw) (kag (kb8 9)) kav)
  (kag (keb 6 (kam (kai 1) (kaf 7)))))) kav)))
  (kag (kax (kb6)))))))))) (fun ds RS h=>?_)
 .obtain⟨m,T,U,M,N,d,rfl,_⟩:=h;rfl
 .obtain⟨m,T,U,M,N,d,rfl,m1,m16,hM,hN,irr,D,hd,hX,hR⟩:=h;simp only[rD];refine⟨m,T,U,M,N,rfl,m1,m16,hM,hN,fun no=>?_,fun M' N' R=>?_⟩
  .refine⟨.none,rfl,?_⟩;rw[zP (show isNone .none=true from rfl)];exact hX no
  .refine⟨_,rfl,?_⟩;rw[zN (fun z=>nomatch z)];refine⟨_,rfl,_,at0 _ _,M',rfl,by rw[R.l1];exact m16,?_⟩;cases e:kr8 M' with
   | none=>
     obtain⟨mm,iso⟩:=kso R e;refine⟨.none,rfl,?_⟩;rw[zP (show isNone .none=true from rfl)];simp only[rD,xLC];refine⟨_,at0 _ _,_,rfl,Gf M' ba1 (fun O=>true) (fun x=> .int ((N'.idxOf x:Nat))),fun y hy=>?_,fun o ho=>?_⟩
     .obtain⟨x,hx,rfl⟩:=bb1.mp hy;exact⟨_,at1 _ _ _,_,rfl,N',rfl,x,rfl,mm x hx,Gf.keep hx rfl rfl⟩
     .rw[Gf.all kbp ho];have:=hR _ (by rw[ba3];exact R.l1) iso;rw[bc1]at this;exact this
   | some p=>
     obtain⟨hp,q,hq,ne,eq⟩:=k0j e;refine⟨.int (p:Nat),rfl,?_⟩;rw[zN (show ¬isNone (.int (p:Nat))=true from fun z=>nomatch z)];simp only[rD,kof];refine⟨_,at1 _ _ _,_,rfl,fun j env=>∃(tr:List (List Int×List Int))(v7 v8 v9:Dt),env=[.d (.list ((kex T m).map kew)),.d (.list ((kex U m).map kew)),.d (.list (M.map ba1)),.d (.list (N.map ba1)),.d (.tuple [.list (M'.map ba1),.list (N'.map ba1)]),dI (p:Nat),.o (tr.map kew),v7,v8,v9]/\tr.length<=j/\(∀ i,i<j->Bad m T U M' N' p i)/\∀x∈tr,∃i,i<m/\x=(kex U m).getD i ([],[])/\gM N' i=gM M' p/\Bad m T U M' N' p i,⟨[],_,_,_,rfl,bb7 _,fun i hi=>zA hi (bj6 _),fun x hx=>nomatch hx⟩,?_,?_⟩
     .rintro j y env hy⟨tr,v7,v8,v9,rfl,tl,bad,htr⟩;obtain⟨x,hx,rfl⟩:=ke7 hy;rw[bc8]at hx;obtain⟨n,hn,rfl⟩:=be2.mp hx;have hj:j<N'.length:=(bb3.mp hn).1;have hjm:j<m:=(by rw[<- R.l2];exact hj)
      have en:gM N' j=n:=(by unfold gM;rw[bb5,hn];rfl)
      simp only[rD];have hpm:p<m:=(by rw[<- R.l1];exact hp)
      have ep:atI (M'.map ba1) (p:Nat)=some (.int (gM M' p)):=kg4 0 (by lia) (by lia);have ej:atI ((kex U m).map kew) (j:Nat)=some (kew ((kex U m).getD j ([],[]))):=kg4 ([],[]) (by lia) (by unfold kex;rw[ba3,be8];lia);have grow:Bad m T U M' N' p j->∀i,i<j+1->Bad m T U M' N' p i:=fun b i hi=>by
       rcases bp1 (b02 hi)with z|rfl
       .exact bad i z
       .exact b
      refine⟨_,_,rfl,_,at0 _ _,_,rfl,_,ep,okI _,okI _,.inl (shI _),?_⟩;rw[ka1];by_cases c:n=gM M' p
      .rw[zP (zT c)];refine⟨_,rfl,_,ej,ksn tr,kw4 _,k35 _,?_⟩;rw[k0l];by_cases c2:(kex U m).getD j ([],[])∈tr
       .rw[zN (by rw[zT c2];exact fun z=>nomatch z)];obtain⟨i,hi,e1,e2,b⟩:=htr _ c2;exact⟨tr,_,_,_,rfl,by lia,grow (kvn irr hpm hi hjm e1 b e2),htr⟩
       .rw[zP (by rw[zF c2];rfl)];refine⟨_,at0 _ _,M',p,rfl,by rw[R.l1];exact m16,hp,_,rfl,_,at1 _ _ _,N',j,rfl,by rw[R.l2];exact m16,hj,_,rfl,m,T,U,kod M' p,kod N' j,d+1,rfl,m1,m16,by unfold kod;simp[R.l1],by unfold kod;simp[R.l2],irr,(D.fine R.fin).apart R.l1 R.r1 hpm (by rw[<- R.l1];exact hq) ne eq,by lia,fun no=>?_,fun g hg iso=>?_⟩
        .refine⟨.none,rfl,?_⟩;rw[zN (show ¬(!isNone .none)=true from fun z=>nomatch z)];have b:=ksk R.l1 R.l2 hpm no;refine⟨_,rfl,_,ej,by rw[ba3];lia,tr++[(kex U m).getD j ([],[])],dI (j:Nat),dI n,.d .none,by rw[be3];rfl,by rw[bb4];exact ch2 tl,grow b,fun x hx=>?_⟩;rcases bh3.mp hx with z|z
         .exact htr x z
         .rw[bc4.mp z];exact⟨j,hjm,rfl,en.trans c,b⟩
        .refine⟨_,rfl,?_⟩;rw[zP (show(!isNone (.tuple _))=true from rfl)];exact hR g hg iso
      .rw[zN (by simp[c]),zN id];exact⟨tr,_,_,_,rfl,by lia,grow (fun f iso r e=>c (by rw[<- en,<- e];exact(r p hpm).symm)),htr⟩
     .rintro env⟨tr,v7,v8,v9,rfl,tl,bad,htr⟩;rw[kc5,ba3,R.l2]at bad;refine hX fun f iso r=>?_;have hpm:p<m:=(by rw[<- R.l1];exact hp)
      exact bad _ (iso.lt p hpm) f iso (R.rsp f iso r) rfl
def k37{f:Addr}{fd:be7}:FnOk P w K mg base CX0 4 f fd ["one_lying","other_lying","one_marks","other_marks"] (spG K (Psr 0)):=⟨fun vs H Q E h=>by obtain⟨ds,RS,_,h,_⟩:=h;exact(kw5 h).elim,fun O O O O O O O O O O O O O h=>by obtain⟨ds,RS,_,h,_⟩:=h;exact(kw5 h).elim⟩
end
def ksp{c:Nat->Bool}{p:Nat}: ∀n:Nat,(ba8 n).filter (fun b=>c b&&decide (b=p))=if p<n/\c p=true then[p]else[]
 | 0=>by simp
 | n+1=>by
   rw[bn8,bn2,ksp n];by_cases h:n=p
   .subst h;by_cases h2:c n=true
    .rw[zN (by lia),zP ⟨by lia,h2⟩];simp[h2]
    .rw[zN (by lia),zN (fun z=>h2 z.2)];simp[h2]
   .by_cases h2:p<n/\c p=true
    .rw[zP h2,zP ⟨by lia,h2.2⟩];simp[h]
    .rw[zN h2,zN (fun z=>h2 ⟨by lia,z.2⟩)];simp[h]
def k38{n k p:Nat}{T:Rl}(hp:p<n):((ket n T k).filter fun q=>decide (q.2=(p:Int))).map (·.1)=if T k p=true then[(k:Int)]else[]:=by
 unfold ket;rw[b41,bc1,b56];have e:(ba8 n).filter (fun b=>((fun q:Int×Int=>decide (q.2=(p:Int))) ∘ fun(b:Nat)=>((k:Int),(b:Int))) b&&T k b)=(ba8 n).filter (fun b=>T k b&&decide (b=p)):=by
  refine b78 fun b O=>?_;rw[Bool.and_comm];congr 1;show decide ((b:Int)=(p:Int))=_;exact decide_eq_decide.mpr (by lia)
 rw[e,ksp n];by_cases h:T k p=true
 .rw[zP ⟨hp,h⟩,zP h];rfl
 .rw[zN (fun z=>h z.2),zN h];rfl
def k39{n k p:Nat}{T:Rl}:((ket n T k).filter fun q=>decide (q.1=(p:Int))).map (·.2)=if k=p then(ovr T n p).map (fun(q:Nat)=>(q:Int))else[]:=by
 unfold ket;rw[b41,bc1,b56];by_cases h:k=p
 .subst h;rw[zP rfl];unfold ovr;congr 1;refine b78 fun b O=>?_;simp
 .rw[zN h];have e:(ba8 n).filter (fun b=>((fun q:Int×Int=>decide (q.1=(p:Int))) ∘ fun(b:Nat)=>((k:Int),(b:Int))) b&&T k b)=[]:=List.filter_eq_nil_iff.mpr fun b O=>by
   show ¬(decide ((k:Int)=(p:Int))&&T k b)=true;rw[zF (by lia)];exact fun z=>nomatch z
  rw[e];rfl
def k0m{n p:Nat}{T:Rl}(hp:p<n): ∀k:Nat,(((ba8 k).flatMap (ket n T)).filter fun q=>decide (q.2=(p:Int))).map (·.1)=((ba8 k).filter fun q=>T q p).map fun(q:Nat)=>(q:Int)
 | 0=>rfl
 | k+1=>by
   rw[bn8,bx8,bn2,be3,k0m hp k,bn2,be3];congr 1;rw[b04,b22,be9,k38 hp];by_cases h:T k p=true
   .rw[zP h];simp[h]
   .rw[zN h];simp[h]
def k0n{n p:Nat}{T:Rl}: ∀k:Nat,(((ba8 k).flatMap (ket n T)).filter fun q=>decide (q.1=(p:Int))).map (·.2)=if p<k then(ovr T n p).map (fun(q:Nat)=>(q:Int))else[]
 | 0=>rfl
 | k+1=>by
   rw[bn8,bx8,bn2,be3,k0n k];rw[b04,b22,be9,k39];by_cases h:k=p
   .subst h;rw[zN (by lia),zP rfl,zP (by lia)];rfl
   .rw[zN h,be9];by_cases h2:p<k
    .rw[zP h2,zP (by lia)]
    .rw[zN h2,zN (by lia)]
def kw6(n:Nat)(T:Rl):((ka7 n).map fun p=>kew (pu (kac n T) p,po (kac n T) p))=(kex T n).map kew:=by
 unfold kex ka7;rw[bc1,bc1];refine bh9 fun p hp=>?_;have hp:=bb2.mp hp;show kew (pu (kac n T) (p:Int),po (kac n T) (p:Int))=kew _;rw[show pu (kac n T) (p:Int)=(undr T n p).map fun(q:Nat)=>(q:Int)from k0m hp n];rw[show po (kac n T) (p:Int)=(ovr T n p).map fun(q:Nat)=>(q:Int)from(k0n n).trans (zP hp)]
def kw7{n p:Nat}(hp:p<n):gM (bf6 n 0) p=0:=by unfold gM;simp[hp]
abbrev Pren(ds:List bb0)(RS:Dt->Prop):Prop:=∃(n m:Nat)(T U:Rl),ds=[spD n (kac n T),spD m (kac m U)]/\1<=n/\n<=16/\1<=m/\m<=16/\(∀ a,a<m->U a a=false)/\(n≠m->RS (.d .none))/\
 (n=m->((∀ f,¬Iso n T U f)->RS (.d .none))/\∀g:List Nat,g.length=n->Iso n T U (fun p=>g.getD p 0)->RS (.d (.tuple (g.map fun x=> .int (x:Nat)))))
def km9: ∀n:Nat,(bf6 n [ba1 0]).flatten=bf6 n (ba1 0)
 | 0=>rfl
 | n+1=>by rw[bk3,bo3,km9 n];rfl
section
variable{P:bb9}{w:be5}{K:ba2}{mg:Str->Option ba6}{base:Heap}
def scRn:FnScope ["one","other","unmarked"] ["one","other"] (kaj kfs):=by ac_rfl
@[reducible]def F25(P)(w)(K)(mg)(base):=Fn P w K mg base "searched" 20 ["one_lying","other_lying","one_marks","other_marks"] (spG K (Psr 16))
def ok_Rn{f:Addr}{fd:be7}(F:Fun K "renaming" "renaming" kfs f fd)(T:Txt K mg)(GLy:Fn P w K mg base "lying" 2 ["space"] (spG K kr5))(GSr:F25 P w K mg base):
 FnOk P w K mg base CX0 22 f fd ["one","other"] (spG K Pren):=by
 refine F.okG scRn (fun ds RS h=>?_) (fun a A o s H E hr=>(kab (kba (kaw (kdm ∅) (kam (kai 0) (kae).bw).bw (kam (kai 1) (kae).bw).bw) (kag (kax (kb6))) kav)
  (kab (kap 2 (fun O=>scRn.nd) ((k2h (kbj (kaa (kae) kah)).l (kam (kai 0) (kae).bw).bw).ew))
  (kag (kax (kal GSr ⋯ (kaa ((ka5 GLy ⋯ (kaa (kad 0) kah)).ew) (kaa ((ka5 GLy ⋯ (kaa (kad 1) kah)).ew) (kaa (kad 2) (kaa (kad 2) kah)))))))))) (fun ds RS h=>?_)
 .obtain⟨n,m,T,U,rfl,_⟩:=h;rfl
 .obtain⟨n,m,T,U,rfl,n1,n16,m1,m16,irr,hN,hS⟩:=h;simp only[rD,ka4,at0];refine⟨okI _,okI _,.inl (shI _),?_⟩;rw[ka1];by_cases c:n=m
  .subst c;rw[zN (by simp)];obtain⟨h1,h2⟩:=hS rfl;have er:(bf6 ((n:Int).toNat) [ba1 0]).flatten=(bf6 n (0:Int)).map ba1:=by
    rw[bc3,List.map_replicate];exact km9 n
   refine⟨by lia,by lia,by lia,n,_,rfl,n16,_,rfl,n,_,rfl,n16,_,rfl,n,T,U,bf6 n 0,bf6 n 0,1,?_,n1,n16,b10,b10,irr,⟨[0],rfl,fun p hp=>by rw[bc4.mp hp];lia,br1 _ _⟩,by lia,fun no=>?_,fun g hg iso=>?_⟩
   .rw[er,kw6,kw6]
   .exact⟨_,rfl,h1 fun f iso=>no f iso fun p hp=>by rw[kw7 hp,kw7 (iso.lt p hp)]⟩
   .exact⟨_,rfl,h2 g hg iso⟩
  .rw[zP (by simp;lia)];exact hN c
end
abbrev Srt(qs:List (Int×Int)):Prop:=qs.Pairwise fun x y=>x.1*100+x.2<=y.1*100+y.2
abbrev InB(ps:List (Int×Int)):Prop:=∀q∈ps,(0<=q.1/\q.1<100)/\0<=q.2/\q.2<100
def k4a{qs rs:List (Int×Int)}(h:InB qs)(nd1:qs.Nodup)(nd2:rs.Nodup)(h2:Srt qs)(h4:Srt rs)(mem: ∀q,q∈qs↔q∈rs):qs=rs:=by
 refine b79 (le:=fun(x y:Int×Int)=>x.1*100+x.2<=y.1*100+y.2) (fun a b ha hb l1 l2=>?_) h2 h4 ((bm9 nd1 nd2).mpr mem);have ia:=h a ha;have ib:=h b ((mem b).mpr hb);have e1:a.1=b.1:=by lia
 have e2:a.2=b.2:=by lia
 exact by4 e1 e2
def kkf{m:Nat}{t:Rel}(hm:m<=16):InB (kac m t):=fun q hq=>by
 obtain⟨a,b,ha,hb,_,rfl⟩:=ka3.mp hq;refine⟨⟨?_,?_⟩,?_,?_⟩ <;> (dsimp only;lia)
def kna{m:Nat}{t:Rel}{R:Int×Int->Int×Int->Prop}(h: ∀a b c d:Nat,a<m->b<m->c<m->d<m->a<c\/(a=c/\b<d)->R ((a:Int),(b:Int)) ((c:Int),(d:Int))):(kac m t).Pairwise R:=by
 unfold kac;rw[List.pairwise_flatMap];refine⟨fun a ha=>?_,?_⟩
 .unfold ket;rw[bw5];have ha:=bb2.mp ha;refine(List.pairwise_lt_range.filter _).imp_of_mem fun{b d} hb hd lt=>?_;exact h a b a d ha (bb2.mp (be6.mp hb).1) ha (bb2.mp (be6.mp hd).1) (.inr ⟨rfl,lt⟩)
 .refine List.pairwise_lt_range.imp_of_mem fun{a c} ha hc lt x hx y hy=>?_;unfold ket at hx hy;obtain⟨b,hb,rfl⟩:=bb1.mp hx;obtain⟨d,hd,rfl⟩:=bb1.mp hy;exact h a b c d (bb2.mp ha) (bb2.mp (be6.mp hb).1) (bb2.mp hc) (bb2.mp (be6.mp hd).1) (.inl lt)
def kkg{m:Nat}{t:Rel}(hm:m<=16):Srt (kac m t):=kna fun a b c d ha hb hc hd h=>by dsimp only;lia
def knb{m:Nat}{t:Rel}:(kac m t).Nodup:=kna fun a b c d ha hb hc hd h z=>by
 have e1:=zC bz1 z;have e2:=zC bz2 z;dsimp only at e1 e2;lia
def ksq{ps:List (Int×Int)}{p:Int}(h:kbl ps p=none):(∀ g,(p,g)∈ps->¬ ∀a,(p,a)∈ps->kfu ps g a)/\∀g,(g,p)∈ps->¬ ∀a,(a,p)∈ps->kfu ps a g:=by
 unfold kbl at h;have h1:kog ps (po ps p)=none:=by
  cases e:kog ps (po ps p)with
  | none=>rfl
  | some x=>rw[e]at h;cases h
 have h2:kgw ps (pu ps p)=none:=by rw[h1]at h;exact h
 refine⟨fun g hg z=>?_,fun g hg z=>?_⟩
 .have:=ce3.mp h1 g (kmy.mpr hg);exact this (bi0.mpr fun a ha=>kbc.mpr (z a (kmy.mp ha)))
 .have:=ce3.mp h2 g (kmz.mpr hg);exact this (bi0.mpr fun a ha=>kbc.mpr (z a (kmz.mp ha)))
def k4b{α:Type}{p q:α->Bool}{l:List α}(h: ∀x∈l,p x=true->q x=true){y:α}(hy:y∈l)(h1:p y=false)(h2:q y=true):(l.filter p).length<(l.filter q).length:=by
 induction l with
 | nil=>cases hy
 | cons a l ih=>
   have le:(l.filter p).length<=(l.filter q).length:=by
    rw[<- b27,<- b27];exact cb2 fun x hx=>h x (bc0 _ hx)
   rcases bc6.mp hy with e|hy
   .subst e;rw[bo8 (by rw[h1];exact fun z=>nomatch z),bm7 h2,bg5];lia
   .have:=ih (fun x hx=>h x (bc0 _ hx)) hy;by_cases c:p a=true
    .rw[bm7 c,bm7 (h a bb8 c),bg5,bg5];lia
    .rw[bo8 c];by_cases c2:q a=true
     .rw[bm7 c2,bg5];lia
     .rw[bo8 c2];exact this
def kvo{n:Nat}{T:Rel}(hn:n<=15){p:Int}(h0:0<=p)(h1:p<((n+1:Nat):Int)):woF (kac (n+1) T) p=kac n fun a b=>T (upN p.toNat a) (upN p.toNat b):=by
 obtain⟨k,rfl⟩:=bi3 h0;rw[bc3];have fl: ∀q∈(kac (n+1) T).filter (fun q=>decide ((k:Int)≠q.1)&&decide ((k:Int)≠q.2)),(k:Int)≠q.1/\(k:Int)≠q.2:=fun q hq=>by simpa using(be6.mp hq).2
 have hw:kfg n (woF (kac (n+1) T) (k:Int)):=by
  have:=krv (n:=((n+1:Nat):Int)) (ps:=kac (n+1) T) (p:=(k:Int)) (fun q hq=>by
   obtain⟨a,b,ha,hb,_,rfl⟩:=ka3.mp hq;refine⟨?_,?_,?_,?_⟩ <;> (dsimp only;lia)) h0 h1
  rwa [sc1]at this
 refine k4a (fun q hq=>?_) ?_ knb ?_ (kkg (by lia)) fun q=>?_
 .obtain⟨a,b,c,d⟩:=hw q hq;lia
 .unfold woF;rw[List.nodup_iff_pairwise_ne,bw5];refine(knb.filter _).imp_of_mem fun{x y} hx hy ne z=>ne ?_;have nx:=fl x hx;have ny:=fl y hy;have e1:cu (k:Int) x.1=cu (k:Int) y.1:=zC bz1 z;have e2:cu (k:Int) x.2=cu (k:Int) y.2:=zC bz2 z;unfold cu at e1 e2;refine by4 ?_ ?_
  .split at e1 <;> split at e1 <;> lia
  .split at e2 <;> split at e2 <;> lia
 .unfold woF Srt;rw[bw5];refine((kkg (m:=n+1) (t:=T) (by lia)).filter _).imp_of_mem fun{x y} hx hy le=>?_;have nx:=fl x hx;have ny:=fl y hy;have ix:=kkf (by lia) x (be6.mp hx).1;have iy:=kkf (by lia) y (be6.mp hy).1;show cu (k:Int) x.1*100+cu (k:Int) x.2<=cu (k:Int) y.1*100+cu (k:Int) y.2;unfold cu;split <;> split <;> split <;> split <;> lia
 .constructor
  .intro hq;obtain⟨a,b,c,d⟩:=hw q hq;have e:q=((q.1.toNat:Int),(q.2.toNat:Int)):=by4 (by dsimp only;lia) (by dsimp only;lia);rw[e]at hq⊢;have:=krz.mp hq;rw[kay]at this⊢;exact⟨by lia,by lia,this.2.2⟩
  .intro hq;obtain⟨a,b,ha,hb,ht,rfl⟩:=ka3.mp hq;rw[krz,kay];refine⟨?_,?_,ht⟩ <;> (unfold upN;split <;> lia)
abbrev leT(T:Rl)(a b:Nat):Prop:=a=b\/T a b=true
structure OrT(n:Nat)(T:Rl):Prop where
 irr: ∀a,a<n->T a a=false
 trs: ∀a b c,a<n->b<n->c<n->T a b=true->T b c=true->T a c=true
structure Mon(n:Nat)(T:Rl)(m:Nat)(U:Rl)(f:Nat->Nat):Prop where
 lt: ∀a,a<n->f a<m
 le: ∀a b,a<n->b<n->T a b=true->leT U (f a) (f b)
def Mon.leq{n m:Nat}{T U:Rl}{f:Nat->Nat}(h:Mon n T m U f){a b:Nat}(ha:a<n)(hb:b<n)(l:leT T a b):leT U (f a) (f b):=by
 rcases l with rfl|l
 .exact .inl rfl
 .exact h.le a b ha hb l
def Mon.comp{n m k:Nat}{T U V:Rl}{f g:Nat->Nat}(h:Mon n T m U f)(h2:Mon m U k V g):Mon n T k V (fun x=>g (f x)):=⟨fun a ha=>h2.lt _ (h.lt a ha),fun a b ha hb l=>h2.leq (h.lt a ha) (h.lt b hb) (h.le a b ha hb l)⟩
inductive Fen(n:Nat)(T:Rl):(Nat->Nat)->Prop
 | id:Fen n T fun x=>x
 | step {f g:Nat->Nat}:Fen n T f->Mon n T n T g->((∀ x,x<n->leT T (f x) (g x))\/∀x,x<n->leT T (g x) (f x))->Fen n T g
def Fen.mon{n:Nat}{T:Rl}{f:Nat->Nat}(h:Fen n T f):Mon n T n T f:=by
 cases h with
 | id=>exact⟨fun a ha=>ha,fun a b O O l=> .inr l⟩
 | step _ h _=>exact h
structure CoT(m:Nat)(U:Rl):Prop where
 up: ∀p g,p<m->g<m->U p g=true->¬ ∀a,a<m->U p a=true->leT U g a
 dn: ∀p g,p<m->g<m->U g p=true->¬ ∀a,a<m->U a p=true->leT U a g
abbrev flT(T:Rl):Rl:=fun a b=>T b a
def ksr{T:Rl}{a b:Nat}:leT (flT T) a b↔leT T b a:=or_congr ⟨Eq.symm,Eq.symm⟩ Iff.rfl
def kw8{m:Nat}{U:Rl}(o:OrT m U)(no: ∀p g,p<m->g<m->U p g=true->¬ ∀a,a<m->U p a=true->leT U g a){f:Nat->Nat}(M:Mon m U m U f)(up: ∀x,x<m->leT U x (f x)): ∀(k x:Nat),x<m->((ba8 m).filter (U x)).length=k->f x=x:=by
 intro k;induction k using Nat.strongRecOn with
 | _ k ih=>
   intro x hx e;rcases up x hx with z|z
   .exact z.symm
   .refine zA ?_ (no x (f x) hx (M.lt x hx) z);intro y hy hxy;have lt:((ba8 m).filter (U y)).length<((ba8 m).filter (U x)).length:=
     k4b (fun u hu h=>o.trs x y u hx hy (bb2.mp hu) hxy h) (bb2.mpr hy) (o.irr y hy) hxy
    have:=M.le x y hx hy hxy;rw[ih _ (by lia) y hy rfl]at this;exact this
def OrT.fl{m:Nat}{U:Rl}(o:OrT m U):OrT m (flT U):=⟨o.irr,fun a b c ha hb hc h1 h2=>o.trs c b a hc hb ha h2 h1⟩
def Mon.fl{n m:Nat}{T U:Rl}{f:Nat->Nat}(h:Mon n T m U f):Mon n (flT T) m (flT U) f:=⟨h.lt,fun a b ha hb l=>ksr.mpr (h.le b a hb ha l)⟩
def k4c{m:Nat}{U:Rl}(o:OrT m U)(C:CoT m U){f:Nat->Nat}(M:Mon m U m U f)(nr:(∀ x,x<m->leT U x (f x))\/∀x,x<m->leT U (f x) x): ∀x,x<m->f x=x:=by
 intro x hx;rcases nr with h|h
 .exact kw8 o C.up M h _ x hx rfl
 .exact kw8 o.fl (fun p g hp hg l z=>C.dn p g hp hg l fun a ha q=>ksr.mp (z a ha q)) M.fl (fun x hx=>ksr.mpr (h x hx)) _ x hx rfl
structure Rt(n:Nat)(T:Rl)(m:Nat)(U:Rl)(i r:Nat->Nat):Prop where
 il: ∀a,a<m->i a<n
 rl: ∀x,x<n->r x<m
 ri: ∀a,a<m->r (i a)=a
 em: ∀a b,a<m->b<m->U a b=T (i a) (i b)
 fen:Fen n T fun x=>i (r x)
def Rt.iMon{n m:Nat}{T U:Rl}{i r:Nat->Nat}(R:Rt n T m U i r):Mon m U n T i:=⟨R.il,fun a b ha hb l=> .inr (by rw[<- R.em a b ha hb];exact l)⟩
def Rt.inj{n m:Nat}{T U:Rl}{i r:Nat->Nat}(R:Rt n T m U i r){a b:Nat}(ha:a<m)(hb:b<m)(e:i a=i b):a=b:=by rw[<- R.ri a ha,e,R.ri b hb]
def Rt.rMon{n m:Nat}{T U:Rl}{i r:Nat->Nat}(R:Rt n T m U i r):Mon n T m U r:=⟨R.rl,fun a b ha hb l=>by
 rcases R.fen.mon.le a b ha hb l with z|z
 .exact .inl (R.inj (R.rl a ha) (R.rl b hb) z)
 .exact .inr (by rw[R.em _ _ (R.rl a ha) (R.rl b hb)];exact z)⟩
def Rt.ord{n m:Nat}{T U:Rl}{i r:Nat->Nat}(R:Rt n T m U i r)(o:OrT n T):OrT m U:=⟨fun a ha=>by rw[R.em a a ha ha];exact o.irr _ (R.il a ha),fun a b c ha hb hc h1 h2=>by
 rw[R.em _ _ ha hb]at h1;rw[R.em _ _ hb hc]at h2;rw[R.em _ _ ha hc];exact o.trs _ _ _ (R.il a ha) (R.il b hb) (R.il c hc) h1 h2⟩
def Rt.fix{n m:Nat}{T U:Rl}{i r:Nat->Nat}(R:Rt n T m U i r)(o:OrT n T)(C:CoT m U){f:Nat->Nat}(h:Fen n T f): ∀a,a<m->r (f (i a))=a:=by
 induction h with
 | id=>exact R.ri
 | @step f g hf hg nr ih=>
   refine k4c (R.ord o) C (f:=fun a=>r (g (i a))) ((R.iMon.comp hg).comp R.rMon) ?_;rcases nr with h|h
   .refine .inl fun a ha=>?_;have:=R.rMon.leq (hf.mon.lt _ (R.il a ha)) (hg.lt _ (R.il a ha)) (h _ (R.il a ha))
    rwa [ih a ha]at this
   .refine .inr fun a ha=>?_;have:=R.rMon.leq (hg.lt _ (R.il a ha)) (hf.mon.lt _ (R.il a ha)) (h _ (R.il a ha))
    rwa [ih a ha]at this
def khr{m m':Nat}{f:Nat->Nat}(lt: ∀a,a<m->f a<m')(inj: ∀a b,a<m->b<m->f a=f b->a=b):m<=m':=by
 have nd:((ba8 m).map f).Nodup:=kcu bj2 fun a b ha hb=>inj a b (bb2.mp ha) (bb2.mp hb);have:=nd.length_le_of_subset (l₂:=ba8 m') fun x hx=>by
  obtain⟨a,ha,rfl⟩:=bb1.mp hx;exact bb2.mpr (lt a (bb2.mp ha))
 simpa using this
def Rt.iso{n m m':Nat}{T U U':Rl}{i r i' r':Nat->Nat}(R:Rt n T m U i r)(R':Rt n T m' U' i' r')(o:OrT n T)(C:CoT m U)(C':CoT m' U'):m=m'/\∃f,Iso m U U' f:=by
 have h1: ∀a,a<m->r (i' (r' (i a)))=a:=R.fix o C R'.fen;have h2: ∀a,a<m'->r' (i (r (i' a)))=a:=R'.fix o C' R.fen;have t1:=R.iMon.comp R'.rMon;have t2:=R'.iMon.comp R.rMon;have j1: ∀a b,a<m->b<m->r' (i a)=r' (i b)->a=b:=fun a b ha hb e=>by rw[<- h1 a ha,<- h1 b hb,e]
 have j2: ∀a b,a<m'->b<m'->r (i' a)=r (i' b)->a=b:=fun a b ha hb e=>by rw[<- h2 a ha,<- h2 b hb,e]
 have em:m=m':=Nat.le_antisymm (khr t1.lt j1) (khr t2.lt j2);subst em;refine⟨rfl,fun a=>r' (i a),t1.lt,j1,fun a b ha hb=>?_⟩;have ou:=R.ord o;have ou':=R'.ord o;rw[bh5];constructor
 .intro h;refine(t1.le a b ha hb h).resolve_left fun z=>?_;rw[j1 a b ha hb z,ou.irr b hb]at h;cases h
 .intro h;have:=t2.le _ _ (t1.lt a ha) (t1.lt b hb) h;rw[h1 a ha,h1 b hb]at this;refine this.resolve_left fun z=>?_;rw[z,ou'.irr _ (t1.lt b hb)]at h;cases h
def Fen.comp{n:Nat}{T:Rl}{f:Nat->Nat}(h:Fen n T f){k:Nat}{V:Rl}{L:(Nat->Nat)->Nat->Nat}(h0:Fen k V (L fun x=>x))(m: ∀g,Mon n T n T g->Mon k V k V (L g))(l: ∀f g,Mon n T n T f->Mon n T n T g->(∀ x,x<n->leT T (f x) (g x))->∀x,x<k->leT V (L f x) (L g x)):Fen k V (L f):=by
 induction h with
 | id=>exact h0
 | @step f g hf hg nr ih=>exact ih.step (m g hg) (nr.imp (fun h=>l f g hf.mon hg h) fun h=>l g f hg hf.mon h)
def Fen.ext{n:Nat}{T:Rl}{f g:Nat->Nat}(h:Fen n T f)(e: ∀x,x<n->f x=g x):Fen n T g:=by
 refine h.step ⟨fun a ha=>by rw[<- e a ha];exact h.mon.lt a ha,fun a b ha hb l=>by rw[<- e a ha,<- e b hb];exact h.mon.le a b ha hb l⟩ (.inl fun x hx=> .inl (e x hx))
def Rt.comp{n m k:Nat}{T U V:Rl}{i r i2 r2:Nat->Nat}(R:Rt n T m U i r)(R2:Rt m U k V i2 r2):Rt n T k V (fun a=>i (i2 a)) (fun x=>r2 (r x)):=by
 refine⟨fun a ha=>R.il _ (R2.il a ha),fun x hx=>R2.rl _ (R.rl x hx),fun a ha=>?_,fun a b ha hb=>?_,?_⟩
 .show r2 (r (i (i2 a)))=a;rw[R.ri _ (R2.il a ha),R2.ri a ha]
 .rw[R2.em a b ha hb,R.em _ _ (R2.il a ha) (R2.il b hb)]
 .exact R2.fen.comp (L:=fun f x=>i (f (r x))) R.fen (fun g hg=>(R.rMon.comp hg).comp R.iMon) fun f g hf hg l x hx=>R.iMon.leq (hf.lt _ (R.rl x hx)) (hg.lt _ (R.rl x hx)) (l _ (R.rl x hx))
def Rt.refl{n:Nat}{T:Rl}:Rt n T n T (fun x=>x) (fun x=>x):=⟨fun O h=>h,fun O h=>h,fun O O=>rfl,fun O O O O=>rfl,.id⟩
abbrev cuN(p x:Nat):Nat:=if p<x then x-1 else x
abbrev fdN(p g x:Nat):Nat:=if x=p then g else x
def leP{n:Nat}{T:Rl}{a b:Nat}(h:kfu (kac n T) (a:Int) (b:Int)):leT T a b:=by
 rcases h with h|h
 .exact .inl (by lia)
 .exact .inr (kay.mp h).2.2
def k4d{n p g:Nat}{T:Rl}(o:OrT n T)(hp:p<n)(hg:g<n)(h:(T p g=true/\∀a,a<n->T p a=true->leT T g a)\/(T g p=true/\∀a,a<n->T a p=true->leT T a g)):Mon n T n T (fdN p g):=by
 refine⟨fun a ha=>by unfold fdN;split <;> assumption,fun a b ha hb l=>?_⟩;unfold fdN;by_cases ea:a=p
 .subst ea;rw[zP rfl];by_cases eb:b=a
  .rw[zP eb];exact .inl rfl
  .rw[zN eb];rcases h with⟨_,h⟩|⟨h,_⟩
   .exact h b hb l
   .exact .inr (o.trs g a b hg hp hb h l)
 .rw[zN ea];by_cases eb:b=p
  .subst eb;rw[zP rfl];rcases h with⟨h,_⟩|⟨_,h⟩
   .exact .inr (o.trs a b g ha hp hg l h)
   .exact h a ha l
  .rw[zN eb];exact .inr l
def up_cu{p x:Nat}(h:x≠p):upN p (cuN p x)=x:=by unfold upN cuN;split <;> split <;> lia
set_option tactic.hygienic true in
def k0o{n:Nat}{T:Rl}(o:OrT (n+1) T){p:Int}(h0:0<=p)(h1:p<((n+1:Nat):Int))(h2:(kbl (kac (n+1) T) p).isSome=true): ∃r,Rt (n+1) T n (fun a b=>T (upN p.toNat a) (upN p.toNat b)) (upN p.toNat) r:=by
 obtain⟨q,rfl⟩:=bi3 h0;rw[bc3];obtain⟨g,hg⟩:=bo1.mp h2;have gs:=kkc hg;have gi:0<=g/\g<((n+1:Nat):Int):=kiz (n:=((n+1:Nat):Int)) (fun q hq=>by
  obtain⟨a,b,ha,hb,_,rfl⟩:=ka3.mp hq;refine⟨?_,?_,?_,?_⟩ <;> (dsimp only;lia)) hg
 obtain⟨k,rfl⟩:=bi3 gi.1;have hq:q<n+1:=by lia
 have hk:k<n+1:=by lia
 have h:(T q k=true/\∀a,a<n+1->T q a=true->leT T k a)\/(T k q=true/\∀a,a<n+1->T a q=true->leT T a k):=by
  rcases gs with⟨a1,a2⟩|⟨a1,a2⟩
  .exact .inl ⟨(kay.mp a1).2.2,fun a ha l=>leP (a2 a (kay.mpr ⟨hq,ha,l⟩))⟩
  .exact .inr ⟨(kay.mp a1).2.2,fun a ha l=>leP (a2 a (kay.mpr ⟨ha,hq,l⟩))⟩
 have ne:k≠q:=fun z=>by
  subst z;rcases h with⟨h,_⟩|⟨h,_⟩ <;> (rw[o.irr k hk]at h;cases h)
 have M:=k4d o hq hk h;have nq: ∀x,fdN q k x≠q:=fun x=>by unfold fdN;split <;> assumption
 refine⟨fun x=>cuN q (fdN q k x),fun a ha=>by unfold upN;split <;> lia,fun x hx=>?_,fun a ha=>?_,fun a b ha hb=>rfl,?_⟩
 .have:=M.lt x hx;have:=nq x;unfold cuN;split <;> lia
 .have:fdN q k (upN q a)=upN q a:=zN (by unfold upN;split <;> lia);rw[this];unfold cuN upN;split <;> split <;> lia
 .have F:Fen (n+1) T (fdN q k):=by
   refine Fen.id.step M ?_;rcases h with⟨h,_⟩|⟨h,_⟩
   .refine .inl fun x hx=>?_;unfold fdN;split
    .rename_i e;rw[e];exact .inr h
    .exact .inl rfl
   .refine .inr fun x hx=>?_;unfold fdN;split
    .rename_i e;rw[e];exact .inr h
    .exact .inl rfl
  exact F.ext fun x O=>(up_cu (nq x)).symm
def kfw{n:Nat}{ps:List (Int×Int)}{row:List Int}{m:Nat}{qs:List (Int×Int)}(w:Walk n ps row m qs): ∀{T:Rl},n<=16->ps=kac n T->OrT n T->1<=n->∃U i r,qs=kac m U/\Rt n T m U i r/\1<=m:=by
 induction w with
 | nil n ps=>exact fun O e O h=>⟨_,_,_,e,.refl,h⟩
 | @cons n ps p row m qs h0 h1 h2 w ih=>
   intro T hn e o O;subst e;obtain⟨r,R⟩:=k0o o h0 h1 h2;have n1:1<=n:=by
    have:=R.rl 0 (by lia);lia
   obtain⟨U,i2,r2,e2,R2,m1⟩:=ih (by lia) (kvo (by lia) h0 h1) (R.ord o) n1;exact⟨U,_,_,e2,R.comp R2,m1⟩
def kss{m:Nat}{U:Rl}(h:kbr m (kac m U)=[]):CoT m U:=by
 have no: ∀p,p<m->kbl (kac m U) (p:Int)=none:=fun p hp=>by
  cases e:kbl (kac m U) (p:Int)with
  | none=>rfl
  | some x=>
    have:(p:Int)∈kbr m (kac m U):=be6.mpr ⟨bb1.mpr ⟨p,bb2.mpr hp,rfl⟩,by rw[e];rfl⟩;rw[h]at this;cases this
 have le: ∀a b,a<m->b<m->leT U a b->kfu (kac m U) (a:Int) (b:Int):=fun a b ha hb l=>l.imp (fun z=>by rw[z]) fun z=>kay.mpr ⟨ha,hb,z⟩;refine⟨fun p g hp hg l z=>(ksq (no p hp)).1 g (kay.mpr ⟨hp,hg,l⟩) fun a ha=>?_,fun p g hp hg l z=>(ksq (no p hp)).2 g (kay.mpr ⟨hg,hp,l⟩) fun a ha=>?_⟩
 .obtain⟨x,y,hx,hy,t,e⟩:=ka3.mp ha;have e1:a=(y:Int):=zC bz2 e;have e2:p=x:=bu4 (zC bz1 e);subst e2 e1;exact le _ _ hg hy (z y hy t)
 .obtain⟨x,y,hx,hy,t,e⟩:=ka3.mp ha;have e1:a=(x:Int):=zC bz1 e;have e2:p=y:=bu4 (zC bz2 e);subst e2 e1;exact le _ _ hx hg (z x hx t)
def kst{n:Nat}{T:Rl}(n16:n<=16)(n1:1<=n)(o:OrT n T){row row':List Int}{m m':Nat}{qs qs':List (Int×Int)}(w:Walk n (kac n T) row m qs)(hf:kbr m qs=[])(w':Walk n (kac n T) row' m' qs')(hf':kbr m' qs'=[]): ∃U V:Rl,qs=kac m U/\qs'=kac m V/\m=m'/\OrT m U/\OrT m V/\1<=m/\m<=n/\∃f,Iso m U V f:=by
 obtain⟨U,i,r,rfl,R,m1⟩:=kfw w n16 rfl o n1;obtain⟨V,i2,r2,rfl,R2,m2⟩:=kfw w' n16 rfl o n1;obtain⟨e,f,iso⟩:=R.iso R2 o (kss hf) (kss hf');subst e;have:=w.len;exact⟨U,V,rfl,rfl,rfl,R.ord o,R2.ord o,m1,by lia,f,iso⟩
abbrev k0p(ds:List bb0)(RS:Dt->Prop):Prop:=∃(n:Nat)(ps:List (Int×Int))(row:List Int)(n':Nat)(ps':List (Int×Int)),ds=[spD n ps,.list (row.map ba1)]/\n<=100/\kfg n ps/\Walk n ps row n' ps'/\RS (.o ((ka7 n::wkS ps (ka7 n) (ka7 n) row).reverse.map ka9))
abbrev jF(xs core goals:List Int):List Int:=xs.map fun x=>goals.getD (core.idxOf x) 0
abbrev k0q(ds:List bb0)(RS:Dt->Prop):Prop:=∃xs core goals:List Int,ds=[.tuple (xs.map ba1),.list (core.map ba1),.list (goals.map ba1)]/\(∀ x∈xs,x∈core)/\core.length<=goals.length/\RS (.d (ka9 (jF xs core goals)))
def kbm{n:Nat}{T:Rl}:kfg n (kac n T):=fun q hq=>by
 obtain⟨a,b,ha,hb,_,rfl⟩:=ka3.mp hq;refine⟨?_,?_,?_,?_⟩ <;> (dsimp only;lia)
def kfe{n:Nat}{T:Rl}(o:OrT n T):Ordr (kac n T):=IsSp.ord ⟨T,rfl,o.irr,o.trs⟩
def kfl{n a:Nat}{ps qs:List (Int×Int)}{row:List Int}(o:Ordr ps)(hin:kfg n ps)(w:Walk n ps row a qs): ∃ini fin,ka7 n::wkS ps (ka7 n) (ka7 n) row=ini++[fin]/\(∀ x∈fin,x∈wkN ps (ka7 n) row)/\(wkN ps (ka7 n) row).length=a:=by
 obtain⟨_,_,ini,fin,e,S,_,l⟩:=ki2 o hin w (kbt n) (Nm.start hin) (Snd.start hin);exact⟨ini,fin,e,S.to,l⟩
section
variable{P:bb9}{w:be5}{K:ba2}{mg:Str->Option ba6}{base:Heap}
def scTh:FnScope ["space","row"] ["space","row"] (kaj kcq):=by ac_rfl
def ok_Th{f:Addr}{fd:be7}(F:Fun K "to_themselves" "to_themselves" kcq f fd)(T:Txt K mg)(GSe:Fn P w K mg base "sendings" 6 ["space","row"] (spG K k0d)):
 FnOk P w K mg base CX0 7 f fd ["space","row"] (spG K k0p):=by
 refine F.okG scTh (fun ds RS h=>?_) (fun a A o s H E hr=>(kag (kcy (kn5 (ka5 GSe ⋯ (kaa (kad 0) (kaa (kad 1) kah))).l (fun O=>T.i) (fun O=>T.c))))) (fun ds RS h=>?_)
 .obtain⟨n,ps,row,n',ps',rfl,_⟩:=h;rfl
 .obtain⟨n,ps,row,n',ps',rfl,hn,hin,hw,hR⟩:=h;simp only[rD];refine⟨n,ps,row,n',ps',rfl,hn,hin,hw,?_⟩;refine⟨_,rfl,?_⟩;rw[<- List.map_reverse];exact hR
def scSo:FnScope ["row","core","goals"] ["row","core","goals"] (kaj kgt):=by ac_rfl
def ok_So{f:Addr}{fd:be7}(F:Fun K "sent_on" "sent_on" kgt f fd)(T:Txt K mg):
 FnOk P w K mg base CX0 1 f fd ["row","core","goals"] (spG K k0q):=by
 refine F.okG scSo (fun ds RS h=>?_) (fun a A o s H E hr=>(kag (kax (kdc (kcv (N':=["point","goals","core"]) (fun O=>(.own (.cap 2 rfl rfl rfl (.cap 1 rfl rfl rfl .nil)))) (ka8 (kad 0)) (kaz 0 (fun O=>(by decide +kernel:(["point","goals","core"]:List Str).Nodup))) kbe (kam (kai 1) (kf7 (kc4 2) (kaf 0)).bw)) (fun O=>T.d))))) (fun ds RS h=>?_)
 .obtain⟨xs,core,goals,rfl,_⟩:=h;rfl
 .obtain⟨xs,core,goals,rfl,hin,hl,hR⟩:=h;simp only[rD,xLC];refine⟨Gf xs ba1 (fun O=>true) (fun x=> .int (goals.getD (core.idxOf x) 0)),fun y hy=>?_,fun o ho=>?_⟩
  .obtain⟨x,hx,rfl⟩:=bb1.mp hy;have il:core.idxOf x<core.length:=bg7.mpr (hin x hx);exact⟨core,rfl,x,rfl,hin x hx,_,kc1 (by lia) (by lia),Gf.keep hx rfl rfl⟩
  .rw[Gf.all kbp ho];unfold ka9 jF at hR;rw[bc1]at hR;exact hR
end
def ksu{m:Nat}{U V:Rl}(h:kac m U=kac m V){a b:Nat}(ha:a<m)(hb:b<m):U a b=V a b:=by
 have k:U a b=true↔V a b=true:=by
  constructor
  .intro t;have z:((a:Int),(b:Int))∈kac m U:=kay.mpr ⟨ha,hb,t⟩;rw[h]at z;exact(kay.mp z).2.2
  .intro t;have z:((a:Int),(b:Int))∈kac m V:=kay.mpr ⟨ha,hb,t⟩;rw[<- h]at z;exact(kay.mp z).2.2
 exact bh5.mpr k
structure Twi(a:Nat)(V W:Rl)(h k:Nat->Nat):Prop where
 lt: ∀i,i<a->h i<a
 kl: ∀i,i<a->k i<a
 kh: ∀i,i<a->k (h i)=i
 hk: ∀i,i<a->h (k i)=i
 eq: ∀i j,i<a->j<a->V i j=W (h i) (h j)
def Twi.symm{a:Nat}{V W:Rl}{h k:Nat->Nat}(t:Twi a V W h k):Twi a W V k h:=⟨t.kl,t.lt,t.hk,t.kh,fun i j hi hj=>by rw[t.eq _ _ (t.kl i hi) (t.kl j hj),t.hk i hi,t.hk j hj]⟩
def Twi.iso{a:Nat}{V W:Rl}{h k:Nat->Nat}(t:Twi a V W h k):Iso a V W h:=⟨t.lt,fun i j hi hj e=>by rw[<- t.kh i hi,e,t.kh j hj],t.eq⟩
def Twi.comp{a:Nat}{V W X:Rl}{h k h' k':Nat->Nat}(t:Twi a V W h k)(u:Twi a W X h' k'):Twi a V X (fun i=>h' (h i)) (fun i=>k (k' i)):=
 ⟨fun i hi=>u.lt _ (t.lt i hi),fun i hi=>t.kl _ (u.kl i hi),fun i hi=>by show k (k' (h' (h i)))=i;rw[u.kh _ (t.lt i hi),t.kh i hi],fun i hi=>by show h' (h (k (k' i)))=i;rw[t.hk _ (u.kl i hi),u.hk i hi],fun i j hi hj=>by rw[t.eq i j hi hj,u.eq _ _ (t.lt i hi) (t.lt j hj)]⟩
def Iso.two{a:Nat}{V W:Rl}{f:Nat->Nat}(h:Iso a V W f): ∃k,Twi a V W f k:=by
 classical
 have g: ∀b,∃x,b<a->x<a/\f x=b:=fun b=>by
  by_cases hb:b<a
  .obtain⟨x,h1,h2⟩:=h.onto hb;exact⟨x,fun O=>⟨h1,h2⟩⟩
  .exact⟨0,fun z=>zA z hb⟩
 obtain⟨k,hk⟩:=Classical.axiomOfChoice g;exact⟨k,h.lt,fun i hi=>(hk i hi).1,fun i hi=>h.inj _ _ (hk _ (h.lt i hi)).1 hi (hk _ (h.lt i hi)).2,fun i hi=>(hk i hi).2,h.eq⟩
abbrev ToCo(n:Nat)(T:Rl)(row:List Int)(a:Nat)(V:Rl):Prop:=Walk n (kac n T) row a (kac a V)/\kbr a (kac a V)=[]
def ToCo.two{n:Nat}{T:Rl}(n16:n<=16)(n1:1<=n)(o:OrT n T){row row':List Int}{a b:Nat}{V W:Rl}(h:ToCo n T row a V)(h':ToCo n T row' b W):a=b/\∃f k,Twi a V W f k:=by
 obtain⟨U,X,e1,e2,e,_,_,_,_,f,iso⟩:=kst n16 n1 o h.1 h.2 h'.1 h'.2;subst e;obtain⟨k,t⟩:=iso.two;exact⟨rfl,f,k,t.lt,t.kl,t.kh,t.hk,fun i j hi hj=>by rw[ksu e1 hi hj,t.eq i j hi hj,ksu e2 (t.lt i hi) (t.lt j hj)]⟩
abbrev Alk(n:Nat)(T:Rl)(m:Nat)(U:Rl):Prop:=∃row row' a V W f k,ToCo n T row a V/\ToCo m U row' a W/\Twi a V W f k
def Alk.symm{n m:Nat}{T U:Rl}(h:Alk n T m U):Alk m U n T:=by
 obtain⟨row,row',a,V,W,f,k,h1,h2,h3⟩:=h;exact⟨row',row,a,W,V,k,f,h2,h1,h3.symm⟩
def Alk.at{n m:Nat}{T U:Rl}(n16:n<=16)(n1:1<=n)(m16:m<=16)(m1:1<=m)(oT:OrT n T)(oU:OrT m U)(h:Alk n T m U){row row':List Int}{a b:Nat}{V W:Rl}(h1:ToCo n T row a V)(h2:ToCo m U row' b W):a=b/\∃f,Iso a V W f:=by
 obtain⟨r1,r2,c,V',W',f,k,g1,g2,t⟩:=h;obtain⟨e1,f1,k1,t1⟩:=h1.two n16 n1 oT g1;obtain⟨e2,f2,k2,t2⟩:=g2.two m16 m1 oU h2;subst e1 e2;exact⟨rfl,_,((t1.comp t).comp t2).iso⟩
abbrev fwd(fin c1 c2:List Int)(h:Nat->Nat):List Int:=fin.map fun x=>c2.getD (h (c1.idxOf x)) 0
def khs{c:List Int}{x:Int}(h:x∈c):c.idxOf x<c.length/\c[c.idxOf x]?=some x:=by
 have l:=bg7.mpr h;exact⟨l,by rw[ba4 l];exact zC some (bo9 l)⟩
def kkt{c:List Int}{i:Nat}(h:i<c.length):c[i]?=some (c.getD i 0):=by rw[bb5,ba4 h];rfl
section
variable{n m a:Nat}{ps qs:List (Int×Int)}{V W:Rl}{c1 c2 fin1 fin2:List Int}{h k:Nat->Nat}
def ksv(hin:kfg n ps)(S:Snd n ps c1 fin1)(N:Nm n ps (kac a V) c1)(l1:c1.length=a)(M:Nm m qs (kac a W) c2)(l2:c2.length=a)(t:Twi a V W h k):kho n ps m qs (fwd fin1 c1 c2 h):=by
 have at2: ∀x∈c1,c2[h (c1.idxOf x)]?=some (c2.getD (h (c1.idxOf x)) 0):=fun x hx=>kkt (by rw[l2];exact t.lt _ (by rw[<- l1];exact(khs hx).1));refine⟨by unfold fwd;rw[ba3,S.len],fun x hx=>?_,fun q hq=>?_⟩
 .obtain⟨y,hy,rfl⟩:=bb1.mp hx;exact M.inn _ (bd9 (at2 y (S.to y hy)))
 .obtain⟨q1,q2,q3,q4⟩:=hin q hq;have l3:q.1<(fin1.length:Int):=by rw[S.len];exact q2
  have l4:q.2<(fin1.length:Int):=by rw[S.len];exact q4
  unfold fwd;rw[khp q1 l3,khp q3 l4];have x1:=S.to _ (kg1 q1 l3);have x2:=S.to _ (kg1 q3 l4);have mo:=S.mono q hq;generalize gt fin1 q.1=x at x1 mo;generalize gt fin1 q.2=y at x2 mo;rcases mo with rfl|mo
  .exact .inl rfl
  .have z:=kay.mp ((N.tie _ _ _ _ (khs x1).2 (khs x2).2).mp mo);exact .inr ((M.tie _ _ _ _ (at2 x x1) (at2 y x2)).mpr (kay.mpr ⟨t.lt _ z.1,t.lt _ z.2.1,by rw[<- t.eq _ _ z.1 z.2.1];exact z.2.2⟩))
def kvp(S:Snd n ps c1 fin1)(l1:c1.length=a)(S2:Snd m qs c2 fin2)(M:Nm m qs (kac a W) c2)(l2:c2.length=a)(t:Twi a V W h k):(fwd fin1 c1 c2 h).map (gt (fwd fin2 c2 c1 k))=fin1:=by
 unfold fwd;rw[bc1];refine(bh9 fun x hx=>?_).trans (cp2 fin1);have x1:=S.to x hx;obtain⟨i1,i2⟩:=khs x1;rw[l1]at i1;have hl:=t.lt _ i1;have at2:=kkt (c:=c2) (i:=h (c1.idxOf x)) (by rw[l2];exact hl);show gt (fin2.map fun y=>c1.getD (k (c2.idxOf y)) 0) (c2.getD (h (c1.idxOf x)) 0)=x;have ym:=bd9 at2;generalize c2.getD (h (c1.idxOf x)) 0=y at at2 ym;obtain⟨y0,y1⟩:=M.inn y ym;rw[khp y0 (by rw[S2.len];exact y1),S2.fix y ym,krw M.nd at2,t.kh _ i1,bb5,i2];rfl
end
def ksw{n m:Int}{ps qs:List (Int×Int)}{rs:List (List Int)}(h:kka n ps m qs rs):kka n ps m qs rs.reverse:=by
 refine⟨fun z=>h.1 (List.reverse_eq_nil_iff.mp z),fun r hr=>h.2.1 r (bq8.mp hr),fun k x y hx hy=>?_⟩;have l2:=(bb3.mp hy).1;rw[bj5]at l2;rw[b17 (by lia)]at hx hy;have e:rs.length-1-k=rs.length-1-(k+1)+1:=by lia
 rw[e]at hx;have:=h.2.2 _ y x hy hx;unfold kg8 at this⊢;rw[Bool.or_comm];exact this
def kw9{ps:List (Int×Int)}{f:Int->Int}(h: ∀x,kfu ps x (f x)): ∀xs:List Int,((xs.zip (xs.map f)).all fun p=>kev ps p.1 p.2)=true
 | []=>rfl
 | x::xs=>by
   show(kev ps x (f x)&&((xs.zip (xs.map f)).all fun p=>kev ps p.1 p.2))=true;rw[kbc.mpr (h x),kw9 h xs];rfl
def kxa{ps:List (Int×Int)}{f:Int->Int}(h: ∀x,kfu ps (f x) x): ∀xs:List Int,(((xs.map f).zip xs).all fun p=>kev ps p.1 p.2)=true
 | []=>rfl
 | x::xs=>by
   show(kev ps (f x) x&&(((xs.map f).zip xs).all fun p=>kev ps p.1 p.2))=true;rw[kbc.mpr (h x),kxa h xs];rfl
def kvq{ps:List (Int×Int)}{names:List Int}{P G:Int}(h:koa ps names P G)(xs:List Int):kg8 ps xs (xs.map (kg6 P G))=true:=by
 unfold kg8 kgz;rw[ba3];rcases kr1 h with h|h
 .rw[kw9 h,zT rfl];rfl
 .rw[kxa h,zT rfl];simp
structure Shw(n:Nat)(ps:List (Int×Int))(m:Nat)(qs:List (Int×Int))(f b:List Int)(rs:List (List Int)):Prop where
 fm:kho n ps m qs f
 bm:kho m qs n ps b
 fe:kka n ps n ps rs
 ln:rs.length<=17
 hd:rs.head?=some (f.map (gt b))
 ls:rs.getLast?=some (ka7 n)
def kxb{n m a:Nat}{T U V W:Rl}{row row':List Int}{h k:Nat->Nat}{ini1:List (List Int)}{fin1 c1:List Int}(n16:n<=16)(oT:OrT n T)(oU:OrT m U)(w1:Walk n (kac n T) row a (kac a V))(w2:Walk m (kac m U) row' a (kac a W))(t:Twi a V W h k)
 {ini2:List (List Int)}{fin2 c2:List Int}(e1:ka7 n::wkS (kac n T) (ka7 n) (ka7 n) row=ini1++[fin1])(e2:ka7 m::wkS (kac m U) (ka7 m) (ka7 m) row'=ini2++[fin2])(hc1:wkN (kac n T) (ka7 n) row=c1)(hc2:wkN (kac m U) (ka7 m) row'=c2):
 Shw n (kac n T) m (kac m U) (fwd fin1 c1 c2 h) (fwd fin2 c2 c1 k) (fin1::ini1.reverse):=by
 have hin:kfg n (kac n T):=kbm;have hin2:kfg m (kac m U):=kbm;obtain⟨f1,f2,i1,g1,d1,S1,N1,l1⟩:=ki2 (kfe oT) hin w1 (kbt n) (Nm.start hin) (Snd.start hin);obtain⟨_,_,i2,g2,d2,S2,N2,l2⟩:=ki2 (kfe oU) hin2 w2 (kbt m) (Nm.start hin2) (Snd.start hin2);obtain⟨q1,q2⟩:=ci6 (e1.symm.trans d1) rfl;obtain⟨q3,q4⟩:=ci6 (e2.symm.trans d2) rfl;have q2:=ce4.mp q2;have q4:=ce4.mp q4;subst q1 q2 q3 q4;rw[hc1]at S1 N1 l1;rw[hc2]at S2 N2 l2;have er:fin1::ini1.reverse=(ka7 n::wkS (kac n T) (ka7 n) (ka7 n) row).reverse:=by rw[e1,b42];rfl
 refine⟨ksv hin S1 N1 l1 N2 l2 t,ksv hin2 S2 N2 l2 N1 l1 t.symm,?_,?_,?_,?_⟩
 .rw[er];refine ksw ⟨List.cons_ne_nil _ _,fun r hr=>?_,fun k x y hx hy=>?_⟩
  .obtain⟨names,S,inn⟩:=f1 r hr;exact kgy.mpr ⟨by rw[S.len],fun x hx=>inn x (S.to x hx),S.mono⟩
  .obtain⟨P,G,rfl,names,h⟩:=f2 k x y hx hy;exact kvq h x
 .rw[er,bj5,bg5,k0b,kwy,kr3];have:=w1.len;lia
 .rw[kvp S1 l1 S2 N2 l2 t];rfl
 .rw[er,List.getLast?_reverse];rfl
inductive Good(n:Nat)(T:Rl)(m:Nat)(U:Rl):Str->List bb0->List (List bb0)->Prop
 | al {f b:List Int} {rs ss:List (List Int)}:Alk n T m U->Shw n (kac n T) m (kac m U) f b rs->Shw m (kac m U) n (kac n T) b f ss->Good n T m U "alike" [ka9 f,ka9 b] [rs.map ka9,ss.map ka9]
 | un {row row':List Int} {a b:Nat} {V W:Rl}: ¬Alk n T m U->ToCo n T row a V->ToCo m U row' b W->Good n T m U "unlike" [] [row.map ba1,row'.map ba1]
abbrev k0r(ds:List bb0)(RS:Dt->Prop):Prop:=∃(n:Nat)(T:Rl)(m:Nat)(U:Rl),ds=[spD n (kac n T),spD m (kac m U)]/\1<=n/\n<=16/\1<=m/\m<=16/\OrT n T/\OrT m U/\∀(s:Str)(xs:List bb0)(xss:List (List bb0)),Good n T m U s xs xss->RS (.ot (.str s::xs) xss)
def kxc{α:Type}(g:List α)(F:α->Int)(z:α){i:Nat}(h:i<g.length):(g.map F).getD i 0=F (g.getD i z):=by
 rw[bb5,bb5,bc8,ba4 h];rfl
def jf1{fin c1 c2:List Int}{g:List Nat}(to: ∀x∈fin,x∈c1)(l:c1.length=g.length):jF fin c1 (g.map fun(x:Nat)=>c2.getD x 0)=fwd fin c1 c2 (fun p=>g.getD p 0):=
 bh9 fun x hx=>kxc g _ 0 (by rw[<- l];exact(khs (to x hx)).1)
def jf2{fin c1 c2:List Int}{a:Nat}{F:Int->Nat}(to: ∀x∈fin,x∈c2)(l:c2.length=a):jF fin c2 ((ka7 a).map fun x=>c1.getD (F x) 0)=fwd fin c2 c1 (fun j=>F (j:Int)):=
 bh9 fun x hx=>by
  have h:c2.idxOf x<a:=by rw[<- l];exact(khs (to x hx)).1
  have e:(ka7 a).getD (c2.idxOf x) 0=((c2.idxOf x:Nat):Int):=by
   have:=km1 (n:=a) (i:=((c2.idxOf x:Nat):Int)) (by lia) (by lia);unfold gt at this;rw[bc3]at this;exact this
  rw[kxc (ka7 a) _ 0 (by rw[kbt];exact h),e]
def kwh{a:Nat}{V W:Rl}{g:List Nat}(gl:g.length=a)(ig:Iso a V W (fun p=>g.getD p 0)):Twi a V W (fun p=>g.getD p 0) (fun j=>(g.map fun(y:Nat)=>(y:Int)).idxOf (j:Int)):=by
 have at1: ∀i,i<a->(g.map fun(y:Nat)=>(y:Int))[i]?=some ((g.getD i 0:Nat):Int):=fun i hi=>by
  rw[bc8,bb5,ba4 (by lia)];rfl
 have nd:(g.map fun(y:Nat)=>(y:Int)).Nodup:=by
  refine be0.mpr fun i j hi hj hij z=>?_;have z:(g.map fun(y:Nat)=>(y:Int))[i]?=(g.map fun(y:Nat)=>(y:Int))[j]?:=by rw[ba4 hi,ba4 hj,z]
  rw[ba3]at hi hj;rw[at1 i (by lia),at1 j (by lia)]at z;have:=ig.inj i j (by lia) (by lia) (bu4 (bf4 z));lia
 have kh: ∀i,i<a->(g.map fun(y:Nat)=>(y:Int)).idxOf ((g.getD i 0:Nat):Int)=i:=fun i hi=>krw nd (at1 i hi);have on: ∀j,j<a->∃i,i<a/\(g.map fun(y:Nat)=>(y:Int)).idxOf (j:Int)=i/\g.getD i 0=j:=fun j hj=>by
  obtain⟨i,hi,e⟩:=ig.onto hj;have e:g.getD i 0=j:=e;exact⟨i,hi,by rw[<- e];exact kh i hi,e⟩
 refine⟨ig.lt,fun j hj=>?_,kh,fun j hj=>?_,ig.eq⟩
 .obtain⟨i,hi,e,_⟩:=on j hj;show(g.map fun(y:Nat)=>(y:Int)).idxOf (j:Int)<a;rw[e];exact hi
 .obtain⟨i,hi,e,e2⟩:=on j hj;show g.getD ((g.map fun(y:Nat)=>(y:Int)).idxOf (j:Int)) 0=j;rw[e];exact e2
def Good.tag{n m:Nat}{T U:Rl}{s s':Str}{xs xs':List bb0}{xss xss':List (List bb0)}(h:Good n T m U s xs xss)(h':Good m U n T s' xs' xss'):s=s':=by
 cases h with
 | al a _ _=>cases h' with
   | al _ _ _=>rfl
   | un b _ _=>exact zA a.symm b
 | un a _ _=>cases h' with
   | al b _ _=>exact zA b.symm a
   | un _ _ _=>rfl
def Good.ok{K:ba2}{n m:Nat}{T U:Rl}{s:Str}{xs:List bb0}{xss:List (List bb0)}(h:Good n T m U s xs xss)(n16:n<=16)(m16:m<=16)(kt:bi1 K (.type "tuple") (.type "list")=some false):(∀ d∈xs,khg d=true/\bi1 K (tyD d) (.type "list")=some false)/\(∀ l∈xss,l.length<100000)/\xs.length+xss.length<100000:=by
 cases h with
 | al _ s1 s2=>
   refine⟨fun d hd=>?_,fun l hl=>?_,by show 2+2<100000;decide⟩
   .rcases bc6.mp hd with rfl|hd
    .exact⟨rfl,kt⟩
    .rw[bc4.mp hd];exact⟨rfl,kt⟩
   .have:=s1.ln;have:=s2.ln;rcases bc6.mp hl with rfl|hl
    .rw[ba3];lia
    .rw[bc4.mp hl,ba3];lia
 | un _ w1 w2=>
   refine⟨fun d hd=>(by cases hd),fun l hl=>?_,by show 0+2<100000;decide⟩;have:=w1.1.len;have:=w2.1.len;rcases bc6.mp hl with rfl|hl
   .rw[ba3];lia
   .rw[bc4.mp hl,ba3];lia
abbrev ksx(ds:List bb0)(RS:Dt->Prop):Prop:=∃(n m:Nat)(ps qs:List (Int×Int))(f b:List Int)(rs:List (List Int)),ds=[spD n ps,spD m qs,ka9 f,ka9 b,.list (rs.map ka9)]/\kfg n ps/\kfg m qs/\n<=16/\Shw n ps m qs f b rs/\RS (.d (.bool true))
abbrev ksy(ds:List bb0)(RS:Dt->Prop):Prop:=∃(n:Nat)(T:Rl)(m:Nat)(U:Rl)(s:Str)(xs:List bb0)(xss:List (List bb0)),ds=[spD n (kac n T),spD m (kac m U),.tuple ((.str s::xs)++xss.map bv8)]/\1<=n/\n<=16/\1<=m/\m<=16/\OrT n T/\OrT m U/\Good n T m U s xs xss/\RS (.d (.bool true))
abbrev wkD(n:Int)(ps:List (Int×Int))(xs:List Int)(rs:List (List Int)):bb0:= .tuple [spD n ps,.list (xs.map ba1),.list (rs.map ka9)]
def k4e(n:Int)(ps:List (Int×Int))(xs:List Int)(rs:List (List Int)):bl2 (wkD n ps xs rs)=true:=by
 show(bl2 (spD n ps)&&(bd7 (xs.map ba1)&&(bl2 (.list (rs.map ka9))&&true)))=true;rw[show bl2 (spD n ps)=true from ok_sp n ps,kbb,show bl2 (.list (rs.map ka9))=true from krt rs];rfl
def ToCo.ord{n:Nat}{T:Rl}{row:List Int}{a:Nat}{V:Rl}(h:ToCo n T row a V)(n16:n<=16)(n1:1<=n)(o:OrT n T):1<=a/\a<=n/\∀x,x<a->V x x=false:=by
 obtain⟨X,i,r,e,R,a1⟩:=kfw h.1 n16 rfl o n1;have:=h.1.len;exact⟨a1,by lia,fun x hx=>by rw[ksu e hx hx];exact(R.ord o).irr x hx⟩
section
variable{P:bb9}{w:be5}{K:ba2}{mg:Str->Option ba6}{base:Heap}
def ks8:FnScope ["one","other","row","other_row","names","fence","other_fence","core","other_core","forth","back"] ["one","other"] (kaj kio):=by ac_rfl
def ok_Jd{f:Addr}{fd:be7}(F:Fun K "judged" "judged" kio f fd)(T:Txt K mg)(GCo:Fn P w K mg base "row_to_core" 5 ["space"] (spG K k0a))(GAl:Fn P w K mg base "along" 5 ["space","row"] (spG K krx))(GRn:Fn P w K mg base "renaming" 22 ["one","other"] (spG K Pren))(GTh:Fn P w K mg base "to_themselves" 7 ["space","row"] (spG K k0p))(GLe:Fn P w K mg base "left" 6 ["space","row"] (spG K k0c))(GSo:Fn P w K mg base "sent_on" 1 ["row","core","goals"] (spG K k0q)):
 FnOk P w K mg base CX0 23 f fd ["one","other"] (spG K k0r):=by
 refine F.okG ks8 (fun ds RS h=>?_) (fun a A o s H E hr=>(kab (kbh 2 (fun O=>ks8.nd) (ka5 GCo ⋯ (kaa (kad 0) kah)))
  (kab (kbh 3 (fun O=>ks8.nd) (ka5 GCo ⋯ (kaa (kad 1) kah)))
  (kab (kap 4 (fun O=>ks8.nd) (kal GRn ⋯ (kaa (kd0 GAl ⋯ (kbz (kaf 0) (kbz (kaf 2) kfj))) (kaa (kd0 GAl ⋯ (kbz (kaf 1) (kbz (kaf 3) kfj))) kah))))
  (kab (kba (kaw kno (kaf 4) (kb6).bw) (kag (kra (kik (klv) (kwp 2 3)))) kav)
  (DSs.frz 3 (DSs.frz 2 (kab (kbh 5 (fun O=>ks8.nd) (ka5 GTh ⋯ (kaa (kad 0) (kaa (kad 2) kah))))
  (kab (kbh 6 (fun O=>ks8.nd) (ka5 GTh ⋯ (kaa (kad 1) (kaa (kad 3) kah))))
  (kab (kap 7 (fun O=>ks8.nd) ((ka5 GLe ⋯ (kaa (kad 0) (kaa (kad 2) kah))).ew))
  (kab (kap 8 (fun O=>ks8.nd) ((ka5 GLe ⋯ (kaa (kad 1) (kaa (kad 3) kah))).ew))
  (kab (kap 9 (fun O=>ks8.nd) (kal GSo ⋯ (kaa (kam (kai 5) (kae).bw) (kaa (kad 7) (kaa ((kcv (N':=["name","other_core"]) (fun O=>(.own (.cap 8 rfl rfl rfl .nil))) (ka8 (kad 4)) (kaz 0 (fun O=>(by decide +kernel:(["name","other_core"]:List Str).Nodup))) kbe (kam (kai 1) (kaf 0))).ew) kah)))))
  (kab (kap 10 (fun O=>ks8.nd) (kal GSo ⋯ (kaa (kam (kai 6) (kae).bw) (kaa (kad 8) (kaa ((kcv (N':=["name","core","names"]) (fun O=>(.own (.cap 7 rfl rfl rfl (.cap 4 rfl rfl rfl .nil)))) (ka6 (kbv (kai 4) (fun O=>T.b)).bw (fun O=>T.a)) (kaz 0 (fun O=>(by decide +kernel:(["name","core","names"]:List Str).Nodup))) kbe (kam (kai 1) (kq5 (kad 2) (kaf 0)).bw)).ew) kah)))))
  (kag (kra (kik (klv) (kik (kad 9) (kik (kad 10) (kwp 5 6))))))))))))))))))) (fun ds RS h=>?_)
 .obtain⟨n,T,m,U,rfl,_⟩:=h;rfl
 .obtain⟨n,T',m,U,rfl,n1,n16,m1,m16,oT,oU,hJ⟩:=h;have hin:kfg n (kac n T'):=kbm;have hin2:kfg m (kac m U):=kbm;exists fun env=>∃(row:List Int)(a:Nat)(V:Rl),env=[.d (spD n (kac n T')),.d (spD m (kac m U)),iO row,.un,.un,.un,.un,.un,.un,.un,.un]/\Walk n (kac n T') row a (kac a V)/\kbr a (kac a V)=[]/\1<=a/\a<=n/\OrT a V
  .simp only[rD];refine⟨n,_,rfl,by lia,fun row a qs w hf=>⟨_,rfl,hN _ ?_⟩⟩;obtain⟨V,i,r,rfl,R,a1⟩:=kfw w n16 rfl oT n1;have:=w.len;exact⟨row,a,V,rfl,w,hf,a1,by lia,R.ord oT⟩
  rintro env⟨row,a,V,rfl,w1,f1,a1,an,oV⟩;exists fun env=>∃(row':List Int)(b:Nat)(W:Rl),env=[.d (spD n (kac n T')),.d (spD m (kac m U)),iO row,.o (row'.map ba1),.un,.un,.un,.un,.un,.un,.un]/\Walk m (kac m U) row' b (kac b W)/\kbr b (kac b W)=[]/\1<=b/\b<=m/\OrT b W
  .simp only[rD];refine⟨m,_,rfl,by lia,fun row a qs w hf=>⟨_,rfl,hN _ ?_⟩⟩;obtain⟨V,i,r,rfl,R,a1⟩:=kfw w m16 rfl oU m1;have:=w.len;exact⟨row,a,V,rfl,w,hf,a1,by lia,R.ord oU⟩
  rintro env⟨row',b,W,rfl,w2,f2,b1,bm,oW⟩;by_cases ex:a=b/\∃f,Iso a V W f
  case neg=>
   have no:a=b->∀f,¬Iso a V W f:=fun e f iso=>ex ⟨e,f,iso⟩;exists fun env=>env=[.d (spD n (kac n T')),.d (spD m (kac m U)),iO row,.o (row'.map ba1),.d .none,.un,.un,.un,.un,.un,.un]
   .simp only[rD];exact⟨n,_,row,a,_,rfl,w1,_,rfl,km4 _ _,m,_,row',b,_,rfl,w2,_,rfl,km4 _ _,a,b,V,W,rfl,a1,by lia,b1,by lia,oW.irr,fun O=>⟨_,rfl,hN _ rfl⟩,fun e=>⟨fun O=>⟨_,rfl,hN _ rfl⟩,fun g gl ig=>zA ig (no e _)⟩⟩
   rintro env rfl;simp only[rD];rw[zP (show isNone .none=true from rfl)];exact⟨by decide,hJ "unlike" [] _ (.un (fun al=>by obtain⟨e,f,iso⟩:=al.at n16 n1 m16 m1 oT oU ⟨w1,f1⟩ ⟨w2,f2⟩;exact no e f iso) ⟨w1,f1⟩ ⟨w2,f2⟩)⟩
  obtain⟨rfl,f,iso⟩:=ex;exists fun env=>∃g:List Nat,env=[.d (spD n (kac n T')),.d (spD m (kac m U)),iO row,.o (row'.map ba1),.d (.tuple (g.map fun(x:Nat)=>ba1 (x:Int))),.un,.un,.un,.un,.un,.un]/\g.length=a/\Iso a V W (fun p=>g.getD p 0)
  .simp only[rD];exact⟨n,_,row,a,_,rfl,w1,_,rfl,km4 _ _,m,_,row',a,_,rfl,w2,_,rfl,km4 _ _,a,a,V,W,rfl,a1,by lia,b1,by lia,oW.irr,fun z=>zA rfl z,fun O=>⟨fun z=>zA iso (z f),fun g gl ig=>⟨_,rfl,hN _ ⟨g,rfl,gl,ig⟩⟩⟩⟩
  rintro env⟨g,rfl,gl,ig⟩;obtain⟨ini1,fin1,e1,to1,l1⟩:=kfl (kfe oT) hin w1;obtain⟨ini2,fin2,e2,to2,l2⟩:=kfl (kfe oU) hin2 w2;exists fun env=>env=[.d (spD n (kac n T')),.d (spD m (kac m U)),iO row,.o (row'.map ba1),.d (.tuple (g.map fun(x:Nat)=>ba1 (x:Int))),.un,.un,.un,.un,.un,.un]
  .simp only[rD];exact kff rfl (hN _ rfl)
  rintro env rfl;refine⟨_,rfl,_,rfl,?_⟩;exists fun env=>env=[.d (spD n (kac n T')),.d (spD m (kac m U)),.d (.list (row.map ba1)),.d (.list (row'.map ba1)),.d (.tuple (g.map fun(x:Nat)=>ba1 (x:Int))),.o ((fin1::ini1.reverse).map ka9),.un,.un,.un,.un,.un]
  .simp only[rD];exact⟨n,_,row,a,_,rfl,by lia,hin,w1,_,rfl,hN _ (by rw[e1,b42];rfl)⟩
  rintro env rfl;exists fun env=>env=[.d (spD n (kac n T')),.d (spD m (kac m U)),.d (.list (row.map ba1)),.d (.list (row'.map ba1)),.d (.tuple (g.map fun(x:Nat)=>ba1 (x:Int))),.o ((fin1::ini1.reverse).map ka9),.o ((fin2::ini2.reverse).map ka9),.un,.un,.un,.un]
  .simp only[rD];exact⟨m,_,row',a,_,rfl,by lia,hin2,w2,_,rfl,hN _ (by rw[e2,b42];rfl)⟩
  rintro env rfl;generalize hc1:wkN (kac n T') (ka7 n) row=c1 at to1 l1;generalize hc2:wkN (kac m U) (ka7 m) row'=c2 at to2 l2;exists fun env=>env=[.d (spD n (kac n T')),.d (spD m (kac m U)),.d (.list (row.map ba1)),.d (.list (row'.map ba1)),.d (.tuple (g.map fun(x:Nat)=>ba1 (x:Int))),.o ((fin1::ini1.reverse).map ka9),.o ((fin2::ini2.reverse).map ka9),.d (.list (c1.map ba1)),.un,.un,.un]
  .simp only[rD];exact⟨n,_,row,a,_,rfl,by lia,hin,w1,_,rfl,hN _ (by rw[hc1];rfl)⟩
  rintro env rfl;exists fun env=>env=[.d (spD n (kac n T')),.d (spD m (kac m U)),.d (.list (row.map ba1)),.d (.list (row'.map ba1)),.d (.tuple (g.map fun(x:Nat)=>ba1 (x:Int))),.o ((fin1::ini1.reverse).map ka9),.o ((fin2::ini2.reverse).map ka9),.d (.list (c1.map ba1)),.d (.list (c2.map ba1)),.un,.un]
  .simp only[rD];exact⟨m,_,row',a,_,rfl,by lia,hin2,w2,_,rfl,hN _ (by rw[hc2];rfl)⟩
  rintro env rfl;exists fun env=>env=[.d (spD n (kac n T')),.d (spD m (kac m U)),.d (.list (row.map ba1)),.d (.list (row'.map ba1)),.d (.tuple (g.map fun(x:Nat)=>ba1 (x:Int))),.o ((fin1::ini1.reverse).map ka9),.o ((fin2::ini2.reverse).map ka9),.d (.list (c1.map ba1)),.d (.list (c2.map ba1)),.d (ka9 (jF fin1 c1 (g.map fun(x:Nat)=>c2.getD x 0))),.un]
  .simp only[rD,xLC];refine⟨_,at0 _ _,Gf g (fun(x:Nat)=>ba1 (x:Int)) (fun O=>true) (fun(x:Nat)=> .int (c2.getD x 0)),fun y hy=>?_,fun o ho=>?_⟩
   .obtain⟨x,hx,rfl⟩:=bb1.mp hy;have hx':x<a:=by
     obtain⟨j,hj,e⟩:=bf3 hx;have:g.getD j 0<a:=ig.lt j (by lia)
     rwa [bb5,ba4 hj,e]at this
    exact⟨_,rfl,_,kc1 (by lia) (by lia),Gf.keep hx rfl rfl⟩
   .rw[Gf.all kgo ho];exact⟨fin1,c1,g.map fun(x:Nat)=>c2.getD x 0,by rw[bc1];rfl,to1,by rw[ba3,gl,l1];exact bb7 _,_,rfl,hN _ rfl⟩
  rintro env rfl;exists fun env=>env=[.d (spD n (kac n T')),.d (spD m (kac m U)),.d (.list (row.map ba1)),.d (.list (row'.map ba1)),.d (.tuple (g.map fun(x:Nat)=>ba1 (x:Int))),.o ((fin1::ini1.reverse).map ka9),.o ((fin2::ini2.reverse).map ka9),.d (.list (c1.map ba1)),.d (.list (c2.map ba1)),.d (ka9 (jF fin1 c1 (g.map fun(x:Nat)=>c2.getD x 0))),.d (ka9 (jF fin2 c2 ((ka7 a).map fun x=>c1.getD ((g.map fun(y:Nat)=>(y:Int)).idxOf x) 0)))]
  .simp only[rD,xLC];refine⟨_,at0 _ _,by lia,by rw[ba3];lia,?_⟩;rw[ba3,gl,bc3,kcm];have eg:(g.map fun(x:Nat)=>ba1 (x:Int))=(g.map fun(x:Nat)=>(x:Int)).map ba1:=(by rw[bc1];rfl)
   refine⟨Gf (ka7 a) ba1 (fun O=>true) (fun x=> .int (c1.getD ((g.map fun(y:Nat)=>(y:Int)).idxOf x) 0)),fun y hy=>?_,fun o ho=>?_⟩
   .obtain⟨x,hx,rfl⟩:=bb1.mp hy;obtain⟨x0,x1⟩:=kfb.mp hx;have mx:x∈g.map fun(y:Nat)=>(y:Int):=by
     obtain⟨p,hp,e⟩:=ig.onto (b:=x.toNat) (by lia);have e:g.getD p 0=x.toNat:=e;rw[bb5,ba4 (by lia:p<g.length)]at e;have e:g[p]=x.toNat:=e;exact bb1.mpr ⟨g[p],bf1 _,by lia⟩
    have il:=bg7.mpr mx;rw[ba3]at il;exact⟨_,eg,x,rfl,mx,_,kc1 (by lia) (by lia),Gf.keep hx rfl rfl⟩
   .rw[Gf.all kbp ho];exact⟨fin2,c2,(ka7 a).map fun x=>c1.getD ((g.map fun(y:Nat)=>(y:Int)).idxOf x) 0,by rw[bc1];rfl,to2,by rw[ba3,kbt,l2];exact bb7 _,_,rfl,hN _ rfl⟩
  rintro env rfl;simp only[rD];rw[jf1 to1 (by lia),jf2 to2 l2];have t:=kwh gl ig;exact⟨by decide,hJ "alike" _ _ (.al ⟨row,row',a,V,W,_,_,⟨w1,f1⟩,⟨w2,f2⟩,t⟩ (kxb n16 oT oU w1 w2 t e1 e2 hc1 hc2) (kxb m16 oU oT w2 w1 t.symm e2 e1 hc2 hc1))⟩
end
abbrev gR(row:List Nat)(k:Nat):Nat:=row.getD k 0
abbrev kld(T U:Rl)(row:List Nat)(pt:Nat):Bool:=(ba8 row.length).all fun k=>(T k row.length==U (gR row k) pt)&&(T row.length k==U pt (gR row k))
abbrev rwD(row:List Nat):bb0:= .list (row.map fun(x:Nat)=>ba1 (x:Int))
abbrev k0s(ds:List bb0)(RS:Dt->Prop):Prop:=∃(n m:Nat)(T U:Rl)(row:List Nat)(pt:Nat),ds=[spD n (kac n T),spD m (kac m U),rwD row,.int (pt:Nat)]/\n<=16/\row.length<n/\(∀ x∈row,x<m)/\pt<m/\RS (.d (.bool (kld T U row pt)))
def kle{T U:Rl}{row:List Nat}{pt k:Nat}(hk:k<row.length)(h: ¬(T k row.length=U (gR row k) pt/\T row.length k=U pt (gR row k))):kld T U row pt=false:=by
 refine bz6.mpr fun z=>h ?_;have:=bi0.mp z k (bb2.mpr hk);simpa using this
def ki5{T U:Rl}{row:List Nat}{pt:Nat}(h: ∀k,k<row.length->T k row.length=U (gR row k) pt/\T row.length k=U pt (gR row k)):kld T U row pt=true:=by
 refine bi0.mpr fun k hk=>?_;obtain⟨h1,h2⟩:=h k (bb2.mp hk);rw[h1,h2];simp
def knc{n:Nat}{T:Rl}{a b:Nat}(ha:a<n)(hb:b<n):decide (((a:Int),(b:Int))∈kac n T)=T a b:=by
 rw[bh5,decide_eq_true_iff,kay];exact⟨fun h=>h.2.2,fun h=>⟨ha,hb,h⟩⟩
def kne(a b:Bool):bg3 (.bool a) (.bool b)=(a==b):=by cases a <;> cases b <;> rfl
def k4f{row:List Nat}{k:Nat}(h:k<row.length):atI (row.map fun(x:Nat)=>ba1 (x:Int)) (k:Nat)=some (.int (gR row k:Nat)):=kg4 (f:=fun(x:Nat)=>ba1 (x:Int)) 0 (by lia) (by lia)
def kxd{row:List Nat}{k:Nat}(h:k<row.length):gR row k∈row:=by
 unfold gR;rw[bb5,ba4 h];exact bf1 h
abbrev kdT(T:Rl)(n p:Nat):Nat×Nat:=((ovr T n p).length,(undr T n p).length)
abbrev kdL(T:Rl)(n:Nat):List (Int×Int):=(ba8 n).map fun p=>(((kdT T n p).1:Int),((kdT T n p).2:Int))
def Iso.kd{n:Nat}{T U:Rl}{f:Nat->Nat}(h:Iso n T U f){p:Nat}(hp:p<n):kdT T n p=kdT U n (f p):=by
 have e1:=(h.ovr hp).length_eq;have e2:=(h.undr hp).length_eq;rw[ba3]at e1 e2;unfold kdT;rw[e1,e2]
def Iso.perm{n:Nat}{T U:Rl}{f:Nat->Nat}(h:Iso n T U f):((ba8 n).map f).Perm (ba8 n):=by
 refine(bm9 (kcu bj2 fun a b ha hb=>h.inj a b (bb2.mp ha) (bb2.mp hb)) bj2).mpr fun x=>?_;rw[bb1,bb2];constructor
 .rintro⟨a,ha,rfl⟩;exact h.lt a (bb2.mp ha)
 .intro hx;obtain⟨a,ha,e⟩:=h.onto hx;exact⟨a,bb2.mpr ha,e⟩
def Iso.kdL{n:Nat}{T U:Rl}{f:Nat->Nat}(h:Iso n T U f):(Me.kdL T n).Perm (Me.kdL U n):=by
 have:=h.perm.map (fun p=>(((kdT U n p).1:Int),((kdT U n p).2:Int)));rw[bc1]at this;unfold Me.kdL;rw[show(ba8 n).map (fun p=>(((kdT T n p).1:Int),((kdT T n p).2:Int)))=(ba8 n).map ((fun p=>(((kdT U n p).1:Int),((kdT U n p).2:Int))) ∘ f)from bh9 fun p hp=>by
  show _=(((kdT U n (f p)).1:Int),((kdT U n (f p)).2:Int))
  rw[h.kd (bb2.mp hp)]]
 exact this
structure Stt(n:Nat)(T U:Rl)(row:List Nat):Prop where
 le:row.length<=n
 nd:row.Nodup
 lt: ∀x∈row,x<n
 eq: ∀i j,i<j->j<row.length->T i j=U (gR row i) (gR row j)/\T j i=U (gR row j) (gR row i)
def ksz{row:List Nat}{p k:Nat}(h:k<row.length):gR (row++[p]) k=gR row k:=by
 unfold gR;rw[bb5,bb5,bc9 h]
def k4g{row:List Nat}{p:Nat}:gR (row++[p]) row.length=p:=by
 unfold gR;rw[bb5,bc2 (bb7 _)];simp
def kvr{T U:Rl}{row:List Nat}{pt:Nat}:kld T U row pt=true↔∀k,k<row.length->T k row.length=U (gR row k) pt/\T row.length k=U pt (gR row k):=by
 constructor
 .intro h k hk;refine bp7 fun z=>?_;rw[kle hk z]at h;cases h
 .exact ki5
def Stt.next{n:Nat}{T U:Rl}{row:List Nat}{p:Nat}(S:Stt n T U row)(hl:row.length<n)(hp:p<n)(nm:p ∉ row)(g:kld T U row p=true):Stt n T U (row++[p]):=by
 have g:=kvr.mp g;refine⟨by rw[bb4];exact hl,?_,fun x hx=>?_,fun i j hij hj=>?_⟩
 .exact bw4.mpr ⟨S.nd,bj4.mpr ⟨(fun z=>nomatch z),bt0⟩,fun a ha b hb=>by rw[bc4.mp hb];exact fun z=>nm (z▸ha)⟩
 .rcases bh3.mp hx with h|h
  .exact S.lt x h
  .rw[bc4.mp h];exact hp
 .rw[bb4]at hj;have hj:j<row.length+1:=hj;by_cases c:j=row.length
  .subst c;rw[k4g,ksz hij];exact g i hij
  .rw[ksz (by lia),ksz (by lia)];exact S.eq i j hij (by lia)
def Stt.iso{n:Nat}{T U:Rl}{row:List Nat}(S:Stt n T U row)(hl:row.length=n)(i1: ∀a,a<n->T a a=false)(i2: ∀a,a<n->U a a=false):Iso n T U (gR row):=by
 have lt: ∀a,a<n->gR row a<n:=fun a ha=>S.lt _ (kxd (by lia));refine⟨lt,fun a b ha hb e=>?_,fun a b ha hb=>?_⟩
 .have e:row[a]'(by lia)=row[b]'(by lia):=by
   unfold gR at e;rw[bb5,bb5,ba4 (by lia:a<row.length),ba4 (by lia:b<row.length)]at e;exact e
  have pw:=be0.mp S.nd;rcases bl1 a b with z|z|z
  .exact zA e (pw a b (by lia) (by lia) z)
  .exact z
  .exact zA e.symm (pw b a (by lia) (by lia) z)
 .rcases bl1 a b with z|z|z
  .exact(S.eq a b z (by lia)).1
  .subst z;rw[i1 a ha,i2 _ (lt a ha)]
  .exact(S.eq b a z (by lia)).2
abbrev cnd(T U:Rl)(n:Nat)(row:List Nat)(p:Nat):Bool:= !decide (p∈row)&&(decide (kdT T n row.length=kdT U n p)&&kld T U row p)
abbrev ki6(T U:Rl)(n:Nat)(row:List Nat)(k:Nat):List (List Nat):=(((ba8 k).map fun j=>(row.length+j) % n).filter (cnd T U n row)).map fun p=>row++[p]
def k0t{T U:Rl}{n k:Nat}{row:List Nat}(h:cnd T U n row ((row.length+k) % n)=false):ki6 T U n row (k+1)=ki6 T U n row k:=by
 unfold ki6;rw[bn8,be3,bn2];simp[h]
def kvt{T U:Rl}{n k:Nat}{row:List Nat}(h:cnd T U n row ((row.length+k) % n)=true):ki6 T U n row (k+1)=ki6 T U n row k++[row++[(row.length+k) % n]]:=by
 unfold ki6;rw[bn8,be3,bn2];simp[h]
def ki7{T U:Rl}{n k:Nat}{row:List Nat}:(ki6 T U n row k).length<=k:=by
 unfold ki6;rw[ba3];refine bi9 (bo5 _ _) ?_;simp
def ki8{T U:Rl}{n k:Nat}{row r:List Nat}(h:r∈ki6 T U n row k): ∃p,r=row++[p]/\cnd T U n row p=true/\(0<n->p<n):=by
 unfold ki6 at h;obtain⟨p,hp,rfl⟩:=bb1.mp h;obtain⟨h1,h2⟩:=be6.mp hp;obtain⟨j,_,rfl⟩:=bb1.mp h1;exact⟨_,rfl,h2,fun hn=>b29 _ hn⟩
abbrev msr(n:Nat)(ws:List (List Nat)):Nat:=(ws.map fun r=>(n+1) ^ (n-r.length)).sum
structure WI(n:Nat)(T U:Rl)(ws:List (List Nat)):Prop where
 st: ∀r∈ws,Stt n T U r
 ix: ∀(i:Nat)(r:List Nat),ws[i]?=some r->i<=n*r.length
 cp: ∀f,Iso n T U f->∃r∈ws,∃g,Iso n T U g/\r=(ba8 r.length).map g
def WI.start{n:Nat}{T U:Rl}:WI n T U [[]]:=by
 refine⟨fun r hr=>?_,fun i r h=>?_,fun f iso=>⟨[],bc4.mpr rfl,f,iso,rfl⟩⟩
 .rw[bc4.mp hr];exact⟨bf7 _,bt0,(fun x hx=>nomatch hx),fun i j O hj=>zA hj (bj6 _)⟩
 .have:=(bb3.mp h).1;simp at this;lia
def WI.len{n:Nat}{T U:Rl}{ws:List (List Nat)}{r:List Nat}(W:WI n T U (ws++[r])):ws.length<=n*r.length:=W.ix ws.length r (by simp)
def WI.next{n:Nat}{T U:Rl}{ws:List (List Nat)}{row:List Nat}(W:WI n T U (ws++[row]))(hl:row.length<n):WI n T U (ws++ki6 T U n row n)/\msr n (ws++ki6 T U n row n)<msr n (ws++[row]):=by
 have S:=W.st row (by simp);have wl:=W.len;refine⟨⟨fun r hr=>?_,fun i r h=>?_,fun f iso=>?_⟩,?_⟩
 .rcases bh3.mp hr with h|h
  .exact W.st r (bp3 _ h)
  .obtain⟨p,rfl,c,hp⟩:=ki8 h;unfold cnd at c;simp only[bm4,cg3,decide_eq_false_iff_not]at c;exact S.next hl (hp (by lia)) c.1 c.2.2
 .by_cases c:i<ws.length
  .rw[bc9 c]at h;exact W.ix i r (by rw[bc9 c];exact h)
  .rw[bc2 (by lia)]at h;obtain⟨p,rfl,_,_⟩:=ki8 (bd9 h);have:=(bb3.mp h).1;have l2:=ki7 (T:=T) (U:=U) (n:=n) (k:=n) (row:=row);rw[bb4,bf8,co8];lia
 .obtain⟨r,hr,g,ig,e⟩:=W.cp f iso;rcases bh3.mp hr with h|h
  .exact⟨r,bp3 _ h,g,ig,e⟩
  .rw[bc4.mp h]at e;have gl:=ig.lt row.length hl;have er:row++[g row.length]=(ba8 (row++[g row.length]).length).map g:=by
    rw[bb4,bf8,bn8,be3,<- e];rfl
   have ge: ∀k,k<row.length->gR row k=g k:=fun k hk=>by
    rw[e];unfold gR;simp[hk]
   refine⟨row++[g row.length],bh7 _ ?_,g,ig,er⟩;unfold ki6;refine bb1.mpr ⟨_,be6.mpr ⟨bb1.mpr ⟨(g row.length+n-row.length) % n,bb2.mpr (b29 _ (by lia)),?_⟩,?_⟩,rfl⟩
   .rw[Nat.add_mod_mod,show row.length+(g row.length+n-row.length)=g row.length+n by lia,Nat.add_mod_right,Nat.mod_eq_of_lt gl]
   .unfold cnd;simp only[bm4,cg3,decide_eq_false_iff_not,decide_eq_true_eq];refine⟨fun z=>?_,ig.kd hl,ki5 fun k hk=>?_⟩
    .rw[e]at z;obtain⟨a,ha,ea⟩:=bb1.mp z;have ha:=bb2.mp ha;rw[ba3,be8]at ea;have:=ig.inj a row.length (by lia) hl ea;lia
    .rw[ge k hk];exact⟨ig.eq k row.length (by lia) hl,ig.eq row.length k hl (by lia)⟩
 .unfold msr;rw[be3,ck6,be3,ck6];have e:((ki6 T U n row n).map fun r=>(n+1) ^ (n-r.length)).sum=(ki6 T U n row n).length*(n+1) ^ (n-(row.length+1)):=by
   have:(ki6 T U n row n).map (fun r=>(n+1) ^ (n-r.length))=bf6 (ki6 T U n row n).length ((n+1) ^ (n-(row.length+1))):=by
    rw[List.eq_replicate_iff];refine⟨ba3 _,fun b hb=>?_⟩;obtain⟨r,hr,rfl⟩:=bb1.mp hb;obtain⟨p,rfl,_,_⟩:=ki8 hr;rw[bb4,bf8]
   rw[this];have sr: ∀(k a:Nat),(bf6 k a).sum=k*a:=fun k a=>by
    induction k with
    | zero=>simp
    | succ k ih=>rw[bk3,List.sum_cons,ih,cg5];lia
   exact sr _ _
  rw[e];have l2:=ki7 (T:=T) (U:=U) (n:=n) (k:=n) (row:=row);have e2:(n+1) ^ (n-row.length)=(n+1) ^ (n-(row.length+1))*(n+1):=by
   rw[<- co2];congr 1;lia
  have e3:([row].map fun r=>(n+1) ^ (n-r.length)).sum=(n+1) ^ (n-(row.length+1))*(n+1):=by simp[e2]
  rw[e3];have pos:0<(n+1) ^ (n-(row.length+1)):=Nat.pow_pos (ca6 _);have:=Nat.mul_le_mul_right ((n+1) ^ (n-(row.length+1))) l2;rw[co8,cn7 _ n];lia
abbrev ks0(ds:List bb0)(RS:Dt->Prop):Prop:=∃(n:Nat)(T:Rl),ds=[spD n (kac n T)]/\n<=16/\RS (.o ((kdL T n).map pD))
abbrev Pany(ds:List bb0)(RS:Dt->Prop):Prop:=∃(n m:Nat)(T U:Rl),ds=[spD n (kac n T),spD m (kac m U)]/\1<=n/\n<=16/\1<=m/\m<=16/\(∀ a,a<n->T a a=false)/\(∀ a,a<m->U a a=false)/\(n=m->∀f,Iso n T U f->RS (.d (.bool true)))/\((n=m->∀f,¬Iso n T U f)->RS (.d (.bool false)))
def ks1(T:Rl)(n:Nat):(kdL T n).length=n:=by unfold kdL;simp
def k4h{T:Rl}{n k:Nat}(h:k<n):atI ((kdL T n).map pD) (k:Int)=some (pD (((kdT T n k).1:Int),((kdT T n k).2:Int))):=by
 refine kb9 ?_;unfold kdL;simp[h]
def k4i{n p:Nat}{T:Rl}(hp:p<n):((kac n T).filter fun q=>decide (q.1=(p:Int))).length=(kdT T n p).1:=by
 have:=zC bu1 ((k0n (n:=n) (p:=p) (T:=T) n).trans (zP hp));rw[ba3,ba3]at this;exact this
def k4j{n p:Nat}{T:Rl}(hp:p<n):((kac n T).filter fun q=>decide (q.2=(p:Int))).length=(kdT T n p).2:=by
 have:=zC bu1 (k0m (T:=T) hp n);rw[ba3,ba3]at this;exact this
def k4k(T:Rl)(n:Nat):kns ((ba8 n).map fun p=>ba1 ((kdT T n p).1:Int)) ((ba8 n).map fun p=>ba1 ((kdT T n p).2:Int))=(kdL T n).map pD:=by
 unfold kns kdL;rw[List.zip_map',bc1,bc1];rfl
def kvu{qs rs:List (Int×Int)}(h:InB qs)(p:qs.Perm rs)(h2:Srt qs)(h4:Srt rs):qs=rs:=by
 refine b79 (le:=fun(x y:Int×Int)=>x.1*100+x.2<=y.1*100+y.2) (fun a b ha hb l1 l2=>?_) h2 h4 p;have ia:=h a ha;have ib:=h b (p.mem_iff.mpr hb);have e1:a.1=b.1:=by lia
 have e2:a.2=b.2:=by lia
 exact by4 e1 e2
def ks2{T:Rl}{n:Nat}(hn:n<=16):InB (kdL T n):=fun q hq=>by
 unfold kdL at hq;obtain⟨p,hp,rfl⟩:=bb1.mp hq;have h1:(kdT T n p).1<=n:=by
  show(ovr T n p).length<=n;unfold ovr;exact bi9 (bo5 _ _) (by rw[be8];exact bb7 _)
 have h2:(kdT T n p).2<=n:=by
  show(undr T n p).length<=n;unfold undr;exact bi9 (bo5 _ _) (by rw[be8];exact bb7 _)
 refine⟨⟨?_,?_⟩,?_,?_⟩ <;> (dsimp only;lia)
def k0u(ps qs:List (Int×Int)):bg3 (.list (ps.map pD)) (.list (qs.map pD))=decide (ps=qs):=kkd ps qs
def kxe(ps:List (Int×Int)):okD (.list (ps.map pD)):=kbk ps
def k4l(ps:List (Int×Int)):khx (.list (ps.map pD)):=by
 show bg8 (ps.map pD)+1<=9;have:=kg2 ps;lia
def kxf(row:List Nat):bd7 (row.map fun(x:Nat)=>ba1 (x:Int))=true:=by
 have:=kbb (row.map fun(x:Nat)=>(x:Int));rw[bc1]at this;exact this
def ks3: ∀ws:List (List Nat),bd7 (ws.map rwD)=true
 | []=>rfl
 | r::ws=>by
   show(bd7 (r.map fun(x:Nat)=>ba1 (x:Int))&&bd7 (ws.map rwD))=true;rw[kxf,ks3 ws];rfl
def k0v(ws:List (List Nat)):bg3 (.list (ws.map rwD)) (.list [])=decide (ws=[]):=by
 cases ws with
 | nil=>rfl
 | cons r ws=>rfl
def k4m(row:List Nat)(p:Nat):((row.map fun(x:Nat)=>ba1 (x:Int)).any fun d=>d.eqv (ba1 (p:Int)))=decide (p∈row):=by
 rw[co7,bh5,b97,decide_eq_true_iff];constructor
 .rintro⟨y,hy,e⟩;have e:bg3 (.int (y:Int)) (.int (p:Int))=true:=e;rw[ka1]at e;have:=zO e;rw[show p=y by lia];exact hy
 .intro h;exact⟨p,h,by show bg3 (.int (p:Int)) (.int (p:Int))=true;rw[ka1];simp⟩
section
variable{P:bb9}{w:be5}{K:ba2}{mg:Str->Option ba6}{base:Heap}
def scGs:FnScope ["one","other","row","point","at","k"] ["one","other","row","point"] (kaj kes):=by ac_rfl
def ok_Gs{f:Addr}{fd:be7}(F:Fun K "_law_goes" "_law_goes" kes f fd)(T:Txt K mg):
 FnOk P w K mg base CX0 1 f fd ["one","other","row","point"] (spG K k0s):=by
 refine F.okG scGs (fun ds RS h=>?_) (fun a A o s H E hr=>(kab (kap 4 (fun O=>scGs.nd) (kbv (kai 2) (fun O=>T.b)))
  (kab (kbn nofun (ka6 (kaf 4) (fun O=>T.a)) (kaz 5 (fun O=>scGs.nd)) (kab (kba (kaw (kdm ∅) (kc2 (kjr ∅) (kbf (kaa (kad 5) (kaa (kad 4) kah))).bw (kam (kai 0) (kae).bw).bw).bw (kc2 (kjr ∅) (kbf (kaa (kam (kai 2) (kaf 5)) (kaa (kad 3) kah))).bw (kam (kai 1) (kae).bw).bw).bw) (kag (kax (kcl))) kav)
  (kag (kba (kaw (kdm ∅) (kc2 (kjr ∅) (kbf (kaa (kad 4) (kaa (kad 5) kah))).bw (kam (kai 0) (kae).bw).bw).bw (kc2 (kjr ∅) (kbf (kaa (kad 3) (kaa (kam (kai 2) (kaf 5)) kah))).bw (kam (kai 1) (kae).bw).bw).bw) (kag (kax (kcl))) kav))))
  (kag (kax (kcl)))))) (fun ds RS h=>?_)
 .obtain⟨n,m,T,U,row,pt,rfl,_⟩:=h;rfl
 .obtain⟨n,m,T,U,row,pt,rfl,n16,rl,rin,hpt,hR⟩:=h;unfold rwD;simp only[rD,kof];rw[ba3];refine⟨by lia,by lia,fun k env=>(∀ j,j<k->T j row.length=U (gR row j) pt/\T row.length j=U pt (gR row j))/\∃v,env=[.d (spD n (kac n T)),.d (spD m (kac m U)),.d (.list (row.map fun(x:Nat)=>ba1 (x:Int))),dI (pt:Nat),dI (row.length:Nat),v],⟨fun j hj=>zA hj (bj6 _),_,rfl⟩,?_,?_⟩
  .rintro k y env hy⟨ok,v,rfl⟩;obtain⟨hk,rfl⟩:=kb7 hy;rw[bc3]at hk;rw[bp8];have hr:gR row k<m:=rin _ (kxd hk);simp only[rD,ka4,at1];have e1:(((kac n T).map pD).any fun d=>d.eqv (.tuple [.int (k:Nat),.int (row.length:Nat)]))=T k row.length:=(ked ((k:Int),(row.length:Int)) _).trans (knc (by lia) rl);have e2:(((kac m U).map pD).any fun d=>d.eqv (.tuple [.int (gR row k:Nat),.int (pt:Nat)]))=U (gR row k) pt:=(ked ((gR row k:Int),(pt:Int)) _).trans (knc hr hpt);have e3:(((kac n T).map pD).any fun d=>d.eqv (.tuple [.int (row.length:Nat),.int (k:Nat)]))=T row.length k:=(ked ((row.length:Int),(k:Int)) _).trans (knc rl (by lia));have e4:(((kac m U).map pD).any fun d=>d.eqv (.tuple [.int (pt:Nat),.int (gR row k:Nat)]))=U pt (gR row k):=(ked ((pt:Int),(gR row k:Int)) _).trans (knc hpt hr);refine⟨kbk _,okP (_,_),shP (_,_),_,k4f hk,kbk _,okP (_,_),shP (_,_),okB _,okB _,.inl (shB _),?_⟩;rw[e1,e2,kne];by_cases c:T k row.length=U (gR row k) pt
   .rw[zN (by rw[c];simp)];refine⟨kbk _,okP (_,_),shP (_,_),_,k4f hk,kbk _,okP (_,_),shP (_,_),okB _,okB _,.inl (shB _),?_⟩;rw[e3,e4,kne];by_cases c2:T row.length k=U pt (gR row k)
    .rw[zN (by rw[c2];simp)];refine⟨fun j hj=>?_,_,rfl⟩;rcases bp1 (b02 hj)with z|rfl
     .exact ok j z
     .exact⟨c,c2⟩
    .rw[zP (by simpa using c2)];rw[kle hk fun z=>c2 z.2]at hR;exact hR
   .rw[zP (by simpa using c)];rw[kle hk fun z=>c z.1]at hR;exact hR
  .rintro env⟨ok,v,rfl⟩;rw[kb0,bc3]at ok;rw[ki5 ok]at hR;exact hR
def scKd:FnScope ["space","ups","downs"] ["space"] (kaj kdt):=by ac_rfl
def ok_Kd{f:Addr}{fd:be7}(F:Fun K "_law_kinds" "_law_kinds" kdt f fd)(T:Txt K mg):
 FnOk P w K mg base CX0 1 f fd ["space"] (spG K ks0):=by
 refine F.okG scKd (fun ds RS h=>?_) (fun a A o s H E hr=>(kab (kcc 1 (fun O=>scKd.nd) (N':=["point","space"]) (fun O=>(.own (.cap 0 rfl rfl rfl .nil))) (ka6 (kam (kai 0) (kae).bw).bw (fun O=>T.a)) (kaz 0 (fun O=>(by decide +kernel:(["point","space"]:List Str).Nodup))) kbe (kbv (kcv (N':=["pair","point"]) (fun O=>(.own (.cap 0 rfl rfl rfl .nil))) (ka8 (kam (kai 1) (kae).bw)) (kaz 0 (fun O=>(by decide +kernel:(["pair","point"]:List Str).Nodup))) (kch (kaw (kcg ∅) (kam (kai 0) (kae).bw).bw (kaf 1))) (kae)).q (fun O=>T.b)))
  (DSs.frz 1 (kab (kcc 2 (fun O=>scKd.nd) (N':=["point","space"]) (fun O=>(.own (.cap 0 rfl rfl rfl .nil))) (ka6 (kam (kai 0) (kae).bw).bw (fun O=>T.a)) (kaz 0 (fun O=>(by decide +kernel:(["point","space"]:List Str).Nodup))) kbe (kbv (kcv (N':=["pair","point"]) (fun O=>(.own (.cap 0 rfl rfl rfl .nil))) (ka8 (kam (kai 1) (kae).bw)) (kaz 0 (fun O=>(by decide +kernel:(["pair","point"]:List Str).Nodup))) (kch (kaw (kcg ∅) (kam (kai 0) (kae).bw).bw (kaf 1))) (kae)).q (fun O=>T.b)))
  (DSs.frz 2 (kag (kcy (kn2 (kad 1) (kad 2) (fun O=>T.zip) (fun O=>T.c))))))))) (fun ds RS h=>?_)
 .obtain⟨n,T,rfl,_⟩:=h;rfl
 .obtain⟨n,T',rfl,n16,hR⟩:=h;exists fun env=>env=[.d (spD n (kac n T')),.o ((ba8 n).map fun(i:Nat)=>ba1 ((kdT T' n i).1:Int)),.un]
  .simp only[rD,xLC,ka4,at0];refine⟨by lia,by lia,?_⟩;rw[bc3,kjv];refine⟨Gf (ba8 n) (fun(i:Nat)=>ba1 (i:Int)) (fun O=>true) (fun(i:Nat)=> .int ((kdT T' n i).1:Int)),fun y hy=>?_,fun o ho=>?_⟩
   .obtain⟨i,hi,rfl⟩:=bb1.mp hy;have hi':=bb2.mp hi;simp only[rD,xLC,ka4,at1];refine⟨Gf (kac n T') pD (fun q=>decide (q.1=(i:Int))) (fun O=> .int 1),fun y hy=>?_,fun o ho=>?_⟩
    .obtain⟨q,hq,rfl⟩:=bb1.mp hy;refine⟨_,rfl,_,at0 _ _,okI _,okI _,.inl (shI _),?_⟩;rw[ka1];exact kck (fun e=>Gf.keep hq e rfl) (fun e=>Gf.skip hq (by simpa using e))
    .rw[Gf.out kee ho];refine Gf.keep hi rfl ?_;rw[ba3,k4i hi']
   .rw[Gf.all kgo ho];exact hN _ rfl
  rintro env rfl;refine⟨_,rfl,?_⟩;exists fun env=>env=[.d (spD n (kac n T')),.d (.list ((ba8 n).map fun(i:Nat)=>ba1 ((kdT T' n i).1:Int))),.o ((ba8 n).map fun(i:Nat)=>ba1 ((kdT T' n i).2:Int))]
  .simp only[rD,xLC,ka4,at0];refine⟨by lia,by lia,?_⟩;rw[bc3,kjv];refine⟨Gf (ba8 n) (fun(i:Nat)=>ba1 (i:Int)) (fun O=>true) (fun(i:Nat)=> .int ((kdT T' n i).2:Int)),fun y hy=>?_,fun o ho=>?_⟩
   .obtain⟨i,hi,rfl⟩:=bb1.mp hy;have hi':=bb2.mp hi;simp only[rD,xLC,ka4,at1];refine⟨Gf (kac n T') pD (fun q=>decide (q.2=(i:Int))) (fun O=> .int 1),fun y hy=>?_,fun o ho=>?_⟩
    .obtain⟨q,hq,rfl⟩:=bb1.mp hy;refine⟨_,rfl,_,at1 _ _ _,okI _,okI _,.inl (shI _),?_⟩;rw[ka1];exact kck (fun e=>Gf.keep hq e rfl) (fun e=>Gf.skip hq (by simpa using e))
    .rw[Gf.out kee ho];refine Gf.keep hi rfl ?_;rw[ba3,k4j hi']
   .rw[Gf.all kgo ho];exact hN _ rfl
  rintro env rfl;refine⟨_,rfl,?_⟩;simp only[rD];refine⟨by rw[ba3,ba3],?_⟩;rw[k4k];exact hR
def kxg:FnScope ["one","other","mine","theirs","waiting","row","at","k","point"] ["one","other"] (kaj kb2):=by ac_rfl
def ok_An{f:Addr}{fd:be7}(F:Fun K "_law_any_renaming" "_law_any_renaming" kb2 f fd)(T:Txt K mg)(GKd:Fn P w K mg base "_law_kinds" 1 ["space"] (spG K ks0))(GGs:Fn P w K mg base "_law_goes" 1 ["one","other","row","point"] (spG K k0s)):
 FnOk P w K mg base CX0 3 f fd ["one","other"] (spG K Pany):=by
 refine F.okG kxg (fun ds RS h=>?_) (fun a A o s H E hr=>(kab (kap 2 (fun O=>kxg.nd) ((ka5 GKd ⋯ (kaa (kad 0) kah)).ew))
  (kab (kap 3 (fun O=>kxg.nd) ((ka5 GKd ⋯ (kaa (kad 1) kah)).ew))
  (kab (kba (kaw (kdm ∅) (kmo (kc4 2) (fun O=>T.e) ∅).bw (kmo (kc4 3) (fun O=>T.e) ∅).bw) (kag (kax (kcl))) kav)
  (kab (kbh 4 (fun O=>kxg.nd) (kbj (kaa ((kbj kah).ew) kah)))
  (kab (kf6 nofun (kaw (kdm ∅) (kaf 4) (kbj kah).bw) (kab (kp1 4 5 (fun O=>kxg.nd))
  (kab (kap 6 (fun O=>kxg.nd) (kbv (kai 5) (fun O=>T.b)))
  (kab (kba (kaw (kcg ∅) (kaf 6) (kam (kai 0) (kae).bw).bw) (kag (kax (kcl))) kav)
  (kag (kbn nofun (ka6 (kam (kai 1) (kae).bw).bw (fun O=>T.a)) (kaz 7 (fun O=>kxg.nd)) (kab (kap 8 (fun O=>kxg.nd) (kao kbo (kao kc3 (kaf 6) (kaf 7)).bw (kam (kai 1) (kae).bw).bw))
  (kag (kba ((kfy (kaw (kh0 ∅) (kaf 8) (kaf 5)) (kfy (kaw (kcg ∅) (kam (kai 2) (kaf 6)).bw (kam (kai 3) (kaf 8)).bw) (kek (kbi (kal GGs ⋯ (kaa (kad 0) (kaa (kad 1) (kaa (kad 5) (kaa (kad 8) kah))))).bw)))).t) (kag (keb 4 ((kwb (kc4 5) (kbj (kaa (kad 8) kah)).l).ew))) kav)))))))))
  (kag (kax (kcl))))))))) (fun ds RS h=>?_)
 .obtain⟨n,m,T,U,rfl,_⟩:=h;rfl
 .obtain⟨n,m,T',U,rfl,n1,n16,m1,m16,i1,i2,hY,hN⟩:=h;refine ka0 (fun env=>env=[.d (spD n (kac n T')),.d (spD m (kac m U)),.d (.list ((kdL T' n).map pD)),.un,.un,.un,.un,.un,.un]) (fun N hN'=>?_) ?_
  .simp only[rD];exact⟨n,T',rfl,n16,_,rfl,hN' _ rfl⟩
  rintro env rfl;refine ka0 (fun env=>env=[.d (spD n (kac n T')),.d (spD m (kac m U)),.d (.list ((kdL T' n).map pD)),.d (.list ((kdL U m).map pD)),.un,.un,.un,.un,.un]) (fun N hN'=>?_) ?_
  .simp only[rD];exact⟨m,U,rfl,m16,_,rfl,hN' _ rfl⟩
  rintro env rfl;refine ka0 (fun env=>env=[.d (spD n (kac n T')),.d (spD m (kac m U)),.d (.list ((kdL T' n).map pD)),.d (.list ((kdL U m).map pD)),.un,.un,.un,.un,.un]/\n=m) (fun N hN'=>?_) ?_
  .simp only[rD];refine⟨kdL T' n,rfl,by rw[ks1];lia,100,fun q hq=>(ks2 n16 q hq).2,fun q1 p1 u1=>⟨kdL U m,rfl,by rw[ks1];lia,100,fun q hq=>(ks2 m16 q hq).2,fun q2 p2 u2=>⟨kxe q1,kxe q2,.inl (k4l q1),?_⟩⟩⟩;rw[show bg3 (.list (q1.map pr2)) (.list (q2.map pr2))=decide (q1=q2)from k0u q1 q2];by_cases c:q1=q2
   .rw[zN (by simp[c])];refine hN' _ ⟨rfl,?_⟩;have e1:=p1.length_eq;have e2:=p2.length_eq;rw[ks1]at e1 e2;rw[<- e1,<- e2,c]
   .rw[zP (by simp[c])];refine hN fun e f iso=>c ?_;subst e;exact kvu (fun q hq=>ks2 n16 q (p1.mem_iff.mp hq)) (p1.trans (iso.kdL.trans p2.symm)) u1 u2
  rintro env⟨rfl,e⟩;subst e;have hY:=hY rfl;have hN:(∀ f,¬Iso n T' U f)->RS (.d (.bool false)):=fun z=>hN fun O=>z;refine ka0 (fun env=>env=[.d (spD n (kac n T')),.d (spD n (kac n U)),.d (.list ((kdL T' n).map pD)),.d (.list ((kdL U n).map pD)),.o ([[]].map rwD),.un,.un,.un,.un]) (fun N hN'=>?_) ?_
  .simp only[rD];exact hN' _ rfl
  rintro env rfl;simp only[rD,kpq];refine⟨fun k env=>∃(ws:List (List Nat))(v5 v6 v7 v8:Dt),env=[.d (spD n (kac n T')),.d (spD n (kac n U)),.d (.list ((kdL T' n).map pD)),.d (.list ((kdL U n).map pD)),.o (ws.map rwD),v5,v6,v7,v8]/\WI n T' U ws/\msr n ws=k,⟨_,[[]],_,_,_,_,rfl,WI.start,rfl⟩,?_⟩;rintro k env⟨ws,v5,v6,v7,v8,rfl,W,rfl⟩;simp only[rD];refine⟨ks3 ws,rfl,.inr (by show 1<=9;decide),?_⟩;rw[k0v];by_cases c:ws=[]
  .rw[zN (by simp[c])];refine hN fun f iso=>?_;obtain⟨r,hr,_⟩:=W.cp f iso;rw[c]at hr;cases hr
  rw[zP (by simp[c])];obtain⟨ws0,row,rfl⟩: ∃ws0 row,ws=ws0++[row]:=⟨ws.dropLast,ws.getLast c,(List.dropLast_concat_getLast c).symm⟩
  have S:=W.st row (by simp);have wl:=W.len;refine⟨ws0.map rwD,rwD row,by rw[be3];rfl,_,rfl,_,ka4 _ _,_,at0 _ _,okI _,okI _,.inl (shI _),?_⟩;rw[ka1,ba3];by_cases d:row.length=n
  .rw[zP (zT (by lia))];exact hY _ (S.iso d i1 i2)
  rw[zN (by simp;lia)];have hl:row.length<n:=by have:=S.le;lia
  have nn:n*row.length<=16*16:=cc2 n16 (by lia);simp only[rD,kof,ka4,at0];refine⟨by lia,by lia,fun k env=>∃v7 v8,env=[.d (spD n (kac n T')),.d (spD n (kac n U)),.d (.list ((kdL T' n).map pD)),.d (.list ((kdL U n).map pD)),.o ((ws0++ki6 T' U n row k).map rwD),.d (rwD row),dI (row.length:Nat),v7,v8],⟨_,_,by rw[show ki6 T' U n row 0=[]from rfl,be9]⟩,?_,?_⟩
  .rintro k y env hy⟨v7,v8,rfl⟩;obtain⟨hk,rfl⟩:=kb7 hy;rw[bc3]at hk;rw[bp8];have ep:((row.length:Int)+(k:Int)) % (n:Int)=(((row.length+k) % n:Nat):Int):=(by rw[Int.natCast_emod,Int.natCast_add])
   have pl:(row.length+k) % n<n:=b29 _ (by lia);have al:=ki7 (T:=T') (U:=U) (n:=n) (k:=k) (row:=row);simp only[rD,ka4,at0];rw[ep];have hno:=k0t (T:=T') (U:=U) (n:=n) (k:=k) (row:=row);have hye:=kvt (T:=T') (U:=U) (n:=n) (k:=k) (row:=row);generalize(row.length+k) % n=p at hno hye pl⊢;refine⟨by lia,_,rfl,kxf row,okI _,shI _,?_⟩;rw[k4m];by_cases c1:p∈row
   .rw[zN (by simp[c1]),zN id];exact⟨_,_,by rw[hno (by unfold cnd;simp[c1])]⟩
   .rw[zP (by simp[c1])];refine⟨_,k4h hl,_,k4h pl,okP (_,_),okP (_,_),.inl (shP (_,_)),?_⟩;rw[krh];by_cases c2:kdT T' n row.length=kdT U n p
    .rw[zP (zT (by rw[c2]))];refine⟨n,n,T',U,row,p,rfl,n16,hl,S.lt,pl,_,rfl,_,rfl,?_⟩;by_cases c3:kld T' U row p=true
     .rw[zP c3];refine⟨_,rfl,by rw[ba3];lia,by rw[ba3,bb4];lia,dI (k:Nat),dI (p:Nat),?_⟩;rw[hye (by unfold cnd;simp[c1,c2,c3]),<- bh6,be3 (l₂:=[row++[p]])];unfold rwD;simp only[be3,bg2,b12]
     .rw[zN c3];exact⟨_,_,by rw[hno (by unfold cnd;simp[c3])]⟩
    .rw[zN (fun z=>c2 (by
      have z:=zO z;have z1:=zC bz1 z;have z2:=zC bz2 z;dsimp only at z1 z2;exact by4 (by lia) (by lia))),zN id]
     exact⟨_,_,by rw[hno (by unfold cnd;simp[c2])]⟩
  .rintro env⟨v7,v8,rfl⟩;rw[kb0,bc3];obtain⟨W2,lt⟩:=W.next hl
   exact⟨_,lt,_,_,_,_,_,rfl,W2,rfl⟩
end
def kxh{m:Nat}{ps:List (Int×Int)}(S:Nat->Nat->Prop)(h0: ∀x y,x<m->y<m->((x:Int),(y:Int))∈ps->S x y)(tr: ∀a b c,a<m->b<m->c<m->S a b->S b c->S a c)(irr: ∀a,a<m->¬S a a):OrT m (w1 m (t0 ps) m):=by
 have h: ∀x y,x<m->y<m->w1 m (t0 ps) m x y=true->S x y:=fun x y hx hy h=>kj8 m (t0 ps) S (fun x y hx hy h=>h0 x y hx hy (zO h).1) tr m x y (bb7 _) hx hy h;refine⟨fun a ha=>?_,fun a b c ha hb hc h1 h2=>kiq m (t0 ps) m (bb7 _) b a c hb ha hc h1 h2⟩;cases e:w1 m (t0 ps) m a a with
 | false=>rfl
 | true=>exact zA (h a a ha ha e) (irr a ha)
def k0w{m:Nat}{ps qs:List (Int×Int)}(o:Ordr qs)(h: ∀q∈ps,q∈qs):OrT m (w1 m (t0 ps) m):=kxh (fun x y=>((x:Int),(y:Int))∈qs) (fun x y O O e=>h _ e) (fun a b c O O O h1 h2=>o.trs _ _ _ h1 h2) fun a O h=>o.irr _ h
def ks4{m:Nat}{qs:List (Int×Int)}{a b:Int}(o:Ordr qs)(ne:a≠b)(no:(b,a) ∉ qs):OrT m (w1 m (t0 (qs++[(a,b)])) m):=by
 have ba: ¬kfu qs b a:=fun h=>h.elim (fun z=>ne z.symm) no;refine kxh (fun x y=>((x:Int),(y:Int))∈qs\/(kfu qs x a/\kfu qs b y)) (fun x y O O e=>?_) (fun x y z O O O h1 h2=>?_) fun x O h=>?_
 .rcases bh3.mp e with e|e
  .exact .inl e
  .have e:=bc4.mp e;have e1:(x:Int)=a:=zC bz1 e;have e2:(y:Int)=b:=zC bz2 e;exact .inr ⟨.inl e1,.inl e2.symm⟩
 .rcases h1 with h1|⟨h1,h1'⟩ <;> rcases h2 with h2|⟨h2,h2'⟩
  .exact .inl (o.trs _ _ _ h1 h2)
  .exact .inr ⟨kfa o (.inr h1) h2,h2'⟩
  .exact .inr ⟨h1,kfa o h1' (.inr h2)⟩
  .exact zA (kfa o h1' h2) ba
 .rcases h with h|⟨h1,h2⟩
  .exact o.irr _ h
  .exact ba (kfa o h2 h1)
abbrev rnI(os:List Int)(q:Int×Int):Int×Int:=(gt os q.1,gt os q.2)
def k4n{n:Nat}{T:Rl}{os:List Int}(o:OrT n T)(nd:os.Nodup)(hl:os.length=n):Ordr ((kac n T).map (rnI os)):=by
 have inj: ∀a b:Nat,a<n->b<n->gt os (a:Int)=gt os (b:Int)->a=b:=fun a b ha hb e=>by
  unfold gt at e;rw[bc3,bc3]at e;have g: ∀c,c<n->os[c]?=some (os.getD c 0):=fun c hc=>by rw[bb5,ba4 (by lia)];rfl
  have ga:=g a ha;rw[e]at ga;exact kgb nd ga (g b hb)
 have is: ∀x y:Int,(x,y)∈(kac n T).map (rnI os)->∃a b:Nat,a<n/\b<n/\T a b=true/\x=gt os (a:Int)/\y=gt os (b:Int):=fun x y h=>by
  obtain⟨q,hq,e⟩:=bb1.mp h;obtain⟨a,b,ha,hb,t,rfl⟩:=ka3.mp hq;exact⟨a,b,ha,hb,t,(zC bz1 e).symm,(zC bz2 e).symm⟩
 refine⟨fun x h=>?_,fun x y z h1 h2=>?_⟩
 .obtain⟨a,b,ha,hb,t,e1,e2⟩:=is x x h;have:=inj a b ha hb (e1.symm.trans e2);subst this;rw[o.irr a ha]at t;cases t
 .obtain⟨a,b,ha,hb,t,e1,e2⟩:=is x y h1;obtain⟨c,d,hc,hd,u,e3,e4⟩:=is y z h2;have:=inj b c hb hc (e2.symm.trans e3);subst this;rw[e1,e4];exact bb1.mpr ⟨((a:Int),(d:Int)),kay.mpr ⟨ha,hd,o.trs a b d ha hb hd t u⟩,rfl⟩
abbrev klf(ds:List bb0)(RS:Dt->Prop):Prop:=∃(n:Nat)(T:Rl)(ns:List Int),ds=[spD n (kac n T),kd7 ns]/\1<=n/\n<=7/\OrT n T/\∀(m:Nat)(U:Rl),1<=m->m<=8->OrT m U->RS (.d (spD m (kac m U)))
def k4o{n k:Nat}:((ka7 n).drop k++(ka7 n).take k).Nodup:=by
 have:((ka7 n).drop k++(ka7 n).take k).Perm (ka7 n):=b19.trans (.of_eq (bm2 k _));exact this.nodup_iff.mpr (klc n)
def k0x{n k:Nat}:((ka7 n).drop k++(ka7 n).take k).length=n:=by
 have:((ka7 n).drop k++(ka7 n).take k).Perm (ka7 n):=b19.trans (.of_eq (bm2 k _));rw[this.length_eq,kbt]
def k4p{n k:Nat}: ∀x∈(ka7 n).drop k++(ka7 n).take k,0<=x/\x<(n:Int):=fun x hx=>by
 have:((ka7 n).drop k++(ka7 n).take k).Perm (ka7 n):=b19.trans (.of_eq (bm2 k _));exact kfb.mp (this.mem_iff.mp hx)
def rn_no{n:Nat}{T:Rl}{os:List Int}(om: ∀x∈os,0<=x/\x<(n:Int))(ol:os.length=n): ∀q∈(kac n T).map (rnI os),q.1<(n:Int)/\q.2<(n:Int):=fun q hq=>by
 obtain⟨p,hp,rfl⟩:=bb1.mp hq;obtain⟨a,b,ha,hb,_,rfl⟩:=ka3.mp hp;exact⟨(om _ (kg1 (by dsimp only;lia) (by dsimp only;lia))).2,(om _ (kg1 (by dsimp only;lia) (by dsimp only;lia))).2⟩
def knf(xs:List Int)(j:Int)(h0:0<=j):kyp (xs.map ba1) none (some j)=(xs.take j.toNat).map ba1:=by
 obtain⟨k,rfl⟩:=bi3 h0;unfold kyp;rw[HT.sIx_none,HT.sIx_nat,List.drop_zero,co4,bc3,ba3,<- b88];congr 1;rcases Nat.le_total k xs.length with h|h
 .rw[bw0 h]
 .rw[Nat.min_eq_right h,b95,br8 h]
def kvv(xs:List Int)(k:Nat)(h:k<=xs.length):kyp (xs.map ba1) (some (k:Int)) none=(xs.drop k).map ba1:=by
 unfold kyp;rw[HT.sIx_none,HT.sIx_nat,ba3,bw0 h,<- b89,br8];rw[ba3,bq7];exact bb7 _
def Walk.take{n:Nat}{ps:List (Int×Int)}{row:List Int}{n':Nat}{ps':List (Int×Int)}(w:Walk n ps row n' ps'): ∀k:Nat,∃n2 ps2,Walk n ps (row.take k) n2 ps2:=by
 induction w with
 | nil n ps=>exact fun k=>⟨n,ps,by rw[List.take_nil];exact .nil n ps⟩
 | @cons n ps p row n' ps' h0 h1 h2 w ih=>
   intro k;cases k with
   | zero=>exact⟨_,_,.nil _ _⟩
   | succ k=>
     obtain⟨n2,ps2,w2⟩:=ih k;exact⟨n2,ps2,.cons h0 h1 h2 w2⟩
section
variable{P:bb9}{w:be5}{K:ba2}{mg:Str->Option ba6}{base:Heap}
def ks5:FnScope ["space","script","names","step","ties","mode","point","other","row"] ["space","script"] (kaj kdv):=by ac_rfl
@[reducible]def F22(P)(w)(K)(mg)(base):=Fn P w K mg base "_law_walk" 3 ["space","row"] (spG K kmx)
@[reducible]def F23(P)(w)(K)(mg)(base):=Fn P w K mg base "_law_space" 3 ["script","at","most"] (spG K kmr)
def ok_Ot{f:Addr}{fd:be7}(F:Fun K "_law_other" "_law_other" kdv f fd)(T:Txt K mg)(GDCl:Fn P w K mg base "_law_cell" 2 ["script","k"] (spG K kk8))(GDCd:F8 P w K mg base)(GDw:Fn P w K mg base "_law_drawn_row" 3 ["space","script","at"] (spG K kr2))(GLk:F22 P w K mg base)(GDSp:F23 P w K mg base):
 FnOk P w K mg base CX0 4 f fd ["space","script"] (spG K klf):=by
 refine F.okG ks5 (fun ds RS h=>?_) (fun a A o s H E hr=>(kab (kap 2 (fun O=>ks5.nd) ((kb4 (kam (kai 0) (kae).bw).bw (fun O=>T.c) (fun O=>T.a)).ew))
  (kab (kap 3 (fun O=>ks5.nd) (kao kbo (kal GDCl ⋯ (kaa (kad 1) (kaa (kae) kah))).bw (kam (kai 0) (kae).bw).bw))
  (kab (kap 2 (fun O=>ks5.nd) ((kwb (kh1 (kc4 2) (kks (kaf 3)) kkr).l (kh1 (kc4 2) kkr (kks (kaf 3))).l).ew))
  (kab (kcc 4 (fun O=>ks5.nd) (N':=["a","b","names"]) (fun O=>(.own (.own (.cap 2 rfl rfl rfl .nil)))) (ka8 (kam (kai 0) (kae).bw)) (kcb 0 1 (fun O=>(by decide +kernel:(["a","b","names"]:List Str).Nodup))) kbe (kbf (kaa (kam (kai 2) (kaf 0)) (kaa (kam (kai 2) (kaf 1)) kah))))
  (kab (kap 5 (fun O=>ks5.nd) (kao kbo (kal GDCl ⋯ (kaa (kad 1) (kaa (kae) kah))).bw (kae).bw))
  (kab (kba (kaw (kcg ∅) (kaf 5) (kae).bw) (kab (kap 6 (fun O=>ks5.nd) (kao kbo (kao kbw (kal GDCl ⋯ (kaa (kad 1) (kaa (kae) kah))).bw (kae).bw).bw (kam (kai 0) (kae).bw).bw))
  (kab (keb 4 (kam (kbj (kaa (kbf (kaa (kad 6) (kaa (kam (kai 0) (kae).bw) kah))) (kaa (kbf (kaa (kam (kai 0) (kae).bw) (kaa (kad 6) kah))) kah))).q (kao kbo (kao kbw (kal GDCl ⋯ (kaa (kad 1) (kaa (kae) kah))).bw (kae).bw).bw (kae).bw).bw))
  (kag (kax (kbf (kaa (kao kc3 (kam (kai 0) (kae).bw).bw (kae).bw) (kaa (kd0 GDCd ⋯ (kbz (kao kc3 (kam (kai 0) (kae).bw).bw (kae).bw).bw (kbz (kaf 4) kfj))) kah))))))) kav)
  (kab (kap 7 (fun O=>ks5.nd) (kbf (kaa (kam (kai 0) (kae).bw) (kaa (kd0 GDCd ⋯ (kbz (kam (kai 0) (kae).bw).bw (kbz (kaf 4) kfj))) kah))))
  (kab (kba (kaw (kcg ∅) (kaf 5) (kae).bw) (kab (kap 8 (fun O=>ks5.nd) ((ka5 GDw ⋯ (kaa (kad 7) (kaa (kad 1) (kaa (kae) kah)))).ew))
  (kag (kap 7 (fun O=>ks5.nd) (kam (kal GLk ⋯ (kaa (kad 7) (kaa ((kh1 (kc4 8) kkr (kks (kao kbo (kao kbw (kal GDCl ⋯ (kaa (kad 1) (kaa (kae) kah))).bw (kae).bw).bw (kao kc3 (kbv (kai 8) (fun O=>T.b)).bw (kae).bw).bw).bw)).ew) kah))).q (kae).bw)))) kav)
  (kab (kba (kaw (kcg ∅) (kaf 5) (kae).bw) (kag (kap 7 (fun O=>ks5.nd) (kal GDSp ⋯ (kaa (kad 1) (kaa (kae) (kaa (kae) kah)))))) kav)
  (kag (kb8 7)))))))))))) (fun ds RS h=>?_)
 .obtain⟨n,T,ns,rfl,_⟩:=h;rfl
 .obtain⟨n,T',ns,rfl,n1,n7,oT,hR⟩:=h;exists fun env=>env=[.d (spD n (kac n T')),.d (kd7 ns),.d (.list ((ka7 n).map ba1)),.un,.un,.un,.un,.un,.un]
  .simp only[rD,ka4,at0];refine⟨by lia,by lia,?_⟩;rw[bc3,kcm];exact hN _ rfl
  rintro env rfl;exists fun env=>∃k:Nat,env=[.d (spD n (kac n T')),.d (kd7 ns),.d (.list ((ka7 n).map ba1)),dI (k:Nat),.un,.un,.un,.un,.un]/\k<n
  .simp only[rD,ka4,at0];refine⟨ns,1,rfl,fun c=>⟨_,rfl,c,rfl,by lia,?_⟩⟩;have r0:0<=c % (n:Int):=bp9 _ (by lia);have r1:c % (n:Int)<n:=bp2 _ (by lia);obtain⟨k,hk⟩:=bi3 r0;rw[hk];exact hN _ ⟨k,rfl,by lia⟩
  rintro env⟨k,rfl,hk⟩;exists fun env=>env=[.d (spD n (kac n T')),.d (kd7 ns),.d (.list (((ka7 n).drop k++(ka7 n).take k).map ba1)),dI (k:Nat),.un,.un,.un,.un,.un]
  .simp only[rD];rw[knf _ _ (by lia),kvv _ _ (by rw[kbt];lia),bc3];exact⟨by rw[ba3,ba3,bq7,bn9,kbt];lia,hN _ (by rw[be3])⟩
  rintro env rfl;have nd:=k4o (n:=n) (k:=k);have ol:=k0x (n:=n) (k:=k);have om:=k4p (n:=n) (k:=k);generalize(ka7 n).drop k++(ka7 n).take k=os at nd ol om⊢;exists fun env=>env=[.d (spD n (kac n T')),.d (kd7 ns),.d (.list (os.map ba1)),dI (k:Nat),.o (((kac n T').map (rnI os)).map pD),.un,.un,.un,.un]
  .simp only[rD,xLC,ka4,at1];refine⟨Gf (kac n T') pD (fun O=>true) (fun q=>pD (rnI os q)),fun y hy=>?_,fun o ho=>?_⟩
   .obtain⟨q,hq,rfl⟩:=bb1.mp hy;obtain⟨a,b,ha,hb,_,rfl⟩:=ka3.mp hq;exact⟨_,_,rfl,_,rfl,_,kc1 (by lia) (by rw[ol];lia),_,rfl,_,kc1 (by lia) (by rw[ol];lia),Gf.keep hq rfl rfl⟩
   .rw[Gf.all kee ho];exact hN _ (by rw[bc1];rfl)
  rintro env rfl;have oQ:=k4n oT nd ol;have nQ:=rn_no (T:=T') om ol;have ql:((kac n T').map (rnI os)).length<=49:=by
   rw[ba3];have:=kk7 n T';have:n*n<=7*7:=cc2 n7 n7;lia
  generalize(kac n T').map (rnI os)=Q at oQ nQ ql⊢;exists fun env=>∃md:Int,env=[.d (spD n (kac n T')),.d (kd7 ns),.d (.list (os.map ba1)),dI (k:Nat),.o (Q.map pD),dI md,.un,.un,.un]
  .simp only[rD];exact⟨ns,2,rfl,fun c=>⟨_,rfl,c,rfl,by decide,hN _ ⟨_,rfl⟩⟩⟩
  rintro env⟨md,rfl⟩;exists fun env=>env=[.d (spD n (kac n T')),.d (kd7 ns),.d (.list (os.map ba1)),dI (k:Nat),.o (Q.map pD),dI md,.un,.un,.un]
  .simp only[rD,ka4,at0];refine⟨okI _,okI _,.inl (shI _),?_⟩;rw[ka1];refine kck (fun e=>?_) (fun e=>hN _ rfl);refine⟨ns,2,rfl,fun c=>⟨_,rfl,c,rfl,by simp[k0y],by lia,ns,2,rfl,fun c'=>⟨_,rfl,c',rfl,by simp[k0y],by decide,?_⟩⟩⟩;have p0:0<=c/4 % (n:Int):=bp9 _ (by lia);have p1:c/4 % (n:Int)<n:=bp2 _ (by lia);generalize c/4 % (n:Int)=p at p0 p1;have r01:c'/64 % 2=0\/c'/64 % 2=1:=(by lia)
   have n1':(n:Int)+1=((n+1:Nat):Int):=rfl;have fin: ∀q:Int×Int,q=(p,(n:Int))\/q=((n:Int),p)->OrT (n+1) (w1 (n+1) (t0 (Q++[q])) (n+1)):=fun q hq=>by
    rcases hq with rfl|rfl
    .exact ks4 oQ (by lia) fun z=>zA (nQ _ z).1 (by lia)
    .exact ks4 oQ (by lia) fun z=>zA (nQ _ z).2 (by lia)
   rcases r01 with z|z <;> rw[z]
   .refine⟨_,atc0 _ _,by rw[ba3];lia,n+1,Q++[(p,(n:Int))],by rw[n1',be3];rfl,by lia,_,rfl,kbq _,?_⟩;exact hR (n+1) _ (by lia) (by lia) (fin _ (.inl rfl))
   .refine⟨_,atc1 _ _ _,by rw[ba3];lia,n+1,Q++[((n:Int),p)],by rw[n1',be3];rfl,by lia,_,rfl,kbq _,?_⟩;exact hR (n+1) _ (by lia) (by lia) (fin _ (.inr rfl))
  rintro env rfl;exists fun env=>∃U:Rl,env=[.d (spD n (kac n T')),.d (kd7 ns),.d (.list (os.map ba1)),dI (k:Nat),.o (Q.map pD),dI md,.un,.d (spD n (kac n U)),.un]/\OrT n U
  .simp only[rD,ka4,at0];exact⟨n,Q,rfl,by lia,_,rfl,kbq _,hN _ ⟨_,rfl,k0w oQ fun q hq=>hq⟩⟩
  rintro env⟨U,rfl,oU⟩;exists fun env=>∃(m:Nat)(U:Rl)(v8:Dt),env=[.d (spD n (kac n T')),.d (kd7 ns),.d (.list (os.map ba1)),dI (k:Nat),.o (Q.map pD),dI md,.un,.d (spD m (kac m U)),v8]/\1<=m/\m<=8/\OrT m U
  .simp only[rD];refine⟨okI _,okI _,.inl (shI _),?_⟩;rw[ka1];refine kck (fun e=>?_) (fun e=>hN _ ⟨n,U,_,rfl,n1,by lia,oU⟩);refine⟨n,_,ns,3,rfl,by lia,kbm,fun row a qs w hf=>⟨_,rfl,ns,2,rfl,fun c=>⟨_,rfl,c,rfl,by simp[k0y],by lia,?_⟩⟩⟩;rw[ba3,knf _ _ (bp9 _ (by lia))];obtain⟨m,qs2,w2⟩:=w.take (c/4 % ((row.length:Int)+1)).toNat;obtain⟨X,i,r,rfl,R,m1⟩:=kfw w2 (by lia) rfl oU n1;have:=w2.len;exact⟨n,_,_,m,_,rfl,by lia,kbm,w2,_,rfl,_,rfl,_,at0 _ _,hN _ ⟨m,X,_,rfl,m1,by lia,R.ord oU⟩⟩
  rintro env⟨m,X,v8,rfl,m1,m8,oX⟩;exists fun env=>∃(m:Nat)(U:Rl),env=[.d (spD n (kac n T')),.d (kd7 ns),.d (.list (os.map ba1)),dI (k:Nat),.o (Q.map pD),dI md,.un,.d (spD m (kac m U)),v8]/\1<=m/\m<=8/\OrT m U
  .simp only[rD];refine⟨okI _,okI _,.inl (shI _),?_⟩;rw[ka1];refine kck (fun e=>?_) (fun e=>hN _ ⟨m,X,rfl,m1,m8,oX⟩);exact⟨ns,3,7,rfl,by decide,by decide,fun n ps h1 h2 ⟨t,e,h3,h4⟩=>⟨_,rfl,hN _ ⟨n,t,by rw[e],h1,by lia,⟨h3,h4⟩⟩⟩⟩
  rintro env⟨m,X,rfl,m1,m8,oX⟩;simp only[rD];exact hR m X m1 m8 oX
def scSh:FnScope ["one","other","forth","back","fence"] ["one","other","forth","back","fence"] (kaj kdw):=by ac_rfl
def ok_Sh{f:Addr}{fd:be7}(F:Fun K "_law_shown" "_law_shown" kdw f fd)(T:Txt K mg)(GDLm:F14 P w K mg base)(GLx:Fn P w K mg base "_law_is_fence" 3 ["one","other","rows"] (spG K krs)):
 FnOk P w K mg base CX0 5 f fd ["one","other","forth","back","fence"] (spG K ksx):=by
 refine F.okG scSh (fun ds RS h=>?_) (fun a A o s H E hr=>(kab (kba ((kd8 (kbx (kbi (kal GDLm ⋯ (kaa (kad 0) (kaa (kad 1) (kaa (kad 2) kah)))).bw)) (kdj (kbx (kbi (kal GDLm ⋯ (kaa (kad 1) (kaa (kad 0) (kaa (kad 3) kah)))).bw)))).t) (kag (kax (kcl))) kav)
  (kab (kba ((kd8 (kbx (kbi (kfz (kaf 4) kir (fun O=>T.c) (fun O=>T.g)).bw)) (kdj (kbx (kbi (kal GLx ⋯ (kaa (kad 0) (kaa (kad 0) (kaa (kad 4) kah)))).bw)))).t) (kag (kax (kcl))) kav)
  (kag (kax (kv9 (kc2 (kcg ∅) (kam (kai 4) (kae).bw).bw (kdc (kcv (N':=["point","back"]) (fun O=>(.own (.cap 3 rfl rfl rfl .nil))) (ka8 (kad 2)) (kaz 0 (fun O=>(by decide +kernel:(["point","back"]:List Str).Nodup))) kbe (kam (kai 1) (kaf 0))) (fun O=>T.d)).bw) (klx (kc2 (kcg ∅) (kam (kai 4) (kpd (kae)).bw).bw (kh3 (kam (kai 0) (kae).bw).bw (fun O=>T.d) (fun O=>T.a)).bw)))))))) (fun ds RS h=>?_)
 .obtain⟨n,m,ps,qs,f,b,rs,rfl,_⟩:=h;rfl
 .obtain⟨n,m,ps,qs,f,b,rs,rfl,hin,hin2,n16,S,hR⟩:=h;obtain⟨r0,rs',rfl⟩:=b46 S.fe.1;have e0:r0=f.map (gt b):=bf4 S.hd;have el:atI ((r0::rs').map ka9) (-1)=some (ka9 (ka7 n)):=by
   obtain⟨ini,e⟩:=List.getLast?_eq_some_iff.mp S.ls;rw[e,be3];exact kht _ _
  exists fun env=>env=[.d (spD n ps),.d (spD m qs),.d (ka9 f),.d (ka9 b),.d (.list ((r0::rs').map ka9))]
  .simp only[rD];refine⟨n,m,ps,qs,f,rfl,hin,_,rfl,_,rfl,?_⟩;rw[kgy.mpr S.fm];refine kff rfl ⟨m,n,qs,ps,b,rfl,hin2,_,rfl,_,rfl,?_⟩;rw[kgy.mpr S.bm];exact kff rfl (hN _ rfl)
  rintro env rfl;exists fun env=>env=[.d (spD n ps),.d (spD m qs),.d (ka9 f),.d (ka9 b),.d (.list ((r0::rs').map ka9))]
  .simp only[rD];refine⟨rfl,_,T.kll,?_⟩;refine kff rfl ⟨n,n,ps,ps,r0::rs',rfl,hin,by have:=S.ln;lia,fun b hb=>⟨_,rfl,_,rfl,?_⟩⟩;have eb:b=true:=hb.mpr S.fe;subst eb;exact kff rfl (hN _ rfl)
  rintro env rfl;simp only[rD,xLC,kiv,ka4,at0];refine⟨Gf f ba1 (fun O=>true) (fun x=> .int (gt b x)),fun y hy=>?_,fun o ho=>?_⟩
  .obtain⟨x,hx,rfl⟩:=bb1.mp hy;obtain⟨x0,x1⟩:=S.fm.2.1 x hx;have bl:=S.bm.1;exact⟨_,rfl,_,kfv x0 (by lia),Gf.keep hx rfl rfl⟩
  .rw[Gf.all kbp ho];have ef:b51 (f.map fun x=> .int (gt b x))=ka9 r0:=(by rw[e0];unfold ka9;rw[bc1];rfl)
   rw[ef];refine⟨kkb _,kkb _,.inl (kww _),?_⟩;rw[klb,zP (zT rfl),bc3,kcm];refine⟨_,el,by lia,by lia,kkb _,kkb _,.inl (kww _),?_⟩;rw[show b51 ((ka7 n).map ba1)=ka9 (ka7 n)from rfl,klb,zT rfl];exact hR
def scRg:FnScope ["one","other","found","walks"] ["one","other","found"] (kaj kdx):=by ac_rfl
@[reducible]def F26(P)(w)(K)(mg)(base):=Fn P w K mg base "_law_shown" 5 ["one","other","forth","back","fence"] (spG K ksx)
def ok_Rg{f:Addr}{fd:be7}(F:Fun K "_law_right" "_law_right" kdx f fd)(T:Txt K mg)(GSh:F26 P w K mg base)(GLk:F22 P w K mg base)(GLf:F21 P w K mg base)(GAn:Fn P w K mg base "_law_any_renaming" 3 ["one","other"] (spG K Pany)):
 FnOk P w K mg base CX0 6 f fd ["one","other","found"] (spG K ksy):=by
 refine F.okG scRg (fun ds RS h=>?_) (fun a A o s H E hr=>(kab (kba ((kd8 (kbx (kbi (kfz (kaf 2) kis (fun O=>T.d) (fun O=>T.g)).bw)) (kdj (kaw kkn (kbv (kai 2) (fun O=>T.b)).bw (kae).bw))).t) (kag (kax (kcl))) kav)
  (kab (kba (kaw k20 (kam (kai 2) (kae).bw).bw (klv).bw) (kab (kba ((kd8 (kaw (kdm ∅) (kbv (kai 2) (fun O=>T.b)).bw (kae).bw) (kdj (kbx (kbi (kal GSh ⋯ (kaa (kad 0) (kaa (kad 1) (kaa (kam (kai 2) (kae).bw) (kaa (kam (kai 2) (kae).bw) (kaa (kam (kai 2) (kae).bw) kah)))))).bw)))).t) (kag (kax (kcl))) kav)
  (kag (kax (kal GSh ⋯ (kaa (kad 1) (kaa (kad 0) (kaa (kam (kai 2) (kae).bw) (kaa (kam (kai 2) (kae).bw) (kaa (kam (kai 2) (kae).bw) kah))))))))) kav)
  (kab (kba ((kd8 (kaw kwg (kam (kai 2) (kae).bw).bw (klv).bw) (kd8 (kaw (kdm ∅) (kbv (kai 2) (fun O=>T.b)).bw (kae).bw) (kd8 (kbx (kbi (kfz (kam (kai 2) (kae).bw).bw kir (fun O=>T.c) (fun O=>T.g)).bw)) (kdj (kbx (kbi (kfz (kam (kai 2) (kae).bw).bw kir (fun O=>T.c) (fun O=>T.g)).bw)))))).t) (kag (kax (kcl))) kav)
  (kab (kap 3 (fun O=>scRg.nd) ((kbj (kaa (kal GLk ⋯ (kaa (kad 0) (kaa (kam (kai 2) (kae).bw) kah))) (kaa (kal GLk ⋯ (kaa (kad 1) (kaa (kam (kai 2) (kae).bw) kah))) kah))).ew))
  (kab (kba ((kd8 (kaw (kjr ∅) (kb6).bw (kaf 3)) (kd8 (kaw (kdm ∅) (ka5 GLf ⋯ (kaa (kam (kam (kai 3) (kae).bw).q (kae).bw) kah)).bw (kbj kah).bw) (kdj (kaw (kdm ∅) (ka5 GLf ⋯ (kaa (kam (kam (kai 3) (kae).bw).q (kae).bw) kah)).bw (kbj kah).bw)))).t) (kag (kax (kcl))) kav)
  (kag (kax (kwa (kal GAn ⋯ (kaa (kam (kam (kai 3) (kae).bw).q (kae).bw) (kaa (kam (kam (kai 3) (kae).bw).q (kae).bw) kah)))))))))))) (fun ds RS h=>?_)
 .obtain⟨n,T,m,U,s,xs,xss,rfl,_⟩:=h;rfl
 .obtain⟨n,T',m,U,s,xs,xss,rfl,n1,n16,m1,m16,oT,oU,G,hR⟩:=h;cases G with
  | @al f b rs ss _ S1 S2=>
    exists fun env=>env=[.d (spD n (kac n T')),.d (spD m (kac m U)),.d (.tuple [.str "alike",ka9 f,ka9 b,.list (rs.map ka9),.list (ss.map ka9)]),.un]
    .simp only[rD];exact⟨rfl,_,T.ktt,kff rfl (kff rfl (hN _ rfl))⟩
    rintro env rfl;refine ka0 (fun O=>False) (fun N hN=>?_) (fun e h=>h.elim);simp only[rD];refine⟨_,at0 _ _,_,rfl,?_⟩;rw[zP (zT rfl)];exact⟨okI _,okI _,.inl (shI _),kff (by rw[ka1];rfl) ⟨_,rfl,_,rfl,_,rfl,n,m,_,_,f,b,rs,rfl,kbm,kbm,n16,S1,_,rfl,_,rfl,kff rfl ⟨_,rfl,_,rfl,_,rfl,m,n,_,_,b,f,ss,rfl,kbm,kbm,m16,S2,_,rfl,hR⟩⟩⟩
  | @un row row' a b V W na c1 c2=>
    exists fun env=>env=[.d (spD n (kac n T')),.d (spD m (kac m U)),.d (.tuple [.str "unlike",.list (row.map ba1),.list (row'.map ba1)]),.un]
    .simp only[rD];exact⟨rfl,_,T.ktt,kff rfl (kff rfl (hN _ rfl))⟩
    rintro env rfl;exists fun env=>env=[.d (spD n (kac n T')),.d (spD m (kac m U)),.d (.tuple [.str "unlike",.list (row.map ba1),.list (row'.map ba1)]),.un]
    .simp only[rD];exact⟨_,at0 _ _,_,rfl,kff (by decide) (hN _ rfl)⟩
    rintro env rfl;exists fun env=>env=[.d (spD n (kac n T')),.d (spD m (kac m U)),.d (.tuple [.str "unlike",.list (row.map ba1),.list (row'.map ba1)]),.un]
    .simp only[rD];exact⟨_,at0 _ _,_,rfl,kff (by decide) ⟨okI _,okI _,.inl (shI _),kff (by rw[ka1];rfl) ⟨_,rfl,rfl,_,T.kll,kff rfl ⟨_,rfl,rfl,_,T.kll,kff rfl (hN _ rfl)⟩⟩⟩⟩
    rintro env rfl;exists fun env=>∃(xs ys:List Int)(rs ss:List (List Int)),env=[.d (spD n (kac n T')),.d (spD m (kac m U)),.d (.tuple [.str "unlike",.list (row.map ba1),.list (row'.map ba1)]),.d (.list [wkD a (kac a V) xs rs,wkD b (kac b W) ys ss])]
    .simp only[rD];exact⟨_,rfl,n,_,row,a,_,rfl,by lia,kbm,c1.1,_,rfl,_,rfl,m,_,row',b,_,rfl,by lia,kbm,c2.1,_,rfl,hN _ ⟨_,_,_,_,rfl⟩⟩
    rintro env⟨xs,ys,rs,ss,rfl⟩;obtain⟨a1,an,vi⟩:=c1.ord n16 n1 oT;obtain⟨b1,bm,wi⟩:=c2.ord m16 m1 oU;have k1:=k4e a (kac a V) xs rs;have k2:=k4e b (kac b W) ys ss;exists fun env=>env=[.d (spD n (kac n T')),.d (spD m (kac m U)),.d (.tuple [.str "unlike",.list (row.map ba1),.list (row'.map ba1)]),.d (.list [wkD a (kac a V) xs rs,wkD b (kac b W) ys ss])]
    .simp only[rD];refine⟨by show(bl2 _&&(bl2 _&&true))=true;rw[k1,k2];rfl,rfl,by show 0<=9;decide,kff rfl ⟨_,rfl,_,rfl,_,rfl,a,_,rfl,by lia,_,rfl,?_⟩⟩;rw[c1.2];refine⟨rfl,rfl,.inl (by show 1<=9;decide),kff rfl ⟨_,rfl,_,rfl,_,rfl,b,_,rfl,by lia,_,rfl,?_⟩⟩;rw[c2.2];exact⟨rfl,rfl,.inl (by show 1<=9;decide),kff rfl (hN _ rfl)⟩
    rintro env rfl;simp only[rD];exact⟨_,rfl,_,rfl,_,rfl,_,rfl,_,rfl,_,rfl,a,b,V,W,rfl,a1,by lia,b1,by lia,vi,wi,fun e f iso=>(by subst e;obtain⟨k,t⟩:=iso.two;exact zA ⟨row,row',a,V,W,f,k,c1,c2,t⟩ na),fun O=>⟨_,rfl,_,rfl,hR⟩⟩
def koe:FnScope ["script","one","other","first","second","told"] ["script"] (kaj ku9):=by ac_rfl
def k4q{f:Addr}{fd:be7}(F:Fun K "law" "law" ku9 f fd)(T:Txt K mg)(GDSp:F23 P w K mg base)(GOt:Fn P w K mg base "_law_other" 4 ["space","script"] (spG K klf))(GJd:Fn P w K mg base "judged" 23 ["one","other"] (spG K k0r))(GRg:Fn P w K mg base "_law_right" 6 ["one","other","found"] (spG K ksy)):
 FnOk P w K mg base CX0 26 f fd ["script"] (spG K Plaw):=by
 refine F.okG koe (fun ds RS h=>?_) (fun a A o s H E hr=>(kab (kap 1 (fun O=>koe.nd) (kal GDSp ⋯ (kaa (kad 0) (kaa (kae) (kaa (kae) kah)))))
  (kab (kap 2 (fun O=>koe.nd) (kal GOt ⋯ (kaa (kad 1) (kaa (kad 0) kah))))
  (kab (kh9 3 (fun O=>koe.nd) GJd ⋯ (kaa (kad 1) (kaa (kad 2) kah)))
  (kab (kh9 4 (fun O=>koe.nd) GJd ⋯ (kaa (kad 2) (kaa (kad 1) kah)))
  (DSs.frzOT 4 (kab (kba (DT.lend 3 ((kd8 (kbx (kbi (kal GRg ⋯ (kaa (kad 1) (kaa (kad 2) (kaa (kad 3) kah)))).bw)) (kd8 (kbx (kbi (kal GRg ⋯ (kaa (kad 2) (kaa (kad 1) (kaa (kad 4) kah)))).bw)) (kdj (kaw kwg (kam (kai 3) (kae).bw).bw (kam (kai 4) (kae).bw).bw)))).t)) (kag (kax (kcl))) kav)
  (kab (kzx 3 5 nofun (fun O=>koe.nd) (kbi (kfz (kaf 5) kir (fun O=>T.c) (fun O=>T.g)).bw))
  (kag (kax (kal GRg ⋯ (kaa (kad 1) (kaa (kad 2) (kaa (kal GJd ⋯ (kaa (kad 1) (kaa (kad 2) kah))) kah)))))))))))))) (fun ds RS h=>?_)
 .obtain⟨ns,rfl,_⟩:=h;rfl
 .obtain⟨ns,rfl,hn,hR⟩:=h;exists fun env=>∃(n:Nat)(T':Rl),env=[.d (kd7 ns),.d (spD n (kac n T')),.un,.un,.un,.un]/\1<=n/\n<=7/\OrT n T'
  .simp only[rD];exact⟨ns,0,7,rfl,by decide,by decide,fun n ps h1 h2 ⟨t,e,h3,h4⟩=>⟨_,rfl,hN _ ⟨n,t,by rw[e],h1,by lia,⟨h3,h4⟩⟩⟩⟩
  rintro env⟨n,T',rfl,n1,n7,oT⟩;exists fun env=>∃(m:Nat)(U:Rl),env=[.d (kd7 ns),.d (spD n (kac n T')),.d (spD m (kac m U)),.un,.un,.un]/\1<=m/\m<=8/\OrT m U
  .simp only[rD];exact⟨n,T',ns,rfl,n1,n7,oT,fun m U m1 m8 oU=>⟨_,rfl,hN _ ⟨m,U,rfl,m1,m8,oU⟩⟩⟩
  rintro env⟨m,U,rfl,m1,m8,oU⟩;exists fun env=>∃(s:Str)(xs:List bb0)(xss:List (List bb0)),env=[.d (kd7 ns),.d (spD n (kac n T')),.d (spD m (kac m U)),.ot (.str s::xs) xss,.un,.un]/\Good n T' m U s xs xss
  .simp only[rD];exact⟨n,T',m,U,rfl,n1,by lia,m1,by lia,oT,oU,fun s xs xss g=>hN _ ⟨s,xs,xss,rfl,g⟩⟩
  rintro env⟨s,xs,xss,rfl,g1⟩;exists fun env=>∃(s:Str)(ys:List bb0)(yss:List (List bb0)),env=[.d (kd7 ns),.d (spD n (kac n T')),.d (spD m (kac m U)),.ot (.str s::xs) xss,.ot (.str s::ys) yss,.un]/\Good m U n T' s ys yss/\Good n T' m U s xs xss
  .simp only[rD];exact⟨m,U,n,T',rfl,m1,by lia,n1,by lia,oU,oT,fun s' ys yss g=>by
    have e:=g1.tag g;subst e;exact hN _ ⟨s,ys,yss,rfl,g,g1⟩⟩
  clear g1;rintro env⟨s,ys,yss,rfl,g2,g1⟩;refine⟨_,_,rfl,?_⟩;exists fun env=>env=[.d (kd7 ns),.d (spD n (kac n T')),.d (spD m (kac m U)),.ot (.str s::xs) xss,.d (.tuple ((.str s::ys)++yss.map bv8)),.un]
  .simp only[rD];exact⟨_,_,⟨rfl,rfl⟩,n,T',m,U,s,xs,xss,rfl,n1,by lia,m1,by lia,oT,oU,g1,_,rfl,_,rfl,kff rfl ⟨m,U,n,T',s,ys,yss,rfl,m1,by lia,n1,by lia,oU,oT,g2,_,rfl,_,rfl,kff rfl ⟨_,at0 _ _,_,at0 _ _,_,rfl,_,rfl,kff (by simp) (hN _ rfl)⟩⟩⟩
  rintro env rfl;exists fun env=>env=[.d (kd7 ns),.d (spD n (kac n T')),.d (spD m (kac m U)),.un,.d (.tuple ((.str s::ys)++yss.map bv8)),.un]
  .obtain⟨k1,k2,k3⟩:=g1.ok (by lia) (by lia) T.ktl;exact⟨_,_,_,rfl,(by show 5<6;decide),k1,T.kll,k2,k3,rfl,hN _ rfl⟩
  rintro env rfl;simp only[rD];exact⟨n,T',m,U,rfl,n1,by lia,m1,by lia,oT,oU,fun s xs xss g=>⟨_,rfl,n,T',m,U,s,xs,xss,rfl,n1,by lia,m1,by lia,oT,oU,g,_,rfl,hR⟩⟩
end
inductive HasFn(K:ba2)(x:Str)(st:Stmt):Prop
 | mk {f:Addr} {od an:Option Addr} {sl:Array (Option ba6)} {oc kV dc pm cd ct:ba6} (a:bn3 K bi5 x=some (some (.ref f)))
   (l:K.lookup f=some ⟨oc,od,.func (bn1 x x (kca st) (kb1 st) (kaj st) .none kV dc pm an cd ct),sl⟩) (c:b06 K cd x=true) (k:b08 K (.ref f)=true):HasFn K x st
section
variable{P:bb9}{w:be5}{K:ba2}{mg:Str->Option ba6}{base h:Heap}{x:Str}{st:Stmt}{k:Nat}{ps:List Str}
@[reducible]def Bd(x:Str)(st:Stmt)(ps:List Str):Prop:=∀(kV doc pm:ba6)(an:Option Addr)(cdv ct:ba6)(us:List ba6),us.length=ps.length->bindArgs (bn1 x x (kca st) (kb1 st) (kaj st) .none kV doc pm an cdv ct) ⟨us,[]⟩=pure (ps.zip us)
def bd1{p:Str}(h: ∀(kV doc pm:ba6)(an:Option Addr)(cdv ct u:ba6),bindArgs (bn1 x x (kca st) (kb1 st) (kaj st) .none kV doc pm an cdv ct) ⟨[u],[]⟩=pure [(p,u)]):Bd x st [p]:=by
 intro kV doc pm an cdv ct us hl;obtain⟨u,rfl⟩:=bv3.mp hl;exact h kV doc pm an cdv ct u
def bd2{p q:Str}(h: ∀(kV doc pm:ba6)(an:Option Addr)(cdv ct u v:ba6),bindArgs (bn1 x x (kca st) (kb1 st) (kaj st) .none kV doc pm an cdv ct) ⟨[u,v],[]⟩=pure [(p,u),(q,v)]):Bd x st [p,q]:=by
 intro kV doc pm an cdv ct us hl;cases us with
 | nil=>cases hl
 | cons u us=>
   obtain⟨v,rfl⟩:=bv3.mp (bw2 hl);exact h kV doc pm an cdv ct u v
def bd3{p q r:Str}(h: ∀(kV doc pm:ba6)(an:Option Addr)(cdv ct u v w:ba6),bindArgs (bn1 x x (kca st) (kb1 st) (kaj st) .none kV doc pm an cdv ct) ⟨[u,v,w],[]⟩=pure [(p,u),(q,v),(r,w)]):Bd x st [p,q,r]:=by
 intro kV doc pm an cdv ct us hl;cases us with
 | nil=>cases hl
 | cons u us=>
   cases us with
   | nil=>cases hl
   | cons v us=>
     obtain⟨w,rfl⟩:=bv3.mp (bw2 (bw2 hl));exact h kV doc pm an cdv ct u v w
def bd4{p q r z:Str}(h: ∀(kV doc pm:ba6)(an:Option Addr)(cdv ct u v w y:ba6),bindArgs (bn1 x x (kca st) (kb1 st) (kaj st) .none kV doc pm an cdv ct) ⟨[u,v,w,y],[]⟩=pure [(p,u),(q,v),(r,w),(z,y)]):Bd x st [p,q,r,z]:=by
 intro kV doc pm an cdv ct us hl;cases us with
 | nil=>cases hl
 | cons u us=>
   cases us with
   | nil=>cases hl
   | cons v us=>
     cases us with
     | nil=>cases hl
     | cons w us=>
       obtain⟨y,rfl⟩:=bv3.mp (bw2 (bw2 (bw2 hl)));exact h kV doc pm an cdv ct u v w y
def bd5{p q r z y:Str}(h: ∀(kV doc pm:ba6)(an:Option Addr)(cdv ct u v w a b:ba6),bindArgs (bn1 x x (kca st) (kb1 st) (kaj st) .none kV doc pm an cdv ct) ⟨[u,v,w,a,b],[]⟩=pure [(p,u),(q,v),(r,w),(z,a),(y,b)]):Bd x st [p,q,r,z,y]:=by
 intro kV doc pm an cdv ct us hl
 match us,hl with
 | [u,v,w,a,b],_=>exact h kV doc pm an cdv ct u v w a b
def HasFn.fn{sp:Sp}(H:HasFn K x st)(X:K.In h)(G:h.Ns bi5 mg)(ok: ∀{f:Addr}{fd:be7},Fun K x x st f fd->FnOk P w K mg base CX0 k f fd ps sp)(hb:autoParam (Bd x st ps) u15._auto_1):Fn P w K mg base x k ps sp:=by
 obtain⟨a,l,c,kk⟩:=H;have F:Fun K x x st _ _:=kv3 l c kk;exact⟨_,_,ok F,cn2 X G a,kk,F.binds hb⟩
end
def k4r{l:b31}{w:be5}{K:ba2}{h:Heap}{mg:Str->Option ba6}{fa:Addr}(X:K.In h)(G:h.Ns bi5 mg)(hfa:mg "law"=some (.ref fa))
 {f53:Addr}{od53 an53:Option Addr}{sl53:Array (Option ba6)}{oc53 kV53 dc53 pm53 cd53 ct53:ba6}
 (h1:HasFn K "_law_closed" kk6)
 (h2:HasFn K "_law_stir" kzz)
 (h3:HasFn K "_law_draw" kz1)
 (h4:HasFn K "_law_raw" sRaw)
 (h5:HasFn K "_law_cell" kz0)
 (h6:HasFn K "_law_whole" kre)
 (h7:HasFn K "_law_leq" sLeq)
 (h8:HasFn K "same_or_under" kzy)
 (h9:HasFn K "is_point" krb)
 (h10:HasFn K "_law_by_digits" sDig)
 (h11:HasFn K "_law_mixed" sMix)
 (h12:HasFn K "_law_space" krf)
 (h13:HasFn K "_law_is_map" kz2)
 (h14:HasFn K "_law_below" kds)
 (h15:HasFn K "_law_is_fence" kcr)
 (h16:HasFn K "points_under" kcz)
 (h17:HasFn K "points_over" kdd)
 (h18:HasFn K "lowest" kil)
 (h19:HasFn K "highest" kgq)
 (h20:HasFn K "goal" krc)
 (h21:HasFn K "_law_goal" keq)
 (h22:HasFn K "foldable" kfn)
 (h23:HasFn K "_law_foldable" kcs)
 (h24:HasFn K "closed_up" keo)
 (h25:HasFn K "without" kgr)
 (h26:HasFn K "_law_without" kc0)
 (h27:HasFn K "folded" kim)
 (h28:HasFn K "along" kk2)
 (h29:HasFn K "row_to_core" kde)
 (h30:HasFn K "_law_walk" ker)
 (h31:HasFn K "moves" kk3)
 (h32:HasFn K "left" krd)
 (h33:HasFn K "sendings" kfo)
 (h34:HasFn K "_law_drawn_row" kcj)
 (h35:HasFn K "lying" kk4)
 (h36:HasFn K "marks_of" kfp)
 (h37:HasFn K "views" kk5)
 (h38:HasFn K "numbered" kfq)
 (h39:HasFn K "doubtful" kfr)
 (h40:HasFn K "set_apart" kep)
 (h41:HasFn K "refined" kgs)
 (h42:HasFn K "searched" kft)
 (h43:HasFn K "renaming" kfs)
 (h44:HasFn K "to_themselves" kcq)
 (h45:HasFn K "sent_on" kgt)
 (h46:HasFn K "judged" kio)
 (h47:HasFn K "_law_goes" kes)
 (h48:HasFn K "_law_kinds" kdt)
 (h49:HasFn K "_law_any_renaming" kb2)
 (h50:HasFn K "_law_other" kdv)
 (h51:HasFn K "_law_shown" kdw)
 (h52:HasFn K "_law_right" kdx)
 (a53:bn3 K bi5 "law"=some (some (.ref f53)))(l53:K.lookup f53=some ⟨oc53,od53,.func (bn1 "law" "law" (kca ku9) (kb1 ku9) (kaj ku9) .none kV53 dc53 pm53 an53 cd53 ct53),sl53⟩)(c53:b06 K cd53 "law"=true)(k53:b08 K (.ref f53)=true)
 (z0:bn3 K bi5 "range"=some none)
 (z1:bn3 K bi5 "len"=some none)
 (z2:bn3 K bi5 "list"=some none)
 (z3:bn3 K bi5 "tuple"=some none)
 (z4:bn3 K bi5 "isinstance"=some none)
 (z5:bn3 K bi5 "int"=some none)
 (z6:bn3 K bi5 "bool"=some none)
 (z7:bn3 K bi5 "zip"=some none)
 (z8:bn3 K bi5 "all"=some none)
 (z9:bn3 K bi5 "sorted"=some none)
 (z10:bn3 K bi5 "enumerate"=some none)
 (z11:bn3 K bi5 "set"=some none)
 (z12:bn3 K bi5 "reversed"=some none)
 (y0:bi1 K (.type "int") (.type "int")=some true)
 (y1:bi1 K (.type "int") (.type "bool")=some false)
 (y2:bi1 K (.type "tuple") (.type "tuple")=some true)
 (y3:bi1 K (.type "list") (.type "list")=some true)
 (y4:bi1 K (.type "tuple") (.type "list")=some false):
 ∃fd:be7,(∀ (s:ba7)(v:ba6),BindsTo s fd ⟨[v],[]⟩ [("script",v)])/\∀base:Heap,K.In base->base.Ns bi5 mg->FnOk l.prog w K mg base CX0 26 fa fd ["script"] (spG K Plaw):=by
 have e:=hfa.symm.trans (cn2 X G a53);cases e;have T:Txt K mg:=⟨bj3 X G z0,bj3 X G z1,bj3 X G z2,bj3 X G z3,bj3 X G z4,bj3 X G z5,bj3 X G z6,bj3 X G z7,bj3 X G z8,bj3 X G z9,bj3 X G z10,bj3 X G z11,bj3 X G z12,y0,y1,y2,y3,y4⟩
 have F53:=kv3 (st:=ku9) l53 c53 k53;refine⟨bn1 "law" "law" (kca ku9) (kb1 ku9) (kaj ku9) .none kV53 dc53 pm53 an53 cd53 ct53,fun s v=> .of_eq rfl,fun base O O=>?_⟩;have GCd:Fn l.prog w K mg base "_law_closed" 1 ["many","pairs"] (kit K):=h1.fn X G fun F=>krj F T;have GDCd:F8 l.prog w K mg base:=fn_cv GCd fun O O O O=>krm;have GDSt:F7 l.prog w K mg base:=h2.fn X G fun F=>k3l F T;have GDDr:F11 l.prog w K mg base:=h3.fn X G fun F=>k3m F T;have GDRw:F12 l.prog w K mg base:=h4.fn X G fun F=>k3n F T;have GDCl:Fn l.prog w K mg base "_law_cell" 2 ["script","k"] (spG K kk8):=h5.fn X G fun F=>k3o F T GDSt;have GDWh:Fn l.prog w K mg base "_law_whole" 1 ["found"] (spG K krl):=h6.fn X G fun F=>k3p F T;have GDLq:F13 l.prog w K mg base:=h7.fn X G fun F=>k3q F T;have GDSm:F15 l.prog w K mg base:=h8.fn X G fun F=>k3r F T;have GDPt:Fn l.prog w K mg base "is_point" 1 ["many","number"] (spG K krn):=h9.fn X G fun F=>k3s F T;have GDg:Fn l.prog w K mg base "_law_by_digits" 2 ["cell","most"] (spG K k02):=h10.fn X G fun F=>ok_Dg F T GDCd;have GMx:Fn l.prog w K mg base "_law_mixed" 2 ["cell","most"] (spG K k02):=h11.fn X G fun F=>ok_Mx F T GDCd GDDr;have GDSp:F23 l.prog w K mg base:=h12.fn X G fun F=>k3u F T GDRw GDSt GDg GMx;have GDLm:F14 l.prog w K mg base:=h13.fn X G fun F=>k3v F T GDWh GDLq;have GLb:Fn l.prog w K mg base "_law_below" 2 ["other","first","second"] (spG K kla):=h14.fn X G fun F=>ok_Lb F T GDLq;have GLx:Fn l.prog w K mg base "_law_is_fence" 3 ["one","other","rows"] (spG K krs):=h15.fn X G fun F=>ok_Lx F T GDLm GLb;have GPu:F16 l.prog w K mg base:=h16.fn X G fun F=>ok_Pu F T;have GPo:F17 l.prog w K mg base:=h17.fn X G fun F=>ok_Po F T;have GLw:Fn l.prog w K mg base "lowest" 2 ["space","points"] (spG K Plow):=h18.fn X G fun F=>ok_Lw F T GDSm;have GHg:Fn l.prog w K mg base "highest" 2 ["space","points"] (spG K kz6):=h19.fn X G fun F=>ok_Hg F T GDSm;have GGo:F9 l.prog w K mg base:=h20.fn X G fun F=>ok_Go F T GDPt GPu GPo GLw GHg;have GLg:F18 l.prog w K mg base:=h21.fn X G fun F=>ok_Lg F T;have GFb:Fn l.prog w K mg base "foldable" 4 ["space"] (spG K kct):=h22.fn X G fun F=>ok_Fb F T GGo;have GLf:F21 l.prog w K mg base:=h23.fn X G fun F=>ok_Lf F T GLg;have GCu:Fn l.prog w K mg base "closed_up" 1 ["number","gone"] (spG K Pcu):=h24.fn X G fun F=>ok_Cu F T;have GWo:Fn l.prog w K mg base "without" 2 ["space","point"] (spG K Pwo):=h25.fn X G fun F=>ok_Wo F T GCu;have GLo:F19 l.prog w K mg base:=h26.fn X G fun F=>ok_Lo F T;have GFo:F10 l.prog w K mg base:=h27.fn X G fun F=>ok_Fo F T GGo GWo;have GAl:Fn l.prog w K mg base "along" 5 ["space","row"] (spG K krx):=h28.fn X G fun F=>ok_Al F T GFo;have GCo:Fn l.prog w K mg base "row_to_core" 5 ["space"] (spG K k0a):=h29.fn X G fun F=>ok_Co F T GFb GFo;have GLk:F22 l.prog w K mg base:=h30.fn X G fun F=>ok_Lk F T GLg GLo;have GMv:F20 l.prog w K mg base:=h31.fn X G fun F=>ok_Mv F T GFo GGo;have GLe:Fn l.prog w K mg base "left" 6 ["space","row"] (spG K k0c):=h32.fn X G fun F=>ok_Le F T GMv;have GSe:Fn l.prog w K mg base "sendings" 6 ["space","row"] (spG K k0d):=h33.fn X G fun F=>ok_Se F T GMv;have GDw:Fn l.prog w K mg base "_law_drawn_row" 3 ["space","script","at"] (spG K kr2):=h34.fn X G fun F=>ok_Dw F T GDRw GDDr GDSt GLf GLo;have GLy:Fn l.prog w K mg base "lying" 2 ["space"] (spG K kr5):=h35.fn X G fun F=>ok_Ly F T GPu GPo;have GMo:Fn l.prog w K mg base "marks_of" 1 ["marks","points"] (spG K ki3):=h36.fn X G fun F=>ok_Mo F T;have GVi:Fn l.prog w K mg base "views" 2 ["lies","marks"] (spG K kr6):=h37.fn X G fun F=>ok_Vi F T GMo;have GNu:Fn l.prog w K mg base "numbered" 1 ["some_views"] (spG K Pnum):=h38.fn X G fun F=>ok_Nu F T;have GDb:Fn l.prog w K mg base "doubtful" 1 ["marks"] (spG K kr9):=h39.fn X G fun F=>ok_Db F T;have GSa:Fn l.prog w K mg base "set_apart" 1 ["marks","point"] (spG K ksa):=h40.fn X G fun F=>ok_Sa F T;have GRf:F24 l.prog w K mg base:=h41.fn X G fun F=>ok_Rf F T GVi GNu;have RSr: ∀k:Nat,Fn l.prog w K mg base "searched" (4+k) ["one_lying","other_lying","one_marks","other_marks"] (spG K (Psr k)):=fun k=>by
  induction k with
  | zero=>exact h42.fn X G fun F=>k37
  | succ k ih=>exact h42.fn X G fun F=>k36 k F T GRf GDb GSa ih
 have GSr:F25 l.prog w K mg base:=RSr 16;have GRn:Fn l.prog w K mg base "renaming" 22 ["one","other"] (spG K Pren):=h43.fn X G fun F=>ok_Rn F T GLy GSr;have GTh:Fn l.prog w K mg base "to_themselves" 7 ["space","row"] (spG K k0p):=h44.fn X G fun F=>ok_Th F T GSe;have GSo:Fn l.prog w K mg base "sent_on" 1 ["row","core","goals"] (spG K k0q):=h45.fn X G fun F=>ok_So F T;have GJd:Fn l.prog w K mg base "judged" 23 ["one","other"] (spG K k0r):=h46.fn X G fun F=>ok_Jd F T GCo GAl GRn GTh GLe GSo;have GGs:Fn l.prog w K mg base "_law_goes" 1 ["one","other","row","point"] (spG K k0s):=h47.fn X G fun F=>ok_Gs F T;have GKd:Fn l.prog w K mg base "_law_kinds" 1 ["space"] (spG K ks0):=h48.fn X G fun F=>ok_Kd F T;have GAn:Fn l.prog w K mg base "_law_any_renaming" 3 ["one","other"] (spG K Pany):=h49.fn X G fun F=>ok_An F T GKd GGs;have GOt:Fn l.prog w K mg base "_law_other" 4 ["space","script"] (spG K klf):=h50.fn X G fun F=>ok_Ot F T GDCl GDCd GDw GLk GDSp;have GSh:F26 l.prog w K mg base:=h51.fn X G fun F=>ok_Sh F T GDLm GLx;have GRg:Fn l.prog w K mg base "_law_right" 6 ["one","other","found"] (spG K ksy):=h52.fn X G fun F=>ok_Rg F T GSh GLk GLf GAn;exact k4q F53 T GDSp GOt GJd GRg
def walk{l:b31}{q:bb9}{loose:List Str}{XP:(Str->Option ba6)->Heap->Prop}{YP:be5->Heap->Prop}{d:DefRec}{K:Params->ba2}(hn:l.most=some 63)(hdf:d.params.defaults=[])
 (hY: ∀(w:be5)(h:Heap),YP w h->(K w.params).In h)
 (F: ∀(w:be5)(mg:Str->Option ba6)(fa:Addr)(h:Heap),(K w.params).In h->h.Ns bi5 mg->mg d.name=some (.ref fa)->
   ∃fd:be7,(∀ (s:ba7)(u:ba6),BindsTo s fd ⟨[u],[]⟩ [("script",u)])/\∀base:Heap,(K w.params).In base->base.Ns bi5 mg->FnOk l.prog w (K w.params) mg base CX0 26 fa fd ["script"] (spG (K w.params) Plaw)):
 cm2 q loose XP YP l.row.toRowW d [] (fun f vs=>cl7 f vs):=
 L2.kx4 (n:=63) (k:=26) (x:="script") (CX:=fun O=>CX0) (sp:=fun w=>spG (K w.params) Plaw) hn (by decide) hdf ⟨rfl,by decide,by decide⟩ hY F
  (fun O O a ns hl O hS=>⟨[kd7 ns],fun dt=>dt= .d (.bool true),.cons (.scr hS) .nil,⟨ns,rfl,hl,rfl⟩,fun dt v R' H' e O sl=>by subst e;exact Rp.bl_inv sl⟩) fun O O O O O z=>z
end Me
open PySem PySem.W PyProof.Rows
namespace Me
@[inline]def zt0:=top 0
@[inline]def zt1:=top 1
@[inline]def zt2:=top 2
@[inline]def zt3:=top 3
@[inline]def zt4:=top 4
@[inline]def zt5:=top 5
@[inline]def zt6:=top 6
@[inline]def zt7:=top 7
@[inline]def zt8:=top 8
@[inline]def zt9:=top 9
@[inline]def zt10:=top 10
@[inline]def zt11:=top 11
@[inline]def zt12:=top 12
@[inline]def zt13:=top 13
@[inline]def zt14:=top 14
@[inline]def zt15:=top 15
@[inline]def zt16:=top 16
@[inline]def zt17:=top 17
@[inline]def zt18:=top 18
@[inline]def zt19:=top 19
@[inline]def zt20:=top 20
@[inline]def zt21:=top 21
@[inline]def zt22:=top 22
@[inline]def zt23:=top 23
@[inline]def zt24:=top 24
@[inline]def zt25:=top 25
@[inline]def zt26:=top 26
@[inline]def zt27:=top 27
@[inline]def zt28:=top 28
@[inline]def zt29:=top 29
@[inline]def zt30:=top 30
@[inline]def zt31:=top 31
@[inline]def zt32:=top 32
@[inline]def zt33:=top 33
@[inline]def zt34:=top 34
@[inline]def zt35:=top 35
@[inline]def zt36:=top 36
@[inline]def zt37:=top 37
@[inline]def zt38:=top 38
@[inline]def zt39:=top 39
@[inline]def zt40:=top 40
@[inline]def zt41:=top 41
@[inline]def zt42:=top 42
@[inline]def zt43:=top 43
@[inline]def zt44:=top 44
@[inline]def zt45:=top 45
@[inline]def zt46:=top 46
@[inline]def zt47:=top 47
@[inline]def zt48:=top 48
@[inline]def zt49:=top 49
@[inline]def zt50:=top 50
@[inline]def zt51:=top 51
@[inline]def zt52:=top 52
@[inline]def zt53:=top 53
@[inline]def zt54:=top 54
@[inline]def zt55:=top 55
@[inline]def zt56:=top 56
@[inline]def zt57:=top 57
@[inline]def zt58:=top 58
@[inline]def zt59:=top 59
@[inline]def zt60:=top 60
@[inline]def zt61:=top 61
@[inline]def pN:bb9:={PySem.Challenge.pw_fewpoints_k12_whole_judged with main:={PySem.Challenge.pw_fewpoints_k12_whole_judged.main with body:=[zt0,zt1,zt2,zt3,zt4,zt5,zt6,zt7,zt8,zt9,zt10,zt11,zt12,zt13,zt14,zt15,zt16,zt17,zt18,zt19,zt20,zt21,zt22,zt23,zt24,zt25,zt26,zt27,zt28,zt29,zt30,zt31,zt32,zt33,zt34,zt35,zt36,zt37,zt38,zt39,zt40,zt41,zt42,zt43,zt44,zt45,zt46,zt47,zt48,zt49,zt50,zt51,zt52,zt53,zt54,zt55,zt56,zt57,zt58,zt59,zt60,zt61]}}
@[inline]def rN:b31:={PySem.Challenge.rw_fewpoints_k12_whole_judged with prog:=pN}
end Me
namespace PySem.W.Fast
universe eyrpqdkmzqmajt egamvilkwsgynu cdirvasqewnrwn ynsiwuebswsi fjfmwxdmuwcrut gcdzmotsmyrxqj byounlonprcgqu fqqkzrwxqjasqt fllbytiyzwvdkt gsewbfawbdmwjx cpkjgtfprglzsz drfetwcccyjxri byroylmlnhgzdv bwjyymcrhpobgy evnodhqegkvklu fwkbsdsjltydsf ghgkptaowxgubu hvxqfmyasfibv etolqkujsoqeig cgimsszdiudwdv ervujhvgwmhsvk ernyiehlecpquj hawfaibhfotpae bpnjylcoktmvmx dwmdkbgmnvnarc kcedeamnyjrwm evhdhakiiuumvu cjvlxbfqpqmuez czajwdzyqahchw hfoogvxeiwxiaj dorlsxzmbjgzop gngyawfwsrspjd gpfpdfvdswfpva gfpopaclftdphf dglelmlpeenwir eqwsurmhlilxvd hfgpyzubrzqyhf dovymkglxvpxmu fecizzmoghfnne geexcnofyglbwi bmbwvvzstbmg bpzgpeuiuigxmf gnolciarxdpcuz dphgpuoxrfdiqr bsayeidvdhqmj chwlgbwqlpmqee dotanrninrlzzi nbspdilaseph cvaprhtbtiglnz exfohdoujbajmn iopfpyudfrwdb cffnmwwmpmslxl gwbzwulshwcuoa curtooepcmihee dtiazraeqblplb drfwxjppcztqlo butyzrntpuedup gwqprdtimcmcrh dlvnozoreeohge cvnkyumegxeuhs crlwqyfdacngh flimiigyndzyjv exhndmvndiobvt efrifdzfqjqtll cjbqpuojbmbdpa clqsdwhrjkbrry fngqkvcjuxficg cfprqpazfgrapd dwiojlxrrxwxcu djkrlzoaayktbq ezskwstkrlemhs basgcfzoufruao depeijzloimuyc ejhqtvukcvawjc cvdbkyzqtdcinv etiqcenshogbwx cyauilwmbfycpd bkfghoiybufhsy bffdizgamdiekj dcgvttkbgsozai rqmmwpdhmotvj fqsdsqwxfrufqv bgeuvifbibkpji cnovcvafpuogwi hhtiebpmnthxyp spslxbqyphsgv bcuejlkzinuech cktawmyokmletn szykkzudkzvgj cauczoqokqeftc hhkvoksvewuvjs chinfhokbekklo gvthqixgkbamqn evfckfoesicfjs fzeowzqejxugol datwbalhrcqaim fbwvkzvgpzjlvn bkbmtplnuatvxn dozadevviygikm snvddiqojrybo bqhjrbezyozrto gipvlinredfujv chbzpkokyuxhcs czcvhakwnbbmkd fihvdcpxivpuly fogiqdkfrqdteo gqzezajuwyglwv hddhskgjuoeaom dpfednfyhfcedo loamitaokfhsf euhnpmhkhofsyn eahfrzahqkeylp cvhouohlnityyl
end PySem.W.Fast
def Me.held:Me.rN.Holds:=by
 w_on;o_law;k_head;(case hw=>w_witness2)
 k_fill
 refine Me.walk (l:=Me.rN) rfl rfl (fun w h Y=>PySem.W.kIn_of Y) ?F
 case F=>
  intro w mg fa h KX G hmg;refine' Me.k4r KX G hmg ?h1 ?h2 ?h3 ?h4 ?h5 ?h6 ?h7 ?h8 ?h9 ?h10 ?h11 ?h12 ?h13 ?h14 ?h15 ?h16 ?h17 ?h18 ?h19 ?h20 ?h21 ?h22 ?h23 ?h24 ?h25 ?h26 ?h27 ?h28 ?h29 ?h30 ?h31 ?h32 ?h33 ?h34 ?h35 ?h36 ?h37 ?h38 ?h39 ?h40 ?h41 ?h42 ?h43 ?h44 ?h45 ?h46 ?h47 ?h48 ?h49 ?h50 ?h51 ?h52 ?a53 ?l53 ?c53 ?k53 ?z0 ?z1 ?z2 ?z3 ?z4 ?z5 ?z6 ?z7 ?z8 ?z9 ?z10 ?z11 ?z12 ?y0 ?y1 ?y2 ?y3 ?y4
  case h1|h2|h3|h4|h5|h6|h7|h8|h9|h10|h11|h12|h13|h14|h15|h16|h17|h18|h19|h20|h21|h22|h23|h24|h25|h26|h27|h28|h29|h30|h31|h32|h33|h34|h35|h36|h37|h38|h39|h40|h41|h42|h43|h44|h45|h46|h47|h48|h49|h50|h51|h52=>refine' Me.HasFn.mk ?a ?l ?c ?k;case a|l|c|k=>k_is
  case a53|l53|c53|k53|z0|z1|z2|z3|z4|z5|z6|z7|z8|z9|z10|z11|z12=>k_is
  case y0|y1|y2|y3|y4=>kit_is
theorem PySem.Challenge.cw_fewpoints_k12_whole_judged_holds : PySem.Challenge.rw_fewpoints_k12_whole_judged.Holds :=
 Me.held
