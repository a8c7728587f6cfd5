import PyProof.Rows.All
import Wide.All
import OpenK.AllK
import Wide.FinOn
import Lean
import PyProof.EqAt
import PyProof.EqKinds
import PyProof.TupleCall
import PyProof.NeData
import PyProof.ZipIter
import PyProof.Draws
import PyProof.ConsumeWalk
import PyProof.SumAny
import PyProof.StationsW
import PyProof.ExcArgsOwn
import PyProof.ExcAttrAll.ValueError
import OpenK.KDescr
import KE.KIsAll
import OpenK.KOwn
import KE.KSortTup
import KE.KDictSum
import KE.KSortKey
import KE.KDictIter
import PyProof.AutoSeq1
import KE.KxSplit
import PyProof.CallStr
import PyProof.StrLawsTight
import PyProof.StrLawsNeg
import KE.KIntText
import PyProof.WalkInts
import PySem.SetOps
import PyProof.WalksEnum
import PyProof.EnumMake
import PyProof.CollectWalk
import PyProof.TupleOfSeq
import PyProof.FactsAll.tuple_0
import KE.KRevIter
import KE.KDictList
import PySem.Challenge.RW_fewpoints_k15_whole_cores_of_made_ones
open PySem.W renaming Frag → ba0, kitOne → be7, mg_none_of → bf6, nsIn → bh9, kia_one → bl9, fnOf → bm4, cellsFrom_some → bt1, keepIn → bv8, findIn → b07, codeIn → b08, OpenLaw → b36, methodObj → b63, mg_of → b85, instObj → b97, lookIn → cb9, mroIn → cc8, callWith_K → cd0, kitx_list → ce8, kitx_dict → ce9, plainGet → ch5, kat_cons → cj2, WalkO → cl3, kat_yes → cl4
open PySem.PyData renaming int → ba1, canLayAll0 → be1, eqv → bi2, depthAll → bi4, eqvAll → bm2, none → bm9, depth → bu9, canLay0 → bv9, tuple → cm7, bool → cn4, list → cn5
open PySem renaming wpAny_bind → ba2, Shared → ba4, PyData → ba9, wpAny_pure → bb4, Program → bb8, starEach → bd5, FuncData → bf0, mainGlobals → bf5, Around → bf8, compareOp → bh4, wpAny_call_entry → bj1, mem_of_lookup → bj4, wpAny_holding → bl1, wpAny_truthy_bool → bm3, wpAny_specialOf → bm7, wpAny_setState_of → bo1, wpAny_Call_Name_kw → bo6, wpAny_mono → bp8, wpAny_eqBool_int → bq4, wpAny_forIn_list → bq6, sizeLine_eq → bq9, wpAny_passesOwn → br6, wpAny_newObj_type → br9, eqIsQuiet_byValue → bs3, attributeBase → bs6, swapsWith → bs9, wpAny_callSpecialIfBoundUnlessNone?_slot → bt9, codeAny_builtin → bu5, builtinLookup_eq_fast → bu6, wpAny_ite_split → bu7, wpAny_pyHash_int → bw3, wpAny_askSetting → bw4, wpAny_isInstance → bw5, wpAny_of_eq → bx2, keywordEach → bx3, codeAny_mono → bx4, wpAny_callSpecial?_slot → bz5, wpAny_tupleItemsOf → bz6, wpAny_pyIter_list → bz9, wpAny_seqItems → b12, Fin → b18, wpAny_newList → b32, wpAny_execs_nil → b35, pushCells_keeps → b38, typeLookup_type → b43, wpAny_setEntries_of → b44, wpAny_setField_rec → b52, isSubtype_type → b62, call_meets → b65, wpAny_comprehension_free → b67, seqIndex_of → b69, wpAny_standAt → b78, wpAny_attempt → b82, plainId_quiet → b84, backToKw → b86, noFill_tuple_add → b87, isSubtype_tuple_tuple → ca8, wpAny_ret_mkInt → ca9, seq_tuple_add → cd1, wpAny_assign_Name → ce7, wpAny_rule → cf5, wpAny_storeSet_of → cf6, wpAny_pyIter_slot → cf7, wpAny_cRoomFor_or → cf8, wpAny_pyIter_enum → cf9, concat_meets → cg3, seqIndex_neg → cg4, wpAny_typeOf → ch3, wpAny_execs_cons → ch4, beq_builtin_none → ci1, seqIndex_of → cj4, wpAny_Name → ck6, wpAny_call → ck7, typeIs_int → ck8, call → ck9, Within → cm5
open List renaming length_map → ba3, range → ba5, length_append → ba6, mem_range → ba7, mem_map → ba8, getElem?_eq_some_iff → bb1, getElem?_eq_getElem → bb2, getElem?_append_right → bb5, mem_cons_of_mem → bb7, getD_eq_getElem?_getD → bb9, map_map → bc1, mem_singleton → bc2, getElem?_append_left → bc3, mem_cons_self → bc4, append_assoc → bc6, mem_cons → bc7, size_toArray → bc8, pairwise_iff_getElem → bd0, mem_of_getElem? → be2, getElem?_map → be3, append_nil → be4, pairwise_append → be6, getElem_mem → be8, mem_append → be9, mem_filter → bf1, length_cons → bf2, replicate → bf9, getElem_of_mem → bg0, length_range → bg2, map_cons → bg5, mem_append_right → bg7, mem_map_of_mem → bh2, length_singleton → bh8, take_append_drop → bi0, flatten_cons → bi1, length_take → bi3, map_append → bi5, drop_eq_getElem_cons → bi6, nodup_range → bi7, map_congr_left → bi8, idxOf_lt_length_iff → bi9, getElem?_cons_succ → bj3, take_of_length_le → bj5, drop_of_length_le → bj6, pairwise_cons → bj9, length_eraseIdx_of_lt → bk0, replicate_succ → bk2, length_reverse → bk4, nodup_cons → bk5, lookup_cons → bk6, pairwise_map → bk7, mem_of_mem_take → bk8, filter_cons_of_pos → bl2, perm_ext_iff_of_nodup → bl5, not_mem_nil → bm1, mem_iff_getElem? → bm5, getElem?_cons_zero → bm8, filter_cons_of_neg → bn1, range_succ → bn3, mem_append_left → bn4, all_eq_true → bn6, length_drop → bn7, nodup_iff_pairwise_ne → bn9, mem_take_iff_getElem → bo4, filter_append → bp0, getElem_map → bp2, mem_of_mem_drop → bp3, pairwise_singleton → bp5, reverse_append → bq1, mem_reverse → bq5, getElem?_eq_none → bq8, extract_eq_take_drop → br2, ext_getElem? → bs1, nodup_append → bs2, filterMap_cons → bs4, flatMap_append → bs5, ext_getElem → bs8, length_eq_one_iff → bt3, mem_filterMap → bt4, getElem_idxOf → bt6, length → bu0, length_nil → bu4, length_filter_le → bu8, take_sublist → bv0, getElem?_set → bv1, take_add_one → bv2, take_take → bw0, mem_drop_iff_getElem → bw1, nodup_nil → bw2, find?_range_eq_none → bx6, getElem?_replicate → by2, nil_append → by4, getElem?_take → by8, set_cons_zero → bz1, length_eq_zero_iff → bz4, drop_sublist → b02, reverse_cons → b04, flatMap_cons → b05, filter_congr → b06, length_replicate → b13, map_nil → b14, perm_append_comm → b20, drop_append_of_le_length → b24, cons_append → b25, eq_nil_of_length_eq_zero → b26, flatMap_nil → b28, getElem?_set_ne → b29, countP_eq_length_filter → b34, filter_eq_self → b39, flatten_append → b40, getElem?_concat_length → b42, length_zipIdx → b53, set_cons_succ → b54, filter_filter → b55, forIn_nil → b58, take_zero → b61, find?_range_eq_some → b72, take_length → b89, drop_length → b91, getElem?_set_self → b92, of_mem_zip → ca0, foldl_cons → ca1, forIn_cons → ca2, getElem?_reverse → ca3, countP_mono_left → cb0, filter_map → cb3, eraseIdx_sublist → cb4, reverse_reverse → cb8, drop_zero → cc0, drop_take → cc1, replicate_zero → cc7, any_cons → cd3, getElem_range → cd4, zip_cons_cons → cd5, getElem?_drop → cd7, map_take → cd9, map_drop → ce0, map_inj_right → ce5, find?_eq_none → ce6, foldl → cf1, zip_toArray → ch8, countP_cons → ci2, any_eq_true → ci6, flatMap_def → ci9, find?_some → ck0, take_left → ck2
open PySem.Heap renaming get?_push_of_some → bb0, lt_size → bd7, get?_push_size → bd8, SameBut → bn5, size_push → br0, get?_update_other → bt2, get?_update_self → bu1, get?_update_ne → b41, size_update → b90
open Bool renaming false_ne_true → bb3, eq_iff_iff → bh0, and_eq_true → bh5, false_eq_true → bn0, and_eq_true_iff → bv6, not_eq_true' → b03, and_false → b09, true_and → b33, or_eq_true → b37, false_and → b57, eq_false_iff → b68, false_xor → cc3, not_false → cc4, or_false → cd2, not_eq_false' → cd6, true_xor → cm1
open Nat renaming le_refl → bb6, ne_of_lt → bf3, zero_le → bf4, add_sub_cancel_left → bg9, lt_of_lt_of_le → bh1, lt_succ_of_lt → bj0, le_trans → bj2, lt_irrefl → bk1, lt_trichotomy → bl3, lt_or_eq_of_le → bl7, not_lt_zero → bo5, lt_succ_self → bp1, mul_le_mul → bp7, le_succ → bq0, min_eq_left → bu3, add_assoc → bv4, add_sub_cancel → by9, sub_self → b21, div_add_mod → b45, ne_of_gt → b48, mul_comm → b49, lt_of_le_of_lt → b50, zero_add → b51, le_succ_of_le → b66, le_of_lt_succ → b74, lt_succ_iff_lt_or_eq → b77, lt_of_succ_lt_succ → b94, le_of_lt → b98, succ_pos → ca4, mod_lt → cb6, le_of_succ_le → cf2, succ_mul → cg5, add_zero → ch0, lt_or_ge → ch2, succ_le_succ → ch6, le_of_not_lt → ch7, div_eq_of_lt → ch9, reduceLeDiff → ci5, le_add_right → ci8, not_lt → cl0, reduceAdd → cm2, reduceSub → cm3, lt_trans → cm6, sub_zero → cm8
open Array renaming length_toList → bc0, getElem?_eq_getElem → bd9, getElem?_toList → be5, toList_append → bg6, getD_eq_getD_getElem? → bl0, getElem?_eq_none → bo0, toList_reverse → br4, toList_push → bs0, forIn_toList → bt8, toList_extract → bv7, toArray_toList → b30, getElem_toList → b31, getElem?_eq_some_iff → b47, size_setIfInBounds → b71, toList → b99, replicate → ca5, mem_toList_iff → cb7
open PyProof.Rows renaming wpS_bind → bc5, wpS_pure → bd6, Keyed → be0, SortSt → bh3, callWith_type1 → bk9, wpS_forRange → bl6, SortKind → bp6, entry_list_sort → by5, wpS_mono → by7, slot_list_sort → b10, args_list_sort → b11, wpS_get → b60, wpS_modify → b70, listUpdate_at → b81, subscriptTail_builtinR → b93, seqEpoch_at → cc5, sortedAll_old → cd8, size_push' → cf4, plain_sorted → cg7, entry_sorted → cg8, args_sorted1 → cg9, sortedAll_at → ch1, kind_sorted → cj7
open PySem.Value renaming none → bc9, ref → bg1, type → bt0, int → by1, bool → ck5, builtin → cm0, str → cm4, float → cn2
open PySem.PassesOwn renaming never → bf7
open Option renaming map_eq_some_iff → bg3, isSome_iff_exists → bo7, getD_some → bs7, getD_none → b88, map → cl1, none → cn3
open Option.some renaming inj → bg4, injEq → b00
open Int renaming toNat_natCast → bg8, eq_ofNat_of_zero_le → bl4, le_trans → bn8, le_of_lt → bq7, emod_lt_of_pos → bt7, le_refl → bu2, emod_nonneg → bz2, zero_add → b15, mul_le_mul_of_nonneg_right → b19, sub_zero → cg6, natCast_ediv → cj0, natCast_emod → cj1, le_of_eq → cm9, ne_of_gt → cn1
open PySem.Builtin.Tuple renaming tupleHashOf → bh6, tupleItemsOf → bv5
open PySem.F renaming plainAttrs_list → bh7, slot_tuple_hash → bm6, slot_list_append → bo8, type_list_append → bo9, args_tuple_add_2 → bx5, entry_tuple_add → by3, slot_tuple_add → bz7, slot_list_pop → b16, type_list_pop → b17, slot_tuple_index → b75, slot_list_index → b80, slot_set_iter → ca7, slot_dict_len → cb1, args_tuple_hash_1 → cc6, entry_tuple_hash → ce1, plain_list_iadd → cg0, slot_int_rmul → cj5, plain_set_new → cj8, slot_tuple_lt → cj9
open PySem.NameKind renaming free → bj7, cell → bo3
open List.Perm renaming refl → bj8, trans → bz0, append_left → b22, swap → cc2, cons_inv → ce4, nil_eq → ci7
open PySem.W.Fast renaming te12456147031677567982 → bk3, te8050958516035322399 → bq3, tw17852939151971871240 → bw8, tw11371033205705349026 → bw9, tw8001965791261037382 → bx7, tw6096456617080501612 → bx8, tw5464061087179277862 → bx9, te2398297429280069960 → by0, te494991955013373658 → by6
open PySem.Obj renaming mapSeq → bl8, putSet → cl2
open LawfulBEq renaming eq_of_beq → bm0
open PySem.Builtin.List renaming listExtendWith → bn2, listLengthHint → bq2, listTooLong → br7, listSameRef → b76, listItems → b95
open Or renaming inl → bo2, inr → cj3
open Classical renaming propDecidable → bp4, byContradiction → br3
open False renaming elim → bp9
open PySem.Calls renaming call_function_entry → br1, Name_function_global → b46, spliced_cons → cc9, spliced_nil → cf0
open PySem.Around renaming under_plainId → br5, in1_units → b27
open List.Pairwise renaming nil → br8, map → b73
open Prod renaming ext → bt5, fst → bw6, snd → bw7
open Int.ofNat renaming inj → bv3
open PySem.Heap.SameBut renaming update → bx1, refl → cf3
open PyProof.Rows.F renaming plain_set_update_loop → bz3, entry_set_update_loop → b83
open Ne renaming symm → bz8
open PySem.SeqAt renaming EqAt → b01
open Nat.succ renaming inj → b23
open Sum renaming inr → b56, inl → b96
open PySem.PyData.int renaming inj → b59, injEq → ci4
open True renaming intro → b64
open PySem.Builtin.Range renaming rangeSize → b79
open PySem.Str renaming ofString → ca6
open PySem.PyData.dict renaming inj → cb2
open PyProof.Rows.SortSt renaming mk' → cb5
open PySem.SeqAt.EqAt renaming int_int → ce2
open PySem.PyData.tuple renaming injEq → ce3
open PySem.PyData.bool renaming injEq → cg1
open PySem.PyData.list renaming injEq → cg2
open PySem.SetTable renaming tooFull → ci0, grown → ck3, slot → cl7, laid → cl8, fill → cl9
open PySem.PyData.str renaming injEq → ci3
open ForInStep renaming yield → cj6
open PySem.P renaming lt_int → ck1
open PyProof.Rows.IntsAre renaming int_at → ck4
open PySem.W.R renaming foldlR → cl5
open PySem.W.Looks renaming of_pure → cl6
open PySem.W.KatTups renaming cons → cn0, nil → cn6
open Iff renaming rfl → cn7
open PySem.W.WShape renaming has → cn8
open PySem.Walks renaming list → cn9
set_option Elab.async false
set_option linter.all false
set_option maxRecDepth 100000
set_option tactic.hygienic false
namespace L2
theorem u1 (_:True:=by first | exact .inl rfl | exact .inr rfl | assumption):True:=trivial
theorem u2 (_:True:=by decide):True:=trivial
theorem u3 (_:True:=by intro q_;rfl):True:=trivial
theorem u4 (_:True:=by rfl):True:=trivial
theorem u5 (_:True:=by with_unfolding_all rfl):True:=trivial
theorem u6 (_:True:=by first | exact bo2 rfl | exact cj3 (bo2 rfl) | exact cj3 (cj3 rfl)):True:=trivial
theorem u7 (_:True:=by intro b z;cases z;rfl):True:=trivial
theorem u8 (_:True:=by intro q_;exact pv _):True:=trivial
theorem u9 (_:True:=by first | exact kdg _ | rfl):True:=trivial
theorem u10 (_:True:=by intro q_ q_;rfl):True:=trivial
theorem u11 (_:True:=by intro q_;exact ⟨rfl,rfl,rfl,rfl,rfl⟩):True:=trivial
theorem u12 (_:True:=by intro q_;first | exact bo2 rfl | exact cj3 rfl):True:=trivial
theorem u13 (_:True:=by intro q_;first | exact .inl rfl | exact .inr rfl):True:=trivial
theorem u14 (_:True:=by simp):True:=trivial
open PySem PySem.Spec PyProof.Rows
abbrev Key:=Sum Int Str
noncomputable def kza:Key→Value→Bool
 | .inl k,v=>Value.isInt k v
 | .inr x,v=>Value.isStrOf x v
noncomputable def keyH (w:World):Key→Int
 | .inl k=>hashInt k
 | .inr x=>hashStr w x
theorem kbd: ∀{k:Key} {v:Value},kza k v=true→(∃ i t,k=b96 i∧v=by1 i t)∨(∃ x t,k=b56 x∧v=cm4 x t)
 | .inl i,v,h=>by
   obtain ⟨t,e⟩:=Value.isInt_shape (k:=i) (v:=v) h
   exact .inl ⟨i,t,rfl,e⟩
 | .inr x,v,h=>by
   obtain ⟨t,e⟩:=Value.isStrOf_shape (x:=x) (v:=v) h
   exact .inr ⟨x,t,rfl,e⟩
theorem kzb (a b:Int):decide ((b96 a:Key)=b96 b)=(a == b):=by
 by_cases e:a=b
 · subst e;simp
 · have h: ¬(b96 a:Key)=b96 b:=fun q=>e (b96.inj q)
   rw [decide_eq_false h]
   exact (beq_eq_false_iff_ne.mpr e).symm
theorem kzc (a b:Str):decide ((b56 a:Key)=b56 b)=decide (a=b):=by
 by_cases e:a=b
 · subst e;simp
 · have h: ¬(b56 a:Key)=b56 b:=fun q=>e (b56.inj q)
   rw [decide_eq_false h,decide_eq_false e]
theorem kzd (a:Int) (b:Str):decide ((b96 a:Key)=b56 b)=false:=decide_eq_false (fun q=>nomatch q)
theorem kze (a:Str) (b:Int):decide ((b56 a:Key)=b96 b)=false:=decide_eq_false (fun q=>nomatch q)
noncomputable def kno (prog:bb8) (w:World):PySem.KeyKind prog w Key where
 is:=kza
 hash:=keyH w
 inj:=fun v a b ha hb=>by
  rcases kbd ha with ⟨i,t,rfl,rfl⟩ | ⟨x,t,rfl,rfl⟩
  · rcases kbd hb with ⟨j,u,rfl,e⟩ | ⟨y,u,rfl,e⟩
    · injection e with e1 _;rw [e1]
    · exact nomatch e
  · rcases kbd hb with ⟨j,u,rfl,e⟩ | ⟨y,u,rfl,e⟩
    · exact nomatch e
    · injection e with e1 _;rw [e1]
 byValue:=fun k v h=>by
  rcases kbd h with ⟨i,t,rfl,rfl⟩ | ⟨x,t,rfl,rfl⟩ <;> rfl
 pyHash:=fun hv h=>by
  rcases kbd hv with ⟨i,t,rfl,rfl⟩ | ⟨x,t,rfl,rfl⟩
  · exact bw3 h
  · exact wpAny_pyHash_str h
 eqBool:=fun hu hv h=>by
  rcases kbd hu with ⟨i,t,rfl,rfl⟩ | ⟨x,t,rfl,rfl⟩
  · rcases kbd hv with ⟨j,u,rfl,rfl⟩ | ⟨y,u,rfl,rfl⟩
    · rw [kzb] at h;exact bq4 h
    · rw [kzd] at h;exact b01.int_str i t y u _ _ _ _ h
  · rcases kbd hv with ⟨j,u,rfl,rfl⟩ | ⟨y,u,rfl,rfl⟩
    · rw [kze] at h;exact b01.str_int x t j u _ _ _ _ h
    · rw [kzc] at h;exact wpAny_eqBool_str h
 «strs» :=fun k x t v h=>by
  rcases kbd h with ⟨i,u,rfl,e⟩ | ⟨y,u,rfl,e⟩
  · exact nomatch e
  · injection e with e1 _
    subst e1
    cases v <;> rfl
end L2
namespace L2
open PySem PySem.Spec PyProof.Rows
inductive V where
 | non | bl (b:Bool) | int (i:Int) | str (x:Str) | byt (b:Array UInt8) | flt (b:UInt64) | ref (a:Addr) | ty (n:String)
 deriving DecidableEq
noncomputable def RelV:V→Value→Prop
 | .non,u=>u=bc9
 | .bl b,u=>u=ck5 b
 | .int i,u=>∃t,u=by1 i t
 | .str x,u=>∃t,u=cm4 x t
 | .byt b,u=>∃t,u=Value.bytes b t
 | .flt b,u=>∃t,u=cn2 b t
 | .ref a,u=>u=bg1 a
 | .ty n,u=>u=bt0 n
abbrev Vals:List V→List Value→Prop:=Paired RelV
theorem Vals.length {xs:List V} {us:List Value} (r:Vals xs us):xs.length=us.length:=Paired.length r
theorem Vals.get: ∀{xs:List V} {us:List Value} {i:Nat} {x:V},Vals xs us→xs[i]?=some x→∃u,us[i]?=some u∧RelV x u
 | _,_,_,_,.nil,e=>by simp at e
 | _,_,0,_,.cons r _,e=>by simp at e;subst e;exact ⟨_,rfl,r⟩
 | _,_,i + 1,x,.cons _ t,e=>by
   obtain ⟨u,h1,h2⟩:=Vals.get (i:=i) (x:=x) t (by simpa using e)
   exact ⟨u,by simpa using h1,h2⟩
theorem Vals.set {x:V} {u:Value} (r:RelV x u): ∀{xs:List V} {us:List Value} (i:Nat),Vals xs us→Vals (xs.set i x) (us.set i u)
 | _,_,_,.nil=> .nil
 | _,_,0,.cons _ t=> .cons r t
 | _,_,i + 1,.cons q t=> .cons q (Vals.set r i t)
theorem Vals.append: ∀{xs ys:List V} {us ws:List Value},Vals xs us→Vals ys ws→Vals (xs++ys) (us++ws)
 | _,_,_,_,.nil,s=>s
 | _,_,_,_,.cons r t,s=> .cons r (Vals.append t s)
noncomputable def RelO:Option V→Option Value→Prop
 | some v,some u=>RelV v u
 | none,none=>True
 | _,_=>False
def KV {κ:Type}:List (κ×V)→List (κ×Value)→Prop:=Paired fun (p:κ×V) (q:κ×Value)=>p.1=q.1∧RelV p.2 q.2
noncomputable def kV:Key→V
 | .inl i=> .int i
 | .inr x=> .str x
inductive HO where
 | lst (xs:List V)
 | tup (xs:List V)
 | dK (kvs:List (Key×V)) | dT (kvs:List (List Key×V))
 | set (S:Int→Bool) (n:Nat)
 | ins (C dx:Addr) (fs:List (Str×V))
 | own (x:Addr)
 | xd (fs:List (Str×V))
 | met (f x:Addr)
 | rng (lo hi:Int)
 | frz (o:Obj) (u:HO)
 | tbl (ps:Array Value)
 | ext (φ:Heap→Prop)
abbrev Hp:=Addr→Option HO
noncomputable def upd (H:Hp) (a:Addr) (o:HO):Hp:=fun b=>if b=a then some o else H b
theorem kaf {H:Hp} {a:Addr} {o:HO}:upd H a o a=some o:=by unfold upd;rw [if_pos rfl]
theorem kak {H:Hp} {a b:Addr} {o:HO} (h:b≠a):upd H a o b=H b:=by unfold upd;rw [if_neg h]
theorem kzf {H:Hp} {a b:Addr} {o u:HO} (h:H a=some o) (h':H b=some u) (d:o≠u):a≠b:=by
 intro e;subst e;rw [h] at h';exact d (bg4 h')
theorem kai {H:Hp} {a b:Addr} {o:HO} (h:H a=some o) (h':H b=none):a≠b:=by
 intro e;subst e;rw [h] at h';cases h'
section
variable (P:bb8) (w:World)
def NoD (h:Heap) (a:Addr):Prop:=∃o,h.get? a=some o∧o.dict=none
noncomputable def ObjOk (H:Hp) (h:Heap) (a:Addr):HO→Prop
 | .lst xs=>xs.length≤sizeLine∧∃(its:List Value) (n:Nat),Vals xs its∧h.get? a=some {cls:= .type "list",data:= .seq its.toArray n}
 | .tup xs=>(NoD h a∧xs.length≤sizeLine)∧∃its:List Value,Vals xs its∧IsTup h a its.toArray
 | .dK kvs=>kvs.length≤sizeLine∧(a == sysModules)=false∧∃vs,KV kvs vs∧h.DictOf (kno P w) a vs
 | .dT kvs=>kvs.length≤sizeLine∧(a == sysModules)=false∧∃xs:List (List Key×Addr×Value),
    Paired (fun (p:List Key×V) (q:List Key×Addr×Value)=>p.1=q.1∧H q.2.1=some (.tup (p.1.map kV))∧RelV p.2 q.2.2) kvs xs∧
    ∃o es ep,h.get? a=some o∧o.ExactDict∧o.data= .dict es ep∧es.toList=xs.map (entryOfKey (tupleKind (kno P w)))∧(xs.map (·.1)).Nodup
 | .set S n=>h.SetOf (intKind P w) a S n
 | .ins C dx fs=>H dx=some (.own a)∧fs.length≤1000∧dx≠a∧h.get? a=some (b97 C dx)∧
    ∃mA,h.Ns1 dx mA∧(∀ f,RelO (fs.lookup f) (mA f))∧cm5 mA (fs.map (·.1))
 | .own _=>∃o,h.get? a=some o
 | .xd fs=>∃mA,h.Ns1 a mA∧∀f,RelO (fs.lookup f) (mA f)
 | .rng lo hi=>∃t u v,h.get? a=some {cls:= .type "range",data:= .fields #[.int lo t,.int hi u,.int 1 v]}
 | .frz o u=>h.get? a=some o∧ObjOk H h a u
 | .tbl ps=>h.get? a=some {cls:= .none,data:= .fields ps}
 | .met f x=>h.get? a=some (b63 (.ref f) (.ref x))
 | .ext φ=>φ h∧(∃ o,h.get? a=some o)∧∀h1 h2:Heap,φ h1→(∀ o,h1.get? a=some o→h2.get? a=some o)→φ h2
def HOk (H:Hp) (h:Heap):Prop:=∀a o,H a=some o→ObjOk P w H h a o
end
section
variable {P:bb8} {w:World} {H H':Hp} {h h':Heap} {a:Addr} {o:HO}
theorem ObjOk.lt (x:ObjOk P w H h a o):a < h.objs.size:=by
 cases o with
 | lst xs=>obtain ⟨_,_,_,_,e⟩:=x;exact bd7 e
 | tup xs=>obtain ⟨_,_,_,p⟩:=x;exact p.lt
 | dK kvs=>obtain ⟨_,_,_,_,o,_,_,e,_⟩:=x;exact bd7 e
 | dT kvs=>obtain ⟨_,_,_,_,o,_,_,e,_⟩:=x;exact bd7 e
 | set S n=>obtain ⟨o,_,_,_,e,_⟩:=x;exact bd7 e
 | ins C dx fs=>obtain ⟨_,_,_,e,_⟩:=x;exact bd7 e
 | own y=>obtain ⟨_,e⟩:=x;exact bd7 e
 | xd fs=>obtain ⟨_,⟨_,_,_,e,_⟩,_⟩:=x;exact bd7 e
 | rng lo hi=>obtain ⟨_,_,_,e⟩:=x;exact bd7 e
 | frz ob u=>obtain ⟨e,_⟩:=x;exact bd7 e
 | tbl ps=>exact bd7 (show h.get? a=some _ from x)
 | met f y=>exact bd7 (show h.get? a=some _ from x)
 | ext φ=>obtain ⟨_,⟨_,e⟩,_⟩:=x;exact bd7 e
theorem Paired.mapP {α β:Type} {F G:α→β→Prop}: ∀{l₁:List α} {l₂:List β},Paired F l₁ l₂→(∀ a b,F a b→G a b)→Paired G l₁ l₂
 | _,_,.nil,_=> .nil
 | _,_,.cons r t,f=> .cons (f _ _ r) (Paired.mapP t f)
theorem ObjOk.stay (x:ObjOk P w H h a o) (k: ∀b u,(b=a∨H b=some (.own a))→h.get? b=some u→h'.get? b=some u)
 (ho: ∀b,H b=some (.own a)→H' b=some (.own a)) (ht: ∀b xs,H b=some (.tup xs)→H' b=some (.tup xs)):ObjOk P w H' h' a o:=by
 induction o with
 | lst xs=>obtain ⟨z,its,n,r,e⟩:=x;exact ⟨z,its,n,r,k _ _ (.inl rfl) e⟩
 | tup xs=>obtain ⟨⟨⟨ob2,e2,d2⟩,z⟩,its,r,ob,e,c⟩:=x;exact ⟨⟨⟨ob2,k _ _ (.inl rfl) e2,d2⟩,z⟩,its,r,ob,k _ _ (.inl rfl) e,c⟩
 | dK kvs=>obtain ⟨z,y,vs,r,ob,es,ep,e,c⟩:=x;exact ⟨z,y,vs,r,ob,es,ep,k _ _ (.inl rfl) e,c⟩
 | dT kvs=>
   obtain ⟨z,y,xs,r,ob,es,ep,e,c⟩:=x
   exact ⟨z,y,xs,Paired.mapP r fun p q z=>⟨z.1,ht _ _ z.2.1,z.2.2⟩,ob,es,ep,k _ _ (.inl rfl) e,c⟩
 | set S n=>obtain ⟨ob,es,ep,t,e,c⟩:=x;exact ⟨ob,es,ep,t,k _ _ (.inl rfl) e,c⟩
 | ins C dx fs=>
   obtain ⟨d,z,ne,e,mA,⟨od,es,ep,e2,c⟩,r⟩:=x
   exact ⟨ho _ d,z,ne,k _ _ (.inl rfl) e,mA,⟨od,es,ep,k _ _ (.inr d) e2,c⟩,r⟩
 | own y=>obtain ⟨ob,e⟩:=x;exact ⟨ob,k _ _ (.inl rfl) e⟩
 | xd fs=>obtain ⟨mA,⟨od,es,ep,e,c⟩,r⟩:=x;exact ⟨mA,⟨od,es,ep,k _ _ (.inl rfl) e,c⟩,r⟩
 | rng lo hi=>obtain ⟨t,u,v,e⟩:=x;exact ⟨t,u,v,k _ _ (.inl rfl) e⟩
 | frz ob u ih=>obtain ⟨e,q⟩:=x;exact ⟨k _ _ (.inl rfl) e,ih q⟩
 | tbl ps=>
   have e:h.get? a=some {cls:= .none,data:= .fields ps}:=x
   show h'.get? a=some {cls:= .none,data:= .fields ps}
   exact k a _ (.inl rfl) e
 | met f y=>
   have e:h.get? a=some (b63 (.ref f) (.ref y)):=x
   show h'.get? a=some (b63 (.ref f) (.ref y))
   exact k a _ (.inl rfl) e
 | ext φ=>obtain ⟨p,⟨o,e⟩,st⟩:=x;exact ⟨st _ _ p fun o q=>k _ _ (.inl rfl) q,⟨o,k _ _ (.inl rfl) e⟩,st⟩
theorem HOk.lt (x:HOk P w H h) (e:H a=some o):a < h.objs.size:=(x a o e).lt
theorem HOk.fresh (x:HOk P w H h) (e:h.objs.size≤a):H a=none:=by
 cases q:H a with
 | none=>rfl
 | some u=>exact absurd (bh1 (x.lt q) e) (bk1 _)
theorem HOk.kept (x:HOk P w H h) (k: ∀b u,h.get? b=some u→h'.get? b=some u):HOk P w H h':=fun a o e=>
 (x a o e).stay (fun b u q_ q=>k b u q) (fun q_ q=>q) fun q_ q_ q=>q
theorem HOk.laid (x:HOk P w H h) (k: ∀b u,h.get? b=some u→h'.get? b=some u) (hp:h.objs.size≤a) (new:ObjOk P w (upd H a o) h' a o):HOk P w (upd H a o) h':=fun b u e=>by
 have hn:=x.fresh hp
 by_cases hb:b=a
 · subst hb;rw [kaf] at e;cases e;exact new
 · rw [kak hb] at e
   exact (x b u e).stay (fun c v q_ q=>k c v q) (fun c q=>by rw [kak (kai q hn)];exact q) fun c xs q=>by rw [kak (kai q hn)];exact q
end
def Rd (H:Hp) (a:Addr) (u:HO):Prop:=H a=some u∨∃o,H a=some (.frz o u)
theorem Rd.ok {P:bb8} {w:World} {H:Hp} {h:Heap} {a:Addr} {u:HO} (r:Rd H a u) (x:HOk P w H h):ObjOk P w H h a u:=by
 rcases r with r | ⟨o,r⟩
 · exact x a u r
 · obtain ⟨_,q⟩:=x a _ r
   exact q
noncomputable def Mut:Option HO→Prop
 | some (.lst _)=>True
 | some (.dK _)=>True
 | some (.dT _)=>True
 | some (.set _ _)=>True
 | some (.ins _ _ _)=>True
 | some (.ext _)=>True
 | _=>False
section
variable {P:bb8} {w:World} {H:Hp} {h h':Heap} {x e:Addr} {o':HO}
theorem HOk.write (ok:HOk P w H h) (mu:Mut (H x)) (he:e=x∨H e=some (.own x)) (k: ∀b u,b≠e→h.get? b=some u→h'.get? b=some u) (heo: ∃u,h'.get? e=some u)
 (new:ObjOk P w (upd H x o') h' x o'):HOk P w (upd H x o') h':=fun b u q=>by
 have nown: ∀c y,H c=some (.own y)→c≠x:=fun c y r z=>by subst z;rw [r] at mu;exact mu
 have ntup: ∀c xs,H c=some (.tup xs)→c≠x:=fun c xs r z=>by subst z;rw [r] at mu;exact mu
 by_cases hb:b=x
 · subst hb;rw [kaf] at q;cases q;exact new
 · rw [kak hb] at q
   by_cases hbe:b=e
   · have q':H b=some (.own x):=by
      rcases he with z | z
      · exact absurd (hbe.trans z) hb
      · rw [hbe];exact z
     rw [q] at q';cases q'
     obtain ⟨v,hv⟩:=heo
     exact ⟨v,by rw [hbe];exact hv⟩
   · refine (ok b u q).stay (fun c v hc r=>k c v ?_ r) (fun c r=>by rw [kak (nown c b r)];exact r) fun c xs r=>by rw [kak (ntup c xs r)];exact r
     rcases hc with rfl | hc
     · exact hbe
     · rintro rfl
       rcases he with z | z
       · exact nown c b hc z
       · rw [hc] at z;cases z;exact hb rfl
end
structure Un (fs ex:List Addr) (H H':Hp) (h h':Heap):Prop where
 keep: ∀b o,h.get? b=some o→H b=none→b ∉ fs→b ∉ ex→h'.get? b=some o
 slot: ∀b o,h.get? b=some o→H b=none→b∈fs→b ∉ ex→∃sl,h'.get? b=some {o with slots:=sl}
 free: ∀b o,h.get? b=some o→H b=none→b ∉ ex→H' b=none
 there: ∀b o,h.get? b=some o→b ∉ ex→∃o',h'.get? b=some o'
 tups: ∀b xs,H b=some (.tup xs)→H' b=some (.tup xs)
 frzs: ∀b o u,H b=some (.frz o u)→H' b=some (.frz o u)
 tbls: ∀b ps,H b=some (.tbl ps)→∃more,H' b=some (.tbl (ps++more))
section
variable {fs fs' ex ex':List Addr} {H H1 H2:Hp} {h h1 h2 h':Heap} {a x e:Addr} {o:HO}
theorem Un.any (u:Un fs ex H H1 h h1) {b:Addr} {ob:Obj} (q:h.get? b=some ob) (n:H b=none) (hx:b ∉ ex): ∃sl,h1.get? b=some {ob with slots:=sl}:=by
 by_cases hb:b∈fs
 · exact u.slot b ob q n hb hx
 · exact ⟨ob.slots,u.keep b ob q n hb hx⟩
theorem Un.kept (k: ∀b u,h.get? b=some u→h'.get? b=some u):Un fs ex H H h h':=
 ⟨fun b ob q q_ q_ q_=>k b ob q,fun b ob q q_ q_ q_=>⟨ob.slots,k b ob q⟩,fun q_ q_ q_ n q_=>n,fun b ob q q_=>⟨ob,k b ob q⟩,fun q_ q_ q=>q,fun q_ q_ q_ q=>q,fun q_ ps q=>⟨#[],by rw [q];simp⟩⟩
theorem Un.refl:Un fs ex H H h h:=Un.kept fun q_ q_ q=>q
theorem Un.laid (k: ∀b u,h.get? b=some u→h'.get? b=some u) (hp:h.objs.size≤a) (hn:H a=none):Un fs ex H (upd H a o) h h' where
 keep:=fun b u q q_ q_ q_=>k b u q
 slot:=fun b u q q_ q_ q_=>⟨u.slots,k b u q⟩
 free:=fun b u q n q_=>by rw [kak (bf3 (bh1 (bd7 q) hp))];exact n
 there:=fun b u q q_=>⟨u,k b u q⟩
 tups:=fun b xs q=>by rw [kak (kai q hn)];exact q
 frzs:=fun b u xs q=>by rw [kak (kai q hn)];exact q
 tbls:=fun b ps q=>⟨#[],by rw [kak (kai q hn),q];simp⟩
theorem Un.write (mu:Mut (H x)) (he:e=x∨H e=some (.own x)) (k: ∀b u,b≠e→h.get? b=some u→h'.get? b=some u) (heo: ∃u,h'.get? e=some u):Un fs ex H (upd H x o) h h':=by
 have hx: ∀b,H b=none→b≠x:=fun b n z=>by subst z;rw [n] at mu;exact mu
 have hb: ∀b,H b=none→b≠e:=fun b n z=>by
  subst z
  rcases he with r | r
  · exact hx b n r
  · rw [n] at r;cases r
 have hm: ∀b u,H b=some u→¬Mut (some u)→b≠x:=fun b u q nm z=>by subst z;rw [q] at mu;exact nm mu
 refine ⟨fun b u q n q_ q_=>k b u (hb b n) q,fun b u q n q_ q_=>⟨u.slots,k b u (hb b n) q⟩,fun b u q n q_=>by rw [kak (hx b n)];exact n,fun b u q q_=> ?_,
  fun b xs q=>by rw [kak (hm b _ q fun z=>z)];exact q,fun b u xs q=>by rw [kak (hm b _ q fun z=>z)];exact q,fun b ps q=>⟨#[],by rw [kak (hm b _ q fun z=>z),q];simp⟩⟩
 by_cases hbe:b=e
 · subst hbe;exact heo
 · exact ⟨u,k b u hbe q⟩
end
noncomputable def trk (h:Heap) (H:Hp):List Addr:=(ba5 h.objs.size).filter fun a=>(H a).isSome
noncomputable def krr (h:Heap) (H:Hp):Heap:=PySem.W.hideAll h (trk h H)
theorem knp (h:Heap) (H:Hp):(krr h H).objs.size=h.objs.size:=PySem.W.hideAll_size _ _
theorem krs {h:Heap} {H:Hp} {b:Addr} {o:Obj} (e:h.get? b=some o) (n:H b=none):(krr h H).get? b=some o:=
 PySem.W.hideAll_get _ e fun hm=>by
  have q:(H b).isSome=true:=(bf1.mp hm).2
  rw [n] at q;simp at q
theorem kvo {h:Heap} {H:Hp} {b:Addr} {o:Obj} (e:(krr h H).get? b=some o):h.get? b=some o∧H b=none:=by
 have e':h.get? b=some o:=PySem.W.of_hideAll (trk h H) e
 refine ⟨e',?_⟩
 cases q:H b with
 | none=>rfl
 | some x=>
   have hm:b∈trk h H:=bf1.mpr ⟨ba7.mpr (bd7 e'),by simp [q]⟩
   have z:(krr h H).get? b=none:=PySem.W.hideAll_none (trk h H) hm
   rw [z] at e;cases e
noncomputable def kvp (g h:Heap) (L:Addr):List (Addr×Obj):=(ba5 h.objs.size).filterMap fun a=>if a=L∨(g.get? a).isSome=true then none else (h.get? a).map fun o=>(a,o)
noncomputable def kdc (g h:Heap) (L d:Addr):List (Addr×Obj):=(kvp g h L).filter fun p=>decide (p.1≠d)
structure Mod (K:ba0) (mg:Str→Option Value) (base:Heap):Prop where
 kin:K.In base
 glob:base.Ns bf5 mg
 blt: ∃mb,base.Ns builtinsNs mb∧∀x:Str,x≠"__name__"→mb x=bootBuiltins x
 nolimit:base.NoLimit
structure Cx where
 prog:bb8
 w:World
 K:ba0
 mg:Str→Option Value
 base:Heap
 A:bf8
 N:List Str
 s₀:ba4
 H₀:Hp
 env:Env
 outer:List Env
 stack:List Env
 ex:List Addr
 fn:Str→Bool
 calm:Bool
 pn:List (Addr×Obj)
 xe:Value→ba4→Prop
noncomputable def frs (l:List Env):List Addr:=l.filterMap (·.frame)
noncomputable abbrev Cx.fs (X:Cx):List Addr:=frs X.outer
def Vis (sc:Scope) (x:Str):Prop:=sc.names.lookup x=some .local∨sc.names.lookup x=some .cell∨sc.names.lookup x=some .free
def Loc (sc:Scope) (x:Str):Prop:=sc.names.lookup x=some .local∨sc.names.lookup x=some .cell
def Look (env:Env) (h:Heap) (m:Str→Option Value) (x:Str) (u:Value):Prop:=
 (env.kindOf x=some .local∧m x=some u)∨((env.kindOf x=some .cell∨env.kindOf x=some .free)∧∃c,env.cells.lookup x=some c∧h.IsCell c (some u))
structure Cx.Ok (X:Cx):Prop where
 mod:Mod X.K X.mg X.base
 kind:X.env.scope.kind= .function
 glob:X.env.globals=bf5
 blt:X.env.builtins=builtinsNs
 above:X.s₀.heap.objs.size≤X.env.locals
 inj: ∀x y c,X.env.cells.lookup x=some c→X.env.cells.lookup y=some c→x=y
 has: ∀x,(X.env.kindOf x=some .cell∨X.env.kindOf x=some .free)→∃c,X.env.cells.lookup x=some c
 cab: ∀x c,X.fn x=true→X.env.cells.lookup x=some c→X.s₀.heap.objs.size≤c
 hd:X.calm=true→X.A.handled=none
 frames:X.A.frames=some X.stack
 stk:X.stack=X.outer∨(X.stack=X.env::X.outer∧X.env.frame=some X.env.locals)
 exf: ∀b∈X.ex,b≠X.env.locals∧∀x c,X.env.cells.lookup x=some c→c≠b
 bs: ∀b o,X.base.get? b=some o→X.s₀.heap.get? b=some o∧X.H₀ b=none
 bsz:X.base.objs.size≤X.s₀.heap.objs.size
 noex: ∀b o,X.base.get? b=some o→b ∉ X.ex
 exfs: ∀b∈X.ex,b ∉ X.fs
 funs:X.s₀.heap.FunFrames X.base X.outer
 frf: ∀b∈X.fs,X.H₀ b=none
structure Inv (X:Cx) (pins:List (Addr×Obj)) (σ:List (Option V)) (H:Hp) (s:ba4):Prop where
 ok:X.Ok
 os:s.os=X.s₀.os
 bare:AllBare s.gens
 base:Un X.fs X.ex X.H₀ H X.s₀.heap s.heap
 loc: ∃m,s.heap.Ns X.env.locals m∧∀(i:Nat) (x:Str) (v:V),X.N[i]?=some x→σ[i]?=some (some v)→Vis X.env.scope x→∃u,RelV v u∧Look X.env s.heap m x u
 cell: ∀x c,X.env.cells.lookup x=some c→∃v,s.heap.IsCell c v
 free:H X.env.locals=none
 freeC: ∀x c,X.env.cells.lookup x=some c→H c=none
 pin: ∀p∈X.pn++pins,s.heap.get? p.1=some p.2∧H p.1=none∧p.1≠X.env.locals∧p.1 ∉ X.fs∧∀v,p.2.data≠ .cell v
 hok:HOk X.prog X.w H s.heap
 len:σ.length=X.N.length
section
variable {X:Cx} {pins:List (Addr×Obj)} {σ:List (Option V)} {H H':Hp} {s:ba4} {h':Heap}
theorem Cx.Ok.nofr (ok:X.Ok) {b:Addr} {o:Obj} (e:X.base.get? b=some o):b ∉ X.fs:=fun hb=>by
 have:=(ok.funs.mem hb).1
 rw [e] at this;cases this
theorem Inv.bs (I:Inv X pins σ H s): ∀b o,X.base.get? b=some o→s.heap.get? b=some o∧H b=none:=fun b o e=>
 ⟨I.base.keep b o (I.ok.bs b o e).1 (I.ok.bs b o e).2 (I.ok.nofr e) (I.ok.noex b o e),I.base.free b o (I.ok.bs b o e).1 (I.ok.bs b o e).2 (I.ok.noex b o e)⟩
theorem Inv.bk (I:Inv X pins σ H s): ∀b o,X.base.get? b=some o→s.heap.get? b=some o:=fun b o e=>(I.bs b o e).1
theorem Inv.mod (I:Inv X pins σ H s):Mod X.K X.mg X.base:=I.ok.mod
theorem Inv.kIn (I:Inv X pins σ H s):X.K.In s.heap:=I.ok.mod.kin.keeps I.bk
theorem Inv.lt (I:Inv X pins σ H s):X.env.locals < s.heap.objs.size:=let ⟨_,hn,_⟩:=I.loc;hn.lt
theorem Inv.sz (I:Inv X pins σ H s):X.s₀.heap.objs.size≤s.heap.objs.size:=bj2 I.ok.above (b98 I.lt)
theorem Inv.nofs (I:Inv X pins σ H s) {a:Addr} (h:s.heap.objs.size≤a):a ∉ X.fs:=fun hb=>by
 obtain ⟨_,o,ho,_⟩:=I.ok.funs.mem hb
 exact absurd (bh1 (bd7 ho) (bj2 I.sz h)) (bk1 _)
theorem Inv.cne (I:Inv X pins σ H s): ∀x c,X.env.cells.lookup x=some c→c≠X.env.locals:=fun x c e z=>by
 obtain ⟨v,o,ho,hd⟩:=I.cell x c e
 obtain ⟨m,⟨o',es,ep,ho',hd',_⟩,_⟩:=I.loc
 rw [z,ho'] at ho;cases ho;rw [hd'] at hd;cases hd
theorem Inv.funs (I:Inv X pins σ H s):s.heap.FunFrames X.base X.outer:=by
 have all: ∀(l:List Env),(∀ b∈frs l,b∈X.fs)→X.s₀.heap.FunFrames X.base l→s.heap.FunFrames X.base l:=by
  intro l
  induction l with
  | nil=>intro q_ q_;trivial
  | cons env r ih=>
    intro hs hl
    obtain ⟨hk,⟨L,o,hf,hn,ho,hd⟩,hr⟩:=hl
    have hL:L∈X.fs:=hs L (by unfold frs;rw [bs4,hf];exact bc4)
    obtain ⟨sl,e⟩:=I.base.slot L o ho (I.ok.frf L hL) hL fun z=>I.ok.exfs L z hL
    exact ⟨hk,⟨L,_,hf,hn,e,hd⟩,ih (fun b hb=>hs b (by unfold frs;rw [bs4,hf];exact bb7 _ hb)) hr⟩
 exact all X.outer (fun q_ hb=>hb) I.ok.funs
theorem Inv.stack (I:Inv X pins σ H s):s.heap.FunFrames X.base X.stack:=by
 rcases I.ok.stk with e | ⟨e,hf⟩
 · rw [e];exact I.funs
 · rw [e]
   obtain ⟨m,hn,_⟩:=I.loc
   refine .cons (by rw [I.ok.kind];decide) hf hn ?_ I.funs
   exact Heap.get?_none_of_le (bj2 I.ok.bsz I.ok.above)
theorem Inv.stkSub (I:Inv X pins σ H s): ∀b∈frs X.stack,b∈X.env.locals::X.fs:=fun b hb=>by
 rcases I.ok.stk with e | ⟨e,hf⟩
 · rw [e] at hb;exact bb7 _ hb
 · rw [e] at hb
   unfold frs at hb
   rw [bs4,hf] at hb
   exact hb
theorem Inv.stkFree (I:Inv X pins σ H s): ∀b∈frs X.stack,H b=none:=fun b hb=>by
 rcases bc7.mp (I.stkSub b hb) with e | hb
 · rw [e];exact I.free
 · obtain ⟨_,o,ho,_⟩:=I.ok.funs.mem hb
   exact I.base.free b o ho (I.ok.frf b hb) fun z=>I.ok.exfs b z hb
theorem Inv.step {g':Array GenState} {t':Nat} {d':Drawn} {ch:List Addr} (I:Inv X pins σ H s)
 (hch: ∀b∈ch,(b∈X.ex∨X.s₀.heap.objs.size≤b)∧b≠X.env.locals∧(∀ x c,X.env.cells.lookup x=some c→c≠b)∧∀p∈X.pn++pins,p.1≠b)
 (keep: ∀b o,b≠X.env.locals→b ∉ X.fs→b ∉ ch→s.heap.get? b=some o→H b=none→h'.get? b=some o)
 (slot: ∀b o,b≠X.env.locals→b∈X.fs→b ∉ ch→s.heap.get? b=some o→H b=none→∃sl,h'.get? b=some {o with slots:=sl}) (free: ∀b o,b ∉ ch→s.heap.get? b=some o→H b=none→H' b=none)
 (there: ∀b o,b ∉ ch→s.heap.get? b=some o→∃o',h'.get? b=some o')
 (tups: ∀b xs,H b=some (.tup xs)→H' b=some (.tup xs)) (frzs: ∀b o u,H b=some (.frz o u)→H' b=some (.frz o u)) (tbls: ∀b ps,H b=some (.tbl ps)→∃more,H' b=some (.tbl (ps++more)))
 (ns: ∀m,s.heap.Ns X.env.locals m→h'.Ns X.env.locals m) (hok:HOk X.prog X.w H' h') (hg:AllBare g'):
 Inv X pins σ H' {s with heap:=h',gens:=g',drawn:=d',toks:=t'}:=by
 have neL: ∀b o,X.s₀.heap.get? b=some o→b≠X.env.locals:=fun b o e=>bf3 (bh1 (bd7 e) I.ok.above)
 have neC: ∀b o,X.s₀.heap.get? b=some o→b ∉ X.ex→b ∉ ch:=fun b o e hx hb=>by
  rcases (hch b hb).1 with z | z
  · exact hx z
  · exact absurd (bh1 (bd7 e) z) (bk1 _)
 have cellK: ∀x c,X.env.cells.lookup x=some c→∀v,s.heap.IsCell c v→h'.IsCell c v:=fun x c e v ⟨o,ho,hd⟩=>by
  have nch:c ∉ ch:=fun z=>(hch c z).2.2.1 x c e rfl
  by_cases hc:c∈X.fs
  · obtain ⟨sl,q⟩:=slot c o (I.cne x c e) hc nch ho (I.freeC x c e)
    exact ⟨_,q,hd⟩
  · exact ⟨o,keep c o (I.cne x c e) hc nch ho (I.freeC x c e),hd⟩
 refine ⟨I.ok,I.os,hg,⟨fun b o e n hb hx=> ?_,fun b o e n hb hx=> ?_,fun b o e n hx=> ?_,fun b o e hx=> ?_,fun b xs e=>tups b xs (I.base.tups b xs e),fun b o xs e=>frzs b o xs (I.base.frzs b o xs e),fun b ps e=> ?_⟩,?_,fun x c e=> ?_,?_,fun x c e=> ?_,fun p hp=> ?_,hok,I.len⟩
 · exact keep b o (neL b o e) hb (neC b o e hx) (I.base.keep b o e n hb hx) (I.base.free b o e n hx)
 · obtain ⟨sl,e1⟩:=I.base.slot b o e n hb hx
   obtain ⟨sl',e2⟩:=slot b _ (neL b o e) hb (neC b o e hx) e1 (I.base.free b o e n hx)
   exact ⟨sl',e2⟩
 · obtain ⟨o',e1⟩:=I.base.there b o e hx
   exact free b o' (neC b o e hx) e1 (I.base.free b o e n hx)
 · obtain ⟨o',e1⟩:=I.base.there b o e hx
   exact there b o' (neC b o e hx) e1
 · obtain ⟨m1,e1⟩:=I.base.tbls b ps e
   obtain ⟨m2,e2⟩:=tbls b _ e1
   exact ⟨m1++m2,by rw [e2,Array.append_assoc]⟩
 · obtain ⟨m,hn,hl⟩:=I.loc
   refine ⟨m,ns m hn,fun i x v e1 e2 e3=> ?_⟩
   obtain ⟨u,r,l⟩:=hl i x v e1 e2 e3
   refine ⟨u,r,?_⟩
   rcases l with l | ⟨k,c,e,z⟩
   · exact .inl l
   · exact .inr ⟨k,c,e,cellK x c e _ z⟩
 · obtain ⟨v,z⟩:=I.cell x c e
   exact ⟨v,cellK x c e v z⟩
 · obtain ⟨m,⟨o,_,_,ho,_⟩,_⟩:=I.loc
   exact free _ o (fun z=>(hch _ z).2.1 rfl) ho I.free
 · obtain ⟨v,o,ho,hd⟩:=I.cell x c e
   exact free c o (fun z=>(hch c z).2.2.1 x c e rfl) ho (I.freeC x c e)
 · obtain ⟨e,n,ne,nf,d⟩:=I.pin p hp
   have nch:p.1 ∉ ch:=fun z=>(hch p.1 z).2.2.2 p hp rfl
   exact ⟨keep p.1 p.2 ne nf nch e n,free p.1 p.2 nch e n,ne,nf,d⟩
theorem Inv.un {t':Nat} (I:Inv X pins σ H s) (u:Un X.fs [] H H' s.heap h') (hok:HOk X.prog X.w H' h'):Inv X pins σ H' {s with heap:=h',toks:=t'}:=by
 obtain ⟨m,⟨o,es,ep,ho,r⟩,_⟩:=id I.loc
 obtain ⟨sl,hL⟩:=u.any ho I.free (by simp)
 exact I.step (g':=s.gens) (d':=s.drawn) (ch:=[]) (fun q_ z=>nomatch z) (fun b o q_ hb q_ e n=>u.keep b o e n hb (by simp)) (fun b o q_ hb q_ e n=>u.slot b o e n hb (by simp)) (fun b o q_ e n=>u.free b o e n (by simp)) (fun b o q_ e=>u.there b o e (by simp)) u.tups u.frzs u.tbls (fun m' hm=>by
  obtain ⟨o',es',ep',ho',r'⟩:=hm
  rw [ho] at ho';cases ho'
  exact ⟨_,es',ep',hL,r'⟩) hok I.bare
theorem Inv.call {g':Array GenState} {t':Nat} {d':Drawn} {ch:List Addr} (I:Inv X pins σ H s) (u:Un (frs X.stack) ch H H' s.heap h') (hok:HOk X.prog X.w H' h') (hg:AllBare g')
 (hch: ∀b∈ch,(b∈X.ex∨X.s₀.heap.objs.size≤b)∧b≠X.env.locals∧(∀ x c,X.env.cells.lookup x=some c→c≠b)∧∀p∈X.pn++pins,p.1≠b):
 Inv X pins σ H' {s with heap:=h',gens:=g',drawn:=d',toks:=t'}:=by
 obtain ⟨m,⟨o,es,ep,ho,r⟩,_⟩:=id I.loc
 obtain ⟨sl,hL⟩:=u.any ho I.free fun z=>(hch _ z).2.1 rfl
 exact I.step (ch:=ch) hch (fun b o hL hb hc e n=>u.keep b o e n (fun z=>(bc7.mp (I.stkSub b z)).elim hL hb) hc) (fun b o q_ q_ hc e n=>u.any e n hc) (fun b o hc e n=>u.free b o e n hc) (fun b o hc e=>u.there b o e hc) u.tups u.frzs u.tbls (fun m' hm=>by
  obtain ⟨o',es',ep',ho',r'⟩:=hm
  rw [ho] at ho';cases ho'
  exact ⟨_,es',ep',hL,r'⟩) hok hg
theorem Inv.turned {t':Nat} {it:Addr} (I:Inv X pins σ H s) (k: ∀b o,b≠it→s.heap.get? b=some o→h'.get? b=some o) (hn:H it=none) (hL:it≠X.env.locals)
 (h1:it∈X.ex∨X.s₀.heap.objs.size≤it) (h2: ∀x c,X.env.cells.lookup x=some c→c≠it) (h3: ∀p∈X.pn++pins,p.1≠it):Inv X pins σ H {s with heap:=h',toks:=t'}:=by
 have nit: ∀b u,H b=some u→b≠it:=fun b u e z=>by rw [z,hn] at e;cases e
 refine I.step (g':=s.gens) (d':=s.drawn) (ch:=[it]) (fun b hb=> ?_) (fun b o q_ q_ hc e q_=>k b o (fun z=>hc (by simp [z])) e) (fun b o q_ q_ hc e q_=>⟨o.slots,k b o (fun z=>hc (by simp [z])) e⟩) (fun q_ q_ q_ q_ n=>n)
  (fun b o hc e=>⟨o,k b o (fun z=>hc (by simp [z])) e⟩) (fun q_ q_ e=>e) (fun q_ q_ q_ e=>e) (fun b ps e=>⟨#[],by rw [e];simp⟩) (fun m hm=> ?_) (fun b u e=> ?_) I.bare
 · have e:b=it:=by simpa using hb
   subst e
   exact ⟨h1,hL,h2,h3⟩
 · obtain ⟨o,es,ep,ho,r⟩:=hm
   exact ⟨o,es,ep,k _ o (bz8 hL) ho,r⟩
 · refine (I.hok b u e).stay (fun c v hc q=>k c v ?_ q) (fun q_ q=>q) fun q_ q_ q=>q
   rcases hc with z | z
   · rw [z];exact nit b u e
   · exact nit c _ z
theorem Inv.tok (I:Inv X pins σ H s) (t:Nat):Inv X pins σ H {s with toks:=t}:=I.un (h':=s.heap) (t':=t) Un.refl I.hok
theorem Inv.kept {t':Nat} (I:Inv X pins σ H s) (k: ∀b u,s.heap.get? b=some u→h'.get? b=some u):Inv X pins σ H {s with heap:=h',toks:=t'}:=I.un (Un.kept k) (I.hok.kept k)
theorem Inv.laid {a:Addr} {o:HO} {t':Nat} (I:Inv X pins σ H s) (k: ∀b u,s.heap.get? b=some u→h'.get? b=some u) (hp:s.heap.objs.size≤a) (new:ObjOk X.prog X.w (upd H a o) h' a o):
 Inv X pins σ (upd H a o) {s with heap:=h',toks:=t'}:=I.un (Un.laid k hp (I.hok.fresh hp)) (I.hok.laid k hp new)
theorem Inv.write {x e:Addr} {o:HO} {t':Nat} (I:Inv X pins σ H s) (mu:Mut (H x)) (he:e=x∨H e=some (.own x)) (k: ∀b u,b≠e→s.heap.get? b=some u→h'.get? b=some u) (heo: ∃u,h'.get? e=some u)
 (new:ObjOk X.prog X.w (upd H x o) h' x o):Inv X pins σ (upd H x o) {s with heap:=h',toks:=t'}:=I.un (Un.write mu he k heo) (I.hok.write mu he k heo new)
theorem Inv.pins_of {pins':List (Addr×Obj)} (I:Inv X pins σ H s) (h: ∀p∈pins',s.heap.get? p.1=some p.2∧H p.1=none∧p.1≠X.env.locals∧p.1 ∉ X.fs∧∀v,p.2.data≠ .cell v):Inv X pins' σ H s:=
 ⟨I.ok,I.os,I.bare,I.base,I.loc,I.cell,I.free,I.freeC,fun p hp=>(be9.mp hp).elim (fun z=>I.pin p (bn4 _ z)) (h p),I.hok,I.len⟩
theorem kku {N:List Str} (hN:N.Nodup) {i j:Nat} {x:Str} (a:N[i]?=some x) (b:N[j]?=some x):i=j:=by
 obtain ⟨h1,e1⟩:=bb1.mp a
 obtain ⟨h2,e2⟩:=bb1.mp b
 exact (List.getElem_inj hN).mp (e1.trans e2.symm)
theorem kh9 {M:Model} {A:bf8} {E:Value→ba4→Prop} {i:Nat} {x:Str} {v:V} {u:Value} {Q:Unit→ba4→Prop} (I:Inv X pins σ H s) (hN:X.N.Nodup) (hi:X.N[i]?=some x) (hx:Loc X.env.scope x) (r:RelV v u)
 (h: ∀s',Inv X pins (σ.set i (some v)) H s'→(∃ a,bn5 a s.heap s'.heap∧(a=X.env.locals∨X.env.cells.lookup x=some a))→Q () s') (hf:autoParam (X.fn x=true∨X.env.scope.names.lookup x=some .local) u1._auto_1):wpAny M A (storeName X.env x u) Q E s:=by
 obtain ⟨m,hn,hl⟩:=id I.loc
 have hcls:(X.env.scope.kind == .class || (X.env.scope.kind == .module && X.env.locals != X.env.globals))=false:=by rw [I.ok.kind];rfl
 have hiσ:i < σ.length:=by rw [I.len];exact (bb1.mp hi).1
 have cne:=I.cne
 have tracked: ∀{a:Addr} {h':Heap},(∃ o,s.heap.get? a=some o∧H a=none)→bn5 a s.heap h'→HOk X.prog X.w H h':=fun {a h'} ha hs b ob e=>by
  obtain ⟨_,_,hfree⟩:=ha
  refine (I.hok b ob e).stay (fun c w' hc q=>(hs.2 c ?_).trans q) (fun q_ q=>q) fun q_ q_ q=>q
  rintro rfl
  rcases hc with rfl | hc
  · rw [hfree] at e;cases e
  · rw [hfree] at hc;cases hc
 rcases hx with hk | hk
 · refine wpAny_storeName_local hk hn (fun h' hn' hs=> ?_) hcls
   obtain ⟨oL,_,_,hoL,_⟩:=id hn
   refine h _ ⟨I.ok,I.os,I.bare,⟨fun b o e n hb hx=> ?_,fun b o e n hb hx=> ?_,I.base.free,fun b o e hx=> ?_,I.base.tups,I.base.frzs,I.base.tbls⟩,⟨_,hn',fun j y v' e1 e2 e3=> ?_⟩,fun y c e=> ?_,I.free,I.freeC,fun p hp=> ?_,tracked ⟨oL,hoL,I.free⟩ hs,by simpa using I.len⟩ ⟨_,hs,.inl rfl⟩
   · exact (hs.2 b (bf3 (bh1 (bd7 e) I.ok.above))).trans (I.base.keep b o e n hb hx)
   · obtain ⟨sl,e1⟩:=I.base.slot b o e n hb hx
     exact ⟨sl,(hs.2 b (bf3 (bh1 (bd7 e) I.ok.above))).trans e1⟩
   · obtain ⟨o',e1⟩:=I.base.there b o e hx
     exact ⟨o',(hs.2 b (bf3 (bh1 (bd7 e) I.ok.above))).trans e1⟩
   · by_cases hj:j=i
     · subst hj
       rw [hi] at e1;cases e1
       rw [b92 hiσ] at e2
       cases e2
       exact ⟨u,r,.inl ⟨hk,by simp⟩⟩
     · rw [b29 (bz8 hj)] at e2
       obtain ⟨u',r',q⟩:=hl j y v' e1 e2 e3
       refine ⟨u',r',?_⟩
       rcases q with ⟨k,e⟩ | ⟨k,c,e,z⟩
       · refine .inl ⟨k,?_⟩
         have:y≠x:=fun e=>hj (kku hN e1 (e▸hi))
         simp [this,e]
       · exact .inr ⟨k,c,e,z.sameBut hs (cne y c e)⟩
   · obtain ⟨w',z⟩:=I.cell y c e
     exact ⟨w',z.sameBut hs (cne y c e)⟩
   · obtain ⟨e,n,ne,nf,d⟩:=I.pin p hp
     exact ⟨(hs.2 p.1 ne).trans e,n,ne,nf,d⟩
 · have hfn:X.fn x=true:=by
    rcases hf with z | z
    · exact z
    · rw [z] at hk;cases hk
   obtain ⟨c,hc⟩:=I.ok.has x (.inl hk)
   obtain ⟨w',z⟩:=I.cell x c hc
   refine wpAny_storeName_cell I.ok.kind hk hc z (fun h' hc' hs=> ?_)
   obtain ⟨oc,hoc,hocd⟩:=id z
   refine h {s with heap:=h'} ⟨I.ok,I.os,I.bare,⟨fun b o e n hb hx=> ?_,fun b o e n hb hx=> ?_,I.base.free,fun b o e hx=> ?_,I.base.tups,I.base.frzs,I.base.tbls⟩,⟨m,hn.sameBut hs (bz8 (cne x c hc)),fun j y v' e1 e2 e3=> ?_⟩,fun y c' e=> ?_,I.free,I.freeC,fun p hp=> ?_,tracked ⟨oc,hoc,I.freeC x c hc⟩ hs,by simpa using I.len⟩ ⟨c,hs,.inr hc⟩
   · exact (hs.2 b (bf3 (bh1 (bd7 e) (I.ok.cab x c hfn hc)))).trans (I.base.keep b o e n hb hx)
   · obtain ⟨sl,e1⟩:=I.base.slot b o e n hb hx
     exact ⟨sl,(hs.2 b (bf3 (bh1 (bd7 e) (I.ok.cab x c hfn hc)))).trans e1⟩
   · obtain ⟨o',e1⟩:=I.base.there b o e hx
     exact ⟨o',(hs.2 b (bf3 (bh1 (bd7 e) (I.ok.cab x c hfn hc)))).trans e1⟩
   · by_cases hj:j=i
     · subst hj
       rw [hi] at e1;cases e1
       rw [b92 hiσ] at e2
       cases e2
       exact ⟨u,r,.inr ⟨.inl hk,c,hc,hc'⟩⟩
     · rw [b29 (bz8 hj)] at e2
       obtain ⟨u',r',q⟩:=hl j y v' e1 e2 e3
       refine ⟨u',r',?_⟩
       rcases q with q | ⟨k,c',e,z'⟩
       · exact .inl q
       · refine .inr ⟨k,c',e,z'.sameBut hs ?_⟩
         rintro rfl
         exact hj (kku hN e1 (I.ok.inj _ _ _ e hc▸hi))
   · by_cases hcc:c'=c
     · subst hcc;exact ⟨_,hc'⟩
     · obtain ⟨w2,z2⟩:=I.cell y c' e
       exact ⟨w2,z2.sameBut hs hcc⟩
   · obtain ⟨e,n,ne,nf,d⟩:=I.pin p hp
     refine ⟨(hs.2 p.1 ?_).trans e,n,ne,nf,d⟩
     intro q
     rw [q,hoc] at e
     have q':oc=p.2:=bg4 e
     exact d w' (by rw [← q'];exact hocd)
theorem kkv {M:Model} {A:bf8} {E:Value→ba4→Prop} {i:Nat} {x:Str} {v:V} {u:Value} {Q:Unit→ba4→Prop} (I:Inv X pins σ H s) (hN:X.N.Nodup) (hi:X.N[i]?=some x) (hx:Loc X.env.scope x) (r:RelV v u)
 (h: ∀s',Inv X pins (σ.set i (some v)) H s'→Q () s') (hf:autoParam (X.fn x=true∨X.env.scope.names.lookup x=some .local) u1._auto_1):wpAny M A (storeName X.env x u) Q E s:=
 kh9 I hN hi hx r (fun s' I' q_=>h s' I') hf
theorem Inv.call' {s':ba4} {ch:List Addr} (I:Inv X pins σ H s) (ho:s'.os=s.os) (u:Un (frs X.stack) ch H H' s.heap s'.heap) (hok:HOk X.prog X.w H' s'.heap) (hg:AllBare s'.gens)
 (hch: ∀b∈ch,(b∈X.ex∨X.s₀.heap.objs.size≤b)∧b≠X.env.locals∧(∀ x c,X.env.cells.lookup x=some c→c≠b)∧∀p∈X.pn++pins,p.1≠b):Inv X pins σ H' s':=by
 obtain ⟨h',g',d',t',o'⟩:=s'
 have e:o'=s.os:=ho
 subst e
 exact I.call (g':=g') (t':=t') (d':=d') u hok hg hch
end
abbrev XK:=Value→Option Addr→Hp→Prop
abbrev St:=List (Option V)
abbrev VK:=V→Hp→Prop
abbrev TE:=St→Hp→VK→Prop
abbrev TT:=St→Hp→(Bool→Hp→Prop)→Prop
abbrev TA:=St→Hp→(List V→Hp→Prop)→Prop
structure Ends where
 nx:St→Hp→Prop
 rt:VK
 bk:St→Hp→Prop:=fun q_ q_=>False
 ct:St→Hp→Prop:=fun q_ q_=>False
abbrev TS:=Ends→St→Hp→Prop
def EP (X:Cx) (pins:List (Addr×Obj)) (σ:St) (Q:VK) (u:Value) (s':ba4):Prop:=∃v H',Inv X pins σ H' s'∧RelV v u∧Q v H'
def TP (X:Cx) (pins:List (Addr×Obj)) (σ:St) (Q:Bool→Hp→Prop) (b:Bool) (s':ba4):Prop:=∃H',Inv X pins σ H' s'∧Q b H'
def AP (X:Cx) (pins:List (Addr×Obj)) (σ:St) (Q:List V→Hp→Prop) (us:List Value) (s':ba4):Prop:=∃vs H',Inv X pins σ H' s'∧Vals vs us∧Q vs H'
def SP (X:Cx) (pins:List (Addr×Obj)) (D:Ends) (f:Flow) (s':ba4):Prop:=
 match f with
 | .next=>∃σ' H',Inv X pins σ' H' s'∧D.nx σ' H'
 | .brk=>∃σ' H',Inv X pins σ' H' s'∧D.bk σ' H'
 | .cont=>∃σ' H',Inv X pins σ' H' s'∧D.ct σ' H'
 | .ret u=>∃v σ' H',Inv X pins σ' H' s'∧RelV v u∧D.rt v H'
def PE (X:Cx) (e:Expr) (t:TE):Prop:=
 ∀(pins:List (Addr×Obj)) (s:ba4) (σ:St) (H:Hp) (Q:VK),Inv X pins σ H s→t σ H Q→wpAny (model X.prog X.w) X.A (eval e X.env) (EP X pins σ Q) X.xe s
def PT (X:Cx) (e:Expr) (t:TT):Prop:=
 ∀(pins:List (Addr×Obj)) (s:ba4) (σ:St) (H:Hp) (Q:Bool→Hp→Prop),Inv X pins σ H s→t σ H Q→wpAny (model X.prog X.w) X.A (isTrue e X.env (eval e X.env)) (TP X pins σ Q) X.xe s
def PW (X:Cx) (e:Expr) (t:TT):Prop:=
 ∀(whole:Sem Value) (pins:List (Addr×Obj)) (s:ba4) (σ:St) (H:Hp) (Q:Bool→Hp→Prop),Inv X pins σ H s→t σ H Q→wpAny (model X.prog X.w) X.A (isTrue e X.env whole) (TP X pins σ Q) X.xe s
theorem PW.pt {X:Cx} {e:Expr} {t:TT} (h:PW X e t):PT X e t:=h _
def PA (X:Cx) (es:List Expr) (t:TA):Prop:=
 ∀(pos:Pos) (pins:List (Addr×Obj)) (s:ba4) (σ:St) (H:Hp) (Q:List V→Hp→Prop),Inv X pins σ H s→t σ H Q→wpAny (model X.prog X.w) X.A (spliced (backTo pos (bd5 es X.env))) (AP X pins σ Q) X.xe s
def PS (X:Cx) (st:Stmt) (t:TS):Prop:=
 ∀(pins:List (Addr×Obj)) (s:ba4) (σ:St) (H:Hp) (D:Ends),Inv X pins σ H s→t D σ H→wpAny (model X.prog X.w) X.A (exec st X.env) (SP X pins D) X.xe s
def PSs (X:Cx) (st:List Stmt) (t:TS):Prop:=
 ∀(pins:List (Addr×Obj)) (s:ba4) (σ:St) (H:Hp) (D:Ends),Inv X pins σ H s→t D σ H→wpAny (model X.prog X.w) X.A (execs st X.env) (SP X pins D) X.xe s
theorem thn {α:Type} {t:Sem α} {Q Q':α→ba4→Prop} {M:Model} {A:bf8} {E:Value→ba4→Prop} {s:ba4} (h:wpAny M A t Q E s) (hQ: ∀a s,Q a s→Q' a s):wpAny M A t Q' E s:=bp8 h hQ fun q_ q_ x=>x
section
variable {X:Cx}
def kh5 (i:Nat):TE:=fun σ H Q=>∃v,σ[i]?=some (some v)∧Q v H
def tC (v:V):TE:=fun q_ H Q=>Q v H
theorem kzg {i:Nat} {x:Str} {pos:Pos} (hN:X.N[i]?=some x) (hv:Vis X.env.scope x) (hd:autoParam ((x == ("__debug__":Str))=false) u2._auto_1) (hcd:autoParam ((x == ("__classdict__":Str))=false) u2._auto_1):PE X (.Name x pos) (kh5 i):=by
 intro pins s σ H Q I h
 obtain ⟨v,e,h⟩:=h
 obtain ⟨m,hn,hl⟩:=I.loc
 obtain ⟨u,r,l⟩:=hl i x v hN e hv
 have fin:EP X pins σ Q u s:=⟨v,H,I,r,h⟩
 rcases l with ⟨hk,hm⟩ | ⟨hk,c,hc,hcell⟩
 · exact ck6 (wpAny_loadName_local I.ok.kind hk hn hm fin) hd
 · rcases hk with hk | hk
   · exact ck6 (wpAny_loadName_cell I.ok.kind hk hc hcell fin) hd
   · exact ck6 (wpAny_loadName_free I.ok.kind hk hc hcell fin hcd) hd
theorem kav {i j pos}:PE X (.Constant (.int i) j pos) (tC (.int i)):=fun q_ q_ q_ H q_ I h=>wpAny_Constant_int ⟨.int i,H,I.tok _,⟨_,rfl⟩,h⟩
theorem kzh {b j pos}:PE X (.Constant (.bool b) j pos) (tC (.bl b)):=fun q_ q_ q_ H q_ I h=>Constant_bool ⟨.bl b,H,I,rfl,h⟩
theorem kzi {j pos}:PE X (.Constant .none j pos) (tC .non):=fun q_ q_ q_ H q_ I h=>Constant_none ⟨.non,H,I,rfl,h⟩
theorem kzj {x j pos}:PE X (.Constant (.str x) j pos) (tC (.str x)):=fun q_ q_ q_ H q_ I h=>Calls.Constant_str ⟨.str x,H,I.tok _,⟨_,rfl⟩,h⟩
def Gl (X:Cx) (x:Str):Prop:=X.env.kindOf x=some .globalImplicit
theorem kjr {E:Value→ba4→Prop} {pins:List (Addr×Obj)} {s:ba4} {σ:St} {H:Hp} {x:Str} {u:Value} {pos:Pos} {Q:Value→ba4→Prop} (I:Inv X pins σ H s) (hg:Gl X x) (hm:X.mg x=some u) (h:Q u s)
 (hd:autoParam ((x == ("__debug__":Str))=false) u2._auto_1):wpAny (model X.prog X.w) X.A (eval (.Name x pos) X.env) Q E s:=
 b46 I.ok.kind hg (Calls.loadGlobal_global (by rw [I.ok.glob];exact I.mod.glob.keeps I.bk) hm h) hd
theorem kfd {E:Value→ba4→Prop} {pins:List (Addr×Obj)} {s:ba4} {σ:St} {H:Hp} {x:Str} {u:Value} {pos:Pos} {Q:Value→ba4→Prop} (I:Inv X pins σ H s) (hg:Gl X x) (hm:X.mg x=none) (hv:bootBuiltins x=some u) (h:Q u s)
 (hn:autoParam (x≠"__name__") u2._auto_1) (hd:autoParam ((x == ("__debug__":Str))=false) u2._auto_1):wpAny (model X.prog X.w) X.A (eval (.Name x pos) X.env) Q E s:=by
 obtain ⟨mb,h1,h2⟩:=I.mod.blt
 exact b46 I.ok.kind hg (Calls.loadGlobal_builtin (by rw [I.ok.glob];exact I.mod.glob.keeps I.bk) hm (by rw [I.ok.blt];exact h1.keeps I.bk) ((h2 x hn).trans hv) h) hd
theorem kvq {x:Str} {v:V} {u:Value} {pos:Pos} (hg:Gl X x) (hm:X.mg x=some u) (r:RelV v u) (hd:autoParam ((x == ("__debug__":Str))=false) u2._auto_1):PE X (.Name x pos) (tC v):=
 fun q_ q_ q_ H q_ I h=>kjr I hg hm ⟨v,H,I,r,h⟩ hd
theorem kjs {x:Str} {v:V} {u:Value} {pos:Pos} (hg:Gl X x) (hm:X.mg x=none) (hv:bootBuiltins x=some u) (r:RelV v u) (hn:autoParam (x≠"__name__") u2._auto_1) (hd:autoParam ((x == ("__debug__":Str))=false) u2._auto_1):PE X (.Name x pos) (tC v):=
 fun q_ q_ q_ H q_ I h=>kfd I hg hm hv ⟨v,H,I,r,h⟩ hn hd
variable {a b:Expr} {ta tb:TE} {pos:Pos}
def PC (X:Cx) (op:CmpOp) (a b:Expr) (t:TE):Prop:=
 ∀(pins:List (Addr×Obj)) (s:ba4) (σ:St) (H:Hp) (Q:VK),Inv X pins σ H s→t σ H Q→
  wpAny (model X.prog X.w) X.A (eval a X.env) (fun v s₁=>wpAny (model X.prog X.w) X.A (eval b X.env) (fun u s₂=>wpAny (model X.prog X.w) X.A (bh4 op v u) (EP X pins σ Q) X.xe s₂) X.xe s₁) X.xe s
def tB (t:TE):TT:=fun σ H Q=>t σ H fun x H1=>∃c,x= .bl c∧Q c H1
theorem kkw {e:Expr} {t:TE} (h:PE X e t) (he:autoParam (∀ whole,isTrue e X.env whole=(do let v ← whole;standAt e.pos;holding [v] (truthy v))) u3._auto_1):PT X e (tB t):=by
 intro pins s σ H Q I hw
 refine isTrue_plain (thn (h pins s σ H _ I hw) fun v s1 ⟨x,H1,I1,r1,q1⟩=> ?_) (he _)
 obtain ⟨d,rfl,q⟩:=q1
 cases r1
 exact bm3 ⟨H1,I1,q⟩
variable {tA tB':TT} {kdc:List Expr}
def tAnd (t u:TT):TT:=fun σ H Q=>t σ H fun c H1=>if c=true then u σ H1 Q else Q false H1
def tOr (t u:TT):TT:=fun σ H Q=>t σ H fun c H1=>if c=true then Q true H1 else u σ H1 Q
def tNot (t:TT):TT:=fun σ H Q=>t σ H fun c H1=>Q (!c) H1
theorem kg1 (ha:PT X a tA):PW X (.BoolOp .And [a] pos) tA:=by
 intro wh pins s σ H Q I h
 refine isTrue_and (thn (ha pins s σ H Q I h) fun c s1 e=> ?_)
 cases c with
 | true=>exact isTrue_and_nil e
 | false=>exact e
theorem kt5 (ha:PT X a tA):PW X (.BoolOp .Or [a] pos) tA:=by
 intro wh pins s σ H Q I h
 refine isTrue_or (thn (ha pins s σ H Q I h) fun c s1 e=> ?_)
 cases c with
 | false=>exact isTrue_or_nil e
 | true=>exact e
theorem kkx (ha:PT X a tA) (hb:PW X (.BoolOp .And (b::kdc) pos) tB'):PW X (.BoolOp .And (a::b::kdc) pos) (tAnd tA tB'):=by
 intro wh pins s σ H Q I h
 refine isTrue_and (thn (ha pins s σ H _ I h) fun c s1 ⟨H1,I1,q1⟩=> ?_)
 cases c with
 | true=>exact hb wh pins s1 σ H1 Q I1 q1
 | false=>exact ⟨H1,I1,q1⟩
theorem kzk (ha:PT X a tA) (hb:PW X (.BoolOp .Or (b::kdc) pos) tB'):PW X (.BoolOp .Or (a::b::kdc) pos) (tOr tA tB'):=by
 intro wh pins s σ H Q I h
 refine isTrue_or (thn (ha pins s σ H _ I h) fun c s1 ⟨H1,I1,q1⟩=> ?_)
 cases c with
 | true=>exact ⟨H1,I1,q1⟩
 | false=>exact hb wh pins s1 σ H1 Q I1 q1
theorem kzl (ha:PT X a tA):PT X (.UnaryOp .Not a pos) (tNot tA):=by
 intro pins s σ H Q I h
 exact isTrue_not (ha pins s σ H (fun c H1=>Q (!c) H1) I h)
def tAndV (ta tb:TE):TE:=fun σ H Q=>ta σ H fun x H1=>∃c,x= .bl c∧if c=true then tb σ H1 Q else Q (.bl false) H1
def tOrV (ta tb:TE):TE:=fun σ H Q=>ta σ H fun x H1=>∃c,x= .bl c∧if c=true then Q (.bl true) H1 else tb σ H1 Q
def tNotV (ta:TE):TE:=fun σ H Q=>ta σ H fun x H1=>∃c,x= .bl c∧Q (.bl (!c)) H1
theorem kky {op} {t:TE} (h:PE X a t):PE X (.BoolOp op [a] pos) t:=fun pins s σ H Q I hw=>BoolOp_one (h pins s σ H Q I hw)
theorem knq (ha:PE X a ta) (hb:PE X (.BoolOp .And (b::kdc) pos) tb):PE X (.BoolOp .And (a::b::kdc) pos) (tAndV ta tb):=by
 intro pins s σ H Q I h
 refine BoolOp_and (thn (ha pins s σ H _ I h) fun v s1 ⟨x,H1,I1,r1,q1⟩=> ?_)
 obtain ⟨c,rfl,q1⟩:=q1
 cases r1
 refine bm3 ?_
 cases c with
 | true=>exact hb pins s1 σ H1 Q I1 q1
 | false=>exact ⟨.bl false,H1,I1,rfl,q1⟩
theorem pe_or (ha:PE X a ta) (hb:PE X (.BoolOp .Or (b::kdc) pos) tb):PE X (.BoolOp .Or (a::b::kdc) pos) (tOrV ta tb):=by
 intro pins s σ H Q I h
 refine BoolOp_or (thn (ha pins s σ H _ I h) fun v s1 ⟨x,H1,I1,r1,q1⟩=> ?_)
 obtain ⟨c,rfl,q1⟩:=q1
 cases r1
 refine bm3 ?_
 cases c with
 | false=>exact hb pins s1 σ H1 Q I1 q1
 | true=>exact ⟨.bl true,H1,I1,rfl,q1⟩
theorem kzm (ha:PE X a ta):PE X (.UnaryOp .Not a pos) (tNotV ta):=by
 intro pins s σ H Q I h
 refine UnaryOp_ (thn (ha pins s σ H _ I h) fun v s1 ⟨x,H1,I1,r1,q1⟩=> ?_)
 obtain ⟨c,rfl,q1⟩:=q1
 cases r1
 exact not_of (bm3 ⟨.bl (!c),H1,I1,rfl,q1⟩)
def tIf (t:TT) (ta tb:TE):TE:=fun σ H Q=>t σ H fun c H1=>if c=true then ta σ H1 Q else tb σ H1 Q
theorem krt {c:Expr} (hc:PT X c tA) (ha:PE X a ta) (hb:PE X b tb):PE X (.IfExp c a b pos) (tIf tA ta tb):=by
 intro pins s σ H Q I h
 refine wpAny_IfExp (thn (hc pins s σ H _ I h) fun d s1 ⟨H1,I1,q1⟩=> ?_)
 cases d with
 | true=>exact ha pins s1 σ H1 Q I1 q1
 | false=>exact hb pins s1 σ H1 Q I1 q1
end
def SqL (K:ba0) (H:Hp) (a:Addr) (xs:List V):Prop:=
 Rd H a (.lst xs)∨
  ∃(o:Obj) (its:Array Value) (n:Nat),K.lookup a=some o∧o.cls= .type "list"∧o.dict=none∧o.data= .seq its n∧its.size≤sizeLine∧Vals xs its.toList
def SqT (K:ba0) (H:Hp) (a:Addr) (xs:List V):Prop:=
 Rd H a (.tup xs)∨
  ∃(o:Obj) (its:Array Value) (n:Nat),K.lookup a=some o∧o.cls= .type "tuple"∧o.data= .seq its n∧its.size≤sizeLine∧Vals xs its.toList
noncomputable def absV:Value→Option V
 | .none=>some .non
 | .bool b=>some (.bl b)
 | .int i _=>some (.int i)
 | .str x _=>some (.str x)
 | .bytes b _=>some (.byt b)
 | .float b _=>some (.flt b)
 | .ref a=>some (.ref a)
 | .type n=>some (.ty n)
 | _=>none
theorem RelV.abs {x:V} {u:Value} (r:RelV x u):absV u=some x:=by
 cases x with
 | non=>cases r;rfl
 | bl _=>cases r;rfl
 | int _=>obtain ⟨t,rfl⟩:=r;rfl
 | str _=>obtain ⟨t,rfl⟩:=r;rfl
 | byt _=>obtain ⟨t,rfl⟩:=r;rfl
 | flt _=>obtain ⟨t,rfl⟩:=r;rfl
 | ref _=>cases r;rfl
 | ty _=>cases r;rfl
theorem RelV.inj {x y:V} {u:Value} (r:RelV x u) (q:RelV y u):x=y:=bg4 (r.abs.symm.trans q.abs)
theorem Vals.inj: ∀{xs ys:List V} {us:List Value},Vals xs us→Vals ys us→xs=ys
 | _,_,_,.nil,.nil=>rfl
 | _,_,_,.cons r t,.cons r' t'=>by rw [r.inj r',Vals.inj t t']
section
variable {X:Cx} {pins:List (Addr×Obj)} {σ:St} {H:Hp} {s:ba4} {a:Addr} {xs ys:List V}
theorem SqL.of {K:ba0} (h:H a=some (.lst xs)):SqL K H a xs:= .inl (.inl h)
theorem SqT.of {K:ba0} (h:H a=some (.tup xs)):SqT K H a xs:= .inl (.inl h)
theorem Inv.list (I:Inv X pins σ H s) (h:SqL X.K H a xs): ∃its:List Value,Vals xs its∧PlainL s.heap a its.toArray∧xs.length≤sizeLine:=by
 rcases h with h | ⟨o,its,n,hk,hc,hd,hs,hz,r⟩
 · obtain ⟨z,its,n,r,e⟩:=h.ok I.hok
   exact ⟨its,r,⟨_,n,e,rfl,rfl,rfl⟩,z⟩
 · refine ⟨its.toList,r,⟨o,n,I.kIn a o hk,hc,hd,by simpa using hs⟩,?_⟩
   have e:=r.length
   simp only [bc0] at e
   lia
theorem Inv.tuple (I:Inv X pins σ H s) (h:SqT X.K H a xs): ∃its:List Value,Vals xs its∧IsTup s.heap a its.toArray∧xs.length≤sizeLine:=by
 rcases h with h | ⟨o,its,n,hk,hc,hs,hz,r⟩
 · obtain ⟨z,its,r,p⟩:=h.ok I.hok
   exact ⟨its,r,p,z.2⟩
 · refine ⟨its.toList,r,⟨o,I.kIn a o hk,hc,n,by simpa using hs⟩,?_⟩
   have e:=r.length
   simp only [bc0] at e
   lia
theorem Inv.list_inj (I:Inv X pins σ H s) (h:SqL X.K H a xs) (h':SqL X.K H a ys):xs=ys:=by
 obtain ⟨its,r,⟨o,n,e,_,_,d⟩,_⟩:=I.list h
 obtain ⟨its',r',⟨o',n',e',_,_,d'⟩,_⟩:=I.list h'
 rw [e] at e';cases e'
 rw [d] at d'
 injection d' with d1 _
 have:its=its':=by simpa using congrArg b99 d1
 subst this
 exact r.inj r'
theorem Inv.tuple_inj (I:Inv X pins σ H s) (h:SqT X.K H a xs) (h':SqT X.K H a ys):xs=ys:=by
 obtain ⟨its,r,⟨o,e,_,n,d⟩,_⟩:=I.tuple h
 obtain ⟨its',r',⟨o',e',_,n',d'⟩,_⟩:=I.tuple h'
 rw [e] at e';cases e'
 rw [d] at d'
 injection d' with d1 _
 have:its=its':=by simpa using congrArg b99 d1
 subst this
 exact r.inj r'
end
abbrev Cx.wish (X:Cx) (E:Value→ba4→Prop):Cx:={X with xe:=E}
abbrev Cx.nox (X:Cx):Cx:=X.wish fun q_ q_=>False
theorem Cx.Ok.wish {X:Cx} (ok:X.Ok) (E:Value→ba4→Prop):(X.wish E).Ok:=
 ⟨ok.mod,ok.kind,ok.glob,ok.blt,ok.above,ok.inj,ok.has,ok.cab,ok.hd,ok.frames,ok.stk,ok.exf,ok.bs,ok.bsz,ok.noex,ok.exfs,ok.funs,ok.frf⟩
theorem Cx.Ok.unwish {X:Cx} {E:Value→ba4→Prop} (ok:(X.wish E).Ok):X.Ok:=
 ⟨ok.mod,ok.kind,ok.glob,ok.blt,ok.above,ok.inj,ok.has,ok.cab,ok.hd,ok.frames,ok.stk,ok.exf,ok.bs,ok.bsz,ok.noex,ok.exfs,ok.funs,ok.frf⟩
section
variable {X:Cx} {pins:List (Addr×Obj)} {σ:St} {H:Hp} {s:ba4} {E:Value→ba4→Prop}
theorem Inv.wish (I:Inv X pins σ H s) (E:Value→ba4→Prop):Inv (X.wish E) pins σ H s:=⟨I.ok.wish E,I.os,I.bare,I.base,I.loc,I.cell,I.free,I.freeC,I.pin,I.hok,I.len⟩
theorem Inv.unwish (I:Inv (X.wish E) pins σ H s):Inv X pins σ H s:=⟨I.ok.unwish,I.os,I.bare,I.base,I.loc,I.cell,I.free,I.freeC,I.pin,I.hok,I.len⟩
theorem SP.unwish {D:Ends} {f:Flow} {s':ba4} (h:SP (X.wish E) pins D f s'):SP X pins D f s':=by
 cases f with
 | next=>obtain ⟨σ',H',I,q⟩:=h;exact ⟨σ',H',I.unwish,q⟩
 | brk=>obtain ⟨σ',H',I,q⟩:=h;exact ⟨σ',H',I.unwish,q⟩
 | cont=>obtain ⟨σ',H',I,q⟩:=h;exact ⟨σ',H',I.unwish,q⟩
 | ret u=>obtain ⟨v,σ',H',I,r,q⟩:=h;exact ⟨v,σ',H',I.unwish,r,q⟩
theorem PSs.nox {st:List Stmt} {t:TS} (h:PSs X.nox st t):PSs X st t:=fun pins s σ H D I hw=>
 bp8 (h pins s σ H D (I.wish _) hw) (fun q_ q_ q=>q.unwish) fun q_ q_ z=>bp9 z
end
section
variable {X:Cx} {st:Stmt} {kdc:List Stmt} {t u:TS} {e:Expr} {te:TE} {pos:Pos}
def tNext:TS:=fun D σ H=>D.nx σ H
def tSeq (t u:TS):TS:=fun D σ H=>t {D with nx:=u D} σ H
theorem kea:PSs X [] tNext:=fun q_ q_ σ H q_ I h=>b35 ⟨σ,H,I,h⟩
theorem kau (h1:PS X st t) (h2:PSs X kdc u):PSs X (st::kdc) (tSeq t u):=by
 intro pins s σ H D I h
 refine ch4 (thn (h1 pins s σ H {D with nx:=u D} I h) fun f s1 q=> ?_)
 cases f with
 | next=>
   obtain ⟨σ',H',I',q⟩:=q
   exact h2 pins s1 σ' H' D I' q
 | ret v=>exact q
 | brk=>exact q
 | cont=>exact q
theorem kaz (h1:PS X st t):PSs X [st] t:=by
 intro pins s σ H D I h
 refine ch4 (thn (h1 pins s σ H D I h) fun f s1 q=> ?_)
 cases f with
 | next=>exact b35 q
 | ret v=>exact q
 | brk=>exact q
 | cont=>exact q
theorem Inv.quiet {pins:List (Addr×Obj)} {σ:St} {H:Hp} {s:ba4} (I:Inv X pins σ H s):interactive X.env=false:=by simp [interactive,I.ok.kind]
def kzn (te:TE):TS:=fun D σ H=>te σ H fun q_ H1=>D.nx σ H1
theorem kdf (he:PE X e te) (hs:autoParam (bs9 e none pos.line X.env=pure false) u4._auto_1):PS X (.Expr e pos) (kzn te):=by
 intro pins s σ H D I h
 exact wpAny_Expr_any (thn (he pins s σ H _ I h) fun v s1 ⟨x,H1,I1,r1,q1⟩=>⟨σ,H1,I1,q1⟩) I.quiet hs
def tRet (te:TE):TS:=fun D σ H=>te σ H D.rt
theorem kb6 (he:PE X e te):PS X (.Return (some e) pos) (tRet te):=by
 intro pins s σ H D I h
 exact wpAny_Return_some (thn (he pins s σ H _ I h) fun v s1 ⟨x,H1,I1,r1,q1⟩=>⟨x,σ,H1,I1,r1,q1⟩)
def tIfS (c:TT) (t u:TS):TS:=fun D σ H=>c σ H fun b H1=>if b=true then t D σ H1 else u D σ H1
theorem kjt {c:Expr} {a b:List Stmt} {tc:TT} (hc:PT X c tc) (ha:PSs X a t) (hb:PSs X b u):PS X (.If c a b pos) (tIfS tc t u):=by
 intro pins s σ H D I h
 refine wpAny_If (thn (hc pins s σ H _ I h) fun d s1 ⟨H1,I1,q1⟩=> ?_)
 cases d with
 | true=>exact ha pins s1 σ H1 D I1 q1
 | false=>exact hb pins s1 σ H1 D I1 q1
def kzo:TS:=fun q_ q_ q_=>False
theorem kru:PS X st kzo:=fun q_ q_ q_ q_ q_ q_ h=>h.elim
end
abbrev TG:=V→St→Hp→(St→Hp→Prop)→Prop
abbrev TGs:=List V→St→Hp→(St→Hp→Prop)→Prop
def PG (X:Cx) (target:Expr) (t:TG):Prop:=
 ∀(pins:List (Addr×Obj)) (s:ba4) (σ:St) (H:Hp) (v:V) (u:Value) (Q:St→Hp→Prop),Inv X pins σ H s→RelV v u→t v σ H Q→
  wpAny (model X.prog X.w) X.A (assign target X.env u) (fun q_ s'=>∃σ' H',Inv X pins σ' H' s'∧Q σ' H') X.xe s
def PGs (X:Cx) (ts:List Expr) (t:TGs):Prop:=
 ∀(pins:List (Addr×Obj)) (s:ba4) (σ:St) (H:Hp) (vs:List V) (us:List Value) (Q:St→Hp→Prop),Inv X pins σ H s→Vals vs us→t vs σ H Q→
  wpAny (model X.prog X.w) X.A (assignInOrder ((assignEach ts X.env).map (·.2)) us) (fun q_ s'=>∃σ' H',Inv X pins σ' H' s'∧Q σ' H') X.xe s
abbrev TSet:=V→V→V→Hp→(Hp→Prop)→Prop
def PSet (X:Cx) (t:TSet):Prop:=
 ∀(pins:List (Addr×Obj)) (s:ba4) (σ:St) (H:Hp) (o i v:V) (ov iv u:Value) (Q:Hp→Prop),Inv X pins σ H s→RelV o ov→RelV i iv→RelV v u→t o i v H Q→
  wpAny (model X.prog X.w) X.A (setItem ov iv u) (fun q_ s'=>∃H',Inv X pins σ H' s'∧Q H') X.xe s
section
variable {X:Cx} {pos:Pos}
def knr (i:Nat):TG:=fun v σ H Q=>Q (σ.set i (some v)) H
theorem kbh {i:Nat} {x:Str} (hN:X.N.Nodup) (hi:X.N[i]?=some x) (hx:Loc X.env.scope x) (hf:autoParam (X.fn x=true∨X.env.scope.names.lookup x=some .local) u1._auto_1):PG X (.Name x pos) (knr i):=by
 intro pins s σ H v u Q I r h
 exact ce7 (kkv I hN hi hx r (fun s' I'=>⟨_,H,I',h⟩) hf)
def gNil:TGs:=fun vs σ H Q=>vs=[]∧Q σ H
def gCons (t:TG) (u:TGs):TGs:=fun vs σ H Q=>∃v r,vs=v::r∧t v σ H fun σ' H'=>u r σ' H' Q
theorem kvr:PGs X [] gNil:=by
 intro pins s σ H vs us Q I r h
 obtain ⟨e,h⟩:=h
 subst e
 cases r
 exact assignInOrder_nil ⟨σ,H,I,h⟩
theorem kkz {e:Expr} {es:List Expr} {t:TG} {u:TGs} (h1:PG X e t) (h2:PGs X es u)
 (hs:autoParam ((assignEach (e::es) X.env).map (·.2)=assign e X.env::(assignEach es X.env).map (·.2)) u4._auto_1):PGs X (e::es) (gCons t u):=by
 intro pins s σ H vs us Q I r h
 obtain ⟨v,vr,e1,h⟩:=h
 subst e1
 cases r with
 | cons r rr=>
   rw [hs]
   refine assignInOrder_cons (thn (h1 pins s σ H _ _ _ I r h) fun _ s1 ⟨σ1,H1,I1,q1⟩=> ?_)
   exact h2 pins s1 σ1 H1 _ _ Q I1 rr q1
def gTup (K:ba0) (n:Nat) (t:TGs):TG:=fun v σ H Q=>∃a xs,v= .ref a∧SqT K H a xs∧xs.length=n∧t xs σ H Q
theorem kzp {es:List Expr} {k:Nat} {t:TGs} {n:Nat} (hc:X.calm=true) (h:PGs X es t)
 (hn:autoParam ((assignEach es X.env).length=n) u4._auto_1) (hst:autoParam ((assignEach es X.env).findIdx? (·.1)=none) u4._auto_1):PG X (.Tuple es k pos) (gTup X.K n t):=by
 intro pins s σ H v u Q I r hw
 obtain ⟨a,xs,e1,hq,hl,hw⟩:=hw
 subst e1
 cases r
 obtain ⟨its,rv,ht,hz⟩:=I.tuple hq
 refine assign_Tuple_tuple (I.ok.hd hc) ht (by simp [hn,← hl,rv.length]) hst fun h' hx=> ?_
 have I1:Inv X pins σ H {s with heap:=h'}:=I.kept (t':=s.toks) fun b o e=>hx b o (bf3 (bd7 e)) e
 exact h pins _ σ H xs _ Q I1 (by simpa using rv) hw
def gSub (to ti:TE) (t:TSet):TG:=fun v σ H Q=>to σ H fun o H1=>ti σ H1 fun i H2=>t o i v H2 fun H3=>Q σ H3
theorem kzq {o i:Expr} {to ti:TE} {t:TSet} (ho:PE X o to) (hi:PE X i ti) (hs:PSet X t)
 (ha:autoParam (∀ v,assign (.Subscript o i pos) X.env v=(do
   let ov ← holding [v] (eval o X.env)
   let iv ← holding [v,ov] (eval i X.env)
   standAt pos
   holding [v,ov,iv] (setItem ov iv v)
   release [v,ov,iv] [])) u3._auto_1):PG X (.Subscript o i pos) (gSub to ti t):=by
 intro pins s σ H v u Q I r h
 rw [ha]
 refine ba2 (bl1 (thn (ho pins s σ H _ I h) fun ov s1 ⟨x,H1,I1,r1,q1⟩=> ?_))
 refine ba2 (bl1 (thn (hi pins s1 σ H1 _ I1 q1) fun iv s2 ⟨y,H2,I2,r2,q2⟩=> ?_))
 refine ba2 (b78 (ba2 (bl1 (thn (hs pins s2 σ H2 x y v ov iv u _ I2 r1 r2 r q2) fun _ s3 ⟨H3,I3,q3⟩=> ?_))))
 exact wpAny_release ⟨σ,H3,I3,q3⟩
def kzr (te:TE) (g:TG):TS:=fun D σ H=>te σ H fun x H1=>g x σ H1 D.nx
theorem kzs {tg e:Expr} {te:TE} {g:TG} (he:PE X e te) (hg:PG X tg g) (hs:autoParam (swapsWithSole [tg] e pos.line X.env=pure false) u4._auto_1) (hw:autoParam (swappedStores [tg] e X.env=pure none) u4._auto_1)
 (h1:autoParam ((assignEach [tg] X.env).map (·.2)=[assign tg X.env]) u4._auto_1):PS X (.Assign [tg] e pos) (kzr te g):=by
 intro pins s σ H D I h
 refine wpAny_Assign_stores (thn (he pins s σ H _ I h) fun v s1 ⟨x,H1,I1,r1,q1⟩=> ?_) hs hw
 rw [h1]
 exact thn (hg pins s1 σ H1 x v _ I1 r1 q1) fun q_ s2 q=>q
theorem ka9 {i:Nat} {x:Str} {e:Expr} {te:TE} {pos':Pos} (hN:X.N.Nodup) (hi:X.N[i]?=some x) (hx:Loc X.env.scope x) (he:PE X e te) (hs:autoParam (bs9 e (some (.Name x pos')) pos.line X.env=pure false) u4._auto_1) (hf:autoParam (X.fn x=true∨X.env.scope.names.lookup x=some .local) u1._auto_1):
 PS X (.Assign [.Name x pos'] e pos) (kzr te (knr i)):=by
 intro pins s σ H D I h
 refine wpAny_Assign_Name (thn (he pins s σ H _ I h) fun v s1 ⟨y,H1,I1,r1,q1⟩=> ?_) hs
 exact kkv I1 hN hi hx r1 (fun s2 I2=>⟨_,H1,I2,q1⟩) hf
def kzt (c:TT) (tb:TS):TS:=fun D σ H=>∃W:Nat→St→Hp→Prop,(∃ m,W m σ H)∧∀m σ H,W m σ H→
 c σ H fun b H1=>if b=true then ∃N:St→Hp→Prop,(∀ σ' H',N σ' H'→∃m',m' < m∧W m' σ' H')∧tb {D with nx:=N,ct:=N,bk:=D.nx} σ H1 else D.nx σ H1
theorem krv {c:Expr} {body:List Stmt} {tc:TT} {tb:TS} (hp:PassesOwn (model X.prog X.w) X.A X.env X.xe) (hc:PT X c tc) (hb:PSs X body tb):PS X (.While c body [] pos) (kzt tc tb):=by
 intro pins s σ H D I h
 obtain ⟨W,⟨m0,w0⟩,turn⟩:=h
 refine wpAny_While (codeAny_whileLoop (fun n s'=>∃σ' H',Inv X pins σ' H' s'∧W n σ' H') ?_ m0 ⟨σ,H,I,w0⟩)
 rintro n s1 ⟨σ1,H1,I1,w1⟩
 refine br6 hp (thn (hc pins s1 σ1 H1 _ I1 (turn n σ1 H1 w1)) fun b s2 ⟨H2,I2,q2⟩=> ?_)
 cases b with
 | true=>
   obtain ⟨N,hN,q2⟩:=q2
   rw [if_pos rfl]
   refine br6 hp (thn (hb pins s2 σ1 H2 _ I2 q2) fun f s3 q3=> ?_)
   cases f with
   | next=>
     obtain ⟨σ3,H3,I3,n3⟩:=q3
     obtain ⟨m',hm,w3⟩:=hN σ3 H3 n3
     exact ⟨m',hm,σ3,H3,I3,w3⟩
   | cont=>
     obtain ⟨σ3,H3,I3,n3⟩:=q3
     obtain ⟨m',hm,w3⟩:=hN σ3 H3 n3
     exact ⟨m',hm,σ3,H3,I3,w3⟩
   | brk=>exact q3
   | ret v=>exact q3
 | false=>
   rw [if_neg bb3]
   exact b35 ⟨σ1,H2,I2,q2⟩
end
structure It where
 go:Nat→Hp→Prop
 yld:Nat→Hp→V→Hp→Prop
 stop:Nat→Hp→Prop
def kmu (X:Cx) (pins:List (Addr×Obj)) (H:Hp) (b:Addr):Prop:=
 H b=none∧b≠X.env.locals∧b ∉ X.fs∧(b∈X.ex∨X.s₀.heap.objs.size≤b)∧(∀ x c,X.env.cells.lookup x=some c→c≠b)∧∀p∈X.pn++pins,p.1≠b
theorem Inv.fpOk {X:Cx} {pins:List (Addr×Obj)} {σ:St} {H H':Hp} {s:ba4} {b:Addr} (I:Inv X pins σ H s) (hb:s.heap.objs.size≤b) (hn:H' b=none):kmu X pins H' b:=by
 refine ⟨hn,b48 (bh1 I.lt hb),I.nofs hb,.inr (bj2 I.sz hb),fun x c e z=> ?_,fun p hp z=> ?_⟩
 · obtain ⟨v,q⟩:=I.cell x c e
   exact absurd (bh1 q.lt (by rw [z];exact hb)) (bk1 _)
 · exact absurd (bh1 (bd7 (I.pin p hp).1) (by rw [z];exact hb)) (bk1 _)
structure Turn (P:bb8) (w:World) (K:ba0) (tg:Expr) (J:It) (fp:List Addr) (it:Addr) (tn:Nat→Heap→Prop):Prop where
 mem:it∈fp
 obj: ∀i h,tn i h→∀b∈fp,∃o,h.get? b=some o∧∀v,o.data≠ .cell v
 keep: ∀i h h',tn i h→(∀ b∈fp,∀o,h.get? b=some o→h'.get? b=some o)→tn i h'
 item: ∀(X:Cx),X.prog=P→X.w=w→X.K=K→X.calm=true→∀(i:Nat) (pins:List (Addr×Obj)) (s:ba4) (σ:St) (H:Hp) (E:Value→ba4→Prop),Inv X pins σ H s→(∀ b∈fp,kmu X pins H b)→tn i s.heap→J.go i H→
  wpAny (model P w) X.A (pyNext (.ref it)) (fun r s1=>∃u,r=some u∧
   wpAny (model P w) X.A (letOwnedTupleGo tg (.ref it) u) (fun q_ s2=>∃x H',Inv X pins σ H' s2∧RelV x u∧J.yld i H x H'∧tn (i + 1) s2.heap∧∀b∈fp,H' b=none) E s1) E s
 done: ∀(X:Cx),X.prog=P→X.w=w→X.K=K→X.calm=true→∀(i:Nat) (pins:List (Addr×Obj)) (s:ba4) (σ:St) (H:Hp) (E:Value→ba4→Prop),Inv X pins σ H s→(∀ b∈fp,kmu X pins H b)→tn i s.heap→J.stop i H→
  wpAny (model P w) X.A (pyNext (.ref it)) (fun r s1=>r=none∧Inv X pins σ H s1) E s
 self: ∀(A:bf8) (i:Nat) (s:ba4) (Q:Value→ba4→Prop) (E:Value→ba4→Prop),tn i s.heap→Q (.ref it) s→wpAny (model P w) A (pyIter (.ref it)) Q E s
abbrev TI:=St→Hp→(It→Hp→Prop)→Prop
def PIE (X:Cx) (pins:List (Addr×Obj)) (σ:St) (tg:Expr) (R:It→Hp→Prop) (itv:Value) (s2:ba4):Prop:=
 ∃(it:Addr) (fp:List Addr) (tn:Nat→Heap→Prop) (J:It) (H':Hp),itv= .ref it∧Inv X pins σ H' s2∧Turn X.prog X.w X.K tg J fp it tn∧tn 0 s2.heap∧(∀ b∈fp,kmu X pins H' b)∧R J H'
def PI (X:Cx) (tg iter:Expr) (wi:TI):Prop:=
 ∀(pins:List (Addr×Obj)) (s:ba4) (σ:St) (H:Hp) (R:It→Hp→Prop),Inv X pins σ H s→wi σ H R→
  wpAny (model X.prog X.w) X.A (eval iter X.env) (fun v s1=>wpAny (model X.prog X.w) X.A (pyIter v) (PIE X pins σ tg R) X.xe s1) X.xe s
theorem kvt {M:Model} {A:bf8} {E:Value→ba4→Prop} {s:ba4} {tg:Expr} {it:Addr} {u:Value} {o:Obj} {n:String} {vs:Array Value} {Q:Unit→ba4→Prop} (ho:s.heap.get? it=some o) (hc:o.cls= .type n) (hd:o.data= .fields vs)
 (hn:["enumerate","zip","dict_itemiterator","dict_reverseitemiterator","odict_iterator","itertools.zip_longest","itertools.pairwise"].contains n=false) (hQ:Q () s):wpAny M A (letOwnedTupleGo tg (.ref it) u) Q E s:=by
 unfold letOwnedTupleGo
 cases tg <;> first
  | exact bb4 hQ
  | (cases u <;> first
      | exact bb4 hQ
      | (refine ba2 (wpAny_load ho ?_)
         rw [hc,hd]
         show wpAny M A (if (["enumerate","zip","dict_itemiterator","dict_reverseitemiterator","odict_iterator","itertools.zip_longest","itertools.pairwise"].contains n && vs[0]? == some (rawInt _))=true then _ else _) Q E s
         rw [if_neg (by intro h;rw [hn,b57] at h;cases h)]
         exact bb4 hQ))
noncomputable def Itl (K:ba0) (a:Addr):It:=
 ⟨fun i H=>∃xs x,SqL K H a xs∧xs[i]?=some x,fun i H x H'=>H'=H∧∀xs,SqL K H a xs→xs[i]?=some x,fun i H=>∃xs,SqL K H a xs∧xs.length≤i⟩
noncomputable def Itt (K:ba0) (a:Addr):It:=
 ⟨fun i H=>∃xs x,SqT K H a xs∧xs[i]?=some x,fun i H x H'=>H'=H∧∀xs,SqT K H a xs→xs[i]?=some x,fun i H=>∃xs,SqT K H a xs∧xs.length≤i⟩
noncomputable def Itr (lo:Int) (n:Nat):It:=⟨fun i q_=>i < n,fun i H x H'=>H'=H∧x= .int (lo + i),fun i q_=>n≤i⟩
theorem kia {P:bb8} {w:World} {K:ba0} {tg:Expr} (a it:Addr):Turn P w K tg (Itl K a) [it] it (fun i h=>h.IsListIter it a i) where
 mem:=by simp
 obj:=fun i h st b hb=>by
  have e:b=it:=by simpa using hb
  subst e
  obtain ⟨o,e,c,d⟩:=st
  exact ⟨o,e,fun v z=>by rw [d] at z;cases z⟩
 keep:=fun i h h' st k=>st.at fun o e=>k it (by simp) o e
 item:=by
  intro X hP hw hK hc i pins s σ H E I hf st hg
  subst hP hw hK
  obtain ⟨xs,x,hq,hx⟩:=hg
  obtain ⟨its,rv,p,hz⟩:=I.list hq
  obtain ⟨u,hu,ru⟩:=rv.get hx
  obtain ⟨f0,f1,f2,f3,f4,f5⟩:=hf it (by simp)
  refine wpAny_pyNext_list_item st p.isList (x:=u) (by simpa using hu) fun h' st' sb=> ?_
  have I1:Inv X pins σ H {s with heap:=h'}:=I.turned (t':=s.toks) (fun b o hb e=>(sb.2 b hb).trans e) f0 f1 f3 f4 f5
  obtain ⟨o,e,c,d⟩:=id st'
  exact ⟨u,rfl,kvt (s:={s with heap:=h'}) e c d (by decide) ⟨x,H,I1,ru,⟨rfl,fun ys hy=>by rw [I.list_inj hy hq];exact hx⟩,st',fun b hb=>(hf b hb).1⟩⟩
 done:=by
  intro X hP hw hK hc i pins s σ H E I hf st hg
  subst hP hw hK
  obtain ⟨xs,hq,hx⟩:=hg
  obtain ⟨its,rv,p,hz⟩:=I.list hq
  obtain ⟨f0,f1,f2,f3,f4,f5⟩:=hf it (by simp)
  have hl:=rv.length
  exact wpAny_pyNext_list_end (I.ok.hd hc) st p.isList (by simp;lia) fun h' eb=>⟨rfl,I.turned (t':=s.toks) (fun b o hb e=>eb b o hb e) f0 f1 f3 f4 f5⟩
 self:=fun q_ q_ q_ q_ q_ st h=>wpAny_pyIter_listiter st h
theorem kmv {P:bb8} {w:World} {K:ba0} {tg:Expr} (a it:Addr):Turn P w K tg (Itt K a) [it] it (fun i h=>h.IsTupleIter it a i) where
 mem:=by simp
 obj:=fun i h st b hb=>by
  have e:b=it:=by simpa using hb
  subst e
  obtain ⟨o,e,c,d⟩:=st
  exact ⟨o,e,fun v z=>by rw [d] at z;cases z⟩
 keep:=fun i h h' st k=>st.at fun o e=>k it (by simp) o e
 item:=by
  intro X hP hw hK hc i pins s σ H E I hf st hg
  subst hP hw hK
  obtain ⟨xs,x,hq,hx⟩:=hg
  obtain ⟨its,rv,p,hz⟩:=I.tuple hq
  obtain ⟨u,hu,ru⟩:=rv.get hx
  obtain ⟨f0,f1,f2,f3,f4,f5⟩:=hf it (by simp)
  refine wpAny_pyNext_tuple_item st (show s.heap.IsTuple a its.toArray from p) (x:=u) (by simpa using hu) fun h' st' sb=> ?_
  have I1:Inv X pins σ H {s with heap:=h'}:=I.turned (t':=s.toks) (fun b o hb e=>(sb.2 b hb).trans e) f0 f1 f3 f4 f5
  obtain ⟨o,e,c,d⟩:=id st'
  exact ⟨u,rfl,kvt (s:={s with heap:=h'}) e c d (by decide) ⟨x,H,I1,ru,⟨rfl,fun ys hy=>by rw [I.tuple_inj hy hq];exact hx⟩,st',fun b hb=>(hf b hb).1⟩⟩
 done:=by
  intro X hP hw hK hc i pins s σ H E I hf st hg
  subst hP hw hK
  obtain ⟨xs,hq,hx⟩:=hg
  obtain ⟨its,rv,p,hz⟩:=I.tuple hq
  obtain ⟨f0,f1,f2,f3,f4,f5⟩:=hf it (by simp)
  have hl:=rv.length
  exact wpAny_pyNext_tuple_end (I.ok.hd hc) st (show s.heap.IsTuple a its.toArray from p) (by simp;lia) fun h' eb=>⟨rfl,I.turned (t':=s.toks) (fun b o hb e=>eb b o hb e) f0 f1 f3 f4 f5⟩
 self:=fun q_ q_ q_ q_ q_ st h=>wpAny_pyIter_tupleiter st h
theorem kmw {P:bb8} {w:World} {K:ba0} {tg:Expr} (it:Addr) (lo:Int) (n:Nat):Turn P w K tg (Itr lo n) [it] it (fun i h=>IsRangeIter h it (lo + (i:Nat) * 1) ((n:Int) - (i:Nat)) 1) where
 mem:=by simp
 obj:=fun i h st b hb=>by
  have e:b=it:=by simpa using hb
  subst e
  exact ⟨_,st,fun v z=>by
   have z':Data.fields _=Data.cell v:=z
   cases z'⟩
 keep:=fun i h h' st k=>k it (by simp) _ st
 item:=by
  intro X hP hw hK hc i pins s σ H E I hf st hg
  subst hP hw hK
  obtain ⟨f0,f1,f2,f3,f4,f5⟩:=hf it (by simp)
  have W:=Walks.range (prog:=X.prog) (w:=X.w) (I.ok.hd hc) it lo 1 n
  refine W.item i s _ _ hg st fun v h' tk hv st' kk=> ?_
  obtain ⟨t,rfl⟩:=hv
  have I1:Inv X pins σ H {s with heap:=h',toks:=tk}:=I.turned (fun b o hb e=>kk b o (by simpa using hb) e) f0 f1 f3 f4 f5
  refine ⟨_,rfl,kvt (s:={s with heap:=h',toks:=tk}) (n:="range_iterator") st' rfl rfl (by decide) ⟨.int (lo + i),H,I1,⟨t,?_⟩,⟨rfl,rfl⟩,st',fun b hb=>(hf b hb).1⟩⟩
  rw [Int.mul_one]
 done:=by
  intro X hP hw hK hc i pins s σ H E I hf st hg
  subst hP hw hK
  obtain ⟨f0,f1,f2,f3,f4,f5⟩:=hf it (by simp)
  exact wpAny_pyNext_range_end (I.ok.hd hc) st (by have:n≤i:=hg;lia) fun h' eb=>⟨rfl,I.turned (t':=s.toks) (fun b o hb e=>eb b o hb e) f0 f1 f3 f4 f5⟩
 self:=fun q_ q_ q_ q_ q_ st h=>wpAny_pyIter_rangeiter st h
section
variable {X:Cx} {tg:Expr}
def iList (K:ba0) (tl:TE):TI:=fun σ H R=>tl σ H fun x H1=>∃a,x= .ref a∧(∃ xs,SqL K H1 a xs)∧R (Itl K a) H1
theorem kvu {l:Expr} {tl:TE} (hl:PE X l tl):PI X tg l (iList X.K tl):=by
 intro pins s σ H R I h
 refine thn (hl pins s σ H _ I h) fun v s1 ⟨x,H1,I1,r1,q1⟩=> ?_
 obtain ⟨a,e,⟨xs,hq⟩,q⟩:=q1
 subst e
 cases r1
 obtain ⟨its,rv,p,hz⟩:=I1.list hq
 refine bz9 p.isList ?_
 refine ⟨s1.heap.objs.size,[s1.heap.objs.size],_,_,H1,rfl,I1.kept (t':=s1.toks) fun b o e=>bb0 _ e,kia a _,⟨_,bd8 _ rfl,rfl,rfl⟩,fun b hb=> ?_,q⟩
 have e:b=s1.heap.objs.size:=by simpa using hb
 subst e
 exact I1.fpOk (bb6 _) (I1.hok.fresh (bb6 _))
theorem krw {pins:List (Addr×Obj)} {σ:St} {H:Hp} {s:ba4} {R:It→Hp→Prop} {E:Value→ba4→Prop} {lo hi:Int} {t u v:Tok} {tk:Nat} (I:Inv X pins σ H s) (h1: -(2 ^ 62)≤lo) (h2:lo < 2 ^ 62) (h3: -(2 ^ 62)≤hi) (h4:hi < 2 ^ 62)
 (q:R (Itr lo (hi - lo).toNat) H):wpAny (model X.prog X.w) X.A (pyIter (.ref s.heap.objs.size)) (PIE X pins σ tg R) E {s with heap:=s.heap.push {cls:= .type "range",data:= .fields #[.int lo t,.int hi u,.int 1 v]},toks:=tk}:=by
 refine wpAny_pyIter_range (IsRange.new ..) (small_one h1 h2 h3 h4) ?_
 have I1:Inv X pins σ H {s with heap:=s.heap.push {cls:= .type "range",data:= .fields #[.int lo t,.int hi u,.int 1 v]},toks:=tk}:=I.kept fun b o e=>bb0 _ e
 refine ⟨(s.heap.push {cls:= .type "range",data:= .fields #[.int lo t,.int hi u,.int 1 v]}).objs.size,[(s.heap.push {cls:= .type "range",data:= .fields #[.int lo t,.int hi u,.int 1 v]}).objs.size],_,_,H,rfl,
  I1.kept (t':=tk) fun b o e=>bb0 _ e,kmw _ lo (hi - lo).toNat,?_,fun b hb=> ?_,q⟩
 · have e1:lo + ((0:Nat):Int) * 1=lo:=by simp
   have e2:(((hi - lo).toNat:Nat):Int) - ((0:Nat):Int)=b79 lo hi 1:=by rw [rangeSize_one];split <;> lia
   show IsRangeIter _ _ (lo + ((0:Nat):Int) * 1) ((((hi - lo).toNat:Nat):Int) - ((0:Nat):Int)) 1
   rw [e1,e2]
   exact bd8 _ rfl
 · have e:b=(s.heap.push {cls:= .type "range",data:= .fields #[.int lo t,.int hi u,.int 1 v]}).objs.size:=by simpa using hb
   subst e
   exact I1.fpOk (bb6 _) (I1.hok.fresh (bb6 _))
def iRng1 (ta:TA):TI:=fun σ H R=>ta σ H fun vs H1=>∃j:Int,vs=[.int j]∧ -(2 ^ 62)≤j∧j < 2 ^ 62∧R (Itr 0 j.toNat) H1
theorem ka8 {a:Expr} {ta:TA} {p pos:Pos} (hg:Gl X "range") (hm:X.mg "range"=none) (ha:PA X [a] ta) (hs:autoParam (bd5 [a] X.env=[(false,eval a X.env)]) u4._auto_1):PI X tg (.Call (.Name "range" p) [a] [] pos) (iRng1 ta):=by
 intro pins s σ H R I h
 refine Call_ (kfd I hg hm boot_range (bk9 (thn (ha pos pins s σ H _ I h) fun us s1 ⟨vs,H1,I1,r1,q1⟩=> ?_) hs rfl))
 obtain ⟨j,e,q1,q2,q⟩:=q1
 subst e
 cases r1 with
 | cons r rr=>
   cases rr
   obtain ⟨t,rfl⟩:=r
   exact call_range_1 (krw I1 (by lia) (by lia) q1 q2 (by simpa using q))
def tFor (wi:TI) (g:TG) (tb:TS):TS:=fun D σ H=>wi σ H fun J H1=>∃W:Nat→Nat→St→Hp→Prop,(∃ m,W 0 m σ H1)∧∀i m σ H,W i m σ H→
 (J.stop i H∧D.nx σ H)∨(J.go i H∧∃N:St→Hp→Prop,(∀ σ' H',N σ' H'→∃m',m' < m∧W (i + 1) m' σ' H')∧∀x H',J.yld i H x H'→g x σ H' fun σ2 H2=>tb {D with nx:=N,ct:=N,bk:=D.nx} σ2 H2)
noncomputable def kic (fp:List Addr) (h:Heap):List (Addr×Obj):=fp.filterMap fun b=>(h.get? b).map fun o=>(b,o)
theorem kdt {fp:List Addr} {h:Heap} {b:Addr} {o:Obj} (hb:b∈fp) (e:h.get? b=some o):(b,o)∈kic fp h:=bt4.mpr ⟨b,hb,by rw [e];rfl⟩
theorem kns {fp:List Addr} {h:Heap} {p:Addr×Obj} (hp:p∈kic fp h):p.1∈fp∧h.get? p.1=some p.2:=by
 obtain ⟨b,hb,e⟩:=bt4.mp hp
 cases q:h.get? b with
 | none=>rw [q] at e;cases e
 | some o=>
   rw [q] at e
   have e':(b,o)=p:=bg4 e
   subst e'
   exact ⟨hb,q⟩
theorem Inv.pinned {pins:List (Addr×Obj)} {σ:St} {H:Hp} {s:ba4} {fp:List Addr} (I:Inv X pins σ H s) (hf: ∀b∈fp,kmu X pins H b) (ho: ∀b∈fp,∃o,s.heap.get? b=some o∧∀v,o.data≠ .cell v):Inv X (pins++kic fp s.heap) σ H s:=
 I.pins_of fun p hp=>(be9.mp hp).elim (fun z=>I.pin p (bg7 _ z)) fun z=>by
  obtain ⟨hb,e⟩:=kns z
  obtain ⟨f0,f1,f2,_⟩:=hf p.1 hb
  obtain ⟨o,e',d⟩:=ho p.1 hb
  rw [e] at e';cases e'
  exact ⟨e,f0,f1,f2,d⟩
theorem Inv.unpinned {pins pl:List (Addr×Obj)} {σ:St} {H:Hp} {s:ba4} (I:Inv X (pins++pl) σ H s):Inv X pins σ H s:=I.pins_of fun p hp=>I.pin p (bg7 _ (bn4 _ hp))
theorem kdd {iter:Expr} {body:List Stmt} {wi:TI} {g:TG} {tb:TS} {pos:Pos} (hp:PassesOwn (model X.prog X.w) X.A X.env X.xe) (hc:X.calm=true) (hi:PI X tg iter wi) (hg:PG X tg g) (hb:PSs X body tb)
 (hs:autoParam (∀ x,foldedSetIterable iter X.env x=pure x) u3._auto_1):PS X (.For tg iter body [] pos) (tFor wi g tb):=by
 intro pins s σ H D I h
 refine wpAny_For (thn (hi pins s σ H _ I h) fun v s1 h1=>thn h1 fun itv s2 h2=> ?_) hs
 obtain ⟨it,fp,tn,J,H2,e,I2,T,st2,f2,W,⟨m0,w0⟩,turn⟩:=h2
 subst e
 have stat: ∀{H':Hp},(∀ b∈fp,H' b=none)→∀b∈fp,kmu X pins H' b:=fun hn b hb=>⟨hn b hb,(f2 b hb).2⟩
 refine codeAny_forLoop_any (fun n s'=>∃i σ' H',Inv X pins σ' H' s'∧tn i s'.heap∧(∀ b∈fp,H' b=none)∧W i n σ' H') ?_ m0 ⟨0,σ,H2,I2,st2,fun b hb=>(f2 b hb).1,w0⟩
 rintro n s3 ⟨i,σ3,H3,I3,st3,fr3,w3⟩
 rcases turn i n σ3 H3 w3 with ⟨stop,qn⟩ | ⟨go,N,hN,step⟩
 · refine br6 hp (thn (T.done X rfl rfl rfl hc i pins s3 σ3 H3 X.xe I3 (stat fr3) st3 stop) fun r s4 ⟨hr,I4⟩=> ?_)
   subst hr
   exact b35 ⟨σ3,H3,I4,qn⟩
 · refine br6 hp (thn (T.item X rfl rfl rfl hc i pins s3 σ3 H3 X.xe I3 (stat fr3) st3 go) fun r s4 ⟨u,hr,h4⟩=> ?_)
   subst hr
   refine br6 hp (thn h4 fun _ s5 ⟨x,H5,I5,r5,y5,st5,fr5⟩=> ?_)
   have I5':=I5.pinned (stat fr5) (T.obj _ _ st5)
   refine br6 hp (thn (hg _ s5 σ3 H5 x u _ I5' r5 (step x H5 y5)) fun _ s6 ⟨σ6,H6,I6,q6⟩=> ?_)
   refine br6 hp (thn (hb _ s6 σ6 H6 _ I6 q6) fun f s7 q7=> ?_)
   have again: ∀{σ7:St} {H7:Hp},Inv X (pins++kic fp s5.heap) σ7 H7 s7→N σ7 H7→∃m,m < n∧∃i σ' H',Inv X pins σ' H' s7∧tn i s7.heap∧(∀ b∈fp,H' b=none)∧W i m σ' H':=fun {σ7 H7} I7 n7=>by
    obtain ⟨m',hm,w7⟩:=hN σ7 H7 n7
    refine ⟨m',hm,i + 1,σ7,H7,I7.unpinned,T.keep _ _ _ st5 fun b hb o e=>(I7.pin (b,o) (bg7 _ (bg7 _ (kdt hb e)))).1,fun b hb=> ?_,w7⟩
    obtain ⟨o,e,d⟩:=T.obj _ _ st5 b hb
    exact (I7.pin (b,o) (bg7 _ (bg7 _ (kdt hb e)))).2.1
   cases f with
   | next=>obtain ⟨σ7,H7,I7,n7⟩:=q7;exact again I7 n7
   | cont=>obtain ⟨σ7,H7,I7,n7⟩:=q7;exact again I7 n7
   | brk=>obtain ⟨σ7,H7,I7,q7⟩:=q7;exact ⟨σ7,H7,I7.unpinned,q7⟩
   | ret v=>obtain ⟨x7,σ7,H7,I7,r7,q7⟩:=q7;exact ⟨x7,σ7,H7,I7.unpinned,r7,q7⟩
end
theorem krx {K:ba0} {a:Addr} {xs:List V} {g:TG} {tb:TS} {D:Ends} {σ:St} {H:Hp} (Pv:Nat→St→Hp→Prop) (h0:Pv 0 σ H) (hl: ∀i σ H,i≤xs.length→Pv i σ H→SqL K H a xs)
 (hs: ∀i x σ H,xs[i]?=some x→Pv i σ H→g x σ H fun σ2 H2=>tb {D with nx:=Pv (i + 1),ct:=Pv (i + 1),bk:=D.nx} σ2 H2) (hd: ∀σ H,Pv xs.length σ H→D.nx σ H):
 ∃W:Nat→Nat→St→Hp→Prop,(∃ m,W 0 m σ H)∧∀i m σ H,W i m σ H→
  ((Itl K a).stop i H∧D.nx σ H)∨((Itl K a).go i H∧∃N:St→Hp→Prop,(∀ σ' H',N σ' H'→∃m',m' < m∧W (i + 1) m' σ' H')∧∀x H',(Itl K a).yld i H x H'→g x σ H' fun σ2 H2=>tb {D with nx:=N,ct:=N,bk:=D.nx} σ2 H2):=by
 refine ⟨fun i m σ H=>m=xs.length - i∧i≤xs.length∧Pv i σ H,⟨xs.length,by simp,bf4 _,h0⟩,?_⟩
 rintro i m σ H ⟨rfl,hi,p⟩
 have q:=hl i σ H hi p
 by_cases hlt:i < xs.length
 · refine .inr ⟨⟨xs,xs[i],q,by simp [hlt]⟩,Pv (i + 1),fun σ' H' p'=>⟨xs.length - (i + 1),by lia,rfl,hlt,p'⟩,fun x H' y=> ?_⟩
   obtain ⟨e,y⟩:=y
   subst e
   exact hs i x σ _ (y xs q) p
 · have e:i=xs.length:=by lia
   subst e
   exact .inl ⟨⟨xs,q,bb6 _⟩,hd σ H p⟩
theorem knt {lo:Int} {n:Nat} {g:TG} {tb:TS} {D:Ends} {σ:St} {H:Hp} (Pv:Nat→St→Hp→Prop) (h0:Pv 0 σ H)
 (hs: ∀i σ H,i < n→Pv i σ H→g (.int (lo + i)) σ H fun σ2 H2=>tb {D with nx:=Pv (i + 1),ct:=Pv (i + 1),bk:=D.nx} σ2 H2) (hd: ∀σ H,Pv n σ H→D.nx σ H):
 ∃W:Nat→Nat→St→Hp→Prop,(∃ m,W 0 m σ H)∧∀i m σ H,W i m σ H→
  ((Itr lo n).stop i H∧D.nx σ H)∨((Itr lo n).go i H∧∃N:St→Hp→Prop,(∀ σ' H',N σ' H'→∃m',m' < m∧W (i + 1) m' σ' H')∧∀x H',(Itr lo n).yld i H x H'→g x σ H' fun σ2 H2=>tb {D with nx:=N,ct:=N,bk:=D.nx} σ2 H2):=by
 refine ⟨fun i m σ H=>m=n - i∧i≤n∧Pv i σ H,⟨n,by simp,bf4 _,h0⟩,?_⟩
 rintro i m σ H ⟨rfl,hi,p⟩
 by_cases hlt:i < n
 · refine .inr ⟨hlt,Pv (i + 1),fun σ' H' p'=>⟨n - (i + 1),by lia,rfl,hlt,p'⟩,fun x H' y=> ?_⟩
   obtain ⟨e,y⟩:=y
   subst e y
   exact hs i σ _ hlt p
 · have e:i=n:=by lia
   subst e
   exact .inl ⟨bb6 _,hd σ H p⟩
abbrev R2:=V→V→Hp→VK→Prop
def OpR (X:Cx) (f:Value→Value→Sem Value) (r:R2):Prop:=
 ∀(pins:List (Addr×Obj)) (s:ba4) (σ:St) (H:Hp) (x y:V) (v u:Value) (Q:VK),Inv X pins σ H s→RelV x v→RelV y u→r x y H Q→
  wpAny (model X.prog X.w) X.A (f v u) (EP X pins σ Q) X.xe s
def CallR (X:Cx) (f:Value) (r:List V→Hp→VK→Prop):Prop:=
 ∀(pins:List (Addr×Obj)) (s:ba4) (σ:St) (H:Hp) (xs:List V) (us:List Value) (Q:VK),Inv X pins σ H s→Vals xs us→r xs H Q→
  wpAny (model X.prog X.w) X.A (call f us) (EP X pins σ Q) X.xe s
def tOp (r:R2) (ta tb:TE):TE:=fun σ H Q=>ta σ H fun x H1=>tb σ H1 fun y H2=>r x y H2 Q
def rI (C:Int→Int→Prop) (g:Int→Int→V):R2:=fun x y H Q=>∃i j,x= .int i∧y= .int j∧C i j∧Q (g i j) H
def rI0 (g:Int→Int→V):R2:=fun x y H Q=>∃i j,x= .int i∧y= .int j∧Q (g i j) H
section
variable {X:Cx} {a b c:Expr} {ta tb tc:TE} {pos:Pos}
theorem binT (ha:PE X a ta) (hb:PE X b tb) {pins:List (Addr×Obj)} {s:ba4} {σ:St} {H:Hp} {R:V→V→Hp→Prop} (I:Inv X pins σ H s)
 (h:ta σ H fun x H1=>tb σ H1 fun y H2=>R x y H2) {Q:Value→ba4→Prop} {f:Value→Value→Sem Value}
 (hf: ∀v u s2 x y H2,Inv X pins σ H2 s2→RelV x v→RelV y u→R x y H2→wpAny (model X.prog X.w) X.A (f v u) Q X.xe s2):
 wpAny (model X.prog X.w) X.A (eval a X.env) (fun v s₁=>wpAny (model X.prog X.w) X.A (eval b X.env) (fun u s₂=>wpAny (model X.prog X.w) X.A (f v u) Q X.xe s₂) X.xe s₁) X.xe s:=by
 refine thn (ha pins s σ H _ I h) fun v s1 ⟨x,H1,I1,r1,q1⟩=> ?_
 refine thn (hb pins s1 σ H1 _ I1 q1) fun u s2 ⟨y,H2,I2,r2,q2⟩=> ?_
 exact hf v u s2 x y H2 I2 r1 r2 q2
theorem ka1 {op:Operator} {r:R2} (ho:OpR X (binaryOp op) r) (ha:PE X a ta) (hb:PE X b tb):PE X (.BinOp a op b pos) (tOp r ta tb):=by
 intro pins s σ H Q I h
 exact wpAny_BinOp (binT ha hb I h fun v u s2 x y H2 I2 rx ry q=>ho pins s2 σ H2 x y v u Q I2 rx ry q)
theorem opI {f:Value→Value→Sem Value} {C:Int→Int→Prop} {g:Int→Int→Int}
 (rule: ∀(i j:Int) (t u:Tok) (s:ba4) (Q:Value→ba4→Prop) (E:Value→ba4→Prop),C i j→Q (.int (g i j) s.toks) {s with toks:=s.toks + 1}→wpAny (model X.prog X.w) X.A (f (.int i t) (.int j u)) Q E s):
 OpR X f (rI C fun i j=> .int (g i j)):=by
 intro pins s σ H x y v u Q I rx ry h
 obtain ⟨i,j,rfl,rfl,hc,q⟩:=h
 obtain ⟨t,rfl⟩:=rx
 obtain ⟨t',rfl⟩:=ry
 exact rule i j t t' s _ _ hc ⟨.int (g i j),H,I.tok _,⟨_,rfl⟩,q⟩
theorem opI0 {f:Value→Value→Sem Value} {g:Int→Int→Int}
 (rule: ∀(i j:Int) (t u:Tok) (s:ba4) (Q:Value→ba4→Prop) (E:Value→ba4→Prop),Q (.int (g i j) s.toks) {s with toks:=s.toks + 1}→wpAny (model X.prog X.w) X.A (f (.int i t) (.int j u)) Q E s):
 OpR X f (rI0 fun i j=> .int (g i j)):=by
 intro pins s σ H x y v u Q I rx ry h
 obtain ⟨i,j,rfl,rfl,q⟩:=h
 obtain ⟨t,rfl⟩:=rx
 obtain ⟨t',rfl⟩:=ry
 exact rule i j t t' s _ _ ⟨.int (g i j),H,I.tok _,⟨_,rfl⟩,q⟩
theorem opB0 {f:Value→Value→Sem Value} {g:Int→Int→Bool}
 (rule: ∀(i j:Int) (t u:Tok) (s:ba4) (Q:Value→ba4→Prop) (E:Value→ba4→Prop),Q (.bool (g i j)) s→wpAny (model X.prog X.w) X.A (f (.int i t) (.int j u)) Q E s):
 OpR X f (rI0 fun i j=> .bl (g i j)):=by
 intro pins s σ H x y v u Q I rx ry h
 obtain ⟨i,j,rfl,rfl,q⟩:=h
 obtain ⟨t,rfl⟩:=rx
 obtain ⟨t',rfl⟩:=ry
 exact rule i j t t' s _ _ ⟨.bl (g i j),H,I,rfl,q⟩
def CDiv (i j:Int):Prop:=0 < j∧j < 1073741824
def CPow (i j:Int):Prop:=0≤j∧j≤1000000∧i.natAbs < 2 ^ 64
def CMul (i j:Int):Prop:=(-(2 ^ 64) < i∧i < 2 ^ 64)∨(-(2 ^ 64) < j∧j < 2 ^ 64)
theorem CMul.ok {i j:Int} (h:CMul i j):IntMulOk i j:=by
 rcases h with ⟨h1,h2⟩ | ⟨h1,h2⟩
 · exact .of_left (intBits_le_64 h1 h2)
 · exact .of_right (intBits_le_64 h1 h2)
theorem kd4:OpR X (binaryOp .Add) (rI0 fun i j=> .int (i + j)):=opI0 fun q_ q_ q_ q_ q_ q_ q_ q=>add_int q
theorem kt6:OpR X (binaryOp .Sub) (rI0 fun i j=> .int (i - j)):=opI0 fun q_ q_ q_ q_ q_ q_ q_ q=>sub_int q
theorem kde:OpR X (binaryOp .Mult) (rI CMul fun i j=> .int (i * j)):=opI fun q_ q_ q_ q_ q_ q_ q_ hc q=>mul_int q hc.ok
theorem kcd:OpR X (binaryOp .FloorDiv) (rI CDiv fun i j=> .int (i / j)):=opI fun i j q_ q_ q_ q_ q_ hc q=>by
 have h1:(0:Int) < j:=hc.1
 have h2:j < 1073741824:=hc.2
 exact floordiv_int (by lia) (by rw [Int.fdiv_eq_ediv_of_nonneg i (by lia)];exact q) (.inl (PyProof.noPylong_small (by lia)))
theorem kci:OpR X (binaryOp .Mod) (rI (fun q_ j=>0 < j) fun i j=> .int (i % j)):=opI fun i j q_ q_ q_ q_ q_ hc q=>by
 have h1:(0:Int) < j:=hc
 exact mod_int' (by lia) (by rw [Int.fmod_eq_emod_of_nonneg i (by lia)];exact q)
theorem kzu:OpR X (binaryOp .Pow) (rI CPow fun i j=> .int (i ^ j.toNat)):=opI fun q_ q_ q_ q_ q_ q_ q_ hc q=>pow_int_small hc.1 hc.2.1 hc.2.2 q
end
noncomputable def scal:V→V→Bool
 | .non,.non=>true | .non,.int _=>true | .int _,.non=>true | .non,.bl _=>true | .bl _,.non=>true | .non,.str _=>true | .str _,.non=>true
 | .int _,.int _=>true | .bl _,.bl _=>true | .str _,.str _=>true | .byt _,.byt _=>true
 | .int _,.str _=>true | .str _,.int _=>true | .bl _,.str _=>true | .str _,.bl _=>true
 | _,_=>false
def rEq:R2:=fun x y H Q=>scal x y=true∧Q (.bl (decide (x=y))) H
def rNe:R2:=fun x y H Q=>scal x y=true∧Q (.bl (!decide (x=y))) H
theorem knu {i j:Int}:decide (V.int i=V.int j)=(i == j):=by
 rw [bh0]
 simp
theorem kt7 {i j:Bool}:decide (V.bl i=V.bl j)=(i == j):=by
 rw [bh0]
 simp
theorem knv {i j:Str}:decide (V.str i=V.str j)=(i == j):=by
 rw [bh0]
 simp
theorem knw {i j:Array UInt8}:decide (V.byt i=V.byt j)=(i.toList == j.toList):=by
 rw [bh0]
 cases i
 cases j
 simp
section
variable {X:Cx} {a b c:Expr} {ta tb tc:TE} {pos:Pos}
theorem ka2 {pins:List (Addr×Obj)} {σ:St} {H:Hp} {s:ba4} {Q:VK} {k k':Bool} (I:Inv X pins σ H s) (q:Q (.bl k) H) (e:k=k'):EP X pins σ Q (.bool k') s:=by
 subst e
 exact ⟨.bl k,H,I,rfl,q⟩
theorem knx:OpR X (bh4 .Eq) rEq:=by
 intro pins s σ H x y v u Q I rx ry h
 obtain ⟨hs,q⟩:=h
 cases x with
 | non=>
   cases rx
   cases y with
   | non=>cases ry;exact PySem.EqNone.eq_none_none (ka2 I q (by simp))
   | bl j=>cases ry;exact PySem.EqNone.eq_none_bool (ka2 I q (by simp))
   | int j=>obtain ⟨t',rfl⟩:=ry;exact PySem.EqNone.eq_none_int (ka2 I q (by simp))
   | str j=>obtain ⟨t',rfl⟩:=ry;exact PySem.EqNone.eq_none_str (ka2 I q (by simp))
   | _=>exact absurd (show false=true from hs) bb3
 | bl i=>
   cases rx
   cases y with
   | non=>cases ry;exact PySem.EqNone.eq_bool_none (ka2 I q (by simp))
   | bl j=>cases ry;exact eq_bool (ka2 I q kt7)
   | str j=>obtain ⟨t',rfl⟩:=ry;exact PySem.EqMixed.eq_bool_str (ka2 I q (by simp))
   | _=>exact absurd (show false=true from hs) bb3
 | int i=>
   obtain ⟨t,rfl⟩:=rx
   cases y with
   | non=>cases ry;exact PySem.EqNone.eq_int_none (ka2 I q (by simp))
   | int j=>obtain ⟨t',rfl⟩:=ry;exact eq_int (ka2 I q knu)
   | str j=>obtain ⟨t',rfl⟩:=ry;exact PySem.EqMixed.eq_int_str (ka2 I q (by simp))
   | _=>exact absurd (show false=true from hs) bb3
 | str i=>
   obtain ⟨t,rfl⟩:=rx
   cases y with
   | non=>cases ry;exact PySem.EqNone.eq_str_none (ka2 I q (by simp))
   | bl j=>cases ry;exact PySem.EqMixed.eq_str_bool (ka2 I q (by simp))
   | int j=>obtain ⟨t',rfl⟩:=ry;exact PySem.EqMixed.eq_str_int (ka2 I q (by simp))
   | str j=>obtain ⟨t',rfl⟩:=ry;exact eq_str (ka2 I q knv)
   | _=>exact absurd (show false=true from hs) bb3
 | byt i=>
   obtain ⟨t,rfl⟩:=rx
   cases y with
   | byt j=>obtain ⟨t',rfl⟩:=ry;exact PySem.W.eq_bytes (ka2 I q knw)
   | _=>exact absurd (show false=true from hs) bb3
 | _=>cases y <;> exact absurd (show false=true from hs) bb3
theorem op_ne:OpR X (bh4 .NotEq) rNe:=by
 intro pins s σ H x y v u Q I rx ry h
 obtain ⟨hs,q⟩:=h
 cases x with
 | non=>
   cases rx
   cases y with
   | non=>cases ry;exact PySem.EqNone.ne_none_none (ka2 I q (by simp))
   | bl j=>cases ry;exact PySem.EqNone.ne_none_bool (ka2 I q (by simp))
   | int j=>obtain ⟨t',rfl⟩:=ry;exact PySem.EqNone.ne_none_int (ka2 I q (by simp))
   | str j=>obtain ⟨t',rfl⟩:=ry;exact PySem.EqNone.ne_none_str (ka2 I q (by simp))
   | _=>exact absurd (show false=true from hs) bb3
 | bl i=>
   cases rx
   cases y with
   | non=>cases ry;exact PySem.EqNone.ne_bool_none (ka2 I q (by simp))
   | bl j=>cases ry;exact ne_bool (ka2 I q (congrArg not kt7))
   | str j=>obtain ⟨t',rfl⟩:=ry;exact PySem.EqMixed.ne_bool_str (ka2 I q (by simp))
   | _=>exact absurd (show false=true from hs) bb3
 | int i=>
   obtain ⟨t,rfl⟩:=rx
   cases y with
   | non=>cases ry;exact PySem.EqNone.ne_int_none (ka2 I q (by simp))
   | int j=>obtain ⟨t',rfl⟩:=ry;exact ne_int (ka2 I q (congrArg not knu))
   | str j=>obtain ⟨t',rfl⟩:=ry;exact PySem.EqMixed.ne_int_str (ka2 I q (by simp))
   | _=>exact absurd (show false=true from hs) bb3
 | str i=>
   obtain ⟨t,rfl⟩:=rx
   cases y with
   | non=>cases ry;exact PySem.EqNone.ne_str_none (ka2 I q (by simp))
   | bl j=>cases ry;exact PySem.EqMixed.ne_str_bool (ka2 I q (by simp))
   | int j=>obtain ⟨t',rfl⟩:=ry;exact PySem.EqMixed.ne_str_int (ka2 I q (by simp))
   | str j=>obtain ⟨t',rfl⟩:=ry;exact ne_str (ka2 I q (congrArg not knv))
   | _=>exact absurd (show false=true from hs) bb3
 | byt i=>
   obtain ⟨t,rfl⟩:=rx
   cases y with
   | byt j=>obtain ⟨t',rfl⟩:=ry;exact PySem.W.ne_bytes (ka2 I q (congrArg not knw))
   | _=>exact absurd (show false=true from hs) bb3
 | _=>cases y <;> exact absurd (show false=true from hs) bb3
theorem kry:OpR X (bh4 .Lt) (rI0 fun i j=> .bl (decide (i < j))):=opB0 fun q_ q_ q_ q_ q_ q_ q_ q=>lt_int q
theorem kvv:OpR X (bh4 .LtE) (rI0 fun i j=> .bl (decide (i≤j))):=opB0 fun q_ q_ q_ q_ q_ q_ q_ q=>le_int q
theorem kvw:OpR X (bh4 .Gt) (rI0 fun i j=> .bl (decide (j < i))):=opB0 fun q_ q_ q_ q_ q_ q_ q_ q=>gt_int q
theorem kzv:OpR X (bh4 .Is) (fun x y H Q=>y= .non∧Q (.bl (decide (x= .non))) H):=by
 intro pins s σ H x y v u Q I rx ry h
 obtain ⟨rfl,q⟩:=h
 cases ry
 refine is_none_gen (ka2 I q ?_)
 cases x <;> first
  | (cases rx;rfl)
  | (obtain ⟨t,rfl⟩:=rx;rfl)
theorem kvx:OpR X (bh4 .IsNot) (fun x y H Q=>y= .non∧Q (.bl (!decide (x= .non))) H):=by
 intro pins s σ H x y v u Q I rx ry h
 obtain ⟨rfl,q⟩:=h
 cases ry
 refine isnot_none_gen (ka2 I q ?_)
 cases x <;> first
  | (cases rx;rfl)
  | (obtain ⟨t,rfl⟩:=rx;rfl)
theorem kdg (b:Expr) {op:CmpOp} (h:autoParam (op≠ .In) u2._auto_1) (h2:autoParam (op≠ .NotIn) u2._auto_1):behindInMarks op b=false:=by
 have e1:(op == CmpOp.In)=false:=by cases op <;> first | rfl | exact absurd rfl h
 have e2:(op == CmpOp.NotIn)=false:=by cases op <;> first | rfl | exact absurd rfl h2
 cases b <;> simp [behindInMarks,e1,e2]
theorem keu {op:CmpOp} {r:R2} (ho:OpR X (bh4 op) r) (ha:PE X a ta) (hb:PE X b tb) (hm:behindInMarks op b=false):PE X (.Compare a [op] [b] pos) (tOp r ta tb):=by
 intro pins s σ H Q I h
 exact wpAny_Compare1 (binT ha hb I h fun v u s2 x y H2 I2 rx ry q=>ho pins s2 σ H2 x y v u Q I2 rx ry q) hm
def kzw (t:TE):TT:=fun σ H Q=>t σ H fun x H'=>∃k,x= .bl k∧Q k H'
theorem kdh {op:CmpOp} {r:R2} (ho:OpR X (bh4 op) r) (ha:PE X a ta) (hb:PE X b tb) (hm:behindInMarks op b=false):PT X (.Compare a [op] [b] pos) (kzw (tOp r ta tb)):=by
 intro pins s σ H Q I h
 refine wpAny_isTrue_Compare1 (thn (ha pins s σ H _ I h) fun v s1 ⟨x,H1,I1,r1,q1⟩=>thn (hb pins s1 σ H1 _ I1 q1) fun u s2 ⟨y,H2,I2,r2,q2⟩=>
  thn (ho pins s2 σ H2 x y v u _ I2 r1 r2 q2) fun c s3 ⟨z,H3,I3,r3,k,e,q3⟩=> ?_) hm
 subst e
 cases r3
 exact bm3 ⟨H3,I3,q3⟩
def kny (r r':R2) (ta tb tc:TE):TE:=fun σ H Q=>ta σ H fun x H1=>tb σ H1 fun y H2=>r x y H2 fun z H3=>∃k,z= .bl k∧
 (if k=true then tc σ H3 fun w' H4=>r' y w' H4 Q else Q (.bl false) H3)
theorem krz {op op':CmpOp} {r r':R2} (ho:OpR X (bh4 op) r) (ho':OpR X (bh4 op') r') (ha:PE X a ta) (hb:PE X b tb) (hc:PE X c tc)
 (hm:autoParam (lastMarks [op,op'] [b,c]=false) u5._auto_1):PE X (.Compare a [op,op'] [b,c] pos) (kny r r' ta tb tc):=by
 intro pins s σ H Q I h
 refine Compare_chain (thn (ha pins s σ H _ I h) fun v s1 ⟨x,H1,I1,r1,q1⟩=>chain_link (thn (hb pins s1 σ H1 _ I1 q1) fun u s2 ⟨y,H2,I2,r2,q2⟩=>
  thn (ho pins s2 σ H2 x y v u _ I2 r1 r2 q2) fun d s3 ⟨z,H3,I3,r3,k,e,q3⟩=> ?_)) hm
 subst e
 cases r3
 refine bm3 ?_
 cases k with
 | false=>exact ite_ff ⟨.bl false,H3,I3,rfl,q3⟩
 | true=>exact ite_tt (chain_last (thn (hc pins s3 σ H3 _ I3 q3) fun w' s4 ⟨z',H4,I4,r4,q4⟩=>ho' pins s4 σ H4 y z' u w' Q I4 r2 r4 q4))
theorem kk0 {op op':CmpOp} {r r':R2} (ho:OpR X (bh4 op) r) (ho':OpR X (bh4 op') r') (ha:PE X a ta) (hb:PE X b tb) (hc:PE X c tc)
 (hm:autoParam (lastMarks [op,op'] [b,c]=false) u5._auto_1):PT X (.Compare a [op,op'] [b,c] pos) (kzw (kny r r' ta tb tc)):=by
 intro pins s σ H Q I h
 refine isTrue_chain (thn (ha pins s σ H _ I h) fun v s1 ⟨x,H1,I1,r1,q1⟩=>test_link (thn (hb pins s1 σ H1 _ I1 q1) fun u s2 ⟨y,H2,I2,r2,q2⟩=>
  thn (ho pins s2 σ H2 x y v u _ I2 r1 r2 q2) fun d s3 ⟨z,H3,I3,r3,k,e,q3⟩=> ?_)) hm
 subst e
 cases r3
 refine bm3 ?_
 cases k with
 | false=>
   obtain ⟨k',e',q'⟩:=q3
   cases e'
   exact ite_ff ⟨H3,I3,q'⟩
 | true=>
   refine ite_tt (test_last (thn (hc pins s3 σ H3 _ I3 q3) fun w' s4 ⟨z',H4,I4,r4,q4⟩=>thn (ho' pins s4 σ H4 y z' u w' _ I4 r2 r4 q4) fun d' s5 ⟨z2,H5,I5,r5,k2,e2,q5⟩=> ?_))
   subst e2
   cases r5
   exact bm3 ⟨H5,I5,q5⟩
theorem kid:(sizeLine:Nat) < 2 ^ 63:=by rw [bq9];decide
theorem kd0 {x:V} {us:List Value} (r:Vals [x] us): ∃u,us=[u]∧RelV x u:=by
 cases r with
 | cons r1 r2=>cases r2;exact ⟨_,rfl,r1⟩
theorem kzx {x y:V} {us:List Value} (r:Vals [x,y] us): ∃u w',us=[u,w']∧RelV x u∧RelV y w':=by
 cases r with
 | cons r1 r2=>
   cases r2 with
   | cons r3 r4=>cases r4;exact ⟨_,_,rfl,r1,r3⟩
theorem knz:CallR X (.type "int") (fun xs H Q=>(∃ i,xs=[.int i]∧Q (.int i) H)∨∃k,xs=[.bl k]∧Q (.int (if k then 1 else 0)) H):=by
 intro pins s σ H xs us Q I r h
 rcases h with ⟨i,rfl,q⟩ | ⟨k,rfl,q⟩
 · obtain ⟨u,rfl,t,rfl⟩:=kd0 r
   exact call_int_int ⟨.int i,H,I,⟨_,rfl⟩,q⟩
 · obtain ⟨u,rfl,r1⟩:=kd0 r
   cases r1
   exact call_int_bool ⟨.int (if k then 1 else 0),H,I.tok _,⟨_,rfl⟩,q⟩
end
structure ObjM (h:Heap) (x dx C:Addr) (mA:Str→Option Value):Prop where
 obj:h.get? x=some (b97 C dx)
 ns:h.Ns1 dx mA
 ne:dx≠x
set_option tactic.hygienic true in
theorem kn0 {h:Heap} {dx:Addr} {mA:Str→Option Value} (n:h.Ns1 dx mA): ∃od,h.get? dx=some od∧∀name,cb9 name od=some (mA name):=by
 obtain ⟨o,es,ep,ho,hd,hk,_,hm⟩:=n
 refine ⟨o,ho,fun name=> ?_⟩
 have e:=hm name
 unfold nsFind findBy at e
 rw [← Array.find?_toList] at e
 unfold cb9
 rw [hd]
 dsimp only
 split
 · rename_i y q
   rw [q] at e
   exact congrArg some e
 · rename_i q
   rw [q] at e
   have a:es.toList.any (·.refKey)=false:=by
    rw [List.any_eq_false]
    intro y hy
    obtain ⟨z,t,hkey⟩:=hk y (cb7.mp hy)
    simp [DictEntry.refKey,hkey]
   have a': ¬es.toList.any (·.refKey)=true:=by rw [a];exact bb3
   rw [if_neg a']
   exact congrArg some e
theorem ObjM.look {h:Heap} {x dx C:Addr} {mA:Str→Option Value} (I:ObjM h x dx C mA): ∃od,PySem.W.InstAt h x (b97 C dx) C (some od)∧∀name,cb9 name od=some (mA name):=
 let ⟨od,ho,hl⟩:=kn0 I.ns
 ⟨od,⟨I.obj,rfl,rfl,ho⟩,hl⟩
section
variable {prog:bb8} {w:World} {A:bf8} {E:Value→ba4→Prop} {s:ba4} {K:ba0} {x dx C f:Addr} {mA:Str→Option Value} {name:Str} {v:Value}
end
section
variable {P:bb8} {w:World} {H H':Hp} {h h':Heap} {a C dx:Addr} {fs fs':List (Str×V)}
theorem kvy (hok:HOk P w H h) (e:H a=some (.ins C dx fs)): ∃mA,ObjM h a dx C mA∧(∀ f,RelO (fs.lookup f) (mA f))∧cm5 mA (fs.map (·.1))∧fs.length≤1000∧H dx=some (.own a):=by
 obtain ⟨d,z,ne,ob,mA,n,r,q⟩:=(show ObjOk P w H h a (.ins C dx fs) from hok a _ e)
 exact ⟨mA,⟨ob,n,ne⟩,r,q,z,d⟩
end
structure Cls (K:ba0) (C:Addr):Prop where
 pg:ch5 K C Str.empty=true
 hd:PySem.W.hasDictIn K C=true
 po:PySem.W.plainOver K C=true
 sa:b07 K (.ref C) "__setattr__"=some (some (.builtin "object.__setattr__"))
theorem Cls.get {K:ba0} {C:Addr} (c:Cls K C) (f:Str):ch5 K C f=true:=c.pg
section
variable {X:Cx} {pins:List (Addr×Obj)} {σ:St} {H:Hp} {s:ba4} {a C dx:Addr} {fs:List (Str×V)} {f:Str} {v:V} {A:bf8} {E:Value→ba4→Prop}
end
section
variable {X:Cx} {o e value:Expr} {f:Str} {pos pos' tpos:Pos} {ta tv:TE}
end
section
variable {X:Cx} {pins:List (Addr×Obj)} {σ:St} {H:Hp} {s:ba4} {A:bf8} {E:Value→ba4→Prop} {Q:Value→ba4→Prop} {c:Value} {b:Bool}
inductive TyOf (K:ba0) (H:Hp):V→Value→Prop where
 | non:TyOf K H .non (.type "NoneType")
 | bl (x:Bool):TyOf K H (.bl x) (.type "bool")
 | int (i:Int):TyOf K H (.int i) (.type "int")
 | str (x:Str):TyOf K H (.str x) (.type "str")
 | flt (x:UInt64):TyOf K H (.flt x) (.type "float")
 | lst {a:Addr} {xs:List V} (e:H a=some (.lst xs)):TyOf K H (.ref a) (.type "list")
 | frz {a:Addr} {o:Obj} {xs:List V} (e:H a=some (.frz o (.lst xs))):TyOf K H (.ref a) (.type "list")
 | tup {a:Addr} {xs:List V} (e:H a=some (.tup xs)):TyOf K H (.ref a) (.type "tuple")
 | dK {a:Addr} {kvs:List (Key×V)} (e:H a=some (.dK kvs)):TyOf K H (.ref a) (.type "dict")
 | dT {a:Addr} {kvs:List (List Key×V)} (e:H a=some (.dT kvs)):TyOf K H (.ref a) (.type "dict")
 | ins {a C dx:Addr} {fs:List (Str×V)} (e:H a=some (.ins C dx fs)) (cl:Cls K C) (ha:b07 K (.ref C) "__class__"=some (some (.builtin "object.__class__")))
    (hn:PySem.W.specialIn K (.builtin "object.__class__") "__get__"=some (some (.builtin "getset_descriptor.__get__"))) (htk:PySem.W.takesIn K (.builtin "object.__class__")=some true)
    (hm:cc8 K C (.type "object")=some true):TyOf K H (.ref a) (.ref C)
theorem kn1 {x:V} {u t:Value} (I:Inv X pins σ H s) (rx:RelV x u) (ty:TyOf X.K H x t) (e:be7 X.K t c=some b) (h: ∀tk,Q (.bool b) {s with toks:=tk}):
 wpAny (model X.prog X.w) A (call (.builtin "isinstance") [u,c]) Q E s:=by
 cases ty with
 | non=>cases (show u=bc9 from rx);exact bl9 PySem.W.kitx_none I.kIn b64 e (fun z=>nomatch z) h
 | bl y=>cases (show u=ck5 y from rx);exact bl9 PySem.W.kitx_bool I.kIn b64 e (fun z=>nomatch z) h
 | int i=>obtain ⟨t,q⟩:=(show ∃t,u=by1 i t from rx);cases q;exact bl9 PySem.W.kitx_int I.kIn b64 e (fun z=>nomatch z) h
 | str y=>obtain ⟨t,q⟩:=(show ∃t,u=cm4 y t from rx);cases q;exact bl9 PySem.W.kitx_str I.kIn b64 e (fun z=>nomatch z) h
 | flt y=>obtain ⟨t,q⟩:=(show ∃t,u=cn2 y t from rx);cases q;exact bl9 PySem.W.kitx_float I.kIn b64 e (fun z=>nomatch z) h
 | @lst a xs ea=>
   cases (show u=bg1 a from rx)
   obtain ⟨_,_,n,_,h1⟩:=(show ObjOk X.prog X.w H s.heap a (.lst xs) from I.hok a _ ea)
   exact bl9 ce8 I.kIn ⟨_,h1,rfl⟩ e (fun z=>nomatch z) h
 | @frz a ob xs ea=>
   cases (show u=bg1 a from rx)
   obtain ⟨_,_,_,n,_,h1⟩:=(show ObjOk X.prog X.w H s.heap a (.frz ob (.lst xs)) from I.hok a _ ea)
   exact bl9 ce8 I.kIn ⟨_,h1,rfl⟩ e (fun z=>nomatch z) h
 | @tup a xs ea=>
   cases (show u=bg1 a from rx)
   obtain ⟨_,_,_,p⟩:=(show ObjOk X.prog X.w H s.heap a (.tup xs) from I.hok a _ ea)
   obtain ⟨o,h1,h2,_⟩:=p
   exact bl9 PySem.W.kitx_tuple I.kIn ⟨o,h1,h2⟩ e (fun z=>nomatch z) h
 | @dK a kvs ea=>
   cases (show u=bg1 a from rx)
   obtain ⟨_,_,vs,_,p⟩:=(show ObjOk X.prog X.w H s.heap a (.dK kvs) from I.hok a _ ea)
   obtain ⟨o,es,ep,h1,h2,_⟩:=p
   exact bl9 ce9 I.kIn ⟨o,h1,h2.1⟩ e (fun z=>nomatch z) h
 | @dT a kvs ea=>
   cases (show u=bg1 a from rx)
   obtain ⟨_,_,xs,_,o,es,ep,h1,h2,_⟩:=(show ObjOk X.prog X.w H s.heap a (.dT kvs) from I.hok a _ ea)
   exact bl9 ce9 I.kIn ⟨o,h1,h2.1⟩ e (fun z=>nomatch z) h
 | @ins a C dx fs ea cl ha hn htk hm=>
   cases (show u=bg1 a from rx)
   obtain ⟨mA,O,_⟩:=kvy I.hok ea
   obtain ⟨od,J,_⟩:=O.look
   exact bl9 (PySem.W.kitx_own (cl.get _) cl.hd ha hn htk hm) I.kIn J e (fun z=>nomatch z) h
end
structure Room (k:Nat) (A:bf8):Prop where
 hd:A.handled=none
 dp:A.depth + 3 * k + 5 < recursionLimit
 un:A.units + 16 * k + 200 < cLine
theorem Room.mono {j k:Nat} {A:bf8} (r:Room k A) (h:j≤k):Room j A:=⟨r.hd,by have:=r.dp;lia,by have:=r.un;lia⟩
theorem Room.deeper {k:Nat} {A:bf8} (r:Room (k + 1) A) (env:Env):Room k (A.deeper env):=
 ⟨r.hd,by have:=r.dp;show A.depth + 1 + 3 * k + 5 < _;lia,by have:=r.un;show A.units + 3 + 16 * k + 200 < _;lia⟩
theorem Room.depth {k:Nat} {A:bf8} (r:Room k A):A.depth < recursionLimit:=by have:=r.dp;lia
def tNil:TA:=fun q_ H Q=>Q [] H
def kr0 (ta:TE) (tr:TA):TA:=fun σ H Q=>ta σ H fun x H1=>tr σ H1 fun xs H2=>Q (x::xs) H2
section
variable {X:Cx} {e:Expr} {es:List Expr} {te:TE} {t:TA} {pos:Pos}
theorem kal:PA X [] tNil:=fun q_ q_ q_ q_ H Q I h=>cf0 ⟨[],H,I,.nil,h⟩
theorem kad (ha:PE X e te) (hr:PA X es t) (hs:autoParam (bd5 (e::es) X.env=(false,eval e X.env)::bd5 es X.env) u4._auto_1):PA X (e::es) (kr0 te t):=by
 intro pos pins s σ H Q I h
 rw [hs]
 show wpAny _ _ (spliced ((false,eval e X.env)::backTo pos (bd5 es X.env))) _ _ s
 refine cc9 (thn (ha pins s σ H _ I h) fun u s1 ⟨x,H1,I1,r1,q1⟩=> ?_)
 exact thn (hr pos pins s1 σ H1 _ I1 q1) fun us s2 ⟨xs,H2,I2,r2,q2⟩=>⟨x::xs,H2,I2,.cons r1 r2,q2⟩
def tTup (t:TA):TE:=fun σ H Q=>t σ H fun xs H1=>xs.length≤sizeLine∧∀p,H1 p=none→Q (.ref p) (upd H1 p (.tup xs))
def tLst (t:TA):TE:=fun σ H Q=>t σ H fun xs H1=>xs.length≤sizeLine∧∀p,H1 p=none→Q (.ref p) (upd H1 p (.lst xs))
theorem kfe {x1} (h:PA X es t):PE X (.Tuple es x1 pos) (tTup t):=by
 intro pins s σ H Q I hq
 refine wpAny_Tuple_spliced (thn (h pos pins s σ H _ I hq) fun us s1 ⟨xs,H1,I1,r,z,q⟩=>⟨by rw [← r.length];exact z,?_⟩)
 have hf:H1 s1.heap.objs.size=none:=I1.hok.fresh (bb6 _)
 refine ⟨.ref s1.heap.objs.size,upd H1 s1.heap.objs.size (.tup xs),I1.laid (t':=s1.toks) (fun b u e=>bb0 _ e) (bb6 _) ?_,rfl,q _ hf⟩
 exact ⟨⟨⟨_,bd8 _ rfl,rfl⟩,z⟩,us,r,⟨_,bd8 _ rfl,rfl,_,rfl⟩⟩
theorem kff (h:PA X es t):PE X (.List es pos) (tLst t):=by
 intro pins s σ H Q I hq
 refine wpAny_List_spliced (thn (h pos pins s σ H _ I hq) fun us s1 ⟨xs,H1,I1,r,z,q⟩=>⟨by rw [← r.length];exact z,?_⟩)
 have hf:H1 s1.heap.objs.size=none:=I1.hok.fresh (bb6 _)
 refine ⟨.ref s1.heap.objs.size,upd H1 s1.heap.objs.size (.lst xs),I1.laid (t':=s1.toks) (fun b u e=>bb0 _ e) (bb6 _) ?_,rfl,q _ hf⟩
 exact ⟨z,us,0,r,bd8 _ rfl⟩
end
abbrev Sp:=List V→Hp→VK→XK→Prop
abbrev CXT:=List Env→Hp→ba4→XK→Value→ba4→Prop
structure Env0 (P:bb8) (w:World) (K:ba0) (mg:Str→Option Value) (base:Heap) (A:bf8) (outer:List Env) (s:ba4) (H:Hp):Prop where
 frames:A.frames=some outer
 mod:Mod K mg base
 bs: ∀b o,base.get? b=some o→s.heap.get? b=some o∧H b=none
 bsz:base.objs.size≤s.heap.objs.size
 funs:s.heap.FunFrames base outer
 frf: ∀b∈frs outer,H b=none
 hok:HOk P w H s.heap
 bare:AllBare s.gens
def CE (outer:List Env) (P:bb8) (w:World) (H:Hp) (s:ba4) (Q:VK) (u:Value) (s':ba4):Prop:=
 ∃v H',s'.os=s.os∧AllBare s'.gens∧Un (frs outer) [] H H' s.heap s'.heap∧HOk P w H' s'.heap∧RelV v u∧Q v H'
def CR (CX:CXT) (outer:List Env) (P:bb8) (w:World) (H:Hp) (s:ba4) (Q:VK) (E:XK) (r:Result) (s':ba4):Prop:=
 match r with
 | .ok (.ret u)=>CE outer P w H s Q u s'
 | .ok _=>False
 | .error e=>CX outer H s E e s'
structure FnOk (P:bb8) (w:World) (K:ba0) (mg:Str→Option Value) (base:Heap) (CX:CXT) (k:Nat) (f:Addr) (fd:bf0) (ps:List Str) (sp:Sp):Prop where
 len: ∀vs H Q E,sp vs H Q E→vs.length=ps.length
 run: ∀(A:bf8) (outer:List Env) (s:ba4) (H:Hp) (args:Args) (us:List Value) (vs:List V) (Q:VK) (E:XK),Room k A→Env0 P w K mg base A outer s H→BindsTo s fd args (ps.zip us)→Vals vs us→sp vs H Q E→
  codeAny (model P w) A (.call (.ref f) args) (CR CX outer P w H s Q E) s
theorem FnOk.imp {P:bb8} {w:World} {K:ba0} {mg:Str→Option Value} {base:Heap} {CX:CXT} {k:Nat} {f:Addr} {fd:bf0} {ps:List Str} {sp sp':Sp} (F:FnOk P w K mg base CX k f fd ps sp)
 (h: ∀vs H Q E,sp' vs H Q E→sp vs H Q E):FnOk P w K mg base CX k f fd ps sp':=
 ⟨fun vs H Q E q=>F.len vs H Q E (h _ _ _ _ q),fun A outer s H args us vs Q E hr he hb hv hs=>F.run A outer s H args us vs Q E hr he hb hv (h _ _ _ _ hs)⟩
section
variable {X:Cx} {pins:List (Addr×Obj)} {σ:St} {H:Hp} {s s':ba4}
theorem Inv.env0 (I:Inv X pins σ H s):Env0 X.prog X.w X.K X.mg X.base X.A X.stack s H:=
 ⟨I.ok.frames,I.ok.mod,I.bs,bj2 I.ok.bsz I.sz,I.stack,I.stkFree,I.hok,I.bare⟩
theorem Inv.after {Q:VK} {u:Value} (I:Inv X pins σ H s) (h:CE X.stack X.prog X.w H s Q u s'):EP X pins σ Q u s':=by
 obtain ⟨v,H',os,bare,un,hok,r,q⟩:=h
 obtain ⟨hh,g,d,t,os'⟩:=s'
 obtain rfl:os'=s.os:=os
 exact ⟨v,H',I.call (h':=hh) (g':=g) (d':=d) (t':=t) (ch:=[]) un hok bare (fun b z=>absurd z (by simp)),r,q⟩
end
def kzy (sp:Sp) (dvs:List V) (E:XK) (t:TA):TE:=fun σ H Q=>t σ H fun vs H1=>sp (vs++dvs) H1 Q E
def Binds (K:ba0) (fd:bf0) (ps:List Str) (ds:List Value):Prop:=
 ∀(s:ba4) (us:List Value),K.In s.heap→(us++ds).length=ps.length→BindsTo s fd ⟨us,[]⟩ (ps.zip (us++ds))
theorem Binds.all {K:ba0} {fd:bf0} {ps:List Str} (h: ∀us:List Value,us.length=ps.length→bindArgs fd ⟨us,[]⟩=pure (ps.zip us)):Binds K fd ps []:=fun s us q_ hl=>by
 rw [be4] at hl ⊢
 exact .of_eq (h us hl)
def kn2 (CX:CXT) (X:Cx) (E:XK):Prop:=∀(pins:List (Addr×Obj)) (σ:St) (H:Hp) (s:ba4) (e:Value) (s':ba4),Inv X pins σ H s→CX X.stack H s E e s'→X.xe e s'
section
variable {X:Cx} {CX:CXT} {k:Nat} {f C:Addr} {fd:bf0} {ps:List Str} {sp:Sp} {dvs:List V} {ds:List Value} {E:XK} {x m:Str} {p pos apos:Pos} {e o:Expr} {es:List Expr} {ta:TE} {t:TA}
theorem kzz {pins:List (Addr×Obj)} {σ:St} {H:Hp} {s:ba4} {Q:VK} {us:List Value} {vs:List V} (F:FnOk X.prog X.w X.K X.mg X.base CX k f fd ps sp) (hr:Room k X.A) (hb:Binds X.K fd ps ds) (hd:Vals dvs ds) (hx:kn2 CX X E)
 (I:Inv X pins σ H s) (r:Vals vs us) (h:sp (vs++dvs) H Q E):wpAny (model X.prog X.w) X.A (call (.ref f) us) (EP X pins σ Q) X.xe s:=by
 have r2:Vals (vs++dvs) (us++ds):=r.append hd
 have hl:(us++ds).length=ps.length:=by rw [← r2.length];exact F.len _ _ _ _ h
 refine ck7 (bx4 (F.run X.A X.stack s H ⟨us,[]⟩ (us++ds) (vs++dvs) Q E hr I.env0 (hb s us I.kIn hl) r2 h) fun r s' hq=> ?_)
 cases r with
 | error e=>exact hx pins σ H s e s' I hq
 | ok fl=>
   cases fl with
   | ret u=>exact I.after hq
   | next=>exact bp9 hq
   | brk=>exact bp9 hq
   | cont=>exact bp9 hq
theorem kvz (F:FnOk X.prog X.w X.K X.mg X.base CX k f fd ps sp) (hr:Room k X.A) (hg:Gl X x) (hm:X.mg x=some (.ref f)) (hk:bv8 X.K (.ref f)=true) (hb:Binds X.K fd ps ds) (hd:Vals dvs ds) (hx:kn2 CX X E)
 (ha:PA X (e::es) t) (hdb:autoParam ((x == ("__debug__":Str))=false) u2._auto_1) (he:autoParam (bd5 (e::es) X.env=(false,eval e X.env)::bd5 es X.env) u4._auto_1) (hpl:autoParam ((backTo pos (bd5 es X.env)).any (·.1)=false) u4._auto_1):
 PE X (.Call (.Name x p) (e::es) [] pos) (kzy sp dvs E t):=by
 intro pins s σ H Q I h
 refine bo6 (kjr I hg hm ?_ hdb)
 refine cd0 (h₀:=X.base) I.ok.mod.kin hk (thn (ha pos pins s σ H _ I h) fun us s1 ⟨vs,H1,I1,r,q⟩=>⟨I1.kIn,?_⟩) he hpl
 exact kzz F hr hb hd hx I1 r q
end
section
variable {X:Cx} {CX:CXT} {k:Nat} {f C:Addr} {fd:bf0} {ps ks:List Str} {sp:Sp} {E:XK} {x m:Str} {p pos apos kpos:Pos} {e o:Expr} {es:List Expr} {kws:List Keyword} {te ta:TE} {t tk:TA} {nm:Option Str}
variable {g:List Value→List Value→List Value} {gV:List V→List V→List V}
end
structure FnScope (N P:List Str) (sc:Scope):Prop where
 kind:sc.kind= .function
 co:sc.isCoroutine=false
 gen:sc.isGenerator=false
 nd:N.Nodup
 pre:N.take P.length=P
 par: ∀x∈P,sc.names.lookup x=some .local∨sc.names.lookup x=some .cell
 nofree: ∀y∈sc.names,y.2≠ .free
theorem kie {kindOf:Str→Option NameKind} {x:Str}: ∀{binds:List (Str×Value)} {m:Str→Option Value},(∀ v,(x,v) ∉ binds)→bindL kindOf binds m x=m x
 | [],_,_=>rfl
 | (n,v)::r,m,h=>by
   unfold bindL
   rw [kie fun w hw=>h w (bb7 _ hw)]
   split
   · have:x≠n:=by rintro rfl;exact h v bc4
     simp [this]
   · rfl
theorem kif {kindOf:Str→Option NameKind} {x:Str}: ∀{binds:List (Str×Value)} {m:Str→Option Value},(∀ v,(x,v) ∉ binds)→bindC kindOf binds m x=m x
 | [],_,_=>rfl
 | (n,v)::r,m,h=>by
   unfold bindC
   rw [kif fun w hw=>h w (bb7 _ hw)]
   split
   · rfl
   · have:x≠n:=by rintro rfl;exact h v bc4
     simp [this]
theorem kig {kindOf:Str→Option NameKind} {x:Str} {v:Value}: ∀{P:List Str} {vs:List Value} {i:Nat} {m:Str→Option Value},P.Nodup→P[i]?=some x→vs[i]?=some v→kindOf x=some .local→
 bindL kindOf (P.zip vs) m x=some v
 | [],_,_,_,_,h,_,_=>by simp at h
 | _::_,[],_,_,_,_,h,_=>by simp at h
 | p::P,w::vs,0,m,nd,h1,h2,hk=>by
   simp at h1 h2;subst h1;subst h2
   show bindL kindOf ((p,w)::P.zip vs) m p=_
   unfold bindL
   rw [kie fun v hv=>(bk5.mp nd).1 (ca0 hv).1,if_pos hk]
   simp
 | p::P,w::vs,i + 1,m,nd,h1,h2,hk=>by
   show bindL kindOf ((p,w)::P.zip vs) m x=_
   unfold bindL
   exact kig (i:=i) (bk5.mp nd).2 (by simpa using h1) (by simpa using h2) hk
theorem kih {kindOf:Str→Option NameKind} {x:Str} {v:Value}: ∀{P:List Str} {vs:List Value} {i:Nat} {m:Str→Option Value},P.Nodup→P[i]?=some x→vs[i]?=some v→kindOf x≠some .local→
 bindC kindOf (P.zip vs) m x=some v
 | [],_,_,_,_,h,_,_=>by simp at h
 | _::_,[],_,_,_,_,h,_=>by simp at h
 | p::P,w::vs,0,m,nd,h1,h2,hk=>by
   simp at h1 h2;subst h1;subst h2
   show bindC kindOf ((p,w)::P.zip vs) m p=_
   unfold bindC
   rw [kif fun v hv=>(bk5.mp nd).1 (ca0 hv).1,if_neg hk]
   simp
 | p::P,w::vs,i + 1,m,nd,h1,h2,hk=>by
   show bindC kindOf ((p,w)::P.zip vs) m x=_
   unfold bindC
   exact kih (i:=i) (bk5.mp nd).2 (by simpa using h1) (by simpa using h2) hk
noncomputable def start (N:List Str) (vs:List V):St:=vs.map some++bf9 (N.length - vs.length) none
noncomputable def kn3 (CX:CXT) (P:bb8) (w:World) (K:ba0) (mg:Str→Option Value) (base:Heap) (N:List Str) (qual:Str) (scope:Scope) (f:Addr) (cd:Value) (A:bf8) (outer:List Env) (s:ba4) (H:Hp) (E:XK):Cx where
 prog:=P
 w:=w
 K:=K
 mg:=mg
 base:=base
 A:=A.deeper (envOfC qual scope s.heap.objs.size f cd)
 N:=N
 s₀:=s
 H₀:=H
 env:=envOfC qual scope s.heap.objs.size f cd
 outer:=outer
 stack:=envOfC qual scope s.heap.objs.size f cd::outer
 ex:=[]
 calm:=true
 fn:=fun q_=>true
 pn:=[]
 xe:=fun e s'=>wpAny (model P w) (A.deeper (envOfC qual scope s.heap.objs.size f cd)) (leaving (envOfC qual scope s.heap.objs.size f cd) e) (fun q_ s''=>CX outer H s E e s'') (fun e' s''=>CX outer H s E e' s'') s'
theorem kk1 {sc:Scope} {n:Nat} {x:Str} (h:sc.names.lookup x=some .cell): ∃c,(cellsFrom n sc.names []).lookup x=some c:=by
 have q:=bt1 sc.names n [] (.inl h)
 exact bo7.mp q
theorem kn4 {CX:CXT} {P:bb8} {w:World} {K:ba0} {mg:Str→Option Value} {base:Heap} {N ps:List Str} {qual:Str} {scope:Scope} {f:Addr} {cd:Value} {A:bf8} {outer:List Env} {s s1:ba4} {H:Hp} {E:XK} {us:List Value} {vs:List V}
 (S:FnScope N ps scope) (hd:A.handled=none) (e0:Env0 P w K mg base A outer s H) (hl:vs.length=ps.length) (r:Vals vs us)
 (x:InCallC s s.heap.objs.size (bindL (envOfC qual scope s.heap.objs.size f cd).kindOf (ps.zip us) fun q_=>none) (cellsFrom (s.heap.objs.size + 1) scope.names []) (bindC (envOfC qual scope s.heap.objs.size f cd).kindOf (ps.zip us) fun q_=>none) s1):
 Inv (kn3 CX P w K mg base N qual scope f cd A outer s H E) [] (start N vs) H s1:=by
 have hpl:ps.length≤N.length:=by have:=congrArg bu0 S.pre;rw [bi3] at this;lia
 obtain ⟨h1,tk,rfl,hk⟩:=x.done
 have noA: ∀b:Addr,b ∉ (kn3 CX P w K mg base N qual scope f cd A outer s H E).ex:=fun b z=>absurd (show b∈([]:List Addr) from z) (by simp)
 refine ⟨⟨e0.mod,S.kind,rfl,rfl,bb6 _,fun y z c h1 h2=> ?_,fun y hy=> ?_,fun y c q_ h=> ?_,fun q_=>hd,bf8.frames_deeper e0.frames,.inr ⟨rfl,rfl⟩,fun b z=>absurd z (noA b),e0.bs,e0.bsz,fun b q_ q_=>noA b,fun b z=>absurd z (noA b),e0.funs,e0.frf⟩,
  rfl,e0.bare,Un.kept hk,⟨_,x.toInCall.ns,fun i y v h1 h2 h3=> ?_⟩,fun y c h=>⟨_,x.cell y c h⟩,e0.hok.fresh (bb6 _),fun y c h=> ?_,fun p hp=>absurd (show p∈([]:List (Addr×Obj)) from hp) (by simp),e0.hok.kept hk,?_⟩
 · exact name_of_addr x.apart (bj4 h1) (bj4 h2)
 · have hy:scope.names.lookup y=some .cell∨scope.names.lookup y=some .free:=hy
   rcases hy with hy | hy
   · exact kk1 hy
   · exact absurd rfl (S.nofree _ (bj4 hy))
 · exact b98 (x.above y c (bj4 h))
 · have hi:i < vs.length:=by
    unfold start at h2
    by_cases hi:i < vs.length
    · exact hi
    · rw [bb5 (by simpa using hi)] at h2
      rw [by2] at h2
      split at h2 <;> cases h2
   have ha:vs[i]?=some v:=by
    unfold start at h2
    rw [bc3 (by simpa using hi),be3] at h2
    cases e:vs[i]? with
    | none=>rw [e] at h2;cases h2
    | some a=>rw [e] at h2;cases h2;rfl
   obtain ⟨u,hu,rv⟩:=r.get ha
   have hp:ps[i]?=some y:=by
    rw [← S.pre,List.getElem?_take_of_lt (by lia)];exact h1
   have ndP:ps.Nodup:=by rw [← S.pre];exact S.nd.sublist (bv0 _ _)
   refine ⟨u,rv,?_⟩
   rcases S.par y (be2 hp) with k | k
   · exact .inl ⟨k,kig ndP hp hu k⟩
   · obtain ⟨c,e⟩:=kk1 (n:=s.heap.objs.size + 1) k
     refine .inr ⟨.inl k,c,e,?_⟩
     have q:=x.cell y c e
     rw [kih ndP hp hu (by show scope.names.lookup y≠_;rw [k];decide)] at q
     exact q
 · exact e0.hok.fresh (b98 (x.above y c (bj4 h)))
 · unfold start
   show _=N.length
   rw [ba6,ba3,b13]
   lia
theorem fn_of {CX:CXT} {P:bb8} {w:World} {K:ba0} {mg:Str→Option Value} {base:Heap} {k:Nat} {f:Addr} {name qual:Str} {params:Arguments} {body:List Stmt} {scope:Scope} {dV kV doc pm cdv ct oc:Value} {an od:Option Addr}
 {osl:Array (Option Value)} {N ps:List Str} {sp:Sp} (lk:K.lookup f=some ⟨oc,od,.func (bm4 name qual params body scope dV kV doc pm an cdv ct),osl⟩) (hcd:b08 K cdv qual=true) (S:FnScope N ps scope)
 (len: ∀vs H Q E,sp vs H Q E→vs.length=ps.length)
 (hbody: ∀(A:bf8) (outer:List Env) (s:ba4) (H:Hp) (vs:List V) (Q:VK) (E:XK),Room k (A.deeper (envOfC qual scope s.heap.objs.size f cdv))→sp vs H Q E→
   ∃t,PSs (kn3 CX P w K mg base N qual scope f cdv A outer s H E) body t∧t {nx:=fun q_ H'=>Q .non H',rt:=Q} (start N vs) H):
 FnOk P w K mg base CX (k + 1) f (bm4 name qual params body scope dV kV doc pm an cdv ct) ps sp:=by
 refine ⟨len,fun A outer s H args us vs Q E hr e0 hb r hsp=> ?_⟩
 have hl:=len _ _ _ _ hsp
 have KX:K.In s.heap:=e0.mod.kin.keeps fun b o e=>(e0.bs b o e).1
 have lim:s.heap.NoLimit:=e0.mod.nolimit.keeps fun b o e=>(e0.bs b o e).1
 have hkind: ∀y∈ps.zip us,scope.names.lookup y.1=some .local∨(scope.names.lookup y.1=some .cell∧((cellsFrom (s.heap.objs.size + 1) scope.names []).lookup y.1).isSome=true):=fun ⟨n,v⟩ hy=>by
  rcases S.par n (ca0 hy).1 with q | q
  · exact .inl q
  · exact .inr ⟨q,bt1 _ _ _ (.inl q)⟩
 refine codeAny_call_function hr.depth (KX _ _ lk) rfl S.co S.gen rfl (PySem.W.codeRec_of KX hcd) (hb _ _ _ _ ?_)
 refine wpAny_newFunctionEnv_cells S.kind hkind fun env he s1 x=> ?_
 subst he
 refine ⟨lim.keeps x.toInCall.keep,codeAny_func ?_⟩
 obtain ⟨t,ht,hq⟩:=hbody A outer s H vs Q E (hr.deeper _) hsp
 have I:Inv (kn3 CX P w K mg base N qual scope f cdv A outer s H E) [] (start N vs) H s1:=kn4 S hr.hd e0 hl r x
 refine bp8 (ht [] s1 (start N vs) H _ I hq) (fun fl s' hs=> ?_) fun e s' hs=>hs
 have fin: ∀{σ':St} {H':Hp} {v:V} {u:Value},Inv (kn3 CX P w K mg base N qual scope f cdv A outer s H E) [] σ' H' s'→RelV v u→Q v H'→CE outer P w H s Q u s':=
  fun {σ' H' v u} J rv q=>⟨v,H',J.os,J.bare,J.base,J.hok,rv,q⟩
 cases fl with
 | ret u=>
   obtain ⟨v,σ',H',J,rv,q⟩:=hs
   exact fin J rv q
 | next=>
   obtain ⟨σ',H',J,q⟩:=hs
   exact fin (v:=V.non) (u:=bc9) J rfl q
 | brk=>
   obtain ⟨_,_,_,q⟩:=hs
   exact bp9 q
 | cont=>
   obtain ⟨_,_,_,q⟩:=hs
   exact bp9 q
section
variable {X:Cx} {x:Str} {p pos:Pos} {e:Expr} {es:List Expr} {t:TA} {id T:String} {r:List V→Hp→VK→Prop}
def tCB (r:List V→Hp→VK→Prop) (t:TA):TE:=fun σ H Q=>t σ H fun vs H1=>r vs H1 Q
theorem kbe (hc:CallR X (.builtin id) r) (hg:Gl X x) (hm:X.mg x=none) (hv:bootBuiltins x=some (.builtin id)) (ha:PA X (e::es) t) (hn:autoParam (x≠"__name__") u2._auto_1) (hdb:autoParam ((x == ("__debug__":Str))=false) u2._auto_1)
 (he:autoParam (bd5 (e::es) X.env=(false,eval e X.env)::bd5 es X.env) u4._auto_1) (hpl:autoParam ((backTo pos (bd5 es X.env)).any (·.1)=false) u4._auto_1):PE X (.Call (.Name x p) (e::es) [] pos) (tCB r t):=by
 intro pins s σ H Q I h
 refine bo6 (kfd I hg hm hv ?_ hn hdb)
 exact PyProof.Rows.callWith_builtin1 (thn (ha pos pins s σ H _ I h) fun us s1 ⟨vs,H1,I1,r1,q1⟩=>hc pins s1 σ H1 vs us Q I1 r1 q1) he hpl
theorem kbw (hc:CallR X (.type T) r) (hg:Gl X x) (hm:X.mg x=none) (hv:bootBuiltins x=some (.type T)) (ha:PA X (e::es) t) (hn:autoParam (x≠"__name__") u2._auto_1) (hdb:autoParam ((x == ("__debug__":Str))=false) u2._auto_1)
 (he:autoParam (bd5 (e::es) X.env=(false,eval e X.env)::bd5 es X.env) u4._auto_1) (hpl:autoParam ((backTo pos (bd5 es X.env)).any (·.1)=false) u4._auto_1):PE X (.Call (.Name x p) (e::es) [] pos) (tCB r t):=by
 intro pins s σ H Q I h
 refine bo6 (kfd I hg hm hv ?_ hn hdb)
 exact bk9 (thn (ha pos pins s σ H _ I h) fun us s1 ⟨vs,H1,I1,r1,q1⟩=>hc pins s1 σ H1 vs us Q I1 r1 q1) he hpl
end
section
variable {κ:Type} [DecidableEq κ]
end
section
variable {P:bb8} {w:World} {H:Hp} {h:Heap} {a:Addr}
end
section
variable {X:Cx} {pins:List (Addr×Obj)} {σ:St} {H:Hp} {s:ba4} {a:Addr} {y v:V} {u r:Value} {o:Option V} {A:bf8} {E:Value→ba4→Prop}
theorem Inv.big (I:Inv X pins σ H s):sysModules < s.heap.objs.size:=by
 have h:bf5 < s.heap.objs.size:=(I.mod.glob.keeps I.bk).lt
 exact cm6 (by decide) h
theorem kv0 {h':Heap} {t':Nat} {ob:HO} (I:Inv X pins σ H s) (mu:Mut (H a)) (hs:bn5 a s.heap h') (he: ∃q,h'.get? a=some q) (new:ObjOk X.prog X.w (upd H a ob) h' a ob):
 Inv X pins σ (upd H a ob) {s with heap:=h',toks:=t'}:=
 I.write (x:=a) (e:=a) mu (.inl rfl) (fun b q hb z=>(hs.2 b hb).trans z) he new
end
section
variable {X:Cx} {pins:List (Addr×Obj)} {σ:St} {H:Hp} {s:ba4} {a:Addr} {kvs:List (Key×V)} {k:Key} {u:Value} {A:bf8} {E:Value→ba4→Prop}
end
def NoSl (i:Expr):Prop:=∀ov iv,subscripted i false ov iv=operate [ov,iv] (getItem ov iv)
theorem kv1 {prog:bb8} {w:World} {A:bf8} {E:Value→ba4→Prop} {s:ba4} {env:Env} {value slice:Expr} {pos:Pos} {T id:String} {Q:Value→ba4→Prop}
 (hl:typeLookup (.type T) "__getitem__"=pure (some (.builtin id))) (hs:NoSl slice)
 (h:wpAny (model prog w) A (eval value env) (fun o s₁=>wpAny (model prog w) A (eval slice env) (fun i s₂=>s₂.TypeIs o T∧wpAny (model prog w) A (getItem o i) Q E s₂) E s₁) E s):
 wpAny (model prog w) A (eval (.Subscript value slice pos) env) Q E s:=by
 refine Subscript_ (bp8 h (fun o s₁ h₁=>bp8 h₁ (fun i s₂ h₂=> ?_) fun q_ q_ x=>x) fun q_ q_ x=>x)
 obtain ⟨hT,h₂⟩:=h₂
 unfold subscriptTail
 refine ba2 ?_
 rw [getitemInPython_of_ne hT.not_modules]
 refine ba2 (bm7 hT hl ?_)
 have fin:wpAny (model prog w) A (subscripted slice false o i) (fun r s₃=>wpAny (model prog w) A (letTemporaryGo value o r >>= fun q_=>pure r) Q E s₃) E s₂:=by
  rw [hs o i]
  exact wpAny_operating (bp8 h₂ (fun r s₃ h₃=>ba2 (wpAny_letTemporaryGo (bb4 h₃))) fun q_ q_ x=>x)
 first
  | exact bb4 (ba2 fin)
  | exact ba2 (bb4 (ba2 fin))
  | exact ba2 fin
section
variable {X:Cx} {o i e value:Expr} {pos pos' tpos:Pos} {td ty tv:TE}
end
section
variable {X:Cx} {pos:Pos}
end
structure M1 (X:Cx) (o:Expr) (m:Str) (apos:Pos) (e:Expr) (cpos:Pos):Prop where
 base:bs6 o m X.env (eval o X.env)=eval o X.env
 few:((backTo cpos (bd5 [e] X.env)).all (fun x=> !x.1) && (b86 cpos (bx3 [] X.env)).all (fun x=>x.1.isSome)
  && decide (([e]:List Expr).length + ([]:List Keyword).length + (if ([]:List Keyword).isEmpty then 0 else 1) < 30))=true
 line:(apos.endLine == cpos.line)=true
 trees:backTo cpos (bd5 [e] X.env)=[(false,eval e X.env)]
section
variable {X:Cx} {pins:List (Addr×Obj)} {σ:St} {H:Hp} {s:ba4} {a:Addr} {y d:V} {u r:Value} {o:Option V} {A:bf8} {E:Value→ba4→Prop}
end
section
variable {X:Cx} {o e f:Expr} {apos cpos:Pos} {td ty tx:TE}
end
section
variable {X:Cx} {pins:List (Addr×Obj)} {σ:St} {H:Hp} {s:ba4} {a:Addr} {kvs:List (Key×V)} {A:bf8} {E:Value→ba4→Prop}
end
section
variable {X:Cx} {pins:List (Addr×Obj)} {σ:St} {H:Hp} {s:ba4} {a:Addr} {y:V} {u:Value} {A:bf8} {E:Value→ba4→Prop}
end
end L2
namespace HT
open PySem PyProof.Rows
section
open PySem.SeqAt
open PySem.AutoSeq1 (wpAny_loadPart')
open PySem.MeetsSeq PySem.MeetsSeq2 PySem.MeetsSeq3
end
section
variable {prog:bb8} {w:World} {A:bf8} {E:Value→ba4→Prop} {s:ba4}
theorem cat_tup {t b:Addr} {vs ws:List Value} {Q:Value→ba4→Prop} (ht:IsTup s.heap t vs.toArray) (hb:IsTup s.heap b ws.toArray) (hv:vs≠[])
 (h1:ws=[]→Q (.ref t) s) (h2:ws≠[]→Q (.ref s.heap.objs.size) {s with heap:=s.heap.push {cls:= .type "tuple",data:= .seq (vs++ws).toArray}})
 (hsz:vs.length + ws.length≤sizeLine):wpAny (model prog w) A (binaryOp .Add (.ref t) (.ref b)) Q E s:=by
 obtain ⟨⟨cls,dd,data,sl⟩,ho,hc,n,hd⟩:=id ht
 obtain ⟨⟨cls2,dd2,data2,sl2⟩,ho2,hc2,n2,hd2⟩:=id hb
 simp only at hc hd hc2 hd2
 subst hc hd hc2 hd2
 have e:vs.toArray++ws.toArray=(vs++ws).toArray:=by simp
 by_cases hw:ws=[]
 · exact cg3 ⟨_,ho,rfl⟩ ⟨_,ho2,rfl⟩ b87 cd1 bz7 by3 (bx5 _ _)
    (tuple_addW1 t b vs.toArray ws.toArray n n2 dd dd2 sl sl2 (by simpa using hv) (by simp [hw])) ⟨ho,ho2,h1 hw⟩
 · refine cg3 ⟨_,ho,rfl⟩ ⟨_,ho2,rfl⟩ b87 cd1 bz7 by3 (bx5 _ _)
    (tuple_addW2 t b vs.toArray ws.toArray n n2 dd dd2 sl sl2 (by simpa using hv) (by simpa using hw) (by rw [bc8,bc8];exact hsz)) ⟨ho,ho2,?_⟩
   rw [e]
   exact h2 hw
end
end HT
namespace L2
open PySem PySem.Spec PyProof.Rows
abbrev TO:=St→Hp→(Option Int→Hp→Prop)→Prop
theorem kgl {ns:List Int}: ∀{us:List Value},Vals (ns.map V.int) us→IntsAre us ns:=by
 induction ns with
 | nil=>intro us r;rw [b14] at r;cases r;exact .nil
 | cons n ns ih=>
   intro us r
   rw [bg5] at r
   cases r with
   | cons r1 r2=>
     obtain ⟨t,e⟩:=r1
     subst e
     exact .cons n t (ih r2)
section
variable {X:Cx} {e:Expr} {te:TE} {lo hi:Option Expr} {tl th:TO} {pos p2:Pos}
def rCatT (K:ba0):R2:=fun x y H Q=>∃a b xs ys,x= .ref a∧y= .ref b∧SqT K H a xs∧SqT K H b ys∧xs≠[]∧xs.length + ys.length≤sizeLine∧
 (ys=[]→Q (.ref a) H)∧(ys≠[]→∀p,H p=none→Q (.ref p) (upd H p (.tup (xs++ys))))
theorem Vals.nil_iff {xs:List V} {us:List Value} (r:Vals xs us):us=[]↔xs=[]:=by
 cases r with
 | nil=>simp
 | cons _ _=>simp
theorem kv2:OpR X (binaryOp .Add) (rCatT X.K):=by
 intro pins s σ H x y v u Q I rx ry h
 obtain ⟨a,b,xs,ys,rfl,rfl,ha,hb,hx,hz,q1,q2⟩:=h
 cases rx
 cases ry
 obtain ⟨its,r1,p1,_⟩:=I.tuple ha
 obtain ⟨its2,r2,p2,_⟩:=I.tuple hb
 refine HT.cat_tup p1 p2 (fun z=>hx (r1.nil_iff.mp z)) (fun z=>⟨.ref a,H,I,rfl,q1 (r2.nil_iff.mp z)⟩) (fun z=> ?_) (by rw [← r1.length,← r2.length];exact hz)
 refine ⟨.ref s.heap.objs.size,_,I.laid (t':=s.toks) (o:= .tup (xs++ys)) (fun b ob q=>bb0 _ q) (bb6 _) ?_,rfl,q2 (fun w=>z (r2.nil_iff.mpr w)) _ (I.hok.fresh (bb6 _))⟩
 exact ⟨⟨⟨_,bd8 _ rfl,rfl⟩,by rw [ba6];exact hz⟩,_,r1.append r2,IsTup.new _ _⟩
end
noncomputable def ixN (n:Nat) (i:Int):Option Nat:=if 0≤i then (if i < n then some i.toNat else none) else if -(n:Int)≤i then some (i + n).toNat else none
noncomputable def atI {α:Type} (xs:List α) (i:Int):Option α:=(ixN xs.length i).bind fun j=>xs[j]?
theorem kn5 {n:Nat} {i:Int} {j:Nat} (h:ixN n i=some j):seqIndex? i n=some j∧j < n∧ -(n:Int)≤i∧i < n:=by
 unfold ixN at h
 by_cases h0:0≤i
 · rw [if_pos h0] at h
   by_cases h1:i < n
   · rw [if_pos h1] at h
     have e:i.toNat=j:=bg4 h
     exact ⟨by rw [cj4 h0 h1,e],by lia,by lia,h1⟩
   · rw [if_neg h1] at h;cases h
 · rw [if_neg h0] at h
   by_cases h1: -(n:Int)≤i
   · rw [if_pos h1] at h
     have e:(i + n).toNat=j:=bg4 h
     exact ⟨by rw [cg4 (by lia) h1,e],by lia,h1,by lia⟩
   · rw [if_neg h1] at h;cases h
theorem kju {α:Type} {xs:List α} {i:Int} {v:α} (h:atI xs i=some v): ∃j,seqIndex? i xs.length=some j∧xs[j]?=some v∧j < xs.length∧ -(xs.length:Int)≤i∧i < xs.length:=by
 unfold atI at h
 cases e:ixN xs.length i with
 | none=>rw [e] at h;cases h
 | some j=>
   rw [e] at h
   obtain ⟨h1,h2,h3,h4⟩:=kn5 e
   exact ⟨j,h1,h,h2,h3,h4⟩
theorem kb2 {α:Type} {xs:List α} {j:Nat} {v:α} (h:xs[j]?=some v):atI xs (j:Int)=some v:=by
 have hj:j < xs.length:=(bb1.mp h).1
 have e:ixN xs.length (j:Int)=some j:=by
  unfold ixN
  rw [if_pos (by lia),if_pos (by lia)];simp
 unfold atI;rw [e];exact h
def kn6 (b:Expr):Prop:=∀o i,subscripted b false o i=operate [o,i] (getItem o i)
def IxR (X:Cx) (r:R2):Prop:=
 ∀(value slice:Expr) (pins:List (Addr×Obj)) (s:ba4) (σ:St) (H:Hp) (x y:V) (v u:Value) (Q:VK),Inv X pins σ H s→RelV x v→RelV y u→r x y H Q→
  subscripted slice false v u=operate [v,u] (getItem v u)→wpAny (model X.prog X.w) X.A (subscriptTail value slice v u) (EP X pins σ Q) X.xe s
def MtR (X:Cx) (id:String) (r:V→List V→Hp→VK→Prop):Prop:=
 ∀(pins:List (Addr×Obj)) (s:ba4) (σ:St) (H:Hp) (x:V) (xs:List V) (v:Value) (us:List Value) (Q:VK),Inv X pins σ H s→RelV x v→Vals xs us→r x xs H Q→
  wpAny (model X.prog X.w) X.A (call (.builtin id) (v::us)) (EP X pins σ Q) X.xe s
section
variable {X:Cx} {a b:Expr} {ta tb:TE} {pos:Pos}
theorem IxR.or {r r':R2} (h:IxR X r) (h':IxR X r'):IxR X (fun x y H Q=>r x y H Q∨r' x y H Q):=by
 intro value slice pins s σ H x y v u Q I rx ry q hs
 rcases q with q | q
 · exact h value slice pins s σ H x y v u Q I rx ry q hs
 · exact h' value slice pins s σ H x y v u Q I rx ry q hs
theorem kd1 {r:R2} (hr:IxR X r) (ha:PE X a ta) (hb:PE X b tb) (hs:kn6 b):PE X (.Subscript a b pos) (tOp r ta tb):=by
 intro pins s σ H Q I h
 exact Subscript_ (binT ha hb I h fun v u s2 x y H2 I2 rx ry q=>hr a b pins s2 σ H2 x y v u Q I2 rx ry q (hs _ _))
def kz0 (K:ba0):R2:=fun x y H Q=>∃p xs i v,x= .ref p∧y= .int i∧SqL K H p xs∧atI xs i=some v∧Q v H
def rIxT (K:ba0):R2:=fun x y H Q=>∃p xs i v,x= .ref p∧y= .int i∧SqT K H p xs∧atI xs i=some v∧Q v H
def rIxS:R2:=fun x y H Q=>∃z i c,x= .str z∧y= .int i∧z.length≤sizeLine∧atI z.cps.toList i=some c∧Q (.str ⟨#[c]⟩) H
theorem kbx:IxR X (kz0 X.K):=by
 intro value slice pins s σ H x y v u Q I rx ry h hs
 obtain ⟨p,xs,i,z,rfl,rfl,hq,he,q⟩:=h
 cases rx
 obtain ⟨t,rfl⟩:=ry
 obtain ⟨its,r,pl,hz⟩:=I.list hq
 obtain ⟨j,h1,h2,h3,h4,h5⟩:=kju he
 obtain ⟨w,ew,rw'⟩:=r.get h2
 have hl:=r.length
 have hn:=kid
 have fin:EP X pins σ Q w s:=⟨z,H,I,rw',q⟩
 by_cases h0:0≤i
 · have hj:i.toNat=j:=by
    rw [cj4 h0 h5] at h1
    exact bg4 h1
   exact item_listR pl.isList h0 (by lia) (by rw [hj];simpa using ew) fin hs
 · have hj:(i + (its.toArray.size:Int)).toNat=j:=by
    rw [cg4 (by lia) h4] at h1
    rw [bc8,← hl]
    exact bg4 h1
   exact b93 (x:=w) pl.isList.typeIs slot_list_getitem.lookup
    (wpAny_getItem_list_neg (Q:=fun r s'=>r=w∧EP X pins σ Q r s') pl.isList (by lia) (by rw [bc8] <;> lia) (by lia) (by rw [hj];simpa using ew) ⟨rfl,fin⟩) hs
theorem kt8:IxR X (rIxT X.K):=by
 intro value slice pins s σ H x y v u Q I rx ry h hs
 obtain ⟨p,xs,i,z,rfl,rfl,hq,he,q⟩:=h
 cases rx
 obtain ⟨t,rfl⟩:=ry
 obtain ⟨its,r,pl,hz⟩:=I.tuple hq
 obtain ⟨j,h1,h2,h3,h4,h5⟩:=kju he
 obtain ⟨w,ew,rw'⟩:=r.get h2
 have hl:=r.length
 have hn:=kid
 have fin:EP X pins σ Q w s:=⟨z,H,I,rw',q⟩
 exact b93 (x:=w) pl.typeIs slot_tuple_getitem.lookup
  (getItem_tuple (j:=j) (Q:=fun r s'=>r=w∧EP X pins σ Q r s') pl (by lia) (by lia) (by rw [bc8,← hl];exact h1) (by simpa using ew) ⟨rfl,fin⟩) hs
theorem kz1:IxR X rIxS:=by
 intro value slice pins s σ H x y v u Q I rx ry h hs
 obtain ⟨z,i,c,rfl,rfl,hz,he,q⟩:=h
 obtain ⟨t,rfl⟩:=rx
 obtain ⟨t',rfl⟩:=ry
 obtain ⟨j,h1,h2,h3,h4,h5⟩:=kju he
 have hl:z.cps.toList.length=z.length:=by simp [Str.length]
 rw [hl] at h1 h4 h5
 have hn:=kid
 exact tail_any (typeIs_str s z t) slot_str_getitem.lookup (getItem_str (c:=c) (by
  have e1:decide (i < -(2 ^ 63:Int))=false:=decide_eq_false (by lia)
  have e2:decide (i≥2 ^ 63)=false:=decide_eq_false (by lia)
  rw [e1,e2,cd2]) (by rw [h1];simpa using h2) ⟨.str ⟨#[c]⟩,H,I.tok _,⟨_,rfl⟩,q⟩) hs
def rIx (K:ba0):R2:=fun x y H Q=>kz0 K x y H Q∨rIxT K x y H Q∨rIxS x y H Q
theorem kz2:IxR X (rIx X.K):=kbx.or (kt8.or kz1)
theorem kmx (its:List Value) (n j:Nat) (u:Value):bl8 (·.setIfInBounds j u) {cls:= .type "list",data:= .seq its.toArray n}={cls:= .type "list",data:= .seq (its.set j u).toArray n}:=by
 simp [bl8]
theorem Inv.lst {pins:List (Addr×Obj)} {σ:St} {H:Hp} {s:ba4} {p:Addr} {xs:List V} (I:Inv X pins σ H s) (h:H p=some (.lst xs)):
 ∃(its:List Value) (n:Nat),Vals xs its∧s.heap.get? p=some {cls:= .type "list",data:= .seq its.toArray n}∧xs.length≤sizeLine:=by
 obtain ⟨z,its,n,r,e⟩:=I.hok p _ h
 exact ⟨its,n,r,e,z⟩
theorem Inv.lstUpd {pins:List (Addr×Obj)} {σ:St} {H:Hp} {s:ba4} {p:Addr} {xs ys:List V} {its its':List Value} {n n':Nat} {f:Obj→Obj} (I:Inv X pins σ H s) (h:H p=some (.lst xs))
 (ho:s.heap.get? p=some {cls:= .type "list",data:= .seq its.toArray n}) (hf:f {cls:= .type "list",data:= .seq its.toArray n}={cls:= .type "list",data:= .seq its'.toArray n'}) (r:Vals ys its') (hz:ys.length≤sizeLine) (t:Nat):
 Inv X pins σ (upd H p (.lst ys)) {s with heap:=s.heap.update p f,toks:=t}:=by
 have e:(s.heap.update p f).get? p=some {cls:= .type "list",data:= .seq its'.toArray n'}:=by
  rw [bu1 f ho (by rw [hf] <;> rfl),hf]
 refine I.write (x:=p) (e:=p) (by rw [h];trivial) (.inl rfl) (fun b u hb q=>(bt2 _ _ (bz8 hb)).trans q) ⟨_,e⟩ ?_
 exact ⟨hz,its',n',r,e⟩
def rSetL:V→V→V→Hp→(Hp→Prop)→Prop:=fun o i v H Q=>∃p xs k j,o= .ref p∧i= .int k∧H p=some (.lst xs)∧ixN xs.length k=some j∧Q (upd H p (.lst (xs.set j v)))
theorem kr1:PSet X rSetL:=by
 intro pins s σ H o i v ov iv u Q I ro ri rv h
 obtain ⟨p,xs,k,j,rfl,rfl,hp,hj,q⟩:=h
 cases ro
 obtain ⟨t,rfl⟩:=ri
 obtain ⟨its,n,r,ho,hz⟩:=I.lst hp
 obtain ⟨h1,h2,h3,h4⟩:=kn5 hj
 have hl:=r.length
 have hn:=kid
 have I':Inv X pins σ (upd H p (.lst (xs.set j v))) {s with heap:=s.heap.update p (bl8 (·.setIfInBounds j u))}:=
  I.lstUpd hp ho (kmx its n j u) (r.set rv j) (by rw [List.length_set];exact hz) s.toks
 by_cases h0:0≤k
 · have hk:k.toNat=j:=by
    rw [cj4 h0 h4] at h1
    exact bg4 h1
   exact PySem.W.ki_setAt ho h0 (by lia) (by rw [bc8,← hl];exact h4) (by rw [hk];exact ⟨_,I',q⟩)
 · have hk:(k + (its.toArray.size:Int)).toNat=j:=by
    rw [cg4 (by lia) h3] at h1
    rw [bc8,← hl]
    exact bg4 h1
   exact PySem.W.ki_setBack ho (by lia) (by rw [bc8,← hl];exact h3) (by lia) (by rw [hk];exact ⟨_,I',q⟩)
theorem kb7:CallR X (.builtin "len") (fun xs H Q=>∃p ys,xs=[.ref p]∧(SqL X.K H p ys∨SqT X.K H p ys)∧Q (.int ys.length) H):=by
 intro pins s σ H xs us Q I r h
 obtain ⟨p,ys,rfl,hq,q⟩:=h
 obtain ⟨u,rfl,rx⟩:=kd0 r
 cases rx
 have hn:=kid
 rcases hq with hq | hq
 · obtain ⟨its,r',pl,hz⟩:=I.list hq
   have hlen:=r'.length
   exact Calls.call_len_list pl.isList (by simp only [bc8] <;> lia) ⟨.int ys.length,H,I.tok _,⟨s.toks + 1,by rw [bc8,hlen]⟩,q⟩
 · obtain ⟨its,r',pl,hz⟩:=I.tuple hq
   have hlen:=r'.length
   exact len_tuple pl (by simp only [bc8] <;> lia) ⟨.int ys.length,H,I.tok _,⟨s.toks + 1,by rw [bc8,hlen]⟩,q⟩
theorem CallR.or {f:Value} {r r':List V→Hp→VK→Prop} (h:CallR X f r) (h':CallR X f r'):CallR X f (fun xs H Q=>r xs H Q∨r' xs H Q):=by
 intro pins s σ H xs us Q I rs q
 rcases q with q | q
 · exact h pins s σ H xs us Q I rs q
 · exact h' pins s σ H xs us Q I rs q
theorem kij:CallR X (.type "list") (fun xs H Q=>∃p ys,xs=[.ref p]∧(SqL X.K H p ys∨SqT X.K H p ys)∧∀l,H l=none→Q (.ref l) (upd H l (.lst ys))):=by
 intro pins s σ H xs us Q I r h
 obtain ⟨p,ys,rfl,hq,q⟩:=h
 obtain ⟨u,rfl,rx⟩:=kd0 r
 cases rx
 have fin: ∀(its:List Value),Vals ys its→ys.length≤sizeLine→∀(h':Heap) (c':Nat),(∀ b o',s.heap.get? b=some o'→h'.get? b=some o')→
  h'.get? s.heap.objs.size=some {cls:= .type "list",dict:=none,data:= .seq its.toArray c',slots:= #[]}→EP X pins σ Q (.ref s.heap.objs.size) {s with heap:=h'}:=fun its r' hz h' c' kp e=>
  ⟨.ref s.heap.objs.size,_,I.laid (t':=s.toks) kp (bb6 _) (show ObjOk X.prog X.w _ h' _ (.lst ys) from ⟨hz,its,c',r',e⟩),rfl,q _ (I.hok.fresh (bb6 _))⟩
 rcases hq with hq | hq
 · obtain ⟨its,r',pl,hz⟩:=I.list hq
   have hlen:=r'.length
   obtain ⟨o,ho,hc,n,hd⟩:=pl.isList
   exact call_list_seq p (.inl rfl) ho hc hd (fun h' c' kp e=>fin its r' hz h' c' kp e) (by simp only [bc8] <;> lia)
 · obtain ⟨its,r',pl,hz⟩:=I.tuple hq
   have hlen:=r'.length
   obtain ⟨o,ho,hc,n,hd⟩:=pl
   exact call_list_seq p (.inr rfl) ho hc hd (fun h' c' kp e=>fin its r' hz h' c' kp e) (by simp only [bc8] <;> lia)
theorem ken:CallR X (.type "tuple") (fun xs H Q=>∃p ys,xs=[.ref p]∧((SqL X.K H p ys∧∀l,H l=none→Q (.ref l) (upd H l (.tup ys)))∨(SqT X.K H p ys∧Q (.ref p) H))):=by
 intro pins s σ H xs us Q I r h
 obtain ⟨p,ys,rfl,h⟩:=h
 obtain ⟨u,rfl,rx⟩:=kd0 r
 cases rx
 rcases h with ⟨hq,q⟩ | ⟨hq,q⟩
 · obtain ⟨its,r',pl,hz⟩:=I.list hq
   have hlen:=r'.length
   refine call_tuple_list pl.isList (fun h' kp=> ?_) (by simp only [bc8] <;> lia)
   have I1:Inv X pins σ H {s with heap:=h'}:=I.kept (t':=s.toks) kp
   have I2:Inv X pins σ (upd H h'.objs.size (.tup ys)) {s with heap:=h'.push {cls:= .type "tuple",data:= .seq its.toArray}}:=
    I1.laid (t':=s.toks) (fun b o e=>bb0 _ e) (bb6 _) (show ObjOk X.prog X.w _ _ _ (.tup ys) from ⟨⟨⟨_,bd8 _ rfl,rfl⟩,hz⟩,its,r',IsTup.new _ _⟩)
   exact ⟨.ref h'.objs.size,_,I2,rfl,q _ (I1.hok.fresh (bb6 _))⟩
 · obtain ⟨its,r',pl,hz⟩:=I.tuple hq
   exact call_tuple_same pl ⟨.ref p,H,I,rfl,q⟩
def tyV (K:ba0) (T:String) (x:V) (H:Hp):Prop:=match x with
 | .str _=>T="str"
 | .int _=>T="int"
 | .ref p=>(T="list"∧∃xs,SqL K H p xs)∨(T="tuple"∧∃o,K.lookup p=some o∧o.cls= .type "tuple"∧o.dict=none)∨
    (T="dict"∧((∃ kvs,H p=some (.dK kvs))∨∃kvs,H p=some (.dT kvs)))∨(T="set"∧∃S n,H p=some (.set S n))∨(T="tuple"∧∃xs,H p=some (.tup xs))
 | _=>False
theorem kz3 {pins:List (Addr×Obj)} {σ:St} {H:Hp} {s:ba4} {T:String} {x:V} {v:Value} (I:Inv X pins σ H s) (r:RelV x v) (ty:tyV X.K T x H):
 s.TypeIs v T∧∀a,v= .ref a→∃ob,s.heap.get? a=some ob∧ob.dict=none:=by
 cases x with
 | str z=>
   obtain ⟨t,rfl⟩:=r
   cases (show T="str" from ty)
   exact ⟨typeIs_str s z t,fun q_ e=>nomatch e⟩
 | int i=>
   obtain ⟨t,rfl⟩:=r
   cases (show T="int" from ty)
   exact ⟨ck8 s i t,fun q_ e=>nomatch e⟩
 | ref p=>
   cases r
   rcases ty with ⟨rfl,xs,hq⟩ | ⟨rfl,o,hk,hc,hd⟩ | ⟨rfl,hk⟩ | ⟨rfl,S,n,hk⟩ | ⟨rfl,xs,hk⟩
   · obtain ⟨its,_,pl,_⟩:=I.list hq
     refine ⟨pl.isList.typeIs,fun a e=> ?_⟩
     cases e
     obtain ⟨o,n,e,c,hd,_⟩:=pl
     exact ⟨o,e,hd⟩
   · refine ⟨⟨o,I.kIn p o hk,hc⟩,fun a e=> ?_⟩
     cases e
     exact ⟨o,I.kIn _ o hk,hd⟩
   · have z: ∃o,s.heap.get? p=some o∧o.ExactDict:=by
      rcases hk with ⟨kvs,hk⟩ | ⟨kvs,hk⟩
      · obtain ⟨_,_,_,_,o,_,_,e,ex,_⟩:=I.hok p _ hk
        exact ⟨o,e,ex⟩
      · obtain ⟨_,_,_,_,o,_,_,e,ex,_⟩:=I.hok p _ hk
        exact ⟨o,e,ex⟩
     obtain ⟨o,e,ex⟩:=z
     refine ⟨⟨o,e,ex.1⟩,fun a e2=> ?_⟩
     cases e2
     exact ⟨o,e,ex.2.1⟩
   · obtain ⟨o,_,_,_,e,ex,_⟩:=I.hok p _ hk
     refine ⟨⟨o,e,ex.1⟩,fun a e2=> ?_⟩
     cases e2
     exact ⟨o,e,ex.2.1⟩
   · obtain ⟨⟨nd,_⟩,_,_,o,e,c,_⟩:=(show ObjOk X.prog X.w H s.heap p (.tup xs) from I.hok p _ hk)
     refine ⟨⟨o,e,c⟩,fun a e2=> ?_⟩
     cases e2
     exact nd
 | _=>exact bp9 ty
def tBM (K:ba0) (T:String) (r:V→List V→Hp→VK→Prop) (to:TE) (t:TA):TE:=fun σ H Q=>to σ H fun x H1=>tyV K T x H1∧t σ H1 fun xs H2=>r x xs H2 Q
variable {o e:Expr} {es:List Expr} {to:TE} {t:TA} {name:Str} {apos cpos:Pos} {T id:String} {r:V→List V→Hp→VK→Prop}
theorem kik (pa:PlainAttrs T) (slot:Slot T name id) (hty:typeOf (.builtin id)=pure (.type "method_descriptor")) (hm:MtR X id r) (ho:PE X o to) (ha:PA X (e::es) t)
 (hbase:autoParam (bs6 o name X.env (eval o X.env)=eval o X.env) u4._auto_1)
 (hfew:autoParam (((backTo cpos (bd5 (e::es) X.env)).all (fun x=> !x.1) && (b86 cpos (bx3 [] X.env)).all (fun x=>x.1.isSome)
   && decide ((e::es).length + ([]:List Keyword).length + (if ([]:List Keyword).isEmpty then 0 else 1) < 30))=true) u4._auto_1)
 (hline:autoParam ((apos.endLine == cpos.line)=true) u4._auto_1) (hs:autoParam (bd5 (e::es) X.env=(false,eval e X.env)::bd5 es X.env) u4._auto_1) (hplain:autoParam ((backTo cpos (bd5 es X.env)).any (·.1)=false) u4._auto_1):
 PE X (.Call (.Attribute o name apos) (e::es) [] cpos) (tBM X.K T r to t):=by
 intro pins s σ H Q I h
 refine wpAny_Call_method_late hbase hfew hline rfl (thn (ho pins s σ H _ I h) fun v s1 ⟨x,H1,I1,r1,ty,q1⟩=> ?_)
 obtain ⟨h1,h2⟩:=kz3 I1 r1 ty
 refine ⟨T,id,pa,slot,hty,h1,h2,?_⟩
 have hA:=ha cpos pins s1 σ H1 _ I1 q1
 rw [hs] at hA ⊢
 refine Calls.callWith_builtin (by show (false || (backTo cpos (bd5 es X.env)).any (·.1))=false;rw [hplain] <;> rfl) (Calls.evalArgs_plain ?_)
 exact thn hA fun us s2 ⟨vs,H2,I2,r2,q2⟩=>hm pins s2 σ H2 x vs v us Q I2 r1 r2 q2
end
def MtM (X:Cx) (id:String) (r:V→List V→Hp→VK→Prop):Prop:=
 ∀(pins:List (Addr×Obj)) (s:ba4) (σ:St) (H:Hp) (x:V) (xs:List V) (v:Value) (us:List Value) (Q:VK),Inv X pins σ H s→RelV x v→Vals xs us→r x xs H Q→
  wpAny (model X.prog X.w) X.A (call (.builtin id) (v::us)) (EP X pins σ Q) X.xe s
theorem Vals.one: ∀{x:V} {us:List Value},Vals [x] us→∃u,us=[u]∧RelV x u
 | _,_,.cons r .nil=>⟨_,rfl,r⟩
theorem Vals.eraseIdx: ∀{xs:List V} {us:List Value} (i:Nat),Vals xs us→Vals (xs.eraseIdx i) (us.eraseIdx i)
 | _,_,_,.nil=> .nil
 | _,_,0,.cons _ t=>t
 | _,_,i + 1,.cons r t=> .cons r (Vals.eraseIdx i t)
theorem Vals.rep {xs:List V} {us:List Value} (h:Vals xs us): ∀k:Nat,Vals (bf9 k xs).flatten (bf9 k us).flatten
 | 0=> .nil
 | k + 1=>by
   rw [bk2,bk2,bi1,bi1]
   exact Vals.append h (Vals.rep h k)
theorem kil {α:Type}: ∀(l:List α) (i:Nat),(l.eraseIdx i).length≤l.length
 | [],_=>bb6 _
 | _::_,0=>bq0 _
 | _::r,i + 1=>ch6 (kil r i)
theorem kim (its:List Value): ∀(k:Nat) (acc:List Value),
 cf1 (fun x1 x2=>x1++x2) acc.toArray (bf9 k its.toArray)=(acc++(bf9 k its).flatten).toArray
 | 0,acc=>by simp
 | k + 1,acc=>by
   have e:acc.toArray++its.toArray=(acc++its).toArray:=by simp
   have e2:(acc++its)++(bf9 k its).flatten=acc++(bf9 (k + 1) its).flatten:=by
    rw [bk2,bi1,bc6]
   rw [← e2,← kim its k (acc++its),← e,bk2,ca1]
section
variable {X:Cx} {pins:List (Addr×Obj)} {σ:St} {H:Hp} {s:ba4} {l b:Addr} {xs ys zs:List V}
theorem Inv.lset {its its':List Value} {n:Nat} {f:Array Value→Array Value} {t':Nat} (I:Inv X pins σ H s) (hH:H l=some (.lst xs))
 (e:s.heap.get? l=some {cls:= .type "list",data:= .seq its.toArray n}) (hf:f its.toArray=its'.toArray) (hv:Vals ys its') (hz:ys.length≤sizeLine):
 Inv X pins σ (upd H l (.lst ys)) {s with heap:=s.heap.update l (bl8 f),toks:=t'}:=by
 have q:=PySem.IsL.update e f
 rw [hf] at q
 refine I.write (x:=l) (e:=l) (by rw [hH];exact trivial) (.inl rfl) (fun b' u hb hu=>(bt2 s.heap (bl8 f) (bz8 hb)).trans hu) ⟨_,q⟩ ?_
 exact ⟨hz,its',_,hv,q⟩
theorem Inv.lnew {its:List Value} {t':Nat} (I:Inv X pins σ H s) (hv:Vals ys its) (hz:ys.length≤sizeLine):
 Inv X pins σ (upd H s.heap.objs.size (.lst ys)) {s with heap:=s.heap.push {cls:= .type "list",data:= .seq its.toArray},toks:=t'}:=
 I.laid (fun q_ q_ q=>bb0 _ q) (bb6 _) ⟨hz,its,0,hv,bd8 _ rfl⟩
theorem Inv.fresh (I:Inv X pins σ H s):H s.heap.objs.size=none:=I.hok.fresh (bb6 _)
theorem Inv.lstM (I:Inv X pins σ H s) (hH:H l=some (.lst xs)):xs.length≤sizeLine∧∃(its:List Value) (n:Nat),Vals xs its∧xs.length=its.length∧s.heap.get? l=some {cls:= .type "list",data:= .seq its.toArray n}:=by
 obtain ⟨z,its,n,r,e⟩:=I.hok l _ hH
 exact ⟨z,its,n,r,r.length,e⟩
theorem kk2 {n:Nat} (h:n≤sizeLine):br7 n=false:=by
 unfold br7
 exact decide_eq_false (by lia)
end
section
variable {X:Cx}
def kjv:V→List V→Hp→VK→Prop:=fun x vs H Q=>∃l xs y,x= .ref l∧vs=[y]∧H l=some (.lst xs)∧xs.length < sizeLine∧Q .non (upd H l (.lst (xs++[y])))
theorem kcw:MtM X "list.append" kjv:=by
 intro pins s σ H x vs v us Q I rx rv h
 obtain ⟨l,xs,y,rfl,rfl,hH,hz,q⟩:=h
 cases rx
 obtain ⟨u,rfl,ru⟩:=rv.one
 obtain ⟨z,its,n,r,hl,e⟩:=I.lstM hH
 refine b65 F.slot_list_append ⟨_,e,rfl⟩ F.entry_list_append (F.args_list_append_2 _ _) (PySem.list_append l its.toArray n u (by rw [bc8];lia)) ⟨e,?_⟩
 refine ⟨.non,_,I.lset (its':=its++[u]) hH e (by simp) (r.append (.cons ru .nil)) ?_,rfl,q⟩
 rw [ba6,bh8]
 lia
def kv3:V→List V→Hp→VK→Prop:=fun x vs H Q=>∃l b xs zs,x= .ref l∧vs=[.ref b]∧H l=some (.lst xs)∧H b=some (.lst zs)∧xs.length + zs.length≤sizeLine∧Q .non (upd H l (.lst (xs++zs)))
theorem kn7:MtM X "list.extend" kv3:=by
 intro pins s σ H x vs v us Q I rx rv h
 obtain ⟨l,b,xs,zs,rfl,rfl,hH,hB,hz,q⟩:=h
 cases rx
 obtain ⟨u,rfl,ru⟩:=rv.one
 cases ru
 obtain ⟨z,its,n,r,hl,e⟩:=I.lstM hH
 obtain ⟨z2,its2,n2,r2,hl2,e2⟩:=I.lstM hB
 have hsz:its.toArray.size + its2.toArray.size≤sizeLine:=by rw [bc8,bc8];lia
 have hlong: ¬(!its.toArray.isEmpty && br7 (its.toArray.size + its2.toArray.size))=true:=by
  rw [kk2 hsz,b09]
  exact bb3
 refine b65 F.slot_list_extend ⟨_,e,rfl⟩ F.entry_list_extend (F.args_list_extend_2 _ _)
  (AutoSeq1.list_extend_list_list_0 l its.toArray n b its2.toArray n2 hlong (by rw [bc8];lia) (by lia)) ⟨e,e2,?_⟩
 refine ⟨.non,_,I.lset (its':=its++its2) hH e (by simp) (r.append r2) ?_,rfl,q⟩
 rw [ba6]
 lia
def kz4:V→List V→Hp→VK→Prop:=fun x vs H Q=>∃l xs i k y,x= .ref l∧vs=[.int i]∧H l=some (.lst xs)∧ -(2 ^ 63)≤i∧i < 2 ^ 63∧seqIndex? i xs.length=some k∧xs[k]?=some y∧Q y (upd H l (.lst (xs.eraseIdx k)))
theorem kg2:MtM X "list.pop" kz4:=by
 intro pins s σ H x vs v us Q I rx rv h
 obtain ⟨l,xs,i,k,y,rfl,rfl,hH,h1,h2,hk,hy,q⟩:=h
 cases rx
 obtain ⟨u,rfl,ru⟩:=rv.one
 obtain ⟨t,rfl⟩:=ru
 obtain ⟨z,its,n,r,hl,e⟩:=I.lstM hH
 obtain ⟨w,hw,rw'⟩:=r.get hy
 refine b65 F.slot_list_pop ⟨_,e,rfl⟩ F.entry_list_pop (F.args_list_pop_2 _ _)
  (MeetsSeq.list_pop_at l its.toArray n i t k w (fitsIndex_both h1 h2) (by rw [bc8,← hl];exact hk) (by rw [← be5];exact hw) (by rw [bc8];lia)) ⟨e,?_⟩
 refine ⟨y,_,I.lset (its':=its.eraseIdx k) hH e ?_ (r.eraseIdx k) ?_,rw',q⟩
 · show its.toArray.eraseIdxIfInBounds k=(its.eraseIdx k).toArray
   rw [List.eraseIdxIfInBounds_toArray]
 · have:=kil xs k
   lia
def rCat:R2:=fun x y H Q=>∃l b xs zs,x= .ref l∧y= .ref b∧H l=some (.lst xs)∧H b=some (.lst zs)∧xs.length + zs.length≤sizeLine∧∀p,H p=none→Q (.ref p) (upd H p (.lst (xs++zs)))
theorem kz5:OpR X (binaryOp .Add) rCat:=by
 intro pins s σ H x y v u Q I rx ry h
 obtain ⟨l,b,xs,zs,rfl,rfl,hH,hB,hz,q⟩:=h
 cases rx
 cases ry
 obtain ⟨z,its,n,r,hl,e⟩:=I.lstM hH
 obtain ⟨z2,its2,n2,r2,hl2,e2⟩:=I.lstM hB
 refine PySem.P.add_list e e2 ?_ (by rw [bc8,bc8];lia)
 have ea:its.toArray++its2.toArray=(its++its2).toArray:=by simp
 rw [ea]
 exact ⟨.ref _,_,I.lnew (t':=s.toks) (r.append r2) (by rw [ba6];lia),rfl,q _ I.fresh⟩
def rRep:R2:=fun x y H Q=>∃l k xs,x= .ref l∧y= .int k∧H l=some (.lst xs)∧ -(2 ^ 63)≤k∧k < 2 ^ 63∧xs.length * k.toNat≤sizeLine∧
 ∀p,H p=none→Q (.ref p) (upd H p (.lst (bf9 k.toNat xs).flatten))
theorem kv4 {α:Type} (xs:List α) (k:Nat):(bf9 k xs).flatten.length=k * xs.length:=by
 induction k with
 | zero=>simp
 | succ k ih=>rw [bk2,bi1,ba6,ih,cg5,Nat.add_comm]
theorem kz6:OpR X (binaryOp .Mult) rRep:=by
 intro pins s σ H x y v u Q I rx ry h
 obtain ⟨l,k,xs,rfl,rfl,hH,h1,h2,hz,q⟩:=h
 cases rx
 obtain ⟨t,rfl⟩:=ry
 obtain ⟨z,its,n,r,hl,e⟩:=I.lstM hH
 have hlen:its.toArray.size * k.toNat≤sizeLine:=by rw [bc8,← hl];exact hz
 have hcap: ¬its.toArray.size * k.toNat > (2 ^ 63 - 1) / 8:=by
  have:(sizeLine:Nat)≤(2 ^ 63 - 1) / 8:=by decide
  lia
 have hfit: ¬(!Builtin.List.listFitsIndex k)=true:=by
  rw [fitsIndex_both h1 h2]
  exact bb3
 have hlong: ¬br7 (its.toArray.size * k.toNat)=true:=by
  rw [kk2 hlen]
  exact bb3
 have hnew:cf1 (fun x1 x2=>x1++x2) #[] (bf9 (if its.toArray.isEmpty=true then 0 else k.toNat) its.toArray)=(bf9 k.toNat its).flatten.toArray:=by
  have f0: ∀m:Nat,cf1 (fun x1 x2=>x1++x2) #[] (bf9 m its.toArray)=(bf9 m its).flatten.toArray:=fun m=>by
   have:=kim its m []
   rw [by4] at this
   exact this
  rw [f0]
  cases its with
  | nil=>simp
  | cons a r'=>rw [if_neg (by simp)]
 refine wpAny_binaryOp_repeat_ref (T:="list") (U:="int") (by decide) ⟨_,e,rfl⟩ (fun s'=>ck8 s' k t) noFill_list_mul F.fills_int_mul cj5 repeat_list F.slot_int_index.lookup
  (b65 cj5 (ck8 s k t) F.entry_int_rmul (F.args_int_rmul_2 _ _) (int___rmul___int_list k t l its.toArray n)
    ⟨e,rfl,⟨_,e,rfl⟩,b65 F.slot_list_mul ⟨_,e,rfl⟩ F.entry_list_mul (F.args_list_mul_2 _ _) (AutoListH.list___mul___list_int_3 l its.toArray n k t hfit hcap hlong) ⟨e,?_⟩⟩)
 rw [hnew]
 exact ⟨.ref _,_,I.lnew (t':=s.toks) (r.rep k.toNat) (by rw [kv4,b49];exact hz),rfl,q _ I.fresh⟩
end
section
variable {prog:bb8} {w:World} {A:bf8} {E:Value→ba4→Prop} {s:ba4}
end
section
variable {X:Cx}
end
end L2
namespace Att
open PySem PySem.W PySem.Calls PyProof.Rows
theorem kfq {P:Params} {h:Heap}: ∀(ns:List Int) (vs:List Value),WellAll P h vs (ns.map WData.int)→IntsAre vs ns:=by
 intro ns
 induction ns with
 | nil=>
   intro vs w
   rw [b14] at w
   cases w
   exact .nil
 | cons n ns ih=>
   intro vs w
   rw [bg5] at w
   cases w with
   | cons a b=>
     cases a
     exact .cons _ _ (ih _ b)
theorem kn8 {l:OpenLaw} {n:Nat} (hn:l.most=some n) {P:Params} {h:Heap} {args:List WData} {vals:List Value}
 (hpre:l.row.toRowW.claim.pre args=true) (hwl:WellAll P h vals args):
 ∃a vs ns,vals=[bg1 a]∧args=[WData.list (ns.map WData.int)]∧h.get? a=some {cls:= .type "list",data:= .seq vs.toArray}∧IntsAre vs ns∧ns.length≤n:=by
 have hsh:WShape.hasAll [] args [.list .int]=true:=(pre_splitW hpre).1
 have hc:l.pre.holds [] {args:=args}=true:=(pre_splitW hpre).2
 obtain ⟨d,r,rfl,h1,h2⟩:=hasAllW_cons hsh
 obtain rfl:=hasAllW_nil h2
 obtain ⟨xs,rfl,h3⟩:=hasW_list h1
 obtain ⟨ns,rfl⟩:=items_int h3
 have hlen:ns.length≤n:=by
  unfold OpenLaw.pre at hc
  have h4:(WTm.not (.lt (.lit (.int (n:Int))) (.len (.arg 0)))).holds [] {args:=[.list (ns.map .int)]}=true:=by
   have h4:=(holds_andW hc).1
   rw [hn] at h4
   exact h4
  have h5:=condW_of h4 (w_not (w_lt w_lit (w_len_list (w_arg rfl))))
  rw [ba3] at h5
  refine ch7 fun q=> ?_
  have q':(n:Int) < ((ns.length:Nat):Int):=by lia
  first
   | (rw [decide_eq_true q'] at h5;exact absurd h5 (by decide))
   | (simp at h5;lia)
 cases hwl with
 | cons w1 w2=>
   cases w2
   cases w1 with
   | list ho hall=>exact ⟨_,_,ns,rfl,rfl,ho,kfq ns _ hall,hlen⟩
theorem kn9 (l:OpenLaw) (args:List WData):l.row.toRowW.claim.post args (.bool true) args=true:=
 postW_of (r:=l.row.toRowW) (X:=(true == true))
  (show cn8 [] (.bool true) .bool=true by first | rfl | decide | simp [cn8,WShape.arms,WShape.armsAll])
  (show (WTm.eq .res (.lit (.bool true))).value [] {args:=args,res:=some (.bool true),after:=args}=some (.bool (true == true)) from w_eq_bool (w_res rfl) w_lit) rfl
theorem attach_call {l:OpenLaw} {n:Nat} {q:bb8} {loose:List Str} {XP:(Str→Option Value)→Heap→Prop} {YP:World→Heap→Prop} {d:DefRec}
 (hn:l.most=some n) (hdf:d.params.defaults=[])
 (call: ∀(w:World) (s₀ s₁:ba4) (mg mb:Str→Option Value) (fa:Addr) (o:Obj) (pm cd doc:Value) (a:Addr) (vs:List Value) (ns:List Int),
   Ground q loose [] XP w s₀ mg mb s₁.heap→YP w s₁.heap→
   s₁.heap.get? fa=some o→o.data= .func (docDef d.name d.params d.body d.scope pm cd doc)→s₁.heap.CodeRec cd d.name→mg d.name=some (.ref fa)→
   s₁.heap.get? a=some {cls:= .type "list",data:= .seq vs.toArray}→IntsAre vs ns→ns.length≤n→s₁.gens= #[]→
   codeAny (model l.prog w) callerA (.call (.ref fa) ⟨[.ref a],[]⟩) (fun r s'=>r= .ok (.ret (.bool true))∧OldK s₁.heap s'.heap∧s'.os=s₁.os∧AllBare s'.gens) s₁):
 WalkO q loose XP YP l.row.toRowW d [] (fun f vs=>ck9 f vs):=by
 intro w s₀ s₁ mg mb G Y fa o pm cd doc dV kV ho hd hcd hD hmg hg args vals as hpre hlay hrd hwl hlo
 obtain rfl:dV= .none:=Dflts.none hD hdf
 obtain rfl:kV= .none:=Dflts.noKw hD
 obtain ⟨a,vs,ns,rfl,rfl,hobj,hints,hlen⟩:=kn8 hn hpre hwl
 refine enter_call (bx4 (call w s₀ s₁ mg mb fa o pm cd doc a vs ns G Y ho (fd_plain hd) hcd hmg hobj hints hlen hg) fun r s' hq=> ?_)
 obtain ⟨rfl,h2,h3,h4⟩:=hq
 exact ⟨.inl ⟨.bool true,.bool true,[],rfl,fun q_=>rfl,.bool true,kn9 l _,fun q_=>⟨br8,fun q_ hm=>(nomatch hm)⟩⟩,h2,h3,h4⟩
section
variable {prog:bb8} {w:World} {A:bf8} {E:Value→ba4→Prop} {s:ba4} {K:Frag}
end
end Att
namespace L2
open PySem PySem.Spec PyProof.Rows
theorem kio: ∀{vs:List Value} {ns:List Int},IntsAre vs ns→Vals (ns.map V.int) vs
 | _,_,.nil=> .nil
 | _,_,.cons n t h=> .cons ⟨t,rfl⟩ (kio h)
def Only (H:Hp):Prop:=∀b,H b=none∨∃o xs,H b=some (.frz o (.lst xs))
theorem kr2 {P:bb8} {w:World} {K:ba0} {mg mb:Str→Option Value} {CX:CXT} {k:Nat} {fa a:Addr} {fd:bf0} {x:Str} {sp:Sp} {s₁:ba4} {vs:List Value} {ns:List Int}
 (KX:K.In s₁.heap) (hns:s₁.heap.Ns bf5 mg) (hb:s₁.heap.Ns builtinsNs mb) (hbb: ∀x:Str,x≠"__name__"→mb x=bootBuiltins x) (hlim:s₁.heap.NoLimit) (hg:s₁.gens= #[])
 (ha:s₁.heap.get? a=some {cls:= .type "list",data:= .seq vs.toArray}) (hi:IntsAre vs ns) (hl:ns.length≤sizeLine) (hr:Room k callerA)
 (F: ∀base:Heap,K.In base→base.Ns bf5 mg→FnOk P w K mg base CX k fa fd [x] sp) (hbind: ∀(s:ba4) (u:Value),BindsTo s fd ⟨[u],[]⟩ [(x,u)])
 (hsp: ∀H:Hp,Only H→SqL K H a (ns.map V.int)→sp [.ref a] H (fun v q_=>v= .bl true) fun q_ q_ q_=>False)
 (hCX: ∀H e s',CX [] H s₁ (fun q_ q_ q_=>False) e s'→False):
 codeAny (model P w) callerA (.call (.ref fa) ⟨[.ref a],[]⟩) (fun r s'=>r= .ok (.ret (.bool true))∧OldK s₁.heap s'.heap∧s'.os=s₁.os∧AllBare s'.gens) s₁:=by
 have rv:=kio hi
 have lenV:=hi.length
 have core: ∀H:Hp,Only H→SqL K H a (ns.map V.int)→HOk P w H s₁.heap→(∀ b,H b≠none→b=a)→(H a≠none→K.lookup a=none)→
  codeAny (model P w) callerA (.call (.ref fa) ⟨[.ref a],[]⟩) (fun r s'=>r= .ok (.ret (.bool true))∧OldK s₁.heap s'.heap∧s'.os=s₁.os∧AllBare s'.gens) s₁:=by
  intro H hO hS hok hA hK
  have base_of: ∀{b:Addr} {o:Obj},s₁.heap.get? b=some o→H b=none→(krr s₁.heap H).get? b=some o:=fun e n=>krs e n
  have noA: ∀{b:Addr} {o:Obj} {es:Array DictEntry} {ep:Nat},s₁.heap.get? b=some o→o.data= .dict es ep→H b=none:=fun {b o es ep} e d=>by
   cases q:H b with
   | none=>rfl
   | some u=>
     have e':b=a:=hA b (by rw [q];simp)
     subst e'
     rw [ha] at e;cases e
     have d':Data.seq vs.toArray _=Data.dict es ep:=d
     cases d'
  have nsK: ∀{b:Addr} {m:Str→Option Value},s₁.heap.Ns b m→(krr s₁.heap H).Ns b m:=fun {b m} ⟨o,es,ep,e,d,r⟩=>⟨o,es,ep,base_of e (noA e d),d,r⟩
  have hKb:K.In (krr s₁.heap H):=fun b o e=>base_of (KX b o e) (by
   cases q:H b with
   | none=>rfl
   | some u=>
     have e':b=a:=hA b (by rw [q];simp)
     subst e'
     rw [hK (by rw [q];simp)] at e;cases e)
  have hM:Mod K mg (krr s₁.heap H):=⟨hKb,nsK hns,⟨mb,nsK hb,hbb⟩,let ⟨mc,h1,h2⟩:=hlim;⟨mc,nsK h1,h2⟩⟩
  have e0:Env0 P w K mg (krr s₁.heap H) callerA [] s₁ H:=⟨rfl,hM,fun b o e=>kvo e,Nat.le_of_eq (knp _ _),trivial,fun b hb=>absurd (show b∈([]:List Addr) from hb) (by simp),hok,.of_eq hg⟩
  refine bx4 ((F _ hKb (nsK hns)).run callerA [] s₁ H ⟨[.ref a],[]⟩ [.ref a] [.ref a] _ _ hr e0 (hbind s₁ (.ref a)) (.cons rfl .nil) (hsp H hO hS)) fun r s' h=> ?_
  cases r with
  | error e=>exact (hCX H e s' h).elim
  | ok fl=>
    cases fl with
    | next=>exact bp9 h
    | brk=>exact bp9 h
    | cont=>exact bp9 h
    | ret u=>
      obtain ⟨v,H',os,bare,un,hok',r',q⟩:=h
      have q':v= .bl true:=q
      subst q'
      obtain rfl:u=ck5 true:=r'
      refine ⟨rfl,OldK.of_keep fun b o e=> ?_,os,bare⟩
      cases q:H b with
      | none=>exact un.keep b o e q (by intro z;exact absurd (show b∈([]:List Addr) from z) (by simp)) (by simp)
      | some u=>
        rcases hO b with z | ⟨ob,xs,z⟩
        · rw [q] at z;cases z
        · have z2:=un.frzs b ob _ z
          obtain ⟨e1,_⟩:=hok b _ z
          obtain ⟨e2,_⟩:=hok' b _ z2
          rw [e] at e1;cases e1
          exact e2
 cases hk:K.lookup a with
 | some o=>
   have e:=KX a o hk
   rw [ha] at e
   cases e
   refine core (fun q_=>none) (fun q_=> .inl rfl) (.inr ⟨_,vs.toArray,_,hk,rfl,rfl,rfl,by rw [bc8,lenV];exact hl,by simpa using rv⟩) (fun b u z=>by have z':(none:Option HO)=some u:=z;cases z') (fun b z=>absurd rfl z) fun z=>absurd rfl z
 | none=>
   refine core (fun b=>if b=a then some (.frz {cls:= .type "list",data:= .seq vs.toArray} (.lst (ns.map V.int))) else none) (fun b=> ?_) (.inl (.inr ⟨{cls:= .type "list",data:= .seq vs.toArray},if_pos rfl⟩)) (fun b u z=> ?_) (fun b z=> ?_) fun q_=>hk
   · by_cases hb:b=a
     · exact .inr ⟨_,_,if_pos hb⟩
     · exact .inl (if_neg hb)
   · by_cases hb:b=a
     · have z':=(if_pos hb).symm.trans z
       cases z'
       subst hb
       exact ⟨ha,by rw [ba3];exact hl,vs,_,rv,ha⟩
     · have z':=(if_neg hb).symm.trans z
       cases z'
   · by_cases hb:b=a
     · exact hb
     · exact absurd (if_neg hb) z
theorem kv5 {l:b36} {n k:Nat} {q:bb8} {loose:List Str} {XP:(Str→Option Value)→Heap→Prop} {YP:World→Heap→Prop} {d:DefRec} {K:Params→ba0} {CX:World→CXT} {sp:World→Sp} {x:Str}
 (hn:l.most=some n) (hn2:n≤sizeLine) (hdf:d.params.defaults=[]) (hr:Room k callerA)
 (hY: ∀(w:World) (h:Heap),YP w h→(K w.params).In h)
 (F: ∀(w:World) (mg:Str→Option Value) (fa:Addr) (h:Heap),(K w.params).In h→h.Ns bf5 mg→mg d.name=some (.ref fa)→
   ∃fd:bf0,(∀ (s:ba4) (u:Value),BindsTo s fd ⟨[u],[]⟩ [(x,u)])∧
    ∀base:Heap,(K w.params).In base→base.Ns bf5 mg→FnOk l.prog w (K w.params) mg base (CX w) k fa fd [x] (sp w))
 (hsp: ∀(w:World) (H:Hp) (a:Addr) (ns:List Int),ns.length≤n→Only H→SqL (K w.params) H a (ns.map V.int)→sp w [.ref a] H (fun v q_=>v= .bl true) fun q_ q_ q_=>False)
 (hCX: ∀(w:World) (H:Hp) (s:ba4) (e:Value) (s':ba4),CX w [] H s (fun q_ q_ q_=>False) e s'→False):
 cl3 q loose XP YP l.row.toRowW d [] (fun f vs=>ck9 f vs):=by
 refine Att.attach_call hn hdf fun w s₀ s₁ mg mb fa o pm cd doc a vs ns G Y ho hd hcd hmg hobj hints hlen hg=> ?_
 have KX:=hY w _ Y
 obtain ⟨fd,hb,hF⟩:=F w mg fa _ KX G.T.g hmg
 exact kr2 KX G.T.g G.T.b G.T.builtins G.T.nolimit hg hobj hints (bj2 hlen hn2) hr hF hb (fun H hO hS=>hsp w H a ns hlen hO hS) fun H e s'=>hCX w H s₁ e s'
noncomputable def kce (s:Stmt):Arguments:=match s with
 | .FunctionDef _ a _ _ _ _ _ _ _ _=>a
 | _=>{posonlyargs:=[],args:=[],vararg:=none,kwonlyargs:=[],kw_defaults:=[],kwarg:=none,defaults:=[]}
noncomputable def kby (s:Stmt):List Stmt:=match s with
 | .FunctionDef _ _ b _ _ _ _ _ _ _=>b
 | _=>[]
noncomputable def kag (s:Stmt):Scope:=match s with
 | .FunctionDef _ _ _ _ _ _ sc _ _ _=>sc
 | _=>{kind:= .function,names:=[],isGenerator:=false,isCoroutine:=false}
abbrev CX0:CXT:=fun q_ q_ q_ q_ q_ q_=>False
abbrev E0:XK:=fun q_ q_ q_=>False
theorem pass0 {X:Cx}:kn2 CX0 X E0:=fun q_ q_ q_ q_ q_ q_ q_ h=>h.elim
structure Fun (K:ba0) (x qual:Str) (st:Stmt) (f:Addr) (fd:bf0):Prop where
 ex: ∃(oc:Value) (od:Option Addr) (kV doc pm:Value) (an:Option Addr) (cdv ct:Value) (osl:Array (Option Value)),
  fd=bm4 x qual (kce st) (kby st) (kag st) .none kV doc pm an cdv ct∧K.lookup f=some ⟨oc,od,.func fd,osl⟩∧b08 K cdv qual=true
 kp:bv8 K (.ref f)=true
section
variable {P:bb8} {w:World} {K:ba0} {mg:Str→Option Value} {base:Heap}
theorem Fun.ok {x qual:Str} {st:Stmt} {f:Addr} {fd:bf0} {N ps:List Str} {k:Nat} {sp:Sp} (F:Fun K x qual st f fd) (S:FnScope N ps (kag st)) (len: ∀vs H Q E,sp vs H Q E→vs.length=ps.length)
 (hbody: ∀(cdv:Value) (A:bf8) (outer:List Env) (s:ba4) (H:Hp) (vs:List V) (Q:VK) (E:XK),Room k (A.deeper (envOfC qual (kag st) s.heap.objs.size f cdv))→sp vs H Q E→
   ∃t,PSs (kn3 CX0 P w K mg base N qual (kag st) f cdv A outer s H E).nox (kby st) t∧t {nx:=fun q_ H'=>Q .non H',rt:=Q} (start N vs) H):FnOk P w K mg base CX0 (k + 1) f fd ps sp:=by
 obtain ⟨oc,od,kV,doc,pm,an,cdv,ct,osl,rfl,lk,hcd⟩:=F.ex
 refine fn_of lk hcd S len fun A outer s H vs Q E hr hsp=> ?_
 obtain ⟨t,h,q⟩:=hbody cdv A outer s H vs Q E hr hsp
 exact ⟨t,h.nox,q⟩
theorem Fun.binds {x qual:Str} {st:Stmt} {f:Addr} {fd:bf0} {ps:List Str} (F:Fun K x qual st f fd)
 (h: ∀(kV doc pm:Value) (an:Option Addr) (cdv ct:Value) (us:List Value),us.length=ps.length→bindArgs (bm4 x qual (kce st) (kby st) (kag st) .none kV doc pm an cdv ct) ⟨us,[]⟩=pure (ps.zip us)):Binds K fd ps []:=by
 obtain ⟨oc,od,kV,doc,pm,an,cdv,ct,osl,rfl,lk,hcd⟩:=F.ex
 exact .all (h kV doc pm an cdv ct)
theorem kt9 {x qual:Str} {st:Stmt} {f:Addr} {oc:Value} {od an:Option Addr} {osl:Array (Option Value)} {kV doc pm cdv ct:Value} (l:K.lookup f=some ⟨oc,od,.func (bm4 x qual (kce st) (kby st) (kag st) .none kV doc pm an cdv ct),osl⟩)
 (c:b08 K cdv qual=true) (k:bv8 K (.ref f)=true):Fun K x qual st f (bm4 x qual (kce st) (kby st) (kag st) .none kV doc pm an cdv ct):=⟨⟨oc,od,kV,doc,pm,an,cdv,ct,osl,rfl,l,c⟩,k⟩
end
section
variable {X:Cx}
theorem pv (i:Nat) {x:Str} {pos:Pos} (hN:autoParam (X.N[i]?=some x) u4._auto_1) (hv:autoParam (Vis X.env.scope x) u6._auto_1) (hd:autoParam ((x == ("__debug__":Str))=false) u2._auto_1)
 (hcd:autoParam ((x == ("__classdict__":Str))=false) u2._auto_1):PE X (.Name x pos) (kh5 i):=kzg hN hv hd hcd
end
theorem kfg {c A B:Prop} [Decidable c] (h1:c→A) (h2: ¬c→B):if c then A else B:=by
 by_cases h:c
 · rw [if_pos h]
   exact h1 h
 · rw [if_neg h]
   exact h2 h
def Same (H H':Hp):Prop:=∀b o,H b=some o→H' b=some o
theorem Same.refl (H:Hp):Same H H:=fun q_ q_ h=>h
theorem Same.trans {H H1 H2:Hp} (a:Same H H1) (b:Same H1 H2):Same H H2:=fun c o h=>b c o (a c o h)
theorem Same.free {H H':Hp} (e:Same H H') {l:Addr} (h:H' l=cn3):H l=cn3:=by
 cases q:H l with
 | none=>rfl
 | some o=>
   rw [e l o q] at h
   cases h
theorem Same.seq {K:ba0} {H H':Hp} {a:Addr} {xs:List V} (e:Same H H') (h:SqL K H a xs):SqL K H' a xs:=by
 rcases h with (h | ⟨o,h⟩) | h
 · exact .inl (.inl (e _ _ h))
 · exact .inl (.inr ⟨o,e _ _ h⟩)
 · exact .inr h
section
variable {κ:Type} [DecidableEq κ]
end
noncomputable def kbs (env:Env):List (Str×NameKind)→List (Str×Addr)→List (Str×Addr)
 | [],acc=>acc
 | (n,k)::r,acc=>if (k == bj7)=true then kbs env r ((n,(env.cells.lookup n).getD 0)::acc) else kbs env r acc
theorem kev {env:Env} (f:Str×NameKind→List (Str×Addr)→Sem (ForInStep (List (Str×Addr))))
 (hf: ∀name kind cs,f (name,kind) cs=if (kind == bj7)=true then (cellOf env name >>= fun a=>pure (.yield ((name,a)::cs))) else pure (.yield cs)):
 ∀(names:List (Str×NameKind)) (acc:List (Str×Addr)),(∀ x∈names,x.2= .free→∃c,env.cells.lookup x.1=some c)→forIn names acc f=pure (kbs env names acc)
 | [],acc,_=>by rw [b58];rfl
 | (n,k)::r,acc,h=>by
   have hr: ∀x∈r,x.2= .free→∃c,env.cells.lookup x.1=some c:=fun x hx=>h x (bb7 _ hx)
   rw [ca2,hf]
   unfold kbs
   by_cases hk:(k == bj7)=true
   · rw [if_pos hk,if_pos hk]
     obtain ⟨c,e⟩:=h (n,k) bc4 (by simpa using hk)
     have e:env.cells.lookup n=some c:=e
     have e1:cellOf env n=pure c:=by unfold cellOf;rw [e]
     rw [e1,e]
     exact kev f hf r _ hr
   · rw [if_neg hk,if_neg hk]
     exact kev f hf r _ hr
theorem keo {env:Env} {scope:Scope} (h: ∀x∈scope.names,x.2= .free→∃c,env.cells.lookup x.1=some c):closureFor scope env=pure (kbs env scope.names []):=by
 simp only [closureFor]
 rw [kev (env:=env) _ (fun name kind cs=> ?_) scope.names [] h]
 · rfl
 · cases hk:kind == bj7 <;> simp [hk]
set_option tactic.hygienic true in
theorem kew {env:Env}: ∀{names:List (Str×NameKind)} {acc:List (Str×Addr)} {p:Str×Addr},p∈kbs env names acc→p∈acc∨(p.1,bj7)∈names∧p.2=(env.cells.lookup p.1).getD 0
 | [],_,_,h=> .inl h
 | (n,k)::r,acc,p,h=>by
   unfold kbs at h
   split at h
   · rename_i hk
     rcases kew h with q | ⟨q1,q2⟩
     · rcases bc7.mp q with rfl | q
       · exact .inr ⟨by rw [beq_iff_eq.mp hk];exact bc4,rfl⟩
       · exact .inl q
     · exact .inr ⟨bb7 _ q1,q2⟩
   · rcases kew h with q | ⟨q1,q2⟩
     · exact .inl q
     · exact .inr ⟨bb7 _ q1,q2⟩
theorem keb {env:Env} {x:Str}: ∀{names:List (Str×NameKind)} {acc:List (Str×Addr)},acc.lookup x=some ((env.cells.lookup x).getD 0)→(kbs env names acc).lookup x=some ((env.cells.lookup x).getD 0)
 | [],_,h=>h
 | (n,k)::r,acc,h=>by
   unfold kbs
   split
   · refine keb ?_
     rw [bk6]
     cases hb:x == n with
     | true=>
       have e:=beq_iff_eq.mp hb
       subst e
       rfl
     | false=>exact h
   · exact keb h
theorem kc0 {env:Env} {x:Str}: ∀{names:List (Str×NameKind)} {acc:List (Str×Addr)},names.lookup x=some .free→(kbs env names acc).lookup x=some ((env.cells.lookup x).getD 0)
 | [],_,h=>by cases h
 | (n,k)::r,acc,h=>by
   rw [bk6] at h
   unfold kbs
   cases hb:x == n with
   | true=>
     rw [hb] at h
     have e:=beq_iff_eq.mp hb
     subst e
     have h:k=bj7:=bg4 h
     subst h
     rw [if_pos (by rfl)]
     refine keb ?_
     rw [bk6,hb]
   | false=>
     rw [hb] at h
     split
     · exact kc0 h
     · exact kc0 h
def InjL (cs:List (Str×Addr)):Prop:=∀p∈cs,∀q∈cs,p.2=q.2→p.1=q.1
theorem kc1: ∀{names:List (Str×NameKind)} {n:Nat} {acc:List (Str×Addr)},(∀ p∈acc,p.2 < n)→InjL acc→InjL (cellsFrom n names acc)
 | [],_,_,_,h=>h
 | (nm,k)::r,n,acc,hl,h=>by
   unfold cellsFrom
   split
   · refine kc1 (fun p hp=> ?_) fun p hp q hq e=> ?_
     · rcases bc7.mp hp with rfl | hp
       · exact bp1 _
       · exact bj0 (hl p hp)
     · rcases bc7.mp hp with rfl | hp <;> rcases bc7.mp hq with rfl | hq
       · rfl
       · have e:n=q.2:=e
         exact absurd (hl q hq) (by rw [← e];exact bk1 _)
       · have e:p.2=n:=e
         exact absurd (hl p hp) (by rw [e];exact bk1 _)
       · exact h p hp q hq e
   · exact kc1 hl h
theorem kc2: ∀{names:List (Str×NameKind)} {n:Nat} {acc:List (Str×Addr)} {p:Str×Addr},p∈cellsFrom n names acc→p∈acc∨n≤p.2
 | [],_,_,_,h=> .inl h
 | (nm,k)::r,n,acc,p,h=>by
   unfold cellsFrom at h
   split at h
   · rcases kc2 h with q | q
     · rcases bc7.mp q with rfl | q
       · exact .inr (bb6 _)
       · exact .inl q
     · exact .inr (by lia)
   · exact kc2 h
set_option tactic.hygienic true in
theorem kcf: ∀{names:List (Str×NameKind)} {h:Heap} {acc:List (Str×Addr)},(∀ p∈acc,∃v,h.IsCell p.2 v)→∀p∈cellsFrom h.objs.size names acc,∃v,(pushCells h names).IsCell p.2 v
 | [],_,_,h,p,hp=>h p hp
 | (nm,k)::r,h,acc,ha,p,hp=>by
   unfold cellsFrom at hp
   unfold pushCells
   split
   · rename_i hk
     rw [if_pos hk] at hp
     have e:h.objs.size + 1=(h.push {cls:= .type "cell",data:= .cell none}).objs.size:=(br0 ..).symm
     rw [e] at hp
     refine kcf (fun q hq=> ?_) p hp
     rcases bc7.mp hq with rfl | hq
     · exact ⟨none,_,bd8 _ rfl,rfl⟩
     · obtain ⟨v,z⟩:=ha q hq
       exact ⟨v,z.keeps fun b o e=>bb0 _ e⟩
   · rename_i hk
     rw [if_neg hk] at hp
     exact kcf ha p hp
theorem kc3 {x:Str} {c:Addr} {lo:Nat}: ∀{names:List (Str×NameKind)} {n:Nat} {acc:List (Str×Addr)},lo≤n→(names.lookup x=some .cell∨∀c',acc.lookup x=some c'→lo≤c')→
 (cellsFrom n names acc).lookup x=some c→lo≤c
 | [],_,_,_,h,e=>by
   rcases h with h | h
   · cases h
   · exact h c e
 | (y,k)::r,n,acc,hn,h,e=>by
   unfold cellsFrom at e
   by_cases hk:(k == bo3)=true
   · rw [if_pos hk] at e
     refine kc3 (b66 hn) ?_ e
     cases hb:x == y with
     | true=>
       refine .inr fun c' e'=> ?_
       rw [bk6,hb] at e'
       have e':n=c':=bg4 e'
       lia
     | false=>
       rcases h with h | h
       · rw [bk6,hb] at h
         exact .inl h
       · refine .inr fun c' e'=> ?_
         rw [bk6,hb] at e'
         exact h c' e'
   · rw [if_neg hk] at e
     refine kc3 hn ?_ e
     rcases h with h | h
     · rw [bk6] at h
       cases hb:x == y with
       | true=>
         rw [hb] at h
         have h:k=bo3:=bg4 h
         subst h
         exact absurd rfl hk
       | false=>
         rw [hb] at h
         exact .inl h
     · exact .inr h
theorem kck {x:Str}: ∀{names:List (Str×NameKind)} {n:Nat} {acc:List (Str×Addr)},(names.all fun p=>p.1 != x || p.2 != bo3)=true→(cellsFrom n names acc).lookup x=acc.lookup x
 | [],_,_,_=>rfl
 | (y,k)::r,n,acc,h=>by
   rw [List.all_cons,bh5] at h
   unfold cellsFrom
   by_cases hk:(k == bo3)=true
   · rw [if_pos hk,kck h.2,bk6]
     have h1:(y != x)=true:=by
      have:=h.1
      rw [b37] at this
      rcases this with z | z
      · exact z
      · rw [bne,hk] at z
        cases z
     have hb:(x == y)=false:=by
      cases q:x == y with
      | false=>rfl
      | true=>
        have e:=beq_iff_eq.mp q
        subst e
        rw [bne_self_eq_false] at h1
        cases h1
     rw [hb]
   · rw [if_neg hk]
     exact kck h.2
theorem kfh {M:Model} {A:bf8} {E:Value→ba4→Prop} {s:ba4} {scope:Scope} {globals:Addr} {cl:List (Str×Addr)} {qual:Str} {env:Env} {Q:Env→ba4→Prop}
 (h:Q {scope:=scope,locals:=s.heap.objs.size,globals:=globals,cells:=cellsFrom (s.heap.objs.size + 1) scope.names cl,qual:=qual,func:=none,code:=env.code,frame:=env.frame,builtins:=env.builtins}
   {s with heap:=pushCells (s.heap.push {cls:= .type "dict",data:= .dict #[]}) scope.names}):
 wpAny M A (newFunctionEnv scope globals cl [] qual none .none (some env)) Q E s:=by
 simp only [newFunctionEnv,Option.isSome_some,if_true]
 refine ba2 (wpAny_alloc ?_)
 refine ba2 (wpAny_layCells _ (fun name kind cells=>by cases hkc:kind == bo3 <;> simp [hkc]) _ _ _ _ ?_)
 rw [show ({s with heap:=s.heap.push {cls:= .type "dict",data:= .dict #[]}}:ba4).heap.objs.size=s.heap.objs.size + 1 from br0 ..]
 refine ba2 ?_
 rw [b58]
 exact bb4 (bb4 h)
inductive Caps (X:Cx) (scope:Scope):List Str→List (Option Nat)→Prop where
 | nil:Caps X scope [] []
 | own {x:Str} {N:List Str} {js:List (Option Nat)} (r:Caps X scope N js):Caps X scope (x::N) (none::js)
 | cap {x:Str} {N:List Str} {js:List (Option Nat)} (j:Nat) (h1:X.N[j]?=some x) (h2:scope.names.lookup x=some .free) (h3:(scope.names.all fun p=>p.1 != x || p.2 != bo3)=true)
    (r:Caps X scope N js):Caps X scope (x::N) (some j::js)
noncomputable def kec (σ:St) (js:List (Option Nat)):St:=js.map fun (o:Option Nat)=>o.bind fun (j:Nat)=>(σ[j]?).join
theorem Caps.len {X:Cx} {scope:Scope}: ∀{N:List Str} {js:List (Option Nat)},Caps X scope N js→js.length=N.length
 | _,_,.nil=>rfl
 | _,_,.own r=>congrArg (· + 1) r.len
 | _,_,.cap _ _ _ _ r=>congrArg (· + 1) r.len
theorem Caps.get {X:Cx} {scope:Scope} {σ:St}: ∀{N:List Str} {js:List (Option Nat)} {i:Nat} {x:Str} {v:V},Caps X scope N js→N[i]?=some x→(kec σ js)[i]?=some (some v)→
 ∃j:Nat,X.N[j]?=some x∧σ[j]?=some (some v)∧scope.names.lookup x=some .free∧(scope.names.all fun p=>p.1 != x || p.2 != bo3)=true
 | _,_,_,_,_,.nil,h,_=>by simp at h
 | _,_,0,_,_,.own r,_,h2=>by simp [kec] at h2
 | _,_,i + 1,_,_,.own r,h1,h2=>Caps.get (i:=i) r (by simpa using h1) (by simpa [kec] using h2)
 | _,_,0,x,v,.cap j a b c r,h1,h2=>by
   simp only [bm8,b00] at h1
   subst h1
   refine ⟨j,a,?_,b,c⟩
   simp only [kec,bg5,bm8,b00,Option.bind_some] at h2
   cases e:σ[j]? with
   | none=>rw [e] at h2;cases h2
   | some z=>rw [e] at h2;rw [show z=some v from h2]
 | _,_,i + 1,_,_,.cap _ _ _ _ r,h1,h2=>Caps.get (i:=i) r (by simpa using h1) (by simpa [kec] using h2)
noncomputable def kba (X:Cx) (scope:Scope) (N':List Str) (s:ba4) (H:Hp) (fp:List Addr):Cx where
 prog:=X.prog
 w:=X.w
 K:=X.K
 mg:=X.mg
 base:=X.base
 A:=X.A
 N:=N'
 s₀:=s
 H₀:=H
 env:={scope:=relabel scope X.env,locals:=s.heap.objs.size,globals:=X.env.globals,cells:=cellsFrom (s.heap.objs.size + 1) scope.names (kbs X.env scope.names []),qual:=X.env.qual,func:=none,code:=X.env.code,frame:=X.env.frame,builtins:=X.env.builtins}
 outer:=X.stack
 stack:=X.stack
 ex:=fp
 fn:=fun x=>decide (scope.names.lookup x=some .cell)
 calm:=X.calm
 pn:=[]
 xe:=fun q_ q_=>False
theorem kcq {scope:Scope} {env:Env} {x:Str} {k':NameKind}: ∀{names:List (Str×NameKind)},
 (names.map fun (p:Str×NameKind)=>if (p.2 == bj7 && env.scope.kind == .function && env.kindOf p.1 == some .cell)=true then (p.1,bo3) else (p.1,p.2)).lookup x=some k'→
 ∃k,names.lookup x=some k∧(k'=k∨(k= .free∧k'= .cell))
 | [],h=>by cases h
 | (n,k)::r,h=>by
   rw [bg5,bk6] at h
   rw [bk6]
   by_cases hc:(k == bj7 && env.scope.kind == .function && env.kindOf n == some .cell)=true
   · rw [if_pos hc] at h
     cases hb:x == n with
     | true=>
       rw [hb] at h
       rw [bh5,bh5] at hc
       exact ⟨k,rfl,.inr ⟨beq_iff_eq.mp hc.1.1,(bg4 h).symm⟩⟩
     | false=>
       rw [hb] at h
       exact kcq (scope:=scope) h
   · rw [if_neg hc] at h
     cases hb:x == n with
     | true=>
       rw [hb] at h
       exact ⟨k,rfl,.inl (bg4 h).symm⟩
     | false=>
       rw [hb] at h
       exact kcq (scope:=scope) h
theorem ked {env:Env} {x:Str}: ∀{names:List (Str×NameKind)},names.lookup x=some .free→
 (names.map fun (p:Str×NameKind)=>if (p.2 == bj7 && env.scope.kind == .function && env.kindOf p.1 == some .cell)=true then (p.1,bo3) else (p.1,p.2)).lookup x=some .cell∨
 (names.map fun (p:Str×NameKind)=>if (p.2 == bj7 && env.scope.kind == .function && env.kindOf p.1 == some .cell)=true then (p.1,bo3) else (p.1,p.2)).lookup x=some .free
 | [],h=>by cases h
 | (n,k)::r,h=>by
   rw [bk6] at h
   rw [bg5,bk6]
   by_cases hc:(k == bj7 && env.scope.kind == .function && env.kindOf n == some .cell)=true
   · rw [if_pos hc]
     cases hb:x == n with
     | true=>exact .inl rfl
     | false=>
       rw [hb] at h
       exact ked h
   · rw [if_neg hc]
     cases hb:x == n with
     | true=>
       rw [hb] at h
       exact .inr h
     | false=>
       rw [hb] at h
       exact ked h
section
variable {X:Cx} {scope:Scope} {N':List Str} {js:List (Option Nat)} {pins:List (Addr×Obj)} {σ:St} {H:Hp} {s:ba4} {fp:List Addr}
theorem kip (caps:Caps X scope N' js) (hkind:scope.kind= .function) (hfree: ∀x∈scope.names,x.2= .free→X.env.kindOf x.1=some .cell∨X.env.kindOf x.1=some .free)
 (I:Inv X pins σ H s) (hfp: ∀b∈fp,kmu X pins H b) (hfo: ∀b∈fp,b < s.heap.objs.size):
 Inv (kba X scope N' s H fp) [] (kec σ js) H {s with heap:=pushCells (s.heap.push {cls:= .type "dict",data:= .dict #[]}) scope.names}:=by
 have keeps: ∀b u,s.heap.get? b=some u→(pushCells (s.heap.push {cls:= .type "dict",data:= .dict #[]}) scope.names).get? b=some u:=fun b u e=>b38 _ _ b u (bb0 _ e)
 have hlk: ∀x,scope.names.lookup x=some .free→∃c,X.env.cells.lookup x=some c:=fun x e=>I.ok.has x (hfree (x,.free) (bj4 e) rfl)
 have clo: ∀p∈kbs X.env scope.names [],X.env.cells.lookup p.1=some p.2:=fun p hp=>by
  rcases kew hp with z | ⟨z1,z2⟩
  · cases z
  · obtain ⟨c,e⟩:=I.ok.has p.1 (hfree (p.1,.free) z1 rfl)
    rw [z2,e]
    rfl
 have cls: ∀x c,(kba X scope N' s H fp).env.cells.lookup x=some c→X.env.cells.lookup x=some c∨s.heap.objs.size + 1≤c:=fun x c e=>by
  have m:(x,c)∈cellsFrom (s.heap.objs.size + 1) scope.names (kbs X.env scope.names []):=bj4 e
  rcases kc2 m with z | z
  · exact .inl (clo _ z)
  · exact .inr z
 have hsz:(s.heap.push {cls:= .type "dict",data:= .dict #[]}).objs.size=s.heap.objs.size + 1:=br0 ..
 have oldlt: ∀x c,X.env.cells.lookup x=some c→c < s.heap.objs.size:=fun x c e=>by
  obtain ⟨v,z⟩:=I.cell x c e
  exact z.lt
 have cellsIs: ∀p∈cellsFrom (s.heap.objs.size + 1) scope.names (kbs X.env scope.names []),∃v,(pushCells (s.heap.push {cls:= .type "dict",data:= .dict #[]}) scope.names).IsCell p.2 v:=by
  rw [← hsz]
  refine kcf fun p hp=> ?_
  obtain ⟨v,z⟩:=I.cell _ _ (clo p hp)
  exact ⟨v,z.keeps fun b o e=>bb0 _ e⟩
 have hinj:InjL (cellsFrom (s.heap.objs.size + 1) scope.names (kbs X.env scope.names [])):=by
  refine kc1 (fun p hp=>bj0 (oldlt _ _ (clo p hp))) fun p hp q hq e=> ?_
  have e1:=clo p hp
  have e2:=clo q hq
  rw [← e] at e2
  exact I.ok.inj _ _ _ e1 e2
 refine ⟨⟨I.ok.mod,hkind,I.ok.glob,I.ok.blt,bb6 _,fun x y c h1 h2=> ?_,fun x hx=> ?_,fun x c hf h=> ?_,I.ok.hd,I.ok.frames,.inl rfl,fun b hb=> ?_,I.bs,bj2 I.ok.bsz I.sz,fun b o e hb=> ?_,fun b hb hf=> ?_,I.stack,I.stkFree⟩,
  rfl,I.bare,Un.kept keeps,⟨fun q_=>none,(Heap.Ns.new s.heap (.type "dict")).keeps (b38 _ _),fun i x v h1 h2 h3=> ?_⟩,fun x c h=> ?_,I.hok.fresh (bb6 _),fun x c h=> ?_,fun p hp=>absurd (show p∈([]:List (Addr×Obj)) from hp) (by simp),I.hok.kept keeps,?_⟩
 · exact hinj (x,c) (bj4 h1) (y,c) (bj4 h2) rfl
 · have hx:(relabel scope X.env).names.lookup x=some .cell∨(relabel scope X.env).names.lookup x=some .free:=hx
   have key:scope.names.lookup x=some .cell∨scope.names.lookup x=some .free:=by
    rcases hx with hx | hx
    · obtain ⟨k,e,z⟩:=kcq (scope:=scope) (env:=X.env) hx
      rcases z with z | ⟨z,_⟩
      · exact .inl (by rw [e,z])
      · exact .inr (by rw [e,z])
    · obtain ⟨k,e,z⟩:=kcq (scope:=scope) (env:=X.env) hx
      rcases z with z | ⟨_,z⟩
      · exact .inr (by rw [e,z])
      · cases z
   have:((cellsFrom (s.heap.objs.size + 1) scope.names (kbs X.env scope.names [])).lookup x).isSome=true:=by
    rcases key with e | e
    · exact bt1 _ _ _ (.inl e)
    · exact bt1 _ _ _ (.inr (by rw [kc0 e];rfl))
   exact bo7.mp this
 · have hf:scope.names.lookup x=some .cell:=of_decide_eq_true hf
   exact cf2 (kc3 (lo:=s.heap.objs.size + 1) (bb6 _) (.inl hf) h)
 · refine ⟨bf3 (hfo b hb),fun x c h z=> ?_⟩
   rcases cls x c h with e | e
   · exact (hfp b hb).2.2.2.2.1 x c e z
   · rw [z] at e
     exact absurd (hfo b hb) (cl0.mpr (cf2 e))
 · rcases (hfp b hb).2.2.2.1 with z | z
   · exact I.ok.noex b o e z
   · exact absurd (bh1 (bd7 e) I.ok.bsz) (cl0.mpr z)
 · rcases bc7.mp (I.stkSub b hf) with z | z
   · exact (hfp b hb).2.1 z
   · exact (hfp b hb).2.2.1 z
 · obtain ⟨j,a1,a2,a3,a4⟩:=caps.get h1 h2
   have kx:=hfree (x,.free) (bj4 a3) rfl
   obtain ⟨m,hn,hl⟩:=I.loc
   have vis:Vis X.env.scope x:=by
    rcases kx with k | k
    · exact .inr (.inl k)
    · exact .inr (.inr k)
   obtain ⟨u,r,l⟩:=hl j x v a1 a2 vis
   refine ⟨u,r,.inr ⟨ked (env:=X.env) a3,?_⟩⟩
   rcases l with ⟨k,_⟩ | ⟨_,c,e,z⟩
   · rcases kx with k' | k'
     · rw [k] at k';cases k'
     · rw [k] at k';cases k'
   · refine ⟨c,?_,z.keeps keeps⟩
     show (cellsFrom (s.heap.objs.size + 1) scope.names (kbs X.env scope.names [])).lookup x=some c
     rw [kck a4,kc0 a3,e]
     rfl
 · exact cellsIs (x,c) (bj4 h)
 · rcases cls x c h with e | e
   · exact I.freeC x c e
   · exact I.hok.fresh (by lia)
 · show (kec σ js).length=N'.length
   unfold kec
   rw [ba3,caps.len]
theorem Inv.unblock {pins':List (Addr×Obj)} {σ':St} {H':Hp} {s':ba4} {h':Heap} (I:Inv X pins σ H s) (hfp: ∀b∈fp,kmu X pins H b) (I':Inv (kba X scope N' s H fp) pins' σ' H' s') (hs:bn5 s.heap.objs.size s'.heap h'):
 Inv X pins σ H' {s' with heap:=h'}:=by
 have ne: ∀b o,s.heap.get? b=some o→b≠s.heap.objs.size:=fun b o e=>bf3 (bd7 e)
 have u:Un (frs X.stack) fp H H' s.heap h':=by
  refine ⟨fun b o e n hb hx=>(hs.2 b (ne b o e)).trans (I'.base.keep b o e n hb hx),fun b o e n hb hx=> ?_,I'.base.free,fun b o e hx=> ?_,I'.base.tups,I'.base.frzs,I'.base.tbls⟩
  · obtain ⟨sl,q⟩:=I'.base.slot b o e n hb hx
    exact ⟨sl,(hs.2 b (ne b o e)).trans q⟩
  · obtain ⟨o',q⟩:=I'.base.there b o e hx
    exact ⟨o',(hs.2 b (ne b o e)).trans q⟩
 have hf:H' s.heap.objs.size=none:=I'.free
 have hok:HOk X.prog X.w H' h':=fun a o e=>(I'.hok a o e).stay (fun c v hc q=>(hs.2 c (by
  rintro rfl
  rcases hc with z | z
  · rw [← z,hf] at e;cases e
  · rw [hf] at z;cases z)).trans q) (fun q_ q=>q) fun q_ q_ q=>q
 refine I.call' (s':={s' with heap:=h'}) (ch:=fp) I'.os u hok I'.bare fun b hb=> ?_
 obtain ⟨f0,f1,f2,f3,f4,f5⟩:=hfp b hb
 exact ⟨f3,f1,f4,f5⟩
def PIf (X:Cx) (ifs:List Expr) (t:TT):Prop:=
 ∀(pins:List (Addr×Obj)) (s:ba4) (σ:St) (H:Hp) (Q:Bool→Hp→Prop),Inv X pins σ H s→t σ H Q→
  wpAny (model X.prog X.w) X.A (forIn ifs true fun c r=>if r=true then do let ok ← isTrue c X.env (eval c X.env);pure (cj6 ok) else pure (cj6 r)) (TP X pins σ Q) X.xe s
theorem kjw:PIf X [] (fun q_ H Q=>Q true H):=fun pins s σ H Q I h=>by
 rw [b58]
 exact bb4 ⟨H,I,h⟩
theorem koa {c:Expr} {tc:TT} (hc:PT X c tc):PIf X [c] tc:=fun pins s σ H Q I h=>by
 rw [ca2,if_pos rfl]
 refine ba2 (ba2 (thn (hc pins s σ H Q I h) fun b s1 q=>bb4 ?_))
 show wpAny _ _ (forIn ([]:List Expr) b _) _ _ s1
 rw [b58]
 exact bb4 q
def kk3 (J:It) (g:TG) (tc:TT) (te:TE) (Q:VK) (D:Addr) (W:Nat→Nat→St→List V→Hp→Prop):Prop:=
 ∀(i m:Nat) (σ1:St) (acc:List V) (H:Hp),W i m σ1 acc H→(J.stop i H∧Q (.ref D) H)∨
  (J.go i H∧∃N:St→List V→Hp→Prop,(∀ σ' acc' H',N σ' acc' H'→∃m',m' < m∧W (i + 1) m' σ' acc' H')∧
    ∀x H',J.yld i H x H'→g x σ1 H' fun σ2 H2=>tc σ2 H2 fun b H3=>if b=true then te σ2 H3 fun y H4=>H4 D=some (.lst acc)∧acc.length < sizeLine∧N σ2 (acc++[y]) (upd H4 D (.lst (acc++[y])))
     else N σ2 acc H3)
def tLC (js:List (Option Nat)) (wi:TI) (g:TG) (tc:TT) (te:TE):TE:=fun σ H Q=>wi σ H fun J H1=>∀D,H1 D=none→∃W:Nat→Nat→St→List V→Hp→Prop,(∃ m,W 0 m (kec σ js) [] (upd H1 D (.lst [])))∧kk3 J g tc te Q D W
theorem kiq {elt tg iter:Expr} {ifs:List Expr} {pos:Pos} {g:TG} {tc:TT} {te:TE} {Q:VK} {R:Result→ba4→Prop} {it:Addr} {J:It} {tn:Nat→Heap→Prop} {D:Addr} {W:Nat→Nat→St→List V→Hp→Prop} {m0:Nat} {σ0:St} {s4:ba4} {H4:Hp}
 (hcalm:X.calm=true) (T:Turn X.prog X.w X.K tg J fp it tn)
 (hg:PG (kba X scope N' s H fp) tg g) (hc:PIf (kba X scope N' s H fp) ifs tc) (he:PE (kba X scope N' s H fp) elt te)
 (turn:kk3 J g tc te Q D W)
 (I4:Inv (kba X scope N' s H fp) [] σ0 H4 s4) (st4:tn 0 s4.heap) (fr4: ∀b∈fp,H4 b=none) (w4:W 0 m0 σ0 [] H4)
 (fin: ∀σ' H' s',Inv (kba X scope N' s H fp) [] σ' H' s'→Q (.ref D) H'→R (.ok .next) s'):
 codeAny (model X.prog X.w) X.A (.compStart (.ListComp elt [⟨tg,iter,ifs,0⟩] scope pos) 0 (.ref it) (.ref D) (kba X scope N' s H fp).env) R s4:=by
 have loop:codeAny (model X.prog X.w) X.A (.compLoop (.ListComp elt [⟨tg,iter,ifs,0⟩] scope pos) 0 (.ref it) (.ref D) (kba X scope N' s H fp).env) R s4:=by
  have stat: ∀{H':Hp},(∀ b∈fp,H' b=none)→∀b∈fp,kmu (kba X scope N' s H fp) [] H' b:=fun hn b hb=>
   ⟨hn b hb,(I4.ok.exf b hb).1,I4.ok.exfs b hb,.inl hb,(I4.ok.exf b hb).2,fun p hp=>absurd (show p∈([]:List (Addr×Obj)) from hp) (by simp)⟩
  refine codeAny_loop rfl (fun n s'=>∃i σ' acc H',Inv (kba X scope N' s H fp) [] σ' H' s'∧tn i s'.heap∧(∀ b∈fp,H' b=none)∧W i n σ' acc H') ?_ m0 ⟨0,σ0,[],H4,I4,st4,fr4,w4⟩
  rintro n s5 ⟨i,σ5,acc,H5,I5,st5,fr5,w5⟩
  show wpAny _ X.A ((compTurn (.ListComp elt [⟨tg,iter,ifs,0⟩] scope pos) 0 (.ref it) (.ref D) (kba X scope N' s H fp).env).onRaise (fun x=>do noteFrame x (kba X scope N' s H fp).env;theTreesLotGoes x)) _ _ s5
  refine wpAny_noted ?_
  rw [compTurn_list]
  have ex: ∀{E':Value→ba4→Prop} (e:Value) (s':ba4),(kba X scope N' s H fp).xe e s'→E' e s':=fun q_ q_ z=>bp9 z
  rcases turn i n σ5 acc H5 w5 with ⟨stop,q⟩ | ⟨go,N,hN,step⟩
  · refine ba2 (b78 (ba2 (thn (T.done (kba X scope N' s H fp) rfl rfl rfl hcalm i [] s5 σ5 H5 _ I5 (stat fr5) st5 stop) fun r s6 ⟨hr,I6⟩=> ?_)))
    subst hr
    exact bb4 (fin σ5 H5 s6 I6 q)
  · refine ba2 (b78 (ba2 (thn (T.item (kba X scope N' s H fp) rfl rfl rfl hcalm i [] s5 σ5 H5 _ I5 (stat fr5) st5 go) fun r s6 ⟨u,hr,h6⟩=> ?_)))
    subst hr
    refine ba2 (thn h6 fun _ s7 ⟨x,H7,I7,r7,y7,st7,fr7⟩=> ?_)
    have I7':=I7.pinned (stat fr7) (T.obj _ _ st7)
    refine ba2 (bp8 (hg _ s7 σ5 H7 x u _ I7' r7 (step x H7 y7)) (fun _ s8 ⟨σ8,H8,I8,q8⟩=> ?_) ex)
    refine ba2 (bp8 (hc _ s8 σ8 H8 _ I8 q8) (fun ok s9 ⟨H9,I9,q9⟩=> ?_) ex)
    have again: ∀{s':ba4} {σ':St} {H':Hp} {acc':List V},Inv (kba X scope N' s H fp) ([]++kic fp s7.heap) σ' H' s'→N σ' acc' H'→
     ∃m,m < n∧∃i σ' acc H',Inv (kba X scope N' s H fp) [] σ' H' s'∧tn i s'.heap∧(∀ b∈fp,H' b=none)∧W i m σ' acc H':=fun {s' σ' H' acc'} J' n'=>by
     obtain ⟨m',hm,w'⟩:=hN σ' acc' H' n'
     refine ⟨m',hm,i + 1,σ',acc',H',J'.unpinned,T.keep _ _ _ st7 fun b hb o e=>(J'.pin (b,o) (bg7 _ (bg7 _ (kdt hb e)))).1,fun b hb=> ?_,w'⟩
     obtain ⟨o,e,d⟩:=T.obj _ _ st7 b hb
     exact (J'.pin (b,o) (bg7 _ (bg7 _ (kdt hb e)))).2.1
    cases ok with
    | false=>
      rw [if_neg bb3] at q9
      exact bb4 ⟨rfl,again I9 q9⟩
    | true=>
      rw [if_pos rfl] at q9
      refine ba2 (ba2 (bp8 (he _ s9 σ8 H9 _ I9 q9) (fun y s10 ⟨yv,H10,I10,r10,hD,hz,q10⟩=> ?_) ex))
      refine ba2 (bp8 (kcw (X:=kba X scope N' s H fp) _ s10 σ8 H10 (.ref D) [yv] (.ref D) [y] (fun q_ H11=>N σ8 (acc++[yv]) H11) I10 rfl (.cons r10 .nil) ⟨D,acc,yv,rfl,rfl,hD,hz,q10⟩) (fun _ s11 ⟨_,H11,I11,_,q11⟩=> ?_) ex)
      exact bb4 (bb4 ⟨rfl,again I11 q11⟩)
 exact codeAny_compStart_list loop (T.self _ 0 _ _ _ st4 loop)
theorem kob {scope:Scope} {env:Env} (h:(scope.names.all fun p=>p.2 != bj7 || (env.scope.names.lookup p.1 == some .cell || env.scope.names.lookup p.1 == some .free))=true):
 ∀x∈scope.names,x.2= .free→env.kindOf x.1=some .cell∨env.kindOf x.1=some .free:=fun x hx e=>by
 have q:=bn6.mp h x hx
 rw [e] at q
 have q:(env.scope.names.lookup x.1 == some bo3 || env.scope.names.lookup x.1 == some bj7)=true:=q
 rw [b37] at q
 rcases q with q | q
 · exact .inl (beq_iff_eq.mp q)
 · exact .inr (beq_iff_eq.mp q)
theorem kk4 {scope:Scope} (h:(scope.names.all fun p=>p.2 != NameKind.local || scope.names.lookup p.1 == some .local)=true): ∀x∈scope.names,x.2= .local→scope.names.lookup x.1=some .local:=fun x hx e=>by
 have q:=bn6.mp h x hx
 rw [e] at q
 have q:(scope.names.lookup x.1 == some NameKind.local)=true:=q
 exact beq_iff_eq.mp q
variable {elt tg iter:Expr} {ifs:List Expr} {pos:Pos} {wi:TI} {g:TG} {tc:TT} {te:TE}
theorem kfl (hcalm:X.calm=true) (caps:Caps X scope N' js) (hi:PI X tg iter wi)
 (hg: ∀s H fp,PG (kba X scope N' s H fp) tg g) (hc: ∀s H fp,PIf (kba X scope N' s H fp) ifs tc) (he: ∀s H fp,PE (kba X scope N' s H fp) elt te)
 (hfb:autoParam ((scope.names.all fun p=>p.2 != bj7 || (X.env.scope.names.lookup p.1 == some .cell || X.env.scope.names.lookup p.1 == some .free))=true) u4._auto_1)
 (hnb:autoParam ((scope.names.all fun p=>p.2 != NameKind.local || scope.names.lookup p.1 == some .local)=true) u4._auto_1)
 (hkind:autoParam (scope.kind= .function) u4._auto_1)
 (hs:autoParam (∀ x,foldedSetIterable iter X.env x=pure x) u3._auto_1):PE X (.ListComp elt [⟨tg,iter,ifs,0⟩] scope pos) (tLC js wi g tc te):=by
 intro pins s σ H Q I h
 have hfree:=kob hfb
 have hnames:=kk4 hnb
 rw [eval_ListComp]
 refine b67 (use:=none) (cl:=kbs X.env scope.names []) rfl hs (keo fun x hx e=>I.ok.has x.1 (hfree x hx e)) hkind hnames ?_
 refine thn (hi pins s σ H _ I h) fun v s1 h1=>thn h1 fun itv s2 h2=> ?_
 obtain ⟨it,fp,tn,J,H2,e,I2,T,st2,f2,q⟩:=h2
 subst e
 refine br9 ?_
 have hD:H2 s2.heap.objs.size=none:=I2.hok.fresh (bb6 _)
 have I3:Inv X pins σ (upd H2 s2.heap.objs.size (.lst [])) {s2 with heap:=s2.heap.push {cls:= .type "list",data:= .seq ([]:List Value).toArray}}:=I2.lnew (t':=s2.toks) .nil (bf4 _)
 obtain ⟨W,⟨m0,w0⟩,turn⟩:=q s2.heap.objs.size hD
 have fo: ∀b∈fp,b < s2.heap.objs.size:=fun b hb=>by
  obtain ⟨o,e,_⟩:=T.obj _ _ st2 b hb
  exact bd7 e
 have f3: ∀b∈fp,kmu X pins (upd H2 s2.heap.objs.size (.lst [])) b:=fun b hb=>⟨by rw [kak (bf3 (fo b hb))];exact (f2 b hb).1,(f2 b hb).2⟩
 have fo3: ∀b∈fp,b < (s2.heap.push {cls:= .type "list",data:= .seq ([]:List Value).toArray}).objs.size:=fun b hb=>by
  rw [br0]
  exact bj0 (fo b hb)
 refine kfh ?_
 have I4:=kip (fp:=fp) caps hkind hfree I3 f3 fo3
 refine kiq (fp:=fp) hcalm T (hg _ _ _) (hc _ _ _) (he _ _ _) turn I4 ?_ (fun b hb=>(f3 b hb).1) w0 ?_
 · refine T.keep _ _ _ st2 fun b hb o e=> ?_
   exact b38 _ _ b o (bb0 _ (bb0 _ e))
 · intro σ' H' s' I' q'
   obtain ⟨m,hn,_⟩:=I'.loc
   exact ⟨m,hn,fun h' hs'=>⟨.ref s2.heap.objs.size,H',Inv.unblock I3 f3 I' hs',rfl,q'⟩⟩
theorem kr3 {i:Nat} {x:Str} {pos' spos:Pos} (hcalm:X.calm=true) (caps:Caps X scope N' js) (hi:PI X tg iter wi)
 (hg: ∀s H fp,PG (kba X scope N' s H fp) tg g) (hc: ∀s H fp,PIf (kba X scope N' s H fp) ifs tc) (he: ∀s H fp,PE (kba X scope N' s H fp) elt te)
 (hN:X.N.Nodup) (hix:X.N[i]?=some x) (hx:Loc X.env.scope x)
 (hfb:autoParam ((scope.names.all fun p=>p.2 != bj7 || (X.env.scope.names.lookup p.1 == some .cell || X.env.scope.names.lookup p.1 == some .free))=true) u4._auto_1)
 (hnb:autoParam ((scope.names.all fun p=>p.2 != NameKind.local || scope.names.lookup p.1 == some .local)=true) u4._auto_1)
 (hsw:autoParam (bs9 (.ListComp elt [⟨tg,iter,ifs,0⟩] scope pos) (some (.Name x pos')) spos.line X.env=pure true) u4._auto_1)
 (hkind:autoParam (scope.kind= .function) u4._auto_1) (hs:autoParam (∀ x,foldedSetIterable iter X.env x=pure x) u3._auto_1)
 (hf:autoParam (X.fn x=true∨X.env.scope.names.lookup x=some .local) u1._auto_1):
 PS X (.Assign [.Name x pos'] (.ListComp elt [⟨tg,iter,ifs,0⟩] scope pos) spos) (kzr (tLC js wi g tc te) (knr i)):=by
 intro pins s σ H E I h
 have hfree:=kob hfb
 have hnames:=kk4 hnb
 rw [exec_Assign_Name_used _ _ _ _ hsw]
 refine ba2 (b78 (ba2 ?_))
 show wpAny _ X.A (do let _ ← comprehension (.ListComp elt [⟨tg,iter,ifs,0⟩] scope pos) scope X.env _ (newList []) false (eval iter X.env) (some (assign (.Name x pos') X.env))) _ _ s
 refine ba2 (bp8 (b67 (use:=some (assign (.Name x pos') X.env)) (Q:=fun q_ s'=>SP X pins E .next s') (cl:=kbs X.env scope.names []) rfl hs (keo fun x hx e=>I.ok.has x.1 (hfree x hx e)) hkind hnames ?_)
  (fun q_ s' hq=>bb4 (bb4 hq)) fun q_ q_ e=>e)
 have h:tLC js wi g tc te σ H (fun x H1=>E.nx (σ.set i (some x)) H1):=h
 refine thn (hi pins s σ H _ I h) fun v s1 h1=>thn h1 fun itv s2 h2=> ?_
 obtain ⟨it,fp,tn,J,H2,e,I2,T,st2,f2,q⟩:=h2
 subst e
 refine br9 ?_
 have hD:H2 s2.heap.objs.size=none:=I2.hok.fresh (bb6 _)
 have I3:Inv X pins σ (upd H2 s2.heap.objs.size (.lst [])) {s2 with heap:=s2.heap.push {cls:= .type "list",data:= .seq ([]:List Value).toArray}}:=I2.lnew (t':=s2.toks) .nil (bf4 _)
 obtain ⟨W,⟨m0,w0⟩,turn⟩:=q s2.heap.objs.size hD
 have fo: ∀b∈fp,b < s2.heap.objs.size:=fun b hb=>by
  obtain ⟨o,e,_⟩:=T.obj _ _ st2 b hb
  exact bd7 e
 have f3: ∀b∈fp,kmu X pins (upd H2 s2.heap.objs.size (.lst [])) b:=fun b hb=>⟨by rw [kak (bf3 (fo b hb))];exact (f2 b hb).1,(f2 b hb).2⟩
 have fo3: ∀b∈fp,b < (s2.heap.push {cls:= .type "list",data:= .seq ([]:List Value).toArray}).objs.size:=fun b hb=>by
  rw [br0]
  exact bj0 (fo b hb)
 refine kfh ?_
 have I4:=kip (fp:=fp) caps hkind hfree I3 f3 fo3
 refine kiq (fp:=fp) hcalm T (hg _ _ _) (hc _ _ _) (he _ _ _) turn I4 ?_ (fun b hb=>(f3 b hb).1) w0 ?_
 · refine T.keep _ _ _ st2 fun b hb o e=> ?_
   exact b38 _ _ b o (bb0 _ (bb0 _ e))
 · intro σ' H' s' I' q'
   have I5:Inv X pins σ H' s':=Inv.unblock I3 f3 I' (cf3 ..)
   obtain ⟨m,hn,_⟩:=I'.loc
   show wpAny _ X.A (assign (.Name x pos') X.env (.ref s2.heap.objs.size)) _ _ s'
   refine ce7 (kh9 I5 hN hix hx (v:= .ref s2.heap.objs.size) rfl (fun s6 I6 ⟨a,hsa,ha⟩=> ?_) hf)
   have lt: ∀b,b < s2.heap.objs.size + 1→b≠(s2.heap.push {cls:= .type "list",data:= .seq ([]:List Value).toArray}).objs.size:=fun b hb=>by
    rw [br0]
    exact bf3 hb
   have hLs:X.env.locals < s2.heap.objs.size:=I2.lt
   have hcs: ∀y c,X.env.cells.lookup y=some c→c < s2.heap.objs.size:=fun y c e=>by
    obtain ⟨v,z⟩:=I2.cell y c e
    exact z.lt
   have hne:(s2.heap.push {cls:= .type "list",data:= .seq ([]:List Value).toArray}).objs.size≠a:=by
    rcases ha with z | z
    · rw [z];exact (lt _ (bj0 hLs)).symm
    · exact (lt _ (bj0 (hcs _ _ z))).symm
   refine ⟨m,hn.sameBut hsa hne,fun h' hs'=>⟨_,H',?_,q'⟩⟩
   refine I6.turned (t':=s6.toks) (it:=(s2.heap.push {cls:= .type "list",data:= .seq ([]:List Value).toArray}).objs.size) (fun b o hb e=>(hs'.2 b hb).trans e) I'.free ?_ (.inr ?_) (fun y c e=> ?_) (fun p hp z=> ?_)
   · exact (lt _ (bj0 hLs)).symm
   · exact I3.sz
   · exact lt _ (bj0 (hcs y c e))
   · exact absurd (bd7 (I3.pin p hp).1) (by rw [z];exact bk1 _)
end
theorem kr4 {lo:Int} {n:Nat} {g:TG} {tc:TT} {te:TE} {Q:VK} {D:Addr} {σ:St} {H:Hp} (Pv:Nat→St→List V→Hp→Prop) (h0:Pv 0 σ [] H)
 (hs: ∀i σ acc H,i < n→Pv i σ acc H→g (.int (lo + i)) σ H fun σ2 H2=>tc σ2 H2 fun b H3=>if b=true then te σ2 H3 fun y H4=>H4 D=some (.lst acc)∧acc.length < sizeLine∧Pv (i + 1) σ2 (acc++[y]) (upd H4 D (.lst (acc++[y]))) else Pv (i + 1) σ2 acc H3)
 (hd: ∀σ acc H,Pv n σ acc H→Q (.ref D) H):
 ∃W:Nat→Nat→St→List V→Hp→Prop,(∃ m,W 0 m σ [] H)∧kk3 (Itr lo n) g tc te Q D W:=by
 refine ⟨fun i m σ acc H=>m=n - i∧i≤n∧Pv i σ acc H,⟨n,by simp,bf4 _,h0⟩,?_⟩
 rintro i m σ acc H ⟨rfl,hi,p⟩
 by_cases hlt:i < n
 · refine .inr ⟨hlt,Pv (i + 1),fun σ' acc' H' p'=>⟨n - (i + 1),by lia,rfl,hlt,p'⟩,fun x H' y=> ?_⟩
   obtain ⟨e,y⟩:=y
   subst e y
   exact hs i σ acc _ hlt p
 · have e:i=n:=by lia
   subst e
   exact .inl ⟨bb6 _,hd σ acc H p⟩
noncomputable def kg3 (ns:List Int):ba9:= .dict (ns.map fun n=>(.int n,.none))
noncomputable def anyD:ba9:= .dict [(.bool true,.none)]
noncomputable def excD (C:Addr):ba9:= .dict [(.bool false,.int (C:Int))]
def xPhi (a C:Addr):Heap→Prop:=fun h=>∃o,h.get? a=some o∧o.cls= .ref C
noncomputable def anyK:List (ba9×ba9)→Bool
 | [(.bool true,_)]=>true
 | _=>false
theorem kk5: ∀ns:List Int,anyK (ns.map fun n=>(ba1 n,bm9))=false
 | []=>rfl
 | [_]=>rfl
 | _::_::_=>rfl
mutual
inductive Rp (K:ba0) (H:Hp):V→ba9→Prop where
 | non:Rp K H .non .none
 | bl (b:Bool):Rp K H (.bl b) (.bool b)
 | int (i:Int):Rp K H (.int i) (.int i)
 | str (x:Str):Rp K H (.str x) (.str x)
 | lst {a:Addr} {xs:List V} {ds:List ba9}:H a=some (.lst xs)→RpAll K H xs ds→Rp K H (.ref a) (.list ds)
 | tup {a:Addr} {xs:List V} {ds:List ba9}:H a=some (.tup xs)→RpAll K H xs ds→Rp K H (.ref a) (.tuple ds)
 | scr {a:Addr} {ns:List Int}:SqL K H a (ns.map V.int)→Rp K H (.ref a) (kg3 ns)
 | any {a:Addr}:Rp K H (.ref a) anyD
 | xc {a C:Addr}:H a=some (.ext (xPhi a C))→Rp K H (.ref a) (excD C)
inductive RpAll (K:ba0) (H:Hp):List V→List ba9→Prop where
 | nil:RpAll K H [] []
 | cons {x:V} {xs:List V} {d:ba9} {ds:List ba9}:Rp K H x d→RpAll K H xs ds→RpAll K H (x::xs) (d::ds)
end
mutual
noncomputable def immD:ba9→Bool
 | .list _=>false
 | .dict kvs=>anyK kvs
 | .tuple ds=>kir ds
 | _=>true
noncomputable def kir:List ba9→Bool
 | []=>true
 | d::ds=>immD d && kir ds
end
structure TK (H H':Hp):Prop where
 tup: ∀b xs,H b=some (.tup xs)→H' b=some (.tup xs)
 frz: ∀b o u,H b=some (.frz o u)→H' b=some (.frz o u)
theorem TK.trans {H H1 H2:Hp} (a:TK H H1) (b:TK H1 H2):TK H H2:=⟨fun c xs h=>b.tup c xs (a.tup c xs h),fun c o u h=>b.frz c o u (a.frz c o u h)⟩
theorem Same.tk {H H':Hp} (s:Same H H'):TK H H':=⟨fun b xs h=>s b _ h,fun b o u h=>s b _ h⟩
theorem TK.new {H:Hp} {p:Addr} {o:HO} (h:H p=none):TK H (upd H p o):=⟨fun b xs e=>by rw [kak (kai e h)];exact e,fun b o u e=>by rw [kak (kai e h)];exact e⟩
theorem TK.lst {H:Hp} {p:Addr} {xs:List V} {o:HO} (h:H p=some (.lst xs)):TK H (upd H p o):=
 ⟨fun b ys e=>by rw [kak (kzf e h (by intro z;cases z))];exact e,fun b o u e=>by rw [kak (kzf e h (by intro z;cases z))];exact e⟩
theorem TK.sqT {K:ba0} {H H':Hp} {a:Addr} {xs:List V} (t:TK H H') (h:SqT K H a xs):SqT K H' a xs:=by
 rcases h with (h | ⟨o,h⟩) | h
 · exact .inl (.inl (t.tup _ _ h))
 · exact .inl (.inr ⟨o,t.frz _ _ _ h⟩)
 · exact .inr h
theorem Same.new {H:Hp} {p:Addr} {o:HO} (h:H p=none):Same H (upd H p o):=fun b u e=>by rw [kak (kai e h)];exact e
theorem Same.put {H0 H:Hp} {p:Addr} {o:HO} (s:Same H0 H) (h:H0 p=none):Same H0 (upd H p o):=fun b u e=>by rw [kak (kai e h)];exact s b u e
mutual
theorem Rp.keep {K:ba0} {H H':Hp} (t:TK H H'): ∀{v:V} {d:ba9},Rp K H v d→immD d=true→Rp K H' v d
 | _,_,.non,_=> .non
 | _,_,.bl b,_=> .bl b
 | _,_,.int i,_=> .int i
 | _,_,.str x,_=> .str x
 | _,_,.lst _ _,h=>absurd (show false=true from h) bb3
 | _,_,.tup hs ha,h=> .tup (t.tup _ _ hs) (RpAll.keep t ha h)
 | _,_,@Rp.scr _ _ _ ns _,h=>absurd (show anyK (ns.map fun n=>(ba1 n,bm9))=true from h) (by rw [kk5];exact bb3)
 | _,_,.any,_=> .any
theorem RpAll.keep {K:ba0} {H H':Hp} (t:TK H H'): ∀{vs:List V} {ds:List ba9},RpAll K H vs ds→kir ds=true→RpAll K H' vs ds
 | _,_,.nil,_=> .nil
 | _,_,.cons a b,h=>by
   have h:_∧_:=bv6.mp h
   exact .cons (Rp.keep t a h.1) (RpAll.keep t b h.2)
end
mutual
theorem Rp.same {K:ba0} {H H':Hp} (t:Same H H'): ∀{v:V} {d:ba9},Rp K H v d→Rp K H' v d
 | _,_,.non=> .non
 | _,_,.bl b=> .bl b
 | _,_,.int i=> .int i
 | _,_,.str x=> .str x
 | _,_,.lst hs ha=> .lst (t _ _ hs) (RpAll.same t ha)
 | _,_,.tup hs ha=> .tup (t _ _ hs) (RpAll.same t ha)
 | _,_,.scr h=> .scr (Same.seq t h)
 | _,_,.any=> .any
 | _,_,.xc h=> .xc (t _ _ h)
theorem RpAll.same {K:ba0} {H H':Hp} (t:Same H H'): ∀{vs:List V} {ds:List ba9},RpAll K H vs ds→RpAll K H' vs ds
 | _,_,.nil=> .nil
 | _,_,.cons a b=> .cons (Rp.same t a) (RpAll.same t b)
end
theorem Rp.int_inv {K:ba0} {H:Hp} {v:V} {i:Int} (h:Rp K H v (.int i)):v= .int i:=by cases h;rfl
theorem Rp.bl_inv {K:ba0} {H:Hp} {v:V} {b:Bool} (h:Rp K H v (.bool b)):v= .bl b:=by cases h;rfl
theorem Rp.tup_inv {K:ba0} {H:Hp} {v:V} {ds:List ba9} (h:Rp K H v (.tuple ds)): ∃a xs,v= .ref a∧H a=some (.tup xs)∧RpAll K H xs ds:=by
 cases h with | tup a b=>exact ⟨_,_,rfl,a,b⟩
theorem Rp.lst_inv {K:ba0} {H:Hp} {v:V} {ds:List ba9} (h:Rp K H v (.list ds)): ∃a xs,v= .ref a∧H a=some (.lst xs)∧RpAll K H xs ds:=by
 cases h with | lst a b=>exact ⟨_,_,rfl,a,b⟩
theorem RpAll.len {K:ba0} {H:Hp}: ∀{vs:List V} {ds:List ba9},RpAll K H vs ds→vs.length=ds.length
 | _,_,.nil=>rfl
 | _,_,.cons _ b=>congrArg (· + 1) b.len
theorem RpAll.get {K:ba0} {H:Hp}: ∀{vs:List V} {ds:List ba9} {i:Nat} {v:V},RpAll K H vs ds→vs[i]?=some v→∃d,ds[i]?=some d∧Rp K H v d
 | _,_,_,_,.nil,e=>by simp at e
 | _,_,0,_,.cons a _,e=>by simp at e;subst e;exact ⟨_,rfl,a⟩
 | _,_,i + 1,v,.cons _ b,e=>by
   obtain ⟨d,h1,h2⟩:=RpAll.get (i:=i) (v:=v) b (by simpa using e)
   exact ⟨d,by simpa using h1,h2⟩
theorem RpAll.get' {K:ba0} {H:Hp}: ∀{vs:List V} {ds:List ba9} {i:Nat} {d:ba9},RpAll K H vs ds→ds[i]?=some d→∃v,vs[i]?=some v∧Rp K H v d
 | _,_,_,_,.nil,e=>by simp at e
 | _,_,0,_,.cons a _,e=>by simp at e;subst e;exact ⟨_,rfl,a⟩
 | _,_,i + 1,d,.cons _ b,e=>by
   obtain ⟨v,h1,h2⟩:=RpAll.get' (i:=i) (d:=d) b (by simpa using e)
   exact ⟨v,by simpa using h1,h2⟩
theorem RpAll.append {K:ba0} {H:Hp}: ∀{vs ws:List V} {ds es:List ba9},RpAll K H vs ds→RpAll K H ws es→RpAll K H (vs++ws) (ds++es)
 | _,_,_,_,.nil,h=>h
 | _,_,_,_,.cons a b,h=> .cons a (b.append h)
theorem RpAll.one {K:ba0} {H:Hp} {v:V} {d:ba9} (h:Rp K H v d):RpAll K H [v] [d]:= .cons h .nil
theorem RpAll.ints {K:ba0} {H:Hp}: ∀(ns:List Int),RpAll K H (ns.map V.int) (ns.map ba1)
 | []=> .nil
 | n::ns=> .cons (.int n) (RpAll.ints ns)
theorem RpAll.ints_inv {K:ba0} {H:Hp}: ∀{ns:List Int} {vs:List V},RpAll K H vs (ns.map ba1)→vs=ns.map V.int
 | [],_,h=>by cases h;rfl
 | n::ns,_,h=>by
   cases h with
   | cons a b=>rw [a.int_inv,RpAll.ints_inv b];rfl
theorem RpAll.bools_inv {K:ba0} {H:Hp}: ∀{bs:List Bool} {vs:List V},RpAll K H vs (bs.map cn4)→vs=bs.map V.bl
 | [],_,h=>by cases h;rfl
 | n::ns,_,h=>by
   cases h with
   | cons a b=>rw [a.bl_inv,RpAll.bools_inv b];rfl
theorem kbr: ∀(ns:List Int),be1 (ns.map ba1)=true
 | []=>rfl
 | n::ns=>by
   show (bv9 (.int n) && be1 (ns.map ba1))=true
   rw [kbr ns];rfl
section
variable {X:Cx} {pins:List (Addr×Obj)} {σ:St} {H:Hp} {s:ba4}
mutual
theorem Inv.reads (I:Inv X pins σ H s): ∀{x:V} {d:ba9} {v:Value},Rp X.K H x d→RelV x v→d.canLay0=true→∃as,Reads s.heap v d as
 | _,_,_,.non,r,_=>⟨[],by cases r;exact .none⟩
 | _,_,_,.bl b,r,_=>⟨[],by cases r;exact .bool b⟩
 | _,_,_,.int i,r,_=>⟨[],by obtain ⟨t,e⟩:=r;cases e;exact .int i t⟩
 | _,_,_,.str x,r,_=>⟨[],by obtain ⟨t,e⟩:=r;cases e;exact .str x t⟩
 | _,_,_,.scr _,_,h=>absurd (show false=true from h) bb3
 | _,_,_,.any,_,h=>absurd (show false=true from h) bb3
 | _,_,_,.lst hq ha,r,hl=>by
   cases r
   obtain ⟨its,rv,⟨o,n,e,c,dd,dt⟩,hz⟩:=I.list (SqL.of hq)
   obtain ⟨as,z⟩:=Inv.readsAll I ha rv hl
   exact ⟨_,.list e c dt z⟩
 | _,_,_,.tup hq ha,r,hl=>by
   cases r
   obtain ⟨its,rv,⟨o,e,c,n,dt⟩,hz⟩:=I.tuple (SqT.of hq)
   obtain ⟨as,z⟩:=Inv.readsAll I ha rv hl
   exact ⟨_,.tuple e c dt z⟩
theorem Inv.readsAll (I:Inv X pins σ H s): ∀{xs:List V} {ds:List ba9} {us:List Value},RpAll X.K H xs ds→Vals xs us→be1 ds=true→∃as,ReadsAll s.heap us ds as
 | _,_,_,.nil,.nil,_=>⟨[],.nil⟩
 | _,_,_,.cons a b,.cons r t,h=>by
   have h:_∧_:=bv6.mp h
   obtain ⟨as,z⟩:=Inv.reads I a r h.1
   obtain ⟨bs,y⟩:=Inv.readsAll I b t h.2
   exact ⟨_,.cons z y⟩
end
def rEqD (K:ba0) (u:Nat):R2:=fun x y H Q=>∃dx dy,Rp K H x dx∧Rp K H y dy∧dx.canLay0=true∧dy.canLay0=true∧u + min dx.depth dy.depth < cLine∧Q (.bl (bi2 dx dy)) H
theorem kz7:OpR X (bh4 .Eq) (rEqD X.K X.A.units):=by
 intro pins s σ H x y v u Q I rx ry h
 obtain ⟨dx,dy,h1,h2,l1,l2,hu,q⟩:=h
 obtain ⟨as,ra⟩:=I.reads h1 rx l1
 obtain ⟨bs,rb⟩:=I.reads h2 ry l2
 exact SeqAt.rcAt_reads ra rb l1 l2 hu _ _ _ _ ⟨.bl _,H,I,rfl,q⟩
noncomputable def eqR (h:Heap) (dx:ba9) (w:Value):Bool:= @decide (∃ d as,Reads h w d as∧d.canLay0=true∧bi2 d dx=true) (bp4 _)
theorem kua {h:Heap} {dx d:ba9} {w:Value} {as:List Addr} (r:Reads h w d as) (l:d.canLay0=true):eqR h dx w=bi2 d dx:=by
 unfold eqR
 by_cases e:bi2 d dx=true
 · rw [e]
   exact @decide_eq_true _ (bp4 _) ⟨d,as,r,l,e⟩
 · rw [b68.mpr e]
   refine @decide_eq_false _ (bp4 _) ?_
   rintro ⟨d',as',r',l',e'⟩
   rw [SeqAt.Reads.unique d' d w as' as l' r' r] at e'
   exact e e'
theorem kfr {h:Heap} {dx:ba9}: ∀{us:List Value} {ds:List ba9} {as:List Addr},ReadsAll h us ds as→be1 ds=true→us.any (eqR h dx)=ds.any fun d=>bi2 d dx
 | [],[],_,_,_=>rfl
 | u::us,d::ds,_,r,l=>by
   have l:d.canLay0=true∧be1 ds=true:=by simpa [be1] using l
   cases r with
   | cons r1 r2=>rw [cd3,cd3,kua r1 l.1,kfr r2 l.2]
 | [],_::_,_,r,_=>by cases r
 | _::_,[],_,r,_=>by cases r
theorem kfs {A:bf8} {dx:ba9} {v:Value} {as:List Addr} (rx:Reads s.heap v dx as) (lx:dx.canLay0=true) (hu:A.units + dx.depth < cLine): ∀{us:List Value} {ds:List ba9} {bs:List Addr},ReadsAll s.heap us ds bs→be1 ds=true→
 ∀u∈us,b01 A s u v (eqR s.heap dx u)
 | [],_,_,_,_,u,hm=>by cases hm
 | w::us,d::ds,_,r,l,u,hm=>by
   have l:d.canLay0=true∧be1 ds=true:=by simpa [be1] using l
   cases r with
   | cons r1 r2=>
     rcases bc7.mp hm with rfl | hm
     · rw [kua r1 l.1]
       refine SeqAt.eqAt_reads d dx A s _ _ _ _ r1 rx l.1 lx ?_
       have:min d.depth dx.depth≤dx.depth:=Nat.min_le_right _ _
       lia
     · exact kfs rx lx hu r2 l.2 u hm
 | _::_,[],_,r,_,_,_=>by cases r
def rInD (K:ba0) (u:Nat):R2:=fun x y H Q=>∃p xs ds dx,y= .ref p∧(SqL K H p xs∨SqT K H p xs)∧RpAll K H xs ds∧Rp K H x dx∧be1 ds=true∧dx.canLay0=true∧u + 1 + dx.depth < cLine∧Q (.bl (ds.any fun d=>bi2 d dx)) H
theorem kz8:OpR X (bh4 .In) (rInD X.K X.A.units):=by
 intro pins s σ H x y v u Q I rx ry h
 obtain ⟨p,xs,ds,dx,rfl,hq,ha,hx,l1,l2,hu,q⟩:=h
 cases ry
 obtain ⟨as,ra⟩:=I.reads hx rx l2
 have hu1:X.A.in1.units + dx.depth < cLine:=hu
 rcases hq with hq | hq
 · obtain ⟨its,r,pl,hz⟩:=I.list hq
   obtain ⟨bs,rb⟩:=I.readsAll ha r l1
   refine SeqAt.in_listAt (eqR s.heap dx) pl.isList (fun w hw=>kfs ra l2 hu1 rb l1 w (by simpa using hw)) ⟨.bl _,H,I,rfl,?_⟩
   rw [show its.toArray.any (eqR s.heap dx)=its.any (eqR s.heap dx) by simp,kfr rb l1]
   exact q
 · obtain ⟨its,r,pl,hz⟩:=I.tuple hq
   obtain ⟨bs,rb⟩:=I.readsAll ha r l1
   refine SeqAt.in_tupleAt (eqR s.heap dx) pl (fun w hw=>kfs ra l2 hu1 rb l1 w (by simpa using hw)) ⟨.bl _,H,I,rfl,?_⟩
   rw [show its.toArray.any (eqR s.heap dx)=its.any (eqR s.heap dx) by simp,kfr rb l1]
   exact q
theorem kee:CallR X (.builtin "isinstance") (fun xs H Q=>∃x T t b,xs=[x,.ty T]∧TyOf X.K H x t∧be7 X.K t (.type T)=some b∧Q (.bl b) H):=by
 intro pins s σ H xs us Q I r h
 obtain ⟨x,T,t,b,rfl,ty,e,q⟩:=h
 obtain ⟨u,w',rfl,r1,r2⟩:=kzx r
 cases r2
 exact kn1 I r1 ty e fun tk=>⟨.bl b,H,I.tok tk,rfl,q⟩
def tRng1 (ta:TA):TE:=fun σ H Q=>ta σ H fun vs H1=>∃j:Int,vs=[.int j]∧∀p,H1 p=none→Q (.ref p) (upd H1 p (.rng 0 j))
theorem kft {a:Expr} {ta:TA} {p pos:Pos} (hg:Gl X "range") (hm:X.mg "range"=none) (ha:PA X [a] ta) (hs:autoParam (bd5 [a] X.env=[(false,eval a X.env)]) u4._auto_1):PE X (.Call (.Name "range" p) [a] [] pos) (tRng1 ta):=by
 intro pins s σ H Q I h
 refine bo6 (kfd I hg hm boot_range (bk9 (thn (ha pos pins s σ H _ I h) fun us s1 ⟨vs,H1,I1,r1,q1⟩=> ?_) hs rfl))
 obtain ⟨j,e,q⟩:=q1
 subst e
 cases r1 with
 | cons r rr=>
   cases rr
   obtain ⟨t,rfl⟩:=r
   refine call_range_1 ⟨.ref s1.heap.objs.size,_,?_,rfl,q _ (I1.hok.fresh (bb6 _))⟩
   exact I1.laid (fun b o e=>bb0 _ e) (bb6 _) ⟨_,_,_,bd8 _ rfl⟩
noncomputable def rangeV (lo:Int) (n:Nat):List V:=(ba5 n).map fun (i:Nat)=>V.int (lo + (i:Int))
theorem kmy {P:Nat→Value→Prop}: ∀{n:Nat} {us:List Value} (f:Nat→V),us.length=n→(∀ j v,us[j]?=some v→RelV (f j) v)→Vals ((ba5 n).map f) us
 | n,us,f,hl,h=>by
   induction us generalizing n f with
   | nil=>
     have:n=0:=by simpa using hl.symm
     subst this
     exact .nil
   | cons u us ih=>
     obtain ⟨k,rfl⟩: ∃k,n=k + 1:=⟨us.length,by simpa using hl.symm⟩
     rw [List.range_succ_eq_map,bg5,bc1]
     exact .cons (h 0 u rfl) (ih k (fun j=>f (j + 1)) (by simpa using hl) fun j v e=>h (j + 1) v (by simpa using e))
theorem kc4 (hc:X.calm=true):CallR X (.type "list") (fun xs H Q=>∃p lo hi,xs=[.ref p]∧H p=some (.rng lo hi)∧(-(2 ^ 62)≤lo∧lo < 2 ^ 62∧ -(2 ^ 62)≤hi∧hi < 2 ^ 62)∧(hi - lo).toNat≤sizeLine∧∀l,H l=none→Q (.ref l) (upd H l (.lst (rangeV lo (hi - lo).toNat)))):=by
 intro pins s σ H xs us Q I r h
 obtain ⟨p,lo,hi,rfl,hp,⟨b1,b2,b3,b4⟩,hz,q⟩:=h
 obtain ⟨u,rfl,rx⟩:=kd0 r
 cases rx
 obtain ⟨t,u,v,e⟩:=(show ∃t u v,s.heap.get? p=some {cls:= .type "range",data:= .fields #[.int lo t,.int hi u,.int 1 v]} from I.hok p _ hp)
 have hn:b79 lo hi 1=(((hi - lo).toNat:Nat):Int):=by rw [rangeSize_one];split <;> lia
 refine call_list_range (n:=(hi - lo).toNat) (I.ok.hd hc) e (small_one b1 b2 b3 b4) hn (by rw [bq9] at hz;lia) fun h' tk acc' c' kp e' hit=> ?_
 refine ⟨.ref s.heap.objs.size,_,I.laid (t':=tk) kp (bb6 _) (show ObjOk X.prog X.w _ h' _ (.lst (rangeV lo (hi - lo).toNat)) from ⟨?_,acc'.toList,c',?_,?_⟩),rfl,q _ (I.hok.fresh (bb6 _))⟩
 · unfold rangeV
   rw [ba3,bg2]
   exact hz
 · refine kmy (P:=fun q_ q_=>True) (us:=acc'.toList) (fun i=>V.int (lo + (i:Int))) (by rw [bc0];exact hit.1) fun j v hj=> ?_
   obtain ⟨t',ev⟩:=hit.2 j v (by rw [← be5];exact hj)
   exact ⟨t',by rw [ev,Int.mul_one]⟩
 · simpa using e'
def rCatA:R2:=fun x y H Q=>∃a b xs ys,x= .ref a∧y= .ref b∧H a=some (.tup xs)∧H b=some (.tup ys)∧xs.length + ys.length≤sizeLine∧∀p H',Same H H'→H' p=some (.tup (xs++ys))→Q (.ref p) H'
theorem kv6 {prog:bb8} {w:World} {A:bf8} {E:Value→ba4→Prop} {s:ba4} {t b:Addr} {vs ws:List Value} {Q:Value→ba4→Prop} (ht:IsTup s.heap t vs.toArray) (hb:IsTup s.heap b ws.toArray) (hv:vs=[]) (h1:Q (.ref b) s):
 wpAny (model prog w) A (binaryOp .Add (.ref t) (.ref b)) Q E s:=by
 obtain ⟨⟨cls,dd,data,sl⟩,ho,hc,n,hd⟩:=id ht
 obtain ⟨⟨cls2,dd2,data2,sl2⟩,ho2,hc2,n2,hd2⟩:=id hb
 simp only at hc hd hc2 hd2
 subst hc hd hc2 hd2
 exact cg3 ⟨_,ho,rfl⟩ ⟨_,ho2,rfl⟩ b87 cd1 bz7 by3 (bx5 _ _)
  (tuple_addW0 t b vs.toArray ws.toArray n n2 dd dd2 sl sl2 (by simp [hv])) ⟨ho,ho2,h1⟩
theorem kv7:OpR X (binaryOp .Add) rCatA:=by
 intro pins s σ H x y v u Q I rx ry h
 obtain ⟨a,b,xs,ys,rfl,rfl,ha,hb,hz,q⟩:=h
 by_cases hx:xs=[]
 · subst hx
   cases rx
   cases ry
   obtain ⟨its,r1,p1,_⟩:=I.tuple (SqT.of (K:=X.K) ha)
   obtain ⟨its2,r2,p2,_⟩:=I.tuple (SqT.of (K:=X.K) hb)
   exact kv6 p1 p2 (r1.nil_iff.mpr rfl) ⟨.ref b,H,I,rfl,q b H (Same.refl H) hb⟩
 · refine kv2 pins s σ H _ _ v u Q I rx ry ⟨a,b,xs,ys,rfl,rfl,SqT.of ha,SqT.of hb,hx,hz,fun e=> ?_,fun q_ p hp=> ?_⟩
   · subst e
     exact q a H (Same.refl H) (by rw [be4];exact ha)
   · exact q p _ (Same.new hp) kaf
end
def Fn (P:bb8) (w:World) (K:ba0) (mg:Str→Option Value) (base:Heap) (x:Str) (lvl:Nat) (ps:List Str) (sp:Sp):Prop:=
 ∃f fd,FnOk P w K mg base CX0 lvl f fd ps sp∧mg x=some (.ref f)∧bv8 K (.ref f)=true∧Binds K fd ps []
section
variable {X:Cx} {x:Str} {lvl:Nat} {ps:List Str} {sp:Sp} {e:Expr} {es:List Expr} {t:TA} {p pos:Pos}
theorem kfj (G:Fn X.prog X.w X.K X.mg X.base x lvl ps sp) (hr:Room lvl X.A) (ha:PA X (e::es) t) (hg:autoParam (Gl X x) u4._auto_1)
 (hdb:autoParam ((x == ("__debug__":Str))=false) u2._auto_1) (he:autoParam (bd5 (e::es) X.env=(false,eval e X.env)::bd5 es X.env) u4._auto_1) (hpl:autoParam ((backTo pos (bd5 es X.env)).any (·.1)=false) u4._auto_1):
 PE X (.Call (.Name x p) (e::es) [] pos) (kzy sp [] E0 t):=by
 obtain ⟨f,fd,F,hm,hk,hb⟩:=G
 exact kvz F hr hg hm hk hb .nil pass0 ha hdb he hpl
end
theorem ka5 {k d:Nat} {A:bf8} (hr:Room k A) (h:d≤200):A.units + d < cLine:=by have:=hr.un;lia
section
variable {X:Cx}
theorem kk6 (K:ba0) (h:autoParam (X.K=K) u4._auto_1):IxR X (kz0 K):=h▸kbx
def rInK (K:ba0):R2:=fun x y H Q=>∃p xs ds dx,y= .ref p∧(SqL K H p xs∨SqT K H p xs)∧RpAll K H xs ds∧Rp K H x dx∧be1 ds=true∧dx.canLay0=true∧dx.depth≤9∧Q (.bl (ds.any fun d=>bi2 d dx)) H
theorem kub (K:ba0) (hu:X.A.units + 10 < cLine) (h:autoParam (X.K=K) u4._auto_1):OpR X (bh4 .In) (rInK K):=by
 subst h
 intro pins s σ H x y v u Q I rx ry hq
 obtain ⟨p,xs,ds,dx,e1,e2,e3,e4,e5,e6,e7,q⟩:=hq
 exact kz8 pins s σ H x y v u Q I rx ry ⟨p,xs,ds,dx,e1,e2,e3,e4,e5,e6,by lia,q⟩
def rEqK (K:ba0):R2:=fun x y H Q=>∃dx dy,Rp K H x dx∧Rp K H y dy∧dx.canLay0=true∧dy.canLay0=true∧min dx.depth dy.depth≤9∧Q (.bl (bi2 dx dy)) H
theorem kz9 (K:ba0) (hu:X.A.units + 10 < cLine) (h:autoParam (X.K=K) u4._auto_1):OpR X (bh4 .Eq) (rEqK K):=by
 subst h
 intro pins s σ H x y v u Q I rx ry hq
 obtain ⟨dx,dy,e1,e2,e3,e4,e5,q⟩:=hq
 exact kz7 pins s σ H x y v u Q I rx ry ⟨dx,dy,e1,e2,e3,e4,by lia,q⟩
theorem koc (K:ba0) (h:autoParam (X.K=K) u4._auto_1):CallR X (.builtin "len") (fun xs H Q=>∃p ys,xs=[.ref p]∧(SqL K H p ys∨SqT K H p ys)∧Q (.int ys.length) H):=h▸kb7
end
theorem kfu {α β:Type} (f:α→β): ∀(l:List α) (k:Nat),(l.map f).eraseIdx k=(l.eraseIdx k).map f
 | [],_=>rfl
 | _::_,0=>rfl
 | a::r,k + 1=>congrArg (f a:: ·) (kfu f r k)
noncomputable def kfv:HO→Prop
 | .lst _=>True
 | .dK _=>True
 | .dT _=>True
 | .set _ _=>True
 | .ext _=>True
 | _=>False
structure Ext (R H R' H':Hp):Prop where
 hh:Same H H'
 rr:Same R R'
 rh:Same R' H'
 nn: ∀b o,H b=some o→R b=none→R' b=none
 ls: ∀b o,H' b=some o→R' b=none→kfv o
structure Wd (R H:Hp):Prop where
 rh:Same R H
 ls: ∀b o,H b=some o→R b=none→kfv o
theorem Wd.all (H:Hp):Wd H H:=⟨Same.refl H,fun b o h n=>by rw [h] at n;cases n⟩
theorem Ext.wd {R H R' H':Hp} (e:Ext R H R' H'):Wd R' H':=⟨e.rh,e.ls⟩
theorem Ext.refl {R H:Hp} (w:Wd R H):Ext R H R H:=⟨Same.refl H,Same.refl R,w.rh,fun q_ q_ q_ n=>n,w.ls⟩
theorem Ext.trans {R H R1 H1 R2 H2:Hp} (a:Ext R H R1 H1) (b:Ext R1 H1 R2 H2):Ext R H R2 H2:=
 ⟨a.hh.trans b.hh,a.rr.trans b.rr,b.rh,fun c o h n=>b.nn c o (a.hh c o h) (a.nn c o h n),b.ls⟩
theorem Ext.of_same {H H':Hp} (s:Same H H'):Ext H H H' H':=⟨s,s,Same.refl _,fun b o h n=>(by rw [h] at n;cases n),(Wd.all H').ls⟩
theorem Ext.new {R H:Hp} {p:Addr} {o:HO} (w:Wd R H) (h:H p=none):Ext R H (upd R p o) (upd H p o):=by
 have hr:R p=none:=w.rh.free h
 refine ⟨Same.new h,Same.new hr,fun b u e=> ?_,fun b u e n=> ?_,fun b u e n=> ?_⟩
 · by_cases hb:b=p
   · subst hb;rw [kaf] at e ⊢;exact e
   · rw [kak hb] at e ⊢;exact w.rh b u e
 · rw [kak (kai e h)];exact n
 · by_cases hb:b=p
   · subst hb;rw [kaf] at n;cases n
   · rw [kak hb] at e n;exact w.ls b u e n
theorem Ext.newO {R H:Hp} {p:Addr} {o:HO} (w:Wd R H) (h:H p=none) (lo:kfv o):Ext R H R (upd H p o):=by
 have hr:R p=none:=w.rh.free h
 refine ⟨Same.new h,Same.refl R,fun b u e=> ?_,fun b u e n=>n,fun b u e n=> ?_⟩
 · rw [kak (kai e hr)];exact w.rh b u e
 · by_cases hb:b=p
   · subst hb;rw [kaf] at e;cases e;exact lo
   · rw [kak hb] at e;exact w.ls b u e n
theorem Wd.mut {R H:Hp} {p:Addr} {o:HO} (w:Wd R H) (hr:R p=none) (lo:kfv o):Wd R (upd H p o):=by
 refine ⟨fun b u e=> ?_,fun b u e n=> ?_⟩
 · rw [kak (kai e hr)];exact w.rh b u e
 · by_cases hb:b=p
   · subst hb;rw [kaf] at e;cases e;exact lo
   · rw [kak hb] at e;exact w.ls b u e n
set_option tactic.hygienic true in
theorem Ext.grow {R H H':Hp} (w:Wd R H) (s:Same H H'): ∃R',Ext R H R' H'∧TK H' R'∧∀b o,H' b=some o→H b=none→R' b=some o:=by
 classical
 refine ⟨fun b=>if R b=none∧H b≠none then none else H' b,⟨s,fun b o e=> ?_,fun b o e=> ?_,fun b o e n=> ?_,fun b o e n=> ?_⟩,⟨fun b xs e=> ?_,fun b o u e=> ?_⟩,fun b o e n=> ?_⟩
 · show (if R b=none∧H b≠none then none else H' b)=some o
   rw [if_neg (by rw [e];rintro ⟨z,_⟩;cases z)]
   exact s b o (w.rh b o e)
 · have e:(if R b=none∧H b≠none then none else H' b)=some o:=e
   split at e
   · cases e
   · exact e
 · show (if R b=none∧H b≠none then none else H' b)=none
   rw [if_pos ⟨n,by rw [e];intro z;cases z⟩]
 · have n:(if R b=none∧H b≠none then none else H' b)=none:=n
   split at n
   · rename_i hc
     cases q:H b with
     | none=>exact absurd q hc.2
     | some u=>
       have:=s b u q
       rw [this] at e;cases e
       exact w.ls b _ q hc.1
   · rw [e] at n;cases n
 · show (if R b=none∧H b≠none then none else H' b)=some _
   rw [if_neg]
   · exact e
   · rintro ⟨n,hc⟩
     cases q:H b with
     | none=>exact hc q
     | some u=>
       have:=s b u q
       rw [this] at e;cases e
       exact w.ls b _ q n
 · show (if R b=none∧H b≠none then none else H' b)=some _
   rw [if_neg]
   · exact e
   · rintro ⟨n,hc⟩
     cases q:H b with
     | none=>exact hc q
     | some u=>
       have:=s b u q
       rw [this] at e;cases e
       exact w.ls b _ q n
 · show (if R b=none∧H b≠none then none else H' b)=some _
   rw [if_neg (by rintro ⟨_,z⟩;exact z n)]
   exact e
abbrev Vw:=Int×List Int×List Int
noncomputable def kuc (x:List Int):Int:=reduceHash (bh6 (x.map hashInt))
noncomputable def vwH (k:Vw):Int:=reduceHash (bh6 [hashInt k.1,kuc k.2.1,kuc k.2.2])
def VwH (H:Hp) (a:Addr) (k:Vw):Prop:=∃p q,H a=some (.tup [.int k.1,.ref p,.ref q])∧H p=some (.tup (k.2.1.map V.int))∧H q=some (.tup (k.2.2.map V.int))
def DicV (l:Addr) (zs:List ((Addr×Vw)×Int)) (h:Heap):Prop:=(l == sysModules)=false∧∃o es ep,h.get? l=some o∧o.ExactDict∧o.data= .dict es ep∧Paired (fun (z:(Addr×Vw)×Int) (e:DictEntry)=>e.hash=vwH z.1.2∧e.key= .ref z.1.1∧∃t,e.val= .int z.2 t) zs es.toList
def DvR (R:Hp) (zs:List ((Addr×Vw)×Int)) (kvs:List (Vw×Int)):Prop:=kvs=zs.map (fun z=>(z.1.2,z.2))∧∀z∈zs,VwH R z.1.1 z.1.2
theorem VwH.same {R R':Hp} (s:Same R R') {a:Addr} {k:Vw} (h:VwH R a k):VwH R' a k:=by
 obtain ⟨p,q,h1,h2,h3⟩:=h
 exact ⟨p,q,s _ _ h1,s _ _ h2,s _ _ h3⟩
theorem DvR.same {R R':Hp} (s:Same R R') {zs:List ((Addr×Vw)×Int)} {kvs:List (Vw×Int)} (h:DvR R zs kvs):DvR R' zs kvs:=⟨h.1,fun z hz=>(h.2 z hz).same s⟩
inductive Dt where
 | un
 | d (x:ba9)
 | o (xs:List ba9)
 | dk (kvs:List (Key×ba9))
 | dt (kvs:List (List Key×ba9))
 | oo (xss:List (List ba9))
 | dv (kvs:List (Vw×Int))
noncomputable def Dt.own:Dt→Bool
 | .un=>false
 | .d _=>false
 | _=>true
abbrev KvR {κ:Type} (K:ba0) (R:Hp):List (κ×V)→List (κ×ba9)→Prop:=Paired fun p q=>p.1=q.1∧Rp K R p.2 q.2
theorem KvR.same {κ:Type} {K:ba0} {R R':Hp} (s:Same R R') {l:List (κ×V)} {m:List (κ×ba9)} (h:KvR K R l m):KvR K R' l m:=Paired.mapP h fun q_ q_ z=>⟨z.1,Rp.same s z.2⟩
abbrev OwnR (K:ba0) (H0 R H:Hp):List V→List (List ba9)→Prop:=Paired fun y xs=>∃b zs,y= .ref b∧H b=some (.lst zs)∧R b=none∧H0 b=none∧RpAll K R zs xs
theorem OwnR.next {K:ba0} {H0 R H R' H':Hp} {ys:List V} {xss:List (List ba9)} (h:OwnR K H0 R H ys xss) (e:Ext R H R' H'):OwnR K H0 R' H' ys xss:=
 Paired.mapP h fun _ _ ⟨b,zs,h1,h2,h3,h4,h5⟩=>⟨b,zs,h1,e.hh _ _ h2,e.nn _ _ h2 h3,h4,RpAll.same e.rr h5⟩
theorem OwnR.mem {K:ba0} {H0 R H:Hp} {b:Addr}: ∀{ys:List V} {xss:List (List ba9)},OwnR K H0 R H ys xss→V.ref b∈ys→∃zs,H b=some (.lst zs)∧R b=none∧H0 b=none
 | _,_,.nil,m=>by cases m
 | _,_,.cons ⟨b',zs,h1,h2,h3,h4,_⟩ t,m=>by
   rcases bc7.mp m with z | m
   · rw [h1] at z;cases z;exact ⟨zs,h2,h3,h4⟩
   · exact OwnR.mem t m
theorem OwnR.mut {K:ba0} {H0 R H:Hp} {p:Addr} {o:HO}: ∀{ys:List V} {xss:List (List ba9)},OwnR K H0 R H ys xss→V.ref p ∉ ys→OwnR K H0 R (upd H p o) ys xss
 | _,_,.nil,_=> .nil
 | _,_,.cons ⟨b',zs,h1,h2,h3⟩ t,m=> .cons ⟨b',zs,h1,by rw [kak (fun z=>m (by rw [← z,h1];exact bc4))];exact h2,h3⟩ (OwnR.mut t fun z=>m (bb7 _ z))
noncomputable def SlotR (K:ba0) (H0 R H:Hp):Option V→Dt→Prop
 | _,.un=>True
 | some v,.d x=>Rp K R v x
 | some v,.o xs=>∃a ys,v= .ref a∧H a=some (.lst ys)∧R a=none∧H0 a=none∧RpAll K R ys xs
 | some v,.dk kvs=>∃a ys,v= .ref a∧H a=some (.dK ys)∧R a=none∧H0 a=none∧KvR K R ys kvs
 | some v,.dt kvs=>∃a ys,v= .ref a∧H a=some (.dT ys)∧R a=none∧H0 a=none∧KvR K R ys kvs
 | some v,.dv kvs=>∃a ys,v= .ref a∧H a=some (.ext (DicV a ys))∧R a=none∧H0 a=none∧DvR R ys kvs
 | some v,.oo xss=>∃a ys,v= .ref a∧H a=some (.lst ys)∧R a=none∧H0 a=none∧OwnR K H0 R H ys xss∧ys.Nodup∧V.ref a ∉ ys
 | none,_=>False
noncomputable def Dt.has (H:Hp):Dt→Option V→Addr→Prop
 | .un,_,_=>False
 | .d _,_,_=>False
 | .oo _,x,b=>x=some (.ref b)∨∃a ys,x=some (.ref a)∧H a=some (.lst ys)∧V.ref b∈ys
 | _,x,b=>x=some (.ref b)
theorem Dt.has_ref {H:Hp} {d:Dt} {a:Addr} (h:d.own=true):d.has H (some (.ref a)) a:=by
 cases d with
 | un=>cases h
 | d _=>cases h
 | oo _=>exact .inl rfl
 | _=>rfl
theorem Dt.has_own {H:Hp} {d:Dt} {x:Option V} {b:Addr} (h:d.has H x b):d.own=true:=by
 cases d with
 | un=>cases h
 | d _=>cases h
 | _=>rfl
theorem SlotR.next {K:ba0} {H0 R H R' H':Hp} {x:Option V} {d:Dt} (h:SlotR K H0 R H x d) (e:Ext R H R' H'):SlotR K H0 R' H' x d:=by
 cases d with
 | un=>cases x <;> trivial
 | d y=>cases x with
   | none=>exact h
   | some v=>exact Rp.same e.rr h
 | o xs=>cases x with
   | none=>exact h
   | some v=>
     obtain ⟨a,ys,h1,h2,h3,h4,h5⟩:=h
     exact ⟨a,ys,h1,e.hh _ _ h2,e.nn _ _ h2 h3,h4,RpAll.same e.rr h5⟩
 | dk xs=>cases x with
   | none=>exact h
   | some v=>
     obtain ⟨a,ys,h1,h2,h3,h4,h5⟩:=h
     exact ⟨a,ys,h1,e.hh _ _ h2,e.nn _ _ h2 h3,h4,KvR.same e.rr h5⟩
 | dt xs=>cases x with
   | none=>exact h
   | some v=>
     obtain ⟨a,ys,h1,h2,h3,h4,h5⟩:=h
     exact ⟨a,ys,h1,e.hh _ _ h2,e.nn _ _ h2 h3,h4,KvR.same e.rr h5⟩
 | dv xs=>cases x with
   | none=>exact h
   | some v=>
     obtain ⟨a,ys,h1,h2,h3,h4,h5⟩:=h
     exact ⟨a,ys,h1,e.hh _ _ h2,e.nn _ _ h2 h3,h4,DvR.same e.rr h5⟩
 | oo xs=>cases x with
   | none=>exact h
   | some v=>
     obtain ⟨a,ys,h1,h2,h3,h4,h5,h6⟩:=h
     exact ⟨a,ys,h1,e.hh _ _ h2,e.nn _ _ h2 h3,h4,h5.next e,h6⟩
theorem SlotR.mut {K:ba0} {H0 R H:Hp} {p:Addr} {o:HO} {x:Option V} {d:Dt} (h:SlotR K H0 R H x d) (ne: ¬d.has H x p):SlotR K H0 R (upd H p o) x d:=by
 cases d with
 | un=>cases x <;> trivial
 | d y=>cases x <;> exact h
 | o xs=>cases x with
   | none=>exact h
   | some v=>
     obtain ⟨a,ys,h1,h2,h3⟩:=h
     subst h1
     exact ⟨a,ys,rfl,by rw [kak (fun z=>ne (by rw [z];exact rfl))];exact h2,h3⟩
 | dk xs=>cases x with
   | none=>exact h
   | some v=>
     obtain ⟨a,ys,h1,h2,h3⟩:=h
     subst h1
     exact ⟨a,ys,rfl,by rw [kak (fun z=>ne (by rw [z];exact rfl))];exact h2,h3⟩
 | dt xs=>cases x with
   | none=>exact h
   | some v=>
     obtain ⟨a,ys,h1,h2,h3⟩:=h
     subst h1
     exact ⟨a,ys,rfl,by rw [kak (fun z=>ne (by rw [z];exact rfl))];exact h2,h3⟩
 | dv xs=>cases x with
   | none=>exact h
   | some v=>
     obtain ⟨a,ys,h1,h2,h3⟩:=h
     subst h1
     exact ⟨a,ys,rfl,by rw [kak (fun z=>ne (by rw [z];exact rfl))];exact h2,h3⟩
 | oo xs=>cases x with
   | none=>exact h
   | some v=>
     obtain ⟨a,ys,h1,h2,h3,h4,h5,h6⟩:=h
     subst h1
     exact ⟨a,ys,rfl,by rw [kak (fun z=>ne (.inl (by rw [z])))];exact h2,h3,h4,h5.mut fun z=>ne (.inr ⟨a,ys,rfl,h2,z⟩),h6⟩
theorem SlotR.addr {K:ba0} {H0 R H:Hp} {x:Option V} {d:Dt} (h:SlotR K H0 R H x d) (ho:d.own=true): ∃a o,x=some (.ref a)∧H a=some o∧R a=none∧H0 a=none:=by
 cases d with
 | un=>cases ho
 | d y=>cases ho
 | o xs=>cases x with
   | none=>exact h.elim
   | some v=>obtain ⟨a,ys,rfl,h2,h3,h4,_⟩:=h;exact ⟨a,_,rfl,h2,h3,h4⟩
 | dk xs=>cases x with
   | none=>exact h.elim
   | some v=>obtain ⟨a,ys,rfl,h2,h3,h4,_⟩:=h;exact ⟨a,_,rfl,h2,h3,h4⟩
 | dt xs=>cases x with
   | none=>exact h.elim
   | some v=>obtain ⟨a,ys,rfl,h2,h3,h4,_⟩:=h;exact ⟨a,_,rfl,h2,h3,h4⟩
 | dv xs=>cases x with
   | none=>exact h.elim
   | some v=>obtain ⟨a,ys,rfl,h2,h3,h4,_⟩:=h;exact ⟨a,_,rfl,h2,h3,h4⟩
 | oo xs=>cases x with
   | none=>exact h.elim
   | some v=>obtain ⟨a,ys,rfl,h2,h3,h4,_⟩:=h;exact ⟨a,_,rfl,h2,h3,h4⟩
theorem SlotR.hasAt {K:ba0} {H0 R H:Hp} {x:Option V} {d:Dt} {b:Addr} (h:SlotR K H0 R H x d) (hb:d.has H x b): ∃o,H b=some o∧R b=none∧H0 b=none:=by
 have go:d.own=true→x=some (.ref b)→∃o,H b=some o∧R b=none∧H0 b=none:=fun ho hx=>by
  obtain ⟨a,o,e,h2,h3,h4⟩:=h.addr ho
  rw [hx] at e;cases e
  exact ⟨o,h2,h3,h4⟩
 cases d with
 | un=>cases hb
 | d y=>cases hb
 | oo xs=>
   rcases hb with hb | ⟨a,ys,rfl,h2,m⟩
   · exact go rfl hb
   · obtain ⟨a',ys',e,h2',_,_,h5,_⟩:=h
     cases e
     rw [h2] at h2';cases h2'
     obtain ⟨zs,z⟩:=h5.mem m
     exact ⟨_,z⟩
 | o xs=>exact go rfl hb
 | dk xs=>exact go rfl hb
 | dt xs=>exact go rfl hb
 | dv xs=>exact go rfl hb
theorem SlotR.hasNext {K:ba0} {H0 R H H':Hp} {x:Option V} {d:Dt} {b:Addr} (h:SlotR K H0 R H x d) (e: ∀a ys,x=some (.ref a)→H a=some (.lst ys)→H' a=some (.lst ys)) (hb:d.has H' x b):d.has H x b:=by
 cases d with
 | un=>cases hb
 | d y=>cases hb
 | oo xs=>
   rcases hb with hb | ⟨a,ys,rfl,h2,m⟩
   · exact .inl hb
   · obtain ⟨a',ys',q,h2',_⟩:=h
     cases q
     rw [e a ys' rfl h2'] at h2;cases h2
     exact .inr ⟨a,_,rfl,h2',m⟩
 | o xs=>exact hb
 | dk xs=>exact hb
 | dt xs=>exact hb
 | dv xs=>exact hb
theorem SlotR.hasMut {K:ba0} {H0 R H:Hp} {p:Addr} {o:HO} {x:Option V} {d:Dt} {b:Addr} (h:SlotR K H0 R H x d) (ne: ¬d.has H x p) (hb:d.has (upd H p o) x b):d.has H x b:=
 h.hasNext (fun a ys hx e=>by rw [kak (fun z=>ne (by rw [hx,z];exact Dt.has_ref (Dt.has_own hb)))];exact e) hb
structure Fra (He:Hp) (K:ba0) (H0 R H:Hp) (σ:St) (env:List Dt):Prop where
 at0:Same He H0
 ext:Ext H0 H0 R H
 len:σ.length=env.length
 slot: ∀(i:Nat) (d:Dt),env[i]?=some d→SlotR K H0 R H (σ[i]?).join d
 apart: ∀(i j:Nat) (di dj:Dt) (b:Addr),env[i]?=some di→env[j]?=some dj→di.has H (σ[i]?).join b→dj.has H (σ[j]?).join b→i=j
section
variable {He:Hp} {K:ba0} {H0 R H R' H':Hp} {σ:St} {env:List Dt}
theorem Fra.wd (f:Fra He K H0 R H σ env):Wd R H:=f.ext.wd
theorem Fra.next (f:Fra He K H0 R H σ env) (e:Ext R H R' H'):Fra He K H0 R' H' σ env:=⟨f.at0,f.ext.trans e,f.len,fun i d h=>(f.slot i d h).next e,fun i j di dj b hi hj bi bj=>f.apart i j di dj b hi hj ((f.slot i di hi).hasNext (fun a ys q_ z=>e.hh a _ z) bi) ((f.slot j dj hj).hasNext (fun a ys q_ z=>e.hh a _ z) bj)⟩
theorem Fra.get (f:Fra He K H0 R H σ env) {i:Nat} {d:Dt} (h:env[i]?=some d) (hu:d≠ .un): ∃v,σ[i]?=some (some v)∧SlotR K H0 R H (some v) d:=by
 have q:=f.slot i d h
 cases e:σ[i]? with
 | none=>
   rw [e] at q
   cases d <;> first | exact absurd rfl hu | exact q.elim
 | some x=>
   cases x with
   | none=>
     rw [e] at q
     cases d <;> first | exact absurd rfl hu | exact q.elim
   | some v=>rw [e] at q;exact ⟨v,rfl,q⟩
theorem Fra.data (f:Fra He K H0 R H σ env) {i:Nat} {d:ba9} (h:env[i]?=some (.d d)): ∃v,σ[i]?=some (some v)∧Rp K R v d:=f.get h (by intro z;cases z)
set_option tactic.hygienic true in
theorem Fra.set (f:Fra He K H0 R H σ env) (i:Nat) {v:V} {d:Dt} (h:SlotR K H0 R H (some v) d) (ha: ∀(b:Addr),d.has H (some v) b→∀(j:Nat) (dj:Dt),j≠i→env[j]?=some dj→¬dj.has H (σ[j]?).join b):Fra He K H0 R H (σ.set i (some v)) (env.set i d):=by
 have g: ∀k,(σ.set i (some v))[k]?=if i=k then (if i < σ.length then some (some v) else none) else σ[k]?:=fun k=>bv1 ..
 have ge: ∀k,(env.set i d)[k]?=if i=k then (if i < env.length then some d else none) else env[k]?:=fun k=>bv1 ..
 refine ⟨f.at0,f.ext,by simp [f.len],fun k x e=> ?_,fun k j dk dj a ek ej ok oj=> ?_⟩
 · rw [ge] at e
   rw [g,f.len]
   by_cases hk:i=k
   · rw [if_pos hk] at e ⊢
     split at e
     · rename_i hl
       cases e
       rw [if_pos hl];exact h
     · cases e
   · rw [if_neg hk] at e ⊢
     exact f.slot k x e
 · rw [ge] at ek ej
   rw [g,f.len] at ok oj
   by_cases hk:i=k <;> by_cases hj:i=j
   · rw [← hk,hj]
   · rw [if_pos hk] at ek ok
     rw [if_neg hj] at ej oj
     split at ek
     · rename_i hl
       cases ek
       rw [if_pos hl] at ok
       exact absurd oj (ha a ok j dj (fun z=>hj z.symm) ej)
     · cases ek
   · rw [if_neg hk] at ek ok
     rw [if_pos hj] at ej oj
     split at ej
     · rename_i hl
       cases ej
       rw [if_pos hl] at oj
       exact absurd ok (ha a oj k dk (fun z=>hk z.symm) ek)
     · cases ej
   · rw [if_neg hk] at ek ok
     rw [if_neg hj] at ej oj
     exact f.apart k j dk dj a ek ej ok oj
theorem Fra.setD (f:Fra He K H0 R H σ env) (i:Nat) {v:V} {d:ba9} (h:Rp K R v d):Fra He K H0 R H (σ.set i (some v)) (env.set i (.d d)):=f.set i h (fun q_ z=>by cases z)
theorem Fra.setN' (f:Fra He K H0 R H σ env) (e:Ext R H R' H') (i:Nat) {v:V} {d:Dt} (h:SlotR K H0 R' H' (some v) d) (hn: ∀b,d.has H' (some v) b→H b=none):Fra He K H0 R' H' (σ.set i (some v)) (env.set i d):=
 (f.next e).set i h fun b hb j dj q_ ej oj=>by
   have oj:=(f.slot j dj ej).hasNext (fun a ys q_ z=>e.hh a _ z) oj
   obtain ⟨o,e2,_⟩:=(f.slot j dj ej).hasAt oj
   rw [hn b hb] at e2
   cases e2
theorem Fra.setN (f:Fra He K H0 R H σ env) (e:Ext R H R' H') (i:Nat) {a:Addr} {d:Dt} (hn:H a=none) (h:SlotR K H0 R' H' (some (.ref a)) d) (hd:autoParam (∀ b,d.has H' (some (.ref a)) b→a=b) u7._auto_1):Fra He K H0 R' H' (σ.set i (some (.ref a))) (env.set i d):=
 f.setN' e i h fun b hb=>by rw [← hd b hb];exact hn
theorem Fra.mut' (f:Fra He K H0 R H σ env) {i:Nat} {a:Addr} {d d':Dt} {o:HO} (h:env[i]?=some d) (hs:d.has H (σ[i]?).join a) (lo:kfv o)
 (h':SlotR K H0 R (upd H a o) (σ[i]?).join d') (hn: ∀b,d'.has (upd H a o) (σ[i]?).join b→d.has H (σ[i]?).join b∨∀(j:Nat) (dj:Dt),j≠i→env[j]?=some dj→¬dj.has H (σ[j]?).join b):Fra He K H0 R (upd H a o) σ (env.set i d'):=by
 obtain ⟨u,e2,e3,e4⟩:=(f.slot i d h).hasAt hs
 have ge: ∀k,(env.set i d')[k]?=if i=k then (if i < env.length then some d' else none) else env[k]?:=fun k=>bv1 ..
 have w:=Wd.mut (o:=o) f.wd e3 lo
 have nh: ∀(k:Nat) (x:Dt),i≠k→env[k]?=some x→¬x.has H (σ[k]?).join a:=fun k x hk e z=>hk (f.apart i k d x a h e hs z)
 have two: ∀(k j:Nat) (dk dj:Dt) (b:Addr),i=k→i≠j→(if i < env.length then some d' else none)=some dk→env[j]?=some dj→dk.has (upd H a o) (σ[k]?).join b→dj.has (upd H a o) (σ[j]?).join b→False:=fun k j dk dj b hk hj ek ej ok oj=>by
  subst hk
  split at ek
  · cases ek
    have oj:=(f.slot j dj ej).hasMut (nh j dj hj ej) oj
    rcases hn b ok with ok | nb
    · exact hj (f.apart i j d dj b h ej ok oj)
    · exact nb j dj (fun z=>hj z.symm) ej oj
  · cases ek
 refine ⟨f.at0,⟨f.ext.hh.put e4,f.ext.rr,w.rh,f.ext.nn,w.ls⟩,by simp [f.len],fun k x e=> ?_,fun k j dk dj b ek ej ok oj=> ?_⟩
 · rw [ge] at e
   by_cases hk:i=k
   · subst hk
     rw [if_pos rfl] at e
     split at e
     · cases e
       exact h'
     · cases e
   · rw [if_neg hk] at e
     exact (f.slot k x e).mut (nh k x hk e)
 · rw [ge] at ek ej
   by_cases hk:i=k <;> by_cases hj:i=j
   · rw [← hk,hj]
   · rw [if_pos hk] at ek
     rw [if_neg hj] at ej
     exact (two k j dk dj b hk hj ek ej ok oj).elim
   · rw [if_neg hk] at ek
     rw [if_pos hj] at ej
     exact (two j k dj dk b hj hk ej ek oj ok).elim
   · rw [if_neg hk] at ek
     rw [if_neg hj] at ej
     exact f.apart k j dk dj b ek ej ((f.slot k dk ek).hasMut (nh k dk hk ek) ok) ((f.slot j dj ej).hasMut (nh j dj hj ej) oj)
theorem Fra.mut (f:Fra He K H0 R H σ env) {i:Nat} {a:Addr} {d d':Dt} {o:HO} (h:env[i]?=some d) (hd:d.own=true) (hs:σ[i]?=some (some (.ref a))) (lo:kfv o)
 (h':SlotR K H0 R (upd H a o) (some (.ref a)) d') (hd':autoParam (∀ b,d'.has (upd H a o) (some (.ref a)) b→a=b) u7._auto_1):Fra He K H0 R (upd H a o) σ (env.set i d'):=by
 have hj:(σ[i]?).join=some (.ref a):=by rw [hs];rfl
 refine f.mut' h (by rw [hj];exact Dt.has_ref hd) lo (by rw [hj];exact h') fun b z=> .inl ?_
 rw [hj] at z ⊢
 rw [← hd' b z]
 exact Dt.has_ref hd
theorem SlotR.grow {K:ba0} {H0 R H R':Hp} {x:Option V} {d:Dt} (h:SlotR K H0 R H x d) (s:Same R R') (hn: ∀b,d.has H x b→R' b=none):SlotR K H0 R' H x d:=by
 cases d with
 | un=>cases x <;> trivial
 | d y=>cases x with
   | none=>exact h
   | some v=>exact Rp.same s h
 | o xs=>cases x with
   | none=>exact h
   | some v=>
     obtain ⟨a,ys,rfl,h2,h3,h4,h5⟩:=h
     exact ⟨a,ys,rfl,h2,hn a rfl,h4,RpAll.same s h5⟩
 | dk xs=>cases x with
   | none=>exact h
   | some v=>
     obtain ⟨a,ys,rfl,h2,h3,h4,h5⟩:=h
     exact ⟨a,ys,rfl,h2,hn a rfl,h4,KvR.same s h5⟩
 | dt xs=>cases x with
   | none=>exact h
   | some v=>
     obtain ⟨a,ys,rfl,h2,h3,h4,h5⟩:=h
     exact ⟨a,ys,rfl,h2,hn a rfl,h4,KvR.same s h5⟩
 | dv xs=>cases x with
   | none=>exact h
   | some v=>
     obtain ⟨a,ys,rfl,h2,h3,h4,h5⟩:=h
     exact ⟨a,ys,rfl,h2,hn a rfl,h4,DvR.same s h5⟩
 | oo xs=>cases x with
   | none=>exact h
   | some v=>
     obtain ⟨a,ys,rfl,h2,h3,h4,h5,h6⟩:=h
     refine ⟨a,ys,rfl,h2,hn a (.inl rfl),h4,?_,h6⟩
     have hm: ∀b,V.ref b∈ys→R' b=none:=fun b m=>hn b (.inr ⟨a,ys,rfl,h2,m⟩)
     clear h2 h6 hn
     induction h5 with
     | nil=>exact .nil
     | cons h t ih=>
       obtain ⟨b,zs,e1,e2,e3,e4,e5⟩:=h
       exact .cons ⟨b,zs,e1,e2,hm b (by rw [e1];exact bc4),e4,RpAll.same s e5⟩ (ih fun b m=>hm b (bb7 _ m))
theorem Fra.give (f:Fra He K H0 R H σ env) {i:Nat} {d d':Dt} (h:env[i]?=some d) (hr:Same R R') (hR: ∀b o,R' b=some o→R b=some o∨d.has H (σ[i]?).join b∧H b=some o) (h':SlotR K H0 R' H (σ[i]?).join d') (hn: ∀b,d'.has H (σ[i]?).join b→d.has H (σ[i]?).join b):Fra He K H0 R' H σ (env.set i d'):=by
 have ge: ∀k,(env.set i d')[k]?=if i=k then (if i < env.length then some d' else none) else env[k]?:=fun k=>bv1 ..
 refine ⟨f.at0,⟨f.ext.hh,f.ext.rr.trans hr,fun b o e=> ?_,fun b o e n=> ?_,fun b o e n=> ?_⟩,by simp [f.len],fun k x e=> ?_,fun k j dk dj b ek ej ok oj=> ?_⟩
 · rcases hR b o e with z | z
   · exact f.ext.rh b o z
   · exact z.2
 · rw [e] at n;cases n
 · cases q:R b with
   | none=>exact f.ext.ls b o e q
   | some u=>rw [hr b u q] at n;cases n
 · rw [ge] at e
   by_cases hk:i=k
   · subst hk
     rw [if_pos rfl] at e
     split at e
     · cases e;exact h'
     · cases e
   · rw [if_neg hk] at e
     refine (f.slot k x e).grow hr fun b hb=> ?_
     cases q:R' b with
     | none=>rfl
     | some o=>
       rcases hR b o q with z | z
       · obtain ⟨_,_,z2,_⟩:=(f.slot k x e).hasAt hb
         rw [z] at z2;cases z2
       · exact absurd (f.apart i k d x b h e z.1 hb) hk
 · have old: ∀(k:Nat) (dk:Dt),(env.set i d')[k]?=some dk→dk.has H (σ[k]?).join b→∃dk0,env[k]?=some dk0∧dk0.has H (σ[k]?).join b:=fun k dk ek ok=>by
    rw [ge] at ek
    by_cases hk:i=k
    · subst hk
      rw [if_pos rfl] at ek
      split at ek
      · cases ek;exact ⟨d,h,hn b ok⟩
      · cases ek
    · rw [if_neg hk] at ek
      exact ⟨dk,ek,ok⟩
   obtain ⟨d1,e1,o1⟩:=old k dk ek ok
   obtain ⟨d2,e2,o2⟩:=old j dj ej oj
   exact f.apart k j d1 d2 b e1 e2 o1 o2
theorem Fra.frz1 (f:Fra He K H0 R H σ env) {i:Nat} {xs:List ba9} (h:env[i]?=some (.o xs)): ∃a ys,σ[i]?=some (some (.ref a))∧H a=some (.lst ys)∧R a=none∧Same R (upd R a (.lst ys))∧Fra He K H0 (upd R a (.lst ys)) H σ (env.set i (.d (.list xs))):=by
 obtain ⟨v,hs,a,ys,rfl,h2,h3,h4,h5⟩:=f.get h (by intro z;cases z)
 have hr:Same R (upd R a (.lst ys)):=Same.new h3
 have hj:(σ[i]?).join=some (.ref a):=by rw [hs];rfl
 refine ⟨a,ys,hs,h2,h3,hr,f.give h hr (fun b o e=> ?_) (by rw [hj];exact .lst kaf (RpAll.same hr h5)) (fun b z=>by cases z)⟩
 by_cases hb:b=a
 · subst hb;rw [kaf] at e;cases e;exact .inr ⟨by rw [hj];exact rfl,h2⟩
 · rw [kak hb] at e;exact .inl e
theorem Fra.frz (f:Fra He K H0 R H σ env) {i:Nat} {xs:List ba9} (h:env[i]?=some (.o xs)): ∃R',Same R R'∧Fra He K H0 R' H σ (env.set i (.d (.list xs))):=by
 obtain ⟨a,ys,_,_,_,hr,F⟩:=f.frz1 h
 exact ⟨_,hr,F⟩
end
abbrev De:=List Dt→(ba9→Prop)→Prop
abbrev Dq:=List Dt→(List ba9→Prop)→Prop
abbrev Db:=List Dt→(Bool→Prop)→Prop
section
variable (He:Hp) (K:ba0) {ι:Type} (Y:ι→Cx)
def DE (e:Expr) (t:De):Prop:=∃te:TE,(∀ i,PE (Y i) e te)∧∀{H0 R H:Hp} {σ:St} {env:List Dt} (P:ba9→Prop) (Q:VK),Fra He K H0 R H σ env→t env P→
 (∀ d v R' H',P d→Ext R H R' H'→Rp K R' v d→Q v H')→te σ H Q
def DB (e:Expr) (t:De):Prop:=∃te:TE,(∀ i,PE (Y i) e te)∧∀{H0 R H:Hp} {σ:St} {env:List Dt} (P:ba9→Prop) (Q:VK),Fra He K H0 R H σ env→t env P→
 (∀ d v R' H',P d→Ext R H R' H'→Rp K H' v d→Q v H')→te σ H Q
def DQ (e:Expr) (t:Dq):Prop:=∃te:TE,(∀ i,PE (Y i) e te)∧∀{H0 R H:Hp} {σ:St} {env:List Dt} (P:List ba9→Prop) (Q:VK),Fra He K H0 R H σ env→t env P→
 (∀ ds a ys R' H',P ds→Ext R H R' H'→(SqL K H' a ys∨SqT K H' a ys)→RpAll K R' ys ds→Q (.ref a) H')→te σ H Q
def DO (e:Expr) (t:Dq):Prop:=∃te:TE,(∀ i,PE (Y i) e te)∧∀{H0 R H:Hp} {σ:St} {env:List Dt} (P:List ba9→Prop) (Q:VK),Fra He K H0 R H σ env→t env P→
 (∀ ds a ys R' H',P ds→Ext R H R' H'→H a=none→H' a=some (.lst ys)→R' a=none→RpAll K R' ys ds→Q (.ref a) H')→te σ H Q
def DT (e:Expr) (t:Db):Prop:=∃te:TT,(∀ i,PT (Y i) e te)∧∀{H0 R H:Hp} {σ:St} {env:List Dt} (P:Bool→Prop) (Q:Bool→Hp→Prop),Fra He K H0 R H σ env→t env P→
 (∀ b R' H',P b→Ext R H R' H'→Q b H')→te σ H Q
def DW (e:Expr) (t:Db):Prop:=∃te:TT,(∀ i,PW (Y i) e te)∧∀{H0 R H:Hp} {σ:St} {env:List Dt} (P:Bool→Prop) (Q:Bool→Hp→Prop),Fra He K H0 R H σ env→t env P→
 (∀ b R' H',P b→Ext R H R' H'→Q b H')→te σ H Q
def DA (es:List Expr) (t:Dq):Prop:=∃te:TA,(∀ i,PA (Y i) es te)∧∀{H0 R H:Hp} {σ:St} {env:List Dt} (P:List ba9→Prop) (Q:List V→Hp→Prop),Fra He K H0 R H σ env→t env P→
 (∀ ds vs R' H',P ds→Ext R H R' H'→RpAll K R' vs ds→Q vs H')→te σ H Q
def Sc (v:V) (d:ba9):Prop:=∀(K:ba0) (R:Hp),Rp K R v d
def OD (f:Value→Value→Sem Value) (r:ba9→ba9→(ba9→Prop)→Prop):Prop:=∃rr:R2,(∀ i,OpR (Y i) f rr)∧∀{H:Hp} {x y:V} {dx dy:ba9} (P:ba9→Prop) (Q:VK),Rp K H x dx→Rp K H y dy→r dx dy P→
 (∀ d v,P d→Sc v d→Q v H)→rr x y H Q
end
section
variable {He:Hp} {K:ba0} {ι:Type} {Y:ι→Cx} {e a b c:Expr} {es:List Expr} {pos:Pos}
def xVar (i:Nat):De:=fun env P=>∃d,env[i]?=some (.d d)∧P d
def xC (d:ba9):De:=fun q_ P=>P d
theorem kac (i:Nat) {x:Str} (h:autoParam (∀ j,PE (Y j) (.Name x pos) (kh5 i)) u8._auto_1):DE He K Y (.Name x pos) (xVar i):=
 ⟨_,h,fun P Q f ⟨d,e,p⟩ k=>by obtain ⟨v,h1,h2⟩:=f.data e;exact ⟨v,h1,k d v _ _ p (.refl f.wd) h2⟩⟩
theorem kao {i:Int} {j}:DE He K Y (.Constant (.int i) j pos) (xC (.int i)):=⟨_,fun q_=>kav,fun P Q f p k=>k _ _ _ _ p (.refl f.wd) (.int i)⟩
theorem kmz {i:Bool} {j}:DE He K Y (.Constant (.bool i) j pos) (xC (.bool i)):=⟨_,fun q_=>kzh,fun P Q f p k=>k _ _ _ _ p (.refl f.wd) (.bl i)⟩
theorem kcr {j}:DE He K Y (.Constant .none j pos) (xC .none):=⟨_,fun q_=>kzi,fun P Q f p k=>k _ _ _ _ p (.refl f.wd) .non⟩
theorem kod {x:Str} {j}:DE He K Y (.Constant (.str x) j pos) (xC (.str x)):=⟨_,fun q_=>kzj,fun P Q f p k=>k _ _ _ _ p (.refl f.wd) (.str x)⟩
theorem DE.bw {t:De} (h:DE He K Y e t):DB He K Y e t:=by
 obtain ⟨te,h1,h2⟩:=h
 exact ⟨te,h1,fun P Q f p k=>h2 P Q f p fun d v R' H' pd e r=>k d v R' H' pd e (Rp.same e.rh r)⟩
noncomputable def kv8:Dt→Option ba9
 | .d x=>some x
 | .o xs=>some (.list xs)
 | .oo xss=>some (.list (xss.map cn5))
 | _=>none
theorem OwnR.rp {K:ba0} {H0 R H H':Hp} {ys:List V} {xss:List (List ba9)} (h:OwnR K H0 R H ys xss) (s:Same R H') (e: ∀b zs,V.ref b∈ys→H b=some (.lst zs)→H' b=some (.lst zs)):RpAll K H' ys (xss.map cn5):=by
 induction h with
 | nil=>exact .nil
 | cons h t ih=>
   obtain ⟨b,zs,rfl,e2,e3,e4,e5⟩:=h
   exact .cons (.lst (e b zs bc4 e2) (RpAll.same s e5)) (ih fun b zs m=>e b zs (bb7 _ m))
def kv9 (i:Nat):De:=fun env P=>∃s d,env[i]?=some s∧kv8 s=some d∧P d
theorem kar (i:Nat) {x:Str} (h:autoParam (∀ j,PE (Y j) (.Name x pos) (kh5 i)) u8._auto_1):DB He K Y (.Name x pos) (kv9 i):=
 ⟨_,h,fun P Q f ⟨s,d,e,z,p⟩ k=>by
   cases s with
   | d x=>
     cases z
     obtain ⟨v,h1,h2⟩:=f.data e
     exact ⟨v,h1,k d v _ _ p (.refl f.wd) (Rp.same f.wd.rh h2)⟩
   | o xs=>
     cases z
     obtain ⟨v,hs,a,ys,rfl,h2,h3,h4,h5⟩:=f.get e (by intro z;cases z)
     exact ⟨_,hs,k _ _ _ _ p (.refl f.wd) (.lst h2 (RpAll.same f.wd.rh h5))⟩
   | oo xs=>
     cases z
     obtain ⟨v,hs,a,ys,rfl,h2,h3,h4,h5,_⟩:=f.get e (by intro z;cases z)
     exact ⟨_,hs,k _ _ _ _ p (.refl f.wd) (.lst h2 (h5.rp f.wd.rh fun q_ q_ q_ z=>z))⟩
   | un=>cases z
   | dk _=>cases z
   | dt _=>cases z
   | dv _=>cases z⟩
noncomputable def excK:List (ba9×ba9)→Bool
 | (.bool _,_)::_=>true
 | _=>false
theorem kg4 (ns:List Int):excK (ns.map fun n=>(ba1 n,bm9))=false:=by cases ns <;> rfl
noncomputable def kud:ba9→Option (List ba9)
 | .list xs=>some xs
 | .tuple xs=>some xs
 | .dict kvs=>if excK kvs=true then none else some (kvs.map (·.1))
 | _=>none
noncomputable def seqS:Dt→Option (List ba9)
 | .d x=>kud x
 | .o xs=>some xs
 | _=>none
theorem kg5 {H:Hp} {v:V} {d:ba9} {l:List ba9} (r:Rp K H v d) (h:kud d=some l): ∃a ys,v= .ref a∧(SqL K H a ys∨SqT K H a ys)∧RpAll K H ys l:=by
 cases r with
 | lst h1 h2=>cases h;exact ⟨_,_,rfl,.inl (SqL.of h1),h2⟩
 | @scr a ns h1=>
   have h:(if excK (ns.map fun n=>(ba1 n,bm9))=true then none else some ((ns.map fun n=>(ba1 n,bm9)).map (·.1)))=some l:=h
   rw [kg4,if_neg bb3,bc1] at h
   cases h
   exact ⟨_,_,rfl,.inl h1,RpAll.ints ns⟩
 | tup h1 h2=>cases h;exact ⟨_,_,rfl,.inr (SqT.of h1),h2⟩
 | non=>cases h
 | bl _=>cases h
 | int _=>cases h
 | str _=>cases h
 | any=>cases h
 | xc _=>cases h
theorem Same.seqT {H H':Hp} {a:Addr} {xs:List V} (e:Same H H') (h:SqT K H a xs):SqT K H' a xs:=(Same.tk e).sqT h
theorem Same.sq {H H':Hp} {a:Addr} {xs:List V} (e:Same H H') (h:SqL K H a xs∨SqT K H a xs):SqL K H' a xs∨SqT K H' a xs:=h.imp e.seq e.seqT
def xSeq (t:De):Dq:=fun env P=>t env fun d=>∃l,kud d=some l∧P l
theorem DE.q {t:De} (h:DE He K Y e t):DQ He K Y e (xSeq t):=by
 obtain ⟨te,h1,h2⟩:=h
 refine ⟨te,h1,fun P Q f p k=>h2 _ Q f p fun d v R' H' ⟨l,hl,pl⟩ e r=> ?_⟩
 obtain ⟨a,ys,rfl,h3,h4⟩:=kg5 r hl
 exact k l a ys R' H' pl e (e.rh.sq h3) h4
def kwa (i:Nat):Dq:=fun env P=>∃s l,env[i]?=some s∧seqS s=some l∧P l
theorem kap (i:Nat) {x:Str} (h:autoParam (∀ j,PE (Y j) (.Name x pos) (kh5 i)) u8._auto_1):DQ He K Y (.Name x pos) (kwa i):=
 ⟨_,h,fun P Q f ⟨s,l,e,z,p⟩ k=>by
   cases s with
   | d x=>
     obtain ⟨v,h1,h2⟩:=f.data e
     obtain ⟨a,ys,rfl,h3,h4⟩:=kg5 h2 z
     exact ⟨_,h1,k l a ys _ _ p (.refl f.wd) (f.wd.rh.sq h3) h4⟩
   | o xs=>
     cases z
     obtain ⟨v,hs,a,ys,rfl,h2,h3,h4,h5⟩:=f.get e (by intro z;cases z)
     exact ⟨_,hs,k _ a ys _ _ p (.refl f.wd) (.inl (SqL.of h2)) h5⟩
   | un=>cases z
   | oo _=>cases z
   | dk _=>cases z
   | dt _=>cases z
   | dv _=>cases z⟩
def xLst (t:Dq):De:=fun env P=>t env fun l=>P (.list l)
theorem DO.ew {t:Dq} (h:DO He K Y e t):DE He K Y e (xLst t):=by
 obtain ⟨te,h1,h2⟩:=h
 refine ⟨te,h1,fun P Q f p k=>h2 _ Q f p fun ds a ys R' H' pl e hn ha hr r=> ?_⟩
 have s:=Same.new (H:=R') (p:=a) (o:= .lst ys) hr
 refine k _ _ (upd R' a (.lst ys)) H' pl ⟨e.hh,e.rr.trans s,fun b o z=> ?_,fun b o z n=> ?_,fun b o z n=> ?_⟩ (.lst kaf (RpAll.same s r))
 · by_cases hb:b=a
   · subst hb;rw [kaf] at z;cases z;exact ha
   · rw [kak hb] at z;exact e.rh b o z
 · rw [kak (kai z hn)];exact e.nn b o z n
 · by_cases hb:b=a
   · subst hb;rw [kaf] at n;cases n
   · rw [kak hb] at n;exact e.ls b o z n
theorem DO.bw {t:Dq} (h:DO He K Y e t):DB He K Y e (xLst t):=h.ew.bw
def x2 (r:ba9→ba9→(ba9→Prop)→Prop) (ta tb:De):De:=fun env P=>ta env fun x=>tb env fun y=>r x y P
theorem koe {f:Value→Value→Sem Value} {r:ba9→ba9→(ba9→Prop)→Prop} {ta tb:De} {te te':TE} {rr:R2}
 (ha: ∀{H0 R H:Hp} {σ:St} {env:List Dt} (P:ba9→Prop) (Q:VK),Fra He K H0 R H σ env→ta env P→(∀ d v R' H',P d→Ext R H R' H'→Rp K H' v d→Q v H')→te σ H Q)
 (hb: ∀{H0 R H:Hp} {σ:St} {env:List Dt} (P:ba9→Prop) (Q:VK),Fra He K H0 R H σ env→tb env P→(∀ d v R' H',P d→Ext R H R' H'→Rp K H' v d→Q v H')→te' σ H Q)
 (ho: ∀{H:Hp} {x y:V} {dx dy:ba9} (P:ba9→Prop) (Q:VK),Rp K H x dx→Rp K H y dy→r dx dy P→(∀ d v,P d→Sc v d→Q v H)→rr x y H Q)
 {H0 R H:Hp} {σ:St} {env:List Dt} (P:ba9→Prop) (Q:VK) (F:Fra He K H0 R H σ env) (p:x2 r ta tb env P) (k: ∀d v R' H',P d→Ext R H R' H'→Rp K R' v d→Q v H'):tOp rr te te' σ H Q:=by
 refine ha _ _ F p fun d v R1 H1 p1 e1 r1=> ?_
 refine hb _ _ (F.next e1) p1 fun d2 v2 R2 H2 p2 e2 r2=> ?_
 exact ho P _ (Rp.same e2.hh r1) r2 p2 fun d3 v3 p3 s3=>k d3 v3 R2 H2 p3 (e1.trans e2) (s3 K R2)
theorem kcx {op:Operator} {r:ba9→ba9→(ba9→Prop)→Prop} {ta tb:De} (o:OD K Y (binaryOp op) r) (ha:DB He K Y a ta) (hb:DB He K Y b tb):DE He K Y (.BinOp a op b pos) (x2 r ta tb):=by
 obtain ⟨te,h1,h2⟩:=ha
 obtain ⟨te',h3,h4⟩:=hb
 obtain ⟨rr,h5,h6⟩:=o
 exact ⟨_,fun i=>ka1 (h5 i) (h1 i) (h3 i),fun P Q F p k=>koe (f:=binaryOp op) h2 h4 h6 P Q F p k⟩
theorem kof {op:CmpOp} {r:ba9→ba9→(ba9→Prop)→Prop} {ta tb:De} (o:OD K Y (bh4 op) r) (ha:DB He K Y a ta) (hb:DB He K Y b tb) (hm:autoParam (behindInMarks op b=false) u9._auto_1):DE He K Y (.Compare a [op] [b] pos) (x2 r ta tb):=by
 obtain ⟨te,h1,h2⟩:=ha
 obtain ⟨te',h3,h4⟩:=hb
 obtain ⟨rr,h5,h6⟩:=o
 exact ⟨_,fun i=>keu (h5 i) (h1 i) (h3 i) hm,fun P Q F p k=>koe (f:=bh4 op) h2 h4 h6 P Q F p k⟩
def xB (t:De):Db:=fun env P=>t env fun d=>∃b,d= .bool b∧P b
theorem kbc {op:CmpOp} {r:ba9→ba9→(ba9→Prop)→Prop} {ta tb:De} (o:OD K Y (bh4 op) r) (ha:DB He K Y a ta) (hb:DB He K Y b tb) (hm:autoParam (behindInMarks op b=false) u9._auto_1):DT He K Y (.Compare a [op] [b] pos) (xB (x2 r ta tb)):=by
 obtain ⟨te,h1,h2⟩:=ha
 obtain ⟨te',h3,h4⟩:=hb
 obtain ⟨rr,h5,h6⟩:=o
 refine ⟨_,fun i=>kdh (h5 i) (h1 i) (h3 i) hm,fun P Q F p k=>koe (f:=bh4 op) h2 h4 h6 _ _ F p fun d v R' H' ⟨b,eb,pb⟩ e r=> ?_⟩
 subst eb
 exact ⟨b,r.bl_inv,k b R' H' pb e⟩
def kk7 (r r':ba9→ba9→(ba9→Prop)→Prop) (ta tb tc:De):De:=fun env P=>ta env fun x=>tb env fun y=>r x y fun z=>∃k,z= .bool k∧if k=true then tc env fun w=>r' y w P else P (.bool false)
theorem km0 {r r':ba9→ba9→(ba9→Prop)→Prop} {ta tb tc:De} {te te' te'':TE} {rr rr':R2}
 (ha: ∀{H0 R H:Hp} {σ:St} {env:List Dt} (P:ba9→Prop) (Q:VK),Fra He K H0 R H σ env→ta env P→(∀ d v R' H',P d→Ext R H R' H'→Rp K H' v d→Q v H')→te σ H Q)
 (hb: ∀{H0 R H:Hp} {σ:St} {env:List Dt} (P:ba9→Prop) (Q:VK),Fra He K H0 R H σ env→tb env P→(∀ d v R' H',P d→Ext R H R' H'→Rp K H' v d→Q v H')→te' σ H Q)
 (hc: ∀{H0 R H:Hp} {σ:St} {env:List Dt} (P:ba9→Prop) (Q:VK),Fra He K H0 R H σ env→tc env P→(∀ d v R' H',P d→Ext R H R' H'→Rp K H' v d→Q v H')→te'' σ H Q)
 (ho: ∀{H:Hp} {x y:V} {dx dy:ba9} (P:ba9→Prop) (Q:VK),Rp K H x dx→Rp K H y dy→r dx dy P→(∀ d v,P d→Sc v d→Q v H)→rr x y H Q)
 (ho': ∀{H:Hp} {x y:V} {dx dy:ba9} (P:ba9→Prop) (Q:VK),Rp K H x dx→Rp K H y dy→r' dx dy P→(∀ d v,P d→Sc v d→Q v H)→rr' x y H Q)
 {H0 R H:Hp} {σ:St} {env:List Dt} (P:ba9→Prop) (Q:VK) (F:Fra He K H0 R H σ env) (p:kk7 r r' ta tb tc env P) (k: ∀d v R' H',P d→Ext R H R' H'→Rp K R' v d→Q v H'):kny rr rr' te te' te'' σ H Q:=by
 refine ha _ _ F p fun d v R1 H1 p1 e1 r1=> ?_
 refine hb _ _ (F.next e1) p1 fun d2 v2 R2 H2 p2 e2 r2=> ?_
 refine ho _ _ (Rp.same e2.hh r1) r2 p2 fun d3 v3 ⟨b,eb,p3⟩ s3=> ?_
 subst eb
 have ev:=(s3 K R2).bl_inv
 subst ev
 refine ⟨b,rfl,?_⟩
 cases b with
 | true=>
   rw [if_pos rfl] at p3 ⊢
   refine hc _ _ (F.next (e1.trans e2)) p3 fun d4 v4 R4 H4 p4 e4 r4=> ?_
   exact ho' P _ (Rp.same e4.hh r2) r4 p4 fun d5 v5 p5 s5=>k d5 v5 R4 H4 p5 ((e1.trans e2).trans e4) (s5 K R4)
 | false=>
   rw [if_neg bb3] at p3 ⊢
   exact k _ _ R2 H2 p3 (e1.trans e2) (.bl false)
theorem kr5 {op op':CmpOp} {r r':ba9→ba9→(ba9→Prop)→Prop} {ta tb tc:De} (o:OD K Y (bh4 op) r) (o':OD K Y (bh4 op') r') (ha:DB He K Y a ta) (hb:DB He K Y b tb) (hc:DB He K Y c tc)
 (hm:autoParam (lastMarks [op,op'] [b,c]=false) u5._auto_1):DT He K Y (.Compare a [op,op'] [b,c] pos) (xB (kk7 r r' ta tb tc)):=by
 obtain ⟨te,h1,h2⟩:=ha
 obtain ⟨te',h3,h4⟩:=hb
 obtain ⟨te'',h7,h8⟩:=hc
 obtain ⟨rr,h5,h6⟩:=o
 obtain ⟨rr',h9,h10⟩:=o'
 refine ⟨_,fun i=>kk0 (h5 i) (h9 i) (h1 i) (h3 i) (h7 i) hm,fun P Q F p k=>km0 h2 h4 h8 h6 h10 _ _ F p fun d v R' H' ⟨b,eb,pb⟩ e r=> ?_⟩
 subst eb
 exact ⟨b,r.bl_inv,k b R' H' pb e⟩
def kwb (g:Int→Int→ba9):ba9→ba9→(ba9→Prop)→Prop:=fun x y P=>∃i j,x= .int i∧y= .int j∧P (g i j)
def rdI (C:Int→Int→Prop) (g:Int→Int→ba9):ba9→ba9→(ba9→Prop)→Prop:=fun x y P=>∃i j,x= .int i∧y= .int j∧C i j∧P (g i j)
theorem kog (i:Int):Sc (.int i) (.int i):=fun q_ q_=> .int i
theorem kue (i:Bool):Sc (.bl i) (.bool i):=fun q_ q_=> .bl i
theorem kr6 {f:Value→Value→Sem Value} {g:Int→Int→V} {gd:Int→Int→ba9} (ho: ∀i,OpR (Y i) f (rI0 g)) (hs: ∀i j,Sc (g i j) (gd i j)):OD K Y f (kwb gd):=by
 refine ⟨_,ho,fun P Q r1 r2 p k=> ?_⟩
 obtain ⟨i,j,rfl,rfl,p⟩:=p
 exact ⟨i,j,r1.int_inv,r2.int_inv,k _ _ p (hs i j)⟩
theorem od_I {f:Value→Value→Sem Value} {C:Int→Int→Prop} {g:Int→Int→V} {gd:Int→Int→ba9} (ho: ∀i,OpR (Y i) f (rI C g)) (hs: ∀i j,Sc (g i j) (gd i j)):OD K Y f (rdI C gd):=by
 refine ⟨_,ho,fun P Q r1 r2 p k=> ?_⟩
 obtain ⟨i,j,rfl,rfl,hc,p⟩:=p
 exact ⟨i,j,r1.int_inv,r2.int_inv,hc,k _ _ p (hs i j)⟩
theorem kis:OD K Y (binaryOp .Add) (kwb fun i j=> .int (i + j)):=kr6 (fun q_=>kd4) fun q_ q_=>kog _
theorem kuf:OD K Y (binaryOp .Sub) (kwb fun i j=> .int (i - j)):=kr6 (fun q_=>kt6) fun q_ q_=>kog _
theorem k0a:OD K Y (binaryOp .Mult) (rdI CMul fun i j=> .int (i * j)):=od_I (fun q_=>kde) fun q_ q_=>kog _
theorem koh:OD K Y (binaryOp .FloorDiv) (rdI CDiv fun i j=> .int (i / j)):=od_I (fun q_=>kcd) fun q_ q_=>kog _
theorem koi:OD K Y (binaryOp .Mod) (rdI (fun q_ j=>0 < j) fun i j=> .int (i % j)):=od_I (fun q_=>kci) fun q_ q_=>kog _
theorem k0b:OD K Y (bh4 .LtE) (kwb fun i j=> .bool (decide (i≤j))):=kr6 (fun q_=>kvv) fun q_ q_=>kue _
theorem kwc:OD K Y (bh4 .Gt) (kwb fun i j=> .bool (decide (j < i))):=kr6 (fun q_=>kvw) fun q_ q_=>kue _
def okD (d:ba9):Prop:=d.canLay0=true
def kk8 (d:ba9):Prop:=d.depth≤9
def rdEq:ba9→ba9→(ba9→Prop)→Prop:=fun x y P=>okD x∧okD y∧(kk8 x∨kk8 y)∧P (.bool (bi2 x y))
def rdNe:ba9→ba9→(ba9→Prop)→Prop:=fun x y P=>okD x∧okD y∧(kk8 x∨kk8 y)∧P (.bool (!PyData.eqv x y))
theorem kg6 (hu: ∀i,(Y i).A.units + 10 < cLine) (hK:autoParam (∀ i,(Y i).K=K) u3._auto_1):OD K Y (bh4 .Eq) rdEq:=by
 refine ⟨_,fun i=>kz9 K (hu i) (hK i),fun P Q r1 r2 p k=> ?_⟩
 obtain ⟨h1,h2,h3,p⟩:=p
 exact ⟨_,_,r1,r2,h1,h2,by unfold kk8 at h3;lia,k _ _ p (kue _)⟩
theorem k0c {X:Cx} (K:ba0) (hu:X.A.units + 10 < cLine) (h:autoParam (X.K=K) u4._auto_1):OpR X (bh4 .NotEq) (fun x y H Q=>∃dx dy,Rp K H x dx∧Rp K H y dy∧dx.canLay0=true∧dy.canLay0=true∧min dx.depth dy.depth≤9∧Q (.bl (!PyData.eqv dx dy)) H):=by
 subst h
 intro pins s σ H x y v u Q I rx ry hq
 obtain ⟨dx,dy,h1,h2,l1,l2,hd,q⟩:=hq
 obtain ⟨as,ra⟩:=I.reads h1 rx l1
 obtain ⟨bs,rb⟩:=I.reads h2 ry l2
 exact SeqAt.rcNeAt_reads ra rb l1 l2 (by lia) _ _ _ _ ⟨.bl _,H,I,rfl,q⟩
theorem kiu (hu: ∀i,(Y i).A.units + 10 < cLine) (hK:autoParam (∀ i,(Y i).K=K) u3._auto_1):OD K Y (bh4 .NotEq) rdNe:=by
 refine ⟨_,fun i=>k0c K (hu i) (hK i),fun P Q r1 r2 p k=> ?_⟩
 obtain ⟨h1,h2,h3,p⟩:=p
 exact ⟨_,_,r1,r2,h1,h2,by unfold kk8 at h3;lia,k _ _ p (kue _)⟩
noncomputable def isNone:ba9→Bool
 | .none=>true
 | _=>false
theorem koj {H:Hp} {v:V} {d:ba9} (r:Rp K H v d):decide (v= .non)=isNone d:=by
 cases r <;> simp [isNone,kg3,anyD,excD]
theorem kok:OD K Y (bh4 .Is) (fun x y P=>y= .none∧P (.bool (isNone x))):=by
 refine ⟨_,fun i=>kzv,fun P Q r1 r2 p k=> ?_⟩
 obtain ⟨rfl,p⟩:=p
 cases r2
 exact ⟨rfl,by rw [koj r1];exact k _ _ p (kue _)⟩
theorem kk9:OD K Y (bh4 .IsNot) (fun x y P=>y= .none∧P (.bool (!isNone x))):=by
 refine ⟨_,fun i=>kvx,fun P Q r1 r2 p k=> ?_⟩
 obtain ⟨rfl,p⟩:=p
 cases r2
 exact ⟨rfl,by rw [koj r1];exact k _ _ p (kue _)⟩
theorem kd5 {t:De} (h:DB He K Y e t) (he:autoParam (∀ i whole,isTrue e (Y i).env whole=(do let v ← whole;standAt e.pos;holding [v] (truthy v))) u10._auto_1):DT He K Y e (xB t):=by
 obtain ⟨te,h1,h2⟩:=h
 refine ⟨_,fun i=>kkw (h1 i) (he i),fun P Q F p k=>h2 _ _ F p fun d v R' H' ⟨b,eb,pb⟩ e r=> ?_⟩
 subst eb
 exact ⟨b,r.bl_inv,k b R' H' pb e⟩
def xNot (t:Db):Db:=fun env P=>t env fun b=>P (!b)
theorem kfw {t:Db} (h:DT He K Y a t):DT He K Y (.UnaryOp .Not a pos) (xNot t):=by
 obtain ⟨te,h1,h2⟩:=h
 exact ⟨_,fun i=>kzl (h1 i),fun P Q F p k=>h2 _ _ F p fun b R' H' pb e=>k _ R' H' pb e⟩
def xAnd (t u:Db):Db:=fun env P=>t env fun b=>if b=true then u env P else P false
def xOr (t u:Db):Db:=fun env P=>t env fun b=>if b=true then P true else u env P
theorem kjx {t:Db} (h:DT He K Y a t):DW He K Y (.BoolOp .And [a] pos) t:=by
 obtain ⟨te,h1,h2⟩:=h
 exact ⟨_,fun i=>kg1 (h1 i),h2⟩
theorem kug {t:Db} (h:DT He K Y a t):DW He K Y (.BoolOp .Or [a] pos) t:=by
 obtain ⟨te,h1,h2⟩:=h
 exact ⟨_,fun i=>kt5 (h1 i),h2⟩
theorem kol {t u:Db} (h:DT He K Y a t) (h':DW He K Y (.BoolOp .And (b::es) pos) u):DW He K Y (.BoolOp .And (a::b::es) pos) (xAnd t u):=by
 obtain ⟨te,h1,h2⟩:=h
 obtain ⟨te',h3,h4⟩:=h'
 refine ⟨_,fun i=>kkx (h1 i) (h3 i),fun P Q F p k=>h2 _ _ F p fun b R' H' pb e=> ?_⟩
 cases b with
 | true=>
   rw [if_pos rfl] at pb ⊢
   exact h4 P Q (F.next e) pb fun b R2 H2 p2 e2=>k b R2 H2 p2 (e.trans e2)
 | false=>
   rw [if_neg bb3] at pb ⊢
   exact k _ R' H' pb e
theorem kwd {t u:Db} (h:DT He K Y a t) (h':DW He K Y (.BoolOp .Or (b::es) pos) u):DW He K Y (.BoolOp .Or (a::b::es) pos) (xOr t u):=by
 obtain ⟨te,h1,h2⟩:=h
 obtain ⟨te',h3,h4⟩:=h'
 refine ⟨_,fun i=>kzk (h1 i) (h3 i),fun P Q F p k=>h2 _ _ F p fun b R' H' pb e=> ?_⟩
 cases b with
 | true=>
   rw [if_pos rfl] at pb ⊢
   exact k _ R' H' pb e
 | false=>
   rw [if_neg bb3] at pb ⊢
   exact h4 P Q (F.next e) pb fun b R2 H2 p2 e2=>k b R2 H2 p2 (e.trans e2)
theorem DW.t {t:Db} (h:DW He K Y e t):DT He K Y e t:=by
 obtain ⟨te,h1,h2⟩:=h
 exact ⟨te,fun i=>(h1 i).pt,h2⟩
def kwe (ta tb:De):De:=fun env P=>ta env fun x=>∃c,x= .bool c∧if c=true then tb env P else P (.bool false)
theorem kuh {op} {t:De} (h:DE He K Y a t):DE He K Y (.BoolOp op [a] pos) t:=by
 obtain ⟨te,h1,h2⟩:=h
 exact ⟨te,fun i=>kky (h1 i),h2⟩
theorem kui {t u:De} (h:DE He K Y a t) (h':DE He K Y (.BoolOp .And (b::es) pos) u):DE He K Y (.BoolOp .And (a::b::es) pos) (kwe t u):=by
 obtain ⟨te,h1,h2⟩:=h
 obtain ⟨te',h3,h4⟩:=h'
 refine ⟨_,fun i=>knq (h1 i) (h3 i),fun P Q F p k=>h2 _ _ F p fun d v R' H' ⟨c,ec,pc⟩ e r=> ?_⟩
 subst ec
 refine ⟨c,r.bl_inv,?_⟩
 cases c with
 | true=>
   rw [if_pos rfl] at pc ⊢
   exact h4 P Q (F.next e) pc fun d v R2 H2 p2 e2=>k d v R2 H2 p2 (e.trans e2)
 | false=>
   rw [if_neg bb3] at pc ⊢
   exact k _ _ R' H' pc e (.bl false)
def xIf (t:Db) (ta tb:De):De:=fun env P=>t env fun b=>if b=true then ta env P else tb env P
theorem kwf {t:Db} {ta tb:De} (hc:DT He K Y c t) (ha:DE He K Y a ta) (hb:DE He K Y b tb):DE He K Y (.IfExp c a b pos) (xIf t ta tb):=by
 obtain ⟨te,h1,h2⟩:=hc
 obtain ⟨te',h3,h4⟩:=ha
 obtain ⟨te'',h5,h6⟩:=hb
 refine ⟨_,fun i=>krt (h1 i) (h3 i) (h5 i),fun P Q F p k=>h2 _ _ F p fun b R' H' pb e=> ?_⟩
 cases b with
 | true=>
   rw [if_pos rfl] at pb ⊢
   exact h4 P Q (F.next e) pb fun d v R2 H2 p2 e2=>k d v R2 H2 p2 (e.trans e2)
 | false=>
   rw [if_neg bb3] at pb ⊢
   exact h6 P Q (F.next e) pb fun d v R2 H2 p2 e2=>k d v R2 H2 p2 (e.trans e2)
end
theorem szl {n:Nat} (h:n≤100000):n≤sizeLine:=bj2 h (by decide)
section
variable {He:Hp} {K:ba0} {ι:Type} {Y:ι→Cx} {e a b c:Expr} {es:List Expr} {pos:Pos}
theorem RpAll.at {R:Hp} {ys:List V} {l:List ba9} {k:Int} {d:ba9} (r:RpAll K R ys l) (h:atI l k=some d): ∃v,atI ys k=some v∧Rp K R v d:=by
 unfold atI at h ⊢
 rw [r.len]
 cases q:ixN l.length k with
 | none=>rw [q] at h;cases h
 | some j=>
   rw [q] at h
   exact r.get' h
def xIx (t:Dq) (ti:De):De:=fun env P=>t env fun l=>ti env fun i=>∃k d,i= .int k∧atI l k=some d∧P d
theorem kwg {X:Cx} (K:ba0) (h:autoParam (X.K=K) u4._auto_1):IxR X (rIx K):=h▸kz2
theorem kay {t:Dq} {ti:De} (ha:DQ He K Y a t) (hb:DB He K Y b ti) (hs:autoParam (kn6 b) u10._auto_1) (hK:autoParam (∀ i,(Y i).K=K) u3._auto_1):DE He K Y (.Subscript a b pos) (xIx t ti):=by
 obtain ⟨te,h1,h2⟩:=ha
 obtain ⟨te',h3,h4⟩:=hb
 refine ⟨_,fun i=>kd1 (kwg K (hK i)) (h1 i) (h3 i) hs,fun P Q F p k=> ?_⟩
 refine h2 _ _ F p fun l p1 ys R1 H1 q1 e1 s1 r1=> ?_
 refine h4 _ _ (F.next e1) q1 fun d v R2 H2 q2 e2 r2=> ?_
 obtain ⟨j,d',rfl,hd,q2⟩:=q2
 have ev:=r2.int_inv
 subst ev
 obtain ⟨w,hw,rw'⟩:=r1.at hd
 have fin:=k d' w R2 H2 q2 (e1.trans e2) (Rp.same e2.rr rw')
 rcases e2.hh.sq s1 with z | z
 · exact .inl ⟨p1,ys,j,w,rfl,rfl,z,hw,fin⟩
 · exact .inr (.inl ⟨p1,ys,j,w,rfl,rfl,z,hw,fin⟩)
def xNil:Dq:=fun q_ P=>P []
def kwh (t:De) (u:Dq):Dq:=fun env P=>t env fun d=>u env fun ds=>P (d::ds)
theorem kah:DA He K Y [] xNil:=⟨_,fun q_=>kal,fun P Q F p k=>k [] [] _ _ p (.refl F.wd) .nil⟩
theorem kaa {t:De} {u:Dq} (h:DE He K Y e t) (h':DA He K Y es u) (hs:autoParam (∀ i,bd5 (e::es) (Y i).env=(false,eval e (Y i).env)::bd5 es (Y i).env) u3._auto_1):DA He K Y (e::es) (kwh t u):=by
 obtain ⟨te,h1,h2⟩:=h
 obtain ⟨te',h3,h4⟩:=h'
 refine ⟨_,fun i=>kad (h1 i) (h3 i) (hs i),fun P Q F p k=> ?_⟩
 refine h2 _ _ F p fun d v R1 H1 q1 e1 r1=> ?_
 refine h4 _ _ (F.next e1) q1 fun ds vs R2 H2 q2 e2 r2=> ?_
 exact k _ _ R2 H2 q2 (e1.trans e2) (.cons (Rp.same e2.rr r1) r2)
def xTup (t:Dq):De:=fun env P=>t env fun ds=>ds.length≤100000∧P (.tuple ds)
theorem kbp {t:Dq} {x1} (h:DA He K Y es t):DE He K Y (.Tuple es x1 pos) (xTup t):=by
 obtain ⟨te,h1,h2⟩:=h
 refine ⟨_,fun i=>kfe (h1 i),fun P Q F p k=>h2 _ _ F p fun ds vs R1 H1 ⟨hl,q⟩ e1 r1=>⟨szl (by rw [r1.len];exact hl),fun a ha=> ?_⟩⟩
 have e2:=Ext.new (o:= .tup vs) e1.wd ha
 exact k _ _ _ _ q (e1.trans e2) (.tup kaf (RpAll.same e2.rr r1))
def kwi (t:Dq):Dq:=fun env P=>t env fun ds=>ds.length≤100000∧P ds
theorem kgm {t:Dq} (h:DA He K Y es t):DO He K Y (.List es pos) (kwi t):=by
 obtain ⟨te,h1,h2⟩:=h
 refine ⟨_,fun i=>kff (h1 i),fun P Q F p k=>h2 _ _ F p fun ds vs R1 H1 ⟨hl,q⟩ e1 r1=>⟨szl (by rw [r1.len];exact hl),fun a ha=> ?_⟩⟩
 have e2:=Ext.newO (o:= .lst vs) e1.wd ha trivial
 exact k _ _ _ _ _ q (e1.trans e2) (e1.hh.free ha) kaf (e1.wd.rh.free ha) r1
def xLen (t:Dq):De:=fun env P=>t env fun l=>P (.int (l.length:Int))
theorem kiv {t:Dq} {p:Pos} (h:DQ He K Y a t) (hm: ∀i,(Y i).mg "len"=none) (hg:autoParam (∀ i,Gl (Y i) "len") u3._auto_1) (hK:autoParam (∀ i,(Y i).K=K) u3._auto_1) (hs:autoParam (∀ i,bd5 [a] (Y i).env=[(false,eval a (Y i).env)]) u3._auto_1):
 DE He K Y (.Call (.Name "len" p) [a] [] pos) (xLen t):=by
 obtain ⟨te,h1,h2⟩:=h
 refine ⟨_,fun i=>kbe (koc K (hK i)) (hg i) (hm i) boot_len (kad (h1 i) kal (hs i)) (by decide) (by decide) (hs i),fun P Q F p k=>h2 _ _ F p fun l x ys R1 H1 q1 e1 s1 r1=> ?_⟩
 exact ⟨x,ys,rfl,s1,by rw [r1.len];exact k _ _ R1 H1 q1 e1 (.int _)⟩
theorem kg7 {X:Cx} (K:ba0) (h:autoParam (X.K=K) u4._auto_1):CallR X (.type "list") (fun xs H Q=>∃p ys,xs=[.ref p]∧(SqL K H p ys∨SqT K H p ys)∧∀l,H l=none→Q (.ref l) (upd H l (.lst ys))):=h▸kij
theorem kwj {t:Dq} {p:Pos} (h:DQ He K Y a t) (hm: ∀i,(Y i).mg "list"=none) (hg:autoParam (∀ i,Gl (Y i) "list") u3._auto_1) (hK:autoParam (∀ i,(Y i).K=K) u3._auto_1) (hs:autoParam (∀ i,bd5 [a] (Y i).env=[(false,eval a (Y i).env)]) u3._auto_1):
 DO He K Y (.Call (.Name "list" p) [a] [] pos) t:=by
 obtain ⟨te,h1,h2⟩:=h
 refine ⟨_,fun i=>kbw (kg7 K (hK i)) (hg i) (hm i) boot_list (kad (h1 i) kal (hs i)) (by decide) (by decide) (hs i),fun P Q F p k=>h2 _ _ F p fun l x ys R1 H1 q1 e1 s1 r1=> ?_⟩
 refine ⟨x,ys,rfl,s1,fun a ha=> ?_⟩
 have e2:=Ext.newO (o:= .lst ys) e1.wd ha trivial
 exact k _ _ _ _ _ q1 (e1.trans e2) (e1.hh.free ha) kaf (e1.wd.rh.free ha) r1
theorem kd6 {X:Cx} (K:ba0) (h:autoParam (X.K=K) u4._auto_1):CallR X (.type "tuple") (fun xs H Q=>∃p ys,xs=[.ref p]∧((SqL K H p ys∧∀l,H l=none→Q (.ref l) (upd H l (.tup ys)))∨(SqT K H p ys∧Q (.ref p) H))):=h▸ken
def kla (t:Dq):De:=fun env P=>t env fun l=>P (.tuple l)
theorem kcs {t:Dq} {p:Pos} (h:DO He K Y a t) (hm: ∀i,(Y i).mg "tuple"=none) (hg:autoParam (∀ i,Gl (Y i) "tuple") u3._auto_1) (hK:autoParam (∀ i,(Y i).K=K) u3._auto_1) (hs:autoParam (∀ i,bd5 [a] (Y i).env=[(false,eval a (Y i).env)]) u3._auto_1):
 DE He K Y (.Call (.Name "tuple" p) [a] [] pos) (kla t):=by
 obtain ⟨te,h1,h2⟩:=h
 refine ⟨_,fun i=>kbw (kd6 K (hK i)) (hg i) (hm i) boot_tuple (kad (h1 i) kal (hs i)) (by decide) (by decide) (hs i),fun P Q F p k=>h2 _ _ F p fun l x ys R1 H1 q1 e1 hn hx hr r1=> ?_⟩
 refine ⟨x,ys,rfl,.inl ⟨SqL.of hx,fun a ha=> ?_⟩⟩
 have e2:=Ext.new (o:= .tup ys) e1.wd ha
 exact k _ _ _ _ q1 (e1.trans e2) (.tup kaf (RpAll.same e2.rr r1))
theorem kdi {x:Str} {p p2:Pos} (i:Nat) (hm: ∀i,(Y i).mg "tuple"=none) (h:autoParam (∀ j,PE (Y j) (.Name x p2) (kh5 i)) u8._auto_1) (hg:autoParam (∀ i,Gl (Y i) "tuple") u3._auto_1) (hK:autoParam (∀ i,(Y i).K=K) u3._auto_1)
 (hs:autoParam (∀ i,bd5 [.Name x p2] (Y i).env=[(false,eval (.Name x p2) (Y i).env)]) u3._auto_1):
 DE He K Y (.Call (.Name "tuple" p) [.Name x p2] [] pos) (kla (fun env P=>∃l,(env[i]?=some (.o l)∨env[i]?=some (.d (.list l)))∧P l)):=by
 refine ⟨_,fun i=>kbw (kd6 K (hK i)) (hg i) (hm i) boot_tuple (kad (h i) kal (hs i)) (by decide) (by decide) (hs i),fun P Q F p k=> ?_⟩
 obtain ⟨l,p1 | p1,q1⟩:=p
 · obtain ⟨v,hs,a,ys,rfl,h2,h3,h4,h5⟩:=F.get p1 (by intro z;cases z)
   refine ⟨_,hs,a,ys,rfl,.inl ⟨SqL.of h2,fun a ha=> ?_⟩⟩
   have e2:=Ext.new (o:= .tup ys) F.wd ha
   exact k _ _ _ _ q1 e2 (.tup kaf (RpAll.same e2.rr h5))
 · obtain ⟨v,hs,r⟩:=F.data p1
   obtain ⟨a,ys,rfl,h2,h3⟩:=Rp.lst_inv r
   refine ⟨_,hs,a,ys,rfl,.inl ⟨SqL.of (F.wd.rh _ _ h2),fun a ha=> ?_⟩⟩
   have e2:=Ext.new (o:= .tup ys) F.wd ha
   exact k _ _ _ _ q1 e2 (.tup kaf (RpAll.same e2.rr h3))
noncomputable def kfk (lo:Int) (n:Nat):List ba9:=(ba5 n).map fun (i:Nat)=>ba1 (lo + (i:Int))
theorem RpAll.rangeV (R:Hp) (lo:Int): ∀n,RpAll K R (rangeV lo n) (kfk lo n):=by
 intro n
 unfold L2.rangeV kfk
 generalize ba5 n=l
 induction l with
 | nil=>exact .nil
 | cons x l ih=>exact .cons (.int _) ih
def kex (t:De):Dq:=fun env P=>t env fun d=>∃j:Int,d= .int j∧j≤100000∧ -(2 ^ 62)≤j∧P (kfk 0 j.toNat)
theorem kdj {t:De} {p p2:Pos} {pos2:Pos} (h:DB He K Y a t) (hm: ∀i,(Y i).mg "list"=none) (hm2: ∀i,(Y i).mg "range"=none) (hc:autoParam (∀ i,(Y i).calm=true) u3._auto_1) (hg:autoParam (∀ i,Gl (Y i) "list") u3._auto_1) (hg2:autoParam (∀ i,Gl (Y i) "range") u3._auto_1)
 (hs:autoParam (∀ i,bd5 [a] (Y i).env=[(false,eval a (Y i).env)]) u3._auto_1)
 (hs2:autoParam (∀ i,bd5 [.Call (.Name "range" p2) [a] [] pos2] (Y i).env=[(false,eval (.Call (.Name "range" p2) [a] [] pos2) (Y i).env)]) u3._auto_1):
 DO He K Y (.Call (.Name "list" p) [.Call (.Name "range" p2) [a] [] pos2] [] pos) (kex t):=by
 obtain ⟨te,h1,h2⟩:=h
 refine ⟨_,fun i=>kbw (kc4 (hc i)) (hg i) (hm i) boot_list (kad (kft (hg2 i) (hm2 i) (kad (h1 i) kal (hs i)) (hs i)) kal (hs2 i)) (by decide) (by decide) (hs2 i),fun P Q F p k=>h2 _ _ F p fun d v R1 H1 q1 e1 r1=> ?_⟩
 obtain ⟨j,rfl,hj,hj2,q1⟩:=q1
 have ev:=r1.int_inv
 subst ev
 refine ⟨j,rfl,fun p hp=>⟨p,0,j,rfl,kaf,⟨by decide,by decide,hj2,by lia⟩,szl (by lia),fun l hl=> ?_⟩⟩
 have e2:=Ext.new (o:= .rng 0 j) e1.wd hp
 have e3:=Ext.newO (o:= .lst (rangeV 0 (j - 0).toNat)) e2.wd hl trivial
 have ee:=e1.trans (e2.trans e3)
 refine k _ _ _ _ _ q1 ee ((e1.trans e2).hh.free hl) kaf (e2.wd.rh.free hl) ?_
 rw [cg6]
 exact RpAll.rangeV _ 0 _
noncomputable def tyD:ba9→Value
 | .none=> .type "NoneType"
 | .bool _=> .type "bool"
 | .int _=> .type "int"
 | .str _=> .type "str"
 | .list _=> .type "list"
 | .tuple _=> .type "tuple"
 | .dict _=> .type "dict"
noncomputable def kuj:ba9→Bool
 | .dict _=>false
 | _=>true
theorem TyOf.of {H:Hp} {v:V} {d:ba9} (r:Rp K H v d) (h:kuj d=true):TyOf K H v (tyD d):=by
 cases r with
 | non=>exact .non
 | bl b=>exact .bl b
 | int i=>exact .int i
 | str x=>exact .str x
 | lst h1 _=>exact .lst h1
 | tup h1 _=>exact .tup h1
 | scr h1=>cases h
 | any=>cases h
 | xc _=>cases h
def xIsi (K:ba0) (T:String) (t:De):De:=fun env P=>t env fun d=>∃b,kuj d=true∧be7 K (tyD d) (.type T)=some b∧P (.bool b)
theorem kiw {X:Cx} (K:ba0) (h:autoParam (X.K=K) u4._auto_1):CallR X (.builtin "isinstance") (fun xs H Q=>∃x T t b,xs=[x,.ty T]∧TyOf K H x t∧be7 K t (.type T)=some b∧Q (.bl b) H):=h▸kee
theorem kwk:bootBuiltins "isinstance"=some (.builtin "isinstance"):=by decide +kernel
theorem k0d {t:De} {p p2:Pos} {x:Str} {T:String} (h:DB He K Y a t) (hT:bootBuiltins x=some (.type T)) (hmT: ∀i,(Y i).mg x=none) (hm: ∀i,(Y i).mg "isinstance"=none) (hxn:autoParam (x≠"__name__") u2._auto_1) (hxd:autoParam ((x == ("__debug__":Str))=false) u2._auto_1) (hgT:autoParam (∀ i,Gl (Y i) x) u3._auto_1) (hg:autoParam (∀ i,Gl (Y i) "isinstance") u3._auto_1)
 (hK:autoParam (∀ i,(Y i).K=K) u3._auto_1) (hs:autoParam (∀ i,bd5 [a,.Name x p2] (Y i).env=(false,eval a (Y i).env)::bd5 [.Name x p2] (Y i).env) u3._auto_1) (hs2:autoParam (∀ i,bd5 [.Name x p2] (Y i).env=[(false,eval (.Name x p2) (Y i).env)]) u3._auto_1)
 (hpl:autoParam (∀ i,(backTo pos (bd5 [.Name x p2] (Y i).env)).any (·.1)=false) u3._auto_1):
 DE He K Y (.Call (.Name "isinstance" p) [a,.Name x p2] [] pos) (xIsi K T t):=by
 obtain ⟨te,h1,h2⟩:=h
 refine ⟨_,fun i=>kbe (kiw K (hK i)) (hg i) (hm i) kwk (kad (h1 i) (kad (kjs (v:= .ty T) (hgT i) (hmT i) hT rfl hxn hxd) kal (hs2 i)) (hs i)) (by decide) (by decide) (hs i) (hpl i),fun P Q F p k=>h2 _ _ F p fun d v R1 H1 q1 e1 r1=> ?_⟩
 obtain ⟨b,hn,hb,q1⟩:=q1
 exact ⟨v,T,_,b,rfl,TyOf.of r1 hn,hb,k _ _ R1 H1 q1 e1 (.bl b)⟩
def xCat (t u:Dq):Dq:=fun env P=>t env fun xs=>u env fun ys=>xs.length + ys.length≤100000∧P (xs++ys)
def DL (He:Hp) (K:ba0) {ι:Type} (Y:ι→Cx) (e:Expr) (t:Dq):Prop:=∃te:TE,(∀ i,PE (Y i) e te)∧∀{H0 R H:Hp} {σ:St} {env:List Dt} (P:List ba9→Prop) (Q:VK),Fra He K H0 R H σ env→t env P→
 (∀ ds a ys R' H',P ds→Ext R H R' H'→H' a=some (.lst ys)→RpAll K R' ys ds→Q (.ref a) H')→te σ H Q
theorem DO.l {t:Dq} (h:DO He K Y e t):DL He K Y e t:=by
 obtain ⟨te,h1,h2⟩:=h
 exact ⟨te,h1,fun P Q f p k=>h2 P Q f p fun ds a ys R' H' pl e hn ha hr r=>k ds a ys R' H' pl e ha r⟩
def xL (t:De):Dq:=fun env P=>t env fun d=>∃l,d= .list l∧P l
theorem DE.l {t:De} (h:DE He K Y e t):DL He K Y e (xL t):=by
 obtain ⟨te,h1,h2⟩:=h
 refine ⟨te,h1,fun P Q f p k=>h2 _ Q f p fun d v R' H' ⟨l,hl,pl⟩ e r=> ?_⟩
 subst hl
 obtain ⟨a,ys,rfl,h3,h4⟩:=Rp.lst_inv r
 exact k l a ys R' H' pl e (e.rh _ _ h3) h4
def kwl (i:Nat):Dq:=fun env P=>∃l,(env[i]?=some (.o l)∨env[i]?=some (.d (.list l)))∧P l
theorem kix (i:Nat) {x:Str} (h:autoParam (∀ j,PE (Y j) (.Name x pos) (kh5 i)) u8._auto_1):DL He K Y (.Name x pos) (kwl i):=
 ⟨_,h,fun P Q F ⟨l,p1,p⟩ k=>by
   rcases p1 with p1 | p1
   · obtain ⟨v,hs,a,ys,rfl,h2,h3,h4,h5⟩:=F.get p1 (by intro z;cases z)
     exact ⟨_,hs,k _ _ _ _ _ p (.refl F.wd) h2 h5⟩
   · obtain ⟨v,hs,r⟩:=F.data p1
     obtain ⟨a,ys,rfl,h2,h3⟩:=Rp.lst_inv r
     exact ⟨_,hs,k _ _ _ _ _ p (.refl F.wd) (F.wd.rh _ _ h2) h3⟩⟩
theorem k0e {t u:Dq} (h:DL He K Y a t) (h':DL He K Y b u):DO He K Y (.BinOp a .Add b pos) (xCat t u):=by
 obtain ⟨te,h1,h2⟩:=h
 obtain ⟨te',h3,h4⟩:=h'
 refine ⟨_,fun i=>ka1 kz5 (h1 i) (h3 i),fun P Q F p k=> ?_⟩
 refine h2 _ _ F p fun l a ys R1 H1 q1 e1 s1 r1=> ?_
 refine h4 _ _ (F.next e1) q1 fun l2 a2 ys2 R2 H2 ⟨hz,q2⟩ e2 s2 r2=> ?_
 refine ⟨a,a2,ys,ys2,rfl,rfl,e2.hh _ _ s1,s2,szl (by rw [r1.len,r2.len];exact hz),fun p hp=> ?_⟩
 have e3:=Ext.newO (o:= .lst (ys++ys2)) e2.wd hp trivial
 exact k _ _ _ _ _ q2 ((e1.trans e2).trans e3) ((e1.trans e2).hh.free hp) kaf (e2.wd.rh.free hp) (RpAll.append (RpAll.same e2.rr r1) r2)
def xRep (t:Dq) (u:De):Dq:=fun env P=>t env fun xs=>u env fun d=>∃k:Int,d= .int k∧ -(2 ^ 63)≤k∧xs.length * k.toNat≤100000∧k≤100000∧P (bf9 k.toNat xs).flatten
theorem RpAll.rep {R:Hp} {ys:List V} {l:List ba9} (r:RpAll K R ys l): ∀n,RpAll K R (bf9 n ys).flatten (bf9 n l).flatten
 | 0=> .nil
 | n + 1=>by
   rw [bk2,bk2,bi1,bi1]
   exact RpAll.append r (RpAll.rep r n)
theorem k0f {t:Dq} {u:De} (h:DL He K Y a t) (h':DB He K Y b u):DO He K Y (.BinOp a .Mult b pos) (xRep t u):=by
 obtain ⟨te,h1,h2⟩:=h
 obtain ⟨te',h3,h4⟩:=h'
 refine ⟨_,fun i=>ka1 kz6 (h1 i) (h3 i),fun P Q F p k=> ?_⟩
 refine h2 _ _ F p fun l a ys R1 H1 q1 e1 s1 r1=> ?_
 refine h4 _ _ (F.next e1) q1 fun d v R2 H2 ⟨j,hj,hz0,hz,hz1,q2⟩ e2 r2=> ?_
 subst hj
 have ev:=r2.int_inv
 subst ev
 refine ⟨a,j,ys,rfl,rfl,e2.hh _ _ s1,hz0,by lia,szl (by rw [r1.len];exact hz),fun p hp=> ?_⟩
 have e3:=Ext.newO (o:= .lst (bf9 j.toNat ys).flatten) e2.wd hp trivial
 exact k _ _ _ _ _ q2 ((e1.trans e2).trans e3) ((e1.trans e2).hh.free hp) kaf (e2.wd.rh.free hp) (RpAll.rep (RpAll.same e2.rr r1) _)
def kwm (t u:De):De:=fun env P=>t env fun x=>u env fun y=>∃xs ys,x= .tuple xs∧y= .tuple ys∧xs.length + ys.length≤100000∧P (.tuple (xs++ys))
theorem kwn {t u:De} (h:DE He K Y a t) (h':DE He K Y b u):DE He K Y (.BinOp a .Add b pos) (kwm t u):=by
 obtain ⟨te,h1,h2⟩:=h
 obtain ⟨te',h3,h4⟩:=h'
 refine ⟨_,fun i=>ka1 kv7 (h1 i) (h3 i),fun P Q F p k=> ?_⟩
 refine h2 _ _ F p fun l v R1 H1 q1 e1 r1=> ?_
 refine h4 _ _ (F.next e1) q1 fun l2 v2 R2 H2 ⟨xs,ys,hx,hy,hz,q2⟩ e2 r2=> ?_
 subst hx hy
 obtain ⟨a1,us,rfl,s1,w1⟩:=(Rp.same e2.rr r1).tup_inv
 obtain ⟨a2,us2,rfl,s2,w2⟩:=r2.tup_inv
 refine ⟨a1,a2,us,us2,rfl,rfl,e2.rh _ _ s1,e2.rh _ _ s2,szl (by rw [w1.len,w2.len];exact hz),fun p H3 s3 h3=> ?_⟩
 obtain ⟨R3,e3,tk,_⟩:=Ext.grow e2.wd s3
 exact k _ _ R3 H3 q2 ((e1.trans e2).trans e3) (.tup (tk.tup _ _ h3) (RpAll.append (RpAll.same e3.rr w1) (RpAll.same e3.rr w2)))
end
def spG (K:ba0) (P:List ba9→(Dt→Prop)→Prop):Sp:=fun vs H Q q_=>∃ds RS,RpAll K H vs ds∧P ds RS∧∀dt v R' H',RS dt→Ext H H R' H'→SlotR K H R' H' (some v) dt→Q v H'
theorem ObjOk.obj {P:bb8} {w:World} {H:Hp} {h:Heap} {a:Addr} {o:HO} (x:ObjOk P w H h a o) (l:kfv o): ∃ob,h.get? a=some ob:=by
 cases o with
 | lst xs=>obtain ⟨_,_,_,_,e⟩:=x;exact ⟨_,e⟩
 | dK kvs=>obtain ⟨_,_,_,_,o,_,_,e,_⟩:=x;exact ⟨_,e⟩
 | dT kvs=>obtain ⟨_,_,_,_,o,_,_,e,_⟩:=x;exact ⟨_,e⟩
 | set S n=>obtain ⟨o,_,_,_,e,_⟩:=x;exact ⟨_,e⟩
 | ext φ=>exact x.2.1
 | _=>exact l.elim
theorem ObjOk.stayL {P:bb8} {w:World} {H H':Hp} {h h':Heap} {a:Addr} {o:HO} (x:ObjOk P w H h a o) (l:kfv o) (k: ∀u,h.get? a=some u→h'.get? a=some u) (ht: ∀b xs,H b=some (.tup xs)→H' b=some (.tup xs)):ObjOk P w H' h' a o:=by
 cases o with
 | lst xs=>obtain ⟨z,its,n,r,e⟩:=x;exact ⟨z,its,n,r,k _ e⟩
 | dK kvs=>obtain ⟨z,y,vs,r,ob,es,ep,e,c⟩:=x;exact ⟨z,y,vs,r,ob,es,ep,k _ e,c⟩
 | dT kvs=>
   obtain ⟨z,y,xs,r,ob,es,ep,e,c⟩:=x
   exact ⟨z,y,xs,Paired.mapP r fun p q z=>⟨z.1,ht _ _ z.2.1,z.2.2⟩,ob,es,ep,k _ e,c⟩
 | set S n=>obtain ⟨ob,es,ep,t,e,c⟩:=x;exact ⟨ob,es,ep,t,k _ e,c⟩
 | ext φ=>obtain ⟨p,⟨o,e⟩,st⟩:=x;exact ⟨st _ _ p fun o q=>k _ q,⟨o,k _ e⟩,st⟩
 | _=>exact l.elim
theorem Wd.back {R H:Hp} {b:Addr} {o:HO} (w:Wd R H) (h:H b=some o) (n: ¬kfv o):R b=some o:=by
 cases q:R b with
 | none=>exact absurd (w.ls b o h q) n
 | some u=>
   have:=w.rh b u q
   rw [h] at this
   exact this.symm
section
variable {X:Cx} {k:Nat} {f:Addr} {fd:bf0} {ps:List Str} {x:Str} {p pos:Pos} {e:Expr} {es:List Expr} {t:TA} {He:Hp} {K:ba0} {P:List ba9→(Dt→Prop)→Prop}
set_option tactic.hygienic true in
theorem kwo {pins:List (Addr×Obj)} {σ:St} {R H:Hp} {s:ba4} {Q:VK} {us:List Value} {vs:List V} {ds:List ba9} {RS:Dt→Prop} (hK:X.K=K) (F:FnOk X.prog X.w X.K X.mg X.base CX0 k f fd ps (spG K P)) (hr:Room k X.A) (hb:Binds X.K fd ps [])
 (I:Inv X pins σ H s) (r:Vals vs us) (w:Wd R H) (hv:RpAll K R vs ds) (hp:P ds RS) (kk: ∀dt v R' H',RS dt→Ext R H R' H'→SlotR K H R' H' (some v) dt→Q v H'):
 wpAny (model X.prog X.w) X.A (call (.ref f) us) (EP X pins σ Q) X.xe s:=by
 have hsp:spG K P vs R (fun v H1=>∃dt R',RS dt∧Ext R R R' H1∧SlotR K R R' H1 (some v) dt) E0:=⟨ds,RS,hv,hp,fun dt v R' H' a b c=>⟨dt,R',a,b,c⟩⟩
 have hl:us.length=ps.length:=by rw [← r.length];exact F.len _ _ _ _ hsp
 have e0:Env0 X.prog X.w X.K X.mg X.base X.A X.stack s R:=by
  have e:=I.env0
  refine ⟨e.frames,e.mod,fun b o z=>⟨(e.bs b o z).1,w.rh.free (e.bs b o z).2⟩,e.bsz,e.funs,fun b hb=>w.rh.free (e.frf b hb),fun a o z=> ?_,e.bare⟩
  exact (e.hok a o (w.rh a o z)).stay (fun b u q_ q=>q) (fun b q=>w.back q fun z=>z) fun b xs q=>w.back q fun z=>z
 refine ck7 (bx4 (F.run X.A X.stack s R ⟨us,[]⟩ us vs _ E0 hr e0 (by have:=hb s us I.kIn (by rw [be4];exact hl);rw [be4] at this;exact this) r hsp) fun r s' hq=> ?_)
 cases r with
 | error e=>exact hq.elim
 | ok fl=>
   cases fl with
   | next=>exact bp9 hq
   | brk=>exact bp9 hq
   | cont=>exact bp9 hq
   | ret u=>
     obtain ⟨v,H1,os,bare,un,hok,rv,dt,R',hRS,ext,slot⟩:=hq
     have gone: ∀b o,H b=some o→R b=none→H1 b=none:=fun b o z n=>by
      obtain ⟨ob,eb⟩:=(I.hok b o z).obj (w.ls b o z n)
      exact un.free b ob eb n (by simp)
     classical
     have eA: ∀b,R b=none→H b≠none→(fun b=>if R b=none∧H b≠none then H b else H1 b) b=H b:=fun b n z=>if_pos ⟨n,z⟩
     have eB: ∀b o,H1 b=some o→(fun b=>if R b=none∧H b≠none then H b else H1 b) b=some o:=fun b o z=>by
      show (if R b=none∧H b≠none then H b else H1 b)=some o
      rw [if_neg]
      · exact z
      · rintro ⟨n,hne⟩
        cases q:H b with
        | none=>exact hne q
        | some u=>rw [gone b u q n] at z;cases z
     have eN: ∀b,H b=none→H1 b=none→(fun b=>if R b=none∧H b≠none then H b else H1 b) b=none:=fun b n z=>by
      show (if R b=none∧H b≠none then H b else H1 b)=none
      rw [if_neg (by rintro ⟨_,z⟩;exact z n)]
      exact z
     have eX: ∀b o,(fun b=>if R b=none∧H b≠none then H b else H1 b) b=some o→(R b=none∧H b=some o)∨H1 b=some o:=fun b o z=>by
      have z:(if R b=none∧H b≠none then H b else H1 b)=some o:=z
      split at z
      · rename_i hc
        exact .inl ⟨hc.1,z⟩
      · exact .inr z
     generalize (fun b=>if R b=none∧H b≠none then H b else H1 b)=H2 at eA eB eN eX
     have nr: ∀b,H b=none→R b=none:=fun b n=>w.rh.free n
     have tup2: ∀b xs,H b=some (.tup xs)→H2 b=some (.tup xs):=fun b xs z=>eB b _ (un.tups b xs (w.back z fun z=>z))
     have ex2:Ext R H R' H2:=by
      refine ⟨fun b o z=> ?_,ext.rr,fun b o z=>eB b o (ext.rh b o z),fun b o z n=> ?_,fun b o z n=> ?_⟩
      · cases q:R b with
        | none=>rw [eA b q (by rw [z];intro y;cases y)];exact z
        | some u=>
          have:=w.rh b u q
          rw [z] at this;cases this
          exact eB b o (ext.hh b o q)
      · cases q:R' b with
        | none=>rfl
        | some u=>have:=ext.rh b u q;rw [gone b o z n] at this;cases this
      · rcases eX b o z with ⟨n2,z2⟩ | z2
        · exact w.ls b o z2 n2
        · exact ext.ls b o z2 n
     have slot2:SlotR K H R' H2 (some v) dt:=by
      have own: ∀a o,H1 a=some o→R a=none→H a=none:=fun a o z n=>by
       cases q:H a with
       | none=>rfl
       | some u=>rw [gone a u q n] at z;cases z
      cases dt with
      | un=>trivial
      | d y=>exact slot
      | o xs=>obtain ⟨a,ys,h1,h2,h3,h4,h5⟩:=slot;exact ⟨a,ys,h1,eB a _ h2,h3,own a _ h2 h4,h5⟩
      | dk xs=>obtain ⟨a,ys,h1,h2,h3,h4,h5⟩:=slot;exact ⟨a,ys,h1,eB a _ h2,h3,own a _ h2 h4,h5⟩
      | dt xs=>obtain ⟨a,ys,h1,h2,h3,h4,h5⟩:=slot;exact ⟨a,ys,h1,eB a _ h2,h3,own a _ h2 h4,h5⟩
      | dv xs=>obtain ⟨a,ys,h1,h2,h3,h4,h5⟩:=slot;exact ⟨a,ys,h1,eB a _ h2,h3,own a _ h2 h4,h5⟩
      | oo xs=>obtain ⟨a,ys,h1,h2,h3,h4,h5,h6⟩:=slot;exact ⟨a,ys,h1,eB a _ h2,h3,own a _ h2 h4,Paired.mapP h5 fun _ _ ⟨b,zs,k1,k2,k3,k4,k5⟩=>⟨b,zs,k1,eB b _ k2,k3,own b _ k2 k4,k5⟩,h6⟩
     refine I.after (Q:=Q) ⟨v,H2,os,bare,⟨?_,?_,?_,un.there,tup2,?_,?_⟩,?_,rv,kk dt v R' H2 hRS ex2 slot2⟩
     · exact fun b o z n hf hx=>un.keep b o z (nr b n) hf hx
     · exact fun b o z n hf hx=>un.slot b o z (nr b n) hf hx
     · exact fun b o z n hx=>eN b n (un.free b o z (nr b n) hx)
     · exact fun b o u z=>eB b _ (un.frzs b o u (w.back z fun z=>z))
     · intro b ps z
       obtain ⟨m,hm⟩:=un.tbls b ps (w.back z fun z=>z)
       exact ⟨m,eB b _ hm⟩
     · intro b o z
       rcases eX b o z with ⟨n2,z2⟩ | z2
       · refine (I.hok b o z2).stayL (w.ls b o z2 n2) (fun u q=>un.keep b u q n2 (fun hf=> ?_) (by simp)) tup2
         rw [I.stkFree b hf] at z2;cases z2
       · refine (hok b o z2).stay (fun c u q_ q=>q) (fun c q=>eB c _ q) fun c xs q=>eB c _ q
def tFnG (K:ba0) (P:List ba9→(Dt→Prop)→Prop) (t:TA):TE:=fun σ H Q=>t σ H fun vs H1=>∃R ds RS,Wd R H1∧RpAll K R vs ds∧P ds RS∧∀dt v R' H',RS dt→Ext R H1 R' H'→SlotR K H1 R' H' (some v) dt→Q v H'
theorem kom (G:Fn X.prog X.w X.K X.mg X.base x k ps (spG K P)) (hr:Room k X.A) (ha:PA X (e::es) t) (hK:autoParam (X.K=K) u4._auto_1) (hg:autoParam (Gl X x) u4._auto_1)
 (hdb:autoParam ((x == ("__debug__":Str))=false) u2._auto_1) (he:autoParam (bd5 (e::es) X.env=(false,eval e X.env)::bd5 es X.env) u4._auto_1) (hpl:autoParam ((backTo pos (bd5 es X.env)).any (·.1)=false) u4._auto_1):
 PE X (.Call (.Name x p) (e::es) [] pos) (tFnG K P t):=by
 obtain ⟨f,fd,F,hm,hk,hb⟩:=G
 intro pins s σ H Q I h
 refine bo6 (kjr I hg hm ?_ hdb)
 refine cd0 (h₀:=X.base) I.ok.mod.kin hk (thn (ha pos pins s σ H _ I h) fun us s1 ⟨vs,H1,I1,r,q⟩=>⟨I1.kIn,?_⟩) he hpl
 obtain ⟨R,ds,RS,w,hv,hp,kk⟩:=q
 exact kwo hK F hr hb I1 r w hv hp kk
end
section
variable {He:Hp} {K:ba0} {ι:Type} {Y:ι→Cx} {e:Expr} {es:List Expr} {pos p:Pos} {prog:bb8} {w:World} {mg:Str→Option Value} {base:Heap} {x:Str} {k:Nat} {ps:List Str} {P:List ba9→(Dt→Prop)→Prop} {t:Dq}
def kwp (P:List ba9→(Dt→Prop)→Prop) (t:Dq):De:=fun env Q=>t env fun ds=>P ds fun dt=>∃d,kv8 dt=some d∧Q d
theorem Ext.give {R H R' H':Hp} (ex:Ext R H R' H') (S:Addr→Prop) (hS: ∀b,S b→H b=none): ∃R2,Ext R H R2 H'∧Same R' R2∧∀b,S b→R2 b=H' b:=by
 classical
 have e1: ∀b,S b→(fun b=>if S b then H' b else R' b) b=H' b:=fun b s=>if_pos s
 have e2: ∀b,¬S b→(fun b=>if S b then H' b else R' b) b=R' b:=fun b s=>if_neg s
 generalize (fun b=>if S b then H' b else R' b)=R2 at e1 e2
 have sm:Same R' R2:=fun b o z=>by
  by_cases s:S b
  · rw [e1 b s];exact ex.rh b o z
  · rw [e2 b s];exact z
 refine ⟨R2,⟨ex.hh,ex.rr.trans sm,fun b o z=> ?_,fun b o z n=> ?_,fun b o z n=> ?_⟩,sm,e1⟩
 · by_cases s:S b
   · rw [e1 b s] at z;exact z
   · rw [e2 b s] at z;exact ex.rh b o z
 · have s: ¬S b:=fun s=>by rw [hS b s] at z;cases z
   rw [e2 b s];exact ex.nn b o z n
 · by_cases s:S b
   · rw [e1 b s,z] at n;cases n
   · rw [e2 b s] at n;exact ex.ls b o z n
theorem kwq {H0 R H R' H':Hp} {v:V} {dt:Dt} {d:ba9} (hd:kv8 dt=some d) (ex:Ext R H R' H') (s:SlotR K H R' H' (some v) dt): ∃R2,Ext R H R2 H'∧Rp K R2 v d:=by
 cases dt with
 | un=>cases hd
 | d y=>cases hd;exact ⟨R',ex,s⟩
 | o xs=>
   cases hd
   obtain ⟨a,ys,rfl,h2,h3,h4,h5⟩:=s
   have s:=Same.new (H:=R') (p:=a) (o:= .lst ys) h3
   refine ⟨upd R' a (.lst ys),⟨ex.hh,ex.rr.trans s,fun b o z=> ?_,fun b o z n=> ?_,fun b o z n=> ?_⟩,.lst kaf (RpAll.same s h5)⟩
   · by_cases hb:b=a
     · subst hb;rw [kaf] at z;cases z;exact h2
     · rw [kak hb] at z;exact ex.rh b o z
   · rw [kak (kai z h4)];exact ex.nn b o z n
   · by_cases hb:b=a
     · subst hb;rw [kaf] at n;cases n
     · rw [kak hb] at n;exact ex.ls b o z n
 | oo xs=>
   cases hd
   obtain ⟨a,ys,rfl,h2,h3,h4,h5,_⟩:=s
   obtain ⟨R2,e2,sm,at2⟩:=ex.give (fun b=>b=a∨V.ref b∈ys) fun b s=>by
    rcases s with rfl | s
    · exact h4
    · obtain ⟨_,_,_,z⟩:=h5.mem s;exact z
   exact ⟨R2,e2,.lst (by rw [at2 a (.inl rfl)];exact h2) (h5.rp sm fun b zs m z=>by rw [at2 b (.inr m)];exact z)⟩
 | dk xs=>cases hd
 | dt xs=>cases hd
 | dv xs=>cases hd
theorem kam (G:Fn prog w K mg base x k ps (spG K P)) (hr: ∀i,Room k (Y i).A) (ha:DA He K Y (e::es) t) (hX:autoParam (∀ i,(Y i).prog=prog∧(Y i).w=w∧(Y i).K=K∧(Y i).mg=mg∧(Y i).base=base) u11._auto_1) (hg:autoParam (∀ i,Gl (Y i) x) u3._auto_1)
 (hdb:autoParam ((x == ("__debug__":Str))=false) u2._auto_1) (he:autoParam (∀ i,bd5 (e::es) (Y i).env=(false,eval e (Y i).env)::bd5 es (Y i).env) u3._auto_1) (hpl:autoParam (∀ i,(backTo pos (bd5 es (Y i).env)).any (·.1)=false) u3._auto_1):
 DE He K Y (.Call (.Name x p) (e::es) [] pos) (kwp P t):=by
 obtain ⟨te,h1,h2⟩:=ha
 refine ⟨tFnG K P te,fun i=> ?_,fun Pk Q F pp kk=>h2 _ _ F pp fun ds vs R1 H1 q1 e1 r1=>⟨R1,ds,_,e1.wd,r1,q1,fun dt v R' H' ⟨d,hd,pd⟩ ex sl=> ?_⟩⟩
 · obtain ⟨a1,a2,a3,a4,a5⟩:=hX i
   subst a1 a2 a3 a4 a5
   exact kom G (hr i) (h1 i) rfl (hg i) hdb (he i) (hpl i)
 · obtain ⟨R2,ex2,r2⟩:=kwq (H0:=R1) hd ex sl
   exact kk d v R2 H' pd (e1.trans ex2) r2
def kon (P:List ba9→(Dt→Prop)→Prop) (t:Dq):Dq:=fun env Q=>t env fun ds=>P ds fun dt=>∃xs,dt= .o xs∧Q xs
theorem ka6 (G:Fn prog w K mg base x k ps (spG K P)) (hr: ∀i,Room k (Y i).A) (ha:DA He K Y (e::es) t) (hX:autoParam (∀ i,(Y i).prog=prog∧(Y i).w=w∧(Y i).K=K∧(Y i).mg=mg∧(Y i).base=base) u11._auto_1) (hg:autoParam (∀ i,Gl (Y i) x) u3._auto_1)
 (hdb:autoParam ((x == ("__debug__":Str))=false) u2._auto_1) (he:autoParam (∀ i,bd5 (e::es) (Y i).env=(false,eval e (Y i).env)::bd5 es (Y i).env) u3._auto_1) (hpl:autoParam (∀ i,(backTo pos (bd5 es (Y i).env)).any (·.1)=false) u3._auto_1):
 DO He K Y (.Call (.Name x p) (e::es) [] pos) (kon P t):=by
 obtain ⟨te,h1,h2⟩:=ha
 refine ⟨tFnG K P te,fun i=> ?_,fun Pk Q F pp kk=>h2 _ _ F pp fun ds vs R1 H1 q1 e1 r1=>⟨R1,ds,_,e1.wd,r1,q1,fun dt v R' H' ⟨xs,hd,pd⟩ ex sl=> ?_⟩⟩
 · obtain ⟨a1,a2,a3,a4,a5⟩:=hX i
   subst a1 a2 a3 a4 a5
   exact kom G (hr i) (h1 i) rfl (hg i) hdb (he i) (hpl i)
 · subst hd
   obtain ⟨a,ys,rfl,h5,h6,h7,h8⟩:=sl
   exact kk xs a ys R' H' pd (e1.trans ex) (e1.hh.free h7) h5 h6 h8
end
structure Yld (K:ba0) (J:It) (R:Hp) (l:List ba9):Prop where
 go: ∀R1 H1 i,Same R R1→Wd R1 H1→i < l.length→J.go i H1
 yl: ∀R1 H1 i d x H2,Same R R1→Wd R1 H1→l[i]?=some d→J.yld i H1 x H2→∃R2,Ext R1 H1 R2 H2∧Rp K R2 x d
 st: ∀R1 H1,Same R R1→Wd R1 H1→J.stop l.length H1
section
variable (He:Hp) (K:ba0) {ι:Type} (Y:ι→Cx)
def DI (tg iter:Expr) (t:Dq):Prop:=∃wi:TI,(∀ i,PI (Y i) tg iter wi)∧∀{H0 R H:Hp} {σ:St} {env:List Dt} (P:List ba9→Prop) (Q:It→Hp→Prop),Fra He K H0 R H σ env→t env P→
 (∀ l J R' H',P l→Ext R H R' H'→l.length≤sizeLine→Yld K J R' l→Q J H')→wi σ H Q
abbrev Dg:=ba9→List Dt→(List Dt→Prop)→Prop
def kr7 (ts:List Nat) (σ σ':St):Prop:=σ'.length=σ.length∧∀k,k ∉ ts→σ'[k]?=σ[k]?
def DG (tg:Expr) (ts:List Nat) (g:Dg):Prop:=∃gt:TG,(∀ i,PG (Y i) tg gt)∧∀{H0 R H:Hp} {σ:St} {env:List Dt} {d:ba9} {v:V} (P:List Dt→Prop) (Q:St→Hp→Prop),Fra He K H0 R H σ env→Rp K R v d→g d env P→
 (∀ env' σ',P env'→Fra He K H0 R H σ' env'→kr7 ts σ σ'→Q σ' H)→gt v σ H Q
def DIf (ifs:List Expr) (t:Db):Prop:=∃te:TT,(∀ i,PIf (Y i) ifs te)∧∀{H0 R H:Hp} {σ:St} {env:List Dt} (P:Bool→Prop) (Q:Bool→Hp→Prop),Fra He K H0 R H σ env→t env P→
 (∀ b R' H',P b→Ext R H R' H'→Q b H')→te σ H Q
end
section
variable {He:Hp} {K:ba0} {ι:Type} {Y:ι→Cx} {e a b c tg iter elt:Expr} {es ifs:List Expr} {pos:Pos}
def iSeqZ (K:ba0) (tl:TE):TI:=fun σ H R=>tl σ H fun x H1=>∃a xs,x= .ref a∧((SqL K H1 a xs∧(xs.length≤sizeLine→R (Itl K a) H1))∨(SqT K H1 a xs∧(xs.length≤sizeLine→R (Itt K a) H1)))
theorem kwr {X:Cx} {l:Expr} {tl:TE} (K:ba0) (hl:PE X l tl) (hK:autoParam (X.K=K) u4._auto_1):PI X tg l (iSeqZ K tl):=by
 subst hK
 intro pins s σ H R I h
 refine thn (hl pins s σ H _ I h) fun v s1 ⟨x,H1,I1,r1,q1⟩=> ?_
 obtain ⟨a,xs,e,q⟩:=q1
 subst e
 cases r1
 rcases q with ⟨hq,q⟩ | ⟨hq,q⟩
 · obtain ⟨its,rv,p,hz⟩:=I1.list hq
   refine bz9 p.isList ?_
   refine ⟨s1.heap.objs.size,[s1.heap.objs.size],_,_,H1,rfl,I1.kept (t':=s1.toks) fun b o e=>bb0 _ e,kia a _,⟨_,bd8 _ rfl,rfl,rfl⟩,fun b hb=> ?_,q hz⟩
   have e:b=s1.heap.objs.size:=by simpa using hb
   subst e
   exact I1.fpOk (bb6 _) (I1.hok.fresh (bb6 _))
 · obtain ⟨its,rv,p,hz⟩:=I1.tuple hq
   refine wpAny_pyIter_tuple (show s1.heap.IsTuple a its.toArray from p) ?_
   refine ⟨s1.heap.objs.size,[s1.heap.objs.size],_,_,H1,rfl,I1.kept (t':=s1.toks) fun b o e=>bb0 _ e,kmv a _,⟨_,bd8 _ rfl,rfl,rfl⟩,fun b hb=> ?_,q hz⟩
   have e:b=s1.heap.objs.size:=by simpa using hb
   subst e
   exact I1.fpOk (bb6 _) (I1.hok.fresh (bb6 _))
theorem RpAll.some {R:Hp} {ys:List V} {l:List ba9} {i:Nat} (r:RpAll K R ys l) (h:i < l.length): ∃v,ys[i]?=some v:=by
 have hl:=r.len
 exact ⟨ys[i]'(by lia),by simp [show i < ys.length by lia]⟩
theorem kr8 {R:Hp} {a:Addr} {ys:List V} {l:List ba9} (h:SqL K R a ys) (r:RpAll K R ys l):Yld K (Itl K a) R l:=by
 refine ⟨fun R1 H1 i s w hi=> ?_,fun R1 H1 i d x H2 s w hd y=> ?_,fun R1 H1 s w=> ?_⟩
 · obtain ⟨v,hv⟩:=r.some hi
   exact ⟨ys,v,(s.trans w.rh).seq h,hv⟩
 · obtain ⟨e,y⟩:=y
   subst e
   have z:=y ys ((s.trans w.rh).seq h)
   obtain ⟨d',hd',r'⟩:=r.get z
   rw [hd] at hd';cases hd'
   exact ⟨R1,.refl w,Rp.same s r'⟩
 · exact ⟨ys,(s.trans w.rh).seq h,by rw [r.len];exact bb6 _⟩
theorem kwt {R:Hp} {a:Addr} {ys:List V} {l:List ba9} (h:SqT K R a ys) (r:RpAll K R ys l):Yld K (Itt K a) R l:=by
 refine ⟨fun R1 H1 i s w hi=> ?_,fun R1 H1 i d x H2 s w hd y=> ?_,fun R1 H1 s w=> ?_⟩
 · obtain ⟨v,hv⟩:=r.some hi
   exact ⟨ys,v,(s.trans w.rh).seqT h,hv⟩
 · obtain ⟨e,y⟩:=y
   subst e
   have z:=y ys ((s.trans w.rh).seqT h)
   obtain ⟨d',hd',r'⟩:=r.get z
   rw [hd] at hd';cases hd'
   exact ⟨R1,.refl w,Rp.same s r'⟩
 · exact ⟨ys,(s.trans w.rh).seqT h,by rw [r.len];exact bb6 _⟩
theorem kbn {t:De} (h:DE He K Y e t) (hK:autoParam (∀ i,(Y i).K=K) u3._auto_1):DI He K Y tg e (xSeq t):=by
 obtain ⟨te,h1,h2⟩:=h
 refine ⟨_,fun i=>kwr K (h1 i) (hK i),fun P Q F p k=>h2 _ _ F p fun d v R' H' ⟨l,hl,pl⟩ ex r=> ?_⟩
 obtain ⟨a,ys,rfl,h3,h4⟩:=kg5 r hl
 refine ⟨a,ys,rfl,?_⟩
 rcases h3 with h3 | h3
 · exact .inl ⟨ex.rh.seq h3,fun hz=>k l _ R' H' pl ex (by rw [← h4.len];exact hz) (kr8 h3 h4)⟩
 · exact .inr ⟨ex.rh.seqT h3,fun hz=>k l _ R' H' pl ex (by rw [← h4.len];exact hz) (kwt h3 h4)⟩
theorem kg8 {lo:Int} {n i:Nat} {d:ba9} (h:(kfk lo n)[i]?=some d):i < n∧d= .int (lo + (i:Int)):=by
 unfold kfk at h
 rw [be3] at h
 obtain ⟨j,hj,rfl⟩:=bg3.mp h
 obtain ⟨h1,h2⟩:=bb1.mp hj
 rw [bg2] at h1
 rw [cd4] at h2
 subst h2
 exact ⟨h1,rfl⟩
theorem kg9 (lo:Int) (n:Nat):(kfk lo n).length=n:=by unfold kfk;rw [ba3,bg2]
theorem kwu (R:Hp) (lo:Int) (n:Nat):Yld K (Itr lo n) R (kfk lo n):=by
 refine ⟨fun R1 H1 i s w hi=> ?_,fun R1 H1 i d x H2 s w hd y=> ?_,fun R1 H1 s w=> ?_⟩
 · rw [kg9] at hi;exact hi
 · obtain ⟨_,rfl⟩:=kg8 hd
   obtain ⟨e,y⟩:=y
   subst e y
   exact ⟨R1,.refl w,.int _⟩
 · rw [kg9];exact bb6 _
def kjy (t:De):Dq:=fun env P=>t env fun d=>∃j:Int,d= .int j∧ -(2 ^ 62)≤j∧j≤100000∧P (kfk 0 j.toNat)
theorem kb8 {t:De} {p:Pos} (h:DB He K Y a t) (hm: ∀i,(Y i).mg "range"=none) (hg:autoParam (∀ i,Gl (Y i) "range") u3._auto_1) (hs:autoParam (∀ i,bd5 [a] (Y i).env=[(false,eval a (Y i).env)]) u3._auto_1):DI He K Y tg (.Call (.Name "range" p) [a] [] pos) (kjy t):=by
 obtain ⟨te,h1,h2⟩:=h
 refine ⟨_,fun i=>ka8 (hg i) (hm i) (kad (h1 i) kal (hs i)) (hs i),fun P Q F p k=>h2 _ _ F p fun d v R' H' ⟨j,hj,b1,b2,pl⟩ ex r=> ?_⟩
 subst hj
 have ev:=r.int_inv
 subst ev
 exact ⟨j,rfl,b1,by lia,k _ _ R' H' pl ex (by rw [kg9];exact szl (by lia)) (kwu R' 0 _)⟩
theorem kfx (i:Nat) (x:Option V) (σ:St):kr7 [i] σ (σ.set i x):=by
 refine ⟨by simp,fun k hk=> ?_⟩
 have hk:k≠i:=by simpa using hk
 rw [b29 (fun z=>hk z.symm)]
def gN (i:Nat):Dg:=fun d env P=>P (env.set i (.d d))
theorem ka7 (i:Nat) {x:Str} (hN: ∀j,(Y j).N.Nodup) (hi:autoParam (∀ j,(Y j).N[i]?=some x) u3._auto_1) (hx:autoParam (∀ j,Loc (Y j).env.scope x) u12._auto_1)
 (hf:autoParam (∀ j,(Y j).fn x=true∨(Y j).env.scope.names.lookup x=some .local) u13._auto_1):DG He K Y (.Name x pos) [i] (gN i):=
 ⟨_,fun j=>kbh (hN j) (hi j) (hx j) (hf j),fun P Q F r p k=>k _ _ p (F.setD i r) (kfx i _ _)⟩
theorem kwv {X:Cx} {es:List Expr} {k:Nat} {t:TGs} {n:Nat} (K:ba0) (hK:X.K=K) (hc:X.calm=true) (h:PGs X es t) (hn:(assignEach es X.env).length=n) (hst:(assignEach es X.env).findIdx? (·.1)=none):PG X (.Tuple es k pos) (gTup K n t):=hK▸kzp hc h hn hst
def gN2 (i j:Nat):Dg:=fun d env P=>∃x y,d= .tuple [x,y]∧P ((env.set i (.d x)).set j (.d y))
theorem kcg (i j:Nat) {x y:Str} {p1 p2:Pos} {k:Nat} (hN: ∀j,(Y j).N.Nodup) (hi:autoParam (∀ k,(Y k).N[i]?=some x) u3._auto_1) (hj:autoParam (∀ k,(Y k).N[j]?=some y) u3._auto_1) (hx:autoParam (∀ j,Loc (Y j).env.scope x) u12._auto_1) (hy:autoParam (∀ j,Loc (Y j).env.scope y) u12._auto_1)
 (hfx:autoParam (∀ j,(Y j).fn x=true∨(Y j).env.scope.names.lookup x=some .local) u13._auto_1) (hfy:autoParam (∀ j,(Y j).fn y=true∨(Y j).env.scope.names.lookup y=some .local) u13._auto_1)
 (hc:autoParam (∀ j,(Y j).calm=true) u3._auto_1) (hK:autoParam (∀ i,(Y i).K=K) u3._auto_1)
 (ha1:autoParam (∀ k,(assignEach [.Name x p1,.Name y p2] (Y k).env).map (·.2)=assign (.Name x p1) (Y k).env::(assignEach [.Name y p2] (Y k).env).map (·.2)) u3._auto_1) (ha2:autoParam (∀ k,(assignEach [.Name y p2] (Y k).env).map (·.2)=assign (.Name y p2) (Y k).env::(assignEach [] (Y k).env).map (·.2)) u3._auto_1)
 (hn:autoParam (∀ k,(assignEach [.Name x p1,.Name y p2] (Y k).env).length=2) u3._auto_1) (hst:autoParam (∀ k,(assignEach [.Name x p1,.Name y p2] (Y k).env).findIdx? (·.1)=none) u3._auto_1):
 DG He K Y (.Tuple [.Name x p1,.Name y p2] k pos) [i,j] (gN2 i j):=by
 refine ⟨_,fun m=>kwv K (hK m) (hc m) (kkz (kbh (hN m) (hi m) (hx m) (hfx m)) (kkz (kbh (hN m) (hj m) (hy m) (hfy m)) kvr (ha2 m)) (ha1 m)) (hn m) (hst m),fun P Q F r p k=> ?_⟩
 obtain ⟨u,w,rfl,p⟩:=p
 obtain ⟨a,xs,rfl,h1,h2⟩:=r.tup_inv
 cases h2 with
 | cons r1 h3=>
   cases h3 with
   | cons r2 h4=>
     cases h4
     refine ⟨a,_,rfl,SqT.of (F.wd.rh _ _ h1),rfl,_,_,rfl,_,_,rfl,rfl,?_⟩
     refine k _ _ p ((F.setD i r1).setD j r2) ?_
     obtain ⟨a1,a2⟩:=kfx i (some _) _
     obtain ⟨b1,b2⟩:=kfx j (some _) _
     exact ⟨b1.trans a1,fun m hm=>(b2 m (by simp at hm ⊢;exact hm.2)).trans (a2 m (by simp at hm ⊢;exact hm.1))⟩
noncomputable abbrev Yc {ι:Type} (Y:ι→Cx) (scope:Scope) (N':List Str):ι×ba4×Hp×List Addr→Cx:=fun p=>kba (Y p.1) scope N' p.2.1 p.2.2.1 p.2.2.2
def xTrue:Db:=fun q_ P=>P true
theorem kbf:DIf He K Y [] xTrue:=⟨_,fun q_=>kjw,fun P Q F p k=>k true _ _ p (.refl F.wd)⟩
theorem kfy {t:Db} (h:DT He K Y c t):DIf He K Y [c] t:=by
 obtain ⟨te,h1,h2⟩:=h
 exact ⟨te,fun i=>koa (h1 i),h2⟩
inductive LcR (G:ba9→Option ba9→Prop):List ba9→List ba9→Prop where
 | nil:LcR G [] []
 | skip {y:ba9} {l o:List ba9}:G y none→LcR G l o→LcR G (y::l) o
 | keep {y z:ba9} {l o:List ba9}:G y (some z)→LcR G l o→LcR G (y::l) (z::o)
theorem LcR.snoc_skip {G:ba9→Option ba9→Prop} {y:ba9} (h:G y none): ∀{l o:List ba9},LcR G l o→LcR G (l++[y]) o
 | _,_,.nil=> .skip h .nil
 | _,_,.skip a b=> .skip a (b.snoc_skip h)
 | _,_,.keep a b=> .keep a (b.snoc_skip h)
theorem LcR.snoc_keep {G:ba9→Option ba9→Prop} {y z:ba9} (h:G y (some z)): ∀{l o:List ba9},LcR G l o→LcR G (l++[y]) (o++[z])
 | _,_,.nil=> .keep h .nil
 | _,_,.skip a b=> .skip a (b.snoc_keep h)
 | _,_,.keep a b=> .keep a (b.snoc_keep h)
noncomputable def km1 (env:List Dt) (js:List (Option Nat)):List Dt:=js.map fun (o:Option Nat)=>match o with
 | none=> .un
 | some j=>(env[j]?).getD .un
noncomputable def kfz:List (Option Nat)→Bool
 | []=>true
 | none::r=>kfz r
 | some j::r=> !r.contains (some j) && kfz r
theorem kef: ∀{js:List (Option Nat)},kfz js=true→∀(k k' j:Nat),js[k]?=some (some j)→js[k']?=some (some j)→k=k'
 | [],_,k,_,j,h,_=>by simp at h
 | none::r,hc,k,k',j,h,h'=>by
   cases k with
   | zero=>simp at h
   | succ k=>
     cases k' with
     | zero=>simp at h'
     | succ k'=>rw [kef (js:=r) hc k k' j (by simpa using h) (by simpa using h')]
 | some i::r,hc,k,k',j,h,h'=>by
   have hc:_∧_:=bv6.mp hc
   have nc:some i ∉ r:=by simpa using hc.1
   cases k with
   | zero=>
     cases k' with
     | zero=>rfl
     | succ k'=>
       have e:i=j:=by simpa using h
       subst e
       exact absurd (be2 (show r[k']?=some (some i) by simpa using h')) nc
   | succ k=>
     cases k' with
     | zero=>
       have e:i=j:=by simpa using h'
       subst e
       exact absurd (be2 (show r[k]?=some (some i) by simpa using h)) nc
     | succ k'=>rw [kef (js:=r) hc.2 k k' j (by simpa using h) (by simpa using h')]
theorem kha {env:List Dt} {js:List (Option Nat)} {k:Nat} {d:Dt} (h:(km1 env js)[k]?=some d):d= .un∨∃j,js[k]?=some (some j)∧env[j]?=some d:=by
 unfold km1 at h
 rw [be3] at h
 obtain ⟨o,ho,e⟩:=bg3.mp h
 cases o with
 | none=>exact .inl e.symm
 | some j=>
   cases q:env[j]? with
   | none=>simp only [q,b88] at e;exact .inl e.symm
   | some d'=>simp only [q,bs7] at e;subst e;exact .inr ⟨j,ho,q⟩
theorem kf0 {σ:St} {js:List (Option Nat)} {k j:Nat} (h:js[k]?=some (some j)):(kec σ js)[k]?=some (σ[j]?).join:=by
 unfold kec
 rw [be3,h]
 rfl
theorem Fra.cap {H0 R H:Hp} {σ:St} {env:List Dt} {js:List (Option Nat)} (f:Fra He K H0 R H σ env) (hj:kfz js=true):Fra He K H0 R H (kec σ js) (km1 env js):=by
 refine ⟨f.at0,f.ext,by simp [kec,km1],fun k d h=> ?_,fun k k' dk dk' a h h' o o'=> ?_⟩
 · rcases kha h with rfl | ⟨j,hj,e⟩
   · cases ((kec σ js)[k]?).join <;> trivial
   · rw [kf0 hj]
     exact f.slot j d e
 · rcases kha h with rfl | ⟨j,hjk,e⟩
   · cases o
   · rcases kha h' with rfl | ⟨j',hjk',e'⟩
     · cases o'
     · rw [kf0 hjk] at o
       rw [kf0 hjk'] at o'
       have ej:=f.apart j j' dk dk' a e e' o o'
       subst ej
       exact kef hj k k' j hjk hjk'
theorem Fra.agree {H0 R H:Hp} {σ σ':St} {env:List Dt} {ts:List Nat} (f:Fra He K H0 R H σ env) (ha:kr7 ts σ σ') (hu: ∀k∈ts,∀(d:Dt),env[k]?=some d→d= .un):Fra He K H0 R H σ' env:=by
 refine ⟨f.at0,f.ext,ha.1.trans f.len,fun k d h=> ?_,fun k k' dk dk' a h h' o o'=> ?_⟩
 · by_cases hk:k∈ts
   · rw [hu k hk d h]
     cases (σ'[k]?).join <;> trivial
   · rw [ha.2 k hk];exact f.slot k d h
 · have n1:k ∉ ts:=fun z=>by rw [hu k z dk h] at o;cases o
   have n2:k' ∉ ts:=fun z=>by rw [hu k' z dk' h'] at o';cases o'
   rw [ha.2 k n1] at o
   rw [ha.2 k' n2] at o'
   exact f.apart k k' dk dk' a h h' o o'
theorem Fra.other {H0 R H:Hp} {σ:St} {env:List Dt} {D:Addr} {o:HO} (f:Fra He K H0 R H σ env) (h0:H0 D=none) (hr:R D=none) (lo:kfv o) (hne: ∀(k:Nat) (d:Dt),env[k]?=some d→¬d.has H (σ[k]?).join D):Fra He K H0 R (upd H D o) σ env:=by
 have w:=Wd.mut (o:=o) f.wd hr lo
 refine ⟨f.at0,⟨f.ext.hh.put h0,f.ext.rr,w.rh,f.ext.nn,w.ls⟩,f.len,fun k d h=>(f.slot k d h).mut (hne k d h),fun k j dk dj b ek ej ok oj=>f.apart k j dk dj b ek ej ((f.slot k dk ek).hasMut (hne k dk ek) ok) ((f.slot j dj ej).hasMut (hne j dj ej) oj)⟩
theorem Ext.mut {R H R1 H1:Hp} {p:Addr} {o:HO} (e:Ext R H R1 H1) (h:H p=none) (hr:R1 p=none) (lo:kfv o):Ext R H R1 (upd H1 p o):=by
 have w:=Wd.mut (o:=o) e.wd hr lo
 exact ⟨e.hh.put h,e.rr,w.rh,e.nn,w.ls⟩
def xLC (js:List (Option Nat)) (ti:Dq) (g:Dg) (tc:Db) (te:De):Dq:=fun env P=>ti env fun l=>∃G:ba9→Option ba9→Prop,
 (∀ y∈l,g y (km1 env js) fun env1=>tc env1 fun b=>if b=true then te env1 fun z=>G y (some z) else G y none)∧∀o,LcR G l o→P o
variable {scope:Scope} {N':List Str} {js:List (Option Nat)} {ts:List Nat}
theorem kuk {ti:Dq} {g:Dg} {tc:Db} {te:De} {wi:TI} {gt:TG} {ct:TT} {et:TE}
 (hi: ∀{H0 R H:Hp} {σ:St} {env:List Dt} (P:List ba9→Prop) (Q:It→Hp→Prop),Fra He K H0 R H σ env→ti env P→(∀ l J R' H',P l→Ext R H R' H'→l.length≤sizeLine→Yld K J R' l→Q J H')→wi σ H Q)
 (hg: ∀{H0 R H:Hp} {σ:St} {env:List Dt} {d:ba9} {v:V} (P:List Dt→Prop) (Q:St→Hp→Prop),Fra He K H0 R H σ env→Rp K R v d→g d env P→(∀ env' σ',P env'→Fra He K H0 R H σ' env'→kr7 ts σ σ'→Q σ' H)→gt v σ H Q)
 (hc: ∀{H0 R H:Hp} {σ:St} {env:List Dt} (P:Bool→Prop) (Q:Bool→Hp→Prop),Fra He K H0 R H σ env→tc env P→(∀ b R' H',P b→Ext R H R' H'→Q b H')→ct σ H Q)
 (he: ∀{H0 R H:Hp} {σ:St} {env:List Dt} (P:ba9→Prop) (Q:VK),Fra He K H0 R H σ env→te env P→(∀ d v R' H',P d→Ext R H R' H'→Rp K R' v d→Q v H')→et σ H Q)
 (hj:kfz js=true) (hts: ∀k∈ts,js[k]?=some none∨js[k]?=none)
 {H0 R H:Hp} {σ:St} {env:List Dt} (P:List ba9→Prop) (Q:VK) (F:Fra He K H0 R H σ env) (p:xLC js ti g tc te env P)
 (k: ∀ds a ys R' H',P ds→Ext R H R' H'→H a=none→H' a=some (.lst ys)→R' a=none→RpAll K R' ys ds→Q (.ref a) H'):tLC js wi gt ct et σ H Q:=by
 refine hi _ _ F p fun l J R1 H1 ⟨G,hG,hP⟩ e1 hz yd D hD=> ?_
 have hD0:H0 D=none:=F.ext.hh.free (e1.hh.free hD)
 have hDR:R1 D=none:=e1.wd.rh.free hD
 have F1:=(F.next e1).cap hj
 have un: ∀k∈ts,∀(d:Dt),(km1 env js)[k]?=some d→d= .un:=fun m hm d hd=>by
  rcases kha hd with z | ⟨j,z,_⟩
  · exact z
  · rcases hts m hm with q | q
    · rw [q] at z;cases z
    · rw [q] at z;cases z
 have ne1: ∀(m:Nat) (d:Dt),(km1 env js)[m]?=some d→¬d.has H1 ((kec σ js)[m]?).join D:=fun m d h z=>by
  obtain ⟨u,h2,_⟩:=(F1.slot m d h).hasAt z
  rw [hD] at h2;cases h2
 refine ⟨fun i m σ1 acc H2=>m=l.length - i∧i≤l.length∧∃R2 outs,Fra He K H0 R2 H2 σ1 (km1 env js)∧Ext R1 H1 R2 H2∧H2 D=some (.lst acc)∧R2 D=none∧RpAll K R2 acc outs∧LcR G (l.take i) outs∧acc.length≤i∧
  ∀(m:Nat) (d:Dt),(km1 env js)[m]?=some d→¬d.has H2 (σ1[m]?).join D,⟨l.length,by simp,bf4 _,R1,[],?_,?_,kaf,hDR,.nil,.nil,bb6 _,fun m d h z=>ne1 m d h ((F1.slot m d h).hasMut (ne1 m d h) z)⟩,?_⟩
 · exact F1.other hD0 hDR trivial ne1
 · exact (Ext.refl e1.wd).mut hD hDR trivial
 · rintro i m σ1 acc H2 ⟨rfl,hi',R2,outs,F2,e2,hD2,hR2,ra,lc,hl,ne2⟩
   by_cases hlt:i < l.length
   · refine .inr ⟨yd.go R2 H2 i e2.rr e2.wd hlt,_,fun σ' acc' H' n'=>⟨l.length - (i + 1),by lia,rfl,hlt,n'⟩,fun x H3 y=> ?_⟩
     have hd:l[i]?=some l[i]:=by simp [hlt]
     obtain ⟨R3,e3,r3⟩:=yd.yl R2 H2 i l[i] x H3 e2.rr e2.wd hd y
     have F3:=F2.next e3
     have tk:l.take (i + 1)=l.take i++[l[i]]:=by rw [bv2,hd];rfl
     refine hg _ _ F3 r3 (hG l[i] (be8 hlt)) fun env4 σ4 p4 F4 ag=> ?_
     have F3':Fra He K H0 R3 H3 σ4 (km1 env js):=F3.agree ag un
     have ne4: ∀(H':Hp),Same H3 H'→∀(m:Nat) (d:Dt),(km1 env js)[m]?=some d→¬d.has H' (σ4[m]?).join D:=fun H' s m d h z=>by
      have z:=(F3'.slot m d h).hasNext (fun a ys q_ q=>s a _ q) z
      rw [ag.2 m fun z'=>by rw [un m z' d h] at z;cases z] at z
      exact ne2 m d h ((F2.slot m d h).hasNext (fun a ys q_ q=>e3.hh a _ q) z)
     refine hc _ _ F4 p4 fun b R5 H5 p5 e5=> ?_
     cases b with
     | false=>
       rw [if_neg bb3] at p5 ⊢
       have ee:=e3.trans e5
       exact ⟨R5,outs,F3'.next e5,e2.trans ee,ee.hh _ _ hD2,ee.nn _ _ hD2 hR2,RpAll.same ee.rr ra,by rw [tk];exact lc.snoc_skip p5,by lia,ne4 H5 e5.hh⟩
     | true=>
       rw [if_pos rfl] at p5 ⊢
       refine he _ _ (F4.next e5) p5 fun z v R6 H6 p6 e6 r6=> ?_
       have ee:=e3.trans (e5.trans e6)
       have hD6:=ee.hh _ _ hD2
       have hR6:=ee.nn _ _ hD2 hR2
       have F6:=F3'.next (e5.trans e6)
       have ne6:=ne4 H6 (e5.trans e6).hh
       refine ⟨hD6,by lia,R6,outs++[z],F6.other hD0 hR6 trivial ne6,(e2.trans ee).mut hD hR6 trivial,kaf,hR6,RpAll.append (RpAll.same ee.rr ra) (.one r6),by rw [tk];exact lc.snoc_keep p6,by rw [ba6,bh8];lia,fun m d h z=>ne6 m d h ((F6.slot m d h).hasMut (ne6 m d h) z)⟩
   · have e:i=l.length:=by lia
     subst e
     rw [b89] at lc
     exact .inl ⟨yd.st R2 H2 e2.rr e2.wd,k outs D acc R2 H2 (hP outs lc) (e1.trans e2) (e1.hh.free hD) hD2 hR2 ra⟩
theorem kc5 {ti:Dq} {g:Dg} {tc:Db} {te:De} (caps: ∀i,Caps (Y i) scope N' js) (hi:DI He K Y tg iter ti) (hg:DG He K (Yc Y scope N') tg ts g) (hc:DIf He K (Yc Y scope N') ifs tc) (he:DE He K (Yc Y scope N') elt te)
 (hj:autoParam (kfz js=true) u4._auto_1) (hts:autoParam (∀ k∈ts,js[k]?=some none∨js[k]?=none) u14._auto_1)
 (hcalm:autoParam (∀ i,(Y i).calm=true) u3._auto_1)
 (hfb:autoParam (∀ i,(scope.names.all fun p=>p.2 != bj7 || ((Y i).env.scope.names.lookup p.1 == some .cell || (Y i).env.scope.names.lookup p.1 == some .free))=true) u3._auto_1)
 (hnb:autoParam ((scope.names.all fun p=>p.2 != NameKind.local || scope.names.lookup p.1 == some .local)=true) u4._auto_1)
 (hkind:autoParam (scope.kind= .function) u4._auto_1)
 (hs:autoParam (∀ i x,foldedSetIterable iter (Y i).env x=pure x) u10._auto_1):DO He K Y (.ListComp elt [⟨tg,iter,ifs,0⟩] scope pos) (xLC js ti g tc te):=by
 obtain ⟨wi,i1,i2⟩:=hi
 obtain ⟨gt,g1,g2⟩:=hg
 obtain ⟨ct,c1,c2⟩:=hc
 obtain ⟨et,e1,e2⟩:=he
 exact ⟨_,fun i=>kfl (hcalm i) (caps i) (i1 i) (fun s H fp=>g1 (i,s,H,fp)) (fun s H fp=>c1 (i,s,H,fp)) (fun s H fp=>e1 (i,s,H,fp)) (hfb i) hnb hkind (hs i),fun P Q F p k=>kuk i2 g2 c2 e2 hj hts P Q F p k⟩
structure DEnds where
 nx:List Dt→Prop
 rt:Dt→Prop
 bk:List Dt→Prop:=fun q_=>False
 ct:List Dt→Prop:=fun q_=>False
structure Cov (He:Hp) (K:ba0) (H0 R0:Hp) (D:DEnds) (E:Ends):Prop where
 nx: ∀env' R' H' σ',D.nx env'→Same R0 R'→Fra He K H0 R' H' σ' env'→E.nx σ' H'
 rt: ∀dt v R' H',D.rt dt→Ext H0 H0 R' H'→SlotR K H0 R' H' (some v) dt→E.rt v H'
 bk: ∀env' R' H' σ',D.bk env'→Same R0 R'→Fra He K H0 R' H' σ' env'→E.bk σ' H'
 ct: ∀env' R' H' σ',D.ct env'→Same R0 R'→Fra He K H0 R' H' σ' env'→E.ct σ' H'
abbrev Ds:=DEnds→List Dt→Prop
def DS (He:Hp) (K:ba0) {ι:Type} (Y:ι→Cx) (st:Stmt) (t:Ds):Prop:=∃ts:TS,(∀ i,PS (Y i) st ts)∧∀{H0 R0 R H:Hp} {σ:St} {env:List Dt} (D:DEnds) (E:Ends),Fra He K H0 R H σ env→Same R0 R→Cov He K H0 R0 D E→t D env→ts E σ H
def DSs (He:Hp) (K:ba0) {ι:Type} (Y:ι→Cx) (st:List Stmt) (t:Ds):Prop:=∃ts:TS,(∀ i,PSs (Y i) st ts)∧∀{H0 R0 R H:Hp} {σ:St} {env:List Dt} (D:DEnds) (E:Ends),Fra He K H0 R H σ env→Same R0 R→Cov He K H0 R0 D E→t D env→ts E σ H
variable {st:Stmt} {kdc:List Stmt}
def kww:Ds:=fun D env=>D.nx env
def sSeq (t u:Ds):Ds:=fun D env=>t {D with nx:=u D} env
theorem ka3:DSs He K Y [] kww:=⟨_,fun q_=>kea,fun D E F s c p=>c.nx _ _ _ _ p s F⟩
theorem kae {t u:Ds} (h:DS He K Y st t) (h':DSs He K Y kdc u):DSs He K Y (st::kdc) (sSeq t u):=by
 obtain ⟨a,a1,a2⟩:=h
 obtain ⟨b,b1,b2⟩:=h'
 exact ⟨_,fun i=>kau (a1 i) (b1 i),fun D E F s c p=>a2 {D with nx:=u D} _ F s ⟨fun env' R' H' σ' q s' F'=>b2 D E F' s' c q,c.rt,c.bk,c.ct⟩ p⟩
theorem kaj {t:Ds} (h:DS He K Y st t):DSs He K Y [st] t:=by
 obtain ⟨a,a1,a2⟩:=h
 exact ⟨_,fun i=>kaz (a1 i),a2⟩
def k0g:Ds:=fun q_ q_=>False
theorem khb:DS He K Y st k0g:=⟨_,fun q_=>kru,fun q_ q_ q_ q_ q_ p=>p.elim⟩
def sFrz (i:Nat) (t:Ds):Ds:=fun D env=>∃xs,env[i]?=some (.o xs)∧t D (env.set i (.d (.list xs)))
theorem DSs.frz {sts:List Stmt} {t:Ds} (i:Nat) (h:DSs He K Y sts t):DSs He K Y sts (sFrz i t):=by
 obtain ⟨a,a1,a2⟩:=h
 refine ⟨a,a1,fun D E F s c ⟨xs,e,p⟩=> ?_⟩
 obtain ⟨R',s',F'⟩:=F.frz e
 exact a2 D E F' (s.trans s') c p
def sSet (i:Nat) (t:De):Ds:=fun D env=>t env fun d=>D.nx (env.set i (.d d))
theorem kax (i:Nat) {x:Str} {t:De} {pos':Pos} (hN: ∀j,(Y j).N.Nodup) (h:DE He K Y e t) (hi:autoParam (∀ j,(Y j).N[i]?=some x) u3._auto_1) (hx:autoParam (∀ j,Loc (Y j).env.scope x) u12._auto_1)
 (hs:autoParam (∀ j,bs9 e (some (.Name x pos')) pos.line (Y j).env=pure false) u3._auto_1) (hf:autoParam (∀ j,(Y j).fn x=true∨(Y j).env.scope.names.lookup x=some .local) u13._auto_1):
 DS He K Y (.Assign [.Name x pos'] e pos) (sSet i t):=by
 obtain ⟨a,a1,a2⟩:=h
 exact ⟨_,fun j=>ka9 (hN j) (hi j) (hx j) (a1 j) (hs j) (hf j),fun D E F s c p=>a2 _ _ F p fun d v R' H' q e r=>c.nx _ _ _ _ q (s.trans e.rr) ((F.next e).setD i r)⟩
def koo (i:Nat) (t:Dq):Ds:=fun D env=>t env fun l=>D.nx (env.set i (.o l))
theorem kiy {i:Nat} {t:Dq} {tl:TE} (ho: ∀{H0 R H:Hp} {σ:St} {env:List Dt} (P:List ba9→Prop) (Q:VK),Fra He K H0 R H σ env→t env P→
 (∀ ds a ys R' H',P ds→Ext R H R' H'→H a=none→H' a=some (.lst ys)→R' a=none→RpAll K R' ys ds→Q (.ref a) H')→tl σ H Q)
 {H0 R0 R H:Hp} {σ:St} {env:List Dt} (D:DEnds) (E:Ends) (F:Fra He K H0 R H σ env) (s:Same R0 R) (c:Cov He K H0 R0 D E) (p:koo i t D env):kzr tl (knr i) E σ H:=
 ho _ _ F p fun l a ys R' H' q e hn ha hr r=>c.nx _ _ _ _ q (s.trans e.rr) (F.setN e i hn ⟨a,ys,rfl,ha,hr,F.ext.hh.free hn,r⟩)
theorem kez (i:Nat) {x:Str} {t:Dq} {pos':Pos} (hN: ∀j,(Y j).N.Nodup) (h:DO He K Y e t) (hi:autoParam (∀ j,(Y j).N[i]?=some x) u3._auto_1) (hx:autoParam (∀ j,Loc (Y j).env.scope x) u12._auto_1)
 (hs:autoParam (∀ j,bs9 e (some (.Name x pos')) pos.line (Y j).env=pure false) u3._auto_1) (hf:autoParam (∀ j,(Y j).fn x=true∨(Y j).env.scope.names.lookup x=some .local) u13._auto_1):
 DS He K Y (.Assign [.Name x pos'] e pos) (koo i t):=by
 obtain ⟨a,a1,a2⟩:=h
 exact ⟨_,fun j=>ka9 (hN j) (hi j) (hx j) (a1 j) (hs j) (hf j),fun D E F s c p=>kiy a2 D E F s c p⟩
theorem kep (i:Nat) {x:Str} {ti:Dq} {g:Dg} {tc:Db} {te:De} {pos' spos:Pos} (hN: ∀j,(Y j).N.Nodup) (caps: ∀i,Caps (Y i) scope N' js) (hi:DI He K Y tg iter ti) (hg:DG He K (Yc Y scope N') tg ts g) (hc:DIf He K (Yc Y scope N') ifs tc) (he:DE He K (Yc Y scope N') elt te)
 (hix:autoParam (∀ j,(Y j).N[i]?=some x) u3._auto_1) (hx:autoParam (∀ j,Loc (Y j).env.scope x) u12._auto_1)
 (hj:autoParam (kfz js=true) u4._auto_1) (hts:autoParam (∀ k∈ts,js[k]?=some none∨js[k]?=none) u14._auto_1)
 (hcalm:autoParam (∀ i,(Y i).calm=true) u3._auto_1)
 (hfb:autoParam (∀ i,(scope.names.all fun p=>p.2 != bj7 || ((Y i).env.scope.names.lookup p.1 == some .cell || (Y i).env.scope.names.lookup p.1 == some .free))=true) u3._auto_1)
 (hnb:autoParam ((scope.names.all fun p=>p.2 != NameKind.local || scope.names.lookup p.1 == some .local)=true) u4._auto_1)
 (hsw:autoParam (∀ j,bs9 (.ListComp elt [⟨tg,iter,ifs,0⟩] scope pos) (some (.Name x pos')) spos.line (Y j).env=pure true) u3._auto_1)
 (hkind:autoParam (scope.kind= .function) u4._auto_1) (hs:autoParam (∀ i x,foldedSetIterable iter (Y i).env x=pure x) u10._auto_1)
 (hf:autoParam (∀ j,(Y j).fn x=true∨(Y j).env.scope.names.lookup x=some .local) u13._auto_1):
 DS He K Y (.Assign [.Name x pos'] (.ListComp elt [⟨tg,iter,ifs,0⟩] scope pos) spos) (koo i (xLC js ti g tc te)):=by
 obtain ⟨wi,i1,i2⟩:=hi
 obtain ⟨gt,g1,g2⟩:=hg
 obtain ⟨ct,c1,c2⟩:=hc
 obtain ⟨et,e1,e2⟩:=he
 exact ⟨_,fun m=>kr3 (i:=i) (hcalm m) (caps m) (i1 m) (fun s H fp=>g1 (m,s,H,fp)) (fun s H fp=>c1 (m,s,H,fp)) (fun s H fp=>e1 (m,s,H,fp)) (hN m) (hix m) (hx m) (hfb m) hnb (hsw m) hkind (hs m) (hf m),
  fun D E F s c p=>kiy (fun P Q F p k=>kuk i2 g2 c2 e2 hj hts P Q F p k) D E F s c p⟩
def sRet (t:De):Ds:=fun D env=>t env fun d=>D.rt (.d d)
theorem ka4 {t:De} (h:DE He K Y e t):DS He K Y (.Return (some e) pos) (sRet t):=by
 obtain ⟨a,a1,a2⟩:=h
 exact ⟨_,fun j=>kb6 (a1 j),fun D E F s c p=>a2 _ _ F p fun d v R' H' q e r=>c.rt _ _ R' H' q (F.ext.trans e) r⟩
def kwx (t:Dq):Ds:=fun D env=>t env fun l=>D.rt (.o l)
theorem kdk {t:Dq} (h:DO He K Y e t):DS He K Y (.Return (some e) pos) (kwx t):=by
 obtain ⟨a,a1,a2⟩:=h
 exact ⟨_,fun j=>kb6 (a1 j),fun D E F s c p=>a2 _ _ F p fun l a ys R' H' q e hn ha hr r=>c.rt _ _ R' H' q (F.ext.trans e) ⟨a,ys,rfl,ha,hr,F.ext.hh.free hn,r⟩⟩
def kwy (i:Nat):Ds:=fun D env=>∃dt,env[i]?=some dt∧dt≠ .un∧D.rt dt
theorem kct (i:Nat) {x:Str} {p2:Pos} (h:autoParam (∀ j,PE (Y j) (.Name x p2) (kh5 i)) u8._auto_1):DS He K Y (.Return (some (.Name x p2)) pos) (kwy i):=
 ⟨_,fun j=>kb6 (h j),fun D E F s c ⟨dt,e,hu,q⟩=>by
   obtain ⟨v,h1,h2⟩:=F.get e hu
   exact ⟨v,h1,c.rt dt v _ _ q F.ext h2⟩⟩
def sIf (t:Db) (u w:Ds):Ds:=fun D env=>t env fun b=>if b=true then u D env else w D env
theorem kcp {t:Db} {u w:Ds} {th el:List Stmt} (hc:DT He K Y c t) (h1:DSs He K Y th u) (h2:DSs He K Y el w):DS He K Y (.If c th el pos) (sIf t u w):=by
 obtain ⟨a,a1,a2⟩:=hc
 obtain ⟨b,b1,b2⟩:=h1
 obtain ⟨d,d1,d2⟩:=h2
 refine ⟨_,fun j=>kjt (a1 j) (b1 j) (d1 j),fun D E F s c p=>a2 _ _ F p fun b R' H' q e=> ?_⟩
 cases b with
 | true=>
   rw [if_pos rfl] at q ⊢
   exact b2 D E (F.next e) (s.trans e.rr) c q
 | false=>
   rw [if_neg bb3] at q ⊢
   exact d2 D E (F.next e) (s.trans e.rr) c q
def sFor (ti:Dq) (g:Dg) (tb:Ds):Ds:=fun D env=>ti env fun l=>∃I:Nat→List Dt→Prop,I 0 env∧
 (∀ (k:Nat) (y:ba9) (env1:List Dt),l[k]?=some y→I k env1→g y env1 fun env2=>tb {nx:=I (k + 1),rt:=D.rt,bk:=D.nx,ct:=I (k + 1)} env2)∧∀env1,I l.length env1→D.nx env1
theorem kd7 {ti:Dq} {g:Dg} {tb:Ds} {body:List Stmt} (hp: ∀i,PassesOwn (model (Y i).prog (Y i).w) (Y i).A (Y i).env (Y i).xe) (hi:DI He K Y tg iter ti) (hg:DG He K Y tg ts g) (hb:DSs He K Y body tb) (hc:autoParam (∀ i,(Y i).calm=true) u3._auto_1)
 (hs:autoParam (∀ i x,foldedSetIterable iter (Y i).env x=pure x) u10._auto_1):DS He K Y (.For tg iter body [] pos) (sFor ti g tb):=by
 obtain ⟨wi,i1,i2⟩:=hi
 obtain ⟨gt,g1,g2⟩:=hg
 obtain ⟨bt,b1,b2⟩:=hb
 refine ⟨_,fun m=>kdd (hp m) (hc m) (i1 m) (g1 m) (b1 m) (hs m),fun {H0 R0 R H σ env} D E F s c p=>i2 _ _ F p fun l J R1 H1 ⟨I,h0,hs,hd⟩ e1 hz yd=> ?_⟩
 have s1:Same R0 R1:=s.trans e1.rr
 refine ⟨fun i m σ2 H2=>m=l.length - i∧i≤l.length∧∃R2 env2,Fra He K H0 R2 H2 σ2 env2∧Same R1 R2∧I i env2,⟨l.length,by simp,bf4 _,R1,env,F.next e1,Same.refl R1,h0⟩,?_⟩
 rintro i m σ2 H2 ⟨rfl,hi',R2,env2,F2,s2,p2⟩
 by_cases hlt:i < l.length
 · refine .inr ⟨yd.go R2 H2 i s2 F2.wd hlt,fun σ' H'=>∃R2 env2,Fra He K H0 R2 H' σ' env2∧Same R1 R2∧I (i + 1) env2,fun σ' H' n'=>⟨l.length - (i + 1),by lia,rfl,hlt,n'⟩,fun x H3 y=> ?_⟩
   have hd':l[i]?=some l[i]:=by simp [hlt]
   obtain ⟨R3,e3,r3⟩:=yd.yl R2 H2 i l[i] x H3 s2 F2.wd hd' y
   refine g2 _ _ (F2.next e3) r3 (hs i l[i] env2 hd' p2) fun env4 σ4 p4 F4 q_=> ?_
   refine b2 (R0:=R1) {nx:=I (i + 1),rt:=D.rt,bk:=D.nx,ct:=I (i + 1)} _ F4 (s2.trans e3.rr) ⟨fun env' R' H' σ' q s' F'=>⟨R',env',F',s',q⟩,c.rt,fun env' R' H' σ' q s' F'=>c.nx _ _ _ _ q (s1.trans s') F',fun env' R' H' σ' q s' F'=>⟨R',env',F',s',q⟩⟩ p4
 · have e:i=l.length:=by lia
   subst e
   exact .inl ⟨yd.st R2 H2 s2 F2.wd,c.nx _ _ _ _ (hd env2 p2) (s1.trans s2) F2⟩
def sApp (i:Nat) (t:De):Ds:=fun D env=>∃xs,env[i]?=some (.o xs)∧t env fun d=>xs.length < 100000∧D.nx (env.set i (.o (xs++[d])))
theorem Fra.lstAt {H0 R H:Hp} {σ:St} {env:List Dt} {i:Nat} {xs:List ba9} (F:Fra He K H0 R H σ env) (h:env[i]?=some (.o xs)): ∃a ys,σ[i]?=some (some (.ref a))∧H a=some (.lst ys)∧R a=none∧H0 a=none∧RpAll K R ys xs:=by
 obtain ⟨v,hs,a,ys,rfl,h2,h3,h4,h5⟩:=F.get h (by intro z;cases z)
 exact ⟨a,ys,hs,h2,h3,h4,h5⟩
theorem Fra.lstSet {H0 R H:Hp} {σ:St} {env:List Dt} {i:Nat} {xs xs':List ba9} {a:Addr} {ys':List V} (F:Fra He K H0 R H σ env) (h:env[i]?=some (.o xs)) (hs:σ[i]?=some (some (.ref a))) (h3:R a=none) (h4:H0 a=none) (h5:RpAll K R ys' xs'):Fra He K H0 R (upd H a (.lst ys')) σ (env.set i (.o xs')):=
 F.mut h rfl hs trivial ⟨a,ys',rfl,kaf,h3,h4,h5⟩
theorem szlt' {n:Nat} (h:n≤100000):n < sizeLine:=b50 h (by decide)
theorem kiz {X:Cx} {o e:Expr} {es:List Expr} {to:TE} {t:TA} {name:Str} {apos cpos:Pos} {T id:String} {r:V→List V→Hp→VK→Prop} (K:ba0) (hK:X.K=K) (pa:PlainAttrs T) (slot:Slot T name id) (hty:typeOf (.builtin id)=pure (.type "method_descriptor")) (hm:MtR X id r) (ho:PE X o to) (ha:PA X (e::es) t)
 (hbase:bs6 o name X.env (eval o X.env)=eval o X.env)
 (hfew:((backTo cpos (bd5 (e::es) X.env)).all (fun x=> !x.1) && (b86 cpos (bx3 [] X.env)).all (fun x=>x.1.isSome)
   && decide ((e::es).length + ([]:List Keyword).length + (if ([]:List Keyword).isEmpty then 0 else 1) < 30))=true)
 (hline:(apos.endLine == cpos.line)=true) (hs:bd5 (e::es) X.env=(false,eval e X.env)::bd5 es X.env) (hplain:(backTo cpos (bd5 es X.env)).any (·.1)=false):
 PE X (.Call (.Attribute o name apos) (e::es) [] cpos) (tBM K T r to t):=hK▸kik pa slot hty hm ho ha hbase hfew hline hs hplain
theorem ki0 (i:Nat) {x:Str} {t:De} {p2 apos cpos:Pos} (h:DE He K Y e t) (hv:autoParam (∀ j,PE (Y j) (.Name x p2) (kh5 i)) u8._auto_1) (hK:autoParam (∀ i,(Y i).K=K) u3._auto_1)
 (hbase:autoParam (∀ j,bs6 (.Name x p2) "append" (Y j).env (eval (.Name x p2) (Y j).env)=eval (.Name x p2) (Y j).env) u3._auto_1)
 (hfew:autoParam (∀ j,((backTo cpos (bd5 [e] (Y j).env)).all (fun x=> !x.1) && (b86 cpos (bx3 [] (Y j).env)).all (fun x=>x.1.isSome)
   && decide (([e]:List Expr).length + ([]:List Keyword).length + (if ([]:List Keyword).isEmpty then 0 else 1) < 30))=true) u3._auto_1)
 (hline:autoParam ((apos.endLine == cpos.line)=true) u4._auto_1) (hs:autoParam (∀ j,bd5 [e] (Y j).env=(false,eval e (Y j).env)::bd5 [] (Y j).env) u3._auto_1) (hplain:autoParam (∀ j,(backTo cpos (bd5 [] (Y j).env)).any (·.1)=false) u3._auto_1)
 (hsw:autoParam (∀ j,bs9 (.Call (.Attribute (.Name x p2) "append" apos) [e] [] cpos) none pos.line (Y j).env=pure false) u3._auto_1):
 DS He K Y (.Expr (.Call (.Attribute (.Name x p2) "append" apos) [e] [] cpos) pos) (sApp i t):=by
 obtain ⟨te,a1,a2⟩:=h
 refine ⟨_,fun j=>kdf (kiz K (hK j) bh7 bo8 bo9 kcw (hv j) (kad (a1 j) kal (hs j)) (hbase j) (hfew j) hline (hs j) (hplain j)) (hsw j),fun D E F s c p=> ?_⟩
 obtain ⟨xs,ex,p⟩:=p
 obtain ⟨a,ys,h1,h2,h3,h4,h5⟩:=F.lstAt ex
 refine ⟨_,h1,.inl ⟨rfl,_,SqL.of h2⟩,a2 _ _ F p fun d v R' H' ⟨hz,q⟩ ee r=> ?_⟩
 have r5:=RpAll.same ee.rr h5
 refine ⟨a,ys,v,rfl,rfl,ee.hh _ _ h2,szlt' (by rw [h5.len];lia),?_⟩
 exact c.nx _ _ _ _ q (s.trans ee.rr) ((F.next ee).lstSet ex h1 (ee.nn _ _ h2 h3) h4 (RpAll.append r5 (.one r)))
noncomputable def kdm (n:Nat) (ds:List ba9):List Dt:=ds.map Dt.d++bf9 (n - ds.length) .un
theorem Fra.begin {H:Hp} {N:List Str} {vs:List V} {ds:List ba9} (he:Same He H) (r:RpAll K H vs ds):Fra He K H H H (L2.start N vs) (kdm N.length ds):=by
 have hl:=r.len
 refine ⟨he,Ext.of_same (Same.refl H),by simp [L2.start,kdm,hl],fun i d h=> ?_,fun i j di dj a h q_ o q_=> ?_⟩
 · by_cases hi:i < ds.length
   · have e1:(kdm N.length ds)[i]?=some (.d ds[i]):=by
      unfold kdm
      rw [bc3 (by rw [ba3];exact hi),be3]
      simp [hi]
     rw [e1] at h;cases h
     obtain ⟨v,hv,rv⟩:=r.get' (i:=i) (d:=ds[i]) (by simp [hi])
     have e2:(L2.start N vs)[i]?=some (some v):=by
      unfold L2.start
      rw [bc3 (by rw [ba3,hl];exact hi),be3,hv];rfl
     rw [e2]
     exact rv
   · have:d= .un:=by
      unfold kdm at h
      rw [bb5 (by rw [ba3];lia),by2] at h
      split at h
      · cases h;rfl
      · cases h
     subst this
     cases ((L2.start N vs)[i]?).join <;> trivial
 · by_cases hi:i < ds.length
   · have e1:(kdm N.length ds)[i]?=some (.d ds[i]):=by
      unfold kdm
      rw [bc3 (by rw [ba3];exact hi),be3]
      simp [hi]
     rw [e1] at h;cases h;cases o
   · have:di= .un:=by
      unfold kdm at h
      rw [bb5 (by rw [ba3];lia),by2] at h
      split at h
      · cases h;rfl
      · cases h
     subst this
     cases o
theorem Fun.okG {P:bb8} {w:World} {mg:Str→Option Value} {base:Heap} {x qual:Str} {st:Stmt} {f:Addr} {fd:bf0} {N ps:List Str} {k:Nat} {Pm:List ba9→(Dt→Prop)→Prop} {T:Ds} (F:Fun K x qual st f fd) (S:FnScope N ps (kag st)) (len: ∀ds RS,Pm ds RS→ds.length=ps.length)
 (hT: ∀(cdv:Value) (A:bf8) (outer:List Env) (s:ba4) (H:Hp) (E:XK),Room k (A.deeper (envOfC qual (kag st) s.heap.objs.size f cdv))→DSs (fun q_=>none) K (fun _:Unit=>(kn3 CX0 P w K mg base N qual (kag st) f cdv A outer s H E).nox) (kby st) T)
 (hR: ∀ds RS,Pm ds RS→T {nx:=fun q_=>RS (.d .none),rt:=RS} (kdm N.length ds)):FnOk P w K mg base CX0 (k + 1) f fd ps (spG K Pm):=by
 refine F.ok S (fun vs H Q E h=> ?_) (fun cdv A outer s H vs Q E hr h=> ?_)
 · obtain ⟨ds,RS,h1,h2,_⟩:=h
   rw [h1.len]
   exact len ds RS h2
 · obtain ⟨ds,RS,h1,h2,k⟩:=h
   obtain ⟨ts,t1,t2⟩:=hT cdv A outer s H E hr
   refine ⟨ts,t1 (),t2 (R0:=H) {nx:=fun q_=>RS (.d .none),rt:=RS} _ (Fra.begin (fun q_ q_ z=>by cases z) h1) (Same.refl H) ⟨fun env' R' H' σ' q q_ F'=>k (.d .none) .non R' H' q F'.ext Rp.non,fun dt v R' H' q e sl=>k dt v R' H' q e sl,fun q_ q_ q_ q_ q=>q.elim,fun q_ q_ q_ q_ q=>q.elim⟩ (hR ds RS h2)⟩
end
section
variable {prog:bb8} {w:World} {A:bf8} {E:Value→ba4→Prop} {s:ba4}
variable {z TI TO i1 i2:Addr} {f1 f2:List Addr} {n1 n2 k1 k2:Nat} {P1 P2:Nat→Value→Prop} {S1 S2:Nat→Heap→Prop} {a b:Value}
end
def SqB (b:Bool) (H:Hp) (a:Addr) (xs:List V):Prop:=H a=some (if b=true then .lst xs else .tup xs)
theorem SqB.inj {b:Bool} {H:Hp} {a:Addr} {xs ys:List V} (h:SqB b H a xs) (h':SqB b H a ys):xs=ys:=by
 unfold SqB at h h'
 rw [h] at h'
 cases b
 · simpa using h'
 · simpa using h'
def kul (b:Bool) (h:Heap) (a:Addr) (its:Array Value):Prop:=if b=true then h.IsList a its else h.IsTuple a its
section
variable {X:Cx} {pins:List (Addr×Obj)} {σ:St} {H:Hp} {s:ba4}
theorem Inv.itemsB {b:Bool} {a:Addr} {xs:List V} (I:Inv X pins σ H s) (h:SqB b H a xs): ∃its:List Value,Vals xs its∧kul b s.heap a its.toArray∧xs.length≤sizeLine:=by
 unfold SqB at h
 unfold kul
 cases b
 · simp only [bn0,if_false] at h ⊢
   obtain ⟨its,r,p,hz⟩:=I.tuple (SqT.of (K:=X.K) h)
   exact ⟨its,r,p,hz⟩
 · simp only [if_true] at h ⊢
   obtain ⟨its,r,p,hz⟩:=I.list (SqL.of (K:=X.K) h)
   exact ⟨its,r,p.isList,hz⟩
theorem Inv.turnedL {fp:List Addr} {p:Addr} {xs:List V} {its:List Value} {h':Heap} {t':Nat} (I:Inv X pins σ H s) (hf: ∀b∈fp,kmu X pins H b) (hk: ∀b o,b ∉ fp→s.heap.get? b=some o→h'.get? b=some o) (hp:p=s.heap.objs.size)
 (hz:xs.length≤sizeLine) (r:Vals xs its) (ht:IsTup h' p its.toArray) (nd:NoD h' p) (hfl: ∀b∈fp,b < s.heap.objs.size):Inv X pins σ (upd H p (.tup xs)) {s with heap:=h',toks:=t'}:=by
 subst hp
 have hn:H s.heap.objs.size=none:=I.hok.fresh (bb6 _)
 have nf: ∀b o,H b=some o→b ∉ fp:=fun b o e z=>by rw [(hf b z).1] at e;cases e
 refine I.call (ch:=fp) (g':=s.gens) (d':=s.drawn) ⟨fun b o e n q_ hc=>hk b o hc e,fun b o e n q_ hc=>⟨o.slots,hk b o hc e⟩,fun b o e n q_=> ?_,fun b o e hc=>⟨o,hk b o hc e⟩,fun b ys e=> ?_,fun b o u e=> ?_,fun b ps e=>⟨#[],?_⟩⟩ (fun b o e=> ?_) I.bare fun b hb=> ?_
 · rw [kak (bf3 (bd7 e))];exact n
 · rw [kak (kai e hn)];exact e
 · rw [kak (kai e hn)];exact e
 · rw [kak (kai e hn),e];simp
 · by_cases hb:b=s.heap.objs.size
   · subst hb
     rw [kaf] at e;cases e
     exact ⟨⟨nd,hz⟩,its,r,ht⟩
   · rw [kak hb] at e
     refine (I.hok b o e).stay (fun c u hc q=>hk c u ?_ q) (fun c q=>by rw [kak (kai q hn)];exact q) fun c ys q=>by rw [kak (kai q hn)];exact q
     rcases hc with rfl | hc
     · exact nf _ _ e
     · exact nf _ _ hc
 · obtain ⟨f0,f1,f2,f3,f4,f5⟩:=hf b hb
   exact ⟨f3,f1,f4,f5⟩
theorem Inv.turnedN {fp:List Addr} {h':Heap} {t':Nat} (I:Inv X pins σ H s) (hf: ∀b∈fp,kmu X pins H b) (hk: ∀b o,b ∉ fp→s.heap.get? b=some o→h'.get? b=some o):Inv X pins σ H {s with heap:=h',toks:=t'}:=by
 have nf: ∀b o,H b=some o→b ∉ fp:=fun b o e z=>by rw [(hf b z).1] at e;cases e
 refine I.call (ch:=fp) (g':=s.gens) (d':=s.drawn) ⟨fun b o e n q_ hc=>hk b o hc e,fun b o e n q_ hc=>⟨o.slots,hk b o hc e⟩,fun b o e n q_=>n,fun b o e hc=>⟨o,hk b o hc e⟩,fun b ys e=>e,fun b o u e=>e,fun b ps e=>⟨#[],?_⟩⟩ (fun b o e=> ?_) I.bare fun b hb=> ?_
 · rw [e];simp
 · refine (I.hok b o e).stay (fun c u hc q=>hk c u ?_ q) (fun c q=>q) fun c ys q=>q
   rcases hc with rfl | hc
   · exact nf _ _ e
   · exact nf _ _ hc
 · obtain ⟨f0,f1,f2,f3,f4,f5⟩:=hf b hb
   exact ⟨f3,f1,f4,f5⟩
end
section
variable {a b c d e:Addr}
theorem k0h {α:Type} {l:List α} {i:Nat} (h:i < l.length):l[i]?=some l[i]:=bb2 h
end
section
variable {prog:bb8} {w:World} {A:bf8} {E:Value→ba4→Prop} {s:ba4}
end
section
variable {X:Cx} {elts:List Expr} {kk:Nat} {tpos:Pos}
end
section
variable {He:Hp} {K:ba0} {ι:Type} {Y:ι→Cx} {a b:Expr} {pos:Pos} {elts:List Expr} {kk:Nat} {tpos:Pos}
end
theorem kwz (bs:List Bool):((ba5 bs.length).all fun i=>(bs[i]?).getD true)=bs.all id:=by
 rw [bh0,bn6,bn6]
 constructor
 · intro h b hb
   obtain ⟨i,hi,e⟩:=bg0 hb
   have:=h i (ba7.mpr hi)
   simp only [bb2 hi,bs7,e] at this
   exact this
 · intro h i hi
   have hi':=ba7.mp hi
   simp only [bb2 hi',bs7]
   exact h _ (be8 hi')
section
variable {X:Cx}
theorem kw0 {bs:List Bool} {its:List Value} {i:Nat} {v:Value} (r:Vals (bs.map V.bl) its) (h:its[i]?=some v): ∃b,bs[i]?=some b∧v= .bool b:=by
 have hl:=r.length
 rw [ba3] at hl
 have hi:i < its.length:=(bb1.mp h).1
 obtain ⟨u,hu,ru⟩:=r.get (i:=i) (x:=V.bl (bs[i]'(by lia))) (by simp [show i < bs.length by lia])
 rw [h] at hu
 cases hu
 exact ⟨_,by simp [show i < bs.length by lia],ru⟩
theorem kr9 (K:ba0) (hc:X.calm=true) (hK:X.K=K):CallR X (.builtin "all") (fun xs H Q=>∃(p:Addr) (bs:List Bool),xs=[.ref p]∧SqL K H p (bs.map V.bl)∧Q (.bl (bs.all id)) H):=by
 subst hK
 intro pins s σ H xs us Q I r h
 obtain ⟨p,bs,rfl,hq,q⟩:=h
 obtain ⟨u,rfl,rx⟩:=kd0 r
 cases rx
 obtain ⟨its,rv,pl,hz⟩:=I.list hq
 have hl:=pl.isList
 have hlt:p < s.heap.objs.size:=by obtain ⟨_,e,_⟩:=hl;exact bd7 e
 have hh:X.A.in1.handled=none:=I.ok.hd hc
 refine call_all_walk (bz9 hl ?_)
 refine ⟨s.heap.objs.size,[s.heap.objs.size,p],[s.heap.objs.size],its.toArray.size,_,_,fun i=>(bs[i]?).getD true,rfl,cn9 (A:=X.A.in1) hh _ p (bf3 hlt) its.toArray,
  ⟨⟨_,bd8 _ rfl,rfl,rfl⟩,hl.push _⟩,fun i v s' Q' E' hP hQ=> ?_,fun h' tk hk=> ?_⟩
 · obtain ⟨b,e,rfl⟩:=kw0 rv (i:=i) (v:=v) (by simpa using hP)
   simp only [e,bs7] at hQ
   exact bm3 hQ
 · have e:((ba5 its.toArray.size).all fun i=>(bs[i]?).getD true)=bs.all id:=by
    rw [bc8,← rv.length,ba3];exact kwz bs
   rw [e]
   have kp: ∀b o,s.heap.get? b=some o→h'.get? b=some o:=fun b x e=>hk b x (fun hm=>by rw [bc2.mp hm] at e;exact bk1 _ (bd7 e)) (bb0 _ e)
   exact ⟨.bl _,H,I.kept kp,rfl,q⟩
end
section
variable {He:Hp} {K:ba0} {ι:Type} {Y:ι→Cx} {e a b:Expr} {pos:Pos}
theorem k0i:bootBuiltins "all"=some (.builtin "all"):=by decide +kernel
def xAll (t:Dq):De:=fun env P=>t env fun l=>∃bs:List Bool,l=bs.map cn4∧P (.bool (bs.all id))
theorem kop {t:Dq} {p:Pos} (h:DL He K Y a t) (hm: ∀i,(Y i).mg "all"=none) (hc:autoParam (∀ i,(Y i).calm=true) u3._auto_1) (hg:autoParam (∀ i,Gl (Y i) "all") u3._auto_1) (hK:autoParam (∀ i,(Y i).K=K) u3._auto_1) (hs:autoParam (∀ i,bd5 [a] (Y i).env=[(false,eval a (Y i).env)]) u3._auto_1):
 DE He K Y (.Call (.Name "all" p) [a] [] pos) (xAll t):=by
 obtain ⟨te,h1,h2⟩:=h
 refine ⟨_,fun i=>kbe (kr9 K (hc i) (hK i)) (hg i) (hm i) k0i (kad (h1 i) kal (hs i)) (by decide) (by decide) (hs i),fun P Q F p k=>h2 _ _ F p fun l x ys R1 H1 ⟨bs,hb,q1⟩ e1 s1 r1=> ?_⟩
 subst hb
 rw [RpAll.bools_inv r1] at s1
 exact ⟨x,bs,rfl,SqL.of s1,k _ _ R1 H1 q1 e1 (.bl _)⟩
end
section
variable {X:Cx}
theorem koq (K:ba0) (hu:X.A.units + 10 < cLine) (h:autoParam (X.K=K) u4._auto_1):OpR X (bh4 .NotIn) (fun x y H Q=>∃p xs ds dx,y= .ref p∧(SqL K H p xs∨SqT K H p xs)∧RpAll K H xs ds∧Rp K H x dx∧be1 ds=true∧dx.canLay0=true∧dx.depth≤9∧Q (.bl (!(ds.any fun d=>bi2 d dx))) H):=by
 subst h
 intro pins s σ H x y v u Q I rx ry h
 obtain ⟨p,xs,ds,dx,rfl,hq,ha,hx,l1,l2,hd,q⟩:=h
 cases ry
 obtain ⟨as,ra⟩:=I.reads hx rx l2
 have hu1:X.A.in1.units + dx.depth < cLine:=by show X.A.units + 1 + dx.depth < cLine;lia
 rcases hq with hq | hq
 · obtain ⟨its,r,pl,hz⟩:=I.list hq
   obtain ⟨bs,rb⟩:=I.readsAll ha r l1
   refine SeqAt.notIn_listAt (eqR s.heap dx) pl.isList (fun w hw=>kfs ra l2 hu1 rb l1 w (by simpa using hw)) ⟨.bl _,H,I,rfl,?_⟩
   rw [show its.toArray.any (eqR s.heap dx)=its.any (eqR s.heap dx) by simp,kfr rb l1]
   exact q
 · obtain ⟨its,r,pl,hz⟩:=I.tuple hq
   obtain ⟨bs,rb⟩:=I.readsAll ha r l1
   refine SeqAt.notIn_tupleAt (eqR s.heap dx) pl (fun w hw=>kfs ra l2 hu1 rb l1 w (by simpa using hw)) ⟨.bl _,H,I,rfl,?_⟩
   rw [show its.toArray.any (eqR s.heap dx)=its.any (eqR s.heap dx) by simp,kfr rb l1]
   exact q
end
section
variable {He:Hp} {K:ba0} {ι:Type} {Y:ι→Cx} {e a b c:Expr} {es:List Expr} {pos:Pos} {lo hi:Option Expr}
def kjz:ba9→ba9→(ba9→Prop)→Prop:=fun x y P=>∃l,kud y=some l∧be1 l=true∧okD x∧kk8 x∧P (.bool (!(l.any fun d=>bi2 d x)))
theorem klc (hu: ∀i,(Y i).A.units + 10 < cLine) (hK:autoParam (∀ i,(Y i).K=K) u3._auto_1):OD K Y (bh4 .NotIn) kjz:=by
 refine ⟨_,fun i=>koq K (hu i) (hK i),fun P Q r1 r2 p k=> ?_⟩
 obtain ⟨l,h1,h2,h3,h4,p⟩:=p
 obtain ⟨a,ys,rfl,h5,h6⟩:=kg5 r2 h1
 exact ⟨a,ys,l,_,rfl,h5,h6,r1,h2,h3,h4,k _ _ p (kue _)⟩
theorem RpAll.erase {R:Hp}: ∀{vs:List V} {ds:List ba9} (j:Nat),RpAll K R vs ds→RpAll K R (vs.eraseIdx j) (ds.eraseIdx j)
 | _,_,_,.nil=> .nil
 | _,_,0,.cons _ t=>t
 | _,_,j + 1,.cons x t=> .cons x (RpAll.erase j t)
def kum (t:Db) (tb:Ds):Ds:=fun D env=>∃(I:Nat→List Dt→Prop),(∃ m,I m env)∧∀m env1,I m env1→t env1 fun b=>if b=true then tb {nx:=fun e=>∃m',m' < m∧I m' e,rt:=D.rt,bk:=D.nx,ct:=fun e=>∃m',m' < m∧I m' e} env1 else D.nx env1
theorem kld {t:Db} {tb:Ds} {body:List Stmt} (hp: ∀i,PassesOwn (model (Y i).prog (Y i).w) (Y i).A (Y i).env (Y i).xe) (hc:DT He K Y c t) (hb:DSs He K Y body tb):DS He K Y (.While c body [] pos) (kum t tb):=by
 obtain ⟨ct,c1,c2⟩:=hc
 obtain ⟨bt,b1,b2⟩:=hb
 refine ⟨_,fun j=>krv (hp j) (c1 j) (b1 j),fun {H0 R0 R H σ env} D E F s c p=> ?_⟩
 obtain ⟨I,⟨m0,p0⟩,hI⟩:=p
 refine ⟨fun m σ2 H2=>∃R2 env2,Fra He K H0 R2 H2 σ2 env2∧Same R0 R2∧I m env2,⟨m0,R,env,F,s,p0⟩,?_⟩
 rintro m σ2 H2 ⟨R2,env2,F2,s2,p2⟩
 refine c2 _ _ F2 (hI m env2 p2) fun b R3 H3 q e3=> ?_
 cases b with
 | true=>
   rw [if_pos rfl] at q
   refine ⟨fun σ' H'=>∃m',m' < m∧∃R2 env2,Fra He K H0 R2 H' σ' env2∧Same R0 R2∧I m' env2,fun σ' H' ⟨m',h1,h2⟩=>⟨m',h1,h2⟩,?_⟩
   refine b2 (R0:=R0) {nx:=fun e=>∃m',m' < m∧I m' e,rt:=D.rt,bk:=D.nx,ct:=fun e=>∃m',m' < m∧I m' e} _ (F2.next e3) (s2.trans e3.rr) ⟨fun env' R' H' σ' ⟨m',h1,h2⟩ s' F'=>⟨m',h1,R',env',F',s',h2⟩,c.rt,fun env' R' H' σ' q s' F'=>c.nx _ _ _ _ q s' F',fun env' R' H' σ' ⟨m',h1,h2⟩ s' F'=>⟨m',h1,R',env',F',s',h2⟩⟩ q
 | false=>
   rw [if_neg bb3] at q
   exact c.nx _ _ _ _ q (s2.trans e3.rr) (F2.next e3)
end
theorem k0j (x:ba9):kv8 (.d x)=some x:=rfl
theorem k0k (x:List ba9):kv8 (.o x)=some (.list x):=rfl
theorem k0l (xs:List ba9):kud (.list xs)=some xs:=rfl
theorem k0m (xs:List ba9):kud (.tuple xs)=some xs:=rfl
theorem kor (ns:List Int):kud (kg3 ns)=some (ns.map ba1):=by
 show (if excK (ns.map fun n=>(ba1 n,bm9))=true then none else some ((ns.map fun n=>(ba1 n,bm9)).map (·.1)))=_
 rw [kg4,if_neg bb3,bc1];rfl
def Gf {α:Type} (l:List α) (f:α→ba9) (q:α→Bool) (h:α→ba9):ba9→Option ba9→Prop:=fun y z=>∃x,x∈l∧y=f x∧((q x=true∧z=some (h x))∨(q x=false∧z=none))
theorem Gf.keep {α:Type} {l:List α} {f:α→ba9} {q:α→Bool} {h:α→ba9} {x:α} {z:ba9} (hx:x∈l) (hq:q x=true) (hz:z=h x):Gf l f q h (f x) (some z):=⟨x,hx,rfl,.inl ⟨hq,by rw [hz]⟩⟩
theorem Gf.skip {α:Type} {l:List α} {f:α→ba9} {q:α→Bool} {h:α→ba9} {x:α} (hx:x∈l) (hq:q x=false):Gf l f q h (f x) none:=⟨x,hx,rfl,.inr ⟨hq,rfl⟩⟩
theorem Gf.out {α:Type} {l0:List α} {f:α→ba9} {q:α→Bool} {h:α→ba9} (hf: ∀a b,f a=f b→a=b): ∀{l:List α} {o:List ba9},LcR (Gf l0 f q h) (l.map f) o→o=(l.filter q).map h
 | [],_,.nil=>rfl
 | x::l,_,.skip a b=>by
   obtain ⟨x',_,e,hz⟩:=a
   have e:=hf _ _ e
   subst e
   rcases hz with ⟨_,z⟩ | ⟨hq,_⟩
   · cases z
   · rw [bn1 (by rw [hq];exact bb3)]
     exact Gf.out hf b
 | x::l,_,.keep a b=>by
   obtain ⟨x',_,e,hz⟩:=a
   have e:=hf _ _ e
   subst e
   rcases hz with ⟨hq,z⟩ | ⟨_,z⟩
   · rw [bl2 hq,bg5]
     cases z
     exact congrArg _ (Gf.out hf b)
   · cases z
theorem Gf.all {α:Type} {l0:List α} {f:α→ba9} {h:α→ba9} (hf: ∀a b,f a=f b→a=b) {o:List ba9} (r:LcR (Gf l0 f (fun q_=>true) h) (l0.map f) o):o=l0.map h:=by
 rw [Gf.out hf r,b39.mpr fun q_ q_=>rfl]
theorem kcl: ∀a b:Int,ba1 a=ba1 b→a=b:=fun q_ q_ h=>b59 h
theorem kj0: ∀a b:Nat,ba1 (a:Int)=ba1 (b:Int)→a=b:=fun q_ q_ h=>bv3 (b59 h)
theorem ksa: ∀a b:Int×Int,cm7 [.int a.1,.int a.2]=cm7 [.int b.1,.int b.2]→a=b:=fun a b h=>by
 injection h with h
 injection h with h1 h2
 injection h2 with h2 _
 exact bt5 (b59 h1) (b59 h2)
theorem k0n (n:Nat):kfk 0 n=(ba5 n).map fun (i:Nat)=>ba1 (i:Int):=by
 unfold kfk
 exact bi8 fun a q_=>by rw [b15]
theorem all_map {α:Type} (l:List α) (p:α→Bool):(l.map p).all id=l.all p:=by rw [List.all_map];rfl
theorem knn {c:Bool} {A B:Prop} (hc:c=false) (h:B):if c=true then A else B:=by
 subst hc
 exact h
theorem kbo {t u:Ds} {D:DEnds} {env:List Dt} (G:List Dt→Prop) (h1: ∀N:List Dt→Prop,(∀ e,G e→N e)→t {D with nx:=N} env) (h2: ∀e,G e→u D e):sSeq t u D env:=h1 (u D) h2
section
variable {X:Cx}
theorem km2 {prog:bb8} {w:World} {A:bf8} {E:Value→ba4→Prop} {s:ba4} {l:Addr} {vs:List Value} {ns:List Int} {k:Int} {t:Tok} {Q:Value→ba4→Prop} (hl:s.heap.IsList l vs.toArray) (hi:IntsAre vs ns)
 (hb:ns.length < 2 ^ 62) (hk:k∈ns) (h:Q (.int (ns.idxOf k:Nat) s.toks) {s with toks:=s.toks + 1}):
 wpAny (model prog w) A (call (.builtin "list.index") [.ref l,.int k t]) Q E s:=by
 obtain ⟨⟨cls,dd,data,sl⟩,ho,hc,n,hd⟩:=id hl
 simp only at hc hd
 subst hc hd
 have hlen:=hi.length
 have hj:ns.idxOf k < ns.length:=bi9.mpr hk
 refine b65 b80 ⟨_,ho,rfl⟩ PySem.F.entry_list_index (PySem.F.args_list_index_2 _ _)
  (PySem.SeqAt.list_indexAt l vs.toArray n dd sl (.int k t) (isInt k) (ns.idxOf k) (by simpa [hlen] using hj) (by lia) ?_ ?_) ⟨ho,fun y hy=>(eq_isInt k t hi y (by simpa using hy)).at _ _,h⟩
 · show isInt k vs[ns.idxOf k]=true
   rw [isInt_at k hi _ (by lia) hj]
   simpa using bt6 hj
 · intro j hjs hlt
   show isInt k vs[j]=false
   rw [isInt_at k hi j (by simpa using hjs) (by lia)]
   exact ne_of_lt_idxOf hlt _
theorem ksb (K:ba0) (hK:X.K=K):MtR X "list.index" (fun x xs H Q=>∃(p:Addr) (ns:List Int) (k:Int),x= .ref p∧xs=[.int k]∧SqL K H p (ns.map V.int)∧k∈ns∧Q (.int (ns.idxOf k:Nat)) H):=by
 subst hK
 intro pins s σ H x xs v us Q I rx rs h
 obtain ⟨p,ns,k,rfl,rfl,hq,hk,q⟩:=h
 cases rx
 obtain ⟨u,rfl,t,rfl⟩:=Vals.one rs
 obtain ⟨its,rv,pl,hz⟩:=I.list hq
 have hz:ns.length≤sizeLine:=by rw [ba3] at hz;exact hz
 have hs:sizeLine < 2 ^ 62:=by decide
 exact km2 pl.isList (kgl rv) (by lia) hk ⟨.int _,H,I.tok _,⟨_,rfl⟩,q⟩
end
section
variable {He:Hp} {K:ba0} {ι:Type} {Y:ι→Cx} {e a b:Expr} {pos:Pos}
def kos (t:Dq) (u:De):De:=fun env P=>t env fun l=>u env fun d=>∃(ns:List Int) (k:Int),l=ns.map ba1∧d= .int k∧k∈ns∧P (.int (ns.idxOf k:Nat))
theorem kle {t:Dq} {u:De} {apos cpos:Pos} (ho:DL He K Y a t) (h:DB He K Y e u) (hK:autoParam (∀ i,(Y i).K=K) u3._auto_1)
 (hbase:autoParam (∀ j,bs6 a "index" (Y j).env (eval a (Y j).env)=eval a (Y j).env) u3._auto_1)
 (hfew:autoParam (∀ j,((backTo cpos (bd5 [e] (Y j).env)).all (fun x=> !x.1) && (b86 cpos (bx3 [] (Y j).env)).all (fun x=>x.1.isSome)
   && decide (([e]:List Expr).length + ([]:List Keyword).length + (if ([]:List Keyword).isEmpty then 0 else 1) < 30))=true) u3._auto_1)
 (hline:autoParam ((apos.endLine == cpos.line)=true) u4._auto_1) (hs:autoParam (∀ j,bd5 [e] (Y j).env=(false,eval e (Y j).env)::bd5 [] (Y j).env) u3._auto_1) (hplain:autoParam (∀ j,(backTo cpos (bd5 [] (Y j).env)).any (·.1)=false) u3._auto_1):
 DE He K Y (.Call (.Attribute a "index" apos) [e] [] cpos) (kos t u):=by
 obtain ⟨te,a1,a2⟩:=ho
 obtain ⟨te',b1,b2⟩:=h
 refine ⟨_,fun j=>kiz K (hK j) bh7 b80 PySem.F.type_list_index (ksb K (hK j)) (a1 j) (kad (b1 j) kal (hs j)) (hbase j) (hfew j) hline (hs j) (hplain j),fun P Q F p k=> ?_⟩
 refine a2 _ _ F p fun l x ys R1 H1 q1 e1 s1 r1=> ?_
 refine ⟨.inl ⟨rfl,_,SqL.of s1⟩,b2 _ _ (F.next e1) q1 fun d v R2 H2 ⟨ns,m,hl,hd,hm,q2⟩ e2 r2=> ?_⟩
 subst hl hd
 have ev:=r2.int_inv
 subst ev
 have ey:=RpAll.ints_inv r1
 subst ey
 exact ⟨x,ns,m,rfl,rfl,SqL.of (e2.hh _ _ s1),hm,k _ _ R2 H2 q2 (e1.trans e2) (.int _)⟩
def kw1 (i:Nat) (t:De):Ds:=fun D env=>∃xs,env[i]?=some (.o xs)∧t env fun d=>∃j:Nat,d= .int (j:Int)∧j < xs.length∧j≤100000∧D.nx (env.set i (.o (xs.eraseIdx j)))
theorem kw2 (i:Nat) {x:Str} {t:De} {p2 apos cpos:Pos} (h:DB He K Y e t) (hv:autoParam (∀ j,PE (Y j) (.Name x p2) (kh5 i)) u8._auto_1) (hK:autoParam (∀ i,(Y i).K=K) u3._auto_1)
 (hbase:autoParam (∀ j,bs6 (.Name x p2) "pop" (Y j).env (eval (.Name x p2) (Y j).env)=eval (.Name x p2) (Y j).env) u3._auto_1)
 (hfew:autoParam (∀ j,((backTo cpos (bd5 [e] (Y j).env)).all (fun x=> !x.1) && (b86 cpos (bx3 [] (Y j).env)).all (fun x=>x.1.isSome)
   && decide (([e]:List Expr).length + ([]:List Keyword).length + (if ([]:List Keyword).isEmpty then 0 else 1) < 30))=true) u3._auto_1)
 (hline:autoParam ((apos.endLine == cpos.line)=true) u4._auto_1) (hs:autoParam (∀ j,bd5 [e] (Y j).env=(false,eval e (Y j).env)::bd5 [] (Y j).env) u3._auto_1) (hplain:autoParam (∀ j,(backTo cpos (bd5 [] (Y j).env)).any (·.1)=false) u3._auto_1)
 (hsw:autoParam (∀ j,bs9 (.Call (.Attribute (.Name x p2) "pop" apos) [e] [] cpos) none pos.line (Y j).env=pure false) u3._auto_1):
 DS He K Y (.Expr (.Call (.Attribute (.Name x p2) "pop" apos) [e] [] cpos) pos) (kw1 i t):=by
 obtain ⟨te,a1,a2⟩:=h
 refine ⟨_,fun j=>kdf (kiz K (hK j) bh7 b16 b17 kg2 (hv j) (kad (a1 j) kal (hs j)) (hbase j) (hfew j) hline (hs j) (hplain j)) (hsw j),fun D E F s c p=> ?_⟩
 obtain ⟨xs,ex,p⟩:=p
 obtain ⟨a,ys,h1,h2,h3,h4,h5⟩:=F.lstAt ex
 refine ⟨_,h1,.inl ⟨rfl,_,SqL.of h2⟩,a2 _ _ F p fun d v R' H' ⟨j,hj,hl,hb,q⟩ ee r=> ?_⟩
 subst hj
 have ev:=r.int_inv
 subst ev
 have r5:=RpAll.same ee.rr h5
 have hjl:j < ys.length:=by rw [h5.len];exact hl
 refine ⟨a,ys,(j:Int),j,ys[j],rfl,rfl,ee.hh _ _ h2,by lia,by lia,b69 (by lia) (by lia),bb2 hjl,?_⟩
 exact c.nx _ _ _ _ q (s.trans ee.rr) ((F.next ee).lstSet ex h1 (ee.nn _ _ h2 h3) h4 (RpAll.erase j r5))
end
section
variable {He:Hp} {K:ba0} {ι:Type} {Y:ι→Cx} {e:Expr}
end
section
variable {prog:bb8} {w:World} {A:bf8} {E:Value→ba4→Prop} {s:ba4}
end
section
variable {X:Cx}
end
section
variable {He:Hp} {K:ba0} {ι:Type} {Y:ι→Cx} {a:Expr} {pos:Pos}
end
section
variable {X:Cx}
end
section
variable {He:Hp} {K:ba0} {ι:Type} {Y:ι→Cx}
end
def F2 (h h':Heap):Prop:=∀b o vs,h.get? b=some o→o.data= .fields vs→∃o' vs',h'.get? b=some o'∧o'.data= .fields vs'∧vs'[2]?=vs[2]?∧o'.cls=o.cls∧vs'[0]?=vs[0]?
section
variable {M:Model} {A:bf8} {E:Value→ba4→Prop} {s:ba4} {base:Heap} {env env':Env} {outer:List Env} {L e T:Addr}
end
section
variable {M:Model} {A:bf8} {E:Value→ba4→Prop} {s:ba4} {base h0:Heap} {H:Hp} {env:Env} {outer:List Env} {L e:Addr} {C:Value} {Q:Unit→ba4→Prop}
end
theorem ObjOk.sits {P:bb8} {w:World} {H:Hp} {h:Heap} {a:Addr} {o:HO} (x:ObjOk P w H h a o): ∃u,h.get? a=some u:=by
 cases o with
 | lst xs=>obtain ⟨_,_,_,_,e⟩:=x;exact ⟨_,e⟩
 | tup xs=>obtain ⟨_,_,_,o,e,_⟩:=x;exact ⟨_,e⟩
 | dK kvs=>obtain ⟨_,_,_,_,o,_,_,e,_⟩:=x;exact ⟨_,e⟩
 | dT kvs=>obtain ⟨_,_,_,_,o,_,_,e,_⟩:=x;exact ⟨_,e⟩
 | set S n=>obtain ⟨o,_,_,_,e,_⟩:=x;exact ⟨_,e⟩
 | ins C dx fs=>obtain ⟨_,_,_,e,_⟩:=x;exact ⟨_,e⟩
 | own y=>obtain ⟨_,e⟩:=x;exact ⟨_,e⟩
 | xd fs=>obtain ⟨_,⟨_,_,_,e,_⟩,_⟩:=x;exact ⟨_,e⟩
 | rng lo hi=>obtain ⟨_,_,_,e⟩:=x;exact ⟨_,e⟩
 | frz ob u=>obtain ⟨e,_⟩:=x;exact ⟨_,e⟩
 | tbl ps=>exact ⟨_,(show h.get? a=some _ from x)⟩
 | met f y=>exact ⟨_,(show h.get? a=some _ from x)⟩
 | ext φ=>obtain ⟨_,⟨_,e⟩,_⟩:=x;exact ⟨_,e⟩
theorem HOk.gone {P:bb8} {w:World} {H:Hp} {h:Heap} (x:HOk P w H h) {a:Addr} (e:h.get? a=none):H a=none:=by
 cases q:H a with
 | none=>rfl
 | some o=>
   obtain ⟨u,z⟩:=(x a o q).sits
   rw [e] at z;cases z
section
variable {P:bb8} {w:World} {K:ba0} {mg:Str→Option Value} {base:Heap} {N:List Str} {qual:Str} {scope:Scope} {f:Addr} {cd:Value} {A:bf8} {outer:List Env} {s:ba4} {H:Hp} {E:XK}
end
section
variable {P:bb8} {w:World} {K:ba0} {mg:Str→Option Value} {base:Heap} {N:List Str} {qual:Str} {scope:Scope} {f:Addr} {cd:Value} {A:bf8} {outer:List Env} {s:ba4} {H:Hp} {E:XK} {x:Str} {C:Addr} {np cpos pos:Pos} {msg:Str} {jj:Nat} {mp:Pos}
end
section
variable {X:Cx} {k:Nat} {f:Addr} {fd:bf0} {ps:List Str} {x:Str} {p pos:Pos} {e:Expr} {es:List Expr} {t:TA} {K:ba0} {P:List ba9→(Dt→Prop)→(Addr→Prop)→Prop}
end
section
variable {X:Cx} {k:Nat} {f:Addr} {fd:bf0} {ps:List Str} {x:Str} {p pos:Pos} {e:Expr} {es:List Expr} {t:TA} {K:ba0} {P:List ba9→(Dt→Prop)→(Addr→Prop)→Prop} {E:XK}
end
section
variable {He:Hp} {K:ba0} {ι:Type} {Y:ι→Cx} {e:Expr} {es:List Expr} {pos p:Pos} {prog:bb8} {w:World} {mg:Str→Option Value} {base:Heap} {x:Str} {k:Nat} {ps:List Str} {P:List ba9→(Dt→Prop)→(Addr→Prop)→Prop} {t:Dq} {E:XK} {W:Addr→Prop}
end
section
variable {P:bb8} {w:World} {K:ba0} {mg:Str→Option Value} {base:Heap} {N:List Str} {qual:Str} {scope:Scope} {f:Addr} {cd:Value} {A:bf8} {outer:List Env} {s:ba4} {H:Hp} {E:XK} {x:Str} {C:Addr} {np cpos pos:Pos} {msg:Str} {jj:Nat} {mp:Pos} {W:Addr→Prop}
end
section
variable {M:Model} {A:bf8} {E:Value→ba4→Prop} {C D:Addr}
variable {nm q:Str} {N:Addr} {bs bm:List Value} {hdct:Bool} {sn:List Str} {sub:List Value} {ab:Bool} {col:Option Bool} {dd:Option Addr} {k0 k1 k2 k3 k5:Option Value} {newId:String}
variable {nm' q':Str} {N':Addr} {bs' bm':List Value} {hdct':Bool} {sn':List Str} {sub':List Value} {ab':Bool} {col':Option Bool} {dd':Option Addr} {k0' k1' k2' k3' k5':Option Value} {newId':String}
end
section
variable {prog:bb8} {w:World} {A:bf8} {E:Value→ba4→Prop} {s:ba4} {base h0:Heap} {H:Hp} {env:Env} {outer:List Env} {L e C D:Addr} {Q:Flow→ba4→Prop} {x n:Str} {b₀:Stmt} {suite:List Stmt} {pos np:Pos} {kdc:List ExceptHandler}
end
section
variable {X:Cx} {pins:List (Addr×Obj)} {σ:St} {H:Hp} {s:ba4}
end
end L2
namespace L2
open PySem PySem.Spec PySem.W PySem.Calls PyProof.Rows Builtin Builtin.ObjectAttr Builtin.Getset_descriptor
section
variable {prog:bb8} {w:World} {A:bf8} {E:Value→ba4→Prop} {h:Heap} {g:Array GenState} {d:Drawn} {t:Nat} {os:OsState} {a D:Addr} {o:Obj} {K:ba0}
end
end L2
namespace L2
open PySem PySem.Spec PyProof.Rows
section
variable {X:Cx} {pins:List (Addr×Obj)} {σ:St} {H:Hp} {s:ba4}
end
section
variable {P:bb8} {w:World} {K:ba0} {mg:Str→Option Value} {base:Heap}
end
section
variable {He:Hp} {K:ba0} {ι:Type} {Y:ι→Cx} {a:Expr} {pos:Pos}
end
def clsA (K:ba0) (nm:Str) (c:Addr):Prop:=bh9 K bf5 nm=some (some (.ref c))
noncomputable def k0o:List Value:=[.type "ValueError",.type "Exception",.type "BaseException",.type "object"]
noncomputable def xOk (K:ba0) (C:Addr):Bool:=PySem.W.excIn K C k0o "ValueError.__new__" && (PySem.W.clsIn K C).isSome && b07 K (.ref C) "__getattribute__" == some (some (.builtin "BaseException.__getattribute__")) && b07 K (.ref C) "__getattr__" == some none &&
 b07 K (.ref C) "__class__" == some (some (.builtin "object.__class__")) && cc8 K C (.type "object") == some true && cc8 K C (.type "BaseException") == some true
section
variable {P:bb8} {w:World} {K:ba0} {mg:Str→Option Value} {base:Heap}
end
structure XC (K:ba0) (mg:Str→Option Value) (nm:Str) (c:Addr):Prop where
 a:clsA K nm c
 m:mg nm=some (.ref c)
 ok:xOk K c=true
section
variable {prog:bb8} {w:World} {A:bf8} {E:Value→ba4→Prop}
end
section
variable {X:Cx} {pins:List (Addr×Obj)} {σ:St} {H:Hp} {s:ba4} {C:Addr} {x:Str} {np cpos pos mp pp:Pos} {msg:Str} {jj kk:Nat} {Q:Value→ba4→Prop} {E:Value→ba4→Prop}
end
section
variable {P:bb8} {w:World} {K:ba0} {mg:Str→Option Value} {base:Heap} {N:List Str} {qual:Str} {scope:Scope} {f:Addr} {cd:Value} {A:bf8} {outer:List Env} {s:ba4} {H:Hp} {E:XK} {x c:Str} {C D:Addr} {np np2 cpos rpos hpos pos mp pp:Pos} {msg:Str} {jj kk:Nat} {W:Addr→Prop} {body:List Stmt} {t:Ds}
end
section
variable {P:bb8} {w:World} {K:ba0} {mg:Str→Option Value} {base:Heap} {N:List Str} {qual:Str} {scope:Scope} {f:Addr} {cd:Value} {A:bf8} {outer:List Env} {s:ba4} {H:Hp} {E:XK}
end
section
variable {X:Cx} {scope:Scope} {N':List Str} {s:ba4} {H:Hp} {fp:List Addr}
end
section
variable {P:bb8} {w:World} {K:ba0} {mg:Str→Option Value} {base:Heap} {N:List Str} {qual:Str} {fscope:Scope} {f:Addr} {cd:Value} {A:bf8} {outer:List Env} {s0:ba4} {H0:Hp} {E0:XK}
variable {scope:Scope} {N':List Str} {js:List (Option Nat)} {elt tg iter:Expr} {ifs:List Expr} {pos:Pos} {wi:TI} {g:TG} {tc:TT} {te:TE} {Wc:Addr→Prop}
end
section
variable {He:Hp} {K:ba0} {ι:Type} {Y:ι→Cx} {e tg:Expr} {pos:Pos} {ts:List Nat}
end
section
variable {He:Hp} {K:ba0} {ι:Type} {Y:ι→Cx} {e:Expr} {pos:Pos}
end
end L2
namespace L2
open PySem PySem.Spec PySem.W PyProof.Rows
section
variable {key:Nat→Int} {N:Nat} {cmp:Nat→Nat→(Bool→ba4→Prop)→ba4→Prop} {s:ba4}
variable (hc: ∀(i j:Nat) (C:Bool→ba4→Prop),i < N→j < N→C (decide (key i < key j)) s→cmp i j C s) (h0:0 < N)
include hc h0
end
end L2
namespace L2
open PySem PySem.Spec PySem.W PySem.Calls PyProof.Rows
section
variable {prog:bb8} {w:World} {A:bf8} {E:Value→ba4→Prop} {s:ba4}
theorem kw3 {x y:Addr} {ox oy:Obj} {n k:Nat} {a b c d:Int} {t1 t2 t3 t4:Tok} {Q:Bool→ba4→Prop} (hx:s.heap.get? x=some ox) (dx:ox.data= .seq #[.int a t1,.int b t2] n) (hy:s.heap.get? y=some oy) (dy:oy.data= .seq #[.int c t3,.int d t4] k)
 (hu:A.units < cLine) (h:Q (decide (a < c∨a=c∧b < d)) s):wpAny (model prog w) A (keyLt' (tuples' true) (.ref x) (.ref y)) Q E s:=by
 refine kat_lt hx dx hy dy (cj2 (bq4 ?_))
 by_cases e1:a=c
 · subst e1
   rw [show (a == a)=true by simp]
   refine cl4 (cj2 (bq4 ?_))
   by_cases e2:b=d
   · subst e2
     rw [show (b == b)=true by simp]
     refine cl4 (kat_nil ?_)
     have:decide (a < a∨a=a∧b < b)=false:=by simp
     rw [this] at h
     exact h
   · rw [show (b == d)=false by simp [e2]]
     refine kat_no (kat_one _ _ ?_)
     have:decide (a < a∨a=a∧b < d)=decide (b < d):=by simp
     rw [this] at h
     exact ck1 h
 · rw [show (a == c)=false by simp [e1]]
   refine kat_no ?_
   have:decide (a < c∨a=c∧b < d)=decide (a < c):=by simp [e1]
   rw [this] at h
   exact oneLt_int h
end
section
variable {X:Cx} {pins:List (Addr×Obj)} {σ:St} {H:Hp} {s:ba4}
theorem khc {ys:List V} {its:List Value} (r:Vals ys its): ∀(π:List Nat),(∀ i∈π,i < ys.length)→Vals (π.map fun i=>ys.getD i V.non) (π.map fun i=>its.getD i bc9)
 | [],_=> .nil
 | i::π,h=>by
   have hi:=h i bc4
   have e1:ys[i]?=some ys[i]:=bb2 hi
   obtain ⟨u,e2,r2⟩:=r.get e1
   refine .cons ?_ (khc r π fun j hj=>h j (bb7 _ hj))
   show RelV (ys.getD i V.non) (its.getD i bc9)
   rw [bb9,bb9,e1,e2]
   exact r2
noncomputable def allN (base h:Heap) (L:Addr):List (Addr×Obj):=(ba5 h.objs.size).filterMap fun b=>match h.get? b with
 | some o=>if b≠L∧(base.get? b).isNone=true then some (b,o) else none
 | none=>none
set_option tactic.hygienic true in
theorem kot {base h:Heap} {L:Addr}:News base L h (allN base h L):=fun p hp=>by
 obtain ⟨b,hb,e⟩:=bt4.mp hp
 split at e
 · rename_i o ho
   split at e
   · rename_i hc
     cases e
     exact ⟨ho,hc.1,by simpa using hc.2⟩
   · cases e
 · cases e
theorem khd {base h:Heap} {L b:Addr} {o:Obj} (ho:h.get? b=some o) (hL:b≠L) (hb:base.get? b=none):(b,o)∈allN base h L:=by
 refine bt4.mpr ⟨b,ba7.mpr (bd7 ho),?_⟩
 rw [ho]
 show (if b≠L∧(base.get? b).isNone=true then some (b,o) else none)=some (b,o)
 rw [if_pos ⟨hL,by rw [hb];rfl⟩]
theorem Inv.newAt {h':Heap} {m:Str→Option Value} {D:Addr} {zs:List V} {out:List Value} {c:Nat} (I:Inv X pins σ H s) (hn:s.heap.Ns X.env.locals m) (F:Fr X.base X.env.locals h' m) (N:News X.base X.env.locals h' ((D,listOf out.toArray c)::allN X.base s.heap X.env.locals))
 (hD: ∀q∈allN X.base s.heap X.env.locals,q.1 < D) (r:Vals zs out) (hz:zs.length≤sizeLine):H D=none∧Inv X pins σ (upd H D (.lst zs)) {s with heap:=h'}:=by
 obtain ⟨d1,d2,d3⟩:=N _ bc4
 have d0:s.heap.get? D=none:=by
  cases e:s.heap.get? D with
  | none=>rfl
  | some o=>exact absurd (hD _ (khd e d2 d3)) (bk1 _)
 have hHD:H D=none:=I.hok.gone d0
 have keep: ∀b o,s.heap.get? b=some o→b≠X.env.locals→h'.get? b=some o:=fun b o e hb=>by
  cases q:X.base.get? b with
  | some o2=>
    have e2:=I.bk b o2 q
    rw [e] at e2
    cases e2
    exact F.keep b o q
  | none=>exact (N _ (bb7 _ (khd e hb q))).1
 have neD: ∀b o,s.heap.get? b=some o→b≠D:=fun b o e z=>by rw [z,d0] at e;cases e
 have nL: ∀b u,H b=some u→b≠X.env.locals:=fun b u e z=>by rw [z,I.free] at e;cases e
 refine ⟨hHD,I.step (g':=s.gens) (d':=s.drawn) (t':=s.toks) (ch:=[]) (fun q_ z=>nomatch z) (fun b o hb q_ q_ e q_=>keep b o e hb) (fun b o hb q_ q_ e q_=>⟨o.slots,keep b o e hb⟩) (fun b o q_ e n=>by rw [kak (neD b o e)];exact n) (fun b o q_ e=> ?_)
  (fun b xs e=>by rw [kak (kai e hHD)];exact e) (fun b o u e=>by rw [kak (kai e hHD)];exact e) (fun b ps e=>⟨#[],by rw [kak (kai e hHD),e];simp⟩) (fun m2 hm2=> ?_) (fun b u e=> ?_) I.bare⟩
 · by_cases hb:b=X.env.locals
   · obtain ⟨oL,_,_,hoL,_⟩:=F.ns
     exact ⟨oL,by rw [hb];exact hoL⟩
   · exact ⟨o,keep b o e hb⟩
 · have em:m2=m:=by
    obtain ⟨o1,es1,ep1,a1,a2,_,a4⟩:=hm2
    obtain ⟨o2,es2,ep2,b1,b2,_,b4⟩:=hn
    rw [a1] at b1
    cases b1
    rw [a2] at b2
    cases b2
    funext x
    rw [← a4,← b4]
   rw [em];exact F.ns
 · by_cases hb:b=D
   · subst hb
     rw [kaf] at e
     cases e
     exact ⟨hz,out,c,r,d1⟩
   · rw [kak hb] at e
     refine (I.hok b u e).stay (fun c v hc q=>keep c v q ?_) (fun c q=>by rw [kak (kai q hHD)];exact q) fun c xs q=>by rw [kak (kai q hHD)];exact q
     rcases hc with rfl | hc
     · exact nL c _ e
     · exact nL c _ hc
end
section
variable {prog:bb8} {w:World} {A:bf8} {E:Value→ba4→Prop} {s:ba4}
theorem khe {α:Type}: ∀l:List α,l.zip l=l.map fun x=>(x,x)
 | []=>rfl
 | a::l=>by rw [cd5,khe l,bg5]
theorem kgn {a:Addr} {vs:List Value} {n:Nat} {P:b18→ba4→Prop} (ho:s.heap.get? a=some (seqObj "list" vs.toArray n)) (h2:vs.length < 2)
 (h:P (.done (.ret .none)) {s with heap:=sortedHeap s.heap a vs vs.toArray}):wpAny (model prog w) A (Builtin.«list.sort» ⟨[.ref a],[]⟩) P E s:=by
 rw [list_sort_plain]
 obtain ⟨e1,o1⟩: ∃e,(s.heap.update a (bl8 fun q_=>(#[]:Array Value))).get? a=some (seqObj "list" #[] e):=⟨_,get?_update_seq ho _⟩
 have o6:=bb0 (seqObj "list" #[] 0) (bb0 (seqObj "tuple" vs.toArray 0) o1)
 have c2:vs.toArray.size < 2:=by simpa using h2
 have zz:vs.length≤sizeLine:=by rw [bq9];lia
 refine ba2 (listItems_at ho rfl (ba2 (b81 ho rfl (ba2 (cc5 o1 rfl (ba2 (wpAny_newTuple (ba2 (b32 (bl1 ?_) (bf4 _))) zz)))) (by simpa using zz) (bf4 _))))
 simp only [if_pos c2]
 refine ba2 (bb4 ?_)
 rw [StateT.run_pure]
 refine ba2 (bb4 ?_)
 dsimp only
 have eo:(arrOf (cb5 general' (vs.toArray.zip vs.toArray) #[] 7 none)).map (·.2)=vs.toArray:=by
  show (vs.toArray.zip vs.toArray).map (·.2)=vs.toArray
  simp only [ch8,List.map_toArray]
  rw [show vs.zip vs=vs.map fun x=>(x,x) from khe vs,bc1]
  exact congrArg List.toArray (List.map_id vs)
 rw [eo]
 refine ba2 (cc5 o6 rfl (ba2 (b81 o6 rfl ?_ (bf4 _) (by simpa using b66 zz))))
 simp only [bne_self_eq_false,bn0,if_false]
 exact bb4 h
theorem kfi {l:Addr} {vs:List Value} {Q:Value→ba4→Prop} (hl:s.heap.IsList l vs.toArray) (h2:vs.length < 2) (h:Q (.ref (s.heap.objs.size + 1)) {s with heap:=sortedAll s.heap vs vs.toArray}):wpAny (model prog w) A (call (.builtin "sorted") [.ref l]) Q E s:=by
 have zz:vs.length≤sizeLine:=by rw [bq9];lia
 apply br1 cj7 cg7 cg8
 · exact cg9 _
 unfold Builtin.«sorted»
 refine ba2 (m:=checkCount "sorted" 1 1 _) (bb4 (ba2 (collect_list hl (ba2 (b32 ?_ zz)) zz)))
 have hz:((s.heap.push (seqObj "list" #[] 0)).update s.heap.objs.size (bl8 (· ++vs.toArray))).objs.size=s.heap.objs.size + 1:=(b90 ..).trans (cf4 ..)
 have ol:(((s.heap.push (seqObj "list" #[] 0)).update s.heap.objs.size (bl8 (· ++vs.toArray))).push (seqObj "list" vs.toArray 0)).get? (s.heap.objs.size + 1)=some (seqObj "list" vs.toArray 0):=hz▸bd8 _ rfl
 change wpAny _ _ _ _ _ {s with heap:=((s.heap.push (seqObj "list" #[] 0)).update s.heap.objs.size (bl8 (· ++vs.toArray))).push (seqObj "list" vs.toArray 0)}
 rw [hz]
 exact ba2 (bl1 (bj1 b10 ⟨_,ol,rfl⟩ by5 (kgn ol h2 ⟨_,rfl,bb4 ⟨_,rfl,h⟩⟩) (b11 _)))
end
theorem kbu {α:Type} (l:List α) (d:α):(ba5 l.length).map (fun i=>l.getD i d)=l:=by
 apply bs8
 · simp
 · intro i h1 h2
   simp [h2]
noncomputable def kou (B:Int) (ps:List (Int×Int)) (i:Nat):Int:=(ps.getD i (0,0)).1 * B + (ps.getD i (0,0)).2
theorem kw4 {B a b c d:Int} (h1:0≤b) (h2:b < B) (h3:0≤d) (h4:d < B):(a < c∨a=c∧b < d)↔a * B + b < c * B + d:=by
 constructor
 · rintro (h | ⟨rfl,h⟩)
   · have:(a + 1) * B≤c * B:=b19 (by lia) (by lia)
     rw [Int.add_mul,Int.one_mul] at this
     lia
   · lia
 · intro h
   by_cases e:a=c
   · subst e;right;exact ⟨rfl,by lia⟩
   · left
     apply Decidable.byContradiction
     intro z
     have:(c + 1) * B≤a * B:=b19 (by lia) (by lia)
     rw [Int.add_mul,Int.one_mul] at this
     lia
section
variable {X:Cx}
end
end L2
namespace L2
open PySem PySem.Spec PyProof.Rows
theorem kdn:bootBuiltins "sorted"=some (.builtin "sorted"):=by decide +kernel
abbrev pr2 (q:Int×Int):ba9:= .tuple [.int q.1,.int q.2]
section
variable {He:Hp} {K:ba0} {ι:Type} {Y:ι→Cx} {e:Expr} {pos p:Pos}
theorem kw5 {R:Hp} {ys:List V} {ds:List ba9} (r:RpAll K R ys ds): ∀(π:List Nat),(∀ i∈π,i < ys.length)→RpAll K R (π.map fun i=>ys.getD i V.non) (π.map fun i=>ds.getD i bm9)
 | [],_=> .nil
 | i::π,h=>by
   have hi:=h i bc4
   have e1:ys[i]?=some ys[i]:=bb2 hi
   obtain ⟨d,e2,r2⟩:=r.get e1
   refine .cons ?_ (kw5 r π fun j hj=>h j (bb7 _ hj))
   show Rp K R (ys.getD i V.non) (ds.getD i bm9)
   rw [bb9,bb9,e1,e2]
   exact r2
end
section
variable {He:Hp} {K:ba0} {ι:Type} {Y:ι→Cx} {pos:Pos}
theorem kw6 {x:Str} {i:Int} (h: ∀j,∃t,(Y j).mg x=some (.int i t)) (hg:autoParam (∀ j,Gl (Y j) x) u3._auto_1) (hd:autoParam ((x == ("__debug__":Str))=false) u2._auto_1):DE He K Y (.Name x pos) (xC (.int i)):=
 ⟨tC (.int i),fun j=>by
   obtain ⟨t,e⟩:=h j
   exact kvq (hg j) e ⟨t,rfl⟩ hd,fun P Q f p k=>k _ _ _ _ p (.refl f.wd) (.int i)⟩
end
section
variable {He:Hp} {K:ba0} {ι:Type} {Y:ι→Cx} {e:Expr} {pos:Pos}
def sExp (t:De):Ds:=fun D env=>t env fun q_=>D.nx env
theorem kj1 {t:De} (h:DE He K Y e t) (hs:autoParam (∀ i,bs9 e none pos.line (Y i).env=pure false) u3._auto_1):DS He K Y (.Expr e pos) (sExp t):=by
 obtain ⟨te,h1,h2⟩:=h
 exact ⟨_,fun i=>kdf (h1 i) (hs i),fun D E F s c p=>h2 _ _ F p fun d v R' H' q e r=>c.nx _ _ _ _ q (s.trans e.rr) (F.next e)⟩
end
section
variable {K:ba0} {R:Hp}
end
section
variable {He:Hp} {K:ba0} {ι:Type} {Y:ι→Cx} {e a b c:Expr} {es:List Expr} {pos:Pos}
end
end L2
namespace L2
open PySem PySem.Spec PyProof.Rows PySem.W
section
variable {X:Cx} {pins:List (Addr×Obj)} {σ:St} {H:Hp} {s:ba4}
theorem khf: ∀{ns:List Int} {its:List Value},Vals (ns.map V.int) its→IntsAre its ns
 | [],_,r=>by rw [b14] at r;cases r;exact IntsAre.nil
 | n::ns,_,r=>by
   rw [bg5] at r
   cases r with
   | cons h t=>
     obtain ⟨tk,rfl⟩:=h
     exact IntsAre.cons _ _ (khf t)
end
section
variable {He:Hp} {K:ba0} {ι:Type} {Y:ι→Cx} {e:Expr} {pos p:Pos}
end
section
variable {X:Cx}
theorem kf1: ∀{vs:List Value} {ns:List Int},IntsAre vs ns→Vals (ns.map V.int) vs
 | _,_,.nil=> .nil
 | _,_,.cons _ t h=> .cons ⟨t,rfl⟩ (kf1 h)
end
section
variable {He:Hp} {K:ba0} {ι:Type} {Y:ι→Cx} {e:Expr} {pos p:Pos}
end
end L2
namespace L2
open PySem PySem.Spec PySem.W PyProof.Rows
section
variable {prog:bb8} {w:World} {A:bf8} {E:Value→ba4→Prop} {s:ba4}
abbrev WS {α:Type} (prog:bb8) (w:World) (A:bf8) (E:Value→ba4→Prop) (s:ba4) (m:StateT bh3 Sem α) (Q:α→bh3→Prop) (st:bh3):Prop:=wpS (model prog w) A E s m Q st
noncomputable def k0p:Bool→be0→Array be0→Nat→Nat→Nat→StateT bh3 Sem (Option Nat):=bx7
noncomputable def mloT:Array be0→Array be0→StateT bh3 Sem (Array be0):=bw8
noncomputable def mhiT:Array be0→Array be0→StateT bh3 Sem (Array be0):=bw9
noncomputable def matT:Nat→StateT bh3 Sem Bool:=bx8
theorem k0q:mergeAt'=matT:=PySem.W.Fast.te6096456617080501612
noncomputable def elT:Array be0→Nat→StateT bh3 Sem be0:=PySem.W.Fast.tw4424054534610556225
noncomputable def ltT:be0→be0→StateT bh3 Sem (Option Bool):=PySem.W.Fast.tw5462128846355204966
theorem k0r:elem'=elT:=PySem.W.Fast.te4424054534610556225
theorem kw7:lt'=ltT:=PySem.W.Fast.te5462128846355204966
theorem kcm {arr:Array be0} {i:Nat} {p:be0} {Q:be0→bh3→Prop} {st:bh3} (h:arr[i]?=some p) (k:Q p st):WS prog w A E s (elT arr i) Q st:=by
 rw [← k0r,elem'_eq,h]
 exact bd6 k
def ki1 (prog:bb8) (w:World) (A:bf8) (E:Value→ba4→Prop) (s:ba4) (key:be0→Int) (κ:bp6) (ok:be0→Prop):Prop:=
 ∀(x y:be0) (st:bh3) (Q:Option Bool→bh3→Prop),ok x→ok y→kindOf st=κ→Q (some (decide (key x < key y))) st→WS prog w A E s (ltT x y) Q st
theorem kun {P:Nat→Bool} {n lo hi:Nat} {st:bh3} {F:Nat→Option (Option Nat)×Nat×Nat→StateT bh3 Sem (ForInStep (Option (Option Nat)×Nat×Nat))} {Q:Option (Option Nat)×Nat×Nat→bh3→Prop}
 (h1: ∀(i lo hi:Nat) (R:ForInStep (Option (Option Nat)×Nat×Nat)→bh3→Prop),lo < hi→hi≤n→(P (lo + (hi - lo) / 2)=true→R (.yield (none,lo + (hi - lo) / 2 + 1,hi)) st)→(P (lo + (hi - lo) / 2)=false→R (.yield (none,lo,lo + (hi - lo) / 2)) st)→WS prog w A E s (F i (none,lo,hi)) R st)
 (h2: ∀(i lo hi:Nat) (R:ForInStep (Option (Option Nat)×Nat×Nat)→bh3→Prop),hi≤lo→R (.done (none,lo,hi)) st→WS prog w A E s (F i (none,lo,hi)) R st)
 (mono: ∀i j,i≤j→j < n→P j=true→P i=true) (hlo:lo≤hi) (hhi:hi≤n) (b1: ∀i,i < lo→P i=true) (b2: ∀i,hi≤i→i < n→P i=false)
 (k: ∀r,r≤n→(∀ i,i < r→P i=true)→(∀ i,r≤i→i < n→P i=false)→Q (none,r,r) st):WS prog w A E s (forIn [:n] (none,lo,hi) F) Q st:=by
 refine bl6 (fun j c st'=>st'=st∧∃lo hi,c=(none,lo,hi)∧lo≤hi∧hi≤n∧(∀ i,i < lo→P i=true)∧(∀ i,hi≤i→i < n→P i=false)∧hi - lo≤n - j) ?_ ?_ ⟨rfl,lo,hi,rfl,hlo,hhi,b1,b2,by lia⟩
 · rintro i c st' _ hi' ⟨rfl,lo,hi,rfl,hl,hh,b1,b2,hm⟩
   by_cases e:lo < hi
   · refine h1 i lo hi _ e hh (fun z=> ?_) (fun z=> ?_)
     · exact ⟨rfl,_,_,rfl,by lia,hh,fun j hj=>mono j _ (by lia) (by lia) z,b2,by lia⟩
     · refine ⟨rfl,_,_,rfl,by lia,by lia,b1,fun j h3 h4=> ?_,by lia⟩
       cases q:P j with
       | false=>rfl
       | true=>rw [mono _ j h3 h4 q] at z;cases z
   · have e':lo=hi:=by lia
     subst e'
     exact h2 i lo lo _ (bb6 _) (k lo hh b1 b2)
 · rintro c st' ⟨rfl,lo,hi,rfl,hl,hh,b1,b2,hm⟩
   have e':lo=hi:=by lia
   subst e'
   exact k lo hh b1 b2
theorem kuo {P:Nat→Bool} {n mx:Nat} {st:bh3} {F:Nat→Option (Option Nat)×Nat×Nat→StateT bh3 Sem (ForInStep (Option (Option Nat)×Nat×Nat))} {Q:Option (Option Nat)×Nat×Nat→bh3→Prop}
 (h1: ∀(i last ofs:Nat) (R:ForInStep (Option (Option Nat)×Nat×Nat)→bh3→Prop),ofs < mx→(P ofs=true→R (.done (none,last,ofs)) st)→(P ofs=false→R (.yield (none,ofs,2 * ofs + 1)) st)→WS prog w A E s (F i (none,last,ofs)) R st)
 (h2: ∀(i last ofs:Nat) (R:ForInStep (Option (Option Nat)×Nat×Nat)→bh3→Prop),mx≤ofs→R (.done (none,last,ofs)) st→WS prog w A E s (F i (none,last,ofs)) R st)
 (hmx:mx≤n) (h0:0 < mx) (k: ∀last ofs,last < ofs→last < mx→(last=0∨P last=false)→(mx≤ofs∨P ofs=true)→Q (none,last,ofs) st):WS prog w A E s (forIn [:n] (none,0,1) F) Q st:=by
 refine bl6 (fun j c st'=>st'=st∧∃last ofs,c=(none,last,ofs)∧last < ofs∧last < mx∧(last=0∨P last=false)∧j + 1≤ofs) ?_ ?_ ⟨rfl,0,1,rfl,by lia,h0,.inl rfl,bb6 _⟩
 · rintro i c st' _ hi' ⟨rfl,last,ofs,rfl,h3,h4,h5,h6⟩
   by_cases e:ofs < mx
   · exact h1 i last ofs _ e (fun z=>k last ofs h3 h4 h5 (.inr z)) fun z=>⟨rfl,_,_,rfl,by lia,e,.inr z,by lia⟩
   · exact h2 i last ofs _ (by lia) (k last ofs h3 h4 h5 (.inl (by lia)))
 · rintro c st' ⟨rfl,last,ofs,rfl,h3,h4,h5,h6⟩
   exact k last ofs h3 h4 h5 (.inl (by lia))
noncomputable def bey (key:be0→Int) (left:Bool) (x:be0) (arr:Array be0) (base i:Nat):Bool:=if left=true then decide (key (arr.getD (base + i) default) < key x) else !decide (key x < key (arr.getD (base + i) default))
theorem kov {key:be0→Int} {κ:bp6} {ok:be0→Prop} (L:ki1 prog w A E s key κ ok) {left:Bool} {x:be0} {arr:Array be0} {base n hint:Nat} {st:bh3} {Q:Option Nat→bh3→Prop} (hx:ok x) (hn:base + n≤arr.size) (ha: ∀(i:Nat) (p:be0),base≤i→i < base + n→arr[i]?=some p→ok p) (hk:kindOf st=κ) (hh:hint < n)
 (mono: ∀i j,i≤j→j < n→bey key left x arr base j=true→bey key left x arr base i=true)
 (k: ∀r,r≤n→(∀ i,i < r→bey key left x arr base i=true)→(∀ i,r≤i→i < n→bey key left x arr base i=false)→Q (some r) st):WS prog w A E s (k0p left x arr base n hint) Q st:=by
 have ask: ∀(i:Nat) (R:Option Bool→bh3→Prop),i < n→R (some (bey key left x arr base i)) st→WS prog w A E s (elT arr (base + i) >>= fun y=>if left=true then ltT y x else ltT x y >>= fun r=>pure (r.map fun b=> !b)) R st:=fun i R hi k=>by
  have e:arr[base + i]?=some arr[base + i]:=bd9 (by lia)
  have ed:arr.getD (base + i) default=arr[base + i]:=by simp [show base + i < arr.size by lia]
  have ho:=ha (base + i) _ (by lia) (by lia) e
  refine bc5 (kcm e ?_)
  unfold bey at k
  rw [ed] at k
  cases left with
  | true=>exact L _ _ _ _ ho hx hk k
  | false=>exact bc5 (L _ _ _ _ hx ho hk (bd6 k))
 unfold k0p bx7
 rw [← bk3]
 dsimp only
 refine bc5 (ask hint _ hh ?_)
 cases hb:bey key left x arr base hint with
 | true=>
   dsimp only
   rw [if_pos rfl]
   refine bc5 (kuo (P:=fun o=> !bey key left x arr base (hint + o)) (mx:=n - hint) (fun i last ofs R h1 h2 h3=> ?_) (fun i last ofs R h1 h2=> ?_) (by lia) (by lia) fun last ofs h1 h2 h3 h4=> ?_)
   · dsimp only
     rw [if_neg (by lia)]
     refine bc5 (ask (hint + ofs) _ (by lia) ?_)
     cases e:bey key left x arr base (hint + ofs) with
     | true=>exact bd6 (h3 (by rw [e];rfl))
     | false=>exact bd6 (h2 (by rw [e];rfl))
   · dsimp only
     rw [if_pos h1]
     exact bd6 h2
   · dsimp only
     have pl:bey key left x arr base (hint + last)=true:=by
      rcases h3 with rfl | h3
      · exact hb
      · simpa using h3
     refine bc5 (kun (P:=bey key left x arr base) (fun i lo hi R h5 h6 h7 h8=> ?_) (fun i lo hi R h5 h6=> ?_) mono (by lia) (by lia) (fun i hi=>mono i _ (by lia) (by lia) pl) (fun i h5 h6=> ?_) fun r h5 h6 h7=> ?_)
     · dsimp only
       rw [if_neg (by lia)]
       refine bc5 (ask _ _ (by lia) ?_)
       cases e:bey key left x arr base (lo + (hi - lo) / 2) with
       | true=>exact bd6 (h7 e)
       | false=>exact bd6 (h8 e)
     · dsimp only
       rw [if_pos h5]
       exact bd6 h6
     · rcases h4 with h4 | h4
       · lia
       · have h4:bey key left x arr base (hint + ofs)=false:=by simpa using h4
         cases q:bey key left x arr base i with
         | false=>rfl
         | true=>rw [mono (hint + ofs) i (by lia) h6 q] at h4;cases h4
     · exact bd6 (k r h5 h6 h7)
 | false=>
   dsimp only
   rw [if_neg bb3]
   refine bc5 (kuo (P:=fun o=>bey key left x arr base (hint - o)) (mx:=hint + 1) (fun i last ofs R h1 h2 h3=> ?_) (fun i last ofs R h1 h2=> ?_) (by lia) (by lia) fun last ofs h1 h2 h3 h4=> ?_)
   · dsimp only
     rw [if_neg (by lia)]
     refine bc5 (ask (hint - ofs) _ (by lia) ?_)
     cases e:bey key left x arr base (hint - ofs) with
     | true=>exact bd6 (h2 e)
     | false=>exact bd6 (h3 e)
   · dsimp only
     rw [if_pos h1]
     exact bd6 h2
   · dsimp only
     have pl:bey key left x arr base (hint - last)=false:=by
      rcases h3 with rfl | h3
      · exact hb
      · exact h3
     refine bc5 (kun (P:=bey key left x arr base) (fun i lo hi R h5 h6 h7 h8=> ?_) (fun i lo hi R h5 h6=> ?_) mono (by lia) (by lia) (fun i hi=> ?_) (fun i h5 h6=> ?_) fun r h5 h6 h7=> ?_)
     · dsimp only
       rw [if_neg (by lia)]
       refine bc5 (ask _ _ (by lia) ?_)
       cases e:bey key left x arr base (lo + (hi - lo) / 2) with
       | true=>exact bd6 (h7 e)
       | false=>exact bd6 (h8 e)
     · dsimp only
       rw [if_pos h5]
       exact bd6 h6
     · rcases h4 with h4 | h4
       · lia
       · exact mono i (hint - ofs) (by lia) (by lia) h4
     · cases q:bey key left x arr base i with
       | false=>rfl
       | true=>rw [mono (hint - last) i (by lia) h6 q] at pl;cases pl
     · exact bd6 (k r h5 h6 h7)
end
section
variable {key:be0→Int} {P Q O:List be0} {i j:Nat}
def UpL (key:be0→Int) (l:List be0):Prop:=l.Pairwise fun x y=>key x≤key y
structure Mg (key:be0→Int) (P Q O:List be0) (i j:Nat):Prop where
 pm:O.Perm (P.take i++Q.take j)
 up:UpL key O
 la: ∀x∈O,∀y∈P.drop i,key x≤key y
 lb: ∀x∈O,∀y∈Q.drop j,key x≤key y
theorem Mg.swap (m:Mg key P Q O i j):Mg key Q P O j i:=⟨m.pm.trans b20,m.up,m.lb,m.la⟩
theorem Mg.addA (m:Mg key P Q O i j) (sP:UpL key P) (k:Nat) (h: ∀x∈(P.drop i).take k,∀y∈Q.drop j,key x≤key y):Mg key P Q (O++(P.drop i).take k) (i + k) j:=by
 have e:P.drop i=(P.drop i).take k++P.drop (i + k):=by rw [← List.drop_drop,bi0]
 have sd:UpL key (P.drop i):=sP.sublist (b02 _ _)
 have sd2:=sd
 unfold UpL at sd2
 rw [e,be6] at sd2
 have sub: ∀y∈(P.drop i).take k,y∈P.drop i:=fun y hy=>bk8 hy
 refine ⟨?_,?_,fun x hx y hy=> ?_,fun x hx y hy=> ?_⟩
 · rw [List.take_add]
   refine (m.pm.append_right _).trans ?_
   rw [bc6,bc6]
   exact b20.append_left _
 · exact be6.mpr ⟨m.up,sd2.1,fun x hx y hy=>m.la x hx y (sub y hy)⟩
 · rcases be9.mp hx with hx | hx
   · exact m.la x hx y (by rw [e];exact bg7 _ hy)
   · exact sd2.2.2 x hx y hy
 · rcases be9.mp hx with hx | hx
   · exact m.lb x hx y hy
   · exact h x hx y hy
theorem Mg.addB (m:Mg key P Q O i j) (sQ:UpL key Q) (k:Nat) (h: ∀x∈(Q.drop j).take k,∀y∈P.drop i,key x≤key y):Mg key P Q (O++(Q.drop j).take k) i (j + k):=(m.swap.addA sQ k h).swap
def MgE (key:be0→Int) (P Q R:List be0):Prop:=R.Perm (P++Q)∧UpL key R
theorem Mg.done (m:Mg key P Q O i j) (hi:P.length≤i) (hj:Q.length≤j):MgE key P Q O:=by
 have:=m.pm
 rw [bj5 hi,bj5 hj] at this
 exact ⟨this,m.up⟩
theorem Mg.endA (m:Mg key P Q O i j) (sP:UpL key P) (hj:Q.length≤j):MgE key P Q (O++P.drop i):=by
 have:=m.addA sP (P.length - i) (fun x q_ y hy=>by rw [bj6 hj] at hy;cases hy)
 rw [bj5 (by rw [bn7];exact bb6 _)] at this
 exact this.done (by lia) hj
theorem MgE.swap {R:List be0} (h:MgE key P Q R):MgE key Q P R:=⟨h.1.trans b20,h.2⟩
theorem Mg.endB (m:Mg key P Q O i j) (sQ:UpL key Q) (hi:P.length≤i):MgE key P Q (O++Q.drop j):=(m.swap.endA sQ hi).swap
theorem Mg.lastA (m:Mg key P Q O i j) (sP:UpL key P) (sQ:UpL key Q) (h: ∀x∈Q,∀y∈P.drop i,key x≤key y):MgE key P Q (O++Q.drop j++P.drop i):=by
 have:=m.addB sQ (Q.length - j) (fun x hx y hy=>h x (bp3 (bk8 hx)) y hy)
 rw [bj5 (by rw [bn7];exact bb6 _)] at this
 exact this.endA sP (by lia)
theorem Mg.nil (h1:i=0) (h2:j=0):Mg key P Q [] i j:=by
 subst h1 h2
 exact ⟨by simp,br8,fun x hx=>(by cases hx),fun x hx=>(by cases hx)⟩
theorem kdo {l:List be0} (h:UpL key l) {x:be0} {i:Nat} (hx:l[i]?=some x): ∀y∈l.drop i,key x≤key y:=by
 have hi:i < l.length:=(bb1.mp hx).1
 have e:l.drop i=x::l.drop (i + 1):=by
  rw [bi6 hi,(bb1.mp hx).2]
 have sd:UpL key (l.drop i):=h.sublist (b02 _ _)
 unfold UpL at sd
 rw [e,bj9] at sd
 intro y hy
 rw [e] at hy
 rcases bc7.mp hy with rfl | hy
 · exact bu2 _
 · exact sd.1 y hy
theorem take_one {l:List be0} {x:be0} {i:Nat} (hx:l[i]?=some x):(l.drop i).take 1=[x]:=by
 have hi:i < l.length:=(bb1.mp hx).1
 rw [bi6 hi,(bb1.mp hx).2]
 rfl
theorem Mg.pushA (m:Mg key P Q O i j) (sP:UpL key P) (sQ:UpL key Q) {x y:be0} (hx:P[i]?=some x) (hy:Q[j]?=some y) (h:key x≤key y):Mg key P Q (O++[x]) (i + 1) j:=by
 have:=m.addA sP 1 (fun z hz u hu=>by
  rw [take_one hx] at hz
  rw [bc2.mp hz]
  exact bn8 h (kdo sQ hy u hu))
 rwa [take_one hx] at this
theorem Mg.pushB (m:Mg key P Q O i j) (sP:UpL key P) (sQ:UpL key Q) {x y:be0} (hx:P[i]?=some x) (hy:Q[j]?=some y) (h:key y≤key x):Mg key P Q (O++[y]) i (j + 1):=(m.swap.pushA sQ sP hy hx h).swap
end
section
variable {prog:bb8} {w:World} {A:bf8} {E:Value→ba4→Prop} {s:ba4}
abbrev Stt (st st':bh3):Prop:=kindOf st'=kindOf st∧arrOf st'=arrOf st∧pendingOf st'=pendingOf st∧failedOf st'=failedOf st
theorem ke0 (a:Array be0) (i:Nat):(a.extract i a.size).toList=a.toList.drop i:=by
 rw [bv7,br2,bj5 (by rw [bn7,bc0];exact bb6 _)]
theorem kj2 (a:Array be0) (i k:Nat):(a.extract i (i + k)).toList=(a.toList.drop i).take k:=by
 rw [bv7,br2,bg9]
theorem ka0 {a:Array be0} {i:Nat} {x:be0} (h:a[i]?=some x):a.toList[i]?=some x:=by rw [← h,be5]
theorem khg {g:Nat} {Q:PUnit→bh3→Prop} {st:bh3} (h: ∀st',Stt st st'→Q ⟨⟩ st'):WS prog w A E s (bx9 g) Q st:=by
 unfold bx9
 rw [← bk3]
 exact b70 (h _ ⟨rfl,rfl,rfl,rfl⟩)
theorem ke1 {x:String} {Q:Unit→bh3→Prop} {st:bh3} (h:Q () st):WS prog w A E s (liftM (rule x)) Q st:=wpS_lift (cf5 ⟨rfl,h⟩)
theorem kaq {α:Type} {c:Prop} [Decidable c] {t e:StateT bh3 Sem α} {Q:α→bh3→Prop} {st:bh3} (h1:c→WS prog w A E s t Q st) (h2: ¬c→WS prog w A E s e Q st):WS prog w A E s (if c then t else e) Q st:=by
 by_cases h:c
 · rw [if_pos h];exact h1 h
 · rw [if_neg h];exact h2 h
theorem up_at {key:be0→Int} {a:Array be0} (u:UpL key a.toList) {i j:Nat} (hij:i≤j) (hj:j < a.size):key (a.getD i default)≤key (a.getD j default):=by
 have ei:a.getD i default=a[i]'(by lia):=by simp [show i < a.size by lia]
 have ej:a.getD j default=a[j]:=by simp [hj]
 rw [ei,ej]
 rcases bl7 hij with h | h
 · have:=bd0.mp u i j (by rw [bc0];lia) (by rw [bc0];lia) h
   simpa using this
 · subst h;exact bu2 _
theorem klf {key:be0→Int} {a:Array be0} (u:UpL key a.toList) {left:Bool} {x:be0} {base n:Nat} (hn:base + n≤a.size): ∀i j,i≤j→j < n→bey key left x a base j=true→bey key left x a base i=true:=fun i j hij hj h=>by
 have:=up_at u (i:=base + i) (j:=base + j) (by lia) (by lia)
 unfold bey at h ⊢
 cases left with
 | true=>
   rw [if_pos rfl,decide_eq_true_eq] at h ⊢
   lia
 | false=>
   rw [if_neg bb3,b03,decide_eq_false_iff_not] at h ⊢
   lia
theorem kow {key:be0→Int} {κ:bp6} {ok:be0→Prop} (L:ki1 prog w A E s key κ ok) {x:be0} {a:Array be0} {base n hint:Nat} {st:bh3} {Q:Option Nat→bh3→Prop} (hx:ok x) (hn:base + n≤a.size) (oa: ∀x∈a.toList,ok x) (u:UpL key a.toList) (hk:kindOf st=κ) (hh:hint < n)
 (k: ∀r,r≤n→(∀ z∈(a.toList.drop base).take r,key z≤key x)→(∀ z,r < n→a[base + r]?=some z→key x < key z)→Q (some r) st):WS prog w A E s (k0p false x a base n hint) Q st:=by
 refine kov L hx hn (fun i p q_ q_ h=>oa p (be2 (ka0 h))) hk hh (klf u hn) fun r h1 h2 h3=>k r h1 (fun z hz=> ?_) fun z hr hz=> ?_
 · obtain ⟨i,hi,e⟩:=bg0 hz
   have hi':i < r:=by rw [bi3] at hi;lia
   have:=h2 i hi'
   unfold bey at this
   rw [if_neg bb3,b03,decide_eq_false_iff_not] at this
   have e2:a.getD (base + i) default=z:=by
    rw [← e]
    simp [show base + i < a.size by lia]
   rw [e2] at this
   lia
 · have:=h3 r (bb6 _) hr
   unfold bey at this
   rw [if_neg bb3,cd6,decide_eq_true_eq] at this
   have e2:a.getD (base + r) default=z:=by rw [bl0,hz];rfl
   rwa [e2] at this
theorem kox {key:be0→Int} {κ:bp6} {ok:be0→Prop} (L:ki1 prog w A E s key κ ok) {x:be0} {a:Array be0} {base n hint:Nat} {st:bh3} {Q:Option Nat→bh3→Prop} (hx:ok x) (hn:base + n≤a.size) (oa: ∀x∈a.toList,ok x) (u:UpL key a.toList) (hk:kindOf st=κ) (hh:hint < n)
 (k: ∀r,r≤n→(∀ z∈(a.toList.drop base).take r,key z < key x)→(∀ z,r < n→a[base + r]?=some z→key x≤key z)→Q (some r) st):WS prog w A E s (k0p true x a base n hint) Q st:=by
 refine kov L hx hn (fun i p q_ q_ h=>oa p (be2 (ka0 h))) hk hh (klf u hn) fun r h1 h2 h3=>k r h1 (fun z hz=> ?_) fun z hr hz=> ?_
 · obtain ⟨i,hi,e⟩:=bg0 hz
   have hi':i < r:=by rw [bi3] at hi;lia
   have:=h2 i hi'
   unfold bey at this
   rw [if_pos rfl,decide_eq_true_eq] at this
   have e2:a.getD (base + i) default=z:=by
    rw [← e]
    simp [show base + i < a.size by lia]
   rwa [e2] at this
 · have:=h3 r (bb6 _) hr
   unfold bey at this
   rw [if_pos rfl,decide_eq_false_iff_not] at this
   have e2:a.getD (base + r) default=z:=by rw [bl0,hz];rfl
   rw [e2] at this
   lia
section
variable {key:be0→Int} {a b out:Array be0} {ia ib:Nat}
abbrev MgA (key:be0→Int) (a b out:Array be0) (ia ib:Nat):Prop:=Mg key a.toList b.toList out.toList ia ib
abbrev MgF (key:be0→Int) (a b r:Array be0):Prop:=MgE key a.toList b.toList r.toList
theorem MgA.pA (m:MgA key a b out ia ib) (sa:UpL key a.toList) (sb:UpL key b.toList) {x y:be0} (hx:a[ia]?=some x) (hy:b[ib]?=some y) (h:key x≤key y):MgA key a b (out.push x) (ia + 1) ib:=by
 unfold MgA
 rw [bs0]
 exact Mg.pushA m sa sb (ka0 hx) (ka0 hy) h
theorem MgA.pB (m:MgA key a b out ia ib) (sa:UpL key a.toList) (sb:UpL key b.toList) {x y:be0} (hx:a[ia]?=some x) (hy:b[ib]?=some y) (h:key y≤key x):MgA key a b (out.push y) ia (ib + 1):=by
 unfold MgA
 rw [bs0]
 exact Mg.pushB m sa sb (ka0 hx) (ka0 hy) h
theorem MgA.xA (m:MgA key a b out ia ib) (sa:UpL key a.toList) (sb:UpL key b.toList) {y:be0} {k:Nat} (hy:b[ib]?=some y) (h: ∀z∈(a.toList.drop ia).take k,key z≤key y):MgA key a b (out++a.extract ia (ia + k)) (ia + k) ib:=by
 unfold MgA
 rw [bg6,kj2]
 exact Mg.addA m sa k fun z hz u hu=>bn8 (h z hz) (kdo sb (ka0 hy) u hu)
theorem MgA.xB (m:MgA key a b out ia ib) (sa:UpL key a.toList) (sb:UpL key b.toList) {x:be0} {k:Nat} (hx:a[ia]?=some x) (h: ∀z∈(b.toList.drop ib).take k,key z≤key x):MgA key a b (out++b.extract ib (ib + k)) ia (ib + k):=by
 unfold MgA
 rw [bg6,kj2]
 exact Mg.addB m sb k fun z hz u hu=>bn8 (h z hz) (kdo sa (ka0 hx) u hu)
theorem MgA.eB (m:MgA key a b out ia ib) (sa:UpL key a.toList) (h:b.size≤ib):MgF key a b (out++a.extract ia++b.extract ib):=by
 unfold MgF
 rw [bg6,bg6,ke0,ke0,bj6 (by rw [bc0];exact h:b.toList.length≤ib),be4]
 exact Mg.endA m sa (by rw [bc0];exact h)
theorem MgA.eA (m:MgA key a b out ia ib) (sb:UpL key b.toList) (h:a.size≤ia):MgF key a b (out++a.extract ia++b.extract ib):=by
 unfold MgF
 rw [bg6,bg6,ke0,ke0,bj6 (by rw [bc0];exact h:a.toList.length≤ia),be4]
 exact Mg.endB m sb (by rw [bc0];exact h)
theorem MgA.lA (m:MgA key a b out ia ib) (sa:UpL key a.toList) (sb:UpL key b.toList) (h: ∀x∈b.toList,key x≤key (a.getD (a.size - 1) default)) (hi:ia + 1=a.size):MgF key a b (out++b.extract ib++a.extract ia):=by
 unfold MgF
 rw [bg6,bg6,ke0,ke0]
 refine Mg.lastA m sa sb fun x hx y hy=> ?_
 have e:a.toList.drop ia=[a[ia]'(by lia)]:=by
  rw [bi6 (by rw [bc0];lia),bj6 (by rw [bc0];lia)]
  simp
 rw [e] at hy
 rw [bc2.mp hy]
 have:=h x hx
 rwa [show a.getD (a.size - 1) default=a[ia]'(by lia) by simp [show a.size - 1=ia by lia,show ia < a.size by lia]] at this
end
end
end L2
set_option maxHeartbeats 4000000
namespace L2
open PySem PySem.Spec PySem.W PyProof.Rows
section
variable {prog:bb8} {w:World} {A:bf8} {E:Value→ba4→Prop} {s:ba4}
theorem Stt.trans {a b c:bh3} (h:Stt a b) (h':Stt b c):Stt a c:=⟨h'.1.trans h.1,h'.2.1.trans h.2.1,h'.2.2.1.trans h.2.2.1,h'.2.2.2.trans h.2.2.2⟩
theorem k0s {key:be0→Int} {κ:bp6} {ok:be0→Prop} (L:ki1 prog w A E s key κ ok) {a b:Array be0} {st:bh3} {R:Array be0→bh3→Prop} (hk:kindOf st=κ) (oa: ∀x∈a.toList,ok x) (ob: ∀x∈b.toList,ok x) (sa:UpL key a.toList) (sb:UpL key b.toList) (ha:0 < a.size) (hb:0 < b.size)
 (h0:key (b.getD 0 default)≤key (a.getD 0 default)) (hl: ∀x∈b.toList,key x≤key (a.getD (a.size - 1) default)) (k: ∀r st',MgF key a b r→Stt st st'→R r st'):WS prog w A E s (mloT a b) R st:=by
 have ea: ∀i (h:i < a.size),a[i]?=some a[i]:=fun i h=>bd9 h
 have eb: ∀i (h:i < b.size),b[i]?=some b[i]:=fun i h=>bd9 h
 have oka: ∀i (h:i < a.size),ok a[i]:=fun i h=>oa _ (be2 (ka0 (ea i h)))
 have okb: ∀i (h:i < b.size),ok b[i]:=fun i h=>ob _ (be2 (ka0 (eb i h)))
 have m0:MgA key a b #[b[0]] 0 1:=Mg.pushB (O:=[]) (Mg.nil rfl rfl) sa sb (ka0 (ea 0 ha)) (ka0 (eb 0 hb)) (by simpa [ha,hb] using h0)
 unfold mloT bw8
 rw [← bk3,← by0,← bq3,← by6]
 refine bc5 (ke1 (bc5 (kcm (eb 0 hb) ?_)))
 refine kaq (fun c1=>bd6 (k _ _ (m0.eB sa (by have:=bm0 c1;lia)) ⟨rfl,rfl,rfl,rfl⟩)) fun c1=> ?_
 refine kaq (fun c2=>bd6 (k _ _ (m0.lA sa sb hl (by have:=bm0 c2;lia)) ⟨rfl,rfl,rfl,rfl⟩)) fun c2=> ?_
 have c1:1≠b.size:=fun z=>c1 (beq_iff_eq.mpr z)
 have c2:0 + 1≠a.size:=fun z=>c2 (beq_iff_eq.mpr z)
 refine bc5 (b60 ?_)
 refine bc5 (bl6 (fun j c st'=>∃out ia ib mg,c=(none,out,ia,ib,mg)∧MgA key a b out ia ib∧ia + 1 < a.size∧ib < b.size∧j≤ia + ib∧Stt st st') ?_ ?_ ⟨_,_,_,_,rfl,m0,by lia,by lia,by lia,⟨rfl,rfl,rfl,rfl⟩⟩)
 · rintro i c st' _ hi ⟨out,ia,ib,mg,rfl,m,i1,i2,ct,t⟩
   refine bc5 (by7 (Q:=fun c st''=>Stt st st''∧((∃ r,c.1=some r∧MgF key a b r)∨(c.1=none∧MgA key a b c.2.1 c.2.2.1 c.2.2.2.1∧c.2.2.1 + 1 < a.size∧c.2.2.2.1 < b.size∧i + 1≤c.2.2.1 + c.2.2.2.1)))
    (bl6 (fun j c st''=>∃out ia ib ac bc,c=(none,out,ia,ib,ac,bc)∧MgA key a b out ia ib∧ia + 1 < a.size∧ib < b.size∧i + j≤ia + ib∧Stt st st'') ?_ ?_ ⟨_,_,_,_,_,rfl,m,i1,i2,by lia,t⟩) ?_)
   · rintro j c st' _ hj ⟨out,ia,ib,ac,bc,rfl,m,i1,i2,ct,t⟩
     dsimp only
     refine bc5 (kcm (eb ib i2) (bc5 (kcm (ea ia (by lia)) (bc5 (L _ _ _ _ (okb ib i2) (oka ia (by lia)) (t.1.trans hk) ?_)))))
     by_cases h:key b[ib] < key a[ia]
     · rw [decide_eq_true h]
       have m1:=m.pB sa sb (ea ia (by lia)) (eb ib i2) (bq7 h)
       refine kaq (fun q_=>bc5 (kcm (eb ib i2) ?_)) (fun z=>absurd rfl z)
       refine kaq (fun c=>bd6 ⟨t,.inl ⟨_,rfl,m1.eB sa (by have:=bm0 c;lia)⟩⟩) fun c=> ?_
       have c:ib + 1≠b.size:=fun z=>c (beq_iff_eq.mpr z)
       exact kaq (fun q_=>bd6 ⟨t,.inr ⟨rfl,m1,i1,(by show ib + 1 < _;lia),(by show i + 1≤ia + (ib + 1);lia)⟩⟩) fun q_=>bd6 ⟨_,_,_,_,_,rfl,m1,i1,by lia,by lia,t⟩
     · rw [decide_eq_false h]
       have m1:=m.pA sa sb (ea ia (by lia)) (eb ib i2) (by lia)
       refine kaq (fun z=>absurd z bb3) (fun q_=>bc5 (kcm (ea ia (by lia)) ?_))
       refine kaq (fun c=>bd6 ⟨t,.inl ⟨_,rfl,m1.lA sa sb hl (by have:=bm0 c;lia)⟩⟩) fun c=> ?_
       have c:ia + 1 + 1≠a.size:=fun z=>c (beq_iff_eq.mpr z)
       exact kaq (fun q_=>bd6 ⟨t,.inr ⟨rfl,m1,(by show ia + 1 + 1 < _;lia),i2,(by show i + 1≤ia + 1 + ib;lia)⟩⟩) fun q_=>bd6 ⟨_,_,_,_,_,rfl,m1,by lia,i2,by lia,t⟩
   · rintro c st' ⟨out,ia,ib,ac,bc,rfl,m,i1,i2,ct,t⟩
     lia
   · rintro ⟨r1,out,ia,ib,ac,bc⟩ st' ⟨t,⟨r,e,hr⟩ | ⟨e,m,i1,i2,ct⟩⟩
     · cases e
       exact bd6 (bd6 (k _ _ hr t))
     cases e
     refine bc5 (ke1 ?_)
     refine bc5 (by7 (Q:=fun c st''=>Stt st st''∧((∃ r,c.1=some r∧MgF key a b r)∨(c.1=none∧MgA key a b c.2.1 c.2.2.1 c.2.2.2.1∧c.2.2.1 + 1 < a.size∧c.2.2.2.1 < b.size∧i + 1≤c.2.2.1 + c.2.2.2.1)))
      (bl6 (fun j c st''=>∃out ia ib mg ac bc,c=(none,out,ia,ib,mg,ac,bc)∧MgA key a b out ia ib∧ia + 1 < a.size∧ib < b.size∧i + 1 + j≤ia + ib∧Stt st st'') ?_ ?_ ⟨_,_,_,_,_,_,rfl,m,i1,i2,by lia,t⟩) ?_)
     · rintro j c st' _ hj ⟨out,ia,ib,mg,ac,bc,rfl,m,i1,i2,ct,t⟩
       dsimp only
       refine kaq (fun q_=> ?_) (fun q_=> ?_)
       all_goals
        refine bc5 (khg fun st1 t1=> ?_)
        have tt:=t.trans t1
        refine bc5 (kcm (eb ib i2) ?_)
        refine bc5 (kow L (okb ib i2) (by lia) oa sa (tt.1.trans hk) (by lia) fun r r1 r2 r3=> ?_)
        have m1:=m.xA sa sb (eb ib i2) r2
        dsimp only
        refine kaq (fun r0=>kaq (fun c=>bd6 ⟨tt,.inl ⟨_,rfl,m1.lA sa sb hl (by have:=bm0 c;lia)⟩⟩) fun c=>kaq (fun c=>bd6 ⟨tt,.inl ⟨_,rfl,m1.eA sb (by have:=bm0 c;lia)⟩⟩) fun c'=> ?_) (fun r0=> ?_)
        have c:ia + r + 1≠a.size:=fun z=>c (beq_iff_eq.mpr z)
        have c':ia + r≠a.size:=fun z=>c' (beq_iff_eq.mpr z)
        have m2:=m1
        obtain ⟨IA,hIA⟩: ∃n,n=ia + r:=⟨_,rfl⟩
        have x3:=r3 _ (by lia) (ea (ia + r) (by lia))
        rotate_left
        have r00:r=0:=by lia
        subst r00
        have m2:=m
        obtain ⟨IA,hIA⟩: ∃n,n=ia:=⟨_,rfl⟩
        have x3:=r3 _ (by lia) (ea ia (by lia))
        all_goals
         refine bc5 (kcm (eb ib i2) ?_)
         have m3:=m2.pB sa sb (ea _ (by lia)) (eb ib i2) (bq7 x3)
         refine kaq (fun c=>bd6 ⟨tt,.inl ⟨_,rfl,m3.eB sa (by have:=bm0 c;lia)⟩⟩) fun c4=> ?_
         have c4:ib + 1≠b.size:=fun z=>c4 (beq_iff_eq.mpr z)
         refine bc5 (kcm (ea _ (by lia)) ?_)
         refine bc5 (kox L (oka _ (by lia)) (by lia) ob sb (tt.1.trans hk) (by lia) fun q q1 q2 q3=> ?_)
         have m4:=m3.xB sa sb (ea _ (by lia)) (fun z hz=>bq7 (q2 z hz))
         dsimp only
         refine kaq (fun q0=>kaq (fun c=>bd6 ⟨tt,.inl ⟨_,rfl,m4.eB sa (by have:=bm0 c;lia)⟩⟩) fun c5=> ?_) (fun q0=> ?_)
         have c5:ib + 1 + q≠b.size:=fun z=>c5 (beq_iff_eq.mpr z)
         have m5:=m4
         have x5:=q3 _ (by lia) (eb (ib + 1 + q) (by lia))
         rotate_left
         have q00:q=0:=by lia
         subst q00
         have m5:=m3
         have x5:=q3 _ (by lia) (eb (ib + 1) (by lia))
         all_goals
          refine bc5 (kcm (ea _ (by lia)) ?_)
          have m6:=m5.pA sa sb (ea _ (by lia)) (eb _ (by lia)) x5
          refine kaq (fun c=>bd6 ⟨tt,.inl ⟨_,rfl,m6.lA sa sb hl (by have:=bm0 c;lia)⟩⟩) fun c6=> ?_
          have c6:IA + 1 + 1≠a.size:=fun z=>c6 (beq_iff_eq.mpr (hIA▸z))
          exact kaq (fun q_=>bd6 ⟨tt,.inr ⟨rfl,m6,(by dsimp only;lia),(by dsimp only;lia),(by dsimp only;lia)⟩⟩) fun q_=>bd6 ⟨_,_,_,_,_,_,rfl,m6,by lia,by lia,by lia,tt⟩
     · rintro c st' ⟨out,ia,ib,mg,ac,bc,rfl,m,i1,i2,ct,t⟩
       lia
     · rintro ⟨r1,out,ia,ib,mg,ac,bc⟩ st' ⟨t,⟨r,e,hr⟩ | ⟨e,m,i1,i2,ct⟩⟩
       · cases e
         exact bd6 (bd6 (k _ _ hr t))
       cases e
       exact bc5 (khg fun st1 t1=>bd6 ⟨_,_,_,_,rfl,m,i1,i2,ct,t.trans t1⟩)
 · rintro c st' ⟨out,ia,ib,mg,rfl,m,i1,i2,ct,t⟩
   lia
end
end L2
set_option maxHeartbeats 4000000
namespace L2
open PySem PySem.Spec PySem.W PyProof.Rows
section
variable {key:be0→Int} {P Q O:List be0} {i j:Nat}
structure Mh (key:be0→Int) (P Q O:List be0) (i j:Nat):Prop where
 pm:O.Perm (P.drop i++Q.drop j)
 up:UpL key O
 la: ∀x∈P.take i,∀y∈O,key x≤key y
 lb: ∀x∈Q.take j,∀y∈O,key x≤key y
theorem Mh.swap (m:Mh key P Q O i j):Mh key Q P O j i:=⟨m.pm.trans b20,m.up,m.lb,m.la⟩
theorem Mh.addA (m:Mh key P Q O i j) (sP:UpL key P) {k:Nat} (hk:k≤i) (h: ∀x∈Q.take j,∀y∈(P.take i).drop k,key x≤key y):Mh key P Q ((P.take i).drop k++O) k j:=by
 have e:P.take i=P.take k++(P.take i).drop k:=by
  conv=>lhs;rw [← bi0 k (P.take i)]
  rw [bw0,bu3 hk]
 have e2:P.drop k=(P.take i).drop k++P.drop i:=by
  conv=>lhs;rw [← bi0 i P]
  rcases Nat.le_total i P.length with hl | hl
  · rw [b24 (by rw [bi3];lia)]
  · rw [bj6 hl,be4,be4]
 have sd:UpL key (P.take i):=sP.sublist (bv0 _ _)
 have sd2:=sd
 unfold UpL at sd2
 rw [e,be6] at sd2
 refine ⟨?_,?_,fun x hx y hy=> ?_,fun x hx y hy=> ?_⟩
 · rw [e2,bc6]
   exact m.pm.append_left _
 · exact be6.mpr ⟨sd2.2.1,m.up,fun x hx y hy=>m.la x (bp3 hx) y hy⟩
 · rcases be9.mp hy with hy | hy
   · exact sd2.2.2 x hx y hy
   · exact m.la x (by rw [e];exact bn4 _ hx) y hy
 · rcases be9.mp hy with hy | hy
   · exact h x hx y hy
   · exact m.lb x hx y hy
theorem Mh.addB (m:Mh key P Q O i j) (sQ:UpL key Q) {k:Nat} (hk:k≤j) (h: ∀x∈P.take i,∀y∈(Q.take j).drop k,key x≤key y):Mh key P Q ((Q.take j).drop k++O) i k:=(m.swap.addA sQ hk h).swap
theorem Mh.done (m:Mh key P Q O 0 0):MgE key P Q O:=⟨m.pm,m.up⟩
theorem Mh.endB (m:Mh key P Q O 0 j) (sQ:UpL key Q):MgE key P Q (Q.take j++O):=(m.addB sQ (bf4 _) fun x hx=>by cases hx).done
theorem Mh.endA (m:Mh key P Q O i 0) (sP:UpL key P):MgE key P Q (P.take i++O):=(m.addA sP (bf4 _) fun x hx=>by cases hx).done
theorem Mh.fstB (m:Mh key P Q O i j) (sP:UpL key P) (sQ:UpL key Q) (h: ∀x∈Q.take j,∀y∈P,key x≤key y):MgE key P Q (Q.take j++(P.take i++O)):=
 ((m.addA sP (bf4 _) fun x hx y hy=>h x hx y (bk8 hy)).addB sQ (bf4 _) fun x hx=>by cases hx).done
theorem kf2 {l:List be0} (h:UpL key l) {x:be0} {i:Nat} (hx:l[i]?=some x): ∀y∈l.take (i + 1),key y≤key x:=by
 intro y hy
 rw [bv2,hx] at hy
 have hi:i < l.length:=(bb1.mp hx).1
 rcases be9.mp hy with hy | hy
 · obtain ⟨j,hj,e⟩:=bg0 hy
   rw [bi3] at hj
   have:=bd0.mp h j i (by lia) hi (by lia)
   rw [(bb1.mp hx).2] at this
   rw [← e,List.getElem_take]
   exact this
 · have hy:y=x:=by simpa using hy
   rw [hy]
   exact bu2 _
theorem klg {l:List be0} {x:be0} {i:Nat} (hx:l[i]?=some x):(l.take (i + 1)).drop i=[x]:=by
 have hi:i < l.length:=(bb1.mp hx).1
 rw [bv2,hx,b24 (by rw [bi3];lia),bj6 (by rw [bi3];lia)]
 rfl
theorem Mh.pushA (m:Mh key P Q O (i + 1) (j + 1)) (sP:UpL key P) (sQ:UpL key Q) {x y:be0} (hx:P[i]?=some x) (hy:Q[j]?=some y) (h:key y≤key x):Mh key P Q ([x]++O) i (j + 1):=by
 have:=m.addA sP (bq0 i) (fun z hz u hu=>by
  rw [klg hx] at hu
  rw [bc2.mp hu]
  exact bn8 (kf2 sQ hy z hz) h)
 rwa [klg hx] at this
theorem Mh.pushB (m:Mh key P Q O (i + 1) (j + 1)) (sP:UpL key P) (sQ:UpL key Q) {x y:be0} (hx:P[i]?=some x) (hy:Q[j]?=some y) (h:key x≤key y):Mh key P Q ([y]++O) (i + 1) j:=(m.swap.pushA sQ sP hy hx h).swap
end
section
variable {key:be0→Int} {a b out:Array be0} {na nb:Nat}
abbrev MhA (key:be0→Int) (a b out:Array be0) (na nb:Nat):Prop:=Mh key a.toList b.toList out.toList.reverse na nb
theorem ke2 (a:Array be0) (i:Nat):(a.extract 0 i).toList=a.toList.take i:=by
 rw [bv7,br2,cm8,cc0]
theorem kup (a:Array be0) (i k:Nat):(a.extract k i).toList=(a.toList.take i).drop k:=by
 rw [bv7,br2,cc1]
theorem MhA.pA (m:MhA key a b out (na + 1) (nb + 1)) (sa:UpL key a.toList) (sb:UpL key b.toList) {x y:be0} (hx:a[na]?=some x) (hy:b[nb]?=some y) (h:key y≤key x):MhA key a b (out.push x) na (nb + 1):=by
 unfold MhA
 rw [bs0,bq1]
 exact Mh.pushA m sa sb (ka0 hx) (ka0 hy) h
theorem MhA.pB (m:MhA key a b out (na + 1) (nb + 1)) (sa:UpL key a.toList) (sb:UpL key b.toList) {x y:be0} (hx:a[na]?=some x) (hy:b[nb]?=some y) (h:key x≤key y):MhA key a b (out.push y) (na + 1) nb:=by
 unfold MhA
 rw [bs0,bq1]
 exact Mh.pushB m sa sb (ka0 hx) (ka0 hy) h
theorem MhA.xA (m:MhA key a b out na (nb + 1)) (sa:UpL key a.toList) (sb:UpL key b.toList) {y:be0} {k:Nat} (hk:k≤na) (hy:b[nb]?=some y) (h: ∀z∈(a.toList.take na).drop k,key y≤key z):MhA key a b (out++(a.extract k na).reverse) k (nb + 1):=by
 unfold MhA
 rw [bg6,br4,kup,bq1,cb8]
 exact Mh.addA m sa hk fun u hu z hz=>bn8 (kf2 sb (ka0 hy) u hu) (h z hz)
theorem MhA.xB (m:MhA key a b out (na + 1) nb) (sa:UpL key a.toList) (sb:UpL key b.toList) {x:be0} {k:Nat} (hk:k≤nb) (hx:a[na]?=some x) (h: ∀z∈(b.toList.take nb).drop k,key x≤key z):MhA key a b (out++(b.extract k nb).reverse) (na + 1) k:=by
 unfold MhA
 rw [bg6,br4,kup,bq1,cb8]
 exact Mh.addB m sb hk fun u hu z hz=>bn8 (kf2 sa (ka0 hx) u hu) (h z hz)
theorem MhA.eA (m:MhA key a b out na nb) (sb:UpL key b.toList) (h:na=0):MgF key a b (a.extract 0 na++b.extract 0 nb++out.reverse):=by
 subst h
 unfold MgF
 rw [bg6,bg6,br4,ke2,ke2,b61,by4]
 exact Mh.endB m sb
theorem MhA.eB (m:MhA key a b out na nb) (sa:UpL key a.toList) (h:nb=0):MgF key a b (a.extract 0 na++b.extract 0 nb++out.reverse):=by
 subst h
 unfold MgF
 rw [bg6,bg6,br4,ke2,ke2,b61,be4]
 exact Mh.endA m sa
theorem MhA.fB (m:MhA key a b out na nb) (sa:UpL key a.toList) (sb:UpL key b.toList) (hb:0 < b.size) (h: ∀y∈a.toList,key (b.getD 0 default)≤key y) (hn:nb=1):MgF key a b (b.extract 0 nb++a.extract 0 na++out.reverse):=by
 subst hn
 unfold MgF
 rw [bg6,bg6,br4,ke2,ke2,bc6]
 refine Mh.fstB m sa sb fun x hx y hy=> ?_
 have e:b.toList.take 1=[b[0]]:=by
  rw [List.take_one]
  have:b.toList[0]?=some b[0]:=ka0 (bd9 hb)
  rw [List.head?_eq_getElem?,this];rfl
 rw [e] at hx
 rw [bc2.mp hx]
 have:=h y hy
 rwa [show b.getD 0 default=b[0] by simp [hb]] at this
end
end L2
set_option maxHeartbeats 4000000
namespace L2
open PySem PySem.Spec PySem.W PyProof.Rows
section
variable {prog:bb8} {w:World} {A:bf8} {E:Value→ba4→Prop} {s:ba4}
theorem k0t {key:be0→Int} {κ:bp6} {ok:be0→Prop} (L:ki1 prog w A E s key κ ok) {a b:Array be0} {st:bh3} {R:Array be0→bh3→Prop} (hk:kindOf st=κ) (oa: ∀x∈a.toList,ok x) (ob: ∀x∈b.toList,ok x) (sa:UpL key a.toList) (sb:UpL key b.toList) (ha:0 < a.size) (hb:0 < b.size)
 (h0: ∀y∈a.toList,key (b.getD 0 default)≤key y) (hl:key (b.getD (b.size - 1) default)≤key (a.getD (a.size - 1) default)) (k: ∀r st',MgF key a b r→Stt st st'→R r st'):WS prog w A E s (mhiT a b) R st:=by
 have ea: ∀i (h:i < a.size),a[i]?=some a[i]:=fun i h=>bd9 h
 have eb: ∀i (h:i < b.size),b[i]?=some b[i]:=fun i h=>bd9 h
 have oka: ∀i (h:i < a.size),ok a[i]:=fun i h=>oa _ (be2 (ka0 (ea i h)))
 have okb: ∀i (h:i < b.size),ok b[i]:=fun i h=>ob _ (be2 (ka0 (eb i h)))
 obtain ⟨NA,hNA⟩: ∃n,a.size=n + 1:=⟨a.size - 1,by lia⟩
 obtain ⟨NB,hNB⟩: ∃n,b.size=n + 1:=⟨b.size - 1,by lia⟩
 have m0:MhA key a b #[a[NA]] NA b.size:=by
  have:=Mh.pushA (key:=key) (P:=a.toList) (Q:=b.toList) (O:=[]) (i:=NA) (j:=NB) ⟨by rw [bj6 (by rw [bc0];lia),bj6 (by rw [bc0];lia)];exact bj8 _,br8,fun x q_ y hy=>(by cases hy),fun x q_ y hy=>(by cases hy)⟩ sa sb (ka0 (ea NA (by lia))) (ka0 (eb NB (by lia))) (by
   have e1:a.getD (a.size - 1) default=a[NA]:=by simp [hNA]
   have e2:b.getD (b.size - 1) default=b[NB]:=by simp [hNB]
   rwa [e1,e2] at hl)
  rw [hNB]
  exact this
 have eNA:a.size - 1=NA:=by lia
 unfold mhiT bw9
 rw [← bk3,← by0,← bq3,← by6]
 refine bc5 (ke1 ?_)
 rw [eNA]
 refine bc5 (kcm (ea NA (by lia)) ?_)
 refine kaq (fun c1=>bd6 (k _ _ (m0.eA sb (bm0 c1)) ⟨rfl,rfl,rfl,rfl⟩)) fun c1=> ?_
 refine kaq (fun c2=>bd6 (k _ _ (m0.fB sa sb hb h0 (bm0 c2)) ⟨rfl,rfl,rfl,rfl⟩)) fun c2=> ?_
 have c1:NA≠0:=fun z=>c1 (beq_iff_eq.mpr z)
 have c2:b.size≠1:=fun z=>c2 (beq_iff_eq.mpr z)
 refine bc5 (b60 ?_)
 refine bc5 (bl6 (fun j c st'=>∃out na nb mg,c=(none,na + 1,nb + 2,out,mg)∧MhA key a b out (na + 1) (nb + 2)∧na + 1≤a.size∧nb + 2≤b.size∧j + (na + 1) + (nb + 2)≤a.size + b.size∧Stt st st') ?_ ?_ ⟨_,NA - 1,NB - 1,_,by rw [show NA - 1 + 1=NA by lia,show NB - 1 + 2=b.size by lia],by rw [show NA - 1 + 1=NA by lia,show NB - 1 + 2=b.size by lia];exact m0,by lia,by lia,by lia,⟨rfl,rfl,rfl,rfl⟩⟩)
 · rintro i c st' _ hi ⟨out,na,nb,mg,rfl,m,i1,i2,ct,t⟩
   refine bc5 (by7 (Q:=fun c st''=>Stt st st''∧((∃ r,c.1=some r∧MgF key a b r)∨(∃ na nb,c.1=none∧c.2.1=na + 1∧c.2.2.1=nb + 2∧MhA key a b c.2.2.2.1 (na + 1) (nb + 2)∧na + 1≤a.size∧nb + 2≤b.size∧i + 1 + (na + 1) + (nb + 2)≤a.size + b.size)))
    (bl6 (fun j c st''=>∃out na nb ac bc,c=(none,na + 1,nb + 2,out,ac,bc)∧MhA key a b out (na + 1) (nb + 2)∧na + 1≤a.size∧nb + 2≤b.size∧i + j + (na + 1) + (nb + 2)≤a.size + b.size∧Stt st st'') ?_ ?_ ⟨_,_,_,_,_,rfl,m,i1,i2,by lia,t⟩) ?_)
   · rintro j c st' _ hj ⟨out,na,nb,ac,bc,rfl,m,i1,i2,ct,t⟩
     dsimp only
     rw [show nb + 2 - 1=nb + 1 by lia,show na + 1 - 1=na by lia]
     refine bc5 (kcm (eb (nb + 1) (by lia)) (bc5 (kcm (ea na (by lia)) (bc5 (L _ _ _ _ (okb (nb + 1) (by lia)) (oka na (by lia)) (t.1.trans hk) ?_)))))
     by_cases h:key b[nb + 1] < key a[na]
     · rw [decide_eq_true h]
       have m1:=m.pA sa sb (ea na (by lia)) (eb (nb + 1) (by lia)) (bq7 h)
       refine kaq (fun q_=>bc5 (kcm (ea na (by lia)) ?_)) (fun z=>absurd rfl z)
       refine kaq (fun c=>bd6 ⟨t,.inl ⟨_,rfl,m1.eA sb (bm0 c)⟩⟩) fun c=> ?_
       have c:na≠0:=fun z=>c (beq_iff_eq.mpr z)
       obtain ⟨na,rfl⟩: ∃n,na=n + 1:=⟨na - 1,by lia⟩
       exact kaq (fun q_=>bd6 ⟨t,.inr ⟨na,nb,rfl,rfl,rfl,m1,by lia,by lia,by lia⟩⟩) fun q_=>bd6 ⟨_,na,nb,_,_,rfl,m1,by lia,by lia,by lia,t⟩
     · rw [decide_eq_false h]
       have m1:=m.pB sa sb (ea na (by lia)) (eb (nb + 1) (by lia)) (by lia)
       refine kaq (fun z=>absurd z bb3) (fun q_=>bc5 (kcm (eb (nb + 1) (by lia)) ?_))
       refine kaq (fun c=>bd6 ⟨t,.inl ⟨_,rfl,m1.fB sa sb hb h0 (bm0 c)⟩⟩) fun c=> ?_
       have c:nb + 1≠1:=fun z=>c (beq_iff_eq.mpr z)
       obtain ⟨nb,rfl⟩: ∃n,nb=n + 1:=⟨nb - 1,by lia⟩
       exact kaq (fun q_=>bd6 ⟨t,.inr ⟨na,nb,rfl,rfl,rfl,m1,by lia,by lia,by lia⟩⟩) fun q_=>bd6 ⟨_,na,nb,_,_,rfl,m1,by lia,by lia,by lia,t⟩
   · rintro c st' ⟨out,ia,ib,ac,bc,rfl,m,i1,i2,ct,t⟩
     lia
   · rintro ⟨r1,na',nb',out,ac,bc⟩ st' ⟨t,⟨r,e,hr⟩ | ⟨na,nb,e,e1,e2,m,i1,i2,ct⟩⟩
     · cases e
       exact bd6 (bd6 (k _ _ hr t))
     cases e;cases e1;cases e2
     refine bc5 (ke1 ?_)
     refine bc5 (by7 (Q:=fun c st''=>Stt st st''∧((∃ r,c.1=some r∧MgF key a b r)∨(∃ na nb,c.1=none∧c.2.1=na + 1∧c.2.2.1=nb + 2∧MhA key a b c.2.2.2.1 (na + 1) (nb + 2)∧na + 1≤a.size∧nb + 2≤b.size∧i + 1 + (na + 1) + (nb + 2)≤a.size + b.size)))
      (bl6 (fun j c st''=>∃out na nb mg ac bc,c=(none,na + 1,nb + 2,out,mg,ac,bc)∧MhA key a b out (na + 1) (nb + 2)∧na + 1≤a.size∧nb + 2≤b.size∧i + 1 + j + (na + 1) + (nb + 2)≤a.size + b.size∧Stt st st'') ?_ ?_ ⟨_,_,_,_,_,_,rfl,m,i1,i2,by lia,t⟩) ?_)
     · rintro j c st' _ hj ⟨out,na,nb,mg,ac,bc,rfl,m,i1,i2,ct,t⟩
       dsimp only
       refine kaq (fun q_=> ?_) (fun q_=> ?_)
       all_goals
        refine bc5 (khg fun st1 t1=> ?_)
        have tt:=t.trans t1
        simp only [show nb + 2 - 1=nb + 1 from rfl,show na + 1 - 1=na from rfl]
        refine bc5 (kcm (eb (nb + 1) (by lia)) ?_)
        refine bc5 (kow L (okb (nb + 1) (by lia)) (by lia) oa sa (tt.1.trans hk) (by lia) fun r r1 r2 r3=> ?_)
        have r2: ∀i (h:i < r),key (a[i]'(by lia))≤key b[nb + 1]:=fun i h=>r2 _ (bo4.mpr ⟨i,by rw [bn7,bc0];lia,by simp⟩)
        have m1:=m.xA sa sb r1 (eb (nb + 1) (by lia)) fun z hz=>by
         rw [cc1] at hz
         by_cases hr:r < na + 1
         · have h1:=r3 _ hr (by rw [b51];exact ea r (by lia))
           have h2:=kdo sa (ka0 (ea r (by lia))) z (bk8 hz)
           lia
         · rw [show na + 1 - r=0 by lia,b61] at hz
           cases hz
        dsimp only
        refine kaq (fun r0=>kaq (fun c=>bd6 ⟨tt,.inl ⟨_,rfl,m1.eA sb (bm0 c)⟩⟩) fun c=> ?_) (fun r0=> ?_)
        have c:r≠0:=fun z=>c (beq_iff_eq.mpr z)
        obtain ⟨PA,rfl⟩: ∃n,r=n + 1:=⟨r - 1,by lia⟩
        have m2:=m1
        have x3:=r2 PA (by lia)
        rotate_left
        obtain rfl:r=na + 1:=by lia
        obtain ⟨PA,hPA⟩: ∃n,n=na:=⟨_,rfl⟩
        subst hPA
        have m2:=m
        have x3:=r2 PA (by lia)
        all_goals
         try simp only [show PA + 1 - 1=PA from rfl]
         refine bc5 (kcm (eb (nb + 1) (by lia)) ?_)
         have m3:=m2.pB sa sb (ea PA (by lia)) (eb (nb + 1) (by lia)) x3
         refine kaq (fun c=>bd6 ⟨tt,.inl ⟨_,rfl,m3.fB sa sb hb h0 (bm0 c)⟩⟩) fun c4=> ?_
         have c4:nb + 1≠1:=fun z=>c4 (beq_iff_eq.mpr z)
         refine bc5 (kcm (ea PA (by lia)) ?_)
         refine bc5 (kox L (oka PA (by lia)) (by lia) ob sb (tt.1.trans hk) (by lia) fun q q1 q2 q3=> ?_)
         have q2: ∀i (h:i < q),key (b[i]'(by lia)) < key a[PA]:=fun i h=>q2 _ (bo4.mpr ⟨i,by rw [bn7,bc0];lia,by simp⟩)
         have m4:=m3.xB sa sb q1 (ea PA (by lia)) fun z hz=>by
          rw [cc1] at hz
          by_cases hr:q < nb + 1
          · have h1:=q3 _ hr (by rw [b51];exact eb q (by lia))
            have h2:=kdo sb (ka0 (eb q (by lia))) z (bk8 hz)
            lia
          · rw [show nb + 1 - q=0 by lia,b61] at hz
            cases hz
         dsimp only
         refine kaq (fun q0=>kaq (fun c=>bd6 ⟨tt,.inl ⟨_,rfl,m4.fB sa sb hb h0 (bm0 c)⟩⟩) fun c5=>kaq (fun c=>bd6 ⟨tt,.inl ⟨_,rfl,m4.eB sa (bm0 c)⟩⟩) fun c6=> ?_) (fun q0=> ?_)
         have c5:q≠1:=fun z=>c5 (beq_iff_eq.mpr z)
         have c6:q≠0:=fun z=>c6 (beq_iff_eq.mpr z)
         obtain ⟨PB,rfl⟩: ∃n,q=n + 2:=⟨q - 2,by lia⟩
         have m5:=m4
         have x5:=q2 (PB + 1) (by lia)
         rotate_left
         obtain rfl:q=nb + 1:=by lia
         obtain ⟨PB,rfl⟩: ∃n,nb=n + 1:=⟨nb - 1,by lia⟩
         have m5:=m3
         have x5:=q2 (PB + 1) (by lia)
         all_goals
          refine bc5 (kcm (ea PA (by lia)) ?_)
          have m6:=m5.pA sa sb (ea PA (by lia)) (eb (PB + 1) (by lia)) (bq7 x5)
          refine kaq (fun c=>bd6 ⟨tt,.inl ⟨_,rfl,m6.eA sb (bm0 c)⟩⟩) fun c7=> ?_
          have c7:PA≠0:=fun z=>c7 (beq_iff_eq.mpr z)
          obtain ⟨PC,rfl⟩: ∃n,PA=n + 1:=⟨PA - 1,by lia⟩
          exact kaq (fun q_=>bd6 ⟨tt,.inr ⟨PC,PB,rfl,rfl,rfl,m6,(by lia),(by lia),(by lia)⟩⟩) fun q_=>bd6 ⟨_,PC,PB,_,_,_,rfl,m6,by lia,by lia,by lia,tt⟩
     · rintro c st' ⟨out,ia,ib,mg,ac,bc,rfl,m,i1,i2,ct,t⟩
       lia
     · rintro ⟨r1,na',nb',out,mg,ac,bc⟩ st' ⟨t,⟨r,e,hr⟩ | ⟨na,nb,e,e1,e2,m,i1,i2,ct⟩⟩
       · cases e
         exact bd6 (bd6 (k _ _ hr t))
       cases e;cases e1;cases e2
       exact bc5 (khg fun st1 t1=>bd6 ⟨_,_,_,_,rfl,m,i1,i2,ct,t.trans t1⟩)
 · rintro c st' ⟨out,ia,ib,mg,rfl,m,i1,i2,ct,t⟩
   lia
end
end L2
set_option maxHeartbeats 4000000
namespace L2
open PySem PySem.Spec PySem.W PyProof.Rows
section
variable {prog:bb8} {w:World} {A:bf8} {E:Value→ba4→Prop} {s:ba4} {key:be0→Int} {κ:bp6} {ok:be0→Prop}
theorem kgo {arr:Array be0} {T1 Al R:List be0} (e:arr.toList=T1++(Al++R)) {i:Nat} (h:i < Al.length):arr[T1.length + i]?=some Al[i]:=by
 rw [← be5,e,bb5 (by lia),bg9,bc3 h,bb2 h]
theorem ksc {arr:Array be0} {T1 Al R:List be0} (e:arr.toList=T1++(Al++R)):T1.length + Al.length≤arr.size:=by
 have:=congrArg bu0 e
 rw [bc0,ba6,ba6] at this
 lia
theorem koy (L:ki1 prog w A E s key κ ok) {left:Bool} {x:be0} {arr:Array be0} {T1 Al R:List be0} (e:arr.toList=T1++(Al++R)) {hint:Nat} {st:bh3} {Q:Option Nat→bh3→Prop} (hx:ok x) (oa: ∀z∈Al,ok z) (u:UpL key Al) (hk:kindOf st=κ) (hh:hint < Al.length)
 (k: ∀r,r≤Al.length→(∀ z∈Al.take r,(if left=true then decide (key z < key x) else !decide (key x < key z))=true)→(∀ z∈Al.drop r,(if left=true then decide (key z < key x) else !decide (key x < key z))=false)→Q (some r) st):WS prog w A E s (k0p left x arr T1.length Al.length hint) Q st:=by
 have g: ∀i (h:i < Al.length),arr.getD (T1.length + i) default=Al[i]:=fun i h=>by rw [bl0,kgo e h];rfl
 have b: ∀i (h:i < Al.length),bey key left x arr T1.length i=if left=true then decide (key Al[i] < key x) else !decide (key x < key Al[i]):=fun i h=>by unfold bey;rw [g i h]
 refine kov L hx (ksc e) (fun i p h1 h2 h3=> ?_) hk hh (fun i j hij hj h=> ?_) fun r h1 h2 h3=>k r h1 (fun z hz=> ?_) fun z hz=> ?_
 · have:=kgo e (i:=i - T1.length) (by omega)
   rw [show T1.length + (i - T1.length)=i by omega,h3] at this
   cases this
   exact oa _ (be8 _)
 · rw [b j hj] at h
   rw [b i (by omega)]
   have hle:key (Al[i]'(by omega))≤key Al[j]:=by
    rcases bl7 hij with q | q
    · exact bd0.mp u i j (by omega) hj q
    · subst q;exact bu2 _
   cases left with
   | true=>
     rw [if_pos rfl,decide_eq_true_eq] at h ⊢
     omega
   | false=>
     rw [if_neg bb3,b03,decide_eq_false_iff_not] at h ⊢
     omega
 · obtain ⟨i,hi,e⟩:=bo4.mp hz
   rw [← e,← b i (by omega)]
   exact h2 i (by omega)
 · obtain ⟨i,hi,e⟩:=bw1.mp hz
   rw [← e,← b _ (by omega)]
   exact h3 _ (by omega) (by omega)
theorem koz (s0:Nat): ∀(l:List be0) (k:Nat) (arr:Array be0) (i:Nat),((l.zipIdx k).foldl (fun (a:Array be0) x=>a.setIfInBounds (s0 + x.2) x.1) arr)[i]?=if s0 + k≤i∧i < s0 + k + l.length∧i < arr.size then l[i - (s0 + k)]? else arr[i]?
 | [],k,arr,i=>by
   rw [if_neg (by rintro ⟨h1,h2,_⟩;simp at h2;lia)]
   rfl
 | x::l,k,arr,i=>by
   rw [List.zipIdx_cons,ca1,koz s0 l (k + 1) (arr.setIfInBounds (s0 + k) x) i,b71,bf2]
   by_cases h:i < arr.size
   · by_cases h1:s0 + k=i
     · subst h1
       rw [if_neg (by lia),if_pos ⟨bb6 _,by lia,h⟩,b21,bm8]
       simp [h]
     · by_cases h2:s0 + k≤i∧i < s0 + k + (l.length + 1)
       · rw [if_pos ⟨by lia,by lia,h⟩,if_pos ⟨h2.1,h2.2,h⟩,show i - (s0 + k)=(i - (s0 + (k + 1))) + 1 by lia,bj3]
       · rw [if_neg (by lia),if_neg (by lia),Array.getElem?_setIfInBounds_ne (by lia)]
   · rw [if_neg (by lia),if_neg (by lia),bo0 (by rw [b71];lia),bo0 (by lia)]
theorem ko0 {arr:Array be0} {T1 X T2 M:List be0} (e:arr.toList=T1++(X++T2)) (h:M.length=X.length):((M.zipIdx).foldl (fun (a:Array be0) x=>a.setIfInBounds (T1.length + x.2) x.1) arr).toList=T1++(M++T2):=by
 have sz:=congrArg bu0 e
 rw [bc0,ba6,ba6] at sz
 apply bs1
 intro i
 rw [be5,koz,ch0]
 have ea:arr[i]?=(T1++(X++T2))[i]?:=by rw [← e,be5]
 by_cases h1:T1.length≤i
 · rw [bb5 h1]
   by_cases h2:i < T1.length + M.length
   · rw [if_pos ⟨h1,h2,by lia⟩,bc3 (by lia)]
   · rw [if_neg (by lia),ea,bb5 h1,bb5 (by lia),bb5 (by lia),h]
 · rw [if_neg (by lia),ea,bc3 (by lia),bc3 (by lia)]
end
end L2
set_option maxHeartbeats 4000000
namespace L2
open PySem PySem.Spec PySem.W PyProof.Rows
section
variable {prog:bb8} {w:World} {A:bf8} {E:Value→ba4→Prop} {s:ba4} {key:be0→Int} {κ:bp6} {ok:be0→Prop}
theorem k0u {st st':bh3} {Q:PUnit→bh3→Prop} (h:Q ⟨⟩ st'):WS prog w A E s (set st') Q st:=bb4 ⟨rfl,h⟩
theorem kuq {arr:Array be0} {T1 X R:List be0} (e:arr.toList=T1++(X++R)) {n:Nat} (hn:n=T1.length + X.length):(arr.extract T1.length n).toList=X:=by
 subst hn
 rw [kj2,e,List.drop_left,ck2]
theorem k0v (L:ki1 prog w A E s key κ ok) {st:bh3} {i:Nat} {T1 Al Bl T2:List be0} {pa pb:Nat} {Q:Bool→bh3→Prop} (e:(arrOf st).toList=T1++(Al++(Bl++T2))) (ha:0 < Al.length) (hb:0 < Bl.length) (oa: ∀z∈Al,ok z) (ob: ∀z∈Bl,ok z) (ua:UpL key Al) (ub:UpL key Bl) (hk:kindOf st=κ) (hf:failedOf st=none)
 (p1:(pendingOf st)[i]?=some (T1.length,Al.length,pa)) (p2:(pendingOf st)[i + 1]?=some (T1.length + Al.length,Bl.length,pb))
 (k: ∀(st':bh3) (M:List be0),kindOf st'=κ→failedOf st'=none→pendingOf st'=((pendingOf st).setIfInBounds i (T1.length,Al.length + Bl.length,pa)).eraseIdxIfInBounds (i + 1)→(arrOf st').toList=T1++(M++T2)→M.Perm (Al++Bl)→UpL key M→Q true st'):WS prog w A E s (matT i) Q st:=by
 have e2:(arrOf st).toList=(T1++Al)++(Bl++T2):=by rw [e,bc6]
 have l2:(T1++Al).length=T1.length + Al.length:=ba6
 have b0:=kgo e2 hb
 rw [l2,ch0] at b0
 unfold matT bx8
 rw [← bk3,← bq3]
 refine bc5 (b60 ?_)
 unfold PyProof.Rows.pendingOf at p1 p2
 rw [p1,p2]
 refine bc5 (k0u ?_)
 refine bc5 (kcm b0 ?_)
 refine bc5 (koy L e (ob _ (be8 _)) oa ua hk ha fun r r1 r2 r3=> ?_)
 have r2: ∀z∈Al.take r,key z≤key Bl[0]:=fun z hz=>by
  have:=r2 z hz
  rw [if_neg bb3,b03,decide_eq_false_iff_not] at this
  lia
 have r3: ∀z∈Al.drop r,key Bl[0] < key z:=fun z hz=>by
  have:=r3 z hz
  rwa [if_neg bb3,cd6,decide_eq_true_eq] at this
 have eb0:Bl[0]?=some Bl[0]:=bb2 hb
 have hb0: ∀z∈Bl,key Bl[0]≤key z:=fun z hz=>kdo ub eb0 z (by rw [cc0];exact hz)
 have eal:Al[Al.length - 1]?=some (Al[Al.length - 1]'(by lia)):=bb2 (by lia)
 have hal: ∀z∈Al,key z≤key (Al[Al.length - 1]'(by lia)):=fun z hz=>kf2 ua eal z (by rw [show Al.length - 1 + 1=Al.length by lia,b89];exact hz)
 have e':(arrOf st).toList=T1++((Al++Bl)++T2):=by rw [e,bc6]
 dsimp (zeta:=false) only
 refine kaq (fun c=>bd6 (k _ (Al++Bl) hk hf rfl e' (bj8 _) (be6.mpr ⟨ua,ub,fun z hz u hu=> ?_⟩))) fun c=> ?_
 · have c:Al.length - r=0:=bm0 c
   rw [bj5 (by lia)] at r2
   exact bn8 (r2 z hz) (hb0 u hu)
 have c:Al.length - r≠0:=fun z=>c (beq_iff_eq.mpr z)
 have al:=kgo e (i:=Al.length - 1) (by lia)
 rw [show T1.length + (Al.length - 1)=T1.length + r + (Al.length - r) - 1 by lia] at al
 refine bc5 (kcm al ?_)
 rw [← l2]
 refine bc5 (koy L e2 (oa _ (be8 _)) ob ub hk (by lia) fun q q1 q2 q3=> ?_)
 rw [l2]
 have q2: ∀z∈Bl.take q,key z < key (Al[Al.length - 1]'(by lia)):=fun z hz=>by
  have:=q2 z hz
  rwa [if_pos rfl,decide_eq_true_eq] at this
 have q3: ∀z∈Bl.drop q,key (Al[Al.length - 1]'(by lia))≤key z:=fun z hz=>by
  have:=q3 z hz
  rw [if_pos rfl,decide_eq_false_iff_not] at this
  lia
 dsimp (zeta:=false) only
 refine kaq (fun c=>bd6 (k _ (Al++Bl) hk hf rfl e' (bj8 _) (be6.mpr ⟨ua,ub,fun z hz u hu=> ?_⟩))) fun c'=> ?_
 · have c:q=0:=bm0 c
   subst c
   exact bn8 (hal z hz) (q3 u (by rw [cc0];exact hu))
 have c':q≠0:=fun z=>c' (beq_iff_eq.mpr z)
 have sA:Al=Al.take r++Al.drop r:=(bi0 r Al).symm
 have sB:Bl=Bl.take q++Bl.drop q:=(bi0 q Bl).symm
 have lA:(T1++Al.take r).length=T1.length + r:=by rw [ba6,bi3];lia
 have lX:(Al.drop r).length=Al.length - r:=bn7
 have lY:(Bl.take q).length=q:=by rw [bi3];lia
 have eX:(arrOf st).toList=(T1++Al.take r)++(Al.drop r++(Bl++T2)):=by
  rw [e]
  conv=>lhs;rw [sA]
  simp only [bc6]
 have eY:(arrOf st).toList=(T1++Al)++(Bl.take q++(Bl.drop q++T2)):=by
  rw [e2]
  conv=>lhs;rw [sB]
  simp only [bc6]
 have eM:(arrOf st).toList=(T1++Al.take r)++((Al.drop r++Bl.take q)++(Bl.drop q++T2)):=by
  rw [eX]
  conv=>lhs;rw [sB]
  simp only [bc6]
 obtain ⟨x,hx⟩: ∃x,x=(arrOf st).extract (T1.length + r) (T1.length + Al.length):=⟨_,rfl⟩
 obtain ⟨y,hy⟩: ∃y,y=(arrOf st).extract (T1.length + Al.length) (T1.length + Al.length + q):=⟨_,rfl⟩
 have tx:x.toList=Al.drop r:=by rw [hx,← lA];exact kuq eX (by rw [lA,lX];lia)
 have ty:y.toList=Bl.take q:=by rw [hy,← l2];exact kuq eY (by rw [lY])
 have zx:x.size=Al.length - r:=by rw [← bc0,tx,lX]
 have zy:y.size=q:=by rw [← bc0,ty,lY]
 have y0:y.getD 0 default=Bl[0]:=by
  rw [bl0,← be5,ty,by8,if_pos (by lia),eb0];rfl
 have xl:x.getD (x.size - 1) default=Al[Al.length - 1]'(by lia):=by
  rw [bl0,← be5,tx,cd7,show r + (x.size - 1)=Al.length - 1 by lia,eal];rfl
 have gm: ∀(a:Array be0) (i:Nat),i < a.size→a.getD i default∈a.toList:=fun a i h=>by
  rw [bl0,bd9 h]
  exact be2 (ka0 (bd9 h))
 have fin: ∀(r':Array be0) (st':bh3),MgF key x y r'→Stt (cb5 (kindOf st) (arrOf st) (((pendingOf st).setIfInBounds i (T1.length,Al.length + Bl.length,pa)).eraseIdxIfInBounds (i + 1)) (gallopOf st) (failedOf st)) st'→
  WS prog w A E s (modify fun s=>setArr s (cl5 (fun (a:Array be0) x=>a.setIfInBounds (T1.length + r + x.2) x.1) (arrOf s) r'.toList.zipIdx)) (fun q_ st2=>WS prog w A E s (get >>= fun s=>pure (failedOf s).isNone) Q st2) st':=fun r' st' hm ht=>by
  obtain ⟨t1,t2,t3,t4⟩:=ht
  obtain ⟨pm,um⟩:=hm
  rw [tx,ty] at pm
  refine b70 (bc5 (b60 (bd6 ?_)))
  have ef:failedOf st'=none:=t4.trans hf
  show Q (failedOf st').isNone _
  rw [ef]
  have mem: ∀z,z∈r'.toList→z∈Al.drop r∨z∈Bl.take q:=fun z hz=>be9.mp (pm.mem_iff.mp hz)
  have uA:=ua
  unfold UpL at uA
  rw [sA,be6] at uA
  have uB:=ub
  unfold UpL at uB
  rw [sB,be6] at uB
  refine k _ (Al.take r++(r'.toList++Bl.drop q)) (t1.trans hk) ef t3 ?_ ?_ ?_
  · show (cl5 _ (arrOf st') r'.toList.zipIdx).toList=_
    rw [← PySem.W.R.foldlR_eq,show arrOf st'=arrOf st from t2,← lA,ko0 eM (by rw [pm.length_eq])]
    simp only [bc6]
  · have h1:=(pm.append_right (Bl.drop q)).append_left (Al.take r)
    have h2:Al.take r++((Al.drop r++Bl.take q)++Bl.drop q)=Al++Bl:=by
     conv=>rhs;rw [sA,sB]
     simp only [bc6]
    rwa [h2] at h1
  · refine be6.mpr ⟨uA.1,be6.mpr ⟨um,uB.2.1,fun z hz u hu=> ?_⟩,fun z hz u hu=> ?_⟩
    · rcases mem z hz with hz | hz
      · exact bn8 (hal z (bp3 hz)) (q3 u hu)
      · exact uB.2.2 z hz u hu
    · rcases be9.mp hu with hu | hu
      · rcases mem u hu with hu | hu
        · exact uA.2.2 z hz u hu
        · exact bn8 (r2 z hz) (hb0 u (bk8 hu))
      · exact bn8 (r2 z hz) (hb0 u (bp3 hu))
 have ox: ∀z∈x.toList,ok z:=fun z hz=>oa z (bp3 (by rw [tx] at hz;exact hz))
 have oy: ∀z∈y.toList,ok z:=fun z hz=>ob z (bk8 (by rw [ty] at hz;exact hz))
 have ux:UpL key x.toList:=by rw [tx];exact ua.sublist (b02 _ _)
 have uy:UpL key y.toList:=by rw [ty];exact ub.sublist (bv0 _ _)
 refine kaq (fun q_=>bc5 ?_) (fun q_=>bc5 ?_)
 · have:=k0s (s:=s) (R:=fun r' st'=>WS prog w A E s ((modify fun s=>setArr s (cl5 (fun (a:Array be0) x=>a.setIfInBounds (T1.length + r + x.2) x.1) (arrOf s) r'.toList.zipIdx)) >>= fun q_=>get >>= fun s=>pure (failedOf s).isNone) Q st') L (st:=(cb5 (kindOf st) (arrOf st) (((pendingOf st).setIfInBounds i (T1.length,Al.length + Bl.length,pa)).eraseIdxIfInBounds (i + 1)) (gallopOf st) (failedOf st))) (a:=x) (b:=y) hk ox oy ux uy (by lia) (by lia)
    (by rw [y0];exact bq7 (r3 _ (by rw [← tx];exact gm x 0 (by lia)))) (fun z hz=>by rw [xl];exact bq7 (q2 z (by rw [← ty];exact hz))) fun r' st' hm ht=>bc5 (fin r' st' hm ht)
   rw [hx,hy] at this
   exact this
 · have:=k0t (s:=s) (R:=fun r' st'=>WS prog w A E s ((modify fun s=>setArr s (cl5 (fun (a:Array be0) x=>a.setIfInBounds (T1.length + r + x.2) x.1) (arrOf s) r'.toList.zipIdx)) >>= fun q_=>get >>= fun s=>pure (failedOf s).isNone) Q st') L (st:=(cb5 (kindOf st) (arrOf st) (((pendingOf st).setIfInBounds i (T1.length,Al.length + Bl.length,pa)).eraseIdxIfInBounds (i + 1)) (gallopOf st) (failedOf st))) (a:=x) (b:=y) hk ox oy ux uy (by lia) (by lia)
    (fun z hz=>by rw [y0];exact bq7 (r3 _ (by rw [← tx];exact hz))) (by rw [xl];exact bq7 (q2 _ (by rw [← ty];exact gm y _ (by lia)))) fun r' st' hm ht=>bc5 (fin r' st' hm ht)
   rw [hx,hy] at this
   exact this
end
end L2
set_option maxHeartbeats 4000000
namespace L2
open PySem PySem.Spec PySem.W PyProof.Rows
section
theorem ksd {arr:Array be0} {T P R:List be0} {x:be0} (e:arr.toList=T++(P++(x::R))) {d:Nat} (hd:d≤P.length):(bubble arr (T.length + P.length) d).toList=T++(P.take (P.length - d)++(x::(P.drop (P.length - d)++R))):=by
 have sz:=congrArg bu0 e
 simp only [bc0,ba6,bf2] at sz
 have at_: ∀i,arr[i]?=(T++(P++(x::R)))[i]?:=fun i=>by rw [← e,be5]
 apply bs1
 intro i
 rw [be5,getElem?_bubble (by lia) d (by lia)]
 have lt:(P.take (P.length - d)).length=P.length - d:=by rw [bi3];lia
 have ld:(P.drop (P.length - d)).length=d:=by rw [bn7];lia
 by_cases h1:i < T.length
 · rw [if_neg (by lia),if_neg (by lia),at_,bc3 h1,bc3 h1]
 have h1:T.length≤i:=by lia
 rw [bb5 (l₁:=T) h1]
 by_cases h2:i=T.length + P.length - d
 · rw [if_pos h2,at_,bb5 (by lia),bb5 (by lia),bb5 (by lia),lt,show T.length + P.length - T.length - P.length=0 by lia,show i - T.length - (P.length - d)=0 by lia]
   rfl
 rw [if_neg h2]
 by_cases h3:T.length + P.length - d < i∧i≤T.length + P.length
 · rw [if_pos h3,at_,bb5 (by lia),bc3 (by lia),bb5 (by lia),lt]
   obtain ⟨k,hk⟩: ∃k,i - T.length - (P.length - d)=k + 1:=⟨i - T.length - (P.length - d) - 1,by lia⟩
   rw [hk,bj3,bc3 (by lia),cd7,show P.length - d + k=i - 1 - T.length by lia]
 · rw [if_neg h3,at_,bb5 (by lia)]
   by_cases h4:i - T.length < P.length - d
   · rw [bc3 (by lia),bc3 (by lia),by8,if_pos h4]
   · rw [bb5 (by lia),bb5 (by lia),lt]
     obtain ⟨k,hk⟩: ∃k,i - T.length - P.length=k + 1:=⟨i - T.length - P.length - 1,by lia⟩
     rw [hk,show i - T.length - (P.length - d)=(k + d) + 1 by lia,bj3,bj3,bb5 (by lia),ld,by9]
theorem kse {arr:Array be0} {T S R:List be0} (e:arr.toList=T++(S++R)) {j:Nat} (hj:j=T.length + S.length):(mirror arr T.length j ((j - T.length) / 2)).toList=T++(S.reverse++R):=by
 subst hj
 have sz:=congrArg bu0 e
 simp only [bc0,ba6] at sz
 have at_: ∀i,arr[i]?=(T++(S++R))[i]?:=fun i=>by rw [← e,be5]
 apply bs1
 intro i
 rw [be5,getElem?_mirror_all (by lia)]
 by_cases h1:i < T.length
 · rw [if_neg (by lia),at_,bc3 h1,bc3 h1]
 rw [bb5 (l₁:=T) (by lia)]
 by_cases h2:i < T.length + S.length
 · rw [if_pos ⟨by lia,h2⟩,at_,bb5 (by lia),bc3 (by lia),bc3 (by rw [bk4];lia),ca3 (by lia),show T.length + (T.length + S.length) - 1 - i - T.length=S.length - 1 - (i - T.length) by lia]
 · rw [if_neg (by lia),at_,bb5 (by lia),bb5 (by lia),bb5 (by rw [bk4];lia),bk4]
end
section
variable {prog:bb8} {w:World} {A:bf8} {E:Value→ba4→Prop} {s:ba4} {key:be0→Int} {κ:bp6} {ok:be0→Prop}
structure Pc (κ:bp6) (st:bh3) (T1 T2 S0:List be0) (st':bh3) (S:List be0):Prop where
 kd:kindOf st'=κ
 fl:failedOf st'=none
 pd:pendingOf st'=pendingOf st
 ar:(arrOf st').toList=T1++(S++T2)
 pm:S.Perm S0
theorem k0w (L:ki1 prog w A E s key κ ok) {st st':bh3} {T1 T2 S0 S:List be0} (h:Pc κ st T1 T2 S0 st' S) (o: ∀z∈S0,ok z) {i j a b:Nat} {Q:Option Bool→bh3→Prop} (hi:i < S.length) (hj:j < S.length) (ea:a=T1.length + i) (eb:b=T1.length + j) (k:Q (some (decide (key S[i] < key S[j]))) st'):WS prog w A E s (ltAt' a b) Q st':=by
 subst ea eb
 rw [ltAt'_eq,k0r,kw7]
 have os: ∀i (h:i < S.length),ok S[i]:=fun i hi=>o _ (h.pm.mem_iff.mp (be8 _))
 exact bc5 (b60 (bc5 (kcm (kgo h.ar hi) (bc5 (kcm (kgo h.ar hj) (L _ _ _ _ (os i hi) (os j hj) h.kd k))))))
theorem ksf (L:ki1 prog w A E s key κ ok) {st st0:bh3} {T1 T2 S0 S:List be0} (h:Pc κ st T1 T2 S0 st0 S) (o: ∀z∈S0,ok z) {m n:Nat} {Q:Bool→bh3→Prop} (hm:1≤m) (hmn:m≤n) (hn:n=S.length) (up:UpL key (S.take m)) (k: ∀st' S',Pc κ st T1 T2 S0 st' S'→UpL key S'→Q true st'):WS prog w A E s (binarySort' T1.length n m) Q st0:=by
 have l0:S0.length=n:=by rw [hn,h.pm.length_eq]
 rw [binarySort'_eq,show max m 1=m by lia]
 refine bc5 (by7 (Q:=fun c st'=>c.1=none∧∃S',Pc κ st T1 T2 S0 st' S'∧UpL key S') (bl6 (fun j c st'=>c=(none,())∧∃S',Pc κ st T1 T2 S0 st' S'∧UpL key (S'.take j)) ?_ ?_ ⟨rfl,S,h,up⟩) ?_)
 · rintro i c st' hi1 hi2 ⟨rfl,S',h',up'⟩
   have lS:S'.length=n:=by rw [h'.pm.length_eq,l0]
   have hiS:i < S'.length:=by lia
   have sI:S'=S'.take i++(S'[i]::S'.drop (i + 1)):=by rw [← bi6 hiS,bi0]
   have lT:(S'.take i).length=i:=by rw [bi3];lia
   refine bc5 (by7 (Q:=fun c st2=>st2=st'∧c.1=none∧c.2.1≤i∧(∀ z∈S'.take c.2.1,key z≤key S'[i])∧(∀ z∈(S'.take i).drop c.2.1,key S'[i]≤key z)) (bl6 (fun j c st2=>st2=st'∧∃l r,c=(none,l,r)∧l≤r∧r≤i∧(∀ z∈S'.take l,key z≤key S'[i])∧(∀ z∈(S'.take i).drop r,key S'[i]≤key z)∧r - l≤i - j) ?_ ?_ ⟨rfl,0,i,rfl,bf4 _,bb6 _,fun z hz=>(by cases hz),fun z hz=>(by rw [bj6 (by lia)] at hz;cases hz),by lia⟩) ?_)
   · rintro j c st2 _ hj ⟨rfl,l,r,rfl,hlr,hri,b1,b2,hm'⟩
     dsimp only
     refine kaq (fun c=>bd6 ?_) fun c=> ?_
     · have:l=r:=by lia
       subst this
       exact ⟨rfl,rfl,hri,b1,b2⟩
     have hM:(l + r) / 2 < i:=by lia
     refine bc5 (k0w L h' o (i:=i) (j:=(l + r) / 2) hiS (by lia) rfl rfl ?_)
     have tk: ∀z,z∈S'.take ((l + r) / 2 + 1)→key z≤key (S'[(l + r) / 2]'(by lia)):=fun z hz=>by
      have e1:S'.take ((l + r) / 2 + 1)=(S'.take i).take ((l + r) / 2 + 1):=by rw [bw0,bu3 (by lia)]
      rw [e1] at hz
      exact kf2 up' (by rw [by8,if_pos hM,bb2 (by lia)]) z hz
     have dk: ∀z,z∈(S'.take i).drop ((l + r) / 2)→key (S'[(l + r) / 2]'(by lia))≤key z:=fun z hz=>kdo up' (by rw [by8,if_pos hM,bb2 (by lia)]) z hz
     by_cases hlt:key S'[i] < key (S'[(l + r) / 2]'(by lia))
     · rw [decide_eq_true hlt]
       exact kaq (fun q_=>bd6 ⟨rfl,l,(l + r) / 2,rfl,by lia,by lia,b1,fun z hz=>bn8 (bq7 hlt) (dk z hz),by lia⟩) fun z=>absurd rfl z
     · rw [decide_eq_false hlt]
       exact kaq (fun z=>absurd z bb3) fun q_=>bd6 ⟨rfl,(l + r) / 2 + 1,r,rfl,by lia,hri,fun z hz=>by have:=tk z hz;lia,b2,by lia⟩
   · rintro c st2 ⟨rfl,l,r,rfl,hlr,hri,b1,b2,hm'⟩
     have:l=r:=by lia
     subst this
     exact ⟨rfl,rfl,hri,b1,b2⟩
   · rintro ⟨r0,l,r⟩ st2 ⟨rfl,e0,hl,b1,b2⟩
     cases e0
     dsimp only at hl b1 b2 ⊢
     rw [moveDown'_eq]
     refine bc5 (b70 (bd6 ⟨rfl,S'.take l++(S'[i]::((S'.take i).drop l++S'.drop (i + 1))),⟨h'.kd,h'.fl,h'.pd,?_,?_⟩,?_⟩))
     · have e1:(arrOf st2).toList=T1++(S'.take i++(S'[i]::(S'.drop (i + 1)++T2))):=by
        rw [h'.ar]
        conv=>lhs;rw [sI]
        simp only [bc6,b25]
       have:=ksd e1 (d:=i - l) (by lia)
       rw [lT,show i - (i - l)=l by lia,bw0,bu3 hl] at this
       show (bubble (arrOf st2) (T1.length + i) (T1.length + i - (T1.length + l))).toList=_
       rw [show T1.length + i - (T1.length + l)=i - l by lia,this]
       simp only [bc6,b25]
     · refine bz0 ?_ h'.pm
       conv=>rhs;rw [sI]
       have e2:S'.take i=S'.take l++(S'.take i).drop l:=by
        conv=>lhs;rw [← bi0 l (S'.take i)]
        rw [bw0,bu3 hl]
       conv=>rhs;rw [e2]
       rw [bc6]
       refine b22 _ ?_
       exact (List.perm_middle).symm
     · have e3:(S'.take l++(S'[i]::((S'.take i).drop l++S'.drop (i + 1)))).take (i + 1)=S'.take l++(S'[i]::(S'.take i).drop l):=by
        have:S'.take l++(S'[i]::((S'.take i).drop l++S'.drop (i + 1)))=(S'.take l++(S'[i]::(S'.take i).drop l))++S'.drop (i + 1):=by simp
        rw [this,List.take_left' (by simp only [ba6,bf2,bi3,bn7];lia)]
       rw [e3]
       have e2:S'.take i=S'.take l++(S'.take i).drop l:=by
        conv=>lhs;rw [← bi0 l (S'.take i)]
        rw [bw0,bu3 hl]
       have u2:=up'
       unfold UpL at u2
       rw [e2,be6] at u2
       refine be6.mpr ⟨u2.1,bj9.mpr ⟨fun z hz=>b2 z hz,u2.2.1⟩,fun z hz u hu=> ?_⟩
       rcases bc7.mp hu with rfl | hu
       · exact b1 z hz
       · exact u2.2.2 z hz u hu
 · rintro c st' ⟨rfl,S',h',up'⟩
   rw [bj5 (by rw [h'.pm.length_eq];lia)] at up'
   exact ⟨rfl,S',h',up'⟩
 · rintro ⟨r0,_⟩ st' ⟨e0,S',h',up'⟩
   cases e0
   exact bd6 (k st' S' h' up')
end
end L2
set_option maxHeartbeats 4000000
namespace L2
open PySem PySem.Spec PySem.W PyProof.Rows
section
variable {prog:bb8} {w:World} {A:bf8} {E:Value→ba4→Prop} {s:ba4} {key:be0→Int} {κ:bp6} {ok:be0→Prop}
theorem klh (L:ki1 prog w A E s key κ ok) {st st':bh3} {T1 T2 S0 S:List be0} (h:Pc κ st T1 T2 S0 st' S) (o: ∀z∈S0,ok z) {i j a b:Nat} {x y:be0} {Q:Option Bool→bh3→Prop} (hx:S[i]?=some x) (hy:S[j]?=some y) (ea:a=T1.length + i) (eb:b=T1.length + j) (k:Q (some (decide (key x < key y))) st'):WS prog w A E s (ltAt' a b) Q st':=by
 obtain ⟨hi,ex⟩:=bb1.mp hx
 obtain ⟨hj,ey⟩:=bb1.mp hy
 exact k0w L h o hi hj ea eb (by rw [ex,ey];exact k)
theorem kli {st st':bh3} {T1 T2 S0 U V W:List be0} (h:Pc κ st T1 T2 S0 st' (U++(V++W))) {i j:Nat} {Q:Unit→bh3→Prop} (ei:i=T1.length + U.length) (ej:j=T1.length + U.length + V.length) (k: ∀st'',Pc κ st T1 T2 S0 st'' (U++(V.reverse++W))→Q () st''):WS prog w A E s (reverseSlice' i j) Q st':=by
 refine wpS_reverse (k _ ⟨h.kd,h.fl,h.pd,?_,?_⟩)
 · have e:(arrOf st').toList=(T1++U)++(V++(W++T2)):=by rw [h.ar];simp only [bc6]
   have:=kse e (j:=j) (by rw [ej,ba6])
   rw [ba6,← ei] at this
   show (mirror (arrOf st') i j ((j - i) / 2)).toList=_
   rw [this]
   simp only [bc6]
 · refine bz0 ?_ h.pm
   exact ((List.reverse_perm V).append_right W).append_left U
def DnL (key:be0→Int) (l:List be0):Prop:=l.Pairwise fun x y=>key y≤key x
theorem khh {D:List be0} {x y:be0} (u:UpL key (D++[y])) (h:key y≤key x):UpL key ((D++[y])++[x]):=by
 refine be6.mpr ⟨u,bp5 _ _,fun z hz v hv=> ?_⟩
 rw [bc2.mp hv]
 rcases be9.mp hz with hz | hz
 · exact bn8 ((be6.mp u).2.2 z hz y (bc2.mpr rfl)) h
 · rw [bc2.mp hz];exact h
theorem k0x {D:List be0} (u:DnL key D):UpL key D.reverse:=List.pairwise_reverse.mpr u
theorem ke3 {D:List be0} (h:0 < D.length): ∃D' y,D=D'++[y]:=by
 rcases List.eq_nil_or_concat D with rfl | ⟨D',y,e⟩
 · cases h
 · exact ⟨D',y,by rw [e,List.concat_eq_append]⟩
theorem ko1 {D W:List be0} {x y:be0}:((D++[y])++(x::W))[(D++[y]).length]?=some x∧((D++[y])++(x::W))[D.length]?=some y:=by
 constructor
 · rw [bb5 (bb6 _),b21];rfl
 · rw [bc6,bb5 (bb6 _),b21];rfl
def k0y (key:be0→Int) (V:List be0):Prop:=∀x∈V,∀y∈V,key x=key y
theorem ko2 {U V:List be0} (d:DnL key (U++V)) (o:k0y key V):DnL key (U++V.reverse):=by
 have h:=be6.mp d
 refine be6.mpr ⟨h.1,?_,fun x hx y hy=>h.2.2 x hx y (bq5.mp hy)⟩
 exact bd0.mpr fun i j hi hj q_=>cm9 (o _ (bq5.mp (be8 hj)) _ (bq5.mp (be8 hi)))
theorem kur (L:ki1 prog w A E s key κ ok) {st st0:bh3} {T1 T2 S0 D W:List be0} (h:Pc κ st T1 T2 S0 st0 (D++W)) (o: ∀z∈S0,ok z) {n m:Nat} (hn:n=D.length) (h0:0 < n) (hm:m=S0.length) (up:UpL key D) {F:Nat→Option (Option Nat)×Nat→StateT bh3 Sem (ForInStep (Option (Option Nat)×Nat))} {Q:Option (Option Nat)×Nat→bh3→Prop}
 (hF: ∀i j R st',WS prog w A E s (ltAt' (T1.length + j) (T1.length + j - 1)) (fun c st''=>∃b,c=some b∧(b=true→R (.done (none,j)) st'')∧(b=false→R (.yield (none,j + 1)) st'')) st'→WS prog w A E s (F i (none,j)) R st')
 (k: ∀D' W',D'++W'=D++W→D.length≤D'.length→UpL key D'→(∀ x W'',W'=x::W''→∃D'' y,D'=D''++[y]∧key x < key y)→Q (none,D'.length) st0):WS prog w A E s (forIn [n:m] (none,n) F) Q st0:=by
 have lS:D.length + W.length=m:=by rw [hm,← h.pm.length_eq,ba6]
 refine bl6 (fun i c st'=>st'=st0∧∃D' W',D'++W'=D++W∧c=(none,i)∧D'.length=i∧D.length≤i∧UpL key D') ?_ ?_ ⟨rfl,D,W,rfl,rfl,hn.symm,by lia,up⟩
 · rintro i c st' h1 h2 ⟨rfl,D',W',e,rfl,l,ld,u⟩
   have lW:D'.length + W'.length=m:=by rw [← lS,← ba6,e,ba6]
   obtain ⟨D'',y,rfl⟩:=ke3 (D:=D') (by lia)
   cases W' with
   | nil=>simp only [bu4] at lW;lia
   | cons x W''=>
     have two:=ko1 (D:=D'') (W:=W'') (x:=x) (y:=y)
     rw [e,l] at two
     rw [ba6,bh8] at l
     refine hF i i _ _ (klh L h o two.1 two.2 rfl (by lia) ?_)
     refine ⟨_,rfl,fun hb=> ?_,fun hb=>⟨rfl,(D''++[y])++[x],W'',by rw [← e];simp,rfl,by simp;lia,by lia,khh u ?_⟩⟩
     · rw [decide_eq_true_eq] at hb
       have:=k (D''++[y]) (x::W'') e (by rw [ba6,bh8];lia) u (fun x' W3 e3=>by cases e3;exact ⟨D'',y,rfl,hb⟩)
       rw [ba6,bh8,l] at this
       exact this
     · rw [decide_eq_false_iff_not] at hb
       lia
 · rintro c st' ⟨rfl,D',W',e,rfl,l,ld,u⟩
   have lW:D'.length + W'.length=m:=by rw [← lS,← ba6,e,ba6]
   have:=k D' W' e (by lia) u (fun x W'' e3=>by rw [e3,bf2] at lW;lia)
   rw [l] at this
   exact this
end
end L2
set_option maxHeartbeats 4000000
namespace L2
open PySem PySem.Spec PySem.W PyProof.Rows
section
variable {prog:bb8} {w:World} {A:bf8} {E:Value→ba4→Prop} {s:ba4} {key:be0→Int} {κ:bp6} {ok:be0→Prop}
theorem klj {D:List be0} {x:be0} (d:DnL key D) (h: ∀z∈D,key x≤key z):DnL key (D++[x]):=
 be6.mpr ⟨d,bp5 _ _,fun z hz v hv=>by rw [bc2.mp hv];exact h z hz⟩
theorem kw8 {D:List be0} {y:be0} (d:DnL key (D++[y])): ∀z∈D++[y],key y≤key z:=fun z hz=>by
 rcases be9.mp hz with hz | hz
 · exact (be6.mp d).2.2 z hz y (bc2.mpr rfl)
 · rw [bc2.mp hz];exact bu2 _
theorem ksg {D:List be0} {y:be0} (d:UpL key (D++[y])): ∀z∈D++[y],key z≤key y:=fun z hz=>by
 rcases be9.mp hz with hz | hz
 · exact (be6.mp d).2.2 z hz y (bc2.mpr rfl)
 · rw [bc2.mp hz];exact bu2 _
theorem k0z {V:List be0} (o:k0y key V):DnL key V:=bd0.mpr fun i j hi hj q_=>cm9 (o _ (be8 hj) _ (be8 hi))
theorem ksh (L:ki1 prog w A E s key κ ok) {st st0:bh3} {T1 T2 S0 S:List be0} (h:Pc κ st T1 T2 S0 st0 S) (o: ∀z∈S0,ok z) {m:Nat} {Q:Option Nat→bh3→Prop} (hm:m=S0.length) (h0:0 < m) (k: ∀st' D W,Pc κ st T1 T2 S0 st' (D++W)→0 < D.length→UpL key D→Q (some D.length) st'):WS prog w A E s (countRun' T1.length m) Q st0:=by
 obtain ⟨x0,W0,rfl⟩: ∃x W,S=x::W:=by
  cases S with
  | nil=>rw [hm,← h.pm.length_eq] at h0;cases h0
  | cons x W=>exact ⟨x,W,rfl⟩
 have lm: ∀{st':bh3} {D W:List be0},Pc κ st T1 T2 S0 st' (D++W)→D.length + W.length=m:=fun {st' D W} p=>by rw [hm,← p.pm.length_eq,ba6]
 rw [countRun'_eq]
 refine bc5 (kur L (D:=[x0]) (W:=W0) h o rfl (ca4 0) hm (bp5 _ _) (fun i j R st' H=> ?_) fun D W e hle u nx=> ?_)
 · refine bc5 (by7 H fun c st'' ⟨b,hb,h1,h2⟩=> ?_)
   subst hb
   cases b with
   | true=>exact kaq (fun q_=>bd6 (h1 rfl)) fun z=>absurd rfl z
   | false=>exact kaq (fun z=>absurd z bb3) fun q_=>bd6 (h2 rfl)
 have hP:Pc κ st T1 T2 S0 st0 (D++W):=by rw [e];exact h
 have lW:=lm hP
 have hD0:0 < D.length:=by
  cases D with
  | nil=>simp at hle
  | cons=>exact ca4 _
 dsimp only
 refine kaq (fun c=>bd6 (k st0 D W hP hD0 u)) fun c=> ?_
 have c:D.length≠m:=fun z=>c (beq_iff_eq.mpr z)
 obtain ⟨x,W,rfl⟩: ∃x W',W=x::W':=by
  cases W with
  | nil=>exact absurd (by simpa using lW) c
  | cons x W=>exact ⟨x,W,rfl⟩
 obtain ⟨D,y,rfl,hxy⟩:=nx x W rfl
 obtain ⟨n,hn⟩: ∃n,n=(D++[y]).length:=⟨_,rfl⟩
 rw [← hn]
 have two:=ko1 (D:=D) (W:=W) (x:=x) (y:=y)
 have hn':n=D.length + 1:=by rw [hn,ba6,bh8]
 refine kaq (fun c1=> ?_) (fun c1=> ?_)
 obtain ⟨z,D3,rfl⟩: ∃z D3,D=z::D3:=by
  cases D with
  | nil=>rw [hn'] at c1;simp at c1
  | cons z D3=>exact ⟨z,D3,rfl⟩
 refine bc5 (klh L hP o (i:=0) (x:=z) rfl two.2 rfl (by lia) ?_)
 by_cases hr:key z < key y
 · rw [decide_eq_true hr]
   refine kaq (fun q_=>bd6 ?_) fun q=>absurd rfl q
   rw [hn]
   exact k st0 _ _ hP hD0 u
 rw [decide_eq_false hr]
 refine kaq (fun q=>absurd q bb3) fun q_=> ?_
 have hone:k0y key (z::D3++[y]):=by
  have hz: ∀v∈z::D3++[y],key v=key y:=fun v hv=>by
   have a1:=ksg u v hv
   have a2:key z≤key v:=kdo u (i:=0) (x:=z) rfl v hv
   lia
  exact fun v hv v' hv'=>by rw [hz v hv,hz v' hv']
 refine bc5 (kli (U:=[]) (V:=z::D3++[y]) (W:=x::W) hP rfl (by rw [bu4];lia) fun st1 hP1=> ?_)
 rw [by4] at hP1
 have lD1:((z::D3++[y]).reverse).length=n:=by rw [bk4,hn]
 have d1:DnL key (z::D3++[y]).reverse:=k0z fun v hv v' hv'=>hone v (bq5.mp hv) v' (bq5.mp hv')
 have hx1: ∀v∈(z::D3++[y]).reverse,key x≤key v:=fun v hv=>by
  have:=hone v (bq5.mp hv) y (by simp)
  lia
 generalize (z::D3++[y]).reverse=D1 at hP1 lD1 d1 hx1
 clear two hone hr hxy u hP hn'
 rotate_left
 obtain rfl:D=[]:=by
  cases D with
  | nil=>rfl
  | cons z D3=>simp only [bf2] at hn';lia
 have hP1:=hP
 have lD1:([]++[y]).length=n:=hn.symm
 have d1:DnL key ([]++[y]):=bp5 _ _
 have hx1: ∀v∈[]++[y],key x≤key v:=fun v hv=>by rw [bc2.mp hv];lia
 generalize []++[y]=D1 at hP1 lD1 d1 hx1
 clear two hxy u hP hn'
 all_goals
  refine bc5 (ke1 ?_)
  have hS:D1++x::W=(D1++[x])++W:=by simp
  have l1:=lm hP1
  rw [bf2] at l1
  refine bc5 (by7 (Q:=fun c st'=>c.1=none∧∃D W U V,Pc κ st T1 T2 S0 st' (D++W)∧D.length=c.2.1∧0 < D.length∧DnL key D∧D=U++V∧V.length=c.2.2 + 1∧k0y key V)
   (bl6 (fun i c st'=>∃D W U V q,c=(none,i,q)∧Pc κ st T1 T2 S0 st' (D++W)∧D.length=i∧0 < D.length∧DnL key D∧D=U++V∧V.length=q + 1∧k0y key V) ?_ ?_ ⟨D1++[x],W,D1,[x],0,rfl,hS▸hP1,by rw [ba6,bh8,lD1],by simp,klj d1 hx1,rfl,rfl,fun v hv v' hv'=>by rw [bc2.mp hv,bc2.mp hv']⟩) ?_)
  · rintro i c st' hi1 hi2 ⟨D,W,U,V,q,rfl,hP,lD,h0D,d,eD,lV,oV⟩
    have lW:=lm hP
    obtain ⟨D',y',hD'⟩:=ke3 h0D
    obtain ⟨x',W',rfl⟩: ∃x W',W=x::W':=by
     cases W with
     | nil=>rw [bu4] at lW;lia
     | cons x W=>exact ⟨x,W,rfl⟩
    have two:=ko1 (D:=D') (W:=W') (x:=x') (y:=y')
    rw [← hD',lD] at two
    have lD':D'.length + 1=i:=by rw [← lD,hD',ba6,bh8]
    have hyl: ∀v∈D,key y'≤key v:=by rw [hD'];rw [hD'] at d;exact kw8 d
    have hyV:y'∈V:=by
     obtain ⟨V',v,rfl⟩:=ke3 (D:=V) (by lia)
     rw [hD',← bc6] at eD
     have:=List.append_inj_right' eD rfl
     rw [List.cons.inj this |>.1];simp
    dsimp only
    refine bc5 (klh L hP o two.1 two.2 rfl (by lia) ?_)
    by_cases h1:key x' < key y'
    · rw [decide_eq_true h1]
      refine kaq (fun q_=> ?_) fun z=>absurd rfl z
      refine kaq (fun hq=> ?_) fun hq=> ?_
      · refine bc5 (kli (U:=U) (V:=V) (W:=x'::W') (by rw [← bc6,← eD];exact hP) (by have:=congrArg bu0 eD;rw [ba6] at this;lia) (by have:=congrArg bu0 eD;rw [ba6] at this;lia) fun st2 hP2=>bd6 ?_)
        have hD2: ∀v∈U++V.reverse,v∈D:=fun v hv=>by
         rw [eD]
         rcases be9.mp hv with hv | hv
         · exact bn4 _ hv
         · exact bg7 _ (bq5.mp hv)
        refine ⟨(U++V.reverse)++[x'],W',U++V.reverse,[x'],0,rfl,?_,?_,(by rw [ba6,bh8];exact ca4 _),klj (ko2 (eD▸d) oV) fun v hv=>by have:=hyl v (hD2 v hv);lia,rfl,rfl,fun v hv v' hv'=>by rw [bc2.mp hv,bc2.mp hv']⟩
        · have:U++(V.reverse++x'::W')=U++V.reverse++[x']++W':=by simp
          rw [← this];exact hP2
        · rw [ba6,ba6,bk4,← ba6,← eD,lD];rfl
      · refine bd6 ⟨D++[x'],W',D,[x'],0,rfl,?_,by rw [ba6,lD];rfl,by simp,klj d fun v hv=>by have:=hyl v hv;lia,rfl,rfl,fun v hv v' hv'=>by rw [bc2.mp hv,bc2.mp hv']⟩
        have:D++x'::W'=D++[x']++W':=by simp
        rw [← this];exact hP
    · rw [decide_eq_false h1]
      refine kaq (fun z=>absurd z bb3) fun q_=> ?_
      refine bc5 (klh L hP o two.2 two.1 (by lia) rfl ?_)
      by_cases h2:key y' < key x'
      · rw [decide_eq_true h2]
        exact kaq (fun q_=>bd6 ⟨rfl,D,x'::W',U,V,hP,lD,h0D,d,eD,lV,oV⟩) fun z=>absurd rfl z
      · rw [decide_eq_false h2]
        refine kaq (fun z=>absurd z bb3) fun q_=>bd6 ⟨D++[x'],W',U,V++[x'],q + 1,rfl,?_,by rw [ba6,lD];rfl,by simp,klj d fun v hv=>by have:=hyl v hv;lia,by rw [eD,bc6],by rw [ba6,lV];rfl,?_⟩
        · have:D++x'::W'=D++[x']++W':=by simp
          rw [← this];exact hP
        · have hv1: ∀v∈V++[x'],key v=key y':=fun v hv=>by
           rcases be9.mp hv with hv | hv
           · exact oV v hv y' hyV
           · rw [bc2.mp hv];lia
          exact fun v hv v' hv'=>by rw [hv1 v hv,hv1 v' hv']
  · rintro c st' ⟨D,W,U,V,q,rfl,hP,lD,h0D,d,eD,lV,oV⟩
    exact ⟨rfl,D,W,U,V,hP,lD,h0D,d,eD,lV,oV⟩
  · rintro ⟨r0,n2,q⟩ st2 ⟨e0,D2,W2,U,V,hP2,lD2,h0D2,d2,eD2,lV,oV⟩
    cases e0
    dsimp only at lD2 lV ⊢
    refine kaq (fun hq=> ?_) fun hq=> ?_
    refine bc5 (kli (U:=U) (V:=V) (W:=W2) (by rw [← bc6,← eD2];exact hP2) (by have:=congrArg bu0 eD2;rw [ba6] at this;lia) (by have:=congrArg bu0 eD2;rw [ba6] at this;lia) fun st3 hP3=> ?_)
    rw [← bc6] at hP3
    have l3:(U++V.reverse).length=n2:=by rw [ba6,bk4,← ba6,← eD2,lD2]
    have d3:=ko2 (eD2▸d2) oV
    generalize U++V.reverse=D3 at hP3 l3 d3
    rotate_left
    have hP3:=hP2
    have l3:=lD2
    have d3:=d2
    generalize D2=D3 at hP3 l3 d3
    all_goals
     refine bc5 (kli (U:=[]) (V:=D3) (W:=W2) hP3 rfl (by rw [bu4];lia) fun st4 hP4=> ?_)
     refine bc5 (kur L (D:=D3.reverse) (W:=W2) hP4 o (by rw [bk4,l3]) (by lia) hm (k0x d3) (fun i j R st' H=> ?_) fun D W e hle u nx=> ?_)
     · refine bc5 (by7 H fun c st'' ⟨b,hb,h1,h2⟩=> ?_)
       subst hb
       cases b with
       | true=>exact kaq (fun q_=>bd6 (h1 rfl)) fun z=>absurd rfl z
       | false=>exact kaq (fun z=>absurd z bb3) fun q_=>bd6 (h2 rfl)
     · refine bd6 (k st4 D W ?_ (by rw [bk4] at hle;lia) u)
       rw [e]
       exact hP4
end
end L2
set_option maxHeartbeats 4000000
namespace L2
open PySem PySem.Spec PySem.W PyProof.Rows
inductive PenOk:Nat→List (List be0)→List (Nat×Nat×Nat)→Prop
 | nil (b:Nat):PenOk b [] []
 | cons {b:Nat} {r:List be0} {Rs:List (List be0)} {ps:List (Nat×Nat×Nat)} (pw:Nat):PenOk (b + r.length) Rs ps→PenOk b (r::Rs) ((b,r.length,pw)::ps)
theorem PenOk.len {b:Nat} {Rs:List (List be0)} {ps:List (Nat×Nat×Nat)} (h:PenOk b Rs ps):ps.length=Rs.length:=by
 induction h with
 | nil=>rfl
 | cons _ _ ih=>rw [bf2,bf2,ih]
theorem PenOk.snoc {b:Nat} {Rs:List (List be0)} {ps:List (Nat×Nat×Nat)} (h:PenOk b Rs ps) (r:List be0) (pw:Nat):PenOk b (Rs++[r]) (ps++[(b + Rs.flatten.length,r.length,pw)]):=by
 induction h with
 | nil b=>exact .cons pw (.nil _)
 | @cons b r' Rs ps pw' _ ih=>
   refine .cons pw' ?_
   rw [bi1,ba6,← bv4]
   exact ih
theorem PenOk.two {b:Nat} {R1 R2:List (List be0)} {x y:List be0}: ∀{ps:List (Nat×Nat×Nat)},PenOk b (R1++x::y::R2) ps→∃p1 p2 pa pb,ps=p1++(b + R1.flatten.length,x.length,pa)::(b + R1.flatten.length + x.length,y.length,pb)::p2∧p1.length=R1.length∧∀M:List be0,M.length=x.length + y.length→PenOk b (R1++M::R2) (p1++(b + R1.flatten.length,x.length + y.length,pa)::p2):=by
 induction R1 generalizing b with
 | nil=>
   intro ps h
   cases h with
   | cons pa h=>
     cases h with
     | @cons _ _ _ p2 pb h=>exact ⟨[],p2,pa,pb,rfl,rfl,fun M hM=>by
       have:=PenOk.cons (r:=M) pa (b:=b) (Rs:=R2) (ps:=p2) (by rw [hM,← bv4];exact h)
       rw [hM] at this
       exact this⟩
 | cons r R1 ih=>
   intro ps h
   cases h with
   | @cons _ _ _ ps pw h=>
     obtain ⟨p1,p2,pa,pb,e,l,k⟩:=ih h
     refine ⟨(b,r.length,pw)::p1,p2,pa,pb,?_,by rw [bf2,bf2,l],fun M hM=> ?_⟩
     · rw [e,bi1,ba6,← bv4];rfl
     · rw [bi1,ba6,← bv4]
       exact .cons pw (k M hM)
theorem PenOk.last {b:Nat} {Rs:List (List be0)} {ps:List (Nat×Nat×Nat)} (h:PenOk b Rs ps) (pw:Nat):PenOk b Rs (ps.modify (ps.length - 1) fun x=>(x.1,x.2.1,pw)):=by
 induction h with
 | nil=>exact .nil _
 | @cons b r Rs ps pw' h ih=>
   cases h with
   | nil=>exact .cons pw (.nil _)
   | @cons _ r2 Rs ps pw2 h=>
     refine .cons pw' ?_
     exact ih
section
variable {prog:bb8} {w:World} {A:bf8} {E:Value→ba4→Prop} {s:ba4} {key:be0→Int} {κ:bp6} {ok:be0→Prop}
structure Rn (key:be0→Int) (κ:bp6) (S0:List be0) (st:bh3) (Rs:List (List be0)) (Rest:List be0):Prop where
 kd:kindOf st=κ
 fl:failedOf st=none
 ar:(arrOf st).toList=Rs.flatten++Rest
 pm:(Rs.flatten++Rest).Perm S0
 rs: ∀r∈Rs,0 < r.length∧UpL key r
 pd:PenOk 0 Rs (pendingOf st).toList
theorem ko3 (L:ki1 prog w A E s key κ ok) {S0:List be0} (o: ∀z∈S0,ok z) {st:bh3} {R1 R2:List (List be0)} {x y Rest:List be0} (h:Rn key κ S0 st (R1++x::y::R2) Rest) {i:Nat} (hi:i=R1.length) {Q:Bool→bh3→Prop} (k: ∀st' M,Rn key κ S0 st' (R1++M::R2) Rest→Q true st'):WS prog w A E s (mergeAt' i) Q st:=by
 subst hi
 rw [k0q]
 obtain ⟨p1,p2,pa,pb,ep,lp,kp⟩:=h.pd.two
 rw [b51] at ep
 have ar:(arrOf st).toList=R1.flatten++(x++(y++(R2.flatten++Rest))):=by rw [h.ar];simp only [b40,bi1,bc6]
 have hx:=h.rs x (by simp)
 have hy:=h.rs y (by simp)
 have os: ∀z∈(R1++x::y::R2).flatten++Rest,ok z:=fun z hz=>o z (h.pm.mem_iff.mp hz)
 have e1:(pendingOf st)[R1.length]?=some (R1.flatten.length,x.length,pa):=by
  rw [← be5,ep,← lp,bb5 (bb6 _),b21];rfl
 have e2:(pendingOf st)[R1.length + 1]?=some (R1.flatten.length + x.length,y.length,pb):=by
  rw [← be5,ep,← lp,bb5 (by lia),show p1.length + 1 - p1.length=1 by lia];rfl
 refine k0v L ar hx.1 hy.1 (fun z hz=>os z (by simp [hz])) (fun z hz=>os z (by simp [hz])) hx.2 hy.2 h.kd h.fl e1 e2 fun st' M h1 h2 h3 h4 h5 h6=>k st' M ⟨h1,h2,?_,?_,fun r hr=> ?_,?_⟩
 · rw [h4];simp only [b40,bi1,bc6]
 · refine bz0 ?_ h.pm
   simp only [b40,bi1,bc6]
   refine b22 _ ?_
   have:=h5.append_right (R2.flatten++Rest)
   simpa only [bc6] using this
 · rcases be9.mp hr with hr | hr
   · exact h.rs r (by simp [hr])
   · rcases bc7.mp hr with rfl | hr
     · exact ⟨by rw [h5.length_eq,ba6];lia,h6⟩
     · exact h.rs r (by simp [hr])
 · rw [h3]
   have:(((pendingOf st).setIfInBounds R1.length (R1.flatten.length,x.length + y.length,pa)).eraseIdxIfInBounds (R1.length + 1)).toList=p1++(R1.flatten.length,x.length + y.length,pa)::p2:=by
    rw [Array.toList_eraseIdxIfInBounds,Array.toList_setIfInBounds,ep,← lp,List.set_append_right _ _ (bb6 _),b21,bz1,List.eraseIdx_append_of_length_le (by lia),show p1.length + 1 - p1.length=1 by lia]
    rfl
   rw [this]
   have q:=kp M (by rw [h5.length_eq,ba6])
   rw [b51] at q
   exact q
end
end L2
set_option maxHeartbeats 4000000
namespace L2
open PySem PySem.Spec PySem.W PyProof.Rows
section
variable {prog:bb8} {w:World} {A:bf8} {E:Value→ba4→Prop} {s:ba4} {key:be0→Int} {κ:bp6} {ok:be0→Prop}
theorem ksi {Rs:List (List be0)} (h: ∀r∈Rs,0 < r.length∧UpL key r):Rs.length≤Rs.flatten.length:=by
 induction Rs with
 | nil=>exact bb6 _
 | cons r Rs ih=>
   have h1:=(h r bc4).1
   have h2:=ih fun r' hr=>h r' (bb7 _ hr)
   rw [bi1,ba6,bf2]
   lia
theorem kus {Rs:List (List be0)} {i:Nat} (h:i + 1 < Rs.length): ∃R1 x y R2,Rs=R1++x::y::R2∧R1.length=i:=by
 refine ⟨Rs.take i,Rs[i],Rs[i + 1],Rs.drop (i + 2),?_,by rw [bi3];lia⟩
 rw [← bi6 (by lia),← bi6 (by lia),bi0]
theorem k00 {c:Prop} [Decidable c] {a n:Nat} (h:a + 1 < n):(if c then a - 1 else a) + 1 < n:=by
 split <;> lia
theorem kw9 (L:ki1 prog w A E s key κ ok) {st:bh3} {S0:List be0} (o: ∀z∈S0,ok z) (hk:kindOf st=κ) (hf:failedOf st=none) (hp:pendingOf st= #[]) (ha:(arrOf st).toList=S0) (h0:0 < S0.length) {Q:Unit→bh3→Prop}
 (k: ∀st',failedOf st'=none→(arrOf st').toList.Perm S0→UpL key (arrOf st').toList→Q () st'):WS prog w A E s sortRuns' Q st:=by
 have sz:(arrOf st).size=S0.length:=by rw [← ha,bc0]
 rw [sortRuns'_eq]
 refine bc5 (b60 ?_)
 rw [sz]
 dsimp (zeta:=false) only
 refine bc5 (by7 (Q:=fun c st'=>c.1=none∧∃Rs,Rn key κ S0 st' Rs []) (bl6 (fun i c st'=>∃Rs Rest,c=(none,Rs.flatten.length)∧Rn key κ S0 st' Rs Rest∧i≤Rs.flatten.length) ?_ ?_ ⟨[],S0,rfl,⟨hk,hf,ha,bj8 _,fun r hr=>(by cases hr),by rw [hp];exact .nil 0⟩,bb6 _⟩) ?_)
 · rintro i c st' _ hi ⟨Rs,Rest,rfl,h,hl⟩
   have lt:Rs.flatten.length + Rest.length=S0.length:=by rw [← ba6,h.pm.length_eq]
   dsimp (zeta:=false) only
   refine kaq (fun c=>bd6 ⟨rfl,Rs,?_⟩) fun c=> ?_
   · obtain rfl:Rest=[]:=b26 (by lia)
     exact h
   have h1:Pc κ st' Rs.flatten [] Rest st' Rest:=⟨h.kd,h.fl,rfl,by rw [h.ar,be4],bj8 _⟩
   have oR: ∀z∈Rest,ok z:=fun z hz=>o z (h.pm.mem_iff.mp (bg7 _ hz))
   refine bc5 (ksh L h1 oR (by lia) (by lia) fun st1 D W hP hD up=> ?_)
   have lDW:D.length + W.length=Rest.length:=by rw [← ba6,hP.pm.length_eq]
   have push: ∀(st2:bh3) (D2 W2:List be0),Pc κ st' Rs.flatten [] Rest st2 (D2++W2)→0 < D2.length→UpL key D2→Rn key κ S0 st2 Rs (D2++W2):=fun st2 D2 W2 hP2 q_ q_=>
    ⟨hP2.kd,hP2.fl,by rw [hP2.ar,be4],(hP2.pm.append_left _).trans h.pm,h.rs,by rw [hP2.pd];exact h.pd⟩
   dsimp only
   refine kaq (fun cm=> ?_) (fun cm=> ?_)
   refine bc5 (ke1 ?_)
   obtain ⟨f,hf'⟩: ∃f,f=min (S0.length - Rs.flatten.length) (minRun' S0.length S0.length 0):=⟨_,rfl⟩
   rw [← hf']
   have lf:((D++W).take f).length=f:=by rw [bi3,ba6];lia
   have h2:Pc κ st' Rs.flatten ((D++W).drop f) ((D++W).take f) st1 ((D++W).take f):=⟨hP.kd,hP.fl,hP.pd,by rw [hP.ar,be4,bi0],bj8 _⟩
   refine bc5 (ksf L h2 (fun z hz=>oR z (hP.pm.mem_iff.mp (bk8 hz))) (m:=D.length) (by lia) (by lia) lf.symm (by rw [bw0,bu3 (by lia),ck2];exact up) fun st2 D2 hP2 up2=> ?_)
   refine kaq (fun z=>absurd z (by simp)) fun q_=> ?_
   have lD2:D2.length=f:=by rw [hP2.pm.length_eq,lf]
   have hR:Rn key κ S0 st2 Rs (D2++(D++W).drop f):=⟨hP2.kd,hP2.fl,by rw [hP2.ar],by
    refine bz0 (b22 _ ?_) h.pm
    refine bz0 ?_ hP.pm
    have:=hP2.pm.append_right ((D++W).drop f)
    rwa [bi0] at this,h.rs,by rw [hP2.pd];exact h.pd⟩
   have hD2:0 < D2.length:=by lia
   generalize (D++W).drop f=W2 at hR
   rw [← lD2]
   clear hP2 h2 lD2 hf' lf
   rotate_left
   have hR:=push st1 D W hP hD up
   have hD2:=hD
   have up2:=up
   generalize D=D2 at hR hD2 up2
   generalize W=W2 at hR
   generalize st1=st2 at hR
   all_goals
    refine bc5 (b60 ?_)
    have fin: ∀(st3:bh3) (Rs3:List (List be0)),Rn key κ S0 st3 Rs3 (D2++W2)→Rn key κ S0 (setPending st3 ((pendingOf st3).push (Rs.flatten.length,D2.length,0))) (Rs3++[D2]) W2∧(Rs3++[D2]).flatten.length=Rs.flatten.length + D2.length:=fun st3 Rs3 h3=>by
     have l3:Rs3.flatten.length=Rs.flatten.length:=by
      have a1:=h3.pm.length_eq
      have a2:=hR.pm.length_eq
      rw [ba6] at a1 a2
      lia
     have fl:(Rs3++[D2]).flatten=Rs3.flatten++D2:=by simp
     refine ⟨⟨h3.kd,h3.fl,?_,?_,fun r hr=> ?_,?_⟩,by rw [fl,ba6,l3]⟩
     · show (arrOf st3).toList=_
       rw [h3.ar,fl,bc6]
     · rw [fl,bc6];exact h3.pm
     · rcases be9.mp hr with hr | hr
       · exact h3.rs r hr
       · rw [bc2.mp hr];exact ⟨hD2,up2⟩
     · show PenOk 0 (Rs3++[D2]) ((pendingOf st3).push (Rs.flatten.length,D2.length,0)).toList
       rw [bs0,← l3]
       have:=h3.pd.snoc D2 0
       rwa [b51] at this
    cases eb:(pendingOf st2).back? with
    | none=>
      obtain ⟨f1,f2⟩:=fin st2 Rs hR
      exact bc5 (b70 (bd6 ⟨_,_,by rw [f2],f1,by rw [f2];lia⟩))
    | some t=>
      obtain ⟨s1,n1,p0⟩:=t
      dsimp only
      generalize power' S0.length (2 * s1 + n1) (2 * s1 + n1 + n1 + D2.length) S0.length=pw
      refine bc5 (by7 (Q:=fun c st3=>c.1=none∧∃Rs3,Rn key κ S0 st3 Rs3 (D2++W2)) (bl6 (fun i c st3=>c=(none,())∧∃Rs3,Rn key κ S0 st3 Rs3 (D2++W2)) ?_ ?_ ⟨rfl,Rs,hR⟩) ?_)
      · rintro i c st3 _ _ ⟨rfl,Rs3,h3⟩
        refine bc5 (b60 ?_)
        have lp:(pendingOf st3).size=Rs3.length:=by rw [← bc0];exact h3.pd.len
        by_cases hp2:(pendingOf st3).size > 1
        · rw [if_pos hp2,bd9 (by lia)]
          refine kaq (fun q_=>bd6 ⟨rfl,Rs3,h3⟩) fun q_=> ?_
          rw [lp]
          obtain ⟨R1,x,y,R2,rfl,lj⟩:=kus (Rs:=Rs3) (i:=Rs3.length - 2) (by lia)
          refine bc5 (ko3 L o h3 lj.symm fun st4 M h4=> ?_)
          exact kaq (fun z=>absurd z (by simp)) fun q_=>bd6 ⟨rfl,_,h4⟩
        · rw [if_neg hp2]
          exact bd6 ⟨rfl,Rs3,h3⟩
      · rintro c st3 ⟨rfl,Rs3,h3⟩
        exact ⟨rfl,Rs3,h3⟩
      · rintro ⟨r0,_⟩ st3 ⟨e0,Rs3,h3⟩
        cases e0
        refine bc5 (b70 ?_)
        have h4:Rn key κ S0 (setPending st3 ((pendingOf st3).modify ((pendingOf st3).size - 1) fun x=>(x.1,x.2.1,pw))) Rs3 (D2++W2):=⟨h3.kd,h3.fl,h3.ar,h3.pm,h3.rs,by
         show PenOk 0 Rs3 ((pendingOf st3).modify ((pendingOf st3).size - 1) fun x=>(x.1,x.2.1,pw)).toList
         rw [Array.toList_modify,← bc0]
         exact h3.pd.last pw⟩
        obtain ⟨f1,f2⟩:=fin _ Rs3 h4
        exact bc5 (b70 (bd6 ⟨_,_,by rw [f2],f1,by rw [f2];lia⟩))
 · rintro c st' ⟨Rs,Rest,rfl,h,hl⟩
   have lt:Rs.flatten.length + Rest.length=S0.length:=by rw [← ba6,h.pm.length_eq]
   obtain rfl:Rest=[]:=b26 (by lia)
   exact ⟨rfl,Rs,h⟩
 · rintro ⟨r0,lo⟩ st' ⟨e0,Rs,h⟩
   cases e0
   have lt:Rs.flatten.length=S0.length:=by rw [← h.pm.length_eq,be4]
   have lR:=ksi h.rs
   refine bc5 (by7 (Q:=fun c st'=>c.1=none∧∃Rs,Rn key κ S0 st' Rs []∧Rs.length≤1) (bl6 (fun i c st'=>c=(none,())∧∃Rs,Rn key κ S0 st' Rs []∧(Rs.length≤1∨Rs.length + i≤S0.length)) ?_ ?_ ⟨rfl,Rs,h,by lia⟩) ?_)
   · rintro i c st' _ hi ⟨rfl,Rs,h,hl⟩
     have lp:(pendingOf st').size=Rs.length:=by rw [← bc0];exact h.pd.len
     refine bc5 (b60 ?_)
     dsimp only
     rw [lp]
     refine kaq (fun c=>bd6 ⟨rfl,Rs,h,c⟩) fun c=> ?_
     obtain ⟨j,hj,hj2⟩: ∃j,j + 1 < Rs.length∧j=(if Option.any (fun x=>decide (x < (pendingOf st')[Rs.length - 2 + 1]?.elim 0 fun x=>x.snd.fst)) (if Rs.length - 2 > 0 then cl1 (fun x=>x.snd.fst) (pendingOf st')[Rs.length - 2 - 1]? else none)=true then Rs.length - 2 - 1 else Rs.length - 2):=⟨_,k00 (by lia),rfl⟩
     obtain ⟨R1,x,y,R2,rfl,lj⟩:=kus hj
     rw [← hj2]
     refine bc5 (ko3 L o h lj.symm fun st2 M h2=> ?_)
     refine kaq (fun z=>absurd z (by simp)) fun q_=>bd6 ⟨rfl,_,h2,?_⟩
     simp only [ba6,bf2] at hl ⊢
     lia
   · rintro c st' ⟨rfl,Rs,h,hl⟩
     refine ⟨rfl,Rs,h,?_⟩
     have l0:0 < Rs.length:=by
      have:Rs.flatten.length=S0.length:=by rw [← h.pm.length_eq,be4]
      cases Rs with
      | nil=>simp at this;lia
      | cons=>exact ca4 _
     lia
   · rintro ⟨r0,_⟩ st' ⟨e0,Rs,h,hl⟩
     cases e0
     have e1:(arrOf st').toList=Rs.flatten:=by rw [h.ar,be4]
     refine bd6 (k st' h.fl (by rw [h.ar];exact h.pm) ?_)
     rw [e1]
     match Rs,h,hl with
     | [],_,_=>exact br8
     | [r],h,_=>rw [bi1,List.flatten_nil,be4];exact (h.rs r bc4).2
end
end L2
set_option maxHeartbeats 4000000
namespace L2
open PySem PySem.Spec PySem.W PySem.Calls PyProof.Rows
section
variable {prog:bb8} {w:World} {A:bf8} {E:Value→ba4→Prop} {s:ba4}
theorem khi {α β:Type} {f:α→β} {l m:List β} (h:l.Perm m): ∀r:List α,m=r.map f→∃π:List α,π.Perm r∧l=π.map f:=by
 induction h with
 | nil=>intro r e;exact ⟨r,bj8 _,e⟩
 | @cons x l m _ ih=>
   intro r e
   cases r with
   | nil=>cases e
   | cons a r=>
     rw [bg5] at e
     injection e with e1 e2
     obtain ⟨π,h1,h2⟩:=ih r e2
     exact ⟨a::π,h1.cons a,by rw [h2,e1];rfl⟩
 | swap x y l=>
   intro r e
   match r,e with
   | a::b::r,e=>
     rw [bg5,bg5] at e
     injection e with e1 e2
     injection e2 with e2 e3
     exact ⟨b::a::r,cc2 a b r,by rw [e1,e2,e3];rfl⟩
 | trans _ _ ih1 ih2=>
   intro r e
   obtain ⟨π,h1,h2⟩:=ih2 r e
   obtain ⟨π',h3,h4⟩:=ih1 π h2
   exact ⟨π',h3.trans h1,h4⟩
noncomputable def kxa (h:Heap) (a:Addr) (vs:List Value):Heap:=((h.update a (bl8 fun q_=>(#[]:Array Value))).push (seqObj "tuple" vs.toArray 0)).push (seqObj "list" #[] 0)
theorem klk {a:Addr} {vs:List Value} {n:Nat} {P:b18→ba4→Prop} {key:be0→Int} {κ:bp6} {ok:be0→Prop} (ho:s.heap.get? a=some (seqObj "list" vs.toArray n)) (h2:2≤vs.length) (zz:vs.length≤sizeLine)
 (hkd: ∀R:bp6→ba4→Prop,R κ {s with heap:=kxa s.heap a vs}→wpAny (model prog w) A (keyKind' vs.toArray) R E {s with heap:=kxa s.heap a vs})
 (L:ki1 prog w A E {s with heap:=kxa s.heap a vs} key κ ok) (ov: ∀v∈vs,ok (v,v))
 (h: ∀out:List Value,(∃ l:List be0,l.Perm (vs.map fun v=>(v,v))∧UpL key l∧out=l.map (·.2))→P (.done (.ret .none)) {s with heap:=sortedHeap s.heap a vs out.toArray}):wpAny (model prog w) A (Builtin.«list.sort» ⟨[.ref a],[]⟩) P E s:=by
 rw [list_sort_plain]
 obtain ⟨e1,o1⟩: ∃e,(s.heap.update a (bl8 fun q_=>(#[]:Array Value))).get? a=some (seqObj "list" #[] e):=⟨_,get?_update_seq ho _⟩
 have o6:=bb0 (seqObj "list" #[] 0) (bb0 (seqObj "tuple" vs.toArray 0) o1)
 have c2: ¬vs.toArray.size < 2:=by simpa using h2
 refine ba2 (listItems_at ho rfl (ba2 (b81 ho rfl (ba2 (cc5 o1 rfl (ba2 (wpAny_newTuple (ba2 (b32 (bl1 ?_) (bf4 _))) zz)))) (by simpa using zz) (bf4 _))))
 simp only [if_neg c2]
 refine ba2 (hkd _ ?_)
 have hr:=kw9 (Q:=fun q_ st'=>failedOf st'=none∧(arrOf st').toList.Perm (vs.map fun v=>(v,v))∧UpL key (arrOf st').toList) L (st:=cb5 κ (vs.toArray.zip vs.toArray) #[] 7 none) (S0:=vs.map fun v=>(v,v)) (fun z hz=>by
  obtain ⟨v,hv,rfl⟩:=ba8.mp hz
  exact ov v hv) rfl rfl rfl (by show (vs.toArray.zip vs.toArray).toList=_;simp only [ch8];exact khe vs) (by rw [ba3];lia) (fun st' a1 a2 a3=>⟨a1,a2,a3⟩)
 refine ba2 (bp8 hr ?_ fun q_ q_ z=>z)
 rintro ⟨_,st'⟩ s' ⟨rfl,hf,hp,hu⟩
 dsimp only
 have eo:(arrOf st').map (·.2)=((arrOf st').toList.map (·.2)).toArray:=by
  apply Array.toList_inj.mp
  rw [Array.toList_map]
 have lo:((arrOf st').toList.map (·.2)).length=vs.length:=by rw [ba3,hp.length_eq,ba3]
 rw [eo,hf]
 refine ba2 (cc5 o6 rfl (ba2 (b81 o6 rfl ?_ (bf4 _) (by rw [bc8,lo];exact b66 zz))))
 simp only [bne_self_eq_false,bn0,if_false]
 exact bb4 (h _ ⟨_,hp,hu,rfl⟩)
theorem kgp {l:Addr} {vs:List Value} {Q:Value→ba4→Prop} {key:be0→Int} {κ:bp6} {ok:be0→Prop} (hl:s.heap.IsList l vs.toArray) (h2:2≤vs.length) (zz:vs.length≤sizeLine)
 (hkd: ∀(A':bf8) (E':Value→ba4→Prop) (h':Heap),(∀ b o,s.heap.get? b=some o→h'.get? b=some o)→A'.units≤A.units + 2→(∀ R:bp6→ba4→Prop,R κ {s with heap:=h'}→wpAny (model prog w) A' (keyKind' vs.toArray) R E' {s with heap:=h'})∧ki1 prog w A' E' {s with heap:=h'} key κ ok) (ov: ∀v∈vs,ok (v,v))
 (h: ∀out:List Value,(∃ l:List be0,l.Perm (vs.map fun v=>(v,v))∧UpL key l∧out=l.map (·.2))→Q (.ref (s.heap.objs.size + 1)) {s with heap:=sortedAll s.heap vs out.toArray}):wpAny (model prog w) A (call (.builtin "sorted") [.ref l]) Q E s:=by
 apply br1 cj7 cg7 cg8
 · exact cg9 _
 unfold Builtin.«sorted»
 refine ba2 (m:=checkCount "sorted" 1 1 _) (bb4 (ba2 (collect_list hl (ba2 (b32 ?_ zz)) zz)))
 have hz:((s.heap.push (seqObj "list" #[] 0)).update s.heap.objs.size (bl8 (· ++vs.toArray))).objs.size=s.heap.objs.size + 1:=(b90 ..).trans (cf4 ..)
 have ol:(((s.heap.push (seqObj "list" #[] 0)).update s.heap.objs.size (bl8 (· ++vs.toArray))).push (seqObj "list" vs.toArray 0)).get? (s.heap.objs.size + 1)=some (seqObj "list" vs.toArray 0):=hz▸bd8 _ rfl
 change wpAny _ _ _ _ _ {s with heap:=((s.heap.push (seqObj "list" #[] 0)).update s.heap.objs.size (bl8 (· ++vs.toArray))).push (seqObj "list" vs.toArray 0)}
 rw [hz]
 refine ba2 (bl1 (bj1 b10 ⟨_,ol,rfl⟩ by5 (klk ol h2 zz (hkd _ _ _ ?hh ?hu).1 (hkd _ _ _ ?hh ?hu).2 ov fun out ho=>⟨_,rfl,bb4 ⟨_,rfl,h out ho⟩⟩) (b11 _)))
 case hh=>
  intro b o hb
  have lb:=bd7 hb
  have n1:b≠s.heap.objs.size:=bf3 lb
  have n2:b≠s.heap.objs.size + 1:=bf3 (bj0 lb)
  unfold kxa
  refine bb0 _ (bb0 _ ?_)
  rw [b41 _ _ _ _ n2]
  refine bb0 _ ?_
  rw [b41 _ _ _ _ n1]
  exact bb0 _ hb
 case hu=>exact bb6 _
end
end L2
set_option maxHeartbeats 4000000
namespace L2
open PySem PySem.Spec PySem.W PySem.Calls PyProof.Rows
section
variable {X:Cx}
theorem km3 (K:ba0) (hK:X.K=K) (hu:X.A.units + 40 < cLine):CallR X (.builtin "sorted") (fun xs H Q=>∃(p:Addr) (ys:List V) (ps:List (Int×Int)) (B:Int),xs=[.ref p]∧SqL K H p ys∧ys.length=ps.length∧
 (∀ (i:Nat) (q:Int×Int),ps[i]?=some q→∃a,ys[i]?=some (.ref a)∧H a=some (.tup [.int q.1,.int q.2]))∧(∀ q∈ps,0≤q.2∧q.2 < B)∧
 ∀(l:Addr) (π:List Nat),H l=none→π.Perm (ba5 ps.length)→(∀ i j,i≤j→j < π.length→kou B ps (π.getD i 0)≤kou B ps (π.getD j 0))→Q (.ref l) (upd H l (.lst (π.map fun i=>ys.getD i V.non)))):=by
 subst hK
 intro pins s σ H xs us Q I r h
 obtain ⟨p,ys,ps,B,rfl,hq,hl,hat,hB,k⟩:=h
 obtain ⟨u,rfl,r1⟩:=kd0 r
 cases (show u=bg1 p from r1)
 obtain ⟨its,rv,⟨op,n0,hop,hc,_,hd⟩,hz⟩:=I.list hq
 have hL:s.heap.IsList p its.toArray:=⟨op,hop,hc,n0,hd⟩
 have hil:its.length=ps.length:=by rw [← rv.length,hl]
 have hf:H (s.heap.objs.size + 1)=none:=I.hok.fresh (bq0 _)
 have fin: ∀π:List Nat,π.Perm (ba5 ps.length)→(∀ i j,i≤j→j < π.length→kou B ps (π.getD i 0)≤kou B ps (π.getD j 0))→∃v H',Inv X pins σ H' {s with heap:=sortedAll s.heap its (π.map fun i=>its.getD i bc9).toArray}∧RelV v (.ref (s.heap.objs.size + 1))∧Q v H':=fun π hp ho=>by
  obtain ⟨e,at_⟩:=ch1 s.heap its (π.map fun i=>its.getD i bc9).toArray
  have pin: ∀i∈π,i < ys.length:=fun i hi=>by rw [hl];exact ba7.mp (hp.mem_iff.mp hi)
  refine ⟨.ref (s.heap.objs.size + 1),upd H (s.heap.objs.size + 1) (.lst (π.map fun i=>ys.getD i V.non)),?_,rfl,k _ _ hf hp ho⟩
  exact I.laid (t':=s.toks) (fun b o e=>cd8 e) (bq0 _) ⟨by rw [ba3,hp.length_eq,bg2,← hl];exact hz,π.map fun i=>its.getD i bc9,e,khc rv π pin,at_⟩
 by_cases h2:its.length < 2
 · refine kfi hL h2 ?_
   have:=fin (ba5 ps.length) (bj8 _) fun i j hij hj=>by
    rw [bg2] at hj
    have:i=j:=by lia
    rw [this]
    exact bu2 _
   rw [show (ba5 ps.length).map (fun i=>its.getD i bc9)=its by rw [← hil];exact kbu its bc9] at this
   exact this
 have h2:2≤its.length:=by lia
 have tup0: ∀(i:Nat),i < its.length→∃a o n t1 t2,its.getD i bc9= .ref a∧s.heap.get? a=some o∧o.cls= .type "tuple"∧o.data= .seq #[.int (ps.getD i (0,0)).1 t1,.int (ps.getD i (0,0)).2 t2] n:=fun i hi=>by
  have e1:ps[i]?=some ps[i]:=bb2 (by lia)
  obtain ⟨a,ha,hH⟩:=hat i _ e1
  obtain ⟨u,e2,r2⟩:=rv.get ha
  cases (show u=bg1 a from r2)
  obtain ⟨_,ts,rt,ot,ho,ct,nt,dt⟩:=(show ObjOk X.prog X.w H s.heap a (.tup [.int ps[i].1,.int ps[i].2]) from I.hok a _ hH)
  obtain ⟨u1,u2,rfl,q1,q2⟩:=kzx rt
  obtain ⟨t1,rfl⟩:=(show ∃t,u1=by1 ps[i].1 t from q1)
  obtain ⟨t2,rfl⟩:=(show ∃t,u2=by1 ps[i].2 t from q2)
  have ep:ps.getD i (0,0)=ps[i]:=by simp [show i < ps.length by lia]
  refine ⟨a,ot,nt,t1,t2,?_,ho,ct,?_⟩
  · rw [bb9,e2];rfl
  · rw [ep];exact dt
 have same: ∀i j,i < its.length→j < its.length→its.getD i bc9=its.getD j bc9→ps.getD i (0,0)=ps.getD j (0,0):=fun i j hi hj e=>by
  obtain ⟨a,o,n,t1,t2,e1,a1,_,a3⟩:=tup0 i hi
  obtain ⟨a',o',n',t1',t2',e1',a1',_,a3'⟩:=tup0 j hj
  rw [e1,e1'] at e
  cases e
  rw [a1] at a1'
  cases a1'
  rw [a3] at a3'
  injection a3' with a3'
  have:=congrArg b99 a3'
  injection this with b1 b2
  injection b2 with b2 b3
  injection b1 with b1
  injection b2 with b2
  exact bt5 b1 b2
 obtain ⟨key,hkey⟩: ∃key:be0→Int,∀i,i < its.length→∀v,key (its.getD i bc9,v)=kou B ps i:=by
  classical
  refine ⟨fun kd=>if hh: ∃i,i < its.length∧its.getD i bc9=kd.1 then kou B ps hh.choose else 0,fun i hi v=> ?_⟩
  have hh: ∃j,j < its.length∧its.getD j bc9=its.getD i bc9:=⟨i,hi,rfl⟩
  show (if hh: ∃j,j < its.length∧its.getD j bc9=its.getD i bc9 then kou B ps hh.choose else 0)=_
  rw [dif_pos hh]
  unfold kou
  rw [same _ _ hh.choose_spec.1 hi hh.choose_spec.2]
 refine kgp (κ:=tuples' true) (key:=key) (ok:=fun kd=>∃i,i < its.length∧kd=(its.getD i bc9,its.getD i bc9)) hL h2 (by rw [← rv.length];exact hz) (fun A' E' h' keep hA=>⟨fun R hR=> ?_,fun x y st R ⟨i,hi,ex⟩ ⟨j,hj,ey⟩ hk hR=> ?_⟩) (fun v hv=> ?_) fun out ho=> ?_
 · have tups: ∀(l:List Value),(∀ v∈l,∃a o n t1 t2 x y,v= .ref a∧h'.get? a=some o∧o.cls= .type "tuple"∧o.data= .seq #[.int x t1,.int y t2] n)→∃fs,fs.length=l.length∧KatTups h' l fs∧∀f∈fs,∃x t,f=by1 x t:=fun l=>by
    induction l with
    | nil=>exact fun q_=>⟨[],rfl,cn6,fun q_ z=>nomatch z⟩
    | cons v l ih=>
      intro hv
      obtain ⟨fs,f1,f2,f3⟩:=ih fun v hm=>hv v (bb7 _ hm)
      obtain ⟨a,o,n,t1,t2,x,y,rfl,a1,a2,a3⟩:=hv v bc4
      exact ⟨.int x t1::fs,by rw [bf2,bf2,f1],cn0 a1 a2 a3 rfl f2,fun f hf=>(bc7.mp hf).elim (fun z=>⟨x,t1,z⟩) (f3 f)⟩
   obtain ⟨fs,f1,f2,f3⟩:=tups its fun v hv=>by
    obtain ⟨i,hi,e⟩:=bg0 hv
    obtain ⟨a,o,n,t1,t2,e1,a1,a2,a3⟩:=tup0 i hi
    have e2:its.getD i bc9=v:=by simp [hi,e]
    exact ⟨a,o,n,t1,t2,_,_,e2▸e1,keep a o a1,a2,a3⟩
   refine kat_kind (T:= .type "int") f2 (by lia) (fun v hv=> ?_) (by decide) ?_
   · obtain ⟨x,t,rfl⟩:=f3 v hv
     exact cl6 rfl
   rw [show (bt0 "int" != bt0 "tuple")=true by decide]
   exact hR
 · subst ex ey
   rw [← kw7,lt'_eq]
   obtain ⟨a,o,n,t1,t2,e1,a1,_,a3⟩:=tup0 i hi
   obtain ⟨a',o',n',t1',t2',e1',a1',_,a3'⟩:=tup0 j hj
   refine bc5 (b60 (bc5 (wpS_lift (b82 ?_))))
   rw [hk]
   dsimp only
   rw [e1,e1']
   refine kw3 (keep _ _ a1) a3 (keep _ _ a1') a3' (by lia) ⟨rfl,bd6 ?_⟩
   have bi:=hB (ps.getD i (0,0)) (by rw [bb9,bb2 (by lia)];exact be8 _)
   have bj:=hB (ps.getD j (0,0)) (by rw [bb9,bb2 (by lia)];exact be8 _)
   rw [hkey i hi,hkey j hj] at hR
   rw [show decide ((ps.getD i (0,0)).1 < (ps.getD j (0,0)).1∨(ps.getD i (0,0)).1=(ps.getD j (0,0)).1∧(ps.getD i (0,0)).2 < (ps.getD j (0,0)).2)=decide (kou B ps i < kou B ps j) from decide_eq_decide.mpr (kw4 bi.1 bi.2 bj.1 bj.2)]
   exact hR
 · obtain ⟨i,hi,e⟩:=bg0 hv
   exact ⟨i,hi,by rw [show its.getD i bc9=v by simp [hi,e]]⟩
 · obtain ⟨l,lp,lu,rfl⟩:=ho
   obtain ⟨π,hp,rfl⟩:=khi (f:=fun i=>(its.getD i bc9,its.getD i bc9)) lp (ba5 its.length) (by
    conv=>lhs;rw [← kbu its bc9]
    rw [bc1];rfl)
   have pin: ∀i∈π,i < its.length:=fun i hi=>ba7.mp (hp.mem_iff.mp hi)
   have:=fin π (by rw [← hil];exact hp) fun i j hij hj=>by
    rw [show π.getD i 0=π[i]'(by lia) by simp [show i < π.length by lia],show π.getD j 0=π[j] by simp [hj]]
    rcases bl7 hij with q | q
    · have z:=bd0.mp lu i j (by rw [ba3];lia) (by rw [ba3];exact hj) q
      rw [bp2,bp2,hkey _ (pin _ (be8 _)),hkey _ (pin _ (be8 _))] at z
      exact z
    · subst q;exact bu2 _
   rw [bc1]
   exact this
end
end L2
namespace L2
open PySem PySem.Spec PyProof.Rows
section
variable {He:Hp} {K:ba0} {ι:Type} {Y:ι→Cx} {e:Expr} {pos p:Pos}
def ko4 (t:Dq):Dq:=fun env P=>t env fun xs=>∃(ps:List (Int×Int)) (B:Int),xs=ps.map pr2∧(∀ q∈ps,0≤q.2∧q.2 < B)∧∀qs:List (Int×Int),qs.Perm ps→qs.Pairwise (fun x y=>x.1 * B + x.2≤y.1 * B + y.2)→P (qs.map pr2)
theorem khj {t:Dq} (h:DL He K Y e t) (hm: ∀i,(Y i).mg "sorted"=none) (hu: ∀i,(Y i).A.units + 40 < cLine) (hg:autoParam (∀ i,Gl (Y i) "sorted") u3._auto_1) (hK:autoParam (∀ i,(Y i).K=K) u3._auto_1) (hs:autoParam (∀ i,bd5 [e] (Y i).env=[(false,eval e (Y i).env)]) u3._auto_1):
 DO He K Y (.Call (.Name "sorted" p) [e] [] pos) (ko4 t):=by
 obtain ⟨te,h1,h2⟩:=h
 refine ⟨_,fun i=>kbe (km3 K (hK i) (hu i)) (hg i) (hm i) kdn (kad (h1 i) kal (hs i)) (by decide) (by decide) (hs i) rfl,fun P Q F p k=>h2 _ _ F p fun ds a ys R1 H1 pd e1 ha r1=> ?_⟩
 obtain ⟨ps,B,rfl,hB,kk⟩:=pd
 have hl:ys.length=ps.length:=by rw [r1.len,ba3]
 refine ⟨a,ys,ps,B,rfl,SqL.of ha,hl,fun i q hq=> ?_,hB,fun l π hn hp hs=> ?_⟩
 · obtain ⟨v,hv,rv⟩:=r1.get' (i:=i) (d:=pr2 q) (by rw [be3,hq];rfl)
   obtain ⟨b,zs,rfl,hb,rz⟩:=rv.tup_inv
   cases rz with
   | cons z1 rz=>
     cases rz with
     | cons z2 rz=>
       cases rz
       rw [z1.int_inv,z2.int_inv] at hb
       exact ⟨b,hv,e1.rh _ _ hb⟩
 · have pin: ∀i∈π,i < ps.length:=fun i hi=>ba7.mp (hp.mem_iff.mp hi)
   have er:(π.map fun i=>(ps.map pr2).getD i bm9)=(π.map fun i=>ps.getD i (0,0)).map pr2:=by
    rw [bc1]
    refine bi8 fun i hi=> ?_
    have:=pin i hi
    simp [this]
   have ra:=kw5 r1 π fun i hi=>by rw [hl];exact pin i hi
   rw [er] at ra
   have hp2:(π.map fun i=>ps.getD i (0,0)).Perm ps:=by
    have:=hp.map fun i=>ps.getD i (0,0)
    rwa [kbu] at this
   have hpw:(π.map fun i=>ps.getD i (0,0)).Pairwise (fun x y=>x.1 * B + x.2≤y.1 * B + y.2):=by
    rw [bd0]
    intro i j hi hj hij
    rw [ba3] at hi hj
    have z:=hs i j (by lia) hj
    unfold kou at z
    simp only [bp2]
    rw [show π.getD i 0=π[i] by simp [hi],show π.getD j 0=π[j] by simp [hj]] at z
    exact z
   exact k _ l _ R1 _ (kk _ hp2 hpw) (e1.trans (Ext.newO e1.wd hn trivial)) (e1.hh.free hn) kaf (e1.wd.rh.free hn) ra
end
section
variable {K:ba0} {R:Hp}
end
section
variable {He:Hp} {K:ba0} {ι:Type} {Y:ι→Cx} {e a b c:Expr} {es:List Expr} {pos:Pos}
end
end L2
namespace L2
open PySem PySem.Spec PyProof.Rows PySem.W PySem.Calls
section
variable {prog:bb8} {w:World} {A:bf8} {E:Value→ba4→Prop} {s:ba4} {d it:Addr} {es:Array DictEntry} {ep i:Nat}
end
end L2
namespace L2
open PySem PySem.Spec PySem.W PySem.Calls PyProof.Rows
theorem ko5 {h0 h:Heap} {L D:Addr} {m:Str→Option Value} {news:List (Addr×Obj)} {vs out:List Value} (F:Fr h0 L h m) (N:News h0 L h ((D,listOf vs.toArray 0)::news)) (hD: ∀q∈news,q.1 < D):
 ∃c,Fr h0 L (sortedHeap h D vs out.toArray) m∧News h0 L (sortedHeap h D vs out.toArray) ((D,listOf out.toArray c)::news):=by
 have z:=N _ bc4
 obtain ⟨c,hc⟩:=sortedHeap_at (vs:=vs) (out:=out.toArray) (n:=0) z.1
 refine ⟨c,ksk_fr (((ksk_fr F (bx1 h D _) z.2.1 z.2.2).push _).push _) (bx1 _ D _) z.2.1 z.2.2,fun p hp=> ?_⟩
 rcases bc7.mp hp with rfl | hp
 · exact ⟨hc,z.2⟩
 · have y:=N p (bb7 _ hp)
   exact ⟨(sortedHeap_old (fun e=>absurd (hD p hp) (by rw [e];exact bk1 _)) (bd7 y.1)).trans y.1,y.2⟩
theorem ki2 {α:Type} {f:α→Addr}: ∀l:List α,Vals (l.map fun x=>V.ref (f x)) (l.map fun x=>bg1 (f x))
 | []=> .nil
 | _::l=> .cons rfl (ki2 l)
section
variable {X:Cx}
end
section
variable {He:Hp} {K:ba0} {ι:Type} {Y:ι→Cx} {e:Expr} {pos p:Pos}
end
end L2
namespace L2
open PySem PySem.Spec PyProof.Rows
section
variable {He:Hp} {K:ba0} {H0 R H:Hp} {σ:St} {env:List Dt}
end
section
variable {He:Hp} {K:ba0} {ι:Type} {Y:ι→Cx} {e a b c:Expr} {es:List Expr} {pos:Pos}
end
section
variable {He:Hp} {K:ba0} {ι:Type} {Y:ι→Cx} {e:Expr} {es:List Expr} {pos p:Pos} {prog:bb8} {w:World} {mg:Str→Option Value} {base:Heap} {x:Str} {k:Nat} {ps:List Str} {P:List ba9→(Dt→Prop)→Prop} {t:Dq}
theorem SlotR.old {H0 H1 R H:Hp} {v:Option V} {d:Dt} (h:SlotR K H1 R H v d) (s:Same H0 H1):SlotR K H0 R H v d:=by
 cases d with
 | un=>cases v <;> trivial
 | d y=>cases v <;> exact h
 | o xs=>cases v with
   | none=>exact h
   | some v=>obtain ⟨a,ys,h1,h2,h3,h4,h5⟩:=h;exact ⟨a,ys,h1,h2,h3,s.free h4,h5⟩
 | dk xs=>cases v with
   | none=>exact h
   | some v=>obtain ⟨a,ys,h1,h2,h3,h4,h5⟩:=h;exact ⟨a,ys,h1,h2,h3,s.free h4,h5⟩
 | dt xs=>cases v with
   | none=>exact h
   | some v=>obtain ⟨a,ys,h1,h2,h3,h4,h5⟩:=h;exact ⟨a,ys,h1,h2,h3,s.free h4,h5⟩
 | dv xs=>cases v with
   | none=>exact h
   | some v=>obtain ⟨a,ys,h1,h2,h3,h4,h5⟩:=h;exact ⟨a,ys,h1,h2,h3,s.free h4,h5⟩
 | oo xs=>cases v with
   | none=>exact h
   | some v=>obtain ⟨a,ys,h1,h2,h3,h4,h5,h6⟩:=h;exact ⟨a,ys,h1,h2,h3,s.free h4,Paired.mapP h5 fun _ _ ⟨b,zs,k1,k2,k3,k4,k5⟩=>⟨b,zs,k1,k2,k3,s.free k4,k5⟩,h6⟩
def ko6 (i:Nat) (P:List ba9→(Dt→Prop)→Prop) (t:Dq):Ds:=fun D env=>t env fun ds=>P ds fun dt=>D.nx (env.set i dt)
theorem ksj (i:Nat) {y:Str} {pos':Pos} {cp:Pos} (hN: ∀j,(Y j).N.Nodup) (G:Fn prog w K mg base x k ps (spG K P)) (hr: ∀i,Room k (Y i).A) (ha:DA He K Y (e::es) t) (hi:autoParam (∀ j,(Y j).N[i]?=some y) u3._auto_1) (hx:autoParam (∀ j,Loc (Y j).env.scope y) u12._auto_1)
 (hX:autoParam (∀ i,(Y i).prog=prog∧(Y i).w=w∧(Y i).K=K∧(Y i).mg=mg∧(Y i).base=base) u11._auto_1) (hg:autoParam (∀ i,Gl (Y i) x) u3._auto_1)
 (hdb:autoParam ((x == ("__debug__":Str))=false) u2._auto_1) (he:autoParam (∀ i,bd5 (e::es) (Y i).env=(false,eval e (Y i).env)::bd5 es (Y i).env) u3._auto_1) (hpl:autoParam (∀ i,(backTo cp (bd5 es (Y i).env)).any (·.1)=false) u3._auto_1)
 (hs:autoParam (∀ j,bs9 (.Call (.Name x p) (e::es) [] cp) (some (.Name y pos')) pos.line (Y j).env=pure false) u3._auto_1) (hf:autoParam (∀ j,(Y j).fn y=true∨(Y j).env.scope.names.lookup y=some .local) u13._auto_1):
 DS He K Y (.Assign [.Name y pos'] (.Call (.Name x p) (e::es) [] cp) pos) (ko6 i P t):=by
 obtain ⟨te,h1,h2⟩:=ha
 refine ⟨kzr (tFnG K P te) (knr i),fun j=>ka9 (hN j) (hi j) (hx j) ?_ (hs j) (hf j),fun D E F s c pp=>h2 _ _ F pp fun ds vs R1 H1 q1 e1 r1=>⟨R1,ds,_,e1.wd,r1,q1,fun dt v R' H' q ex sl=> ?_⟩⟩
 · obtain ⟨a1,a2,a3,a4,a5⟩:=hX j
   subst a1 a2 a3 a4 a5
   exact kom G (hr j) (h1 j) rfl (hg j) hdb (he j) (hpl j)
 · have e2:=e1.trans ex
   refine c.nx _ _ _ _ q (s.trans e2.rr) (F.setN' e2 i ?_ fun b hb=> ?_)
   · exact sl.old (F.ext.hh.trans e1.hh)
   · obtain ⟨_,_,_,z⟩:=sl.hasAt hb
     exact e1.hh.free z
end
end L2
namespace L2
open PySem PySem.Spec PySem.W PySem.Calls PyProof.Rows
section
variable {prog:bb8} {w:World} {A:bf8} {E:Value→ba4→Prop} {s:ba4}
end
section
variable {X:Cx} {pos:Pos}
theorem kgq (K:ba0) (hK:X.K=K):CallR X (.builtin "sorted") (fun xs H Q=>∃(p:Addr) (ns:List Int),xs=[.ref p]∧SqL K H p (ns.map V.int)∧ns.length < 64∧∀(l:Addr) (ms:List Int),H l=none→ms.Perm ns→ms.Pairwise (· ≤ ·)→Q (.ref l) (upd H l (.lst (ms.map V.int)))):=by
 subst hK
 intro pins s σ H xs us Q I r h
 obtain ⟨p,ns,rfl,hq,h64,k⟩:=h
 obtain ⟨u,rfl,r1⟩:=kd0 r
 cases (show u=bg1 p from r1)
 obtain ⟨its,rv,pl,hz⟩:=I.list hq
 have hi:=khf rv
 refine sorted_ints pl.isList hi (by rw [← rv.length,ba3];exact h64) fun out ms h1 h2 h3=> ?_
 obtain ⟨e,at_⟩:=ch1 s.heap its out
 have hf:H (s.heap.objs.size + 1)=none:=I.hok.fresh (bq0 _)
 refine ⟨.ref (s.heap.objs.size + 1),upd H (s.heap.objs.size + 1) (.lst (ms.map V.int)),?_,rfl,k _ ms hf h2 h3⟩
 exact I.laid (t':=s.toks) (fun b o e=>cd8 e) (bq0 _) ⟨by rw [ba3,h2.length_eq,bq9];lia,out.toList,e,kf1 h1,by rw [b30];exact at_⟩
end
section
variable {He:Hp} {K:ba0} {ι:Type} {Y:ι→Cx} {e a b:Expr} {pos p:Pos}
def klm (t:Dq):Dq:=fun env P=>t env fun xs=>∃ns:List Int,xs=ns.map ba1∧ns.length < 64∧∀ms:List Int,ms.Perm ns→ms.Pairwise (· ≤ ·)→P (ms.map ba1)
theorem ksk {t:Dq} (h:DL He K Y e t) (hm: ∀i,(Y i).mg "sorted"=none) (hg:autoParam (∀ i,Gl (Y i) "sorted") u3._auto_1) (hK:autoParam (∀ i,(Y i).K=K) u3._auto_1) (hs:autoParam (∀ i,bd5 [e] (Y i).env=[(false,eval e (Y i).env)]) u3._auto_1):
 DO He K Y (.Call (.Name "sorted" p) [e] [] pos) (klm t):=by
 obtain ⟨te,h1,h2⟩:=h
 refine ⟨_,fun i=>kbe (kgq K (hK i)) (hg i) (hm i) kdn (kad (h1 i) kal (hs i)) (by decide) (by decide) (hs i) rfl,fun P Q F p k=>h2 _ _ F p fun ds a ys R1 H1 pd e1 ha r1=> ?_⟩
 obtain ⟨ns,rfl,h64,kk⟩:=pd
 refine ⟨a,ns,rfl,by rw [← r1.ints_inv];exact SqL.of ha,h64,fun l ms hn hp hs=> ?_⟩
 exact k _ l _ R1 _ (kk _ hp hs) (e1.trans (Ext.newO e1.wd hn trivial)) (e1.hh.free hn) kaf (e1.wd.rh.free hn) (RpAll.ints ms)
end
section
variable {X:Cx}
end
section
variable {X:Cx} {e:Expr} {es:List Expr} {pos p2:Pos}
end
section
variable {He:Hp} {K:ba0} {ι:Type} {Y:ι→Cx} {e a b:Expr} {es:List Expr} {pos p p2 apos cpos:Pos} {lo hi:Option Expr}
theorem Rp.str_inv' {R:Hp} {v:V} {s:Str} (r:Rp K R v (.str s)):v= .str s:=by
 generalize hd:ba9.str s=d at r
 cases r with
 | str _=>cases hd;rfl
 | scr _=>unfold kg3 at hd;cases hd
 | any=>unfold anyD at hd;cases hd
 | xc _=>unfold excD at hd;cases hd
 | _=>cases hd
theorem kxb (a b:Str):(a.cps.toList == b.cps.toList)=decide (a=b):=by
 rw [bh0,beq_iff_eq,decide_eq_true_iff]
 refine ⟨fun h=> ?_,fun h=>by rw [h]⟩
 obtain ⟨⟨a⟩⟩:=a
 obtain ⟨⟨b⟩⟩:=b
 exact congrArg (fun l=>(⟨⟨l⟩⟩:Str)) h
def kxc (n:Bool):ba9→ba9→(ba9→Prop)→Prop:=fun x y P=>∃a b,x= .str a∧y= .str b∧P (.bool (xor n (decide (a=b))))
def rEqS (n:Bool):R2:=fun x y H Q=>∃a b,x= .str a∧y= .str b∧Q (.bl (xor n (decide (a=b)))) H
theorem k01 {X:Cx}:OpR X (bh4 .Eq) (rEqS false):=by
 intro pins s σ H x y v u Q I rx ry h
 obtain ⟨a,b,rfl,rfl,q⟩:=h
 obtain ⟨t,rfl⟩:=rx
 obtain ⟨t',rfl⟩:=ry
 exact PySem.P.eq_str ⟨.bl _,H,I,rfl,by rw [kxb];rw [cc3] at q;exact q⟩
theorem k02:OD K Y (bh4 .Eq) (kxc false):=by
 refine ⟨_,fun q_=>k01,fun P Q r1 r2 p k=> ?_⟩
 obtain ⟨a,b,rfl,rfl,p⟩:=p
 exact ⟨a,b,r1.str_inv',r2.str_inv',k _ _ p (kue _)⟩
end
section
variable {X:Cx}
end
section
variable {He:Hp} {K:ba0} {ι:Type} {Y:ι→Cx} {e a b tg:Expr} {es:List Expr} {pos p p2:Pos}
end
end L2
namespace L2
open PySem PySem.SetTable
theorem ksl {xs:Array Nat} (hs:xs.toList.Pairwise (· < ·)) (j:Nat): ∀fuel lo hi:Nat,hi - lo≤fuel→lo≤hi→hi≤xs.size→(∀ i (h:i < xs.size),i < lo→xs[i] < j)→(∀ i (h:i < xs.size),hi≤i→j≤xs[i])→
 below.go xs j fuel lo hi≤xs.size∧(∀ i (h:i < xs.size),i < below.go xs j fuel lo hi→xs[i] < j)∧∀i (h:i < xs.size),below.go xs j fuel lo hi≤i→j≤xs[i]:=by
 have le: ∀a b (ha:a < xs.size) (hb:b < xs.size),a≤b→xs[a]≤xs[b]:=fun a b ha hb h=>by
  rcases bl7 h with h | rfl
  · have:=bd0.mp hs a b (by simpa using ha) (by simpa using hb) h
    simp only [b31] at this
    exact b98 this
  · exact bb6 _
 intro fuel
 induction fuel with
 | zero=>
   intro lo hi h1 h2 h3 h4 h5
   have:lo=hi:=by lia
   subst this
   exact ⟨h3,h4,h5⟩
 | succ fuel ih=>
   intro lo hi h1 h2 h3 h4 h5
   unfold below.go
   by_cases c:lo < hi
   · rw [if_pos c]
     have hm:(lo + hi) / 2 < xs.size:=by lia
     dsimp only
     rw [show xs.getD ((lo + hi) / 2) j=xs[(lo + hi) / 2] from by simp [hm]]
     by_cases d:xs[(lo + hi) / 2] < j
     · rw [if_pos d]
       exact ih _ _ (by lia) (by lia) h3 (fun i h q=>b50 (le i _ h hm (by lia)) d) h5
     · rw [if_neg d]
       exact ih _ _ (by lia) (by lia) (by lia) h4 fun i h q=>bj2 (ch7 d) (le _ i hm h q)
   · rw [if_neg c]
     have:lo=hi:=by lia
     subst this
     exact ⟨h3,h4,h5⟩
theorem khk {xs:Array Nat} (hs:xs.toList.Pairwise (· < ·)) (j:Nat):below xs j≤xs.size∧(∀ i (h:i < xs.size),i < below xs j→xs[i] < j)∧∀i (h:i < xs.size),below xs j≤i→j≤xs[i]:=
 ksl hs j _ _ _ (by lia) (bf4 _) (bb6 _) (fun i q_ h=>absurd h (bo5 _)) fun i h q=>absurd h (by lia)
theorem ksm {xs:Array Nat} (hs:xs.toList.Pairwise (· < ·)) {j i:Nat} (h:xs[i]?=some j):below xs j=i:=by
 obtain ⟨hi,e⟩:=b47.mp h
 obtain ⟨a,b,c⟩:=khk hs j
 have lt: ∀a b (ha:a < xs.size) (hb:b < xs.size),a < b→xs[a] < xs[b]:=fun a b ha hb h=>by
  have:=bd0.mp hs a b (by simpa using ha) (by simpa using hb) h
  simpa only [b31] using this
 rcases bl3 (below xs j) i with z | z | z
 · have h1:=c (below xs j) (by lia) (bb6 _)
   have h2:=lt _ _ (by lia) hi z
   lia
 · exact z
 · have:=b i hi z
   lia
abbrev kdv:=Nat×(Int×Value)
structure TbR (t:SetTable) (es:Array (Int×Value)) (R:List kdv):Prop where
 p:t.place.toList=R.map (·.1)
 e:es.toList=R.map (·.2)
 d:t.dummies= #[]
 up:(R.map (·.1)).Pairwise (· < ·)
 le: ∀r∈R,r.1≤t.mask
theorem TbR.slot_live {t:SetTable} {es:Array (Int×Value)} {R:List kdv} (T:TbR t es R) {i:Nat} {r:kdv} (h:R[i]?=some r):t.slot r.1= .live i:=by
 have hp:t.place[i]?=some r.1:=by
  rw [← be5,T.p,be3,h];rfl
 have hb:=ksm (by rw [T.p];exact T.up) hp
 unfold cl7
 dsimp only
 rw [hb,hp,if_pos (beq_self_eq_true _)]
theorem TbR.slot_empty {t:SetTable} {es:Array (Int×Value)} {R:List kdv} (T:TbR t es R) {j:Nat} (h: ∀r∈R,r.1≠j):t.slot j= .empty:=by
 unfold cl7
 dsimp only
 rw [if_neg]
 · rw [T.d]
   rfl
 · intro z
   have z:=bm0 z
   rw [← be5,T.p,be3] at z
   obtain ⟨r,hr,e⟩:=bg3.mp z
   exact h r (be2 hr) e
noncomputable def adv (m:Nat) (p:Probe):Probe:=
 if p.more > 0 then {p with j:=p.j + 1,more:=p.more - 1} else {p with j:=(leap m p.i p.perturb).1,more:=runEnd m (leap m p.i p.perturb).1 - (leap m p.i p.perturb).1,i:=(leap m p.i p.perturb).1,perturb:=(leap m p.i p.perturb).2}
noncomputable def at0 (m i q:Nat):Probe:=⟨i,runEnd m i - i,i,q,none⟩
noncomputable def pr (m:Nat) (h:Int):Nat→Probe
 | 0=>at0 m (bits h % (m + 1)) (bits h)
 | n + 1=>adv m (pr m h n)
theorem khl (m:Nat) (h:Int): ∀n,(pr m h n).dummy=none
 | 0=>rfl
 | n + 1=>by
   show (adv m (pr m h n)).dummy=none
   unfold adv
   split <;> exact khl m h n
def Past (R:List kdv) (m:Nat) (h:Int) (a b:Nat):Prop:=∀q,a≤q→q < b→∃r∈R,r.1=(pr m h q).j∧r.2.1≠h
theorem Past.one {R:List kdv} {m:Nat} {h:Int} {a b:Nat} {r:kdv} (hr:r∈R) (e:r.1=(pr m h a).j) (n:r.2.1≠h) (x:Past R m h (a + 1) b):Past R m h a b:=fun q h1 h2=>by
 rcases bl7 h1 with z | rfl
 · exact x q z h2
 · exact ⟨r,hr,e,n⟩
noncomputable def kxd (R:List kdv) (m:Nat) (h:Int) (n fuel:Nat):Option Met→Prop
 | none=>Past R m h n (n + fuel)
 | some (.empty j d)=>d=none∧∃k,n≤k∧j=(pr m h k).j∧(∀ r∈R,r.1≠j)∧Past R m h n k
 | some (.candidate j i next)=>∃k r,n≤k∧j=(pr m h k).j∧R[i]?=some r∧r.1=j∧r.2.1=h∧next=pr m h (k + 1)∧Past R m h n k
theorem k03 {t:SetTable} {es:Array (Int×Value)} {R:List kdv} (T:TbR t es R) {f:Nat→Int} {h:Int} (hf: ∀i r,R[i]?=some r→f i=r.2.1):
 ∀fuel n,kxd R t.mask h n fuel (probe.go t f h fuel (pr t.mask h n))
 | 0,n=>fun q h1 h2=>by lia
 | fuel + 1,n=>by
   unfold probe.go
   by_cases c: ∃r∈R,r.1=(pr t.mask h n).j
   · obtain ⟨r,hr,e⟩:=c
     obtain ⟨i,hi⟩:=bm5.mp hr
     rw [← e,T.slot_live hi]
     dsimp only
     rw [hf i r hi]
     by_cases d:r.2.1=h
     · rw [d,if_pos (beq_self_eq_true _)]
       exact ⟨n,r,bb6 _,e,hi,rfl,d,rfl,fun q h1 h2=>by lia⟩
     · rw [if_neg (fun z=>d (bm0 z))]
       have ih:=k03 (h:=h) T hf fuel (n + 1)
       show kxd R t.mask h n (fuel + 1) (probe.go t f h fuel (pr t.mask h (n + 1)))
       revert ih
       generalize probe.go t f h fuel (pr t.mask h (n + 1))=g
       intro ih
       match g,ih with
       | none,ih=>exact Past.one hr e d (by rw [show n + (fuel + 1)=n + 1 + fuel by lia];exact ih)
       | some (.empty j d'),⟨h1,k,h2,h3,h4,h5⟩=>exact ⟨h1,k,by lia,h3,h4,Past.one hr e d h5⟩
       | some (.candidate j i' nx),⟨k,r',h2,h3,h4,h5,h6,h7,h8⟩=>exact ⟨k,r',by lia,h3,h4,h5,h6,h7,Past.one hr e d h8⟩
   · rw [T.slot_empty (fun r hr e=>c ⟨r,hr,e⟩)]
     exact ⟨khl _ _ _,n,bb6 _,rfl,fun r hr e=>c ⟨r,hr,e⟩,fun q h1 h2=>by lia⟩
def OkM (m:Nat):Prop:=m=7∨m=31
noncomputable def lf (m i:Nat):Nat:=(i * 5 + 1) % (m + 1)
noncomputable def itr (m i:Nat):Nat→Nat
 | 0=>i
 | r + 1=>lf m (itr m i r)
theorem all7: ∀i < 8,∀s < 8,∃r < 8,itr 7 i r=s:=by decide +kernel
theorem all31: ∀i < 32,∀s < 32,∃r < 32,itr 31 i r=s:=by decide +kernel
theorem OkM.all {m:Nat} (h:OkM m) {i s:Nat} (hi:i≤m) (hs:s≤m): ∃r,r≤m∧itr m i r=s:=by
 rcases h with rfl | rfl
 · obtain ⟨r,h1,h2⟩:=all7 i (by lia) s (by lia)
   exact ⟨r,by lia,h2⟩
 · obtain ⟨r,h1,h2⟩:=all31 i (by lia) s (by lia)
   exact ⟨r,by lia,h2⟩
noncomputable def adN (m:Nat) (p:Probe):Nat→Probe
 | 0=>p
 | n + 1=>adv m (adN m p n)
theorem khm (m:Nat) (p:Probe) (a:Nat): ∀b,adN m p (a + b)=adN m (adN m p a) b
 | 0=>rfl
 | b + 1=>by show adv m (adN m p (a + b))=adv m _;rw [khm m p a b]
theorem ko7 (m:Nat) (h:Int) (a:Nat): ∀b,pr m h (a + b)=adN m (pr m h a) b
 | 0=>rfl
 | b + 1=>by show adv m (pr m h (a + b))=adv m _;rw [ko7 m h a b]
theorem kfm (m:Nat): ∀(c:Nat) (p:Probe),p.more=c→p.dummy=none→adN m p (c + 1)=at0 m (leap m p.i p.perturb).1 (leap m p.i p.perturb).2
 | 0,p,h,hd=>by
   show adv m p=_
   unfold adv
   rw [if_neg (by lia)]
   unfold at0
   rw [← hd]
 | c + 1,p,h,hd=>by
   have e:adv m p={p with j:=p.j + 1,more:=p.more - 1}:=by unfold adv;rw [if_pos (by lia)]
   rw [show c + 1 + 1=1 + (c + 1) by lia,khm]
   show adN m (adv m p) (c + 1)=_
   rw [e]
   exact kfm m c _ (by show p.more - 1=c;lia) hd
theorem kf3 (m i:Nat):runEnd m i - i≤9:=by unfold runEnd;split <;> lia
theorem ko8 (m:Nat) (h:Int): ∀n,(pr m h n).more≤9
 | 0=>kf3 _ _
 | n + 1=>by
   show (adv m (pr m h n)).more≤9
   unfold adv
   split
   · have:=ko8 m h n
     dsimp only
     lia
   · exact kf3 _ _
theorem ko9 (h:Int):bits h < 2 ^ 64:=by
 unfold bits
 have h1:0≤h % (2 ^ 64:Int):=bz2 _ (by decide)
 have h2:h % (2 ^ 64:Int) < 2 ^ 64:=bt7 _ (by decide)
 lia
theorem kpa (m:Nat) (h:Int): ∀n,(pr m h n).perturb < 2 ^ 64
 | 0=>ko9 h
 | n + 1=>by
   have ih:=kpa m h n
   show (adv m (pr m h n)).perturb < 2 ^ 64
   unfold adv
   split
   · exact ih
   · show (pr m h n).perturb / 32 < 2 ^ 64
     lia
noncomputable def trn (m:Nat):Nat→Nat→Nat→Nat×Nat
 | i,q,0=>(i,q)
 | i,q,r + 1=>leap m (trn m i q r).1 (trn m i q r).2
theorem ki3 (m i q:Nat): ∀r,∃n,n≤10 * r∧adN m (at0 m i q) n=at0 m (trn m i q r).1 (trn m i q r).2
 | 0=>⟨0,bb6 _,rfl⟩
 | r + 1=>by
   obtain ⟨n,h1,h2⟩:=ki3 m i q r
   have:=kf3 m (trn m i q r).1
   refine ⟨n + ((runEnd m (trn m i q r).1 - (trn m i q r).1) + 1),by lia,?_⟩
   rw [khm,h2]
   exact kfm m _ (at0 m _ _) rfl rfl
theorem kln (m i q:Nat): ∀r,(trn m i q r).2=q / 32 ^ r
 | 0=>by simp [trn]
 | r + 1=>by
   show (trn m i q r).2 / 32=_
   rw [kln m i q r,Nat.div_div_eq_div_mul,Nat.pow_succ]
theorem kj3 (m i q a:Nat): ∀b,trn m i q (a + b)=trn m (trn m i q a).1 (trn m i q a).2 b
 | 0=>rfl
 | b + 1=>by
   show leap m (trn m i q (a + b)).1 (trn m i q (a + b)).2=leap m _ _
   rw [kj3 m i q a b]
theorem klo (m i:Nat): ∀r,trn m i 0 r=(itr m i r,0)
 | 0=>rfl
 | r + 1=>by
   show leap m (trn m i 0 r).1 (trn m i 0 r).2=_
   rw [klo m i r]
   simp [leap,itr,lf]
theorem kj4 (m i q:Nat):(leap m i q).1≤m:=by
 have:(i * 5 + 1 + q / 32) % (m + 1) < m + 1:=cb6 _ (by lia)
 show (i * 5 + 1 + q / 32) % (m + 1)≤m
 lia
theorem ki4 {m:Nat} (hm:OkM m) {i q s:Nat} (hi:i≤m) (hq:q < 2 ^ 64) (hs:s≤m): ∃r,r≤13 + m∧(trn m i q r).1=s:=by
 have h13:(trn m i q 13).2=0:=by rw [kln];exact ch9 (by lia)
 have hi':(trn m i q 13).1≤m:=kj4 m _ _
 obtain ⟨r,h1,h2⟩:=hm.all hi' hs
 exact ⟨13 + r,by lia,by rw [kj3,h13,klo];exact h2⟩
theorem kut {m:Nat} (hm:OkM m) (h:Int) (n:Nat) {s:Nat} (hs:s≤m): ∃k,n≤k∧k < n + 10 * turns m∧(pr m h k).j=s:=by
 have h1:=kfm m _ (pr m h n) rfl (khl m h n)
 obtain ⟨r,h2,h3⟩:=ki4 hm (kj4 m (pr m h n).i (pr m h n).perturb) (q:=(leap m (pr m h n).i (pr m h n).perturb).2) (by have:=kpa m h n;show (pr m h n).perturb / 32 < _;lia) hs
 obtain ⟨k,h4,h5⟩:=ki3 m (leap m (pr m h n).i (pr m h n).perturb).1 (leap m (pr m h n).i (pr m h n).perturb).2 r
 have:=ko8 m h n
 refine ⟨n + (((pr m h n).more + 1) + k),by lia,by unfold turns;lia,?_⟩
 rw [ko7,khm,h1,h5]
 exact h3
theorem ksn {m:Nat} (hm:OkM m) {R:List kdv} {h:Int} {n:Nat} (hl:R.length≤m) (x:Past R m h n (n + 10 * turns m)):False:=by
 have sub:ba5 (m + 1) ⊆ R.map (·.1):=fun s hs=>by
  obtain ⟨k,h1,h2,h3⟩:=kut hm h n (s:=s) (by have:=ba7.mp hs;lia)
  obtain ⟨r,hr,e,_⟩:=x k h1 h2
  exact ba8.mpr ⟨r,hr,e.trans h3⟩
 have:=(bi7 (n:=m + 1)).length_le_of_subset sub
 rw [bg2,ba3] at this
 lia
theorem kxe (j:Nat):has #[] j=false:=rfl
theorem klp {α:Type} (xs:Array α) (p:Nat) (x:α):(insertAt xs p x).toList=xs.toList.take p++x::xs.toList.drop p:=by
 unfold insertAt
 simp [List.extract_eq_drop_take]
 exact bj5 (by simp)
theorem k04: ∀{l:List Nat} {j p:Nat},l.Pairwise (· < ·)→(∀ i (h:i < l.length),i < p→l[i] < j)→(∀ i (h:i < l.length),p≤i→j < l[i])→(l.take p++j::l.drop p).Pairwise (· < ·):=fun {l j p} hs h1 h2=>by
 refine be6.mpr ⟨hs.sublist (bv0 _ _),bj9.mpr ⟨fun y hy=> ?_,hs.sublist (b02 _ _)⟩,fun a ha b hb=> ?_⟩
 · obtain ⟨i,hi,rfl⟩:=bw1.mp hy
   exact h2 (p + i) (by lia) (by lia)
 · obtain ⟨i,hi,rfl⟩:=bo4.mp ha
   have hlt:=h1 i (by lia) (by lia)
   rcases bc7.mp hb with rfl | hb
   · exact hlt
   · obtain ⟨k,hk,rfl⟩:=bw1.mp hb
     exact cm6 hlt (h2 (p + k) (by lia) (by lia))
theorem TbR.put {t:SetTable} {es:Array (Int×Value)} {R:List kdv} (T:TbR t es R) {j:Nat} {x:Int×Value} (hj: ∀r∈R,r.1≠j) (hm:j≤t.mask):
 ∃R',TbR (t.put j).1 (insertAt es (t.put j).2 x) R'∧R'.Perm ((j,x)::R):=by
 obtain ⟨b1,b2,b3⟩:=khk (xs:=t.place) (by rw [T.p];exact T.up) j
 refine ⟨R.take (below t.place j)++(j,x)::R.drop (below t.place j),⟨?_,?_,?_,?_,?_⟩,List.perm_middle.trans (by rw [bi0])⟩
 · show (insertAt t.place (below t.place j) j).toList=_
   rw [klp,T.p]
   simp [cd9,ce0]
 · show (insertAt es (below t.place j) x).toList=_
   rw [klp,T.e]
   simp [cd9,ce0]
 · show (if has t.dummies j=true then _ else t.dummies)=_
   rw [T.d,kxe]
   rfl
 · have:=k04 (j:=j) (p:=below t.place j) T.up (fun i h hi=>by
    have:=b2 i (by rw [← bc0,T.p];exact h) hi
    simpa [← T.p] using this) (fun i h hi=>by
    have h':i < t.place.size:=by rw [← bc0,T.p];exact h
    have h3:=b3 i h' hi
    have e:t.place[i]=(R.map (·.1))[i]:=by simp [← T.p]
    have ne:(R.map (·.1))[i]≠j:=by
     obtain ⟨r,hr,e⟩:=ba8.mp (be8 h)
     rw [← e]
     exact hj r hr
    lia)
   simpa [cd9,ce0] using this
 · intro r hr
   show r.1≤t.mask
   rcases be9.mp hr with h | h
   · exact T.le r (bk8 h)
   · rcases bc7.mp h with rfl | h
     · exact hm
     · exact T.le r (bp3 h)
def Rch (R:List kdv) (m:Nat):Prop:=∀r∈R,∃n,r.1=(pr m r.2.1 n).j∧∀q,q < n→∃r'∈R,r'.1=(pr m r.2.1 q).j
theorem Rch.put {R R':List kdv} {m k:Nat} {x:Int×Value} (H:Rch R m) (p:R'.Perm (((pr m x.1 k).j,x)::R)) (hp: ∀q,q < k→∃r'∈R,r'.1=(pr m x.1 q).j):Rch R' m:=fun r hr=>by
 have up: ∀r'∈R,r'∈R':=fun r' h=>p.mem_iff.mpr (bb7 _ h)
 rcases bc7.mp (p.mem_iff.mp hr) with rfl | h
 · exact ⟨k,rfl,fun q hq=>by obtain ⟨r',h1,h2⟩:=hp q hq;exact ⟨r',up _ h1,h2⟩⟩
 · obtain ⟨n,h1,h2⟩:=H r h
   exact ⟨n,h1,fun q hq=>by obtain ⟨r',h3,h4⟩:=h2 q hq;exact ⟨r',up _ h3,h4⟩⟩
theorem kso {m:Nat} (hm:OkM m) (h:Int): ∀n,(pr m h n).j + (pr m h n).more≤m
 | 0=>by
   have:bits h % (m + 1) < m + 1:=cb6 _ (by lia)
   show bits h % (m + 1) + (runEnd m _ - _)≤m
   unfold runEnd
   split <;> lia
 | n + 1=>by
   have ih:=kso hm h n
   show (adv m (pr m h n)).j + (adv m (pr m h n)).more≤m
   unfold adv
   split
   · dsimp only
     lia
   · have:=kj4 m (pr m h n).i (pr m h n).perturb
     dsimp only
     unfold runEnd
     split <;> lia
theorem win {m:Nat} {h:Int} {n i q:Nat} (e:pr m h n=at0 m i q): ∀c,c≤runEnd m i - i→pr m h (n + c)=⟨i + c,runEnd m i - i - c,i,q,none⟩
 | 0,_=>e
 | c + 1,hc=>by
   show adv m (pr m h (n + c))=_
   rw [win e c (by lia)]
   unfold adv
   rw [if_pos (show runEnd m i - i - c > 0 by lia)]
   rfl
noncomputable def Fre (o:Array (Option Nat)) (j:Nat):Bool:=(o.getD j (some 0)).isNone
set_option tactic.hygienic true in
theorem ki5 {m:Nat} {h:Int} {o:Array (Option Nat)}: ∀(fuel i q n j:Nat),pr m h n=at0 m i q→layClean.free m o fuel i q=some j→∃k,n≤k∧j=(pr m h k).j∧Fre o j=true∧∀a,n≤a→a < k→Fre o (pr m h a).j=false
 | 0,i,q,n,j,e,z=>by cases z
 | fuel + 1,i,q,n,j,e,z=>by
   unfold layClean.free at z
   have w: ∀c,c < runEnd m i + 1 - i→(pr m h (n + c)).j=i + c:=fun c hc=>by
    have hr:i≤runEnd m i:=by unfold runEnd;split <;> lia
    rw [win e c (by lia)]
   split at z
   · rename_i k hk
     obtain ⟨h1,h2,h3⟩:=b72.mp hk
     cases z
     refine ⟨n + k,by lia,(w k (ba7.mp h2)).symm,h1,fun a ha hb=> ?_⟩
     have:=h3 (a - n) (by lia)
     have hw:=w (a - n) (by have:=ba7.mp h2;lia)
     rw [show n + (a - n)=a by lia] at hw
     rw [hw]
     simpa [Fre] using this
   · rename_i hk
     have hk:=bx6.mp hk
     have hr:i≤runEnd m i:=by unfold runEnd;split <;> lia
     have e2:pr m h (n + ((runEnd m i - i) + 1))=at0 m (leap m i q).1 (leap m i q).2:=by
      rw [ko7,e]
      exact kfm m _ (at0 m i q) rfl rfl
     obtain ⟨k,h1,h2,h3,h4⟩:=ki5 fuel _ _ _ j e2 z
     refine ⟨k,by lia,h2,h3,fun a ha hb=> ?_⟩
     by_cases c:a < n + ((runEnd m i - i) + 1)
     · have:=hk (a - n) (by lia)
       have hw:=w (a - n) (by lia)
       rw [show n + (a - n)=a by lia] at hw
       rw [hw]
       simpa [Fre] using this
     · exact h4 a (by lia) hb
set_option tactic.hygienic true in
theorem ki6 {m:Nat} {o:Array (Option Nat)}: ∀(fuel i q:Nat),layClean.free m o fuel i q=none→∀r,r < fuel→Fre o (trn m i q r).1=false
 | 0,i,q,_,r,hr=>by lia
 | fuel + 1,i,q,z,r,hr=>by
   unfold layClean.free at z
   split at z
   · cases z
   · rename_i hk
     have hk:=bx6.mp hk
     cases r with
     | zero=>
       have:=hk 0 (by unfold runEnd;split <;> lia)
       simpa [Fre,trn] using this
     | succ r=>
       have:=ki6 fuel _ _ z r (by lia)
       rw [show r + 1=1 + r by lia,kj3]
       exact this
structure OwnI (m:Nat) (hs:List Int) (o:Array (Option Nat)) (S:List Nat):Prop where
 sz:o.size=m + 1
 len:S.length=hs.length
 le: ∀s∈S,s≤m
 nd:S.Nodup
 ow: ∀j q:Nat,o[j]?=some (some q)↔S[q]?=some j
 rch: ∀(q:Nat) (h:Int),hs[q]?=some h→∃s n:Nat,S[q]?=some s∧s=(pr m h n).j∧∀a,a < n→(pr m h a).j∈S
theorem OwnI.fre {m:Nat} {hs:List Int} {o:Array (Option Nat)} {S:List Nat} (I:OwnI m hs o S) {j:Nat} (hj:j≤m):Fre o j= !decide (j∈S):=by
 have hlt:j < o.size:=by rw [I.sz];lia
 have eg:o.getD j (some 0)=o[j]:=by simp [hlt]
 unfold Fre
 rw [eg]
 cases h:o[j] with
 | none=>
   have:j ∉ S:=fun z=>by
    obtain ⟨q,hq⟩:=bm5.mp z
    have:=(I.ow j q).mpr hq
    rw [bd9 hlt,h] at this
    cases this
   simp [this]
 | some q=>
   have:=(I.ow j q).mp (by rw [bd9 hlt,h])
   simp [be2 this]
theorem OwnI.nil (m:Nat):OwnI m [] (ca5 (m + 1) none) [] where
 sz:=by simp
 len:=rfl
 le:=fun q_ h=>by cases h
 nd:=bw2
 ow:=fun j q=>by
  rw [Array.getElem?_replicate]
  constructor
  · intro h
    split at h <;> cases h
  · intro h
    cases h
 rch:=fun q h e=>by cases e
theorem OwnI.step {m:Nat} (hm:OkM m) {hs:List Int} {o:Array (Option Nat)} {S:List Nat} (I:OwnI m hs o S) (hl:hs.length≤m) (h:Int):
 ∃j,layClean.free m o (turns m) (bits h % (m + 1)) (bits h)=some j∧OwnI m (hs++[h]) (o.setIfInBounds j (some hs.length)) (S++[j]):=by
 cases z:layClean.free m o (turns m) (bits h % (m + 1)) (bits h) with
 | none=>
   exfalso
   have hz:=ki6 _ _ _ z
   have sub:ba5 (m + 1) ⊆ S:=fun s hs'=>by
    have hs':s≤m:=by have:=ba7.mp hs';lia
    obtain ⟨r,h1,h2⟩:=ki4 hm (i:=bits h % (m + 1)) (q:=bits h) (by have:bits h % (m + 1) < m + 1:=cb6 _ (by lia);lia) (ko9 h) hs'
    have:=hz r (by unfold turns;lia)
    rw [h2,I.fre hs'] at this
    simpa using this
   have:=(bi7 (n:=m + 1)).length_le_of_subset sub
   rw [bg2,I.len] at this
   lia
 | some j=>
   obtain ⟨k,_,h2,h3,h4⟩:=ki5 _ _ _ 0 j rfl z
   have hjm:j≤m:=by have:=kso hm h k;lia
   have hj:j ∉ S:=by rw [I.fre hjm] at h3;simpa using h3
   have hjs:j < o.size:=by rw [I.sz];lia
   refine ⟨j,rfl,⟨by simp [I.sz],by simp [I.len],?_,?_,?_,?_⟩⟩
   · intro s hs'
     rcases be9.mp hs' with x | x
     · exact I.le s x
     · rw [bc2.mp x];exact hjm
   · exact bs2.mpr ⟨I.nd,by simp,fun a ha b hb=>by rw [bc2.mp hb];exact fun e=>hj (e▸ha)⟩
   · intro j' q
     rw [Array.getElem?_setIfInBounds]
     by_cases e:j=j'
     · subst e
       rw [if_pos rfl,if_pos hjs,← I.len]
       constructor
       · intro x
         cases x
         exact b42
       · intro x
         have:q=S.length:=by
          rcases bl3 q S.length with y | y | y
          · rw [bc3 y] at x
            exact absurd (be2 x) hj
          · exact y
          · rw [bq8 (by simp;lia)] at x
            cases x
         rw [this]
     · rw [if_neg e,I.ow]
       constructor
       · intro x
         rw [bc3 (bb1.mp x).1]
         exact x
       · intro x
         rcases ch2 q S.length with y | y
         · rwa [bc3 y] at x
         · rw [bb5 y] at x
           cases hq:q - S.length with
           | zero=>rw [hq] at x;cases x;exact absurd rfl e
           | succ _=>rw [hq] at x;cases x
   · intro q h' hq
     rcases ch2 q hs.length with y | y
     · rw [bc3 y] at hq
       obtain ⟨s,n,a1,a2,a3⟩:=I.rch q h' hq
       exact ⟨s,n,by rw [bc3 (by rw [I.len];exact y)];exact a1,a2,fun a ha=>bn4 _ (a3 a ha)⟩
     · rw [bb5 y] at hq
       have hq0:q=hs.length:=by
        cases hq':q - hs.length with
        | zero=>lia
        | succ _=>rw [hq'] at hq;cases hq
       subst hq0
       rw [b21] at hq
       cases hq
       refine ⟨j,k,by rw [← I.len];exact b42,h2,fun a ha=>bn4 _ ?_⟩
       have hp:=kso hm h a
       have:=h4 a (bf4 _) ha
       rw [I.fre (by lia)] at this
       simpa using this
theorem klq {m:Nat} (hm:OkM m): ∀(todo hs:List Int) (o:Array (Option Nat)) (S:List Nat),OwnI m hs o S→hs.length + todo.length≤m + 1→
 ∃o' S',todo.foldl (fun acc h=>do
  let (owner,k) ← acc
  let j ← layClean.free m owner (turns m) (bits h % (m + 1)) (bits h)
  pure (owner.setIfInBounds j (some k),k + 1)) (some (o,hs.length))=some (o',(hs++todo).length)∧OwnI m (hs++todo) o' S'
 | [],hs,o,S,I,_=>⟨o,S,by simp,by simpa using I⟩
 | h::todo,hs,o,S,I,hl=>by
   obtain ⟨j,h1,h2⟩:=I.step hm (by simp at hl;lia) h
   obtain ⟨o',S',h3,h4⟩:=klq hm todo (hs++[h]) _ _ h2 (by simp at hl ⊢;lia)
   refine ⟨o',S',?_,by simpa using h4⟩
   rw [ca1]
   show cf1 _ ((layClean.free m o (turns m) (bits h % (m + 1)) (bits h)).bind fun j=>some (o.setIfInBounds j (some hs.length),hs.length + 1)) todo=_
   rw [h1]
   simpa using h3
theorem ki7 {α β:Type} {f:α→Option β} {g:α→β}: ∀{l:List α},(∀ x∈l,f x=some (g x))→l.filterMap f=l.map g
 | [],_=>rfl
 | x::l,h=>by
   rw [bs4,h x bc4,bg5,ki7 fun y hy=>h y (bb7 _ hy)]
theorem ksp {m:Nat} (hm:OkM m) {hs:Array Int} (hl:hs.size≤m): ∃o S,layClean m hs=some o∧OwnI m hs.toList o S:=by
 obtain ⟨o,S,h1,h2⟩:=klq hm hs.toList [] _ _ (OwnI.nil m) (by simp;lia)
 refine ⟨o,S,?_,by simpa using h2⟩
 unfold layClean
 rw [← Array.foldl_toList]
 rw [show (some (ca5 (m + 1) none,0):Option (Array (Option Nat)×Nat))=some (ca5 (m + 1) none,([]:List Int).length) from rfl,h1]
 rfl
noncomputable def khn (m:Nat) (o:Array (Option Nat)):List (Nat×Nat):=(ba5 (m + 1)).filterMap fun j=>(o.getD j none).map (j,·)
theorem keq {m:Nat} {hs:List Int} {o:Array (Option Nat)} {S:List Nat} (I:OwnI m hs o S) {x:Nat×Nat}:x∈khn m o↔S[x.2]?=some x.1:=by
 unfold khn
 rw [bt4]
 constructor
 · rintro ⟨j,hj,e⟩
   obtain ⟨q,hq,rfl⟩:=bg3.mp e
   have hlt:j < o.size:=by rw [I.sz];exact ba7.mp hj
   rw [show o.getD j none=o[j] by simp [hlt]] at hq
   exact (I.ow j q).mp (by rw [bd9 hlt,hq])
 · intro h
   have hle:=I.le _ (be2 h)
   have hlt:x.1 < o.size:=by rw [I.sz];lia
   have:=(I.ow x.1 x.2).mpr h
   rw [bd9 hlt] at this
   exact ⟨x.1,ba7.mpr (by lia),by rw [show o.getD x.1 none=o[x.1] by simp [hlt],bg4 this];rfl⟩
theorem kpb (o:Array (Option Nat)): ∀(l:List Nat),l.Pairwise (· < ·)→((l.filterMap fun j=>(o.getD j none).map (j,·)).map (·.1)).Pairwise (· < ·)
 | [],_=>br8
 | j::l,h=>by
   have ih:=kpb o l (bj9.mp h).2
   rw [bs4]
   cases e:o.getD j none with
   | none=>exact ih
   | some q=>
     refine bj9.mpr ⟨fun y hy=> ?_,ih⟩
     obtain ⟨z,hz,rfl⟩:=ba8.mp hy
     obtain ⟨k,hk,e'⟩:=bt4.mp hz
     obtain ⟨q',_,rfl⟩:=bg3.mp e'
     exact (bj9.mp h).1 k hk
theorem ksq (n:Nat):(ba5 n).Pairwise (· < ·):=List.pairwise_lt_range
theorem klr: ∀{l:List (Nat×Nat)},(l.map (·.1)).Pairwise (· < ·)→l.Nodup
 | [],_=>bw2
 | x::l,h=>by
   rw [bg5] at h
   obtain ⟨h1,h2⟩:=bj9.mp h
   exact bk5.mpr ⟨fun z=>bk1 _ (h1 x.1 (bh2 z)),klr h2⟩
theorem kxf {m:Nat} (hm:OkM m) {es:Array (Int×Value)} (hl:es.size≤m) (finger moves:Nat) (led plain:Bool):
 ∃t order R,cl8 m finger moves led plain (es.map (·.1))=some (t,order)∧t.mask=m∧t.led=led∧t.plain=plain∧t.moves=moves∧TbR t (order.filterMap (es[·]?)) R∧Rch R m∧(R.map (·.2)).Perm es.toList:=by
 obtain ⟨o,S,h1,I⟩:=ksp hm (hs:=es.map (·.1)) (by simpa using hl)
 have hS:S.length=es.size:=by rw [I.len];simp
 have up:=kpb o (ba5 (m + 1)) (ksq _)
 let gv:Nat×Nat→Int×Value:=fun x=>es.getD x.2 (0,.none)
 have hq: ∀x∈khn m o,x.2 < es.size:=fun x hx=>by
  have:=(bb1.mp ((keq I).mp hx)).1
  lia
 have hg: ∀x∈khn m o,es[x.2]?=some (gv x):=fun x hx=>by
  have:=hq x hx
  simp [gv,this]
 have pm:(khn m o).Perm ((ba5 es.size).map fun q=>(S.getD q 0,q)):=by
  refine (bl5 (show (khn m o).Nodup from klr up) ?_).mpr fun x=> ?_
  · exact b73 _ (fun a b hab e=>hab (Prod.mk.inj e).2) bi7
  · rw [keq I]
    constructor
    · intro h
      obtain ⟨h2,h3⟩:=bb1.mp h
      exact ba8.mpr ⟨x.2,ba7.mpr (by lia),by simp [h2,h3]⟩
    · intro h
      obtain ⟨q,h2,rfl⟩:=ba8.mp h
      have h2:=ba7.mp h2
      have h3:q < S.length:=by lia
      simp [h3]
 refine ⟨_,_,(khn m o).map fun x=>(x.1,gv x),by unfold cl8;rw [h1];rfl,rfl,rfl,rfl,rfl,⟨?_,?_,rfl,?_,?_⟩,?_,?_⟩
 · show ((khn m o).map (·.1)).toArray.toList=_
   simp
 · show (((khn m o).map (·.2)).toArray.filterMap (es[·]?)).toList=_
   rw [Array.toList_filterMap]
   simp only [List.filterMap_map,bc1]
   exact ki7 hg
 · rw [bc1]
   exact up
 · intro r hr
   obtain ⟨x,hx,rfl⟩:=ba8.mp hr
   exact I.le _ (be2 ((keq I).mp hx))
 · intro r hr
   obtain ⟨x,hx,rfl⟩:=ba8.mp hr
   obtain ⟨s,n,a1,a2,a3⟩:=I.rch x.2 (gv x).1 (by rw [be5,Array.getElem?_map,hg x hx];rfl)
   have:=(keq I).mp hx
   rw [a1] at this
   cases this
   refine ⟨n,a2,fun a ha=> ?_⟩
   obtain ⟨q,hq'⟩:=bm5.mp (a3 a ha)
   exact ⟨_,bh2 ((keq I (x:=((pr m (gv x).1 a).j,q))).mpr hq'),rfl⟩
 · rw [bc1]
   refine (pm.map _).trans ?_
   rw [bc1]
   refine List.Perm.of_eq (bs8 (by simp) fun i h2 h3=> ?_)
   simp at h2 h3
   simp [gv,h2]
end L2
namespace L2
open PySem PySem.Spec PySem.SetTable
structure Ky (prog:bb8) (w:World) (A:bf8) (C:Heap→Prop) (x:Value) (h:Int):Prop where
 ref: ∃a,x= .ref a
 hash: ∀(s:ba4) (E:Value→ba4→Prop) (Q:Int→ba4→Prop),C s.heap→(∀ tk,Q h {s with toks:=tk})→wpAny (model prog w) A (pyHash x) Q E s
 quiet: ∀(s:ba4) (E:Value→ba4→Prop) (Q:Bool→ba4→Prop),C s.heap→Q true s→wpAny (model prog w) A (eqIsQuiet 8 x) Q E s
 nocl: ∀(s:ba4) (E:Value→ba4→Prop) (Q:Bool→ba4→Prop),C s.heap→Q false s→wpAny (model prog w) A (ofAClassStatement 8 x) Q E s
 byv: ∀(s:ba4) (E:Value→ba4→Prop) (Q:Bool→ba4→Prop),C s.heap→Q true s→wpAny (model prog w) A (hashByValue 8 x) Q E s
section
variable {prog:bb8} {w:World} {A:bf8} {C:Heap→Prop} {E:Value→ba4→Prop} {s:ba4}
theorem kbl {α:Type} {M:Model} {c:Prop} [Decidable c] {m1 m2:Sem α} {Q:α→ba4→Prop} (h1:c→wpAny M A m1 Q E s) (h2: ¬c→wpAny M A m2 Q E s):wpAny M A (if c then m1 else m2) Q E s:=by
 by_cases h:c
 · rw [if_pos h];exact h1 h
 · rw [if_neg h];exact h2 h
theorem kxg {x:Value} {h:Int} (kx:Ky prog w A C x h) (c:C s.heap): ∀{ys:List Value} {Q:Bool→ba4→Prop},(∀ y∈ys,∃k,Ky prog w A C y k)→Q false s→wpAny (model prog w) A (searchCouldBeSeen x ys) Q E s:=fun {ys Q} hy hQ=>by
 unfold searchCouldBeSeen
 refine ba2 ?_
 refine bq6 _ (fun kdc r s'=>r.1=none∧s'=s∧∀y∈kdc,∃k,Ky prog w A C y k) _ ?_ ?_ _ _ ⟨rfl,rfl,hy⟩
 · rintro y kdc r s' ⟨hr,rfl,hall⟩
   obtain ⟨k,ky⟩:=hall y bc4
   have tl: ∀z∈kdc,∃k,Ky prog w A C z k:=fun z hz=>hall z (bb7 _ hz)
   dsimp only
   refine kbl (fun q_=>bb4 ⟨rfl,rfl,tl⟩) fun q_=> ?_
   refine ba2 (kx.quiet _ _ _ c (kbl (fun z=>nomatch z) fun q_=> ?_))
   refine ba2 (ky.quiet _ _ _ c (kbl (fun z=>nomatch z) fun q_=> ?_))
   refine ba2 (kx.nocl _ _ _ c (kbl (fun z=>nomatch z) fun q_=> ?_))
   exact ba2 (ky.nocl _ _ _ c (kbl (fun z=>nomatch z) fun q_=>bb4 ⟨rfl,rfl,tl⟩))
 · rintro ⟨r1,r2⟩ s' ⟨hr,rfl,_⟩
   simp only at hr
   subst hr
   exact bb4 hQ
end
theorem kuu {t:SetTable} {es:Array (Int×Value)} {R:List kdv} (T:TbR t es R) {f:Nat→Int} {h:Int} {p:Probe} {n:Nat} {m:Option Met} (hm:t.probe f h p=m) (hp:p=pr t.mask h n) (hf: ∀i r,R[i]?=some r→f i=r.2.1):
 kxd R t.mask h n (10 * turns t.mask) m:=by
 subst hp
 rw [← hm]
 exact k03 T hf _ n
theorem kxh {α:Type} {o:Option α} (h: ∀m,o=some m→False):o=none:=by
 cases o with
 | none=>rfl
 | some m=>exact (h m rfl).elim
theorem TbR.es_at {t:SetTable} {es:Array (Int×Value)} {R:List kdv} (T:TbR t es R) {i:Nat} {r:kdv} (h:R[i]?=some r):es[i]?=some r.2:=by
 rw [← be5,T.e,be3,h];rfl
theorem TbR.size {t:SetTable} {es:Array (Int×Value)} {R:List kdv} (T:TbR t es R):es.size=R.length:=by
 rw [← bc0,T.e,ba3]
theorem TbR.fits {t:SetTable} {es:Array (Int×Value)} {R:List kdv} (T:TbR t es R) (hl:R.length≤t.mask):t.fits es.size=true:=by
 have h1:t.place.size=R.length:=by rw [← bc0,T.p,ba3]
 unfold SetTable.fits cl9
 rw [T.size,h1,T.d]
 simp [hl]
section
variable {prog:bb8} {w:World} {A:bf8} {C:Heap→Prop} {E:Value→ba4→Prop} {s:ba4}
def Gone (R:List kdv) (m:Nat) (h:Int) (e:Value→Bool) (n:Nat):Prop:=∀q,q < n→∃r∈R,r.1=(pr m h q).j∧(r.2.1=h→e r.2.2=false)
theorem Gone.past {R:List kdv} {m:Nat} {h:Int} {e:Value→Bool} {n k:Nat} (g:Gone R m h e n) (p:Past R m h n k):Gone R m h e k:=fun q hq=>by
 by_cases c:q < n
 · exact g q c
 · obtain ⟨r,h1,h2,h3⟩:=p q (by lia) hq
   exact ⟨r,h1,h2,fun z=>absurd z h3⟩
set_option tactic.hygienic true in
theorem kgr {d:Addr} {o:Obj} {es:Array (Int×Value)} {ep:Nat} {t:SetTable} {R:List kdv} {x:Value} {h:Int} (ho:s.heap.get? d=some o) (hd:o.data= .set es ep t) (T:TbR t es R) (hm:OkM t.mask) (hl:R.length≤t.mask)
 (kx:Ky prog w A C x h) (hk: ∀r∈R,∃k,Ky prog w A C r.2.2 k) (c:C s.heap) {e:Value→Bool} (he: ∀r∈R,b01 A s r.2.2 x (e r.2.2)) {k0:Nat} (h0: ∀r∈R,r.1≠(pr t.mask h k0).j)
 {Q:SetFound→ba4→Prop} (hT: ∀r∈R,r.2.1=h→e r.2.2=true→Q (.there none) s)
 (hF: ∀k,(∀ r∈R,r.1≠(pr t.mask h k).j)→Gone R t.mask h e k→Q (.free (pr t.mask h k).j false) s):
 ∀(fuel n:Nat) (stand:Option Probe),stand.getD (t.probeStart h)=pr t.mask h n→n≤k0→k0 < n + fuel→Gone R t.mask h e n→wpAny (model prog w) A (setSearchFrom d x h true fuel stand) Q E s
 | 0,n,stand,_,h1,h2,_=>by lia
 | fuel + 1,n,stand,hs,h1,h2,g=>by
   have hfit:=T.fits hl
   unfold setSearchFrom
   refine ba2 (bo1 ho hd hfit ?_)
   dsimp only
   refine kbl (fun z=> ?_) fun q_=> ?_
   · exfalso
     unfold SetTable.gaveWay at z
     rcases hm with q | q <;> rw [q] at z <;> exact nomatch z
   have hf: ∀(i:Nat) (r:kdv),R[i]?=some r→((es[i]?.map (·.1)).getD 0)=r.2.1:=fun i r hr=>by rw [T.es_at hr];rfl
   split
   · rename_i met heq
     have mo:=kuu T heq hs hf
     cases met with
     | empty j dm=>
       obtain ⟨rfl,k,a1,a2,a3,a4⟩:=mo
       dsimp only
       subst a2
       exact bb4 (hF k a3 (g.past a4))
     | candidate j i nx=>
       obtain ⟨k,r,a1,a2,a3,a4,a5,a6,a7⟩:=mo
       have hr:=be2 a3
       have hk0:k < k0:=by
        rcases bl3 k k0 with z | z | z
        · exact z
        · subst z;exact absurd (a4.trans a2) (h0 r hr)
        · obtain ⟨r',b1,b2,_⟩:=a7 k0 h1 z
          exact absurd b2 (h0 r' b1)
       have tail:wpAny (model prog w) A (do
        let equal ← holding [r.2.2] (eqBool r.2.2 x)
        let (es',_,t') ← setState d
        if true && equal then return SetFound.there none
        let some same:=t'.sameMemory t.moves t.mask | unsupported "set.changed-during-lookup:is-the-new-block-at-the-old-address"
        let still ← match (if same then t'.slot j else .empty) with
         | .live i'=>match es'[i']? with
           | some (_,y')=>do pure (if ← isSame y' r.2.2 then some i' else none)
           | none=>pure none
         | _=>pure none
        match still with
        | none=>rule "set.search.anew";setSearchFrom d x h true fuel none
        | some i'=>if equal then return .there (some i') else setSearchFrom d x h true fuel (some nx)) Q E s:=by
        refine ba2 (bl1 (he r hr prog w E _ ?_))
        refine ba2 (bo1 ho hd hfit ?_)
        dsimp only
        cases hb:e r.2.2 with
        | true=>exact bb4 (hT r hr a5 hb)
        | false=>
          rw [show t.sameMemory t.moves t.mask=some true by unfold SetTable.sameMemory;rw [if_pos (beq_self_eq_true _)]]
          rw [← a4,T.slot_live a3]
          simp only [b09,bn0,if_false,if_true,T.es_at a3]
          obtain ⟨_,ky⟩:=hk r hr
          obtain ⟨b,hb'⟩:=ky.ref
          rw [hb']
          refine ba2 (wpAny_isSame_ref_self (ba2 (bb4 ?_)))
          exact kgr ho hd T hm hl kx hk c he h0 hT hF fuel (k + 1) (some nx) a6 (by lia) (by lia) fun q hq=>by
           rcases bl7 (b74 hq) with z | rfl
           · exact (g.past a7) q z
           · exact ⟨r,hr,a4.trans a2,fun q_=>hb⟩
       dsimp only
       refine kbl (fun q_=>ba2 (kxg kx c (fun y hy=> ?_) (kbl (fun z=>nomatch z) fun q_=> ?_))) fun q_=> ?_
       · obtain ⟨z,hz,rfl⟩:=ba8.mp hy
         have hz:z∈es.toList:=by simpa using (Array.mem_filter.mp (cb7.mp hz)).1
         rw [T.e] at hz
         obtain ⟨r',hr',rfl⟩:=ba8.mp hz
         exact hk r' hr'
       · rw [T.es_at a3]
         exact tail
       · rw [T.es_at a3]
         exact tail
   · rename_i heq
     exact absurd (kuu T (kxh heq) hs hf) (ksn hm hl)
end
def ky5 (ld:Bool) (hp:Heap) (d:Addr) (R:List kdv):Prop:=
 ∃o es ep t,hp.get? d=some o∧o.ExactSet∧o.data= .set es ep t∧TbR t es R∧Rch R t.mask∧OkM t.mask∧R.length * 5 < t.mask * 3∧t.plain=true∧t.led=ld
section
variable {prog:bb8} {w:World} {A:bf8} {C:Heap→Prop} {E:Value→ba4→Prop} {s:ba4} {ld:Bool}
theorem kls {hp:Heap} {d:Addr} {o:Obj} {es:Array (Int×Value)} {ep:Nat} {t:SetTable} (ho:hp.get? d=some o) (hd:o.data= .set es ep t) (es':Array (Int×Value)) (t':SetTable):
 (hp.update d (cl2 es' t')).get? d=some {o with data:= .set es' (ep + 1) t'}:=by
 have:=bu1 (cl2 es' t') ho (by rw [putSet_of es' t' hd];rfl)
 rwa [putSet_of es' t' hd] at this
theorem kpc {d:Addr} {o:Obj} {es:Array (Int×Value)} {ep:Nat} {t:SetTable} {R:List kdv} (ho:s.heap.get? d=some o) (hx:o.ExactSet) (hd:o.data= .set es ep t) (T:TbR t es R) (hl:R.length≤t.mask) (hn:R.length=5) (hp:t.plain=true) (hld:t.led=ld) {Q:Unit→ba4→Prop}
 (hQ: ∀h' R',bn5 d s.heap h'→ky5 ld h' d R'→(R'.map (·.2)).Perm (R.map (·.2))→Q () {s with heap:=h'}):
 wpAny (model prog w) A (setRelay d (ck3 5)) Q E s:=by
 have hz:es.size=5:=by rw [T.size,hn]
 obtain ⟨t',order,R',h1,h2,h3,h4,_,T',H',p⟩:=kxf (m:=31) (.inr rfl) (es:=es) (by lia) t.finger (t.movedTo 31) t.led t.plain
 have e1:t.relaid (es.map (·.1)) (ck3 5)=some (t',order):=h1
 have pl:R'.length=5:=by
  have:=p.length_eq
  simpa [hz] using this
 have hz':(order.filterMap (es[·]?)).size=5:=by rw [T'.size,pl]
 unfold setRelay
 refine ba2 (bo1 ho hd (T.fits hl) ?_)
 dsimp only
 refine kbl (fun z=>absurd z (by decide +kernel)) fun q_=> ?_
 rw [e1]
 refine ba2 (show wpAny _ _ (if ((order.filterMap (es[·]?)).size != es.size)=true then (unsupported "internal:set-table-lost-an-element" >>= fun q_=>pure (order.filterMap (es[·]?),t')) else pure (order.filterMap (es[·]?),t')) _ _ _ from ?_)
 refine kbl (fun z=>absurd z (by rw [hz',hz];decide)) fun q_=>bb4 ?_
 dsimp only
 refine cf6 ho hd (hQ _ R' (bx1 _ _ _) ⟨_,_,_,t',kls ho hd _ _,hx,rfl,T',by rw [h2];exact H',.inr h2,by rw [h2,pl];decide,by rw [h4];exact hp,by rw [h3];exact hld⟩ (p.trans (by rw [T.e]))) (by rw [hz',bq9];decide)
theorem kpd {m:Nat} {R:List kdv} (hl:R.length≤m): ∃j,j≤m∧∀r∈R,r.1≠j:=by
 refine br3 fun z=> ?_
 have sub:ba5 (m + 1) ⊆ R.map (·.1):=fun j hj=>br3 fun y=>z ⟨j,by have:=ba7.mp hj;lia,fun r hr e=>y (ba8.mpr ⟨r,hr,e⟩)⟩
 have:=(bi7 (n:=m + 1)).length_le_of_subset sub
 rw [bg2,ba3] at this
 lia
theorem Gone.none {R:List kdv} {m k:Nat} {h:Int} {e:Value→Bool} (H:Rch R m) (g:Gone R m h e k) (hf: ∀r∈R,r.1≠(pr m h k).j) (up:(R.map (·.1)).Pairwise (· < ·)) (hh: ∀r∈R,e r.2.2=true→r.2.1=h): ∀r∈R,e r.2.2=false:=fun r hr=>by
 cases z:e r.2.2 with
 | false=>rfl
 | true=>
   exfalso
   have hz:=hh r hr z
   obtain ⟨n,h1,h2⟩:=H r hr
   rw [hz] at h1 h2
   rcases bl3 n k with y | y | y
   · obtain ⟨r',b1,b2,b3⟩:=g n y
     have:r'=r:=by
      have e1:r'.1=r.1:=b2.trans h1.symm
      obtain ⟨i,hi,rfl⟩:=bg0 b1
      obtain ⟨j,hj,rfl⟩:=bg0 hr
      have pw:=bd0.mp up
      rcases bl3 i j with q | q | q
      · have:=pw i j (by simpa using hi) (by simpa using hj) q
        simp at this;lia
      · subst q;rfl
      · have:=pw j i (by simpa using hj) (by simpa using hi) q
        simp at this;lia
     subst this
     rw [b3 hz] at z
     cases z
   · subst y;exact hf r hr h1
   · obtain ⟨r',b1,b2⟩:=h2 k y
     exact hf r' b1 b2
theorem ksr {d:Addr} {R:List kdv} {x:Value} {h:Int} (S:ky5 ld s.heap d R) (hR:R.length≤16) (kx:Ky prog w A C x h) (hk: ∀r∈R,∃k,Ky prog w A C r.2.2 k)
 (c:C s.heap) {e:Value→Bool} (he: ∀r∈R,b01 A s r.2.2 x (e r.2.2)) (hh: ∀r∈R,e r.2.2=true→r.2.1=h) {Q:Bool→ba4→Prop}
 (h1:(∃ r∈R,e r.2.2=true)→Q false s)
 (h2:(∀ r∈R,e r.2.2=false)→∀h' R',bn5 d s.heap h'→ky5 ld h' d R'→(R'.map (·.2)).Perm ((h,x)::R.map (·.2))→Q true {s with heap:=h'}):
 wpAny (model prog w) A (setAddHashed d x h) Q E s:=by
 obtain ⟨o,es,ep,t,ho,hx,hd,T,H,hm,hl,hp,hld⟩:=S
 have hl':R.length≤t.mask:=by lia
 have hfit:=T.fits hl'
 obtain ⟨xa,rfl⟩:=kx.ref
 obtain ⟨j0,j1,j2⟩:=kpd hl'
 obtain ⟨k0,_,k1,k2⟩:=kut hm h 0 j1
 have k3:k0 < 0 + 100000:=by
  have:10 * turns t.mask≤1000:=by unfold turns;rcases hm with q | q <;> rw [q] <;> decide
  lia
 unfold setAddHashed
 refine bl1 ?_
 show wpAny _ _ (setAddHashedIn d (.ref xa) h (99999 + 1)) _ _ _
 unfold setAddHashedIn
 refine ba2 (bo1 ho hd hfit ?_)
 dsimp only
 rw [show byScan (.ref xa) es=false from rfl]
 simp only [bn0,if_false]
 refine ba2 ?_
 show wpAny _ _ (setSearchFrom d (.ref xa) h true 100000 none) _ _ _
 refine kgr ho hd T hm hl' kx hk c he (k0:=k0) (by rw [k2];exact j2) (fun r hr q_ ht=> ?_) (fun k hf g=> ?_) 100000 0 none rfl (bf4 _) k3 (fun q hq=>absurd hq (bo5 _))
 · exact bb4 (h1 ⟨r,hr,ht⟩)
 have hno:=g.none H hf T.up hh
 have hj:(pr t.mask h k).j≤t.mask:=by have:=kso hm h k;lia
 obtain ⟨R',T',p⟩:=T.put (x:=(h,bg1 xa)) hf hj
 have H':Rch R' t.mask:=H.put (x:=(h,bg1 xa)) (k:=k) p fun q hq=>by obtain ⟨r,b1,b2,_⟩:=g q hq;exact ⟨r,b1,b2⟩
 have pl:R'.length=R.length + 1:=p.length_eq
 have ps:(R'.map (·.2)).Perm ((h,bg1 xa)::R.map (·.2)):=p.map (·.2)
 dsimp only
 refine ba2 (bo1 ho hd hfit ?_)
 dsimp only
 have hpp:(t.put (pr t.mask h k).j).1.plain=true:=hp
 have hpm:(t.put (pr t.mask h k).j).1.mask=t.mask:=rfl
 rw [hpp]
 simp only [if_true]
 refine ba2 (kx.byv _ _ _ c ?_)
 simp only [if_true]
 have hsz:(insertAt es (t.put (pr t.mask h k).j).2 (h,bg1 xa)).size≤sizeLine:=by
  rw [T'.size,pl,bq9];lia
 refine ba2 (cf6 ho hd ?_ hsz)
 have ho':=kls ho hd (insertAt es (t.put (pr t.mask h k).j).2 (h,bg1 xa)) (t.put (pr t.mask h k).j).1
 have sb:=bx1 s.heap d (cl2 (insertAt es (t.put (pr t.mask h k).j).2 (h,bg1 xa)) (t.put (pr t.mask h k).j).1)
 have hfill:(t.put (pr t.mask h k).j).1.fill=R.length + 1:=by
  unfold cl9
  rw [T'.d,← bc0,T'.p,ba3,pl]
  rfl
 refine kbl (fun z=> ?_) fun z=> ?_
 · have hz:(R.length + 1) * 5≥t.mask * 3:=by
    simp only [cc4,b33,ci0,hfill,hpm,ge_iff_le,decide_eq_true_eq] at z
    exact z
   have h5:R.length + 1=5:=by rcases hm with q | q <;> rw [q] at hz hl <;> lia
   rw [show es.size + 1=5 by rw [T.size];exact h5]
   refine ba2 (kpc (R:=R') (o:={o with data:= .set (insertAt es (t.put (pr t.mask h k).j).2 (h,bg1 xa)) (ep + 1) (t.put (pr t.mask h k).j).1}) ho' hx rfl T' (by rw [pl];show _≤t.mask;rcases hm with q | q <;> rw [q] <;> lia) (by rw [pl];exact h5) hpp hld fun h' R2 sb2 S2 p2=> ?_)
   exact bb4 (h2 hno _ R2 (sb.trans sb2) S2 (p2.trans ps))
 · have hz:(R.length + 1) * 5 < t.mask * 3:=by
    simp only [cc4,b33,ci0,hfill,hpm,ge_iff_le,decide_eq_true_eq] at z
    lia
   exact bb4 (h2 hno _ R' sb ⟨_,_,_,_,ho',hx,rfl,T',H',hm,by rw [pl];exact hz,hpp,hld⟩ ps)
theorem kxi {d:Addr} {R:List kdv} {x:Value} {h:Int} (S:ky5 ld s.heap d R) (hR:R.length≤16) (kx:Ky prog w A C x h) (hk: ∀r∈R,∃k,Ky prog w A C r.2.2 k)
 (c:C s.heap) {e:Value→Bool} (he: ∀r∈R,∀s',C s'.heap→b01 A s' r.2.2 x (e r.2.2)) (hh: ∀r∈R,e r.2.2=true→r.2.1=h) {Q:Bool→ba4→Prop}
 (h1:(∃ r∈R,e r.2.2=true)→∀tk,Q false {s with toks:=tk})
 (h2:(∀ r∈R,e r.2.2=false)→∀h' R' tk,bn5 d s.heap h'→ky5 ld h' d R'→(R'.map (·.2)).Perm ((h,x)::R.map (·.2))→Q true {s with heap:=h',toks:=tk}):
 wpAny (model prog w) A (setAdd d x) Q E s:=by
 unfold setAdd
 refine bl1 (ba2 (kx.hash _ _ _ c fun tk=> ?_))
 exact ksr (s:={s with toks:=tk}) S hR kx hk c (fun r hr=>he r hr _ c) hh (fun z=>h1 z tk) fun z h' R' sb S' p=>h2 z h' R' tk sb S' p
end
end L2
namespace L2
open PySem PySem.Spec PyProof.Rows
section
variable {prog:bb8} {w:World} {A:bf8} {R:Result→ba4→Prop} {I:Addr} {fp wr:List Addr} {G:Array GenState→Array GenState→Prop} {n:Nat} {P:Nat→Value→Prop} {St:Nat→ba4→Prop}
theorem klu (W:WalksS prog w A.in1 I fp wr G n P St) {d:Addr} (hdf:d ∉ fp) {J:Nat→Heap→Prop} (jm: ∀i h h',J i h→(∀ b o,b ∉ wr→h.get? b=some o→h'.get? b=some o)→J i h')
 (js: ∀(i:Nat) (v:Value) (s:ba4) (E:Value→ba4→Prop) (Q:Bool→ba4→Prop),i < n→P i v→J i s.heap→(∀ b h' tk,bn5 d s.heap h'→J (i + 1) h'→Q b {s with heap:=h',toks:=tk})→wpAny (model prog w) A.in1 (setAdd d v) Q E s):
 ∀(k i:Nat) (s:ba4),n - i=k→i≤n→St i s→J i s.heap→(∀ s',Moved (d::wr) G s s'→J n s'.heap→R (.ok (.ret .none)) s')→codeAny (model prog w) A (.builtin "set.update.loop" ⟨[.ref d,.ref I],[]⟩) R s
 | 0,i,s,hk,hi,st,j,hR=>by
   obtain rfl:i=n:=by lia
   refine bu5 b83 ?_
   rw [br5 bz3 _]
   refine ba2 (W.done s _ _ st fun s' mv=> ?_)
   exact bb4 (hR s' (mv.mono fun b hb=>bb7 _ hb) (jm _ _ _ j mv.heap))
 | k + 1,i,s,hk,hi,st,j,hR=>by
   have hlt:i < n:=by lia
   refine bu5 b83 ?_
   rw [br5 bz3 _]
   refine ba2 (W.item i s _ _ hlt st fun v s' hP st' mv=> ?_)
   have j':=jm i _ _ j mv.heap
   refine ba2 (bl1 (wpAny_with_toks (bb6 s'.toks) ?_))
   refine js i v s' _ _ hlt hP j' fun b h' tk sb jn le=> ?_
   refine bb4 ⟨b84 bz3 _,klu W hdf jm js k (i + 1) _ (by lia) hlt ?_ jn fun s2 mv2 j2=> ?_⟩
   · exact W.frame _ s' h' tk st' le fun b hb o e=>by rw [sb.2 b (fun z=>hdf (z▸hb))];exact e
   · refine hR s2 (Moved.trans W.gtrans ((mv.mono fun b hb=>bb7 _ hb).then_heap le fun b o hb e=> ?_) mv2) j2
     rw [sb.2 b (fun z=>hb (by rw [z];exact bc4))];exact e
end
abbrev km4 (w:World):Bool:= !w.params.followText "set-order"
abbrev krp (led:Bool):Obj:={cls:= .type "set",dict:=none,data:= .set #[] 0 (.fresh 0 0 led)}
section
variable {prog:bb8} {w:World} {A:bf8} {E:Value→ba4→Prop} {s:ba4}
theorem kxj (a:Value) {Q1:Value→ba4→Prop} (h:Q1 (.ref s.heap.objs.size) {s with heap:=s.heap.push (krp (km4 w))}):codeAny (model prog w) A (.call (.builtin "set.__new__") ⟨[.type "set",a],[]⟩) (wants Q1 E) s:=by
 refine codeAny_of_tree (show wpAny _ A.in1 (do checkBuiltinCall "set.__new__" ⟨[.type "set",a],[]⟩;again (.builtin "set.__new__" ⟨[.type "set",a],[]⟩)) _ _ s from ba2 (bx2 (PySem.F.newCall_set_1 a) (bb4 ⟨b84 cj8 _,bu5 F.entry_set_new ?_⟩)))
 rw [br5 cj8 _]
 unfold Builtin.«set.__new__» Builtin.Frozenset.newClass
 have g:=sub_set_self
 obtain ⟨hp,g0,d,tk,os⟩:=s
 dsimp only
 wp_walk
 refine bw4 (bb4 ?_)
 dsimp only
 simp only [newObj]
 exact ba2 (wpAny_alloc (bb4 (bb4 h)))
set_option maxHeartbeats 4000000 in
theorem kpe {l:Addr} {items:Array Value} {Q:Value→ba4→Prop} {J:Nat→Heap→Prop} (hh:A.handled=none) (hl:s.heap.IsList l items)
 (j0: ∀h',h'.get? s.heap.objs.size=some (krp (km4 w))→(∀ b o,s.heap.get? b=some o→h'.get? b=some o)→J 0 h')
 (jm: ∀i h h',J i h→(∀ b o,b≠s.heap.objs.size + 1→h.get? b=some o→h'.get? b=some o)→J i h')
 (js: ∀(i:Nat) (v:Value) (s':ba4) (E:Value→ba4→Prop) (Q:Bool→ba4→Prop),items[i]?=some v→J i s'.heap→(∀ b h' tk,bn5 s.heap.objs.size s'.heap h'→J (i + 1) h'→Q b {s' with heap:=h',toks:=tk})→wpAny (model prog w) A.in1.in1.in1 (setAdd s.heap.objs.size v) Q E s')
 (q: ∀h' tk,J items.size h'→(∀ b o,b < s.heap.objs.size→s.heap.get? b=some o→h'.get? b=some o)→Q (.ref s.heap.objs.size) {s with heap:=h',toks:=tk}):
 wpAny (model prog w) A (call (.type "set") [.ref l]) Q E s:=by
 obtain ⟨c,tl,hmro⟩:=PySem.F.called_set.mro
 have g1:=PySem.F.called_set.made;have g2:=PySem.F.called_set.sub;have g3:=PySem.F.called_set.notType;have g4:=PySem.F.called_set.canCreate;have g5:=PySem.F.typeCall_set_1 (.ref l)
 refine ck7 (codeAny_of_tree (show wpAny _ _ (callAny (.type "set") _) _ _ _ from bb4 ⟨Code.quiet_builtin _ (by decide +kernel),bu5 PySem.F.entry_type_call ?_⟩))
 rw [bf8.under_plain (weight_type_call_type "set" [.ref l] []) rfl]
 repeat (any_goals (first | assumption | wp_step))
 refine bx4 (kxj (.ref l) (E:=E) (Q1:=fun ob s1=>ob= .ref s.heap.objs.size∧s1={s with heap:=s.heap.push (krp (km4 w))}) ⟨rfl,rfl⟩) fun r s1 hr=> ?_
 cases r with
 | error e=>exact hr
 | ok fl=>
   cases fl with
   | ret ob=>
     obtain ⟨rfl,rfl⟩:=hr
     have hS:(s.heap.push (krp (km4 w))).get? s.heap.objs.size=some (krp (km4 w)):=bd8 _ rfl
     have ty:ba4.TypeIs {s with heap:=s.heap.push (krp (km4 w))} (.ref s.heap.objs.size) "set":=⟨_,hS,rfl⟩
     have g6:=PySem.F.called_set.init.lookup;have g7:=PySem.F.called_set.init.bind (.ref s.heap.objs.size)
     repeat (any_goals (first | assumption | wp_step))
     refine bx4 (codeAny_call_builtin (R:=wants (fun r s2=>r= .none∧∃h' tk,s2={s with heap:=h',toks:=tk}∧J items.size h'∧∀b o,b < s.heap.objs.size→s.heap.get? b=some o→h'.get? b=some o) E) PySem.F.called_set.init.plain PySem.F.entry_set_init (check_set_init_1 ty ?_)) fun r2 s2 hr2=> ?_
     · obtain ⟨ol,hol,hcl,nl,hdl⟩:=hl
       obtain ⟨_,od,_,osl⟩:=ol
       simp only at hcl hdl
       subst hcl;subst hdl
       have hol':(s.heap.push (krp (km4 w))).get? l=some {cls:= .type "list",dict:=od,data:= .seq items nl,slots:=osl}:=bb0 _ hol
       have g8:=PySem.F.sub_list_set;have g9:=PySem.F.sub_list_frozenset
       have ne:(bt0 "list" == bt0 "dict")=false:=by decide
       have hl1:(s.heap.push (krp (km4 w))).IsList l items:=⟨_,hol',rfl,nl,rfl⟩
       have lS:l < s.heap.objs.size:=bd7 hol
       unfold Builtin.«set.__init__» noKeywords Builtin.Frozenset.updateFrom
       generalize hPI:pyIter=PI
       wp_walk
       subst hPI
       refine bz9 hl1 (ba2 (wpAny_runValue ?_))
       have sz:(s.heap.push (krp (km4 w))).objs.size=s.heap.objs.size + 1:=br0 ..
       refine klu ((cn9 (A:=A.in1.in1.in1) (by simp [hh]) _ l (by rw [sz];exact bf3 (bj0 lS)) items).toS) (d:=s.heap.objs.size) (J:=J) (fun z=>by
        rw [sz] at z
        rcases bc7.mp z with z | z
        · exact bf3 (bp1 _) z
        · exact b48 lS (bc2.mp z)) (fun i h h' j k=>jm i h h' j fun b o hb=>k b o (by rw [sz];simpa using hb)) (fun i v s' E Q q_ hv j k=>js i v s' E Q hv j k) (items.size - 0) 0 _ (by lia) (bf4 _)
        ⟨⟨_,bd8 _ rfl,rfl,rfl⟩,(hl1.push _)⟩ (j0 _ (bb0 _ hS) fun b o e=>bb0 _ (bb0 _ e)) ?_
       intro s' mv j
       obtain ⟨h',g',d',tk',os'⟩:=s'
       obtain ⟨m1,m2,m3,m4,_⟩:=mv
       cases m2;cases m3;cases m4
       show wpAny _ _ _ _ _ _
       refine bb4 (show wpAny _ _ (ret bc9) _ _ _ from bb4 ⟨rfl,h',tk',rfl,j,fun b o hb e=> ?_⟩)
       exact m1 b o (fun z=>by
        rw [sz] at z
        rcases bc7.mp z with z | z
        · exact bf3 hb z
        · exact bf3 (bj0 hb) (bc2.mp z)) (bb0 _ (bb0 _ e))
     · cases r2 with
       | error e=>exact hr2
       | ok fl2=>
         cases fl2 with
         | ret r=>
           obtain ⟨rfl,h',tk,rfl,jj,kk⟩:=hr2
           repeat (any_goals (first | assumption | wp_step))
           exact q _ _ jj kk
         | _=>exact hr2.elim
   | _=>exact hr.elim
end
end L2
namespace L2
open PySem PySem.Spec PyProof.Rows PySem.SetTable
theorem kgs {α:Type}: ∀(l:List α) (i:Nat) (h:i < l.length),(l[i]::l.eraseIdx i).Perm l
 | _::_,0,_=>bj8 _
 | x::l,i + 1,h=>(cc2 ..).trans ((kgs l i (b94 h)).cons x)
theorem kpf {α:Type} (nx:Nat→Nat): ∀(fuel k:Nat) (left:List α) (out:Array α),left.length=fuel→(pickOrder.go nx fuel k left out).toList.Perm (out.toList++left)
 | 0,k,left,out,h=>by
   rw [bz4.mp h,be4]
   exact bj8 _
 | fuel + 1,k,left,out,h=>by
   have hlt:nx k % left.length < left.length:=cb6 _ (by lia)
   unfold pickOrder.go
   rw [bb2 hlt]
   dsimp only
   refine (kpf nx fuel (k + 1) _ _ (by rw [bk0 hlt];lia)).trans ?_
   rw [bs0,bc6]
   exact (kgs left _ hlt).append_left _
theorem kpg {α:Type} (nx:Nat→Nat) (xs:Array α):(pickOrder nx xs).toList.Perm xs.toList:=by
 have:=kpf nx xs.size 0 xs.toList #[] (by simp)
 simpa [pickOrder] using this
noncomputable def kd8 (w:World) (d:Addr) (es:Array (Int×Value)) (ep:Nat):Array (Int×Value):=if w.params.followText "set-order" then pickOrder (w.params.setOrder d ep) es else es
theorem klv (w:World) (d:Addr) (es:Array (Int×Value)) (ep:Nat):(kd8 w d es ep).toList.Perm es.toList:=by
 unfold kd8
 split
 · exact kpg _ _
 · exact bj8 _
theorem kho (w:World) (d:Addr) (es:Array (Int×Value)) (ep:Nat):(kd8 w d es ep).size=es.size:=by
 have:=(klv w d es ep).length_eq
 simpa using this
noncomputable def kch (w:World) (t:SetTable) (i:Nat):Nat:=if w.params.followText "set-order" then 0 else if i=0 then 0 else t.place.getD (i - 1) 0 + 1
structure SAt (w:World) (h:Heap) (d:Addr) (es:Array (Int×Value)) (ep:Nat) (t:SetTable) (R:List kdv):Prop where
 at_:h.get? d=some {cls:= .type "set",dict:=none,data:= .set es ep t,slots:= #[]}
 tb:TbR t es R
 le:R.length≤t.mask
 pl:t.plain=true
 ld:t.led=km4 w
theorem SAt.lt {w:World} {h:Heap} {d:Addr} {es:Array (Int×Value)} {ep:Nat} {t:SetTable} {R:List kdv} (S:SAt w h d es ep t R):d < h.objs.size:=bd7 S.at_
theorem SAt.to {w:World} {h h':Heap} {d:Addr} {es:Array (Int×Value)} {ep:Nat} {t:SetTable} {R:List kdv} (S:SAt w h d es ep t R) (k: ∀o,h.get? d=some o→h'.get? d=some o):SAt w h' d es ep t R:=⟨k _ S.at_,S.tb,S.le,S.pl,S.ld⟩
theorem km5 {t:SetTable} {es:Array (Int×Value)} {R:List kdv} (T:TbR t es R) {i:Nat} (hi:i≤es.size):below t.place (if i=0 then 0 else t.place.getD (i - 1) 0 + 1)=i:=by
 have up:t.place.toList.Pairwise (· < ·):=by rw [T.p];exact T.up
 have hsz:t.place.size=es.size:=by rw [T.size,← bc0,T.p,ba3]
 have lt: ∀a b (ha:a < t.place.size) (hb:b < t.place.size),a < b→t.place[a] < t.place[b]:=fun a b ha hb h=>by
  have:=bd0.mp up a b (by simpa using ha) (by simpa using hb) h
  simpa only [b31] using this
 obtain ⟨b1,b2,b3⟩:=khk up (if i=0 then 0 else t.place.getD (i - 1) 0 + 1)
 generalize below t.place _=b at b1 b2 b3
 by_cases h0:i=0
 · subst h0
   simp only [if_true] at b2 b3
   cases b with
   | zero=>rfl
   | succ b=>exact absurd (b2 0 (by lia) (by lia)) (bo5 _)
 · simp only [if_neg h0] at b2 b3
   have hp:i - 1 < t.place.size:=by lia
   rw [show t.place.getD (i - 1) 0=t.place[i - 1] by simp [hp]] at b2 b3
   rcases bl3 b i with z | z | z
   · have h1:=b3 (i - 1) hp (by lia)
     lia
   · exact z
   · have h1:=b2 i (by lia) z
     have h2:=lt (i - 1) i hp (by lia) (by lia)
     lia
section
variable {prog:bb8} {w:World} {A:bf8} {E:Value→ba4→Prop} {s:ba4} {d:Addr} {es:Array (Int×Value)} {ep:Nat} {t:SetTable} {R:List kdv}
theorem klw (S:SAt w s.heap d es ep t R) {i:Nat} (hi:i≤es.size) {Q:Option (Value×Nat)→ba4→Prop} (q:Q ((kd8 w d es ep)[i]?.map fun e=>(e.2,kch w t (i + 1))) s):
 wpAny (model prog w) A (setNext d (kch w t i) i ep) Q E s:=by
 have hf:=S.tb.fits S.le
 unfold setNext
 refine ba2 (bo1 S.at_ rfl hf ?_)
 dsimp only
 unfold setsByText
 refine ba2 (ba2 (bw4 (bb4 ?_)))
 show wpAny _ _ (if w.params.followText "set-order"=true then _ else _) _ _ _
 unfold kd8 kch at q
 cases hb:w.params.followText "set-order" with
 | true=>
   rw [hb] at q
   simp only [if_true] at q ⊢
   rw [if_neg (by simp)]
   refine ba2 ?_
   unfold setWalk setsByText
   refine ba2 (bo1 S.at_ rfl hf ?_)
   dsimp only
   refine ba2 (ba2 (bw4 (bb4 ?_)))
   show wpAny _ _ (if w.params.followText "set-order"=true then _ else _) _ _ _
   rw [if_pos hb]
   refine ba2 (bw4 (bb4 (bb4 ?_)))
   unfold kch
   rw [if_pos hb]
   exact q
 | false=>
   rw [hb] at q
   simp only [bn0,if_false] at q ⊢
   refine kbl (fun z=> ?_) fun q_=> ?_
   · have z:(!t.plain && decide (es.size > 1))=true:=z
     rw [S.pl] at z
     exact nomatch z
   refine ba2 (show wpAny _ _ (if (!t.led && !es.isEmpty)=true then unsupported "set:maker-not-led" else pure ()) _ _ _ from kbl (fun z=> ?_) fun q_=>bb4 ?_)
   · rw [S.ld] at z
     unfold km4 at z
     rw [hb] at z
     exact nomatch z
   unfold kch
   rw [hb]
   simp only [bn0,if_false]
   rw [km5 S.tb hi]
   refine bb4 ?_
   rcases ch2 i es.size with h | h
   · have hp:i < t.place.size:=by rw [← bc0,S.tb.p,ba3,← S.tb.size];exact h
     rw [bd9 h,bd9 hp]
     rw [bd9 h] at q
     simpa [hp] using q
   · rw [bo0 h]
     rw [bo0 h] at q
     exact q
end
theorem ke4:Slot "set_iterator" "__next__" "set_iterator.__next__":= .of (owner:="set_iterator") (n:="__next__") (by rw [b43,bu6];kernel_rfl) (by decide +kernel) (by decide +kernel) (by decide +kernel) (by first | exact .inl (by decide +kernel) | exact .inr (by decide +kernel)) (by rw [b62];kernel_rfl)
theorem kph:Slot "set_iterator" "__iter__" "set_iterator.__iter__":= .of (owner:="set_iterator") (n:="__iter__") (by rw [b43,bu6];kernel_rfl) (by decide +kernel) (by decide +kernel) (by decide +kernel) (by first | exact .inl (by decide +kernel) | exact .inr (by decide +kernel)) (by rw [b62];kernel_rfl)
theorem kpi:entryFor table "set_iterator.__next__"=some Builtin.«set_iterator.__next__» :=entryFor_of_tree (by kernel_rfl)
theorem kxk:entryFor table "set_iterator.__iter__"=some Builtin.«dict_keyiterator.__iter__» :=entryFor_alias (id':="dict_keyiterator.__iter__") (by kernel_rfl) rfl (by decide +kernel) (by kernel_rfl)
theorem k05:entryFor table "set.__iter__"=some Builtin.«frozenset.__iter__» :=entryFor_alias (id':="frozenset.__iter__") (by kernel_rfl) rfl (by decide +kernel) (by kernel_rfl)
theorem kpj (a:Value):argsOk "set_iterator.__next__" ⟨[a],[]⟩:=by unfold argsOk;kernel_rfl
theorem kxl (a:Value):argsOk "set_iterator.__iter__" ⟨[a],[]⟩:=by unfold argsOk;kernel_rfl
def SIt (h:Heap) (it d:Addr) (sl i n ep:Nat):Prop:=h.get? it=some {cls:= .type "set_iterator",dict:=none,data:= .fields #[.int sl 0,.int i 0,.ref d,.int n 0,.int ep 0],slots:= #[]}
section
variable {prog:bb8} {w:World} {A:bf8} {E:Value→ba4→Prop} {s:ba4} {d it:Addr} {es:Array (Int×Value)} {ep i:Nat} {t:SetTable} {R:List kdv}
theorem SIt.ty {sl n:Nat} (x:SIt s.heap it d sl i n ep):s.TypeIs (.ref it) "set_iterator":=⟨_,x,rfl⟩
theorem kxm (S:SAt w s.heap d es ep t R) (x:SIt s.heap it d (kch w t i) i es.size ep) {e:Int×Value} (he:(kd8 w d es ep)[i]?=some e) {Q:Option Value→ba4→Prop}
 (q: ∀h',SIt h' it d (kch w t (i + 1)) (i + 1) es.size ep→bn5 it s.heap h'→Q (some e.2) {s with heap:=h'}):wpAny (model prog w) A (pyNext (.ref it)) Q E s:=by
 have hi:i≤es.size:=by
  have:=(b47.mp he).1
  rw [kho] at this
  lia
 have ty:=x.ty
 have hf:=S.tb.fits S.le
 unfold pyNext
 refine ba2 (b82 (bz5 (name:=ca6 "__next__") ty ke4 (bj1 ke4 ty kpi ?_ (kpj _))))
 unfold Builtin.«set_iterator.__next__»
 refine ba2 (bb4 ?_)
 refine ba2 (wpAny_fieldsOf x rfl ?_)
 dsimp only
 refine ba2 (b44 S.at_ rfl hf ?_)
 refine kbl (fun z=>absurd z (by simp)) fun q_=> ?_
 simp only [bg8]
 refine ba2 (klw S hi ?_)
 rw [he]
 dsimp only [cl1]
 refine ba2 (b52 x (by simp) fun h1 y1 b1=> ?_)
 refine ba2 (b52 (s:={s with heap:=h1}) y1 (by simp) fun h2 y2 b2=> ?_)
 exact bb4 ⟨_,rfl,bb4 (q _ (by simpa [SIt,rawInt] using y2) (b1.trans b2))⟩
theorem k06 (hh:A.handled=none) (S:SAt w s.heap d es ep t R) (x:SIt s.heap it d (kch w t es.size) es.size es.size ep) {Q:Option Value→ba4→Prop}
 (q: ∀h',Heap.ExtBut it s.heap h'→Q none {s with heap:=h'}):wpAny (model prog w) A (pyNext (.ref it)) Q E s:=by
 have ty:=x.ty
 have hf:=S.tb.fits S.le
 unfold pyNext
 refine ba2 (b82 (bz5 (name:=ca6 "__next__") ty ke4 (bj1 ke4 ty kpi ?_ (kpj _))))
 unfold Builtin.«set_iterator.__next__»
 refine ba2 (bb4 (ba2 (wpAny_fieldsOf x rfl ?_)))
 dsimp only
 refine ba2 (b44 S.at_ rfl hf (kbl (fun z=>absurd z (by simp)) fun q_=> ?_))
 simp only [bg8]
 refine ba2 (klw S (bb6 _) ?_)
 rw [bo0 (by rw [kho];exact bb6 _)]
 dsimp only [cl1]
 refine ba2 (b52 x (by simp) fun h1 y1 b1=> ?_)
 refine ba2 ?_
 simp only [newExc,newTuple]
 refine ba2 (br9 (ba2 (m:=firstArgMember _ _) (bx2 (a:=bc9) (by first | rfl | (simp only [firstArgMember];rfl)) (br9 ?_ (by size_fits)))) (by size_fits))
 simp only [raiseNew]
 refine ba2 (wpAny_handled ?_)
 rw [show A.in1.handled=none from hh]
 refine ba2 (bb4 (wpAny_throw ?_))
 refine ba2 (bw5 (T:="StopIteration") (b:=true) ⟨_,bd8 _ rfl,rfl⟩ isSubtype_stop ?_)
 exact bb4 (q _ ((b1.extBut.push _).push _))
theorem kst (S:SAt w s.heap d es ep t R) {Q:Value→ba4→Prop}
 (q:Q (.ref s.heap.objs.size) {s with heap:=s.heap.push {cls:= .type "set_iterator",data:= .fields #[.int (kch w t 0:Nat) 0,.int (0:Nat) 0,.ref d,.int es.size 0,.int ep 0]}}):wpAny (model prog w) A (pyIter (.ref d)) Q E s:=by
 have ty:s.TypeIs (.ref d) "set":=⟨_,S.at_,rfl⟩
 have hf:=S.tb.fits S.le
 have h0:kch w t 0=0:=by unfold kch;split <;> rfl
 rw [h0] at q
 refine cf7 ty ca7 (bj1 ca7 ty k05 ?_ (PySem.F.args_set_iter_1 _))
 unfold Builtin.«frozenset.__iter__»
 refine ba2 (bb4 ?_)
 unfold Builtin.Frozenset.sizeOf
 refine ba2 (ba2 (b44 S.at_ rfl hf (bb4 ?_)))
 refine ba2 ?_
 unfold setDrawn setsByText
 refine ba2 (bo1 S.at_ rfl hf (ba2 (ba2 (bw4 (bb4 (bb4 ?_))))))
 refine kbl (fun z=> ?_) fun q_=>ba2 (bb4 ?_)
 · have z:(!w.params.followText "set-order" && (!t.plain && decide (es.size > 1)))=true:=z
   rw [S.pl] at z
   simp at z
 refine ba2 (wpAny_setEpoch_of S.at_ rfl hf (ba2 ?_))
 unfold newFields
 exact br9 (bb4 ⟨_,rfl,"set_iterator",_,⟨_,bd8 _ rfl,rfl⟩,ke4.lookup,q⟩)
theorem kxn {sl n:Nat} (x:SIt s.heap it d sl i n ep) {Q:Value→ba4→Prop} (q:Q (.ref it) s):wpAny (model prog w) A (pyIter (.ref it)) Q E s:=
 cf7 x.ty kph (bj1 kph x.ty kxk (show wpAny _ _ (ret (.ref it)) _ _ s from bb4 ⟨_,rfl,"set_iterator",_,x.ty,ke4.lookup,q⟩) (kxl _))
theorem ksu (hh:A.handled=none) (I:Addr) (ne:d≠I):Walks prog w A I [I,d] [I] es.size (fun i v=>∃e,(kd8 w d es ep)[i]?=some e∧v=e.2) (fun i h=>SIt h I d (kch w t i) i es.size ep∧SAt w h d es ep t R):=by
 refine {sub:=fun b hb=>by simp at hb;simp [hb],frame:=fun q_ q_ q_ st k=>⟨k I (by simp) _ st.1,st.2.to fun o e=>k d (by simp) o e⟩,item:=fun i s Q E hi st hQ=> ?_,done:=fun s Q E st hQ=> ?_,self:=fun q_ q_ q_ q_ st hQ=>kxn st.1 hQ}
 · have hi':i < (kd8 w d es ep).size:=by rw [kho];exact hi
   refine kxm st.2 st.1 (e:=(kd8 w d es ep)[i]) (by simp [hi']) fun h' hit hs=>hQ _ h' s.toks ⟨_,by simp [hi'],rfl⟩ ⟨hit,st.2.to fun o e=>hs.extBut d o ne e⟩ fun b o hb e=>hs.extBut b o (fun z=>hb (by simp [z])) e
 · exact k06 hh st.2 st.1 fun h' he=>hQ h' s.toks fun b o hb e=>he b o (fun z=>hb (by simp [z])) e
theorem ksv (ty:s.TypeIs (.ref d) "set") {Q:Bool→ba4→Prop} (q:Q false s):wpAny (model prog w) A (bq2 (.ref d)) Q E s:=by
 unfold bq2;refine ba2 (bm7 ty PySem.F.slot_set_len.lookup ?_)
 generalize hz:("set.__len__":String)=z0
 wp_delta;rw [show splitId z0=some ("set","__len__") from by subst hz;decide +kernel];subst hz
 refine ba2 (bw5 (T:="set") (b:=true) ty (by rw [b62];kernel_rfl) (kbl (fun z=>absurd z (by decide)) fun q_=>kbl (fun q_=>ba2 (ch3 ty ?_)) fun z=>absurd (by decide +kernel) z))
 exact bb4 q
theorem kxo:W.KdlSrc prog w "set" d d es.size (fun i v=>∃e,(kd8 w d es ep)[i]?=some e∧v=e.2) (fun h=>SAt w h d es ep t R):=by
 refine {type:=fun q_ x=>⟨_,x.at_,rfl⟩,there:=fun q_ x=>⟨x.lt,x.lt⟩,keep:=fun q_ q_ x k=>x.to fun o e=>k d (.inl rfl) o e,notList:=by decide,notTuple:=by decide,hint:=fun q_ q_ s q_ x q=>ksv (s:=s) ⟨_,x.at_,rfl⟩ q,iter:=fun q_ q_ hh x=> ?_}
 exact ⟨_,_,(fun q_ q_ q=>kst x q),ksu hh _ (bf3 x.lt),⟨bd8 _ rfl,x.to fun o e=>bb0 _ e⟩⟩
end
end L2
namespace L2
open PySem PySem.Spec PyProof.Rows
def TpA (h:Heap) (a:Addr) (its:List Value):Prop:=∃o n,h.get? a=some o∧o.cls= .type "tuple"∧o.data= .seq its.toArray n
section
variable {prog:bb8} {w:World} {A:bf8} {E:Value→ba4→Prop} {s:ba4} {a b:Addr} {its:List Value}
theorem TpA.ty (x:TpA s.heap a its):s.TypeIs (.ref a) "tuple":=let ⟨o,_,h1,h2,_⟩:=x;⟨o,h1,h2⟩
theorem kdw (x:TpA s.heap a its) (k:Nat) (hq: ∀v∈its,∀(E:Value→ba4→Prop) (Q:Bool→ba4→Prop),Q true s→wpAny (model prog w) A (eqIsQuiet k v) Q E s) {Q:Bool→ba4→Prop} (q:Q true s):wpAny (model prog w) A (eqIsQuiet (k + 1) (.ref a)) Q E s:=by
 have ty:=x.ty
 obtain ⟨o,n,ho,_,hd⟩:=x
 unfold eqIsQuiet
 refine ba2 (bm7 ty F.slot_tuple_eq.lookup (show wpAny _ _ (isInstance (.ref a) (.type "tuple") >>= _) _ _ s from ba2 (bw5 ty ca8 ?_)))
 refine kbl (fun z=>nomatch z) fun q_=>ba2 (b12 ho hd (ba2 ?_))
 show wpAny _ _ (forIn its.toArray _ _) _ _ s
 rw [← bt8]
 refine bq6 _ (fun kdc r s'=>r.1=none∧s'=s∧∀v∈kdc,v∈its) _ ?_ ?_ _ _ ⟨rfl,rfl,fun v hv=>by simpa using hv⟩
 · rintro v kdc r s' ⟨hr,rfl,hall⟩
   exact ba2 (hq v (hall v bc4) _ _ (kbl (fun z=>nomatch z) fun q_=>bb4 ⟨rfl,rfl,fun u hu=>hall u (bb7 _ hu)⟩))
 · rintro ⟨r1,r2⟩ s' ⟨hr,rfl,_⟩
   cases (show r1=none from hr)
   exact bb4 q
theorem kj5 (x:TpA s.heap a its) (k:Nat) (hq: ∀v∈its,∀(E:Value→ba4→Prop) (Q:Bool→ba4→Prop),Q false s→wpAny (model prog w) A (ofAClassStatement k v) Q E s) {Q:Bool→ba4→Prop} (q:Q false s):wpAny (model prog w) A (ofAClassStatement (k + 1) (.ref a)) Q E s:=by
 have ty:=x.ty
 obtain ⟨o,n,ho,_,hd⟩:=x
 unfold ofAClassStatement
 refine ba2 (ch3 ty ?_)
 dsimp only
 refine kbl (fun q_=>ba2 (bb4 (kbl (fun z=>nomatch z) fun q_=>ba2 (b12 ho hd ?_)))) fun z=>absurd (by decide) z
 dsimp only
 refine ba2 ?_
 rw [← bt8]
 refine bq6 _ (fun kdc r s'=>r.1=none∧s'=s∧∀v∈kdc,v∈its) _ ?_ ?_ _ _ ⟨rfl,rfl,fun v hv=>by simpa using hv⟩
 · rintro v kdc r s' ⟨hr,rfl,hall⟩
   exact ba2 (hq v (hall v bc4) _ _ (kbl (fun z=>nomatch z) fun q_=>bb4 ⟨rfl,rfl,fun u hu=>hall u (bb7 _ hu)⟩))
 · rintro ⟨r1,r2⟩ s' ⟨hr,rfl,_⟩
   cases (show r1=none from hr)
   exact bb4 q
theorem kpk (x:TpA s.heap a its) (k:Nat) (hq: ∀v∈its,∀(E:Value→ba4→Prop) (Q:Bool→ba4→Prop),Q true s→wpAny (model prog w) A (hashByValue k v) Q E s) {Q:Bool→ba4→Prop} (q:Q true s):wpAny (model prog w) A (hashByValue (k + 1) (.ref a)) Q E s:=by
 have ty:=x.ty
 obtain ⟨o,n,ho,_,hd⟩:=x
 unfold hashByValue
 refine ba2 (bm7 ty bm6.lookup ?_)
 show wpAny _ _ (seqItems? (.ref a) >>= _) _ _ s
 refine ba2 (b12 ho hd (ba2 ?_))
 show wpAny _ _ (forIn its.toArray _ _) _ _ s
 rw [← bt8]
 refine bq6 _ (fun kdc r s'=>r.1=none∧s'=s∧∀v∈kdc,v∈its) _ ?_ ?_ _ _ ⟨rfl,rfl,fun v hv=>by simpa using hv⟩
 · rintro v kdc r s' ⟨hr,rfl,hall⟩
   exact ba2 (hq v (hall v bc4) _ _ (kbl (fun z=>nomatch z) fun q_=>bb4 ⟨rfl,rfl,fun u hu=>hall u (bb7 _ hu)⟩))
 · rintro ⟨r1,r2⟩ s' ⟨hr,rfl,_⟩
   cases (show r1=none from hr)
   exact bb4 q
theorem kpl (hu:A.units < cLine) (x:TpA s.heap a its) {hs:List Int} (hq:Paired (fun v h=>∀(s':ba4) (E:Value→ba4→Prop) (Q:Int→ba4→Prop),s'.heap=s.heap→(∀ tk,Q h {s' with toks:=tk})→wpAny (model prog w) A.in1 (pyHash v) Q E s') its hs)
 {Q:Int→ba4→Prop} (q: ∀tk,Q (reduceHash (bh6 hs)) {s with toks:=tk}):wpAny (model prog w) A (pyHash (.ref a)) Q E s:=by
 have ty:=x.ty
 obtain ⟨o,n,ho,_,hd⟩:=x
 unfold pyHash pyHashByItsType
 refine ba2 (cf8 (.inr hu) (ba2 (bm7 ty bm6.lookup ?_)))
 show wpAny _ _ (if (some (cm0 "tuple.__hash__") == some bc9)=true then _ else _) Q E s
 refine kbl (fun z=>absurd z (by rw [ci1];decide)) fun q_=>ba2 (bm7 ty bm6.lookup ?_)
 show wpAny _ _ (callSpecialIfBoundUnlessNone? (.ref a) "__hash__" _ >>= _) Q E s
 refine ba2 (bt9 ty bm6 (bj1 bm6 ty ce1 ?_ (cc6 _)))
 show wpAny _ _ (bv5 (.ref a) >>= _) _ _ s
 refine ba2 (bz6 ho hd (ba2 ?_))
 rw [← bt8]
 refine bq6 _ (fun kdc (b:Array Int) s'=>∃left,b.toList++left=hs∧s'.heap=s.heap∧(∃ tk,s'={s with toks:=tk})∧Paired (fun v h=>∀(s':ba4) (E:Value→ba4→Prop) (Q:Int→ba4→Prop),s'.heap=s.heap→(∀ tk,Q h {s' with toks:=tk})→wpAny (model prog w) A.in1 (pyHash v) Q E s') kdc left) _ ?_ ?_ _ _ ⟨hs,rfl,rfl,⟨s.toks,rfl⟩,by simpa using hq⟩
 · rintro v kdc b s' ⟨left,e1,e2,⟨tk,rfl⟩,pl⟩
   cases pl with
   | @cons _ h _ left p1 p2=>
     refine ba2 (p1 _ _ _ e2 fun tk'=> ?_)
     exact bb4 ⟨left,by simpa using e1,rfl,⟨tk',rfl⟩,p2⟩
 · rintro b s' ⟨left,e1,e2,⟨tk,rfl⟩,pl⟩
   cases pl
   rw [be4] at e1
   show wpAny _ _ (retInt (bh6 b.toList)) _ _ _
   rw [e1]
   refine ca9 ?_
   show wpAny _ _ (if (decide (-(2:Int) ^ 63≤bh6 hs) && decide (bh6 hs < 2 ^ 63))=true then _ else _) Q E _
   unfold reduceHash at q
   refine kbl (fun z=> ?_) fun z=> ?_
   · simp only [if_pos z] at q
     exact bb4 (q _)
   · simp only [if_neg z] at q
     exact ba2 (cf5 (bb4 (q _)))
theorem TpA.isT (x:TpA s.heap a its):s.heap.IsTuple a its.toArray:=let ⟨o,n,h1,h2,h3⟩:=x;⟨o,h1,h2,n,h3⟩
theorem k07 {α:Type} [DecidableEq α] (hu:A.units < cLine) {xs ys:List Value} {x y:List α} (ha:TpA s.heap a xs) (hb:TpA s.heap b ys) (lx:xs.length=x.length) (ly:ys.length=y.length) (inj:a=b→x=y)
 (he: ∀(j:Nat) (u v:Value) (p q:α),xs[j]?=some u→ys[j]?=some v→x[j]?=some p→y[j]?=some q→b01 A.in1 s u v (decide (p=q))):b01 A s (.ref a) (.ref b) (decide (x=y)):=by
 by_cases hab:a=b
 · rw [inj hab]
   subst hab
   simpa using b01.same (A:=A) (s:=s) (.ref a)
 · have h:=SeqAt.RcAt.tuples (e:=fun j=>decide (x[j]?=y[j]?)) ha.isT hb.isT hu fun j h1 h2=>by
    simp only [bc8] at h1 h2
    have:=he j xs[j] ys[j] (x[j]'(by lia)) (y[j]'(by lia)) (by simp [h1]) (by simp [h2]) (by simp) (by simp)
    simpa [show j < x.length by lia,show j < y.length by lia] using this
   rw [show ((ba5 (min xs.toArray.size ys.toArray.size)).all (fun j=>decide (x[j]?=y[j]?)) && xs.toArray.size == ys.toArray.size)=decide (x=y) from ?_] at h
   · exact b01.of_refs hab h
   · rw [bh0]
     simp only [bh5,bn6,ba7,decide_eq_true_eq,beq_iff_eq,bc8]
     constructor
     · rintro ⟨h1,h2⟩
       apply bs1
       intro i
       by_cases hi:i < x.length
       · exact h1 i (by lia)
       · rw [bq8 (by lia),bq8 (by lia)]
     · rintro rfl
       exact ⟨fun q_ q_=>rfl,by lia⟩
noncomputable def ltL:List Int→List Int→Bool
 | _,[]=>false
 | [],_::_=>true
 | a::x,b::y=>if a=b then ltL x y else decide (a < b)
theorem k08 {m k:Int} {x y:List Int} (e:m≠k):ltL (m::x) (k::y)=decide (m < k):=by
 unfold ltL
 rw [if_neg e]
theorem kxp {x y:List Int} (h:x=[]∨y=[]):ltL x y=decide (x.length < y.length):=by
 rcases h with rfl | rfl
 · cases y <;> rfl
 · cases x <;> rfl
theorem k09 {xs ys:List Value} {x y:List Int} (ha:TpA s.heap a xs) (hb:TpA s.heap b ys) (ix:IntsAre xs x) (iy:IntsAre ys y) (hu:A.units < cLine) {Q:Value→ba4→Prop} (q:Q (.bool (ltL x y)) s):wpAny (model prog w) A (bh4 .Lt (.ref a) (.ref b)) Q E s:=by
 have ta:=ha.ty
 have tb:=hb.ty
 obtain ⟨oa,na,hoa,_,hda⟩:=ha
 obtain ⟨ob,nb,hob,_,hdb⟩:=hb
 show wpAny _ _ (richCompare .Lt (.ref a) (.ref b)) _ _ _
 refine wpAny_richCompare_same_room (op:= .Lt) ta tb cj9 (bj1 cj9 ta F.entry_tuple_lt ?_ (F.args_tuple_lt_2 _ _)) hu
 show wpAny _ _ (isInstance (.ref b) (.type "tuple") >>= _) _ _ s
 refine ba2 (bw5 tb ca8 (kbl (fun z=>nomatch z) fun q_=>ba2 (bz6 hoa hda (ba2 (bz6 hob hdb (ba2 ?_))))))
 refine bq6 _ (fun kdc r s'=>r.1=none∧s'=s∧∃xs' ys' x' y',kdc=List.zip xs' ys'∧IntsAre xs' x'∧IntsAre ys' y'∧ltL x' y'=ltL x y∧decide (xs'.length < ys'.length)=decide (xs.length < ys.length)) _ ?_ ?_ _ _ ⟨rfl,rfl,xs,ys,x,y,by simp,ix,iy,rfl,rfl⟩
 · rintro ⟨u,v⟩ kdc r s' ⟨hr,rfl,xs',ys',x',y',hz,ix',iy',h1,h2⟩
   cases ix' with
   | nil=>cases hz
   | cons m t1 ix'=>
     cases iy' with
     | nil=>cases hz
     | cons k t2 iy'=>
       rw [cd5] at hz
       injection hz with z1 z2
       cases z1
       subst z2
       refine ba2 (bq4 ?_)
       by_cases e:m=k
       · subst e
         refine kbl (fun z=>absurd z (by simp)) fun q_=>bb4 ⟨rfl,rfl,_,_,_,_,rfl,ix',iy',by rw [← h1];simp [ltL],by rw [← h2];simp⟩
       · refine kbl (fun q_=> ?_) fun z=>absurd (by simp [e]) z
         dsimp only
         refine ba2 (cf5 ?_)
         refine ba2 (show wpAny _ _ (bh4 .Lt (.int m t1) (.int k t2)) _ _ _ from ck1 ?_)
         rw [← h1,k08 e] at q
         exact ba2 (bb4 (bb4 (bb4 ⟨_,rfl,(fun z=>nomatch z),q⟩)))
 · rintro ⟨r1,r2⟩ s' ⟨hr,rfl,xs',ys',x',y',hz,ix',iy',h1,h2⟩
   cases (show r1=none from hr)
   have hx:xs'=[]∨ys'=[]:=by
    cases xs' with
    | nil=>exact .inl rfl
    | cons _ _=>cases ys' with
      | nil=>exact .inr rfl
      | cons _ _=>cases hz
   have lx:=ix'.length
   have ly:=iy'.length
   have hn:x'=[]∨y'=[]:=by
    rcases hx with rfl | rfl
    · exact .inl (bz4.mp (by simpa using lx.symm))
    · exact .inr (bz4.mp (by simpa using ly.symm))
   rw [← h1,kxp hn,← lx,← ly,h2] at q
   refine bb4 ⟨_,rfl,(fun z=>nomatch z),?_⟩
   simpa [Builtin.Tuple.tupleCompareSizes] using q
end
def VwA (h:Heap) (a:Addr) (k:Vw):Prop:=∃tk p q us os,TpA h a [.int k.1 tk,.ref p,.ref q]∧TpA h p us∧IntsAre us k.2.1∧TpA h q os∧IntsAre os k.2.2
theorem TpA.inj {h:Heap} {a:Addr} {x y:List Value} (hx:TpA h a x) (hy:TpA h a y):x=y:=by
 obtain ⟨o,n,h1,_,h3⟩:=hx
 obtain ⟨o',n',h1',_,h3'⟩:=hy
 rw [h1] at h1'
 cases h1'
 rw [h3] at h3'
 injection h3' with z _
 simpa using congrArg b99 z
theorem kfn: ∀{vs:List Value} {x y:List Int},IntsAre vs x→IntsAre vs y→x=y
 | _,_,_,.nil,.nil=>rfl
 | _,_,_,.cons n t r,.cons _ _ r'=>by rw [kfn r r']
theorem VwA.inj {h:Heap} {a:Addr} {x y:Vw} (hx:VwA h a x) (hy:VwA h a y):x=y:=by
 obtain ⟨tk,p,q,us,os,h1,h2,h3,h4,h5⟩:=hx
 obtain ⟨tk',p',q',us',os',h1',h2',h3',h4',h5'⟩:=hy
 have e:=h1.inj h1'
 injection e with e1 e2
 injection e2 with e2 e3
 injection e3 with e3 _
 injection e1 with e1 _
 injection e2 with e2
 injection e3 with e3
 subst e2;subst e3
 cases h2.inj h2'
 cases h4.inj h4'
 exact bt5 e1 (bt5 (kfn h3 h3') (kfn h5 h5'))
theorem TpA.to {h h':Heap} {a:Addr} {x:List Value} (t:TpA h a x) (k: ∀o,h.get? a=some o→o.cls= .type "tuple"→h'.get? a=some o):TpA h' a x:=by
 obtain ⟨o,n,h1,h2,h3⟩:=t
 exact ⟨o,n,k o h1 h2,h2,h3⟩
theorem VwA.to {h h':Heap} {a:Addr} {x:Vw} (t:VwA h a x) (k: ∀b o,h.get? b=some o→o.cls= .type "tuple"→h'.get? b=some o):VwA h' a x:=by
 obtain ⟨tk,p,q,us,os,h1,h2,h3,h4,h5⟩:=t
 exact ⟨tk,p,q,us,os,h1.to (k _),h2.to (k _),h3,h4.to (k _),h5⟩
section
variable {prog:bb8} {w:World} {A:bf8} {E:Value→ba4→Prop} {s:ba4} {a b:Addr} {its:List Value}
theorem klx (hu:A.units < cLine) {x:List Int} (t:TpA s.heap a its) (ix:IntsAre its x) {Q:Int→ba4→Prop} (q: ∀tk,Q (kuc x) {s with toks:=tk}):wpAny (model prog w) A (pyHash (.ref a)) Q E s:=by
 refine kpl hu t (hs:=x.map hashInt) ?_ q
 clear q t
 induction ix with
 | nil=>exact .nil
 | cons n tk r ih=>exact .cons (fun s' E Q q_ q=>bw3 (q _)) ih
theorem kj6 (p q:Int):(p == q)=decide (p=q):=by
 rw [bh0]
 simp
theorem kly (hu:A.units < cLine) {x y:List Int} {ts:List Value} (ta:TpA s.heap a its) (ix:IntsAre its x) (tb:TpA s.heap b ts) (iy:IntsAre ts y):b01 A s (.ref a) (.ref b) (decide (x=y)):=by
 refine k07 hu ta tb ix.length iy.length (fun e=>by subst e;cases ta.inj tb;exact kfn ix iy) fun j u v p q h1 h2 h3 h4=> ?_
 obtain ⟨t1,rfl⟩:=ck4 ix j u h1
 obtain ⟨t2,rfl⟩:=ck4 iy j v h2
 have e1:x.getD j 0=p:=by rw [bb9,h3];rfl
 have e2:y.getD j 0=q:=by rw [bb9,h4];rfl
 rw [e1,e2]
 rw [← kj6]
 exact ce2 p t1 q t2
theorem k1a (hu:A.units + 1 < cLine) {x y:Vw} (ha:VwA s.heap a x) (hb:VwA s.heap b y):b01 A s (.ref a) (.ref b) (decide (x=y)):=by
 have inj:a=b→x=y:=fun e=>by subst e;exact ha.inj hb
 obtain ⟨tk,p,q,us,os,h1,h2,h3,h4,h5⟩:=ha
 obtain ⟨tk',p',q',us',os',h1',h2',h3',h4',h5'⟩:=hb
 have:=k07 (A:=A) (α:=Int ⊕ List Int) (x:=[.inl x.1,.inr x.2.1,.inr x.2.2]) (y:=[.inl y.1,.inr y.2.1,.inr y.2.2]) (by lia) h1 h1' rfl rfl (fun e=>by rw [inj e]) fun j u v p q i1 i2 i3 i4=>by
  match j,i1,i2,i3,i4 with
  | 0,i1,i2,i3,i4=>
    cases i1;cases i2;cases i3;cases i4
    rw [show decide (b96 (β:=List Int) x.1=b96 y.1)=decide (x.1=y.1) by simp,← kj6]
    exact ce2 _ _ _ _
  | 1,i1,i2,i3,i4=>
    cases i1;cases i2;cases i3;cases i4
    rw [show decide (b56 (α:=Int) x.2.1=b56 y.2.1)=decide (x.2.1=y.2.1) by simp]
    exact kly (A:=A.in1) hu h2 h3 h2' h3'
  | 2,i1,i2,i3,i4=>
    cases i1;cases i2;cases i3;cases i4
    rw [show decide (b56 (α:=Int) x.2.2=b56 y.2.2)=decide (x.2.2=y.2.2) by simp]
    exact kly (A:=A.in1) hu h4 h5 h4' h5'
  | j + 3,i1,_,_,_=>cases i1
 rwa [show decide (([.inl x.1,.inr x.2.1,.inr x.2.2]:List (Int ⊕ List Int))=[.inl y.1,.inr y.2.1,.inr y.2.2])=decide (x=y) from by
  rw [decide_eq_decide]
  simp [Prod.ext_iff]] at this
theorem kdp {x:List Int}: ∀{its:List Value},IntsAre its x→∀v∈its,∃n t,v= .int n t:=by
 intro its ix
 induction ix with
 | nil=>intro v hv;cases hv
 | cons n t r ih=>
   intro v hv
   rcases bc7.mp hv with rfl | hv
   · exact ⟨n,t,rfl⟩
   · exact ih v hv
theorem k1b (hu:A.units + 1 < cLine) {C:Heap→Prop} {x:Vw} (hC: ∀h,C h→VwA h a x):Ky prog w A C (.ref a) (vwH x) where
 ref:=⟨a,rfl⟩
 hash:=fun s E Q c q=>by
  obtain ⟨tk,p,r,us,os,h1,h2,h3,h4,h5⟩:=hC _ c
  exact kpl (by lia) h1 (hs:=[hashInt x.1,kuc x.2.1,kuc x.2.2]) (.cons (fun s' E Q q_ q=>bw3 (q _)) (.cons (fun s' E Q e q=>klx (A:=A.in1) hu (e▸h2) h3 q) (.cons (fun s' E Q e q=>klx (A:=A.in1) hu (e▸h4) h5 q) .nil))) q
 quiet:=fun s E Q c q=>by
  obtain ⟨tk,p,r,us,os,h1,h2,h3,h4,h5⟩:=hC _ c
  refine kdw h1 7 (fun v hv E Q q=> ?_) q
  simp only [bc7,bm1,or_false] at hv
  rcases hv with rfl | rfl | rfl
  · exact bx2 (bs3 _ rfl) q
  · exact kdw h2 6 (fun v hv E Q q=>by obtain ⟨n,t,rfl⟩:=kdp h3 v hv;exact bx2 (bs3 _ rfl) q) q
  · exact kdw h4 6 (fun v hv E Q q=>by obtain ⟨n,t,rfl⟩:=kdp h5 v hv;exact bx2 (bs3 _ rfl) q) q
 nocl:=fun s E Q c q=>by
  obtain ⟨tk,p,r,us,os,h1,h2,h3,h4,h5⟩:=hC _ c
  refine kj5 h1 7 (fun v hv E Q q=> ?_) q
  simp only [bc7,bm1,or_false] at hv
  rcases hv with rfl | rfl | rfl
  · exact bb4 q
  · exact kj5 h2 6 (fun v hv E Q q=>by obtain ⟨n,t,rfl⟩:=kdp h3 v hv;exact bb4 q) q
  · exact kj5 h4 6 (fun v hv E Q q=>by obtain ⟨n,t,rfl⟩:=kdp h5 v hv;exact bb4 q) q
 byv:=fun s E Q c q=>by
  obtain ⟨tk,p,r,us,os,h1,h2,h3,h4,h5⟩:=hC _ c
  refine kpk h1 7 (fun v hv E Q q=> ?_) q
  simp only [bc7,bm1,or_false] at hv
  rcases hv with rfl | rfl | rfl
  · exact bb4 q
  · exact kpk h2 6 (fun v hv E Q q=>by obtain ⟨n,t,rfl⟩:=kdp h3 v hv;exact bb4 q) q
  · exact kpk h4 6 (fun v hv E Q q=>by obtain ⟨n,t,rfl⟩:=kdp h5 v hv;exact bb4 q) q
end
end L2
namespace L2
open PySem PySem.Spec PyProof.Rows PySem.W
structure Ord (α:Type) (lt:α→α→Bool):Prop where
 irr: ∀x,lt x x=false
 tr: ∀x y z,lt x y=true→lt y z=true→lt x z=true
 tot: ∀x y,x≠y→lt x y=true∨lt y x=true
theorem kj7: ∀x:List Int,ltL x x=false
 | []=>rfl
 | a::x=>by unfold ltL;rw [if_pos rfl];exact kj7 x
theorem kuv: ∀x y z:List Int,ltL x y=true→ltL y z=true→ltL x z=true
 | _,[],_,h,_=>by cases h':(‹List Int› :List Int) <;> simp_all [ltL]
 | _,_::_,[],_,h=>by simp [ltL] at h
 | [],_::_,_::_,_,_=>rfl
 | a::x,b::y,c::z,h1,h2=>by
   unfold ltL at h1 h2 ⊢
   by_cases e1:a=b
   · subst e1
     rw [if_pos rfl] at h1
     by_cases e2:a=c
     · subst e2
       rw [if_pos rfl] at h2 ⊢
       exact kuv x y z h1 h2
     · rw [if_neg e2] at h2 ⊢
       exact h2
   · rw [if_neg e1] at h1
     have h1:=of_decide_eq_true h1
     by_cases e2:b=c
     · subst e2
       rw [if_neg e1]
       exact decide_eq_true h1
     · rw [if_neg e2] at h2
       have h2:=of_decide_eq_true h2
       rw [if_neg (by lia)]
       exact decide_eq_true (by lia)
theorem kpm: ∀x y:List Int,x≠y→ltL x y=true∨ltL y x=true
 | [],[],h=>absurd rfl h
 | [],_::_,_=> .inl rfl
 | _::_,[],_=> .inr rfl
 | a::x,b::y,h=>by
   by_cases e:a=b
   · subst e
     have:=kpm x y fun z=>h (by rw [z])
     unfold ltL
     rw [if_pos rfl,if_pos rfl]
     exact this
   · unfold ltL
     rw [if_neg e,if_neg (bz8 e)]
     rcases Int.lt_or_lt_of_ne e with z | z
     · exact .inl (decide_eq_true z)
     · exact .inr (decide_eq_true z)
theorem ordL:Ord (List Int) ltL:=⟨kj7,kuv,kpm⟩
noncomputable def kxq {α β:Type} [DecidableEq α] (l1:α→α→Bool) (l2:β→β→Bool) (x y:α×β):Bool:=if x.1=y.1 then l2 x.2 y.2 else l1 x.1 y.1
theorem Ord.lex {α β:Type} [DecidableEq α] {l1:α→α→Bool} {l2:β→β→Bool} (h1:Ord α l1) (h2:Ord β l2):Ord (α×β) (kxq l1 l2) where
 irr:=fun x=>by unfold kxq;rw [if_pos rfl];exact h2.irr _
 tr:=fun x y z a b=>by
  unfold kxq at a b ⊢
  by_cases e1:x.1=y.1
  · rw [if_pos e1] at a
    by_cases e2:y.1=z.1
    · rw [if_pos e2] at b
      rw [if_pos (e1.trans e2)]
      exact h2.tr _ _ _ a b
    · rw [if_neg e2] at b
      rw [e1,if_neg e2]
      exact b
  · rw [if_neg e1] at a
    by_cases e2:y.1=z.1
    · rw [← e2,if_neg e1]
      exact a
    · rw [if_neg e2] at b
      have:=h1.tr _ _ _ a b
      rw [if_neg (fun z=>by rw [z,h1.irr] at this;cases this)]
      exact this
 tot:=fun x y h=>by
  unfold kxq
  by_cases e:x.1=y.1
  · rw [if_pos e,if_pos e.symm]
    exact h2.tot _ _ fun z=>h (bt5 e z)
  · rw [if_neg e,if_neg (bz8 e)]
    exact h1.tot _ _ e
theorem ordI:Ord Int (fun a b=>decide (a < b)):=⟨fun x=>by simp,fun x y z a b=>by simp at a b ⊢;lia,fun x y h=>by simp;lia⟩
noncomputable def ltV:Vw→Vw→Bool:=kxq (fun a b=>decide (a < b)) (kxq ltL ltL)
theorem k1c:Ord Vw ltV:=ordI.lex (ordL.lex ordL)
noncomputable def rk {α:Type} (lt:α→α→Bool) (L:List α) (x:α):Int:=(L.countP fun z=>lt z x:Nat)
theorem ki8 {α:Type} {p q:α→Bool}: ∀{L:List α} {x:α},x∈L→(∀ z,p z=true→q z=true)→p x=false→q x=true→L.countP p < L.countP q
 | y::L,x,hx,h,hp,hq=>by
   rw [ci2,ci2]
   have le:L.countP p≤L.countP q:=cb0 fun z q_=>h z
   rcases bc7.mp hx with rfl | hx
   · rw [hp,hq]
     simp
     lia
   · have ih:=ki8 hx h hp hq
     have:(if p y=true then 1 else 0)≤(if q y=true then 1 else 0):=by
      by_cases z:p y=true
      · rw [if_pos z,if_pos (h y z)];exact bb6 _
      · rw [if_neg z];exact bf4 _
     lia
theorem k1d {α:Type} {lt:α→α→Bool} (O:Ord α lt) [DecidableEq α] {L:List α} {x y:α} (hx:x∈L) (hy:y∈L):lt x y=decide (rk lt L x < rk lt L y):=by
 have up: ∀x y,x∈L→lt x y=true→rk lt L x < rk lt L y:=fun x y hx h=>by
  unfold rk
  exact Int.ofNat_lt.mpr (ki8 hx (fun z hz=>O.tr _ _ _ hz h) (O.irr x) h)
 cases h:lt x y with
 | true=>exact (decide_eq_true (up x y hx h)).symm
 | false=>
   refine (decide_eq_false fun z=> ?_).symm
   by_cases e:x=y
   · rw [e] at z;exact Int.lt_irrefl _ z
   · rcases O.tot x y e with q | q
     · rw [h] at q;cases q
     · exact absurd (up y x hy q) (by lia)
section
variable {prog:bb8} {w:World} {A:bf8} {E:Value→ba4→Prop} {s:ba4} {a b:Addr}
theorem vw_lt (hu:A.units + 1 < cLine) {x y:Vw} (ha:VwA s.heap a x) (hb:VwA s.heap b y) {Q:Bool→ba4→Prop} (q:Q (ltV x y) s):wpAny (model prog w) A (keyLt' (tuples' true) (.ref a) (.ref b)) Q E s:=by
 obtain ⟨tk,p,r,us,os,⟨o1,n1,g1,_,d1⟩,h2,h3,h4,h5⟩:=ha
 obtain ⟨tk',p',r',us',os',⟨o2,n2,g2,_,d2⟩,h2',h3',h4',h5'⟩:=hb
 have hu0:A.units < cLine:=by lia
 unfold ltV kxq at q
 refine kat_lt g1 d1 g2 d2 (cj2 (bq4 ?_))
 rw [kj6]
 refine kat_go (fun e1=>cl4 (cj2 (kly hu0 h2 h3 h2' h3' prog w _ _ ?_))) fun e1=>kat_no ?_
 · rw [if_pos (of_decide_eq_true e1)] at q
   refine kat_go (fun e2=>cl4 (cj2 (kly hu0 h4 h5 h4' h5' prog w _ _ ?_))) fun e2=>kat_no (kat_one _ _ ?_)
   · rw [if_pos (of_decide_eq_true e2)] at q
     refine kat_go (fun e3=>cl4 (kat_nil ?_)) fun e3=>kat_no (kat_one _ _ ?_)
     · rw [of_decide_eq_true e3,kj7] at q
       exact q
     · exact k09 h4 h4' h5 h5' hu0 q
   · rw [if_neg (of_decide_eq_false e2)] at q
     exact k09 h2 h2' h3 h3' hu0 q
 · rw [if_neg (of_decide_eq_false e1)] at q
   exact oneLt_int q
end
end L2
set_option maxHeartbeats 4000000
namespace L2
open PySem PySem.Spec PySem.W PySem.Calls PyProof.Rows
theorem khp: ∀{x:List Int} {ts:List Value},Vals (x.map V.int) ts→IntsAre ts x
 | [],_,r=>by cases r;exact .nil
 | n::x,_,r=>by
   rw [bg5] at r
   cases r with
   | cons h t=>
     obtain ⟨tk,rfl⟩:=(show ∃t,_=by1 n t from h)
     exact .cons n tk (khp t)
theorem klz {P:bb8} {w:World} {H:Hp} {h:Heap} {a:Addr} {xs:List V} (ok:HOk P w H h) (e:H a=some (.tup xs)): ∃ts,Vals xs ts∧TpA h a ts:=by
 obtain ⟨_,ts,r,o,h1,h2,n,h3⟩:=(show ObjOk P w H h a (.tup xs) from ok a _ e)
 exact ⟨ts,r,o,n,h1,h2,h3⟩
theorem kgt {P:bb8} {w:World} {H:Hp} {h:Heap} {a:Addr} {k:Vw} (ok:HOk P w H h) (v:VwH H a k):VwA h a k:=by
 obtain ⟨p,q,h1,h2,h3⟩:=v
 obtain ⟨ts,r,t1⟩:=klz ok h1
 obtain ⟨us,ru,t2⟩:=klz ok h2
 obtain ⟨os,ro,t3⟩:=klz ok h3
 cases r with
 | cons r1 r=>
   cases r with
   | cons r2 r=>
     cases r with
     | cons r3 r=>
       cases r
       obtain ⟨tk,rfl⟩:=(show ∃t,_=by1 k.1 t from r1)
       cases (show _=bg1 p from r2)
       cases (show _=bg1 q from r3)
       exact ⟨tk,p,q,us,os,t1,t2,khp ru,t3,khp ro⟩
theorem kpn {M:Model} {A:bf8} {E:Value→ba4→Prop} {s:ba4} {its:List Value} (h2:0 < its.length) (hv: ∀v∈its,∃a k,v= .ref a∧VwA s.heap a k) {R:bp6→ba4→Prop} (q:R (tuples' true) s):wpAny M A (keyKind' its.toArray) R E s:=by
 have tups: ∀(l:List Value),(∀ v∈l,∃a k,v= .ref a∧VwA s.heap a k)→∃fs,fs.length=l.length∧KatTups s.heap l fs∧∀f∈fs,∃x t,f=by1 x t:=fun l=>by
  induction l with
  | nil=>exact fun q_=>⟨[],rfl,cn6,fun q_ z=>nomatch z⟩
  | cons v l ih=>
    intro hv
    obtain ⟨fs,f1,f2,f3⟩:=ih fun v hm=>hv v (bb7 _ hm)
    obtain ⟨a,k,rfl,tk,p,q,us,os,⟨o,n,a1,a2,a3⟩,_⟩:=hv v bc4
    exact ⟨.int k.1 tk::fs,by rw [bf2,bf2,f1],cn0 a1 a2 a3 rfl f2,fun f hf=>(bc7.mp hf).elim (fun z=>⟨_,tk,z⟩) (f3 f)⟩
 obtain ⟨fs,f1,f2,f3⟩:=tups its hv
 refine kat_kind (T:= .type "int") f2 (by lia) (fun v hv=> ?_) (by decide) ?_
 · obtain ⟨x,t,rfl⟩:=f3 v hv
   exact cl6 rfl
 rw [show (bt0 "int" != bt0 "tuple")=true by decide]
 exact q
noncomputable def vw0:Vw:=(0,[],[])
def UpV (vs:List Vw) (π:List Nat):Prop:=∀i j,i≤j→j < π.length→ltV (vs.getD (π.getD j 0) vw0) (vs.getD (π.getD i 0) vw0)=false
theorem kuw {its:List Value} {vs:List Vw} (hl:its.length=vs.length) (same: ∀i j,i < its.length→j < its.length→its.getD i bc9=its.getD j bc9→vs.getD i vw0=vs.getD j vw0):
 ∃key:be0→Int,∀i,i < its.length→∀v,key (its.getD i bc9,v)=rk ltV vs (vs.getD i vw0):=by
 classical
 refine ⟨fun kd=>if hh: ∃i,i < its.length∧its.getD i bc9=kd.1 then rk ltV vs (vs.getD hh.choose vw0) else 0,fun i hi v=> ?_⟩
 have hh: ∃j,j < its.length∧its.getD j bc9=its.getD i bc9:=⟨i,hi,rfl⟩
 show (if hh: ∃j,j < its.length∧its.getD j bc9=its.getD i bc9 then rk ltV vs (vs.getD hh.choose vw0) else 0)=_
 rw [dif_pos hh,same _ _ hh.choose_spec.1 hi hh.choose_spec.2]
theorem kfo {vs:List Vw} {i:Nat} (h:i < vs.length):vs.getD i vw0∈vs:=by
 rw [bb9,bb2 h]
 exact be8 h
theorem ksw {vs:List Vw} {i j:Nat} (hi:i < vs.length) (hj:j < vs.length) (h:rk ltV vs (vs.getD i vw0)≤rk ltV vs (vs.getD j vw0)):ltV (vs.getD j vw0) (vs.getD i vw0)=false:=by
 rw [k1d k1c (kfo hj) (kfo hi)]
 exact decide_eq_false (by lia)
theorem k1e {prog:bb8} {w:World} {A:bf8} {E:Value→ba4→Prop} {s:ba4} {its:List Value} {vs:List Vw} {key:be0→Int} (hu:A.units + 1 < cLine) (hl:its.length=vs.length)
 (at_: ∀i,i < its.length→∃a,its.getD i bc9= .ref a∧VwA s.heap a (vs.getD i vw0)) (hkey: ∀i,i < its.length→∀v,key (its.getD i bc9,v)=rk ltV vs (vs.getD i vw0)):
 ki1 prog w A E s key (tuples' true) (fun kd=>∃i,i < its.length∧kd=(its.getD i bc9,its.getD i bc9)):=fun x y st R ⟨i,hi,ex⟩ ⟨j,hj,ey⟩ hk hR=>by
 subst ex ey
 rw [← kw7,lt'_eq]
 obtain ⟨a,e1,va⟩:=at_ i hi
 obtain ⟨b,e2,vb⟩:=at_ j hj
 refine bc5 (b60 (bc5 (wpS_lift (b82 ?_))))
 rw [hk]
 dsimp only
 rw [e1,e2]
 refine vw_lt hu va vb ⟨rfl,bd6 ?_⟩
 rw [hkey i hi,hkey j hj] at hR
 rw [k1d k1c (kfo (by lia)) (kfo (by lia))]
 exact hR
theorem kux {its:List Value} {vs:List Vw} {key:be0→Int} (hl:its.length=vs.length) (hkey: ∀i,i < its.length→∀v,key (its.getD i bc9,v)=rk ltV vs (vs.getD i vw0)) {l:List be0} (lp:l.Perm (its.map fun v=>(v,v))) (lu:UpL key l):
 ∃π:List Nat,π.Perm (ba5 vs.length)∧UpV vs π∧l.map (·.2)=π.map fun i=>its.getD i bc9:=by
 obtain ⟨π,hp,rfl⟩:=khi (f:=fun i=>(its.getD i bc9,its.getD i bc9)) lp (ba5 its.length) (by
  conv=>lhs;rw [← kbu its bc9]
  rw [bc1];rfl)
 have pin: ∀i∈π,i < its.length:=fun i hi=>ba7.mp (hp.mem_iff.mp hi)
 refine ⟨π,by rw [← hl];exact hp,fun i j hij hj=> ?_,by rw [bc1];rfl⟩
 rw [show π.getD i 0=π[i]'(by lia) by simp [show i < π.length by lia],show π.getD j 0=π[j] by simp [hj]]
 have q1:=pin _ (be8 (l:=π) (n:=i) (by lia))
 have q2:=pin _ (be8 (l:=π) (n:=j) hj)
 refine ksw (by lia) (by lia) ?_
 rcases bl7 hij with q | q
 · have z:=bd0.mp lu i j (by rw [ba3];lia) (by rw [ba3];exact hj) q
   rw [bp2,bp2,hkey _ q1,hkey _ q2] at z
   exact z
 · subst q;exact bu2 _
section
variable {X:Cx}
theorem km6 (K:ba0) (hK:X.K=K) (hu:X.A.units + 40 < cLine):CallR X (.builtin "sorted") (fun xs H Q=>∃(p:Addr) (ys:List V) (vs:List Vw),xs=[.ref p]∧SqL K H p ys∧ys.length=vs.length∧
 (∀ (i:Nat) (v:Vw),vs[i]?=some v→∃a,ys[i]?=some (.ref a)∧VwH H a v)∧
 ∀(l:Addr) (π:List Nat),H l=none→π.Perm (ba5 vs.length)→UpV vs π→Q (.ref l) (upd H l (.lst (π.map fun i=>ys.getD i V.non)))):=by
 subst hK
 intro pins s σ H xs us Q I r h
 obtain ⟨p,ys,vs,rfl,hq,hl,hat,k⟩:=h
 obtain ⟨u,rfl,r1⟩:=kd0 r
 cases (show u=bg1 p from r1)
 obtain ⟨its,rv,⟨op,n0,hop,hc,_,hd⟩,hz⟩:=I.list hq
 have hL:s.heap.IsList p its.toArray:=⟨op,hop,hc,n0,hd⟩
 have hil:its.length=vs.length:=by rw [← rv.length,hl]
 have hf:H (s.heap.objs.size + 1)=none:=I.hok.fresh (bq0 _)
 have fin: ∀π:List Nat,π.Perm (ba5 vs.length)→UpV vs π→∃v H',Inv X pins σ H' {s with heap:=sortedAll s.heap its (π.map fun i=>its.getD i bc9).toArray}∧RelV v (.ref (s.heap.objs.size + 1))∧Q v H':=fun π hp ho=>by
  obtain ⟨e,at_⟩:=ch1 s.heap its (π.map fun i=>its.getD i bc9).toArray
  have pin: ∀i∈π,i < ys.length:=fun i hi=>by rw [hl];exact ba7.mp (hp.mem_iff.mp hi)
  refine ⟨.ref (s.heap.objs.size + 1),upd H (s.heap.objs.size + 1) (.lst (π.map fun i=>ys.getD i V.non)),?_,rfl,k _ _ hf hp ho⟩
  exact I.laid (t':=s.toks) (fun b o e=>cd8 e) (bq0 _) ⟨by rw [ba3,hp.length_eq,bg2,← hl];exact hz,π.map fun i=>its.getD i bc9,e,khc rv π pin,at_⟩
 by_cases h2:its.length < 2
 · refine kfi hL h2 ?_
   have:=fin (ba5 vs.length) (bj8 _) fun i j hij hj=>by
    rw [bg2] at hj
    have:i=j:=by lia
    rw [this]
    exact k1c.irr _
   rw [show (ba5 vs.length).map (fun i=>its.getD i bc9)=its by rw [← hil];exact kbu its bc9] at this
   exact this
 have h2:2≤its.length:=by lia
 have at0: ∀i,i < its.length→∃a,its.getD i bc9= .ref a∧VwA s.heap a (vs.getD i vw0):=fun i hi=>by
  have e1:vs[i]?=some vs[i]:=bb2 (by lia)
  obtain ⟨a,ha,hH⟩:=hat i _ e1
  obtain ⟨u,e2,r2⟩:=rv.get ha
  cases (show u=bg1 a from r2)
  refine ⟨a,by rw [bb9,e2];rfl,?_⟩
  rw [show vs.getD i vw0=vs[i] by simp [show i < vs.length by lia]]
  exact kgt I.hok hH
 obtain ⟨key,hkey⟩:=kuw hil fun i j hi hj e=>by
  obtain ⟨a,e1,v1⟩:=at0 i hi
  obtain ⟨b,e2,v2⟩:=at0 j hj
  rw [e1,e2] at e
  cases e
  exact v1.inj v2
 refine kgp (κ:=tuples' true) (key:=key) (ok:=fun kd=>∃i,i < its.length∧kd=(its.getD i bc9,its.getD i bc9)) hL h2 (by rw [← rv.length];exact hz) (fun A' E' h' keep hA=> ?_) (fun v hv=> ?_) fun out ho=> ?_
 · have at1: ∀i,i < its.length→∃a,its.getD i bc9= .ref a∧VwA h' a (vs.getD i vw0):=fun i hi=>by
    obtain ⟨a,e,v⟩:=at0 i hi
    exact ⟨a,e,v.to fun b o q q_=>keep b o q⟩
   refine ⟨fun R hR=>kpn (by lia) (fun v hv=> ?_) hR,k1e (by lia) hil at1 hkey⟩
   obtain ⟨i,hi,e⟩:=bg0 hv
   obtain ⟨a,e1,v1⟩:=at1 i hi
   exact ⟨a,_,by rw [← e1];simp [hi,e],v1⟩
 · obtain ⟨i,hi,e⟩:=bg0 hv
   exact ⟨i,hi,by rw [show its.getD i bc9=v by simp [hi,e]]⟩
 · obtain ⟨l,lp,lu,rfl⟩:=ho
   obtain ⟨π,p1,p2,p3⟩:=kux hil hkey lp lu
   rw [p3]
   exact fin π p1 p2
end
end L2
set_option maxHeartbeats 4000000
namespace L2
open PySem PySem.Spec PySem.W PySem.Calls PyProof.Rows PySem.SetTable
def SetV (w:World) (l:Addr) (zs:List (Addr×Vw)) (h:Heap):Prop:=∃R,ky5 (km4 w) h l R∧(R.map (·.2)).Perm (zs.map fun z=>(vwH z.2,bg1 z.1))
theorem SetV.to {w:World} {l:Addr} {zs:List (Addr×Vw)} {h h':Heap} (x:SetV w l zs h) (k: ∀o,h.get? l=some o→h'.get? l=some o):SetV w l zs h':=by
 obtain ⟨R,⟨o,es,ep,t,h1,r⟩,p⟩:=x
 exact ⟨R,⟨o,es,ep,t,k o h1,r⟩,p⟩
theorem SetV.obj {w:World} {l:Addr} {zs:List (Addr×Vw)} {h:Heap} (x:SetV w l zs h): ∃o,h.get? l=some o:=by
 obtain ⟨R,⟨o,es,ep,t,h1,r⟩,p⟩:=x
 exact ⟨o,h1⟩
section
variable {prog:bb8} {w:World} {A:bf8} {E:Value→ba4→Prop} {s:ba4}
theorem ksx {C:Heap→Prop} {d:Addr} {zs:List (Addr×Vw)} {a:Addr} {k:Vw} (hu:A.units + 1 < cLine) (S:SetV w d zs s.heap) (hl:zs.length≤16) (c:C s.heap) (hz: ∀z∈zs,∀h,C h→VwA h z.1 z.2) (hk: ∀h,C h→VwA h a k) {Q:Bool→ba4→Prop}
 (h1:k∈zs.map (·.2)→∀tk,Q false {s with toks:=tk}) (h2:k ∉ zs.map (·.2)→∀h' tk,bn5 d s.heap h'→SetV w d ((a,k)::zs) h'→Q true {s with heap:=h',toks:=tk}):
 wpAny (model prog w) A (setAdd d (.ref a)) Q E s:=by
 classical
 obtain ⟨R,S,p⟩:=S
 have rz: ∀r∈R,∃z∈zs,r.2=(vwH z.2,bg1 z.1):=fun r hr=>by
  obtain ⟨z,hz,e⟩:=ba8.mp (p.mem_iff.mp (bh2 hr))
  exact ⟨z,hz,e.symm⟩
 let e:Value→Bool:=fun u=>decide (∃ z∈zs,u= .ref z.1∧z.2=k)
 have ee: ∀z∈zs,e (.ref z.1)=decide (z.2=k):=fun z hz'=>by
  show decide (∃ z'∈zs,bg1 z.1= .ref z'.1∧z'.2=k)=_
  rw [decide_eq_decide]
  constructor
  · rintro ⟨z',m',q1,q2⟩
    injection q1 with q1
    have v1:=hz z hz' _ c
    have v2:=hz z' m' _ c
    rw [← q1] at v2
    rw [v1.inj v2]
    exact q2
  · intro q
    exact ⟨z,hz',rfl,q⟩
 refine kxi (C:=C) (h:=vwH k) (e:=e) S (by have:=p.length_eq;simp at this;lia) (k1b hu hk) (fun r hr=> ?_) c (fun r hr s' c'=> ?_) (fun r hr he=> ?_) (fun ⟨r,hr,he⟩=> ?_) fun hno h' R' tk sb S' p'=> ?_
 · obtain ⟨z,hz',e⟩:=rz r hr
   rw [e]
   exact ⟨_,k1b hu (hz z hz')⟩
 · obtain ⟨z,hz',e⟩:=rz r hr
   rw [e,ee z hz']
   exact k1a hu (hz z hz' _ c') (hk _ c')
 · obtain ⟨z,hz',q⟩:=rz r hr
   rw [q] at he ⊢
   rw [ee z hz'] at he
   rw [of_decide_eq_true he]
 · obtain ⟨z,hz',q⟩:=rz r hr
   rw [q,ee z hz'] at he
   exact h1 (ba8.mpr ⟨z,hz',of_decide_eq_true he⟩)
 · refine h2 (fun z=> ?_) h' tk sb ⟨R',S',p'.trans ?_⟩
   · obtain ⟨z,hz',q⟩:=ba8.mp z
     obtain ⟨r,hr,q2⟩:=ba8.mp (p.mem_iff.mpr (bh2 hz'))
     have:=hno r hr
     rw [q2,ee z hz',decide_eq_true q] at this
     cases this
   · exact p.cons _
end
theorem ksy {w:World} {l:Addr} {h:Heap} (e:h.get? l=some (krp (km4 w))):SetV w l [] h:=
 ⟨[],⟨_,#[],0,_,e,⟨rfl,rfl,rfl⟩,rfl,⟨rfl,rfl,rfl,br8,fun q_ z=>nomatch z⟩,(fun q_ z=>nomatch z),.inl rfl,(show 0 * 5 < 7 * 3 by decide),rfl,rfl⟩,bj8 _⟩
def JV (w:World) (ys:List V) (vs:List Vw) (h0:Heap) (i:Nat) (h:Heap):Prop:=(∀ b o,h0.get? b=some o→h.get? b=some o)∧∃zs:List (Addr×Vw),SetV w h0.objs.size zs h∧(zs.map (·.2)).Nodup∧(∀ v,v∈zs.map (·.2)↔v∈vs.take i)∧(∀ z∈zs,∃j:Nat,ys[j]?=some (V.ref z.1)∧vs[j]?=some z.2)∧zs.length≤i
section
variable {X:Cx}
theorem kpo (K:ba0) (w:World) (hw:X.w=w) (hK:X.K=K) (hc:X.calm=true) (hu:X.A.units + 40 < cLine):CallR X (.type "set") (fun xs H Q=>∃(p:Addr) (ys:List V) (vs:List Vw),xs=[.ref p]∧SqL K H p ys∧ys.length=vs.length∧vs.length≤16∧
 (∀ (i:Nat) (v:Vw),vs[i]?=some v→∃a,ys[i]?=some (.ref a)∧VwH H a v)∧
 ∀(l:Addr) (zs:List (Addr×Vw)),H l=none→(zs.map (·.2)).Nodup→(∀ v,v∈zs.map (·.2)↔v∈vs)→(∀ z∈zs,∃j:Nat,ys[j]?=some (V.ref z.1)∧vs[j]?=some z.2)→Q (.ref l) (upd H l (.ext (SetV w l zs)))):=by
 subst hK;subst hw
 intro pins s σ H xs us Q I r h
 obtain ⟨p,ys,vs,rfl,hq,hl,h16,hat,k⟩:=h
 obtain ⟨u,rfl,r1⟩:=kd0 r
 cases (show u=bg1 p from r1)
 obtain ⟨its,rv,⟨op,n0,hop,hcl,_,hd⟩,hz⟩:=I.list hq
 have hL:s.heap.IsList p its.toArray:=⟨op,hop,hcl,n0,hd⟩
 have hil:its.length=vs.length:=by rw [← rv.length,hl]
 have at0: ∀(i:Nat) (v:Value),its[i]?=some v→∃a k,v= .ref a∧vs[i]?=some k∧VwH H a k∧ys[i]?=some (.ref a):=fun i v hv=>by
  have hi:i < its.length:=(bb1.mp hv).1
  have e1:vs[i]?=some vs[i]:=bb2 (by lia)
  obtain ⟨a,ha,hH⟩:=hat i _ e1
  obtain ⟨u,e2,r2⟩:=rv.get ha
  cases (show u=bg1 a from r2)
  rw [hv] at e2
  cases e2
  exact ⟨a,_,rfl,e1,hH,ha⟩
 let C:Heap→Prop:=fun h=>∀b o,s.heap.get? b=some o→h.get? b=some o
 have cv: ∀a k,VwH H a k→∀h,C h→VwA h a k:=fun a k v h c=>(kgt I.hok v).to fun b o q q_=>c b o q
 refine kpe (J:=JV X.w ys vs s.heap) (I.ok.hd hc) hL (fun h' e c=>⟨c,[],ksy e,bw2,by simp,(fun q_ z=>nomatch z),bb6 _⟩) (fun i h h' ⟨c,zs,S,r⟩ kp=>⟨fun b o e=>kp b o (fun z=>absurd (bd7 e) (by rw [z];exact cl0.mpr (bq0 _))) (c b o e),zs,S.to fun o e=>kp _ o (bf3 (bp1 _)) e,r⟩) (fun i v s' E Q hv ⟨c,zs,S,nd,mem,vz,le⟩ q=> ?_) fun h' tk ⟨c,zs,S,nd,mem,vz,le⟩ kp=> ?_
 · obtain ⟨a,kv,rfl,e1,va,ea⟩:=at0 i v (by simpa using hv)
   have vzH: ∀z∈zs,VwH H z.1 z.2:=fun z hz=>by
    obtain ⟨j,j1,j2⟩:=vz z hz
    obtain ⟨b,b1,b2⟩:=hat j _ j2
    rw [j1] at b1
    cases b1
    exact b2
   have hlt:i < vs.length:=(bb1.mp e1).1
   have tk1:vs.take (i + 1)=vs.take i++[kv]:=by rw [bv2,e1];rfl
   refine ksx (C:=C) (zs:=zs) (k:=kv) (by simp only [b27];lia) S (by lia) c (fun z hz=>cv _ _ (vzH z hz)) (cv a kv va) (fun hm tk=> ?_) fun hm h' tk sb S'=> ?_
   · refine q false s'.heap tk (cf3 _ _) ⟨c,zs,S,nd,fun v=> ?_,vz,by lia⟩
     rw [mem v,tk1,be9,bc2]
     constructor
     · exact .inl
     · rintro (z | rfl)
       · exact z
       · exact (mem _).mp hm
   · refine q true h' tk sb ⟨fun b o e=> ?_,(a,kv)::zs,S',bk5.mpr ⟨hm,nd⟩,fun v=> ?_,fun z hz=> ?_,by simp;lia⟩
     · rw [sb.2 b (bf3 (bd7 e))]
       exact c b o e
     · rw [bg5,bc7,mem v,tk1,be9,bc2,or_comm]
     · rcases bc7.mp hz with rfl | hz
       · exact ⟨i,ea,e1⟩
       · exact vz z hz
 · have hf:H s.heap.objs.size=none:=I.hok.fresh (bb6 _)
   refine ⟨.ref s.heap.objs.size,_,I.laid (a:=s.heap.objs.size) (o:= .ext (SetV X.w s.heap.objs.size zs)) (t':=tk) (fun b o e=>c b o e) (bb6 _) (show SetV X.w s.heap.objs.size zs h'∧_∧_ from ⟨S,S.obj,fun h1 h2 x y=>x.to y⟩),rfl,k _ zs hf nd (fun v=> ?_) vz⟩
   rw [mem v,bj5 (by simp;lia)]
end
end L2
set_option maxHeartbeats 4000000
namespace L2
open PySem PySem.Spec PySem.W PySem.Calls PyProof.Rows PySem.SetTable
noncomputable abbrev zv0:Addr×Vw:=(0,vw0)
section
variable {X:Cx}
theorem km7 (w:World) (hw:X.w=w) (hc:X.calm=true) (hu:X.A.units + 40 < cLine):CallR X (.builtin "sorted") (fun xs H Q=>∃(a:Addr) (zs:List (Addr×Vw)),xs=[.ref a]∧H a=some (.ext (SetV w a zs))∧zs.length≤16∧(∀ z∈zs,VwH H z.1 z.2)∧
 ∀(l:Addr) (ts:List (Addr×Vw)),H l=none→ts.Perm zs→ts.Pairwise (fun x y=>ltV y.2 x.2=false)→Q (.ref l) (upd H l (.lst (ts.map fun z=>V.ref z.1)))):=by
 subst hw
 intro pins s σ H xs us Q I r h
 obtain ⟨a,zs,rfl,ha,h16,hv,q⟩:=h
 obtain ⟨u,rfl,r1⟩:=kd0 r
 cases (show u=bg1 a from r1)
 obtain ⟨⟨R,⟨o,es,ep,t,h1,h2,h3,T,_,hm,hl5,hpl,hld⟩,pz⟩,_,_⟩:=(show ObjOk X.prog X.w H s.heap a (.ext (SetV X.w a zs)) from I.hok a _ ha)
 obtain ⟨m,hn,_⟩:=id I.loc
 have F0:Fr X.base X.env.locals s.heap m:=⟨hn,I.bk,bj2 I.ok.bsz I.ok.above⟩
 have S:SAt X.w s.heap a es ep t R:=by
  obtain ⟨c1,c2,c3,c4⟩:=o
  obtain ⟨x1,x2,x3⟩:=h2
  simp only at x1 x2 x3 h3
  subst x1;subst x2;subst x3;subst h3
  exact ⟨h1,T,by lia,hpl,hld⟩
 have hR:R.length=zs.length:=by have:=pz.length_eq;simpa using this
 have hes:es.size=zs.length:=by rw [T.size,hR]
 obtain ⟨ts0,tp,te⟩:=khi (f:=fun z:Addr×Vw=>(vwH z.2,bg1 z.1)) ((klv X.w a es ep).trans (by rw [T.e];exact pz)) zs rfl
 have tl:ts0.length=zs.length:=tp.length_eq
 have sl:zs.length≤sizeLine:=by rw [bq9];lia
 refine kdu_sorted (kxo (es:=es) (ep:=ep) (t:=t) (R:=R)) (I.ok.hd hc) F0 (kot (base:=X.base)) S (by rw [hes];exact sl) fun D h' tk vs F' N' hD hl' hvs=> ?_
 have hvs:vs=ts0.map fun z=>bg1 z.1:=by
  apply bs8
  · rw [hl',hes,ba3,tl]
  · intro i i1 i2
    obtain ⟨e,e1,e2⟩:=hvs i _ (bb2 i1)
    rw [e2,bp2]
    rw [← be5,te,be3,bb2 (by rw [ba3] at i2;exact i2)] at e1
    cases e1
    rfl
 have hil:vs.length=ts0.length:=by rw [hvs,ba3]
 have rv:Vals (ts0.map fun z=>V.ref z.1) vs:=by rw [hvs];exact ki2 (f:=fun z:Addr×Vw=>z.1) ts0
 have ol:h'.get? D=some (seqObj "list" vs.toArray 0):=(N' _ bc4).1
 have keep: ∀b o,s.heap.get? b=some o→b≠X.env.locals→(kxa h' D vs).get? b=some o:=fun b o e hb=>by
  have:h'.get? b=some o∧b≠D:=by
   cases q:X.base.get? b with
   | some o2=>
     have e2:=I.bk b o2 q
     rw [e] at e2
     cases e2
     exact ⟨F'.keep b o q,fun z=>by have:=(N' _ bc4).2.2;dsimp only at this;rw [← z,q] at this;cases this⟩
   | none=>
     have mm:=khd e hb q
     exact ⟨(N' _ (bb7 _ mm)).1,bf3 (hD _ mm)⟩
  unfold kxa
  refine bb0 _ (bb0 _ ?_)
  rw [b41 _ _ _ _ this.2]
  exact this.1
 have zin: ∀i,i < ts0.length→ts0.getD i zv0∈zs:=fun i hi=>by
  rw [show ts0.getD i zv0=ts0[i] by simp [hi]]
  exact tp.mem_iff.mp (be8 hi)
 have lo: ∀b xs,H b=some (.tup xs)→b≠X.env.locals:=fun b xs e z=>by rw [z,I.free] at e;cases e
 have vw1: ∀i,i < vs.length→∃a,vs.getD i bc9= .ref a∧VwA (kxa h' D vs) a ((ts0.map (·.2)).getD i vw0):=fun i hi=>by
  have hi':i < ts0.length:=by lia
  refine ⟨(ts0.getD i zv0).1,by rw [hvs];simp [hi'],?_⟩
  have hz:=hv _ (zin i hi')
  rw [show (ts0.map (·.2)).getD i vw0=(ts0.getD i zv0).2 by simp [hi']]
  obtain ⟨p,q,e1,e2,e3⟩:=id hz
  obtain ⟨tk0,p',q',us,os,t1,t2,t3,t4,t5⟩:=kgt I.hok hz
  have t6:=(klz I.hok e1)
  obtain ⟨ts,rr,t6⟩:=t6
  cases t1.inj t6
  have rr1:Vals [.int (ts0.getD i zv0).2.1,.ref p,.ref q] [.int (ts0.getD i zv0).2.1 tk0,.ref p',.ref q']:=rr
  cases rr1 with
  | cons r1 rr=>
    cases rr with
    | cons r2 rr=>
      cases rr with
      | cons r3 _=>
        cases (show bg1 p'=bg1 p from r2)
        cases (show bg1 q'=bg1 q from r3)
        exact ⟨tk0,p,q,us,os,t1.to fun o g q_=>keep _ _ g (lo _ _ e1),t2.to fun o g q_=>keep _ _ g (lo _ _ e2),t3,t4.to fun o g q_=>keep _ _ g (lo _ _ e3),t5⟩
 have zv:vs.length≤sizeLine:=by lia
 have fin: ∀π:List Nat,π.Perm (ba5 ts0.length)→UpV (ts0.map (·.2)) π→∃v H',Inv X pins σ H' {s with heap:=sortedHeap h' D vs (π.map fun i=>vs.getD i bc9).toArray,toks:=tk}∧RelV v (.ref D)∧Q v H':=fun π hp hs=>by
  obtain ⟨c,F2,N2⟩:=ko5 (out:=π.map fun i=>vs.getD i bc9) F' N' hD
  have pin: ∀i∈π,i < ts0.length:=fun i hi=>ba7.mp (hp.mem_iff.mp hi)
  have J:=I.newAt hn F2 N2 hD (khc rv π fun i hi=>by rw [ba3];exact pin i hi) (by rw [ba3,hp.length_eq,bg2];lia)
  have eq:(π.map fun i=>(ts0.map fun z=>V.ref z.1).getD i V.non)=(π.map fun i=>ts0.getD i zv0).map fun z=>V.ref z.1:=by
   rw [bc1]
   refine bi8 fun i hi=> ?_
   have:=pin i hi
   simp [this]
  rw [eq] at J
  refine ⟨.ref D,_,J.2.tok tk,rfl,q D _ J.1 ?_ ?_⟩
  · have:=hp.map fun i=>ts0.getD i zv0
    rw [kbu] at this
    exact this.trans tp
  · rw [bd0]
    intro i j hi hj hij
    rw [ba3] at hi hj
    have z:=hs i j (by lia) hj
    simp only [bp2]
    rw [show π.getD i 0=π[i] by simp [hi],show π.getD j 0=π[j] by simp [hj]] at z
    have p1:=pin _ (be8 hi)
    have p2:=pin _ (be8 hj)
    simpa [p1,p2] using z
 have hil2:vs.length=(ts0.map (·.2)).length:=by rw [ba3];exact hil
 by_cases h2:vs.length < 2
 · refine bj1 b10 ⟨_,ol,rfl⟩ by5 (kgn ol h2 ⟨_,rfl,?_⟩) (b11 _)
   have:=fin (ba5 ts0.length) (bj8 _) fun i j hij hj=>by
    rw [bg2] at hj
    have:i=j:=by lia
    rw [this]
    exact k1c.irr _
   rw [show (ba5 ts0.length).map (fun i=>vs.getD i bc9)=vs by rw [← hil];exact kbu vs bc9] at this
   exact this
 have h2:2≤vs.length:=by lia
 obtain ⟨key,hkey⟩:=kuw hil2 fun i j hi hj e=>by
  obtain ⟨a,e1,v1⟩:=vw1 i hi
  obtain ⟨b,e2,v2⟩:=vw1 j hj
  rw [e1,e2] at e
  cases e
  exact v1.inj v2
 refine bj1 b10 ⟨_,ol,rfl⟩ by5 (klk (κ:=tuples' true) (key:=key) (ok:=fun kd=>∃i,i < vs.length∧kd=(vs.getD i bc9,vs.getD i bc9)) ol h2 zv (fun R hR=>kpn (by lia) (fun v hv=> ?_) hR) (k1e (by simp only [b27];lia) hil2 vw1 hkey) (fun v hv=> ?_) fun out ho=>⟨_,rfl,?_⟩) (b11 _)
 · obtain ⟨i,hi,e⟩:=bg0 hv
   obtain ⟨a,e1,v1⟩:=vw1 i hi
   exact ⟨a,_,by rw [← e1];simp [hi,e],v1⟩
 · obtain ⟨i,hi,e⟩:=bg0 hv
   exact ⟨i,hi,by rw [show vs.getD i bc9=v by simp [hi,e]]⟩
 · obtain ⟨l,lp,lu,rfl⟩:=ho
   obtain ⟨π,p1,p2,p3⟩:=kux hil2 hkey lp lu
   rw [p3]
   exact fin π (by rw [ba3] at p1;exact p1) p2
end
end L2
namespace L2
open PySem PySem.Spec PyProof.Rows
section
variable {prog:bb8} {w:World} {A:bf8} {E:Value→ba4→Prop} {s:ba4} {a b:Addr} {its:List Value}
def HsN (prog:bb8) (w:World) (A:bf8) (hp:Heap) (v:Value) (h:Int×Nat):Prop:=∀(s:ba4) (E:Value→ba4→Prop) (Q:Int→ba4→Prop),s.heap=hp→Q h.1 {s with toks:=s.toks + h.2}→wpAny (model prog w) A (pyHash v) Q E s
theorem kl0 (hu:A.units < cLine) (x:TpA s.heap a its) {hs:List (Int×Nat)} (hq:Paired (HsN prog w A.in1 s.heap) its hs)
 {Q:Int→ba4→Prop} (q:Q (reduceHash (bh6 (hs.map (·.1)))) {s with toks:=s.toks + ((hs.map (·.2)).sum + 1)}):wpAny (model prog w) A (pyHash (.ref a)) Q E s:=by
 have ty:=x.ty
 obtain ⟨o,n,ho,_,hd⟩:=x
 unfold pyHash pyHashByItsType
 refine ba2 (cf8 (.inr hu) (ba2 (bm7 ty bm6.lookup ?_)))
 show wpAny _ _ (if (some (cm0 "tuple.__hash__") == some bc9)=true then _ else _) Q E s
 refine kbl (fun z=>absurd z (by rw [ci1];decide)) fun q_=>ba2 (bm7 ty bm6.lookup ?_)
 show wpAny _ _ (callSpecialIfBoundUnlessNone? (.ref a) "__hash__" _ >>= _) Q E s
 refine ba2 (bt9 ty bm6 (bj1 bm6 ty ce1 ?_ (cc6 _)))
 show wpAny _ _ (bv5 (.ref a) >>= _) _ _ s
 refine ba2 (bz6 ho hd (ba2 ?_))
 rw [← bt8]
 refine bq6 _ (fun kdc (b:Array Int) s'=>∃done left,done++left=hs∧b.toList=done.map (·.1)∧s'={s with toks:=s.toks + (done.map (·.2)).sum}∧Paired (HsN prog w A.in1 s.heap) kdc left) _ ?_ ?_ _ _ ⟨[],hs,rfl,rfl,rfl,by simpa using hq⟩
 · rintro v kdc b s' ⟨done,left,e1,e2,rfl,pl⟩
   cases pl with
   | @cons _ h _ left p1 p2=>
     refine ba2 (p1 _ _ _ rfl ?_)
     exact bb4 ⟨done++[h],left,by simpa using e1,by simp [e2],by simp [bv4],p2⟩
 · rintro b s' ⟨done,left,e1,e2,rfl,pl⟩
   cases pl
   rw [be4] at e1
   subst e1
   show wpAny _ _ (retInt (bh6 b.toList)) _ _ _
   rw [e2]
   refine ca9 ?_
   show wpAny _ _ (if (decide (-(2:Int) ^ 63≤bh6 (done.map (·.1))) && decide (bh6 (done.map (·.1)) < 2 ^ 63))=true then _ else _) Q E _
   unfold reduceHash at q
   refine kbl (fun z=> ?_) fun z=> ?_
   · rw [if_pos z] at q
     exact bb4 (by simpa [bv4] using q)
   · rw [if_neg z] at q
     exact ba2 (cf5 (bb4 (by simpa [bv4] using q)))
theorem ki9 (hu:A.units < cLine) {hp:Heap} {x:List Int} (t:TpA hp a its) (ix:IntsAre its x):HsN prog w A hp (.ref a) (kuc x,x.length + 1):=fun s E Q e q=>by
 subst e
 have:Paired (HsN prog w A.in1 s.heap) its (x.map fun n=>(hashInt n,1)):=by
  clear q t
  induction ix with
  | nil=>exact .nil
  | cons n tk r ih=>exact .cons (fun s' E Q q_ q=>bw3 q) ih
 refine kl0 hu t this ?_
 have e1:(x.map fun n=>(hashInt n,1)).map (·.1)=x.map hashInt:=by rw [bc1];rfl
 have e2:((x.map fun n=>(hashInt n,1)).map (·.2)).sum=x.length:=by
  rw [bc1]
  clear q this ix e1
  induction x with
  | nil=>rfl
  | cons n x ih=>simp at ih ⊢;lia
 rw [e1,e2]
 exact q
noncomputable def kpp (k:Vw):Nat:=1 + ((k.2.1.length + 1) + (k.2.2.length + 1)) + 1
theorem ksz (hu:A.units + 1 < cLine) {x:Vw} (v:VwA s.heap a x) {Q:Int→ba4→Prop} (q:Q (vwH x) {s with toks:=s.toks + kpp x}):wpAny (model prog w) A (pyHash (.ref a)) Q E s:=by
 obtain ⟨tk,p,r,us,os,h1,h2,h3,h4,h5⟩:=v
 refine kl0 (by lia) h1 (hs:=[(hashInt x.1,1),(kuc x.2.1,x.2.1.length + 1),(kuc x.2.2,x.2.2.length + 1)]) (.cons (fun s' E Q q_ q=>bw3 q) (.cons (ki9 (A:=A.in1) hu h2 h3) (.cons (ki9 (A:=A.in1) hu h4 h5) .nil))) ?_
 exact q
theorem ks0 {x:Vw} (v:VwA s.heap a x) {Q:Bool→ba4→Prop} (q:Q true s):wpAny (model prog w) A (eqIsQuiet 8 (.ref a)) Q E s:=by
 obtain ⟨tk,p,r,us,os,h1,h2,h3,h4,h5⟩:=v
 refine kdw h1 7 (fun v hv E Q q=> ?_) q
 simp only [bc7,bm1,or_false] at hv
 rcases hv with rfl | rfl | rfl
 · exact bx2 (bs3 _ rfl) q
 · exact kdw h2 6 (fun v hv E Q q=>by obtain ⟨n,t,rfl⟩:=kdp h3 v hv;exact bx2 (bs3 _ rfl) q) q
 · exact kdw h4 6 (fun v hv E Q q=>by obtain ⟨n,t,rfl⟩:=kdp h5 v hv;exact bx2 (bs3 _ rfl) q) q
theorem TpA.sb {h h':Heap} {d:Addr} {o:Obj} {es:Array DictEntry} {ep:Nat} (t:TpA h a its) (ho:h.get? d=some o) (hd:o.data= .dict es ep) (sb:bn5 d h h'):TpA h' a its:=by
 obtain ⟨o',n,h1,h2,h3⟩:=t
 have:a≠d:=fun z=>by
  subst z
  rw [ho] at h1
  cases h1
  rw [hd] at h3
  cases h3
 exact ⟨o',n,(sb.2 a this).trans h1,h2,h3⟩
noncomputable def kja (prog:bb8) (w:World):HeapKind prog w Vw where
 is:=fun h k a=>VwA h a k
 hash:=vwH
 draws:=kpp
 room:=fun A=>A.units + 1 < cLine
 inj:=fun x y=>x.inj y
 keeps:=fun ⟨tk,p,q,us,os,h1,h2,h3,h4,h5⟩ ho hd sb=>⟨tk,p,q,us,os,h1.sb ho hd sb,h2.sb ho hd sb,h3,h4.sb ho hd sb,h5⟩
 pyHash:=fun hu x q=>ksz hu x q
 eqBool:=fun hu x y q=>k1a hu x y _ _ _ _ q
 quiet:=fun x q=>ks0 x q
end
end L2
set_option maxHeartbeats 4000000
namespace L2
open PySem PySem.Spec PyProof.Rows
theorem DicV.to {l:Addr} {zs:List ((Addr×Vw)×Int)} {h h':Heap} (x:DicV l zs h) (k: ∀o,h.get? l=some o→h'.get? l=some o):DicV l zs h':=by
 obtain ⟨e,o,es,ep,h1,r⟩:=x
 exact ⟨e,o,es,ep,k o h1,r⟩
theorem DicV.obj {l:Addr} {zs:List ((Addr×Vw)×Int)} {h:Heap} (x:DicV l zs h): ∃o,h.get? l=some o:=by
 obtain ⟨e,o,es,ep,h1,r⟩:=x
 exact ⟨o,h1⟩
abbrev VxR:List ((Addr×Vw)×Int)→List (Vw×Addr×Value)→Prop:=Paired fun z x=>x.1=z.1.2∧x.2.1=z.1.1∧∃t,x.2.2= .int z.2 t
theorem vx_of {prog:bb8} {w:World}: ∀{zs:List ((Addr×Vw)×Int)} {es:List DictEntry},Paired (fun (z:(Addr×Vw)×Int) (e:DictEntry)=>e.hash=vwH z.1.2∧e.key= .ref z.1.1∧∃t,e.val= .int z.2 t) zs es→∃xs,es=xs.map (entryOfKey (kja prog w))∧VxR zs xs:=by
 intro zs es r
 induction r with
 | nil=>exact ⟨[],rfl,.nil⟩
 | @cons z e zs es h t ih=>
   obtain ⟨xs,rfl,p⟩:=ih
   obtain ⟨h1,h2,tk,h3⟩:=h
   refine ⟨(z.1.2,z.1.1,e.val)::xs,?_,.cons ⟨rfl,rfl,tk,h3⟩ p⟩
   rw [bg5]
   congr 1
   obtain ⟨e1,e2,e3⟩:=e
   simp only at h1 h2
   subst h1;subst h2
   rfl
theorem vx_to {prog:bb8} {w:World}: ∀{zs:List ((Addr×Vw)×Int)} {xs:List (Vw×Addr×Value)},VxR zs xs→Paired (fun (z:(Addr×Vw)×Int) (e:DictEntry)=>e.hash=vwH z.1.2∧e.key= .ref z.1.1∧∃t,e.val= .int z.2 t) zs (xs.map (entryOfKey (kja prog w))):=by
 intro zs xs r
 induction r with
 | nil=>exact .nil
 | @cons z x zs xs h t ih=>
   obtain ⟨h1,h2,h3⟩:=h
   exact .cons ⟨by rw [← h1];rfl,by rw [← h2];rfl,h3⟩ ih
theorem VxR.snoc {b:Addr} {k:Vw} {n:Int} {r:Value} (rr: ∃t,r= .int n t): ∀{zs:List ((Addr×Vw)×Int)} {xs:List (Vw×Addr×Value)},VxR zs xs→VxR (zs++[((b,k),n)]) (xs++[(k,b,r)])
 | _,_,.nil=> .cons ⟨rfl,rfl,rr⟩ .nil
 | _,_,.cons q t=> .cons q (VxR.snoc rr t)
theorem VxR.keys: ∀{zs:List ((Addr×Vw)×Int)} {xs:List (Vw×Addr×Value)},VxR zs xs→xs.map (·.1)=zs.map (·.1.2):=by
 intro zs xs r
 induction r with
 | nil=>rfl
 | @cons z x zs xs h t ih=>rw [bg5,bg5,ih,h.1]
theorem VxR.find: ∀{zs:List ((Addr×Vw)×Int)} {xs:List (Vw×Addr×Value)},VxR zs xs→∀{k:Vw} {n:Int},(zs.map (·.1.2)).Nodup→(k,n)∈zs.map (fun z=>(z.1.2,z.2))→∃p,atKey xs k=some p∧∃t,p.2= .int n t:=by
 intro zs xs r
 induction r with
 | nil=>intro k n q_ h;cases h
 | @cons z x zs xs h t ih=>
   intro k n nd m
   rw [bg5] at m nd
   obtain ⟨n1,n2⟩:=bk5.mp nd
   obtain ⟨h1,h2,tk,h3⟩:=h
   rcases bc7.mp m with e | m
   · injection e with e1 e2
     refine ⟨x.2,?_,tk,by rw [h3,e2]⟩
     unfold atKey
     rw [List.find?_cons_of_pos (by simp [h1,e1])]
     rfl
   · have hk:x.1≠k:=fun e=>by
      obtain ⟨z',m1,m2⟩:=ba8.mp m
      injection m2 with m2 _
      exact n1 (by rw [← h1,e,← m2];exact bh2 (f:=fun z:(Addr×Vw)×Int=>z.1.2) m1)
     obtain ⟨p,hp,q⟩:=ih n2 m
     refine ⟨p,?_,q⟩
     unfold atKey at hp ⊢
     rw [List.find?_cons_of_neg (by simp [hk])]
     exact hp
section
variable {X:Cx} {pins:List (Addr×Obj)} {σ:St} {H:Hp} {s:ba4} {a b:Addr} {A:bf8} {E:Value→ba4→Prop} {zs:List ((Addr×Vw)×Int)} {k:Vw}
theorem k1f (I:Inv X pins σ H s) (e:H a=some (.ext (DicV a zs))) (hz: ∀z∈zs,VwH H z.1.1 z.1.2) (nd:(zs.map (·.1.2)).Nodup):(a == sysModules)=false∧∃xs,VxR zs xs∧s.heap.DictOfH (kja X.prog X.w) a xs:=by
 obtain ⟨⟨h0,o,es,ep,h1,h2,h3,r⟩,_,_⟩:=(show ObjOk X.prog X.w H s.heap a (.ext (DicV a zs)) from I.hok a _ e)
 obtain ⟨xs,e1,p⟩:=vx_of (prog:=X.prog) (w:=X.w) r
 refine ⟨h0,xs,p,o,es,ep,h1,h2,h3,e1,?_,by rw [p.keys];exact nd⟩
 intro x hx
 have: ∀{zs:List ((Addr×Vw)×Int)} {xs:List (Vw×Addr×Value)},VxR zs xs→(∀ z∈zs,VwH H z.1.1 z.1.2)→∀x∈xs,VwA s.heap x.2.1 x.1:=by
  intro zs xs r
  induction r with
  | nil=>intro q_ x hx;cases hx
  | @cons z y zs xs h t ih=>
    intro hz x hx
    rcases bc7.mp hx with rfl | hx
    · rw [h.1,h.2.1]
      exact kgt I.hok (hz z bc4)
    · exact ih (fun z m=>hz z (bb7 _ m)) x hx
 exact this p hz x hx
theorem kpq {n:Int} {Q:Value→ba4→Prop} (hu:A.units + 2 < cLine) (I:Inv X pins σ H s) (e:H a=some (.ext (DicV a zs))) (hz: ∀z∈zs,VwH H z.1.1 z.1.2) (nd:(zs.map (·.1.2)).Nodup) (vb:VwH H b k) (m:(k,n)∈zs.map (fun z=>(z.1.2,z.2)))
 (h: ∀t s',Inv X pins σ H s'→Q (.int n t) s'):wpAny (model X.prog X.w) A (getItem (.ref a) (.ref b)) Q E s:=by
 obtain ⟨h0,xs,p,dd⟩:=k1f I e hz nd
 obtain ⟨q,hq,t,ht⟩:=p.find nd m
 refine wpAny_getItem_heap (knd:=kja X.prog X.w) (show A.in1.units + 1 < cLine from by simp only [b27];lia) (kgt I.hok vb) dd hq ?_
 rw [ht]
 exact h t _ (I.tok _)
theorem kpr {n:Int} {r:Value} {Q:Unit→ba4→Prop} (hu:A.units + 2 < cLine) (I:Inv X pins σ H s) (e:H a=some (.ext (DicV a zs))) (hz: ∀z∈zs,VwH H z.1.1 z.1.2) (nd:(zs.map (·.1.2)).Nodup) (hl:zs.length≤1000) (vb:VwH H b k) (hn:k ∉ zs.map (·.1.2)) (rr: ∃t,r= .int n t)
 (h: ∀s',Inv X pins σ (upd H a (.ext (DicV a (zs++[((b,k),n)])))) s'→Q () s'):wpAny (model X.prog X.w) A (setItem (.ref a) (.ref b) r) Q E s:=by
 obtain ⟨h0,xs,p,dd⟩:=k1f I e hz nd
 have lx:xs.length=zs.length:=(Paired.length p).symm
 refine wpAny_setItem_heap (knd:=kja X.prog X.w) (hsz:=by rw [lx,bq9];lia) (show A.in1.units + 1 < cLine from by simp only [b27];lia) (kgt I.hok vb) dd fun h' dd' sb=>h _ ?_
 have hk:atKey xs k=none:=by
  unfold atKey
  rw [ce6.mpr fun x hx=> ?_]
  · rfl
  · intro z
    refine hn ?_
    rw [← p.keys,← of_decide_eq_true z]
    exact bh2 hx
 rw [storedH_new hk] at dd'
 obtain ⟨o,es,ep,g1,g2,g3,g4,_,_⟩:=dd'
 have new:DicV a (zs++[((b,k),n)]) h':=by
  refine ⟨h0,o,es,ep,g1,g2,g3,?_⟩
  rw [g4]
  exact vx_to (VxR.snoc rr p)
 exact kv0 I (by rw [e];exact b64) sb ⟨o,g1⟩ (show DicV a (zs++[((b,k),n)]) h'∧_∧_ from ⟨new,new.obj,fun h1 h2 x y=>x.to y⟩)
theorem v_len {Q:Value→ba4→Prop} (I:Inv X pins σ H s) (e:H a=some (.ext (DicV a zs))) (hl:zs.length≤1000) (h: ∀t s',Inv X pins σ H s'→Q (.int zs.length t) s'):wpAny (model X.prog X.w) A (call (.builtin "len") [.ref a]) Q E s:=by
 obtain ⟨⟨h0,o,es,ep,h1,h2,h3,r⟩,_,_⟩:=(show ObjOk X.prog X.w H s.heap a (.ext (DicV a zs)) from I.hok a _ e)
 have ty:s.TypeIs (.ref a) "dict":=⟨o,h1,h2.1⟩
 have hes:es.size=zs.length:=by rw [← bc0];exact (Paired.length r).symm
 refine br1 kind_len plain_len entry_len (args_len1 _) ?_
 unfold Builtin.«len»
 refine ba2 (m:=oneArg "len" _) (bb4 (ba2 (m:=callSpecial? (.ref a) (ca6 "__len__")) (bz5 (name:=ca6 "__len__") ty cb1 (bj1 cb1 ty PySem.F.entry_dict_len ?_ (PySem.F.args_dict_len_1 _)))))
 unfold Builtin.«dict.__len__» Builtin.Dict.dictSlotNone
 refine ba2 (ba2 (wpAny_notOrdered_dict ty (bb4 (a:=bg1 a) ?_)))
 refine ba2 (bb4 ?_)
 unfold dictSize Builtin.Dict.pendingCount
 refine ba2 (ba2 (wpAny_dictEntries h1 h3 (bb4 (ba2 (kbl (fun z=>absurd z (by rw [h0];decide)) fun q_=>bb4 ?_)))))
 rw [hes]
 refine ca9 ?_
 rw [show ((zs.length:Int) + ((0:Nat):Int))=zs.length by simp]
 refine ba2 (bl1 (bb4 (ba2 (wpAny_letGo ?_))))
 refine kbl (fun z=>absurd z (by lia)) fun q_=>kbl (fun z=>absurd z (by lia)) fun q_=> ?_
 exact ba2 (wpAny_mkInt (bb4 ⟨_,rfl,h _ _ (I.tok _)⟩))
end
noncomputable def vwD (k:Vw):ba9:= .tuple [.int k.1,.tuple (k.2.1.map ba1),.tuple (k.2.2.map ba1)]
theorem kj8 {K:ba0} {R:Hp}: ∀{x:List Int} {zs:List V},RpAll K R zs (x.map ba1)→zs=x.map V.int
 | [],_,r=>by cases r;rfl
 | n::x,_,r=>by
   rw [bg5] at r
   cases r with
   | cons h t=>rw [h.int_inv,kj8 t];rfl
theorem km8 {K:ba0} {R:Hp} {v:V} {k:Vw} (r:Rp K R v (vwD k)): ∃a,v= .ref a∧VwH R a k:=by
 obtain ⟨a,zs,rfl,ha,rz⟩:=r.tup_inv
 cases rz with
 | cons z1 rz=>
   cases rz with
   | cons z2 rz=>
     cases rz with
     | cons z3 rz=>
       cases rz
       obtain ⟨p,us,rfl,hp,ru⟩:=z2.tup_inv
       obtain ⟨q,os,rfl,hq,ro⟩:=z3.tup_inv
       rw [z1.int_inv] at ha
       rw [kj8 ru] at hp
       rw [kj8 ro] at hq
       exact ⟨a,rfl,p,q,ha,hp,hq⟩
def k1g:TE:=fun q_ H Q=>∀p,H p=none→Q (.ref p) (upd H p (.ext (DicV p [])))
theorem ks1 {X:Cx} {pos:Pos}:PE X (.Dict [] [] pos) k1g:=fun pins s σ H Q I h=>by
 have hb:(s.heap.objs.size == sysModules)=false:=beq_eq_false_iff_ne.mpr (bz8 (bf3 I.big))
 have new:DicV s.heap.objs.size [] (s.heap.push {cls:= .type "dict",data:= .dict #[]}):=⟨hb,_,#[],0,bd8 _ rfl,⟨rfl,rfl,rfl⟩,rfl,.nil⟩
 exact wpAny_Dict_empty ⟨.ref s.heap.objs.size,_,I.laid (a:=s.heap.objs.size) (o:= .ext (DicV s.heap.objs.size [])) (t':=s.toks) (fun q_ q_ q=>bb0 _ q) (bb6 _) (show DicV _ [] _∧_∧_ from ⟨new,new.obj,fun h1 h2 x y=>x.to y⟩),rfl,h _ (I.hok.fresh (bb6 _))⟩
section
variable {He:Hp} {K:ba0} {ι:Type} {Y:ι→Cx} {e a b c:Expr} {es:List Expr} {pos:Pos}
theorem Fra.dvAt {H0 R H:Hp} {σ:St} {env:List Dt} {i:Nat} {kvs:List (Vw×Int)} (F:Fra He K H0 R H σ env) (h:env[i]?=some (.dv kvs)): ∃a zs,σ[i]?=some (some (.ref a))∧H a=some (.ext (DicV a zs))∧R a=none∧H0 a=none∧DvR R zs kvs:=by
 obtain ⟨v,hs,a,zs,rfl,h2,h3,h4,h5⟩:=F.get h (by intro z;cases z)
 exact ⟨a,zs,hs,h2,h3,h4,h5⟩
def kxr (i:Nat):Ds:=fun D env=>D.nx (env.set i (.dv []))
theorem kxs (i:Nat) {x:Str} {p2 p3:Pos} (hN: ∀j,(Y j).N.Nodup) (hi:autoParam (∀ j,(Y j).N[i]?=some x) u3._auto_1) (hx:autoParam (∀ j,Loc (Y j).env.scope x) u12._auto_1)
 (hs:autoParam (∀ j,bs9 (.Dict [] [] p3) (some (.Name x p2)) pos.line (Y j).env=pure false) u3._auto_1) (hf:autoParam (∀ j,(Y j).fn x=true∨(Y j).env.scope.names.lookup x=some .local) u13._auto_1):
 DS He K Y (.Assign [.Name x p2] (.Dict [] [] p3) pos) (kxr i):=
 ⟨_,fun j=>ka9 (hN j) (hi j) (hx j) ks1 (hs j) (hf j),fun D E F s c p q hn=>c.nx _ _ _ _ p s (F.setN (Ext.newO (o:= .ext (DicV q [])) F.wd hn trivial) i hn ⟨q,[],rfl,kaf,F.wd.rh.free hn,F.ext.hh.free hn,rfl,fun q_ z=>nomatch z⟩)⟩
def sVPut (td ty tv:TE):TS:=fun D σ H=>tv σ H fun v H1=>td σ H1 fun x H2=>ty σ H2 fun y H3=>∃(a b:Addr) (zs:List ((Addr×Vw)×Int)) (k:Vw) (n:Int),x= .ref a∧y= .ref b∧v= .int n∧H3 a=some (.ext (DicV a zs))∧(∀ z∈zs,VwH H3 z.1.1 z.1.2)∧(zs.map (·.1.2)).Nodup∧zs.length≤1000∧VwH H3 b k∧k ∉ zs.map (·.1.2)∧D.nx σ (upd H3 a (.ext (DicV a (zs++[((b,k),n)]))))
theorem kxt {X:Cx} {o i value:Expr} {pos':Pos} {td ty tv:TE} (hu:X.A.units + 2 < cLine) (ho:PE X o td) (hi:PE X i ty) (hv:PE X value tv) (hs:bs9 value (some (.Subscript o i pos')) pos.line X.env=pure false):PS X (.Assign [.Subscript o i pos'] value pos) (sVPut td ty tv):=by
 intro pins s σ H D I h
 refine wpAny_Assign_Subscript (thn (hv pins s σ H _ I h) fun r s1 ⟨v,H1,I1,rv,q1⟩=>thn (ho pins s1 σ H1 _ I1 q1) fun u s2 ⟨x,H2,I2,rx,q2⟩=>thn (hi pins s2 σ H2 _ I2 q2) fun iv s3 ⟨y,H3,I3,ry,a,b,zs,k,n,ex,ey,ev,g1,g2,g3,g4,g5,g6,q3⟩=> ?_) hs
 subst ex;subst ey;subst ev
 obtain rfl:u=bg1 a:=rx
 obtain rfl:iv=bg1 b:=ry
 exact kpr hu I3 g1 g2 g3 g4 g5 g6 rv fun s4 I4=>⟨σ,_,I4,q3⟩
theorem DvR.keys {R:Hp} {zs:List ((Addr×Vw)×Int)} {kvs:List (Vw×Int)} (h:DvR R zs kvs):zs.map (·.1.2)=kvs.map (·.1):=by rw [h.1,bc1];rfl
def kxu (i:Nat) (ta tb:De):Ds:=fun D env=>tb env fun v=>∃kvs n,env[i]?=some (.dv kvs)∧v= .int n∧kvs.length≤1000∧(kvs.map (·.1)).Nodup∧ta env fun y=>∃k,y=vwD k∧k ∉ kvs.map (·.1)∧D.nx (env.set i (.dv (kvs++[(k,n)])))
theorem kxv (i:Nat) {x:Str} {p2 p3:Pos} {ta tb:De} (hu: ∀j,(Y j).A.units + 2 < cLine) (ha:DE He K Y a ta) (hb:DE He K Y b tb) (hv:autoParam (∀ j,PE (Y j) (.Name x p2) (kh5 i)) u8._auto_1)
 (hs:autoParam (∀ j,bs9 b (some (.Subscript (.Name x p2) a p3)) pos.line (Y j).env=pure false) u3._auto_1):
 DS He K Y (.Assign [.Subscript (.Name x p2) a p3] b pos) (kxu i ta tb):=by
 obtain ⟨t1,a1,a2⟩:=ha
 obtain ⟨t2,b1,b2⟩:=hb
 refine ⟨_,fun j=>kxt (hu j) (hv j) (a1 j) (b1 j) (hs j),fun D E F s c p=> ?_⟩
 refine b2 _ _ F p fun d v R1 H1 ⟨kvs,n,hx,hn,hl,nd,p1⟩ e1 r1=> ?_
 subst hn
 obtain ⟨q,zs,h1,h2,h3,h4,h5⟩:=(F.next e1).dvAt hx
 refine ⟨_,h1,a2 _ _ (F.next e1) p1 fun d2 v2 R2 H2 ⟨k,hk,nk,p2⟩ e2 r2=> ?_⟩
 subst hk
 obtain ⟨pp,rfl,hpp⟩:=km8 r2
 have F2:=(F.next e1).next e2
 have l2:=e2.hh q _ h2
 have h5':=h5.same e2.rr
 refine ⟨q,pp,zs,k,n,rfl,rfl,r1.int_inv,l2,fun z hz=>(h5'.2 z hz).same F2.wd.rh,by rw [h5.keys];exact nd,by rw [h5.1,ba3] at hl;exact hl,hpp.same F2.wd.rh,by rw [h5.keys];exact nk,?_⟩
 refine c.nx _ _ _ _ p2 (s.trans (e1.trans e2).rr) (F2.mut hx rfl h1 trivial ⟨q,_,rfl,kaf,e2.nn _ _ h2 h3,h4,by rw [h5.1];simp,fun z hz=> ?_⟩)
 rcases be9.mp hz with hz | hz
 · exact h5'.2 z hz
 · rw [bc2.mp hz]
   exact hpp
def tVGet (td ty:TE):TE:=fun σ H Q=>td σ H fun x H1=>ty σ H1 fun y H2=>∃(a b:Addr) (zs:List ((Addr×Vw)×Int)) (k:Vw) (n:Int),x= .ref a∧y= .ref b∧H2 a=some (.ext (DicV a zs))∧(∀ z∈zs,VwH H2 z.1.1 z.1.2)∧(zs.map (·.1.2)).Nodup∧VwH H2 b k∧(k,n)∈zs.map (fun z=>(z.1.2,z.2))∧Q (.int n) H2
theorem dv_ty {X:Cx} {pins:List (Addr×Obj)} {σ:St} {H:Hp} {s:ba4} {a:Addr} {zs:List ((Addr×Vw)×Int)} (I:Inv X pins σ H s) (e:H a=some (.ext (DicV a zs))):s.TypeIs (.ref a) "dict":=by
 obtain ⟨⟨h0,o,es,ep,h1,h2,_⟩,_,_⟩:=(show ObjOk X.prog X.w H s.heap a (.ext (DicV a zs)) from I.hok a _ e)
 exact ⟨o,h1,h2.1⟩
theorem kxw {X:Cx} {o i:Expr} {td ty:TE} (hu:X.A.units + 2 < cLine) (ho:PE X o td) (hi:PE X i ty) (hs:NoSl i):PE X (.Subscript o i pos) (tVGet td ty):=by
 intro pins s σ H Q I h
 refine kv1 PySem.F.slot_dict_getitem.lookup hs (thn (ho pins s σ H _ I h) fun u s1 ⟨x,H1,I1,rx,q1⟩=>thn (hi pins s1 σ H1 _ I1 q1) fun iv s2 ⟨y,H2,I2,ry,a,b,zs,k,n,ex,ey,g1,g2,g3,g4,g5,q2⟩=> ?_)
 subst ex;subst ey
 obtain rfl:u=bg1 a:=rx
 obtain rfl:iv=bg1 b:=ry
 exact ⟨dv_ty I2 g1,kpq hu I2 g1 g2 g3 g4 g5 fun t s3 I3=>⟨.int n,H2,I3,⟨t,rfl⟩,q2⟩⟩
def kxx (i:Nat) (ta:De):De:=fun env P=>∃kvs,env[i]?=some (.dv kvs)∧(kvs.map (·.1)).Nodup∧ta env fun y=>∃k n,y=vwD k∧(k,n)∈kvs∧P (.int n)
theorem kps (i:Nat) {x:Str} {p2:Pos} {ta:De} (hu: ∀j,(Y j).A.units + 2 < cLine) (ha:DE He K Y a ta) (hv:autoParam (∀ j,PE (Y j) (.Name x p2) (kh5 i)) u8._auto_1)
 (hs:autoParam (NoSl a) u10._auto_1):DE He K Y (.Subscript (.Name x p2) a pos) (kxx i ta):=by
 obtain ⟨t1,a1,a2⟩:=ha
 refine ⟨_,fun j=>kxw (hu j) (hv j) (a1 j) hs,fun P Q F p k=> ?_⟩
 obtain ⟨kvs,hx,nd,p⟩:=p
 obtain ⟨q,zs,h1,h2,h3,h4,h5⟩:=F.dvAt hx
 refine ⟨_,h1,a2 _ _ F p fun d v R1 H1 ⟨kk,n,hk,hm,p1⟩ e1 r1=> ?_⟩
 subst hk
 obtain ⟨pp,rfl,hpp⟩:=km8 r1
 have h5':=h5.same e1.rr
 have F1:=F.next e1
 exact ⟨q,pp,zs,kk,n,rfl,rfl,e1.hh _ _ h2,fun z hz=>(h5'.2 z hz).same F1.wd.rh,by rw [h5.keys];exact nd,hpp.same F1.wd.rh,by rw [← h5.1];exact hm,k _ _ R1 H1 p1 e1 (.int _)⟩
theorem kpt {X:Cx}:CallR X (.builtin "len") (fun xs H Q=>∃(a:Addr) (zs:List ((Addr×Vw)×Int)),xs=[V.ref a]∧H a=some (.ext (DicV a zs))∧zs.length≤1000∧Q (.int zs.length) H):=by
 intro pins s σ H xs us Q I r h
 obtain ⟨a,zs,rfl,ha,hl,q⟩:=h
 obtain ⟨u,rfl,ru⟩:=kd0 r
 cases ru
 exact v_len I ha hl fun t s' I'=>⟨.int zs.length,H,I',⟨t,rfl⟩,q⟩
def kxy (i:Nat):De:=fun env P=>∃kvs,env[i]?=some (.dv kvs)∧kvs.length≤1000∧P (.int kvs.length)
theorem kpu (i:Nat) {x:Str} {p2 p:Pos} (hm: ∀j,(Y j).mg "len"=none) (hv:autoParam (∀ j,PE (Y j) (.Name x p2) (kh5 i)) u8._auto_1) (hg:autoParam (∀ j,Gl (Y j) "len") u3._auto_1)
 (hs:autoParam (∀ j,bd5 [.Name x p2] (Y j).env=[(false,eval (.Name x p2) (Y j).env)]) u3._auto_1):DE He K Y (.Call (.Name "len" p) [.Name x p2] [] pos) (kxy i):=by
 refine ⟨_,fun j=>kbe kpt (hg j) (hm j) boot_len (kad (hv j) kal (hs j)) (by decide) (by decide) (hs j) rfl,fun P Q F p k=> ?_⟩
 obtain ⟨kvs,hx,hl,p⟩:=p
 obtain ⟨q,zs,h1,h2,h3,h4,h5⟩:=F.dvAt hx
 have e:zs.length=kvs.length:=by rw [h5.1,ba3]
 refine ⟨_,h1,q,zs,rfl,h2,by rw [e];exact hl,?_⟩
 rw [e]
 exact k _ _ _ _ p (.refl F.wd) (.int _)
def kpv (t:Dq):Dq:=fun env P=>t env fun xs=>∃vs:List Vw,xs=vs.map vwD∧∀ws:List Vw,ws.Perm vs→ws.Pairwise (fun x y=>ltV y x=false)→P (ws.map vwD)
theorem kl1 {t:Dq} {p:Pos} (h:DL He K Y e t) (hm: ∀i,(Y i).mg "sorted"=none) (hu: ∀i,(Y i).A.units + 40 < cLine) (hg:autoParam (∀ i,Gl (Y i) "sorted") u3._auto_1) (hK:autoParam (∀ i,(Y i).K=K) u3._auto_1) (hs:autoParam (∀ i,bd5 [e] (Y i).env=[(false,eval e (Y i).env)]) u3._auto_1):
 DO He K Y (.Call (.Name "sorted" p) [e] [] pos) (kpv t):=by
 obtain ⟨te,h1,h2⟩:=h
 refine ⟨_,fun i=>kbe (km6 K (hK i) (hu i)) (hg i) (hm i) kdn (kad (h1 i) kal (hs i)) (by decide) (by decide) (hs i) rfl,fun P Q F p k=>h2 _ _ F p fun ds a ys R1 H1 pd e1 ha r1=> ?_⟩
 obtain ⟨vs,rfl,kk⟩:=pd
 have hl:ys.length=vs.length:=by rw [r1.len,ba3]
 refine ⟨a,ys,vs,rfl,SqL.of ha,hl,fun i v hv=> ?_,fun l π hn hp hs=> ?_⟩
 · obtain ⟨u,hu',ru⟩:=r1.get' (i:=i) (d:=vwD v) (by rw [be3,hv];rfl)
   obtain ⟨b,rfl,hb⟩:=km8 ru
   exact ⟨b,hu',hb.same e1.wd.rh⟩
 · have pin: ∀i∈π,i < vs.length:=fun i hi=>ba7.mp (hp.mem_iff.mp hi)
   have er:(π.map fun i=>(vs.map vwD).getD i bm9)=(π.map fun i=>vs.getD i vw0).map vwD:=by
    rw [bc1]
    refine bi8 fun i hi=> ?_
    have:=pin i hi
    simp [this]
   have ra:=kw5 r1 π fun i hi=>by rw [hl];exact pin i hi
   rw [er] at ra
   have hp2:(π.map fun i=>vs.getD i vw0).Perm vs:=by
    have:=hp.map fun i=>vs.getD i vw0
    rwa [kbu] at this
   have hpw:(π.map fun i=>vs.getD i vw0).Pairwise (fun x y=>ltV y x=false):=by
    rw [bd0]
    intro i j hi hj hij
    rw [ba3] at hi hj
    have z:=hs i j (by lia) hj
    simp only [bp2]
    rw [show π.getD i 0=π[i] by simp [hi],show π.getD j 0=π[j] by simp [hj]] at z
    exact z
   exact k _ l _ R1 _ (kk _ hp2 hpw) (e1.trans (Ext.newO e1.wd hn trivial)) (e1.hh.free hn) kaf (e1.wd.rh.free hn) ra
theorem k1h:bootBuiltins "set"=some (.type "set"):=by decide +kernel
def kpw (t:Dq):Dq:=fun env P=>t env fun xs=>∃vs:List Vw,xs=vs.map vwD∧vs.length≤16∧∀ws:List Vw,ws.Nodup→(∀ v,v∈ws↔v∈vs)→ws.Pairwise (fun x y=>ltV y x=false)→P (ws.map vwD)
theorem ks2 {t:Dq} {p p' pos':Pos} (w:World) (h:DL He K Y e t) (hm: ∀i,(Y i).mg "sorted"=none) (hm2: ∀i,(Y i).mg "set"=none) (hu: ∀i,(Y i).A.units + 40 < cLine) (hw:autoParam (∀ i,(Y i).w=w) u3._auto_1) (hc:autoParam (∀ i,(Y i).calm=true) u3._auto_1) (hg:autoParam (∀ i,Gl (Y i) "sorted") u3._auto_1) (hg2:autoParam (∀ i,Gl (Y i) "set") u3._auto_1) (hK:autoParam (∀ i,(Y i).K=K) u3._auto_1)
 (hs:autoParam (∀ i,bd5 [e] (Y i).env=[(false,eval e (Y i).env)]) u3._auto_1) (hs2:autoParam (∀ i,bd5 [.Call (.Name "set" p') [e] [] pos'] (Y i).env=[(false,eval (.Call (.Name "set" p') [e] [] pos') (Y i).env)]) u3._auto_1):
 DO He K Y (.Call (.Name "sorted" p) [.Call (.Name "set" p') [e] [] pos'] [] pos) (kpw t):=by
 obtain ⟨te,h1,h2⟩:=h
 refine ⟨_,fun i=>kbe (km7 w (hw i) (hc i) (hu i)) (hg i) (hm i) kdn (kad (kbw (kpo K w (hw i) (hK i) (hc i) (hu i)) (hg2 i) (hm2 i) k1h (kad (h1 i) kal (hs i)) (by decide) (by decide) (hs i) rfl) kal (hs2 i)) (by decide) (by decide) (hs2 i) rfl,fun P Q F p k=>h2 _ _ F p fun ds a ys R1 H1 pd e1 ha r1=> ?_⟩
 obtain ⟨vs,rfl,h16,kk⟩:=pd
 have hl:ys.length=vs.length:=by rw [r1.len,ba3]
 have at1: ∀(i:Nat) (v:Vw),vs[i]?=some v→∃b,ys[i]?=some (.ref b)∧Rp K R1 (.ref b) (vwD v):=fun i v hv=>by
  obtain ⟨u,hu',ru⟩:=r1.get' (i:=i) (d:=vwD v) (by rw [be3,hv];rfl)
  obtain ⟨b,rfl,hb⟩:=km8 ru
  exact ⟨b,hu',ru⟩
 refine ⟨a,ys,vs,rfl,SqL.of ha,hl,h16,fun i v hv=> ?_,fun l zs hn nd mem hz=> ?_⟩
 · obtain ⟨b,b1,b2⟩:=at1 i v hv
   obtain ⟨b',e',hb⟩:=km8 b2
   cases e'
   exact ⟨b,b1,hb.same e1.wd.rh⟩
 have rz: ∀z∈zs,Rp K R1 (.ref z.1) (vwD z.2):=fun z m=>by
  obtain ⟨j,j1,j2⟩:=hz z m
  obtain ⟨b,b1,b2⟩:=at1 j _ j2
  rw [j1] at b1
  cases b1
  exact b2
 have ex1:=Ext.newO (o:= .ext (SetV w l zs)) e1.wd hn trivial
 have le:zs.length≤16:=by
  have:=nd.length_le_of_subset (fun v hv=>(mem v).mp hv)
  rw [ba3] at this
  lia
 refine ⟨l,zs,rfl,kaf,le,fun z m=> ?_,fun l2 ts hn2 tp pw=> ?_⟩
 · obtain ⟨b',e',hb⟩:=km8 (rz z m)
   cases e'
   exact (hb.same e1.wd.rh).same ex1.hh
 have ra:RpAll K R1 (ts.map fun z=>V.ref z.1) ((ts.map (·.2)).map vwD):=by
  have: ∀{us:List (Addr×Vw)},(∀ z∈us,Rp K R1 (.ref z.1) (vwD z.2))→RpAll K R1 (us.map fun z=>V.ref z.1) ((us.map (·.2)).map vwD):=by
   intro us
   induction us with
   | nil=>intro q_;exact .nil
   | cons z us ih=>intro h;exact .cons (h z bc4) (ih fun z m=>h z (bb7 _ m))
  exact this fun z m=>rz z (tp.mem_iff.mp m)
 have tn:(ts.map (·.2)).Perm (zs.map (·.2)):=tp.map _
 refine k _ l2 _ R1 _ (kk (ts.map (·.2)) (tn.nodup_iff.mpr nd) (fun v=>by rw [tn.mem_iff];exact mem v) (bk7.mpr pw)) (e1.trans (ex1.trans (Ext.newO ex1.wd hn2 trivial))) (e1.hh.free (ex1.hh.free hn2)) kaf (ex1.wd.rh.free hn2) ra
end
section
variable {X:Cx}
theorem ks3 (K:ba0) (hK:X.K=K):MtR X "list.count" (fun x xs H Q=>∃(p:Addr) (ns:List Int) (k:Int),x= .ref p∧xs=[.int k]∧SqL K H p (ns.map V.int)∧Q (.int (ns.count k:Nat)) H):=by
 subst hK
 intro pins s σ H x xs v us Q I rx rs h
 obtain ⟨p,ns,k,rfl,rfl,hq,q⟩:=h
 cases rx
 obtain ⟨u,rfl,t,rfl⟩:=Vals.one rs
 obtain ⟨its,rv,pl,hz⟩:=I.list hq
 exact count_list_ints pl.isList (kgl rv) ⟨.int _,H,I.tok _,⟨_,rfl⟩,q⟩
end
section
variable {He:Hp} {K:ba0} {ι:Type} {Y:ι→Cx} {e a b:Expr} {pos:Pos}
def kpx (t:Dq) (u:De):De:=fun env P=>t env fun l=>u env fun d=>∃(ns:List Int) (k:Int),l=ns.map ba1∧d= .int k∧P (.int (ns.count k:Nat))
theorem ks4 {t:Dq} {u:De} {apos cpos:Pos} (ho:DL He K Y a t) (h:DB He K Y e u) (hK:autoParam (∀ i,(Y i).K=K) u3._auto_1)
 (hbase:autoParam (∀ j,bs6 a "count" (Y j).env (eval a (Y j).env)=eval a (Y j).env) u3._auto_1)
 (hfew:autoParam (∀ j,((backTo cpos (bd5 [e] (Y j).env)).all (fun x=> !x.1) && (b86 cpos (bx3 [] (Y j).env)).all (fun x=>x.1.isSome)
   && decide (([e]:List Expr).length + ([]:List Keyword).length + (if ([]:List Keyword).isEmpty then 0 else 1) < 30))=true) u3._auto_1)
 (hline:autoParam ((apos.endLine == cpos.line)=true) u4._auto_1) (hs:autoParam (∀ j,bd5 [e] (Y j).env=(false,eval e (Y j).env)::bd5 [] (Y j).env) u3._auto_1) (hplain:autoParam (∀ j,(backTo cpos (bd5 [] (Y j).env)).any (·.1)=false) u3._auto_1):
 DE He K Y (.Call (.Attribute a "count" apos) [e] [] cpos) (kpx t u):=by
 obtain ⟨te,a1,a2⟩:=ho
 obtain ⟨te',b1,b2⟩:=h
 refine ⟨_,fun j=>kiz K (hK j) bh7 PySem.F.slot_list_count PySem.F.type_list_count (ks3 K (hK j)) (a1 j) (kad (b1 j) kal (hs j)) (hbase j) (hfew j) hline (hs j) (hplain j),fun P Q F p k=> ?_⟩
 refine a2 _ _ F p fun l x ys R1 H1 q1 e1 s1 r1=> ?_
 refine ⟨.inl ⟨rfl,_,SqL.of s1⟩,b2 _ _ (F.next e1) q1 fun d v R2 H2 ⟨ns,m,hl,hd,q2⟩ e2 r2=> ?_⟩
 subst hl hd
 have ev:=r2.int_inv
 subst ev
 have ey:=RpAll.ints_inv r1
 subst ey
 exact ⟨x,ns,m,rfl,rfl,SqL.of (e2.hh _ _ s1),k _ _ R2 H2 q2 (e1.trans e2) (.int _)⟩
end
noncomputable def Ite (a:Addr):It where
 go:=fun i H=>∃xs,SqB true H a xs∧i < xs.length
 yld:=fun i H v H'=>∃p x,v= .ref p∧H p=none∧H'=upd H p (.tup [.int (i:Nat),x])∧∀xs,SqB true H a xs→xs[i]?=some x
 stop:=fun i H=>∃xs,SqB true H a xs∧i=xs.length
theorem two {P:Addr→Prop} {a b:Addr} (h1:P a) (h2:P b): ∀x∈[a,b],P x
 | _,.head _=>h1
 | _,.tail _ (.head _)=>h2
theorem kpy {P:bb8} {w:World} {K:ba0} {elts:List Expr} {kk:Nat} {tpos:Pos} (a e it:Addr) (hei:e≠it):
 Turn P w K (.Tuple elts kk tpos) (Ite a) [e,it] e (fun i h=>(∃ old,IsEnum h e it i old)∧h.IsListIter it a i) where
 mem:= .head _
 obj:=fun i h ⟨⟨old,s1⟩,s2⟩=>two ⟨_,s1,fun q_ q=>nomatch q⟩ (by obtain ⟨o,e,c,d⟩:=s2;exact ⟨o,e,fun v z=>by rw [d] at z;cases z⟩)
 keep:=fun i h h' ⟨⟨old,s1⟩,s2⟩ k=>⟨⟨old,k e (.head _) _ s1⟩,s2.at fun o x=>k it (.tail _ (.head _)) o x⟩
 item:=by
  intro X hP hw hK hc i pins s σ H E I hf ⟨⟨old,s1⟩,s2⟩ hg
  subst hP hw hK
  obtain ⟨xs,q1,l1⟩:=hg
  obtain ⟨its,r1,p1,z1⟩:=I.itemsB q1
  have p1:s.heap.IsList a its.toArray:=p1
  have nf: ∀b∈[e,it],∀o,H b≠some o:=fun b hb o e=>by rw [(hf b hb).1] at e;cases e
  have e1:=r1.length
  have hi:i < its.length:=by lia
  have hx:its.toArray[i]?=some its[i]:=by simp [hi]
  refine wpAny_pyNext_enum_item s1 s2 p1 hx hei fun h' ho hit' hT hsz hk=> ?_
  refine ⟨_,rfl,wpAny_letOwnedTupleGo_enum (s:={s with heap:=h',toks:=s.toks + 1}) ho fun h2' w1 w2=> ?_⟩
  replace w2:bn5 e h' h2':=w2
  obtain ⟨oi,gi,_⟩:=id s2
  have lt: ∀b∈[e,it],b < s.heap.objs.size:=two (bd7 s1) (bd7 gi)
  obtain ⟨vx,hvx,rvx⟩: ∃vx,xs[i]?=some vx∧RelV vx its[i]:=by
   obtain ⟨u,hu,ru⟩:=r1.get (i:=i) (x:=xs[i]) (k0h l1)
   have:its[i]?=some its[i]:=bb2 hi
   rw [this] at hu;cases hu
   exact ⟨_,k0h l1,ru⟩
  have ze:s.heap.objs.size≠e:=b48 (lt e (.head _))
  have tup2:=w2.extBut _ _ ze hT
  refine ⟨.ref s.heap.objs.size,upd H s.heap.objs.size (.tup [.int (i:Nat),vx]),?_,rfl,⟨_,vx,rfl,I.hok.fresh (bb6 _),rfl,fun xs' h=> ?_⟩,⟨⟨_,by simpa using w1⟩,?_⟩,fun b hb=> ?_⟩
  · refine Inv.turnedL (s:=s) (h':=h2') (t':=s.toks + 1) (fp:=[e,it]) (its:=[.int (i:Nat) s.toks,its[i]]) I hf (fun b o hb x=> ?_) rfl (by show 2≤sizeLine;decide) (.cons ⟨_,rfl⟩ (.cons rvx .nil)) ⟨_,tup2,rfl,_,rfl⟩ ⟨_,tup2,rfl⟩ lt
    simp only [bc7,bm1,or_false,not_or] at hb
    exact w2.extBut _ _ hb.1 (hk b o hb.1 hb.2 x)
  · rw [h.inj q1];exact hvx
  · exact hit'.at fun o x=>w2.extBut _ _ hei.symm x
  · rw [kak (bf3 (lt b hb))];exact (hf b hb).1
 done:=by
  intro X hP hw hK hc i pins s σ H E I hf ⟨⟨old,s1⟩,s2⟩ hg
  subst hP hw hK
  obtain ⟨xs,q1,hi⟩:=hg
  obtain ⟨its,r1,p1,z1⟩:=I.itemsB q1
  have p1:s.heap.IsList a its.toArray:=p1
  have hh:X.A.in1.handled=none:=I.ok.hd hc
  have e1:=r1.length
  refine wpAny_pyNext_enum_end hh s1 s2 p1 (bo0 (by simp;lia)) fun h' hx=>⟨rfl,?_⟩
  refine Inv.turnedN (fp:=[e,it]) (t':=s.toks) I hf fun b o hb x=> ?_
  simp only [bc7,bm1,or_false,not_or] at hb
  exact hx b o hb.2 x
 self:=fun q_ q_ q_ q_ q_ st h=>by
  obtain ⟨⟨old,s1⟩,_⟩:=st
  exact cf9 s1 h
theorem kpz:bootBuiltins "enumerate"=some (.type "enumerate"):=by decide +kernel
section
variable {X:Cx} {elts:List Expr} {kk:Nat} {tpos:Pos}
def iEnum (ta:TA):TI:=fun σ H R=>ta σ H fun vs H2=>∃a xs,vs=[.ref a]∧SqB true H2 a xs∧(xs.length≤sizeLine→R (Ite a) H2)
theorem kxz {a:Expr} {ta:TA} {p pos:Pos} (hg:Gl X "enumerate") (hm:X.mg "enumerate"=none) (ha:PA X [a] ta) (hs:autoParam (bd5 [a] X.env=[(false,eval a X.env)]) u4._auto_1):
 PI X (.Tuple elts kk tpos) (.Call (.Name "enumerate" p) [a] [] pos) (iEnum ta):=by
 intro pins s σ H R I h
 refine Call_ (kfd I hg hm kpz (bk9 (thn (ha pos pins s σ H _ I h) fun us s1 ⟨vs,H1,I1,r1,q1⟩=> ?_) (by rw [hs];rfl) rfl))
 obtain ⟨b,xs,e,h1,q⟩:=q1
 subst e
 obtain ⟨u,rfl,ra⟩:=kd0 r1
 cases ra
 obtain ⟨its,r2,p2,z2⟩:=I1.itemsB h1
 refine call_enumerate_list p2 fun h' g1 g2 q_ kp=> ?_
 refine cf9 (s:={s1 with heap:=h'}) g1 ?_
 refine ⟨s1.heap.objs.size + 1,[s1.heap.objs.size + 1,s1.heap.objs.size],_,_,H1,rfl,I1.kept (t':=s1.toks) kp,kpy b (s1.heap.objs.size + 1) s1.heap.objs.size (b48 (bp1 _)),⟨⟨_,g1⟩,g2⟩,fun c hc=> ?_,q z2⟩
 have le:s1.heap.objs.size≤c:=by
  simp only [bc7,bm1,or_false] at hc
  rcases hc with rfl | rfl
  · exact bq0 _
  · exact bb6 _
 exact I1.fpOk le (I1.hok.fresh le)
end
noncomputable def kjb (xs:List ba9):List ba9:=xs.zipIdx.map fun p=> .tuple [.int (p.2:Nat),p.1]
theorem kcy (xs:List ba9):(kjb xs).length=xs.length:=by unfold kjb;rw [ba3,b53]
theorem ker {xs:List ba9} {i:Nat} {d:ba9} (h:(kjb xs)[i]?=some d): ∃x,xs[i]?=some x∧d= .tuple [.int (i:Nat),x]:=by
 unfold kjb at h
 rw [be3,List.getElem?_zipIdx] at h
 cases e:xs[i]? with
 | none=>rw [e] at h;cases h
 | some x=>rw [e] at h;simp at h;exact ⟨x,rfl,h.symm⟩
section
variable {He:Hp} {K:ba0} {ι:Type} {Y:ι→Cx} {a b:Expr} {pos:Pos} {elts:List Expr} {kk:Nat} {tpos:Pos}
theorem ks5 {R:Hp} {a1:Addr} {us:List V} {xs:List ba9} (h1:SqB true R a1 us) (r1:RpAll K R us xs):Yld K (Ite a1) R (kjb xs):=by
 have e1:=r1.len
 refine ⟨fun R1 H1 i s w hi=> ?_,fun R1 H1 i d x H2 s w hd y=> ?_,fun R1 H1 s w=> ?_⟩
 · rw [kcy] at hi
   exact ⟨us,(s.trans w.rh) _ _ h1,by lia⟩
 · obtain ⟨dx,hx,rfl⟩:=ker hd
   obtain ⟨p,vx,rfl,hp,rfl,g1⟩:=y
   have z1:=g1 us ((s.trans w.rh) _ _ h1)
   obtain ⟨d1,k1,q1⟩:=r1.get z1
   rw [hx] at k1;cases k1
   have e:=Ext.new (o:= .tup [.int (i:Nat),vx]) w hp
   exact ⟨_,e,.tup kaf (.cons (.int _) (.cons (Rp.same (s.trans e.rr) q1) .nil))⟩
 · exact ⟨us,(s.trans w.rh) _ _ h1,by rw [kcy];lia⟩
def kx0 (ta:De):Dq:=fun env P=>ta env fun x=>∃xs,x= .list xs∧P (kjb xs)
theorem khq {ta:De} {p:Pos} (ha:DE He K Y a ta) (hm: ∀i,(Y i).mg "enumerate"=none) (hg:autoParam (∀ i,Gl (Y i) "enumerate") u3._auto_1) (hs:autoParam (∀ i,bd5 [a] (Y i).env=[(false,eval a (Y i).env)]) u3._auto_1):
 DI He K Y (.Tuple elts kk tpos) (.Call (.Name "enumerate" p) [a] [] pos) (kx0 ta):=by
 obtain ⟨te,h1,h2⟩:=ha
 refine ⟨_,fun i=>kxz (hg i) (hm i) (kad (h1 i) kal (hs i)) (hs i),fun P Q F p k=>h2 _ _ F p fun d v R1 H1 ⟨xs,hc,pl⟩ e1 r1=> ?_⟩
 subst hc
 obtain ⟨a1,us,rfl,g1,w1⟩:=r1.lst_inv
 refine ⟨a1,us,rfl,e1.rh _ _ g1,fun hz=>k _ _ R1 H1 pl e1 ?_ (ks5 g1 w1)⟩
 rw [kcy,← w1.len];lia
end
section
variable {prog:bb8} {w:World} {A:bf8} {E:Value→ba4→Prop} {s:ba4}
end
section
variable {prog:bb8} {w:World} {A:bf8} {E:Value→ba4→Prop} {s:ba4} {z TI TO i1 i2 l1 l2 S:Addr} {xs ys:Array Value} {i:Nat}
end
section
variable {prog:bb8} {w:World} {A:bf8} {E:Value→ba4→Prop} {s:ba4} {z TI TO i1 i2 l1 l2 S:Addr} {xs ys:Array Value}
end
end L2
namespace L2
open PySem PySem.Spec PySem.W PySem.Calls PyProof.Rows
section
variable {prog:bb8} {w:World} {A:bf8} {E:Value→ba4→Prop} {s:ba4}
theorem kx1 {r:Addr} {u:Obj} {c:Nat} {its:List Value} {R:List Value→ba4→Prop} (hr:s.heap.get? r=some u) (uc:u.cls= .type "tuple") (ud:u.data= .seq its.toArray c) (hz:its.length≤sizeLine)
 (k: ∀h1:Heap,(∀ b o,s.heap.get? b=some o→h1.get? b=some o)→s.heap.objs.size≤h1.objs.size→R its {s with heap:=h1}):wpAny (model prog w) A (collect (.ref r)) R E s:=by
 unfold collect
 apply ba2;apply wpAny_runValue;apply bu5 F.entry_proto_collect;rw [br5 F.plain_proto_collect _]
 show wpAny _ A.in1 (newList [] >>= fun l=>again (.builtin "list.__iadd__" ⟨[l,.ref r],[]⟩)) _ _ s
 refine ba2 (br9 (bb4 ⟨b84 cg0 _,bu5 F.entry_list_iadd ?_⟩))
 rw [br5 cg0 _];show wpAny _ A.in1 (bn2 (.ref s.heap.objs.size) (.ref r) (.ref s.heap.objs.size)) _ _ _
 have o1:(s.heap.push {cls:= .type "list",data:= .seq ([]:List Value).toArray}).get? s.heap.objs.size=some {cls:= .type "list",data:= .seq #[] 0}:=bd8 _ rfl
 have o2:=bu1 (bl8 (· ++its.toArray)) o1 rfl
 have last:wpAny (model prog w) A (match bg1 s.heap.objs.size with
  | bg1 a=>do
    match (← load a).data with
     | Data.seq xs _=>pure xs.toList
     | _=>unsupported "internal:collect"
  | _=>unsupported "internal:collect") R E {s with heap:=(s.heap.push {cls:= .type "list",data:= .seq ([]:List Value).toArray}).update s.heap.objs.size (bl8 (· ++its.toArray))}:=by
  show wpAny _ A (load s.heap.objs.size >>= _) _ _ _
  refine ba2 (wpAny_load o2 (bb4 ?_))
  show R ((#[]:Array Value)++its.toArray).toList _
  rw [show ((#[]:Array Value)++its.toArray).toList=its by simp]
  refine k _ (fun b o hb=>(bt2 _ _ (b48 (bd7 hb))).trans (bb0 _ hb)) ?_
  rw [b90,cf4]
  exact bq0 _
 refine bp8 (wpAny_extend_seq (hsz:=by simpa using hz) (A:=A) (R:=fun r s'=>r= .ok (.ret (.ref s.heap.objs.size))∧s'={s with heap:=(s.heap.push {cls:= .type "list",data:= .seq ([]:List Value).toArray}).update s.heap.objs.size (bl8 (· ++its.toArray))})
  (s:={s with heap:=s.heap.push {cls:= .type "list",data:= .seq ([]:List Value).toArray}}) _ r _ 0 (.inr rfl) o1 (bb0 _ hr) uc ud ⟨rfl,rfl⟩) (fun fin s2 h=> ?_) (fun e s2 h=>absurd h.1 (by simp))
 cases fin with
 | done f=>
   obtain ⟨e,rfl⟩:=h
   cases e
   exact last
 | again c2=>exact ⟨h.1,bx4 h.2 fun q_ q_ z=>by obtain ⟨rfl,rfl⟩:=z;exact last⟩
theorem ks6 {r:Addr} {u:Obj} {c:Nat} {its:List Value} {ns:List Int} {R:Value→ba4→Prop} (hr:s.heap.get? r=some u) (uc:u.cls= .type "tuple") (ud:u.data= .seq its.toArray c) (hI:IntsAre its ns) (h64:its.length < 64)
 (k: ∀(h1:Heap) (out:Array Value) (ms:List Int),(∀ b o,s.heap.get? b=some o→h1.get? b=some o)→s.heap.objs.size≤h1.objs.size→IntsAre out.toList ms→ms.Perm ns→ms.Pairwise (· ≤ ·)→R (.ref h1.objs.size) {s with heap:=sortedHeap (h1.push (seqObj "list" its.toArray 0)) h1.objs.size its out}):
 wpAny (model prog w) A (call (.builtin "sorted") [.ref r]) R E s:=by
 have zz:its.length≤sizeLine:=by rw [bq9];lia
 apply br1 cj7 cg7 cg8
 · exact cg9 _
 unfold Builtin.«sorted»
 refine ba2 (m:=checkCount "sorted" 1 1 _) (bb4 (ba2 (kx1 hr uc ud zz fun h1 kp le=>ba2 (b32 ?_ zz))))
 have ol:(h1.push (seqObj "list" its.toArray 0)).get? h1.objs.size=some (seqObj "list" its.toArray 0):=bd8 _ rfl
 change wpAny _ _ _ _ _ {s with heap:=h1.push (seqObj "list" its.toArray 0)}
 exact ba2 (bl1 (bj1 b10 ⟨_,ol,rfl⟩ by5 (list_sort_tree ol hI h64 fun out ms a1 a2 a3=>⟨_,rfl,bb4 ⟨_,rfl,k h1 out ms kp le a1 a2 a3⟩⟩) (b11 _)))
end
section
variable {X:Cx}
theorem kj9 (K:ba0) (hK:X.K=K):CallR X (.builtin "sorted") (fun xs H Q=>∃(p:Addr) (ns:List Int),xs=[.ref p]∧SqT K H p (ns.map V.int)∧ns.length < 64∧∀(l:Addr) (ms:List Int),H l=none→ms.Perm ns→ms.Pairwise (· ≤ ·)→Q (.ref l) (upd H l (.lst (ms.map V.int)))):=by
 subst hK
 intro pins s σ H xs us Q I r h
 obtain ⟨p,ns,rfl,hq,h64,k⟩:=h
 obtain ⟨u,rfl,r1⟩:=kd0 r
 cases (show u=bg1 p from r1)
 obtain ⟨its,rv,⟨o,ho,hc,n,hd⟩,hz⟩:=I.tuple hq
 have hi:=khf rv
 refine ks6 ho hc hd hi (by rw [← rv.length,ba3];exact h64) fun h1 out ms kp le h3 h4 h5=> ?_
 have hlt: ∀b o,s.heap.get? b=some o→b < h1.objs.size:=fun b o e=>bd7 (kp b o e)
 obtain ⟨e,at_⟩:=sortedHeap_at (h:=h1.push (seqObj "list" its.toArray 0)) (a:=h1.objs.size) (vs:=its) (n:=0) (out:=out) (bd8 _ rfl)
 refine ⟨.ref h1.objs.size,upd H h1.objs.size (.lst (ms.map V.int)),?_,rfl,k _ ms (I.hok.fresh le) h4 h5⟩
 refine I.laid (t':=s.toks) (fun b o e=> ?_) le ⟨by rw [ba3,h4.length_eq,bq9];lia,out.toList,e,kf1 h3,by rw [b30];exact at_⟩
 have lt:=hlt b o e
 rw [sortedHeap_old (bf3 lt) (by rw [cf4];exact bj0 lt)]
 exact bb0 _ (kp b o e)
end
section
variable {He:Hp} {K:ba0} {ι:Type} {Y:ι→Cx} {e:Expr} {pos p:Pos}
theorem kp0 {t:Dq} (h:DQ He K Y e t) (hm: ∀i,(Y i).mg "sorted"=none) (hg:autoParam (∀ i,Gl (Y i) "sorted") u3._auto_1) (hK:autoParam (∀ i,(Y i).K=K) u3._auto_1) (hs:autoParam (∀ i,bd5 [e] (Y i).env=[(false,eval e (Y i).env)]) u3._auto_1):
 DO He K Y (.Call (.Name "sorted" p) [e] [] pos) (klm t):=by
 obtain ⟨te,h1,h2⟩:=h
 refine ⟨_,fun i=>kbe (CallR.or (kgq K (hK i)) (kj9 K (hK i))) (hg i) (hm i) kdn (kad (h1 i) kal (hs i)) (by decide) (by decide) (hs i) rfl,fun P Q F p k=>h2 _ _ F p fun ds a ys R1 H1 pd e1 ha r1=> ?_⟩
 obtain ⟨ns,rfl,h64,kk⟩:=pd
 have go: ∀(l:Addr) (ms:List Int),H1 l=none→ms.Perm ns→ms.Pairwise (· ≤ ·)→Q (.ref l) (upd H1 l (.lst (ms.map V.int))):=fun l ms hn hp hs=>k _ l _ R1 _ (kk _ hp hs) (e1.trans (Ext.newO e1.wd hn trivial)) (e1.hh.free hn) kaf (e1.wd.rh.free hn) (RpAll.ints ms)
 have ey:=r1.ints_inv
 subst ey
 rcases ha with ha | ha
 · exact .inl ⟨a,ns,rfl,ha,h64,go⟩
 · exact .inr ⟨a,ns,rfl,ha,h64,go⟩
end
end L2
namespace L2
open PySem PySem.Spec PyProof.Rows
section
variable {He:Hp} {K:ba0} {ι:Type} {Y:ι→Cx} {e:Expr} {pos:Pos}
end
section
variable {X:Cx} {pins:List (Addr×Obj)} {σ:St} {H H':Hp} {s:ba4} {h':Heap}
end
section
variable {X:Cx}
end
section
variable {He:Hp} {K:ba0} {ι:Type} {Y:ι→Cx} {a b:Expr} {p1 p2 pos pos2:Pos}
end
theorem kx2 (a b:Value):argsOk "tuple.index" ⟨[a,b],[]⟩:=by
 unfold argsOk;rw [signature?_of (id:="tuple.index") (n:=['x','e','d','n','i']) (o:=['e','l','p','u','t']) (by kernel_rfl) PySem.F.owner_tuple];kernel_rfl
section
variable {prog:bb8} {w:World} {A:bf8} {E:Value→ba4→Prop} {s:ba4}
theorem kl2 {F:Nat→Option b18×Unit→Sem (ForInStep (Option b18×Unit))} {m p:Nat} (hp:p < m)
 (h1: ∀(i:Nat) (r:Option b18×Unit) (Q:ForInStep (Option b18×Unit)→ba4→Prop),i < p→Q (.yield (none,())) s→wpAny (model prog w) A (F i r) Q E s)
 (h2: ∀(r:Option b18×Unit) (Q:ForInStep (Option b18×Unit)→ba4→Prop),Q (.done (some (.done (.ret (.int (p:Nat) s.toks))),())) {s with toks:=s.toks + 1}→wpAny (model prog w) A (F p r) Q E s):
 ∀(j i:Nat),i + j=m→i≤p→wpAny (model prog w) A (forIn (List.range' i j 1) ((none,()):Option b18×Unit) F) (fun r s'=>r=(some (.done (.ret (.int (p:Nat) s.toks))),())∧s'={s with toks:=s.toks + 1}) E s
 | 0,i,e,le=>by lia
 | j + 1,i,e,le=>by
   rw [List.range'_succ,ca2]
   by_cases c:i=p
   · subst c
     exact ba2 (h2 _ _ (bb4 ⟨rfl,rfl⟩))
   · refine ba2 (h1 i _ _ (by lia) ?_)
     exact kl2 hp h1 h2 j (i + 1) (by lia) (by lia)
theorem kp1 {l:Addr} {o:Obj} {n:Nat} {vs:List Value} {ns:List Int} {k:Int} {t:Tok} {Q:Value→ba4→Prop} (ho:s.heap.get? l=some o) (hc:o.cls= .type "tuple") (hd:o.data= .seq vs.toArray n) (hlen:vs.length=ns.length) (at': ∀(i:Nat) (h:i < ns.length),∃tk,vs.toArray[i]?=some (.int ns[i] tk)) (hk:k∈ns)
 (h:Q (.int (ns.idxOf k:Nat) s.toks) {s with toks:=s.toks + 1}):wpAny (model prog w) A (call (.builtin "tuple.index") [.ref l,.int k t]) Q E s:=by
 have il:ns.idxOf k < ns.length:=bi9.mpr hk
 refine bj1 b75 ⟨o,ho,hc⟩ PySem.F.entry_tuple_index ?_ (kx2 _ _)
 unfold Builtin.«tuple.index»
 refine ba2 (bb4 (a:=(bg1 l,[by1 k t])) ?_)
 refine ba2 ?_
 unfold bv5
 refine ba2 (b12 ho hd (bb4 ?_))
 show wpAny _ _ ((pure 0:Sem Nat) >>= _) _ _ _
 refine ba2 (bb4 ?_)
 show wpAny _ _ ((pure vs.toArray.size:Sem Nat) >>= _) _ _ _
 refine ba2 (bb4 ?_)
 show wpAny _ _ (forIn ([0:min vs.toArray.size vs.toArray.size]:Std.Legacy.Range) _ _ >>= _) _ _ _
 refine ba2 ?_
 rw [Nat.min_self,Std.Legacy.Range.forIn_eq_forIn_range']
 simp only [Std.Legacy.Range.size,cm8,by9,Nat.div_one]
 refine bp8 (kl2 (m:=vs.toArray.size) (p:=ns.idxOf k) (by rw [bc8,hlen];exact il) (fun i r Q hi' q=> ?_) (fun r Q q=> ?_) _ 0 (by simp) (bf4 _)) (fun r s' ⟨e1,e2⟩=> ?_) fun q_ q_ e=>e
 · obtain ⟨tk,e⟩:=at' i (by lia)
   simp only [e]
   refine ba2 (bq4 ?_)
   rw [show (ns[i] == k)=false from ne_of_lt_idxOf hi' _,if_neg bb3]
   exact bb4 q
 · obtain ⟨tk,e⟩:=at' _ il
   simp only [e]
   refine ba2 (bq4 ?_)
   rw [show (ns[ns.idxOf k] == k)=true by simp,if_pos rfl]
   exact ba2 (ba2 (wpAny_mkInt (bb4 (bb4 q))))
 · subst e1 e2
   exact bb4 ⟨_,rfl,h⟩
end
section
variable {X:Cx}
theorem kp2 (K:ba0) (hK:X.K=K):MtR X "tuple.index" (fun x xs H Q=>∃(p:Addr) (ns:List Int) (k:Int),x= .ref p∧xs=[.int k]∧SqT K H p (ns.map V.int)∧k∈ns∧Q (.int (ns.idxOf k:Nat)) H):=by
 subst hK
 intro pins s σ H x xs v us Q I rx rs h
 obtain ⟨p,ns,k,rfl,rfl,hq,hk,q⟩:=h
 cases rx
 obtain ⟨u,rfl,t,rfl⟩:=Vals.one rs
 obtain ⟨its,rv,⟨o,ho,hc,n,hd⟩,hz⟩:=I.tuple hq
 refine kp1 ho hc hd (by rw [← rv.length,ba3]) (fun i hi=> ?_) hk ⟨.int _,H,I.tok _,⟨_,rfl⟩,q⟩
 obtain ⟨u,e,tk,rfl⟩:=rv.get (i:=i) (x:= .int ns[i]) (by rw [be3,bb2 hi];rfl)
 exact ⟨tk,by simpa using e⟩
end
section
variable {He:Hp} {K:ba0} {ι:Type} {Y:ι→Cx} {e a:Expr}
def kka (t:De) (u:De):De:=fun env P=>t env fun x=>∃ns:List Int,x= .tuple (ns.map ba1)∧u env fun d=>∃k:Int,d= .int k∧k∈ns∧P (.int (ns.idxOf k:Nat))
theorem kp3 {t u:De} {apos cpos:Pos} (ho:DE He K Y a t) (h:DB He K Y e u) (hK:autoParam (∀ i,(Y i).K=K) u3._auto_1)
 (hbase:autoParam (∀ j,bs6 a "index" (Y j).env (eval a (Y j).env)=eval a (Y j).env) u3._auto_1)
 (hfew:autoParam (∀ j,((backTo cpos (bd5 [e] (Y j).env)).all (fun x=> !x.1) && (b86 cpos (bx3 [] (Y j).env)).all (fun x=>x.1.isSome)
   && decide (([e]:List Expr).length + ([]:List Keyword).length + (if ([]:List Keyword).isEmpty then 0 else 1) < 30))=true) u3._auto_1)
 (hline:autoParam ((apos.endLine == cpos.line)=true) u4._auto_1) (hs:autoParam (∀ j,bd5 [e] (Y j).env=(false,eval e (Y j).env)::bd5 [] (Y j).env) u3._auto_1) (hplain:autoParam (∀ j,(backTo cpos (bd5 [] (Y j).env)).any (·.1)=false) u3._auto_1):
 DE He K Y (.Call (.Attribute a "index" apos) [e] [] cpos) (kka t u):=by
 obtain ⟨te,a1,a2⟩:=ho
 obtain ⟨te',b1,b2⟩:=h
 refine ⟨_,fun j=>kiz K (hK j) PySem.F.plainAttrs_tuple b75 PySem.F.type_tuple_index (kp2 K (hK j)) (a1 j) (kad (b1 j) kal (hs j)) (hbase j) (hfew j) hline (hs j) (hplain j),fun P Q F p k=> ?_⟩
 refine a2 _ _ F p fun l x R1 H1 ⟨ns,hx,q1⟩ e1 r1=> ?_
 subst hx
 obtain ⟨p,ys,rfl,h1,h2⟩:=r1.tup_inv
 have ey:=RpAll.ints_inv h2
 subst ey
 have s1:SqT K H1 p (ns.map V.int):= .inl (.inl (e1.rh _ _ h1))
 refine ⟨?_,b2 _ _ (F.next e1) q1 fun d v R2 H2 ⟨m,hd,hm,q2⟩ e2 r2=> ?_⟩
 · exact .inr (.inr (.inr (.inr ⟨rfl,_,e1.rh _ _ h1⟩)))
 subst hd
 have ev:=r2.int_inv
 subst ev
 exact ⟨p,ns,m,rfl,rfl,.inl (.inl (e2.hh _ _ (e1.rh _ _ h1))),hm,k _ _ R2 H2 q2 (e1.trans e2) (.int _)⟩
end
end L2
namespace L2
open PySem PySem.Spec PySem.W PyProof.Rows
theorem kp4:typeLookup (.type "list_reverseiterator") "__len__"=pure none:=by rw [b43,bu6];kernel_rfl
theorem ks7:typeLookup (.type "list_reverseiterator") "__length_hint__"=pure (some (.builtin "list_reverseiterator.__length_hint__")):=by rw [b43,bu6];kernel_rfl
section
variable {prog:bb8} {w:World} {A:bf8} {E:Value→ba4→Prop} {s:ba4} {r l S:Addr} {xs:Array Value}
theorem ks8 {Q:Bool→ba4→Prop} (hT:s.TypeIs (.ref r) "list_reverseiterator") (h:Q false s):wpAny (model prog w) A (bq2 (.ref r)) Q E s:=by
 unfold bq2
 refine ba2 (bm7 hT kp4 ?_)
 wp_delta
 refine bu7 (fun hab=>absurd hab (by decide +kernel)) (fun q_=> ?_)
 refine bu7 (fun hab=>absurd hab (by decide)) (fun q_=> ?_)
 refine ba2 (bm7 hT ks7 ?_)
 generalize hid:("list_reverseiterator.__length_hint__":String)=id0
 wp_delta
 rw [show splitId id0=some ("list_reverseiterator","__length_hint__") from by subst hid;decide +kernel]
 subst hid
 refine ba2 (bw5 (T:="list_reverseiterator") (b:=true) hT (by rw [b62];kernel_rfl) ?_)
 refine bu7 (fun hab=>absurd hab (by decide)) (fun q_=> ?_)
 refine bu7 (fun q_=> ?_) (fun hab=>absurd (by decide +kernel) hab)
 refine bu7 (fun hab=>absurd hab (by decide +kernel)) (fun q_=> ?_)
 exact bb4 h
theorem kx3 {R:Result→ba4→Prop} (hh:A.handled=none) (hS:S≠r∧S≠l) (hrl:l≠r) (hn:xs.size≤sizeLine) (res:Value) (c:Nat)
 (hr:s.heap.IsRevIter r l ((xs.size:Int) - 1)) (hl:s.heap.IsList l xs) (hL:s.heap.get? S=some {cls:= .type "list",data:= .seq #[] c})
 (hR: ∀h' tk acc' c',(∀ b o,b ∉ [S,r]→s.heap.get? b=some o→h'.get? b=some o)→h'.get? S=some {cls:= .type "list",dict:=none,data:= .seq acc' c',slots:= #[]}→ItemsOf (fun i v=>xs[xs.size - 1 - i]?=some v) acc' xs.size→R (.ok (.ret res)) {s with heap:=h',toks:=tk}):
 wpAny (model prog w) A.in1 (bn2 (.ref S) (.ref r) res)
  (fun fin s'=>match fin with | .done f=>R (.ok f) s' | .again c'=>c'.quiet=true∧codeAny (model prog w) A c' R s') (fun e s'=>R (.error e) s') s:=by
 unfold bn2
 refine ba2 (ch3 (T:="list_reverseiterator") hr.typeIs ?_)
 have e1:b76 (.ref S) (.ref r)=false:=by simp [b76,hS.1]
 have e2:(bt0 "list_reverseiterator" == bt0 "list")=false:=by decide
 have e3:(bt0 "list_reverseiterator" == bt0 "tuple")=false:=by decide
 simp only [e1,e2,e3,cd2,bn0,if_false]
 refine ba2 (wpAny_pyIter_revIter hr ?_)
 refine ba2 (bl1 (ks8 hr.typeIs ?_))
 refine bu7 (fun hab=>absurd hab (by decide +kernel)) (fun q_=> ?_)
 have W:=Walks.listRev (prog:=prog) (w:=w) (A:=A.in1) hh r l hrl xs
 refine bb4 ⟨b84 PySem.F.plain_extend_loop _,?_⟩
 refine codeAny_extend_loopS W.toS hn S (by simp only [bc7,bm1,or_false,not_or];exact hS) res xs.size 0 s #[] c rfl (bf4 _) ⟨bf4 _,by simpa using hr,hl⟩ hL (ItemsOf.nil _) fun s' acc' c' hm hS' hacc=> ?_
 rw [Moved.eq_with hm]
 exact hR s'.heap s'.toks acc' c' (fun b o hb e=>hm.heap b o (fun z=>hb (by simpa using z)) e) hS' hacc
end
section
variable {prog:bb8} {w:World} {A:bf8} {E:Value→ba4→Prop} {s:ba4} {r l S:Addr} {xs:Array Value}
theorem ks9 {R:Result→ba4→Prop} (hh:A.handled=none) (hS:S≠r∧S≠l) (hrl:l≠r) (hn:xs.size≤sizeLine) (c:Nat)
 (hr:s.heap.IsRevIter r l ((xs.size:Int) - 1)) (hl:s.heap.IsList l xs) (hL:s.heap.get? S=some {cls:= .type "list",data:= .seq #[] c})
 (hR: ∀h' tk acc' c',(∀ b o,b ∉ [S,r]→s.heap.get? b=some o→h'.get? b=some o)→h'.get? S=some {cls:= .type "list",dict:=none,data:= .seq acc' c',slots:= #[]}→ItemsOf (fun i v=>xs[xs.size - 1 - i]?=some v) acc' xs.size→R (.ok (.ret .none)) {s with heap:=h',toks:=tk}):
 wpAny (model prog w) A.in1 (Builtin.«list.__init__» ⟨[.ref S,.ref r],[]⟩)
  (fun fin s'=>match fin with | .done f=>R (.ok f) s' | .again c'=>c'.quiet=true∧codeAny (model prog w) A c' R s') (fun e s'=>R (.error e) s') s:=by
 change wpAny _ _ (do let old ← b95 (.ref S);Builtin.List.listUpdate (.ref S) (fun q_=> #[]);letGo old.toList.reverse;bn2 (.ref S) (.ref r) .none) _ _ s
 refine ba2 ?_
 unfold b95
 refine ba2 (b12 hL rfl (bb4 ?_))
 change wpAny _ _ (updateSeq S (fun q_=> #[]) >>= fun q_=>letGo (#[]:Array Value).toList.reverse >>= fun q_=>bn2 (.ref S) (.ref r) .none) _ _ s
 refine ba2 (wpAny_updateSeq hL rfl ?_)
 have g2:=bu1 (bl8 (fun q_=>(#[]:Array Value))) hL rfl
 have oth: ∀b o,b≠S→s.heap.get? b=some o→(s.heap.update S (bl8 (fun q_=>(#[]:Array Value)))).get? b=some o:=fun b o hb e=>(bt2 _ _ (bz8 hb)).trans e
 refine ba2 (wpAny_letGo ?_)
 exact kx3 hh hS hrl hn .none _ (hr.at fun o e=>oth _ _ hS.1.symm e) (hl.at fun o e=>oth _ _ hS.2.symm e) g2 fun h' tk acc' c' k e1 e2=>hR h' tk acc' c' (fun b o hb e=>k b o hb (oth b o (fun z=>hb (by rw [z];exact bc4)) e)) e1 e2
theorem kta {Q:Value→ba4→Prop} (hh:A.handled=none) (hrl:l≠r) (hn:xs.size≤sizeLine) (hr:s.heap.IsRevIter r l ((xs.size:Int) - 1)) (hl:s.heap.IsList l xs)
 (hQ: ∀h' tk acc' c',(∀ b o,b ∉ [s.heap.objs.size,r]→s.heap.get? b=some o→h'.get? b=some o)→h'.get? s.heap.objs.size=some {cls:= .type "list",dict:=none,data:= .seq acc' c',slots:= #[]}→ItemsOf (fun i v=>xs[xs.size - 1 - i]?=some v) acc' xs.size→Q (.ref s.heap.objs.size) {s with heap:=h',toks:=tk}):
 wpAny (model prog w) A (call (.type "list") [.ref r]) Q E s:=by
 refine callType_codes (Q₁:=fun obj s₁=>obj= .ref s.heap.objs.size∧s₁={s with heap:=s.heap.push {cls:= .type "list",data:= .seq #[]}}) PySem.F.called_list (PySem.F.typeCall_list_1 _) PySem.F.entry_list_init (code_list_new _ ⟨rfl,rfl⟩) fun obj s₁ g₁=> ?_
 obtain ⟨rfl,rfl⟩:=g₁
 have hL:(s.heap.push {cls:= .type "list",data:= .seq #[]}).get? s.heap.objs.size=some {cls:= .type "list",data:= .seq #[]}:=bd8 _ rfl
 have up: ∀b o,s.heap.get? b=some o→(s.heap.push {cls:= .type "list",data:= .seq #[]}).get? b=some o:=fun b o e=>bb0 _ e
 have ne: ∀{b:Addr} {o:Obj},s.heap.get? b=some o→s.heap.objs.size≠b:=fun e z=>absurd (bd7 e) (by rw [← z];exact bk1 _)
 obtain ⟨o1,e1,_⟩:=id hr
 obtain ⟨o2,e2,_⟩:=id hl
 exact ⟨⟨_,hL,rfl⟩,PySem.F.args_list_init_2 _ _,ks9 (A:=A.in1) hh ⟨ne e1,ne e2⟩ hrl hn 0 (hr.at fun o e=>up _ o e) (hl.at fun o e=>up _ o e) hL fun h' tk acc' c' k g1 g2=>⟨rfl,hQ h' tk acc' c' (fun b o hb e=>k b o hb (up b o e)) g1 g2⟩⟩
end
def tLR (K:ba0) (ta:TA):TE:=fun σ H Q=>ta σ H fun vs H2=>∃a xs,vs=[.ref a]∧SqL K H2 a xs∧∀l,H2 l=none→Q (.ref l) (upd H2 l (.lst xs.reverse))
theorem ktb:bootBuiltins "reversed"=some (.type "reversed"):=by decide +kernel
theorem ktc {vs:List V} {us:List Value} (h:Vals vs us):Vals vs.reverse us.reverse:=by
 induction h with
 | nil=>exact .nil
 | cons r _ ih=>rw [b04,b04];exact ih.append (.cons r .nil)
section
variable {X:Cx}
theorem km9 {e:Expr} {ta:TA} {p1 p2 pos pos2:Pos} (K:ba0) (hK:X.K=K) (hg:Gl X "reversed") (hm:X.mg "reversed"=none) (hg2:Gl X "list") (hm2:X.mg "list"=none) (hc:X.calm=true) (he:PA X [e] ta) (hs:autoParam (bd5 [e] X.env=[(false,eval e X.env)]) u4._auto_1)
 (hz:autoParam (bd5 [.Call (.Name "reversed" p2) [e] [] pos2] X.env=[(false,eval (.Call (.Name "reversed" p2) [e] [] pos2) X.env)]) u4._auto_1):
 PE X (.Call (.Name "list" p1) [.Call (.Name "reversed" p2) [e] [] pos2] [] pos) (tLR K ta):=by
 subst hK
 intro pins s σ H Q I h
 refine bo6 (kfd I hg2 hm2 boot_list ?_)
 refine bk9 ?_ (by rw [hz];rfl) rfl
 rw [hz]
 refine cc9 ?_
 refine bo6 (kfd I hg hm ktb ?_)
 refine bk9 (thn (he pos2 pins s σ H _ I h) fun us s1 ⟨vs,H1,I1,r1,q1⟩=> ?_) (by rw [hs];rfl) rfl
 obtain ⟨a,xs,e,hq,q⟩:=q1
 subst e
 obtain ⟨u,rfl,ru⟩:=kd0 r1
 cases (show u=bg1 a from ru)
 obtain ⟨its,rv,pl,hz2⟩:=I1.list hq
 have hl:=pl.isList
 have lt:a < s1.heap.objs.size:=by obtain ⟨o,ho,_⟩:=hl;exact bd7 ho
 have L1:=rv.length
 refine call_reversed_list hl ?_
 refine cf0 ?_
 have sz:(s1.heap.push (revObj a ((its.toArray.size:Int) - 1))).objs.size=s1.heap.objs.size + 1:=br0 ..
 refine kta (s:={s1 with heap:=s1.heap.push (revObj a ((its.toArray.size:Int) - 1))}) (xs:=its.toArray) (I1.ok.hd hc) (bf3 lt) (by rw [bc8];lia) ⟨_,bd8 _ rfl,rfl,rfl⟩ (hl.at fun o e=>bb0 _ e) fun h2 tk acc c k e1 e2=> ?_
 have S5:({s1 with heap:=s1.heap.push (revObj a ((its.toArray.size:Int) - 1))}:ba4).heap.objs.size=s1.heap.objs.size + 1:=sz
 generalize ({s1 with heap:=s1.heap.push (revObj a ((its.toArray.size:Int) - 1))}:ba4).heap.objs.size=S at *
 have keep: ∀b o,s1.heap.get? b=some o→h2.get? b=some o:=fun b o e=>by
  have lt:=bd7 e
  refine k b o ?_ (bb0 _ e)
  simp only [bc7,bm1,or_false,not_or]
  exact ⟨bf3 (by rw [S5];exact bj0 lt),bf3 lt⟩
 have le:s1.heap.objs.size≤S:=by rw [S5];exact bq0 _
 have ea:acc.toList=its.reverse:=by
  apply bs1
  intro j
  obtain ⟨f1,f2⟩:=e2
  by_cases hj:j < its.length
  · have hja:j < acc.size:=by rw [f1,bc8];exact hj
    have:=f2 j acc[j] (bd9 hja)
    rw [be5,bd9 hja,ca3 hj]
    simpa using this.symm
  · rw [bq8 (by rw [bc0,f1,bc8];lia),bq8 (by rw [bk4];lia)]
 refine ⟨.ref S,_,I1.laid (o:= .lst xs.reverse) (t':=tk) keep le ⟨by rw [bk4];lia,acc.toList,c,by rw [ea];exact ktc rv,by rw [b30];exact e1⟩,rfl,q S (I1.hok.fresh le)⟩
end
section
variable {He:Hp} {K:ba0} {ι:Type} {Y:ι→Cx} {e:Expr} {p1 p2 pos pos2:Pos}
def xRev (t:Dq):Dq:=fun env P=>t env fun xs=>P xs.reverse
theorem kuy {R:Hp}: ∀{ys:List V} {ds:List ba9},RpAll K R ys ds→RpAll K R ys.reverse ds.reverse
 | _,_,.nil=> .nil
 | _,_,.cons r h=>by rw [b04,b04];exact RpAll.append (kuy h) (.one r)
theorem kna {t:Dq} (h:DL He K Y e t) (hm: ∀i,(Y i).mg "reversed"=none) (hm2: ∀i,(Y i).mg "list"=none) (hg:autoParam (∀ i,Gl (Y i) "reversed") u3._auto_1) (hg2:autoParam (∀ i,Gl (Y i) "list") u3._auto_1) (hc:autoParam (∀ i,(Y i).calm=true) u3._auto_1) (hK:autoParam (∀ i,(Y i).K=K) u3._auto_1)
 (hs:autoParam (∀ i,bd5 [e] (Y i).env=[(false,eval e (Y i).env)]) u3._auto_1)
 (hz:autoParam (∀ i,bd5 [.Call (.Name "reversed" p2) [e] [] pos2] (Y i).env=[(false,eval (.Call (.Name "reversed" p2) [e] [] pos2) (Y i).env)]) u3._auto_1):
 DO He K Y (.Call (.Name "list" p1) [.Call (.Name "reversed" p2) [e] [] pos2] [] pos) (xRev t):=by
 obtain ⟨te,h1,h2⟩:=h
 refine ⟨_,fun i=>km9 K (hK i) (hg i) (hm i) (hg2 i) (hm2 i) (hc i) (kad (h1 i) kal (by rw [hs i];rfl)) (hs i) (hz i),fun P Q F p k=>h2 _ _ F p fun ds a ys R1 H1 pd e1 ha r1=> ?_⟩
 refine ⟨a,ys,rfl,SqL.of ha,fun l hn=> ?_⟩
 exact k _ l _ R1 _ pd (e1.trans (Ext.newO e1.wd hn trivial)) (e1.hh.free hn) kaf (e1.wd.rh.free hn) (kuy r1)
end
end L2
set_option maxHeartbeats 4000000
open PySem L2
local macro_rules | `(tactic| simp only [rD,$ls,*] $[$l]?)=> `(tactic| simp only [xRev,kka,kx0,kxr,kxu,kxx,kxy,kpv,kpw,kpx,Dt.dv.injEq,kxc,cc3,cm1,ci3,klm,ko6,ko4,sExp,kww,sSeq,sSet,koo,sRet,kwx,kwy,sIf,sFrz,sApp,xVar,xC,kv9,kwa,kwl,xSeq,xL,xLst,x2,xB,xNot,xAnd,xOr,kwe,xIf,kk7,xIx,xNil,kwh,xTup,kwi,xLen,kla,xIsi,xCat,xRep,kwm,kwp,kon,kjy,kex,xAll,kos,kw1,gN,gN2,kwb,rdI,rdEq,rdNe,kjz,reduceCtorEq,false_or,or_false,false_and,exists_false,exists_const,k0j,k0k,seqS,k0l,k0m,kor,kdm,km1,bg5,b14,bf2,bu4,bm8,bj3,bz1,b54,bk2,cc7,b25,by4,b00,Dt.d.injEq,Dt.o.injEq,ci4,cg1,ce3,cg2,exists_eq_left,exists_eq_left',exists_eq_right,exists_and_left,true_and,and_true,ne_eq,not_false_eq_true,bs7,b88,cm2,cm3,ci5,bf4,bb6,$ls,*] $[$l]?)
local macro_rules | `(tactic| simp only [rD] $[$l]?)=> `(tactic| simp only [xRev,kka,kx0,kxr,kxu,kxx,kxy,kpv,kpw,kpx,Dt.dv.injEq,kxc,cc3,cm1,ci3,klm,ko6,ko4,sExp,kww,sSeq,sSet,koo,sRet,kwx,kwy,sIf,sFrz,sApp,xVar,xC,kv9,kwa,kwl,xSeq,xL,xLst,x2,xB,xNot,xAnd,xOr,kwe,xIf,kk7,xIx,xNil,kwh,xTup,kwi,xLen,kla,xIsi,xCat,xRep,kwm,kwp,kon,kjy,kex,xAll,kos,kw1,gN,gN2,kwb,rdI,rdEq,rdNe,kjz,reduceCtorEq,false_or,or_false,false_and,exists_false,exists_const,k0j,k0k,seqS,k0l,k0m,kor,kdm,km1,bg5,b14,bf2,bu4,bm8,bj3,bz1,b54,bk2,cc7,b25,by4,b00,Dt.d.injEq,Dt.o.injEq,ci4,cg1,ce3,cg2,exists_eq_left,exists_eq_left',exists_eq_right,exists_and_left,true_and,and_true,ne_eq,not_false_eq_true,bs7,b88,cm2,cm3,ci5,bf4,bb6] $[$l]?)
namespace Me
open PySem L2
def top (i:Nat):Stmt:=PySem.Challenge.pw_fewpoints_k15_whole_cores_of_made_ones.main.body.getD i (.Pass ⟨0,0,0,0⟩)
abbrev kb3:Stmt:=top 7
abbrev kp5:Stmt:=top 8
abbrev kx4:Stmt:=top 9
abbrev kcu:Stmt:=top 10
abbrev kc6:Stmt:=top 11
abbrev khr:Stmt:=top 13
abbrev kkb:Stmt:=top 14
abbrev keg:Stmt:=top 15
abbrev khs:Stmt:=top 16
abbrev kht:Stmt:=top 17
abbrev kp6:Stmt:=top 19
abbrev khu:Stmt:=top 20
abbrev kf4:Stmt:=top 21
abbrev ke5:Stmt:=top 22
abbrev khv:Stmt:=top 23
abbrev kf5:Stmt:=top 24
abbrev keh:Stmt:=top 25
abbrev kkc:Stmt:=top 26
abbrev kp7:Stmt:=top 27
abbrev ke6:Stmt:=top 28
abbrev kkd:Stmt:=top 29
abbrev kke:Stmt:=top 31
abbrev kf6:Stmt:=top 32
abbrev kkf:Stmt:=top 33
abbrev ke7:Stmt:=top 34
abbrev ke8:Stmt:=top 35
abbrev ke9:Stmt:=top 36
abbrev kei:Stmt:=top 37
abbrev kc7:Stmt:=top 39
abbrev kfa:Stmt:=top 40
abbrev kfb:Stmt:=top 41
abbrev khw:Stmt:=top 42
abbrev kcn:Stmt:=top 43
abbrev kf7:Stmt:=top 44
abbrev kx5:Stmt:=top 46
abbrev kx6:Stmt:=top 47
abbrev kp8:Stmt:=top 48
abbrev kx7:Stmt:=top 49
abbrev kkg:Stmt:=top 50
abbrev sRaw:Stmt:=top 51
abbrev sDig:Stmt:=top 52
abbrev sMix:Stmt:=top 53
abbrev kp9:Stmt:=top 54
abbrev kbz:Stmt:=top 55
abbrev kej:Stmt:=top 56
abbrev kdq:Stmt:=top 57
abbrev ktd:Stmt:=top 58
abbrev Rel:=Nat→Nat→Bool
noncomputable def stp (t:Rel) (k a b:Nat):Rel:=if (t a k && t k b)=true then (fun x y=>if x=a∧y=b then true else t x y) else t
noncomputable def w3 (t:Rel) (k a:Nat):Nat→Rel
 | 0=>t
 | n + 1=>stp (w3 t k a n) k a n
noncomputable def w2 (m:Nat) (t:Rel) (k:Nat):Nat→Rel
 | 0=>t
 | n + 1=>w3 (w2 m t k n) k n m
noncomputable def w1 (m:Nat) (t:Rel):Nat→Rel
 | 0=>t
 | n + 1=>w2 m (w1 m t n) n m
theorem k1i (t:Rel) (k a:Nat): ∀(n x y:Nat),w3 t k a n x y=(t x y || (decide (x=a) && decide (y < n) && t a k && t k y))
 | 0,x,y=>by simp [w3]
 | n + 1,x,y=>by
   have ih:=k1i t k a n
   have e1:w3 t k a n a k=t a k:=by
    rw [ih];cases t a k <;> simp
   have e2:w3 t k a n k n=t k n:=by
    rw [ih];simp
   show stp (w3 t k a n) k a n x y=_
   unfold stp
   rw [e1,e2]
   by_cases hc:(t a k && t k n)=true
   · rw [if_pos hc]
     have hc:=bv6.mp hc
     by_cases hxy:x=a∧y=n
     · rw [if_pos hxy]
       obtain ⟨rfl,rfl⟩:=hxy
       simp [hc.1,hc.2]
     · rw [if_neg hxy,ih]
       by_cases hx:x=a
       · subst hx
         have hy: ¬y=n:=fun z=>hxy ⟨rfl,z⟩
         have:decide (y < n)=decide (y < n + 1):=by simp;lia
         rw [this]
       · simp [hx]
   · rw [if_neg hc,ih]
     by_cases hx:x=a
     · subst hx
       by_cases hy:y=n
       · subst hy
         have:(t x k && t k y)=false:=by simpa using hc
         simp only [bk1,decide_false,b09,b57,decide_true,b33,bp1,this,cd2]
       · have:decide (y < n)=decide (y < n + 1):=by simp;lia
         rw [this]
     · simp [hx]
theorem k1j (m:Nat) (t:Rel) (k:Nat): ∀(n x y:Nat),w2 m t k n x y=(t x y || (decide (x < n) && decide (y < m) && t x k && t k y))
 | 0,x,y=>by simp [w2]
 | n + 1,x,y=>by
   have ih:=k1j m t k n
   show w3 (w2 m t k n) k n m x y=_
   rw [k1i]
   have e1:w2 m t k n n k=t n k:=by rw [ih];simp
   have e2:w2 m t k n k y=t k y:=by rw [ih];cases t k y <;> simp
   rw [e1,e2,ih]
   by_cases hx:x=n
   · subst hx
     simp
   · have:decide (x < n)=decide (x < n + 1):=by simp;lia
     rw [this]
     simp [hx]
theorem khx (m:Nat) (t:Rel) (n x y:Nat) (hx:x < m) (hy:y < m):w1 m t (n + 1) x y=(w1 m t n x y || (w1 m t n x n && w1 m t n n y)):=by
 show w2 m (w1 m t n) n m x y=_
 rw [k1j]
 simp [hx,hy]
theorem kl3 (m:Nat) (t:Rel): ∀(n:Nat),n≤m→∀c a b,c < n→a < m→b < m→w1 m t n a c=true→w1 m t n c b=true→w1 m t n a b=true
 | 0,_,c,_,_,h,_,_,_,_=>absurd h (bo5 _)
 | n + 1,hn,c,a,b,hc,ha,hb,h1,h2=>by
   have ih:=kl3 m t n (by lia)
   have hcm:c < m:=by lia
   have hnm:n < m:=by lia
   rw [khx m t n a c ha hcm] at h1
   rw [khx m t n c b hcm hb] at h2
   rw [khx m t n a b ha hb]
   simp only [b37,bh5] at h1 h2 ⊢
   by_cases e:c=n
   · subst e
     have k1:w1 m t c a c=true:=h1.elim id fun z=>z.1
     have k2:w1 m t c c b=true:=h2.elim id fun z=>z.2
     exact .inr ⟨k1,k2⟩
   · have hc':c < n:=by lia
     rcases h1 with h1 | ⟨h1,h1'⟩ <;> rcases h2 with h2 | ⟨h2,h2'⟩
     · exact .inl (ih c a b hc' ha hb h1 h2)
     · exact .inr ⟨ih c a n hc' ha hnm h1 h2,h2'⟩
     · exact .inr ⟨h1,ih c n b hc' hnm hb h1' h2⟩
     · exact .inr ⟨h1,h2'⟩
theorem kl4 (m:Nat) (t:Rel) (S:Nat→Nat→Prop) (h0: ∀x y,x < m→y < m→t x y=true→S x y) (hS: ∀a b c,a < m→b < m→c < m→S a b→S b c→S a c): ∀(n x y:Nat),n≤m→x < m→y < m→w1 m t n x y=true→S x y
 | 0,x,y,_,hx,hy,h=>h0 x y hx hy h
 | n + 1,x,y,hn,hx,hy,h=>by
   rw [khx m t n x y hx hy] at h
   simp only [b37,bh5] at h
   rcases h with h | ⟨h1,h2⟩
   · exact kl4 m t S h0 hS n x y (by lia) hx hy h
   · exact hS x n y hx (by lia) hy (kl4 m t S h0 hS n x n (by lia) hx (by lia) h1) (kl4 m t S h0 hS n n y (by lia) (by lia) hy h2)
noncomputable def kcv (m:Nat) (t:Rel) (a:Nat):List (Int×Int):=((ba5 m).filter (t a)).map fun (b:Nat)=>((a:Int),(b:Int))
noncomputable def kab (m:Nat) (t:Rel):List (Int×Int):=(ba5 m).flatMap (kcv m t)
noncomputable def t0 (ps:List (Int×Int)):Rel:=fun a b=>decide (((a:Int),(b:Int))∈ps∧a≠b)
noncomputable def clo (m:Nat) (ps:List (Int×Int)):List (Int×Int):=kab m (w1 m (t0 ps) m)
theorem kan {m:Nat} {t:Rel} {q:Int×Int}:q∈kab m t↔∃a b:Nat,a < m∧b < m∧t a b=true∧q=((a:Int),(b:Int)):=by
 unfold kab kcv
 rw [List.mem_flatMap]
 constructor
 · rintro ⟨a,ha,h⟩
   obtain ⟨b,hb,rfl⟩:=ba8.mp h
   obtain ⟨h1,h2⟩:=bf1.mp hb
   exact ⟨a,b,ba7.mp ha,ba7.mp h1,h2,rfl⟩
 · rintro ⟨a,b,ha,hb,h,rfl⟩
   exact ⟨a,ba7.mpr ha,ba8.mpr ⟨b,bf1.mpr ⟨ba7.mpr hb,h⟩,rfl⟩⟩
theorem kaw {m:Nat} {t:Rel} {a b:Nat}:((a:Int),(b:Int))∈kab m t↔a < m∧b < m∧t a b=true:=by
 rw [kan]
 constructor
 · rintro ⟨x,y,h1,h2,h3,e⟩
   have e1:a=x:=bv3 (congrArg bw6 e)
   have e2:b=y:=bv3 (congrArg bw7 e)
   subst e1 e2
   exact ⟨h1,h2,h3⟩
 · rintro ⟨h1,h2,h3⟩
   exact ⟨a,b,h1,h2,h3,rfl⟩
theorem kqa (m:Nat) (t:Rel) (a:Nat):(kcv m t a).length≤m:=by
 unfold kcv
 rw [ba3]
 exact bj2 (bu8 _ _) (by rw [bg2];exact bb6 _)
theorem kc8 (m:Nat) (t:Rel): ∀n,((ba5 n).flatMap (kcv m t)).length≤n * m
 | 0=>by simp
 | n + 1=>by
   rw [bn3,bs5,ba6]
   have h1:=kc8 m t n
   have h2:=kqa m t n
   simp only [b05,b28,be4]
   rw [cg5]
   lia
theorem kc9 (m:Nat) (t:Rel):(kab m t).length≤m * m:=kc8 m t m
def IsSp (m:Nat) (ts:List (Int×Int)):Prop:=∃t:Rel,ts=kab m t∧(∀ a,a < m→t a a=false)∧∀a b c,a < m→b < m→c < m→t a b=true→t b c=true→t a c=true
def Up (os:List Int) (q:Int×Int):Prop:=∃j i:Nat,j < i∧os[j]?=some q.1∧os[i]?=some q.2
theorem kl5 {os:List Int} (nd:os.Nodup) {i j:Nat} {x:Int} (h:os[i]?=some x) (h':os[j]?=some x):i=j:=by
 obtain ⟨hi,ei⟩:=bb1.mp h
 obtain ⟨hj,ej⟩:=bb1.mp h'
 have pw:=bd0.mp nd
 rcases bl3 i j with z | z | z
 · exact absurd (ei.trans ej.symm) (pw i j hi hj z)
 · exact z
 · exact absurd (ej.trans ei.symm) (pw j i hj hi z)
theorem kuz {m:Nat} {ps:List (Int×Int)} {os:List Int} (nd:os.Nodup) (hu: ∀q∈ps,Up os q):IsSp m (clo m ps):=by
 have S: ∀x y:Nat,x < m→y < m→w1 m (t0 ps) m x y=true→Up os ((x:Int),(y:Int)):=by
  intro x y hx hy h
  refine kl4 m (t0 ps) (fun x y=>Up os ((x:Int),(y:Int))) (fun x y q_ q_ h=> ?_) (fun a b c q_ q_ q_ h1 h2=> ?_) m x y (bb6 _) hx hy h
  · exact hu _ (of_decide_eq_true h).1
  · obtain ⟨i1,i2,l1,g1,g2⟩:=h1
    obtain ⟨i3,i4,l2,g3,g4⟩:=h2
    have:i2=i3:=kl5 nd g2 g3
    exact ⟨i1,i4,by lia,g1,g4⟩
 refine ⟨w1 m (t0 ps) m,rfl,fun a ha=> ?_,fun a b c ha hb hc h1 h2=>kl3 m (t0 ps) m (bb6 _) b a c hb ha hc h1 h2⟩
 cases e:w1 m (t0 ps) m a a with
 | false=>rfl
 | true=>
   obtain ⟨j,i,l,g1,g2⟩:=S a a ha ha e
   have:=kl5 nd g1 g2
   lia
noncomputable def pD (p:Int×Int):ba9:= .tuple [.int p.1,.int p.2]
noncomputable def spD (n:Int) (ps:List (Int×Int)):ba9:= .tuple [.int n,.tuple (ps.map pD)]
theorem kb9: ∀ps:List (Int×Int),kir (ps.map pD)=true
 | []=>rfl
 | p::r=>by
   show (immD (pD p) && kir (r.map pD))=true
   rw [kb9 r];rfl
theorem kdr: ∀ps:List (Int×Int),be1 (ps.map pD)=true
 | []=>rfl
 | p::r=>by
   show (bv9 (pD p) && be1 (r.map pD))=true
   rw [kdr r];rfl
theorem kl6 (p:Int×Int):(pD p).depth≤3:=by simp [pD,bu9,bi4]
theorem ku0 (p q:Int×Int):bi2 (pD p) (pD q)=decide (p=q):=by
 obtain ⟨a,b⟩:=p
 obtain ⟨c,d⟩:=q
 simp only [pD,bi2,bm2]
 by_cases h1:a=c <;> by_cases h2:b=d <;> simp [h1,h2]
theorem kqb (p:Int×Int): ∀ps:List (Int×Int),((ps.map pD).any fun d=>bi2 d (pD p))=decide (p∈ps)
 | []=>by simp
 | q::r=>by
   rw [bg5,cd3,kqb p r,ku0]
   by_cases h:q=p
   · subst h;simp
   · have h': ¬p=q:=fun e=>h e.symm
     simp [h,h']
theorem kjc {K:ba0} {H:Hp} {a:Addr} {x y:Int} (h:H a=some (.tup [.int x,.int y])):Rp K H (.ref a) (pD (x,y)):= .tup h (.cons (.int x) (.cons (.int y) .nil))
theorem kqc {K:ba0} {H:Hp} {v:V} {n:Int} {ps:List (Int×Int)} (h:Rp K H v (spD n ps)): ∃a t ys,v= .ref a∧H a=some (.tup [.int n,.ref t])∧H t=some (.tup ys)∧RpAll K H ys (ps.map pD):=by
 obtain ⟨a,xs,rfl,h1,h2⟩:=Rp.tup_inv h
 cases h2 with
 | cons i j=>
   cases j with
   | cons i2 j2=>
     cases j2
     obtain ⟨t,ys,rfl,h3,h4⟩:=Rp.tup_inv i2
     rw [i.int_inv] at h1
     exact ⟨a,t,ys,rfl,h1,h3,h4⟩
def kjq (qs:List (Int×Int)) (a b:Int):Prop:=a=b∨(a,b)∈qs
def inR (n:Int) (q:Int×Int):Prop:=0≤q.1∧q.1 < n∧0≤q.2∧q.2 < n
theorem modB (v m:Int) (h:0 < m) (hm:m < 2 ^ 64): -(2 ^ 64) < v % m∧v % m < 2 ^ 64:=by
 have h1:=bz2 v (cn1 h)
 have h2:=bt7 v h
 lia
theorem kjd {n:Nat} (h:n≤100000):n≤sizeLine:=bj2 h (by decide)
theorem kx8 {n:Nat} (h:n≤100000):n < sizeLine:=b50 h (by decide)
theorem kbg {n:Nat} {g:TG} {tb:TS} {D:Ends} {σ:St} {H:Hp} (Pv:Nat→St→Hp→Prop) (h0:Pv 0 σ H)
 (hs: ∀i σ H,i < n→Pv i σ H→g (.int (i:Int)) σ H fun σ2 H2=>tb {D with nx:=Pv (i + 1),ct:=Pv (i + 1),bk:=D.nx} σ2 H2) (hd: ∀σ H,Pv n σ H→D.nx σ H):
 ∃W:Nat→Nat→St→Hp→Prop,(∃ m,W 0 m σ H)∧∀i m σ H,W i m σ H→
  ((Itr 0 n).stop i H∧D.nx σ H)∨((Itr 0 n).go i H∧∃N:St→Hp→Prop,(∀ σ' H',N σ' H'→∃m',m' < m∧W (i + 1) m' σ' H')∧∀x H',(Itr 0 n).yld i H x H'→g x σ H' fun σ2 H2=>tb {D with nx:=N,ct:=N,bk:=D.nx} σ2 H2):=
 knt (lo:=0) Pv h0 (fun i σ H hi p=>by rw [b15];exact hs i σ H hi p) hd
theorem kf8 {n:Nat} {g:TG} {tc:TT} {te:TE} {Q:VK} {D:Addr} {σ:St} {H:Hp} (Pv:Nat→St→List V→Hp→Prop) (h0:Pv 0 σ [] H)
 (hs: ∀i σ acc H,i < n→Pv i σ acc H→g (.int (i:Int)) σ H fun σ2 H2=>tc σ2 H2 fun b H3=>if b=true then te σ2 H3 fun y H4=>H4 D=some (.lst acc)∧acc.length < sizeLine∧Pv (i + 1) σ2 (acc++[y]) (upd H4 D (.lst (acc++[y]))) else Pv (i + 1) σ2 acc H3)
 (hd: ∀σ acc H,Pv n σ acc H→Q (.ref D) H):
 ∃W:Nat→Nat→St→List V→Hp→Prop,(∃ m,W 0 m σ [] H)∧kk3 (Itr 0 n) g tc te Q D W:=
 kr4 (lo:=0) Pv h0 (fun i σ acc H hi p=>by rw [b15];exact hs i σ acc H hi p) hd
theorem ku1:bootBuiltins "int"=some (.type "int"):=by decide +kernel
theorem kx9:bootBuiltins "bool"=some (.type "bool"):=by decide +kernel
theorem kqd:bootBuiltins "list"=some (.type "list"):=by decide +kernel
theorem kl7:bootBuiltins "tuple"=some (.type "tuple"):=by decide +kernel
theorem kl8:bootBuiltins "len"=some (.builtin "len"):=by decide +kernel
theorem ku2:bootBuiltins "isinstance"=some (.builtin "isinstance"):=by decide +kernel
theorem kya {n j:Nat} (h:j < n):ixN n (j:Int)=some j:=by
 unfold ixN
 rw [if_pos (by lia),if_pos (by lia)];simp
structure Txt (K:ba0) (mg:Str→Option Value):Prop where
 range:mg "range"=none
 len:mg "len"=none
 list:mg "list"=none
 tuple:mg "tuple"=none
 isi:mg "isinstance"=none
 int:mg "int"=none
 bool:mg "bool"=none
 zip:mg "zip"=none
 all:mg "all"=none
 any:mg "any"=none
 sum:mg "sum"=none
 sorted:mg "sorted"=none
 min:mg "min"=none
 max:mg "max"=none
 str:mg "str"=none
 enumerate:mg "enumerate"=none
 set:mg "set"=none
 reversed:mg "reversed"=none
 ve:mg "ValueError"=none
 kii:be7 K (.type "int") (.type "int")=some true
 kib:be7 K (.type "int") (.type "bool")=some false
 kbb:be7 K (.type "bool") (.type "bool")=some true
 ktt:be7 K (.type "tuple") (.type "tuple")=some true
 kll:be7 K (.type "list") (.type "list")=some true
 klt:be7 K (.type "list") (.type "tuple")=some false
 ktl:be7 K (.type "tuple") (.type "list")=some false
 klb:be7 K (.type "list") (.type "bool")=some false
 kbt:be7 K (.type "bool") (.type "tuple")=some false
 kit:be7 K (.type "int") (.type "tuple")=some false
 kss:be7 K (.type "str") (.type "str")=some true
 knb:be7 K (.type "NoneType") (.type "bool")=some false
 kni:be7 K (.type "NoneType") (.type "int")=some false
 kbi:be7 K (.type "bool") (.type "int")=some true
def kje:Sp:=fun vs H Q q_=>∃c:Int,vs=[.int c]∧∀(r:Int) H',Same H H'→Q (.int r) H'
def kgu (K:ba0):Sp:=fun vs H Q q_=>∃(a:Addr) (ns:List Int) (k:Nat),vs=[.ref a,.int (k:Int)]∧SqL K H a (ns.map V.int)∧∀(r:Int) H',Same H H'→Q (.int r) H'
def kkh:Sp:=fun vs H Q q_=>∃i:Int,vs=[.int i]∧Q (.bl true) H
def kl9:Sp:=fun vs H Q q_=>∃c k b:Int,vs=[.int c,.int k,.int b]∧0 < b∧∀r:Int,0≤r→r < b→Q (.int r) H
def kyb (K:ba0):Sp:=fun vs H Q q_=>∃(v:V) (n:Int) (ps:List (Int×Int)) (a b:Int),vs=[v,.int a,.int b]∧Rp K H v (spD n ps)∧∀(r:Bool) H',Same H H'→(r=true↔kjq ps a b)→Q (.bl r) H'
def kfp (K:ba0):Sp:=fun vs H Q q_=>∃(m:Nat) (p:Addr) (xs:List V) (ps:List (Int×Int)),vs=[.int (m:Int),.ref p]∧m≤16∧H p=some (.lst xs)∧RpAll K H xs (ps.map pD)∧
 ∀(v:V) (H':Hp),Same H H'→Rp K H' v (.tuple ((clo m ps).map pD))→Q v H'
def kma (K:ba0) (H:Hp) (t:Int) (Q:VK):Prop:=∀(v:V) (H':Hp) (m:Nat) (ts:List (Int×Int)),Same H H'→1≤m→(m:Int)≤t→IsSp m ts→Rp K H' v (spD m ts)→Q v H'
def knc (K:ba0):Sp:=fun vs H Q q_=>∃c t:Int,vs=[.int c,.int t]∧1≤t∧t≤16∧kma K H t Q
def kki (K:ba0):Sp:=fun vs H Q q_=>∃(a:Addr) (ns:List Int) (k:Nat) (t:Int),vs=[.ref a,.int (k:Int),.int t]∧SqL K H a (ns.map V.int)∧1≤t∧t≤16∧kma K H t Q
section
variable {P:bb8} {w:World} {K:ba0} {mg:Str→Option Value} {base:Heap}
theorem kgv:FnScope ["cell","found","factor","mixed"] ["cell"] (kag kx5):=⟨rfl,rfl,rfl,by decide +kernel,rfl,by decide +kernel,by decide +kernel⟩
theorem kyc {f:Addr} {fd:bf0} (F:Fun K "_law_stir" "_law_stir" kx5 f fd):FnOk P w K mg base CX0 1 f fd ["cell"] kje:=by
 refine F.ok kgv (fun vs H Q E h=> ?_) (fun cdv A outer s H vs Q E hr h=> ?_)
 · obtain ⟨c,rfl,_⟩:=h;rfl
 · obtain ⟨c,rfl,k⟩:=h
   refine ⟨_,kau (ka9 (i:=1) kgv.nd rfl (bo2 rfl) kav)
    (kau (kdd bf7 rfl (kvu (kff (kad kav (kad kav (kad kav (kad kav kal)))))) (kbh (i:=2) kgv.nd rfl (bo2 rfl))
      (kau (ka9 (i:=3) kgv.nd rfl (bo2 rfl) (ka1 kci (ka1 kd4 (ka1 kde (pv 0) (pv 2)) kav) kav))
      (kau (ka9 (i:=3) kgv.nd rfl (bo2 rfl) (ka1 kci (ka1 kde (ka1 kci (ka1 kde (pv 3) (pv 3)) kav) kav) kav))
      (kaz (ka9 (i:=1) kgv.nd rfl (bo2 rfl) (ka1 kd4 (ka1 kde (pv 1) (ka1 kzu kav kav)) (ka1 kcd (pv 3) kav)))))))
    (kaz (kb6 (pv 1)))),?_⟩
   refine ⟨kjd (by show 4≤100000;decide),fun p hp=>⟨p,rfl,⟨_,SqL.of kaf⟩,krx (K:=K) (a:=p) (xs:=[.int 48271,.int 69621,.int 39373,.int 44488])
    (fun i σ H2=>∃(r:Int) (f m:Option V),σ=[some (.int c),some (.int r),f,m]∧H2=upd H p (.lst [.int 48271,.int 69621,.int 39373,.int 44488]))
    ⟨0,none,none,rfl,rfl⟩ (fun i σ H2 _ ⟨_,_,_,_,e⟩=>by rw [e];exact SqL.of kaf) ?_ ?_⟩⟩
   · rintro i y σ H2 hi ⟨r,f,m,rfl,rfl⟩
     obtain ⟨z,rfl,hz1,hz2⟩: ∃z:Int,y= .int z∧0 < z∧z < 2 ^ 32:=by
      have hm:=be2 hi
      simp only [bc7,bm1,or_false] at hm
      rcases hm with rfl | rfl | rfl | rfl <;> exact ⟨_,rfl,by decide,by decide⟩
     refine ⟨_,rfl,_,rfl,_,_,rfl,rfl,.inr ⟨by lia,by lia⟩,_,_,rfl,rfl,_,_,rfl,rfl,(by show (0:Int) < 2147483647;decide),?_⟩
     refine ⟨_,rfl,_,rfl,_,_,rfl,rfl,.inl (modB _ _ (by decide) (by decide)),_,_,rfl,rfl,(by show (0:Int) < 2147483647;decide),_,_,rfl,rfl,.inr ⟨by decide,by decide⟩,_,_,rfl,rfl,(by show (0:Int) < 2147483399;decide),?_⟩
     refine ⟨_,rfl,_,_,rfl,rfl,⟨by decide,by decide,by decide⟩,_,_,rfl,rfl,.inr ⟨by decide,by decide⟩,_,rfl,_,_,rfl,rfl,⟨by decide,by decide⟩,_,_,rfl,rfl,?_⟩
     exact ⟨_,_,_,rfl,rfl⟩
   · rintro σ H2 ⟨r,f,m,rfl,rfl⟩
     exact ⟨_,rfl,k r _ (Same.new hp)⟩
theorem k1k:FnScope ["script","k"] ["script","k"] (kag kx6):=⟨rfl,rfl,rfl,by decide +kernel,rfl,by decide +kernel,by decide +kernel⟩
theorem kyd {f:Addr} {fd:bf0} (F:Fun K "_law_cell" "_law_cell" kx6 f fd) (T:Txt K mg) (GS:Fn P w K mg base "_law_stir" 1 ["cell"] kje):FnOk P w K mg base CX0 2 f fd ["script","k"] (kgu K):=by
 refine F.ok k1k (fun vs H Q E h=> ?_) (fun cdv A outer s H vs Q E hr h=> ?_)
 · obtain ⟨a,ns,k,rfl,_⟩:=h;rfl
 · obtain ⟨a,ns,j,rfl,hS,k⟩:=h
   refine ⟨_,kau (kjt (kdh kry (pv 1) (kbe kb7 (by rfl) T.len kl8 (kad (pv 0) kal)) (kdg _)) (kaz (kb6 (kfj GS hr (kad (kd1 kbx (pv 0) (pv 1) (fun q_ q_=>rfl)) kal)))) kea)
    (kaz (kb6 (kfj GS hr (kad kav kal)))),?_⟩
   refine ⟨_,rfl,_,rfl,a,_,rfl,.inl hS,_,_,rfl,rfl,_,rfl,?_⟩
   refine kfg (fun e=> ?_) (fun e=> ?_)
   · have hj:j < ns.length:=by
      have:=of_decide_eq_true e
      rw [ba3] at this
      lia
     refine ⟨_,rfl,_,rfl,a,_,_,_,rfl,rfl,hS,kb2 (j:=j) (v:= .int ns[j]) (by simp [hj]),?_⟩
     exact ⟨_,rfl,k⟩
   · exact ⟨0,rfl,k⟩
theorem scRaw:FnScope ["script","k"] ["script","k"] (kag sRaw):=⟨rfl,rfl,rfl,by decide +kernel,rfl,by decide +kernel,by decide +kernel⟩
theorem k1l {f:Addr} {fd:bf0} (F:Fun K "_law_raw" "_law_raw" sRaw f fd) (T:Txt K mg):FnOk P w K mg base CX0 1 f fd ["script","k"] (kgu K):=by
 refine F.ok scRaw (fun vs H Q E h=> ?_) (fun cdv A outer s H vs Q E hr h=> ?_)
 · obtain ⟨a,ns,k,rfl,_⟩:=h;rfl
 · obtain ⟨a,ns,j,rfl,hS,k⟩:=h
   refine ⟨_,kau (kjt (kdh kry (pv 1) (kbe kb7 (by rfl) T.len kl8 (kad (pv 0) kal)) (kdg _)) (kaz (kb6 (kd1 kbx (pv 0) (pv 1) (fun q_ q_=>rfl)))) kea)
    (kaz (kb6 kav)),?_⟩
   refine ⟨_,rfl,_,rfl,a,_,rfl,.inl hS,_,_,rfl,rfl,_,rfl,?_⟩
   refine kfg (fun e=> ?_) (fun e=> ?_)
   · have hj:j < ns.length:=by
      have:=of_decide_eq_true e
      rw [ba3] at this
      lia
     exact ⟨_,rfl,_,rfl,a,_,_,_,rfl,rfl,hS,kb2 (j:=j) (v:= .int ns[j]) (by simp [hj]),k _ _ (Same.refl _)⟩
   · exact k _ _ (Same.refl _)
theorem kye:FnScope ["found"] ["found"] (kag kp8):=⟨rfl,rfl,rfl,by decide +kernel,rfl,by decide +kernel,by decide +kernel⟩
theorem kte {f:Addr} {fd:bf0} (F:Fun K "_law_whole" "_law_whole" kp8 f fd) (T:Txt K mg):FnOk P w K mg base CX0 1 f fd ["found"] kkh:=by
 refine F.ok kye (fun vs H Q E h=> ?_) (fun cdv A outer s H vs Q E hr h=> ?_)
 · obtain ⟨i,rfl,_⟩:=h;rfl
 · obtain ⟨i,rfl,k⟩:=h
   refine ⟨_,kaz (kb6 (knq (kbe kee (by rfl) T.isi ku2 (kad (pv 0) (kad (kjs (v:= .ty "int") (by rfl) T.int ku1 rfl) kal)))
    (kky (kzm (kbe kee (by rfl) T.isi ku2 (kad (pv 0) (kad (kjs (v:= .ty "bool") (by rfl) T.bool kx9 rfl) kal))))))),?_⟩
   refine ⟨_,rfl,_,_,_,_,rfl,TyOf.int i,T.kii,_,rfl,?_⟩
   exact ⟨_,rfl,_,_,_,_,rfl,TyOf.int i,T.kib,_,rfl,k⟩
theorem kmb:FnScope ["cell","k","bound","stir"] ["cell","k","bound"] (kag kx7):=⟨rfl,rfl,rfl,by decide +kernel,rfl,by decide +kernel,by decide +kernel⟩
theorem kyf {f:Addr} {fd:bf0} (F:Fun K "_law_draw" "_law_draw" kx7 f fd):FnOk P w K mg base CX0 1 f fd ["cell","k","bound"] kl9:=by
 refine F.ok kmb (fun vs H Q E h=> ?_) (fun cdv A outer s H vs Q E hr h=> ?_)
 · obtain ⟨c,k,b,rfl,_⟩:=h;rfl
 · obtain ⟨c,j,b,rfl,hb,k⟩:=h
   refine ⟨_,kau (ka9 (i:=3) kmb.nd rfl (bo2 rfl) (ka1 kci (ka1 kd4 (ka1 kd4 (ka1 kci (pv 0) kav) kav) (ka1 kde (pv 1) kav)) kav))
    (kau (ka9 (i:=3) kmb.nd rfl (bo2 rfl) (ka1 kci (ka1 kde (ka1 kci (ka1 kde (pv 3) (pv 3)) kav) kav) kav))
    (kau (ka9 (i:=3) kmb.nd rfl (bo2 rfl) (ka1 kci (ka1 kde (ka1 kci (ka1 kde (pv 3) (pv 3)) kav) kav) kav))
    (kaz (kb6 (ka1 kci (ka1 kcd (pv 3) kav) (pv 2)))))),?_⟩
   refine ⟨_,rfl,_,_,rfl,rfl,(by show (0:Int) < 2147483629;decide),_,_,rfl,rfl,_,rfl,_,_,rfl,rfl,.inr ⟨by decide,by decide⟩,_,_,rfl,rfl,_,_,rfl,rfl,(by show (0:Int) < 2147483647;decide),?_⟩
   refine ⟨_,rfl,_,rfl,_,_,rfl,rfl,.inl (modB _ _ (by decide) (by decide)),_,_,rfl,rfl,(by show (0:Int) < 2147483647;decide),_,_,rfl,rfl,.inr ⟨by decide,by decide⟩,_,_,rfl,rfl,(by show (0:Int) < 2147483629;decide),?_⟩
   refine ⟨_,rfl,_,rfl,_,_,rfl,rfl,.inl (modB _ _ (by decide) (by decide)),_,_,rfl,rfl,(by show (0:Int) < 2147483629;decide),_,_,rfl,rfl,.inr ⟨by decide,by decide⟩,_,_,rfl,rfl,(by show (0:Int) < 2147483399;decide),?_⟩
   refine ⟨_,rfl,_,_,rfl,rfl,⟨by decide,by decide⟩,_,rfl,_,_,rfl,rfl,hb,?_⟩
   exact k _ (bz2 _ (cn1 hb)) (bt7 _ hb)
end
noncomputable def kne (m:Nat) (t:Rel) (i:Nat):List V:=(ba5 m).map fun (j:Nat)=>V.bl (t i j)
theorem ktf (m:Nat) (t:Rel) (i:Nat):(kne m t i).length=m:=by unfold kne;simp
noncomputable def ku3 (t:Rel) (a b:Nat):Rel:=fun x y=>if x=a∧y=b then true else t x y
theorem ktg {m:Nat} {t:Rel} {a b:Nat}:(kne m t a).set b (V.bl true)=kne m (ku3 t a b) a:=by
 refine bs1 fun i=> ?_
 unfold kne
 rw [bv1]
 by_cases hi:b=i
 · subst hi
   rw [if_pos rfl]
   by_cases hb:b < m
   · simp [hb,ku3]
   · simp [hb]
 · rw [if_neg hi]
   by_cases hm:i < m
   · have: ¬i=b:=fun z=>hi z.symm
     simp [hm,ku3,this]
   · simp [hm]
theorem knf {m:Nat} {t:Rel} {a b i:Nat} (h:i≠a):kne m (ku3 t a b) i=kne m t i:=by
 unfold kne ku3
 exact bi8 fun j q_=>by simp [h]
structure Tb (H0 H:Hp) (D:Addr) (rs:List Addr) (m:Nat) (t:Rel):Prop where
 same:Same H0 H
 out:H0 D=none
 tab:H D=some (.lst (rs.map V.ref))
 nD: ∀r∈rs,r≠D
 nd:rs.Nodup
 row: ∀(i:Nat) (r:Addr),rs[i]?=some r→H0 r=none∧H r=some (.lst (kne m t i))
theorem Tb.mono {H0 H H':Hp} {D:Addr} {rs:List Addr} {m:Nat} {t:Rel} (b:Tb H0 H D rs m t) (s:Same H H'):Tb H0 H' D rs m t:=
 ⟨b.same.trans s,b.out,s _ _ b.tab,b.nD,b.nd,fun i r hr=>let ⟨h1,h2⟩:=b.row i r hr;⟨h1,s _ _ h2⟩⟩
theorem Tb.put {H0 H:Hp} {D:Addr} {rs:List Addr} {m:Nat} {t:Rel} {l:Addr} {o:HO} (b:Tb H0 H D rs m t) (h0:H0 l=none) (h1:D≠l) (h2: ∀r∈rs,r≠l):Tb H0 (upd H l o) D rs m t:=
 ⟨b.same.put h0,b.out,by rw [kak h1];exact b.tab,b.nD,b.nd,fun i r hr=>let ⟨h3,h4⟩:=b.row i r hr;⟨h3,by rw [kak (h2 r (be2 hr))];exact h4⟩⟩
theorem kqe {os:List Addr} (nd:os.Nodup) {i j:Nat} {x:Addr} (h:os[i]?=some x) (h':os[j]?=some x):i=j:=by
 obtain ⟨hi,ei⟩:=bb1.mp h
 obtain ⟨hj,ej⟩:=bb1.mp h'
 have pw:=bd0.mp nd
 rcases bl3 i j with z | z | z
 · exact absurd (ei.trans ej.symm) (pw i j hi hj z)
 · exact z
 · exact absurd (ej.trans ei.symm) (pw j i hj hi z)
theorem Tb.set {H0 H:Hp} {D:Addr} {rs:List Addr} {m:Nat} {t:Rel} {r:Addr} {a b:Nat} (x:Tb H0 H D rs m t) (hr:rs[a]?=some r):Tb H0 (upd H r (.lst ((kne m t a).set b (V.bl true)))) D rs m (ku3 t a b):=by
 have hm:=be2 hr
 refine ⟨x.same.put (x.row a r hr).1,x.out,by rw [kak (x.nD r hm).symm];exact x.tab,x.nD,x.nd,fun i q hq=>⟨(x.row i q hq).1,?_⟩⟩
 by_cases e:q=r
 · subst e
   have:=kqe x.nd hq hr
   subst this
   rw [kaf,ktg]
 · have ne:i≠a:=fun z=>by subst z;rw [hr] at hq;cases hq;exact e rfl
   rw [kak e,knf ne]
   exact (x.row i q hq).2
theorem Tb.at {H0 H:Hp} {D:Addr} {rs:List Addr} {m:Nat} {t:Rel} (x:Tb H0 H D rs m t) (hm:rs.length=m) {a:Nat} (ha:a < m): ∃r,rs[a]?=some r∧atI (rs.map V.ref) (a:Int)=some (.ref r)∧H r=some (.lst (kne m t a))∧∀b:Nat,b < m→atI (kne m t a) (b:Int)=some (.bl (t a b)):=by
 have ha':a < rs.length:=by lia
 refine ⟨rs[a],by simp [ha'],kb2 (by simp [ha']),(x.row a rs[a] (by simp [ha'])).2,fun b hb=>kb2 ?_⟩
 unfold kne
 simp [hb]
theorem kyg {t:Rel} {k a b:Nat} (h1:t a k=true) (h2:t k b=true):stp t k a b=ku3 t a b:=by
 unfold stp ku3
 rw [h1,h2]
 rfl
theorem kth {t:Rel} {k a b:Nat} (h1: ¬t a k=true):stp t k a b=t:=by
 unfold stp
 rw [b68.mpr h1]
 rfl
theorem kti {t:Rel} {k a b:Nat} (h1: ¬t k b=true):stp t k a b=t:=by
 unfold stp
 rw [b68.mpr h1,b09]
 rfl
theorem kjf {t:Rel} {a j:Nat}:(((ba5 (j + 1)).filter (t a)).map fun (b:Nat)=>((a:Int),(b:Int)))=(((ba5 j).filter (t a)).map fun (b:Nat)=>((a:Int),(b:Int)))++(if t a j=true then [((a:Int),(j:Int))] else []):=by
 rw [bn3,bp0,bi5]
 congr 1
 by_cases h:t a j=true
 · rw [if_pos h,bl2 h];rfl
 · rw [if_neg h,bn1 h];rfl
section
variable {P:bb8} {w:World} {K:ba0} {mg:Str→Option Value} {base:Heap}
theorem nd1:(["a","many","pairs"]:List Str).Nodup:=by decide +kernel
theorem nd2:(["b","a","pairs"]:List Str).Nodup:=by decide +kernel
theorem nd3:(["b","a","table"]:List Str).Nodup:=by decide +kernel
theorem kda:FnScope ["many","pairs","table","k","a","b","found"] ["many","pairs"] (kag kkg):=⟨rfl,rfl,rfl,by decide +kernel,rfl,by decide +kernel,by decide +kernel⟩
abbrev Cl1 (H:Hp) (D p:Addr) (m:Nat) (ps:List (Int×Int)) (i:Nat) (σ:St) (acc:List V) (H1:Hp):Prop:=∃(rs:List Addr) (va:Option V),σ=[va,some (.int m),some (.ref p)]∧acc=rs.map V.ref∧Tb H H1 D rs m (t0 ps)∧rs.length=i
abbrev Cl2 (H1:Hp) (D2 p:Addr) (ps:List (Int×Int)) (i j:Nat) (σ2:St) (acc2:List V) (H2:Hp):Prop:=∃(vb:Option V),σ2=[vb,some (.int i),some (.ref p)]∧acc2=((ba5 j).map fun (y:Nat)=>V.bl (t0 ps i y))∧Same H1 H2∧H2 D2=some (.lst acc2)
abbrev Cl3 (H:Hp) (D p:Addr) (m:Nat) (rs:List Addr) (ps:List (Int×Int)) (i:Nat) (σ:St) (H2:Hp):Prop:=∃vk va vb,σ=[some (.int m),some (.ref p),some (.ref D),vk,va,vb,none]∧Tb H H2 D rs m (w1 m (t0 ps) i)
abbrev Cl4 (H:Hp) (D p:Addr) (m:Nat) (rs:List Addr) (ps:List (Int×Int)) (kk:Nat) (i:Nat) (σ:St) (H3:Hp):Prop:=∃va vb,σ=[some (.int m),some (.ref p),some (.ref D),some (.int kk),va,vb,none]∧Tb H H3 D rs m (w2 m (w1 m (t0 ps) kk) kk i)
abbrev Cl5 (H:Hp) (D p:Addr) (m:Nat) (rs:List Addr) (ps:List (Int×Int)) (kk aa:Nat) (i:Nat) (σ:St) (H4:Hp):Prop:=∃vb,σ=[some (.int m),some (.ref p),some (.ref D),some (.int kk),some (.int aa),vb,none]∧Tb H H4 D rs m (w3 (w2 m (w1 m (t0 ps) kk) kk aa) kk aa i)
abbrev Cl6 (K:ba0) (H:Hp) (D p fl:Addr) (m:Nat) (rs:List Addr) (vk vb:Option V) (cl:Nat→Nat→Bool) (i:Nat) (σ:St) (H3:Hp):Prop:=∃(va:Option V) (ws:List V),σ=[some (.int m),some (.ref p),some (.ref D),vk,va,vb,some (.ref fl)]∧Tb H H3 D rs m cl∧H3 fl=some (.lst ws)∧RpAll K H3 ws (((ba5 i).flatMap (kcv m cl)).map pD)
set_option maxHeartbeats 16000000 in
theorem kqf {f:Addr} {fd:bf0} (F:Fun K "_law_closed" "_law_closed" kkg f fd) (T:Txt K mg):FnOk P w K mg base CX0 1 f fd ["many","pairs"] (kfp K):=by
 refine F.ok kda (fun vs H Q E h=> ?_) (fun cdv A outer s H vs Q E hr h=> ?_)
 · obtain ⟨m,p,xs,ps,rfl,_⟩:=h;rfl
 · obtain ⟨m,p,xs,ps,rfl,hm,hp,hps,k⟩:=h
   refine ⟨_,kau (ka9 (i:=2) kda.nd rfl (cj3 rfl) (kfl (N':=["a","many","pairs"]) rfl (.own (.cap 0 rfl rfl rfl (.cap 1 rfl rfl rfl .nil))) (ka8 (by rfl) T.range (kad (pv 0) kal))
    (fun s H fp=>kbh (i:=0) nd1 rfl (cj3 rfl)) (fun s H fp=>kjw)
    (fun s H fp=>kfl (N':=["b","a","pairs"]) rfl (.own (.cap 0 rfl rfl rfl (.cap 2 rfl rfl rfl .nil))) (ka8 (by rfl) T.range (kad (pv 1) kal))
      (fun s H fp=>kbh (i:=0) nd2 rfl (bo2 rfl)) (fun s H fp=>kjw)
      (fun s H fp=>knq (keu (kub K (ka5 hr (by decide))) (kfe (kad (pv 1) (kad (pv 0) kal))) (pv 2) rfl) (kky (keu op_ne (pv 1) (pv 0) (kdg _)))))))
    (kau (kdd bf7 rfl (ka8 (by rfl) T.range (kad (pv 0) kal)) (kbh (i:=3) kda.nd rfl (bo2 rfl))
      (kaz (kdd bf7 rfl (ka8 (by rfl) T.range (kad (pv 0) kal)) (kbh (i:=4) kda.nd rfl (cj3 rfl))
        (kaz (kdd bf7 rfl (ka8 (by rfl) T.range (kad (pv 0) kal)) (kbh (i:=5) kda.nd rfl (bo2 rfl))
          (kaz (kjt (kkx (kkw (kd1 kbx (kd1 kbx (pv 2) (pv 4) (fun q_ q_=>rfl)) (pv 3) (fun q_ q_=>rfl))) (kg1 (kkw (kd1 kbx (kd1 kbx (pv 2) (pv 3) (fun q_ q_=>rfl)) (pv 5) (fun q_ q_=>rfl))))).pt
            (kaz (kzs kzh (kzq (kd1 kbx (pv 2) (pv 4) (fun q_ q_=>rfl)) (pv 5) kr1))) kea)))))))
    (kau (ka9 (i:=6) kda.nd rfl (bo2 rfl) (kff kal))
    (kau (kdd bf7 rfl (ka8 (by rfl) T.range (kad (pv 0) kal)) (kbh (i:=4) kda.nd rfl (cj3 rfl))
      (kaz (kdf (kik bh7 PySem.F.slot_list_extend PySem.F.type_list_extend kn7 (pv 6)
        (kad (kfl (N':=["b","a","table"]) rfl (.own (.cap 4 rfl rfl rfl (.cap 2 rfl rfl rfl .nil))) (ka8 (by rfl) T.range (kad (pv 0) kal))
          (fun s H fp=>kbh (i:=0) nd3 rfl (bo2 rfl)) (fun s H fp=>koa (kkw (kd1 (kk6 K) (kd1 (kk6 K) (pv 2) (pv 1) (fun q_ q_=>rfl)) (pv 0) (fun q_ q_=>rfl))))
          (fun s H fp=>kfe (kad (pv 1) (kad (pv 0) kal)))) kal)))))
    (kaz (kb6 (kbw ken (by rfl) T.tuple kl7 (kad (pv 6) kal))))))),?_⟩
   try dsimp only [kn3]
   refine ⟨_,rfl,(m:Int),rfl,by lia,by lia,fun D hD=> ?_⟩
   refine kf8 (n:=m) (Cl1 H D p m ps) ⟨[],none,rfl,rfl,⟨Same.new hD,hD,kaf,(fun r hr=>nomatch hr),bw2,(fun i r hr=>by simp at hr)⟩,rfl⟩ ?_ ?_
   · rintro i σ acc H1 hi ⟨rs,va,rfl,rfl,t,hl⟩
     refine ⟨_,rfl,(m:Int),rfl,by lia,by lia,fun D2 hD2=> ?_⟩
     refine kf8 (n:=m) (Cl2 H1 D2 p ps i) ⟨none,rfl,rfl,Same.new hD2,kaf⟩ ?_ ?_
     · rintro j σ2 acc2 H2 hj ⟨vb,rfl,rfl,s2,h2⟩
       refine ⟨_,rfl,_,rfl,kjd (by show 2≤100000;decide),fun q hq=> ?_⟩
       have s3:Same H (upd H2 q (.tup [.int (i:Int),.int (j:Int)])):=t.same.trans (s2.trans (Same.new hq))
       have fin: ∀c:Bool,c=t0 ps i j→(upd H2 q (.tup [.int (i:Int),.int (j:Int)])) D2=some (.lst ((ba5 j).map fun (y:Nat)=>V.bl (t0 ps i y)))∧((ba5 j).map fun (y:Nat)=>V.bl (t0 ps i y)).length < sizeLine∧Cl2 H1 D2 p ps i (j + 1) [some (V.int j),some (V.int i),some (V.ref p)] (((ba5 j).map fun (y:Nat)=>V.bl (t0 ps i y))++[V.bl c]) (upd (upd H2 q (.tup [.int (i:Int),.int (j:Int)])) D2 (.lst (((ba5 j).map fun (y:Nat)=>V.bl (t0 ps i y))++[V.bl c]))):=fun c hc=>
        ⟨by rw [kak (kai h2 hq)];exact h2,kx8 (by rw [ba3,bg2];lia),_,rfl,by rw [hc,bn3,bi5];rfl,(s2.trans (Same.new hq)).put hD2,kaf⟩
       refine ⟨_,rfl,p,xs,ps.map pD,pD ((i:Int),(j:Int)),rfl,.inl (SqL.of (s3 _ _ hp)),RpAll.same s3 hps,kjc kaf,kdr ps,rfl,bj2 (kl6 ((i:Int),(j:Int))) (by decide),_,rfl,?_⟩
       rw [kqb]
       refine kfg (fun e=> ?_) (fun e=>fin false ?_)
       · refine ⟨_,rfl,_,rfl,rfl,fin _ ?_⟩
         have e:=of_decide_eq_true e
         unfold t0
         by_cases hij:i=j
         · subst hij;simp
         · have h1: ¬(V.int (i:Int)=V.int (j:Int)):=fun z=>hij (bv3 (V.int.inj z))
           rw [decide_eq_false h1,decide_eq_true (show ((i:Int),(j:Int))∈ps∧i≠j from ⟨e,hij⟩)]
           rfl
       · unfold t0
         rw [decide_eq_false]
         intro z
         exact e (decide_eq_true z.1)
     · rintro σ2 acc2 H2 ⟨vb,rfl,rfl,s2,h2⟩
       have hDD:D≠D2:=kai t.tab hD2
       have t2:=t.mono s2
       have nw: ∀r∈rs,r≠D2:=fun r hr=>by
        obtain ⟨z,hz⟩:=bm5.mp hr
        exact kai (t.row z r hz).2 hD2
       refine ⟨t2.tab,kx8 (by rw [ba3];lia),rs++[D2],_,rfl,by simp,⟨t2.same.put hD,hD,by rw [kaf];simp,fun r hr=> ?_,?_,fun z r hr=> ?_⟩,by simp [hl]⟩
       · rcases be9.mp hr with z | z
         · exact t.nD r z
         · rw [bc2.mp z];exact hDD.symm
       · refine bs2.mpr ⟨t.nd,by simp,fun a ha b hb=> ?_⟩
         rw [bc2.mp hb]
         exact nw a ha
       · by_cases hz:z < rs.length
         · rw [bc3 hz] at hr
           obtain ⟨h3,h4⟩:=t2.row z r hr
           exact ⟨h3,by rw [kak (t.nD r (be2 hr))];exact h4⟩
         · rw [bb5 (by lia)] at hr
           have hz0:z - rs.length=0:=by
            have:=(bb1.mp hr).1
            simp at this;lia
           rw [hz0] at hr
           have hr:D2=r:=by simpa using hr
           subst hr
           have:z=i:=by lia
           subst this
           exact ⟨t.same.free hD2,by rw [kak hDD.symm];exact h2⟩
   rintro σ acc H1 ⟨rs,va,rfl,rfl,t,hl⟩
   refine ⟨_,rfl,(m:Int),rfl,by lia,by lia,kbg (n:=m) (Cl3 H D p m rs ps) ⟨none,none,none,rfl,t⟩ ?_ ?_⟩
   · rintro kk σ H2 hk ⟨vk,va,vb,rfl,t2⟩
     refine ⟨_,rfl,(m:Int),rfl,by lia,by lia,kbg (n:=m) (Cl4 H D p m rs ps kk) ⟨va,vb,rfl,t2⟩ ?_ ?_⟩
     · rintro aa σ H3 ha ⟨va,vb,rfl,t3⟩
       refine ⟨_,rfl,(m:Int),rfl,by lia,by lia,kbg (n:=m) (Cl5 H D p m rs ps kk aa) ⟨vb,rfl,t3⟩ ?_ ?_⟩
       · rintro bb σ H4 hb ⟨vb,rfl,t4⟩
         obtain ⟨ra,hra,ea,ha4,ga⟩:=t4.at hl ha
         obtain ⟨rk,hrk,ek,hk4,gk⟩:=t4.at hl hk
         have e1:=ga kk hk
         have e2:=gk bb hb
         refine ⟨_,rfl,_,rfl,D,_,_,_,rfl,rfl,SqL.of t4.tab,ea,_,rfl,ra,_,_,_,rfl,rfl,SqL.of ha4,e1,_,rfl,?_⟩
         refine kfg (fun c1=> ?_) (fun c1=>⟨_,rfl,?_⟩)
         · refine ⟨_,rfl,_,rfl,D,_,_,_,rfl,rfl,SqL.of t4.tab,ek,_,rfl,rk,_,_,_,rfl,rfl,SqL.of hk4,e2,_,rfl,?_⟩
           refine kfg (fun c2=> ?_) (fun c2=>⟨_,rfl,?_⟩)
           · refine ⟨_,rfl,_,rfl,D,_,_,_,rfl,rfl,SqL.of t4.tab,ea,_,rfl,ra,_,_,bb,rfl,rfl,ha4,kya (by rw [ktf];lia),?_⟩
             refine ⟨_,rfl,?_⟩
             show Tb H _ D rs m (stp _ kk aa bb)
             rw [kyg c1 c2]
             exact t4.set hra
           · show Tb H H4 D rs m (stp _ kk aa bb)
             rw [kti c2]
             exact t4
         · show Tb H H4 D rs m (stp _ kk aa bb)
           rw [kth c1]
           exact t4
       · rintro σ H4 ⟨vb,rfl,t4⟩
         exact ⟨_,_,rfl,t4⟩
     · rintro σ H3 ⟨va,vb,rfl,t3⟩
       exact ⟨_,_,_,rfl,t3⟩
   rintro σ H2 ⟨vk,va,vb,rfl,t2⟩
   generalize hcl:w1 m (t0 ps) m=cl at t2
   refine ⟨kjd (by show 0≤100000;decide),fun fl hf=> ?_⟩
   have t3:Tb H (upd H2 fl (.lst [])) D rs m cl:=t2.mono (Same.new hf)
   have nfD:D≠fl:=kai t2.tab hf
   have nfr: ∀r∈rs,r≠fl:=fun r hr=>by
    obtain ⟨z,hz⟩:=bm5.mp hr
    exact kai (t2.row z r hz).2 hf
   have hf0:H fl=none:=t2.same.free hf
   refine ⟨_,rfl,(m:Int),rfl,by lia,by lia,kbg (n:=m) (Cl6 K H D p fl m rs vk vb cl)
    ⟨va,[],rfl,t3,kaf,.nil⟩ ?_ ?_⟩
   · rintro aa σ H3 ha ⟨va,ws,rfl,t4,h4,r4⟩
     refine ⟨_,rfl,.inl ⟨rfl,_,SqL.of h4⟩,_,rfl,(m:Int),rfl,by lia,by lia,fun D2 hD2=> ?_⟩
     have l4:=kc8 m cl aa
     have hmm:aa * m≤16 * 16:=bp7 (by lia) hm
     refine kf8 (n:=m) (fun j σ2 acc H5=>∃(vb:Option V),σ2=[vb,some (.int aa),some (.ref D)]∧Same H3 H5∧H5 D2=some (.lst acc)∧RpAll K H5 acc ((((ba5 j).filter (cl aa)).map fun (b:Nat)=>((aa:Int),(b:Int))).map pD)∧acc.length≤j)
      ⟨none,rfl,Same.new hD2,kaf,.nil,bf4 _⟩ ?_ ?_
     · rintro j σ2 acc H5 hj ⟨vb2,rfl,s5,h5,r5,l5⟩
       have t5:=t4.mono s5
       obtain ⟨ra,hra,ea,ha4,ga⟩:=t5.at hl ha
       refine ⟨_,rfl,_,rfl,D,_,_,_,rfl,rfl,SqL.of t5.tab,ea,_,rfl,ra,_,_,_,rfl,rfl,SqL.of ha4,ga j hj,_,rfl,?_⟩
       refine kfg (fun c=> ?_) (fun c=>⟨_,rfl,s5,h5,?_,by lia⟩)
       · refine ⟨_,rfl,_,rfl,kjd (by show 2≤100000;decide),fun q hq=> ?_⟩
         refine ⟨by rw [kak (kai h5 hq)];exact h5,kx8 (by lia),_,rfl,(s5.trans (Same.new hq)).put hD2,kaf,?_,?_⟩
         · rw [kjf,if_pos c,bi5]
           have hl5:(upd H5 q (HO.tup [V.int aa,V.int j])) D2=some (.lst acc):=by rw [kak (kai h5 hq)];exact h5
           exact RpAll.append (RpAll.keep ((TK.new hq).trans (TK.lst hl5)) r5 (kb9 _)) (.one (kjc (by rw [kak (kai h5 hq).symm];exact kaf)))
         · rw [ba6,bh8];lia
       · rw [kjf,if_neg c,be4]
         exact r5
     · rintro σ2 acc H5 ⟨vb2,rfl,s5,h5,r5,l5⟩
       have wl:ws.length=((ba5 aa).flatMap (kcv m cl)).length:=by rw [r4.len,ba3]
       have h6:=s5 _ _ h4
       refine ⟨fl,D2,ws,acc,rfl,rfl,h6,h5,kjd (by lia),_,ws++acc,rfl,(t4.mono s5).put hf0 nfD nfr,kaf,?_⟩
       rw [bn3,bs5,bi5]
       simp only [b05,b28,be4]
       exact RpAll.append (RpAll.keep (s5.tk.trans (TK.lst h6)) r4 (kb9 _)) (RpAll.keep (TK.lst h6) r5 (kb9 _))
   · rintro σ H3 ⟨va,ws,rfl,t4,h4,r4⟩
     refine ⟨_,rfl,fl,ws,rfl,.inl ⟨SqL.of h4,fun l hl=> ?_⟩⟩
     refine k _ _ (t4.same.trans (Same.new hl)) (.tup kaf (RpAll.keep (TK.new hl) ?_ (kb9 _)))
     show RpAll K H3 ws ((kab m (w1 m (t0 ps) m)).map pD)
     rw [hcl]
     exact r4
end
theorem kmc (c t:Int) (h1:1≤t) (h2:t≤16): ∃m:Nat,1 + c % t=(m:Int)∧1≤m∧(m:Int)≤t:=by
 have a:=bz2 c (show t≠0 by lia)
 have b:=bt7 c (show 0 < t by lia)
 exact ⟨(1 + c % t).toNat,by lia,by lia,by lia⟩
theorem khh {os:List Int} {ps:List (Int×Int)} {i j:Nat} (h: ∀q∈ps,Up os q) (hji:j < i) (hj:j < os.length) (hi:i < os.length): ∀q∈ps++[(os[j],os[i])],Up os q:=fun q hq=>by
 rcases be9.mp hq with z | z
 · exact h q z
 · rw [bc2.mp z]
   exact ⟨j,i,hji,by simp [hj],by simp [hi]⟩
theorem kgw: ∀(l:List Int) (k:Nat) (h:k < l.length),(l[k]::l.eraseIdx k).Perm l
 | [],_,h=>absurd h (bo5 _)
 | a::l,0,_=>bj8 _
 | a::l,k + 1,h=>by
   have h':k < l.length:=b94 h
   show (l[k]::a::l.eraseIdx k).Perm (a::l)
   exact (cc2 _ _ _).trans ((kgw l k h').cons a)
structure Two (H0 H:Hp) (fr od:Addr) (m:Nat) (fs os:List Int):Prop where
 same:Same H0 H
 f0:H0 fr=none
 o0:H0 od=none
 ne:fr≠od
 hf:H fr=some (.lst (fs.map V.int))
 ho:H od=some (.lst (os.map V.int))
 rf: ∀x∈fs,0≤x∧x < (m:Int)
 ro: ∀x∈os,0≤x∧x < (m:Int)
 nd:(fs++os).Nodup
theorem khy (m:Nat):(((ba5 m).map fun (i:Nat)=>(i:Int))++[]).Nodup:=by
 rw [be4]
 refine b73 _ (fun a b h=> ?_) bi7
 intro z
 exact h (bv3 z)
theorem kf9 (n:Nat):rangeV 0 n=((ba5 n).map fun (i:Nat)=>(i:Int)).map V.int:=by
 unfold rangeV
 rw [bc1]
 refine bi8 fun i q_=> ?_
 show V.int (0 + (i:Int))=V.int (i:Int)
 rw [b15]
theorem Two.pop {H0 H H':Hp} {fr od:Addr} {m:Nat} {fs os:List Int} (t:Two H0 H fr od m fs os) {k:Nat} (hk:k < fs.length):
 Two H0 (upd (upd H fr (.lst ((fs.map V.int).eraseIdx k))) od (.lst (os.map V.int++[V.int fs[k]]))) fr od m (fs.eraseIdx k) (os++[fs[k]]):=by
 refine ⟨(t.same.put t.f0).put t.o0,t.f0,t.o0,t.ne,?_,?_,fun x hx=>t.rf x (List.mem_of_mem_eraseIdx hx),fun x hx=> ?_,?_⟩
 · rw [kak t.ne,kaf,kfu]
 · rw [kaf];simp
 · rcases be9.mp hx with z | z
   · exact t.ro x z
   · rw [bc2.mp z];exact t.rf _ (be8 hk)
 · have pm:(fs.eraseIdx k++(os++[fs[k]])).Perm (fs++os):=by
    rw [← bc6]
    exact (List.perm_append_singleton _ _).trans ((kgw fs k hk).append_right os)
   exact pm.nodup_iff.mpr t.nd
abbrev Kdg (H:Hp) (t:Int) (m:Nat) (fr od:Addr) (i:Nat) (σ:St) (H3:Hp):Prop:=∃(cc:Int) (vk:Option V) (fs os:List Int),σ=[some (.int cc),some (.int t),some (.int m),some (.ref fr),some (.ref od),vk,none,none,none]∧Two H H3 fr od m fs os∧fs.length + i=m∧os.length=i
abbrev Idg (K:ba0) (H:Hp) (t:Int) (m:Nat) (fr od:Addr) (vk:Option V) (pr:Addr) (os:List Int) (i:Nat) (σ:St) (H4:Hp):Prop:=∃(cc:Int) (vi vj:Option V) (ps:List (Int×Int)) (ws:List V),σ=[some (.int cc),some (.int t),some (.int m),some (.ref fr),some (.ref od),vk,some (.ref pr),vi,vj]∧Same H H4∧H4 od=some (.lst (os.map V.int))∧H4 pr=some (.lst ws)∧RpAll K H4 ws (ps.map pD)∧ps.length≤16 * i∧∀q∈ps,Up os q
abbrev Jdg (K:ba0) (H:Hp) (t:Int) (m:Nat) (fr od:Addr) (vk:Option V) (pr:Addr) (os:List Int) (i:Nat) (j:Nat) (σ:St) (H5:Hp):Prop:=∃(cc:Int) (vj:Option V) (ps:List (Int×Int)) (ws:List V),σ=[some (.int cc),some (.int t),some (.int m),some (.ref fr),some (.ref od),vk,some (.ref pr),some (.int i),vj]∧Same H H5∧H5 od=some (.lst (os.map V.int))∧H5 pr=some (.lst ws)∧RpAll K H5 ws (ps.map pD)∧ps.length≤16 * i + j∧∀q∈ps,Up os q
abbrev Kmx (H:Hp) (c t:Int) (m:Nat) (fr od:Addr) (i:Nat) (σ:St) (H3:Hp):Prop:=∃(vk:Option V) (fs os:List Int),σ=[some (.int c),some (.int t),some (.int m),some (.ref fr),some (.ref od),vk,none,none,none,none,none,none]∧Two H H3 fr od m fs os∧fs.length + i=m∧os.length=i
abbrev Imx (K:ba0) (H:Hp) (c t:Int) (m:Nat) (fr od:Addr) (vk:Option V) (ra rb:Int) (pr:Addr) (os:List Int) (i:Nat) (σ:St) (H4:Hp):Prop:=∃(vi vj vd:Option V) (ps:List (Int×Int)) (ws:List V),σ=[some (.int c),some (.int t),some (.int m),some (.ref fr),some (.ref od),vk,some (.int ra),some (.int rb),some (.ref pr),vi,vj,vd]∧Same H H4∧H4 od=some (.lst (os.map V.int))∧H4 pr=some (.lst ws)∧RpAll K H4 ws (ps.map pD)∧ps.length≤16 * i∧∀q∈ps,Up os q
abbrev Jmx (K:ba0) (H:Hp) (c t:Int) (m:Nat) (fr od:Addr) (vk:Option V) (ra rb:Int) (pr:Addr) (os:List Int) (i:Nat) (j:Nat) (σ:St) (H5:Hp):Prop:=∃(vj vd:Option V) (ps:List (Int×Int)) (ws:List V),σ=[some (.int c),some (.int t),some (.int m),some (.ref fr),some (.ref od),vk,some (.int ra),some (.int rb),some (.ref pr),some (.int i),vj,vd]∧Same H H5∧H5 od=some (.lst (os.map V.int))∧H5 pr=some (.lst ws)∧RpAll K H5 ws (ps.map pD)∧ps.length≤16 * i + j∧∀q∈ps,Up os q
section
variable {P:bb8} {w:World} {K:ba0} {mg:Str→Option Value} {base:Heap}
theorem kga:FnScope ["cell","most","many","free","order","k","pairs","i","j"] ["cell","most"] (kag sDig):=⟨rfl,rfl,rfl,by decide +kernel,rfl,by decide +kernel,by decide +kernel⟩
set_option maxHeartbeats 16000000 in
theorem k1m {f:Addr} {fd:bf0} (F:Fun K "_law_by_digits" "_law_by_digits" sDig f fd) (T:Txt K mg) (GC:Fn P w K mg base "_law_closed" 1 ["many","pairs"] (kfp K)):FnOk P w K mg base CX0 2 f fd ["cell","most"] (knc K):=by
 refine F.ok kga (fun vs H Q E h=> ?_) (fun cdv A outer s H vs Q E hr h=> ?_)
 · obtain ⟨c,t,rfl,_⟩:=h;rfl
 · obtain ⟨c,t,rfl,ht1,ht2,k⟩:=h
   refine ⟨_,kau (ka9 (i:=2) kga.nd rfl (bo2 rfl) (ka1 kd4 kav (ka1 kci (pv 0) (pv 1))))
    (kau (ka9 (i:=0) kga.nd rfl (bo2 rfl) (ka1 kcd (pv 0) (pv 1)))
    (kau (ka9 (i:=3) kga.nd rfl (bo2 rfl) (kbw (kc4 rfl) (by rfl) T.list kqd (kad (kft (by rfl) T.range (kad (pv 2) kal)) kal)))
    (kau (ka9 (i:=4) kga.nd rfl (bo2 rfl) (kff kal))
    (kau (kdd bf7 rfl (ka8 (by rfl) T.range (kad (pv 2) kal)) (kbh (i:=5) kga.nd rfl (bo2 rfl))
      (kau (kdf (kik bh7 bo8 bo9 kcw (pv 4)
        (kad (kik bh7 b16 b17 kg2 (pv 3) (kad (ka1 kci (pv 0) (kbe kb7 (by rfl) T.len kl8 (kad (pv 3) kal))) kal)) kal)))
      (kaz (ka9 (i:=0) kga.nd rfl (bo2 rfl) (ka1 kcd (pv 0) (ka1 kt6 (pv 2) (pv 5)))))))
    (kau (ka9 (i:=6) kga.nd rfl (bo2 rfl) (kff kal))
    (kau (kdd bf7 rfl (ka8 (by rfl) T.range (kad (pv 2) kal)) (kbh (i:=7) kga.nd rfl (bo2 rfl))
      (kaz (kdd bf7 rfl (ka8 (by rfl) T.range (kad (pv 7) kal)) (kbh (i:=8) kga.nd rfl (bo2 rfl))
        (kau (kjt (kdh knx (ka1 kci (pv 0) kav) kav (kdg _))
          (kaz (kdf (kik bh7 bo8 bo9 kcw (pv 6)
            (kad (kfe (kad (kd1 kbx (pv 4) (pv 8) (fun q_ q_=>rfl)) (kad (kd1 kbx (pv 4) (pv 7) (fun q_ q_=>rfl)) kal))) kal)))) kea)
        (kaz (ka9 (i:=0) kga.nd rfl (bo2 rfl) (ka1 kcd (pv 0) kav)))))))
    (kaz (kb6 (kfe (kad (pv 2) (kad (kfj GC hr (kad (pv 2) (kad (pv 6) kal))) kal))))))))))),?_⟩
   try dsimp only [kn3]
   obtain ⟨m,em,hm1,hm2⟩:=kmc c t ht1 ht2
   refine ⟨_,rfl,_,rfl,_,_,rfl,rfl,(by show (0:Int) < t;lia),_,_,rfl,rfl,?_⟩
   dsimp only
   rw [em]
   refine ⟨_,rfl,_,rfl,_,_,rfl,rfl,⟨by lia,by lia⟩,?_⟩
   refine ⟨_,rfl,(m:Int),rfl,fun p hp=>⟨p,0,(m:Int),rfl,kaf,⟨by lia,by lia,by lia,by lia⟩,kjd (by lia),fun fr hfr=> ?_⟩⟩
   refine ⟨kjd (by show 0≤100000;decide),fun od hod=> ?_⟩
   have efr:rangeV 0 ((m:Int) - 0).toNat=((ba5 m).map fun (i:Nat)=>(i:Int)).map V.int:=by
    rw [cg6,bg8];exact kf9 m
   rw [efr] at hod
   dsimp only
   rw [efr]
   have s0:Same H (upd (upd (upd H p (.rng 0 m)) fr (.lst (((ba5 m).map fun (i:Nat)=>(i:Int)).map V.int))) od (.lst [])):=((Same.new hp).trans (Same.new hfr)).trans (Same.new hod)
   have fr0:H fr=none:=(Same.new hp).free hfr
   have od0:H od=none:=((Same.new hp).trans (Same.new hfr)).free hod
   have nfo:fr≠od:=kai (kaf (H:=upd H p (.rng 0 m))) hod
   have t0:Two H (upd (upd (upd H p (.rng 0 m)) fr (.lst (((ba5 m).map fun (i:Nat)=>(i:Int)).map V.int))) od (.lst [])) fr od m ((ba5 m).map fun (i:Nat)=>(i:Int)) []:=
    ⟨s0,fr0,od0,nfo,by rw [kak nfo,kaf],kaf,fun x hx=>by
      obtain ⟨i,hi,rfl⟩:=ba8.mp hx
      have:=ba7.mp hi
      exact ⟨by lia,by lia⟩,(fun x hx=>nomatch hx),khy m⟩
   refine ⟨_,rfl,(m:Int),rfl,by lia,by lia,kbg (n:=m) (Kdg H t m fr od)
    ⟨_,none,_,[],rfl,t0,by simp,rfl⟩ ?_ ?_⟩
   · rintro i σ H3 hi ⟨cc,vk,fs,os,rfl,t3,l1,l2⟩
     have hpos:(0:Int) < (fs.length:Int):=by lia
     have a1:=bz2 cc (show (fs.length:Int)≠0 by lia)
     have a2:=bt7 cc hpos
     obtain ⟨kk,ek⟩:=bl4 a1
     have hkk:kk < fs.length:=by lia
     refine ⟨_,rfl,.inl ⟨rfl,_,SqL.of t3.ho⟩,_,rfl,.inl ⟨rfl,_,SqL.of t3.hf⟩,_,rfl,_,rfl,fr,_,rfl,.inl (SqL.of t3.hf),_,_,rfl,rfl,(by show (0:Int) < (((fs.map V.int).length:Nat):Int);rw [ba3];exact hpos),?_⟩
     dsimp only
     rw [ba3,ek]
     refine ⟨fr,_,(kk:Int),kk,.int fs[kk],rfl,rfl,t3.hf,by lia,by lia,by rw [ba3];exact b69 (by lia) (by lia),by simp [hkk],od,_,_,rfl,rfl,(by rw [kak t3.ne.symm];exact t3.ho),kx8 (by rw [ba3];lia),?_⟩
     refine ⟨_,rfl,_,rfl,_,rfl,_,_,rfl,rfl,_,_,rfl,rfl,⟨by lia,by lia⟩,?_⟩
     exact ⟨_,_,_,_,rfl,Two.pop (H':=H) t3 hkk,by rw [bk0 hkk];lia,by simp [l2]⟩
   rintro σ H3 ⟨cc,vk,fs,os,rfl,t3,l1,l2⟩
   refine ⟨kjd (by show 0≤100000;decide),fun pr hpr=> ?_⟩
   have pr0:H pr=none:=t3.same.free hpr
   have npo:od≠pr:=kai t3.ho hpr
   refine ⟨_,rfl,(m:Int),rfl,by lia,by lia,kbg (n:=m) (Idg K H t m fr od vk pr os)
    ⟨cc,none,none,[],[],rfl,t3.same.trans (Same.new hpr),by rw [kak npo];exact t3.ho,kaf,.nil,bf4 _,fun q hq=>nomatch hq⟩ ?_ ?_⟩
   · rintro i σ H4 hi ⟨cc,vi,vj,ps,ws,rfl,s4,o4,p4,r4,l4,u4⟩
     refine ⟨_,rfl,(i:Int),rfl,by lia,by lia,kbg (n:=i) (Jdg K H t m fr od vk pr os i)
      ⟨cc,vj,ps,ws,rfl,s4,o4,p4,r4,l4,u4⟩ ?_ ?_⟩
     · rintro j σ H5 hj ⟨cc,vj,ps,ws,rfl,s5,o5,p5,r5,l5,u5⟩
       refine ⟨_,rfl,_,_,rfl,rfl,(by show (0:Int) < 2;decide),rfl,_,rfl,?_⟩
       refine kfg (fun q_=> ?_) (fun q_=> ?_)
       · have hjo:j < os.length:=by lia
         have hio:i < os.length:=by lia
         refine ⟨_,rfl,.inl ⟨rfl,_,SqL.of p5⟩,_,rfl,_,rfl,od,_,_,_,rfl,rfl,SqL.of o5,kb2 (j:=j) (v:= .int os[j]) (by simp [hjo]),_,rfl,_,rfl,od,_,_,_,rfl,rfl,SqL.of o5,kb2 (j:=i) (v:= .int os[i]) (by simp [hio]),kjd (by show 2≤100000;decide),fun q hq=> ?_⟩
         have wl:ws.length=ps.length:=by rw [r5.len,ba3]
         have p6:(upd H5 q (.tup [.int os[j],.int os[i]])) pr=some (.lst ws):=by rw [kak (kai p5 hq)];exact p5
         refine ⟨pr,ws,_,rfl,rfl,p6,kx8 (by lia),?_⟩
         refine ⟨_,rfl,_,_,rfl,rfl,⟨by decide,by decide⟩,?_⟩
         refine ⟨_,_,ps++[(os[j],os[i])],_,rfl,(s5.trans (Same.new hq)).put pr0,by rw [kak npo,kak (kai o5 hq)];exact o5,kaf,?_,?_,?_⟩
         · rw [bi5]
           exact RpAll.append (RpAll.keep ((TK.new hq).trans (TK.lst p6)) r5 (kb9 ps)) (.one (kjc (by rw [kak (kai p5 hq).symm];exact kaf)))
         · rw [ba6,bh8];lia
         · exact khh u5 hj hjo hio
       · refine ⟨_,rfl,_,_,rfl,rfl,⟨by decide,by decide⟩,?_⟩
         exact ⟨_,_,ps,ws,rfl,s5,o5,p5,r5,by lia,u5⟩
     · rintro σ H5 ⟨cc,vj,ps,ws,rfl,s5,o5,p5,r5,l5,u5⟩
       exact ⟨_,_,_,ps,ws,rfl,s5,o5,p5,r5,by lia,u5⟩
   rintro σ H4 ⟨cc,vi,vj,ps,ws,rfl,s4,o4,p4,r4,l4,u4⟩
   refine ⟨_,rfl,_,rfl,_,rfl,m,pr,ws,ps,rfl,by lia,p4,r4,fun v H5 s5 r5=>⟨kjd (by show 2≤100000;decide),fun q hq=> ?_⟩⟩
   exact k _ _ m (clo m ps) ((s4.trans s5).trans (Same.new hq)) hm1 hm2 (kuz (bs2.mp t3.nd).2.1 u4) (.tup kaf (.cons (.int _) (.one (Rp.same (Same.new hq) r5))))
theorem kgb:FnScope ["cell","most","many","free","order","k","share","half","pairs","i","j","drawn"] ["cell","most"] (kag sMix):=⟨rfl,rfl,rfl,by decide +kernel,rfl,by decide +kernel,by decide +kernel⟩
set_option maxHeartbeats 16000000 in
theorem k1n {f:Addr} {fd:bf0} (F:Fun K "_law_mixed" "_law_mixed" sMix f fd) (T:Txt K mg) (GC:Fn P w K mg base "_law_closed" 1 ["many","pairs"] (kfp K)) (GD:Fn P w K mg base "_law_draw" 1 ["cell","k","bound"] kl9):FnOk P w K mg base CX0 2 f fd ["cell","most"] (knc K):=by
 refine F.ok kgb (fun vs H Q E h=> ?_) (fun cdv A outer s H vs Q E hr h=> ?_)
 · obtain ⟨c,t,rfl,_⟩:=h;rfl
 · obtain ⟨c,t,rfl,ht1,ht2,k⟩:=h
   refine ⟨_,kau (ka9 (i:=2) kgb.nd rfl (bo2 rfl) (ka1 kd4 kav (ka1 kci (pv 0) (pv 1))))
    (kau (ka9 (i:=3) kgb.nd rfl (bo2 rfl) (kbw (kc4 rfl) (by rfl) T.list kqd (kad (kft (by rfl) T.range (kad (pv 2) kal)) kal)))
    (kau (ka9 (i:=4) kgb.nd rfl (bo2 rfl) (kff kal))
    (kau (kdd bf7 rfl (ka8 (by rfl) T.range (kad (pv 2) kal)) (kbh (i:=5) kgb.nd rfl (bo2 rfl))
      (kaz (kdf (kik bh7 bo8 bo9 kcw (pv 4)
        (kad (kik bh7 b16 b17 kg2 (pv 3)
          (kad (kfj GD hr (kad (ka1 kcd (pv 0) kav) (kad (pv 5) (kad (kbe kb7 (by rfl) T.len kl8 (kad (pv 3) kal)) kal)))) kal)) kal)))))
    (kau (ka9 (i:=6) kgb.nd rfl (bo2 rfl) (ka1 kd4 kav (kfj GD hr (kad (ka1 kcd (pv 0) kav) (kad kav (kad kav kal))))))
    (kau (ka9 (i:=7) kgb.nd rfl (bo2 rfl) (ka1 kcd (ka1 kde (pv 2) (kfj GD hr (kad (ka1 kcd (pv 0) kav) (kad kav (kad kav kal))))) kav))
    (kau (ka9 (i:=8) kgb.nd rfl (bo2 rfl) (kff kal))
    (kau (kdd bf7 rfl (ka8 (by rfl) T.range (kad (pv 2) kal)) (kbh (i:=9) kgb.nd rfl (bo2 rfl))
      (kaz (kdd bf7 rfl (ka8 (by rfl) T.range (kad (pv 9) kal)) (kbh (i:=10) kgb.nd rfl (bo2 rfl))
        (kau (ka9 (i:=11) kgb.nd rfl (bo2 rfl) (kfj GD hr (kad (ka1 kcd (pv 0) kav) (kad (ka1 kd4 (ka1 kd4 kav (ka1 kde kav (pv 9))) (pv 10))
          (kad (kd1 kbx (kff (kad (pv 6) (kad kav kal))) (kbw knz (by rfl) T.int ku1 (kad (keu kvw (pv 7) kav (kdg _)) kal)) (fun q_ q_=>rfl)) kal)))))
        (kaz (kjt (kzk (kkx (kdh knx (pv 7) kav (kdg _)) (kg1 (kdh knx (pv 11) kav (kdg _)))).pt
          (kt5 (kkx (kk0 kry kvv (pv 10) (pv 7) (pv 9)) (kg1 (kdh kvw (pv 11) kav (kdg _)))).pt)).pt
          (kaz (kdf (kik bh7 bo8 bo9 kcw (pv 8)
            (kad (kfe (kad (kd1 kbx (pv 4) (pv 10) (fun q_ q_=>rfl)) (kad (kd1 kbx (pv 4) (pv 9) (fun q_ q_=>rfl)) kal))) kal)))) kea))))))
    (kaz (kb6 (kfe (kad (pv 2) (kad (kfj GC hr (kad (pv 2) (kad (pv 8) kal))) kal)))))))))))),?_⟩
   try dsimp only [kn3]
   obtain ⟨m,em,hm1,hm2⟩:=kmc c t ht1 ht2
   refine ⟨_,rfl,_,rfl,_,_,rfl,rfl,(by show (0:Int) < t;lia),_,_,rfl,rfl,?_⟩
   dsimp only
   rw [em]
   refine ⟨_,rfl,(m:Int),rfl,fun p hp=>⟨p,0,(m:Int),rfl,kaf,⟨by lia,by lia,by lia,by lia⟩,kjd (by lia),fun fr hfr=> ?_⟩⟩
   refine ⟨kjd (by show 0≤100000;decide),fun od hod=> ?_⟩
   have efr:rangeV 0 ((m:Int) - 0).toNat=((ba5 m).map fun (i:Nat)=>(i:Int)).map V.int:=by
    rw [cg6,bg8];exact kf9 m
   rw [efr] at hod
   dsimp only
   rw [efr]
   have s0:Same H (upd (upd (upd H p (.rng 0 m)) fr (.lst (((ba5 m).map fun (i:Nat)=>(i:Int)).map V.int))) od (.lst [])):=((Same.new hp).trans (Same.new hfr)).trans (Same.new hod)
   have fr0:H fr=none:=(Same.new hp).free hfr
   have od0:H od=none:=((Same.new hp).trans (Same.new hfr)).free hod
   have nfo:fr≠od:=kai (kaf (H:=upd H p (.rng 0 m))) hod
   have t0:Two H (upd (upd (upd H p (.rng 0 m)) fr (.lst (((ba5 m).map fun (i:Nat)=>(i:Int)).map V.int))) od (.lst [])) fr od m ((ba5 m).map fun (i:Nat)=>(i:Int)) []:=
    ⟨s0,fr0,od0,nfo,by rw [kak nfo,kaf],kaf,fun x hx=>by
      obtain ⟨i,hi,rfl⟩:=ba8.mp hx
      have:=ba7.mp hi
      exact ⟨by lia,by lia⟩,(fun x hx=>nomatch hx),khy m⟩
   refine ⟨_,rfl,(m:Int),rfl,by lia,by lia,kbg (n:=m) (Kmx H c t m fr od)
    ⟨none,_,[],rfl,t0,by simp,rfl⟩ ?_ ?_⟩
   · rintro i σ H3 hi ⟨vk,fs,os,rfl,t3,l1,l2⟩
     refine ⟨_,rfl,.inl ⟨rfl,_,SqL.of t3.ho⟩,_,rfl,.inl ⟨rfl,_,SqL.of t3.hf⟩,_,rfl,_,_,rfl,rfl,⟨by decide,by decide⟩,_,rfl,_,rfl,fr,_,rfl,.inl (SqL.of t3.hf),_,_,_,rfl,(by show (0:Int) < (((fs.map V.int).length:Nat):Int);rw [ba3];lia),fun r a1 a2=> ?_⟩
     rw [ba3] at a2
     obtain ⟨kk,rfl⟩:=bl4 a1
     have hkk:kk < fs.length:=by lia
     refine ⟨fr,_,(kk:Int),kk,.int fs[kk],rfl,rfl,t3.hf,by lia,by lia,by rw [ba3];exact b69 (by lia) (by lia),by simp [hkk],od,_,_,rfl,rfl,(by rw [kak t3.ne.symm];exact t3.ho),kx8 (by rw [ba3];lia),?_⟩
     exact ⟨_,_,_,rfl,Two.pop (H':=H) t3 hkk,by rw [bk0 hkk];lia,by simp [l2]⟩
   rintro σ H3 ⟨vk,fs,os,rfl,t3,l1,l2⟩
   refine ⟨_,rfl,_,_,rfl,rfl,⟨by decide,by decide⟩,_,_,_,rfl,(by decide),fun r1 b1 b2=> ?_⟩
   refine ⟨_,_,rfl,rfl,?_⟩
   refine ⟨_,rfl,_,rfl,_,_,rfl,rfl,⟨by decide,by decide⟩,_,_,_,rfl,(by decide),fun r2 b3 b4=> ?_⟩
   refine ⟨_,_,rfl,rfl,.inl ⟨by lia,by lia⟩,_,_,rfl,rfl,⟨by decide,by decide⟩,?_⟩
   refine ⟨kjd (by show 0≤100000;decide),fun pr hpr=> ?_⟩
   have pr0:H pr=none:=t3.same.free hpr
   have npo:od≠pr:=kai t3.ho hpr
   refine ⟨_,rfl,(m:Int),rfl,by lia,by lia,kbg (n:=m) (Imx K H c t m fr od vk (2 + r1) ((m:Int) * r2 / 2) pr os)
    ⟨none,none,none,[],[],rfl,t3.same.trans (Same.new hpr),by rw [kak npo];exact t3.ho,kaf,.nil,bf4 _,fun q hq=>nomatch hq⟩ ?_ ?_⟩
   · rintro i σ H4 hi ⟨vi,vj,vd,ps,ws,rfl,s4,o4,p4,r4,l4,u4⟩
     refine ⟨_,rfl,(i:Int),rfl,by lia,by lia,kbg (n:=i) (Jmx K H c t m fr od vk (2 + r1) ((m:Int) * r2 / 2) pr os i)
      ⟨vj,vd,ps,ws,rfl,s4,o4,p4,r4,l4,u4⟩ ?_ ?_⟩
     · rintro j σ H5' hj ⟨vj,vd,ps,ws,rfl,s5',o5',p5',r5',l5,u5⟩
       refine ⟨_,rfl,_,_,rfl,rfl,⟨by decide,by decide⟩,_,rfl,_,_,rfl,rfl,.inl ⟨by decide,by decide⟩,_,_,rfl,rfl,_,rfl,_,_,rfl,rfl,_,rfl,kjd (by show 2≤100000;decide),fun q0 hq0=> ?_⟩
       have s5:Same H (upd H5' q0 (.lst [.int (2 + r1),.int 3])):=s5'.trans (Same.new hq0)
       have o5:(upd H5' q0 (.lst [.int (2 + r1),.int 3])) od=some (.lst (os.map V.int)):=Same.new hq0 _ _ o5'
       have p5:(upd H5' q0 (.lst [.int (2 + r1),.int 3])) pr=some (.lst ws):=Same.new hq0 _ _ p5'
       have r5:RpAll K (upd H5' q0 (.lst [.int (2 + r1),.int 3])) ws (ps.map pD):=RpAll.same (Same.new hq0) r5'
       generalize hH5:upd H5' q0 (.lst [.int (2 + r1),.int 3])=H5 at s5 o5 p5 r5 ⊢
       have hq1:H5 q0=some (.lst [.int (2 + r1),.int 3]):=by rw [← hH5];exact kaf
       refine ⟨_,rfl,_,_,rfl,rfl,.inr ⟨_,rfl,?_⟩⟩
       obtain ⟨bd,hbd,hat⟩: ∃bd:Int,0 < bd∧atI [V.int (2 + r1),V.int 3] (if decide (0 < (m:Int) * r2 / 2)=true then 1 else 0)=some (.int bd):=by
        by_cases hh:0 < (m:Int) * r2 / 2
        · exact ⟨3,by decide,by rw [decide_eq_true hh];rfl⟩
        · exact ⟨2 + r1,by lia,by rw [decide_eq_false hh];rfl⟩
       refine ⟨q0,_,_,_,rfl,rfl,SqL.of hq1,hat,_,_,_,rfl,hbd,fun r d1 d2=> ?_⟩
       have hjo:j < os.length:=by lia
       have hio:i < os.length:=by lia
       have wl:ws.length=ps.length:=by rw [r5.len,ba3]
       have goA:Jmx K H c t m fr od vk (2 + r1) ((m:Int) * r2 / 2) pr os i (j + 1) [some (V.int c),some (.int t),some (.int m),some (.ref fr),some (.ref od),vk,some (.int (2 + r1)),some (.int ((m:Int) * r2 / 2)),some (.ref pr),some (.int i),some (.int j),some (.int r)] H5:=⟨_,_,ps,ws,rfl,s5,o5,p5,r5,by lia,u5⟩
       have goB: ∀(q:Addr),H5 q=none→kjv (.ref pr) [.ref q] (upd H5 q (.tup [.int os[j],.int os[i]])) (fun q_ H6=>Jmx K H c t m fr od vk (2 + r1) ((m:Int) * r2 / 2) pr os i (j + 1) [some (V.int c),some (.int t),some (.int m),some (.ref fr),some (.ref od),vk,some (.int (2 + r1)),some (.int ((m:Int) * r2 / 2)),some (.ref pr),some (.int i),some (.int j),some (.int r)] H6):=fun q hq=>by
        have p6:(upd H5 q (.tup [.int os[j],.int os[i]])) pr=some (.lst ws):=by rw [kak (kai p5 hq)];exact p5
        refine ⟨pr,ws,_,rfl,rfl,p6,kx8 (by lia),_,_,ps++[(os[j],os[i])],_,rfl,(s5.trans (Same.new hq)).put pr0,by rw [kak npo,kak (kai o5 hq)];exact o5,kaf,?_,?_,?_⟩
        · rw [bi5]
          exact RpAll.append (RpAll.keep ((TK.new hq).trans (TK.lst p6)) r5 (kb9 ps)) (.one (kjc (by rw [kak (kai p5 hq).symm];exact kaf)))
        · rw [ba6,bh8];lia
        · exact khh u5 hj hjo hio
       have goC: ∀D':Ends,D'.nx=Jmx K H c t m fr od vk (2 + r1) ((m:Int) * r2 / 2) pr os i (j + 1)→kzn (tBM K "list" kjv (kh5 8) (kr0 (tTup (kr0 (tOp (kz0 K) (kh5 4) (kh5 10)) (kr0 (tOp (kz0 K) (kh5 4) (kh5 9)) tNil))) tNil)) D' [some (V.int c),some (.int t),some (.int m),some (.ref fr),some (.ref od),vk,some (.int (2 + r1)),some (.int ((m:Int) * r2 / 2)),some (.ref pr),some (.int i),some (.int j),some (.int r)] H5:=fun D' hD=>by
        refine ⟨_,rfl,.inl ⟨rfl,_,SqL.of p5⟩,_,rfl,_,rfl,od,_,_,_,rfl,rfl,SqL.of o5,kb2 (j:=j) (v:= .int os[j]) (by simp [hjo]),_,rfl,_,rfl,od,_,_,_,rfl,rfl,SqL.of o5,kb2 (j:=i) (v:= .int os[i]) (by simp [hio]),kjd (by show 2≤100000;decide),fun q hq=> ?_⟩
        rw [hD]
        exact goB q hq
       refine ⟨_,rfl,rfl,_,rfl,kfg (fun q_=>⟨_,rfl,rfl,_,rfl,kfg (fun q_=>goC _ rfl) (fun q_=> ?_)⟩) (fun q_=> ?_)⟩
       all_goals
        exact ⟨_,rfl,_,rfl,_,_,rfl,rfl,_,rfl,kfg (fun q_=>⟨_,rfl,_,_,rfl,rfl,_,rfl,kfg (fun q_=>⟨_,rfl,_,_,rfl,rfl,_,rfl,kfg (fun q_=>goC _ rfl) (fun q_=>goA)⟩) (fun q_=>goA)⟩) (fun q_=>⟨_,rfl,(goA)⟩)⟩
     · rintro σ H5 ⟨vj,vd,ps,ws,rfl,s5,o5,p5,r5,l5,u5⟩
       exact ⟨_,_,_,ps,ws,rfl,s5,o5,p5,r5,by lia,u5⟩
   rintro σ H4 ⟨vi,vj,vd,ps,ws,rfl,s4,o4,p4,r4,l4,u4⟩
   refine ⟨_,rfl,_,rfl,_,rfl,m,pr,ws,ps,rfl,by lia,p4,r4,fun v H5 s5 r5=>⟨kjd (by show 2≤100000;decide),fun q hq=> ?_⟩⟩
   exact k _ _ m (clo m ps) ((s4.trans s5).trans (Same.new hq)) hm1 hm2 (kuz (bs2.mp t3.nd).2.1 u4) (.tup kaf (.cons (.int _) (.one (Rp.same (Same.new hq) r5))))
theorem kqg:FnScope ["script","at","most","cell"] ["script","at","most"] (kag kp9):=⟨rfl,rfl,rfl,by decide +kernel,rfl,by decide +kernel,by decide +kernel⟩
theorem ktj {f:Addr} {fd:bf0} (F:Fun K "_law_space" "_law_space" kp9 f fd) (GR:Fn P w K mg base "_law_raw" 1 ["script","k"] (kgu K)) (GS:Fn P w K mg base "_law_stir" 1 ["cell"] kje)
 (GB:Fn P w K mg base "_law_by_digits" 2 ["cell","most"] (knc K)) (GM:Fn P w K mg base "_law_mixed" 2 ["cell","most"] (knc K)):FnOk P w K mg base CX0 3 f fd ["script","at","most"] (kki K):=by
 refine F.ok kqg (fun vs H Q E h=> ?_) (fun cdv A outer s H vs Q E hr h=> ?_)
 · obtain ⟨a,ns,k,t,rfl,_⟩:=h;rfl
 · obtain ⟨a,ns,j,t,rfl,hS,ht1,ht2,k⟩:=h
   have hr1:=hr.mono (show 1≤2 by decide)
   refine ⟨_,kau (ka9 (i:=3) kqg.nd rfl (bo2 rfl) (kfj GR hr1 (kad (pv 0) (kad (pv 1) kal))))
    (kau (kjt (kdh knx (ka1 kci (pv 3) kav) kav (kdg _)) (kaz (kb6 (kfj GB hr (kad (ka1 kcd (pv 3) kav) (kad (pv 2) kal))))) kea)
    (kaz (kb6 (kfj GM hr (kad (kfj GS hr1 (kad (pv 3) kal)) (kad (pv 2) kal)))))),?_⟩
   try dsimp only [kn3]
   refine ⟨_,rfl,_,rfl,a,ns,j,rfl,hS,fun r H1 s1=> ?_⟩
   refine ⟨_,rfl,_,_,rfl,rfl,(by show (0:Int) < 2;decide),rfl,_,rfl,?_⟩
   refine kfg (fun q_=> ?_) (fun q_=> ?_)
   · exact ⟨_,rfl,_,_,rfl,rfl,⟨by decide,by decide⟩,_,rfl,_,t,rfl,ht1,ht2,fun v H' m ts s2=>k v H' m ts (s1.trans s2)⟩
   · exact ⟨_,rfl,_,rfl,fun r2 H2 s2=>⟨_,rfl,_,t,rfl,ht1,ht2,fun v H' m ts s3=>k v H' m ts ((s1.trans s2).trans s3)⟩⟩
end
structure XT (K:ba0) (mg:Str→Option Value) (c0:Addr):Prop where
 x0:XC K mg "SpaceError" c0
 g_MOST_POINTS: ∃t,mg "MOST_POINTS"=some (.int 16 t)
def kkj:Sp:=fun vs H Q q_=>∃n x:Int,vs=[.int n,.int x]∧∀b:Bool,(b=true↔0≤x∧x < n)→Q (.bl b) H
noncomputable def gt (xs:List Int) (i:Int):Int:=xs.getD i.toNat 0
section
variable {P:bb8} {w:World} {K:ba0} {mg:Str→Option Value} {base:Heap}
theorem kyh:FnScope ["many","number"] ["many","number"] (kag kp5):=⟨rfl,rfl,rfl,by decide +kernel,rfl,by decide +kernel,by decide +kernel⟩
theorem ktk {f:Addr} {fd:bf0} (F:Fun K "is_point" "is_point" kp5 f fd):FnOk P w K mg base CX0 1 f fd ["many","number"] kkj:=by
 refine F.ok kyh (fun vs H Q E h=> ?_) (fun cdv A outer s H vs Q E hr h=> ?_)
 · obtain ⟨n,x,rfl,_⟩:=h;rfl
 · obtain ⟨n,x,rfl,k⟩:=h
   refine ⟨_,kaz (kb6 (krz kvv kry kav (pv 1) (pv 0))),?_⟩
   refine ⟨_,rfl,_,_,rfl,rfl,_,rfl,?_⟩
   refine kfg (fun e=> ?_) (fun e=> ?_)
   · refine ⟨_,rfl,_,_,rfl,rfl,k _ ⟨fun h=>⟨of_decide_eq_true e,of_decide_eq_true h⟩,fun h=>decide_eq_true h.2⟩⟩
   · exact k _ ⟨fun h=>absurd h bb3,fun h=>absurd (decide_eq_true h.1) e⟩
theorem k1o:FnScope ["space","a","b"] ["space","a","b"] (kag kx4):=⟨rfl,rfl,rfl,by decide +kernel,rfl,by decide +kernel,by decide +kernel⟩
theorem kyi {f:Addr} {fd:bf0} (F:Fun K "same_or_under" "same_or_under" kx4 f fd):FnOk P w K mg base CX0 1 f fd ["space","a","b"] (kyb K):=by
 refine F.ok k1o (fun vs H Q E h=> ?_) (fun cdv A outer s H vs Q E hr h=> ?_)
 · obtain ⟨v,n,ps,a,b,rfl,_⟩:=h;rfl
 · obtain ⟨v,n,ps,a,b,rfl,hv,k⟩:=h
   obtain ⟨sa,ta,ys,rfl,h1,h2,h3⟩:=kqc hv
   refine ⟨_,kaz (kb6 (pe_or (keu knx (pv 1) (pv 2) (kdg _)) (kky (keu (kub K (ka5 hr (by decide))) (kfe (kad (pv 1) (kad (pv 2) kal))) (kd1 kt8 (pv 0) kav (fun q_ q_=>rfl)) rfl)))),?_⟩
   refine ⟨_,rfl,_,rfl,rfl,_,rfl,?_⟩
   refine kfg (fun e=>k true H (Same.refl H) ⟨fun q_=> .inl (by simpa using e),fun q_=>rfl⟩) (fun e=> ?_)
   have ne:a≠b:=by simpa using e
   refine ⟨_,rfl,_,rfl,kjd (by show 2≤100000;decide),fun p hp=> ?_⟩
   have tk:TK H (upd H p (.tup [.int a,.int b])):=TK.new hp
   refine ⟨_,rfl,sa,_,1,_,rfl,rfl,SqT.of (tk.tup _ _ h1),kb2 (j:=1) rfl,ta,ys,ps.map pD,pD (a,b),rfl,.inr (SqT.of (tk.tup _ _ h2)),RpAll.keep tk h3 (kb9 ps),kjc kaf,kdr ps,rfl,bj2 (kl6 (a,b)) (by decide),?_⟩
   rw [kqb]
   exact k _ _ (Same.new hp) ⟨fun e=> .inr (of_decide_eq_true e),fun h=>decide_eq_true (h.resolve_left ne)⟩
end
noncomputable def kh6 (xs:List Int):ba9:= .tuple (xs.map ba1)
theorem kqh {K:ba0} {H:Hp} {v:V} {ns:List Int} (h:Rp K H v (kg3 ns)): ∃a,v= .ref a∧SqL K H a (ns.map V.int):=by
 generalize e:kg3 ns=d at h
 cases h with
 | @scr a ms h1=>
   have e:ns=ms:=by
    have e:ns.map (fun n=>(ba1 n,bm9))=ms.map fun n=>(ba1 n,bm9):=by
     unfold kg3 at e;exact cb2 e
    have:=congrArg (List.map fun p:ba9×ba9=>match p.1 with | .int i=>i | _=>0) e
    rw [bc1,bc1] at this
    simpa [Function.comp_def] using this
   subst e
   exact ⟨a,rfl,h1⟩
 | any=>
   have e:ns.map (fun n=>(ba1 n,bm9))=[(.bool true,.none)]:=cb2 e
   have:=kk5 ns
   rw [e] at this
   cases this
 | xc _=>
   have e:ns.map (fun n=>(ba1 n,bm9))=[(.bool false,.int _)]:=cb2 e
   have:=kg4 ns
   rw [e] at this
   cases this
 | _=>cases e
def k1p (ds:List ba9) (RS:Dt→Prop):Prop:=∃c:Int,ds=[.int c]∧∀r:Int,RS (.d (.int r))
def ktm (ds:List ba9) (RS:Dt→Prop):Prop:=∃(ns:List Int) (k:Nat),ds=[kg3 ns,.int (k:Int)]∧∀r:Int,RS (.d (.int r))
def kqi (ds:List ba9) (RS:Dt→Prop):Prop:=∃i:Int,ds=[.int i]∧RS (.d (.bool true))
def k1q (ds:List ba9) (RS:Dt→Prop):Prop:=∃c k b:Int,ds=[.int c,.int k,.int b]∧0 < b∧∀r:Int,0≤r→r < b→RS (.d (.int r))
noncomputable def kkk (ps:List (Int×Int)) (a b:Int):Bool:= @decide (kjq ps a b) (bp4 _)
theorem kdx {ps:List (Int×Int)} {a b:Int}:kkk ps a b=true↔kjq ps a b:= @decide_eq_true_iff _ (bp4 _)
def k1r (ds:List ba9) (RS:Dt→Prop):Prop:=∃(n:Int) (ps:List (Int×Int)) (a b:Int),ds=[spD n ps,.int a,.int b]∧RS (.d (.bool (kkk ps a b)))
def kqj (ds:List ba9) (RS:Dt→Prop):Prop:=∃(ns:List Int) (k:Nat) (t:Int),ds=[kg3 ns,.int (k:Int),.int t]∧1≤t∧t≤16∧∀(m:Nat) (ts:List (Int×Int)),1≤m→(m:Int)≤t→IsSp m ts→RS (.d (spD m ts))
section
variable {K:ba0} {vs:List V} {H:Hp} {Q:VK} {E:XK}
theorem kyj (h:spG K k1p vs H Q E):kje vs H Q E:=by
 obtain ⟨ds,RS,r,⟨c,rfl,hR⟩,k⟩:=h
 cases r with
 | cons r1 r2=>
   cases r2
   exact ⟨c,by rw [r1.int_inv],fun i H' s=>k _ _ H' H' (hR i) (.of_same s) (Rp.int i)⟩
theorem kqk (h:spG K ktm vs H Q E):kgu K vs H Q E:=by
 obtain ⟨ds,RS,r,⟨ns,j,rfl,hR⟩,k⟩:=h
 cases r with
 | cons r1 r2=>
   cases r2 with
   | cons r2 r3=>
     cases r3
     obtain ⟨a,rfl,hs⟩:=kqh r1
     exact ⟨a,ns,j,by rw [r2.int_inv],hs,fun i H' s=>k _ _ H' H' (hR i) (.of_same s) (Rp.int i)⟩
theorem ktn (h:spG K kqi vs H Q E):kkh vs H Q E:=by
 obtain ⟨ds,RS,r,⟨c,rfl,hR⟩,k⟩:=h
 cases r with
 | cons r1 r2=>
   cases r2
   exact ⟨c,by rw [r1.int_inv],k _ _ H H hR (.of_same (Same.refl H)) (Rp.bl true)⟩
theorem kyk (h:spG K k1q vs H Q E):kl9 vs H Q E:=by
 obtain ⟨ds,RS,r,⟨c,j,b,rfl,hb,hR⟩,k⟩:=h
 cases r with
 | cons r1 r2=>
   cases r2 with
   | cons r2 r3=>
     cases r3 with
     | cons r3 r4=>
       cases r4
       exact ⟨c,j,b,by rw [r1.int_inv,r2.int_inv,r3.int_inv],hb,fun i h1 h2=>k _ _ H H (hR i h1 h2) (.of_same (Same.refl H)) (Rp.int i)⟩
theorem k1s (h:spG K k1r vs H Q E):kyb K vs H Q E:=by
 obtain ⟨ds,RS,r,⟨n,ps,a,b,rfl,hR⟩,k⟩:=h
 cases r with
 | cons r1 r2=>
   cases r2 with
   | cons r2 r3=>
     cases r3 with
     | cons r3 r4=>
       cases r4
       refine ⟨_,n,ps,a,b,by rw [r2.int_inv,r3.int_inv],r1,fun r H' s hr=> ?_⟩
       have:r=kkk ps a b:=by rw [bh0,hr,kdx]
       subst this
       exact k _ _ H' H' hR (.of_same s) (Rp.bl _)
theorem kto (h:spG K kqj vs H Q E):kki K vs H Q E:=by
 obtain ⟨ds,RS,r,⟨ns,j,t,rfl,h1,h2,hR⟩,k⟩:=h
 cases r with
 | cons r1 r2=>
   cases r2 with
   | cons r2 r3=>
     cases r3 with
     | cons r3 r4=>
       cases r4
       obtain ⟨a,rfl,hs⟩:=kqh r1
       exact ⟨a,ns,j,t,by rw [r2.int_inv,r3.int_inv],hs,h1,h2,fun v H' m ts s b1 b2 b3 rv=>k _ _ H' H' (hR m ts b1 b2 b3) (.of_same s) rv⟩
end
theorem kjg {P:bb8} {w:World} {K:ba0} {mg:Str→Option Value} {base:Heap} {x:Str} {lvl:Nat} {ps:List Str} {sp sp':Sp} (G:Fn P w K mg base x lvl ps sp) (h: ∀vs H Q E,sp' vs H Q E→sp vs H Q E):Fn P w K mg base x lvl ps sp':=by
 obtain ⟨f,fd,F,a⟩:=G
 exact ⟨f,fd,F.imp h,a⟩
theorem okI (i:Int):okD (.int i):=rfl
theorem shI (i:Int):kk8 (.int i):=by unfold kk8;simp [bu9]
theorem kbj (i j:Int):bi2 (.int i) (.int j)=decide (i=j):=by
 show (i == j)=_
 by_cases h:i=j <;> simp [h]
theorem at0 {α:Type} (a:α) (l:List α):atI (a::l) 0=some a:=kb2 (j:=0) rfl
theorem at1 {α:Type} (a b:α) (l:List α):atI (a::b::l) 1=some b:=kb2 (j:=1) rfl
theorem khz {xs:List Int} {i:Int} (h0:0≤i) (h1:i < xs.length):atI (xs.map ba1) i=some (.int (xs.getD i.toNat 0)):=by
 obtain ⟨j,rfl⟩:=bl4 h0
 have hj:j < xs.length:=by lia
 refine kb2 (j:=j) ?_
 simp [hj]
def kql (ds:List ba9) (RS:Dt→Prop):Prop:=∃n x:Int,ds=[.int n,.int x]∧RS (.d (.bool (decide (0≤x∧x < n))))
theorem ktp {K:ba0} {vs:List V} {H:Hp} {Q:VK} {E:XK} (h:spG K kql vs H Q E):kkj vs H Q E:=by
 obtain ⟨ds,RS,r,⟨n,x,rfl,hR⟩,k⟩:=h
 cases r with
 | cons r1 r2=>
   cases r2 with
   | cons r2 r3=>
     cases r3
     refine ⟨n,x,by rw [r1.int_inv,r2.int_inv],fun b hb=> ?_⟩
     have:b=decide (0≤x∧x < n):=by rw [bh0,hb,decide_eq_true_iff]
     subst this
     exact k _ _ H H hR (.of_same (Same.refl H)) (Rp.bl _)
theorem kb0 (n:Int) (ps:List (Int×Int)):kud (spD n ps)=some [.int n,.tuple (ps.map pD)]:=rfl
theorem kgc: ∀a b:Int×Int,pD a=pD b→a=b:=ksa
noncomputable def pu (ps:List (Int×Int)) (p:Int):List Int:=(ps.filter fun q=>decide (q.2=p)).map (·.1)
noncomputable def po (ps:List (Int×Int)) (p:Int):List Int:=(ps.filter fun q=>decide (q.1=p)).map (·.2)
noncomputable def ktq (ps:List (Int×Int)) (pts:List Int):Option Int:=pts.find? fun p=>pts.all fun a=>kkk ps p a
noncomputable def kjh (ps:List (Int×Int)) (pts:List Int):Option Int:=pts.find? fun p=>pts.all fun a=>kkk ps a p
noncomputable def kb4 (ps:List (Int×Int)) (p:Int):Option Int:=(ktq ps (po ps p)).or (kjh ps (pu ps p))
noncomputable def optD:Option Int→ba9
 | none=> .none
 | some x=> .int x
noncomputable def kd2 (n:Nat) (ps:List (Int×Int)):List Int:=((ba5 n).map fun (i:Nat)=>(i:Int)).filter fun p=>(kb4 ps p).isSome
noncomputable def cu (p x:Int):Int:=if x > p then x - 1 else x
noncomputable def cu2 (p:Int) (q:Int×Int):Int×Int:=(cu p q.1,cu p q.2)
noncomputable def woF (ps:List (Int×Int)) (p:Int):List (Int×Int):=(ps.filter fun q=>decide (p≠q.1) && decide (p≠q.2)).map (cu2 p)
def Ppu (ds:List ba9) (RS:Dt→Prop):Prop:=∃(n:Int) (ps:List (Int×Int)) (p:Int),ds=[spD n ps,.int p]∧RS (.o ((pu ps p).map ba1))
def Ppo (ds:List ba9) (RS:Dt→Prop):Prop:=∃(n:Int) (ps:List (Int×Int)) (p:Int),ds=[spD n ps,.int p]∧RS (.o ((po ps p).map ba1))
def Plow (ds:List ba9) (RS:Dt→Prop):Prop:=∃(n:Int) (ps:List (Int×Int)) (pts:List Int),ds=[spD n ps,.list (pts.map ba1)]∧RS (.d (optD (ktq ps pts)))
def kyl (ds:List ba9) (RS:Dt→Prop):Prop:=∃(n:Int) (ps:List (Int×Int)) (pts:List Int),ds=[spD n ps,.list (pts.map ba1)]∧RS (.d (optD (kjh ps pts)))
def kqm (ds:List ba9) (RS:Dt→Prop):Prop:=∃(n:Int) (ps:List (Int×Int)) (p:Int),ds=[spD n ps,.int p]∧0≤p∧p < n∧RS (.d (optD (kb4 ps p)))
def kgd (ds:List ba9) (RS:Dt→Prop):Prop:=∃(n:Nat) (ps:List (Int×Int)),ds=[spD n ps]∧n≤100∧RS (.o ((kd2 n ps).map ba1))
def Pcu (ds:List ba9) (RS:Dt→Prop):Prop:=∃x p:Int,ds=[.int x,.int p]∧RS (.d (.int (cu p x)))
def Pwo (ds:List ba9) (RS:Dt→Prop):Prop:=∃(n:Int) (ps:List (Int×Int)) (p:Int),ds=[spD n ps,.int p]∧RS (.d (spD (n - 1) (woF ps p)))
def kge (ds:List ba9) (RS:Dt→Prop):Prop:=∃(n:Int) (ps:List (Int×Int)) (p:Int),ds=[spD n ps,.int p]∧0≤p∧p < n∧(kb4 ps p).isSome=true∧RS (.d (spD (n - 1) (woF ps p)))
theorem kfc (o:Option Int):isNone (optD o)=o.isNone:=by cases o <;> rfl
theorem kji {α:Type} {p:α→Bool} {l:List α} {k:Nat} {x:α} (hx:l[k]?=some x) (h:p x=true) (hn: ∀(j:Nat) (y:α),j < k→l[j]?=some y→p y=false):l.find? p=some x:=by
 rw [List.find?_eq_some_iff_getElem]
 obtain ⟨hk,e⟩:=bb1.mp hx
 refine ⟨h,k,hk,e,fun j hj=> ?_⟩
 have:=hn j l[j] hj (bb2 (by lia))
 simp [this]
theorem kjj {α:Type} {p:α→Bool} {l:List α} (hn: ∀(j:Nat) (y:α),j < l.length→l[j]?=some y→p y=false):l.find? p=none:=by
 rw [ce6]
 intro x hx
 obtain ⟨j,hj,e⟩:=bg0 hx
 rw [hn j x hj (by rw [← e];exact bb2 hj)]
 exact bb3
section
variable {P:bb8} {w:World} {K:ba0} {mg:Str→Option Value} {base:Heap}
theorem scPu:FnScope ["space","point"] ["space","point"] (kag kcu):=⟨rfl,rfl,rfl,by decide +kernel,rfl,by decide +kernel,by decide +kernel⟩
theorem ok_Pu {f:Addr} {fd:bf0} (F:Fun K "points_under" "points_under" kcu f fd) (T:Txt K mg):
 FnOk P w K mg base CX0 1 f fd ["space","point"] (spG K Ppu):=by
 refine F.okG scPu (fun ds RS h=> ?_) (fun cdv A outer s H E hr=>(kaj (kdk (kc5 (N':=["a","b","point"]) (fun q_=>(.own (.own (.cap 1 rfl rfl rfl .nil)))) (kbn (kay (kap 0) (kao).bw)) (kcg 0 1 (fun q_=>(by decide +kernel:(["a","b","point"]:List Str).Nodup))) (kfy (kbc (kg6 (fun q_=>ka5 hr (by decide))) (kar 1) (kar 2))) (kac 0))))) (fun ds RS h=> ?_)
 · obtain ⟨n,ps,p,rfl,_⟩:=h;rfl
 · obtain ⟨n,ps,p,rfl,hR⟩:=h
   simp only [rD,xLC,kb0,at1]
   refine ⟨Gf ps pD (fun q=>decide (q.2=p)) (fun q=> .int q.1),fun y hy=> ?_,fun o ho=> ?_⟩
   · obtain ⟨q,hq,rfl⟩:=ba8.mp hy
     refine ⟨_,_,rfl,okI _,okI _,.inl (shI _),?_⟩
     rw [kbj]
     exact kfg (fun e=>Gf.keep hq e rfl) (fun e=>Gf.skip hq (by simpa using e))
   · rw [Gf.out kgc ho]
     unfold pu at hR
     rw [bc1] at hR
     exact hR
theorem scPo:FnScope ["space","point"] ["space","point"] (kag kc6):=⟨rfl,rfl,rfl,by decide +kernel,rfl,by decide +kernel,by decide +kernel⟩
theorem ok_Po {f:Addr} {fd:bf0} (F:Fun K "points_over" "points_over" kc6 f fd) (T:Txt K mg):
 FnOk P w K mg base CX0 1 f fd ["space","point"] (spG K Ppo):=by
 refine F.okG scPo (fun ds RS h=> ?_) (fun cdv A outer s H E hr=>(kaj (kdk (kc5 (N':=["a","b","point"]) (fun q_=>(.own (.own (.cap 1 rfl rfl rfl .nil)))) (kbn (kay (kap 0) (kao).bw)) (kcg 0 1 (fun q_=>(by decide +kernel:(["a","b","point"]:List Str).Nodup))) (kfy (kbc (kg6 (fun q_=>ka5 hr (by decide))) (kar 0) (kar 2))) (kac 1))))) (fun ds RS h=> ?_)
 · obtain ⟨n,ps,p,rfl,_⟩:=h;rfl
 · obtain ⟨n,ps,p,rfl,hR⟩:=h
   simp only [rD,xLC,kb0,at1]
   refine ⟨Gf ps pD (fun q=>decide (q.1=p)) (fun q=> .int q.2),fun y hy=> ?_,fun o ho=> ?_⟩
   · obtain ⟨q,hq,rfl⟩:=ba8.mp hy
     refine ⟨_,_,rfl,okI _,okI _,.inl (shI _),?_⟩
     rw [kbj]
     exact kfg (fun e=>Gf.keep hq e rfl) (fun e=>Gf.skip hq (by simpa using e))
   · rw [Gf.out kgc ho]
     unfold po at hR
     rw [bc1] at hR
     exact hR
theorem scLw:FnScope ["space","points","point"] ["space","points"] (kag khu):=⟨rfl,rfl,rfl,by decide +kernel,rfl,by decide +kernel,by decide +kernel⟩
theorem ok_Lw {f:Addr} {fd:bf0} (F:Fun K "lowest" "lowest" khu f fd) (T:Txt K mg) (GDSm:Fn P w K mg base "same_or_under" 1 ["space","a","b"] (spG K k1r)):
 FnOk P w K mg base CX0 2 f fd ["space","points"] (spG K Plow):=by
 refine F.okG scLw (fun ds RS h=> ?_) (fun cdv A outer s H E hr=>(kae (kd7 (fun q_=>bf7) (kbn (kac 1)) (ka7 2 (fun q_=>scLw.nd)) (kaj (kcp (kd5 (kop (kc5 (N':=["another","space","point"]) (fun q_=>(.own (.cap 0 rfl rfl rfl (.cap 2 rfl rfl rfl .nil)))) (kbn (kac 1)) (ka7 0 (fun q_=>(by decide +kernel:(["another","space","point"]:List Str).Nodup))) kbf (kam GDSm (fun q_=>hr.mono (by decide)) (kaa (kac 1) (kaa (kac 2) (kaa (kac 0) kah))))).l (fun q_=>T.all)).bw) (kaj (kct 2)) ka3)))
  (kaj (ka4 (kcr))))) (fun ds RS h=> ?_)
 · obtain ⟨n,ps,pts,rfl,_⟩:=h;rfl
 · obtain ⟨n,ps,pts,rfl,hR⟩:=h
   refine ⟨_,rfl,_,rfl,fun k env=>∃v,env=[.d (spD n ps),.d (.list (pts.map ba1)),v]∧∀(j:Nat) (y:Int),j < k→pts[j]?=some y→(pts.all fun a=>kkk ps y a)=false,⟨_,rfl,fun j y h=>absurd h (bo5 _)⟩,?_,?_⟩
   · rintro k y env hy ⟨v,rfl,no⟩
     rw [be3] at hy
     obtain ⟨x,hx,rfl⟩:=bg3.mp hy
     simp only [rD,xLC]
     refine ⟨Gf pts ba1 (fun q_=>true) (fun a=> .bool (kkk ps x a)),fun y hy=> ?_,fun o ho=> ?_⟩
     · obtain ⟨y,hy2,rfl⟩:=ba8.mp hy
       exact ⟨n,ps,x,y,rfl,_,rfl,Gf.keep hy2 rfl rfl⟩
     · rw [Gf.all kcl ho]
       refine ⟨pts.map fun a=>kkk ps x a,by rw [bc1];rfl,?_⟩
       rw [all_map]
       refine kfg (fun e=> ?_) (fun e=>⟨_,rfl,fun j z hj hz=> ?_⟩)
       · have:ktq ps pts=some x:=kji hx e no
         rw [this] at hR
         exact hR
       · rcases b77.mp hj with q | q
         · exact no j z q hz
         · subst q
           rw [hx] at hz
           cases hz
           simpa using e
   · rintro env ⟨v,rfl,no⟩
     have:ktq ps pts=none:=kjj fun j y hj hy=>no j y (by rw [ba3];exact hj) hy
     rw [this] at hR
     exact hR
theorem scHg:FnScope ["space","points","point"] ["space","points"] (kag kf4):=⟨rfl,rfl,rfl,by decide +kernel,rfl,by decide +kernel,by decide +kernel⟩
theorem ok_Hg {f:Addr} {fd:bf0} (F:Fun K "highest" "highest" kf4 f fd) (T:Txt K mg) (GDSm:Fn P w K mg base "same_or_under" 1 ["space","a","b"] (spG K k1r)):
 FnOk P w K mg base CX0 2 f fd ["space","points"] (spG K kyl):=by
 refine F.okG scHg (fun ds RS h=> ?_) (fun cdv A outer s H E hr=>(kae (kd7 (fun q_=>bf7) (kbn (kac 1)) (ka7 2 (fun q_=>scHg.nd)) (kaj (kcp (kd5 (kop (kc5 (N':=["another","space","point"]) (fun q_=>(.own (.cap 0 rfl rfl rfl (.cap 2 rfl rfl rfl .nil)))) (kbn (kac 1)) (ka7 0 (fun q_=>(by decide +kernel:(["another","space","point"]:List Str).Nodup))) kbf (kam GDSm (fun q_=>hr.mono (by decide)) (kaa (kac 1) (kaa (kac 0) (kaa (kac 2) kah))))).l (fun q_=>T.all)).bw) (kaj (kct 2)) ka3)))
  (kaj (ka4 (kcr))))) (fun ds RS h=> ?_)
 · obtain ⟨n,ps,pts,rfl,_⟩:=h;rfl
 · obtain ⟨n,ps,pts,rfl,hR⟩:=h
   refine ⟨_,rfl,_,rfl,fun k env=>∃v,env=[.d (spD n ps),.d (.list (pts.map ba1)),v]∧∀(j:Nat) (y:Int),j < k→pts[j]?=some y→(pts.all fun a=>kkk ps a y)=false,⟨_,rfl,fun j y h=>absurd h (bo5 _)⟩,?_,?_⟩
   · rintro k y env hy ⟨v,rfl,no⟩
     rw [be3] at hy
     obtain ⟨x,hx,rfl⟩:=bg3.mp hy
     simp only [rD,xLC]
     refine ⟨Gf pts ba1 (fun q_=>true) (fun a=> .bool (kkk ps a x)),fun y hy=> ?_,fun o ho=> ?_⟩
     · obtain ⟨y,hy2,rfl⟩:=ba8.mp hy
       exact ⟨n,ps,y,x,rfl,_,rfl,Gf.keep hy2 rfl rfl⟩
     · rw [Gf.all kcl ho]
       refine ⟨pts.map fun a=>kkk ps a x,by rw [bc1];rfl,?_⟩
       rw [all_map]
       refine kfg (fun e=> ?_) (fun e=>⟨_,rfl,fun j z hj hz=> ?_⟩)
       · have:kjh ps pts=some x:=kji hx e no
         rw [this] at hR
         exact hR
       · rcases b77.mp hj with q | q
         · exact no j z q hz
         · subst q
           rw [hx] at hz
           cases hz
           simpa using e
   · rintro env ⟨v,rfl,no⟩
     have:kjh ps pts=none:=kjj fun j y hj hy=>no j y (by rw [ba3];exact hj) hy
     rw [this] at hR
     exact hR
theorem scGo:FnScope ["space","point","onto"] ["space","point"] (kag kp6):=⟨rfl,rfl,rfl,by decide +kernel,rfl,by decide +kernel,by decide +kernel⟩
theorem ok_Go {f:Addr} {fd:bf0} (F:Fun K "goal" "goal" kp6 f fd) (T:Txt K mg) (GDPt:Fn P w K mg base "is_point" 1 ["many","number"] (spG K kql)) (GPu:Fn P w K mg base "points_under" 1 ["space","point"] (spG K Ppu)) (GPo:Fn P w K mg base "points_over" 1 ["space","point"] (spG K Ppo)) (GLw:Fn P w K mg base "lowest" 2 ["space","points"] (spG K Plow)) (GHg:Fn P w K mg base "highest" 2 ["space","points"] (spG K kyl)):
 FnOk P w K mg base CX0 3 f fd ["space","point"] (spG K kqm):=by
 refine F.okG scGo (fun ds RS h=> ?_) (fun cdv A outer s H E hr=>(kae (kcp (kfw (kd5 (kam GDPt (fun q_=>hr.mono (by decide)) (kaa (kay (kap 0) (kao).bw) (kaa (kac 1) kah))).bw)) (kaj (khb)) ka3)
  (kae (kax 2 (fun q_=>scGo.nd) (kam GLw (fun q_=>hr.mono (by decide)) (kaa (kac 0) (kaa ((ka6 GPo (fun q_=>hr.mono (by decide)) (kaa (kac 0) (kaa (kac 1) kah))).ew) kah))))
  (kae (kcp (kbc kok (kar 2) (kcr).bw) (kaj (kax 2 (fun q_=>scGo.nd) (kam GHg (fun q_=>hr.mono (by decide)) (kaa (kac 0) (kaa ((ka6 GPu (fun q_=>hr.mono (by decide)) (kaa (kac 0) (kaa (kac 1) kah))).ew) kah))))) ka3)
  (kaj (kct 2)))))) (fun ds RS h=> ?_)
 · obtain ⟨n,ps,p,rfl,_⟩:=h;rfl
 · obtain ⟨n,ps,p,rfl,h0,h1,hR⟩:=h
   simp only [rD,kb0,at0]
   refine ⟨n,p,rfl,_,rfl,_,rfl,?_⟩
   refine knn (by rw [decide_eq_true ⟨h0,h1⟩];rfl) ?_
   refine ⟨n,ps,p,rfl,_,rfl,n,ps,_,rfl,_,rfl,?_⟩
   rw [kfc]
   cases e:ktq ps (po ps p) with
   | some x=>
     have:kb4 ps p=some x:=by unfold kb4;rw [e];rfl
     rw [this] at hR
     exact hR
   | none=>
     have:kb4 ps p=kjh ps (pu ps p):=by unfold kb4;rw [e];rfl
     rw [this] at hR
     exact ⟨n,ps,p,rfl,_,rfl,n,ps,_,rfl,_,rfl,hR⟩
end
def kh7 (n:Int) (ps:List (Int×Int)):Prop:=∀q∈ps,inR n q
theorem k1t {n p x:Int} (h0:0≤x) (h1:x < n) (hp0:0≤p) (hp1:p < n) (hne:x≠p):0≤cu p x∧cu p x < n - 1:=by
 unfold cu
 split <;> lia
theorem kym {n p:Int} {ps:List (Int×Int)} (h:kh7 n ps) (hp0:0≤p) (hp1:p < n):kh7 (n - 1) (woF ps p):=by
 intro q hq
 obtain ⟨r,hr,rfl⟩:=ba8.mp hq
 obtain ⟨h1,h2⟩:=bf1.mp hr
 obtain ⟨a,b,c,d⟩:=h r h1
 have h2:p≠r.1∧p≠r.2:=by simpa using h2
 have e1:=k1t a b hp0 hp1 (bz8 h2.1)
 have e2:=k1t c d hp0 hp1 (bz8 h2.2)
 exact ⟨e1.1,e1.2,e2.1,e2.2⟩
inductive Walk:Nat→List (Int×Int)→List Int→Nat→List (Int×Int)→Prop where
 | nil (n:Nat) (ps:List (Int×Int)):Walk n ps [] n ps
 | cons {n:Nat} {ps:List (Int×Int)} {p:Int} {row:List Int} {n':Nat} {ps':List (Int×Int)}:0≤p→p < ((n + 1:Nat):Int)→(kb4 ps p).isSome=true→Walk n (woF ps p) row n' ps'→Walk (n + 1) ps (p::row) n' ps'
theorem Walk.snoc {n:Nat} {ps:List (Int×Int)} {row:List Int} {n':Nat} {qs:List (Int×Int)} {p:Int} (w:Walk n ps row (n' + 1) qs) (h0:0≤p) (h1:p < ((n' + 1:Nat):Int)) (h2:(kb4 qs p).isSome=true):Walk n ps (row++[p]) n' (woF qs p):=by
 generalize hm:n' + 1=m at w
 induction w with
 | nil n ps=>subst hm;exact .cons h0 h1 h2 (.nil _ _)
 | cons a b c _ ih=>exact .cons a b c (ih h2 hm)
theorem Walk.len {n:Nat} {ps:List (Int×Int)} {row:List Int} {n':Nat} {ps':List (Int×Int)} (w:Walk n ps row n' ps'):row.length + n'=n:=by
 induction w with
 | nil n ps=>simp
 | cons _ _ _ _ ih=>rw [bf2];lia
theorem ktr {n:Nat} {ps:List (Int×Int)} {p:Int} (h:p∈kd2 n ps):0≤p∧p < n∧(kb4 ps p).isSome=true:=by
 obtain ⟨h1,h2⟩:=bf1.mp h
 obtain ⟨i,hi,rfl⟩:=ba8.mp h1
 have:=ba7.mp hi
 exact ⟨by lia,by lia,h2⟩
def kmd (ds:List ba9) (RS:Dt→Prop):Prop:=∃(n:Nat) (ps:List (Int×Int)) (row:List Int) (n':Nat) (ps':List (Int×Int)),ds=[spD n ps,.list (row.map ba1)]∧Walk n ps row n' ps'∧RS (.d (spD n' ps'))
def kts (ds:List ba9) (RS:Dt→Prop):Prop:=∃(n:Nat) (ps:List (Int×Int)),ds=[spD n ps]∧n≤100∧∀(row:List Int) (n':Nat) (ps':List (Int×Int)),Walk n ps row n' ps'→kd2 n' ps'=[]→RS (.o (row.map ba1))
noncomputable def kbv (n:Nat):List Int:=(ba5 n).map fun (i:Nat)=>(i:Int)
theorem kcj (n:Nat):(kbv n).length=n:=by unfold kbv;simp
theorem kb5 (n:Nat):kfk 0 n=(kbv n).map ba1:=by rw [k0n];unfold kbv;rw [bc1];rfl
noncomputable def ktu (ps:List (Int×Int)) (names last:List Int) (p:Int):List Int:=last.map fun a=>if a=names.getD p.toNat 0 then names.getD ((kb4 ps p).getD 0).toNat 0 else a
noncomputable def wkN:List (Int×Int)→List Int→List Int→List Int
 | _,names,[]=>names
 | ps,names,p::row=>wkN (woF ps p) (names.eraseIdx p.toNat) row
noncomputable def wkS:List (Int×Int)→List Int→List Int→List Int→List (List Int)
 | _,_,_,[]=>[]
 | ps,names,last,p::row=>ktu ps names last p::wkS (woF ps p) (names.eraseIdx p.toNat) (ktu ps names last p) row
theorem kh0 {α:Type} {p:α→Bool} {l:List α} {x:α} (h:l.find? p=some x):x∈l:=List.mem_of_find?_eq_some h
theorem kkl {n:Int} {ps:List (Int×Int)} {p g:Int} (h:kh7 n ps) (hg:kb4 ps p=some g):0≤g∧g < n:=by
 unfold kb4 at hg
 cases e:ktq ps (po ps p) with
 | some x=>
   rw [e] at hg
   have hg:x=g:=bg4 hg
   subst hg
   have hm:=kh0 e
   obtain ⟨q,hq,rfl⟩:=ba8.mp hm
   obtain ⟨_,_,c,d⟩:=h q (bf1.mp hq).1
   exact ⟨c,d⟩
 | none=>
   rw [e] at hg
   have hg:kjh ps (pu ps p)=some g:=hg
   have hm:=kh0 hg
   obtain ⟨q,hq,rfl⟩:=ba8.mp hm
   obtain ⟨c,d,_,_⟩:=h q (bf1.mp hq).1
   exact ⟨c,d⟩
theorem kqn {xs:List Int} {i:Int} (h0:0≤i) (h1:i < xs.length):atI (xs.map ba1) i=some (.int (xs.getD i.toNat 0)):=khz h0 h1
theorem sc1 (m:Nat):((m + 1:Nat):Int) - 1=(m:Int):=by lia
section
variable {P:bb8} {w:World} {K:ba0} {mg:Str→Option Value} {base:Heap}
theorem scFb:FnScope ["space"] ["space"] (kag ke5):=⟨rfl,rfl,rfl,by decide +kernel,rfl,by decide +kernel,by decide +kernel⟩
theorem ok_Fb {f:Addr} {fd:bf0} (F:Fun K "foldable" "foldable" ke5 f fd) (T:Txt K mg) (GGo:Fn P w K mg base "goal" 3 ["space","point"] (spG K kqm)):
 FnOk P w K mg base CX0 4 f fd ["space"] (spG K kgd):=by
 refine F.okG scFb (fun ds RS h=> ?_) (fun cdv A outer s H E hr=>(kaj (kdk (kc5 (N':=["point","space"]) (fun q_=>(.own (.cap 0 rfl rfl rfl .nil))) (kb8 (kay (kap 0) (kao).bw).bw (fun q_=>T.range)) (ka7 0 (fun q_=>(by decide +kernel:(["point","space"]:List Str).Nodup))) (kfy (kbc kk9 (kam GGo (fun q_=>hr.mono (by decide)) (kaa (kac 1) (kaa (kac 0) kah))).bw (kcr).bw)) (kac 0))))) (fun ds RS h=> ?_)
 · obtain ⟨n,ps,rfl,_⟩:=h;rfl
 · obtain ⟨n,ps,rfl,hn,hR⟩:=h
   simp only [rD,xLC,kb0,at0]
   refine ⟨by lia,by lia,?_⟩
   rw [bg8,k0n]
   refine ⟨Gf (ba5 n) (fun (i:Nat)=>ba1 (i:Int)) (fun (i:Nat)=>(kb4 ps (i:Int)).isSome) (fun (i:Nat)=> .int (i:Int)),fun y hy=> ?_,fun o ho=> ?_⟩
   · obtain ⟨i,hi,rfl⟩:=ba8.mp hy
     have:=ba7.mp hi
     refine ⟨n,ps,(i:Int),rfl,by lia,by lia,_,rfl,?_⟩
     rw [kfc]
     cases e:kb4 ps (i:Int) with
     | some x=>
       have hs:(kb4 ps (i:Int)).isSome=true:=by rw [e];rfl
       rw [if_pos (show (!(some x:Option Int).isNone)=true from rfl)]
       exact Gf.keep hi hs rfl
     | none=>
       have hs:(kb4 ps (i:Int)).isSome=false:=by rw [e];rfl
       rw [if_neg (show ¬(!(none:Option Int).isNone)=true from bb3)]
       exact Gf.skip hi hs
   · rw [Gf.out kj0 ho]
     unfold kd2 at hR
     rw [cb3,bc1] at hR
     exact hR
theorem scCu:FnScope ["number","gone"] ["number","gone"] (kag keh):=⟨rfl,rfl,rfl,by decide +kernel,rfl,by decide +kernel,by decide +kernel⟩
theorem ok_Cu {f:Addr} {fd:bf0} (F:Fun K "closed_up" "closed_up" keh f fd) (T:Txt K mg):
 FnOk P w K mg base CX0 1 f fd ["number","gone"] (spG K Pcu):=by
 refine F.okG scCu (fun ds RS h=> ?_) (fun cdv A outer s H E hr=>(kaj (ka4 (kwf (kbc kwc (kar 0) (kar 1)) (kcx kuf (kar 0) (kao).bw) (kac 0))))) (fun ds RS h=> ?_)
 · obtain ⟨x,p,rfl,_⟩:=h;rfl
 · obtain ⟨x,p,rfl,hR⟩:=h
   simp only [rD]
   unfold cu at hR
   refine kfg (fun e=> ?_) (fun e=> ?_)
   · rw [if_pos (of_decide_eq_true e)] at hR
     exact hR
   · rw [if_neg (fun z=>e (decide_eq_true z))] at hR
     exact hR
theorem scWo:FnScope ["space","point","ties"] ["space","point"] (kag kf5):=⟨rfl,rfl,rfl,by decide +kernel,rfl,by decide +kernel,by decide +kernel⟩
theorem ok_Wo {f:Addr} {fd:bf0} (F:Fun K "without" "without" kf5 f fd) (T:Txt K mg) (GCu:Fn P w K mg base "closed_up" 1 ["number","gone"] (spG K Pcu)):
 FnOk P w K mg base CX0 2 f fd ["space","point"] (spG K Pwo):=by
 refine F.okG scWo (fun ds RS h=> ?_) (fun cdv A outer s H E hr=>(kae (kep 2 (fun q_=>scWo.nd) (N':=["a","b","point"]) (fun q_=>(.own (.own (.cap 1 rfl rfl rfl .nil)))) (kbn (kay (kap 0) (kao).bw)) (kcg 0 1 (fun q_=>(by decide +kernel:(["a","b","point"]:List Str).Nodup))) (kfy ((kol (kbc (kiu (fun q_=>ka5 hr (by decide))) (kar 2) (kar 0)) (kjx (kbc (kiu (fun q_=>ka5 hr (by decide))) (kar 2) (kar 1)))).t)) (kbp (kaa (kam GCu (fun q_=>hr.mono (by decide)) (kaa (kac 0) (kaa (kac 2) kah))) (kaa (kam GCu (fun q_=>hr.mono (by decide)) (kaa (kac 1) (kaa (kac 2) kah))) kah))))
  (DSs.frz 2 (kaj (ka4 (kbp (kaa (kcx kuf (kay (kap 0) (kao).bw).bw (kao).bw) (kaa (kdi 2 (fun q_=>T.tuple)) kah)))))))) (fun ds RS h=> ?_)
 · obtain ⟨n,ps,p,rfl,_⟩:=h;rfl
 · obtain ⟨n,ps,p,rfl,hR⟩:=h
   simp only [rD,xLC,kb0,at0,at1]
   refine ⟨Gf ps pD (fun q=>decide (p≠q.1) && decide (p≠q.2)) (fun q=>pD (cu2 p q)),fun y hy=> ?_,fun o ho=> ?_⟩
   · obtain ⟨q,hq,rfl⟩:=ba8.mp hy
     have go:(decide (p≠q.1) && decide (p≠q.2))=true→Pcu [.int q.1,.int p] fun dt=>∃d,kv8 dt=some d∧Pcu [.int q.2,.int p] fun dt=>∃d_1,kv8 dt=some d_1∧Gf ps pD (fun q=>decide (p≠q.1) && decide (p≠q.2)) (fun q=>pD (cu2 p q)) (pD q) (some (.tuple [d,d_1])):=fun e=>⟨_,_,rfl,_,rfl,_,_,rfl,_,rfl,Gf.keep hq e rfl⟩
     refine ⟨_,_,rfl,okI _,okI _,.inl (shI _),?_⟩
     rw [kbj]
     refine kfg (fun e=>⟨okI _,okI _,.inl (shI _),?_⟩) (fun e=>Gf.skip hq ?_)
     · rw [kbj]
       refine kfg (fun e2=>go (by simp at e e2 ⊢;exact ⟨e,e2⟩)) (fun e2=>Gf.skip hq (by simp at e e2 ⊢;intro q_;exact e2))
     · simp at e ⊢
       intro z;exact absurd e z
   · rw [Gf.out kgc ho]
     unfold woF at hR
     rw [show spD (n - 1) ((ps.filter fun q=>decide (p≠q.1) && decide (p≠q.2)).map (cu2 p))= .tuple [.int (n - 1),.tuple ((ps.filter fun q=>decide (p≠q.1) && decide (p≠q.2)).map fun q=>pD (cu2 p q))] by unfold spD;rw [bc1];rfl] at hR
     exact hR
theorem scFo:FnScope ["space","point"] ["space","point"] (kag khv):=⟨rfl,rfl,rfl,by decide +kernel,rfl,by decide +kernel,by decide +kernel⟩
theorem ok_Fo {f:Addr} {fd:bf0} (F:Fun K "folded" "folded" khv f fd) (T:Txt K mg) (GGo:Fn P w K mg base "goal" 3 ["space","point"] (spG K kqm)) (GWo:Fn P w K mg base "without" 2 ["space","point"] (spG K Pwo)):
 FnOk P w K mg base CX0 4 f fd ["space","point"] (spG K kge):=by
 refine F.okG scFo (fun ds RS h=> ?_) (fun cdv A outer s H E hr=>(kae (kcp (kbc kok (kam GGo (fun q_=>hr.mono (by decide)) (kaa (kac 0) (kaa (kac 1) kah))).bw (kcr).bw) (kaj (khb)) ka3)
  (kaj (ka4 (kam GWo (fun q_=>hr.mono (by decide)) (kaa (kac 0) (kaa (kac 1) kah))))))) (fun ds RS h=> ?_)
 · obtain ⟨n,ps,p,rfl,_⟩:=h;rfl
 · obtain ⟨n,ps,p,rfl,h0,h1,h2,hR⟩:=h
   simp only [rD]
   refine ⟨n,ps,p,rfl,h0,h1,_,rfl,?_⟩
   rw [kfc]
   refine knn ?_ ⟨n,ps,p,rfl,_,rfl,hR⟩
   cases e:kb4 ps p with
   | some x=>rfl
   | none=>rw [e] at h2;cases h2
theorem scAl:FnScope ["space","row","here","point"] ["space","row"] (kag kkc):=⟨rfl,rfl,rfl,by decide +kernel,rfl,by decide +kernel,by decide +kernel⟩
theorem ok_Al {f:Addr} {fd:bf0} (F:Fun K "along" "along" kkc f fd) (T:Txt K mg) (GFo:Fn P w K mg base "folded" 4 ["space","point"] (spG K kge)):
 FnOk P w K mg base CX0 5 f fd ["space","row"] (spG K kmd):=by
 refine F.okG scAl (fun ds RS h=> ?_) (fun cdv A outer s H E hr=>(kae (kax 2 (fun q_=>scAl.nd) (kac 0))
  (kae (kd7 (fun q_=>bf7) (kbn (kac 1)) (ka7 3 (fun q_=>scAl.nd)) (kaj (kax 2 (fun q_=>scAl.nd) (kam GFo (fun q_=>hr.mono (by decide)) (kaa (kac 2) (kaa (kac 3) kah))))))
  (kaj (kct 2))))) (fun ds RS h=> ?_)
 · obtain ⟨n,ps,row,n',ps',rfl,_⟩:=h;rfl
 · obtain ⟨n,ps,row,n',ps',rfl,hw,hR⟩:=h
   refine ⟨_,rfl,_,rfl,_,rfl,fun k env=>∃(a:Nat) (qs:List (Int×Int)) (v:Dt),env=[.d (spD n ps),.d (.list (row.map ba1)),.d (spD a qs),v]∧Walk a qs (row.drop k) n' ps',⟨n,ps,_,rfl,hw⟩,?_,?_⟩
   · rintro k y env hy ⟨a,qs,v,rfl,w⟩
     rw [be3] at hy
     obtain ⟨p,hp,rfl⟩:=bg3.mp hy
     obtain ⟨hk,e⟩:=bb1.mp hp
     rw [bi6 hk,e] at w
     cases w with
     | @cons m _ _ _ _ _ h0 h1 h2 w=>
       simp only [rD]
       refine ⟨_,qs,p,rfl,h0,h1,h2,_,rfl,m,_,_,by rw [sc1],w⟩
   · rintro env ⟨a,qs,v,rfl,w⟩
     rw [ba3,b91] at w
     cases w
     exact ⟨_,rfl,(fun z=>by cases z),hR⟩
theorem ky6:FnScope ["space","row","here","can"] ["space"] (kag kc7):=⟨rfl,rfl,rfl,by decide +kernel,rfl,by decide +kernel,by decide +kernel⟩
theorem ok_Co {f:Addr} {fd:bf0} (F:Fun K "row_to_core" "row_to_core" kc7 f fd) (T:Txt K mg) (GFb:Fn P w K mg base "foldable" 4 ["space"] (spG K kgd)) (GFo:Fn P w K mg base "folded" 4 ["space","point"] (spG K kge)):
 FnOk P w K mg base CX0 5 f fd ["space"] (spG K kts):=by
 refine F.okG ky6 (fun ds RS h=> ?_) (fun cdv A outer s H E hr=>(kae (kez 1 (fun q_=>ky6.nd) (kgm kah))
  (kae (kax 2 (fun q_=>ky6.nd) (kac 0))
  (kae (kax 3 (fun q_=>ky6.nd) ((ka6 GFb (fun q_=>hr.mono (by decide)) (kaa (kac 2) kah)).ew))
  (kae (kld (fun q_=>bf7) (kbc kwc (kiv (kap 3) (fun q_=>T.len)).bw (kao).bw) (kae (ki0 1 (kay (kap 3) (kao).bw))
  (kae (kax 2 (fun q_=>ky6.nd) (kam GFo (fun q_=>hr.mono (by decide)) (kaa (kac 2) (kaa (kay (kap 3) (kao).bw) kah))))
  (kaj (kax 3 (fun q_=>ky6.nd) ((ka6 GFb (fun q_=>hr.mono (by decide)) (kaa (kac 2) kah)).ew))))))
  (kaj (kct 1))))))) (fun ds RS h=> ?_)
 · obtain ⟨n,ps,rfl,_⟩:=h;rfl
 · obtain ⟨n,ps,rfl,hn,hR⟩:=h
   refine ⟨bf4 _,_,rfl,_,rfl,n,ps,rfl,hn,_,rfl,?_⟩
   refine ⟨fun m env=>∃(qs:List (Int×Int)) (row:List Int),env=[.d (spD n ps),.o (row.map ba1),.d (spD m qs),.d (.list ((kd2 m qs).map ba1))]∧Walk n ps row m qs,⟨n,ps,[],rfl,.nil n ps⟩,?_⟩
   rintro m env ⟨qs,row,rfl,w⟩
   have hl:=w.len
   simp only [rD]
   refine kfg (fun e=> ?_) (fun e=> ?_)
   · have hpos:0 < (kd2 m qs).length:=by
      have:=of_decide_eq_true e
      rw [ba3] at this
      lia
     obtain ⟨p,fs,hf⟩:=List.exists_cons_of_length_pos hpos
     have hp:=ktr (n:=m) (ps:=qs) (p:=p) (by rw [hf];exact bc4)
     obtain ⟨m',rfl⟩: ∃m',m=m' + 1:=⟨m - 1,by lia⟩
     rw [hf]
     refine ⟨_,at0 _ _,by rw [ba3];lia,_,at0 _ _,_,qs,p,rfl,hp.1,hp.2.1,hp.2.2,_,rfl,?_⟩
     rw [sc1]
     refine ⟨m',_,rfl,by lia,_,rfl,m',bp1 _,_,row++[p],by rw [bi5];rfl,w.snoc hp.1 hp.2.1 hp.2.2⟩
   · have h0:kd2 m qs=[]:=by
      cases hf:kd2 m qs with
      | nil=>rfl
      | cons p fs=>
        exfalso
        apply e
        rw [hf]
        simp
     exact hR row m qs w h0
end
structure Ordr (ps:List (Int×Int)):Prop where
 irr: ∀x,(x,x) ∉ ps
 trs: ∀x y z,(x,y)∈ps→(y,z)∈ps→(x,z)∈ps
theorem IsSp.ord {n:Nat} {ps:List (Int×Int)} (h:IsSp n ps):Ordr ps:=by
 obtain ⟨t,rfl,h1,h2⟩:=h
 refine ⟨fun x hx=> ?_,fun x y z hx hy=> ?_⟩
 · obtain ⟨a,b,ha,hb,ht,e⟩:=kan.mp hx
   have e1:x=(a:Int):=congrArg bw6 e
   have e2:x=(b:Int):=congrArg bw7 e
   have:a=b:=by lia
   subst this
   rw [h1 a ha] at ht
   cases ht
 · obtain ⟨a,b,ha,hb,ht,e⟩:=kan.mp hx
   obtain ⟨c,d,hc,hd,hu,e'⟩:=kan.mp hy
   have e1:x=(a:Int):=congrArg bw6 e
   have e2:y=(b:Int):=congrArg bw7 e
   have e3:y=(c:Int):=congrArg bw6 e'
   have e4:z=(d:Int):=congrArg bw7 e'
   have:b=c:=by lia
   subst this
   rw [e1,e4]
   exact kaw.mpr ⟨ha,hd,h2 a b d ha hb hd ht hu⟩
theorem kme {ps:List (Int×Int)} {p a:Int}:a∈po ps p↔(p,a)∈ps:=by
 unfold po
 rw [ba8]
 constructor
 · rintro ⟨q,hq,rfl⟩
   obtain ⟨h1,h2⟩:=bf1.mp hq
   have:q.1=p:=of_decide_eq_true h2
   subst this
   exact h1
 · intro h
   exact ⟨(p,a),bf1.mpr ⟨h,decide_eq_true rfl⟩,rfl⟩
theorem kmf {ps:List (Int×Int)} {p a:Int}:a∈pu ps p↔(a,p)∈ps:=by
 unfold pu
 rw [ba8]
 constructor
 · rintro ⟨q,hq,rfl⟩
   obtain ⟨h1,h2⟩:=bf1.mp hq
   have:q.2=p:=of_decide_eq_true h2
   subst this
   exact h1
 · intro h
   exact ⟨(a,p),bf1.mpr ⟨h,decide_eq_true rfl⟩,rfl⟩
def Goal (ps:List (Int×Int)) (p g:Int):Prop:=((p,g)∈ps∧∀a,(p,a)∈ps→kjq ps g a)∨((g,p)∈ps∧∀a,(a,p)∈ps→kjq ps a g)
theorem kjk {ps:List (Int×Int)} {p g:Int} (h:kb4 ps p=some g):Goal ps p g:=by
 unfold kb4 at h
 cases e:ktq ps (po ps p) with
 | some x=>
   rw [e] at h
   have h:x=g:=bg4 h
   subst h
   refine .inl ⟨kme.mp (kh0 e),fun a ha=> ?_⟩
   have:=ck0 e
   exact kdx.mp (bn6.mp this a (kme.mpr ha))
 | none=>
   rw [e] at h
   have h:kjh ps (pu ps p)=some g:=h
   refine .inr ⟨kmf.mp (kh0 h),fun a ha=> ?_⟩
   have:=ck0 h
   exact kdx.mp (bn6.mp this a (kmf.mpr ha))
structure Nm (n:Nat) (ps qs:List (Int×Int)) (names:List Int):Prop where
 nd:names.Nodup
 inn: ∀x∈names,0≤x∧x < (n:Int)
 tie: ∀(i j:Nat) (x y:Int),names[i]?=some x→names[j]?=some y→((x,y)∈ps↔((i:Int),(j:Int))∈qs)
 inr:kh7 names.length qs
theorem kmg {n:Nat} {i:Nat} {x:Int} (h:(kbv n)[i]?=some x):x=(i:Int)∧i < n:=by
 unfold kbv at h
 rw [be3] at h
 obtain ⟨j,hj,rfl⟩:=bg3.mp h
 obtain ⟨h1,h2⟩:=bb1.mp hj
 rw [cd4] at h2
 rw [bg2] at h1
 exact ⟨by rw [h2],h1⟩
theorem kdy {n:Nat} {x:Int}:x∈kbv n↔0≤x∧x < (n:Int):=by
 unfold kbv
 rw [ba8]
 constructor
 · rintro ⟨i,hi,rfl⟩
   have:=ba7.mp hi
   lia
 · rintro ⟨h0,h1⟩
   exact ⟨x.toNat,ba7.mpr (by lia),by lia⟩
theorem kkm (n:Nat):(kbv n).Nodup:=by
 have:=khy n
 rw [be4] at this
 exact this
theorem Nm.start {n:Nat} {ps:List (Int×Int)} (h:kh7 n ps):Nm n ps ps (kbv n):=by
 refine ⟨kkm n,fun x hx=>kdy.mp hx,fun i j x y hi hj=> ?_,by rw [kcj];exact h⟩
 rw [(kmg hi).1,(kmg hj).1]
noncomputable def upN (p i:Nat):Nat:=if i < p then i else i + 1
theorem kqo {l:List Int} {p i:Nat}:(l.eraseIdx p)[i]?=l[upN p i]?:=by
 rw [List.getElem?_eraseIdx]
 unfold upN
 split <;> rfl
theorem kqp {qs:List (Int×Int)} {p i j:Nat}:((i:Int),(j:Int))∈woF qs (p:Int)↔((upN p i:Int),(upN p j:Int))∈qs:=by
 unfold woF
 rw [ba8]
 constructor
 · rintro ⟨q,hq,e⟩
   obtain ⟨h1,h2⟩:=bf1.mp hq
   have h2:(p:Int)≠q.1∧(p:Int)≠q.2:=by simpa using h2
   have e1:cu (p:Int) q.1=(i:Int):=congrArg bw6 e
   have e2:cu (p:Int) q.2=(j:Int):=congrArg bw7 e
   have f1:q.1=(upN p i:Int):=by unfold cu at e1;unfold upN;split at e1 <;> split <;> lia
   have f2:q.2=(upN p j:Int):=by unfold cu at e2;unfold upN;split at e2 <;> split <;> lia
   rw [← f1,← f2]
   exact h1
 · intro h
   refine ⟨_,bf1.mpr ⟨h,?_⟩,?_⟩
   · simp only [ne_eq,bh5,decide_eq_true_eq]
     constructor <;> (unfold upN;split <;> lia)
   · unfold cu2 cu
     simp only [Prod.mk.injEq]
     constructor <;> (unfold upN;split <;> split <;> lia)
theorem kh1 {l:List Int} (nd:l.Nodup) {p:Nat} {x:Int} (h:l[p]?=some x):l.eraseIdx p=l.filter fun y=> !decide (y=x):=by
 induction l generalizing p with
 | nil=>cases h
 | cons a l ih=>
   obtain ⟨h1,h2⟩:=bk5.mp nd
   cases p with
   | zero=>
     have h:a=x:=bg4 h
     subst h
     rw [List.eraseIdx_cons_zero,bn1 (by simp),b39.mpr]
     intro y hy
     have: ¬y=a:=fun z=>h1 (z▸hy)
     simp [this]
   | succ p=>
     have h:l[p]?=some x:=h
     have: ¬a=x:=fun z=>h1 (z▸be2 h)
     rw [List.eraseIdx_cons_succ,bl2 (by simp [this]),ih h2 h]
theorem kgf {l:List Int} (nd:l.Nodup) {p:Nat} {x y:Int} (h:l[p]?=some x):y∈l.eraseIdx p↔y∈l∧y≠x:=by
 rw [kh1 nd h,bf1]
 simp
theorem Nm.step {n:Nat} {ps qs:List (Int×Int)} {names:List Int} (N:Nm n ps qs names) {p:Nat} {P:Int} (h:names[p]?=some P):Nm n ps (woF qs (p:Int)) (names.eraseIdx p):=by
 have hp:=(bb1.mp h).1
 refine ⟨N.nd.sublist (cb4 _ _),fun x hx=>N.inn x ((kgf N.nd h).mp hx).1,fun i j x y hi hj=> ?_,?_⟩
 · rw [kqo] at hi hj
   rw [N.tie _ _ _ _ hi hj,kqp]
 · rw [bk0 hp]
   have:=kym N.inr (p:=(p:Int)) (by lia) (by lia)
   rw [show ((names.length - 1:Nat):Int)=(names.length:Int) - 1 by lia]
   exact this
def ktv (ps:List (Int×Int)) (names:List Int) (P G:Int):Prop:=((P,G)∈ps∧∀y∈names,(P,y)∈ps→kjq ps G y)∨((G,P)∈ps∧∀y∈names,(y,P)∈ps→kjq ps y G)
theorem Nm.goal {n:Nat} {ps qs:List (Int×Int)} {names:List Int} (N:Nm n ps qs names) {p g:Nat} {P G:Int} (hp:names[p]?=some P) (hg:names[g]?=some G) (h:Goal qs (p:Int) (g:Int)):ktv ps names P G:=by
 have lq: ∀(i j:Nat) (x y:Int),names[i]?=some x→names[j]?=some y→kjq qs (i:Int) (j:Int)→kjq ps x y:=by
  intro i j x y hi hj l
  rcases l with l | l
  · have:i=j:=by lia
    subst this
    rw [hi] at hj
    exact .inl (bg4 hj)
  · exact .inr ((N.tie _ _ _ _ hi hj).mpr l)
 rcases h with ⟨h1,h2⟩ | ⟨h1,h2⟩
 · refine .inl ⟨(N.tie _ _ _ _ hp hg).mpr h1,fun y hy hpy=> ?_⟩
   obtain ⟨j,hj⟩:=bm5.mp hy
   exact lq _ _ _ _ hg hj (h2 _ ((N.tie _ _ _ _ hp hj).mp hpy))
 · refine .inr ⟨(N.tie _ _ _ _ hg hp).mpr h1,fun y hy hpy=> ?_⟩
   obtain ⟨j,hj⟩:=bm5.mp hy
   exact lq _ _ _ _ hj hg (h2 _ ((N.tie _ _ _ _ hj hp).mp hpy))
noncomputable def kh8 (P G x:Int):Int:=if x=P then G else x
theorem kqq {ps:List (Int×Int)} (o:Ordr ps) {names:List Int} {P G:Int} (h:ktv ps names P G) {x y:Int} (hx:x∈names) (hy:y∈names) (l:kjq ps x y):kjq ps (kh8 P G x) (kh8 P G y):=by
 unfold kh8
 by_cases ex:x=P
 · by_cases ey:y=P
   · rw [if_pos ex,if_pos ey];exact .inl rfl
   · rw [if_pos ex,if_neg ey]
     subst ex
     have hxy:(x,y)∈ps:=l.resolve_left fun z=>ey z.symm
     rcases h with ⟨h1,h2⟩ | ⟨h1,h2⟩
     · exact h2 y hy hxy
     · exact .inr (o.trs _ _ _ h1 hxy)
 · by_cases ey:y=P
   · rw [if_neg ex,if_pos ey]
     subst ey
     have hxy:(x,y)∈ps:=l.resolve_left ex
     rcases h with ⟨h1,h2⟩ | ⟨h1,h2⟩
     · exact .inr (o.trs _ _ _ hxy h1)
     · exact h2 x hx hxy
   · rw [if_neg ex,if_neg ey];exact l
structure Snd (n:Nat) (ps:List (Int×Int)) (names last:List Int):Prop where
 len:last.length=n
 to: ∀x∈last,x∈names
 fix: ∀x∈names,gt last x=x
 mono: ∀q∈ps,kjq ps (gt last q.1) (gt last q.2)
theorem ku4 {xs:List Int} {i:Int} (h0:0≤i) (h1:i < xs.length):gt xs i∈xs:=by
 unfold gt
 rw [bb9,bb2 (by lia:i.toNat < xs.length)]
 exact be8 _
theorem kqr {xs:List Int} {f:Int→Int} {i:Int} (h0:0≤i) (h1:i < xs.length):gt (xs.map f) i=f (gt xs i):=by
 unfold gt
 have:i.toNat < xs.length:=by lia
 simp [this]
theorem kqs {n:Nat} {i:Int} (h0:0≤i) (h1:i < (n:Int)):gt (kbv n) i=i:=by
 unfold gt kbv
 have:i.toNat < n:=by lia
 simp [this]
 lia
theorem Snd.start {n:Nat} {ps:List (Int×Int)} (h:kh7 n ps):Snd n ps (kbv n) (kbv n):=by
 refine ⟨kcj n,fun x hx=>hx,fun x hx=> ?_,fun q hq=> ?_⟩
 · obtain ⟨a,b⟩:=kdy.mp hx
   exact kqs a b
 · obtain ⟨a,b,c,d⟩:=h q hq
   rw [kqs a b,kqs c d]
   exact .inr hq
theorem Snd.step {n:Nat} {ps:List (Int×Int)} {names last:List Int} (o:Ordr ps) (hin:kh7 n ps) (nd:names.Nodup) (inn: ∀x∈names,0≤x∧x < (n:Int)) (S:Snd n ps names last) {p:Nat} {P G:Int} (hp:names[p]?=some P) (hG:G∈names) (hne:G≠P) (h:ktv ps names P G):
 Snd n ps (names.eraseIdx p) (last.map (kh8 P G)):=by
 refine ⟨by rw [ba3];exact S.len,fun x hx=> ?_,fun x hx=> ?_,fun q hq=> ?_⟩
 · obtain ⟨y,hy,rfl⟩:=ba8.mp hx
   rw [kgf nd hp]
   unfold kh8
   by_cases e:y=P
   · rw [if_pos e];exact ⟨hG,hne⟩
   · rw [if_neg e];exact ⟨S.to y hy,e⟩
 · obtain ⟨h1,h2⟩:=(kgf nd hp).mp hx
   obtain ⟨a,b⟩:=inn x h1
   rw [kqr a (by rw [S.len];exact b),S.fix x h1]
   unfold kh8
   rw [if_neg h2]
 · obtain ⟨a,b,c,d⟩:=hin q hq
   have l1:q.1 < (last.length:Int):=by rw [S.len];exact b
   have l2:q.2 < (last.length:Int):=by rw [S.len];exact d
   rw [kqr a l1,kqr c l2]
   exact kqq o h (S.to _ (ku4 a l1)) (S.to _ (ku4 c l2)) (S.mono q hq)
noncomputable def mvF:List (Int×Int)→List Int→List Int→List (Int×Int)
 | _,_,[]=>[]
 | ps,names,p::row=>(names.getD p.toNat 0,names.getD ((kb4 ps p).getD 0).toNat 0)::mvF (woF ps p) (names.eraseIdx p.toNat) row
noncomputable def sdF (last:List Int):List (Int×Int)→List (List Int)
 | []=>[]
 | m::mv=>last.map (kh8 m.1 m.2)::sdF (last.map (kh8 m.1 m.2)) mv
theorem k1u: ∀(row:List Int) (ps:List (Int×Int)) (names last:List Int),wkS ps names last row=sdF last (mvF ps names row)
 | [],_,_,_=>rfl
 | p::row,ps,names,last=>by
   show ktu ps names last p::wkS (woF ps p) (names.eraseIdx p.toNat) (ktu ps names last p) row=_
   rw [k1u row]
   rfl
theorem kh2 {l:List Int} {p:Int} (h0:0≤p) (h1:p < l.length):l[p.toNat]?=some (l.getD p.toNat 0):=by
 have:p.toNat < l.length:=by lia
 rw [bb9,bb2 this]
 rfl
theorem ktw: ∀{a:Nat} {qs:List (Int×Int)} {row:List Int} {n':Nat} {ps':List (Int×Int)},Walk a qs row n' ps'→∀{names:List Int},names.length=a→names.Nodup→wkN qs names row=names.filter fun x=> !decide (x∈(mvF qs names row).map (·.1)):=by
 intro a qs row n' ps' w
 induction w with
 | nil n ps=>
   intro names q_ q_
   show names=_
   rw [b39.mpr]
   intro x q_
   rfl
 | @cons m ps p row n' ps' h0 h1 h2 w ih=>
   intro names hl nd
   have hp:=kh2 (l:=names) h0 (by rw [hl];exact h1)
   show wkN (woF ps p) (names.eraseIdx p.toNat) row=_
   rw [ih (by rw [bk0 (by lia)];lia) (nd.sublist (cb4 _ _))]
   show _=names.filter fun x=> !decide (x∈names.getD p.toNat 0::(mvF (woF ps p) (names.eraseIdx p.toNat) row).map (·.1))
   conv=>lhs;rw [kh1 nd hp,b55]
   rw [← kh1 nd hp]
   refine b06 fun x q_=> ?_
   by_cases e1:x=names.getD p.toNat 0 <;> by_cases e2:x∈(mvF (woF ps p) (names.eraseIdx p.toNat) row).map (·.1) <;> simp only [e1,e2,bc7,true_or,false_or,or_true,or_false,decide_true,decide_false,Bool.not_true,cc4,Bool.and_true,b09,b57,b33]
theorem ktx {n:Nat} {ps:List (Int×Int)} (o:Ordr ps) (hin:kh7 n ps): ∀{a:Nat} {qs:List (Int×Int)} {row:List Int} {n':Nat} {ps':List (Int×Int)},Walk a qs row n' ps'→∀{names last:List Int},names.length=a→Nm n ps qs names→Snd n ps names last→
 (∀ r∈last::wkS qs names last row,∃names,Snd n ps names r∧∀x∈names,0≤x∧x < (n:Int))∧(∀ (k:Nat) (x y:List Int),(last::wkS qs names last row)[k]?=some x→(last::wkS qs names last row)[k + 1]?=some y→∃P G:Int,y=x.map (kh8 P G)∧∃names,ktv ps names P G)∧
 ∃ini fin,last::wkS qs names last row=ini++[fin]∧Snd n ps (wkN qs names row) fin∧Nm n ps ps' (wkN qs names row)∧(wkN qs names row).length=n':=by
 intro a qs row n' ps' w
 induction w with
 | nil a qs=>
   intro names last hl N S
   refine ⟨fun r hr=> ?_,fun k x y h1 h2=> ?_,[],last,rfl,S,N,hl⟩
   · rw [bc2.mp hr]
     exact ⟨_,S,N.inn⟩
   · have:=(bb1.mp h2).1
     simp [wkS] at this
 | @cons m qs p row n' ps' h0 h1 h2 w ih=>
   intro names last hl N S
   obtain ⟨g,hg⟩:=bo7.mp h2
   have gs:=kjk hg
   have gi:=kkl N.inr hg
   have hp:=kh2 (l:=names) h0 (by rw [hl];exact h1)
   have hgn:=kh2 (l:=names) gi.1 gi.2
   have ep:((p.toNat:Nat):Int)=p:=by lia
   have eg:((g.toNat:Nat):Int)=g:=by lia
   have gn:=N.goal hp hgn (by rw [ep,eg];exact gs)
   have hG:names.getD g.toNat 0∈names:=be2 hgn
   have hne:names.getD g.toNat 0≠names.getD p.toNat 0:=by
    intro z
    rcases gn with ⟨h,_⟩ | ⟨h,_⟩
    · rw [z] at h;exact o.irr _ h
    · rw [z] at h;exact o.irr _ h
   have S2:=S.step o hin N.nd N.inn hp hG hne gn
   have N2:=N.step hp
   rw [ep] at N2
   have es:ktu qs names last p=last.map (kh8 (names.getD p.toNat 0) (names.getD g.toNat 0)):=by
    unfold ktu kh8
    rw [hg]
    rfl
   have l2:(names.eraseIdx p.toNat).length=m:=by rw [bk0 (by lia)];lia
   rw [← es] at S2
   obtain ⟨i1,i2,ini,fin,i3,i4,i5,i6⟩:=ih l2 N2 S2
   have ew:wkS qs names last (p::row)=ktu qs names last p::wkS (woF qs p) (names.eraseIdx p.toNat) (ktu qs names last p) row:=rfl
   have en:wkN qs names (p::row)=wkN (woF qs p) (names.eraseIdx p.toNat) row:=rfl
   rw [ew,en]
   refine ⟨fun r hr=> ?_,fun k x y h1 h2=> ?_,last::ini,fin,by rw [i3];rfl,i4,i5,i6⟩
   · rcases bc7.mp hr with rfl | hr
     · exact ⟨_,S,N.inn⟩
     · exact i1 r hr
   · cases k with
     | zero=>
       have e1:last=x:=bg4 h1
       have e2:ktu qs names last p=y:=bg4 h2
       subst e1
       exact ⟨_,_,by rw [← e2,es],names,gn⟩
     | succ k=>exact i2 k x y h1 h2
theorem kgx: ∀xs:List Int,bi4 (xs.map ba1)=0
 | []=>rfl
 | x::xs=>by
   show max (bu9 (.int x)) (bi4 (xs.map ba1))=0
   rw [kgx xs];rfl
theorem kmh: ∀xs ys:List Int,bm2 (xs.map ba1) (ys.map ba1)=decide (xs=ys)
 | [],[]=>rfl
 | [],_::_=>rfl
 | _::_,[]=>rfl
 | x::xs,y::ys=>by
   show (bi2 (.int x) (.int y) && bm2 (xs.map ba1) (ys.map ba1))=_
   rw [kbj,kmh xs ys]
   by_cases h1:x=y <;> by_cases h2:xs=ys <;> simp [h1,h2]
def kmi (ds:List ba9) (RS:Dt→Prop):Prop:=∃(n:Nat) (ps:List (Int×Int)) (row:List Int) (n':Nat) (ps':List (Int×Int)),ds=[spD n ps,.list (row.map ba1)]∧n≤100∧kh7 n ps∧Walk n ps row n' ps'∧RS (.o ((mvF ps (kbv n) row).map pD))
def kyn (ds:List ba9) (RS:Dt→Prop):Prop:=∃(n:Nat) (ps:List (Int×Int)) (row:List Int) (n':Nat) (ps':List (Int×Int)),ds=[spD n ps,.list (row.map ba1)]∧n≤100∧kh7 n ps∧Walk n ps row n' ps'∧RS (.o ((wkN ps (kbv n) row).map ba1))
def kyo (ds:List ba9) (RS:Dt→Prop):Prop:=∃(n:Nat) (ps:List (Int×Int)) (row:List Int) (n':Nat) (ps':List (Int×Int)),ds=[spD n ps,.list (row.map ba1)]∧n≤100∧kh7 n ps∧Walk n ps row n' ps'∧RS (.o ((kbv n::wkS ps (kbv n) (kbv n) row).map kh6))
theorem ku5: ∀(row:List Int) (ps:List (Int×Int)) (names:List Int),(mvF ps names row).length=row.length
 | [],_,_=>rfl
 | p::row,ps,names=>congrArg (· + 1) (ku5 row _ _)
theorem kty (l:List Int) (x:Int):((l.map ba1).any fun d=>d.eqv (ba1 x))=decide (x∈l):=by
 rw [bh0,ci6,decide_eq_true_iff]
 constructor
 · rintro ⟨d,hd,e⟩
   obtain ⟨y,hy,rfl⟩:=ba8.mp hd
   rw [kbj] at e
   rw [← of_decide_eq_true e]
   exact hy
 · intro h
   exact ⟨.int x,ba8.mpr ⟨x,h,rfl⟩,by rw [kbj];exact decide_eq_true rfl⟩
theorem ku6 (xs:List Int):okD (.list (xs.map ba1)):=kbr xs
theorem k1v (xs:List Int):kk8 (.list (xs.map ba1)):=by
 show bi4 (xs.map ba1) + 1≤9
 rw [kgx];decide
section
variable {P:bb8} {w:World} {K:ba0} {mg:Str→Option Value} {base:Heap}
theorem kyp:FnScope ["space","row","here","first_numbers","found","point","behind"] ["space","row"] (kag kkd):=⟨rfl,rfl,rfl,by decide +kernel,rfl,by decide +kernel,by decide +kernel⟩
theorem ok_Mv {f:Addr} {fd:bf0} (F:Fun K "moves" "moves" kkd f fd) (T:Txt K mg) (GFo:Fn P w K mg base "folded" 4 ["space","point"] (spG K kge)) (GGo:Fn P w K mg base "goal" 3 ["space","point"] (spG K kqm)):
 FnOk P w K mg base CX0 5 f fd ["space","row"] (spG K kmi):=by
 refine F.okG kyp (fun ds RS h=> ?_) (fun cdv A outer s H E hr=>(kae (kax 2 (fun q_=>kyp.nd) (kac 0))
  (kae (kez 3 (fun q_=>kyp.nd) (kdj (kay (kap 0) (kao).bw).bw (fun q_=>T.list) (fun q_=>T.range)))
  (kae (kez 4 (fun q_=>kyp.nd) (kgm kah))
  (kae (kd7 (fun q_=>bf7) (kbn (kac 1)) (ka7 5 (fun q_=>kyp.nd)) (kae (kax 6 (fun q_=>kyp.nd) (kam GFo (fun q_=>hr.mono (by decide)) (kaa (kac 2) (kaa (kac 5) kah))))
  (kae (ki0 4 (kbp (kaa (kay (kap 3) (kar 5)) (kaa (kay (kap 3) (kam GGo (fun q_=>hr.mono (by decide)) (kaa (kac 2) (kaa (kac 5) kah))).bw) kah))))
  (kae (kw2 3 (kar 5))
  (kaj (kax 2 (fun q_=>kyp.nd) (kac 6)))))))
  (kaj (kct 4))))))) (fun ds RS h=> ?_)
 · obtain ⟨n,ps,row,n',ps',rfl,_⟩:=h;rfl
 · obtain ⟨n,ps,row,n',ps',rfl,hn,hin,hw,hR⟩:=h
   refine kbo (fun env=>env=[.d (spD n ps),.d (.list (row.map ba1)),.d (spD n ps),.un,.un,.un,.un]) (fun N hN=> ?_) ?_
   · simp only [rD]
     exact hN _ rfl
   rintro env rfl
   refine kbo (fun env=>env=[.d (spD n ps),.d (.list (row.map ba1)),.d (spD n ps),.o ((kbv n).map ba1),.un,.un,.un]) (fun N hN=> ?_) ?_
   · simp only [rD,kb0,at0]
     refine ⟨by lia,by lia,?_⟩
     rw [bg8,kb5]
     exact hN _ rfl
   rintro env rfl
   refine kbo (fun env=>env=[.d (spD n ps),.d (.list (row.map ba1)),.d (spD n ps),.o ((kbv n).map ba1),.o [],.un,.un]) (fun N hN=> ?_) ?_
   · simp only [rD]
     exact hN _ rfl
   rintro env rfl
   refine ⟨_,rfl,_,rfl,fun k env=>∃(a:Nat) (qs:List (Int×Int)) (names:List Int) (mv:List (Int×Int)) (v5 v6:Dt),env=[.d (spD n ps),.d (.list (row.map ba1)),.d (spD a qs),.o (names.map ba1),.o (mv.map pD),v5,v6]∧
    Walk a qs (row.drop k) n' ps'∧kh7 a qs∧names.length=a∧mv.length=k∧mvF ps (kbv n) row=mv++mvF qs names (row.drop k),⟨n,ps,kbv n,[],_,_,rfl,hw,hin,kcj n,rfl,rfl⟩,?_,?_⟩
   · rintro k y env hy ⟨a,qs,names,mv,v5,v6,rfl,w,iq,ln,ls,e1⟩
     rw [be3] at hy
     obtain ⟨p,hp,rfl⟩:=bg3.mp hy
     obtain ⟨hk,e⟩:=bb1.mp hp
     have wl:=hw.len
     rw [bi6 hk,e] at w e1
     cases w with
     | @cons m _ _ _ _ _ h0 h1 h2 w=>
       have wl2:=w.len
       rw [bn7] at wl2
       obtain ⟨g,hg⟩:=bo7.mp h2
       have hgi:=kkl iq hg
       have hpn:p < names.length:=by rw [ln];exact h1
       simp only [rD,kqn h0 hpn]
       refine ⟨_,qs,p,rfl,h0,h1,h2,_,rfl,?_⟩
       refine ⟨_,qs,p,rfl,h0,h1,_,rfl,?_⟩
       rw [hg]
       refine ⟨g,rfl,_,kqn hgi.1 (by rw [ln];exact hgi.2),?_⟩
       have eb:((names.map ba1).eraseIdx p.toNat)=(names.eraseIdx p.toNat).map ba1:=kfu _ _ _
       have iq2:=kym iq h0 h1
       rw [sc1] at iq2
       refine ⟨by rw [ba3];lia,p.toNat,by lia,by rw [ba3];lia,by lia,m,woF qs p,names.eraseIdx p.toNat,mv++[(names.getD p.toNat 0,names.getD g.toNat 0)],.d (.int p),.d (spD (m:Int) (woF qs p)),?_,w,iq2,?_,?_,?_⟩
       · rw [sc1,eb,bi5];rfl
       · rw [bk0 (by lia)];lia
       · rw [ba6,ls];rfl
       · rw [e1,bc6]
         show mv++((_,names.getD ((kb4 qs p).getD 0).toNat 0)::mvF (woF qs p) (names.eraseIdx p.toNat) _)=_
         rw [hg]
         rfl
   · rintro env ⟨a,qs,names,mv,v5,v6,rfl,w,iq,ln,ls,e1⟩
     rw [ba3,b91] at w e1
     cases w
     refine ⟨_,rfl,?_⟩
     rw [e1,show mvF ps' names []=[] from rfl,be4] at hR
     exact ⟨(fun z=>by cases z),hR⟩
theorem scLe:FnScope ["space","row","gone"] ["space","row"] (kag kp7):=⟨rfl,rfl,rfl,by decide +kernel,rfl,by decide +kernel,by decide +kernel⟩
theorem ok_Le {f:Addr} {fd:bf0} (F:Fun K "left" "left" kp7 f fd) (T:Txt K mg) (GMv:Fn P w K mg base "moves" 5 ["space","row"] (spG K kmi)):
 FnOk P w K mg base CX0 6 f fd ["space","row"] (spG K kyn):=by
 refine F.okG scLe (fun ds RS h=> ?_) (fun cdv A outer s H E hr=>(kae (kax 2 (fun q_=>scLe.nd) ((kc5 (N':=["away","onto"]) (fun q_=>(.own (.own .nil))) (kbn ((ka6 GMv (fun q_=>hr.mono (by decide)) (kaa (kac 0) (kaa (kac 1) kah))).ew)) (kcg 0 1 (fun q_=>(by decide +kernel:(["away","onto"]:List Str).Nodup))) kbf (kac 0)).ew))
  (kaj (kdk (kc5 (N':=["point","gone"]) (fun q_=>(.own (.cap 2 rfl rfl rfl .nil))) (kb8 (kay (kap 0) (kao).bw).bw (fun q_=>T.range)) (ka7 0 (fun q_=>(by decide +kernel:(["point","gone"]:List Str).Nodup))) (kfy (kbc (klc (fun q_=>ka5 hr (by decide))) (kar 0) (kar 1))) (kac 0)))))) (fun ds RS h=> ?_)
 · obtain ⟨n,ps,row,n',ps',rfl,_⟩:=h;rfl
 · obtain ⟨n,ps,row,n',ps',rfl,hn,hin,hw,hR⟩:=h
   refine kbo (fun env=>env=[.d (spD n ps),.d (.list (row.map ba1)),.d (.list (((mvF ps (kbv n) row).map (·.1)).map ba1))]) (fun N hN=> ?_) ?_
   · simp only [rD,xLC]
     refine ⟨n,ps,row,n',ps',rfl,hn,hin,hw,?_⟩
     refine ⟨_,rfl,Gf (mvF ps (kbv n) row) pD (fun q_=>true) (fun q=> .int q.1),fun y hy=> ?_,fun o ho=> ?_⟩
     · obtain ⟨q,hq,rfl⟩:=ba8.mp hy
       exact ⟨_,_,rfl,Gf.keep hq rfl rfl⟩
     · rw [Gf.all kgc ho]
       exact hN _ (by rw [bc1];rfl)
   rintro env rfl
   simp only [rD,xLC,kb0,at0]
   refine ⟨by lia,by lia,?_⟩
   rw [bg8,kb5]
   refine ⟨Gf (kbv n) ba1 (fun x=> !decide (x∈(mvF ps (kbv n) row).map (·.1))) ba1,fun y hy=> ?_,fun o ho=> ?_⟩
   · obtain ⟨x,hx,rfl⟩:=ba8.mp hy
     refine ⟨kbr _,okI x,shI x,?_⟩
     rw [kty]
     exact kfg (fun e=>Gf.keep hx e rfl) (fun e=>Gf.skip hx (by simpa using e))
   · rw [Gf.out kcl ho,← ktw hw (kcj n) (kkm n)]
     exact hR
theorem k1w:FnScope ["space","row","last","told","away","onto"] ["space","row"] (kag ke6):=⟨rfl,rfl,rfl,by decide +kernel,rfl,by decide +kernel,by decide +kernel⟩
theorem ok_Se {f:Addr} {fd:bf0} (F:Fun K "sendings" "sendings" ke6 f fd) (T:Txt K mg) (GMv:Fn P w K mg base "moves" 5 ["space","row"] (spG K kmi)):
 FnOk P w K mg base CX0 6 f fd ["space","row"] (spG K kyo):=by
 refine F.okG k1w (fun ds RS h=> ?_) (fun cdv A outer s H E hr=>(kae (kax 2 (fun q_=>k1w.nd) ((kdj (kay (kap 0) (kao).bw).bw (fun q_=>T.list) (fun q_=>T.range)).ew))
  (kae (kez 3 (fun q_=>k1w.nd) (kgm (kaa (kdi 2 (fun q_=>T.tuple)) kah)))
  (kae (kd7 (fun q_=>bf7) (kbn ((ka6 GMv (fun q_=>hr.mono (by decide)) (kaa (kac 0) (kaa (kac 1) kah))).ew)) (kcg 4 5 (fun q_=>k1w.nd)) (kae (kep 2 (fun q_=>k1w.nd) (N':=["point","onto","away"]) (fun q_=>(.own (.cap 5 rfl rfl rfl (.cap 4 rfl rfl rfl .nil)))) (kbn (kac 2)) (ka7 0 (fun q_=>(by decide +kernel:(["point","onto","away"]:List Str).Nodup))) kbf (kwf (kbc (kg6 (fun q_=>ka5 hr (by decide))) (kar 0) (kar 2)) (kac 1) (kac 0)))
  (DSs.frz 2 (kaj (ki0 3 (kdi 2 (fun q_=>T.tuple)))))))
  (kaj (kct 3)))))) (fun ds RS h=> ?_)
 · obtain ⟨n,ps,row,n',ps',rfl,_⟩:=h;rfl
 · obtain ⟨n,ps,row,n',ps',rfl,hn,hin,hw,hR⟩:=h
   refine kbo (fun env=>env=[.d (spD n ps),.d (.list (row.map ba1)),.d (.list ((kbv n).map ba1)),.un,.un,.un]) (fun N hN=> ?_) ?_
   · simp only [rD,kb0,at0]
     refine ⟨by lia,by lia,?_⟩
     rw [bg8,kb5]
     exact hN _ rfl
   rintro env rfl
   refine kbo (fun env=>env=[.d (spD n ps),.d (.list (row.map ba1)),.d (.list ((kbv n).map ba1)),.o [kh6 (kbv n)],.un,.un]) (fun N hN=> ?_) ?_
   · simp only [rD]
     exact hN _ rfl
   rintro env rfl
   have wl:=hw.len
   refine ⟨_,rfl,_,rfl,n,ps,row,n',ps',rfl,hn,hin,hw,_,rfl,_,rfl,fun k env=>∃(last:List Int) (told:List (List Int)) (v4 v5:Dt),env=[.d (spD n ps),.d (.list (row.map ba1)),.d (.list (last.map ba1)),.o (told.map kh6),v4,v5]∧told.length=k + 1∧kbv n::sdF (kbv n) (mvF ps (kbv n) row)=told++sdF last ((mvF ps (kbv n) row).drop k),⟨kbv n,[kbv n],_,_,rfl,rfl,rfl⟩,?_,?_⟩
   · rintro k y env hy ⟨last,told,v4,v5,rfl,lt,e1⟩
     rw [be3] at hy
     obtain ⟨q,hq,rfl⟩:=bg3.mp hy
     obtain ⟨hk,e⟩:=bb1.mp hq
     have hk2:=hk
     rw [ku5] at hk2
     rw [bi6 hk,e] at e1
     simp only [rD,xLC]
     refine ⟨_,_,rfl,?_⟩
     refine ⟨Gf last ba1 (fun q_=>true) (fun x=> .int (kh8 q.1 q.2 x)),fun y hy=> ?_,fun o ho=> ?_⟩
     · obtain ⟨x,hx,rfl⟩:=ba8.mp hy
       refine ⟨okI _,okI _,.inl (shI _),?_⟩
       rw [kbj]
       refine kfg (fun e=> ?_) (fun e=> ?_)
       · exact Gf.keep hx rfl (by show ba1 q.2=ba1 (kh8 q.1 q.2 x);unfold kh8;rw [if_pos (of_decide_eq_true e)])
       · exact Gf.keep hx rfl (by show ba1 x=ba1 (kh8 q.1 q.2 x);unfold kh8;rw [if_neg (by simpa using e)])
     · rw [Gf.all kcl ho]
       refine ⟨by rw [ba3];lia,last.map (kh8 q.1 q.2),told++[last.map (kh8 q.1 q.2)],.d (.int q.1),.d (.int q.2),?_,by rw [ba6,lt];rfl,?_⟩
       · rw [bi5,bc1,List.map_singleton]
         unfold kh6
         rw [bc1]
         rfl
       · rw [e1,bc6];rfl
   · rintro env ⟨last,told,v4,v5,rfl,lt,e1⟩
     rw [ba3,b91] at e1
     rw [k1u,e1,show sdF last []=[] from rfl,be4] at hR
     exact ⟨_,rfl,(fun z=>by cases z),hR⟩
end
def Plaw (ds:List ba9) (RS:Dt→Prop):Prop:=∃ns:List Int,ds=[kg3 ns]∧ns.length≤63∧RS (.d (.bool true))
theorem ok_sp (n:Int) (ps:List (Int×Int)):okD (spD n ps):=by
 show (be1 (ps.map pD) && true)=true
 rw [kdr];rfl
theorem kek: ∀ps:List (Int×Int),bi4 (ps.map pD)≤1
 | []=>bf4 _
 | p::r=>by
   show max (bu9 (pD p)) (bi4 (r.map pD))≤1
   have h1:=kek r
   have h2:bu9 (pD p)=1:=rfl
   lia
theorem sh_sp (n:Int) (ps:List (Int×Int)):kk8 (spD n ps):=by
 show max 0 (max (bi4 (ps.map pD) + 1) 0) + 1≤9
 have:=kek ps
 lia
theorem kjl: ∀ps qs:List (Int×Int),bm2 (ps.map pD) (qs.map pD)=decide (ps=qs)
 | [],[]=>rfl
 | [],_::_=>rfl
 | _::_,[]=>rfl
 | x::xs,y::ys=>by
   show (bi2 (pD x) (pD y) && bm2 (xs.map pD) (ys.map pD))=_
   rw [ku0,kjl xs ys]
   by_cases h1:x=y <;> by_cases h2:xs=ys <;> simp [h1,h2]
abbrev Rl:=Nat→Nat→Bool
structure Iso (n:Nat) (T U:Rl) (f:Nat→Nat):Prop where
 lt: ∀a,a < n→f a < n
 inj: ∀a b,a < n→b < n→f a=f b→a=b
 eq: ∀a b,a < n→b < n→T a b=U (f a) (f b)
theorem kco {f:Nat→Nat}: ∀{l:List Nat},l.Nodup→(∀ a b,a∈l→b∈l→f a=f b→a=b)→(l.map f).Nodup
 | [],_,_=>bw2
 | a::l,h,hf=>by
   obtain ⟨h1,h2⟩:=bk5.mp h
   rw [bg5]
   refine bk5.mpr ⟨fun z=> ?_,kco h2 fun x y hx hy=>hf x y (bb7 _ hx) (bb7 _ hy)⟩
   obtain ⟨b,hb,e⟩:=ba8.mp z
   have:=hf b a (bb7 _ hb) bc4 e
   rw [this] at hb
   exact h1 hb
theorem kqt {n:Nat} {f:Nat→Nat} (lt: ∀a,a < n→f a < n) (inj: ∀a b,a < n→b < n→f a=f b→a=b) {b:Nat} (hb:b < n): ∃a,a < n∧f a=b:=by
 refine br3 fun z=> ?_
 have nd:((ba5 n).map f).Nodup:=kco bi7 fun x y hx hy=>inj x y (ba7.mp hx) (ba7.mp hy)
 have nd2:(b::(ba5 n).map f).Nodup:=bk5.mpr ⟨fun m=>by
  obtain ⟨a,ha,e⟩:=ba8.mp m
  exact z ⟨a,ba7.mp ha,e⟩,nd⟩
 have sub:(b::(ba5 n).map f) ⊆ ba5 n:=fun x hx=>by
  rcases bc7.mp hx with rfl | hx
  · exact ba7.mpr hb
  · obtain ⟨a,ha,rfl⟩:=ba8.mp hx
    exact ba7.mpr (lt a (ba7.mp ha))
 have:=nd2.length_le_of_subset sub
 simp at this
 lia
theorem Iso.onto {n:Nat} {T U:Rl} {f:Nat→Nat} (h:Iso n T U f) {b:Nat} (hb:b < n): ∃a,a < n∧f a=b:=kqt h.lt h.inj hb
noncomputable def undr (T:Rl) (n p:Nat):List Nat:=(ba5 n).filter fun q=>T q p
noncomputable def ovr (T:Rl) (n p:Nat):List Nat:=(ba5 n).filter fun q=>T p q
theorem kbm {T:Rl} {n p q:Nat}:q∈undr T n p↔q < n∧T q p=true:=by unfold undr;rw [bf1,ba7]
theorem kdb {T:Rl} {n p q:Nat}:q∈ovr T n p↔q < n∧T p q=true:=by unfold ovr;rw [bf1,ba7]
theorem kgy (T:Rl) (n p:Nat):(undr T n p).Nodup:=bi7.filter _
theorem kjm (T:Rl) (n p:Nat):(ovr T n p).Nodup:=bi7.filter _
theorem Iso.undr {n:Nat} {T U:Rl} {f:Nat→Nat} (h:Iso n T U f) {p:Nat} (hp:p < n):((undr T n p).map f).Perm (undr U n (f p)):=by
 refine (bl5 (kco (kgy T n p) fun a b ha hb=>h.inj a b (kbm.mp ha).1 (kbm.mp hb).1) (kgy U n (f p))).mpr fun x=> ?_
 rw [kbm,ba8]
 constructor
 · rintro ⟨a,ha,rfl⟩
   obtain ⟨h1,h2⟩:=kbm.mp ha
   exact ⟨h.lt a h1,by rw [← h.eq a p h1 hp];exact h2⟩
 · rintro ⟨h1,h2⟩
   obtain ⟨a,ha,rfl⟩:=h.onto h1
   exact ⟨a,kbm.mpr ⟨ha,by rw [h.eq a p ha hp];exact h2⟩,rfl⟩
theorem Iso.ovr {n:Nat} {T U:Rl} {f:Nat→Nat} (h:Iso n T U f) {p:Nat} (hp:p < n):((ovr T n p).map f).Perm (ovr U n (f p)):=by
 refine (bl5 (kco (kjm T n p) fun a b ha hb=>h.inj a b (kdb.mp ha).1 (kdb.mp hb).1) (kjm U n (f p))).mpr fun x=> ?_
 rw [kdb,ba8]
 constructor
 · rintro ⟨a,ha,rfl⟩
   obtain ⟨h1,h2⟩:=kdb.mp ha
   exact ⟨h.lt a h1,by rw [← h.eq p a hp h1];exact h2⟩
 · rintro ⟨h1,h2⟩
   obtain ⟨a,ha,rfl⟩:=h.onto h1
   exact ⟨a,kdb.mpr ⟨ha,by rw [h.eq p a hp ha];exact h2⟩,rfl⟩
theorem kkn: ∀{x y:List Int},x.Pairwise (· ≤ ·)→y.Pairwise (· ≤ ·)→x.Perm y→x=y
 | [],y,_,_,p=>(ci7 p)
 | a::x,[],_,_,p=>absurd p.length_eq (by simp)
 | a::x,b::y,hx,hy,p=>by
   obtain ⟨h1,h2⟩:=bj9.mp hx
   obtain ⟨h3,h4⟩:=bj9.mp hy
   have e:a=b:=by
    have m1:a∈b::y:=p.mem_iff.mp bc4
    have m2:b∈a::x:=p.mem_iff.mpr bc4
    rcases bc7.mp m1 with e | m1
    · exact e
    · rcases bc7.mp m2 with e | m2
      · exact e.symm
      · exact Int.le_antisymm (h1 b m2) (h3 a m1)
   subst e
   rw [kkn h2 h4 (ce4 p)]
noncomputable def kd3 (l:List Int):List Int:=l.mergeSort (fun a b=>decide (a≤b))
theorem kdz (l:List Int):(kd3 l).Perm l:=List.mergeSort_perm ..
theorem kmj (l:List Int):(kd3 l).Pairwise (· ≤ ·):=by
 have:=List.pairwise_mergeSort (le:=fun a b:Int=>decide (a≤b)) (fun a b c h1 h2=>by simp at h1 h2 ⊢;lia) (fun a b=>by simp;lia) l
 exact this.imp fun h=>by simpa using h
theorem kmk {l x:List Int} (h:x.Pairwise (· ≤ ·)) (p:x.Perm l):x=kd3 l:=kkn h (kmj l) (p.trans (kdz l).symm)
theorem kgg {l x:List Int} (p:x.Perm l):kd3 x=kd3 l:=kmk (kmj x) ((kdz x).trans p)
noncomputable def seen (T:Rl) (n:Nat) (M:Nat→Int) (p:Nat):Vw:=(M p,kd3 ((undr T n p).map M),kd3 ((ovr T n p).map M))
theorem Iso.seen {n:Nat} {T U:Rl} {f:Nat→Nat} (h:Iso n T U f) {M N:Nat→Int} (r: ∀p,p < n→M p=N (f p)) {p:Nat} (hp:p < n):seen T n M p=seen U n N (f p):=by
 unfold Me.seen
 have e1:kd3 ((Me.undr T n p).map M)=kd3 ((Me.undr U n (f p)).map N):=by
  refine kgg ?_
  have:=(h.undr hp).map N
  rw [bc1] at this
  rw [show (Me.undr T n p).map M=(Me.undr T n p).map (N ∘ f) from bi8 fun q hq=>r q (kbm.mp hq).1]
  exact this
 have e2:kd3 ((Me.ovr T n p).map M)=kd3 ((Me.ovr U n (f p)).map N):=by
  refine kgg ?_
  have:=(h.ovr hp).map N
  rw [bc1] at this
  rw [show (Me.ovr T n p).map M=(Me.ovr T n p).map (N ∘ f) from bi8 fun q hq=>r q (kdb.mp hq).1]
  exact this
 rw [r p hp,e1,e2]
theorem Iso.all {n:Nat} {T U:Rl} {f:Nat→Nat} (h:Iso n T U f) {M N:Nat→Int} (r: ∀p,p < n→M p=N (f p)):((ba5 n).map (Me.seen T n M)).Perm ((ba5 n).map (Me.seen U n N)):=by
 have pf:((ba5 n).map f).Perm (ba5 n):=by
  refine (bl5 (kco bi7 fun a b ha hb=>h.inj a b (ba7.mp ha) (ba7.mp hb)) bi7).mpr fun x=> ?_
  rw [ba8,ba7]
  constructor
  · rintro ⟨a,ha,rfl⟩
    exact h.lt a (ba7.mp ha)
  · intro hx
    obtain ⟨a,ha,e⟩:=h.onto hx
    exact ⟨a,ba7.mpr ha,e⟩
 have:=pf.map (Me.seen U n N)
 rw [bc1] at this
 rw [show (ba5 n).map (Me.seen T n M)=(ba5 n).map (Me.seen U n N ∘ f) from bi8 fun p hp=>h.seen r (ba7.mp hp)]
 exact this
theorem k1x {n:Nat} {T U:Rl} {M N:Nat→Int} (hv:((ba5 n).map (seen T n M)).Perm ((ba5 n).map (seen U n N))) (hd: ∀a b,a < n→b < n→M a=M b→a=b) {f:Nat→Nat} (hf: ∀p,p < n→f p < n∧N (f p)=M p):Iso n T U f:=by
 have mp:((ba5 n).map M).Perm ((ba5 n).map N):=by
  have:=hv.map (fun v:Vw=>v.1)
  rw [bc1,bc1] at this
  exact this
 have ndM:((ba5 n).map M).Nodup:=by
  have: ∀{l:List Nat},l.Nodup→(∀ a b,a∈l→b∈l→M a=M b→a=b)→(l.map M).Nodup:=by
   intro l
   induction l with
   | nil=>intro q_ q_;exact bw2
   | cons a l ih=>
     intro h hf
     obtain ⟨h1,h2⟩:=bk5.mp h
     rw [bg5]
     refine bk5.mpr ⟨fun z=> ?_,ih h2 fun x y hx hy=>hf x y (bb7 _ hx) (bb7 _ hy)⟩
     obtain ⟨b,hb,e⟩:=ba8.mp z
     have:=hf b a (bb7 _ hb) bc4 e
     rw [this] at hb
     exact h1 hb
  exact this bi7 fun a b ha hb=>hd a b (ba7.mp ha) (ba7.mp hb)
 have ndN:((ba5 n).map N).Nodup:=mp.nodup_iff.mp ndM
 have hdN: ∀a b,a < n→b < n→N a=N b→a=b:=fun a b ha hb e=>by
  rcases bl3 a b with z | z | z
  · have:=bd0.mp ndN a b (by simpa using ha) (by simpa using hb) z
    simp at this
    exact absurd e this
  · exact z
  · have:=bd0.mp ndN b a (by simpa using hb) (by simpa using ha) z
    simp at this
    exact absurd e.symm this
 have sv: ∀p,p < n→seen T n M p=seen U n N (f p):=fun p hp=>by
  have m:seen T n M p∈(ba5 n).map (seen U n N):=hv.mem_iff.mp (bh2 (ba7.mpr hp))
  obtain ⟨q,hq,e⟩:=ba8.mp m
  have hq:=ba7.mp hq
  have e1:N q=M p:=congrArg (fun v:Vw=>v.1) e
  have:q=f p:=hdN q (f p) hq (hf p hp).1 (e1.trans (hf p hp).2.symm)
  rw [← this]
  exact e.symm
 refine ⟨fun a ha=>(hf a ha).1,fun a b ha hb e=>hd a b ha hb (by rw [← (hf a ha).2,← (hf b hb).2,e]),fun a b ha hb=> ?_⟩
 have e:=congrArg (fun v:Vw=>v.2.1) (sv b hb)
 have pm:((undr T n b).map M).Perm ((undr U n (f b)).map N):=((kdz _).symm.trans (by rw [show kd3 ((undr T n b).map M)=kd3 ((undr U n (f b)).map N) from e])).trans (kdz _)
 rw [bh0]
 constructor
 · intro h
   have:M a∈(undr U n (f b)).map N:=pm.mem_iff.mp (bh2 (kbm.mpr ⟨ha,h⟩))
   obtain ⟨q,hq,e⟩:=ba8.mp this
   obtain ⟨q1,q2⟩:=kbm.mp hq
   have:q=f a:=hdN q (f a) q1 (hf a ha).1 (e.trans (hf a ha).2.symm)
   rw [← this]
   exact q2
 · intro h
   have:N (f a)∈(undr T n b).map M:=pm.mem_iff.mpr (bh2 (kbm.mpr ⟨(hf a ha).1,h⟩))
   obtain ⟨q,hq,e⟩:=ba8.mp this
   obtain ⟨q1,q2⟩:=kbm.mp hq
   have:q=a:=hd q a q1 ha (e.trans (hf a ha).2)
   rw [← this]
   exact q2
noncomputable def swp (x y a:Nat):Nat:=if a=x then y else if a=y then x else a
theorem Iso.swap {n:Nat} {T U:Rl} {f:Nat→Nat} (h:Iso n T U f) {x y:Nat} (hx:x < n) (hy:y < n) (irr: ∀a,a < n→U a a=false) (h1:Me.undr U n x=Me.undr U n y) (h2:Me.ovr U n x=Me.ovr U n y):Iso n T U (fun a=>swp x y (f a)):=by
 have eu: ∀a,a < n→U a x=U a y:=fun a ha=>by
  have:a∈Me.undr U n x↔a∈Me.undr U n y:=by rw [h1]
  rw [kbm,kbm] at this
  rw [bh0]
  exact ⟨fun z=>(this.mp ⟨ha,z⟩).2,fun z=>(this.mpr ⟨ha,z⟩).2⟩
 have eo: ∀a,a < n→U x a=U y a:=fun a ha=>by
  have:a∈Me.ovr U n x↔a∈Me.ovr U n y:=by rw [h2]
  rw [kdb,kdb] at this
  rw [bh0]
  exact ⟨fun z=>(this.mp ⟨ha,z⟩).2,fun z=>(this.mpr ⟨ha,z⟩).2⟩
 have sw: ∀a b,a < n→b < n→U (swp x y a) (swp x y b)=U a b:=fun a b ha hb=>by
  have l: ∀c,c < n→U (swp x y a) c=U a c:=fun c hc=>by
   unfold swp
   by_cases e1:a=x
   · rw [if_pos e1,e1,eo c hc]
   · rw [if_neg e1]
     by_cases e2:a=y
     · rw [if_pos e2,e2,eo c hc]
     · rw [if_neg e2]
  have r: ∀c,c < n→U c (swp x y b)=U c b:=fun c hc=>by
   unfold swp
   by_cases e1:b=x
   · rw [if_pos e1,e1,eu c hc]
   · rw [if_neg e1]
     by_cases e2:b=y
     · rw [if_pos e2,e2,eu c hc]
     · rw [if_neg e2]
  have hb':swp x y b < n:=by unfold swp;split;exact hy;split;exact hx;exact hb
  rw [l _ hb',r _ ha]
 refine ⟨fun a ha=> ?_,fun a b ha hb e=>h.inj a b ha hb ?_,fun a b ha hb=>by rw [sw _ _ (h.lt a ha) (h.lt b hb)];exact h.eq a b ha hb⟩
 · have:=h.lt a ha
   show swp x y (f a) < n
   unfold swp;split;exact hy;split;exact hx;exact this
 · have e:swp x y (f a)=swp x y (f b):=e
   unfold swp at e
   split at e <;> split at e <;> (try split at e) <;> (try split at e) <;> lia
noncomputable def kel (x:List Int×List Int):ba9:= .tuple [.tuple (x.1.map ba1),.tuple (x.2.map ba1)]
noncomputable def mAt (M:List Int) (p:Int):Int:=M.getD p.toNat 0
noncomputable def vwL (L:List (List Int×List Int)) (M:List Int) (p:Nat):Vw:=(M.getD p 0,kd3 ((L.getD p ([],[])).1.map (mAt M)),kd3 ((L.getD p ([],[])).2.map (mAt M)))
noncomputable def kng (ws:List Vw):List (Vw×Int):=ws.zipIdx.map fun x=>(x.1,(x.2:Int))
structure LieOk (L:List (List Int×List Int)) (m:Nat):Prop where
 len:L.length=m
 few:m≤16
 one: ∀x∈L,x.1.length≤16∧x.2.length≤16
 inr: ∀x∈L,(∀ p∈x.1,0≤p∧p < m)∧∀p∈x.2,0≤p∧p < m
def kqu (ds:List ba9) (RS:Dt→Prop):Prop:=∃(n:Nat) (ps:List (Int×Int)),ds=[spD n ps]∧n≤16∧RS (.o ((kbv n).map fun p=>kel (pu ps p,po ps p)))
def kh3 (ds:List ba9) (RS:Dt→Prop):Prop:=∃(M pts:List Int),ds=[.list (M.map ba1),.tuple (pts.map ba1)]∧pts.length≤16∧(∀ p∈pts,0≤p∧p < M.length)∧RS (.d (.tuple ((kd3 (pts.map (mAt M))).map ba1)))
def kqv (ds:List ba9) (RS:Dt→Prop):Prop:=∃(L:List (List Int×List Int)) (M:List Int),ds=[.list (L.map kel),.list (M.map ba1)]∧LieOk L M.length∧RS (.o ((ba5 M.length).map fun p=>vwD (vwL L M p)))
def Pnum (ds:List ba9) (RS:Dt→Prop):Prop:=∃vs:List Vw,ds=[.list (vs.map vwD)]∧vs.length≤16∧∀ws:List Vw,ws.Nodup→(∀ v,v∈ws↔v∈vs)→ws.Pairwise (fun x y=>ltV y x=false)→RS (.dv (kng ws))
theorem kgh {α:Type} {l:List α} {f:α→ba9} {p:Int} (d:α) (h0:0≤p) (h1:p < l.length):atI (l.map f) p=some (f (l.getD p.toNat d)):=by
 obtain ⟨j,rfl⟩:=bl4 h0
 have hj:j < l.length:=by lia
 refine kb2 ?_
 rw [be3,bb2 hj]
 simp [hj]
theorem LieOk.at_ {L:List (List Int×List Int)} {m p:Nat} (ok:LieOk L m) (hp:p < m):(L.getD p ([],[])).1.length≤16∧(L.getD p ([],[])).2.length≤16∧(∀ q∈(L.getD p ([],[])).1,0≤q∧q < m)∧∀q∈(L.getD p ([],[])).2,0≤q∧q < m:=by
 have hl:p < L.length:=by rw [ok.len];exact hp
 have hm:L.getD p ([],[])∈L:=by
  rw [bb9,bb2 hl]
  exact be8 hl
 exact ⟨(ok.one _ hm).1,(ok.one _ hm).2,(ok.inr _ hm).1,(ok.inr _ hm).2⟩
theorem kes (ws:List Vw):(kng ws).length=ws.length:=by unfold kng;rw [ba3,b53]
theorem kgi (ws:List Vw):(kng ws).map (·.1)=ws:=by
 unfold kng
 rw [bc1]
 exact List.zipIdx_map_fst 0 ws
theorem kqw {ws:List Vw} {k:Nat} {v:Vw} (h:ws[k]?=some v):kng (ws.take (k + 1))=kng (ws.take k)++[(v,(k:Int))]:=by
 have hk:k < ws.length:=(bb1.mp h).1
 rw [bv2,h]
 unfold kng
 rw [Option.toList_some,List.zipIdx_append,bi5,bi3]
 rw [show min k ws.length=k by lia]
 simp
theorem knh {α:Type} {l:List α} {k:Nat} {v:α} (nd:l.Nodup) (h:l[k]?=some v):v ∉ l.take k:=fun z=>by
 obtain ⟨hk,e⟩:=bb1.mp h
 obtain ⟨i,hi,q⟩:=bo4.mp z
 have:=bd0.mp nd i k (by lia) hk (by lia)
 exact this (q.trans e.symm)
noncomputable def kqx (M:List Int):Option Nat:=(ba5 M.length).find? fun p=>decide (1 < M.count (M.getD p 0))
def kqy (ds:List ba9) (RS:Dt→Prop):Prop:=∃M:List Int,ds=[.list (M.map ba1)]∧M.length≤16∧RS (.d (match kqx M with | some p=> .int (p:Nat) | none=> .none))
noncomputable def knj (M:List Int) (p:Nat):List Int:=(ba5 M.length).map fun q=>if q=p then (M.length:Int) else M.getD q 0
def kqz (ds:List ba9) (RS:Dt→Prop):Prop:=∃(M:List Int) (p:Nat),ds=[.list (M.map ba1),.int (p:Nat)]∧M.length≤16∧p < M.length∧RS (.o ((knj M p).map ba1))
theorem kq0 {M:List Int} {k:Nat} (hk:k < M.length) (h:1 < M.count (M.getD k 0)) (no: ∀j,j < k→M.count (M.getD j 0)≤1):kqx M=some k:=by
 unfold kqx
 refine b72.mpr ⟨decide_eq_true h,ba7.mpr hk,fun j hj=> ?_⟩
 have:=no j hj
 simp
 simpa using this
theorem kq1 {M:List Int} (no: ∀j,j < M.length→M.count (M.getD j 0)≤1):kqx M=none:=by
 unfold kqx
 refine bx6.mpr fun j hj=> ?_
 have:=no j hj
 simp
 simpa using this
noncomputable def k1y (x:Int×Nat):ba9:= .tuple [.int (x.2:Nat),.int x.1]
theorem ktz: ∀a b,k1y a=k1y b→a=b:=fun a b h=>by
 unfold k1y at h
 injection h with h
 injection h with h1 h2
 injection h2 with h2
 injection h1 with h1
 injection h2 with h2
 exact bt5 h2 (by lia)
theorem kq2 (M:List Int):kjb (M.map ba1)=M.zipIdx.map k1y:=by
 unfold kjb
 rw [List.zipIdx_map,bc1]
 rfl
theorem kyq (M:List Int) (p:Nat):(M.zipIdx.map fun x=>ba1 (if x.2=p then (M.length:Int) else x.1))=(knj M p).map ba1:=by
 unfold knj
 rw [bc1]
 apply bs8
 · simp
 · intro i h1 h2
   simp only [ba3,b53] at h1
   simp [h1]
noncomputable def kem (T:Rl) (m:Nat):List (List Int×List Int):=(ba5 m).map fun p=>((undr T m p).map fun (q:Nat)=>(q:Int),(ovr T m p).map fun (q:Nat)=>(q:Int))
noncomputable def gM (M:List Int) (p:Nat):Int:=M.getD p 0
def Rsp (m:Nat) (f:Nat→Nat) (M N:List Int):Prop:=∀p,p < m→gM M p=gM N (f p)
structure RefOk (m:Nat) (T U:Rl) (M N M' N':List Int):Prop where
 l1:M'.length=m
 l2:N'.length=m
 r1: ∀x∈M',0≤x∧x < m
 r2: ∀x∈N',0≤x∧x < m
 rsp: ∀f,Iso m T U f→Rsp m f M N→Rsp m f M' N'
 fin: ∀a b,a < m→b < m→gM M' a=gM M' b→gM M a=gM M b
 vws:((ba5 m).map (seen T m (gM M'))).Perm ((ba5 m).map (seen U m (gM N')))
def Pref (ds:List ba9) (RS:Dt→Prop):Prop:=∃(m:Nat) (T U:Rl) (M N:List Int),ds=[.list ((kem T m).map kel),.list ((kem U m).map kel),.list (M.map ba1),.list (N.map ba1)]∧1≤m∧m≤16∧M.length=m∧N.length=m∧
 ((∀ f,Iso m T U f→¬Rsp m f M N)→RS (.d .none))∧∀M' N',RefOk m T U M N M' N'→RS (.d (.tuple [.list (M'.map ba1),.list (N'.map ba1)]))
theorem kq3 (T:Rl) {m:Nat} (hm:m≤16):LieOk (kem T m) m where
 len:=by unfold kem;simp
 few:=hm
 one:=fun x hx=>by
  obtain ⟨p,_,rfl⟩:=ba8.mp hx
  have h1:(undr T m p).length≤m:=by unfold undr;exact bj2 (bu8 _ _) (by simp)
  have h2:(ovr T m p).length≤m:=by unfold ovr;exact bj2 (bu8 _ _) (by simp)
  simp only [ba3]
  lia
 inr:=fun x hx=>by
  obtain ⟨p,_,rfl⟩:=ba8.mp hx
  refine ⟨fun q hq=> ?_,fun q hq=> ?_⟩
  · obtain ⟨r,hr,rfl⟩:=ba8.mp hq
    have:=(kbm.mp hr).1
    lia
  · obtain ⟨r,hr,rfl⟩:=ba8.mp hq
    have:=(kdb.mp hr).1
    lia
theorem kt0 {T:Rl} {m:Nat} {M:List Int} {p:Nat} (hp:p < m):vwL (kem T m) M p=seen T m (gM M) p:=by
 have e:(kem T m).getD p ([],[])=((undr T m p).map fun (q:Nat)=>(q:Int),(ovr T m p).map fun (q:Nat)=>(q:Int)):=by unfold kem;simp [hp]
 unfold vwL seen
 rw [e]
 simp only [bc1]
 rfl
theorem kml: ∀{x y:List Vw},x.Pairwise (fun a b=>ltV b a=false)→y.Pairwise (fun a b=>ltV b a=false)→x.Perm y→x=y
 | [],y,_,_,p=>(ci7 p)
 | a::x,[],_,_,p=>absurd p.length_eq (by simp)
 | a::x,b::y,hx,hy,p=>by
   obtain ⟨h1,h2⟩:=bj9.mp hx
   obtain ⟨h3,h4⟩:=bj9.mp hy
   have e:a=b:=by
    have m1:a∈b::y:=p.mem_iff.mp bc4
    have m2:b∈a::x:=p.mem_iff.mpr bc4
    rcases bc7.mp m1 with e | m1
    · exact e
    · rcases bc7.mp m2 with e | m2
      · exact e.symm
      · refine br3 fun ne=> ?_
        rcases k1c.tot a b ne with z | z
        · rw [h3 a m1] at z;cases z
        · rw [h1 b m2] at z;cases z
   subst e
   rw [kml h2 h4 (ce4 p)]
structure RefI (m:Nat) (T U:Rl) (M N M1 N1:List Int) (kn:Nat):Prop where
 l1:M1.length=m
 l2:N1.length=m
 rsp: ∀f,Iso m T U f→Rsp m f M N→Rsp m f M1 N1
 fin: ∀a b,a < m→b < m→gM M1 a=gM M1 b→gM M a=gM M b
 st:kn=0∨((∀ x∈M1,0≤x∧x < kn)∧(∀ x∈N1,0≤x∧x < kn)∧(∀ j:Nat,j < kn→(j:Int)∈M1))
 le:kn≤m
theorem RefI.start {m:Nat} {T U:Rl} {M N:List Int} (hM:M.length=m) (hN:N.length=m):RefI m T U M N M N 0:=⟨hM,hN,fun q_ q_ r=>r,fun q_ q_ q_ q_ e=>e,.inl rfl,bf4 _⟩
theorem ku7 {T:Rl} {m:Nat} {M:List Int} (hM:M.length=m):(ba5 M.length).map (fun p=>vwD (vwL (kem T m) M p))=((ba5 m).map (seen T m (gM M))).map vwD:=by
 rw [hM,bc1]
 exact bi8 fun p hp=>by rw [kt0 (ba7.mp hp)];rfl
theorem k1z: ∀xs ys:List Int,bm2 (xs.map ba1) (ys.map ba1)=decide (xs=ys)
 | [],[]=>rfl
 | [],_::_=>rfl
 | _::_,[]=>rfl
 | x::xs,y::ys=>by
   show (bi2 (.int x) (.int y) && bm2 (xs.map ba1) (ys.map ba1))=_
   rw [kbj,k1z xs ys]
   by_cases h1:x=y <;> by_cases h2:xs=ys <;> simp [h1,h2]
theorem kq4 (x y:Vw):bi2 (vwD x) (vwD y)=decide (x=y):=by
 show (bi2 (.int x.1) (.int y.1) && (bm2 (x.2.1.map ba1) (y.2.1.map ba1) && (bm2 (x.2.2.map ba1) (y.2.2.map ba1) && true)))=_
 rw [kbj,k1z,k1z]
 obtain ⟨x1,x2,x3⟩:=x
 obtain ⟨y1,y2,y3⟩:=y
 by_cases h1:x1=y1 <;> by_cases h2:x2=y2 <;> by_cases h3:x3=y3 <;> simp [h1,h2,h3]
theorem kq5: ∀xs ys:List Vw,bm2 (xs.map vwD) (ys.map vwD)=decide (xs=ys)
 | [],[]=>rfl
 | [],_::_=>rfl
 | _::_,[]=>rfl
 | x::xs,y::ys=>by
   show (bi2 (vwD x) (vwD y) && bm2 (xs.map vwD) (ys.map vwD))=_
   rw [kq4,kq5 xs ys]
   by_cases h1:x=y <;> by_cases h2:xs=ys <;> simp [h1,h2]
theorem kyr (xs ys:List Vw):bi2 (.list (xs.map vwD)) (.list (ys.map vwD))=decide (xs=ys):=kq5 xs ys
theorem ok_vw (x:Vw):bv9 (vwD x)=true:=by
 show (true && (be1 (x.2.1.map ba1) && (be1 (x.2.2.map ba1) && true)))=true
 rw [show be1 (x.2.1.map ba1)=true from kbr _,show be1 (x.2.2.map ba1)=true from kbr _]
 rfl
theorem ku8 (xs:List Vw):okD (.list (xs.map vwD)):=by
 show be1 (xs.map vwD)=true
 induction xs with
 | nil=>rfl
 | cons r rs ih=>
   show (bv9 (vwD r) && be1 (rs.map vwD))=true
   rw [ih,ok_vw];rfl
theorem ket: ∀xs:List Int,bi4 (xs.map ba1)=0
 | []=>rfl
 | x::xs=>by
   show max (bu9 (.int x)) (bi4 (xs.map ba1))=0
   rw [ket xs];rfl
theorem k10 (x:Vw):bu9 (vwD x)=2:=by
 show max 0 (max (bi4 (x.2.1.map ba1) + 1) (max (bi4 (x.2.2.map ba1) + 1) 0)) + 1=2
 rw [ket,ket];rfl
theorem k11 (xs:List Vw):kk8 (.list (xs.map vwD)):=by
 have:bi4 (xs.map vwD)≤2:=by
  induction xs with
  | nil=>exact bf4 _
  | cons r rs ih=>
    show max (bu9 (vwD r)) (bi4 (rs.map vwD))≤2
    rw [k10]
    lia
 show bi4 (xs.map vwD) + 1≤9
 lia
noncomputable def kds (ws:List Vw) (v:Vw):Int:=(ws.idxOf v:Nat)
theorem kq6 {ws:List Vw} {v:Vw} (h:v∈ws):(v,kds ws v)∈kng ws:=by
 have hl:=bi9.mpr h
 unfold kng kds
 refine ba8.mpr ⟨(v,ws.idxOf v),?_,rfl⟩
 rw [List.mk_mem_zipIdx_iff_getElem?]
 rw [bb2 hl,bt6 hl]
theorem ku9 {ws:List Vw} {v:Vw} (h:v∈ws):0≤kds ws v∧kds ws v < ws.length:=by
 have hl:=bi9.mpr h
 unfold kds
 lia
theorem kys {ws:List Vw} {u v:Vw} (hu:u∈ws) (hv:v∈ws) (h:kds ws u=kds ws v):u=v:=by
 have h1:=bi9.mpr hu
 have h2:=bi9.mpr hv
 have e:ws.idxOf u=ws.idxOf v:=by unfold kds at h;lia
 have a:=bt6 h1
 have b:=bt6 h2
 rw [← a,← b]
 simp [e]
theorem kq7: ∀a b,vwD a=vwD b→a=b:=fun a b h=>by
 have:=kq4 a b
 rw [h,kq4 b b] at this
 simpa using this.symm
theorem kmm {f:Nat→Vw} {g:Vw→Int} {m p:Nat} (hp:p < m):gM (((ba5 m).map f).map g) p=g (f p):=by
 unfold gM
 simp [hp]
theorem RefI.ge {m:Nat} {T U:Rl} {M N M1 N1:List Int} {kn:Nat} (I:RefI m T U M N M1 N1 kn) {ws:List Vw} (nd:ws.Nodup) (mem: ∀v,v∈ws↔v∈(ba5 m).map (seen T m (gM M1))):kn≤ws.length:=by
 rcases I.st with z | ⟨_,_,z⟩
 · lia
 · have sub:((ba5 kn).map fun (j:Nat)=>(j:Int)) ⊆ ws.map (·.1):=fun x hx=>by
    obtain ⟨j,hj,rfl⟩:=ba8.mp hx
    obtain ⟨p,hp,e⟩:=bg0 (z j (ba7.mp hj))
    have hp':p < m:=by rw [← I.l1];exact hp
    refine ba8.mpr ⟨seen T m (gM M1) p,(mem _).mpr (bh2 (ba7.mpr hp')),?_⟩
    show gM M1 p=_
    unfold gM
    rw [bb9,bb2 hp,← e]
    rfl
   have nd2:((ba5 kn).map fun (j:Nat)=>(j:Int)).Nodup:=b73 _ (fun a b hab e=>hab (by lia)) bi7
   have:=nd2.length_le_of_subset sub
   simpa using this
theorem RefI.next {m:Nat} {T U:Rl} {M N M1 N1:List Int} {kn:Nat} (I:RefI m T U M N M1 N1 kn) {ws:List Vw} (nd:ws.Nodup) (mem: ∀v,v∈ws↔v∈(ba5 m).map (seen T m (gM M1))) (pm:((ba5 m).map (seen T m (gM M1))).Perm ((ba5 m).map (seen U m (gM N1)))) (wl:ws.length≤m):
 RefI m T U M N (((ba5 m).map (seen T m (gM M1))).map (kds ws)) (((ba5 m).map (seen U m (gM N1))).map (kds ws)) ws.length where
 l1:=by simp
 l2:=by simp
 rsp:=fun f iso r p hp=>by
  rw [kmm hp,kmm (iso.lt p hp),iso.seen (I.rsp f iso r) hp]
 fin:=fun a b ha hb e=>by
  rw [kmm ha,kmm hb] at e
  have:=kys ((mem _).mpr (bh2 (ba7.mpr ha))) ((mem _).mpr (bh2 (ba7.mpr hb))) e
  exact I.fin a b ha hb (congrArg (fun v:Vw=>v.1) this)
 st:= .inr ⟨fun x hx=>by
    obtain ⟨v,hv,rfl⟩:=ba8.mp hx
    exact ku9 ((mem v).mpr hv),fun x hx=>by
    obtain ⟨v,hv,rfl⟩:=ba8.mp hx
    exact ku9 ((mem v).mpr (pm.mem_iff.mpr hv)),fun j hj=>by
    refine ba8.mpr ⟨ws[j],(mem _).mp (be8 hj),?_⟩
    unfold kds
    rw [nd.idxOf_getElem j hj]⟩
 le:=wl
section
variable {P:bb8} {w:World} {K:ba0} {mg:Str→Option Value} {base:Heap}
theorem scLy:FnScope ["space"] ["space"] (kag kke):=⟨rfl,rfl,rfl,by decide +kernel,rfl,by decide +kernel,by decide +kernel⟩
theorem ok_Ly {f:Addr} {fd:bf0} (F:Fun K "lying" "lying" kke f fd) (T:Txt K mg) (GPu:Fn P w K mg base "points_under" 1 ["space","point"] (spG K Ppu)) (GPo:Fn P w K mg base "points_over" 1 ["space","point"] (spG K Ppo)):
 FnOk P w K mg base CX0 2 f fd ["space"] (spG K kqu):=by
 refine F.okG scLy (fun ds RS h=> ?_) (fun cdv A outer s H E hr=>(kaj (kdk (kc5 (N':=["point","space"]) (fun q_=>(.own (.cap 0 rfl rfl rfl .nil))) (kb8 (kay (kap 0) (kao).bw).bw (fun q_=>T.range)) (ka7 0 (fun q_=>(by decide +kernel:(["point","space"]:List Str).Nodup))) kbf (kbp (kaa (kcs (ka6 GPu (fun q_=>hr.mono (by decide)) (kaa (kac 1) (kaa (kac 0) kah))) (fun q_=>T.tuple)) (kaa (kcs (ka6 GPo (fun q_=>hr.mono (by decide)) (kaa (kac 1) (kaa (kac 0) kah))) (fun q_=>T.tuple)) kah))))))) (fun ds RS h=> ?_)
 · obtain ⟨n,ps,rfl,_⟩:=h;rfl
 · obtain ⟨n,ps,rfl,hn,hR⟩:=h
   simp only [rD,xLC,kb0,at0]
   refine ⟨by lia,by lia,?_⟩
   rw [bg8,kb5]
   refine ⟨Gf (kbv n) ba1 (fun q_=>true) (fun p=>kel (pu ps p,po ps p)),fun y hy=> ?_,fun o ho=> ?_⟩
   · obtain ⟨p,hp,rfl⟩:=ba8.mp hy
     exact ⟨n,ps,p,rfl,_,rfl,n,ps,p,rfl,_,rfl,Gf.keep hp rfl rfl⟩
   · rw [Gf.all kcl ho]
     exact hR
theorem scMo:FnScope ["marks","points"] ["marks","points"] (kag ke7):=⟨rfl,rfl,rfl,by decide +kernel,rfl,by decide +kernel,by decide +kernel⟩
theorem ok_Mo {f:Addr} {fd:bf0} (F:Fun K "marks_of" "marks_of" ke7 f fd) (T:Txt K mg):
 FnOk P w K mg base CX0 1 f fd ["marks","points"] (spG K kh3):=by
 refine F.okG scMo (fun ds RS h=> ?_) (fun cdv A outer s H E hr=>(kaj (ka4 (kcs (ksk (kc5 (N':=["point","marks"]) (fun q_=>(.own (.cap 0 rfl rfl rfl .nil))) (kbn (kac 1)) (ka7 0 (fun q_=>(by decide +kernel:(["point","marks"]:List Str).Nodup))) kbf (kay (kap 1) (kar 0))).l (fun q_=>T.sorted)) (fun q_=>T.tuple))))) (fun ds RS h=> ?_)
 · obtain ⟨M,pts,rfl,_⟩:=h;rfl
 · obtain ⟨M,pts,rfl,hl,hin,hR⟩:=h
   simp only [rD,xLC]
   refine ⟨Gf pts ba1 (fun q_=>true) (fun p=> .int (mAt M p)),fun y hy=> ?_,fun o ho=> ?_⟩
   · obtain ⟨p,hp,rfl⟩:=ba8.mp hy
     obtain ⟨h0,h1⟩:=hin p hp
     exact ⟨p,rfl,_,kgh 0 h0 h1,Gf.keep hp rfl rfl⟩
   · rw [Gf.all kcl ho]
     refine ⟨pts.map (mAt M),by rw [bc1];rfl,by rw [ba3];lia,fun ms pm up=> ?_⟩
     rw [kmk up pm]
     exact hR
theorem scVi:FnScope ["lies","marks"] ["lies","marks"] (kag kkf):=⟨rfl,rfl,rfl,by decide +kernel,rfl,by decide +kernel,by decide +kernel⟩
theorem ok_Vi {f:Addr} {fd:bf0} (F:Fun K "views" "views" kkf f fd) (T:Txt K mg) (GMo:Fn P w K mg base "marks_of" 1 ["marks","points"] (spG K kh3)):
 FnOk P w K mg base CX0 2 f fd ["lies","marks"] (spG K kqv):=by
 refine F.okG scVi (fun ds RS h=> ?_) (fun cdv A outer s H E hr=>(kaj (kdk (kc5 (N':=["point","marks","lies"]) (fun q_=>(.own (.cap 1 rfl rfl rfl (.cap 0 rfl rfl rfl .nil)))) (kb8 (kiv (kap 1) (fun q_=>T.len)).bw (fun q_=>T.range)) (ka7 0 (fun q_=>(by decide +kernel:(["point","marks","lies"]:List Str).Nodup))) kbf (kbp (kaa (kay (kap 1) (kar 0)) (kaa (kam GMo (fun q_=>hr.mono (by decide)) (kaa (kac 1) (kaa (kay (kay (kap 2) (kar 0)).q (kao).bw) kah))) (kaa (kam GMo (fun q_=>hr.mono (by decide)) (kaa (kac 1) (kaa (kay (kay (kap 2) (kar 0)).q (kao).bw) kah))) kah)))))))) (fun ds RS h=> ?_)
 · obtain ⟨L,M,rfl,_⟩:=h;rfl
 · obtain ⟨L,M,rfl,ok,hR⟩:=h
   simp only [rD,xLC]
   have hm:=ok.few
   rw [ba3]
   refine ⟨by lia,by lia,?_⟩
   rw [bg8,kb5]
   refine ⟨Gf (kbv M.length) ba1 (fun q_=>true) (fun p=>vwD (vwL L M p.toNat)),fun y hy=> ?_,fun o ho=> ?_⟩
   · obtain ⟨p,hp,rfl⟩:=ba8.mp hy
     obtain ⟨h0,h1⟩:=kdy.mp hp
     obtain ⟨q1,q2,q3,q4⟩:=ok.at_ (p:=p.toNat) (by lia)
     have h2:p < (L.length:Int):=by rw [ok.len];exact h1
     exact ⟨p,rfl,_,kgh 0 h0 h1,p,rfl,_,kgh ([],[]) h0 h2,_,rfl,_,at0 _ _,M,_,rfl,q1,q3,_,rfl,p,rfl,_,kgh ([],[]) h0 h2,_,rfl,_,at1 _ _ _,M,_,rfl,q2,q4,_,rfl,Gf.keep hp rfl rfl⟩
   · rw [Gf.all kcl ho]
     unfold kbv
     rw [bc1]
     exact hR
theorem scNu:FnScope ["some_views","numbers","number","view"] ["some_views"] (kag ke8):=⟨rfl,rfl,rfl,by decide +kernel,rfl,by decide +kernel,by decide +kernel⟩
theorem ok_Nu {f:Addr} {fd:bf0} (F:Fun K "numbered" "numbered" ke8 f fd) (T:Txt K mg):
 FnOk P w K mg base CX0 1 f fd ["some_views"] (spG K Pnum):=by
 refine F.okG scNu (fun ds RS h=> ?_) (fun cdv A outer s H E hr=>(kae (kxs 1 (fun q_=>scNu.nd))
  (kae (kd7 (fun q_=>bf7) (khq ((ks2 w (kix 0) (fun q_=>T.sorted) (fun q_=>T.set) (fun q_=>ka5 hr (by decide))).ew) (fun q_=>T.enumerate)) (kcg 2 3 (fun q_=>scNu.nd)) (kaj (kxv 1 (fun q_=>ka5 hr (by decide)) (kac 3) (kac 2))))
  (kaj (kct 1))))) (fun ds RS h=> ?_)
 · obtain ⟨vs,rfl,_⟩:=h;rfl
 · obtain ⟨vs,rfl,hl,hR⟩:=h
   simp only [rD,sFor]
   refine ⟨vs,rfl,hl,fun ws nd mem up=>⟨fun k env=>∃v2 v3,env=[.d (.list (vs.map vwD)),.dv (kng (ws.take k)),v2,v3],⟨_,_,rfl⟩,?_,?_⟩⟩
   · rintro k y env hy ⟨v2,v3,rfl⟩
     obtain ⟨x,hx,rfl⟩:=ker hy
     rw [be3] at hx
     obtain ⟨v,hv,rfl⟩:=bg3.mp hx
     have hk:v ∉ ws.take k:=fun z=>knh nd hv z
     have wl:ws.length≤vs.length:=nd.length_le_of_subset fun v hv=>(mem v).mp hv
     refine ⟨_,_,rfl,_,rfl,_,rfl,_,rfl,?_,?_,_,rfl,v,rfl,?_,.d (.int (k:Nat)),.d (vwD v),?_⟩
     · rw [kes,bi3];lia
     · rw [kgi];exact nd.sublist (bv0 _ _)
     · rw [kgi];exact hk
     · rw [kqw hv];rfl
   · rintro env ⟨v2,v3,rfl⟩
     refine ⟨_,rfl,(fun z=>nomatch z),?_⟩
     rw [kcy,ba3,b89]
     exact hR ws nd mem up
theorem scDb:FnScope ["marks","point","mark"] ["marks"] (kag ke9):=⟨rfl,rfl,rfl,by decide +kernel,rfl,by decide +kernel,by decide +kernel⟩
theorem ok_Db {f:Addr} {fd:bf0} (F:Fun K "doubtful" "doubtful" ke9 f fd) (T:Txt K mg):
 FnOk P w K mg base CX0 1 f fd ["marks"] (spG K kqy):=by
 refine F.okG scDb (fun ds RS h=> ?_) (fun cdv A outer s H E hr=>(kae (kd7 (fun q_=>bf7) (khq (kac 0) (fun q_=>T.enumerate)) (kcg 1 2 (fun q_=>scDb.nd)) (kaj (kcp (kbc kwc (ks4 (kix 0) (kar 2)).bw (kao).bw) (kaj (kct 1)) ka3)))
  (kaj (ka4 (kcr))))) (fun ds RS h=> ?_)
 · obtain ⟨M,rfl,_⟩:=h;rfl
 · obtain ⟨M,rfl,hl,hR⟩:=h
   simp only [rD,sFor]
   refine ⟨fun k env=>(∀ j,j < k→M.count (M.getD j 0)≤1)∧∃v1 v2,env=[.d (.list (M.map ba1)),v1,v2],⟨fun j hj=>absurd hj (bo5 _),_,_,rfl⟩,?_,?_⟩
   · rintro k y env hy ⟨no,v1,v2,rfl⟩
     obtain ⟨x,hx,rfl⟩:=ker hy
     rw [be3] at hx
     obtain ⟨m,hm,rfl⟩:=bg3.mp hx
     have hk:k < M.length:=(bb1.mp hm).1
     have em:M.getD k 0=m:=by rw [bb9,hm];rfl
     refine ⟨_,_,rfl,_,.inr rfl,_,rfl,_,rfl,M,rfl,m,rfl,?_⟩
     by_cases c:1 < M.count m
     · rw [if_pos (decide_eq_true (by lia))]
       refine ⟨_,rfl,(fun z=>nomatch z),?_⟩
       rw [kq0 hk (by rw [em];exact c) no] at hR
       exact hR
     · rw [if_neg (by simp;lia)]
       refine ⟨fun j hj=> ?_,.d (.int (k:Nat)),.d (.int m),rfl⟩
       rcases bl7 (b74 hj) with z | rfl
       · exact no j z
       · rw [em];lia
   · rintro env ⟨no,v1,v2,rfl⟩
     rw [kcy,ba3] at no
     rw [kq1 no] at hR
     exact hR
theorem scSa:FnScope ["marks","point"] ["marks","point"] (kag kei):=⟨rfl,rfl,rfl,by decide +kernel,rfl,by decide +kernel,by decide +kernel⟩
theorem ok_Sa {f:Addr} {fd:bf0} (F:Fun K "set_apart" "set_apart" kei f fd) (T:Txt K mg):
 FnOk P w K mg base CX0 1 f fd ["marks","point"] (spG K kqz):=by
 refine F.okG scSa (fun ds RS h=> ?_) (fun cdv A outer s H E hr=>(kaj (kdk (kc5 (N':=["place","mark","point","marks"]) (fun q_=>(.own (.own (.cap 1 rfl rfl rfl (.cap 0 rfl rfl rfl .nil))))) (khq (kac 0) (fun q_=>T.enumerate)) (kcg 0 1 (fun q_=>(by decide +kernel:(["place","mark","point","marks"]:List Str).Nodup))) kbf (kwf (kbc (kg6 (fun q_=>ka5 hr (by decide))) (kar 0) (kar 2)) (kiv (kap 3) (fun q_=>T.len)) (kac 1)))))) (fun ds RS h=> ?_)
 · obtain ⟨M,p,rfl,_⟩:=h;rfl
 · obtain ⟨M,p,rfl,hl,hp,hR⟩:=h
   simp only [rD,xLC]
   rw [kq2]
   refine ⟨Gf M.zipIdx k1y (fun q_=>true) (fun x=> .int (if x.2=p then (M.length:Int) else x.1)),fun y hy=> ?_,fun o ho=> ?_⟩
   · obtain ⟨x,hx,rfl⟩:=ba8.mp hy
     refine ⟨_,_,rfl,?_⟩
     show _∧_
     refine ⟨okI _,okI _,.inl (shI _),?_⟩
     rw [kbj,ba3]
     by_cases e:x.2=p
     · rw [if_pos (by simp [e])]
       exact Gf.keep hx rfl (by rw [if_pos e])
     · rw [if_neg (by simp;lia)]
       exact Gf.keep hx rfl (by rw [if_neg e])
   · rw [Gf.all ktz ho,kyq]
     exact hR
theorem kva:FnScope ["one_lying","other_lying","one_marks","other_marks","known","one_views","other_views","numbers"] ["one_lying","other_lying","one_marks","other_marks"] (kag kf6):=⟨rfl,rfl,rfl,by decide +kernel,rfl,by decide +kernel,by decide +kernel⟩
theorem ok_Rf {f:Addr} {fd:bf0} (F:Fun K "refined" "refined" kf6 f fd) (T:Txt K mg) (GVi:Fn P w K mg base "views" 2 ["lies","marks"] (spG K kqv)) (GNu:Fn P w K mg base "numbered" 1 ["some_views"] (spG K Pnum)):
 FnOk P w K mg base CX0 3 f fd ["one_lying","other_lying","one_marks","other_marks"] (spG K Pref):=by
 refine F.okG kva (fun ds RS h=> ?_) (fun cdv A outer s H E hr=>(kae (kax 4 (fun q_=>kva.nd) (kao))
  (kaj (kld (fun q_=>bf7) (kd5 (kmz).bw) (kae (kax 5 (fun q_=>kva.nd) ((ka6 GVi (fun q_=>hr.mono (by decide)) (kaa (kac 0) (kaa (kac 2) kah))).ew))
  (kae (kax 6 (fun q_=>kva.nd) ((ka6 GVi (fun q_=>hr.mono (by decide)) (kaa (kac 1) (kaa (kac 3) kah))).ew))
  (kae (kcp (kbc (kiu (fun q_=>ka5 hr (by decide))) (kl1 (kix 5) (fun q_=>T.sorted) (fun q_=>ka5 hr (by decide))).bw (kl1 (kix 6) (fun q_=>T.sorted) (fun q_=>ka5 hr (by decide))).bw) (kaj (ka4 (kcr))) ka3)
  (kae (ksj 7 (fun q_=>kva.nd) GNu (fun q_=>hr.mono (by decide)) (kaa (kac 5) kah))
  (kae (kcp (kbc (kg6 (fun q_=>ka5 hr (by decide))) (kpu 7 (fun q_=>T.len)).bw (kar 4)) (kaj (ka4 (kbp (kaa (kac 2) (kaa (kac 3) kah))))) ka3)
  (kae (kax 4 (fun q_=>kva.nd) (kpu 7 (fun q_=>T.len)))
  (kae (kep 2 (fun q_=>kva.nd) (N':=["view","numbers"]) (fun q_=>(.own (.cap 7 rfl rfl rfl .nil))) (kbn (kac 5)) (ka7 0 (fun q_=>(by decide +kernel:(["view","numbers"]:List Str).Nodup))) kbf (kps 1 (fun q_=>ka5 hr (by decide)) (kac 0)))
  (DSs.frz 2 (kae (kep 3 (fun q_=>kva.nd) (N':=["view","numbers"]) (fun q_=>(.own (.cap 7 rfl rfl rfl .nil))) (kbn (kac 6)) (ka7 0 (fun q_=>(by decide +kernel:(["view","numbers"]:List Str).Nodup))) kbf (kps 1 (fun q_=>ka5 hr (by decide)) (kac 0))) (DSs.frz 3 ka3)))))))))))))) (fun ds RS h=> ?_)
 · obtain ⟨m,T,U,M,N,rfl,_⟩:=h;rfl
 · obtain ⟨m,T,U,M,N,rfl,m1,m16,hM,hN,hX,hR⟩:=h
   simp only [rD,kum]
   refine ⟨fun k env=>∃(M1 N1:List Int) (kn:Nat) (v5 v6 v7:Dt),env=[.d (.list ((kem T m).map kel)),.d (.list ((kem U m).map kel)),.d (.list (M1.map ba1)),.d (.list (N1.map ba1)),.d (.int (kn:Nat)),v5,v6,v7]∧RefI m T U M N M1 N1 kn∧k + kn=17,⟨17,M,N,0,.un,.un,.un,rfl,RefI.start hM hN,rfl⟩,?_⟩
   rintro k env ⟨M1,N1,kn,v5,v6,v7,rfl,I,hk⟩
   rw [if_pos trivial]
   have e1:(ba5 M1.length).map (fun p=>vwD (vwL (kem T m) M1 p))=((ba5 m).map (seen T m (gM M1))).map vwD:=ku7 I.l1
   have e2:(ba5 N1.length).map (fun p=>vwD (vwL (kem U m) N1 p))=((ba5 m).map (seen U m (gM N1))).map vwD:=ku7 I.l2
   refine ⟨_,rfl,_,rfl,kem T m,M1,rfl,by rw [I.l1];exact kq3 T m16,_,rfl,_,rfl,_,rfl,kem U m,N1,rfl,by rw [I.l2];exact kq3 U m16,_,rfl,_,.inr rfl,_,e1,fun ws1 p1 u1=>⟨_,.inr rfl,_,e2,fun ws2 p2 u2=>⟨ku8 ws1,ku8 ws2,.inl (k11 ws1),?_⟩⟩⟩
   rw [kyr]
   by_cases c:ws1=ws2
   · rw [if_neg (by simp [c])]
     have pm:((ba5 m).map (seen T m (gM M1))).Perm ((ba5 m).map (seen U m (gM N1))):=p1.symm.trans (by rw [c];exact p2)
     rw [e1,e2]
     refine ⟨_,rfl,(ba5 m).map (seen T m (gM M1)),rfl,by rw [ba3,bg2];exact m16,fun ws nd mem up=> ?_⟩
     have wl:ws.length≤m:=by
      have:=nd.length_le_of_subset fun v hv=>(mem v).mp hv
      rwa [ba3,bg2] at this
     have w1:1≤ws.length:=List.length_pos_of_mem ((mem (seen T m (gM M1) 0)).mpr (bh2 (ba7.mpr m1)))
     refine ⟨_,rfl,by rw [kes];lia,_,rfl,_,rfl,okI _,okI _,.inl (shI _),?_⟩
     rw [kbj,kes]
     by_cases c2:ws.length=kn
     · rw [if_pos (decide_eq_true (by lia))]
       refine ⟨_,rfl,_,rfl,hR M1 N1 ?_⟩
       rcases I.st with z | ⟨z1,z2,_⟩
       · lia
       · have:=I.le
         exact ⟨I.l1,I.l2,fun x hx=>by have:=z1 x hx;lia,fun x hx=>by have:=z2 x hx;lia,I.rsp,I.fin,pm⟩
     · rw [if_neg (by simp;lia)]
       refine ⟨_,rfl,by rw [kes];lia,?_⟩
       simp only [bz1,b54,kes]
       have mT: ∀v∈(ba5 m).map (seen T m (gM M1)),v∈ws:=fun v hv=>(mem v).mpr hv
       have mU: ∀v∈(ba5 m).map (seen U m (gM N1)),v∈ws:=fun v hv=>(mem v).mpr (pm.mem_iff.mpr hv)
       have nk:((kng ws).map (·.1)).Nodup:=by rw [kgi];exact nd
       simp only [rD,xLC]
       refine ⟨Gf ((ba5 m).map (seen T m (gM M1))) vwD (fun q_=>true) (fun v=> .int (kds ws v)),fun y hy=> ?_,fun o ho=> ?_⟩
       · obtain ⟨v,hv,rfl⟩:=ba8.mp hy
         exact ⟨nk,v,rfl,kds ws v,kq6 (mT v hv),Gf.keep hv rfl rfl⟩
       · rw [Gf.all kq7 ho]
         refine ⟨Gf ((ba5 m).map (seen U m (gM N1))) vwD (fun q_=>true) (fun v=> .int (kds ws v)),fun y hy=> ?_,fun o2 ho2=> ?_⟩
         · obtain ⟨v,hv,rfl⟩:=ba8.mp hy
           exact ⟨nk,v,rfl,kds ws v,kq6 (mU v hv),Gf.keep hv rfl rfl⟩
         · rw [Gf.all kq7 ho2]
           have gt:kn < ws.length:=by
            have:=I.ge nd mem
            lia
           refine ⟨17 - ws.length,by lia,((ba5 m).map (seen T m (gM M1))).map (kds ws),((ba5 m).map (seen U m (gM N1))).map (kds ws),ws.length,.d (.list (((ba5 m).map (seen T m (gM M1))).map vwD)),.d (.list (((ba5 m).map (seen U m (gM N1))).map vwD)),.dv (kng ws),?_,I.next nd mem pm wl,by lia⟩
           simp only [bc1]
           rfl
   · rw [if_pos (by simp [c])]
     refine hX fun f iso r=>c ?_
     exact kml u1 u2 (p1.trans ((iso.all (I.rsp f iso r)).trans p2.symm))
end
def Dst (m:Nat) (M:List Int) (d:Nat):Prop:=∃l:List Nat,l.length=d∧(∀ p∈l,p < m)∧l.Pairwise fun a b=>gM M a≠gM M b
theorem Dst.le {m d:Nat} {M:List Int} (h:Dst m M d):d≤m:=by
 obtain ⟨l,rfl,h1,h2⟩:=h
 have nd:l.Nodup:=h2.imp fun {a b} h e=>h (by rw [e])
 have:=nd.length_le_of_subset (l₂:=ba5 m) fun x hx=>ba7.mpr (h1 x hx)
 simpa using this
theorem Dst.fine {m d:Nat} {M M':List Int} (h:Dst m M d) (fin: ∀a b,a < m→b < m→gM M' a=gM M' b→gM M a=gM M b):Dst m M' d:=by
 obtain ⟨l,e,h1,h2⟩:=h
 exact ⟨l,e,h1,h2.imp_of_mem fun {a b} ha hb n z=>n (fin a b (h1 a ha) (h1 b hb) z)⟩
theorem kh4 {M:List Int} {p q:Nat} (hq:q < M.length):gM (knj M p) q=if q=p then (M.length:Int) else gM M q:=by
 unfold gM knj
 simp [hq]
theorem kvb {M:List Int} {q:Nat} (hq:q < M.length):gM M q∈M:=by
 unfold gM
 rw [bb9,bb2 hq]
 exact be8 hq
theorem Dst.apart {m d:Nat} {M:List Int} (h:Dst m M d) (hM:M.length=m) (r: ∀x∈M,0≤x∧x < m) {p q:Nat} (hp:p < m) (hq:q < m) (ne:q≠p) (e:gM M q=gM M p):Dst m (knj M p) (d + 1):=by
 obtain ⟨l,rfl,h1,h2⟩:=h
 have hs: ∀x∈l,(if x=p then q else x) < m∧(if x=p then q else x)≠p∧gM M (if x=p then q else x)=gM M x:=fun x hx=>by
  have:=h1 x hx
  by_cases c:x=p
  · rw [if_pos c,c];exact ⟨hq,ne,e⟩
  · rw [if_neg c];exact ⟨this,c,rfl⟩
 have hg: ∀x∈l,gM (knj M p) (if x=p then q else x)=gM M x:=fun x hx=>by
  obtain ⟨z1,z2,z3⟩:=hs x hx
  rw [kh4 (by lia),if_neg z2,z3]
 refine ⟨p::l.map (fun x=>if x=p then q else x),by simp,fun x hx=> ?_,bj9.mpr ⟨fun y hy=> ?_,bk7.mpr (h2.imp_of_mem fun {a b} ha hb n z=>n (by rw [← hg a ha,← hg b hb,z]))⟩⟩
 · rcases bc7.mp hx with rfl | hx
   · exact hp
   · obtain ⟨y,hy,rfl⟩:=ba8.mp hx
     exact (hs y hy).1
 · obtain ⟨x,hx,rfl⟩:=ba8.mp hy
   rw [hg x hx,kh4 (by lia),if_pos rfl]
   have:=r _ (kvb (M:=M) (q:=x) (by rw [hM];exact h1 x hx))
   lia
theorem kq8 {a:Int}: ∀{l:List Int},1 < l.count a→∀p:Nat,∃q:Nat,q≠p∧l[q]?=some a
 | [],h,_=>by simp at h
 | x::t,h,p=>by
   rw [List.count_cons] at h
   by_cases c:x=a
   · rw [if_pos (by simp [c])] at h
     obtain ⟨j,hj,e⟩:=bg0 (List.count_pos_iff.mp (show 0 < t.count a by omega))
     by_cases c2:p=0
     · exact ⟨j + 1,by omega,by rw [bj3,bb2 hj,e]⟩
     · exact ⟨0,by omega,by rw [bm8,c]⟩
   · rw [if_neg (by simp [c])] at h
     obtain ⟨q,hq,e⟩:=kq8 (l:=t) (by omega) (p - 1)
     by_cases c2:p=0
     · exact ⟨q + 1,by omega,by rw [bj3,e]⟩
     · exact ⟨q + 1,by omega,by rw [bj3,e]⟩
theorem kyt {M:List Int} {p:Nat} (h:kqx M=some p):p < M.length∧∃q,q < M.length∧q≠p∧gM M q=gM M p:=by
 unfold kqx at h
 obtain ⟨h1,h2,_⟩:=b72.mp h
 refine ⟨ba7.mp h2,?_⟩
 obtain ⟨q,hq,e⟩:=kq8 (of_decide_eq_true h1) p
 refine ⟨q,(bb1.mp e).1,hq,?_⟩
 unfold gM
 rw [bb9,e]
 rfl
theorem kyu {M:List Int} (h:kqx M=none): ∀a b,a < M.length→b < M.length→gM M a=gM M b→a=b:=by
 unfold kqx at h
 have no:=bx6.mp h
 have nd:M.Nodup:=List.nodup_iff_count.mpr fun x=>by
  by_cases c:x∈M
  · obtain ⟨j,hj,e⟩:=bg0 c
    have:=no j hj
    rw [bb9,bb2 hj,e] at this
    simp at this
    exact this
  · rw [List.count_eq_zero.mpr c];exact bf4 _
 intro a b ha hb e
 unfold gM at e
 rw [bb9,bb9,bb2 ha,bb2 hb] at e
 have e:M[a]=M[b]:=e
 have pw:=bd0.mp nd
 rcases bl3 a b with z | z | z
 · exact absurd e (pw a b ha hb z)
 · exact z
 · exact absurd e.symm (pw b a hb ha z)
def Bad (m:Nat) (T U:Rl) (M N:List Int) (p j:Nat):Prop:=∀f,Iso m T U f→Rsp m f M N→f p≠j
theorem kq9 {m:Nat} {T U:Rl} {M N:List Int} {p j:Nat} (hM:M.length=m) (hN:N.length=m) (hp:p < m) (no: ∀f,Iso m T U f→¬Rsp m f (knj M p) (knj N j)):Bad m T U M N p j:=fun f iso r e=>no f iso fun q hq=>by
 have:=iso.lt q hq
 rw [kh4 (by lia),kh4 (by lia),hM,hN]
 by_cases c:q=p
 · rw [if_pos c,if_pos (by rw [c];exact e)]
 · rw [if_neg c,if_neg (fun z=>c (iso.inj q p hq hp (z.trans e.symm)))]
   exact r q hq
theorem kra {U:Rl} {m j:Nat} (hj:j < m):(kem U m).getD j ([],[])=((undr U m j).map fun (q:Nat)=>(q:Int),(ovr U m j).map fun (q:Nat)=>(q:Int)):=by unfold kem;simp [hj]
theorem kt1 {m:Nat} {T U:Rl} {M N:List Int} {p i j:Nat} (irr: ∀a,a < m→U a a=false) (hp:p < m) (hi:i < m) (hj:j < m) (h:(kem U m).getD j ([],[])=(kem U m).getD i ([],[])) (b:Bad m T U M N p i) (e1:gM N i=gM M p):Bad m T U M N p j:=fun f iso r e=>by
 rw [kra hj,kra hi] at h
 injection h with h1 h2
 have ci: ∀x y:Nat,(x:Int)=(y:Int)→x=y:=fun x y h=>by lia
 have u:=(ce5 ci).mp h1
 have o:=(ce5 ci).mp h2
 have e2:gM N j=gM M p:=by rw [← e];exact (r p hp).symm
 refine b _ (iso.swap hi hj irr u.symm o.symm) (fun q hq=> ?_) ?_
 · show gM M q=gM N (swp i j (f q))
   rw [r q hq]
   unfold swp
   by_cases c:f q=i
   · rw [if_pos c,c,e1,e2]
   · rw [if_neg c]
     by_cases c2:f q=j
     · rw [if_pos c2,c2,e1,e2]
     · rw [if_neg c2]
 · show swp i j (f p)=i
   unfold swp
   rw [e]
   by_cases c:j=i
   · rw [if_pos c,c]
   · rw [if_neg c,if_pos rfl]
theorem krb (x y:List Int×List Int):bi2 (kel x) (kel y)=decide (x=y):=by
 show (bm2 (x.1.map ba1) (y.1.map ba1) && (bm2 (x.2.map ba1) (y.2.map ba1) && true))=_
 rw [k1z,k1z]
 obtain ⟨x1,x2⟩:=x
 obtain ⟨y1,y2⟩:=y
 by_cases h1:x1=y1 <;> by_cases h2:x2=y2 <;> simp [h1,h2]
theorem kvc (x:List Int×List Int):bv9 (kel x)=true:=by
 show (be1 (x.1.map ba1) && (be1 (x.2.map ba1) && true))=true
 rw [show be1 (x.1.map ba1)=true from kbr _,show be1 (x.2.map ba1)=true from kbr _]
 rfl
theorem k12 (x:List Int×List Int):kk8 (kel x):=by
 show max (bi4 (x.1.map ba1) + 1) (max (bi4 (x.2.map ba1) + 1) 0) + 1≤9
 rw [ket,ket]
 decide
theorem krc: ∀xs:List (List Int×List Int),be1 (xs.map kel)=true
 | []=>rfl
 | x::xs=>by
   show (bv9 (kel x) && be1 (xs.map kel))=true
   rw [kvc,krc xs];rfl
theorem kyv (xs:List (List Int×List Int)) (x:List Int×List Int):((xs.map kel).any fun d=>bi2 d (kel x))=decide (x∈xs):=by
 rw [List.any_map]
 rw [bh0,ci6,decide_eq_true_iff]
 constructor
 · rintro ⟨y,hy,e⟩
   have e:bi2 (kel y) (kel x)=true:=e
   rw [krb] at e
   rw [← of_decide_eq_true e];exact hy
 · intro h
   exact ⟨x,h,by show bi2 (kel x) (kel x)=true;rw [krb];simp⟩
def Psr (k:Nat) (ds:List ba9) (RS:Dt→Prop):Prop:=∃(m:Nat) (T U:Rl) (M N:List Int) (d:Nat),ds=[.list ((kem T m).map kel),.list ((kem U m).map kel),.list (M.map ba1),.list (N.map ba1)]∧1≤m∧m≤16∧M.length=m∧N.length=m∧(∀ a,a < m→U a a=false)∧Dst m M d∧m < k + d∧
 ((∀ f,Iso m T U f→¬Rsp m f M N)→RS (.d .none))∧∀g:List Nat,g.length=m→Iso m T U (fun p=>g.getD p 0)→RS (.d (.tuple (g.map fun x=> .int (x:Nat))))
theorem krd {m:Nat} {T U:Rl} {M N M' N':List Int} (R:RefOk m T U M N M' N') (h:kqx M'=none):(∀ x∈M',x∈N')∧Iso m T U (fun p=>(M'.map fun x=>N'.idxOf x).getD p 0):=by
 have rg: ∀{X:List Int},X.length=m→(ba5 m).map (gM X)=X:=fun {X} hX=>by
  apply bs8
  · simp [hX]
  · intro i h1 h2
    simp [gM,h2]
 have mp:M'.Perm N':=by
  have:=R.vws.map (fun v:Vw=>v.1)
  rw [bc1,bc1] at this
  have:((ba5 m).map (gM M')).Perm ((ba5 m).map (gM N')):=this
  rwa [rg R.l1,rg R.l2] at this
 have mm: ∀x∈M',x∈N':=fun x hx=>mp.mem_iff.mp hx
 refine ⟨mm,k1x R.vws (fun a b ha hb=>kyu h a b (by rw [R.l1];exact ha) (by rw [R.l1];exact hb)) fun p hp=> ?_⟩
 have hp':p < M'.length:=by rw [R.l1];exact hp
 have e:(M'.map fun x=>N'.idxOf x).getD p 0=N'.idxOf (gM M' p):=by simp [gM,hp']
 rw [e]
 have hx:=mm _ (kvb hp')
 have hl:=bi9.mpr hx
 refine ⟨by rw [← R.l2];exact hl,?_⟩
 show N'.getD _ 0=_
 rw [bb9,bb2 hl,bt6 hl]
 rfl
theorem kvd {ds:List ba9} {RS:Dt→Prop} (h:Psr 0 ds RS):False:=by
 obtain ⟨m,T,U,M,N,d,_,_,_,_,_,_,D,l,_⟩:=h
 have:=D.le
 lia
section
variable {P:bb8} {w:World} {K:ba0} {mg:Str→Option Value} {base:Heap}
theorem ky7:FnScope ["one_lying","other_lying","one_marks","other_marks","finer","point","tried","onto","mark","found"] ["one_lying","other_lying","one_marks","other_marks"] (kag kfb):=⟨rfl,rfl,rfl,by decide +kernel,rfl,by decide +kernel,by decide +kernel⟩
theorem k13 {f:Addr} {fd:bf0} (k:Nat) (F:Fun K "searched" "searched" kfb f fd) (T:Txt K mg) (GRf:Fn P w K mg base "refined" 3 ["one_lying","other_lying","one_marks","other_marks"] (spG K Pref)) (GDb:Fn P w K mg base "doubtful" 1 ["marks"] (spG K kqy)) (GSa:Fn P w K mg base "set_apart" 1 ["marks","point"] (spG K kqz)) (GSr:Fn P w K mg base "searched" (4 + k) ["one_lying","other_lying","one_marks","other_marks"] (spG K (Psr k))):
 FnOk P w K mg base CX0 (4 + k + 1) f fd ["one_lying","other_lying","one_marks","other_marks"] (spG K (Psr (k + 1))):=by
 refine F.okG ky7 (fun ds RS h=> ?_) (fun cdv A outer s H E hr=>(kae (kax 4 (fun q_=>ky7.nd) (kam GRf (fun q_=>hr.mono (by lia)) (kaa (kac 0) (kaa (kac 1) (kaa (kac 2) (kaa (kac 3) kah))))))
  (kae (kcp (kbc kok (kar 4) (kcr).bw) (kaj (ka4 (kcr))) ka3)
  (kae (kax 5 (fun q_=>ky7.nd) (kam GDb (fun q_=>hr.mono (by lia)) (kaa (kay (kap 4) (kao).bw) kah)))
  (kae (kcp (kbc kok (kar 5) (kcr).bw) (kaj (ka4 (kcs (kc5 (N':=["mark","finer"]) (fun q_=>(.own (.cap 4 rfl rfl rfl .nil))) (kbn (kay (kap 4) (kao).bw)) (ka7 0 (fun q_=>(by decide +kernel:(["mark","finer"]:List Str).Nodup))) kbf (kle (kay (kap 1) (kao).bw).l (kar 0))) (fun q_=>T.tuple)))) ka3)
  (kae (kez 6 (fun q_=>ky7.nd) (kgm kah))
  (kae (kd7 (fun q_=>bf7) (khq (kay (kap 4) (kao).bw) (fun q_=>T.enumerate)) (kcg 7 8 (fun q_=>ky7.nd)) (kaj (kcp ((kol (kbc (kg6 (fun q_=>ka5 hr (by decide))) (kar 8) (kay (kay (kap 4) (kao).bw).q (kar 5)).bw) (kjx (kbc (klc (fun q_=>ka5 hr (by decide))) (kay (kap 1) (kar 7)).bw (kar 6)))).t) (kae (kax 9 (fun q_=>ky7.nd) (kam GSr (fun q_=>hr.mono (by lia)) (kaa (kac 0) (kaa (kac 1) (kaa ((ka6 GSa (fun q_=>hr.mono (by lia)) (kaa (kay (kap 4) (kao).bw) (kaa (kac 5) kah))).ew) (kaa ((ka6 GSa (fun q_=>hr.mono (by lia)) (kaa (kay (kap 4) (kao).bw) (kaa (kac 7) kah))).ew) kah))))))
  (kae (kcp (kbc kk9 (kar 9) (kcr).bw) (kaj (kct 9)) ka3)
  (kaj (ki0 6 (kay (kap 1) (kar 7)))))) ka3)))
  (kaj (ka4 (kcr)))))))))) (fun ds RS h=> ?_)
 · obtain ⟨m,T,U,M,N,d,rfl,_⟩:=h;rfl
 · obtain ⟨m,T,U,M,N,d,rfl,m1,m16,hM,hN,irr,D,hd,hX,hR⟩:=h
   simp only [rD]
   refine ⟨m,T,U,M,N,rfl,m1,m16,hM,hN,fun no=> ?_,fun M' N' R=> ?_⟩
   · refine ⟨.none,rfl,?_⟩
     rw [if_pos (show isNone .none=true from rfl)]
     exact hX no
   · refine ⟨_,rfl,?_⟩
     rw [if_neg (fun z=>nomatch z)]
     refine ⟨_,rfl,_,at0 _ _,M',rfl,by rw [R.l1];exact m16,?_⟩
     cases e:kqx M' with
     | none=>
       obtain ⟨mm,iso⟩:=krd R e
       refine ⟨.none,rfl,?_⟩
       rw [if_pos (show isNone .none=true from rfl)]
       simp only [rD,xLC]
       refine ⟨_,at0 _ _,_,rfl,Gf M' ba1 (fun q_=>true) (fun x=> .int ((N'.idxOf x:Nat))),fun y hy=> ?_,fun o ho=> ?_⟩
       · obtain ⟨x,hx,rfl⟩:=ba8.mp hy
         exact ⟨_,at1 _ _ _,_,rfl,N',rfl,x,rfl,mm x hx,Gf.keep hx rfl rfl⟩
       · rw [Gf.all kcl ho]
         have:=hR _ (by rw [ba3];exact R.l1) iso
         rw [bc1] at this
         exact this
     | some p=>
       obtain ⟨hp,q,hq,ne,eq⟩:=kyt e
       refine ⟨.int (p:Nat),rfl,?_⟩
       rw [if_neg (show ¬isNone (.int (p:Nat))=true from nofun)]
       simp only [rD,sFor]
       refine ⟨_,at1 _ _ _,_,rfl,fun j env=>∃(tr:List (List Int×List Int)) (v7 v8 v9:Dt),env=[.d (.list ((kem T m).map kel)),.d (.list ((kem U m).map kel)),.d (.list (M.map ba1)),.d (.list (N.map ba1)),.d (.tuple [.list (M'.map ba1),.list (N'.map ba1)]),.d (.int (p:Nat)),.o (tr.map kel),v7,v8,v9]∧tr.length≤j∧(∀ i,i < j→Bad m T U M' N' p i)∧∀x∈tr,∃i,i < m∧x=(kem U m).getD i ([],[])∧gM N' i=gM M' p∧Bad m T U M' N' p i,⟨[],_,_,_,rfl,bb6 _,fun i hi=>absurd hi (bo5 _),fun x hx=>nomatch hx⟩,?_,?_⟩
       · rintro j y env hy ⟨tr,v7,v8,v9,rfl,tl,bad,htr⟩
         obtain ⟨x,hx,rfl⟩:=ker hy
         rw [be3] at hx
         obtain ⟨n,hn,rfl⟩:=bg3.mp hx
         have hj:j < N'.length:=(bb1.mp hn).1
         have hjm:j < m:=by rw [← R.l2];exact hj
         have en:gM N' j=n:=by unfold gM;rw [bb9,hn];rfl
         simp only [rD]
         have hpm:p < m:=by rw [← R.l1];exact hp
         have ep:atI (M'.map ba1) (p:Nat)=some (.int (gM M' p)):=kgh 0 (by lia) (by lia)
         have ej:atI ((kem U m).map kel) (j:Nat)=some (kel ((kem U m).getD j ([],[]))):=kgh ([],[]) (by lia) (by unfold kem;rw [ba3,bg2];lia)
         have grow:Bad m T U M' N' p j→∀i,i < j + 1→Bad m T U M' N' p i:=fun b i hi=>by
          rcases bl7 (b74 hi) with z | rfl
          · exact bad i z
          · exact b
         refine ⟨_,_,rfl,_,at0 _ _,_,rfl,_,ep,okI _,okI _,.inl (shI _),?_⟩
         rw [kbj]
         by_cases c:n=gM M' p
         · rw [if_pos (decide_eq_true c)]
           refine ⟨_,rfl,_,ej,krc tr,kvc _,k12 _,?_⟩
           rw [kyv]
           by_cases c2:(kem U m).getD j ([],[])∈tr
           · rw [if_neg (by rw [decide_eq_true c2];exact nofun)]
             obtain ⟨i,hi,e1,e2,b⟩:=htr _ c2
             exact ⟨tr,_,_,_,rfl,by lia,grow (kt1 irr hpm hi hjm e1 b e2),htr⟩
           · rw [if_pos (by rw [decide_eq_false c2];rfl)]
             refine ⟨_,at0 _ _,M',p,rfl,by rw [R.l1];exact m16,hp,_,rfl,_,at1 _ _ _,N',j,rfl,by rw [R.l2];exact m16,hj,_,rfl,m,T,U,knj M' p,knj N' j,d + 1,rfl,m1,m16,by unfold knj;simp [R.l1],by unfold knj;simp [R.l2],irr,(D.fine R.fin).apart R.l1 R.r1 hpm (by rw [← R.l1];exact hq) ne eq,by lia,fun no=> ?_,fun g hg iso=> ?_⟩
             · refine ⟨.none,rfl,?_⟩
               rw [if_neg (show ¬(!isNone .none)=true from nofun)]
               have b:=kq9 R.l1 R.l2 hpm no
               refine ⟨_,rfl,_,ej,by rw [ba3];lia,tr++[(kem U m).getD j ([],[])],.d (.int (j:Nat)),.d (.int n),.d .none,by rw [bi5];rfl,by rw [ba6];exact ch6 tl,grow b,fun x hx=> ?_⟩
               rcases be9.mp hx with z | z
               · exact htr x z
               · rw [bc2.mp z]
                 exact ⟨j,hjm,rfl,en.trans c,b⟩
             · refine ⟨_,rfl,?_⟩
               rw [if_pos (show (!isNone (.tuple _))=true from rfl)]
               exact hR g hg iso
         · rw [if_neg (by simp [c]),if_neg id]
           exact ⟨tr,_,_,_,rfl,by lia,grow (fun f iso r e=>c (by rw [← en,← e];exact (r p hpm).symm)),htr⟩
       · rintro env ⟨tr,v7,v8,v9,rfl,tl,bad,htr⟩
         rw [kcy,ba3,R.l2] at bad
         refine hX fun f iso r=> ?_
         have hpm:p < m:=by rw [← R.l1];exact hp
         exact bad _ (iso.lt p hpm) f iso (R.rsp f iso r) rfl
theorem k14 {f:Addr} {fd:bf0}:FnOk P w K mg base CX0 4 f fd ["one_lying","other_lying","one_marks","other_marks"] (spG K (Psr 0)):=⟨fun vs H Q E h=>by obtain ⟨ds,RS,_,h,_⟩:=h;exact (kvd h).elim,fun q_ q_ q_ q_ q_ q_ q_ q_ q_ q_ q_ q_ q_ h=>by obtain ⟨ds,RS,_,h,_⟩:=h;exact (kvd h).elim⟩
end
theorem kre {c:Nat→Bool} {p:Nat}: ∀n:Nat,(ba5 n).filter (fun b=>c b && decide (b=p))=if p < n∧c p=true then [p] else []
 | 0=>by simp
 | n + 1=>by
   rw [bn3,bp0,kre n]
   by_cases h:n=p
   · subst h
     by_cases h2:c n=true
     · rw [if_neg (by lia),if_pos ⟨by lia,h2⟩];simp [h2]
     · rw [if_neg (by lia),if_neg (fun z=>h2 z.2)];simp [h2]
   · by_cases h2:p < n∧c p=true
     · rw [if_pos h2,if_pos ⟨by lia,h2.2⟩];simp [h]
     · rw [if_neg h2,if_neg (fun z=>h2 ⟨by lia,z.2⟩)];simp [h]
theorem k15 {n k p:Nat} {T:Rl} (hp:p < n):((kcv n T k).filter fun q=>decide (q.2=(p:Int))).map (·.1)=if T k p=true then [(k:Int)] else []:=by
 unfold kcv
 rw [cb3,bc1,b55]
 have e:(ba5 n).filter (fun b=>((fun q:Int×Int=>decide (q.2=(p:Int))) ∘ fun (b:Nat)=>((k:Int),(b:Int))) b && T k b)=(ba5 n).filter (fun b=>T k b && decide (b=p)):=by
  refine b06 fun b q_=> ?_
  rw [Bool.and_comm]
  congr 1
  show decide ((b:Int)=(p:Int))=_
  exact decide_eq_decide.mpr (by lia)
 rw [e,kre n]
 by_cases h:T k p=true
 · rw [if_pos ⟨hp,h⟩,if_pos h];rfl
 · rw [if_neg (fun z=>h z.2),if_neg h];rfl
theorem k16 {n k p:Nat} {T:Rl}:((kcv n T k).filter fun q=>decide (q.1=(p:Int))).map (·.2)=if k=p then (ovr T n p).map (fun (q:Nat)=>(q:Int)) else []:=by
 unfold kcv
 rw [cb3,bc1,b55]
 by_cases h:k=p
 · subst h
   rw [if_pos rfl]
   unfold ovr
   congr 1
   refine b06 fun b q_=> ?_
   simp
 · rw [if_neg h]
   have e:(ba5 n).filter (fun b=>((fun q:Int×Int=>decide (q.1=(p:Int))) ∘ fun (b:Nat)=>((k:Int),(b:Int))) b && T k b)=[]:=List.filter_eq_nil_iff.mpr fun b q_=>by
    show ¬(decide ((k:Int)=(p:Int)) && T k b)=true
    rw [decide_eq_false (by lia)]
    exact nofun
   rw [e];rfl
theorem k17 {n p:Nat} {T:Rl} (hp:p < n): ∀k:Nat,(((ba5 k).flatMap (kcv n T)).filter fun q=>decide (q.2=(p:Int))).map (·.1)=((ba5 k).filter fun q=>T q p).map fun (q:Nat)=>(q:Int)
 | 0=>rfl
 | k + 1=>by
   rw [bn3,bs5,bp0,bi5,k17 hp k,bp0,bi5]
   congr 1
   rw [b05,b28,be4,k15 hp]
   by_cases h:T k p=true
   · rw [if_pos h];simp [h]
   · rw [if_neg h];simp [h]
theorem k18 {n p:Nat} {T:Rl}: ∀k:Nat,(((ba5 k).flatMap (kcv n T)).filter fun q=>decide (q.1=(p:Int))).map (·.2)=if p < k then (ovr T n p).map (fun (q:Nat)=>(q:Int)) else []
 | 0=>rfl
 | k + 1=>by
   rw [bn3,bs5,bp0,bi5,k18 k]
   rw [b05,b28,be4,k16]
   by_cases h:k=p
   · subst h
     rw [if_neg (by lia),if_pos rfl,if_pos (by lia)];rfl
   · rw [if_neg h,be4]
     by_cases h2:p < k
     · rw [if_pos h2,if_pos (by lia)]
     · rw [if_neg h2,if_neg (by lia)]
theorem kve (n:Nat) (T:Rl):((kbv n).map fun p=>kel (pu (kab n T) p,po (kab n T) p))=(kem T n).map kel:=by
 unfold kem kbv
 rw [bc1,bc1]
 refine bi8 fun p hp=> ?_
 have hp:=ba7.mp hp
 show kel (pu (kab n T) (p:Int),po (kab n T) (p:Int))=kel _
 rw [show pu (kab n T) (p:Int)=(undr T n p).map fun (q:Nat)=>(q:Int) from k17 hp n]
 rw [show po (kab n T) (p:Int)=(ovr T n p).map fun (q:Nat)=>(q:Int) from (k18 n).trans (if_pos hp)]
theorem kvf {n p:Nat} (hp:p < n):gM (bf9 n 0) p=0:=by unfold gM;simp [hp]
def Pren (ds:List ba9) (RS:Dt→Prop):Prop:=∃(n m:Nat) (T U:Rl),ds=[spD n (kab n T),spD m (kab m U)]∧1≤n∧n≤16∧1≤m∧m≤16∧(∀ a,a < m→U a a=false)∧(n≠m→RS (.d .none))∧
 (n=m→((∀ f,¬Iso n T U f)→RS (.d .none))∧∀g:List Nat,g.length=n→Iso n T U (fun p=>g.getD p 0)→RS (.d (.tuple (g.map fun x=> .int (x:Nat)))))
theorem kmn: ∀n:Nat,(bf9 n [ba1 0]).flatten=bf9 n (ba1 0)
 | 0=>rfl
 | n + 1=>by rw [bk2,bi1,kmn n];rfl
section
variable {P:bb8} {w:World} {K:ba0} {mg:Str→Option Value} {base:Heap}
theorem scRn:FnScope ["one","other","unmarked"] ["one","other"] (kag kfa):=⟨rfl,rfl,rfl,by decide +kernel,rfl,by decide +kernel,by decide +kernel⟩
theorem ok_Rn {f:Addr} {fd:bf0} (F:Fun K "renaming" "renaming" kfa f fd) (T:Txt K mg) (GLy:Fn P w K mg base "lying" 2 ["space"] (spG K kqu)) (GSr:Fn P w K mg base "searched" 20 ["one_lying","other_lying","one_marks","other_marks"] (spG K (Psr 16))):
 FnOk P w K mg base CX0 22 f fd ["one","other"] (spG K Pren):=by
 refine F.okG scRn (fun ds RS h=> ?_) (fun cdv A outer s H E hr=>(kae (kcp (kbc (kiu (fun q_=>ka5 hr (by decide))) (kay (kap 0) (kao).bw).bw (kay (kap 1) (kao).bw).bw) (kaj (ka4 (kcr))) ka3)
  (kae (kax 2 (fun q_=>scRn.nd) ((k0f (kgm (kaa (kao) kah)).l (kay (kap 0) (kao).bw).bw).ew))
  (kaj (ka4 (kam GSr (fun q_=>hr.mono (by decide)) (kaa ((ka6 GLy (fun q_=>hr.mono (by decide)) (kaa (kac 0) kah)).ew) (kaa ((ka6 GLy (fun q_=>hr.mono (by decide)) (kaa (kac 1) kah)).ew) (kaa (kac 2) (kaa (kac 2) kah)))))))))) (fun ds RS h=> ?_)
 · obtain ⟨n,m,T,U,rfl,_⟩:=h;rfl
 · obtain ⟨n,m,T,U,rfl,n1,n16,m1,m16,irr,hN,hS⟩:=h
   simp only [rD,kb0,at0]
   refine ⟨okI _,okI _,.inl (shI _),?_⟩
   rw [kbj]
   by_cases c:n=m
   · subst c
     rw [if_neg (by simp)]
     obtain ⟨h1,h2⟩:=hS rfl
     have er:(bf9 ((n:Int).toNat) [ba1 0]).flatten=(bf9 n (0:Int)).map ba1:=by
      rw [bg8,List.map_replicate]
      exact kmn n
     refine ⟨by lia,by lia,by lia,n,_,rfl,n16,_,rfl,n,_,rfl,n16,_,rfl,n,T,U,bf9 n 0,bf9 n 0,1,?_,n1,n16,b13,b13,irr,⟨[0],rfl,fun p hp=>by rw [bc2.mp hp];lia,bp5 _ _⟩,by lia,fun no=> ?_,fun g hg iso=> ?_⟩
     · rw [er,kve,kve]
     · exact ⟨_,rfl,h1 fun f iso=>no f iso fun p hp=>by rw [kvf hp,kvf (iso.lt p hp)]⟩
     · exact ⟨_,rfl,h2 g hg iso⟩
   · rw [if_pos (by simp;lia)]
     exact hN c
end
def Srt (qs:List (Int×Int)):Prop:=qs.Pairwise fun x y=>x.1 * 100 + x.2≤y.1 * 100 + y.2
def InB (ps:List (Int×Int)):Prop:=∀q∈ps,(0≤q.1∧q.1 < 100)∧0≤q.2∧q.2 < 100
theorem kjn {qs rs:List (Int×Int)} (h:InB qs) (nd1:qs.Nodup) (nd2:rs.Nodup) (h2:Srt qs) (h4:Srt rs) (mem: ∀q,q∈qs↔q∈rs):qs=rs:=by
 refine List.Perm.eq_of_pairwise (le:=fun (x y:Int×Int)=>x.1 * 100 + x.2≤y.1 * 100 + y.2) (fun a b ha hb l1 l2=> ?_) h2 h4 ((bl5 nd1 nd2).mpr mem)
 have ia:=h a ha
 have ib:=h b ((mem b).mpr hb)
 have e1:a.1=b.1:=by lia
 have e2:a.2=b.2:=by lia
 exact bt5 e1 e2
theorem kbq {m:Nat} {t:Rel} (hm:m≤16):InB (kab m t):=fun q hq=>by
 obtain ⟨a,b,ha,hb,_,rfl⟩:=kan.mp hq
 refine ⟨⟨?_,?_⟩,?_,?_⟩ <;> (dsimp only;lia)
theorem kmo {m:Nat} {t:Rel} {R:Int×Int→Int×Int→Prop} (h: ∀a b c d:Nat,a < m→b < m→c < m→d < m→a < c∨(a=c∧b < d)→R ((a:Int),(b:Int)) ((c:Int),(d:Int))):(kab m t).Pairwise R:=by
 unfold kab
 rw [List.pairwise_flatMap]
 refine ⟨fun a ha=> ?_,?_⟩
 · unfold kcv
   rw [bk7]
   have ha:=ba7.mp ha
   refine (List.pairwise_lt_range.filter _).imp_of_mem fun {b d} hb hd lt=> ?_
   exact h a b a d ha (ba7.mp (bf1.mp hb).1) ha (ba7.mp (bf1.mp hd).1) (.inr ⟨rfl,lt⟩)
 · refine List.pairwise_lt_range.imp_of_mem fun {a c} ha hc lt x hx y hy=> ?_
   unfold kcv at hx hy
   obtain ⟨b,hb,rfl⟩:=ba8.mp hx
   obtain ⟨d,hd,rfl⟩:=ba8.mp hy
   exact h a b c d (ba7.mp ha) (ba7.mp (bf1.mp hb).1) (ba7.mp hc) (ba7.mp (bf1.mp hd).1) (.inl lt)
theorem kca {m:Nat} {t:Rel} (hm:m≤16):Srt (kab m t):=kmo fun a b c d ha hb hc hd h=>by dsimp only;lia
theorem kb1 {m:Nat} {t:Rel}:(kab m t).Nodup:=kmo fun a b c d ha hb hc hd h z=>by
 have e1:=congrArg bw6 z
 have e2:=congrArg bw7 z
 dsimp only at e1 e2
 lia
theorem krf {ps:List (Int×Int)} {p:Int} (h:kb4 ps p=none):(∀ g,(p,g)∈ps→¬ ∀a,(p,a)∈ps→kjq ps g a)∧∀g,(g,p)∈ps→¬ ∀a,(a,p)∈ps→kjq ps a g:=by
 unfold kb4 at h
 have h1:ktq ps (po ps p)=none:=by
  cases e:ktq ps (po ps p) with
  | none=>rfl
  | some x=>rw [e] at h;cases h
 have h2:kjh ps (pu ps p)=none:=by rw [h1] at h;exact h
 refine ⟨fun g hg z=> ?_,fun g hg z=> ?_⟩
 · have:=ce6.mp h1 g (kme.mpr hg)
   exact this (bn6.mpr fun a ha=>kdx.mpr (z a (kme.mp ha)))
 · have:=ce6.mp h2 g (kmf.mpr hg)
   exact this (bn6.mpr fun a ha=>kdx.mpr (z a (kmf.mp ha)))
theorem k19 {α:Type} {p q:α→Bool} {l:List α} (h: ∀x∈l,p x=true→q x=true) {y:α} (hy:y∈l) (h1:p y=false) (h2:q y=true):(l.filter p).length < (l.filter q).length:=by
 induction l with
 | nil=>cases hy
 | cons a l ih=>
   have le:(l.filter p).length≤(l.filter q).length:=by
    rw [← b34,← b34]
    exact cb0 fun x hx=>h x (bb7 _ hx)
   rcases bc7.mp hy with e | hy
   · subst e
     rw [bn1 (by rw [h1];exact nofun),bl2 h2,bf2]
     lia
   · have:=ih (fun x hx=>h x (bb7 _ hx)) hy
     by_cases c:p a=true
     · rw [bl2 c,bl2 (h a bc4 c),bf2,bf2];lia
     · rw [bn1 c]
       by_cases c2:q a=true
       · rw [bl2 c2,bf2];lia
       · rw [bn1 c2];exact this
theorem kt2 {n:Nat} {T:Rel} (hn:n≤15) {p:Int} (h0:0≤p) (h1:p < ((n + 1:Nat):Int)):woF (kab (n + 1) T) p=kab n fun a b=>T (upN p.toNat a) (upN p.toNat b):=by
 obtain ⟨k,rfl⟩:=bl4 h0
 rw [bg8]
 have fl: ∀q∈(kab (n + 1) T).filter (fun q=>decide ((k:Int)≠q.1) && decide ((k:Int)≠q.2)),(k:Int)≠q.1∧(k:Int)≠q.2:=fun q hq=>by simpa using (bf1.mp hq).2
 have hw:kh7 n (woF (kab (n + 1) T) (k:Int)):=by
  have:=kym (n:=((n + 1:Nat):Int)) (ps:=kab (n + 1) T) (p:=(k:Int)) (fun q hq=>by
   obtain ⟨a,b,ha,hb,_,rfl⟩:=kan.mp hq
   refine ⟨?_,?_,?_,?_⟩ <;> (dsimp only;lia)) h0 h1
  rwa [sc1] at this
 refine kjn (fun q hq=> ?_) ?_ kb1 ?_ (kca (by lia)) fun q=> ?_
 · obtain ⟨a,b,c,d⟩:=hw q hq
   lia
 · unfold woF
   rw [bn9,bk7]
   refine (kb1.filter _).imp_of_mem fun {x y} hx hy ne z=>ne ?_
   have nx:=fl x hx
   have ny:=fl y hy
   have e1:cu (k:Int) x.1=cu (k:Int) y.1:=congrArg bw6 z
   have e2:cu (k:Int) x.2=cu (k:Int) y.2:=congrArg bw7 z
   unfold cu at e1 e2
   refine bt5 ?_ ?_
   · split at e1 <;> split at e1 <;> lia
   · split at e2 <;> split at e2 <;> lia
 · unfold woF Srt
   rw [bk7]
   refine ((kca (m:=n + 1) (t:=T) (by lia)).filter _).imp_of_mem fun {x y} hx hy le=> ?_
   have nx:=fl x hx
   have ny:=fl y hy
   have ix:=kbq (by lia) x (bf1.mp hx).1
   have iy:=kbq (by lia) y (bf1.mp hy).1
   show cu (k:Int) x.1 * 100 + cu (k:Int) x.2≤cu (k:Int) y.1 * 100 + cu (k:Int) y.2
   unfold cu
   split <;> split <;> split <;> split <;> lia
 · constructor
   · intro hq
     obtain ⟨a,b,c,d⟩:=hw q hq
     have e:q=((q.1.toNat:Int),(q.2.toNat:Int)):=bt5 (by dsimp only;lia) (by dsimp only;lia)
     rw [e] at hq ⊢
     have:=kqp.mp hq
     rw [kaw] at this ⊢
     exact ⟨by lia,by lia,this.2.2⟩
   · intro hq
     obtain ⟨a,b,ha,hb,ht,rfl⟩:=kan.mp hq
     rw [kqp,kaw]
     refine ⟨?_,?_,ht⟩ <;> (unfold upN;split <;> lia)
def leT (T:Rl) (a b:Nat):Prop:=a=b∨T a b=true
structure OrT (n:Nat) (T:Rl):Prop where
 irr: ∀a,a < n→T a a=false
 trs: ∀a b c,a < n→b < n→c < n→T a b=true→T b c=true→T a c=true
structure Mon (n:Nat) (T:Rl) (m:Nat) (U:Rl) (f:Nat→Nat):Prop where
 lt: ∀a,a < n→f a < m
 le: ∀a b,a < n→b < n→T a b=true→leT U (f a) (f b)
theorem Mon.leq {n m:Nat} {T U:Rl} {f:Nat→Nat} (h:Mon n T m U f) {a b:Nat} (ha:a < n) (hb:b < n) (l:leT T a b):leT U (f a) (f b):=by
 rcases l with rfl | l
 · exact .inl rfl
 · exact h.le a b ha hb l
theorem Mon.comp {n m k:Nat} {T U V:Rl} {f g:Nat→Nat} (h:Mon n T m U f) (h2:Mon m U k V g):Mon n T k V (fun x=>g (f x)):=⟨fun a ha=>h2.lt _ (h.lt a ha),fun a b ha hb l=>h2.leq (h.lt a ha) (h.lt b hb) (h.le a b ha hb l)⟩
inductive Fen (n:Nat) (T:Rl):(Nat→Nat)→Prop
 | id:Fen n T fun x=>x
 | step {f g:Nat→Nat}:Fen n T f→Mon n T n T g→((∀ x,x < n→leT T (f x) (g x))∨∀x,x < n→leT T (g x) (f x))→Fen n T g
theorem Fen.mon {n:Nat} {T:Rl} {f:Nat→Nat} (h:Fen n T f):Mon n T n T f:=by
 cases h with
 | id=>exact ⟨fun a ha=>ha,fun a b q_ q_ l=> .inr l⟩
 | step _ h _=>exact h
structure CoT (m:Nat) (U:Rl):Prop where
 up: ∀p g,p < m→g < m→U p g=true→¬ ∀a,a < m→U p a=true→leT U g a
 dn: ∀p g,p < m→g < m→U g p=true→¬ ∀a,a < m→U a p=true→leT U a g
noncomputable def flT (T:Rl):Rl:=fun a b=>T b a
theorem kd9 {T:Rl} {a b:Nat}:leT (flT T) a b↔leT T b a:=or_congr ⟨Eq.symm,Eq.symm⟩ cn7
theorem kvg {m:Nat} {U:Rl} (o:OrT m U) (no: ∀p g,p < m→g < m→U p g=true→¬ ∀a,a < m→U p a=true→leT U g a) {f:Nat→Nat} (M:Mon m U m U f) (up: ∀x,x < m→leT U x (f x)): ∀(k x:Nat),x < m→((ba5 m).filter (U x)).length=k→f x=x:=by
 intro k
 induction k using Nat.strongRecOn with
 | _ k ih=>
   intro x hx e
   rcases up x hx with z | z
   · exact z.symm
   · refine absurd ?_ (no x (f x) hx (M.lt x hx) z)
     intro y hy hxy
     have lt:((ba5 m).filter (U y)).length < ((ba5 m).filter (U x)).length:=
      k19 (fun u hu h=>o.trs x y u hx hy (ba7.mp hu) hxy h) (ba7.mpr hy) (o.irr y hy) hxy
     have:=M.le x y hx hy hxy
     rw [ih _ (by lia) y hy rfl] at this
     exact this
theorem OrT.fl {m:Nat} {U:Rl} (o:OrT m U):OrT m (flT U):=⟨o.irr,fun a b c ha hb hc h1 h2=>o.trs c b a hc hb ha h2 h1⟩
theorem Mon.fl {n m:Nat} {T U:Rl} {f:Nat→Nat} (h:Mon n T m U f):Mon n (flT T) m (flT U) f:=⟨h.lt,fun a b ha hb l=>kd9.mpr (h.le b a hb ha l)⟩
theorem k2a {m:Nat} {U:Rl} (o:OrT m U) (C:CoT m U) {f:Nat→Nat} (M:Mon m U m U f) (nr:(∀ x,x < m→leT U x (f x))∨∀x,x < m→leT U (f x) x): ∀x,x < m→f x=x:=by
 intro x hx
 rcases nr with h | h
 · exact kvg o C.up M h _ x hx rfl
 · exact kvg o.fl (fun p g hp hg l z=>C.dn p g hp hg l fun a ha q=>kd9.mp (z a ha q)) M.fl (fun x hx=>kd9.mpr (h x hx)) _ x hx rfl
structure Rt (n:Nat) (T:Rl) (m:Nat) (U:Rl) (i r:Nat→Nat):Prop where
 il: ∀a,a < m→i a < n
 rl: ∀x,x < n→r x < m
 ri: ∀a,a < m→r (i a)=a
 em: ∀a b,a < m→b < m→U a b=T (i a) (i b)
 fen:Fen n T fun x=>i (r x)
theorem Rt.iMon {n m:Nat} {T U:Rl} {i r:Nat→Nat} (R:Rt n T m U i r):Mon m U n T i:=⟨R.il,fun a b ha hb l=> .inr (by rw [← R.em a b ha hb];exact l)⟩
theorem Rt.inj {n m:Nat} {T U:Rl} {i r:Nat→Nat} (R:Rt n T m U i r) {a b:Nat} (ha:a < m) (hb:b < m) (e:i a=i b):a=b:=by rw [← R.ri a ha,e,R.ri b hb]
theorem Rt.rMon {n m:Nat} {T U:Rl} {i r:Nat→Nat} (R:Rt n T m U i r):Mon n T m U r:=⟨R.rl,fun a b ha hb l=>by
 rcases R.fen.mon.le a b ha hb l with z | z
 · exact .inl (R.inj (R.rl a ha) (R.rl b hb) z)
 · exact .inr (by rw [R.em _ _ (R.rl a ha) (R.rl b hb)];exact z)⟩
theorem Rt.ord {n m:Nat} {T U:Rl} {i r:Nat→Nat} (R:Rt n T m U i r) (o:OrT n T):OrT m U:=⟨fun a ha=>by rw [R.em a a ha ha];exact o.irr _ (R.il a ha),fun a b c ha hb hc h1 h2=>by
 rw [R.em _ _ ha hb] at h1
 rw [R.em _ _ hb hc] at h2
 rw [R.em _ _ ha hc]
 exact o.trs _ _ _ (R.il a ha) (R.il b hb) (R.il c hc) h1 h2⟩
theorem Rt.fix {n m:Nat} {T U:Rl} {i r:Nat→Nat} (R:Rt n T m U i r) (o:OrT n T) (C:CoT m U) {f:Nat→Nat} (h:Fen n T f): ∀a,a < m→r (f (i a))=a:=by
 induction h with
 | id=>exact R.ri
 | @step f g hf hg nr ih=>
   refine k2a (R.ord o) C (f:=fun a=>r (g (i a))) ((R.iMon.comp hg).comp R.rMon) ?_
   rcases nr with h | h
   · refine .inl fun a ha=> ?_
     have:=R.rMon.leq (hf.mon.lt _ (R.il a ha)) (hg.lt _ (R.il a ha)) (h _ (R.il a ha))
     rwa [ih a ha] at this
   · refine .inr fun a ha=> ?_
     have:=R.rMon.leq (hg.lt _ (R.il a ha)) (hf.mon.lt _ (R.il a ha)) (h _ (R.il a ha))
     rwa [ih a ha] at this
theorem kgz {m m':Nat} {f:Nat→Nat} (lt: ∀a,a < m→f a < m') (inj: ∀a b,a < m→b < m→f a=f b→a=b):m≤m':=by
 have nd:((ba5 m).map f).Nodup:=kco bi7 fun a b ha hb=>inj a b (ba7.mp ha) (ba7.mp hb)
 have:=nd.length_le_of_subset (l₂:=ba5 m') fun x hx=>by
  obtain ⟨a,ha,rfl⟩:=ba8.mp hx
  exact ba7.mpr (lt a (ba7.mp ha))
 simpa using this
theorem Rt.iso {n m m':Nat} {T U U':Rl} {i r i' r':Nat→Nat} (R:Rt n T m U i r) (R':Rt n T m' U' i' r') (o:OrT n T) (C:CoT m U) (C':CoT m' U'):m=m'∧∃f,Iso m U U' f:=by
 have h1: ∀a,a < m→r (i' (r' (i a)))=a:=R.fix o C R'.fen
 have h2: ∀a,a < m'→r' (i (r (i' a)))=a:=R'.fix o C' R.fen
 have t1:=R.iMon.comp R'.rMon
 have t2:=R'.iMon.comp R.rMon
 have j1: ∀a b,a < m→b < m→r' (i a)=r' (i b)→a=b:=fun a b ha hb e=>by rw [← h1 a ha,← h1 b hb,e]
 have j2: ∀a b,a < m'→b < m'→r (i' a)=r (i' b)→a=b:=fun a b ha hb e=>by rw [← h2 a ha,← h2 b hb,e]
 have em:m=m':=Nat.le_antisymm (kgz t1.lt j1) (kgz t2.lt j2)
 subst em
 refine ⟨rfl,fun a=>r' (i a),t1.lt,j1,fun a b ha hb=> ?_⟩
 have ou:=R.ord o
 have ou':=R'.ord o
 rw [bh0]
 constructor
 · intro h
   refine (t1.le a b ha hb h).resolve_left fun z=> ?_
   rw [j1 a b ha hb z,ou.irr b hb] at h
   cases h
 · intro h
   have:=t2.le _ _ (t1.lt a ha) (t1.lt b hb) h
   rw [h1 a ha,h1 b hb] at this
   refine this.resolve_left fun z=> ?_
   rw [z,ou'.irr _ (t1.lt b hb)] at h
   cases h
theorem Fen.comp {n:Nat} {T:Rl} {f:Nat→Nat} (h:Fen n T f) {k:Nat} {V:Rl} {L:(Nat→Nat)→Nat→Nat} (h0:Fen k V (L fun x=>x)) (m: ∀g,Mon n T n T g→Mon k V k V (L g)) (l: ∀f g,Mon n T n T f→Mon n T n T g→(∀ x,x < n→leT T (f x) (g x))→∀x,x < k→leT V (L f x) (L g x)):Fen k V (L f):=by
 induction h with
 | id=>exact h0
 | @step f g hf hg nr ih=>exact ih.step (m g hg) (nr.imp (fun h=>l f g hf.mon hg h) fun h=>l g f hg hf.mon h)
theorem kvh {n:Nat} {T:Rl}:Mon n T n T fun x=>x:=⟨fun a ha=>ha,fun a b q_ q_ l=> .inr l⟩
theorem Fen.ext {n:Nat} {T:Rl} {f g:Nat→Nat} (h:Fen n T f) (e: ∀x,x < n→f x=g x):Fen n T g:=by
 refine h.step ⟨fun a ha=>by rw [← e a ha];exact h.mon.lt a ha,fun a b ha hb l=>by rw [← e a ha,← e b hb];exact h.mon.le a b ha hb l⟩ (.inl fun x hx=> .inl (e x hx))
theorem Rt.comp {n m k:Nat} {T U V:Rl} {i r i2 r2:Nat→Nat} (R:Rt n T m U i r) (R2:Rt m U k V i2 r2):Rt n T k V (fun a=>i (i2 a)) (fun x=>r2 (r x)):=by
 refine ⟨fun a ha=>R.il _ (R2.il a ha),fun x hx=>R2.rl _ (R.rl x hx),fun a ha=> ?_,fun a b ha hb=> ?_,?_⟩
 · show r2 (r (i (i2 a)))=a
   rw [R.ri _ (R2.il a ha),R2.ri a ha]
 · rw [R2.em a b ha hb,R.em _ _ (R2.il a ha) (R2.il b hb)]
 · exact R2.fen.comp (L:=fun f x=>i (f (r x))) R.fen (fun g hg=>(R.rMon.comp hg).comp R.iMon) fun f g hf hg l x hx=>R.iMon.leq (hf.lt _ (R.rl x hx)) (hg.lt _ (R.rl x hx)) (l _ (R.rl x hx))
theorem Rt.refl {n:Nat} {T:Rl}:Rt n T n T (fun x=>x) (fun x=>x):=⟨fun q_ h=>h,fun q_ h=>h,fun q_ q_=>rfl,fun q_ q_ q_ q_=>rfl,.id⟩
noncomputable def cuN (p x:Nat):Nat:=if p < x then x - 1 else x
noncomputable def fdN (p g x:Nat):Nat:=if x=p then g else x
theorem leP {n:Nat} {T:Rl} {a b:Nat} (h:kjq (kab n T) (a:Int) (b:Int)):leT T a b:=by
 rcases h with h | h
 · exact .inl (by lia)
 · exact .inr (kaw.mp h).2.2
theorem k2b {n p g:Nat} {T:Rl} (o:OrT n T) (hp:p < n) (hg:g < n) (h:(T p g=true∧∀a,a < n→T p a=true→leT T g a)∨(T g p=true∧∀a,a < n→T a p=true→leT T a g)):Mon n T n T (fdN p g):=by
 refine ⟨fun a ha=>by unfold fdN;split <;> assumption,fun a b ha hb l=> ?_⟩
 unfold fdN
 by_cases ea:a=p
 · subst ea
   rw [if_pos rfl]
   by_cases eb:b=a
   · rw [if_pos eb];exact .inl rfl
   · rw [if_neg eb]
     rcases h with ⟨_,h⟩ | ⟨h,_⟩
     · exact h b hb l
     · exact .inr (o.trs g a b hg hp hb h l)
 · rw [if_neg ea]
   by_cases eb:b=p
   · subst eb
     rw [if_pos rfl]
     rcases h with ⟨h,_⟩ | ⟨_,h⟩
     · exact .inr (o.trs a b g ha hp hg l h)
     · exact h a ha l
   · rw [if_neg eb];exact .inr l
theorem up_cu {p x:Nat} (h:x≠p):upN p (cuN p x)=x:=by unfold upN cuN;split <;> split <;> lia
set_option tactic.hygienic true in
theorem kyw {n:Nat} {T:Rl} (o:OrT (n + 1) T) {p:Int} (h0:0≤p) (h1:p < ((n + 1:Nat):Int)) (h2:(kb4 (kab (n + 1) T) p).isSome=true): ∃r,Rt (n + 1) T n (fun a b=>T (upN p.toNat a) (upN p.toNat b)) (upN p.toNat) r:=by
 obtain ⟨q,rfl⟩:=bl4 h0
 rw [bg8]
 obtain ⟨g,hg⟩:=bo7.mp h2
 have gs:=kjk hg
 have gi:0≤g∧g < ((n + 1:Nat):Int):=kkl (n:=((n + 1:Nat):Int)) (fun q hq=>by
  obtain ⟨a,b,ha,hb,_,rfl⟩:=kan.mp hq
  refine ⟨?_,?_,?_,?_⟩ <;> (dsimp only;lia)) hg
 obtain ⟨k,rfl⟩:=bl4 gi.1
 have hq:q < n + 1:=by lia
 have hk:k < n + 1:=by lia
 have h:(T q k=true∧∀a,a < n + 1→T q a=true→leT T k a)∨(T k q=true∧∀a,a < n + 1→T a q=true→leT T a k):=by
  rcases gs with ⟨a1,a2⟩ | ⟨a1,a2⟩
  · exact .inl ⟨(kaw.mp a1).2.2,fun a ha l=>leP (a2 a (kaw.mpr ⟨hq,ha,l⟩))⟩
  · exact .inr ⟨(kaw.mp a1).2.2,fun a ha l=>leP (a2 a (kaw.mpr ⟨ha,hq,l⟩))⟩
 have ne:k≠q:=fun z=>by
  subst z
  rcases h with ⟨h,_⟩ | ⟨h,_⟩ <;> (rw [o.irr k hk] at h;cases h)
 have M:=k2b o hq hk h
 have nq: ∀x,fdN q k x≠q:=fun x=>by unfold fdN;split <;> assumption
 refine ⟨fun x=>cuN q (fdN q k x),fun a ha=>by unfold upN;split <;> lia,fun x hx=> ?_,fun a ha=> ?_,fun a b ha hb=>rfl,?_⟩
 · have:=M.lt x hx
   have:=nq x
   unfold cuN
   split <;> lia
 · have:fdN q k (upN q a)=upN q a:=if_neg (by unfold upN;split <;> lia)
   rw [this]
   unfold cuN upN
   split <;> split <;> lia
 · have F:Fen (n + 1) T (fdN q k):=by
    refine Fen.id.step M ?_
    rcases h with ⟨h,_⟩ | ⟨h,_⟩
    · refine .inl fun x hx=> ?_
      unfold fdN
      split
      · rename_i e;rw [e];exact .inr h
      · exact .inl rfl
    · refine .inr fun x hx=> ?_
      unfold fdN
      split
      · rename_i e;rw [e];exact .inr h
      · exact .inl rfl
   exact F.ext fun x q_=>(up_cu (nq x)).symm
theorem kgj {n:Nat} {ps:List (Int×Int)} {row:List Int} {m:Nat} {qs:List (Int×Int)} (w:Walk n ps row m qs): ∀{T:Rl},n≤16→ps=kab n T→OrT n T→1≤n→∃U i r,qs=kab m U∧Rt n T m U i r∧1≤m:=by
 induction w with
 | nil n ps=>exact fun q_ e q_ h=>⟨_,_,_,e,.refl,h⟩
 | @cons n ps p row m qs h0 h1 h2 w ih=>
   intro T hn e o q_
   subst e
   obtain ⟨r,R⟩:=kyw o h0 h1 h2
   have n1:1≤n:=by
    have:=R.rl 0 (by lia)
    lia
   obtain ⟨U,i2,r2,e2,R2,m1⟩:=ih (by lia) (kt2 (by lia) h0 h1) (R.ord o) n1
   exact ⟨U,_,_,e2,R.comp R2,m1⟩
theorem krg {m:Nat} {U:Rl} (h:kd2 m (kab m U)=[]):CoT m U:=by
 have no: ∀p,p < m→kb4 (kab m U) (p:Int)=none:=fun p hp=>by
  cases e:kb4 (kab m U) (p:Int) with
  | none=>rfl
  | some x=>
    have:(p:Int)∈kd2 m (kab m U):=bf1.mpr ⟨ba8.mpr ⟨p,ba7.mpr hp,rfl⟩,by rw [e];rfl⟩
    rw [h] at this
    cases this
 have le: ∀a b,a < m→b < m→leT U a b→kjq (kab m U) (a:Int) (b:Int):=fun a b ha hb l=>l.imp (fun z=>by rw [z]) fun z=>kaw.mpr ⟨ha,hb,z⟩
 refine ⟨fun p g hp hg l z=>(krf (no p hp)).1 g (kaw.mpr ⟨hp,hg,l⟩) fun a ha=> ?_,fun p g hp hg l z=>(krf (no p hp)).2 g (kaw.mpr ⟨hg,hp,l⟩) fun a ha=> ?_⟩
 · obtain ⟨x,y,hx,hy,t,e⟩:=kan.mp ha
   have e1:a=(y:Int):=congrArg bw7 e
   have e2:p=x:=bv3 (congrArg bw6 e)
   subst e2 e1
   exact le _ _ hg hy (z y hy t)
 · obtain ⟨x,y,hx,hy,t,e⟩:=kan.mp ha
   have e1:a=(x:Int):=congrArg bw6 e
   have e2:p=y:=bv3 (congrArg bw7 e)
   subst e2 e1
   exact le _ _ hx hg (z x hx t)
noncomputable def leb (T:Rl) (a b:Nat):Bool:=decide (a=b) || T a b
theorem kko {T:Rl} {a b:Nat}:leb T a b=true↔leT T a b:=by unfold leb leT;simp
noncomputable def tmT (T:Rl) (w:Nat) (U:Rl):Rl:=fun a b=>decide (a≠b) && (leb T (a / w) (b / w) && leb U (a % w) (b % w))
theorem kcz {T U:Rl} {w a b:Nat}:tmT T w U a b=true↔a≠b∧leT T (a / w) (b / w)∧leT U (a % w) (b % w):=by
 unfold tmT
 rw [bh5,bh5,kko,kko,decide_eq_true_iff]
theorem kyx {w a b:Nat} (h1:a / w=b / w) (h2:a % w=b % w):a=b:=by
 rw [← b45 a w,← b45 b w,h1,h2]
theorem krh {T U:Rl} {w a b:Nat}:leT (tmT T w U) a b↔leT T (a / w) (b / w)∧leT U (a % w) (b % w):=by
 constructor
 · rintro (rfl | h)
   · exact ⟨.inl rfl,.inl rfl⟩
   · exact (kcz.mp h).2
 · intro h
   by_cases c:a=b
   · exact .inl c
   · exact .inr (kcz.mpr ⟨c,h⟩)
theorem kri {n:Nat} {T:Rl} (o:OrT n T) {a b c:Nat} (ha:a < n) (hb:b < n) (hc:c < n) (h1:leT T a b) (h2:leT T b c):leT T a c:=by
 rcases h1 with rfl | h1
 · exact h2
 · rcases h2 with rfl | h2
   · exact .inr h1
   · exact .inr (o.trs a b c ha hb hc h1 h2)
theorem kmp {n:Nat} {T:Rl} (o:OrT n T) {a b:Nat} (ha:a < n) (hb:b < n) (h1:leT T a b) (h2:leT T b a):a=b:=by
 rcases h1 with rfl | h1
 · rfl
 · rcases h2 with rfl | h2
   · rfl
   · have:=o.trs a b a ha hb ha h1 h2
     rw [o.irr a ha] at this
     cases this
theorem kbk {n w a:Nat} (h:a < n * w):a / w < n∧a % w < w:=by
 have hw:0 < w:=Nat.pos_of_ne_zero fun z=>by subst z;simp at h
 exact ⟨(Nat.div_lt_iff_lt_mul hw).mpr h,cb6 _ hw⟩
theorem kgk {w p q:Nat} (h:q < w):(p * w + q) / w=p∧(p * w + q) % w=q:=by
 have hw:0 < w:=by lia
 refine ⟨?_,?_⟩
 · rw [b49,Nat.mul_add_div hw,ch9 h,ch0]
 · rw [b49,Nat.mul_add_mod,Nat.mod_eq_of_lt h]
theorem kyy {n w p q:Nat} (hp:p < n) (hq:q < w):p * w + q < n * w:=by
 have:(p + 1) * w≤n * w:=Nat.mul_le_mul_right w hp
 rw [cg5] at this
 lia
theorem krj {n w:Nat} {T U:Rl} (o:OrT n T) (o2:OrT w U):OrT (n * w) (tmT T w U):=by
 refine ⟨fun a q_=>by unfold tmT;simp,fun a b c ha hb hc h1 h2=> ?_⟩
 obtain ⟨n1,a1,a2⟩:=kcz.mp h1
 obtain ⟨n2,b1,b2⟩:=kcz.mp h2
 have la:=kbk ha
 have lb:=kbk hb
 have lc:=kbk hc
 refine kcz.mpr ⟨fun z=> ?_,kri o la.1 lb.1 lc.1 a1 b1,kri o2 la.2 lb.2 lc.2 a2 b2⟩
 subst z
 exact n1 (kyx (kmp o la.1 lb.1 a1 b1) (kmp o2 la.2 lb.2 a2 b2))
theorem kmq {n m w v:Nat} {T U V W:Rl} {f g:Nat→Nat} (h:Mon n T m V f) (h2:Mon w U v W g):Mon (n * w) (tmT T w U) (m * v) (tmT V v W) (fun x=>f (x / w) * v + g (x % w)):=by
 refine ⟨fun a ha=>kyy (h.lt _ (kbk ha).1) (h2.lt _ (kbk ha).2),fun a b ha hb l=> ?_⟩
 obtain ⟨_,l1,l2⟩:=kcz.mp l
 have e1:=kgk (p:=f (a / w)) (h2.lt _ (kbk ha).2)
 have e2:=kgk (p:=f (b / w)) (h2.lt _ (kbk hb).2)
 rw [krh,e1.1,e1.2,e2.1,e2.2]
 exact ⟨h.leq (kbk ha).1 (kbk hb).1 l1,h2.leq (kbk ha).2 (kbk hb).2 l2⟩
theorem k2c {n w:Nat} {T U:Rl} {f g:Nat→Nat} (h:Fen n T f) (h2:Fen w U g):Fen (n * w) (tmT T w U) (fun x=>f (x / w) * w + g (x % w)):=by
 have a:Fen (n * w) (tmT T w U) (fun x=>f (x / w) * w + x % w):=by
  refine h.comp (L:=fun f x=>f (x / w) * w + x % w) ((Fen.id).ext fun x q_=> ?_) (fun g hg=>kmq hg kvh) fun f g hf hg l x hx=> ?_
  · show x=x / w * w + x % w
    rw [b49];exact (b45 x w).symm
  · have e1:=kgk (p:=f (x / w)) (kbk hx).2
    have e2:=kgk (p:=g (x / w)) (kbk hx).2
    rw [krh,e1.1,e1.2,e2.1,e2.2]
    exact ⟨l _ (kbk hx).1,.inl rfl⟩
 refine h2.comp (L:=fun g x=>f (x / w) * w + g (x % w)) a (fun g hg=>kmq h.mon hg) fun g g' hg hg' l x hx=> ?_
 have e1:=kgk (p:=f (x / w)) (hg.lt _ (kbk hx).2)
 have e2:=kgk (p:=f (x / w)) (hg'.lt _ (kbk hx).2)
 rw [krh,e1.1,e1.2,e2.1,e2.2]
 exact ⟨.inl rfl,l _ (kbk hx).2⟩
theorem Rt.le {n m:Nat} {T U:Rl} {i r:Nat→Nat} (R:Rt n T m U i r) {a b:Nat} (ha:a < m) (hb:b < m):leT U a b↔leT T (i a) (i b):=by
 constructor
 · exact fun h=>R.iMon.leq ha hb h
 · rintro (h | h)
   · exact .inl (R.inj ha hb h)
   · exact .inr (by rw [R.em a b ha hb];exact h)
theorem Rt.times {n m w v:Nat} {T U V W:Rl} {i r i2 r2:Nat→Nat} (R:Rt n T m V i r) (R2:Rt w U v W i2 r2):Rt (n * w) (tmT T w U) (m * v) (tmT V v W) (fun a=>i (a / v) * w + i2 (a % v)) (fun x=>r (x / w) * v + r2 (x % w)):=by
 have E:=fun (a:Nat) (ha:a < m * v)=>kgk (p:=i (a / v)) (R2.il _ (kbk ha).2)
 refine ⟨(kmq R.iMon R2.iMon).lt,(kmq R.rMon R2.rMon).lt,fun a ha=> ?_,fun a b ha hb=> ?_,?_⟩
 · show r ((i (a / v) * w + i2 (a % v)) / w) * v + r2 ((i (a / v) * w + i2 (a % v)) % w)=a
   rw [(E a ha).1,(E a ha).2,R.ri _ (kbk ha).1,R2.ri _ (kbk ha).2,b49]
   exact b45 a v
 · rw [bh0,kcz,kcz]
   rw [(E a ha).1,(E a ha).2,(E b hb).1,(E b hb).2,R.le (kbk ha).1 (kbk hb).1,R2.le (kbk ha).2 (kbk hb).2]
   refine and_congr ⟨fun ne z=>ne ?_,fun ne z=>ne (by rw [z])⟩ cn7
   refine kyx (R.inj (kbk ha).1 (kbk hb).1 ?_) (R2.inj (kbk ha).2 (kbk hb).2 ?_)
   · rw [← (E a ha).1,← (E b hb).1,z]
   · rw [← (E a ha).2,← (E b hb).2,z]
 · refine (k2c R.fen R2.fen).ext fun x hx=> ?_
   have e:=kgk (p:=r (x / w)) (R2.rl _ (kbk hx).2)
   show i (r (x / w)) * w + i2 (r2 (x % w))=i ((r (x / w) * v + r2 (x % w)) / v) * w + i2 ((r (x / w) * v + r2 (x % w)) % v)
   rw [e.1,e.2]
theorem k2d {n w:Nat} {T U:Rl} (o:OrT n T) (o2:OrT w U) (c1: ∀p g,p < n→g < n→T p g=true→¬ ∀a,a < n→T p a=true→leT T g a) (c2: ∀p g,p < w→g < w→U p g=true→¬ ∀a,a < w→U p a=true→leT U g a):
 ∀p g,p < n * w→g < n * w→tmT T w U p g=true→¬ ∀a,a < n * w→tmT T w U p a=true→leT (tmT T w U) g a:=by
 intro p g hp hg h z
 obtain ⟨ne,l1,l2⟩:=kcz.mp h
 have lp:=kbk hp
 have lg:=kbk hg
 rcases l1 with e1 | l1
 · rcases l2 with e2 | l2
   · exact ne (kyx e1 e2)
   · refine c2 _ _ lp.2 lg.2 l2 fun a ha l=> ?_
     have e:=kgk (p:=p / w) ha
     have:=z _ (kyy lp.1 ha) (kcz.mpr ⟨fun q=> ?_,by rw [e.1];exact .inl rfl,by rw [e.2];exact .inr l⟩)
     · rw [krh,e.2] at this
       exact this.2
     · have:p % w=a:=by rw [q,e.2]
       rw [this,o2.irr a ha] at l
       cases l
 · refine c1 _ _ lp.1 lg.1 l1 fun a ha l=> ?_
   have e:=kgk (p:=a) lp.2
   have:=z _ (kyy ha lp.2) (kcz.mpr ⟨fun q=> ?_,by rw [e.1];exact .inr l,by rw [e.2];exact .inl rfl⟩)
   · rw [krh,e.1] at this
     exact this.1
   · have:p / w=a:=by rw [q,e.1]
     rw [this,o.irr a ha] at l
     cases l
theorem tm_fl {T U:Rl} {w:Nat}:flT (tmT T w U)=tmT (flT T) w (flT U):=by
 funext a b
 show tmT T w U b a=_
 rw [bh0,kcz,kcz,kd9,kd9]
 exact and_congr ⟨bz8,bz8⟩ cn7
theorem CoT.fl {m:Nat} {U:Rl} (C:CoT m U):CoT m (flT U):=⟨fun p g hp hg l z=>C.dn p g hp hg l fun a ha q=>kd9.mp (z a ha q),fun p g hp hg l z=>C.up p g hp hg l fun a ha q=>kd9.mp (z a ha q)⟩
theorem kvi {m:Nat} {U:Rl} (h1: ∀p g,p < m→g < m→U p g=true→¬ ∀a,a < m→U p a=true→leT U g a) (h2: ∀p g,p < m→g < m→flT U p g=true→¬ ∀a,a < m→flT U p a=true→leT (flT U) g a):CoT m U:=⟨h1,fun p g hp hg l z=>h2 p g hp hg l fun a ha q=>kd9.mpr (z a ha q)⟩
theorem CoT.times {n w:Nat} {T U:Rl} (o:OrT n T) (o2:OrT w U) (C:CoT n T) (C2:CoT w U):CoT (n * w) (tmT T w U):=kvi (k2d o o2 C.up C2.up) (by rw [tm_fl];exact k2d o.fl o2.fl C.fl.up C2.fl.up)
theorem Fen.fl {n:Nat} {T:Rl} {f:Nat→Nat} (h:Fen n T f):Fen n (flT T) f:=by
 induction h with
 | id=>exact .id
 | step _ hg nr ih=>exact ih.step hg.fl (nr.symm.imp (fun h x hx=>kd9.mpr (h x hx)) fun h x hx=>kd9.mpr (h x hx))
theorem Rt.fl {n m:Nat} {T U:Rl} {i r:Nat→Nat} (R:Rt n T m U i r):Rt n (flT T) m (flT U) i r:=⟨R.il,R.rl,R.ri,fun a b ha hb=>R.em b a hb ha,R.fen.fl⟩
noncomputable def bsT (n:Nat) (T U:Rl):Rl:=fun a b=>if a < n then decide (b < n) && T a b else decide (n≤b) && U (a - n) (b - n)
theorem kkp {n:Nat} {T U:Rl} {a b:Nat} (ha:a < n) (hb:b < n):bsT n T U a b=T a b:=by unfold bsT;rw [if_pos ha];simp [hb]
theorem kkq {n:Nat} {T U:Rl} {a b:Nat} (ha:n≤a) (hb:n≤b):bsT n T U a b=U (a - n) (b - n):=by unfold bsT;rw [if_neg (by lia)];simp [hb]
set_option tactic.hygienic true in
theorem krk {n:Nat} {T U:Rl} {a b:Nat} (h:bsT n T U a b=true):(a < n∧b < n∧T a b=true)∨(n≤a∧n≤b∧U (a - n) (b - n)=true):=by
 unfold bsT at h
 split at h
 · rename_i c
   rw [bh5,decide_eq_true_iff] at h
   exact .inl ⟨c,h⟩
 · rename_i c
   rw [bh5,decide_eq_true_iff] at h
   exact .inr ⟨by lia,h⟩
theorem krl {n w:Nat} {T U:Rl} (o:OrT n T) (o2:OrT w U):OrT (n + w) (bsT n T U):=by
 refine ⟨fun a ha=> ?_,fun a b c ha hb hc h1 h2=> ?_⟩
 · by_cases c:a < n
   · rw [kkp c c];exact o.irr a c
   · rw [kkq (by lia) (by lia)];exact o2.irr _ (by lia)
 · rcases krk h1 with ⟨a1,a2,a3⟩ | ⟨a1,a2,a3⟩ <;> rcases krk h2 with ⟨b1,b2,b3⟩ | ⟨b1,b2,b3⟩
   · rw [kkp a1 b2];exact o.trs a b c a1 a2 b2 a3 b3
   · lia
   · lia
   · rw [kkq a1 b2];exact o2.trs _ _ _ (by lia) (by lia) (by lia) a3 b3
noncomputable def bsF (n m:Nat) (f g:Nat→Nat):Nat→Nat:=fun x=>if x < n then f x else m + g (x - n)
theorem knk {n:Nat} {T U:Rl} {a b:Nat}:(a < n→b < n→(leT (bsT n T U) a b↔leT T a b))∧(n≤a→n≤b→(leT (bsT n T U) a b↔leT U (a - n) (b - n))):=by
 refine ⟨fun ha hb=> ?_,fun ha hb=> ?_⟩
 · unfold leT;rw [kkp ha hb]
 · unfold leT;rw [kkq ha hb]
   exact or_congr ⟨fun z=>by rw [z],fun z=>by lia⟩ cn7
theorem kcb {n m x:Nat} {f g:Nat→Nat} (h:x < n):bsF n m f g x=f x:=if_pos h
theorem kcc {n m x:Nat} {f g:Nat→Nat} (h:n≤x):bsF n m f g x=m + g (x - n):=if_neg (by lia)
theorem kmr {n m w v:Nat} {T U V W:Rl} {f g:Nat→Nat} (h:Mon n T m V f) (h2:Mon w U v W g):Mon (n + w) (bsT n T U) (m + v) (bsT m V W) (bsF n m f g):=by
 refine ⟨fun a ha=> ?_,fun a b ha hb l=> ?_⟩
 · by_cases c:a < n
   · rw [kcb c];have:=h.lt a c;lia
   · rw [kcc (by lia)];have:=h2.lt (a - n) (by lia);lia
 · rcases krk l with ⟨a1,a2,a3⟩ | ⟨a1,a2,a3⟩
   · rw [kcb a1,kcb a2]
     exact (knk.1 (h.lt a a1) (h.lt b a2)).mpr (h.le a b a1 a2 a3)
   · rw [kcc a1,kcc a2]
     refine (knk.2 (by lia) (by lia)).mpr ?_
     rw [bg9,bg9]
     exact h2.le _ _ (by lia) (by lia) a3
theorem k2e {n w:Nat} {T U:Rl} {f g:Nat→Nat} (h:Fen n T f) (h2:Fen w U g):Fen (n + w) (bsT n T U) (bsF n n f g):=by
 have a:Fen (n + w) (bsT n T U) (bsF n n f fun x=>x):=by
  refine h.comp (L:=fun f=>bsF n n f fun x=>x) ((Fen.id).ext fun x q_=> ?_) (fun g hg=>kmr hg kvh) fun f g hf hg l x hx=> ?_
  · by_cases c:x < n
    · rw [kcb c]
    · rw [kcc (by lia)];lia
  · by_cases c:x < n
    · rw [kcb c,kcb c]
      exact (knk.1 (hf.lt x c) (hg.lt x c)).mpr (l x c)
    · rw [kcc (by lia),kcc (by lia)];exact .inl rfl
 refine h2.comp (L:=fun g=>bsF n n f g) a (fun g hg=>kmr h.mon hg) fun g g' hg hg' l x hx=> ?_
 by_cases c:x < n
 · rw [kcb c,kcb c];exact .inl rfl
 · rw [kcc (by lia),kcc (by lia)]
   refine (knk.2 (by lia) (by lia)).mpr ?_
   rw [bg9,bg9]
   exact l _ (by lia)
theorem Rt.beside {n m w v:Nat} {T U V W:Rl} {i r i2 r2:Nat→Nat} (R:Rt n T m V i r) (R2:Rt w U v W i2 r2):Rt (n + w) (bsT n T U) (m + v) (bsT m V W) (bsF m n i i2) (bsF n m r r2):=by
 refine ⟨(kmr R.iMon R2.iMon).lt,(kmr R.rMon R2.rMon).lt,fun a ha=> ?_,fun a b ha hb=> ?_,?_⟩
 · by_cases c:a < m
   · rw [kcb c,kcb (R.il a c),R.ri a c]
   · have c':m≤a:=by lia
     rw [kcc c',kcc (ci8 _ _),bg9,R2.ri _ (by lia)];lia
 · by_cases c:a < m <;> by_cases d:b < m
   · rw [kkp c d,kcb c,kcb d,kkp (R.il a c) (R.il b d)];exact R.em a b c d
   · rw [kcb c,kcc (by lia)]
     have:=R.il a c
     unfold bsT
     rw [if_pos c,if_pos this,decide_eq_false d,decide_eq_false (by lia)]
     rfl
   · have c':m≤a:=by lia
     have:=R.il b d
     rw [kcb d,kcc c']
     unfold bsT
     rw [if_neg c,if_neg (by lia),decide_eq_false (by lia),decide_eq_false (by lia)]
     rfl
   · rw [kkq (by lia) (by lia),kcc (by lia),kcc (by lia),kkq (by lia) (by lia),bg9,bg9]
     exact R2.em _ _ (by lia) (by lia)
 · refine (k2e R.fen R2.fen).ext fun x hx=> ?_
   by_cases c:x < n
   · rw [kcb c,kcb c,kcb (R.rl x c)]
   · have c':n≤x:=by lia
     rw [kcc c',kcc c',kcc (ci8 _ _),bg9]
theorem k2f {n w:Nat} {T U:Rl} (c1: ∀p g,p < n→g < n→T p g=true→¬ ∀a,a < n→T p a=true→leT T g a) (c2: ∀p g,p < w→g < w→U p g=true→¬ ∀a,a < w→U p a=true→leT U g a):
 ∀p g,p < n + w→g < n + w→bsT n T U p g=true→¬ ∀a,a < n + w→bsT n T U p a=true→leT (bsT n T U) g a:=by
 intro p g hp hg h z
 rcases krk h with ⟨a1,a2,a3⟩ | ⟨a1,a2,a3⟩
 · exact c1 p g a1 a2 a3 fun a ha l=>(knk.1 a2 ha).mp (z a (by lia) (by rw [kkp a1 ha];exact l))
 · refine c2 _ _ (by lia) (by lia) a3 fun a ha l=> ?_
   have:=(knk.2 a2 (by lia)).mp (z (n + a) (by lia) (by rw [kkq a1 (by lia),bg9];exact l))
   rwa [bg9] at this
theorem bs_fl {T U:Rl} {n:Nat}:flT (bsT n T U)=bsT n (flT T) (flT U):=by
 funext a b
 show bsT n T U b a=_
 unfold bsT flT
 by_cases c:a < n <;> by_cases d:b < n
 · simp [c,d]
 · rw [if_neg d,if_pos c,decide_eq_false (by lia),decide_eq_false d]
   rfl
 · rw [if_pos d,if_neg c,decide_eq_false (by lia),decide_eq_false (by lia)]
   rfl
 · have h1:n≤b:=by lia
   have h2:n≤a:=by lia
   simp [c,d,h1,h2]
theorem CoT.beside {n w:Nat} {T U:Rl} (C:CoT n T) (C2:CoT w U):CoT (n + w) (bsT n T U):=kvi (k2f C.up C2.up) (by rw [bs_fl];exact k2f C.fl.up C2.fl.up)
noncomputable def tpT (n:Nat) (T:Rl):Rl:=fun a b=>if b < n then decide (a < n) && T a b else decide (a < n)
set_option tactic.hygienic true in
theorem kg0 {n:Nat} {T:Rl} (o:OrT n T):OrT (n + 1) (tpT n T):=by
 refine ⟨fun a ha=> ?_,fun a b c ha hb hc h1 h2=> ?_⟩
 · unfold tpT
   split
   · rename_i c;simp [c,o.irr a c]
   · rename_i c;simpa using c
 · unfold tpT at h1 h2 ⊢
   have an:a < n:=by
    split at h1
    · rw [bh5] at h1;exact of_decide_eq_true h1.1
    · exact of_decide_eq_true h1
   have bn:b < n:=by
    split at h2
    · rw [bh5] at h2;exact of_decide_eq_true h2.1
    · exact of_decide_eq_true h2
   split
   · rename_i c
     rw [if_pos c,bh5] at h2
     rw [if_pos bn,bh5] at h1
     rw [bh5]
     exact ⟨decide_eq_true an,o.trs _ _ _ an bn c h1.2 h2.2⟩
   · exact decide_eq_true an
theorem Rt.top {n:Nat} {T:Rl}:Rt (n + 1) (tpT n T) 1 (fun q_ q_=>false) (fun q_=>n) (fun q_=>0):=by
 refine ⟨fun a q_=>bp1 _,fun x q_=>by decide,fun a ha=>by lia,fun a b q_ q_=> ?_,?_⟩
 · unfold tpT;simp
 · refine Fen.id.step ⟨fun a q_=>bp1 _,fun a b q_ q_ q_=> .inl rfl⟩ (.inl fun x hx=> ?_)
   by_cases c:x=n
   · exact .inl c
   · refine .inr ?_
     unfold tpT
     rw [if_neg (bk1 _)]
     exact decide_eq_true (by lia)
theorem kvj {U:Rl} (h: ∀a,a < 1→U a a=false):CoT 1 U:=by
 have no: ∀p g,p < 1→g < 1→U p g≠true:=fun p g hp hg l=>by
  have e1:p=0:=by lia
  have e2:g=0:=by lia
  rw [e1,e2,h 0 (by decide)] at l
  cases l
 exact ⟨fun p g hp hg l=>absurd l (no p g hp hg),fun p g hp hg l=>absurd l (no g p hg hp)⟩
noncomputable def rnL (g:List Nat) (q:Int×Int):Int×Int:=((g.getD q.1.toNat 0:Int),(g.getD q.2.toNat 0:Int))
theorem k2g {n:Nat} {T U:Rl} {g:List Nat} (n16:n≤16) (iso:Iso n T U fun p=>g.getD p 0) {qs:List (Int×Int)} (pm:qs.Perm ((kab n T).map (rnL g))) (up:Srt qs):qs=kab n U:=by
 have mem: ∀q,q∈qs↔q∈kab n U:=fun q=>by
  rw [pm.mem_iff,ba8,kan]
  constructor
  · rintro ⟨r,hr,rfl⟩
    obtain ⟨a,b,ha,hb,ht,rfl⟩:=kan.mp hr
    exact ⟨g.getD a 0,g.getD b 0,iso.lt a ha,iso.lt b hb,by rw [← iso.eq a b ha hb];exact ht,rfl⟩
  · rintro ⟨a,b,ha,hb,ht,rfl⟩
    obtain ⟨x,hx,ex⟩:=iso.onto ha
    obtain ⟨y,hy,ey⟩:=iso.onto hb
    have ex:g.getD x 0=a:=ex
    have ey:g.getD y 0=b:=ey
    refine ⟨((x:Int),(y:Int)),kaw.mpr ⟨hx,hy,?_⟩,?_⟩
    · have e:=iso.eq x y hx hy
      rw [ex,ey] at e
      rw [e];exact ht
    · show ((g.getD x 0:Int),(g.getD y 0:Int))=_
      rw [ex,ey]
 refine kjn (fun q hq=>kbq n16 q ((mem q).mp hq)) (pm.nodup_iff.mpr ?_) kb1 up (kca n16) mem
 rw [bn9,bk7]
 refine kb1.imp_of_mem fun {x y} hx hy ne z=>ne ?_
 obtain ⟨a,b,ha,hb,_,rfl⟩:=kan.mp hx
 obtain ⟨c,d,hc,hd,_,rfl⟩:=kan.mp hy
 have e1:((g.getD a 0:Nat):Int)=((g.getD c 0:Nat):Int):=congrArg bw6 z
 have e2:((g.getD b 0:Nat):Int)=((g.getD d 0:Nat):Int):=congrArg bw7 z
 rw [iso.inj a c ha hc (by lia),iso.inj b d hb hd (by lia)]
theorem k2h {n:Nat} {g:List Nat} (hl:g.length=n) (lt: ∀a,a < n→g.getD a 0 < n) (inj: ∀a b,a < n→b < n→g.getD a 0=g.getD b 0→a=b) {ms:List Int} (pm:ms.Perm (g.map fun (x:Nat)=>(x:Int))) (up:ms.Pairwise (· ≤ ·)):ms=kbv n:=by
 have eg:g=(ba5 n).map fun a=>g.getD a 0:=by
  apply bs8
  · simp [hl]
  · intro i h1 h2
    simp [h1]
 have nd:g.Nodup:=by
  rw [eg]
  exact kco bi7 fun a b ha hb=>inj a b (ba7.mp ha) (ba7.mp hb)
 have pg:g.Perm (ba5 n):=(bl5 nd bi7).mpr fun x=>by
  rw [ba7]
  constructor
  · intro hx
    rw [eg] at hx
    obtain ⟨a,ha,rfl⟩:=ba8.mp hx
    exact lt a (ba7.mp ha)
  · intro hx
    obtain ⟨a,ha,e⟩:=kqt lt inj hx
    rw [eg,← e]
    exact bh2 (ba7.mpr ha)
 refine kkn up ?_ (pm.trans (pg.map _))
 unfold kbv
 rw [bk7]
 exact List.pairwise_lt_range.imp fun h=>by lia
def Pisr (ds:List ba9) (RS:Dt→Prop):Prop:=∃(n:Nat) (T U:Rl) (g:List Nat),ds=[spD n (kab n T),spD n (kab n U),.tuple (g.map fun (x:Nat)=>ba1 (x:Int))]∧n≤16∧g.length=n∧Iso n T U (fun p=>g.getD p 0)∧RS (.d (.bool true))
theorem k2i {g:List Nat} {k:Nat} (h:k < g.length):atI (g.map fun (x:Nat)=>ba1 (x:Int)) (k:Int)=some (.int (g.getD k 0:Nat)):=kgh (f:=fun (x:Nat)=>ba1 (x:Int)) 0 (by lia) (by lia)
theorem kyz (ps qs:List (Int×Int)):bi2 (.tuple (ps.map pD)) (.tuple (qs.map pD))=decide (ps=qs):=kjl ps qs
theorem kvk (ps:List (Int×Int)):okD (.tuple (ps.map pD)):=kdr ps
theorem k2j (ps:List (Int×Int)):kk8 (.tuple (ps.map pD)):=by
 show bi4 (ps.map pD) + 1≤9
 have:=kek ps
 lia
section
variable {P:bb8} {w:World} {K:ba0} {mg:Str→Option Value} {base:Heap}
theorem scIr:FnScope ["one","other","row"] ["one","other","row"] (kag kbz):=⟨rfl,rfl,rfl,by decide +kernel,rfl,by decide +kernel,by decide +kernel⟩
theorem ok_Ir {f:Addr} {fd:bf0} (F:Fun K "_law_is_renaming" "_law_is_renaming" kbz f fd) (T:Txt K mg) (GDWh:Fn P w K mg base "_law_whole" 1 ["found"] (spG K kqi)):
 FnOk P w K mg base CX0 2 f fd ["one","other","row"] (spG K Pisr):=by
 refine F.okG scIr (fun ds RS h=> ?_) (fun cdv A outer s H E hr=>(kae (kcp ((kwd (kfw (kd5 (k0d (kar 2) kl7 (fun q_=>T.tuple) (fun q_=>T.isi)).bw)) (kwd (kbc (kiu (fun q_=>ka5 hr (by decide))) (kiv (kap 2) (fun q_=>T.len)).bw (kay (kap 0) (kao).bw).bw) (kug (kbc (kiu (fun q_=>ka5 hr (by decide))) (kay (kap 0) (kao).bw).bw (kay (kap 1) (kao).bw).bw)))).t) (kaj (ka4 (kmz))) ka3)
  (kae (kcp ((kwd (kfw (kd5 (kop (kc5 (N':=["point"]) (fun q_=>(.own .nil)) (kbn (kac 2)) (ka7 0 (fun q_=>(by decide +kernel:(["point"]:List Str).Nodup))) kbf (kam GDWh (fun q_=>hr.mono (by decide)) (kaa (kac 0) kah))).l (fun q_=>T.all)).bw)) (kug (kbc (kiu (fun q_=>ka5 hr (by decide))) (kp0 (kap 2) (fun q_=>T.sorted)).bw (kdj (kay (kap 0) (kao).bw).bw (fun q_=>T.list) (fun q_=>T.range)).bw))).t) (kaj (ka4 (kmz))) ka3)
  (kaj (ka4 (kof (kg6 (fun q_=>ka5 hr (by decide))) (kcs (khj (kc5 (N':=["a","b","row"]) (fun q_=>(.own (.own (.cap 2 rfl rfl rfl .nil)))) (kbn (kay (kap 0) (kao).bw)) (kcg 0 1 (fun q_=>(by decide +kernel:(["a","b","row"]:List Str).Nodup))) kbf (kbp (kaa (kay (kap 2) (kar 0)) (kaa (kay (kap 2) (kar 1)) kah)))).l (fun q_=>T.sorted) (fun q_=>ka5 hr (by decide))) (fun q_=>T.tuple)).bw (kay (kap 1) (kao).bw).bw)))))) (fun ds RS h=> ?_)
 · obtain ⟨n,T,U,g,rfl,_⟩:=h;rfl
 · obtain ⟨n,T',U,g,rfl,n16,gl,iso,hR⟩:=h
   have eg:(g.map fun (x:Nat)=>ba1 (x:Int))=(g.map fun (x:Nat)=>(x:Int)).map ba1:=by rw [bc1];rfl
   refine kbo (fun env=>env=[.d (spD n (kab n T')),.d (spD n (kab n U)),.d (.tuple (g.map fun (x:Nat)=>ba1 (x:Int)))]) (fun N hN=> ?_) ?_
   · simp only [rD,kb0,at0]
     refine ⟨rfl,_,T.ktt,knn rfl ⟨okI _,okI _,.inl (shI _),knn ?_ ⟨okI _,okI _,.inl (shI _),knn ?_ (hN _ rfl)⟩⟩⟩
     · rw [kbj,ba3,gl];simp
     · rw [kbj];simp
   rintro env rfl
   refine kbo (fun env=>env=[.d (spD n (kab n T')),.d (spD n (kab n U)),.d (.tuple (g.map fun (x:Nat)=>ba1 (x:Int)))]) (fun N hN=> ?_) ?_
   · simp only [rD,xLC,kb0,at0]
     refine ⟨Gf g (fun (x:Nat)=>ba1 (x:Int)) (fun q_=>true) (fun q_=> .bool true),fun y hy=> ?_,fun o ho=> ?_⟩
     · obtain ⟨x,hx,rfl⟩:=ba8.mp hy
       exact ⟨_,rfl,_,rfl,Gf.keep hx rfl rfl⟩
     · rw [Gf.all kj0 ho]
       refine ⟨g.map fun q_=>true,by rw [bc1];rfl,?_⟩
       rw [all_map]
       refine knn (by simp) ⟨_,eg,by rw [ba3];lia,fun ms pm up=> ?_⟩
       have em:=k2h gl (fun a ha=>iso.lt a ha) (fun a b ha hb=>iso.inj a b ha hb) pm up
       rw [bg8,kb5,em]
       refine ⟨by lia,by lia,ku6 _,ku6 _,.inl (k1v _),knn ?_ (hN _ rfl)⟩
       rw [show bi2 (.list ((kbv n).map ba1)) (.list ((kbv n).map ba1))=decide (kbv n=kbv n) from kmh _ _];simp
   rintro env rfl
   simp only [rD,xLC,kb0,at1]
   refine ⟨Gf (kab n T') pD (fun q_=>true) (fun q=>pD (rnL g q)),fun y hy=> ?_,fun o ho=> ?_⟩
   · obtain ⟨q,hq,rfl⟩:=ba8.mp hy
     obtain ⟨a,b,ha,hb,_,rfl⟩:=kan.mp hq
     exact ⟨_,_,rfl,_,rfl,_,k2i (by lia),_,rfl,_,k2i (by lia),Gf.keep hq rfl rfl⟩
   · rw [Gf.all kgc ho]
     refine ⟨(kab n T').map (rnL g),by rw [bc1];rfl,100,fun q hq=> ?_,fun qs pm up=> ?_⟩
     · obtain ⟨r,hr,rfl⟩:=ba8.mp hq
       obtain ⟨a,b,ha,hb,_,rfl⟩:=kan.mp hr
       have:=iso.lt b hb
       show 0≤((g.getD b 0:Nat):Int)∧((g.getD b 0:Nat):Int) < 100
       have this:g.getD b 0 < n:=this
       lia
     · have e:=k2g n16 iso pm up
       subst e
       refine ⟨kvk _,kvk _,.inl (k2j _),?_⟩
       show RS (.d (.bool (bi2 (.tuple ((kab n U).map pD)) (.tuple ((kab n U).map pD)))))
       rw [kyz]
       simpa using hR
end
def Prq (ds:List ba9) (RS:Dt→Prop):Prop:=∃m:Int,ds=[.int m]∧1≤m∧m≤16∧RS (.d .none)
noncomputable def ky8 (n:Int) (q:Int×Int):Int×Int:=(q.1 + n,q.2 + n)
def Pbes (ds:List ba9) (RS:Dt→Prop):Prop:=∃(n m:Int) (ps qs:List (Int×Int)),ds=[spD n ps,spD m qs]∧ps.length + qs.length < 1000∧1≤n + m∧n + m≤16∧RS (.d (spD (n + m) (ps++qs.map (ky8 n))))
noncomputable def swP (q:Int×Int):Int×Int:=(q.2,q.1)
def ky0 (ds:List ba9) (RS:Dt→Prop):Prop:=∃(n:Int) (ps:List (Int×Int)),ds=[spD n ps]∧InB ps∧∀qs,qs.Perm (ps.map swP)→Srt qs→RS (.d (spD n qs))
noncomputable def ky9 (n:Nat) (ps:List (Int×Int)):List (Int×Int):=ps++(kbv n).map fun x=>(x,(n:Int))
def Ptop (ds:List ba9) (RS:Dt→Prop):Prop:=∃(n:Nat) (ps:List (Int×Int)),ds=[spD n ps]∧1≤n∧n + 1≤16∧ps.length < 1000∧InB ps∧∀qs,qs.Perm (ky9 n ps)→Srt qs→RS (.d (spD ((n:Int) + 1) qs))
noncomputable def knl (ps:List (Int×Int)) (m:Int) (qs:List (Int×Int)) (a b:Int):Bool:=kkk ps (a / m) (b / m) && kkk qs (a % m) (b % m)
def ky1 (ds:List ba9) (RS:Dt→Prop):Prop:=∃(n m:Int) (ps qs:List (Int×Int)) (a b:Int),ds=[spD n ps,spD m qs,.int a,.int b]∧0 < m∧m < 100∧RS (.d (.bool (knl ps m qs a b)))
noncomputable def knm (ps:List (Int×Int)) (m:Int) (qs:List (Int×Int)):Rel:=fun a b=>decide (a≠b) && knl ps m qs a b
def Ptim (ds:List ba9) (RS:Dt→Prop):Prop:=∃(n m:Nat) (ps qs:List (Int×Int)),ds=[spD n ps,spD m qs]∧1≤n∧1≤m∧n≤16∧m≤16∧n * m≤16∧RS (.d (spD ((n * m:Nat):Int) (kab (n * m) (knm ps m qs))))
theorem kt3 (m:Nat) (t:Rel) (a k:Nat) (ka:t a k=true):((ba5 (k + 1)).filter (t a)).map (fun (b:Nat)=>((a:Int),(b:Int)))=((ba5 k).filter (t a)).map (fun (b:Nat)=>((a:Int),(b:Int)))++[((a:Int),(k:Int))]:=by
 rw [bn3,bp0]
 simp [ka]
theorem kms (m:Nat) (t:Rel) (a k:Nat) (ka:t a k=false):((ba5 (k + 1)).filter (t a)).map (fun (b:Nat)=>((a:Int),(b:Int)))=((ba5 k).filter (t a)).map (fun (b:Nat)=>((a:Int),(b:Int))):=by
 rw [bn3,bp0]
 simp [ka]
theorem kt4 (m:Nat) (t:Rel) (a:Nat):(ba5 (a + 1)).flatMap (kcv m t)=(ba5 a).flatMap (kcv m t)++((ba5 m).filter (t a)).map (fun (b:Nat)=>((a:Int),(b:Int))):=by
 rw [bn3,bs5]
 simp [kcv]
section
variable {P:bb8} {w:World} {K:ba0} {mg:Str→Option Value} {base:Heap}
theorem scRq:FnScope ["many"] ["many"] (kag kb3):=⟨rfl,rfl,rfl,by decide +kernel,rfl,by decide +kernel,by decide +kernel⟩
theorem ok_Rq {f:Addr} {fd:bf0} {c0:Addr} (F:Fun K "refuse_too_many" "refuse_too_many" kb3 f fd) (T:Txt K mg) (Z:XT K mg c0):
 FnOk P w K mg base CX0 1 f fd ["many"] (spG K Prq):=by
 refine F.okG scRq (fun ds RS h=> ?_) (fun cdv A outer s H E hr=>(kaj (kcp (kfw (kr5 k0b k0b (kao).bw (kar 0) (kw6 (fun q_=>Z.g_MOST_POINTS)).bw)) (kaj (khb)) ka3))) (fun ds RS h=> ?_)
 · obtain ⟨m,rfl,_⟩:=h;rfl
 · obtain ⟨m,rfl,h1,h2,hR⟩:=h
   simp only [rD]
   rw [if_pos (decide_eq_true h1)]
   exact knn (by rw [decide_eq_true h2];rfl) hR
theorem scBs:FnScope ["one","other","many","behind"] ["one","other"] (kag khr):=⟨rfl,rfl,rfl,by decide +kernel,rfl,by decide +kernel,by decide +kernel⟩
theorem ok_Bs {f:Addr} {fd:bf0} (F:Fun K "beside" "beside" khr f fd) (T:Txt K mg) (GRq:Fn P w K mg base "refuse_too_many" 1 ["many"] (spG K Prq)):
 FnOk P w K mg base CX0 2 f fd ["one","other"] (spG K Pbes):=by
 refine F.okG scBs (fun ds RS h=> ?_) (fun cdv A outer s H E hr=>(kae (kax 2 (fun q_=>scBs.nd) (kcx kis (kay (kap 0) (kao).bw).bw (kay (kap 1) (kao).bw).bw))
  (kae (kj1 (kam GRq (fun q_=>hr.mono (by decide)) (kaa (kac 2) kah)))
  (kae (kep 3 (fun q_=>scBs.nd) (N':=["a","b","one"]) (fun q_=>(.own (.own (.cap 0 rfl rfl rfl .nil)))) (kbn (kay (kap 1) (kao).bw)) (kcg 0 1 (fun q_=>(by decide +kernel:(["a","b","one"]:List Str).Nodup))) kbf (kbp (kaa (kcx kis (kar 0) (kay (kap 2) (kao).bw).bw) (kaa (kcx kis (kar 1) (kay (kap 2) (kao).bw).bw) kah))))
  (DSs.frz 3 (kaj (ka4 (kbp (kaa (kac 2) (kaa (kwn (kay (kap 0) (kao).bw) (kdi 3 (fun q_=>T.tuple))) kah)))))))))) (fun ds RS h=> ?_)
 · obtain ⟨n,m,ps,qs,rfl,_⟩:=h;rfl
 · obtain ⟨n,m,ps,qs,rfl,hl,h1,h2,hR⟩:=h
   simp only [rD,xLC,kb0,at0,at1]
   refine ⟨n + m,rfl,h1,h2,_,rfl,Gf qs pD (fun q_=>true) (fun q=>pD (ky8 n q)),fun y hy=> ?_,fun o ho=> ?_⟩
   · obtain ⟨q,hq,rfl⟩:=ba8.mp hy
     exact ⟨_,_,rfl,_,rfl,_,rfl,Gf.keep hq rfl rfl⟩
   · rw [Gf.all kgc ho]
     refine ⟨by rw [ba3,ba3];lia,?_⟩
     unfold spD at hR
     rw [bi5,bc1] at hR
     exact hR
theorem scTu:FnScope ["space"] ["space"] (kag khs):=⟨rfl,rfl,rfl,by decide +kernel,rfl,by decide +kernel,by decide +kernel⟩
theorem ok_Tu {f:Addr} {fd:bf0} (F:Fun K "turned" "turned" khs f fd) (T:Txt K mg):
 FnOk P w K mg base CX0 1 f fd ["space"] (spG K ky0):=by
 refine F.okG scTu (fun ds RS h=> ?_) (fun cdv A outer s H E hr=>(kaj (ka4 (kbp (kaa (kay (kap 0) (kao).bw) (kaa (kcs (khj (kc5 (N':=["a","b"]) (fun q_=>(.own (.own .nil))) (kbn (kay (kap 0) (kao).bw)) (kcg 0 1 (fun q_=>(by decide +kernel:(["a","b"]:List Str).Nodup))) kbf (kbp (kaa (kac 1) (kaa (kac 0) kah)))).l (fun q_=>T.sorted) (fun q_=>ka5 hr (by decide))) (fun q_=>T.tuple)) kah)))))) (fun ds RS h=> ?_)
 · obtain ⟨n,ps,rfl,_⟩:=h;rfl
 · obtain ⟨n,ps,rfl,hB,hR⟩:=h
   simp only [rD,xLC,kb0,at0,at1]
   refine ⟨Gf ps pD (fun q_=>true) (fun q=>pD (swP q)),fun y hy=> ?_,fun o ho=> ?_⟩
   · obtain ⟨q,hq,rfl⟩:=ba8.mp hy
     exact ⟨_,_,rfl,Gf.keep hq rfl rfl⟩
   · rw [Gf.all kgc ho]
     refine ⟨ps.map swP,by rw [bc1];rfl,100,fun q hq=> ?_,fun qs h1 h2=>hR qs h1 h2⟩
     obtain ⟨r,hr,rfl⟩:=ba8.mp hq
     exact (hB r hr).1
theorem scTp:FnScope ["space","top"] ["space"] (kag kht):=⟨rfl,rfl,rfl,by decide +kernel,rfl,by decide +kernel,by decide +kernel⟩
theorem ok_Tp {f:Addr} {fd:bf0} (F:Fun K "topped" "topped" kht f fd) (T:Txt K mg) (GRq:Fn P w K mg base "refuse_too_many" 1 ["many"] (spG K Prq)):
 FnOk P w K mg base CX0 2 f fd ["space"] (spG K Ptop):=by
 refine F.okG scTp (fun ds RS h=> ?_) (fun cdv A outer s H E hr=>(kae (kax 1 (fun q_=>scTp.nd) (kay (kap 0) (kao).bw))
  (kae (kj1 (kam GRq (fun q_=>hr.mono (by decide)) (kaa (kcx kis (kar 1) (kao).bw) kah)))
  (kaj (ka4 (kbp (kaa (kcx kis (kar 1) (kao).bw) (kaa (kcs (khj (k0e (kwj (kay (kap 0) (kao).bw).q (fun q_=>T.list)).l (kc5 (N':=["point","top"]) (fun q_=>(.own (.cap 1 rfl rfl rfl .nil))) (kb8 (kar 1) (fun q_=>T.range)) (ka7 0 (fun q_=>(by decide +kernel:(["point","top"]:List Str).Nodup))) kbf (kbp (kaa (kac 0) (kaa (kac 1) kah)))).l).l (fun q_=>T.sorted) (fun q_=>ka5 hr (by decide))) (fun q_=>T.tuple)) kah)))))))) (fun ds RS h=> ?_)
 · obtain ⟨n,ps,rfl,_⟩:=h;rfl
 · obtain ⟨n,ps,rfl,n1,nm,hl,hB,hR⟩:=h
   refine kbo (fun env=>env=[.d (spD n ps),.d (.int (n:Int))]) (fun N hN=> ?_) ?_
   · simp only [rD,kb0,at0]
     exact hN _ rfl
   rintro env rfl
   refine kbo (fun env=>env=[.d (spD n ps),.d (.int (n:Int))]) (fun N hN=> ?_) ?_
   · simp only [rD]
     exact ⟨_,rfl,by lia,by lia,_,rfl,hN _ rfl⟩
   rintro env rfl
   simp only [rD,xLC,kb0,at0,at1]
   refine ⟨by lia,by lia,?_⟩
   rw [bg8,kb5]
   refine ⟨Gf (kbv n) ba1 (fun q_=>true) (fun x=>pD (x,(n:Int))),fun y hy=> ?_,fun o ho=> ?_⟩
   · obtain ⟨x,hx,rfl⟩:=ba8.mp hy
     exact Gf.keep hx rfl rfl
   · rw [Gf.all kcl ho]
     refine ⟨by rw [ba3,ba3,kcj];lia,ky9 n ps,by unfold ky9;rw [bi5,bc1];rfl,100,fun q hq=> ?_,fun qs h1 h2=>hR qs h1 h2⟩
     rcases be9.mp hq with hq | hq
     · exact (hB q hq).2
     · obtain ⟨x,_,rfl⟩:=ba8.mp hq
       exact ⟨by dsimp only;lia,by dsimp only;lia⟩
theorem scRi:FnScope ["one","other","a","b","wide"] ["one","other","a","b"] (kag keg):=⟨rfl,rfl,rfl,by decide +kernel,rfl,by decide +kernel,by decide +kernel⟩
theorem ok_Ri {f:Addr} {fd:bf0} (F:Fun K "both_rise" "both_rise" keg f fd) (T:Txt K mg) (GDSm:Fn P w K mg base "same_or_under" 1 ["space","a","b"] (spG K k1r)):
 FnOk P w K mg base CX0 2 f fd ["one","other","a","b"] (spG K ky1):=by
 refine F.okG scRi (fun ds RS h=> ?_) (fun cdv A outer s H E hr=>(kae (kax 4 (fun q_=>scRi.nd) (kay (kap 1) (kao).bw))
  (kaj (ka4 (kui (kam GDSm (fun q_=>hr.mono (by decide)) (kaa (kac 0) (kaa (kcx koh (kar 2) (kar 4)) (kaa (kcx koh (kar 3) (kar 4)) kah)))) (kuh (kam GDSm (fun q_=>hr.mono (by decide)) (kaa (kac 1) (kaa (kcx koi (kar 2) (kar 4)) (kaa (kcx koi (kar 3) (kar 4)) kah)))))))))) (fun ds RS h=> ?_)
 · obtain ⟨n,m,ps,qs,a,b,rfl,_⟩:=h;rfl
 · obtain ⟨n,m,ps,qs,a,b,rfl,h0,h1,hR⟩:=h
   simp only [rD,kb0,at0,at1]
   refine ⟨⟨h0,by lia⟩,⟨h0,by lia⟩,n,ps,a / m,b / m,rfl,_,rfl,_,rfl,?_⟩
   unfold knl at hR
   cases e:kkk ps (a / m) (b / m) with
   | true=>
     rw [e,b33] at hR
     exact ⟨h0,h0,m,qs,a % m,b % m,rfl,_,rfl,hR⟩
   | false=>
     rw [e,b57] at hR
     exact hR
theorem k2k:FnScope ["one","other","many","ties","a","b"] ["one","other"] (kag kkb):=⟨rfl,rfl,rfl,by decide +kernel,rfl,by decide +kernel,by decide +kernel⟩
theorem ok_Tm {f:Addr} {fd:bf0} (F:Fun K "times" "times" kkb f fd) (T:Txt K mg) (GRq:Fn P w K mg base "refuse_too_many" 1 ["many"] (spG K Prq)) (GRi:Fn P w K mg base "both_rise" 2 ["one","other","a","b"] (spG K ky1)):
 FnOk P w K mg base CX0 3 f fd ["one","other"] (spG K Ptim):=by
 refine F.okG k2k (fun ds RS h=> ?_) (fun cdv A outer s H E hr=>(kae (kax 2 (fun q_=>k2k.nd) (kcx k0a (kay (kap 0) (kao).bw).bw (kay (kap 1) (kao).bw).bw))
  (kae (kj1 (kam GRq (fun q_=>hr.mono (by decide)) (kaa (kac 2) kah)))
  (kae (kez 3 (fun q_=>k2k.nd) (kgm kah))
  (kae (kd7 (fun q_=>bf7) (kb8 (kar 2) (fun q_=>T.range)) (ka7 4 (fun q_=>k2k.nd)) (kaj (kd7 (fun q_=>bf7) (kb8 (kar 2) (fun q_=>T.range)) (ka7 5 (fun q_=>k2k.nd)) (kaj (kcp ((kol (kbc (kiu (fun q_=>ka5 hr (by decide))) (kar 4) (kar 5)) (kjx (kd5 (kam GRi (fun q_=>hr.mono (by decide)) (kaa (kac 0) (kaa (kac 1) (kaa (kac 4) (kaa (kac 5) kah))))).bw))).t) (kaj (ki0 3 (kbp (kaa (kac 4) (kaa (kac 5) kah))))) ka3)))))
  (kaj (ka4 (kbp (kaa (kac 2) (kaa (kdi 3 (fun q_=>T.tuple)) kah)))))))))) (fun ds RS h=> ?_)
 · obtain ⟨n,m,ps,qs,rfl,_⟩:=h;rfl
 · obtain ⟨n,m,ps,qs,rfl,n1,m1,n16,m16,nm,hR⟩:=h
   have pos:1≤n * m:=Nat.mul_pos n1 m1
   refine kbo (fun env=>env=[.d (spD n ps),.d (spD m qs),.d (.int ((n * m:Nat):Int)),.un,.un,.un]) (fun N hN=> ?_) ?_
   · simp only [rD,kb0,at0]
     exact ⟨.inl ⟨by lia,by lia⟩,hN _ (by rw [Int.natCast_mul])⟩
   rintro env rfl
   generalize hNN:n * m=NN at *
   refine kbo (fun env=>env=[.d (spD n ps),.d (spD m qs),.d (.int (NN:Int)),.un,.un,.un]) (fun N hN=> ?_) ?_
   · simp only [rD]
     exact ⟨_,rfl,by lia,by lia,_,rfl,hN _ rfl⟩
   rintro env rfl
   refine kbo (fun env=>env=[.d (spD n ps),.d (spD m qs),.d (.int (NN:Int)),.o [],.un,.un]) (fun N hN=> ?_) ?_
   · simp only [rD]
     exact hN _ rfl
   rintro env rfl
   refine kbo (fun env=>∃v4 v5,env=[.d (spD n ps),.d (spD m qs),.d (.int (NN:Int)),.o ((kab NN (knm ps m qs)).map pD),v4,v5]) (fun N hN=> ?_) ?_
   · refine ⟨_,_,rfl,rfl,_,rfl,by lia,by lia,fun k env=>∃v4 v5,env=[.d (spD n ps),.d (spD m qs),.d (.int (NN:Int)),.o (((ba5 k).flatMap (kcv NN (knm ps m qs))).map pD),v4,v5],⟨_,_,rfl⟩,?_,?_⟩
     · rintro a y env hy ⟨v4,v5,rfl⟩
       obtain ⟨ha,rfl⟩:=kg8 hy
       rw [b15]
       have ha:a < NN:=ha
       refine ⟨_,_,rfl,rfl,_,rfl,by lia,by lia,fun k env=>∃v5,env=[.d (spD n ps),.d (spD m qs),.d (.int (NN:Int)),.o (((ba5 a).flatMap (kcv NN (knm ps m qs))++((ba5 k).filter (knm ps m qs a)).map fun (b:Nat)=>((a:Int),(b:Int))).map pD),.d (.int (a:Int)),v5],⟨v5,?_⟩,?_,?_⟩
       · rw [List.range_zero,List.filter_nil,b14,be4];rfl
       · rintro k y env hy ⟨v5,rfl⟩
         obtain ⟨hk,rfl⟩:=kg8 hy
         rw [b15]
         have hk:k < NN:=hk
         have bl:=kc8 NN (knm ps m qs) a
         have rl:((ba5 k).filter (knm ps m qs a)).length≤k:=bj2 (bu8 _ _) (by rw [bg2];exact bb6 _)
         have bm:a * NN≤16 * 16:=bp7 (by lia) nm
         simp only [rD]
         refine ⟨okI _,okI _,.inl (shI _),?_⟩
         rw [kbj]
         by_cases e:a=k
         · subst e
           have tf:knm ps m qs a a=false:=by unfold knm;simp
           rw [if_neg (by simp)]
           exact ⟨_,by rw [kms NN _ a a tf]⟩
         · rw [if_pos (by simp;lia)]
           refine ⟨n,m,ps,qs,(a:Int),(k:Int),rfl,by lia,by lia,_,rfl,_,rfl,?_⟩
           have te:knm ps m qs a k=knl ps m qs a k:=by unfold knm;simp [e]
           cases r:knl ps m qs (a:Int) (k:Int) with
           | true=>
             rw [r] at te
             rw [if_pos rfl]
             refine ⟨by rw [ba3,ba6,ba3];lia,.d (.int (k:Int)),?_⟩
             rw [kt3 NN _ a k te];simp only [bi5,bc6];rfl
           | false=>
             rw [r] at te
             rw [if_neg bb3]
             exact ⟨_,by rw [kms NN _ a k te]⟩
       · rintro env ⟨v5,rfl⟩
         rw [kb5,ba3,kcj,bg8,← kt4]
         exact ⟨_,_,rfl⟩
     · rintro env ⟨v4,v5,rfl⟩
       rw [kb5,ba3,kcj,bg8]
       exact hN _ ⟨_,_,rfl⟩
   rintro env ⟨v4,v5,rfl⟩
   simp only [rD]
   exact hR
end
theorem kkr {m:Nat} {t u:Rel} (h: ∀a b,a < m→b < m→t a b=u a b):kab m t=kab m u:=by
 unfold kab kcv
 rw [ci9,ci9]
 congr 1
 refine bi8 fun a ha=> ?_
 congr 1
 exact b06 fun b hb=>h a b (ba7.mp ha) (ba7.mp hb)
theorem kmt {n:Nat} {T:Rl} {a b:Nat} (ha:a < n) (hb:b < n):kkk (kab n T) (a:Int) (b:Int)=leb T a b:=by
 rw [bh0,kdx,kko]
 exact or_congr ⟨fun h=>by lia,fun h=>by lia⟩ (by rw [kaw];exact ⟨fun h=>h.2.2,fun h=>⟨ha,hb,h⟩⟩)
theorem kvl {n m:Nat} {T U:Rl}:kab (n * m) (knm (kab n T) (m:Int) (kab m U))=kab (n * m) (tmT T m U):=by
 refine kkr fun a b ha hb=> ?_
 unfold knm knl tmT
 rw [← cj0,← cj0,← cj1,← cj1,kmt (kbk ha).1 (kbk hb).1,kmt (kbk ha).2 (kbk hb).2]
theorem kvm {n m:Nat} {T U:Rl} (h:n + m≤16):kab n T++(kab m U).map (ky8 (n:Int))=kab (n + m) (bsT n T U):=by
 have is: ∀q,q∈kab n T++(kab m U).map (ky8 (n:Int))↔q∈kab (n + m) (bsT n T U):=fun q=>by
  rw [be9,ba8,kan,kan]
  constructor
  · rintro (⟨a,b,ha,hb,t,rfl⟩ | ⟨r,hr,rfl⟩)
    · exact ⟨a,b,by lia,by lia,by rw [kkp ha hb];exact t,rfl⟩
    · obtain ⟨a,b,ha,hb,t,rfl⟩:=kan.mp hr
      refine ⟨a + n,b + n,by lia,by lia,by rw [kkq (by lia) (by lia),by9,by9];exact t,?_⟩
      exact bt5 (by show (a:Int) + n=_;lia) (by show (b:Int) + n=_;lia)
  · rintro ⟨a,b,ha,hb,t,rfl⟩
    rcases krk t with ⟨h1,h2,h3⟩ | ⟨h1,h2,h3⟩
    · exact .inl ⟨a,b,h1,h2,h3,rfl⟩
    · refine .inr ⟨(((a - n:Nat):Int),((b - n:Nat):Int)),kaw.mpr ⟨by lia,by lia,h3⟩,?_⟩
      exact bt5 (by show ((a - n:Nat):Int) + n=(a:Int);lia) (by show ((b - n:Nat):Int) + n=(b:Int);lia)
 have lo: ∀x∈kab n T,∀y∈(kab m U).map (ky8 (n:Int)),x.1 < y.1:=fun x hx y hy=>by
  obtain ⟨a,b,ha,hb,_,rfl⟩:=kan.mp hx
  obtain ⟨r,hr,rfl⟩:=ba8.mp hy
  obtain ⟨c,d,hc,hd,_,rfl⟩:=kan.mp hr
  show (a:Int) < (c:Int) + n
  lia
 have inB:InB (kab n T++(kab m U).map (ky8 (n:Int))):=fun q hq=>kbq h q ((is q).mp hq)
 refine kjn inB ?_ kb1 ?_ (kca h) is
 · refine bs2.mpr ⟨kb1,?_,fun x hx y hy e=> ?_⟩
   · rw [bn9,bk7]
     refine kb1.imp fun {x y} ne z=>ne ?_
     have e1:x.1 + (n:Int)=y.1 + n:=congrArg bw6 z
     have e2:x.2 + (n:Int)=y.2 + n:=congrArg bw7 z
     exact bt5 (by lia) (by lia)
   · have:=lo x hx y hy
     rw [e] at this
     lia
 · refine be6.mpr ⟨kca (by lia),?_,fun x hx y hy=> ?_⟩
   · rw [bk7]
     refine (kca (m:=m) (t:=U) (by lia)).imp fun {x y} le=> ?_
     show (x.1 + (n:Int)) * 100 + (x.2 + n)≤(y.1 + n) * 100 + (y.2 + n)
     lia
   · have:=lo x hx y hy
     have h1:=inB x (bn4 _ hx)
     have h2:=inB y (bg7 _ hy)
     lia
theorem krm {n:Nat} {T:Rl} (h:n≤16) {qs:List (Int×Int)} (p:qs.Perm ((kab n T).map swP)) (s:Srt qs):qs=kab n (flT T):=by
 have is: ∀q,q∈qs↔q∈kab n (flT T):=fun q=>by
  rw [p.mem_iff,ba8,kan]
  constructor
  · rintro ⟨r,hr,rfl⟩
    obtain ⟨a,b,ha,hb,t,rfl⟩:=kan.mp hr
    exact ⟨b,a,hb,ha,t,rfl⟩
  · rintro ⟨a,b,ha,hb,t,rfl⟩
    exact ⟨((b:Int),(a:Int)),kaw.mpr ⟨hb,ha,t⟩,rfl⟩
 refine kjn (fun q hq=>kbq h q ((is q).mp hq)) (p.nodup_iff.mpr ?_) kb1 s (kca h) is
 rw [bn9,bk7]
 refine kb1.imp fun {x y} ne z=>ne ?_
 exact bt5 (congrArg bw7 z) (congrArg bw6 z)
theorem kvn {n:Nat} {T:Rl} (h:n + 1≤16) {qs:List (Int×Int)} (p:qs.Perm (ky9 n (kab n T))) (s:Srt qs):qs=kab (n + 1) (tpT n T):=by
 have is: ∀q,q∈qs↔q∈kab (n + 1) (tpT n T):=fun q=>by
  rw [p.mem_iff]
  unfold ky9
  rw [be9,ba8,kan,kan]
  constructor
  · rintro (⟨a,b,ha,hb,t,rfl⟩ | ⟨x,hx,rfl⟩)
    · exact ⟨a,b,by lia,by lia,by unfold tpT;rw [if_pos hb,t,decide_eq_true ha];rfl,rfl⟩
    · obtain ⟨h0,h1⟩:=kdy.mp hx
      exact ⟨x.toNat,n,by lia,by lia,by unfold tpT;rw [if_neg (bk1 _)];exact decide_eq_true (by lia),bt5 (by dsimp only;lia) rfl⟩
  · rintro ⟨a,b,ha,hb,t,rfl⟩
    unfold tpT at t
    by_cases c:b < n
    · rw [if_pos c,bh5] at t
      exact .inl ⟨a,b,of_decide_eq_true t.1,c,t.2,rfl⟩
    · rw [if_neg c] at t
      have:=of_decide_eq_true t
      exact .inr ⟨(a:Int),kdy.mpr ⟨by lia,by lia⟩,bt5 rfl (by dsimp only;lia)⟩
 refine kjn (fun q hq=>kbq h q ((is q).mp hq)) (p.nodup_iff.mpr ?_) kb1 s (kca h) is
 unfold ky9
 refine bs2.mpr ⟨kb1,?_,fun x hx y hy e=> ?_⟩
 · rw [bn9,bk7]
   exact (kkm n).imp fun {x y} ne z=>ne (congrArg bw6 z)
 · obtain ⟨a,b,ha,hb,_,rfl⟩:=kan.mp hx
   obtain ⟨z,hz,rfl⟩:=ba8.mp hy
   have:(b:Int)=(n:Int):=congrArg bw7 e
   lia
def ky2 (ds:List ba9) (RS:Dt→Prop):Prop:=∃(n:Nat) (ps:List (Int×Int)) (row:List Int) (n':Nat) (ps':List (Int×Int)),ds=[spD n ps,.list (row.map ba1)]∧n≤100∧kh7 n ps∧Walk n ps row n' ps'∧RS (.o ((kbv n::wkS ps (kbv n) (kbv n) row).reverse.map kh6))
noncomputable def jF (xs core goals:List Int):List Int:=xs.map fun x=>goals.getD (core.idxOf x) 0
def ky3 (ds:List ba9) (RS:Dt→Prop):Prop:=∃xs core goals:List Int,ds=[.tuple (xs.map ba1),.list (core.map ba1),.list (goals.map ba1)]∧(∀ x∈xs,x∈core)∧core.length≤goals.length∧RS (.d (kh6 (jF xs core goals)))
def Pjud (ds:List ba9) (RS:Dt→Prop):Prop:=∃(n:Nat) (T:Rl) (m:Nat) (U:Rl),ds=[spD n (kab n T),spD m (kab m U)]∧1≤n∧n≤16∧1≤m∧m≤16∧OrT n T∧OrT m U∧∀(row row':List Int) (a b:Nat) (V W:Rl),Walk n (kab n T) row a (kab a V)→kd2 a (kab a V)=[]→Walk m (kab m U) row' b (kab b W)→kd2 b (kab b W)=[]→
 ((a=b→∀f,¬Iso a V W f)→RS (.d (.tuple [.str "unlike",.list (row.map ba1),.list (row'.map ba1)])))∧(a=b→∀g:List Nat,g.length=a→Iso a V W (fun p=>g.getD p 0)→∀x1 x2 x3 x4:ba9,RS (.d (.tuple [.str "alike",x1,x2,x3,x4])))
theorem kjo {n:Nat} {T:Rl}:kh7 n (kab n T):=fun q hq=>by
 obtain ⟨a,b,ha,hb,_,rfl⟩:=kan.mp hq
 refine ⟨?_,?_,?_,?_⟩ <;> (dsimp only;lia)
theorem kjp {n:Nat} {T:Rl} (o:OrT n T):Ordr (kab n T):=IsSp.ord ⟨T,rfl,o.irr,o.trs⟩
theorem ke3 {n a:Nat} {ps qs:List (Int×Int)} {row:List Int} (o:Ordr ps) (hin:kh7 n ps) (w:Walk n ps row a qs): ∃ini fin,kbv n::wkS ps (kbv n) (kbv n) row=ini++[fin]∧(∀ x∈fin,x∈wkN ps (kbv n) row)∧(wkN ps (kbv n) row).length=a:=by
 obtain ⟨_,_,ini,fin,e,S,_,l⟩:=ktx o hin w (kcj n) (Nm.start hin) (Snd.start hin)
 exact ⟨ini,fin,e,S.to,l⟩
section
variable {P:bb8} {w:World} {K:ba0} {mg:Str→Option Value} {base:Heap}
theorem scTh:FnScope ["space","row"] ["space","row"] (kag kcn):=⟨rfl,rfl,rfl,by decide +kernel,rfl,by decide +kernel,by decide +kernel⟩
theorem ok_Th {f:Addr} {fd:bf0} (F:Fun K "to_themselves" "to_themselves" kcn f fd) (T:Txt K mg) (GSe:Fn P w K mg base "sendings" 6 ["space","row"] (spG K kyo)):
 FnOk P w K mg base CX0 7 f fd ["space","row"] (spG K ky2):=by
 refine F.okG scTh (fun ds RS h=> ?_) (fun cdv A outer s H E hr=>(kaj (kdk (kna (ka6 GSe (fun q_=>hr.mono (by decide)) (kaa (kac 0) (kaa (kac 1) kah))).l (fun q_=>T.reversed) (fun q_=>T.list))))) (fun ds RS h=> ?_)
 · obtain ⟨n,ps,row,n',ps',rfl,_⟩:=h;rfl
 · obtain ⟨n,ps,row,n',ps',rfl,hn,hin,hw,hR⟩:=h
   simp only [rD]
   refine ⟨n,ps,row,n',ps',rfl,hn,hin,hw,?_⟩
   refine ⟨_,rfl,?_⟩
   rw [← List.map_reverse]
   exact hR
theorem scSo:FnScope ["row","core","goals"] ["row","core","goals"] (kag kf7):=⟨rfl,rfl,rfl,by decide +kernel,rfl,by decide +kernel,by decide +kernel⟩
theorem ok_So {f:Addr} {fd:bf0} (F:Fun K "sent_on" "sent_on" kf7 f fd) (T:Txt K mg):
 FnOk P w K mg base CX0 1 f fd ["row","core","goals"] (spG K ky3):=by
 refine F.okG scSo (fun ds RS h=> ?_) (fun cdv A outer s H E hr=>(kaj (ka4 (kcs (kc5 (N':=["point","goals","core"]) (fun q_=>(.own (.cap 2 rfl rfl rfl (.cap 1 rfl rfl rfl .nil)))) (kbn (kac 0)) (ka7 0 (fun q_=>(by decide +kernel:(["point","goals","core"]:List Str).Nodup))) kbf (kay (kap 1) (kle (kix 2) (kar 0)).bw)) (fun q_=>T.tuple))))) (fun ds RS h=> ?_)
 · obtain ⟨xs,core,goals,rfl,_⟩:=h;rfl
 · obtain ⟨xs,core,goals,rfl,hin,hl,hR⟩:=h
   simp only [rD,xLC]
   refine ⟨Gf xs ba1 (fun q_=>true) (fun x=> .int (goals.getD (core.idxOf x) 0)),fun y hy=> ?_,fun o ho=> ?_⟩
   · obtain ⟨x,hx,rfl⟩:=ba8.mp hy
     have il:core.idxOf x < core.length:=bi9.mpr (hin x hx)
     exact ⟨core,rfl,x,rfl,hin x hx,_,khz (by lia) (by lia),Gf.keep hx rfl rfl⟩
   · rw [Gf.all kcl ho]
     unfold kh6 jF at hR
     rw [bc1] at hR
     exact hR
theorem krq:FnScope ["one","other","row","other_row","names","fence","other_fence","core","other_core","forth","back"] ["one","other"] (kag khw):=⟨rfl,rfl,rfl,by decide +kernel,rfl,by decide +kernel,by decide +kernel⟩
theorem ok_Jd {f:Addr} {fd:bf0} (F:Fun K "judged" "judged" khw f fd) (T:Txt K mg) (GCo:Fn P w K mg base "row_to_core" 5 ["space"] (spG K kts)) (GAl:Fn P w K mg base "along" 5 ["space","row"] (spG K kmd)) (GRn:Fn P w K mg base "renaming" 22 ["one","other"] (spG K Pren)) (GTh:Fn P w K mg base "to_themselves" 7 ["space","row"] (spG K ky2)) (GLe:Fn P w K mg base "left" 6 ["space","row"] (spG K kyn)) (GSo:Fn P w K mg base "sent_on" 1 ["row","core","goals"] (spG K ky3)):
 FnOk P w K mg base CX0 23 f fd ["one","other"] (spG K Pjud):=by
 refine F.okG krq (fun ds RS h=> ?_) (fun cdv A outer s H E hr=>(kae (kax 2 (fun q_=>krq.nd) ((ka6 GCo (fun q_=>hr.mono (by decide)) (kaa (kac 0) kah)).ew))
  (kae (kax 3 (fun q_=>krq.nd) ((ka6 GCo (fun q_=>hr.mono (by decide)) (kaa (kac 1) kah)).ew))
  (kae (kax 4 (fun q_=>krq.nd) (kam GRn (fun q_=>hr.mono (by decide)) (kaa (kam GAl (fun q_=>hr.mono (by decide)) (kaa (kac 0) (kaa (kac 2) kah))) (kaa (kam GAl (fun q_=>hr.mono (by decide)) (kaa (kac 1) (kaa (kac 3) kah))) kah))))
  (kae (kcp (kbc kok (kar 4) (kcr).bw) (kaj (ka4 (kbp (kaa (kod) (kaa (kac 2) (kaa (kac 3) kah)))))) ka3)
  (kae (kax 5 (fun q_=>krq.nd) ((ka6 GTh (fun q_=>hr.mono (by decide)) (kaa (kac 0) (kaa (kac 2) kah))).ew))
  (kae (kax 6 (fun q_=>krq.nd) ((ka6 GTh (fun q_=>hr.mono (by decide)) (kaa (kac 1) (kaa (kac 3) kah))).ew))
  (kae (kax 7 (fun q_=>krq.nd) ((ka6 GLe (fun q_=>hr.mono (by decide)) (kaa (kac 0) (kaa (kac 2) kah))).ew))
  (kae (kax 8 (fun q_=>krq.nd) ((ka6 GLe (fun q_=>hr.mono (by decide)) (kaa (kac 1) (kaa (kac 3) kah))).ew))
  (kae (kax 9 (fun q_=>krq.nd) (kam GSo (fun q_=>hr.mono (by decide)) (kaa (kay (kap 5) (kao).bw) (kaa (kac 7) (kaa ((kc5 (N':=["name","other_core"]) (fun q_=>(.own (.cap 8 rfl rfl rfl .nil))) (kbn (kac 4)) (ka7 0 (fun q_=>(by decide +kernel:(["name","other_core"]:List Str).Nodup))) kbf (kay (kap 1) (kar 0))).ew) kah)))))
  (kae (kax 10 (fun q_=>krq.nd) (kam GSo (fun q_=>hr.mono (by decide)) (kaa (kay (kap 6) (kao).bw) (kaa (kac 8) (kaa ((kc5 (N':=["name","core","names"]) (fun q_=>(.own (.cap 7 rfl rfl rfl (.cap 4 rfl rfl rfl .nil)))) (kb8 (kiv (kap 4) (fun q_=>T.len)).bw (fun q_=>T.range)) (ka7 0 (fun q_=>(by decide +kernel:(["name","core","names"]:List Str).Nodup))) kbf (kay (kap 1) (kp3 (kac 2) (kar 0)).bw)).ew) kah)))))
  (kaj (ka4 (kbp (kaa (kod) (kaa (kac 9) (kaa (kac 10) (kaa (kac 5) (kaa (kac 6) kah))))))))))))))))))) (fun ds RS h=> ?_)
 · obtain ⟨n,T,m,U,rfl,_⟩:=h;rfl
 · obtain ⟨n,T',m,U,rfl,n1,n16,m1,m16,oT,oU,hJ⟩:=h
   have hin:kh7 n (kab n T'):=kjo
   have hin2:kh7 m (kab m U):=kjo
   refine kbo (fun env=>∃(row:List Int) (a:Nat) (V:Rl),env=[.d (spD n (kab n T')),.d (spD m (kab m U)),.d (.list (row.map ba1)),.un,.un,.un,.un,.un,.un,.un,.un]∧Walk n (kab n T') row a (kab a V)∧kd2 a (kab a V)=[]∧1≤a∧a≤n∧OrT a V) (fun N hN=> ?_) ?_
   · simp only [rD]
     refine ⟨n,_,rfl,by lia,fun row a qs w hf=>⟨_,rfl,hN _ ?_⟩⟩
     obtain ⟨V,i,r,rfl,R,a1⟩:=kgj w n16 rfl oT n1
     have:=w.len
     exact ⟨row,a,V,rfl,w,hf,a1,by lia,R.ord oT⟩
   rintro env ⟨row,a,V,rfl,w1,f1,a1,an,oV⟩
   refine kbo (fun env=>∃(row':List Int) (b:Nat) (W:Rl),env=[.d (spD n (kab n T')),.d (spD m (kab m U)),.d (.list (row.map ba1)),.d (.list (row'.map ba1)),.un,.un,.un,.un,.un,.un,.un]∧Walk m (kab m U) row' b (kab b W)∧kd2 b (kab b W)=[]∧1≤b∧b≤m∧OrT b W) (fun N hN=> ?_) ?_
   · simp only [rD]
     refine ⟨m,_,rfl,by lia,fun row a qs w hf=>⟨_,rfl,hN _ ?_⟩⟩
     obtain ⟨V,i,r,rfl,R,a1⟩:=kgj w m16 rfl oU m1
     have:=w.len
     exact ⟨row,a,V,rfl,w,hf,a1,by lia,R.ord oU⟩
   rintro env ⟨row',b,W,rfl,w2,f2,b1,bm,oW⟩
   obtain ⟨hU,hA⟩:=hJ row row' a b V W w1 f1 w2 f2
   by_cases ex:a=b∧∃f,Iso a V W f
   case neg=>
    have no:a=b→∀f,¬Iso a V W f:=fun e f iso=>ex ⟨e,f,iso⟩
    refine kbo (fun env=>env=[.d (spD n (kab n T')),.d (spD m (kab m U)),.d (.list (row.map ba1)),.d (.list (row'.map ba1)),.d .none,.un,.un,.un,.un,.un,.un]) (fun N hN=> ?_) ?_
    · simp only [rD]
      exact ⟨n,_,row,a,_,rfl,w1,_,rfl,m,_,row',b,_,rfl,w2,_,rfl,a,b,V,W,rfl,a1,by lia,b1,by lia,oW.irr,fun q_=>⟨_,rfl,hN _ rfl⟩,fun e=>⟨fun q_=>⟨_,rfl,hN _ rfl⟩,fun g gl ig=>absurd ig (no e _)⟩⟩
    rintro env rfl
    simp only [rD]
    rw [if_pos (show isNone .none=true from rfl)]
    exact hU no
   obtain ⟨rfl,f,iso⟩:=ex
   have hA:=hA rfl
   refine kbo (fun env=>∃g:List Nat,env=[.d (spD n (kab n T')),.d (spD m (kab m U)),.d (.list (row.map ba1)),.d (.list (row'.map ba1)),.d (.tuple (g.map fun (x:Nat)=>ba1 (x:Int))),.un,.un,.un,.un,.un,.un]∧g.length=a∧Iso a V W (fun p=>g.getD p 0)) (fun N hN=> ?_) ?_
   · simp only [rD]
     exact ⟨n,_,row,a,_,rfl,w1,_,rfl,m,_,row',a,_,rfl,w2,_,rfl,a,a,V,W,rfl,a1,by lia,b1,by lia,oW.irr,fun z=>absurd rfl z,fun q_=>⟨fun z=>absurd iso (z f),fun g gl ig=>⟨_,rfl,hN _ ⟨g,rfl,gl,ig⟩⟩⟩⟩
   rintro env ⟨g,rfl,gl,ig⟩
   obtain ⟨ini1,fin1,e1,to1,l1⟩:=ke3 (kjp oT) hin w1
   obtain ⟨ini2,fin2,e2,to2,l2⟩:=ke3 (kjp oU) hin2 w2
   refine kbo (fun env=>env=[.d (spD n (kab n T')),.d (spD m (kab m U)),.d (.list (row.map ba1)),.d (.list (row'.map ba1)),.d (.tuple (g.map fun (x:Nat)=>ba1 (x:Int))),.un,.un,.un,.un,.un,.un]) (fun N hN=> ?_) ?_
   · simp only [rD]
     exact knn rfl (hN _ rfl)
   rintro env rfl
   refine kbo (fun env=>env=[.d (spD n (kab n T')),.d (spD m (kab m U)),.d (.list (row.map ba1)),.d (.list (row'.map ba1)),.d (.tuple (g.map fun (x:Nat)=>ba1 (x:Int))),.d (.list ((fin1::ini1.reverse).map kh6)),.un,.un,.un,.un,.un]) (fun N hN=> ?_) ?_
   · simp only [rD]
     exact ⟨n,_,row,a,_,rfl,by lia,hin,w1,_,rfl,hN _ (by rw [e1,bq1];rfl)⟩
   rintro env rfl
   refine kbo (fun env=>env=[.d (spD n (kab n T')),.d (spD m (kab m U)),.d (.list (row.map ba1)),.d (.list (row'.map ba1)),.d (.tuple (g.map fun (x:Nat)=>ba1 (x:Int))),.d (.list ((fin1::ini1.reverse).map kh6)),.d (.list ((fin2::ini2.reverse).map kh6)),.un,.un,.un,.un]) (fun N hN=> ?_) ?_
   · simp only [rD]
     exact ⟨m,_,row',a,_,rfl,by lia,hin2,w2,_,rfl,hN _ (by rw [e2,bq1];rfl)⟩
   rintro env rfl
   generalize hc1:wkN (kab n T') (kbv n) row=c1 at to1 l1
   generalize hc2:wkN (kab m U) (kbv m) row'=c2 at to2 l2
   refine kbo (fun env=>env=[.d (spD n (kab n T')),.d (spD m (kab m U)),.d (.list (row.map ba1)),.d (.list (row'.map ba1)),.d (.tuple (g.map fun (x:Nat)=>ba1 (x:Int))),.d (.list ((fin1::ini1.reverse).map kh6)),.d (.list ((fin2::ini2.reverse).map kh6)),.d (.list (c1.map ba1)),.un,.un,.un]) (fun N hN=> ?_) ?_
   · simp only [rD]
     exact ⟨n,_,row,a,_,rfl,by lia,hin,w1,_,rfl,hN _ (by rw [hc1];rfl)⟩
   rintro env rfl
   refine kbo (fun env=>env=[.d (spD n (kab n T')),.d (spD m (kab m U)),.d (.list (row.map ba1)),.d (.list (row'.map ba1)),.d (.tuple (g.map fun (x:Nat)=>ba1 (x:Int))),.d (.list ((fin1::ini1.reverse).map kh6)),.d (.list ((fin2::ini2.reverse).map kh6)),.d (.list (c1.map ba1)),.d (.list (c2.map ba1)),.un,.un]) (fun N hN=> ?_) ?_
   · simp only [rD]
     exact ⟨m,_,row',a,_,rfl,by lia,hin2,w2,_,rfl,hN _ (by rw [hc2];rfl)⟩
   rintro env rfl
   clear hc1 hc2 e1 e2
   refine kbo (fun env=>∃v9,env=[.d (spD n (kab n T')),.d (spD m (kab m U)),.d (.list (row.map ba1)),.d (.list (row'.map ba1)),.d (.tuple (g.map fun (x:Nat)=>ba1 (x:Int))),.d (.list ((fin1::ini1.reverse).map kh6)),.d (.list ((fin2::ini2.reverse).map kh6)),.d (.list (c1.map ba1)),.d (.list (c2.map ba1)),.d v9,.un]) (fun N hN=> ?_) ?_
   · simp only [rD,xLC]
     refine ⟨_,at0 _ _,Gf g (fun (x:Nat)=>ba1 (x:Int)) (fun q_=>true) (fun (x:Nat)=> .int (c2.getD x 0)),fun y hy=> ?_,fun o ho=> ?_⟩
     · obtain ⟨x,hx,rfl⟩:=ba8.mp hy
       have hx':x < a:=by
        obtain ⟨j,hj,e⟩:=bg0 hx
        have:g.getD j 0 < a:=ig.lt j (by lia)
        rwa [bb9,bb2 hj,e] at this
       exact ⟨_,rfl,_,khz (by lia) (by lia),Gf.keep hx rfl rfl⟩
     · rw [Gf.all kj0 ho]
       exact ⟨fin1,c1,g.map fun (x:Nat)=>c2.getD x 0,by rw [bc1];rfl,to1,by rw [ba3,gl,l1];exact bb6 _,_,rfl,hN _ ⟨_,rfl⟩⟩
   rintro env ⟨v9,rfl⟩
   refine kbo (fun env=>∃v10,env=[.d (spD n (kab n T')),.d (spD m (kab m U)),.d (.list (row.map ba1)),.d (.list (row'.map ba1)),.d (.tuple (g.map fun (x:Nat)=>ba1 (x:Int))),.d (.list ((fin1::ini1.reverse).map kh6)),.d (.list ((fin2::ini2.reverse).map kh6)),.d (.list (c1.map ba1)),.d (.list (c2.map ba1)),.d v9,.d v10]) (fun N hN=> ?_) ?_
   · simp only [rD,xLC]
     refine ⟨_,at0 _ _,by lia,by rw [ba3];lia,?_⟩
     rw [ba3,gl,bg8,kb5]
     have eg:(g.map fun (x:Nat)=>ba1 (x:Int))=(g.map fun (x:Nat)=>(x:Int)).map ba1:=by rw [bc1];rfl
     refine ⟨Gf (kbv a) ba1 (fun q_=>true) (fun x=> .int (c1.getD ((g.map fun (y:Nat)=>(y:Int)).idxOf x) 0)),fun y hy=> ?_,fun o ho=> ?_⟩
     · obtain ⟨x,hx,rfl⟩:=ba8.mp hy
       obtain ⟨x0,x1⟩:=kdy.mp hx
       have mx:x∈g.map fun (y:Nat)=>(y:Int):=by
        obtain ⟨p,hp,e⟩:=ig.onto (b:=x.toNat) (by lia)
        have e:g.getD p 0=x.toNat:=e
        rw [bb9,bb2 (by lia:p < g.length)] at e
        have e:g[p]=x.toNat:=e
        exact ba8.mpr ⟨g[p],be8 _,by lia⟩
       have il:=bi9.mpr mx
       rw [ba3] at il
       exact ⟨_,eg,x,rfl,mx,_,khz (by lia) (by lia),Gf.keep hx rfl rfl⟩
     · rw [Gf.all kcl ho]
       exact ⟨fin2,c2,(kbv a).map fun x=>c1.getD ((g.map fun (y:Nat)=>(y:Int)).idxOf x) 0,by rw [bc1];rfl,to2,by rw [ba3,kcj,l2];exact bb6 _,_,rfl,hN _ ⟨_,rfl⟩⟩
   rintro env ⟨v10,rfl⟩
   simp only [rD]
   exact hA g gl ig _ _ _ _
end
def Pcor (ds:List ba9) (RS:Dt→Prop):Prop:=∃(n:Nat) (T:Rl),ds=[spD n (kab n T)]∧1≤n∧n≤16∧OrT n T∧∀(m:Nat) (U:Rl) (i r:Nat→Nat),Rt n T m U i r→CoT m U→OrT m U→1≤m→m≤n→RS (.d (spD m (kab m U)))
def Palk (ds:List ba9) (RS:Dt→Prop):Prop:=∃(n:Nat) (T U:Rl),ds=[spD n (kab n T),spD n (kab n U)]∧1≤n∧n≤16∧OrT n U∧(∃ f,Iso n T U f)∧RS (.d (.bool true))
theorem krn {U:Rl} (o:OrT 1 U):kab 1 U=[]:=by
 refine List.eq_nil_iff_forall_not_mem.mpr fun q hq=> ?_
 obtain ⟨a,b,ha,hb,t,_⟩:=kan.mp hq
 have e1:a=0:=by lia
 have e2:b=0:=by lia
 rw [e1,e2,o.irr 0 (by decide)] at t
 cases t
theorem kro {U:Rl} (h:kab 1 U=[]):U 0 0=false:=by
 cases e:U 0 0 with
 | false=>rfl
 | true=>
   have:(((0:Nat):Int),((0:Nat):Int))∈kab 1 U:=kaw.mpr ⟨by decide,by decide,e⟩
   rw [h] at this
   cases this
theorem kks:OrT 1 (fun q_ q_=>false):=⟨fun q_ q_=>rfl,fun q_ q_ q_ q_ q_ q_ h q_=>h⟩
theorem ky4 {n a b:Nat} {T V W:Rl} {row row':List Int} (h:n + 1≤16) (o:OrT n T) (w1:Walk (n + 1) (kab (n + 1) (tpT n T)) row a (kab a V)) (f1:kd2 a (kab a V)=[]) (w2:Walk 1 (kab 1 fun q_ q_=>false) row' b (kab b W)) (f2:kd2 b (kab b W)=[]):a=b∧∃f,Iso a V W f:=by
 obtain ⟨V',i,r,e,R,a1⟩:=kgj w1 h rfl (kg0 o) (by lia)
 obtain ⟨e1,_⟩:=R.iso Rt.top (kg0 o) (krg (by rw [← e];exact f1)) (kvj fun q_ q_=>rfl)
 obtain ⟨W',i2,r2,e2,R2,b1⟩:=kgj w2 (by decide) rfl kks (by decide)
 have bl:=w2.len
 have eb:b=1:=by lia
 subst e1 eb
 have v0:=kro (e.trans (krn (R.ord (kg0 o))))
 have w0:=kro (e2.trans (krn (R2.ord kks)))
 refine ⟨rfl,fun x=>x,fun q_ h=>h,fun q_ q_ q_ q_ h=>h,fun x y hx hy=> ?_⟩
 have ex:x=0:=by lia
 have ey:y=0:=by lia
 rw [ex,ey,v0,w0]
section
variable {P:bb8} {w:World} {K:ba0} {mg:Str→Option Value} {base:Heap}
theorem scLc:FnScope ["space"] ["space"] (kag kej):=⟨rfl,rfl,rfl,by decide +kernel,rfl,by decide +kernel,by decide +kernel⟩
theorem ok_Lc {f:Addr} {fd:bf0} (F:Fun K "_law_core" "_law_core" kej f fd) (T:Txt K mg) (GCo:Fn P w K mg base "row_to_core" 5 ["space"] (spG K kts)) (GAl:Fn P w K mg base "along" 5 ["space","row"] (spG K kmd)):
 FnOk P w K mg base CX0 6 f fd ["space"] (spG K Pcor):=by
 refine F.okG scLc (fun ds RS h=> ?_) (fun cdv A outer s H E hr=>(kaj (ka4 (kam GAl (fun q_=>hr.mono (by decide)) (kaa (kac 0) (kaa ((ka6 GCo (fun q_=>hr.mono (by decide)) (kaa (kac 0) kah)).ew) kah)))))) (fun ds RS h=> ?_)
 · obtain ⟨n,T,rfl,_⟩:=h;rfl
 · obtain ⟨n,T',rfl,n1,n16,oT,hR⟩:=h
   simp only [rD]
   refine ⟨n,_,rfl,by lia,fun row a qs w hf=> ?_⟩
   obtain ⟨V,i,r,rfl,R,a1⟩:=kgj w n16 rfl oT n1
   have:=w.len
   exact ⟨_,rfl,n,_,row,a,_,rfl,w,_,rfl,hR a V i r R (krg hf) (R.ord oT) a1 (by lia)⟩
theorem scLa:FnScope ["one","other"] ["one","other"] (kag kdq):=⟨rfl,rfl,rfl,by decide +kernel,rfl,by decide +kernel,by decide +kernel⟩
theorem ok_La {f:Addr} {fd:bf0} (F:Fun K "_law_alike" "_law_alike" kdq f fd) (T:Txt K mg) (GRn:Fn P w K mg base "renaming" 22 ["one","other"] (spG K Pren)) (GIr:Fn P w K mg base "_law_is_renaming" 2 ["one","other","row"] (spG K Pisr)):
 FnOk P w K mg base CX0 23 f fd ["one","other"] (spG K Palk):=by
 refine F.okG scLa (fun ds RS h=> ?_) (fun cdv A outer s H E hr=>(kaj (ka4 (kam GIr (fun q_=>hr.mono (by decide)) (kaa (kac 0) (kaa (kac 1) (kaa (kam GRn (fun q_=>hr.mono (by decide)) (kaa (kac 0) (kaa (kac 1) kah))) kah))))))) (fun ds RS h=> ?_)
 · obtain ⟨n,T,U,rfl,_⟩:=h;rfl
 · obtain ⟨n,T',U,rfl,n1,n16,oU,⟨f,iso⟩,hR⟩:=h
   simp only [rD]
   exact ⟨n,n,T',U,rfl,n1,n16,n1,n16,oU.irr,fun z=>absurd rfl z,fun q_=>⟨fun z=>absurd iso (z f),fun g gl ig=>⟨_,rfl,n,T',U,g,rfl,n16,gl,ig,_,rfl,hR⟩⟩⟩
theorem kkt:FnScope ["script","one","other","mine","theirs"] ["script"] (kag ktd):=⟨rfl,rfl,rfl,by decide +kernel,rfl,by decide +kernel,by decide +kernel⟩
theorem k2l {f:Addr} {fd:bf0} (F:Fun K "law" "law" ktd f fd) (T:Txt K mg) (GDSp:Fn P w K mg base "_law_space" 3 ["script","at","most"] (spG K kqj)) (GDCl:Fn P w K mg base "_law_cell" 2 ["script","k"] (spG K ktm)) (GLc:Fn P w K mg base "_law_core" 6 ["space"] (spG K Pcor)) (GLa:Fn P w K mg base "_law_alike" 23 ["one","other"] (spG K Palk)) (GTm:Fn P w K mg base "times" 3 ["one","other"] (spG K Ptim)) (GBs:Fn P w K mg base "beside" 2 ["one","other"] (spG K Pbes)) (GTu:Fn P w K mg base "turned" 1 ["space"] (spG K ky0)) (GTp:Fn P w K mg base "topped" 2 ["space"] (spG K Ptop)) (GJd:Fn P w K mg base "judged" 23 ["one","other"] (spG K Pjud)):
 FnOk P w K mg base CX0 25 f fd ["script"] (spG K Plaw):=by
 refine F.okG kkt (fun ds RS h=> ?_) (fun cdv A outer s H E hr=>(kae (kax 1 (fun q_=>kkt.nd) (kam GDSp (fun q_=>hr.mono (by decide)) (kaa (kac 0) (kaa (kao) (kaa (kao) kah)))))
  (kae (kax 2 (fun q_=>kkt.nd) (kam GDSp (fun q_=>hr.mono (by decide)) (kaa (kac 0) (kaa (kao) (kaa (kao) kah)))))
  (kae (kcp (kbc (kg6 (fun q_=>ka5 hr (by decide))) (kcx koi (kam GDCl (fun q_=>hr.mono (by decide)) (kaa (kac 0) (kaa (kao) kah))).bw (kao).bw).bw (kao).bw) (kae (kax 1 (fun q_=>kkt.nd) (kam GDSp (fun q_=>hr.mono (by decide)) (kaa (kac 0) (kaa (kao) (kaa (kao) kah)))))
  (kaj (kax 2 (fun q_=>kkt.nd) (kam GDSp (fun q_=>hr.mono (by decide)) (kaa (kac 0) (kaa (kao) (kaa (kao) kah))))))) ka3)
  (kae (kax 3 (fun q_=>kkt.nd) (kam GLc (fun q_=>hr.mono (by decide)) (kaa (kac 1) kah)))
  (kae (kax 4 (fun q_=>kkt.nd) (kam GLc (fun q_=>hr.mono (by decide)) (kaa (kac 2) kah)))
  (kae (kcp (kfw (kd5 (kam GLa (fun q_=>hr.mono (by decide)) (kaa (kam GLc (fun q_=>hr.mono (by decide)) (kaa (kam GTm (fun q_=>hr.mono (by decide)) (kaa (kac 1) (kaa (kac 2) kah))) kah)) (kaa (kam GTm (fun q_=>hr.mono (by decide)) (kaa (kac 3) (kaa (kac 4) kah))) kah))).bw)) (kaj (ka4 (kmz))) ka3)
  (kae (kcp (kfw (kd5 (kam GLa (fun q_=>hr.mono (by decide)) (kaa (kam GLc (fun q_=>hr.mono (by decide)) (kaa (kam GBs (fun q_=>hr.mono (by decide)) (kaa (kac 1) (kaa (kac 2) kah))) kah)) (kaa (kam GBs (fun q_=>hr.mono (by decide)) (kaa (kac 3) (kaa (kac 4) kah))) kah))).bw)) (kaj (ka4 (kmz))) ka3)
  (kae (kcp (kfw (kd5 (kam GLa (fun q_=>hr.mono (by decide)) (kaa (kam GLc (fun q_=>hr.mono (by decide)) (kaa (kam GTu (fun q_=>hr.mono (by decide)) (kaa (kac 1) kah)) kah)) (kaa (kam GTu (fun q_=>hr.mono (by decide)) (kaa (kac 3) kah)) kah))).bw)) (kaj (ka4 (kmz))) ka3)
  (kaj (ka4 (kui (kof (kg6 (fun q_=>ka5 hr (by decide))) (kam GLc (fun q_=>hr.mono (by decide)) (kaa (kam GTp (fun q_=>hr.mono (by decide)) (kaa (kac 1) kah)) kah)).bw (kbp (kaa (kao) (kaa (kbp kah) kah))).bw) (kuh (kof k02 (kay (kam GJd (fun q_=>hr.mono (by decide)) (kaa (kam GTp (fun q_=>hr.mono (by decide)) (kaa (kac 1) kah)) (kaa (kbp (kaa (kao) (kaa (kbp kah) kah))) kah))).q (kao).bw).bw (kod).bw)))))))))))))) (fun ds RS h=> ?_)
 · obtain ⟨ns,rfl,_⟩:=h;rfl
 · obtain ⟨ns,rfl,hn,hR⟩:=h
   refine kbo (fun env=>∃(n:Nat) (T':Rl),env=[.d (kg3 ns),.d (spD n (kab n T')),.un,.un,.un]∧1≤n∧n≤4∧OrT n T') (fun N hN=> ?_) ?_
   · simp only [rD]
     exact ⟨ns,0,4,rfl,by decide,by decide,fun n ps h1 h2 ⟨t,e,h3,h4⟩=>⟨_,rfl,hN _ ⟨n,t,by rw [e],h1,by lia,⟨h3,h4⟩⟩⟩⟩
   rintro env ⟨n0,T0,rfl,n01,n04,oT0⟩
   refine kbo (fun env=>∃(m:Nat) (U:Rl),env=[.d (kg3 ns),.d (spD n0 (kab n0 T0)),.d (spD m (kab m U)),.un,.un]∧1≤m∧m≤4∧OrT m U) (fun N hN=> ?_) ?_
   · simp only [rD]
     exact ⟨ns,1,4,rfl,by decide,by decide,fun n ps h1 h2 ⟨t,e,h3,h4⟩=>⟨_,rfl,hN _ ⟨n,t,by rw [e],h1,by lia,⟨h3,h4⟩⟩⟩⟩
   rintro env ⟨m0,U0,rfl,m01,m04,oU0⟩
   refine kbo (fun env=>∃(n:Nat) (T':Rl) (m:Nat) (U:Rl),env=[.d (kg3 ns),.d (spD n (kab n T')),.d (spD m (kab m U)),.un,.un]∧1≤n∧n≤7∧OrT n T'∧1≤m∧m≤4∧OrT m U∧n * m≤16) (fun N hN=> ?_) ?_
   · simp only [rD]
     refine ⟨ns,2,rfl,fun c=>⟨_,rfl,c,rfl,by decide,okI _,okI _,.inl (shI _),kfg (fun e=> ?_) (fun e=>hN _ ⟨n0,T0,m0,U0,rfl,n01,by lia,oT0,m01,m04,oU0,bj2 (bp7 n04 m04) (by decide)⟩)⟩⟩
     refine ⟨ns,0,7,rfl,by decide,by decide,fun n ps h1 h2 ⟨t,e,h3,h4⟩=>⟨_,rfl,ns,1,2,rfl,by decide,by decide,fun m qs k1 k2 ⟨u,e',k3,k4⟩=>⟨_,rfl,hN _ ⟨n,t,m,u,by rw [e,e'],h1,by lia,⟨h3,h4⟩,k1,by lia,⟨k3,k4⟩,bj2 (bp7 (show n≤7 by lia) (show m≤2 by lia)) (by decide)⟩⟩⟩⟩
   rintro env ⟨n,T',m,U,rfl,n1,n7,oT,m1,m4,oU,nm⟩
   refine kbo (fun env=>∃(a:Nat) (V:Rl) (i r:Nat→Nat),env=[.d (kg3 ns),.d (spD n (kab n T')),.d (spD m (kab m U)),.d (spD a (kab a V)),.un]∧Rt n T' a V i r∧CoT a V∧OrT a V∧1≤a∧a≤n) (fun N hN=> ?_) ?_
   · simp only [rD]
     exact ⟨n,T',rfl,n1,by lia,oT,fun a V i r R C o h1 h2=>⟨_,rfl,hN _ ⟨a,V,i,r,rfl,R,C,o,h1,h2⟩⟩⟩
   rintro env ⟨a,V,i1,r1,rfl,R1,C1,oV,a1,an⟩
   refine kbo (fun env=>∃(b:Nat) (W:Rl) (i r:Nat→Nat),env=[.d (kg3 ns),.d (spD n (kab n T')),.d (spD m (kab m U)),.d (spD a (kab a V)),.d (spD b (kab b W))]∧Rt m U b W i r∧CoT b W∧OrT b W∧1≤b∧b≤m) (fun N hN=> ?_) ?_
   · simp only [rD]
     exact ⟨m,U,rfl,m1,by lia,oU,fun a V i r R C o h1 h2=>⟨_,rfl,hN _ ⟨a,V,i,r,rfl,R,C,o,h1,h2⟩⟩⟩
   rintro env ⟨b,W,i2,r2,rfl,R2,C2,oW,b1,bm⟩
   have ab:a * b≤16:=bj2 (bp7 an bm) nm
   have pn:=kc9 n T'
   have pm:=kc9 m U
   have pa:=kc9 a V
   have pb:=kc9 b W
   have s1:n * n≤7 * 7:=bp7 n7 n7
   have s2:m * m≤4 * 4:=bp7 m4 m4
   have s3:a * a≤7 * 7:=bp7 (by lia) (by lia)
   have s4:b * b≤4 * 4:=bp7 (by lia) (by lia)
   refine kbo (fun env=>env=[.d (kg3 ns),.d (spD n (kab n T')),.d (spD m (kab m U)),.d (spD a (kab a V)),.d (spD b (kab b W))]) (fun N hN=> ?_) ?_
   · simp only [rD]
     refine ⟨n,m,_,_,rfl,n1,m1,by lia,by lia,nm,_,rfl,n * m,tmT T' m U,by rw [kvl],Nat.mul_pos n1 m1,nm,krj oT oU,fun c X i r R C oX c1 cn=>⟨_,rfl,a,b,_,_,rfl,a1,b1,by lia,by lia,ab,_,rfl,?_⟩⟩
     obtain ⟨e,f,iso⟩:=R.iso (R1.times R2) (krj oT oU) C (C1.times oV oW C2)
     subst e
     exact ⟨_,X,tmT V b W,by rw [kvl],c1,ab,krj oV oW,⟨f,iso⟩,_,rfl,_,rfl,knn rfl (hN _ rfl)⟩
   rintro env rfl
   refine kbo (fun env=>env=[.d (kg3 ns),.d (spD n (kab n T')),.d (spD m (kab m U)),.d (spD a (kab a V)),.d (spD b (kab b W))]) (fun N hN=> ?_) ?_
   · simp only [rD]
     refine ⟨n,m,_,_,rfl,by lia,by lia,by lia,_,rfl,n + m,bsT n T' U,by rw [kvm (by lia)];rfl,by lia,by lia,krl oT oU,fun c X i r R C oX c1 cn=>⟨_,rfl,a,b,_,_,rfl,by lia,by lia,by lia,_,rfl,?_⟩⟩
     obtain ⟨e,f,iso⟩:=R.iso (R1.beside R2) (krl oT oU) C (C1.beside C2)
     subst e
     exact ⟨_,X,bsT a V W,by rw [kvm (by lia)];rfl,c1,by lia,krl oV oW,⟨f,iso⟩,_,rfl,_,rfl,knn rfl (hN _ rfl)⟩
   rintro env rfl
   refine kbo (fun env=>env=[.d (kg3 ns),.d (spD n (kab n T')),.d (spD m (kab m U)),.d (spD a (kab a V)),.d (spD b (kab b W))]) (fun N hN=> ?_) ?_
   · simp only [rD]
     refine ⟨n,_,rfl,kbq (by lia),fun qs q1 q2=>⟨_,rfl,n,flT T',by rw [krm (by lia) q1 q2],n1,by lia,oT.fl,fun c X i r R C oX c1 cn=>⟨_,rfl,a,_,rfl,kbq (by lia),fun us u1 u2=>⟨_,rfl,?_⟩⟩⟩⟩
     obtain ⟨e,f,iso⟩:=R.iso R1.fl oT.fl C C1.fl
     subst e
     exact ⟨_,X,flT V,by rw [krm (by lia) u1 u2],c1,by lia,oV.fl,⟨f,iso⟩,_,rfl,_,rfl,knn rfl (hN _ rfl)⟩
   rintro env rfl
   simp only [rD]
   refine ⟨n,_,rfl,n1,by lia,by lia,kbq (by lia),fun qs q1 q2=>⟨_,rfl,n + 1,tpT n T',by rw [kvn (by lia) q1 q2];rfl,by lia,by lia,kg0 oT,fun c X i r R C oX c1 cn=>⟨_,rfl,?_⟩⟩⟩
   obtain ⟨e,_⟩:=R.iso Rt.top (kg0 oT) C (kvj fun q_ q_=>rfl)
   subst e
   refine ⟨ok_sp _ _,rfl,.inl (sh_sp _ _),?_⟩
   rw [show bi2 (spD ((1:Nat):Int) (kab 1 X)) (.tuple [.int 1,.tuple []])=true from by rw [krn oX];rfl,if_pos rfl]
   refine ⟨n,_,rfl,n1,by lia,by lia,kbq (by lia),fun qs q1 q2=>⟨_,rfl,n + 1,tpT n T',1,fun q_ q_=>false,by rw [kvn (by lia) q1 q2];rfl,by lia,by lia,by lia,by lia,kg0 oT,kks,fun row row' a b V W w1 f1 w2 f2=>⟨fun no=> ?_,fun q_ g gl ig x1 x2 x3 x4=>⟨_,rfl,_,rfl,_,at0 _ _,_,rfl,?_⟩⟩⟩⟩
   · obtain ⟨e,f,iso⟩:=ky4 (by lia) oT w1 f1 w2 f2
     exact absurd iso (no e f)
   · rw [decide_eq_true rfl]
     exact hR
end
inductive HasFn (K:ba0) (x:Str) (st:Stmt):Prop
 | mk {f:Addr} {od an:Option Addr} {sl:Array (Option Value)} {oc kV dc pm cd ct:Value} (a:bh9 K bf5 x=some (some (.ref f)))
   (l:K.lookup f=some ⟨oc,od,.func (bm4 x x (kce st) (kby st) (kag st) .none kV dc pm an cd ct),sl⟩) (c:b08 K cd x=true) (k:bv8 K (.ref f)=true):HasFn K x st
section
variable {P:bb8} {w:World} {K:ba0} {mg:Str→Option Value} {base h:Heap} {x:Str} {st:Stmt} {k:Nat} {ps:List Str}
abbrev Bd (x:Str) (st:Stmt) (ps:List Str):Prop:=∀(kV doc pm:Value) (an:Option Addr) (cdv ct:Value) (us:List Value),us.length=ps.length→bindArgs (bm4 x x (kce st) (kby st) (kag st) .none kV doc pm an cdv ct) ⟨us,[]⟩=pure (ps.zip us)
theorem bd1 {p:Str} (h: ∀(kV doc pm:Value) (an:Option Addr) (cdv ct u:Value),bindArgs (bm4 x x (kce st) (kby st) (kag st) .none kV doc pm an cdv ct) ⟨[u],[]⟩=pure [(p,u)]):Bd x st [p]:=by
 intro kV doc pm an cdv ct us hl
 obtain ⟨u,rfl⟩:=bt3.mp hl
 exact h kV doc pm an cdv ct u
theorem bd2 {p q:Str} (h: ∀(kV doc pm:Value) (an:Option Addr) (cdv ct u v:Value),bindArgs (bm4 x x (kce st) (kby st) (kag st) .none kV doc pm an cdv ct) ⟨[u,v],[]⟩=pure [(p,u),(q,v)]):Bd x st [p,q]:=by
 intro kV doc pm an cdv ct us hl
 cases us with
 | nil=>cases hl
 | cons u us=>
   obtain ⟨v,rfl⟩:=bt3.mp (b23 hl)
   exact h kV doc pm an cdv ct u v
theorem bd3 {p q r:Str} (h: ∀(kV doc pm:Value) (an:Option Addr) (cdv ct u v w:Value),bindArgs (bm4 x x (kce st) (kby st) (kag st) .none kV doc pm an cdv ct) ⟨[u,v,w],[]⟩=pure [(p,u),(q,v),(r,w)]):Bd x st [p,q,r]:=by
 intro kV doc pm an cdv ct us hl
 cases us with
 | nil=>cases hl
 | cons u us=>
   cases us with
   | nil=>cases hl
   | cons v us=>
     obtain ⟨w,rfl⟩:=bt3.mp (b23 (b23 hl))
     exact h kV doc pm an cdv ct u v w
theorem bd4 {p q r z:Str} (h: ∀(kV doc pm:Value) (an:Option Addr) (cdv ct u v w y:Value),bindArgs (bm4 x x (kce st) (kby st) (kag st) .none kV doc pm an cdv ct) ⟨[u,v,w,y],[]⟩=pure [(p,u),(q,v),(r,w),(z,y)]):Bd x st [p,q,r,z]:=by
 intro kV doc pm an cdv ct us hl
 cases us with
 | nil=>cases hl
 | cons u us=>
   cases us with
   | nil=>cases hl
   | cons v us=>
     cases us with
     | nil=>cases hl
     | cons w us=>
       obtain ⟨y,rfl⟩:=bt3.mp (b23 (b23 (b23 hl)))
       exact h kV doc pm an cdv ct u v w y
theorem HasFn.fn {sp:Sp} (H:HasFn K x st) (X:K.In h) (G:h.Ns bf5 mg) (hb:Bd x st ps) (ok: ∀{f:Addr} {fd:bf0},Fun K x x st f fd→FnOk P w K mg base CX0 k f fd ps sp):Fn P w K mg base x k ps sp:=by
 obtain ⟨a,l,c,kk⟩:=H
 have F:Fun K x x st _ _:=kt9 l c kk
 exact ⟨_,_,ok F,b85 X G a,kk,F.binds hb⟩
end
set_option maxHeartbeats 8000000 in
theorem k2m {l:b36} {w:World} {K:ba0} {h:Heap} {mg:Str→Option Value} {fa:Addr} (X:K.In h) (G:h.Ns bf5 mg) (hfa:mg "law"=some (.ref fa))
 {f47:Addr} {od47 an47:Option Addr} {sl47:Array (Option Value)} {oc47 kV47 dc47 pm47 cd47 ct47:Value} {x0:Addr} {tk0:Tok}
 (h1:HasFn K "_law_stir" kx5)
 (h2:HasFn K "_law_cell" kx6)
 (h3:HasFn K "_law_raw" sRaw)
 (h4:HasFn K "_law_whole" kp8)
 (h5:HasFn K "_law_draw" kx7)
 (h6:HasFn K "_law_closed" kkg)
 (h7:HasFn K "_law_by_digits" sDig)
 (h8:HasFn K "_law_mixed" sMix)
 (h9:HasFn K "_law_space" kp9)
 (h10:HasFn K "is_point" kp5)
 (h11:HasFn K "same_or_under" kx4)
 (h12:HasFn K "points_under" kcu)
 (h13:HasFn K "points_over" kc6)
 (h14:HasFn K "lowest" khu)
 (h15:HasFn K "highest" kf4)
 (h16:HasFn K "goal" kp6)
 (h17:HasFn K "foldable" ke5)
 (h18:HasFn K "closed_up" keh)
 (h19:HasFn K "without" kf5)
 (h20:HasFn K "folded" khv)
 (h21:HasFn K "along" kkc)
 (h22:HasFn K "row_to_core" kc7)
 (h23:HasFn K "moves" kkd)
 (h24:HasFn K "left" kp7)
 (h25:HasFn K "sendings" ke6)
 (h26:HasFn K "lying" kke)
 (h27:HasFn K "marks_of" ke7)
 (h28:HasFn K "views" kkf)
 (h29:HasFn K "numbered" ke8)
 (h30:HasFn K "doubtful" ke9)
 (h31:HasFn K "set_apart" kei)
 (h32:HasFn K "refined" kf6)
 (h33:HasFn K "searched" kfb)
 (h34:HasFn K "renaming" kfa)
 (h35:HasFn K "_law_is_renaming" kbz)
 (h36:HasFn K "refuse_too_many" kb3)
 (h37:HasFn K "beside" khr)
 (h38:HasFn K "turned" khs)
 (h39:HasFn K "topped" kht)
 (h40:HasFn K "both_rise" keg)
 (h41:HasFn K "times" kkb)
 (h42:HasFn K "to_themselves" kcn)
 (h43:HasFn K "sent_on" kf7)
 (h44:HasFn K "judged" khw)
 (h45:HasFn K "_law_core" kej)
 (h46:HasFn K "_law_alike" kdq)
 (a47:bh9 K bf5 "law"=some (some (.ref f47))) (l47:K.lookup f47=some ⟨oc47,od47,.func (bm4 "law" "law" (kce ktd) (kby ktd) (kag ktd) .none kV47 dc47 pm47 an47 cd47 ct47),sl47⟩) (c47:b08 K cd47 "law"=true) (k47:bv8 K (.ref f47)=true)
 (z0:bh9 K bf5 "range"=some none)
 (z1:bh9 K bf5 "len"=some none)
 (z2:bh9 K bf5 "list"=some none)
 (z3:bh9 K bf5 "tuple"=some none)
 (z4:bh9 K bf5 "isinstance"=some none)
 (z5:bh9 K bf5 "int"=some none)
 (z6:bh9 K bf5 "bool"=some none)
 (z7:bh9 K bf5 "zip"=some none)
 (z8:bh9 K bf5 "all"=some none)
 (z9:bh9 K bf5 "any"=some none)
 (z10:bh9 K bf5 "sum"=some none)
 (z11:bh9 K bf5 "sorted"=some none)
 (z12:bh9 K bf5 "min"=some none)
 (z13:bh9 K bf5 "max"=some none)
 (z14:bh9 K bf5 "str"=some none)
 (z15:bh9 K bf5 "enumerate"=some none)
 (z16:bh9 K bf5 "set"=some none)
 (z17:bh9 K bf5 "reversed"=some none)
 (z18:bh9 K bf5 "ValueError"=some none)
 (y0:be7 K (.type "int") (.type "int")=some true)
 (y1:be7 K (.type "int") (.type "bool")=some false)
 (y2:be7 K (.type "bool") (.type "bool")=some true)
 (y3:be7 K (.type "tuple") (.type "tuple")=some true)
 (y4:be7 K (.type "list") (.type "list")=some true)
 (y5:be7 K (.type "list") (.type "tuple")=some false)
 (y6:be7 K (.type "tuple") (.type "list")=some false)
 (y7:be7 K (.type "list") (.type "bool")=some false)
 (y8:be7 K (.type "bool") (.type "tuple")=some false)
 (y9:be7 K (.type "int") (.type "tuple")=some false)
 (y10:be7 K (.type "str") (.type "str")=some true)
 (y11:be7 K (.type "NoneType") (.type "bool")=some false)
 (y12:be7 K (.type "NoneType") (.type "int")=some false)
 (y13:be7 K (.type "bool") (.type "int")=some true)
 (ax0:bh9 K bf5 "SpaceError"=some (some (.ref x0))) (bx0:xOk K x0=true)
 (ag0:bh9 K bf5 "MOST_POINTS"=some (some (.int 16 tk0))):
 ∃fd:bf0,(∀ (s:ba4) (v:Value),BindsTo s fd ⟨[v],[]⟩ [("script",v)])∧∀base:Heap,K.In base→base.Ns bf5 mg→FnOk l.prog w K mg base CX0 25 fa fd ["script"] (spG K Plaw):=by
 have e:=hfa.symm.trans (b85 X G a47)
 cases e
 have T:Txt K mg:=⟨bf6 X G z0,bf6 X G z1,bf6 X G z2,bf6 X G z3,bf6 X G z4,bf6 X G z5,bf6 X G z6,bf6 X G z7,bf6 X G z8,bf6 X G z9,bf6 X G z10,bf6 X G z11,bf6 X G z12,bf6 X G z13,bf6 X G z14,bf6 X G z15,bf6 X G z16,bf6 X G z17,bf6 X G z18,y0,y1,y2,y3,y4,y5,y6,y7,y8,y9,y10,y11,y12,y13⟩
 have Z:XT K mg x0:=⟨⟨ax0,b85 X G ax0,bx0⟩,⟨_,b85 X G ag0⟩⟩
 have F47:=kt9 (st:=ktd) l47 c47 k47
 refine ⟨bm4 "law" "law" (kce ktd) (kby ktd) (kag ktd) .none kV47 dc47 pm47 an47 cd47 ct47,fun s v=> .of_eq rfl,fun base q_ q_=> ?_⟩
 have GSt:Fn l.prog w K mg base "_law_stir" 1 ["cell"] (kje):=h1.fn X G (bd1 fun q_ q_ q_ q_ q_ q_ q_=>rfl) fun F=>kyc F
 have GDSt:Fn l.prog w K mg base "_law_stir" 1 ["cell"] (spG K k1p):=kjg GSt fun q_ q_ q_ q_=>kyj
 have GCl:Fn l.prog w K mg base "_law_cell" 2 ["script","k"] (kgu K):=h2.fn X G (bd2 fun q_ q_ q_ q_ q_ q_ q_ q_=>rfl) fun F=>kyd F T GSt
 have GDCl:Fn l.prog w K mg base "_law_cell" 2 ["script","k"] (spG K ktm):=kjg GCl fun q_ q_ q_ q_=>kqk
 have GRw:Fn l.prog w K mg base "_law_raw" 1 ["script","k"] (kgu K):=h3.fn X G (bd2 fun q_ q_ q_ q_ q_ q_ q_ q_=>rfl) fun F=>k1l F T
 have GDRw:Fn l.prog w K mg base "_law_raw" 1 ["script","k"] (spG K ktm):=kjg GRw fun q_ q_ q_ q_=>kqk
 have GWh:Fn l.prog w K mg base "_law_whole" 1 ["found"] (kkh):=h4.fn X G (bd1 fun q_ q_ q_ q_ q_ q_ q_=>rfl) fun F=>kte F T
 have GDWh:Fn l.prog w K mg base "_law_whole" 1 ["found"] (spG K kqi):=kjg GWh fun q_ q_ q_ q_=>ktn
 have GDr:Fn l.prog w K mg base "_law_draw" 1 ["cell","k","bound"] (kl9):=h5.fn X G (bd3 fun q_ q_ q_ q_ q_ q_ q_ q_ q_=>rfl) fun F=>kyf F
 have GDDr:Fn l.prog w K mg base "_law_draw" 1 ["cell","k","bound"] (spG K k1q):=kjg GDr fun q_ q_ q_ q_=>kyk
 have GCd:Fn l.prog w K mg base "_law_closed" 1 ["many","pairs"] (kfp K):=h6.fn X G (bd2 fun q_ q_ q_ q_ q_ q_ q_ q_=>rfl) fun F=>kqf F T
 have GDg:Fn l.prog w K mg base "_law_by_digits" 2 ["cell","most"] (knc K):=h7.fn X G (bd2 fun q_ q_ q_ q_ q_ q_ q_ q_=>rfl) fun F=>k1m F T GCd
 have GMx:Fn l.prog w K mg base "_law_mixed" 2 ["cell","most"] (knc K):=h8.fn X G (bd2 fun q_ q_ q_ q_ q_ q_ q_ q_=>rfl) fun F=>k1n F T GCd GDr
 have GSp:Fn l.prog w K mg base "_law_space" 3 ["script","at","most"] (kki K):=h9.fn X G (bd3 fun q_ q_ q_ q_ q_ q_ q_ q_ q_=>rfl) fun F=>ktj F GRw GSt GDg GMx
 have GDSp:Fn l.prog w K mg base "_law_space" 3 ["script","at","most"] (spG K kqj):=kjg GSp fun q_ q_ q_ q_=>kto
 have GPt:Fn l.prog w K mg base "is_point" 1 ["many","number"] (kkj):=h10.fn X G (bd2 fun q_ q_ q_ q_ q_ q_ q_ q_=>rfl) fun F=>ktk F
 have GDPt:Fn l.prog w K mg base "is_point" 1 ["many","number"] (spG K kql):=kjg GPt fun q_ q_ q_ q_=>ktp
 have GSm:Fn l.prog w K mg base "same_or_under" 1 ["space","a","b"] (kyb K):=h11.fn X G (bd3 fun q_ q_ q_ q_ q_ q_ q_ q_ q_=>rfl) fun F=>kyi F
 have GDSm:Fn l.prog w K mg base "same_or_under" 1 ["space","a","b"] (spG K k1r):=kjg GSm fun q_ q_ q_ q_=>k1s
 have GPu:Fn l.prog w K mg base "points_under" 1 ["space","point"] (spG K Ppu):=h12.fn X G (bd2 fun q_ q_ q_ q_ q_ q_ q_ q_=>rfl) fun F=>ok_Pu F T
 have GPo:Fn l.prog w K mg base "points_over" 1 ["space","point"] (spG K Ppo):=h13.fn X G (bd2 fun q_ q_ q_ q_ q_ q_ q_ q_=>rfl) fun F=>ok_Po F T
 have GLw:Fn l.prog w K mg base "lowest" 2 ["space","points"] (spG K Plow):=h14.fn X G (bd2 fun q_ q_ q_ q_ q_ q_ q_ q_=>rfl) fun F=>ok_Lw F T GDSm
 have GHg:Fn l.prog w K mg base "highest" 2 ["space","points"] (spG K kyl):=h15.fn X G (bd2 fun q_ q_ q_ q_ q_ q_ q_ q_=>rfl) fun F=>ok_Hg F T GDSm
 have GGo:Fn l.prog w K mg base "goal" 3 ["space","point"] (spG K kqm):=h16.fn X G (bd2 fun q_ q_ q_ q_ q_ q_ q_ q_=>rfl) fun F=>ok_Go F T GDPt GPu GPo GLw GHg
 have GFb:Fn l.prog w K mg base "foldable" 4 ["space"] (spG K kgd):=h17.fn X G (bd1 fun q_ q_ q_ q_ q_ q_ q_=>rfl) fun F=>ok_Fb F T GGo
 have GCu:Fn l.prog w K mg base "closed_up" 1 ["number","gone"] (spG K Pcu):=h18.fn X G (bd2 fun q_ q_ q_ q_ q_ q_ q_ q_=>rfl) fun F=>ok_Cu F T
 have GWo:Fn l.prog w K mg base "without" 2 ["space","point"] (spG K Pwo):=h19.fn X G (bd2 fun q_ q_ q_ q_ q_ q_ q_ q_=>rfl) fun F=>ok_Wo F T GCu
 have GFo:Fn l.prog w K mg base "folded" 4 ["space","point"] (spG K kge):=h20.fn X G (bd2 fun q_ q_ q_ q_ q_ q_ q_ q_=>rfl) fun F=>ok_Fo F T GGo GWo
 have GAl:Fn l.prog w K mg base "along" 5 ["space","row"] (spG K kmd):=h21.fn X G (bd2 fun q_ q_ q_ q_ q_ q_ q_ q_=>rfl) fun F=>ok_Al F T GFo
 have GCo:Fn l.prog w K mg base "row_to_core" 5 ["space"] (spG K kts):=h22.fn X G (bd1 fun q_ q_ q_ q_ q_ q_ q_=>rfl) fun F=>ok_Co F T GFb GFo
 have GMv:Fn l.prog w K mg base "moves" 5 ["space","row"] (spG K kmi):=h23.fn X G (bd2 fun q_ q_ q_ q_ q_ q_ q_ q_=>rfl) fun F=>ok_Mv F T GFo GGo
 have GLe:Fn l.prog w K mg base "left" 6 ["space","row"] (spG K kyn):=h24.fn X G (bd2 fun q_ q_ q_ q_ q_ q_ q_ q_=>rfl) fun F=>ok_Le F T GMv
 have GSe:Fn l.prog w K mg base "sendings" 6 ["space","row"] (spG K kyo):=h25.fn X G (bd2 fun q_ q_ q_ q_ q_ q_ q_ q_=>rfl) fun F=>ok_Se F T GMv
 have GLy:Fn l.prog w K mg base "lying" 2 ["space"] (spG K kqu):=h26.fn X G (bd1 fun q_ q_ q_ q_ q_ q_ q_=>rfl) fun F=>ok_Ly F T GPu GPo
 have GMo:Fn l.prog w K mg base "marks_of" 1 ["marks","points"] (spG K kh3):=h27.fn X G (bd2 fun q_ q_ q_ q_ q_ q_ q_ q_=>rfl) fun F=>ok_Mo F T
 have GVi:Fn l.prog w K mg base "views" 2 ["lies","marks"] (spG K kqv):=h28.fn X G (bd2 fun q_ q_ q_ q_ q_ q_ q_ q_=>rfl) fun F=>ok_Vi F T GMo
 have GNu:Fn l.prog w K mg base "numbered" 1 ["some_views"] (spG K Pnum):=h29.fn X G (bd1 fun q_ q_ q_ q_ q_ q_ q_=>rfl) fun F=>ok_Nu F T
 have GDb:Fn l.prog w K mg base "doubtful" 1 ["marks"] (spG K kqy):=h30.fn X G (bd1 fun q_ q_ q_ q_ q_ q_ q_=>rfl) fun F=>ok_Db F T
 have GSa:Fn l.prog w K mg base "set_apart" 1 ["marks","point"] (spG K kqz):=h31.fn X G (bd2 fun q_ q_ q_ q_ q_ q_ q_ q_=>rfl) fun F=>ok_Sa F T
 have GRf:Fn l.prog w K mg base "refined" 3 ["one_lying","other_lying","one_marks","other_marks"] (spG K Pref):=h32.fn X G (bd4 fun q_ q_ q_ q_ q_ q_ q_ q_ q_ q_=>rfl) fun F=>ok_Rf F T GVi GNu
 have RSr: ∀k:Nat,Fn l.prog w K mg base "searched" (4 + k) ["one_lying","other_lying","one_marks","other_marks"] (spG K (Psr k)):=fun k=>by
  induction k with
  | zero=>exact h33.fn X G (bd4 fun q_ q_ q_ q_ q_ q_ q_ q_ q_ q_=>rfl) fun F=>k14
  | succ k ih=>exact h33.fn X G (bd4 fun q_ q_ q_ q_ q_ q_ q_ q_ q_ q_=>rfl) fun F=>k13 k F T GRf GDb GSa ih
 have GSr:Fn l.prog w K mg base "searched" 20 ["one_lying","other_lying","one_marks","other_marks"] (spG K (Psr 16)):=RSr 16
 have GRn:Fn l.prog w K mg base "renaming" 22 ["one","other"] (spG K Pren):=h34.fn X G (bd2 fun q_ q_ q_ q_ q_ q_ q_ q_=>rfl) fun F=>ok_Rn F T GLy GSr
 have GIr:Fn l.prog w K mg base "_law_is_renaming" 2 ["one","other","row"] (spG K Pisr):=h35.fn X G (bd3 fun q_ q_ q_ q_ q_ q_ q_ q_ q_=>rfl) fun F=>ok_Ir F T GDWh
 have GRq:Fn l.prog w K mg base "refuse_too_many" 1 ["many"] (spG K Prq):=h36.fn X G (bd1 fun q_ q_ q_ q_ q_ q_ q_=>rfl) fun F=>ok_Rq F T Z
 have GBs:Fn l.prog w K mg base "beside" 2 ["one","other"] (spG K Pbes):=h37.fn X G (bd2 fun q_ q_ q_ q_ q_ q_ q_ q_=>rfl) fun F=>ok_Bs F T GRq
 have GTu:Fn l.prog w K mg base "turned" 1 ["space"] (spG K ky0):=h38.fn X G (bd1 fun q_ q_ q_ q_ q_ q_ q_=>rfl) fun F=>ok_Tu F T
 have GTp:Fn l.prog w K mg base "topped" 2 ["space"] (spG K Ptop):=h39.fn X G (bd1 fun q_ q_ q_ q_ q_ q_ q_=>rfl) fun F=>ok_Tp F T GRq
 have GRi:Fn l.prog w K mg base "both_rise" 2 ["one","other","a","b"] (spG K ky1):=h40.fn X G (bd4 fun q_ q_ q_ q_ q_ q_ q_ q_ q_ q_=>rfl) fun F=>ok_Ri F T GDSm
 have GTm:Fn l.prog w K mg base "times" 3 ["one","other"] (spG K Ptim):=h41.fn X G (bd2 fun q_ q_ q_ q_ q_ q_ q_ q_=>rfl) fun F=>ok_Tm F T GRq GRi
 have GTh:Fn l.prog w K mg base "to_themselves" 7 ["space","row"] (spG K ky2):=h42.fn X G (bd2 fun q_ q_ q_ q_ q_ q_ q_ q_=>rfl) fun F=>ok_Th F T GSe
 have GSo:Fn l.prog w K mg base "sent_on" 1 ["row","core","goals"] (spG K ky3):=h43.fn X G (bd3 fun q_ q_ q_ q_ q_ q_ q_ q_ q_=>rfl) fun F=>ok_So F T
 have GJd:Fn l.prog w K mg base "judged" 23 ["one","other"] (spG K Pjud):=h44.fn X G (bd2 fun q_ q_ q_ q_ q_ q_ q_ q_=>rfl) fun F=>ok_Jd F T GCo GAl GRn GTh GLe GSo
 have GLc:Fn l.prog w K mg base "_law_core" 6 ["space"] (spG K Pcor):=h45.fn X G (bd1 fun q_ q_ q_ q_ q_ q_ q_=>rfl) fun F=>ok_Lc F T GCo GAl
 have GLa:Fn l.prog w K mg base "_law_alike" 23 ["one","other"] (spG K Palk):=h46.fn X G (bd2 fun q_ q_ q_ q_ q_ q_ q_ q_=>rfl) fun F=>ok_La F T GRn GIr
 exact k2l F47 T GDSp GDCl GLc GLa GTm GBs GTu GTp GJd
theorem walk {l:b36} {q:bb8} {loose:List Str} {XP:(Str→Option Value)→Heap→Prop} {YP:World→Heap→Prop} {d:DefRec} {K:Params→ba0} (hn:l.most=some 63) (hdf:d.params.defaults=[])
 (hY: ∀(w:World) (h:Heap),YP w h→(K w.params).In h)
 (F: ∀(w:World) (mg:Str→Option Value) (fa:Addr) (h:Heap),(K w.params).In h→h.Ns bf5 mg→mg d.name=some (.ref fa)→
   ∃fd:bf0,(∀ (s:ba4) (u:Value),BindsTo s fd ⟨[u],[]⟩ [("script",u)])∧∀base:Heap,(K w.params).In base→base.Ns bf5 mg→FnOk l.prog w (K w.params) mg base CX0 25 fa fd ["script"] (spG (K w.params) Plaw)):
 cl3 q loose XP YP l.row.toRowW d [] (fun f vs=>ck9 f vs):=
 L2.kv5 (n:=63) (k:=25) (x:="script") (CX:=fun q_=>CX0) (sp:=fun w=>spG (K w.params) Plaw) hn (by decide) hdf ⟨rfl,by decide,by decide⟩ hY F
  (fun q_ q_ a ns hl q_ hS=>⟨[kg3 ns],fun dt=>dt= .d (.bool true),.cons (.scr hS) .nil,⟨ns,rfl,hl,rfl⟩,fun dt v R' H' e q_ sl=>by subst e;exact Rp.bl_inv sl⟩) fun q_ q_ q_ q_ q_ z=>z
end Me
open PySem PySem.W PyProof.Rows
namespace Me
def zt0:=top 0
def zt1:=top 1
def zt2:=top 2
def zt3:=top 3
def zt4:=top 4
def zt5:=top 5
def zt6:=top 6
def zt7:=top 7
def zt8:=top 8
def zt9:=top 9
def zt10:=top 10
def zt11:=top 11
def zt12:=top 12
def zt13:=top 13
def zt14:=top 14
def zt15:=top 15
def zt16:=top 16
def zt17:=top 17
def zt18:=top 18
def zt19:=top 19
def zt20:=top 20
def zt21:=top 21
def zt22:=top 22
def zt23:=top 23
def zt24:=top 24
def zt25:=top 25
def zt26:=top 26
def zt27:=top 27
def zt28:=top 28
def zt29:=top 29
def zt30:=top 30
def zt31:=top 31
def zt32:=top 32
def zt33:=top 33
def zt34:=top 34
def zt35:=top 35
def zt36:=top 36
def zt37:=top 37
def zt38:=top 38
def zt39:=top 39
def zt40:=top 40
def zt41:=top 41
def zt42:=top 42
def zt43:=top 43
def zt44:=top 44
def zt45:=top 45
def zt46:=top 46
def zt47:=top 47
def zt48:=top 48
def zt49:=top 49
def zt50:=top 50
def zt51:=top 51
def zt52:=top 52
def zt53:=top 53
def zt54:=top 54
def zt55:=top 55
def zt56:=top 56
def zt57:=top 57
def zt58:=top 58
def pN:bb8:={PySem.Challenge.pw_fewpoints_k15_whole_cores_of_made_ones with main:={PySem.Challenge.pw_fewpoints_k15_whole_cores_of_made_ones.main with body:=[zt0,zt1,zt2,zt3,zt4,zt5,zt6,zt7,zt8,zt9,zt10,zt11,zt12,zt13,zt14,zt15,zt16,zt17,zt18,zt19,zt20,zt21,zt22,zt23,zt24,zt25,zt26,zt27,zt28,zt29,zt30,zt31,zt32,zt33,zt34,zt35,zt36,zt37,zt38,zt39,zt40,zt41,zt42,zt43,zt44,zt45,zt46,zt47,zt48,zt49,zt50,zt51,zt52,zt53,zt54,zt55,zt56,zt57,zt58]}}
def rN:b36:={PySem.Challenge.rw_fewpoints_k15_whole_cores_of_made_ones with prog:=pN}
end Me
namespace PySem.W.Fast
def tw6774620379781925495:=0
def tw10498995019835462550:=0
def tw90023024540392276:=0
def tw13584462809187688884:=0
def tw5197909108728967634:=0
def tw15092383599339869325:=0
def tw4825728995107818636:=0
def tw13992904327005122187:=0
def tw3049768544981384329:=0
def tw5315063764693592775:=0
def tw11759176467088860263:=0
def tw17823787564050237665:=0
def tw3443777317660704483:=0
def tw12560264854271645549:=0
def tw8843515445812806943:=0
def tw15756714404082574967:=0
def tw9435341990073463324:=0
def tw2221625836438816459:=0
def tw18238975330128115014:=0
def tw6670527247153048062:=0
def tw12394770360588645442:=0
def tw2259175509757026039:=0
def tw1905178412362286015:=0
def tw3454682166623648400:=0
def tw162800773765115737:=0
end PySem.W.Fast
set_option maxRecDepth 100000 in
set_option maxHeartbeats 0 in
theorem Me.held:Me.rN.Holds:=by
 w_on;o_law;k_head;(case hw=>w_witness2)
 k_fill
 refine Me.walk (l:=Me.rN) rfl rfl (fun w h Y=>PySem.W.kIn_of Y) ?F
 case F=>
  intro w mg fa h KX G hmg
  refine' Me.k2m KX G hmg ?h1 ?h2 ?h3 ?h4 ?h5 ?h6 ?h7 ?h8 ?h9 ?h10 ?h11 ?h12 ?h13 ?h14 ?h15 ?h16 ?h17 ?h18 ?h19 ?h20 ?h21 ?h22 ?h23 ?h24 ?h25 ?h26 ?h27 ?h28 ?h29 ?h30 ?h31 ?h32 ?h33 ?h34 ?h35 ?h36 ?h37 ?h38 ?h39 ?h40 ?h41 ?h42 ?h43 ?h44 ?h45 ?h46 ?a47 ?l47 ?c47 ?k47 ?z0 ?z1 ?z2 ?z3 ?z4 ?z5 ?z6 ?z7 ?z8 ?z9 ?z10 ?z11 ?z12 ?z13 ?z14 ?z15 ?z16 ?z17 ?z18 ?y0 ?y1 ?y2 ?y3 ?y4 ?y5 ?y6 ?y7 ?y8 ?y9 ?y10 ?y11 ?y12 ?y13 ?ax0 ?bx0 ?ag0
  (case h1=>refine' Me.HasFn.mk ?a ?l ?c ?k;(case a=>k_is);(case l=>k_is);(case c=>k_is);(case k=>k_is))
  (case h2=>refine' Me.HasFn.mk ?a ?l ?c ?k;(case a=>k_is);(case l=>k_is);(case c=>k_is);(case k=>k_is))
  (case h3=>refine' Me.HasFn.mk ?a ?l ?c ?k;(case a=>k_is);(case l=>k_is);(case c=>k_is);(case k=>k_is))
  (case h4=>refine' Me.HasFn.mk ?a ?l ?c ?k;(case a=>k_is);(case l=>k_is);(case c=>k_is);(case k=>k_is))
  (case h5=>refine' Me.HasFn.mk ?a ?l ?c ?k;(case a=>k_is);(case l=>k_is);(case c=>k_is);(case k=>k_is))
  (case h6=>refine' Me.HasFn.mk ?a ?l ?c ?k;(case a=>k_is);(case l=>k_is);(case c=>k_is);(case k=>k_is))
  (case h7=>refine' Me.HasFn.mk ?a ?l ?c ?k;(case a=>k_is);(case l=>k_is);(case c=>k_is);(case k=>k_is))
  (case h8=>refine' Me.HasFn.mk ?a ?l ?c ?k;(case a=>k_is);(case l=>k_is);(case c=>k_is);(case k=>k_is))
  (case h9=>refine' Me.HasFn.mk ?a ?l ?c ?k;(case a=>k_is);(case l=>k_is);(case c=>k_is);(case k=>k_is))
  (case h10=>refine' Me.HasFn.mk ?a ?l ?c ?k;(case a=>k_is);(case l=>k_is);(case c=>k_is);(case k=>k_is))
  (case h11=>refine' Me.HasFn.mk ?a ?l ?c ?k;(case a=>k_is);(case l=>k_is);(case c=>k_is);(case k=>k_is))
  (case h12=>refine' Me.HasFn.mk ?a ?l ?c ?k;(case a=>k_is);(case l=>k_is);(case c=>k_is);(case k=>k_is))
  (case h13=>refine' Me.HasFn.mk ?a ?l ?c ?k;(case a=>k_is);(case l=>k_is);(case c=>k_is);(case k=>k_is))
  (case h14=>refine' Me.HasFn.mk ?a ?l ?c ?k;(case a=>k_is);(case l=>k_is);(case c=>k_is);(case k=>k_is))
  (case h15=>refine' Me.HasFn.mk ?a ?l ?c ?k;(case a=>k_is);(case l=>k_is);(case c=>k_is);(case k=>k_is))
  (case h16=>refine' Me.HasFn.mk ?a ?l ?c ?k;(case a=>k_is);(case l=>k_is);(case c=>k_is);(case k=>k_is))
  (case h17=>refine' Me.HasFn.mk ?a ?l ?c ?k;(case a=>k_is);(case l=>k_is);(case c=>k_is);(case k=>k_is))
  (case h18=>refine' Me.HasFn.mk ?a ?l ?c ?k;(case a=>k_is);(case l=>k_is);(case c=>k_is);(case k=>k_is))
  (case h19=>refine' Me.HasFn.mk ?a ?l ?c ?k;(case a=>k_is);(case l=>k_is);(case c=>k_is);(case k=>k_is))
  (case h20=>refine' Me.HasFn.mk ?a ?l ?c ?k;(case a=>k_is);(case l=>k_is);(case c=>k_is);(case k=>k_is))
  (case h21=>refine' Me.HasFn.mk ?a ?l ?c ?k;(case a=>k_is);(case l=>k_is);(case c=>k_is);(case k=>k_is))
  (case h22=>refine' Me.HasFn.mk ?a ?l ?c ?k;(case a=>k_is);(case l=>k_is);(case c=>k_is);(case k=>k_is))
  (case h23=>refine' Me.HasFn.mk ?a ?l ?c ?k;(case a=>k_is);(case l=>k_is);(case c=>k_is);(case k=>k_is))
  (case h24=>refine' Me.HasFn.mk ?a ?l ?c ?k;(case a=>k_is);(case l=>k_is);(case c=>k_is);(case k=>k_is))
  (case h25=>refine' Me.HasFn.mk ?a ?l ?c ?k;(case a=>k_is);(case l=>k_is);(case c=>k_is);(case k=>k_is))
  (case h26=>refine' Me.HasFn.mk ?a ?l ?c ?k;(case a=>k_is);(case l=>k_is);(case c=>k_is);(case k=>k_is))
  (case h27=>refine' Me.HasFn.mk ?a ?l ?c ?k;(case a=>k_is);(case l=>k_is);(case c=>k_is);(case k=>k_is))
  (case h28=>refine' Me.HasFn.mk ?a ?l ?c ?k;(case a=>k_is);(case l=>k_is);(case c=>k_is);(case k=>k_is))
  (case h29=>refine' Me.HasFn.mk ?a ?l ?c ?k;(case a=>k_is);(case l=>k_is);(case c=>k_is);(case k=>k_is))
  (case h30=>refine' Me.HasFn.mk ?a ?l ?c ?k;(case a=>k_is);(case l=>k_is);(case c=>k_is);(case k=>k_is))
  (case h31=>refine' Me.HasFn.mk ?a ?l ?c ?k;(case a=>k_is);(case l=>k_is);(case c=>k_is);(case k=>k_is))
  (case h32=>refine' Me.HasFn.mk ?a ?l ?c ?k;(case a=>k_is);(case l=>k_is);(case c=>k_is);(case k=>k_is))
  (case h33=>refine' Me.HasFn.mk ?a ?l ?c ?k;(case a=>k_is);(case l=>k_is);(case c=>k_is);(case k=>k_is))
  (case h34=>refine' Me.HasFn.mk ?a ?l ?c ?k;(case a=>k_is);(case l=>k_is);(case c=>k_is);(case k=>k_is))
  (case h35=>refine' Me.HasFn.mk ?a ?l ?c ?k;(case a=>k_is);(case l=>k_is);(case c=>k_is);(case k=>k_is))
  (case h36=>refine' Me.HasFn.mk ?a ?l ?c ?k;(case a=>k_is);(case l=>k_is);(case c=>k_is);(case k=>k_is))
  (case h37=>refine' Me.HasFn.mk ?a ?l ?c ?k;(case a=>k_is);(case l=>k_is);(case c=>k_is);(case k=>k_is))
  (case h38=>refine' Me.HasFn.mk ?a ?l ?c ?k;(case a=>k_is);(case l=>k_is);(case c=>k_is);(case k=>k_is))
  (case h39=>refine' Me.HasFn.mk ?a ?l ?c ?k;(case a=>k_is);(case l=>k_is);(case c=>k_is);(case k=>k_is))
  (case h40=>refine' Me.HasFn.mk ?a ?l ?c ?k;(case a=>k_is);(case l=>k_is);(case c=>k_is);(case k=>k_is))
  (case h41=>refine' Me.HasFn.mk ?a ?l ?c ?k;(case a=>k_is);(case l=>k_is);(case c=>k_is);(case k=>k_is))
  (case h42=>refine' Me.HasFn.mk ?a ?l ?c ?k;(case a=>k_is);(case l=>k_is);(case c=>k_is);(case k=>k_is))
  (case h43=>refine' Me.HasFn.mk ?a ?l ?c ?k;(case a=>k_is);(case l=>k_is);(case c=>k_is);(case k=>k_is))
  (case h44=>refine' Me.HasFn.mk ?a ?l ?c ?k;(case a=>k_is);(case l=>k_is);(case c=>k_is);(case k=>k_is))
  (case h45=>refine' Me.HasFn.mk ?a ?l ?c ?k;(case a=>k_is);(case l=>k_is);(case c=>k_is);(case k=>k_is))
  (case h46=>refine' Me.HasFn.mk ?a ?l ?c ?k;(case a=>k_is);(case l=>k_is);(case c=>k_is);(case k=>k_is))
  (case a47=>k_is)
  (case l47=>k_is)
  (case c47=>k_is)
  (case k47=>k_is)
  (case z0=>k_is)
  (case z1=>k_is)
  (case z2=>k_is)
  (case z3=>k_is)
  (case z4=>k_is)
  (case z5=>k_is)
  (case z6=>k_is)
  (case z7=>k_is)
  (case z8=>k_is)
  (case z9=>k_is)
  (case z10=>k_is)
  (case z11=>k_is)
  (case z12=>k_is)
  (case z13=>k_is)
  (case z14=>k_is)
  (case z15=>k_is)
  (case z16=>k_is)
  (case z17=>k_is)
  (case z18=>k_is)
  (case y0=>kit_is)
  (case y1=>kit_is)
  (case y2=>kit_is)
  (case y3=>kit_is)
  (case y4=>kit_is)
  (case y5=>kit_is)
  (case y6=>kit_is)
  (case y7=>kit_is)
  (case y8=>kit_is)
  (case y9=>kit_is)
  (case y10=>kit_is)
  (case y11=>kit_is)
  (case y12=>kit_is)
  (case y13=>kit_is)
  (case ax0=>k_is)
  (case bx0=>kernel_rfl)
  (case ag0=>k_is)
theorem PySem.Challenge.cw_fewpoints_k15_whole_cores_of_made_ones_holds : PySem.Challenge.rw_fewpoints_k15_whole_cores_of_made_ones.Holds :=
 Me.held
