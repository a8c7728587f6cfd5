import PyProof.Rows.All
import Wide.All
import OpenK.AllK
import Wide.FinOn
import Lean
import PyProof.EqAt
import PyProof.EqKinds
import PyProof.TupleCall
import PyProof.NeData
import PyProof.ZipIter
import PyProof.Draws
import PyProof.ConsumeWalk
import PyProof.SumAny
import PyProof.StationsW
import PyProof.ExcArgsOwn
import PyProof.ExcAttrAll.ValueError
import OpenK.KDescr
import KE.KIsAll
import OpenK.KOwn
import KE.KSortTup
import KE.KDictSum
import KE.KSortKey
import KE.KDictIter
import PyProof.AutoSeq1
import KE.KxSplit
import PyProof.CallStr
import PyProof.StrLawsTight
import PyProof.StrLawsNeg
import KE.KIntText
import PyProof.WalkInts
import PySem.SetOps
import PyProof.WalksEnum
import PyProof.EnumMake
import PyProof.TupleOfSeq
import PySem.Challenge.RW_fewpoints_k10_whole_whichever_first
set_option Elab.async false
set_option linter.all false
set_option maxRecDepth 100000
set_option tactic.hygienic false
namespace L2
theorem u1 (_:True:=by first | exact .inl rfl | exact .inr rfl | assumption):True:=trivial
theorem u2 (_:True:=by decide):True:=trivial
theorem u3 (_:True:=by intro q_;rfl):True:=trivial
theorem u4 (_:True:=by rfl):True:=trivial
theorem u5 (_:True:=by with_unfolding_all rfl):True:=trivial
theorem u6 (_:True:=by first | exact Or.inl rfl | exact Or.inr (Or.inl rfl) | exact Or.inr (Or.inr rfl)):True:=trivial
theorem u7 (_:True:=by intro b z;cases z;rfl):True:=trivial
theorem u8 (_:True:=by intro q_;exact pv _):True:=trivial
theorem u9 (_:True:=by first | exact kdm _ | rfl):True:=trivial
theorem u10 (_:True:=by intro q_ q_;rfl):True:=trivial
theorem u11 (_:True:=by intro q_;exact ⟨rfl,rfl,rfl,rfl,rfl⟩):True:=trivial
theorem u12 (_:True:=by intro q_;first | exact Or.inl rfl | exact Or.inr rfl):True:=trivial
theorem u13 (_:True:=by intro q_;first | exact .inl rfl | exact .inr rfl):True:=trivial
theorem u14 (_:True:=by simp):True:=trivial
open PySem PySem.Spec PyProof.Rows
noncomputable abbrev Key:=Sum Int Str
noncomputable def kw7:Key→Value→Bool
 | .inl k,v=>Value.isInt k v
 | .inr x,v=>Value.isStrOf x v
noncomputable def keyH (w:World):Key→Int
 | .inl k=>hashInt k
 | .inr x=>hashStr w x
theorem kbc: ∀{k:Key} {v:Value},kw7 k v=true→(∃ i t,k=Sum.inl i∧v=Value.int i t)∨(∃ x t,k=Sum.inr x∧v=Value.str x t)
 | .inl i,v,h=>by
   obtain ⟨t,e⟩:=Value.isInt_shape (k:=i) (v:=v) h
   exact .inl ⟨i,t,rfl,e⟩
 | .inr x,v,h=>by
   obtain ⟨t,e⟩:=Value.isStrOf_shape (x:=x) (v:=v) h
   exact .inr ⟨x,t,rfl,e⟩
theorem kw8 (a b:Int):decide ((Sum.inl a:Key)=Sum.inl b)=(a == b):=by
 by_cases e:a=b
 · subst e;simp
 · have h: ¬(Sum.inl a:Key)=Sum.inl b:=fun q=>e (Sum.inl.inj q)
   rw [decide_eq_false h]
   exact (beq_eq_false_iff_ne.mpr e).symm
theorem kw9 (a b:Str):decide ((Sum.inr a:Key)=Sum.inr b)=decide (a=b):=by
 by_cases e:a=b
 · subst e;simp
 · have h: ¬(Sum.inr a:Key)=Sum.inr b:=fun q=>e (Sum.inr.inj q)
   rw [decide_eq_false h,decide_eq_false e]
theorem kxa (a:Int) (b:Str):decide ((Sum.inl a:Key)=Sum.inr b)=false:=decide_eq_false (fun q=>nomatch q)
theorem kxb (a:Str) (b:Int):decide ((Sum.inr a:Key)=Sum.inl b)=false:=decide_eq_false (fun q=>nomatch q)
noncomputable def kmg (prog:Program) (w:World):PySem.KeyKind prog w Key where
 is:=kw7
 hash:=keyH w
 inj:=fun v a b ha hb=>by
  rcases kbc ha with ⟨i,t,rfl,rfl⟩ | ⟨x,t,rfl,rfl⟩
  · rcases kbc hb with ⟨j,u,rfl,e⟩ | ⟨y,u,rfl,e⟩
    · injection e with e1 _;rw [e1]
    · exact nomatch e
  · rcases kbc hb with ⟨j,u,rfl,e⟩ | ⟨y,u,rfl,e⟩
    · exact nomatch e
    · injection e with e1 _;rw [e1]
 byValue:=fun k v h=>by
  rcases kbc h with ⟨i,t,rfl,rfl⟩ | ⟨x,t,rfl,rfl⟩ <;> rfl
 pyHash:=fun hv h=>by
  rcases kbc hv with ⟨i,t,rfl,rfl⟩ | ⟨x,t,rfl,rfl⟩
  · exact wpAny_pyHash_int h
  · exact wpAny_pyHash_str h
 eqBool:=fun hu hv h=>by
  rcases kbc hu with ⟨i,t,rfl,rfl⟩ | ⟨x,t,rfl,rfl⟩
  · rcases kbc hv with ⟨j,u,rfl,rfl⟩ | ⟨y,u,rfl,rfl⟩
    · rw [kw8] at h;exact wpAny_eqBool_int h
    · rw [kxa] at h;exact SeqAt.EqAt.int_str i t y u _ _ _ _ h
  · rcases kbc hv with ⟨j,u,rfl,rfl⟩ | ⟨y,u,rfl,rfl⟩
    · rw [kxb] at h;exact SeqAt.EqAt.str_int x t j u _ _ _ _ h
    · rw [kw9] at h;exact wpAny_eqBool_str h
 «strs» :=fun k x t v h=>by
  rcases kbc h with ⟨i,u,rfl,e⟩ | ⟨y,u,rfl,e⟩
  · exact nomatch e
  · injection e with e1 _
    subst e1
    cases v <;> rfl
end L2
namespace L2
open PySem PySem.Spec PyProof.Rows
inductive V where
 | non | bl (b:Bool) | int (i:Int) | str (x:Str) | byt (b:Array UInt8) | flt (b:UInt64) | ref (a:Addr) | ty (n:String)
 deriving DecidableEq
noncomputable def RelV:V→Value→Prop
 | .non,u=>u=Value.none
 | .bl b,u=>u=Value.bool b
 | .int i,u=>∃t,u=Value.int i t
 | .str x,u=>∃t,u=Value.str x t
 | .byt b,u=>∃t,u=Value.bytes b t
 | .flt b,u=>∃t,u=Value.float b t
 | .ref a,u=>u=Value.ref a
 | .ty n,u=>u=Value.type n
noncomputable abbrev Vals:List V→List Value→Prop:=Paired RelV
theorem Vals.length {xs:List V} {us:List Value} (r:Vals xs us):xs.length=us.length:=Paired.length r
theorem Vals.get: ∀{xs:List V} {us:List Value} {i:Nat} {x:V},Vals xs us→xs[i]?=some x→∃u,us[i]?=some u∧RelV x u
 | _,_,_,_,.nil,e=>by simp at e
 | _,_,0,_,.cons r _,e=>by simp at e;subst e;exact ⟨_,rfl,r⟩
 | _,_,i + 1,x,.cons _ t,e=>by
   obtain ⟨u,h1,h2⟩:=Vals.get (i:=i) (x:=x) t (by simpa using e)
   exact ⟨u,by simpa using h1,h2⟩
theorem Vals.set {x:V} {u:Value} (r:RelV x u): ∀{xs:List V} {us:List Value} (i:Nat),Vals xs us→Vals (xs.set i x) (us.set i u)
 | _,_,_,.nil=> .nil
 | _,_,0,.cons _ t=> .cons r t
 | _,_,i + 1,.cons q t=> .cons q (Vals.set r i t)
theorem Vals.append: ∀{xs ys:List V} {us ws:List Value},Vals xs us→Vals ys ws→Vals (xs++ys) (us++ws)
 | _,_,_,_,.nil,s=>s
 | _,_,_,_,.cons r t,s=> .cons r (Vals.append t s)
noncomputable def RelO:Option V→Option Value→Prop
 | some v,some u=>RelV v u
 | none,none=>True
 | _,_=>False
noncomputable def KV {κ:Type}:List (κ×V)→List (κ×Value)→Prop:=Paired fun (p:κ×V) (q:κ×Value)=>p.1=q.1∧RelV p.2 q.2
noncomputable def kV:Key→V
 | .inl i=> .int i
 | .inr x=> .str x
inductive HO where
 | lst (xs:List V)
 | tup (xs:List V)
 | dK (kvs:List (Key×V)) | dT (kvs:List (List Key×V))
 | set (S:Int→Bool) (n:Nat)
 | ins (C dx:Addr) (fs:List (Str×V))
 | own (x:Addr)
 | xd (fs:List (Str×V))
 | met (f x:Addr)
 | rng (lo hi:Int)
 | frz (o:Obj) (u:HO)
 | tbl (ps:Array Value)
 | ext (φ:Heap→Prop)
noncomputable abbrev Hp:=Addr→Option HO
noncomputable def upd (H:Hp) (a:Addr) (o:HO):Hp:=fun b=>if b=a then some o else H b
theorem kad {H:Hp} {a:Addr} {o:HO}:upd H a o a=some o:=by unfold upd;rw [if_pos rfl]
theorem kah {H:Hp} {a b:Addr} {o:HO} (h:b≠a):upd H a o b=H b:=by unfold upd;rw [if_neg h]
theorem kxc {H:Hp} {a b:Addr} {o u:HO} (h:H a=some o) (h':H b=some u) (d:o≠u):a≠b:=by
 intro e;subst e;rw [h] at h';exact d (Option.some.inj h')
theorem kaf {H:Hp} {a b:Addr} {o:HO} (h:H a=some o) (h':H b=none):a≠b:=by
 intro e;subst e;rw [h] at h';cases h'
section
variable (P:Program) (w:World)
noncomputable def ObjOk (H:Hp) (h:Heap) (a:Addr):HO→Prop
 | .lst xs=>xs.length≤sizeLine∧∃(its:List Value) (n:Nat),Vals xs its∧h.get? a=some {cls:= .type "list",data:= .seq its.toArray n}
 | .tup xs=>xs.length≤sizeLine∧∃its:List Value,Vals xs its∧IsTup h a its.toArray
 | .dK kvs=>kvs.length≤sizeLine∧(a == sysModules)=false∧∃vs,KV kvs vs∧h.DictOf (kmg P w) a vs
 | .dT kvs=>kvs.length≤sizeLine∧(a == sysModules)=false∧∃xs:List (List Key×Addr×Value),
    Paired (fun (p:List Key×V) (q:List Key×Addr×Value)=>p.1=q.1∧H q.2.1=some (.tup (p.1.map kV))∧RelV p.2 q.2.2) kvs xs∧
    ∃o es ep,h.get? a=some o∧o.ExactDict∧o.data= .dict es ep∧es.toList=xs.map (entryOfKey (tupleKind (kmg P w)))∧(xs.map (·.1)).Nodup
 | .set S n=>h.SetOf (intKind P w) a S n
 | .ins C dx fs=>H dx=some (.own a)∧fs.length≤1000∧dx≠a∧h.get? a=some (PySem.W.instObj C dx)∧
    ∃mA,h.Ns1 dx mA∧(∀ f,RelO (fs.lookup f) (mA f))∧PySem.Within mA (fs.map (·.1))
 | .own _=>∃o,h.get? a=some o
 | .xd fs=>∃mA,h.Ns1 a mA∧∀f,RelO (fs.lookup f) (mA f)
 | .rng lo hi=>∃t u v,h.get? a=some {cls:= .type "range",data:= .fields #[.int lo t,.int hi u,.int 1 v]}
 | .frz o u=>h.get? a=some o∧ObjOk H h a u
 | .tbl ps=>h.get? a=some {cls:= .none,data:= .fields ps}
 | .met f x=>h.get? a=some (PySem.W.methodObj (.ref f) (.ref x))
 | .ext φ=>φ h∧(∃ o,h.get? a=some o)∧∀h1 h2:Heap,φ h1→(∀ o,h1.get? a=some o→h2.get? a=some o)→φ h2
noncomputable def HOk (H:Hp) (h:Heap):Prop:=∀a o,H a=some o→ObjOk P w H h a o
end
section
variable {P:Program} {w:World} {H H':Hp} {h h':Heap} {a:Addr} {o:HO}
theorem ObjOk.lt (x:ObjOk P w H h a o):a < h.objs.size:=by
 cases o with
 | lst xs=>obtain ⟨_,_,_,_,e⟩:=x;exact Heap.lt_size e
 | tup xs=>obtain ⟨_,_,_,p⟩:=x;exact p.lt
 | dK kvs=>obtain ⟨_,_,_,_,o,_,_,e,_⟩:=x;exact Heap.lt_size e
 | dT kvs=>obtain ⟨_,_,_,_,o,_,_,e,_⟩:=x;exact Heap.lt_size e
 | set S n=>obtain ⟨o,_,_,_,e,_⟩:=x;exact Heap.lt_size e
 | ins C dx fs=>obtain ⟨_,_,_,e,_⟩:=x;exact Heap.lt_size e
 | own y=>obtain ⟨_,e⟩:=x;exact Heap.lt_size e
 | xd fs=>obtain ⟨_,⟨_,_,_,e,_⟩,_⟩:=x;exact Heap.lt_size e
 | rng lo hi=>obtain ⟨_,_,_,e⟩:=x;exact Heap.lt_size e
 | frz ob u=>obtain ⟨e,_⟩:=x;exact Heap.lt_size e
 | tbl ps=>exact Heap.lt_size (show h.get? a=some _ from x)
 | met f y=>exact Heap.lt_size (show h.get? a=some _ from x)
 | ext φ=>obtain ⟨_,⟨_,e⟩,_⟩:=x;exact Heap.lt_size e
theorem Paired.mapP {α β:Type} {F G:α→β→Prop}: ∀{l₁:List α} {l₂:List β},Paired F l₁ l₂→(∀ a b,F a b→G a b)→Paired G l₁ l₂
 | _,_,.nil,_=> .nil
 | _,_,.cons r t,f=> .cons (f _ _ r) (Paired.mapP t f)
theorem ObjOk.stay (x:ObjOk P w H h a o) (k: ∀b u,(b=a∨H b=some (.own a))→h.get? b=some u→h'.get? b=some u)
 (ho: ∀b,H b=some (.own a)→H' b=some (.own a)) (ht: ∀b xs,H b=some (.tup xs)→H' b=some (.tup xs)):ObjOk P w H' h' a o:=by
 induction o with
 | lst xs=>obtain ⟨z,its,n,r,e⟩:=x;exact ⟨z,its,n,r,k _ _ (.inl rfl) e⟩
 | tup xs=>obtain ⟨z,its,r,ob,e,c⟩:=x;exact ⟨z,its,r,ob,k _ _ (.inl rfl) e,c⟩
 | dK kvs=>obtain ⟨z,y,vs,r,ob,es,ep,e,c⟩:=x;exact ⟨z,y,vs,r,ob,es,ep,k _ _ (.inl rfl) e,c⟩
 | dT kvs=>
   obtain ⟨z,y,xs,r,ob,es,ep,e,c⟩:=x
   exact ⟨z,y,xs,Paired.mapP r fun p q z=>⟨z.1,ht _ _ z.2.1,z.2.2⟩,ob,es,ep,k _ _ (.inl rfl) e,c⟩
 | set S n=>obtain ⟨ob,es,ep,t,e,c⟩:=x;exact ⟨ob,es,ep,t,k _ _ (.inl rfl) e,c⟩
 | ins C dx fs=>
   obtain ⟨d,z,ne,e,mA,⟨od,es,ep,e2,c⟩,r⟩:=x
   exact ⟨ho _ d,z,ne,k _ _ (.inl rfl) e,mA,⟨od,es,ep,k _ _ (.inr d) e2,c⟩,r⟩
 | own y=>obtain ⟨ob,e⟩:=x;exact ⟨ob,k _ _ (.inl rfl) e⟩
 | xd fs=>obtain ⟨mA,⟨od,es,ep,e,c⟩,r⟩:=x;exact ⟨mA,⟨od,es,ep,k _ _ (.inl rfl) e,c⟩,r⟩
 | rng lo hi=>obtain ⟨t,u,v,e⟩:=x;exact ⟨t,u,v,k _ _ (.inl rfl) e⟩
 | frz ob u ih=>obtain ⟨e,q⟩:=x;exact ⟨k _ _ (.inl rfl) e,ih q⟩
 | tbl ps=>
   have e:h.get? a=some {cls:= .none,data:= .fields ps}:=x
   show h'.get? a=some {cls:= .none,data:= .fields ps}
   exact k a _ (.inl rfl) e
 | met f y=>
   have e:h.get? a=some (PySem.W.methodObj (.ref f) (.ref y)):=x
   show h'.get? a=some (PySem.W.methodObj (.ref f) (.ref y))
   exact k a _ (.inl rfl) e
 | ext φ=>obtain ⟨p,⟨o,e⟩,st⟩:=x;exact ⟨st _ _ p fun o q=>k _ _ (.inl rfl) q,⟨o,k _ _ (.inl rfl) e⟩,st⟩
theorem HOk.lt (x:HOk P w H h) (e:H a=some o):a < h.objs.size:=(x a o e).lt
theorem HOk.fresh (x:HOk P w H h) (e:h.objs.size≤a):H a=none:=by
 cases q:H a with
 | none=>rfl
 | some u=>exact absurd (Nat.lt_of_lt_of_le (x.lt q) e) (Nat.lt_irrefl _)
theorem HOk.kept (x:HOk P w H h) (k: ∀b u,h.get? b=some u→h'.get? b=some u):HOk P w H h':=fun a o e=>
 (x a o e).stay (fun b u q_ q=>k b u q) (fun q_ q=>q) fun q_ q_ q=>q
theorem HOk.laid (x:HOk P w H h) (k: ∀b u,h.get? b=some u→h'.get? b=some u) (hp:h.objs.size≤a) (new:ObjOk P w (upd H a o) h' a o):HOk P w (upd H a o) h':=fun b u e=>by
 have hn:=x.fresh hp
 by_cases hb:b=a
 · subst hb;rw [kad] at e;cases e;exact new
 · rw [kah hb] at e
   exact (x b u e).stay (fun c v q_ q=>k c v q) (fun c q=>by rw [kah (kaf q hn)];exact q) fun c xs q=>by rw [kah (kaf q hn)];exact q
end
noncomputable def Rd (H:Hp) (a:Addr) (u:HO):Prop:=H a=some u∨∃o,H a=some (.frz o u)
theorem Rd.ok {P:Program} {w:World} {H:Hp} {h:Heap} {a:Addr} {u:HO} (r:Rd H a u) (x:HOk P w H h):ObjOk P w H h a u:=by
 rcases r with r | ⟨o,r⟩
 · exact x a u r
 · obtain ⟨_,q⟩:=x a _ r
   exact q
noncomputable def Mut:Option HO→Prop
 | some (.lst _)=>True
 | some (.dK _)=>True
 | some (.dT _)=>True
 | some (.set _ _)=>True
 | some (.ins _ _ _)=>True
 | some (.ext _)=>True
 | _=>False
section
variable {P:Program} {w:World} {H:Hp} {h h':Heap} {x e:Addr} {o':HO}
theorem HOk.write (ok:HOk P w H h) (mu:Mut (H x)) (he:e=x∨H e=some (.own x)) (k: ∀b u,b≠e→h.get? b=some u→h'.get? b=some u) (heo: ∃u,h'.get? e=some u)
 (new:ObjOk P w (upd H x o') h' x o'):HOk P w (upd H x o') h':=fun b u q=>by
 have nown: ∀c y,H c=some (.own y)→c≠x:=fun c y r z=>by subst z;rw [r] at mu;exact mu
 have ntup: ∀c xs,H c=some (.tup xs)→c≠x:=fun c xs r z=>by subst z;rw [r] at mu;exact mu
 by_cases hb:b=x
 · subst hb;rw [kad] at q;cases q;exact new
 · rw [kah hb] at q
   by_cases hbe:b=e
   · have q':H b=some (.own x):=by
      rcases he with z | z
      · exact absurd (hbe.trans z) hb
      · rw [hbe];exact z
     rw [q] at q';cases q'
     obtain ⟨v,hv⟩:=heo
     exact ⟨v,by rw [hbe];exact hv⟩
   · refine (ok b u q).stay (fun c v hc r=>k c v ?_ r) (fun c r=>by rw [kah (nown c b r)];exact r) fun c xs r=>by rw [kah (ntup c xs r)];exact r
     rcases hc with rfl | hc
     · exact hbe
     · rintro rfl
       rcases he with z | z
       · exact nown c b hc z
       · rw [hc] at z;cases z;exact hb rfl
end
structure Un (fs ex:List Addr) (H H':Hp) (h h':Heap):Prop where
 keep: ∀b o,h.get? b=some o→H b=none→b ∉ fs→b ∉ ex→h'.get? b=some o
 slot: ∀b o,h.get? b=some o→H b=none→b∈fs→b ∉ ex→∃sl,h'.get? b=some {o with slots:=sl}
 free: ∀b o,h.get? b=some o→H b=none→b ∉ ex→H' b=none
 there: ∀b o,h.get? b=some o→b ∉ ex→∃o',h'.get? b=some o'
 tups: ∀b xs,H b=some (.tup xs)→H' b=some (.tup xs)
 frzs: ∀b o u,H b=some (.frz o u)→H' b=some (.frz o u)
 tbls: ∀b ps,H b=some (.tbl ps)→∃more,H' b=some (.tbl (ps++more))
section
variable {fs fs' ex ex':List Addr} {H H1 H2:Hp} {h h1 h2 h':Heap} {a x e:Addr} {o:HO}
theorem Un.any (u:Un fs ex H H1 h h1) {b:Addr} {ob:Obj} (q:h.get? b=some ob) (n:H b=none) (hx:b ∉ ex): ∃sl,h1.get? b=some {ob with slots:=sl}:=by
 by_cases hb:b∈fs
 · exact u.slot b ob q n hb hx
 · exact ⟨ob.slots,u.keep b ob q n hb hx⟩
theorem Un.kept (k: ∀b u,h.get? b=some u→h'.get? b=some u):Un fs ex H H h h':=
 ⟨fun b ob q q_ q_ q_=>k b ob q,fun b ob q q_ q_ q_=>⟨ob.slots,k b ob q⟩,fun q_ q_ q_ n q_=>n,fun b ob q q_=>⟨ob,k b ob q⟩,fun q_ q_ q=>q,fun q_ q_ q_ q=>q,fun q_ ps q=>⟨#[],by rw [q];simp⟩⟩
theorem Un.refl:Un fs ex H H h h:=Un.kept fun q_ q_ q=>q
theorem Un.laid (k: ∀b u,h.get? b=some u→h'.get? b=some u) (hp:h.objs.size≤a) (hn:H a=none):Un fs ex H (upd H a o) h h' where
 keep:=fun b u q q_ q_ q_=>k b u q
 slot:=fun b u q q_ q_ q_=>⟨u.slots,k b u q⟩
 free:=fun b u q n q_=>by rw [kah (Nat.ne_of_lt (Nat.lt_of_lt_of_le (Heap.lt_size q) hp))];exact n
 there:=fun b u q q_=>⟨u,k b u q⟩
 tups:=fun b xs q=>by rw [kah (kaf q hn)];exact q
 frzs:=fun b u xs q=>by rw [kah (kaf q hn)];exact q
 tbls:=fun b ps q=>⟨#[],by rw [kah (kaf q hn),q];simp⟩
theorem Un.write (mu:Mut (H x)) (he:e=x∨H e=some (.own x)) (k: ∀b u,b≠e→h.get? b=some u→h'.get? b=some u) (heo: ∃u,h'.get? e=some u):Un fs ex H (upd H x o) h h':=by
 have hx: ∀b,H b=none→b≠x:=fun b n z=>by subst z;rw [n] at mu;exact mu
 have hb: ∀b,H b=none→b≠e:=fun b n z=>by
  subst z
  rcases he with r | r
  · exact hx b n r
  · rw [n] at r;cases r
 have hm: ∀b u,H b=some u→¬Mut (some u)→b≠x:=fun b u q nm z=>by subst z;rw [q] at mu;exact nm mu
 refine ⟨fun b u q n q_ q_=>k b u (hb b n) q,fun b u q n q_ q_=>⟨u.slots,k b u (hb b n) q⟩,fun b u q n q_=>by rw [kah (hx b n)];exact n,fun b u q q_=> ?_,
  fun b xs q=>by rw [kah (hm b _ q fun z=>z)];exact q,fun b u xs q=>by rw [kah (hm b _ q fun z=>z)];exact q,fun b ps q=>⟨#[],by rw [kah (hm b _ q fun z=>z),q];simp⟩⟩
 by_cases hbe:b=e
 · subst hbe;exact heo
 · exact ⟨u,k b u hbe q⟩
end
noncomputable def trk (h:Heap) (H:Hp):List Addr:=(List.range h.objs.size).filter fun a=>(H a).isSome
noncomputable def kqe (h:Heap) (H:Hp):Heap:=PySem.W.hideAll h (trk h H)
theorem kmh (h:Heap) (H:Hp):(kqe h H).objs.size=h.objs.size:=PySem.W.hideAll_size _ _
theorem kqf {h:Heap} {H:Hp} {b:Addr} {o:Obj} (e:h.get? b=some o) (n:H b=none):(kqe h H).get? b=some o:=
 PySem.W.hideAll_get _ e fun hm=>by
  have q:(H b).isSome=true:=(List.mem_filter.mp hm).2
  rw [n] at q;simp at q
theorem kt3 {h:Heap} {H:Hp} {b:Addr} {o:Obj} (e:(kqe h H).get? b=some o):h.get? b=some o∧H b=none:=by
 have e':h.get? b=some o:=PySem.W.of_hideAll (trk h H) e
 refine ⟨e',?_⟩
 cases q:H b with
 | none=>rfl
 | some x=>
   have hm:b∈trk h H:=List.mem_filter.mpr ⟨List.mem_range.mpr (Heap.lt_size e'),by simp [q]⟩
   have z:(kqe h H).get? b=none:=PySem.W.hideAll_none (trk h H) hm
   rw [z] at e;cases e
noncomputable def kt4 (g h:Heap) (L:Addr):List (Addr×Obj):=(List.range h.objs.size).filterMap fun a=>if a=L∨(g.get? a).isSome=true then none else (h.get? a).map fun o=>(a,o)
noncomputable def kc4 (g h:Heap) (L d:Addr):List (Addr×Obj):=(kt4 g h L).filter fun p=>decide (p.1≠d)
end L2
namespace L2
open PySem PySem.Spec PyProof.Rows
structure Mod (K:PySem.W.Frag) (mg:Str→Option Value) (base:Heap):Prop where
 kin:K.In base
 glob:base.Ns mainGlobals mg
 blt: ∃mb,base.Ns builtinsNs mb∧∀x:Str,x≠"__name__"→mb x=bootBuiltins x
 nolimit:base.NoLimit
structure Cx where
 prog:Program
 w:World
 K:PySem.W.Frag
 mg:Str→Option Value
 base:Heap
 A:Around
 N:List Str
 s₀:Shared
 H₀:Hp
 env:Env
 outer:List Env
 stack:List Env
 ex:List Addr
 fn:Str→Bool
 calm:Bool
 pn:List (Addr×Obj)
 xe:Value→Shared→Prop
noncomputable def frs (l:List Env):List Addr:=l.filterMap (·.frame)
noncomputable abbrev Cx.fs (X:Cx):List Addr:=frs X.outer
noncomputable def Vis (sc:Scope) (x:Str):Prop:=sc.names.lookup x=some .local∨sc.names.lookup x=some .cell∨sc.names.lookup x=some .free
noncomputable def Loc (sc:Scope) (x:Str):Prop:=sc.names.lookup x=some .local∨sc.names.lookup x=some .cell
noncomputable def Look (env:Env) (h:Heap) (m:Str→Option Value) (x:Str) (u:Value):Prop:=
 (env.kindOf x=some .local∧m x=some u)∨((env.kindOf x=some .cell∨env.kindOf x=some .free)∧∃c,env.cells.lookup x=some c∧h.IsCell c (some u))
structure Cx.Ok (X:Cx):Prop where
 mod:Mod X.K X.mg X.base
 kind:X.env.scope.kind= .function
 glob:X.env.globals=mainGlobals
 blt:X.env.builtins=builtinsNs
 above:X.s₀.heap.objs.size≤X.env.locals
 inj: ∀x y c,X.env.cells.lookup x=some c→X.env.cells.lookup y=some c→x=y
 has: ∀x,(X.env.kindOf x=some .cell∨X.env.kindOf x=some .free)→∃c,X.env.cells.lookup x=some c
 cab: ∀x c,X.fn x=true→X.env.cells.lookup x=some c→X.s₀.heap.objs.size≤c
 hd:X.calm=true→X.A.handled=none
 frames:X.A.frames=some X.stack
 stk:X.stack=X.outer∨(X.stack=X.env::X.outer∧X.env.frame=some X.env.locals)
 exf: ∀b∈X.ex,b≠X.env.locals∧∀x c,X.env.cells.lookup x=some c→c≠b
 bs: ∀b o,X.base.get? b=some o→X.s₀.heap.get? b=some o∧X.H₀ b=none
 bsz:X.base.objs.size≤X.s₀.heap.objs.size
 noex: ∀b o,X.base.get? b=some o→b ∉ X.ex
 exfs: ∀b∈X.ex,b ∉ X.fs
 funs:X.s₀.heap.FunFrames X.base X.outer
 frf: ∀b∈X.fs,X.H₀ b=none
structure Inv (X:Cx) (pins:List (Addr×Obj)) (σ:List (Option V)) (H:Hp) (s:Shared):Prop where
 ok:X.Ok
 os:s.os=X.s₀.os
 bare:AllBare s.gens
 base:Un X.fs X.ex X.H₀ H X.s₀.heap s.heap
 loc: ∃m,s.heap.Ns X.env.locals m∧∀(i:Nat) (x:Str) (v:V),X.N[i]?=some x→σ[i]?=some (some v)→Vis X.env.scope x→∃u,RelV v u∧Look X.env s.heap m x u
 cell: ∀x c,X.env.cells.lookup x=some c→∃v,s.heap.IsCell c v
 free:H X.env.locals=none
 freeC: ∀x c,X.env.cells.lookup x=some c→H c=none
 pin: ∀p∈X.pn++pins,s.heap.get? p.1=some p.2∧H p.1=none∧p.1≠X.env.locals∧p.1 ∉ X.fs∧∀v,p.2.data≠ .cell v
 hok:HOk X.prog X.w H s.heap
 len:σ.length=X.N.length
section
variable {X:Cx} {pins:List (Addr×Obj)} {σ:List (Option V)} {H H':Hp} {s:Shared} {h':Heap}
theorem Cx.Ok.nofr (ok:X.Ok) {b:Addr} {o:Obj} (e:X.base.get? b=some o):b ∉ X.fs:=fun hb=>by
 have:=(ok.funs.mem hb).1
 rw [e] at this;cases this
theorem Inv.bs (I:Inv X pins σ H s): ∀b o,X.base.get? b=some o→s.heap.get? b=some o∧H b=none:=fun b o e=>
 ⟨I.base.keep b o (I.ok.bs b o e).1 (I.ok.bs b o e).2 (I.ok.nofr e) (I.ok.noex b o e),I.base.free b o (I.ok.bs b o e).1 (I.ok.bs b o e).2 (I.ok.noex b o e)⟩
theorem Inv.bk (I:Inv X pins σ H s): ∀b o,X.base.get? b=some o→s.heap.get? b=some o:=fun b o e=>(I.bs b o e).1
theorem Inv.mod (I:Inv X pins σ H s):Mod X.K X.mg X.base:=I.ok.mod
theorem Inv.kIn (I:Inv X pins σ H s):X.K.In s.heap:=I.ok.mod.kin.keeps I.bk
theorem Inv.lt (I:Inv X pins σ H s):X.env.locals < s.heap.objs.size:=let ⟨_,hn,_⟩:=I.loc;hn.lt
theorem Inv.sz (I:Inv X pins σ H s):X.s₀.heap.objs.size≤s.heap.objs.size:=Nat.le_trans I.ok.above (Nat.le_of_lt I.lt)
theorem Inv.nofs (I:Inv X pins σ H s) {a:Addr} (h:s.heap.objs.size≤a):a ∉ X.fs:=fun hb=>by
 obtain ⟨_,o,ho,_⟩:=I.ok.funs.mem hb
 exact absurd (Nat.lt_of_lt_of_le (Heap.lt_size ho) (Nat.le_trans I.sz h)) (Nat.lt_irrefl _)
theorem Inv.cne (I:Inv X pins σ H s): ∀x c,X.env.cells.lookup x=some c→c≠X.env.locals:=fun x c e z=>by
 obtain ⟨v,o,ho,hd⟩:=I.cell x c e
 obtain ⟨m,⟨o',es,ep,ho',hd',_⟩,_⟩:=I.loc
 rw [z,ho'] at ho;cases ho;rw [hd'] at hd;cases hd
theorem Inv.funs (I:Inv X pins σ H s):s.heap.FunFrames X.base X.outer:=by
 have all: ∀(l:List Env),(∀ b∈frs l,b∈X.fs)→X.s₀.heap.FunFrames X.base l→s.heap.FunFrames X.base l:=by
  intro l
  induction l with
  | nil=>intro q_ q_;trivial
  | cons env r ih=>
    intro hs hl
    obtain ⟨hk,⟨L,o,hf,hn,ho,hd⟩,hr⟩:=hl
    have hL:L∈X.fs:=hs L (by unfold frs;rw [List.filterMap_cons,hf];exact List.mem_cons_self)
    obtain ⟨sl,e⟩:=I.base.slot L o ho (I.ok.frf L hL) hL fun z=>I.ok.exfs L z hL
    exact ⟨hk,⟨L,_,hf,hn,e,hd⟩,ih (fun b hb=>hs b (by unfold frs;rw [List.filterMap_cons,hf];exact List.mem_cons_of_mem _ hb)) hr⟩
 exact all X.outer (fun q_ hb=>hb) I.ok.funs
theorem Inv.stack (I:Inv X pins σ H s):s.heap.FunFrames X.base X.stack:=by
 rcases I.ok.stk with e | ⟨e,hf⟩
 · rw [e];exact I.funs
 · rw [e]
   obtain ⟨m,hn,_⟩:=I.loc
   refine .cons (by rw [I.ok.kind];decide) hf hn ?_ I.funs
   exact Heap.get?_none_of_le (Nat.le_trans I.ok.bsz I.ok.above)
theorem Inv.stkSub (I:Inv X pins σ H s): ∀b∈frs X.stack,b∈X.env.locals::X.fs:=fun b hb=>by
 rcases I.ok.stk with e | ⟨e,hf⟩
 · rw [e] at hb;exact List.mem_cons_of_mem _ hb
 · rw [e] at hb
   unfold frs at hb
   rw [List.filterMap_cons,hf] at hb
   exact hb
theorem Inv.stkFree (I:Inv X pins σ H s): ∀b∈frs X.stack,H b=none:=fun b hb=>by
 rcases List.mem_cons.mp (I.stkSub b hb) with e | hb
 · rw [e];exact I.free
 · obtain ⟨_,o,ho,_⟩:=I.ok.funs.mem hb
   exact I.base.free b o ho (I.ok.frf b hb) fun z=>I.ok.exfs b z hb
theorem Inv.step {g':Array GenState} {t':Nat} {d':Drawn} {ch:List Addr} (I:Inv X pins σ H s)
 (hch: ∀b∈ch,(b∈X.ex∨X.s₀.heap.objs.size≤b)∧b≠X.env.locals∧(∀ x c,X.env.cells.lookup x=some c→c≠b)∧∀p∈X.pn++pins,p.1≠b)
 (keep: ∀b o,b≠X.env.locals→b ∉ X.fs→b ∉ ch→s.heap.get? b=some o→H b=none→h'.get? b=some o)
 (slot: ∀b o,b≠X.env.locals→b∈X.fs→b ∉ ch→s.heap.get? b=some o→H b=none→∃sl,h'.get? b=some {o with slots:=sl}) (free: ∀b o,b ∉ ch→s.heap.get? b=some o→H b=none→H' b=none)
 (there: ∀b o,b ∉ ch→s.heap.get? b=some o→∃o',h'.get? b=some o')
 (tups: ∀b xs,H b=some (.tup xs)→H' b=some (.tup xs)) (frzs: ∀b o u,H b=some (.frz o u)→H' b=some (.frz o u)) (tbls: ∀b ps,H b=some (.tbl ps)→∃more,H' b=some (.tbl (ps++more)))
 (ns: ∀m,s.heap.Ns X.env.locals m→h'.Ns X.env.locals m) (hok:HOk X.prog X.w H' h') (hg:AllBare g'):
 Inv X pins σ H' {s with heap:=h',gens:=g',drawn:=d',toks:=t'}:=by
 have neL: ∀b o,X.s₀.heap.get? b=some o→b≠X.env.locals:=fun b o e=>Nat.ne_of_lt (Nat.lt_of_lt_of_le (Heap.lt_size e) I.ok.above)
 have neC: ∀b o,X.s₀.heap.get? b=some o→b ∉ X.ex→b ∉ ch:=fun b o e hx hb=>by
  rcases (hch b hb).1 with z | z
  · exact hx z
  · exact absurd (Nat.lt_of_lt_of_le (Heap.lt_size e) z) (Nat.lt_irrefl _)
 have cellK: ∀x c,X.env.cells.lookup x=some c→∀v,s.heap.IsCell c v→h'.IsCell c v:=fun x c e v ⟨o,ho,hd⟩=>by
  have nch:c ∉ ch:=fun z=>(hch c z).2.2.1 x c e rfl
  by_cases hc:c∈X.fs
  · obtain ⟨sl,q⟩:=slot c o (I.cne x c e) hc nch ho (I.freeC x c e)
    exact ⟨_,q,hd⟩
  · exact ⟨o,keep c o (I.cne x c e) hc nch ho (I.freeC x c e),hd⟩
 refine ⟨I.ok,I.os,hg,⟨fun b o e n hb hx=> ?_,fun b o e n hb hx=> ?_,fun b o e n hx=> ?_,fun b o e hx=> ?_,fun b xs e=>tups b xs (I.base.tups b xs e),fun b o xs e=>frzs b o xs (I.base.frzs b o xs e),fun b ps e=> ?_⟩,?_,fun x c e=> ?_,?_,fun x c e=> ?_,fun p hp=> ?_,hok,I.len⟩
 · exact keep b o (neL b o e) hb (neC b o e hx) (I.base.keep b o e n hb hx) (I.base.free b o e n hx)
 · obtain ⟨sl,e1⟩:=I.base.slot b o e n hb hx
   obtain ⟨sl',e2⟩:=slot b _ (neL b o e) hb (neC b o e hx) e1 (I.base.free b o e n hx)
   exact ⟨sl',e2⟩
 · obtain ⟨o',e1⟩:=I.base.there b o e hx
   exact free b o' (neC b o e hx) e1 (I.base.free b o e n hx)
 · obtain ⟨o',e1⟩:=I.base.there b o e hx
   exact there b o' (neC b o e hx) e1
 · obtain ⟨m1,e1⟩:=I.base.tbls b ps e
   obtain ⟨m2,e2⟩:=tbls b _ e1
   exact ⟨m1++m2,by rw [e2,Array.append_assoc]⟩
 · obtain ⟨m,hn,hl⟩:=I.loc
   refine ⟨m,ns m hn,fun i x v e1 e2 e3=> ?_⟩
   obtain ⟨u,r,l⟩:=hl i x v e1 e2 e3
   refine ⟨u,r,?_⟩
   rcases l with l | ⟨k,c,e,z⟩
   · exact .inl l
   · exact .inr ⟨k,c,e,cellK x c e _ z⟩
 · obtain ⟨v,z⟩:=I.cell x c e
   exact ⟨v,cellK x c e v z⟩
 · obtain ⟨m,⟨o,_,_,ho,_⟩,_⟩:=I.loc
   exact free _ o (fun z=>(hch _ z).2.1 rfl) ho I.free
 · obtain ⟨v,o,ho,hd⟩:=I.cell x c e
   exact free c o (fun z=>(hch c z).2.2.1 x c e rfl) ho (I.freeC x c e)
 · obtain ⟨e,n,ne,nf,d⟩:=I.pin p hp
   have nch:p.1 ∉ ch:=fun z=>(hch p.1 z).2.2.2 p hp rfl
   exact ⟨keep p.1 p.2 ne nf nch e n,free p.1 p.2 nch e n,ne,nf,d⟩
theorem Inv.un {t':Nat} (I:Inv X pins σ H s) (u:Un X.fs [] H H' s.heap h') (hok:HOk X.prog X.w H' h'):Inv X pins σ H' {s with heap:=h',toks:=t'}:=by
 obtain ⟨m,⟨o,es,ep,ho,r⟩,_⟩:=id I.loc
 obtain ⟨sl,hL⟩:=u.any ho I.free (by simp)
 exact I.step (g':=s.gens) (d':=s.drawn) (ch:=[]) (fun q_ z=>nomatch z) (fun b o q_ hb q_ e n=>u.keep b o e n hb (by simp)) (fun b o q_ hb q_ e n=>u.slot b o e n hb (by simp)) (fun b o q_ e n=>u.free b o e n (by simp)) (fun b o q_ e=>u.there b o e (by simp)) u.tups u.frzs u.tbls (fun m' hm=>by
  obtain ⟨o',es',ep',ho',r'⟩:=hm
  rw [ho] at ho';cases ho'
  exact ⟨_,es',ep',hL,r'⟩) hok I.bare
theorem Inv.call {g':Array GenState} {t':Nat} {d':Drawn} {ch:List Addr} (I:Inv X pins σ H s) (u:Un (frs X.stack) ch H H' s.heap h') (hok:HOk X.prog X.w H' h') (hg:AllBare g')
 (hch: ∀b∈ch,(b∈X.ex∨X.s₀.heap.objs.size≤b)∧b≠X.env.locals∧(∀ x c,X.env.cells.lookup x=some c→c≠b)∧∀p∈X.pn++pins,p.1≠b):
 Inv X pins σ H' {s with heap:=h',gens:=g',drawn:=d',toks:=t'}:=by
 obtain ⟨m,⟨o,es,ep,ho,r⟩,_⟩:=id I.loc
 obtain ⟨sl,hL⟩:=u.any ho I.free fun z=>(hch _ z).2.1 rfl
 exact I.step (ch:=ch) hch (fun b o hL hb hc e n=>u.keep b o e n (fun z=>(List.mem_cons.mp (I.stkSub b z)).elim hL hb) hc) (fun b o q_ q_ hc e n=>u.any e n hc) (fun b o hc e n=>u.free b o e n hc) (fun b o hc e=>u.there b o e hc) u.tups u.frzs u.tbls (fun m' hm=>by
  obtain ⟨o',es',ep',ho',r'⟩:=hm
  rw [ho] at ho';cases ho'
  exact ⟨_,es',ep',hL,r'⟩) hok hg
theorem Inv.turned {t':Nat} {it:Addr} (I:Inv X pins σ H s) (k: ∀b o,b≠it→s.heap.get? b=some o→h'.get? b=some o) (hn:H it=none) (hL:it≠X.env.locals)
 (h1:it∈X.ex∨X.s₀.heap.objs.size≤it) (h2: ∀x c,X.env.cells.lookup x=some c→c≠it) (h3: ∀p∈X.pn++pins,p.1≠it):Inv X pins σ H {s with heap:=h',toks:=t'}:=by
 have nit: ∀b u,H b=some u→b≠it:=fun b u e z=>by rw [z,hn] at e;cases e
 refine I.step (g':=s.gens) (d':=s.drawn) (ch:=[it]) (fun b hb=> ?_) (fun b o q_ q_ hc e q_=>k b o (fun z=>hc (by simp [z])) e) (fun b o q_ q_ hc e q_=>⟨o.slots,k b o (fun z=>hc (by simp [z])) e⟩) (fun q_ q_ q_ q_ n=>n)
  (fun b o hc e=>⟨o,k b o (fun z=>hc (by simp [z])) e⟩) (fun q_ q_ e=>e) (fun q_ q_ q_ e=>e) (fun b ps e=>⟨#[],by rw [e];simp⟩) (fun m hm=> ?_) (fun b u e=> ?_) I.bare
 · have e:b=it:=by simpa using hb
   subst e
   exact ⟨h1,hL,h2,h3⟩
 · obtain ⟨o,es,ep,ho,r⟩:=hm
   exact ⟨o,es,ep,k _ o (Ne.symm hL) ho,r⟩
 · refine (I.hok b u e).stay (fun c v hc q=>k c v ?_ q) (fun q_ q=>q) fun q_ q_ q=>q
   rcases hc with z | z
   · rw [z];exact nit b u e
   · exact nit c _ z
theorem Inv.tok (I:Inv X pins σ H s) (t:Nat):Inv X pins σ H {s with toks:=t}:=I.un (h':=s.heap) (t':=t) Un.refl I.hok
theorem Inv.kept {t':Nat} (I:Inv X pins σ H s) (k: ∀b u,s.heap.get? b=some u→h'.get? b=some u):Inv X pins σ H {s with heap:=h',toks:=t'}:=I.un (Un.kept k) (I.hok.kept k)
theorem Inv.laid {a:Addr} {o:HO} {t':Nat} (I:Inv X pins σ H s) (k: ∀b u,s.heap.get? b=some u→h'.get? b=some u) (hp:s.heap.objs.size≤a) (new:ObjOk X.prog X.w (upd H a o) h' a o):
 Inv X pins σ (upd H a o) {s with heap:=h',toks:=t'}:=I.un (Un.laid k hp (I.hok.fresh hp)) (I.hok.laid k hp new)
theorem Inv.write {x e:Addr} {o:HO} {t':Nat} (I:Inv X pins σ H s) (mu:Mut (H x)) (he:e=x∨H e=some (.own x)) (k: ∀b u,b≠e→s.heap.get? b=some u→h'.get? b=some u) (heo: ∃u,h'.get? e=some u)
 (new:ObjOk X.prog X.w (upd H x o) h' x o):Inv X pins σ (upd H x o) {s with heap:=h',toks:=t'}:=I.un (Un.write mu he k heo) (I.hok.write mu he k heo new)
theorem Inv.pins_of {pins':List (Addr×Obj)} (I:Inv X pins σ H s) (h: ∀p∈pins',s.heap.get? p.1=some p.2∧H p.1=none∧p.1≠X.env.locals∧p.1 ∉ X.fs∧∀v,p.2.data≠ .cell v):Inv X pins' σ H s:=
 ⟨I.ok,I.os,I.bare,I.base,I.loc,I.cell,I.free,I.freeC,fun p hp=>(List.mem_append.mp hp).elim (fun z=>I.pin p (List.mem_append_left _ z)) (h p),I.hok,I.len⟩
theorem kjr {N:List Str} (hN:N.Nodup) {i j:Nat} {x:Str} (a:N[i]?=some x) (b:N[j]?=some x):i=j:=by
 obtain ⟨h1,e1⟩:=List.getElem?_eq_some_iff.mp a
 obtain ⟨h2,e2⟩:=List.getElem?_eq_some_iff.mp b
 exact (List.getElem_inj hN).mp (e1.trans e2.symm)
theorem khs {M:Model} {A:Around} {E:Value→Shared→Prop} {i:Nat} {x:Str} {v:V} {u:Value} {Q:Unit→Shared→Prop} (I:Inv X pins σ H s) (hN:X.N.Nodup) (hi:X.N[i]?=some x) (hx:Loc X.env.scope x) (r:RelV v u)
 (h: ∀s',Inv X pins (σ.set i (some v)) H s'→(∃ a,Heap.SameBut a s.heap s'.heap∧(a=X.env.locals∨X.env.cells.lookup x=some a))→Q () s') (hf:autoParam (X.fn x=true∨X.env.scope.names.lookup x=some .local) u1._auto_1):wpAny M A (storeName X.env x u) Q E s:=by
 obtain ⟨m,hn,hl⟩:=id I.loc
 have hcls:(X.env.scope.kind == .class || (X.env.scope.kind == .module && X.env.locals != X.env.globals))=false:=by rw [I.ok.kind];rfl
 have hiσ:i < σ.length:=by rw [I.len];exact (List.getElem?_eq_some_iff.mp hi).1
 have cne:=I.cne
 have tracked: ∀{a:Addr} {h':Heap},(∃ o,s.heap.get? a=some o∧H a=none)→Heap.SameBut a s.heap h'→HOk X.prog X.w H h':=fun {a h'} ha hs b ob e=>by
  obtain ⟨_,_,hfree⟩:=ha
  refine (I.hok b ob e).stay (fun c w' hc q=>(hs.2 c ?_).trans q) (fun q_ q=>q) fun q_ q_ q=>q
  rintro rfl
  rcases hc with rfl | hc
  · rw [hfree] at e;cases e
  · rw [hfree] at hc;cases hc
 rcases hx with hk | hk
 · refine wpAny_storeName_local hk hn (fun h' hn' hs=> ?_) hcls
   obtain ⟨oL,_,_,hoL,_⟩:=id hn
   refine h _ ⟨I.ok,I.os,I.bare,⟨fun b o e n hb hx=> ?_,fun b o e n hb hx=> ?_,I.base.free,fun b o e hx=> ?_,I.base.tups,I.base.frzs,I.base.tbls⟩,⟨_,hn',fun j y v' e1 e2 e3=> ?_⟩,fun y c e=> ?_,I.free,I.freeC,fun p hp=> ?_,tracked ⟨oL,hoL,I.free⟩ hs,by simpa using I.len⟩ ⟨_,hs,.inl rfl⟩
   · exact (hs.2 b (Nat.ne_of_lt (Nat.lt_of_lt_of_le (Heap.lt_size e) I.ok.above))).trans (I.base.keep b o e n hb hx)
   · obtain ⟨sl,e1⟩:=I.base.slot b o e n hb hx
     exact ⟨sl,(hs.2 b (Nat.ne_of_lt (Nat.lt_of_lt_of_le (Heap.lt_size e) I.ok.above))).trans e1⟩
   · obtain ⟨o',e1⟩:=I.base.there b o e hx
     exact ⟨o',(hs.2 b (Nat.ne_of_lt (Nat.lt_of_lt_of_le (Heap.lt_size e) I.ok.above))).trans e1⟩
   · by_cases hj:j=i
     · subst hj
       rw [hi] at e1;cases e1
       rw [List.getElem?_set_self hiσ] at e2
       cases e2
       exact ⟨u,r,.inl ⟨hk,by simp⟩⟩
     · rw [List.getElem?_set_ne (Ne.symm hj)] at e2
       obtain ⟨u',r',q⟩:=hl j y v' e1 e2 e3
       refine ⟨u',r',?_⟩
       rcases q with ⟨k,e⟩ | ⟨k,c,e,z⟩
       · refine .inl ⟨k,?_⟩
         have:y≠x:=fun e=>hj (kjr hN e1 (e▸hi))
         simp [this,e]
       · exact .inr ⟨k,c,e,z.sameBut hs (cne y c e)⟩
   · obtain ⟨w',z⟩:=I.cell y c e
     exact ⟨w',z.sameBut hs (cne y c e)⟩
   · obtain ⟨e,n,ne,nf,d⟩:=I.pin p hp
     exact ⟨(hs.2 p.1 ne).trans e,n,ne,nf,d⟩
 · have hfn:X.fn x=true:=by
    rcases hf with z | z
    · exact z
    · rw [z] at hk;cases hk
   obtain ⟨c,hc⟩:=I.ok.has x (.inl hk)
   obtain ⟨w',z⟩:=I.cell x c hc
   refine wpAny_storeName_cell I.ok.kind hk hc z (fun h' hc' hs=> ?_)
   obtain ⟨oc,hoc,hocd⟩:=id z
   refine h {s with heap:=h'} ⟨I.ok,I.os,I.bare,⟨fun b o e n hb hx=> ?_,fun b o e n hb hx=> ?_,I.base.free,fun b o e hx=> ?_,I.base.tups,I.base.frzs,I.base.tbls⟩,⟨m,hn.sameBut hs (Ne.symm (cne x c hc)),fun j y v' e1 e2 e3=> ?_⟩,fun y c' e=> ?_,I.free,I.freeC,fun p hp=> ?_,tracked ⟨oc,hoc,I.freeC x c hc⟩ hs,by simpa using I.len⟩ ⟨c,hs,.inr hc⟩
   · exact (hs.2 b (Nat.ne_of_lt (Nat.lt_of_lt_of_le (Heap.lt_size e) (I.ok.cab x c hfn hc)))).trans (I.base.keep b o e n hb hx)
   · obtain ⟨sl,e1⟩:=I.base.slot b o e n hb hx
     exact ⟨sl,(hs.2 b (Nat.ne_of_lt (Nat.lt_of_lt_of_le (Heap.lt_size e) (I.ok.cab x c hfn hc)))).trans e1⟩
   · obtain ⟨o',e1⟩:=I.base.there b o e hx
     exact ⟨o',(hs.2 b (Nat.ne_of_lt (Nat.lt_of_lt_of_le (Heap.lt_size e) (I.ok.cab x c hfn hc)))).trans e1⟩
   · by_cases hj:j=i
     · subst hj
       rw [hi] at e1;cases e1
       rw [List.getElem?_set_self hiσ] at e2
       cases e2
       exact ⟨u,r,.inr ⟨.inl hk,c,hc,hc'⟩⟩
     · rw [List.getElem?_set_ne (Ne.symm hj)] at e2
       obtain ⟨u',r',q⟩:=hl j y v' e1 e2 e3
       refine ⟨u',r',?_⟩
       rcases q with q | ⟨k,c',e,z'⟩
       · exact .inl q
       · refine .inr ⟨k,c',e,z'.sameBut hs ?_⟩
         rintro rfl
         exact hj (kjr hN e1 (I.ok.inj _ _ _ e hc▸hi))
   · by_cases hcc:c'=c
     · subst hcc;exact ⟨_,hc'⟩
     · obtain ⟨w2,z2⟩:=I.cell y c' e
       exact ⟨w2,z2.sameBut hs hcc⟩
   · obtain ⟨e,n,ne,nf,d⟩:=I.pin p hp
     refine ⟨(hs.2 p.1 ?_).trans e,n,ne,nf,d⟩
     intro q
     rw [q,hoc] at e
     have q':oc=p.2:=Option.some.inj e
     exact d w' (by rw [← q'];exact hocd)
theorem kjs {M:Model} {A:Around} {E:Value→Shared→Prop} {i:Nat} {x:Str} {v:V} {u:Value} {Q:Unit→Shared→Prop} (I:Inv X pins σ H s) (hN:X.N.Nodup) (hi:X.N[i]?=some x) (hx:Loc X.env.scope x) (r:RelV v u)
 (h: ∀s',Inv X pins (σ.set i (some v)) H s'→Q () s') (hf:autoParam (X.fn x=true∨X.env.scope.names.lookup x=some .local) u1._auto_1):wpAny M A (storeName X.env x u) Q E s:=
 khs I hN hi hx r (fun s' I' q_=>h s' I') hf
theorem Inv.call' {s':Shared} {ch:List Addr} (I:Inv X pins σ H s) (ho:s'.os=s.os) (u:Un (frs X.stack) ch H H' s.heap s'.heap) (hok:HOk X.prog X.w H' s'.heap) (hg:AllBare s'.gens)
 (hch: ∀b∈ch,(b∈X.ex∨X.s₀.heap.objs.size≤b)∧b≠X.env.locals∧(∀ x c,X.env.cells.lookup x=some c→c≠b)∧∀p∈X.pn++pins,p.1≠b):Inv X pins σ H' s':=by
 obtain ⟨h',g',d',t',o'⟩:=s'
 have e:o'=s.os:=ho
 subst e
 exact I.call (g':=g') (t':=t') (d':=d') u hok hg hch
end
noncomputable abbrev XK:=Value→Option Addr→Hp→Prop
noncomputable abbrev St:=List (Option V)
noncomputable abbrev VK:=V→Hp→Prop
noncomputable abbrev TE:=St→Hp→VK→Prop
noncomputable abbrev TT:=St→Hp→(Bool→Hp→Prop)→Prop
noncomputable abbrev TA:=St→Hp→(List V→Hp→Prop)→Prop
structure Ends where
 nx:St→Hp→Prop
 rt:VK
 bk:St→Hp→Prop:=fun q_ q_=>False
 ct:St→Hp→Prop:=fun q_ q_=>False
noncomputable abbrev TS:=Ends→St→Hp→Prop
noncomputable def EP (X:Cx) (pins:List (Addr×Obj)) (σ:St) (Q:VK) (u:Value) (s':Shared):Prop:=∃v H',Inv X pins σ H' s'∧RelV v u∧Q v H'
noncomputable def TP (X:Cx) (pins:List (Addr×Obj)) (σ:St) (Q:Bool→Hp→Prop) (b:Bool) (s':Shared):Prop:=∃H',Inv X pins σ H' s'∧Q b H'
noncomputable def AP (X:Cx) (pins:List (Addr×Obj)) (σ:St) (Q:List V→Hp→Prop) (us:List Value) (s':Shared):Prop:=∃vs H',Inv X pins σ H' s'∧Vals vs us∧Q vs H'
noncomputable def SP (X:Cx) (pins:List (Addr×Obj)) (D:Ends) (f:Flow) (s':Shared):Prop:=
 match f with
 | .next=>∃σ' H',Inv X pins σ' H' s'∧D.nx σ' H'
 | .brk=>∃σ' H',Inv X pins σ' H' s'∧D.bk σ' H'
 | .cont=>∃σ' H',Inv X pins σ' H' s'∧D.ct σ' H'
 | .ret u=>∃v σ' H',Inv X pins σ' H' s'∧RelV v u∧D.rt v H'
noncomputable def PE (X:Cx) (e:Expr) (t:TE):Prop:=
 ∀(pins:List (Addr×Obj)) (s:Shared) (σ:St) (H:Hp) (Q:VK),Inv X pins σ H s→t σ H Q→wpAny (model X.prog X.w) X.A (eval e X.env) (EP X pins σ Q) X.xe s
noncomputable def PT (X:Cx) (e:Expr) (t:TT):Prop:=
 ∀(pins:List (Addr×Obj)) (s:Shared) (σ:St) (H:Hp) (Q:Bool→Hp→Prop),Inv X pins σ H s→t σ H Q→wpAny (model X.prog X.w) X.A (isTrue e X.env (eval e X.env)) (TP X pins σ Q) X.xe s
noncomputable def PW (X:Cx) (e:Expr) (t:TT):Prop:=
 ∀(whole:Sem Value) (pins:List (Addr×Obj)) (s:Shared) (σ:St) (H:Hp) (Q:Bool→Hp→Prop),Inv X pins σ H s→t σ H Q→wpAny (model X.prog X.w) X.A (isTrue e X.env whole) (TP X pins σ Q) X.xe s
theorem PW.pt {X:Cx} {e:Expr} {t:TT} (h:PW X e t):PT X e t:=h _
noncomputable def PA (X:Cx) (es:List Expr) (t:TA):Prop:=
 ∀(pos:Pos) (pins:List (Addr×Obj)) (s:Shared) (σ:St) (H:Hp) (Q:List V→Hp→Prop),Inv X pins σ H s→t σ H Q→wpAny (model X.prog X.w) X.A (spliced (backTo pos (starEach es X.env))) (AP X pins σ Q) X.xe s
noncomputable def PS (X:Cx) (st:Stmt) (t:TS):Prop:=
 ∀(pins:List (Addr×Obj)) (s:Shared) (σ:St) (H:Hp) (D:Ends),Inv X pins σ H s→t D σ H→wpAny (model X.prog X.w) X.A (exec st X.env) (SP X pins D) X.xe s
noncomputable def PSs (X:Cx) (st:List Stmt) (t:TS):Prop:=
 ∀(pins:List (Addr×Obj)) (s:Shared) (σ:St) (H:Hp) (D:Ends),Inv X pins σ H s→t D σ H→wpAny (model X.prog X.w) X.A (execs st X.env) (SP X pins D) X.xe s
theorem thn {α:Type} {t:Sem α} {Q Q':α→Shared→Prop} {M:Model} {A:Around} {E:Value→Shared→Prop} {s:Shared} (h:wpAny M A t Q E s) (hQ: ∀a s,Q a s→Q' a s):wpAny M A t Q' E s:=wpAny_mono h hQ fun q_ q_ x=>x
end L2
namespace L2
open PySem PySem.Spec PyProof.Rows
section
variable {X:Cx}
noncomputable def khr (i:Nat):TE:=fun σ H Q=>∃v,σ[i]?=some (some v)∧Q v H
noncomputable def tC (v:V):TE:=fun q_ H Q=>Q v H
theorem kxd {i:Nat} {x:Str} {pos:Pos} (hN:X.N[i]?=some x) (hv:Vis X.env.scope x) (hd:autoParam ((x == ("__debug__":Str))=false) u2._auto_1) (hcd:autoParam ((x == ("__classdict__":Str))=false) u2._auto_1):PE X (.Name x pos) (khr i):=by
 intro pins s σ H Q I h
 obtain ⟨v,e,h⟩:=h
 obtain ⟨m,hn,hl⟩:=I.loc
 obtain ⟨u,r,l⟩:=hl i x v hN e hv
 have fin:EP X pins σ Q u s:=⟨v,H,I,r,h⟩
 rcases l with ⟨hk,hm⟩ | ⟨hk,c,hc,hcell⟩
 · exact wpAny_Name (wpAny_loadName_local I.ok.kind hk hn hm fin) hd
 · rcases hk with hk | hk
   · exact wpAny_Name (wpAny_loadName_cell I.ok.kind hk hc hcell fin) hd
   · exact wpAny_Name (wpAny_loadName_free I.ok.kind hk hc hcell fin hcd) hd
theorem kar {i j pos}:PE X (.Constant (.int i) j pos) (tC (.int i)):=fun q_ q_ q_ H q_ I h=>wpAny_Constant_int ⟨.int i,H,I.tok _,⟨_,rfl⟩,h⟩
theorem kxe {b j pos}:PE X (.Constant (.bool b) j pos) (tC (.bl b)):=fun q_ q_ q_ H q_ I h=>Constant_bool ⟨.bl b,H,I,rfl,h⟩
theorem kxf {j pos}:PE X (.Constant .none j pos) (tC .non):=fun q_ q_ q_ H q_ I h=>Constant_none ⟨.non,H,I,rfl,h⟩
noncomputable def Gl (X:Cx) (x:Str):Prop:=X.env.kindOf x=some .globalImplicit
theorem kmi {E:Value→Shared→Prop} {pins:List (Addr×Obj)} {s:Shared} {σ:St} {H:Hp} {x:Str} {u:Value} {pos:Pos} {Q:Value→Shared→Prop} (I:Inv X pins σ H s) (hg:Gl X x) (hm:X.mg x=some u) (h:Q u s)
 (hd:autoParam ((x == ("__debug__":Str))=false) u2._auto_1):wpAny (model X.prog X.w) X.A (eval (.Name x pos) X.env) Q E s:=
 Calls.Name_function_global I.ok.kind hg (Calls.loadGlobal_global (by rw [I.ok.glob];exact I.mod.glob.keeps I.bk) hm h) hd
theorem kgg {E:Value→Shared→Prop} {pins:List (Addr×Obj)} {s:Shared} {σ:St} {H:Hp} {x:Str} {u:Value} {pos:Pos} {Q:Value→Shared→Prop} (I:Inv X pins σ H s) (hg:Gl X x) (hm:X.mg x=none) (hv:bootBuiltins x=some u) (h:Q u s)
 (hn:autoParam (x≠"__name__") u2._auto_1) (hd:autoParam ((x == ("__debug__":Str))=false) u2._auto_1):wpAny (model X.prog X.w) X.A (eval (.Name x pos) X.env) Q E s:=by
 obtain ⟨mb,h1,h2⟩:=I.mod.blt
 exact Calls.Name_function_global I.ok.kind hg (Calls.loadGlobal_builtin (by rw [I.ok.glob];exact I.mod.glob.keeps I.bk) hm (by rw [I.ok.blt];exact h1.keeps I.bk) ((h2 x hn).trans hv) h) hd
theorem kix {x:Str} {v:V} {u:Value} {pos:Pos} (hg:Gl X x) (hm:X.mg x=none) (hv:bootBuiltins x=some u) (r:RelV v u) (hn:autoParam (x≠"__name__") u2._auto_1) (hd:autoParam ((x == ("__debug__":Str))=false) u2._auto_1):PE X (.Name x pos) (tC v):=
 fun q_ q_ q_ H q_ I h=>kgg I hg hm hv ⟨v,H,I,r,h⟩ hn hd
variable {a b:Expr} {ta tb:TE} {pos:Pos}
noncomputable def PC (X:Cx) (op:CmpOp) (a b:Expr) (t:TE):Prop:=
 ∀(pins:List (Addr×Obj)) (s:Shared) (σ:St) (H:Hp) (Q:VK),Inv X pins σ H s→t σ H Q→
  wpAny (model X.prog X.w) X.A (eval a X.env) (fun v s₁=>wpAny (model X.prog X.w) X.A (eval b X.env) (fun u s₂=>wpAny (model X.prog X.w) X.A (compareOp op v u) (EP X pins σ Q) X.xe s₂) X.xe s₁) X.xe s
noncomputable def tB (t:TE):TT:=fun σ H Q=>t σ H fun x H1=>∃c,x= .bl c∧Q c H1
theorem kjt {e:Expr} {t:TE} (h:PE X e t) (he:autoParam (∀ whole,isTrue e X.env whole=(do let v ← whole;standAt e.pos;holding [v] (truthy v))) u3._auto_1):PT X e (tB t):=by
 intro pins s σ H Q I hw
 refine isTrue_plain (thn (h pins s σ H _ I hw) fun v s1 ⟨x,H1,I1,r1,q1⟩=> ?_) (he _)
 obtain ⟨d,rfl,q⟩:=q1
 cases r1
 exact wpAny_truthy_bool ⟨H1,I1,q⟩
variable {tA tB':TT} {kc4:List Expr}
noncomputable def tAnd (t u:TT):TT:=fun σ H Q=>t σ H fun c H1=>if c=true then u σ H1 Q else Q false H1
noncomputable def tOr (t u:TT):TT:=fun σ H Q=>t σ H fun c H1=>if c=true then Q true H1 else u σ H1 Q
noncomputable def tNot (t:TT):TT:=fun σ H Q=>t σ H fun c H1=>Q (!c) H1
theorem kgu (ha:PT X a tA):PW X (.BoolOp .And [a] pos) tA:=by
 intro wh pins s σ H Q I h
 refine isTrue_and (thn (ha pins s σ H Q I h) fun c s1 e=> ?_)
 cases c with
 | true=>exact isTrue_and_nil e
 | false=>exact e
theorem kso (ha:PT X a tA):PW X (.BoolOp .Or [a] pos) tA:=by
 intro wh pins s σ H Q I h
 refine isTrue_or (thn (ha pins s σ H Q I h) fun c s1 e=> ?_)
 cases c with
 | false=>exact isTrue_or_nil e
 | true=>exact e
theorem kju (ha:PT X a tA) (hb:PW X (.BoolOp .And (b::kc4) pos) tB'):PW X (.BoolOp .And (a::b::kc4) pos) (tAnd tA tB'):=by
 intro wh pins s σ H Q I h
 refine isTrue_and (thn (ha pins s σ H _ I h) fun c s1 ⟨H1,I1,q1⟩=> ?_)
 cases c with
 | true=>exact hb wh pins s1 σ H1 Q I1 q1
 | false=>exact ⟨H1,I1,q1⟩
theorem kxg (ha:PT X a tA) (hb:PW X (.BoolOp .Or (b::kc4) pos) tB'):PW X (.BoolOp .Or (a::b::kc4) pos) (tOr tA tB'):=by
 intro wh pins s σ H Q I h
 refine isTrue_or (thn (ha pins s σ H _ I h) fun c s1 ⟨H1,I1,q1⟩=> ?_)
 cases c with
 | true=>exact ⟨H1,I1,q1⟩
 | false=>exact hb wh pins s1 σ H1 Q I1 q1
theorem kxh (ha:PT X a tA):PT X (.UnaryOp .Not a pos) (tNot tA):=by
 intro pins s σ H Q I h
 exact isTrue_not (ha pins s σ H (fun c H1=>Q (!c) H1) I h)
noncomputable def tAndV (ta tb:TE):TE:=fun σ H Q=>ta σ H fun x H1=>∃c,x= .bl c∧if c=true then tb σ H1 Q else Q (.bl false) H1
noncomputable def tOrV (ta tb:TE):TE:=fun σ H Q=>ta σ H fun x H1=>∃c,x= .bl c∧if c=true then Q (.bl true) H1 else tb σ H1 Q
noncomputable def tNotV (ta:TE):TE:=fun σ H Q=>ta σ H fun x H1=>∃c,x= .bl c∧Q (.bl (!c)) H1
theorem kmj {op} {t:TE} (h:PE X a t):PE X (.BoolOp op [a] pos) t:=fun pins s σ H Q I hw=>BoolOp_one (h pins s σ H Q I hw)
theorem ksp (ha:PE X a ta) (hb:PE X (.BoolOp .And (b::kc4) pos) tb):PE X (.BoolOp .And (a::b::kc4) pos) (tAndV ta tb):=by
 intro pins s σ H Q I h
 refine BoolOp_and (thn (ha pins s σ H _ I h) fun v s1 ⟨x,H1,I1,r1,q1⟩=> ?_)
 obtain ⟨c,rfl,q1⟩:=q1
 cases r1
 refine wpAny_truthy_bool ?_
 cases c with
 | true=>exact hb pins s1 σ H1 Q I1 q1
 | false=>exact ⟨.bl false,H1,I1,rfl,q1⟩
theorem pe_or (ha:PE X a ta) (hb:PE X (.BoolOp .Or (b::kc4) pos) tb):PE X (.BoolOp .Or (a::b::kc4) pos) (tOrV ta tb):=by
 intro pins s σ H Q I h
 refine BoolOp_or (thn (ha pins s σ H _ I h) fun v s1 ⟨x,H1,I1,r1,q1⟩=> ?_)
 obtain ⟨c,rfl,q1⟩:=q1
 cases r1
 refine wpAny_truthy_bool ?_
 cases c with
 | false=>exact hb pins s1 σ H1 Q I1 q1
 | true=>exact ⟨.bl true,H1,I1,rfl,q1⟩
theorem kxi (ha:PE X a ta):PE X (.UnaryOp .Not a pos) (tNotV ta):=by
 intro pins s σ H Q I h
 refine UnaryOp_ (thn (ha pins s σ H _ I h) fun v s1 ⟨x,H1,I1,r1,q1⟩=> ?_)
 obtain ⟨c,rfl,q1⟩:=q1
 cases r1
 exact not_of (wpAny_truthy_bool ⟨.bl (!c),H1,I1,rfl,q1⟩)
noncomputable def tIf (t:TT) (ta tb:TE):TE:=fun σ H Q=>t σ H fun c H1=>if c=true then ta σ H1 Q else tb σ H1 Q
theorem kqg {c:Expr} (hc:PT X c tA) (ha:PE X a ta) (hb:PE X b tb):PE X (.IfExp c a b pos) (tIf tA ta tb):=by
 intro pins s σ H Q I h
 refine wpAny_IfExp (thn (hc pins s σ H _ I h) fun d s1 ⟨H1,I1,q1⟩=> ?_)
 cases d with
 | true=>exact ha pins s1 σ H1 Q I1 q1
 | false=>exact hb pins s1 σ H1 Q I1 q1
end
end L2
namespace L2
open PySem PySem.Spec PyProof.Rows
noncomputable def SqL (K:PySem.W.Frag) (H:Hp) (a:Addr) (xs:List V):Prop:=
 Rd H a (.lst xs)∨
  ∃(o:Obj) (its:Array Value) (n:Nat),K.lookup a=some o∧o.cls= .type "list"∧o.dict=none∧o.data= .seq its n∧its.size≤sizeLine∧Vals xs its.toList
noncomputable def SqT (K:PySem.W.Frag) (H:Hp) (a:Addr) (xs:List V):Prop:=
 Rd H a (.tup xs)∨
  ∃(o:Obj) (its:Array Value) (n:Nat),K.lookup a=some o∧o.cls= .type "tuple"∧o.data= .seq its n∧its.size≤sizeLine∧Vals xs its.toList
noncomputable def absV:Value→Option V
 | .none=>some .non
 | .bool b=>some (.bl b)
 | .int i _=>some (.int i)
 | .str x _=>some (.str x)
 | .bytes b _=>some (.byt b)
 | .float b _=>some (.flt b)
 | .ref a=>some (.ref a)
 | .type n=>some (.ty n)
 | _=>none
theorem RelV.abs {x:V} {u:Value} (r:RelV x u):absV u=some x:=by
 cases x with
 | non=>cases r;rfl
 | bl _=>cases r;rfl
 | int _=>obtain ⟨t,rfl⟩:=r;rfl
 | str _=>obtain ⟨t,rfl⟩:=r;rfl
 | byt _=>obtain ⟨t,rfl⟩:=r;rfl
 | flt _=>obtain ⟨t,rfl⟩:=r;rfl
 | ref _=>cases r;rfl
 | ty _=>cases r;rfl
theorem RelV.inj {x y:V} {u:Value} (r:RelV x u) (q:RelV y u):x=y:=Option.some.inj (r.abs.symm.trans q.abs)
theorem Vals.inj: ∀{xs ys:List V} {us:List Value},Vals xs us→Vals ys us→xs=ys
 | _,_,_,.nil,.nil=>rfl
 | _,_,_,.cons r t,.cons r' t'=>by rw [r.inj r',Vals.inj t t']
section
variable {X:Cx} {pins:List (Addr×Obj)} {σ:St} {H:Hp} {s:Shared} {a:Addr} {xs ys:List V}
theorem SqL.of {K:PySem.W.Frag} (h:H a=some (.lst xs)):SqL K H a xs:= .inl (.inl h)
theorem SqT.of {K:PySem.W.Frag} (h:H a=some (.tup xs)):SqT K H a xs:= .inl (.inl h)
theorem Inv.list (I:Inv X pins σ H s) (h:SqL X.K H a xs): ∃its:List Value,Vals xs its∧PlainL s.heap a its.toArray∧xs.length≤sizeLine:=by
 rcases h with h | ⟨o,its,n,hk,hc,hd,hs,hz,r⟩
 · obtain ⟨z,its,n,r,e⟩:=h.ok I.hok
   exact ⟨its,r,⟨_,n,e,rfl,rfl,rfl⟩,z⟩
 · refine ⟨its.toList,r,⟨o,n,I.kIn a o hk,hc,hd,by simpa using hs⟩,?_⟩
   have e:=r.length
   simp only [Array.length_toList] at e
   lia
theorem Inv.tuple (I:Inv X pins σ H s) (h:SqT X.K H a xs): ∃its:List Value,Vals xs its∧IsTup s.heap a its.toArray∧xs.length≤sizeLine:=by
 rcases h with h | ⟨o,its,n,hk,hc,hs,hz,r⟩
 · obtain ⟨z,its,r,p⟩:=h.ok I.hok
   exact ⟨its,r,p,z⟩
 · refine ⟨its.toList,r,⟨o,I.kIn a o hk,hc,n,by simpa using hs⟩,?_⟩
   have e:=r.length
   simp only [Array.length_toList] at e
   lia
theorem Inv.list_inj (I:Inv X pins σ H s) (h:SqL X.K H a xs) (h':SqL X.K H a ys):xs=ys:=by
 obtain ⟨its,r,⟨o,n,e,_,_,d⟩,_⟩:=I.list h
 obtain ⟨its',r',⟨o',n',e',_,_,d'⟩,_⟩:=I.list h'
 rw [e] at e';cases e'
 rw [d] at d'
 injection d' with d1 _
 have:its=its':=by simpa using congrArg Array.toList d1
 subst this
 exact r.inj r'
theorem Inv.tuple_inj (I:Inv X pins σ H s) (h:SqT X.K H a xs) (h':SqT X.K H a ys):xs=ys:=by
 obtain ⟨its,r,⟨o,e,_,n,d⟩,_⟩:=I.tuple h
 obtain ⟨its',r',⟨o',e',_,n',d'⟩,_⟩:=I.tuple h'
 rw [e] at e';cases e'
 rw [d] at d'
 injection d' with d1 _
 have:its=its':=by simpa using congrArg Array.toList d1
 subst this
 exact r.inj r'
end
noncomputable abbrev Cx.wish (X:Cx) (E:Value→Shared→Prop):Cx:={X with xe:=E}
noncomputable abbrev Cx.nox (X:Cx):Cx:=X.wish fun q_ q_=>False
theorem Cx.Ok.wish {X:Cx} (ok:X.Ok) (E:Value→Shared→Prop):(X.wish E).Ok:=
 ⟨ok.mod,ok.kind,ok.glob,ok.blt,ok.above,ok.inj,ok.has,ok.cab,ok.hd,ok.frames,ok.stk,ok.exf,ok.bs,ok.bsz,ok.noex,ok.exfs,ok.funs,ok.frf⟩
theorem Cx.Ok.unwish {X:Cx} {E:Value→Shared→Prop} (ok:(X.wish E).Ok):X.Ok:=
 ⟨ok.mod,ok.kind,ok.glob,ok.blt,ok.above,ok.inj,ok.has,ok.cab,ok.hd,ok.frames,ok.stk,ok.exf,ok.bs,ok.bsz,ok.noex,ok.exfs,ok.funs,ok.frf⟩
section
variable {X:Cx} {pins:List (Addr×Obj)} {σ:St} {H:Hp} {s:Shared} {E:Value→Shared→Prop}
theorem Inv.wish (I:Inv X pins σ H s) (E:Value→Shared→Prop):Inv (X.wish E) pins σ H s:=⟨I.ok.wish E,I.os,I.bare,I.base,I.loc,I.cell,I.free,I.freeC,I.pin,I.hok,I.len⟩
theorem Inv.unwish (I:Inv (X.wish E) pins σ H s):Inv X pins σ H s:=⟨I.ok.unwish,I.os,I.bare,I.base,I.loc,I.cell,I.free,I.freeC,I.pin,I.hok,I.len⟩
theorem SP.unwish {D:Ends} {f:Flow} {s':Shared} (h:SP (X.wish E) pins D f s'):SP X pins D f s':=by
 cases f with
 | next=>obtain ⟨σ',H',I,q⟩:=h;exact ⟨σ',H',I.unwish,q⟩
 | brk=>obtain ⟨σ',H',I,q⟩:=h;exact ⟨σ',H',I.unwish,q⟩
 | cont=>obtain ⟨σ',H',I,q⟩:=h;exact ⟨σ',H',I.unwish,q⟩
 | ret u=>obtain ⟨v,σ',H',I,r,q⟩:=h;exact ⟨v,σ',H',I.unwish,r,q⟩
theorem PSs.nox {st:List Stmt} {t:TS} (h:PSs X.nox st t):PSs X st t:=fun pins s σ H D I hw=>
 wpAny_mono (h pins s σ H D (I.wish _) hw) (fun q_ q_ q=>q.unwish) fun q_ q_ z=>False.elim z
end
section
variable {X:Cx} {st:Stmt} {kc4:List Stmt} {t u:TS} {e:Expr} {te:TE} {pos:Pos}
noncomputable def tNext:TS:=fun D σ H=>D.nx σ H
noncomputable def tSeq (t u:TS):TS:=fun D σ H=>t {D with nx:=u D} σ H
theorem kej:PSs X [] tNext:=fun q_ q_ σ H q_ I h=>wpAny_execs_nil ⟨σ,H,I,h⟩
theorem kaq (h1:PS X st t) (h2:PSs X kc4 u):PSs X (st::kc4) (tSeq t u):=by
 intro pins s σ H D I h
 refine wpAny_execs_cons (thn (h1 pins s σ H {D with nx:=u D} I h) fun f s1 q=> ?_)
 cases f with
 | next=>
   obtain ⟨σ',H',I',q⟩:=q
   exact h2 pins s1 σ' H' D I' q
 | ret v=>exact q
 | brk=>exact q
 | cont=>exact q
theorem kax (h1:PS X st t):PSs X [st] t:=by
 intro pins s σ H D I h
 refine wpAny_execs_cons (thn (h1 pins s σ H D I h) fun f s1 q=> ?_)
 cases f with
 | next=>exact wpAny_execs_nil q
 | ret v=>exact q
 | brk=>exact q
 | cont=>exact q
theorem Inv.quiet {pins:List (Addr×Obj)} {σ:St} {H:Hp} {s:Shared} (I:Inv X pins σ H s):interactive X.env=false:=by simp [interactive,I.ok.kind]
noncomputable def kxj (te:TE):TS:=fun D σ H=>te σ H fun q_ H1=>D.nx σ H1
theorem kdp (he:PE X e te) (hs:autoParam (swapsWith e none pos.line X.env=pure false) u4._auto_1):PS X (.Expr e pos) (kxj te):=by
 intro pins s σ H D I h
 exact wpAny_Expr_any (thn (he pins s σ H _ I h) fun v s1 ⟨x,H1,I1,r1,q1⟩=>⟨σ,H1,I1,q1⟩) I.quiet hs
noncomputable def tRet (te:TE):TS:=fun D σ H=>te σ H D.rt
theorem kca (he:PE X e te):PS X (.Return (some e) pos) (tRet te):=by
 intro pins s σ H D I h
 exact wpAny_Return_some (thn (he pins s σ H _ I h) fun v s1 ⟨x,H1,I1,r1,q1⟩=>⟨x,σ,H1,I1,r1,q1⟩)
noncomputable def tIfS (c:TT) (t u:TS):TS:=fun D σ H=>c σ H fun b H1=>if b=true then t D σ H1 else u D σ H1
theorem klo {c:Expr} {a b:List Stmt} {tc:TT} (hc:PT X c tc) (ha:PSs X a t) (hb:PSs X b u):PS X (.If c a b pos) (tIfS tc t u):=by
 intro pins s σ H D I h
 refine wpAny_If (thn (hc pins s σ H _ I h) fun d s1 ⟨H1,I1,q1⟩=> ?_)
 cases d with
 | true=>exact ha pins s1 σ H1 D I1 q1
 | false=>exact hb pins s1 σ H1 D I1 q1
noncomputable def kxk:TS:=fun q_ q_ q_=>False
theorem kqh:PS X st kxk:=fun q_ q_ q_ q_ q_ q_ h=>h.elim
end
noncomputable abbrev TG:=V→St→Hp→(St→Hp→Prop)→Prop
noncomputable abbrev TGs:=List V→St→Hp→(St→Hp→Prop)→Prop
noncomputable def PG (X:Cx) (target:Expr) (t:TG):Prop:=
 ∀(pins:List (Addr×Obj)) (s:Shared) (σ:St) (H:Hp) (v:V) (u:Value) (Q:St→Hp→Prop),Inv X pins σ H s→RelV v u→t v σ H Q→
  wpAny (model X.prog X.w) X.A (assign target X.env u) (fun q_ s'=>∃σ' H',Inv X pins σ' H' s'∧Q σ' H') X.xe s
noncomputable def PGs (X:Cx) (ts:List Expr) (t:TGs):Prop:=
 ∀(pins:List (Addr×Obj)) (s:Shared) (σ:St) (H:Hp) (vs:List V) (us:List Value) (Q:St→Hp→Prop),Inv X pins σ H s→Vals vs us→t vs σ H Q→
  wpAny (model X.prog X.w) X.A (assignInOrder ((assignEach ts X.env).map (·.2)) us) (fun q_ s'=>∃σ' H',Inv X pins σ' H' s'∧Q σ' H') X.xe s
noncomputable abbrev TSet:=V→V→V→Hp→(Hp→Prop)→Prop
noncomputable def PSet (X:Cx) (t:TSet):Prop:=
 ∀(pins:List (Addr×Obj)) (s:Shared) (σ:St) (H:Hp) (o i v:V) (ov iv u:Value) (Q:Hp→Prop),Inv X pins σ H s→RelV o ov→RelV i iv→RelV v u→t o i v H Q→
  wpAny (model X.prog X.w) X.A (setItem ov iv u) (fun q_ s'=>∃H',Inv X pins σ H' s'∧Q H') X.xe s
section
variable {X:Cx} {pos:Pos}
noncomputable def kmk (i:Nat):TG:=fun v σ H Q=>Q (σ.set i (some v)) H
theorem kbj {i:Nat} {x:Str} (hN:X.N.Nodup) (hi:X.N[i]?=some x) (hx:Loc X.env.scope x) (hf:autoParam (X.fn x=true∨X.env.scope.names.lookup x=some .local) u1._auto_1):PG X (.Name x pos) (kmk i):=by
 intro pins s σ H v u Q I r h
 exact wpAny_assign_Name (kjs I hN hi hx r (fun s' I'=>⟨_,H,I',h⟩) hf)
noncomputable def gNil:TGs:=fun vs σ H Q=>vs=[]∧Q σ H
noncomputable def gCons (t:TG) (u:TGs):TGs:=fun vs σ H Q=>∃v r,vs=v::r∧t v σ H fun σ' H'=>u r σ' H' Q
theorem kt5:PGs X [] gNil:=by
 intro pins s σ H vs us Q I r h
 obtain ⟨e,h⟩:=h
 subst e
 cases r
 exact assignInOrder_nil ⟨σ,H,I,h⟩
theorem kjv {e:Expr} {es:List Expr} {t:TG} {u:TGs} (h1:PG X e t) (h2:PGs X es u)
 (hs:autoParam ((assignEach (e::es) X.env).map (·.2)=assign e X.env::(assignEach es X.env).map (·.2)) u4._auto_1):PGs X (e::es) (gCons t u):=by
 intro pins s σ H vs us Q I r h
 obtain ⟨v,vr,e1,h⟩:=h
 subst e1
 cases r with
 | cons r rr=>
   rw [hs]
   refine assignInOrder_cons (thn (h1 pins s σ H _ _ _ I r h) fun _ s1 ⟨σ1,H1,I1,q1⟩=> ?_)
   exact h2 pins s1 σ1 H1 _ _ Q I1 rr q1
noncomputable def gTup (K:PySem.W.Frag) (n:Nat) (t:TGs):TG:=fun v σ H Q=>∃a xs,v= .ref a∧SqT K H a xs∧xs.length=n∧t xs σ H Q
theorem kxl {es:List Expr} {k:Nat} {t:TGs} {n:Nat} (hc:X.calm=true) (h:PGs X es t)
 (hn:autoParam ((assignEach es X.env).length=n) u4._auto_1) (hst:autoParam ((assignEach es X.env).findIdx? (·.1)=none) u4._auto_1):PG X (.Tuple es k pos) (gTup X.K n t):=by
 intro pins s σ H v u Q I r hw
 obtain ⟨a,xs,e1,hq,hl,hw⟩:=hw
 subst e1
 cases r
 obtain ⟨its,rv,ht,hz⟩:=I.tuple hq
 refine assign_Tuple_tuple (I.ok.hd hc) ht (by simp [hn,← hl,rv.length]) hst fun h' hx=> ?_
 have I1:Inv X pins σ H {s with heap:=h'}:=I.kept (t':=s.toks) fun b o e=>hx b o (Nat.ne_of_lt (Heap.lt_size e)) e
 exact h pins _ σ H xs _ Q I1 (by simpa using rv) hw
noncomputable def gSub (to ti:TE) (t:TSet):TG:=fun v σ H Q=>to σ H fun o H1=>ti σ H1 fun i H2=>t o i v H2 fun H3=>Q σ H3
theorem kxm {o i:Expr} {to ti:TE} {t:TSet} (ho:PE X o to) (hi:PE X i ti) (hs:PSet X t)
 (ha:autoParam (∀ v,assign (.Subscript o i pos) X.env v=(do
   let ov ← holding [v] (eval o X.env)
   let iv ← holding [v,ov] (eval i X.env)
   standAt pos
   holding [v,ov,iv] (setItem ov iv v)
   release [v,ov,iv] [])) u3._auto_1):PG X (.Subscript o i pos) (gSub to ti t):=by
 intro pins s σ H v u Q I r h
 rw [ha]
 refine wpAny_bind (wpAny_holding (thn (ho pins s σ H _ I h) fun ov s1 ⟨x,H1,I1,r1,q1⟩=> ?_))
 refine wpAny_bind (wpAny_holding (thn (hi pins s1 σ H1 _ I1 q1) fun iv s2 ⟨y,H2,I2,r2,q2⟩=> ?_))
 refine wpAny_bind (wpAny_standAt (wpAny_bind (wpAny_holding (thn (hs pins s2 σ H2 x y v ov iv u _ I2 r1 r2 r q2) fun _ s3 ⟨H3,I3,q3⟩=> ?_))))
 exact wpAny_release ⟨σ,H3,I3,q3⟩
noncomputable def kxn (te:TE) (g:TG):TS:=fun D σ H=>te σ H fun x H1=>g x σ H1 D.nx
theorem kxo {tg e:Expr} {te:TE} {g:TG} (he:PE X e te) (hg:PG X tg g) (hs:autoParam (swapsWithSole [tg] e pos.line X.env=pure false) u4._auto_1) (hw:autoParam (swappedStores [tg] e X.env=pure none) u4._auto_1)
 (h1:autoParam ((assignEach [tg] X.env).map (·.2)=[assign tg X.env]) u4._auto_1):PS X (.Assign [tg] e pos) (kxn te g):=by
 intro pins s σ H D I h
 refine wpAny_Assign_stores (thn (he pins s σ H _ I h) fun v s1 ⟨x,H1,I1,r1,q1⟩=> ?_) hs hw
 rw [h1]
 exact thn (hg pins s1 σ H1 x v _ I1 r1 q1) fun q_ s2 q=>q
theorem ka9 {i:Nat} {x:Str} {e:Expr} {te:TE} {pos':Pos} (hN:X.N.Nodup) (hi:X.N[i]?=some x) (hx:Loc X.env.scope x) (he:PE X e te) (hs:autoParam (swapsWith e (some (.Name x pos')) pos.line X.env=pure false) u4._auto_1) (hf:autoParam (X.fn x=true∨X.env.scope.names.lookup x=some .local) u1._auto_1):
 PS X (.Assign [.Name x pos'] e pos) (kxn te (kmk i)):=by
 intro pins s σ H D I h
 refine wpAny_Assign_Name (thn (he pins s σ H _ I h) fun v s1 ⟨y,H1,I1,r1,q1⟩=> ?_) hs
 exact kjs I1 hN hi hx r1 (fun s2 I2=>⟨_,H1,I2,q1⟩) hf
end
section
variable {X:Cx} {pos:Pos}
noncomputable def kxp (c:TT) (tb:TS):TS:=fun D σ H=>∃W:Nat→St→Hp→Prop,(∃ m,W m σ H)∧∀m σ H,W m σ H→
 c σ H fun b H1=>if b=true then ∃N:St→Hp→Prop,(∀ σ' H',N σ' H'→∃m',m' < m∧W m' σ' H')∧tb {D with nx:=N,ct:=N,bk:=D.nx} σ H1 else D.nx σ H1
theorem kqi {c:Expr} {body:List Stmt} {tc:TT} {tb:TS} (hp:PassesOwn (model X.prog X.w) X.A X.env X.xe) (hc:PT X c tc) (hb:PSs X body tb):PS X (.While c body [] pos) (kxp tc tb):=by
 intro pins s σ H D I h
 obtain ⟨W,⟨m0,w0⟩,turn⟩:=h
 refine wpAny_While (codeAny_whileLoop (fun n s'=>∃σ' H',Inv X pins σ' H' s'∧W n σ' H') ?_ m0 ⟨σ,H,I,w0⟩)
 rintro n s1 ⟨σ1,H1,I1,w1⟩
 refine wpAny_passesOwn hp (thn (hc pins s1 σ1 H1 _ I1 (turn n σ1 H1 w1)) fun b s2 ⟨H2,I2,q2⟩=> ?_)
 cases b with
 | true=>
   obtain ⟨N,hN,q2⟩:=q2
   rw [if_pos rfl]
   refine wpAny_passesOwn hp (thn (hb pins s2 σ1 H2 _ I2 q2) fun f s3 q3=> ?_)
   cases f with
   | next=>
     obtain ⟨σ3,H3,I3,n3⟩:=q3
     obtain ⟨m',hm,w3⟩:=hN σ3 H3 n3
     exact ⟨m',hm,σ3,H3,I3,w3⟩
   | cont=>
     obtain ⟨σ3,H3,I3,n3⟩:=q3
     obtain ⟨m',hm,w3⟩:=hN σ3 H3 n3
     exact ⟨m',hm,σ3,H3,I3,w3⟩
   | brk=>exact q3
   | ret v=>exact q3
 | false=>
   rw [if_neg Bool.false_ne_true]
   exact wpAny_execs_nil ⟨σ1,H2,I2,q2⟩
end
structure It where
 go:Nat→Hp→Prop
 yld:Nat→Hp→V→Hp→Prop
 stop:Nat→Hp→Prop
noncomputable def klp (X:Cx) (pins:List (Addr×Obj)) (H:Hp) (b:Addr):Prop:=
 H b=none∧b≠X.env.locals∧b ∉ X.fs∧(b∈X.ex∨X.s₀.heap.objs.size≤b)∧(∀ x c,X.env.cells.lookup x=some c→c≠b)∧∀p∈X.pn++pins,p.1≠b
theorem Inv.fpOk {X:Cx} {pins:List (Addr×Obj)} {σ:St} {H H':Hp} {s:Shared} {b:Addr} (I:Inv X pins σ H s) (hb:s.heap.objs.size≤b) (hn:H' b=none):klp X pins H' b:=by
 refine ⟨hn,Nat.ne_of_gt (Nat.lt_of_lt_of_le I.lt hb),I.nofs hb,.inr (Nat.le_trans I.sz hb),fun x c e z=> ?_,fun p hp z=> ?_⟩
 · obtain ⟨v,q⟩:=I.cell x c e
   exact absurd (Nat.lt_of_lt_of_le q.lt (by rw [z];exact hb)) (Nat.lt_irrefl _)
 · exact absurd (Nat.lt_of_lt_of_le (Heap.lt_size (I.pin p hp).1) (by rw [z];exact hb)) (Nat.lt_irrefl _)
structure Turn (P:Program) (w:World) (K:PySem.W.Frag) (tg:Expr) (J:It) (fp:List Addr) (it:Addr) (tn:Nat→Heap→Prop):Prop where
 mem:it∈fp
 obj: ∀i h,tn i h→∀b∈fp,∃o,h.get? b=some o∧∀v,o.data≠ .cell v
 keep: ∀i h h',tn i h→(∀ b∈fp,∀o,h.get? b=some o→h'.get? b=some o)→tn i h'
 item: ∀(X:Cx),X.prog=P→X.w=w→X.K=K→X.calm=true→∀(i:Nat) (pins:List (Addr×Obj)) (s:Shared) (σ:St) (H:Hp) (E:Value→Shared→Prop),Inv X pins σ H s→(∀ b∈fp,klp X pins H b)→tn i s.heap→J.go i H→
  wpAny (model P w) X.A (pyNext (.ref it)) (fun r s1=>∃u,r=some u∧
   wpAny (model P w) X.A (letOwnedTupleGo tg (.ref it) u) (fun q_ s2=>∃x H',Inv X pins σ H' s2∧RelV x u∧J.yld i H x H'∧tn (i + 1) s2.heap∧∀b∈fp,H' b=none) E s1) E s
 done: ∀(X:Cx),X.prog=P→X.w=w→X.K=K→X.calm=true→∀(i:Nat) (pins:List (Addr×Obj)) (s:Shared) (σ:St) (H:Hp) (E:Value→Shared→Prop),Inv X pins σ H s→(∀ b∈fp,klp X pins H b)→tn i s.heap→J.stop i H→
  wpAny (model P w) X.A (pyNext (.ref it)) (fun r s1=>r=none∧Inv X pins σ H s1) E s
 self: ∀(A:Around) (i:Nat) (s:Shared) (Q:Value→Shared→Prop) (E:Value→Shared→Prop),tn i s.heap→Q (.ref it) s→wpAny (model P w) A (pyIter (.ref it)) Q E s
noncomputable abbrev TI:=St→Hp→(It→Hp→Prop)→Prop
noncomputable def PIE (X:Cx) (pins:List (Addr×Obj)) (σ:St) (tg:Expr) (R:It→Hp→Prop) (itv:Value) (s2:Shared):Prop:=
 ∃(it:Addr) (fp:List Addr) (tn:Nat→Heap→Prop) (J:It) (H':Hp),itv= .ref it∧Inv X pins σ H' s2∧Turn X.prog X.w X.K tg J fp it tn∧tn 0 s2.heap∧(∀ b∈fp,klp X pins H' b)∧R J H'
noncomputable def PI (X:Cx) (tg iter:Expr) (wi:TI):Prop:=
 ∀(pins:List (Addr×Obj)) (s:Shared) (σ:St) (H:Hp) (R:It→Hp→Prop),Inv X pins σ H s→wi σ H R→
  wpAny (model X.prog X.w) X.A (eval iter X.env) (fun v s1=>wpAny (model X.prog X.w) X.A (pyIter v) (PIE X pins σ tg R) X.xe s1) X.xe s
theorem kt6 {M:Model} {A:Around} {E:Value→Shared→Prop} {s:Shared} {tg:Expr} {it:Addr} {u:Value} {o:Obj} {n:String} {vs:Array Value} {Q:Unit→Shared→Prop} (ho:s.heap.get? it=some o) (hc:o.cls= .type n) (hd:o.data= .fields vs)
 (hn:["enumerate","zip","dict_itemiterator","dict_reverseitemiterator","odict_iterator","itertools.zip_longest","itertools.pairwise"].contains n=false) (hQ:Q () s):wpAny M A (letOwnedTupleGo tg (.ref it) u) Q E s:=by
 unfold letOwnedTupleGo
 cases tg <;> first
  | exact wpAny_pure hQ
  | (cases u <;> first
      | exact wpAny_pure hQ
      | (refine wpAny_bind (wpAny_load ho ?_)
         rw [hc,hd]
         show wpAny M A (if (["enumerate","zip","dict_itemiterator","dict_reverseitemiterator","odict_iterator","itertools.zip_longest","itertools.pairwise"].contains n && vs[0]? == some (rawInt _))=true then _ else _) Q E s
         rw [if_neg (by intro h;rw [hn,Bool.false_and] at h;cases h)]
         exact wpAny_pure hQ))
noncomputable def Itl (K:PySem.W.Frag) (a:Addr):It:=
 ⟨fun i H=>∃xs x,SqL K H a xs∧xs[i]?=some x,fun i H x H'=>H'=H∧∀xs,SqL K H a xs→xs[i]?=some x,fun i H=>∃xs,SqL K H a xs∧xs.length≤i⟩
noncomputable def Itt (K:PySem.W.Frag) (a:Addr):It:=
 ⟨fun i H=>∃xs x,SqT K H a xs∧xs[i]?=some x,fun i H x H'=>H'=H∧∀xs,SqT K H a xs→xs[i]?=some x,fun i H=>∃xs,SqT K H a xs∧xs.length≤i⟩
noncomputable def Itr (lo:Int) (n:Nat):It:=⟨fun i q_=>i < n,fun i H x H'=>H'=H∧x= .int (lo + i),fun i q_=>n≤i⟩
theorem kht {P:Program} {w:World} {K:PySem.W.Frag} {tg:Expr} (a it:Addr):Turn P w K tg (Itl K a) [it] it (fun i h=>h.IsListIter it a i) where
 mem:=by simp
 obj:=fun i h st b hb=>by
  have e:b=it:=by simpa using hb
  subst e
  obtain ⟨o,e,c,d⟩:=st
  exact ⟨o,e,fun v z=>by rw [d] at z;cases z⟩
 keep:=fun i h h' st k=>st.at fun o e=>k it (by simp) o e
 item:=by
  intro X hP hw hK hc i pins s σ H E I hf st hg
  subst hP hw hK
  obtain ⟨xs,x,hq,hx⟩:=hg
  obtain ⟨its,rv,p,hz⟩:=I.list hq
  obtain ⟨u,hu,ru⟩:=rv.get hx
  obtain ⟨f0,f1,f2,f3,f4,f5⟩:=hf it (by simp)
  refine wpAny_pyNext_list_item st p.isList (x:=u) (by simpa using hu) fun h' st' sb=> ?_
  have I1:Inv X pins σ H {s with heap:=h'}:=I.turned (t':=s.toks) (fun b o hb e=>(sb.2 b hb).trans e) f0 f1 f3 f4 f5
  obtain ⟨o,e,c,d⟩:=id st'
  exact ⟨u,rfl,kt6 (s:={s with heap:=h'}) e c d (by decide) ⟨x,H,I1,ru,⟨rfl,fun ys hy=>by rw [I.list_inj hy hq];exact hx⟩,st',fun b hb=>(hf b hb).1⟩⟩
 done:=by
  intro X hP hw hK hc i pins s σ H E I hf st hg
  subst hP hw hK
  obtain ⟨xs,hq,hx⟩:=hg
  obtain ⟨its,rv,p,hz⟩:=I.list hq
  obtain ⟨f0,f1,f2,f3,f4,f5⟩:=hf it (by simp)
  have hl:=rv.length
  exact wpAny_pyNext_list_end (I.ok.hd hc) st p.isList (by simp;lia) fun h' eb=>⟨rfl,I.turned (t':=s.toks) (fun b o hb e=>eb b o hb e) f0 f1 f3 f4 f5⟩
 self:=fun q_ q_ q_ q_ q_ st h=>wpAny_pyIter_listiter st h
theorem klq {P:Program} {w:World} {K:PySem.W.Frag} {tg:Expr} (a it:Addr):Turn P w K tg (Itt K a) [it] it (fun i h=>h.IsTupleIter it a i) where
 mem:=by simp
 obj:=fun i h st b hb=>by
  have e:b=it:=by simpa using hb
  subst e
  obtain ⟨o,e,c,d⟩:=st
  exact ⟨o,e,fun v z=>by rw [d] at z;cases z⟩
 keep:=fun i h h' st k=>st.at fun o e=>k it (by simp) o e
 item:=by
  intro X hP hw hK hc i pins s σ H E I hf st hg
  subst hP hw hK
  obtain ⟨xs,x,hq,hx⟩:=hg
  obtain ⟨its,rv,p,hz⟩:=I.tuple hq
  obtain ⟨u,hu,ru⟩:=rv.get hx
  obtain ⟨f0,f1,f2,f3,f4,f5⟩:=hf it (by simp)
  refine wpAny_pyNext_tuple_item st (show s.heap.IsTuple a its.toArray from p) (x:=u) (by simpa using hu) fun h' st' sb=> ?_
  have I1:Inv X pins σ H {s with heap:=h'}:=I.turned (t':=s.toks) (fun b o hb e=>(sb.2 b hb).trans e) f0 f1 f3 f4 f5
  obtain ⟨o,e,c,d⟩:=id st'
  exact ⟨u,rfl,kt6 (s:={s with heap:=h'}) e c d (by decide) ⟨x,H,I1,ru,⟨rfl,fun ys hy=>by rw [I.tuple_inj hy hq];exact hx⟩,st',fun b hb=>(hf b hb).1⟩⟩
 done:=by
  intro X hP hw hK hc i pins s σ H E I hf st hg
  subst hP hw hK
  obtain ⟨xs,hq,hx⟩:=hg
  obtain ⟨its,rv,p,hz⟩:=I.tuple hq
  obtain ⟨f0,f1,f2,f3,f4,f5⟩:=hf it (by simp)
  have hl:=rv.length
  exact wpAny_pyNext_tuple_end (I.ok.hd hc) st (show s.heap.IsTuple a its.toArray from p) (by simp;lia) fun h' eb=>⟨rfl,I.turned (t':=s.toks) (fun b o hb e=>eb b o hb e) f0 f1 f3 f4 f5⟩
 self:=fun q_ q_ q_ q_ q_ st h=>wpAny_pyIter_tupleiter st h
theorem klr {P:Program} {w:World} {K:PySem.W.Frag} {tg:Expr} (it:Addr) (lo:Int) (n:Nat):Turn P w K tg (Itr lo n) [it] it (fun i h=>IsRangeIter h it (lo + (i:Nat) * 1) ((n:Int) - (i:Nat)) 1) where
 mem:=by simp
 obj:=fun i h st b hb=>by
  have e:b=it:=by simpa using hb
  subst e
  exact ⟨_,st,fun v z=>by
   have z':Data.fields _=Data.cell v:=z
   cases z'⟩
 keep:=fun i h h' st k=>k it (by simp) _ st
 item:=by
  intro X hP hw hK hc i pins s σ H E I hf st hg
  subst hP hw hK
  obtain ⟨f0,f1,f2,f3,f4,f5⟩:=hf it (by simp)
  have W:=Walks.range (prog:=X.prog) (w:=X.w) (I.ok.hd hc) it lo 1 n
  refine W.item i s _ _ hg st fun v h' tk hv st' kk=> ?_
  obtain ⟨t,rfl⟩:=hv
  have I1:Inv X pins σ H {s with heap:=h',toks:=tk}:=I.turned (fun b o hb e=>kk b o (by simpa using hb) e) f0 f1 f3 f4 f5
  refine ⟨_,rfl,kt6 (s:={s with heap:=h',toks:=tk}) (n:="range_iterator") st' rfl rfl (by decide) ⟨.int (lo + i),H,I1,⟨t,?_⟩,⟨rfl,rfl⟩,st',fun b hb=>(hf b hb).1⟩⟩
  rw [Int.mul_one]
 done:=by
  intro X hP hw hK hc i pins s σ H E I hf st hg
  subst hP hw hK
  obtain ⟨f0,f1,f2,f3,f4,f5⟩:=hf it (by simp)
  exact wpAny_pyNext_range_end (I.ok.hd hc) st (by have:n≤i:=hg;lia) fun h' eb=>⟨rfl,I.turned (t':=s.toks) (fun b o hb e=>eb b o hb e) f0 f1 f3 f4 f5⟩
 self:=fun q_ q_ q_ q_ q_ st h=>wpAny_pyIter_rangeiter st h
end L2
namespace L2
open PySem PySem.Spec PyProof.Rows
section
variable {X:Cx} {tg:Expr}
noncomputable def iList (K:PySem.W.Frag) (tl:TE):TI:=fun σ H R=>tl σ H fun x H1=>∃a,x= .ref a∧(∃ xs,SqL K H1 a xs)∧R (Itl K a) H1
theorem kt7 {l:Expr} {tl:TE} (hl:PE X l tl):PI X tg l (iList X.K tl):=by
 intro pins s σ H R I h
 refine thn (hl pins s σ H _ I h) fun v s1 ⟨x,H1,I1,r1,q1⟩=> ?_
 obtain ⟨a,e,⟨xs,hq⟩,q⟩:=q1
 subst e
 cases r1
 obtain ⟨its,rv,p,hz⟩:=I1.list hq
 refine wpAny_pyIter_list p.isList ?_
 refine ⟨s1.heap.objs.size,[s1.heap.objs.size],_,_,H1,rfl,I1.kept (t':=s1.toks) fun b o e=>Heap.get?_push_of_some _ e,kht a _,⟨_,Heap.get?_push_size _ rfl,rfl,rfl⟩,fun b hb=> ?_,q⟩
 have e:b=s1.heap.objs.size:=by simpa using hb
 subst e
 exact I1.fpOk (Nat.le_refl _) (I1.hok.fresh (Nat.le_refl _))
theorem kqj {pins:List (Addr×Obj)} {σ:St} {H:Hp} {s:Shared} {R:It→Hp→Prop} {E:Value→Shared→Prop} {lo hi:Int} {t u v:Tok} {tk:Nat} (I:Inv X pins σ H s) (h1: -(2 ^ 62)≤lo) (h2:lo < 2 ^ 62) (h3: -(2 ^ 62)≤hi) (h4:hi < 2 ^ 62)
 (q:R (Itr lo (hi - lo).toNat) H):wpAny (model X.prog X.w) X.A (pyIter (.ref s.heap.objs.size)) (PIE X pins σ tg R) E {s with heap:=s.heap.push {cls:= .type "range",data:= .fields #[.int lo t,.int hi u,.int 1 v]},toks:=tk}:=by
 refine wpAny_pyIter_range (IsRange.new ..) (small_one h1 h2 h3 h4) ?_
 have I1:Inv X pins σ H {s with heap:=s.heap.push {cls:= .type "range",data:= .fields #[.int lo t,.int hi u,.int 1 v]},toks:=tk}:=I.kept fun b o e=>Heap.get?_push_of_some _ e
 refine ⟨(s.heap.push {cls:= .type "range",data:= .fields #[.int lo t,.int hi u,.int 1 v]}).objs.size,[(s.heap.push {cls:= .type "range",data:= .fields #[.int lo t,.int hi u,.int 1 v]}).objs.size],_,_,H,rfl,
  I1.kept (t':=tk) fun b o e=>Heap.get?_push_of_some _ e,klr _ lo (hi - lo).toNat,?_,fun b hb=> ?_,q⟩
 · have e1:lo + ((0:Nat):Int) * 1=lo:=by simp
   have e2:(((hi - lo).toNat:Nat):Int) - ((0:Nat):Int)=Builtin.Range.rangeSize lo hi 1:=by rw [rangeSize_one];split <;> lia
   show IsRangeIter _ _ (lo + ((0:Nat):Int) * 1) ((((hi - lo).toNat:Nat):Int) - ((0:Nat):Int)) 1
   rw [e1,e2]
   exact Heap.get?_push_size _ rfl
 · have e:b=(s.heap.push {cls:= .type "range",data:= .fields #[.int lo t,.int hi u,.int 1 v]}).objs.size:=by simpa using hb
   subst e
   exact I1.fpOk (Nat.le_refl _) (I1.hok.fresh (Nat.le_refl _))
noncomputable def iRng1 (ta:TA):TI:=fun σ H R=>ta σ H fun vs H1=>∃j:Int,vs=[.int j]∧ -(2 ^ 62)≤j∧j < 2 ^ 62∧R (Itr 0 j.toNat) H1
theorem ka4 {a:Expr} {ta:TA} {p pos:Pos} (hg:Gl X "range") (hm:X.mg "range"=none) (ha:PA X [a] ta) (hs:autoParam (starEach [a] X.env=[(false,eval a X.env)]) u4._auto_1):PI X tg (.Call (.Name "range" p) [a] [] pos) (iRng1 ta):=by
 intro pins s σ H R I h
 refine Call_ (kgg I hg hm boot_range (PyProof.Rows.callWith_type1 (thn (ha pos pins s σ H _ I h) fun us s1 ⟨vs,H1,I1,r1,q1⟩=> ?_) hs rfl))
 obtain ⟨j,e,q1,q2,q⟩:=q1
 subst e
 cases r1 with
 | cons r rr=>
   cases rr
   obtain ⟨t,rfl⟩:=r
   exact call_range_1 (kqj I1 (by lia) (by lia) q1 q2 (by simpa using q))
noncomputable def tFor (wi:TI) (g:TG) (tb:TS):TS:=fun D σ H=>wi σ H fun J H1=>∃W:Nat→Nat→St→Hp→Prop,(∃ m,W 0 m σ H1)∧∀i m σ H,W i m σ H→
 (J.stop i H∧D.nx σ H)∨(J.go i H∧∃N:St→Hp→Prop,(∀ σ' H',N σ' H'→∃m',m' < m∧W (i + 1) m' σ' H')∧∀x H',J.yld i H x H'→g x σ H' fun σ2 H2=>tb {D with nx:=N,ct:=N,bk:=D.nx} σ2 H2)
noncomputable def khu (fp:List Addr) (h:Heap):List (Addr×Obj):=fp.filterMap fun b=>(h.get? b).map fun o=>(b,o)
theorem kdc {fp:List Addr} {h:Heap} {b:Addr} {o:Obj} (hb:b∈fp) (e:h.get? b=some o):(b,o)∈khu fp h:=List.mem_filterMap.mpr ⟨b,hb,by rw [e];rfl⟩
theorem kml {fp:List Addr} {h:Heap} {p:Addr×Obj} (hp:p∈khu fp h):p.1∈fp∧h.get? p.1=some p.2:=by
 obtain ⟨b,hb,e⟩:=List.mem_filterMap.mp hp
 cases q:h.get? b with
 | none=>rw [q] at e;cases e
 | some o=>
   rw [q] at e
   have e':(b,o)=p:=Option.some.inj e
   subst e'
   exact ⟨hb,q⟩
theorem Inv.pinned {pins:List (Addr×Obj)} {σ:St} {H:Hp} {s:Shared} {fp:List Addr} (I:Inv X pins σ H s) (hf: ∀b∈fp,klp X pins H b) (ho: ∀b∈fp,∃o,s.heap.get? b=some o∧∀v,o.data≠ .cell v):Inv X (pins++khu fp s.heap) σ H s:=
 I.pins_of fun p hp=>(List.mem_append.mp hp).elim (fun z=>I.pin p (List.mem_append_right _ z)) fun z=>by
  obtain ⟨hb,e⟩:=kml z
  obtain ⟨f0,f1,f2,_⟩:=hf p.1 hb
  obtain ⟨o,e',d⟩:=ho p.1 hb
  rw [e] at e';cases e'
  exact ⟨e,f0,f1,f2,d⟩
theorem Inv.unpinned {pins pl:List (Addr×Obj)} {σ:St} {H:Hp} {s:Shared} (I:Inv X (pins++pl) σ H s):Inv X pins σ H s:=I.pins_of fun p hp=>I.pin p (List.mem_append_right _ (List.mem_append_left _ hp))
theorem kc5 {iter:Expr} {body:List Stmt} {wi:TI} {g:TG} {tb:TS} {pos:Pos} (hp:PassesOwn (model X.prog X.w) X.A X.env X.xe) (hc:X.calm=true) (hi:PI X tg iter wi) (hg:PG X tg g) (hb:PSs X body tb)
 (hs:autoParam (∀ x,foldedSetIterable iter X.env x=pure x) u3._auto_1):PS X (.For tg iter body [] pos) (tFor wi g tb):=by
 intro pins s σ H D I h
 refine wpAny_For (thn (hi pins s σ H _ I h) fun v s1 h1=>thn h1 fun itv s2 h2=> ?_) hs
 obtain ⟨it,fp,tn,J,H2,e,I2,T,st2,f2,W,⟨m0,w0⟩,turn⟩:=h2
 subst e
 have stat: ∀{H':Hp},(∀ b∈fp,H' b=none)→∀b∈fp,klp X pins H' b:=fun hn b hb=>⟨hn b hb,(f2 b hb).2⟩
 refine codeAny_forLoop_any (fun n s'=>∃i σ' H',Inv X pins σ' H' s'∧tn i s'.heap∧(∀ b∈fp,H' b=none)∧W i n σ' H') ?_ m0 ⟨0,σ,H2,I2,st2,fun b hb=>(f2 b hb).1,w0⟩
 rintro n s3 ⟨i,σ3,H3,I3,st3,fr3,w3⟩
 rcases turn i n σ3 H3 w3 with ⟨stop,qn⟩ | ⟨go,N,hN,step⟩
 · refine wpAny_passesOwn hp (thn (T.done X rfl rfl rfl hc i pins s3 σ3 H3 X.xe I3 (stat fr3) st3 stop) fun r s4 ⟨hr,I4⟩=> ?_)
   subst hr
   exact wpAny_execs_nil ⟨σ3,H3,I4,qn⟩
 · refine wpAny_passesOwn hp (thn (T.item X rfl rfl rfl hc i pins s3 σ3 H3 X.xe I3 (stat fr3) st3 go) fun r s4 ⟨u,hr,h4⟩=> ?_)
   subst hr
   refine wpAny_passesOwn hp (thn h4 fun _ s5 ⟨x,H5,I5,r5,y5,st5,fr5⟩=> ?_)
   have I5':=I5.pinned (stat fr5) (T.obj _ _ st5)
   refine wpAny_passesOwn hp (thn (hg _ s5 σ3 H5 x u _ I5' r5 (step x H5 y5)) fun _ s6 ⟨σ6,H6,I6,q6⟩=> ?_)
   refine wpAny_passesOwn hp (thn (hb _ s6 σ6 H6 _ I6 q6) fun f s7 q7=> ?_)
   have again: ∀{σ7:St} {H7:Hp},Inv X (pins++khu fp s5.heap) σ7 H7 s7→N σ7 H7→∃m,m < n∧∃i σ' H',Inv X pins σ' H' s7∧tn i s7.heap∧(∀ b∈fp,H' b=none)∧W i m σ' H':=fun {σ7 H7} I7 n7=>by
    obtain ⟨m',hm,w7⟩:=hN σ7 H7 n7
    refine ⟨m',hm,i + 1,σ7,H7,I7.unpinned,T.keep _ _ _ st5 fun b hb o e=>(I7.pin (b,o) (List.mem_append_right _ (List.mem_append_right _ (kdc hb e)))).1,fun b hb=> ?_,w7⟩
    obtain ⟨o,e,d⟩:=T.obj _ _ st5 b hb
    exact (I7.pin (b,o) (List.mem_append_right _ (List.mem_append_right _ (kdc hb e)))).2.1
   cases f with
   | next=>obtain ⟨σ7,H7,I7,n7⟩:=q7;exact again I7 n7
   | cont=>obtain ⟨σ7,H7,I7,n7⟩:=q7;exact again I7 n7
   | brk=>obtain ⟨σ7,H7,I7,q7⟩:=q7;exact ⟨σ7,H7,I7.unpinned,q7⟩
   | ret v=>obtain ⟨x7,σ7,H7,I7,r7,q7⟩:=q7;exact ⟨x7,σ7,H7,I7.unpinned,r7,q7⟩
end
theorem kqk {K:PySem.W.Frag} {a:Addr} {xs:List V} {g:TG} {tb:TS} {D:Ends} {σ:St} {H:Hp} (Pv:Nat→St→Hp→Prop) (h0:Pv 0 σ H) (hl: ∀i σ H,i≤xs.length→Pv i σ H→SqL K H a xs)
 (hs: ∀i x σ H,xs[i]?=some x→Pv i σ H→g x σ H fun σ2 H2=>tb {D with nx:=Pv (i + 1),ct:=Pv (i + 1),bk:=D.nx} σ2 H2) (hd: ∀σ H,Pv xs.length σ H→D.nx σ H):
 ∃W:Nat→Nat→St→Hp→Prop,(∃ m,W 0 m σ H)∧∀i m σ H,W i m σ H→
  ((Itl K a).stop i H∧D.nx σ H)∨((Itl K a).go i H∧∃N:St→Hp→Prop,(∀ σ' H',N σ' H'→∃m',m' < m∧W (i + 1) m' σ' H')∧∀x H',(Itl K a).yld i H x H'→g x σ H' fun σ2 H2=>tb {D with nx:=N,ct:=N,bk:=D.nx} σ2 H2):=by
 refine ⟨fun i m σ H=>m=xs.length - i∧i≤xs.length∧Pv i σ H,⟨xs.length,by simp,Nat.zero_le _,h0⟩,?_⟩
 rintro i m σ H ⟨rfl,hi,p⟩
 have q:=hl i σ H hi p
 by_cases hlt:i < xs.length
 · refine .inr ⟨⟨xs,xs[i],q,by simp [hlt]⟩,Pv (i + 1),fun σ' H' p'=>⟨xs.length - (i + 1),by lia,rfl,hlt,p'⟩,fun x H' y=> ?_⟩
   obtain ⟨e,y⟩:=y
   subst e
   exact hs i x σ _ (y xs q) p
 · have e:i=xs.length:=by lia
   subst e
   exact .inl ⟨⟨xs,q,Nat.le_refl _⟩,hd σ H p⟩
theorem kmm {lo:Int} {n:Nat} {g:TG} {tb:TS} {D:Ends} {σ:St} {H:Hp} (Pv:Nat→St→Hp→Prop) (h0:Pv 0 σ H)
 (hs: ∀i σ H,i < n→Pv i σ H→g (.int (lo + i)) σ H fun σ2 H2=>tb {D with nx:=Pv (i + 1),ct:=Pv (i + 1),bk:=D.nx} σ2 H2) (hd: ∀σ H,Pv n σ H→D.nx σ H):
 ∃W:Nat→Nat→St→Hp→Prop,(∃ m,W 0 m σ H)∧∀i m σ H,W i m σ H→
  ((Itr lo n).stop i H∧D.nx σ H)∨((Itr lo n).go i H∧∃N:St→Hp→Prop,(∀ σ' H',N σ' H'→∃m',m' < m∧W (i + 1) m' σ' H')∧∀x H',(Itr lo n).yld i H x H'→g x σ H' fun σ2 H2=>tb {D with nx:=N,ct:=N,bk:=D.nx} σ2 H2):=by
 refine ⟨fun i m σ H=>m=n - i∧i≤n∧Pv i σ H,⟨n,by simp,Nat.zero_le _,h0⟩,?_⟩
 rintro i m σ H ⟨rfl,hi,p⟩
 by_cases hlt:i < n
 · refine .inr ⟨hlt,Pv (i + 1),fun σ' H' p'=>⟨n - (i + 1),by lia,rfl,hlt,p'⟩,fun x H' y=> ?_⟩
   obtain ⟨e,y⟩:=y
   subst e y
   exact hs i σ _ hlt p
 · have e:i=n:=by lia
   subst e
   exact .inl ⟨Nat.le_refl _,hd σ H p⟩
end L2
namespace L2
open PySem PySem.Spec PyProof.Rows
noncomputable abbrev R2:=V→V→Hp→VK→Prop
noncomputable def OpR (X:Cx) (f:Value→Value→Sem Value) (r:R2):Prop:=
 ∀(pins:List (Addr×Obj)) (s:Shared) (σ:St) (H:Hp) (x y:V) (v u:Value) (Q:VK),Inv X pins σ H s→RelV x v→RelV y u→r x y H Q→
  wpAny (model X.prog X.w) X.A (f v u) (EP X pins σ Q) X.xe s
noncomputable def UnR (X:Cx) (f:Value→Sem Value) (r:V→Hp→VK→Prop):Prop:=
 ∀(pins:List (Addr×Obj)) (s:Shared) (σ:St) (H:Hp) (x:V) (v:Value) (Q:VK),Inv X pins σ H s→RelV x v→r x H Q→
  wpAny (model X.prog X.w) X.A (f v) (EP X pins σ Q) X.xe s
noncomputable def CallR (X:Cx) (f:Value) (r:List V→Hp→VK→Prop):Prop:=
 ∀(pins:List (Addr×Obj)) (s:Shared) (σ:St) (H:Hp) (xs:List V) (us:List Value) (Q:VK),Inv X pins σ H s→Vals xs us→r xs H Q→
  wpAny (model X.prog X.w) X.A (call f us) (EP X pins σ Q) X.xe s
noncomputable def tOp (r:R2) (ta tb:TE):TE:=fun σ H Q=>ta σ H fun x H1=>tb σ H1 fun y H2=>r x y H2 Q
noncomputable def tUn (r:V→Hp→VK→Prop) (ta:TE):TE:=fun σ H Q=>ta σ H fun x H1=>r x H1 Q
noncomputable def rI (C:Int→Int→Prop) (g:Int→Int→V):R2:=fun x y H Q=>∃i j,x= .int i∧y= .int j∧C i j∧Q (g i j) H
noncomputable def rI0 (g:Int→Int→V):R2:=fun x y H Q=>∃i j,x= .int i∧y= .int j∧Q (g i j) H
noncomputable def rU (g:Int→V):V→Hp→VK→Prop:=fun x H Q=>∃i,x= .int i∧Q (g i) H
section
variable {X:Cx} {a b c:Expr} {ta tb tc:TE} {pos:Pos}
theorem binT (ha:PE X a ta) (hb:PE X b tb) {pins:List (Addr×Obj)} {s:Shared} {σ:St} {H:Hp} {R:V→V→Hp→Prop} (I:Inv X pins σ H s)
 (h:ta σ H fun x H1=>tb σ H1 fun y H2=>R x y H2) {Q:Value→Shared→Prop} {f:Value→Value→Sem Value}
 (hf: ∀v u s2 x y H2,Inv X pins σ H2 s2→RelV x v→RelV y u→R x y H2→wpAny (model X.prog X.w) X.A (f v u) Q X.xe s2):
 wpAny (model X.prog X.w) X.A (eval a X.env) (fun v s₁=>wpAny (model X.prog X.w) X.A (eval b X.env) (fun u s₂=>wpAny (model X.prog X.w) X.A (f v u) Q X.xe s₂) X.xe s₁) X.xe s:=by
 refine thn (ha pins s σ H _ I h) fun v s1 ⟨x,H1,I1,r1,q1⟩=> ?_
 refine thn (hb pins s1 σ H1 _ I1 q1) fun u s2 ⟨y,H2,I2,r2,q2⟩=> ?_
 exact hf v u s2 x y H2 I2 r1 r2 q2
theorem ka0 {op:Operator} {r:R2} (ho:OpR X (binaryOp op) r) (ha:PE X a ta) (hb:PE X b tb):PE X (.BinOp a op b pos) (tOp r ta tb):=by
 intro pins s σ H Q I h
 exact wpAny_BinOp (binT ha hb I h fun v u s2 x y H2 I2 rx ry q=>ho pins s2 σ H2 x y v u Q I2 rx ry q)
theorem pe_un {op:UnaryOp} {r:V→Hp→VK→Prop} (ho:UnR X (unaryOp op) r) (ha:PE X a ta):PE X (.UnaryOp op a pos) (tUn r ta):=by
 intro pins s σ H Q I h
 exact UnaryOp_ (thn (ha pins s σ H _ I h) fun v s1 ⟨x,H1,I1,r1,q1⟩=>ho pins s1 σ H1 x v Q I1 r1 q1)
theorem opI {f:Value→Value→Sem Value} {C:Int→Int→Prop} {g:Int→Int→Int}
 (rule: ∀(i j:Int) (t u:Tok) (s:Shared) (Q:Value→Shared→Prop) (E:Value→Shared→Prop),C i j→Q (.int (g i j) s.toks) {s with toks:=s.toks + 1}→wpAny (model X.prog X.w) X.A (f (.int i t) (.int j u)) Q E s):
 OpR X f (rI C fun i j=> .int (g i j)):=by
 intro pins s σ H x y v u Q I rx ry h
 obtain ⟨i,j,rfl,rfl,hc,q⟩:=h
 obtain ⟨t,rfl⟩:=rx
 obtain ⟨t',rfl⟩:=ry
 exact rule i j t t' s _ _ hc ⟨.int (g i j),H,I.tok _,⟨_,rfl⟩,q⟩
theorem opI0 {f:Value→Value→Sem Value} {g:Int→Int→Int}
 (rule: ∀(i j:Int) (t u:Tok) (s:Shared) (Q:Value→Shared→Prop) (E:Value→Shared→Prop),Q (.int (g i j) s.toks) {s with toks:=s.toks + 1}→wpAny (model X.prog X.w) X.A (f (.int i t) (.int j u)) Q E s):
 OpR X f (rI0 fun i j=> .int (g i j)):=by
 intro pins s σ H x y v u Q I rx ry h
 obtain ⟨i,j,rfl,rfl,q⟩:=h
 obtain ⟨t,rfl⟩:=rx
 obtain ⟨t',rfl⟩:=ry
 exact rule i j t t' s _ _ ⟨.int (g i j),H,I.tok _,⟨_,rfl⟩,q⟩
theorem opB0 {f:Value→Value→Sem Value} {g:Int→Int→Bool}
 (rule: ∀(i j:Int) (t u:Tok) (s:Shared) (Q:Value→Shared→Prop) (E:Value→Shared→Prop),Q (.bool (g i j)) s→wpAny (model X.prog X.w) X.A (f (.int i t) (.int j u)) Q E s):
 OpR X f (rI0 fun i j=> .bl (g i j)):=by
 intro pins s σ H x y v u Q I rx ry h
 obtain ⟨i,j,rfl,rfl,q⟩:=h
 obtain ⟨t,rfl⟩:=rx
 obtain ⟨t',rfl⟩:=ry
 exact rule i j t t' s _ _ ⟨.bl (g i j),H,I,rfl,q⟩
noncomputable def CDiv (i j:Int):Prop:=0 < j∧j < 1073741824
noncomputable def CPow (i j:Int):Prop:=0≤j∧j≤1000000∧i.natAbs < 2 ^ 64
noncomputable def CMul (i j:Int):Prop:=(-(2 ^ 64) < i∧i < 2 ^ 64)∨(-(2 ^ 64) < j∧j < 2 ^ 64)
theorem CMul.ok {i j:Int} (h:CMul i j):IntMulOk i j:=by
 rcases h with ⟨h1,h2⟩ | ⟨h1,h2⟩
 · exact .of_left (intBits_le_64 h1 h2)
 · exact .of_right (intBits_le_64 h1 h2)
theorem kd5:OpR X (binaryOp .Add) (rI0 fun i j=> .int (i + j)):=opI0 fun q_ q_ q_ q_ q_ q_ q_ q=>add_int q
theorem ksq:OpR X (binaryOp .Sub) (rI0 fun i j=> .int (i - j)):=opI0 fun q_ q_ q_ q_ q_ q_ q_ q=>sub_int q
theorem kc6:OpR X (binaryOp .Mult) (rI CMul fun i j=> .int (i * j)):=opI fun q_ q_ q_ q_ q_ q_ q_ hc q=>mul_int q hc.ok
theorem kb1:OpR X (binaryOp .FloorDiv) (rI CDiv fun i j=> .int (i / j)):=opI fun i j q_ q_ q_ q_ q_ hc q=>by
 have h1:(0:Int) < j:=hc.1
 have h2:j < 1073741824:=hc.2
 exact floordiv_int (by lia) (by rw [Int.fdiv_eq_ediv_of_nonneg i (by lia)];exact q) (.inl (PyProof.noPylong_small (by lia)))
theorem kb7:OpR X (binaryOp .Mod) (rI (fun q_ j=>0 < j) fun i j=> .int (i % j)):=opI fun i j q_ q_ q_ q_ q_ hc q=>by
 have h1:(0:Int) < j:=hc
 exact mod_int' (by lia) (by rw [Int.fmod_eq_emod_of_nonneg i (by lia)];exact q)
theorem kxq:OpR X (binaryOp .Pow) (rI CPow fun i j=> .int (i ^ j.toNat)):=opI fun q_ q_ q_ q_ q_ q_ q_ hc q=>pow_int_small hc.1 hc.2.1 hc.2.2 q
theorem unI {f:Value→Sem Value} {g:Int→Int}
 (rule: ∀(i:Int) (t:Tok) (s:Shared) (Q:Value→Shared→Prop) (E:Value→Shared→Prop),Q (.int (g i) s.toks) {s with toks:=s.toks + 1}→wpAny (model X.prog X.w) X.A (f (.int i t)) Q E s):
 UnR X f (rU fun i=> .int (g i)):=by
 intro pins s σ H x v Q I rx h
 obtain ⟨i,rfl,q⟩:=h
 obtain ⟨t,rfl⟩:=rx
 exact rule i t s _ _ ⟨.int (g i),H,I.tok _,⟨_,rfl⟩,q⟩
theorem kxr:UnR X (unaryOp .USub) (rU fun i=> .int (-i)):=unI fun q_ q_ q_ q_ q_ q=>neg_int q
end
noncomputable def scal:V→V→Bool
 | .non,.non=>true | .non,.int _=>true | .int _,.non=>true | .non,.bl _=>true | .bl _,.non=>true | .non,.str _=>true | .str _,.non=>true
 | .int _,.int _=>true | .bl _,.bl _=>true | .str _,.str _=>true | .byt _,.byt _=>true
 | .int _,.str _=>true | .str _,.int _=>true | .bl _,.str _=>true | .str _,.bl _=>true
 | _,_=>false
noncomputable def rEq:R2:=fun x y H Q=>scal x y=true∧Q (.bl (decide (x=y))) H
noncomputable def rNe:R2:=fun x y H Q=>scal x y=true∧Q (.bl (!decide (x=y))) H
theorem kmn {i j:Int}:decide (V.int i=V.int j)=(i == j):=by
 rw [Bool.eq_iff_iff]
 simp
theorem ksr {i j:Bool}:decide (V.bl i=V.bl j)=(i == j):=by
 rw [Bool.eq_iff_iff]
 simp
theorem kmo {i j:Str}:decide (V.str i=V.str j)=(i == j):=by
 rw [Bool.eq_iff_iff]
 simp
theorem kmp {i j:Array UInt8}:decide (V.byt i=V.byt j)=(i.toList == j.toList):=by
 rw [Bool.eq_iff_iff]
 cases i
 cases j
 simp
section
variable {X:Cx} {a b c:Expr} {ta tb tc:TE} {pos:Pos}
theorem ka1 {pins:List (Addr×Obj)} {σ:St} {H:Hp} {s:Shared} {Q:VK} {k k':Bool} (I:Inv X pins σ H s) (q:Q (.bl k) H) (e:k=k'):EP X pins σ Q (.bool k') s:=by
 subst e
 exact ⟨.bl k,H,I,rfl,q⟩
theorem kmq:OpR X (compareOp .Eq) rEq:=by
 intro pins s σ H x y v u Q I rx ry h
 obtain ⟨hs,q⟩:=h
 cases x with
 | non=>
   cases rx
   cases y with
   | non=>cases ry;exact PySem.EqNone.eq_none_none (ka1 I q (by simp))
   | bl j=>cases ry;exact PySem.EqNone.eq_none_bool (ka1 I q (by simp))
   | int j=>obtain ⟨t',rfl⟩:=ry;exact PySem.EqNone.eq_none_int (ka1 I q (by simp))
   | str j=>obtain ⟨t',rfl⟩:=ry;exact PySem.EqNone.eq_none_str (ka1 I q (by simp))
   | _=>exact absurd (show false=true from hs) Bool.false_ne_true
 | bl i=>
   cases rx
   cases y with
   | non=>cases ry;exact PySem.EqNone.eq_bool_none (ka1 I q (by simp))
   | bl j=>cases ry;exact eq_bool (ka1 I q ksr)
   | str j=>obtain ⟨t',rfl⟩:=ry;exact PySem.EqMixed.eq_bool_str (ka1 I q (by simp))
   | _=>exact absurd (show false=true from hs) Bool.false_ne_true
 | int i=>
   obtain ⟨t,rfl⟩:=rx
   cases y with
   | non=>cases ry;exact PySem.EqNone.eq_int_none (ka1 I q (by simp))
   | int j=>obtain ⟨t',rfl⟩:=ry;exact eq_int (ka1 I q kmn)
   | str j=>obtain ⟨t',rfl⟩:=ry;exact PySem.EqMixed.eq_int_str (ka1 I q (by simp))
   | _=>exact absurd (show false=true from hs) Bool.false_ne_true
 | str i=>
   obtain ⟨t,rfl⟩:=rx
   cases y with
   | non=>cases ry;exact PySem.EqNone.eq_str_none (ka1 I q (by simp))
   | bl j=>cases ry;exact PySem.EqMixed.eq_str_bool (ka1 I q (by simp))
   | int j=>obtain ⟨t',rfl⟩:=ry;exact PySem.EqMixed.eq_str_int (ka1 I q (by simp))
   | str j=>obtain ⟨t',rfl⟩:=ry;exact eq_str (ka1 I q kmo)
   | _=>exact absurd (show false=true from hs) Bool.false_ne_true
 | byt i=>
   obtain ⟨t,rfl⟩:=rx
   cases y with
   | byt j=>obtain ⟨t',rfl⟩:=ry;exact PySem.W.eq_bytes (ka1 I q kmp)
   | _=>exact absurd (show false=true from hs) Bool.false_ne_true
 | _=>cases y <;> exact absurd (show false=true from hs) Bool.false_ne_true
theorem op_ne:OpR X (compareOp .NotEq) rNe:=by
 intro pins s σ H x y v u Q I rx ry h
 obtain ⟨hs,q⟩:=h
 cases x with
 | non=>
   cases rx
   cases y with
   | non=>cases ry;exact PySem.EqNone.ne_none_none (ka1 I q (by simp))
   | bl j=>cases ry;exact PySem.EqNone.ne_none_bool (ka1 I q (by simp))
   | int j=>obtain ⟨t',rfl⟩:=ry;exact PySem.EqNone.ne_none_int (ka1 I q (by simp))
   | str j=>obtain ⟨t',rfl⟩:=ry;exact PySem.EqNone.ne_none_str (ka1 I q (by simp))
   | _=>exact absurd (show false=true from hs) Bool.false_ne_true
 | bl i=>
   cases rx
   cases y with
   | non=>cases ry;exact PySem.EqNone.ne_bool_none (ka1 I q (by simp))
   | bl j=>cases ry;exact ne_bool (ka1 I q (congrArg not ksr))
   | str j=>obtain ⟨t',rfl⟩:=ry;exact PySem.EqMixed.ne_bool_str (ka1 I q (by simp))
   | _=>exact absurd (show false=true from hs) Bool.false_ne_true
 | int i=>
   obtain ⟨t,rfl⟩:=rx
   cases y with
   | non=>cases ry;exact PySem.EqNone.ne_int_none (ka1 I q (by simp))
   | int j=>obtain ⟨t',rfl⟩:=ry;exact ne_int (ka1 I q (congrArg not kmn))
   | str j=>obtain ⟨t',rfl⟩:=ry;exact PySem.EqMixed.ne_int_str (ka1 I q (by simp))
   | _=>exact absurd (show false=true from hs) Bool.false_ne_true
 | str i=>
   obtain ⟨t,rfl⟩:=rx
   cases y with
   | non=>cases ry;exact PySem.EqNone.ne_str_none (ka1 I q (by simp))
   | bl j=>cases ry;exact PySem.EqMixed.ne_str_bool (ka1 I q (by simp))
   | int j=>obtain ⟨t',rfl⟩:=ry;exact PySem.EqMixed.ne_str_int (ka1 I q (by simp))
   | str j=>obtain ⟨t',rfl⟩:=ry;exact ne_str (ka1 I q (congrArg not kmo))
   | _=>exact absurd (show false=true from hs) Bool.false_ne_true
 | byt i=>
   obtain ⟨t,rfl⟩:=rx
   cases y with
   | byt j=>obtain ⟨t',rfl⟩:=ry;exact PySem.W.ne_bytes (ka1 I q (congrArg not kmp))
   | _=>exact absurd (show false=true from hs) Bool.false_ne_true
 | _=>cases y <;> exact absurd (show false=true from hs) Bool.false_ne_true
theorem kql:OpR X (compareOp .Lt) (rI0 fun i j=> .bl (decide (i < j))):=opB0 fun q_ q_ q_ q_ q_ q_ q_ q=>lt_int q
theorem kt8:OpR X (compareOp .LtE) (rI0 fun i j=> .bl (decide (i≤j))):=opB0 fun q_ q_ q_ q_ q_ q_ q_ q=>le_int q
theorem kt9:OpR X (compareOp .Gt) (rI0 fun i j=> .bl (decide (j < i))):=opB0 fun q_ q_ q_ q_ q_ q_ q_ q=>gt_int q
theorem kxs:OpR X (compareOp .Is) (fun x y H Q=>y= .non∧Q (.bl (decide (x= .non))) H):=by
 intro pins s σ H x y v u Q I rx ry h
 obtain ⟨rfl,q⟩:=h
 cases ry
 refine is_none_gen (ka1 I q ?_)
 cases x <;> first
  | (cases rx;rfl)
  | (obtain ⟨t,rfl⟩:=rx;rfl)
theorem kua:OpR X (compareOp .IsNot) (fun x y H Q=>y= .non∧Q (.bl (!decide (x= .non))) H):=by
 intro pins s σ H x y v u Q I rx ry h
 obtain ⟨rfl,q⟩:=h
 cases ry
 refine isnot_none_gen (ka1 I q ?_)
 cases x <;> first
  | (cases rx;rfl)
  | (obtain ⟨t,rfl⟩:=rx;rfl)
theorem kdm (b:Expr) {op:CmpOp} (h:autoParam (op≠ .In) u2._auto_1) (h2:autoParam (op≠ .NotIn) u2._auto_1):behindInMarks op b=false:=by
 have e1:(op == CmpOp.In)=false:=by cases op <;> first | rfl | exact absurd rfl h
 have e2:(op == CmpOp.NotIn)=false:=by cases op <;> first | rfl | exact absurd rfl h2
 cases b <;> simp [behindInMarks,e1,e2]
theorem kek {op:CmpOp} {r:R2} (ho:OpR X (compareOp op) r) (ha:PE X a ta) (hb:PE X b tb) (hm:behindInMarks op b=false):PE X (.Compare a [op] [b] pos) (tOp r ta tb):=by
 intro pins s σ H Q I h
 exact wpAny_Compare1 (binT ha hb I h fun v u s2 x y H2 I2 rx ry q=>ho pins s2 σ H2 x y v u Q I2 rx ry q) hm
noncomputable def kxt (t:TE):TT:=fun σ H Q=>t σ H fun x H'=>∃k,x= .bl k∧Q k H'
theorem kdq {op:CmpOp} {r:R2} (ho:OpR X (compareOp op) r) (ha:PE X a ta) (hb:PE X b tb) (hm:behindInMarks op b=false):PT X (.Compare a [op] [b] pos) (kxt (tOp r ta tb)):=by
 intro pins s σ H Q I h
 refine wpAny_isTrue_Compare1 (thn (ha pins s σ H _ I h) fun v s1 ⟨x,H1,I1,r1,q1⟩=>thn (hb pins s1 σ H1 _ I1 q1) fun u s2 ⟨y,H2,I2,r2,q2⟩=>
  thn (ho pins s2 σ H2 x y v u _ I2 r1 r2 q2) fun c s3 ⟨z,H3,I3,r3,k,e,q3⟩=> ?_) hm
 subst e
 cases r3
 exact wpAny_truthy_bool ⟨H3,I3,q3⟩
noncomputable def kmr (r r':R2) (ta tb tc:TE):TE:=fun σ H Q=>ta σ H fun x H1=>tb σ H1 fun y H2=>r x y H2 fun z H3=>∃k,z= .bl k∧
 (if k=true then tc σ H3 fun w' H4=>r' y w' H4 Q else Q (.bl false) H3)
theorem kqm {op op':CmpOp} {r r':R2} (ho:OpR X (compareOp op) r) (ho':OpR X (compareOp op') r') (ha:PE X a ta) (hb:PE X b tb) (hc:PE X c tc)
 (hm:autoParam (lastMarks [op,op'] [b,c]=false) u5._auto_1):PE X (.Compare a [op,op'] [b,c] pos) (kmr r r' ta tb tc):=by
 intro pins s σ H Q I h
 refine Compare_chain (thn (ha pins s σ H _ I h) fun v s1 ⟨x,H1,I1,r1,q1⟩=>chain_link (thn (hb pins s1 σ H1 _ I1 q1) fun u s2 ⟨y,H2,I2,r2,q2⟩=>
  thn (ho pins s2 σ H2 x y v u _ I2 r1 r2 q2) fun d s3 ⟨z,H3,I3,r3,k,e,q3⟩=> ?_)) hm
 subst e
 cases r3
 refine wpAny_truthy_bool ?_
 cases k with
 | false=>exact ite_ff ⟨.bl false,H3,I3,rfl,q3⟩
 | true=>exact ite_tt (chain_last (thn (hc pins s3 σ H3 _ I3 q3) fun w' s4 ⟨z',H4,I4,r4,q4⟩=>ho' pins s4 σ H4 y z' u w' Q I4 r2 r4 q4))
theorem kjw {op op':CmpOp} {r r':R2} (ho:OpR X (compareOp op) r) (ho':OpR X (compareOp op') r') (ha:PE X a ta) (hb:PE X b tb) (hc:PE X c tc)
 (hm:autoParam (lastMarks [op,op'] [b,c]=false) u5._auto_1):PT X (.Compare a [op,op'] [b,c] pos) (kxt (kmr r r' ta tb tc)):=by
 intro pins s σ H Q I h
 refine isTrue_chain (thn (ha pins s σ H _ I h) fun v s1 ⟨x,H1,I1,r1,q1⟩=>test_link (thn (hb pins s1 σ H1 _ I1 q1) fun u s2 ⟨y,H2,I2,r2,q2⟩=>
  thn (ho pins s2 σ H2 x y v u _ I2 r1 r2 q2) fun d s3 ⟨z,H3,I3,r3,k,e,q3⟩=> ?_)) hm
 subst e
 cases r3
 refine wpAny_truthy_bool ?_
 cases k with
 | false=>
   obtain ⟨k',e',q'⟩:=q3
   cases e'
   exact ite_ff ⟨H3,I3,q'⟩
 | true=>
   refine ite_tt (test_last (thn (hc pins s3 σ H3 _ I3 q3) fun w' s4 ⟨z',H4,I4,r4,q4⟩=>thn (ho' pins s4 σ H4 y z' u w' _ I4 r2 r4 q4) fun d' s5 ⟨z2,H5,I5,r5,k2,e2,q5⟩=> ?_))
   subst e2
   cases r5
   exact wpAny_truthy_bool ⟨H5,I5,q5⟩
theorem khv:(sizeLine:Nat) < 2 ^ 63:=by rw [sizeLine_eq];decide
theorem kd6 {x:V} {us:List Value} (r:Vals [x] us): ∃u,us=[u]∧RelV x u:=by
 cases r with
 | cons r1 r2=>cases r2;exact ⟨_,rfl,r1⟩
theorem kxu {x y:V} {us:List Value} (r:Vals [x,y] us): ∃u w',us=[u,w']∧RelV x u∧RelV y w':=by
 cases r with
 | cons r1 r2=>
   cases r2 with
   | cons r3 r4=>cases r4;exact ⟨_,_,rfl,r1,r3⟩
theorem khw:CallR X (.type "int") (fun xs H Q=>(∃ i,xs=[.int i]∧Q (.int i) H)∨∃k,xs=[.bl k]∧Q (.int (if k then 1 else 0)) H):=by
 intro pins s σ H xs us Q I r h
 rcases h with ⟨i,rfl,q⟩ | ⟨k,rfl,q⟩
 · obtain ⟨u,rfl,t,rfl⟩:=kd6 r
   exact call_int_int ⟨.int i,H,I,⟨_,rfl⟩,q⟩
 · obtain ⟨u,rfl,r1⟩:=kd6 r
   cases r1
   exact call_int_bool ⟨.int (if k then 1 else 0),H,I.tok _,⟨_,rfl⟩,q⟩
end
end L2
namespace L2
open PySem PySem.Spec PyProof.Rows
structure ObjM (h:Heap) (x dx C:Addr) (mA:Str→Option Value):Prop where
 obj:h.get? x=some (PySem.W.instObj C dx)
 ns:h.Ns1 dx mA
 ne:dx≠x
set_option tactic.hygienic true in
theorem kms {h:Heap} {dx:Addr} {mA:Str→Option Value} (n:h.Ns1 dx mA): ∃od,h.get? dx=some od∧∀name,PySem.W.lookIn name od=some (mA name):=by
 obtain ⟨o,es,ep,ho,hd,hk,_,hm⟩:=n
 refine ⟨o,ho,fun name=> ?_⟩
 have e:=hm name
 unfold nsFind findBy at e
 rw [← Array.find?_toList] at e
 unfold PySem.W.lookIn
 rw [hd]
 dsimp only
 split
 · rename_i y q
   rw [q] at e
   exact congrArg some e
 · rename_i q
   rw [q] at e
   have a:es.toList.any (·.refKey)=false:=by
    rw [List.any_eq_false]
    intro y hy
    obtain ⟨z,t,hkey⟩:=hk y (Array.mem_toList_iff.mp hy)
    simp [DictEntry.refKey,hkey]
   have a': ¬es.toList.any (·.refKey)=true:=by rw [a];exact Bool.false_ne_true
   rw [if_neg a']
   exact congrArg some e
theorem ObjM.look {h:Heap} {x dx C:Addr} {mA:Str→Option Value} (I:ObjM h x dx C mA): ∃od,PySem.W.InstAt h x (PySem.W.instObj C dx) C (some od)∧∀name,PySem.W.lookIn name od=some (mA name):=
 let ⟨od,ho,hl⟩:=kms I.ns
 ⟨od,⟨I.obj,rfl,rfl,ho⟩,hl⟩
section
variable {prog:Program} {w:World} {A:Around} {E:Value→Shared→Prop} {s:Shared} {K:PySem.W.Frag} {x dx C f:Addr} {mA:Str→Option Value} {name:Str} {v:Value}
end
section
variable {P:Program} {w:World} {H H':Hp} {h h':Heap} {a C dx:Addr} {fs fs':List (Str×V)}
theorem kub (hok:HOk P w H h) (e:H a=some (.ins C dx fs)): ∃mA,ObjM h a dx C mA∧(∀ f,RelO (fs.lookup f) (mA f))∧PySem.Within mA (fs.map (·.1))∧fs.length≤1000∧H dx=some (.own a):=by
 obtain ⟨d,z,ne,ob,mA,n,r,q⟩:=(show ObjOk P w H h a (.ins C dx fs) from hok a _ e)
 exact ⟨mA,⟨ob,n,ne⟩,r,q,z,d⟩
end
structure Cls (K:PySem.W.Frag) (C:Addr):Prop where
 pg:PySem.W.plainGet K C Str.empty=true
 hd:PySem.W.hasDictIn K C=true
 po:PySem.W.plainOver K C=true
 sa:PySem.W.findIn K (.ref C) "__setattr__"=some (some (.builtin "object.__setattr__"))
theorem Cls.get {K:PySem.W.Frag} {C:Addr} (c:Cls K C) (f:Str):PySem.W.plainGet K C f=true:=c.pg
section
variable {X:Cx} {pins:List (Addr×Obj)} {σ:St} {H:Hp} {s:Shared} {a C dx:Addr} {fs:List (Str×V)} {f:Str} {v:V} {A:Around} {E:Value→Shared→Prop}
end
section
variable {X:Cx} {o e value:Expr} {f:Str} {pos pos' tpos:Pos} {ta tv:TE}
end
section
variable {X:Cx} {pins:List (Addr×Obj)} {σ:St} {H:Hp} {s:Shared} {A:Around} {E:Value→Shared→Prop} {Q:Value→Shared→Prop} {c:Value} {b:Bool}
inductive TyOf (K:PySem.W.Frag) (H:Hp):V→Value→Prop where
 | non:TyOf K H .non (.type "NoneType")
 | bl (x:Bool):TyOf K H (.bl x) (.type "bool")
 | int (i:Int):TyOf K H (.int i) (.type "int")
 | str (x:Str):TyOf K H (.str x) (.type "str")
 | flt (x:UInt64):TyOf K H (.flt x) (.type "float")
 | lst {a:Addr} {xs:List V} (e:H a=some (.lst xs)):TyOf K H (.ref a) (.type "list")
 | frz {a:Addr} {o:Obj} {xs:List V} (e:H a=some (.frz o (.lst xs))):TyOf K H (.ref a) (.type "list")
 | tup {a:Addr} {xs:List V} (e:H a=some (.tup xs)):TyOf K H (.ref a) (.type "tuple")
 | dK {a:Addr} {kvs:List (Key×V)} (e:H a=some (.dK kvs)):TyOf K H (.ref a) (.type "dict")
 | dT {a:Addr} {kvs:List (List Key×V)} (e:H a=some (.dT kvs)):TyOf K H (.ref a) (.type "dict")
 | ins {a C dx:Addr} {fs:List (Str×V)} (e:H a=some (.ins C dx fs)) (cl:Cls K C) (ha:PySem.W.findIn K (.ref C) "__class__"=some (some (.builtin "object.__class__")))
    (hn:PySem.W.specialIn K (.builtin "object.__class__") "__get__"=some (some (.builtin "getset_descriptor.__get__"))) (htk:PySem.W.takesIn K (.builtin "object.__class__")=some true)
    (hm:PySem.W.mroIn K C (.type "object")=some true):TyOf K H (.ref a) (.ref C)
theorem kmt {x:V} {u t:Value} (I:Inv X pins σ H s) (rx:RelV x u) (ty:TyOf X.K H x t) (e:PySem.W.kitOne X.K t c=some b) (h: ∀tk,Q (.bool b) {s with toks:=tk}):
 wpAny (model X.prog X.w) A (call (.builtin "isinstance") [u,c]) Q E s:=by
 cases ty with
 | non=>cases (show u=Value.none from rx);exact PySem.W.kia_one PySem.W.kitx_none I.kIn True.intro e (fun z=>nomatch z) h
 | bl y=>cases (show u=Value.bool y from rx);exact PySem.W.kia_one PySem.W.kitx_bool I.kIn True.intro e (fun z=>nomatch z) h
 | int i=>obtain ⟨t,q⟩:=(show ∃t,u=Value.int i t from rx);cases q;exact PySem.W.kia_one PySem.W.kitx_int I.kIn True.intro e (fun z=>nomatch z) h
 | str y=>obtain ⟨t,q⟩:=(show ∃t,u=Value.str y t from rx);cases q;exact PySem.W.kia_one PySem.W.kitx_str I.kIn True.intro e (fun z=>nomatch z) h
 | flt y=>obtain ⟨t,q⟩:=(show ∃t,u=Value.float y t from rx);cases q;exact PySem.W.kia_one PySem.W.kitx_float I.kIn True.intro e (fun z=>nomatch z) h
 | @lst a xs ea=>
   cases (show u=Value.ref a from rx)
   obtain ⟨_,_,n,_,h1⟩:=(show ObjOk X.prog X.w H s.heap a (.lst xs) from I.hok a _ ea)
   exact PySem.W.kia_one PySem.W.kitx_list I.kIn ⟨_,h1,rfl⟩ e (fun z=>nomatch z) h
 | @frz a ob xs ea=>
   cases (show u=Value.ref a from rx)
   obtain ⟨_,_,_,n,_,h1⟩:=(show ObjOk X.prog X.w H s.heap a (.frz ob (.lst xs)) from I.hok a _ ea)
   exact PySem.W.kia_one PySem.W.kitx_list I.kIn ⟨_,h1,rfl⟩ e (fun z=>nomatch z) h
 | @tup a xs ea=>
   cases (show u=Value.ref a from rx)
   obtain ⟨_,_,_,p⟩:=(show ObjOk X.prog X.w H s.heap a (.tup xs) from I.hok a _ ea)
   obtain ⟨o,h1,h2,_⟩:=p
   exact PySem.W.kia_one PySem.W.kitx_tuple I.kIn ⟨o,h1,h2⟩ e (fun z=>nomatch z) h
 | @dK a kvs ea=>
   cases (show u=Value.ref a from rx)
   obtain ⟨_,_,vs,_,p⟩:=(show ObjOk X.prog X.w H s.heap a (.dK kvs) from I.hok a _ ea)
   obtain ⟨o,es,ep,h1,h2,_⟩:=p
   exact PySem.W.kia_one PySem.W.kitx_dict I.kIn ⟨o,h1,h2.1⟩ e (fun z=>nomatch z) h
 | @dT a kvs ea=>
   cases (show u=Value.ref a from rx)
   obtain ⟨_,_,xs,_,o,es,ep,h1,h2,_⟩:=(show ObjOk X.prog X.w H s.heap a (.dT kvs) from I.hok a _ ea)
   exact PySem.W.kia_one PySem.W.kitx_dict I.kIn ⟨o,h1,h2.1⟩ e (fun z=>nomatch z) h
 | @ins a C dx fs ea cl ha hn htk hm=>
   cases (show u=Value.ref a from rx)
   obtain ⟨mA,O,_⟩:=kub I.hok ea
   obtain ⟨od,J,_⟩:=O.look
   exact PySem.W.kia_one (PySem.W.kitx_own (cl.get _) cl.hd ha hn htk hm) I.kIn J e (fun z=>nomatch z) h
end
end L2
namespace L2
open PySem PySem.Spec PyProof.Rows
structure Room (k:Nat) (A:Around):Prop where
 hd:A.handled=none
 dp:A.depth + 3 * k + 5 < recursionLimit
 un:A.units + 16 * k + 200 < cLine
theorem Room.mono {j k:Nat} {A:Around} (r:Room k A) (h:j≤k):Room j A:=⟨r.hd,by have:=r.dp;lia,by have:=r.un;lia⟩
theorem Room.deeper {k:Nat} {A:Around} (r:Room (k + 1) A) (env:Env):Room k (A.deeper env):=
 ⟨r.hd,by have:=r.dp;show A.depth + 1 + 3 * k + 5 < _;lia,by have:=r.un;show A.units + 3 + 16 * k + 200 < _;lia⟩
theorem Room.depth {k:Nat} {A:Around} (r:Room k A):A.depth < recursionLimit:=by have:=r.dp;lia
noncomputable def tNil:TA:=fun q_ H Q=>Q [] H
noncomputable def kqn (ta:TE) (tr:TA):TA:=fun σ H Q=>ta σ H fun x H1=>tr σ H1 fun xs H2=>Q (x::xs) H2
section
variable {X:Cx} {e:Expr} {es:List Expr} {te:TE} {t:TA} {pos:Pos}
theorem kai:PA X [] tNil:=fun q_ q_ q_ q_ H Q I h=>Calls.spliced_nil ⟨[],H,I,.nil,h⟩
theorem kab (ha:PE X e te) (hr:PA X es t) (hs:autoParam (starEach (e::es) X.env=(false,eval e X.env)::starEach es X.env) u4._auto_1):PA X (e::es) (kqn te t):=by
 intro pos pins s σ H Q I h
 rw [hs]
 show wpAny _ _ (spliced ((false,eval e X.env)::backTo pos (starEach es X.env))) _ _ s
 refine Calls.spliced_cons (thn (ha pins s σ H _ I h) fun u s1 ⟨x,H1,I1,r1,q1⟩=> ?_)
 exact thn (hr pos pins s1 σ H1 _ I1 q1) fun us s2 ⟨xs,H2,I2,r2,q2⟩=>⟨x::xs,H2,I2,.cons r1 r2,q2⟩
noncomputable def tTup (t:TA):TE:=fun σ H Q=>t σ H fun xs H1=>xs.length≤sizeLine∧∀p,H1 p=none→Q (.ref p) (upd H1 p (.tup xs))
noncomputable def tLst (t:TA):TE:=fun σ H Q=>t σ H fun xs H1=>xs.length≤sizeLine∧∀p,H1 p=none→Q (.ref p) (upd H1 p (.lst xs))
theorem kez {x1} (h:PA X es t):PE X (.Tuple es x1 pos) (tTup t):=by
 intro pins s σ H Q I hq
 refine wpAny_Tuple_spliced (thn (h pos pins s σ H _ I hq) fun us s1 ⟨xs,H1,I1,r,z,q⟩=>⟨by rw [← r.length];exact z,?_⟩)
 have hf:H1 s1.heap.objs.size=none:=I1.hok.fresh (Nat.le_refl _)
 refine ⟨.ref s1.heap.objs.size,upd H1 s1.heap.objs.size (.tup xs),I1.laid (t':=s1.toks) (fun b u e=>Heap.get?_push_of_some _ e) (Nat.le_refl _) ?_,rfl,q _ hf⟩
 exact ⟨z,us,r,⟨_,Heap.get?_push_size _ rfl,rfl,_,rfl⟩⟩
theorem ke0 (h:PA X es t):PE X (.List es pos) (tLst t):=by
 intro pins s σ H Q I hq
 refine wpAny_List_spliced (thn (h pos pins s σ H _ I hq) fun us s1 ⟨xs,H1,I1,r,z,q⟩=>⟨by rw [← r.length];exact z,?_⟩)
 have hf:H1 s1.heap.objs.size=none:=I1.hok.fresh (Nat.le_refl _)
 refine ⟨.ref s1.heap.objs.size,upd H1 s1.heap.objs.size (.lst xs),I1.laid (t':=s1.toks) (fun b u e=>Heap.get?_push_of_some _ e) (Nat.le_refl _) ?_,rfl,q _ hf⟩
 exact ⟨z,us,0,r,Heap.get?_push_size _ rfl⟩
end
noncomputable abbrev Sp:=List V→Hp→VK→XK→Prop
noncomputable abbrev CXT:=List Env→Hp→Shared→XK→Value→Shared→Prop
structure Env0 (P:Program) (w:World) (K:PySem.W.Frag) (mg:Str→Option Value) (base:Heap) (A:Around) (outer:List Env) (s:Shared) (H:Hp):Prop where
 frames:A.frames=some outer
 mod:Mod K mg base
 bs: ∀b o,base.get? b=some o→s.heap.get? b=some o∧H b=none
 bsz:base.objs.size≤s.heap.objs.size
 funs:s.heap.FunFrames base outer
 frf: ∀b∈frs outer,H b=none
 hok:HOk P w H s.heap
 bare:AllBare s.gens
noncomputable def CE (outer:List Env) (P:Program) (w:World) (H:Hp) (s:Shared) (Q:VK) (u:Value) (s':Shared):Prop:=
 ∃v H',s'.os=s.os∧AllBare s'.gens∧Un (frs outer) [] H H' s.heap s'.heap∧HOk P w H' s'.heap∧RelV v u∧Q v H'
noncomputable def CR (CX:CXT) (outer:List Env) (P:Program) (w:World) (H:Hp) (s:Shared) (Q:VK) (E:XK) (r:Result) (s':Shared):Prop:=
 match r with
 | .ok (.ret u)=>CE outer P w H s Q u s'
 | .ok _=>False
 | .error e=>CX outer H s E e s'
structure FnOk (P:Program) (w:World) (K:PySem.W.Frag) (mg:Str→Option Value) (base:Heap) (CX:CXT) (k:Nat) (f:Addr) (fd:FuncData) (ps:List Str) (sp:Sp):Prop where
 len: ∀vs H Q E,sp vs H Q E→vs.length=ps.length
 run: ∀(A:Around) (outer:List Env) (s:Shared) (H:Hp) (args:Args) (us:List Value) (vs:List V) (Q:VK) (E:XK),Room k A→Env0 P w K mg base A outer s H→BindsTo s fd args (ps.zip us)→Vals vs us→sp vs H Q E→
  codeAny (model P w) A (.call (.ref f) args) (CR CX outer P w H s Q E) s
theorem FnOk.imp {P:Program} {w:World} {K:PySem.W.Frag} {mg:Str→Option Value} {base:Heap} {CX:CXT} {k:Nat} {f:Addr} {fd:FuncData} {ps:List Str} {sp sp':Sp} (F:FnOk P w K mg base CX k f fd ps sp)
 (h: ∀vs H Q E,sp' vs H Q E→sp vs H Q E):FnOk P w K mg base CX k f fd ps sp':=
 ⟨fun vs H Q E q=>F.len vs H Q E (h _ _ _ _ q),fun A outer s H args us vs Q E hr he hb hv hs=>F.run A outer s H args us vs Q E hr he hb hv (h _ _ _ _ hs)⟩
section
variable {X:Cx} {pins:List (Addr×Obj)} {σ:St} {H:Hp} {s s':Shared}
theorem Inv.env0 (I:Inv X pins σ H s):Env0 X.prog X.w X.K X.mg X.base X.A X.stack s H:=
 ⟨I.ok.frames,I.ok.mod,I.bs,Nat.le_trans I.ok.bsz I.sz,I.stack,I.stkFree,I.hok,I.bare⟩
theorem Inv.after {Q:VK} {u:Value} (I:Inv X pins σ H s) (h:CE X.stack X.prog X.w H s Q u s'):EP X pins σ Q u s':=by
 obtain ⟨v,H',os,bare,un,hok,r,q⟩:=h
 obtain ⟨hh,g,d,t,os'⟩:=s'
 obtain rfl:os'=s.os:=os
 exact ⟨v,H',I.call (h':=hh) (g':=g) (d':=d) (t':=t) (ch:=[]) un hok bare (fun b z=>absurd z (by simp)),r,q⟩
end
noncomputable def kxv (sp:Sp) (dvs:List V) (E:XK) (t:TA):TE:=fun σ H Q=>t σ H fun vs H1=>sp (vs++dvs) H1 Q E
noncomputable def Binds (K:PySem.W.Frag) (fd:FuncData) (ps:List Str) (ds:List Value):Prop:=
 ∀(s:Shared) (us:List Value),K.In s.heap→(us++ds).length=ps.length→BindsTo s fd ⟨us,[]⟩ (ps.zip (us++ds))
theorem Binds.all {K:PySem.W.Frag} {fd:FuncData} {ps:List Str} (h: ∀us:List Value,us.length=ps.length→bindArgs fd ⟨us,[]⟩=pure (ps.zip us)):Binds K fd ps []:=fun s us q_ hl=>by
 rw [List.append_nil] at hl ⊢
 exact .of_eq (h us hl)
noncomputable def kmu (CX:CXT) (X:Cx) (E:XK):Prop:=∀(pins:List (Addr×Obj)) (σ:St) (H:Hp) (s:Shared) (e:Value) (s':Shared),Inv X pins σ H s→CX X.stack H s E e s'→X.xe e s'
section
variable {X:Cx} {CX:CXT} {k:Nat} {f C:Addr} {fd:FuncData} {ps:List Str} {sp:Sp} {dvs:List V} {ds:List Value} {E:XK} {x m:Str} {p pos apos:Pos} {e o:Expr} {es:List Expr} {ta:TE} {t:TA}
theorem kxw {pins:List (Addr×Obj)} {σ:St} {H:Hp} {s:Shared} {Q:VK} {us:List Value} {vs:List V} (F:FnOk X.prog X.w X.K X.mg X.base CX k f fd ps sp) (hr:Room k X.A) (hb:Binds X.K fd ps ds) (hd:Vals dvs ds) (hx:kmu CX X E)
 (I:Inv X pins σ H s) (r:Vals vs us) (h:sp (vs++dvs) H Q E):wpAny (model X.prog X.w) X.A (call (.ref f) us) (EP X pins σ Q) X.xe s:=by
 have r2:Vals (vs++dvs) (us++ds):=r.append hd
 have hl:(us++ds).length=ps.length:=by rw [← r2.length];exact F.len _ _ _ _ h
 refine wpAny_call (codeAny_mono (F.run X.A X.stack s H ⟨us,[]⟩ (us++ds) (vs++dvs) Q E hr I.env0 (hb s us I.kIn hl) r2 h) fun r s' hq=> ?_)
 cases r with
 | error e=>exact hx pins σ H s e s' I hq
 | ok fl=>
   cases fl with
   | ret u=>exact I.after hq
   | next=>exact False.elim hq
   | brk=>exact False.elim hq
   | cont=>exact False.elim hq
theorem kuc (F:FnOk X.prog X.w X.K X.mg X.base CX k f fd ps sp) (hr:Room k X.A) (hg:Gl X x) (hm:X.mg x=some (.ref f)) (hk:PySem.W.keepIn X.K (.ref f)=true) (hb:Binds X.K fd ps ds) (hd:Vals dvs ds) (hx:kmu CX X E)
 (ha:PA X (e::es) t) (hdb:autoParam ((x == ("__debug__":Str))=false) u2._auto_1) (he:autoParam (starEach (e::es) X.env=(false,eval e X.env)::starEach es X.env) u4._auto_1) (hpl:autoParam ((backTo pos (starEach es X.env)).any (·.1)=false) u4._auto_1):
 PE X (.Call (.Name x p) (e::es) [] pos) (kxv sp dvs E t):=by
 intro pins s σ H Q I h
 refine wpAny_Call_Name_kw (kmi I hg hm ?_ hdb)
 refine PySem.W.callWith_K (h₀:=X.base) I.ok.mod.kin hk (thn (ha pos pins s σ H _ I h) fun us s1 ⟨vs,H1,I1,r,q⟩=>⟨I1.kIn,?_⟩) he hpl
 exact kxw F hr hb hd hx I1 r q
end
section
variable {X:Cx} {CX:CXT} {k:Nat} {f C:Addr} {fd:FuncData} {ps ks:List Str} {sp:Sp} {E:XK} {x m:Str} {p pos apos kpos:Pos} {e o:Expr} {es:List Expr} {kws:List Keyword} {te ta:TE} {t tk:TA} {nm:Option Str}
variable {g:List Value→List Value→List Value} {gV:List V→List V→List V}
end
structure FnScope (N P:List Str) (sc:Scope):Prop where
 kind:sc.kind= .function
 co:sc.isCoroutine=false
 gen:sc.isGenerator=false
 nd:N.Nodup
 pre:N.take P.length=P
 par: ∀x∈P,sc.names.lookup x=some .local∨sc.names.lookup x=some .cell
 nofree: ∀y∈sc.names,y.2≠ .free
theorem khx {kindOf:Str→Option NameKind} {x:Str}: ∀{binds:List (Str×Value)} {m:Str→Option Value},(∀ v,(x,v) ∉ binds)→bindL kindOf binds m x=m x
 | [],_,_=>rfl
 | (n,v)::r,m,h=>by
   unfold bindL
   rw [khx fun w hw=>h w (List.mem_cons_of_mem _ hw)]
   split
   · have:x≠n:=by rintro rfl;exact h v List.mem_cons_self
     simp [this]
   · rfl
theorem khy {kindOf:Str→Option NameKind} {x:Str}: ∀{binds:List (Str×Value)} {m:Str→Option Value},(∀ v,(x,v) ∉ binds)→bindC kindOf binds m x=m x
 | [],_,_=>rfl
 | (n,v)::r,m,h=>by
   unfold bindC
   rw [khy fun w hw=>h w (List.mem_cons_of_mem _ hw)]
   split
   · rfl
   · have:x≠n:=by rintro rfl;exact h v List.mem_cons_self
     simp [this]
theorem khz {kindOf:Str→Option NameKind} {x:Str} {v:Value}: ∀{P:List Str} {vs:List Value} {i:Nat} {m:Str→Option Value},P.Nodup→P[i]?=some x→vs[i]?=some v→kindOf x=some .local→
 bindL kindOf (P.zip vs) m x=some v
 | [],_,_,_,_,h,_,_=>by simp at h
 | _::_,[],_,_,_,_,h,_=>by simp at h
 | p::P,w::vs,0,m,nd,h1,h2,hk=>by
   simp at h1 h2;subst h1;subst h2
   show bindL kindOf ((p,w)::P.zip vs) m p=_
   unfold bindL
   rw [khx fun v hv=>(List.nodup_cons.mp nd).1 (List.of_mem_zip hv).1,if_pos hk]
   simp
 | p::P,w::vs,i + 1,m,nd,h1,h2,hk=>by
   show bindL kindOf ((p,w)::P.zip vs) m x=_
   unfold bindL
   exact khz (i:=i) (List.nodup_cons.mp nd).2 (by simpa using h1) (by simpa using h2) hk
theorem kh0 {kindOf:Str→Option NameKind} {x:Str} {v:Value}: ∀{P:List Str} {vs:List Value} {i:Nat} {m:Str→Option Value},P.Nodup→P[i]?=some x→vs[i]?=some v→kindOf x≠some .local→
 bindC kindOf (P.zip vs) m x=some v
 | [],_,_,_,_,h,_,_=>by simp at h
 | _::_,[],_,_,_,_,h,_=>by simp at h
 | p::P,w::vs,0,m,nd,h1,h2,hk=>by
   simp at h1 h2;subst h1;subst h2
   show bindC kindOf ((p,w)::P.zip vs) m p=_
   unfold bindC
   rw [khy fun v hv=>(List.nodup_cons.mp nd).1 (List.of_mem_zip hv).1,if_neg hk]
   simp
 | p::P,w::vs,i + 1,m,nd,h1,h2,hk=>by
   show bindC kindOf ((p,w)::P.zip vs) m x=_
   unfold bindC
   exact kh0 (i:=i) (List.nodup_cons.mp nd).2 (by simpa using h1) (by simpa using h2) hk
noncomputable def start (N:List Str) (vs:List V):St:=vs.map some++List.replicate (N.length - vs.length) none
noncomputable def kmv (CX:CXT) (P:Program) (w:World) (K:PySem.W.Frag) (mg:Str→Option Value) (base:Heap) (N:List Str) (qual:Str) (scope:Scope) (f:Addr) (cd:Value) (A:Around) (outer:List Env) (s:Shared) (H:Hp) (E:XK):Cx where
 prog:=P
 w:=w
 K:=K
 mg:=mg
 base:=base
 A:=A.deeper (envOfC qual scope s.heap.objs.size f cd)
 N:=N
 s₀:=s
 H₀:=H
 env:=envOfC qual scope s.heap.objs.size f cd
 outer:=outer
 stack:=envOfC qual scope s.heap.objs.size f cd::outer
 ex:=[]
 calm:=true
 fn:=fun q_=>true
 pn:=[]
 xe:=fun e s'=>wpAny (model P w) (A.deeper (envOfC qual scope s.heap.objs.size f cd)) (leaving (envOfC qual scope s.heap.objs.size f cd) e) (fun q_ s''=>CX outer H s E e s'') (fun e' s''=>CX outer H s E e' s'') s'
theorem kjx {sc:Scope} {n:Nat} {x:Str} (h:sc.names.lookup x=some .cell): ∃c,(cellsFrom n sc.names []).lookup x=some c:=by
 have q:=PySem.W.cellsFrom_some sc.names n [] (.inl h)
 exact Option.isSome_iff_exists.mp q
theorem kmw {CX:CXT} {P:Program} {w:World} {K:PySem.W.Frag} {mg:Str→Option Value} {base:Heap} {N ps:List Str} {qual:Str} {scope:Scope} {f:Addr} {cd:Value} {A:Around} {outer:List Env} {s s1:Shared} {H:Hp} {E:XK} {us:List Value} {vs:List V}
 (S:FnScope N ps scope) (hd:A.handled=none) (e0:Env0 P w K mg base A outer s H) (hl:vs.length=ps.length) (r:Vals vs us)
 (x:InCallC s s.heap.objs.size (bindL (envOfC qual scope s.heap.objs.size f cd).kindOf (ps.zip us) fun q_=>none) (cellsFrom (s.heap.objs.size + 1) scope.names []) (bindC (envOfC qual scope s.heap.objs.size f cd).kindOf (ps.zip us) fun q_=>none) s1):
 Inv (kmv CX P w K mg base N qual scope f cd A outer s H E) [] (start N vs) H s1:=by
 have hpl:ps.length≤N.length:=by have:=congrArg List.length S.pre;rw [List.length_take] at this;lia
 obtain ⟨h1,tk,rfl,hk⟩:=x.done
 have noA: ∀b:Addr,b ∉ (kmv CX P w K mg base N qual scope f cd A outer s H E).ex:=fun b z=>absurd (show b∈([]:List Addr) from z) (by simp)
 refine ⟨⟨e0.mod,S.kind,rfl,rfl,Nat.le_refl _,fun y z c h1 h2=> ?_,fun y hy=> ?_,fun y c q_ h=> ?_,fun q_=>hd,Around.frames_deeper e0.frames,.inr ⟨rfl,rfl⟩,fun b z=>absurd z (noA b),e0.bs,e0.bsz,fun b q_ q_=>noA b,fun b z=>absurd z (noA b),e0.funs,e0.frf⟩,
  rfl,e0.bare,Un.kept hk,⟨_,x.toInCall.ns,fun i y v h1 h2 h3=> ?_⟩,fun y c h=>⟨_,x.cell y c h⟩,e0.hok.fresh (Nat.le_refl _),fun y c h=> ?_,fun p hp=>absurd (show p∈([]:List (Addr×Obj)) from hp) (by simp),e0.hok.kept hk,?_⟩
 · exact name_of_addr x.apart (PySem.mem_of_lookup h1) (PySem.mem_of_lookup h2)
 · have hy:scope.names.lookup y=some .cell∨scope.names.lookup y=some .free:=hy
   rcases hy with hy | hy
   · exact kjx hy
   · exact absurd rfl (S.nofree _ (PySem.mem_of_lookup hy))
 · exact Nat.le_of_lt (x.above y c (PySem.mem_of_lookup h))
 · have hi:i < vs.length:=by
    unfold start at h2
    by_cases hi:i < vs.length
    · exact hi
    · rw [List.getElem?_append_right (by simpa using hi)] at h2
      rw [List.getElem?_replicate] at h2
      split at h2 <;> cases h2
   have ha:vs[i]?=some v:=by
    unfold start at h2
    rw [List.getElem?_append_left (by simpa using hi),List.getElem?_map] at h2
    cases e:vs[i]? with
    | none=>rw [e] at h2;cases h2
    | some a=>rw [e] at h2;cases h2;rfl
   obtain ⟨u,hu,rv⟩:=r.get ha
   have hp:ps[i]?=some y:=by
    rw [← S.pre,List.getElem?_take_of_lt (by lia)];exact h1
   have ndP:ps.Nodup:=by rw [← S.pre];exact S.nd.sublist (List.take_sublist _ _)
   refine ⟨u,rv,?_⟩
   rcases S.par y (List.mem_of_getElem? hp) with k | k
   · exact .inl ⟨k,khz ndP hp hu k⟩
   · obtain ⟨c,e⟩:=kjx (n:=s.heap.objs.size + 1) k
     refine .inr ⟨.inl k,c,e,?_⟩
     have q:=x.cell y c e
     rw [kh0 ndP hp hu (by show scope.names.lookup y≠_;rw [k];decide)] at q
     exact q
 · exact e0.hok.fresh (Nat.le_of_lt (x.above y c (PySem.mem_of_lookup h)))
 · unfold start
   show _=N.length
   rw [List.length_append,List.length_map,List.length_replicate]
   lia
theorem fn_of {CX:CXT} {P:Program} {w:World} {K:PySem.W.Frag} {mg:Str→Option Value} {base:Heap} {k:Nat} {f:Addr} {name qual:Str} {params:Arguments} {body:List Stmt} {scope:Scope} {dV kV doc pm cdv ct oc:Value} {an od:Option Addr}
 {osl:Array (Option Value)} {N ps:List Str} {sp:Sp} (lk:K.lookup f=some ⟨oc,od,.func (PySem.W.fnOf name qual params body scope dV kV doc pm an cdv ct),osl⟩) (hcd:PySem.W.codeIn K cdv qual=true) (S:FnScope N ps scope)
 (len: ∀vs H Q E,sp vs H Q E→vs.length=ps.length)
 (hbody: ∀(A:Around) (outer:List Env) (s:Shared) (H:Hp) (vs:List V) (Q:VK) (E:XK),Room k (A.deeper (envOfC qual scope s.heap.objs.size f cdv))→sp vs H Q E→
   ∃t,PSs (kmv CX P w K mg base N qual scope f cdv A outer s H E) body t∧t {nx:=fun q_ H'=>Q .non H',rt:=Q} (start N vs) H):
 FnOk P w K mg base CX (k + 1) f (PySem.W.fnOf name qual params body scope dV kV doc pm an cdv ct) ps sp:=by
 refine ⟨len,fun A outer s H args us vs Q E hr e0 hb r hsp=> ?_⟩
 have hl:=len _ _ _ _ hsp
 have KX:K.In s.heap:=e0.mod.kin.keeps fun b o e=>(e0.bs b o e).1
 have lim:s.heap.NoLimit:=e0.mod.nolimit.keeps fun b o e=>(e0.bs b o e).1
 have hkind: ∀y∈ps.zip us,scope.names.lookup y.1=some .local∨(scope.names.lookup y.1=some .cell∧((cellsFrom (s.heap.objs.size + 1) scope.names []).lookup y.1).isSome=true):=fun ⟨n,v⟩ hy=>by
  rcases S.par n (List.of_mem_zip hy).1 with q | q
  · exact .inl q
  · exact .inr ⟨q,PySem.W.cellsFrom_some _ _ _ (.inl q)⟩
 refine codeAny_call_function hr.depth (KX _ _ lk) rfl S.co S.gen rfl (PySem.W.codeRec_of KX hcd) (hb _ _ _ _ ?_)
 refine wpAny_newFunctionEnv_cells S.kind hkind fun env he s1 x=> ?_
 subst he
 refine ⟨lim.keeps x.toInCall.keep,codeAny_func ?_⟩
 obtain ⟨t,ht,hq⟩:=hbody A outer s H vs Q E (hr.deeper _) hsp
 have I:Inv (kmv CX P w K mg base N qual scope f cdv A outer s H E) [] (start N vs) H s1:=kmw S hr.hd e0 hl r x
 refine wpAny_mono (ht [] s1 (start N vs) H _ I hq) (fun fl s' hs=> ?_) fun e s' hs=>hs
 have fin: ∀{σ':St} {H':Hp} {v:V} {u:Value},Inv (kmv CX P w K mg base N qual scope f cdv A outer s H E) [] σ' H' s'→RelV v u→Q v H'→CE outer P w H s Q u s':=
  fun {σ' H' v u} J rv q=>⟨v,H',J.os,J.bare,J.base,J.hok,rv,q⟩
 cases fl with
 | ret u=>
   obtain ⟨v,σ',H',J,rv,q⟩:=hs
   exact fin J rv q
 | next=>
   obtain ⟨σ',H',J,q⟩:=hs
   exact fin (v:=V.non) (u:=Value.none) J rfl q
 | brk=>
   obtain ⟨_,_,_,q⟩:=hs
   exact False.elim q
 | cont=>
   obtain ⟨_,_,_,q⟩:=hs
   exact False.elim q
end L2
namespace L2
open PySem PySem.Spec PyProof.Rows
section
variable {X:Cx} {x:Str} {p pos:Pos} {e:Expr} {es:List Expr} {t:TA} {id T:String} {r:List V→Hp→VK→Prop}
noncomputable def tCB (r:List V→Hp→VK→Prop) (t:TA):TE:=fun σ H Q=>t σ H fun vs H1=>r vs H1 Q
theorem kbf (hc:CallR X (.builtin id) r) (hg:Gl X x) (hm:X.mg x=none) (hv:bootBuiltins x=some (.builtin id)) (ha:PA X (e::es) t) (hn:autoParam (x≠"__name__") u2._auto_1) (hdb:autoParam ((x == ("__debug__":Str))=false) u2._auto_1)
 (he:autoParam (starEach (e::es) X.env=(false,eval e X.env)::starEach es X.env) u4._auto_1) (hpl:autoParam ((backTo pos (starEach es X.env)).any (·.1)=false) u4._auto_1):PE X (.Call (.Name x p) (e::es) [] pos) (tCB r t):=by
 intro pins s σ H Q I h
 refine wpAny_Call_Name_kw (kgg I hg hm hv ?_ hn hdb)
 exact PyProof.Rows.callWith_builtin1 (thn (ha pos pins s σ H _ I h) fun us s1 ⟨vs,H1,I1,r1,q1⟩=>hc pins s1 σ H1 vs us Q I1 r1 q1) he hpl
theorem kbq (hc:CallR X (.type T) r) (hg:Gl X x) (hm:X.mg x=none) (hv:bootBuiltins x=some (.type T)) (ha:PA X (e::es) t) (hn:autoParam (x≠"__name__") u2._auto_1) (hdb:autoParam ((x == ("__debug__":Str))=false) u2._auto_1)
 (he:autoParam (starEach (e::es) X.env=(false,eval e X.env)::starEach es X.env) u4._auto_1) (hpl:autoParam ((backTo pos (starEach es X.env)).any (·.1)=false) u4._auto_1):PE X (.Call (.Name x p) (e::es) [] pos) (tCB r t):=by
 intro pins s σ H Q I h
 refine wpAny_Call_Name_kw (kgg I hg hm hv ?_ hn hdb)
 exact PyProof.Rows.callWith_type1 (thn (ha pos pins s σ H _ I h) fun us s1 ⟨vs,H1,I1,r1,q1⟩=>hc pins s1 σ H1 vs us Q I1 r1 q1) he hpl
end
end L2
namespace L2
open PySem PySem.Spec PyProof.Rows
section
variable {κ:Type} [DecidableEq κ]
end
section
variable {P:Program} {w:World} {H:Hp} {h:Heap} {a:Addr}
end
section
variable {X:Cx} {pins:List (Addr×Obj)} {σ:St} {H:Hp} {s:Shared} {a:Addr} {y v:V} {u r:Value} {o:Option V} {A:Around} {E:Value→Shared→Prop}
theorem Inv.big (I:Inv X pins σ H s):sysModules < s.heap.objs.size:=by
 have h:mainGlobals < s.heap.objs.size:=(I.mod.glob.keeps I.bk).lt
 exact Nat.lt_trans (by decide) h
theorem kud {h':Heap} {t':Nat} {ob:HO} (I:Inv X pins σ H s) (mu:Mut (H a)) (hs:Heap.SameBut a s.heap h') (he: ∃q,h'.get? a=some q) (new:ObjOk X.prog X.w (upd H a ob) h' a ob):
 Inv X pins σ (upd H a ob) {s with heap:=h',toks:=t'}:=
 I.write (x:=a) (e:=a) mu (.inl rfl) (fun b q hb z=>(hs.2 b hb).trans z) he new
end
section
variable {X:Cx} {pins:List (Addr×Obj)} {σ:St} {H:Hp} {s:Shared} {a:Addr} {kvs:List (Key×V)} {k:Key} {u:Value} {A:Around} {E:Value→Shared→Prop}
end
noncomputable def NoSl (i:Expr):Prop:=∀ov iv,subscripted i false ov iv=operate [ov,iv] (getItem ov iv)
theorem kue {prog:Program} {w:World} {A:Around} {E:Value→Shared→Prop} {s:Shared} {env:Env} {value slice:Expr} {pos:Pos} {T id:String} {Q:Value→Shared→Prop}
 (hl:typeLookup (.type T) "__getitem__"=pure (some (.builtin id))) (hs:NoSl slice)
 (h:wpAny (model prog w) A (eval value env) (fun o s₁=>wpAny (model prog w) A (eval slice env) (fun i s₂=>s₂.TypeIs o T∧wpAny (model prog w) A (getItem o i) Q E s₂) E s₁) E s):
 wpAny (model prog w) A (eval (.Subscript value slice pos) env) Q E s:=by
 refine Subscript_ (wpAny_mono h (fun o s₁ h₁=>wpAny_mono h₁ (fun i s₂ h₂=> ?_) fun q_ q_ x=>x) fun q_ q_ x=>x)
 obtain ⟨hT,h₂⟩:=h₂
 unfold subscriptTail
 refine wpAny_bind ?_
 rw [getitemInPython_of_ne hT.not_modules]
 refine wpAny_bind (wpAny_specialOf hT hl ?_)
 have fin:wpAny (model prog w) A (subscripted slice false o i) (fun r s₃=>wpAny (model prog w) A (letTemporaryGo value o r >>= fun q_=>pure r) Q E s₃) E s₂:=by
  rw [hs o i]
  exact wpAny_operating (wpAny_mono h₂ (fun r s₃ h₃=>wpAny_bind (wpAny_letTemporaryGo (wpAny_pure h₃))) fun q_ q_ x=>x)
 first
  | exact wpAny_pure (wpAny_bind fin)
  | exact wpAny_bind (wpAny_pure (wpAny_bind fin))
  | exact wpAny_bind fin
section
variable {X:Cx} {o i e value:Expr} {pos pos' tpos:Pos} {td ty tv:TE}
end
section
variable {X:Cx} {pos:Pos}
end
structure M1 (X:Cx) (o:Expr) (m:Str) (apos:Pos) (e:Expr) (cpos:Pos):Prop where
 base:attributeBase o m X.env (eval o X.env)=eval o X.env
 few:((backTo cpos (starEach [e] X.env)).all (fun x=> !x.1) && (backToKw cpos (keywordEach [] X.env)).all (fun x=>x.1.isSome)
  && decide (([e]:List Expr).length + ([]:List Keyword).length + (if ([]:List Keyword).isEmpty then 0 else 1) < 30))=true
 line:(apos.endLine == cpos.line)=true
 trees:backTo cpos (starEach [e] X.env)=[(false,eval e X.env)]
section
variable {X:Cx} {pins:List (Addr×Obj)} {σ:St} {H:Hp} {s:Shared} {a:Addr} {y d:V} {u r:Value} {o:Option V} {A:Around} {E:Value→Shared→Prop}
end
section
variable {X:Cx} {o e f:Expr} {apos cpos:Pos} {td ty tx:TE}
end
section
variable {X:Cx} {pins:List (Addr×Obj)} {σ:St} {H:Hp} {s:Shared} {a:Addr} {kvs:List (Key×V)} {A:Around} {E:Value→Shared→Prop}
end
section
variable {X:Cx} {pins:List (Addr×Obj)} {σ:St} {H:Hp} {s:Shared} {a:Addr} {y:V} {u:Value} {A:Around} {E:Value→Shared→Prop}
end
end L2
namespace HT
open PySem PyProof.Rows
section
open PySem.SeqAt
open PySem.AutoSeq1 (wpAny_loadPart')
open PySem.MeetsSeq PySem.MeetsSeq2 PySem.MeetsSeq3
end
section
variable {prog:Program} {w:World} {A:Around} {E:Value→Shared→Prop} {s:Shared}
end
end HT
namespace L2
open PySem PySem.Spec PyProof.Rows
noncomputable abbrev TO:=St→Hp→(Option Int→Hp→Prop)→Prop
theorem kgh {ns:List Int}: ∀{us:List Value},Vals (ns.map V.int) us→IntsAre us ns:=by
 induction ns with
 | nil=>intro us r;rw [List.map_nil] at r;cases r;exact .nil
 | cons n ns ih=>
   intro us r
   rw [List.map_cons] at r
   cases r with
   | cons r1 r2=>
     obtain ⟨t,e⟩:=r1
     subst e
     exact .cons n t (ih r2)
section
variable {X:Cx} {e:Expr} {te:TE} {lo hi:Option Expr} {tl th:TO} {pos p2:Pos}
end
end L2
namespace L2
open PySem PySem.Spec PyProof.Rows
noncomputable def ixN (n:Nat) (i:Int):Option Nat:=if 0≤i then (if i < n then some i.toNat else none) else if -(n:Int)≤i then some (i + n).toNat else none
noncomputable def atI {α:Type} (xs:List α) (i:Int):Option α:=(ixN xs.length i).bind fun j=>xs[j]?
theorem kmx {n:Nat} {i:Int} {j:Nat} (h:ixN n i=some j):seqIndex? i n=some j∧j < n∧ -(n:Int)≤i∧i < n:=by
 unfold ixN at h
 by_cases h0:0≤i
 · rw [if_pos h0] at h
   by_cases h1:i < n
   · rw [if_pos h1] at h
     have e:i.toNat=j:=Option.some.inj h
     exact ⟨by rw [seqIndex_of h0 h1,e],by lia,by lia,h1⟩
   · rw [if_neg h1] at h;cases h
 · rw [if_neg h0] at h
   by_cases h1: -(n:Int)≤i
   · rw [if_pos h1] at h
     have e:(i + n).toNat=j:=Option.some.inj h
     exact ⟨by rw [seqIndex_neg (by lia) h1,e],by lia,h1,by lia⟩
   · rw [if_neg h1] at h;cases h
theorem kiy {α:Type} {xs:List α} {i:Int} {v:α} (h:atI xs i=some v): ∃j,seqIndex? i xs.length=some j∧xs[j]?=some v∧j < xs.length∧ -(xs.length:Int)≤i∧i < xs.length:=by
 unfold atI at h
 cases e:ixN xs.length i with
 | none=>rw [e] at h;cases h
 | some j=>
   rw [e] at h
   obtain ⟨h1,h2,h3,h4⟩:=kmx e
   exact ⟨j,h1,h,h2,h3,h4⟩
theorem kbn {α:Type} {xs:List α} {j:Nat} {v:α} (h:xs[j]?=some v):atI xs (j:Int)=some v:=by
 have hj:j < xs.length:=(List.getElem?_eq_some_iff.mp h).1
 have e:ixN xs.length (j:Int)=some j:=by
  unfold ixN
  rw [if_pos (by lia),if_pos (by lia)];simp
 unfold atI;rw [e];exact h
theorem kjy {α:Type} (xs:List α) (v:α):atI (xs++[v]) (-1)=some v:=by
 have hl:(xs++[v]).length=xs.length + 1:=by simp
 have e:ixN (xs++[v]).length (-1)=some xs.length:=by
  unfold ixN
  rw [hl,if_neg (by decide),if_pos (by lia)]
  congr 1
  lia
 unfold atI
 rw [e]
 show (xs++[v])[xs.length]?=some v
 simp
noncomputable def kmy (b:Expr):Prop:=∀o i,subscripted b false o i=operate [o,i] (getItem o i)
noncomputable def IxR (X:Cx) (r:R2):Prop:=
 ∀(value slice:Expr) (pins:List (Addr×Obj)) (s:Shared) (σ:St) (H:Hp) (x y:V) (v u:Value) (Q:VK),Inv X pins σ H s→RelV x v→RelV y u→r x y H Q→
  subscripted slice false v u=operate [v,u] (getItem v u)→wpAny (model X.prog X.w) X.A (subscriptTail value slice v u) (EP X pins σ Q) X.xe s
noncomputable def MtR (X:Cx) (id:String) (r:V→List V→Hp→VK→Prop):Prop:=
 ∀(pins:List (Addr×Obj)) (s:Shared) (σ:St) (H:Hp) (x:V) (xs:List V) (v:Value) (us:List Value) (Q:VK),Inv X pins σ H s→RelV x v→Vals xs us→r x xs H Q→
  wpAny (model X.prog X.w) X.A (call (.builtin id) (v::us)) (EP X pins σ Q) X.xe s
section
variable {X:Cx} {a b:Expr} {ta tb:TE} {pos:Pos}
theorem IxR.or {r r':R2} (h:IxR X r) (h':IxR X r'):IxR X (fun x y H Q=>r x y H Q∨r' x y H Q):=by
 intro value slice pins s σ H x y v u Q I rx ry q hs
 rcases q with q | q
 · exact h value slice pins s σ H x y v u Q I rx ry q hs
 · exact h' value slice pins s σ H x y v u Q I rx ry q hs
theorem kdr {r:R2} (hr:IxR X r) (ha:PE X a ta) (hb:PE X b tb) (hs:kmy b):PE X (.Subscript a b pos) (tOp r ta tb):=by
 intro pins s σ H Q I h
 exact Subscript_ (binT ha hb I h fun v u s2 x y H2 I2 rx ry q=>hr a b pins s2 σ H2 x y v u Q I2 rx ry q (hs _ _))
noncomputable def kxx (K:PySem.W.Frag):R2:=fun x y H Q=>∃p xs i v,x= .ref p∧y= .int i∧SqL K H p xs∧atI xs i=some v∧Q v H
noncomputable def rIxT (K:PySem.W.Frag):R2:=fun x y H Q=>∃p xs i v,x= .ref p∧y= .int i∧SqT K H p xs∧atI xs i=some v∧Q v H
noncomputable def rIxS:R2:=fun x y H Q=>∃z i c,x= .str z∧y= .int i∧z.length≤sizeLine∧atI z.cps.toList i=some c∧Q (.str ⟨#[c]⟩) H
theorem kbw:IxR X (kxx X.K):=by
 intro value slice pins s σ H x y v u Q I rx ry h hs
 obtain ⟨p,xs,i,z,rfl,rfl,hq,he,q⟩:=h
 cases rx
 obtain ⟨t,rfl⟩:=ry
 obtain ⟨its,r,pl,hz⟩:=I.list hq
 obtain ⟨j,h1,h2,h3,h4,h5⟩:=kiy he
 obtain ⟨w,ew,rw'⟩:=r.get h2
 have hl:=r.length
 have hn:=khv
 have fin:EP X pins σ Q w s:=⟨z,H,I,rw',q⟩
 by_cases h0:0≤i
 · have hj:i.toNat=j:=by
    rw [seqIndex_of h0 h5] at h1
    exact Option.some.inj h1
   exact item_listR pl.isList h0 (by lia) (by rw [hj];simpa using ew) fin hs
 · have hj:(i + (its.toArray.size:Int)).toNat=j:=by
    rw [seqIndex_neg (by lia) h4] at h1
    rw [List.size_toArray,← hl]
    exact Option.some.inj h1
   exact subscriptTail_builtinR (x:=w) pl.isList.typeIs slot_list_getitem.lookup
    (wpAny_getItem_list_neg (Q:=fun r s'=>r=w∧EP X pins σ Q r s') pl.isList (by lia) (by rw [List.size_toArray] <;> lia) (by lia) (by rw [hj];simpa using ew) ⟨rfl,fin⟩) hs
theorem kst:IxR X (rIxT X.K):=by
 intro value slice pins s σ H x y v u Q I rx ry h hs
 obtain ⟨p,xs,i,z,rfl,rfl,hq,he,q⟩:=h
 cases rx
 obtain ⟨t,rfl⟩:=ry
 obtain ⟨its,r,pl,hz⟩:=I.tuple hq
 obtain ⟨j,h1,h2,h3,h4,h5⟩:=kiy he
 obtain ⟨w,ew,rw'⟩:=r.get h2
 have hl:=r.length
 have hn:=khv
 have fin:EP X pins σ Q w s:=⟨z,H,I,rw',q⟩
 exact subscriptTail_builtinR (x:=w) pl.typeIs slot_tuple_getitem.lookup
  (getItem_tuple (j:=j) (Q:=fun r s'=>r=w∧EP X pins σ Q r s') pl (by lia) (by lia) (by rw [List.size_toArray,← hl];exact h1) (by simpa using ew) ⟨rfl,fin⟩) hs
theorem kxy:IxR X rIxS:=by
 intro value slice pins s σ H x y v u Q I rx ry h hs
 obtain ⟨z,i,c,rfl,rfl,hz,he,q⟩:=h
 obtain ⟨t,rfl⟩:=rx
 obtain ⟨t',rfl⟩:=ry
 obtain ⟨j,h1,h2,h3,h4,h5⟩:=kiy he
 have hl:z.cps.toList.length=z.length:=by simp [Str.length]
 rw [hl] at h1 h4 h5
 have hn:=khv
 exact tail_any (typeIs_str s z t) slot_str_getitem.lookup (getItem_str (c:=c) (by
  have e1:decide (i < -(2 ^ 63:Int))=false:=decide_eq_false (by lia)
  have e2:decide (i≥2 ^ 63)=false:=decide_eq_false (by lia)
  rw [e1,e2,Bool.or_false]) (by rw [h1];simpa using h2) ⟨.str ⟨#[c]⟩,H,I.tok _,⟨_,rfl⟩,q⟩) hs
noncomputable def rIx (K:PySem.W.Frag):R2:=fun x y H Q=>kxx K x y H Q∨rIxT K x y H Q∨rIxS x y H Q
theorem kxz:IxR X (rIx X.K):=kbw.or (kst.or kxy)
theorem kls (its:List Value) (n j:Nat) (u:Value):Obj.mapSeq (·.setIfInBounds j u) {cls:= .type "list",data:= .seq its.toArray n}={cls:= .type "list",data:= .seq (its.set j u).toArray n}:=by
 simp [Obj.mapSeq]
theorem Inv.lst {pins:List (Addr×Obj)} {σ:St} {H:Hp} {s:Shared} {p:Addr} {xs:List V} (I:Inv X pins σ H s) (h:H p=some (.lst xs)):
 ∃(its:List Value) (n:Nat),Vals xs its∧s.heap.get? p=some {cls:= .type "list",data:= .seq its.toArray n}∧xs.length≤sizeLine:=by
 obtain ⟨z,its,n,r,e⟩:=I.hok p _ h
 exact ⟨its,n,r,e,z⟩
theorem Inv.lstUpd {pins:List (Addr×Obj)} {σ:St} {H:Hp} {s:Shared} {p:Addr} {xs ys:List V} {its its':List Value} {n n':Nat} {f:Obj→Obj} (I:Inv X pins σ H s) (h:H p=some (.lst xs))
 (ho:s.heap.get? p=some {cls:= .type "list",data:= .seq its.toArray n}) (hf:f {cls:= .type "list",data:= .seq its.toArray n}={cls:= .type "list",data:= .seq its'.toArray n'}) (r:Vals ys its') (hz:ys.length≤sizeLine) (t:Nat):
 Inv X pins σ (upd H p (.lst ys)) {s with heap:=s.heap.update p f,toks:=t}:=by
 have e:(s.heap.update p f).get? p=some {cls:= .type "list",data:= .seq its'.toArray n'}:=by
  rw [Heap.get?_update_self f ho (by rw [hf] <;> rfl),hf]
 refine I.write (x:=p) (e:=p) (by rw [h];trivial) (.inl rfl) (fun b u hb q=>(Heap.get?_update_other _ _ (Ne.symm hb)).trans q) ⟨_,e⟩ ?_
 exact ⟨hz,its',n',r,e⟩
noncomputable def rSetL:V→V→V→Hp→(Hp→Prop)→Prop:=fun o i v H Q=>∃p xs k j,o= .ref p∧i= .int k∧H p=some (.lst xs)∧ixN xs.length k=some j∧Q (upd H p (.lst (xs.set j v)))
theorem kqo:PSet X rSetL:=by
 intro pins s σ H o i v ov iv u Q I ro ri rv h
 obtain ⟨p,xs,k,j,rfl,rfl,hp,hj,q⟩:=h
 cases ro
 obtain ⟨t,rfl⟩:=ri
 obtain ⟨its,n,r,ho,hz⟩:=I.lst hp
 obtain ⟨h1,h2,h3,h4⟩:=kmx hj
 have hl:=r.length
 have hn:=khv
 have I':Inv X pins σ (upd H p (.lst (xs.set j v))) {s with heap:=s.heap.update p (Obj.mapSeq (·.setIfInBounds j u))}:=
  I.lstUpd hp ho (kls its n j u) (r.set rv j) (by rw [List.length_set];exact hz) s.toks
 by_cases h0:0≤k
 · have hk:k.toNat=j:=by
    rw [seqIndex_of h0 h4] at h1
    exact Option.some.inj h1
   exact PySem.W.ki_setAt ho h0 (by lia) (by rw [List.size_toArray,← hl];exact h4) (by rw [hk];exact ⟨_,I',q⟩)
 · have hk:(k + (its.toArray.size:Int)).toNat=j:=by
    rw [seqIndex_neg (by lia) h3] at h1
    rw [List.size_toArray,← hl]
    exact Option.some.inj h1
   exact PySem.W.ki_setBack ho (by lia) (by rw [List.size_toArray,← hl];exact h3) (by lia) (by rw [hk];exact ⟨_,I',q⟩)
theorem kcf:CallR X (.builtin "len") (fun xs H Q=>∃p ys,xs=[.ref p]∧(SqL X.K H p ys∨SqT X.K H p ys)∧Q (.int ys.length) H):=by
 intro pins s σ H xs us Q I r h
 obtain ⟨p,ys,rfl,hq,q⟩:=h
 obtain ⟨u,rfl,rx⟩:=kd6 r
 cases rx
 have hn:=khv
 rcases hq with hq | hq
 · obtain ⟨its,r',pl,hz⟩:=I.list hq
   have hlen:=r'.length
   exact Calls.call_len_list pl.isList (by simp only [List.size_toArray] <;> lia) ⟨.int ys.length,H,I.tok _,⟨s.toks + 1,by rw [List.size_toArray,hlen]⟩,q⟩
 · obtain ⟨its,r',pl,hz⟩:=I.tuple hq
   have hlen:=r'.length
   exact len_tuple pl (by simp only [List.size_toArray] <;> lia) ⟨.int ys.length,H,I.tok _,⟨s.toks + 1,by rw [List.size_toArray,hlen]⟩,q⟩
theorem CallR.or {f:Value} {r r':List V→Hp→VK→Prop} (h:CallR X f r) (h':CallR X f r'):CallR X f (fun xs H Q=>r xs H Q∨r' xs H Q):=by
 intro pins s σ H xs us Q I rs q
 rcases q with q | q
 · exact h pins s σ H xs us Q I rs q
 · exact h' pins s σ H xs us Q I rs q
theorem kd7:CallR X (.type "tuple") (fun xs H Q=>∃p ys,xs=[.ref p]∧((SqL X.K H p ys∧∀l,H l=none→Q (.ref l) (upd H l (.tup ys)))∨(SqT X.K H p ys∧Q (.ref p) H))):=by
 intro pins s σ H xs us Q I r h
 obtain ⟨p,ys,rfl,h⟩:=h
 obtain ⟨u,rfl,rx⟩:=kd6 r
 cases rx
 rcases h with ⟨hq,q⟩ | ⟨hq,q⟩
 · obtain ⟨its,r',pl,hz⟩:=I.list hq
   have hlen:=r'.length
   refine call_tuple_list pl.isList (fun h' kp=> ?_) (by simp only [List.size_toArray] <;> lia)
   have I1:Inv X pins σ H {s with heap:=h'}:=I.kept (t':=s.toks) kp
   have I2:Inv X pins σ (upd H h'.objs.size (.tup ys)) {s with heap:=h'.push {cls:= .type "tuple",data:= .seq its.toArray}}:=
    I1.laid (t':=s.toks) (fun b o e=>Heap.get?_push_of_some _ e) (Nat.le_refl _) (show ObjOk X.prog X.w _ _ _ (.tup ys) from ⟨hz,its,r',IsTup.new _ _⟩)
   exact ⟨.ref h'.objs.size,_,I2,rfl,q _ (I1.hok.fresh (Nat.le_refl _))⟩
 · obtain ⟨its,r',pl,hz⟩:=I.tuple hq
   exact call_tuple_same pl ⟨.ref p,H,I,rfl,q⟩
noncomputable def tyV (K:PySem.W.Frag) (T:String) (x:V) (H:Hp):Prop:=match x with
 | .str _=>T="str"
 | .int _=>T="int"
 | .ref p=>(T="list"∧∃xs,SqL K H p xs)∨(T="tuple"∧∃o,K.lookup p=some o∧o.cls= .type "tuple"∧o.dict=none)∨
    (T="dict"∧((∃ kvs,H p=some (.dK kvs))∨∃kvs,H p=some (.dT kvs)))∨(T="set"∧∃S n,H p=some (.set S n))
 | _=>False
theorem kx0 {pins:List (Addr×Obj)} {σ:St} {H:Hp} {s:Shared} {T:String} {x:V} {v:Value} (I:Inv X pins σ H s) (r:RelV x v) (ty:tyV X.K T x H):
 s.TypeIs v T∧∀a,v= .ref a→∃ob,s.heap.get? a=some ob∧ob.dict=none:=by
 cases x with
 | str z=>
   obtain ⟨t,rfl⟩:=r
   cases (show T="str" from ty)
   exact ⟨typeIs_str s z t,fun q_ e=>nomatch e⟩
 | int i=>
   obtain ⟨t,rfl⟩:=r
   cases (show T="int" from ty)
   exact ⟨typeIs_int s i t,fun q_ e=>nomatch e⟩
 | ref p=>
   cases r
   rcases ty with ⟨rfl,xs,hq⟩ | ⟨rfl,o,hk,hc,hd⟩ | ⟨rfl,hk⟩ | ⟨rfl,S,n,hk⟩
   · obtain ⟨its,_,pl,_⟩:=I.list hq
     refine ⟨pl.isList.typeIs,fun a e=> ?_⟩
     cases e
     obtain ⟨o,n,e,c,hd,_⟩:=pl
     exact ⟨o,e,hd⟩
   · refine ⟨⟨o,I.kIn p o hk,hc⟩,fun a e=> ?_⟩
     cases e
     exact ⟨o,I.kIn _ o hk,hd⟩
   · have z: ∃o,s.heap.get? p=some o∧o.ExactDict:=by
      rcases hk with ⟨kvs,hk⟩ | ⟨kvs,hk⟩
      · obtain ⟨_,_,_,_,o,_,_,e,ex,_⟩:=I.hok p _ hk
        exact ⟨o,e,ex⟩
      · obtain ⟨_,_,_,_,o,_,_,e,ex,_⟩:=I.hok p _ hk
        exact ⟨o,e,ex⟩
     obtain ⟨o,e,ex⟩:=z
     refine ⟨⟨o,e,ex.1⟩,fun a e2=> ?_⟩
     cases e2
     exact ⟨o,e,ex.2.1⟩
   · obtain ⟨o,_,_,_,e,ex,_⟩:=I.hok p _ hk
     refine ⟨⟨o,e,ex.1⟩,fun a e2=> ?_⟩
     cases e2
     exact ⟨o,e,ex.2.1⟩
 | _=>exact False.elim ty
noncomputable def tBM (K:PySem.W.Frag) (T:String) (r:V→List V→Hp→VK→Prop) (to:TE) (t:TA):TE:=fun σ H Q=>to σ H fun x H1=>tyV K T x H1∧t σ H1 fun xs H2=>r x xs H2 Q
variable {o e:Expr} {es:List Expr} {to:TE} {t:TA} {name:Str} {apos cpos:Pos} {T id:String} {r:V→List V→Hp→VK→Prop}
theorem kh1 (pa:PlainAttrs T) (slot:Slot T name id) (hty:typeOf (.builtin id)=pure (.type "method_descriptor")) (hm:MtR X id r) (ho:PE X o to) (ha:PA X (e::es) t)
 (hbase:autoParam (attributeBase o name X.env (eval o X.env)=eval o X.env) u4._auto_1)
 (hfew:autoParam (((backTo cpos (starEach (e::es) X.env)).all (fun x=> !x.1) && (backToKw cpos (keywordEach [] X.env)).all (fun x=>x.1.isSome)
   && decide ((e::es).length + ([]:List Keyword).length + (if ([]:List Keyword).isEmpty then 0 else 1) < 30))=true) u4._auto_1)
 (hline:autoParam ((apos.endLine == cpos.line)=true) u4._auto_1) (hs:autoParam (starEach (e::es) X.env=(false,eval e X.env)::starEach es X.env) u4._auto_1) (hplain:autoParam ((backTo cpos (starEach es X.env)).any (·.1)=false) u4._auto_1):
 PE X (.Call (.Attribute o name apos) (e::es) [] cpos) (tBM X.K T r to t):=by
 intro pins s σ H Q I h
 refine wpAny_Call_method_late hbase hfew hline rfl (thn (ho pins s σ H _ I h) fun v s1 ⟨x,H1,I1,r1,ty,q1⟩=> ?_)
 obtain ⟨h1,h2⟩:=kx0 I1 r1 ty
 refine ⟨T,id,pa,slot,hty,h1,h2,?_⟩
 have hA:=ha cpos pins s1 σ H1 _ I1 q1
 rw [hs] at hA ⊢
 refine Calls.callWith_builtin (by show (false || (backTo cpos (starEach es X.env)).any (·.1))=false;rw [hplain] <;> rfl) (Calls.evalArgs_plain ?_)
 exact thn hA fun us s2 ⟨vs,H2,I2,r2,q2⟩=>hm pins s2 σ H2 x vs v us Q I2 r1 r2 q2
end
end L2
namespace L2
open PySem PySem.Spec PyProof.Rows
noncomputable def MtM (X:Cx) (id:String) (r:V→List V→Hp→VK→Prop):Prop:=
 ∀(pins:List (Addr×Obj)) (s:Shared) (σ:St) (H:Hp) (x:V) (xs:List V) (v:Value) (us:List Value) (Q:VK),Inv X pins σ H s→RelV x v→Vals xs us→r x xs H Q→
  wpAny (model X.prog X.w) X.A (call (.builtin id) (v::us)) (EP X pins σ Q) X.xe s
theorem Vals.one: ∀{x:V} {us:List Value},Vals [x] us→∃u,us=[u]∧RelV x u
 | _,_,.cons r .nil=>⟨_,rfl,r⟩
theorem Vals.eraseIdx: ∀{xs:List V} {us:List Value} (i:Nat),Vals xs us→Vals (xs.eraseIdx i) (us.eraseIdx i)
 | _,_,_,.nil=> .nil
 | _,_,0,.cons _ t=>t
 | _,_,i + 1,.cons r t=> .cons r (Vals.eraseIdx i t)
theorem Vals.rep {xs:List V} {us:List Value} (h:Vals xs us): ∀k:Nat,Vals (List.replicate k xs).flatten (List.replicate k us).flatten
 | 0=> .nil
 | k + 1=>by
   rw [List.replicate_succ,List.replicate_succ,List.flatten_cons,List.flatten_cons]
   exact Vals.append h (Vals.rep h k)
theorem kh2 {α:Type}: ∀(l:List α) (i:Nat),(l.eraseIdx i).length≤l.length
 | [],_=>Nat.le_refl _
 | _::_,0=>Nat.le_succ _
 | _::r,i + 1=>Nat.succ_le_succ (kh2 r i)
theorem kh3 (its:List Value): ∀(k:Nat) (acc:List Value),
 List.foldl (fun x1 x2=>x1++x2) acc.toArray (List.replicate k its.toArray)=(acc++(List.replicate k its).flatten).toArray
 | 0,acc=>by simp
 | k + 1,acc=>by
   have e:acc.toArray++its.toArray=(acc++its).toArray:=by simp
   have e2:(acc++its)++(List.replicate k its).flatten=acc++(List.replicate (k + 1) its).flatten:=by
    rw [List.replicate_succ,List.flatten_cons,List.append_assoc]
   rw [← e2,← kh3 its k (acc++its),← e,List.replicate_succ,List.foldl_cons]
section
variable {X:Cx} {pins:List (Addr×Obj)} {σ:St} {H:Hp} {s:Shared} {l b:Addr} {xs ys zs:List V}
theorem Inv.lset {its its':List Value} {n:Nat} {f:Array Value→Array Value} {t':Nat} (I:Inv X pins σ H s) (hH:H l=some (.lst xs))
 (e:s.heap.get? l=some {cls:= .type "list",data:= .seq its.toArray n}) (hf:f its.toArray=its'.toArray) (hv:Vals ys its') (hz:ys.length≤sizeLine):
 Inv X pins σ (upd H l (.lst ys)) {s with heap:=s.heap.update l (Obj.mapSeq f),toks:=t'}:=by
 have q:=PySem.IsL.update e f
 rw [hf] at q
 refine I.write (x:=l) (e:=l) (by rw [hH];exact trivial) (.inl rfl) (fun b' u hb hu=>(Heap.get?_update_other s.heap (Obj.mapSeq f) (Ne.symm hb)).trans hu) ⟨_,q⟩ ?_
 exact ⟨hz,its',_,hv,q⟩
theorem Inv.lnew {its:List Value} {t':Nat} (I:Inv X pins σ H s) (hv:Vals ys its) (hz:ys.length≤sizeLine):
 Inv X pins σ (upd H s.heap.objs.size (.lst ys)) {s with heap:=s.heap.push {cls:= .type "list",data:= .seq its.toArray},toks:=t'}:=
 I.laid (fun q_ q_ q=>Heap.get?_push_of_some _ q) (Nat.le_refl _) ⟨hz,its,0,hv,Heap.get?_push_size _ rfl⟩
theorem Inv.fresh (I:Inv X pins σ H s):H s.heap.objs.size=none:=I.hok.fresh (Nat.le_refl _)
theorem Inv.lstM (I:Inv X pins σ H s) (hH:H l=some (.lst xs)):xs.length≤sizeLine∧∃(its:List Value) (n:Nat),Vals xs its∧xs.length=its.length∧s.heap.get? l=some {cls:= .type "list",data:= .seq its.toArray n}:=by
 obtain ⟨z,its,n,r,e⟩:=I.hok l _ hH
 exact ⟨z,its,n,r,r.length,e⟩
theorem kjz {n:Nat} (h:n≤sizeLine):Builtin.List.listTooLong n=false:=by
 unfold Builtin.List.listTooLong
 exact decide_eq_false (by lia)
end
section
variable {X:Cx}
noncomputable def kiz:V→List V→Hp→VK→Prop:=fun x vs H Q=>∃l xs y,x= .ref l∧vs=[y]∧H l=some (.lst xs)∧xs.length < sizeLine∧Q .non (upd H l (.lst (xs++[y])))
theorem kcl:MtM X "list.append" kiz:=by
 intro pins s σ H x vs v us Q I rx rv h
 obtain ⟨l,xs,y,rfl,rfl,hH,hz,q⟩:=h
 cases rx
 obtain ⟨u,rfl,ru⟩:=rv.one
 obtain ⟨z,its,n,r,hl,e⟩:=I.lstM hH
 refine call_meets F.slot_list_append ⟨_,e,rfl⟩ F.entry_list_append (F.args_list_append_2 _ _) (PySem.list_append l its.toArray n u (by rw [List.size_toArray];lia)) ⟨e,?_⟩
 refine ⟨.non,_,I.lset (its':=its++[u]) hH e (by simp) (r.append (.cons ru .nil)) ?_,rfl,q⟩
 rw [List.length_append,List.length_singleton]
 lia
noncomputable def kuf:V→List V→Hp→VK→Prop:=fun x vs H Q=>∃l b xs zs,x= .ref l∧vs=[.ref b]∧H l=some (.lst xs)∧H b=some (.lst zs)∧xs.length + zs.length≤sizeLine∧Q .non (upd H l (.lst (xs++zs)))
theorem kmz:MtM X "list.extend" kuf:=by
 intro pins s σ H x vs v us Q I rx rv h
 obtain ⟨l,b,xs,zs,rfl,rfl,hH,hB,hz,q⟩:=h
 cases rx
 obtain ⟨u,rfl,ru⟩:=rv.one
 cases ru
 obtain ⟨z,its,n,r,hl,e⟩:=I.lstM hH
 obtain ⟨z2,its2,n2,r2,hl2,e2⟩:=I.lstM hB
 have hsz:its.toArray.size + its2.toArray.size≤sizeLine:=by rw [List.size_toArray,List.size_toArray];lia
 have hlong: ¬(!its.toArray.isEmpty && Builtin.List.listTooLong (its.toArray.size + its2.toArray.size))=true:=by
  rw [kjz hsz,Bool.and_false]
  exact Bool.false_ne_true
 refine call_meets F.slot_list_extend ⟨_,e,rfl⟩ F.entry_list_extend (F.args_list_extend_2 _ _)
  (AutoSeq1.list_extend_list_list_0 l its.toArray n b its2.toArray n2 hlong (by rw [List.size_toArray];lia) (by lia)) ⟨e,e2,?_⟩
 refine ⟨.non,_,I.lset (its':=its++its2) hH e (by simp) (r.append r2) ?_,rfl,q⟩
 rw [List.length_append]
 lia
noncomputable def kx1:V→List V→Hp→VK→Prop:=fun x vs H Q=>∃l xs i k y,x= .ref l∧vs=[.int i]∧H l=some (.lst xs)∧ -(2 ^ 63)≤i∧i < 2 ^ 63∧seqIndex? i xs.length=some k∧xs[k]?=some y∧Q y (upd H l (.lst (xs.eraseIdx k)))
theorem kgv:MtM X "list.pop" kx1:=by
 intro pins s σ H x vs v us Q I rx rv h
 obtain ⟨l,xs,i,k,y,rfl,rfl,hH,h1,h2,hk,hy,q⟩:=h
 cases rx
 obtain ⟨u,rfl,ru⟩:=rv.one
 obtain ⟨t,rfl⟩:=ru
 obtain ⟨z,its,n,r,hl,e⟩:=I.lstM hH
 obtain ⟨w,hw,rw'⟩:=r.get hy
 refine call_meets F.slot_list_pop ⟨_,e,rfl⟩ F.entry_list_pop (F.args_list_pop_2 _ _)
  (MeetsSeq.list_pop_at l its.toArray n i t k w (fitsIndex_both h1 h2) (by rw [List.size_toArray,← hl];exact hk) (by rw [← Array.getElem?_toList];exact hw) (by rw [List.size_toArray];lia)) ⟨e,?_⟩
 refine ⟨y,_,I.lset (its':=its.eraseIdx k) hH e ?_ (r.eraseIdx k) ?_,rw',q⟩
 · show its.toArray.eraseIdxIfInBounds k=(its.eraseIdx k).toArray
   rw [List.eraseIdxIfInBounds_toArray]
 · have:=kh2 xs k
   lia
noncomputable def rRep:R2:=fun x y H Q=>∃l k xs,x= .ref l∧y= .int k∧H l=some (.lst xs)∧ -(2 ^ 63)≤k∧k < 2 ^ 63∧xs.length * k.toNat≤sizeLine∧
 ∀p,H p=none→Q (.ref p) (upd H p (.lst (List.replicate k.toNat xs).flatten))
theorem kug {α:Type} (xs:List α) (k:Nat):(List.replicate k xs).flatten.length=k * xs.length:=by
 induction k with
 | zero=>simp
 | succ k ih=>rw [List.replicate_succ,List.flatten_cons,List.length_append,ih,Nat.succ_mul,Nat.add_comm]
theorem kx2:OpR X (binaryOp .Mult) rRep:=by
 intro pins s σ H x y v u Q I rx ry h
 obtain ⟨l,k,xs,rfl,rfl,hH,h1,h2,hz,q⟩:=h
 cases rx
 obtain ⟨t,rfl⟩:=ry
 obtain ⟨z,its,n,r,hl,e⟩:=I.lstM hH
 have hlen:its.toArray.size * k.toNat≤sizeLine:=by rw [List.size_toArray,← hl];exact hz
 have hcap: ¬its.toArray.size * k.toNat > (2 ^ 63 - 1) / 8:=by
  have:(sizeLine:Nat)≤(2 ^ 63 - 1) / 8:=by decide
  lia
 have hfit: ¬(!Builtin.List.listFitsIndex k)=true:=by
  rw [fitsIndex_both h1 h2]
  exact Bool.false_ne_true
 have hlong: ¬Builtin.List.listTooLong (its.toArray.size * k.toNat)=true:=by
  rw [kjz hlen]
  exact Bool.false_ne_true
 have hnew:List.foldl (fun x1 x2=>x1++x2) #[] (List.replicate (if its.toArray.isEmpty=true then 0 else k.toNat) its.toArray)=(List.replicate k.toNat its).flatten.toArray:=by
  have f0: ∀m:Nat,List.foldl (fun x1 x2=>x1++x2) #[] (List.replicate m its.toArray)=(List.replicate m its).flatten.toArray:=fun m=>by
   have:=kh3 its m []
   rw [List.nil_append] at this
   exact this
  rw [f0]
  cases its with
  | nil=>simp
  | cons a r'=>rw [if_neg (by simp)]
 refine wpAny_binaryOp_repeat_ref (T:="list") (U:="int") (by decide) ⟨_,e,rfl⟩ (fun s'=>typeIs_int s' k t) noFill_list_mul F.fills_int_mul F.slot_int_rmul repeat_list F.slot_int_index.lookup
  (call_meets F.slot_int_rmul (typeIs_int s k t) F.entry_int_rmul (F.args_int_rmul_2 _ _) (int___rmul___int_list k t l its.toArray n)
    ⟨e,rfl,⟨_,e,rfl⟩,call_meets F.slot_list_mul ⟨_,e,rfl⟩ F.entry_list_mul (F.args_list_mul_2 _ _) (AutoListH.list___mul___list_int_3 l its.toArray n k t hfit hcap hlong) ⟨e,?_⟩⟩)
 rw [hnew]
 exact ⟨.ref _,_,I.lnew (t':=s.toks) (r.rep k.toNat) (by rw [kug,Nat.mul_comm];exact hz),rfl,q _ I.fresh⟩
end
section
variable {prog:Program} {w:World} {A:Around} {E:Value→Shared→Prop} {s:Shared}
end
section
variable {X:Cx}
end
end L2
namespace Att
open PySem PySem.W PySem.Calls PyProof.Rows
theorem kfj {P:Params} {h:Heap}: ∀(ns:List Int) (vs:List Value),WellAll P h vs (ns.map WData.int)→IntsAre vs ns:=by
 intro ns
 induction ns with
 | nil=>
   intro vs w
   rw [List.map_nil] at w
   cases w
   exact .nil
 | cons n ns ih=>
   intro vs w
   rw [List.map_cons] at w
   cases w with
   | cons a b=>
     cases a
     exact .cons _ _ (ih _ b)
theorem km0 {l:OpenLaw} {n:Nat} (hn:l.most=some n) {P:Params} {h:Heap} {args:List WData} {vals:List Value}
 (hpre:l.row.toRowW.claim.pre args=true) (hwl:WellAll P h vals args):
 ∃a vs ns,vals=[Value.ref a]∧args=[WData.list (ns.map WData.int)]∧h.get? a=some {cls:= .type "list",data:= .seq vs.toArray}∧IntsAre vs ns∧ns.length≤n:=by
 have hsh:WShape.hasAll [] args [.list .int]=true:=(pre_splitW hpre).1
 have hc:l.pre.holds [] {args:=args}=true:=(pre_splitW hpre).2
 obtain ⟨d,r,rfl,h1,h2⟩:=hasAllW_cons hsh
 obtain rfl:=hasAllW_nil h2
 obtain ⟨xs,rfl,h3⟩:=hasW_list h1
 obtain ⟨ns,rfl⟩:=items_int h3
 have hlen:ns.length≤n:=by
  unfold OpenLaw.pre at hc
  have h4:(WTm.not (.lt (.lit (.int (n:Int))) (.len (.arg 0)))).holds [] {args:=[.list (ns.map .int)]}=true:=by
   have h4:=(holds_andW hc).1
   rw [hn] at h4
   exact h4
  have h5:=condW_of h4 (w_not (w_lt w_lit (w_len_list (w_arg rfl))))
  rw [List.length_map] at h5
  refine Nat.le_of_not_lt fun q=> ?_
  have q':(n:Int) < ((ns.length:Nat):Int):=by lia
  first
   | (rw [decide_eq_true q'] at h5;exact absurd h5 (by decide))
   | (simp at h5;lia)
 cases hwl with
 | cons w1 w2=>
   cases w2
   cases w1 with
   | list ho hall=>exact ⟨_,_,ns,rfl,rfl,ho,kfj ns _ hall,hlen⟩
theorem km1 (l:OpenLaw) (args:List WData):l.row.toRowW.claim.post args (.bool true) args=true:=
 postW_of (r:=l.row.toRowW) (X:=(true == true))
  (show WShape.has [] (.bool true) .bool=true by first | rfl | decide | simp [WShape.has,WShape.arms,WShape.armsAll])
  (show (WTm.eq .res (.lit (.bool true))).value [] {args:=args,res:=some (.bool true),after:=args}=some (.bool (true == true)) from w_eq_bool (w_res rfl) w_lit) rfl
theorem attach_call {l:OpenLaw} {n:Nat} {q:Program} {loose:List Str} {XP:(Str→Option Value)→Heap→Prop} {YP:World→Heap→Prop} {d:DefRec}
 (hn:l.most=some n) (hdf:d.params.defaults=[])
 (call: ∀(w:World) (s₀ s₁:Shared) (mg mb:Str→Option Value) (fa:Addr) (o:Obj) (pm cd doc:Value) (a:Addr) (vs:List Value) (ns:List Int),
   Ground q loose [] XP w s₀ mg mb s₁.heap→YP w s₁.heap→
   s₁.heap.get? fa=some o→o.data= .func (docDef d.name d.params d.body d.scope pm cd doc)→s₁.heap.CodeRec cd d.name→mg d.name=some (.ref fa)→
   s₁.heap.get? a=some {cls:= .type "list",data:= .seq vs.toArray}→IntsAre vs ns→ns.length≤n→s₁.gens= #[]→
   codeAny (model l.prog w) callerA (.call (.ref fa) ⟨[.ref a],[]⟩) (fun r s'=>r= .ok (.ret (.bool true))∧OldK s₁.heap s'.heap∧s'.os=s₁.os∧AllBare s'.gens) s₁):
 WalkO q loose XP YP l.row.toRowW d [] (fun f vs=>PySem.call f vs):=by
 intro w s₀ s₁ mg mb G Y fa o pm cd doc dV kV ho hd hcd hD hmg hg args vals as hpre hlay hrd hwl hlo
 obtain rfl:dV= .none:=Dflts.none hD hdf
 obtain rfl:kV= .none:=Dflts.noKw hD
 obtain ⟨a,vs,ns,rfl,rfl,hobj,hints,hlen⟩:=km0 hn hpre hwl
 refine enter_call (codeAny_mono (call w s₀ s₁ mg mb fa o pm cd doc a vs ns G Y ho (fd_plain hd) hcd hmg hobj hints hlen hg) fun r s' hq=> ?_)
 obtain ⟨rfl,h2,h3,h4⟩:=hq
 exact ⟨.inl ⟨.bool true,.bool true,[],rfl,fun q_=>rfl,.bool true,km1 l _,fun q_=>⟨List.Pairwise.nil,fun q_ hm=>(nomatch hm)⟩⟩,h2,h3,h4⟩
section
variable {prog:Program} {w:World} {A:Around} {E:Value→Shared→Prop} {s:Shared} {K:Frag}
end
end Att
namespace L2
open PySem PySem.Spec PyProof.Rows
theorem kh4: ∀{vs:List Value} {ns:List Int},IntsAre vs ns→Vals (ns.map V.int) vs
 | _,_,.nil=> .nil
 | _,_,.cons n t h=> .cons ⟨t,rfl⟩ (kh4 h)
noncomputable def Only (H:Hp):Prop:=∀b,H b=none∨∃o xs,H b=some (.frz o (.lst xs))
theorem kqp {P:Program} {w:World} {K:PySem.W.Frag} {mg mb:Str→Option Value} {CX:CXT} {k:Nat} {fa a:Addr} {fd:FuncData} {x:Str} {sp:Sp} {s₁:Shared} {vs:List Value} {ns:List Int}
 (KX:K.In s₁.heap) (hns:s₁.heap.Ns mainGlobals mg) (hb:s₁.heap.Ns builtinsNs mb) (hbb: ∀x:Str,x≠"__name__"→mb x=bootBuiltins x) (hlim:s₁.heap.NoLimit) (hg:s₁.gens= #[])
 (ha:s₁.heap.get? a=some {cls:= .type "list",data:= .seq vs.toArray}) (hi:IntsAre vs ns) (hl:ns.length≤sizeLine) (hr:Room k callerA)
 (F: ∀base:Heap,K.In base→base.Ns mainGlobals mg→FnOk P w K mg base CX k fa fd [x] sp) (hbind: ∀(s:Shared) (u:Value),BindsTo s fd ⟨[u],[]⟩ [(x,u)])
 (hsp: ∀H:Hp,Only H→SqL K H a (ns.map V.int)→sp [.ref a] H (fun v q_=>v= .bl true) fun q_ q_ q_=>False)
 (hCX: ∀H e s',CX [] H s₁ (fun q_ q_ q_=>False) e s'→False):
 codeAny (model P w) callerA (.call (.ref fa) ⟨[.ref a],[]⟩) (fun r s'=>r= .ok (.ret (.bool true))∧OldK s₁.heap s'.heap∧s'.os=s₁.os∧AllBare s'.gens) s₁:=by
 have rv:=kh4 hi
 have lenV:=hi.length
 have core: ∀H:Hp,Only H→SqL K H a (ns.map V.int)→HOk P w H s₁.heap→(∀ b,H b≠none→b=a)→(H a≠none→K.lookup a=none)→
  codeAny (model P w) callerA (.call (.ref fa) ⟨[.ref a],[]⟩) (fun r s'=>r= .ok (.ret (.bool true))∧OldK s₁.heap s'.heap∧s'.os=s₁.os∧AllBare s'.gens) s₁:=by
  intro H hO hS hok hA hK
  have base_of: ∀{b:Addr} {o:Obj},s₁.heap.get? b=some o→H b=none→(kqe s₁.heap H).get? b=some o:=fun e n=>kqf e n
  have noA: ∀{b:Addr} {o:Obj} {es:Array DictEntry} {ep:Nat},s₁.heap.get? b=some o→o.data= .dict es ep→H b=none:=fun {b o es ep} e d=>by
   cases q:H b with
   | none=>rfl
   | some u=>
     have e':b=a:=hA b (by rw [q];simp)
     subst e'
     rw [ha] at e;cases e
     have d':Data.seq vs.toArray _=Data.dict es ep:=d
     cases d'
  have nsK: ∀{b:Addr} {m:Str→Option Value},s₁.heap.Ns b m→(kqe s₁.heap H).Ns b m:=fun {b m} ⟨o,es,ep,e,d,r⟩=>⟨o,es,ep,base_of e (noA e d),d,r⟩
  have hKb:K.In (kqe s₁.heap H):=fun b o e=>base_of (KX b o e) (by
   cases q:H b with
   | none=>rfl
   | some u=>
     have e':b=a:=hA b (by rw [q];simp)
     subst e'
     rw [hK (by rw [q];simp)] at e;cases e)
  have hM:Mod K mg (kqe s₁.heap H):=⟨hKb,nsK hns,⟨mb,nsK hb,hbb⟩,let ⟨mc,h1,h2⟩:=hlim;⟨mc,nsK h1,h2⟩⟩
  have e0:Env0 P w K mg (kqe s₁.heap H) callerA [] s₁ H:=⟨rfl,hM,fun b o e=>kt3 e,Nat.le_of_eq (kmh _ _),trivial,fun b hb=>absurd (show b∈([]:List Addr) from hb) (by simp),hok,.of_eq hg⟩
  refine codeAny_mono ((F _ hKb (nsK hns)).run callerA [] s₁ H ⟨[.ref a],[]⟩ [.ref a] [.ref a] _ _ hr e0 (hbind s₁ (.ref a)) (.cons rfl .nil) (hsp H hO hS)) fun r s' h=> ?_
  cases r with
  | error e=>exact (hCX H e s' h).elim
  | ok fl=>
    cases fl with
    | next=>exact False.elim h
    | brk=>exact False.elim h
    | cont=>exact False.elim h
    | ret u=>
      obtain ⟨v,H',os,bare,un,hok',r',q⟩:=h
      have q':v= .bl true:=q
      subst q'
      obtain rfl:u=Value.bool true:=r'
      refine ⟨rfl,OldK.of_keep fun b o e=> ?_,os,bare⟩
      cases q:H b with
      | none=>exact un.keep b o e q (by intro z;exact absurd (show b∈([]:List Addr) from z) (by simp)) (by simp)
      | some u=>
        rcases hO b with z | ⟨ob,xs,z⟩
        · rw [q] at z;cases z
        · have z2:=un.frzs b ob _ z
          obtain ⟨e1,_⟩:=hok b _ z
          obtain ⟨e2,_⟩:=hok' b _ z2
          rw [e] at e1;cases e1
          exact e2
 cases hk:K.lookup a with
 | some o=>
   have e:=KX a o hk
   rw [ha] at e
   cases e
   refine core (fun q_=>none) (fun q_=> .inl rfl) (.inr ⟨_,vs.toArray,_,hk,rfl,rfl,rfl,by rw [List.size_toArray,lenV];exact hl,by simpa using rv⟩) (fun b u z=>by have z':(none:Option HO)=some u:=z;cases z') (fun b z=>absurd rfl z) fun z=>absurd rfl z
 | none=>
   refine core (fun b=>if b=a then some (.frz {cls:= .type "list",data:= .seq vs.toArray} (.lst (ns.map V.int))) else none) (fun b=> ?_) (.inl (.inr ⟨{cls:= .type "list",data:= .seq vs.toArray},if_pos rfl⟩)) (fun b u z=> ?_) (fun b z=> ?_) fun q_=>hk
   · by_cases hb:b=a
     · exact .inr ⟨_,_,if_pos hb⟩
     · exact .inl (if_neg hb)
   · by_cases hb:b=a
     · have z':=(if_pos hb).symm.trans z
       cases z'
       subst hb
       exact ⟨ha,by rw [List.length_map];exact hl,vs,_,rv,ha⟩
     · have z':=(if_neg hb).symm.trans z
       cases z'
   · by_cases hb:b=a
     · exact hb
     · exact absurd (if_neg hb) z
end L2
namespace L2
open PySem PySem.Spec PyProof.Rows
theorem kuh {l:PySem.W.OpenLaw} {n k:Nat} {q:Program} {loose:List Str} {XP:(Str→Option Value)→Heap→Prop} {YP:World→Heap→Prop} {d:DefRec} {K:Params→PySem.W.Frag} {CX:World→CXT} {sp:World→Sp} {x:Str}
 (hn:l.most=some n) (hn2:n≤sizeLine) (hdf:d.params.defaults=[]) (hr:Room k callerA)
 (hY: ∀(w:World) (h:Heap),YP w h→(K w.params).In h)
 (F: ∀(w:World) (mg:Str→Option Value) (fa:Addr) (h:Heap),(K w.params).In h→h.Ns mainGlobals mg→mg d.name=some (.ref fa)→
   ∃fd:FuncData,(∀ (s:Shared) (u:Value),BindsTo s fd ⟨[u],[]⟩ [(x,u)])∧
    ∀base:Heap,(K w.params).In base→base.Ns mainGlobals mg→FnOk l.prog w (K w.params) mg base (CX w) k fa fd [x] (sp w))
 (hsp: ∀(w:World) (H:Hp) (a:Addr) (ns:List Int),ns.length≤n→Only H→SqL (K w.params) H a (ns.map V.int)→sp w [.ref a] H (fun v q_=>v= .bl true) fun q_ q_ q_=>False)
 (hCX: ∀(w:World) (H:Hp) (s:Shared) (e:Value) (s':Shared),CX w [] H s (fun q_ q_ q_=>False) e s'→False):
 PySem.W.WalkO q loose XP YP l.row.toRowW d [] (fun f vs=>PySem.call f vs):=by
 refine Att.attach_call hn hdf fun w s₀ s₁ mg mb fa o pm cd doc a vs ns G Y ho hd hcd hmg hobj hints hlen hg=> ?_
 have KX:=hY w _ Y
 obtain ⟨fd,hb,hF⟩:=F w mg fa _ KX G.T.g hmg
 exact kqp KX G.T.g G.T.b G.T.builtins G.T.nolimit hg hobj hints (Nat.le_trans hlen hn2) hr hF hb (fun H hO hS=>hsp w H a ns hlen hO hS) fun H e s'=>hCX w H s₁ e s'
end L2
namespace L2
open PySem PySem.Spec PyProof.Rows
noncomputable def kb2 (s:Stmt):Arguments:=match s with
 | .FunctionDef _ a _ _ _ _ _ _ _ _=>a
 | _=>{posonlyargs:=[],args:=[],vararg:=none,kwonlyargs:=[],kw_defaults:=[],kwarg:=none,defaults:=[]}
noncomputable def kbr (s:Stmt):List Stmt:=match s with
 | .FunctionDef _ _ b _ _ _ _ _ _ _=>b
 | _=>[]
noncomputable def kag (s:Stmt):Scope:=match s with
 | .FunctionDef _ _ _ _ _ _ sc _ _ _=>sc
 | _=>{kind:= .function,names:=[],isGenerator:=false,isCoroutine:=false}
noncomputable abbrev CX0:CXT:=fun q_ q_ q_ q_ q_ q_=>False
noncomputable abbrev E0:XK:=fun q_ q_ q_=>False
theorem pass0 {X:Cx}:kmu CX0 X E0:=fun q_ q_ q_ q_ q_ q_ q_ h=>h.elim
structure Fun (K:PySem.W.Frag) (x qual:Str) (st:Stmt) (f:Addr) (fd:FuncData):Prop where
 ex: ∃(oc:Value) (od:Option Addr) (kV doc pm:Value) (an:Option Addr) (cdv ct:Value) (osl:Array (Option Value)),
  fd=PySem.W.fnOf x qual (kb2 st) (kbr st) (kag st) .none kV doc pm an cdv ct∧K.lookup f=some ⟨oc,od,.func fd,osl⟩∧PySem.W.codeIn K cdv qual=true
 kp:PySem.W.keepIn K (.ref f)=true
section
variable {P:Program} {w:World} {K:PySem.W.Frag} {mg:Str→Option Value} {base:Heap}
theorem Fun.ok {x qual:Str} {st:Stmt} {f:Addr} {fd:FuncData} {N ps:List Str} {k:Nat} {sp:Sp} (F:Fun K x qual st f fd) (S:FnScope N ps (kag st)) (len: ∀vs H Q E,sp vs H Q E→vs.length=ps.length)
 (hbody: ∀(cdv:Value) (A:Around) (outer:List Env) (s:Shared) (H:Hp) (vs:List V) (Q:VK) (E:XK),Room k (A.deeper (envOfC qual (kag st) s.heap.objs.size f cdv))→sp vs H Q E→
   ∃t,PSs (kmv CX0 P w K mg base N qual (kag st) f cdv A outer s H E).nox (kbr st) t∧t {nx:=fun q_ H'=>Q .non H',rt:=Q} (start N vs) H):FnOk P w K mg base CX0 (k + 1) f fd ps sp:=by
 obtain ⟨oc,od,kV,doc,pm,an,cdv,ct,osl,rfl,lk,hcd⟩:=F.ex
 refine fn_of lk hcd S len fun A outer s H vs Q E hr hsp=> ?_
 obtain ⟨t,h,q⟩:=hbody cdv A outer s H vs Q E hr hsp
 exact ⟨t,h.nox,q⟩
theorem Fun.binds {x qual:Str} {st:Stmt} {f:Addr} {fd:FuncData} {ps:List Str} (F:Fun K x qual st f fd)
 (h: ∀(kV doc pm:Value) (an:Option Addr) (cdv ct:Value) (us:List Value),us.length=ps.length→bindArgs (PySem.W.fnOf x qual (kb2 st) (kbr st) (kag st) .none kV doc pm an cdv ct) ⟨us,[]⟩=pure (ps.zip us)):Binds K fd ps []:=by
 obtain ⟨oc,od,kV,doc,pm,an,cdv,ct,osl,rfl,lk,hcd⟩:=F.ex
 exact .all (h kV doc pm an cdv ct)
theorem ksu {x qual:Str} {st:Stmt} {f:Addr} {oc:Value} {od an:Option Addr} {osl:Array (Option Value)} {kV doc pm cdv ct:Value} (l:K.lookup f=some ⟨oc,od,.func (PySem.W.fnOf x qual (kb2 st) (kbr st) (kag st) .none kV doc pm an cdv ct),osl⟩)
 (c:PySem.W.codeIn K cdv qual=true) (k:PySem.W.keepIn K (.ref f)=true):Fun K x qual st f (PySem.W.fnOf x qual (kb2 st) (kbr st) (kag st) .none kV doc pm an cdv ct):=⟨⟨oc,od,kV,doc,pm,an,cdv,ct,osl,rfl,l,c⟩,k⟩
end
section
variable {X:Cx}
theorem pv (i:Nat) {x:Str} {pos:Pos} (hN:autoParam (X.N[i]?=some x) u4._auto_1) (hv:autoParam (Vis X.env.scope x) u6._auto_1) (hd:autoParam ((x == ("__debug__":Str))=false) u2._auto_1)
 (hcd:autoParam ((x == ("__classdict__":Str))=false) u2._auto_1):PE X (.Name x pos) (khr i):=kxd hN hv hd hcd
end
theorem kdi {c A B:Prop} [Decidable c] (h1:c→A) (h2: ¬c→B):if c then A else B:=by
 by_cases h:c
 · rw [if_pos h]
   exact h1 h
 · rw [if_neg h]
   exact h2 h
noncomputable def Same (H H':Hp):Prop:=∀b o,H b=some o→H' b=some o
theorem Same.refl (H:Hp):Same H H:=fun q_ q_ h=>h
theorem Same.trans {H H1 H2:Hp} (a:Same H H1) (b:Same H1 H2):Same H H2:=fun c o h=>b c o (a c o h)
theorem Same.free {H H':Hp} (e:Same H H') {l:Addr} (h:H' l=Option.none):H l=Option.none:=by
 cases q:H l with
 | none=>rfl
 | some o=>
   rw [e l o q] at h
   cases h
theorem Same.seq {K:PySem.W.Frag} {H H':Hp} {a:Addr} {xs:List V} (e:Same H H') (h:SqL K H a xs):SqL K H' a xs:=by
 rcases h with (h | ⟨o,h⟩) | h
 · exact .inl (.inl (e _ _ h))
 · exact .inl (.inr ⟨o,e _ _ h⟩)
 · exact .inr h
section
variable {κ:Type} [DecidableEq κ]
end
end L2
namespace L2
open PySem PySem.Spec PyProof.Rows
noncomputable def kbp (env:Env):List (Str×NameKind)→List (Str×Addr)→List (Str×Addr)
 | [],acc=>acc
 | (n,k)::r,acc=>if (k == NameKind.free)=true then kbp env r ((n,(env.cells.lookup n).getD 0)::acc) else kbp env r acc
theorem kel {env:Env} (f:Str×NameKind→List (Str×Addr)→Sem (ForInStep (List (Str×Addr))))
 (hf: ∀name kind cs,f (name,kind) cs=if (kind == NameKind.free)=true then (cellOf env name >>= fun a=>pure (.yield ((name,a)::cs))) else pure (.yield cs)):
 ∀(names:List (Str×NameKind)) (acc:List (Str×Addr)),(∀ x∈names,x.2= .free→∃c,env.cells.lookup x.1=some c)→forIn names acc f=pure (kbp env names acc)
 | [],acc,_=>by rw [List.forIn_nil];rfl
 | (n,k)::r,acc,h=>by
   have hr: ∀x∈r,x.2= .free→∃c,env.cells.lookup x.1=some c:=fun x hx=>h x (List.mem_cons_of_mem _ hx)
   rw [List.forIn_cons,hf]
   unfold kbp
   by_cases hk:(k == NameKind.free)=true
   · rw [if_pos hk,if_pos hk]
     obtain ⟨c,e⟩:=h (n,k) List.mem_cons_self (by simpa using hk)
     have e:env.cells.lookup n=some c:=e
     have e1:cellOf env n=pure c:=by unfold cellOf;rw [e]
     rw [e1,e]
     exact kel f hf r _ hr
   · rw [if_neg hk,if_neg hk]
     exact kel f hf r _ hr
theorem kd8 {env:Env} {scope:Scope} (h: ∀x∈scope.names,x.2= .free→∃c,env.cells.lookup x.1=some c):closureFor scope env=pure (kbp env scope.names []):=by
 simp only [closureFor]
 rw [kel (env:=env) _ (fun name kind cs=> ?_) scope.names [] h]
 · rfl
 · cases hk:kind == NameKind.free <;> simp [hk]
set_option tactic.hygienic true in
theorem kem {env:Env}: ∀{names:List (Str×NameKind)} {acc:List (Str×Addr)} {p:Str×Addr},p∈kbp env names acc→p∈acc∨(p.1,NameKind.free)∈names∧p.2=(env.cells.lookup p.1).getD 0
 | [],_,_,h=> .inl h
 | (n,k)::r,acc,p,h=>by
   unfold kbp at h
   split at h
   · rename_i hk
     rcases kem h with q | ⟨q1,q2⟩
     · rcases List.mem_cons.mp q with rfl | q
       · exact .inr ⟨by rw [beq_iff_eq.mp hk];exact List.mem_cons_self,rfl⟩
       · exact .inl q
     · exact .inr ⟨List.mem_cons_of_mem _ q1,q2⟩
   · rcases kem h with q | ⟨q1,q2⟩
     · exact .inl q
     · exact .inr ⟨List.mem_cons_of_mem _ q1,q2⟩
theorem kds {env:Env} {x:Str}: ∀{names:List (Str×NameKind)} {acc:List (Str×Addr)},acc.lookup x=some ((env.cells.lookup x).getD 0)→(kbp env names acc).lookup x=some ((env.cells.lookup x).getD 0)
 | [],_,h=>h
 | (n,k)::r,acc,h=>by
   unfold kbp
   split
   · refine kds ?_
     rw [List.lookup_cons]
     cases hb:x == n with
     | true=>
       have e:=beq_iff_eq.mp hb
       subst e
       rfl
     | false=>exact h
   · exact kds h
theorem kcs {env:Env} {x:Str}: ∀{names:List (Str×NameKind)} {acc:List (Str×Addr)},names.lookup x=some .free→(kbp env names acc).lookup x=some ((env.cells.lookup x).getD 0)
 | [],_,h=>by cases h
 | (n,k)::r,acc,h=>by
   rw [List.lookup_cons] at h
   unfold kbp
   cases hb:x == n with
   | true=>
     rw [hb] at h
     have e:=beq_iff_eq.mp hb
     subst e
     have h:k=NameKind.free:=Option.some.inj h
     subst h
     rw [if_pos (by rfl)]
     refine kds ?_
     rw [List.lookup_cons,hb]
   | false=>
     rw [hb] at h
     split
     · exact kcs h
     · exact kcs h
noncomputable def InjL (cs:List (Str×Addr)):Prop:=∀p∈cs,∀q∈cs,p.2=q.2→p.1=q.1
theorem kct: ∀{names:List (Str×NameKind)} {n:Nat} {acc:List (Str×Addr)},(∀ p∈acc,p.2 < n)→InjL acc→InjL (cellsFrom n names acc)
 | [],_,_,_,h=>h
 | (nm,k)::r,n,acc,hl,h=>by
   unfold cellsFrom
   split
   · refine kct (fun p hp=> ?_) fun p hp q hq e=> ?_
     · rcases List.mem_cons.mp hp with rfl | hp
       · exact Nat.lt_succ_self _
       · exact Nat.lt_succ_of_lt (hl p hp)
     · rcases List.mem_cons.mp hp with rfl | hp <;> rcases List.mem_cons.mp hq with rfl | hq
       · rfl
       · have e:n=q.2:=e
         exact absurd (hl q hq) (by rw [← e];exact Nat.lt_irrefl _)
       · have e:p.2=n:=e
         exact absurd (hl p hp) (by rw [e];exact Nat.lt_irrefl _)
       · exact h p hp q hq e
   · exact kct hl h
theorem kcu: ∀{names:List (Str×NameKind)} {n:Nat} {acc:List (Str×Addr)} {p:Str×Addr},p∈cellsFrom n names acc→p∈acc∨n≤p.2
 | [],_,_,_,h=> .inl h
 | (nm,k)::r,n,acc,p,h=>by
   unfold cellsFrom at h
   split at h
   · rcases kcu h with q | q
     · rcases List.mem_cons.mp q with rfl | q
       · exact .inr (Nat.le_refl _)
       · exact .inl q
     · exact .inr (by lia)
   · exact kcu h
set_option tactic.hygienic true in
theorem kb3: ∀{names:List (Str×NameKind)} {h:Heap} {acc:List (Str×Addr)},(∀ p∈acc,∃v,h.IsCell p.2 v)→∀p∈cellsFrom h.objs.size names acc,∃v,(pushCells h names).IsCell p.2 v
 | [],_,_,h,p,hp=>h p hp
 | (nm,k)::r,h,acc,ha,p,hp=>by
   unfold cellsFrom at hp
   unfold pushCells
   split
   · rename_i hk
     rw [if_pos hk] at hp
     have e:h.objs.size + 1=(h.push {cls:= .type "cell",data:= .cell none}).objs.size:=(Heap.size_push ..).symm
     rw [e] at hp
     refine kb3 (fun q hq=> ?_) p hp
     rcases List.mem_cons.mp hq with rfl | hq
     · exact ⟨none,_,Heap.get?_push_size _ rfl,rfl⟩
     · obtain ⟨v,z⟩:=ha q hq
       exact ⟨v,z.keeps fun b o e=>Heap.get?_push_of_some _ e⟩
   · rename_i hk
     rw [if_neg hk] at hp
     exact kb3 ha p hp
theorem kcv {x:Str} {c:Addr} {lo:Nat}: ∀{names:List (Str×NameKind)} {n:Nat} {acc:List (Str×Addr)},lo≤n→(names.lookup x=some .cell∨∀c',acc.lookup x=some c'→lo≤c')→
 (cellsFrom n names acc).lookup x=some c→lo≤c
 | [],_,_,_,h,e=>by
   rcases h with h | h
   · cases h
   · exact h c e
 | (y,k)::r,n,acc,hn,h,e=>by
   unfold cellsFrom at e
   by_cases hk:(k == NameKind.cell)=true
   · rw [if_pos hk] at e
     refine kcv (Nat.le_succ_of_le hn) ?_ e
     cases hb:x == y with
     | true=>
       refine .inr fun c' e'=> ?_
       rw [List.lookup_cons,hb] at e'
       have e':n=c':=Option.some.inj e'
       lia
     | false=>
       rcases h with h | h
       · rw [List.lookup_cons,hb] at h
         exact .inl h
       · refine .inr fun c' e'=> ?_
         rw [List.lookup_cons,hb] at e'
         exact h c' e'
   · rw [if_neg hk] at e
     refine kcv hn ?_ e
     rcases h with h | h
     · rw [List.lookup_cons] at h
       cases hb:x == y with
       | true=>
         rw [hb] at h
         have h:k=NameKind.cell:=Option.some.inj h
         subst h
         exact absurd rfl hk
       | false=>
         rw [hb] at h
         exact .inl h
     · exact .inr h
theorem kcb {x:Str}: ∀{names:List (Str×NameKind)} {n:Nat} {acc:List (Str×Addr)},(names.all fun p=>p.1 != x || p.2 != NameKind.cell)=true→(cellsFrom n names acc).lookup x=acc.lookup x
 | [],_,_,_=>rfl
 | (y,k)::r,n,acc,h=>by
   rw [List.all_cons,Bool.and_eq_true] at h
   unfold cellsFrom
   by_cases hk:(k == NameKind.cell)=true
   · rw [if_pos hk,kcb h.2,List.lookup_cons]
     have h1:(y != x)=true:=by
      have:=h.1
      rw [Bool.or_eq_true] at this
      rcases this with z | z
      · exact z
      · rw [bne,hk] at z
        cases z
     have hb:(x == y)=false:=by
      cases q:x == y with
      | false=>rfl
      | true=>
        have e:=beq_iff_eq.mp q
        subst e
        rw [bne_self_eq_false] at h1
        cases h1
     rw [hb]
   · rw [if_neg hk]
     exact kcb h.2
theorem ke1 {M:Model} {A:Around} {E:Value→Shared→Prop} {s:Shared} {scope:Scope} {globals:Addr} {cl:List (Str×Addr)} {qual:Str} {env:Env} {Q:Env→Shared→Prop}
 (h:Q {scope:=scope,locals:=s.heap.objs.size,globals:=globals,cells:=cellsFrom (s.heap.objs.size + 1) scope.names cl,qual:=qual,func:=none,code:=env.code,frame:=env.frame,builtins:=env.builtins}
   {s with heap:=pushCells (s.heap.push {cls:= .type "dict",data:= .dict #[]}) scope.names}):
 wpAny M A (newFunctionEnv scope globals cl [] qual none .none (some env)) Q E s:=by
 simp only [newFunctionEnv,Option.isSome_some,if_true]
 refine wpAny_bind (wpAny_alloc ?_)
 refine wpAny_bind (wpAny_layCells _ (fun name kind cells=>by cases hkc:kind == NameKind.cell <;> simp [hkc]) _ _ _ _ ?_)
 rw [show ({s with heap:=s.heap.push {cls:= .type "dict",data:= .dict #[]}}:Shared).heap.objs.size=s.heap.objs.size + 1 from Heap.size_push ..]
 refine wpAny_bind ?_
 rw [List.forIn_nil]
 exact wpAny_pure (wpAny_pure h)
inductive Caps (X:Cx) (scope:Scope):List Str→List (Option Nat)→Prop where
 | nil:Caps X scope [] []
 | own {x:Str} {N:List Str} {js:List (Option Nat)} (r:Caps X scope N js):Caps X scope (x::N) (none::js)
 | cap {x:Str} {N:List Str} {js:List (Option Nat)} (j:Nat) (h1:X.N[j]?=some x) (h2:scope.names.lookup x=some .free) (h3:(scope.names.all fun p=>p.1 != x || p.2 != NameKind.cell)=true)
    (r:Caps X scope N js):Caps X scope (x::N) (some j::js)
noncomputable def kdt (σ:St) (js:List (Option Nat)):St:=js.map fun (o:Option Nat)=>o.bind fun (j:Nat)=>(σ[j]?).join
theorem Caps.len {X:Cx} {scope:Scope}: ∀{N:List Str} {js:List (Option Nat)},Caps X scope N js→js.length=N.length
 | _,_,.nil=>rfl
 | _,_,.own r=>congrArg (· + 1) r.len
 | _,_,.cap _ _ _ _ r=>congrArg (· + 1) r.len
theorem Caps.get {X:Cx} {scope:Scope} {σ:St}: ∀{N:List Str} {js:List (Option Nat)} {i:Nat} {x:Str} {v:V},Caps X scope N js→N[i]?=some x→(kdt σ js)[i]?=some (some v)→
 ∃j:Nat,X.N[j]?=some x∧σ[j]?=some (some v)∧scope.names.lookup x=some .free∧(scope.names.all fun p=>p.1 != x || p.2 != NameKind.cell)=true
 | _,_,_,_,_,.nil,h,_=>by simp at h
 | _,_,0,_,_,.own r,_,h2=>by simp [kdt] at h2
 | _,_,i + 1,_,_,.own r,h1,h2=>Caps.get (i:=i) r (by simpa using h1) (by simpa [kdt] using h2)
 | _,_,0,x,v,.cap j a b c r,h1,h2=>by
   simp only [List.getElem?_cons_zero,Option.some.injEq] at h1
   subst h1
   refine ⟨j,a,?_,b,c⟩
   simp only [kdt,List.map_cons,List.getElem?_cons_zero,Option.some.injEq,Option.bind_some] at h2
   cases e:σ[j]? with
   | none=>rw [e] at h2;cases h2
   | some z=>rw [e] at h2;rw [show z=some v from h2]
 | _,_,i + 1,_,_,.cap _ _ _ _ r,h1,h2=>Caps.get (i:=i) r (by simpa using h1) (by simpa [kdt] using h2)
noncomputable def kba (X:Cx) (scope:Scope) (N':List Str) (s:Shared) (H:Hp) (fp:List Addr):Cx where
 prog:=X.prog
 w:=X.w
 K:=X.K
 mg:=X.mg
 base:=X.base
 A:=X.A
 N:=N'
 s₀:=s
 H₀:=H
 env:={scope:=relabel scope X.env,locals:=s.heap.objs.size,globals:=X.env.globals,cells:=cellsFrom (s.heap.objs.size + 1) scope.names (kbp X.env scope.names []),qual:=X.env.qual,func:=none,code:=X.env.code,frame:=X.env.frame,builtins:=X.env.builtins}
 outer:=X.stack
 stack:=X.stack
 ex:=fp
 fn:=fun x=>decide (scope.names.lookup x=some .cell)
 calm:=X.calm
 pn:=[]
 xe:=fun q_ q_=>False
theorem kcg {scope:Scope} {env:Env} {x:Str} {k':NameKind}: ∀{names:List (Str×NameKind)},
 (names.map fun (p:Str×NameKind)=>if (p.2 == NameKind.free && env.scope.kind == .function && env.kindOf p.1 == some .cell)=true then (p.1,NameKind.cell) else (p.1,p.2)).lookup x=some k'→
 ∃k,names.lookup x=some k∧(k'=k∨(k= .free∧k'= .cell))
 | [],h=>by cases h
 | (n,k)::r,h=>by
   rw [List.map_cons,List.lookup_cons] at h
   rw [List.lookup_cons]
   by_cases hc:(k == NameKind.free && env.scope.kind == .function && env.kindOf n == some .cell)=true
   · rw [if_pos hc] at h
     cases hb:x == n with
     | true=>
       rw [hb] at h
       rw [Bool.and_eq_true,Bool.and_eq_true] at hc
       exact ⟨k,rfl,.inr ⟨beq_iff_eq.mp hc.1.1,(Option.some.inj h).symm⟩⟩
     | false=>
       rw [hb] at h
       exact kcg (scope:=scope) h
   · rw [if_neg hc] at h
     cases hb:x == n with
     | true=>
       rw [hb] at h
       exact ⟨k,rfl,.inl (Option.some.inj h).symm⟩
     | false=>
       rw [hb] at h
       exact kcg (scope:=scope) h
theorem kdv {env:Env} {x:Str}: ∀{names:List (Str×NameKind)},names.lookup x=some .free→
 (names.map fun (p:Str×NameKind)=>if (p.2 == NameKind.free && env.scope.kind == .function && env.kindOf p.1 == some .cell)=true then (p.1,NameKind.cell) else (p.1,p.2)).lookup x=some .cell∨
 (names.map fun (p:Str×NameKind)=>if (p.2 == NameKind.free && env.scope.kind == .function && env.kindOf p.1 == some .cell)=true then (p.1,NameKind.cell) else (p.1,p.2)).lookup x=some .free
 | [],h=>by cases h
 | (n,k)::r,h=>by
   rw [List.lookup_cons] at h
   rw [List.map_cons,List.lookup_cons]
   by_cases hc:(k == NameKind.free && env.scope.kind == .function && env.kindOf n == some .cell)=true
   · rw [if_pos hc]
     cases hb:x == n with
     | true=>exact .inl rfl
     | false=>
       rw [hb] at h
       exact kdv h
   · rw [if_neg hc]
     cases hb:x == n with
     | true=>
       rw [hb] at h
       exact .inr h
     | false=>
       rw [hb] at h
       exact kdv h
section
variable {X:Cx} {scope:Scope} {N':List Str} {js:List (Option Nat)} {pins:List (Addr×Obj)} {σ:St} {H:Hp} {s:Shared} {fp:List Addr}
theorem kh5 (caps:Caps X scope N' js) (hkind:scope.kind= .function) (hfree: ∀x∈scope.names,x.2= .free→X.env.kindOf x.1=some .cell∨X.env.kindOf x.1=some .free)
 (I:Inv X pins σ H s) (hfp: ∀b∈fp,klp X pins H b) (hfo: ∀b∈fp,b < s.heap.objs.size):
 Inv (kba X scope N' s H fp) [] (kdt σ js) H {s with heap:=pushCells (s.heap.push {cls:= .type "dict",data:= .dict #[]}) scope.names}:=by
 have keeps: ∀b u,s.heap.get? b=some u→(pushCells (s.heap.push {cls:= .type "dict",data:= .dict #[]}) scope.names).get? b=some u:=fun b u e=>pushCells_keeps _ _ b u (Heap.get?_push_of_some _ e)
 have hlk: ∀x,scope.names.lookup x=some .free→∃c,X.env.cells.lookup x=some c:=fun x e=>I.ok.has x (hfree (x,.free) (PySem.mem_of_lookup e) rfl)
 have clo: ∀p∈kbp X.env scope.names [],X.env.cells.lookup p.1=some p.2:=fun p hp=>by
  rcases kem hp with z | ⟨z1,z2⟩
  · cases z
  · obtain ⟨c,e⟩:=I.ok.has p.1 (hfree (p.1,.free) z1 rfl)
    rw [z2,e]
    rfl
 have cls: ∀x c,(kba X scope N' s H fp).env.cells.lookup x=some c→X.env.cells.lookup x=some c∨s.heap.objs.size + 1≤c:=fun x c e=>by
  have m:(x,c)∈cellsFrom (s.heap.objs.size + 1) scope.names (kbp X.env scope.names []):=PySem.mem_of_lookup e
  rcases kcu m with z | z
  · exact .inl (clo _ z)
  · exact .inr z
 have hsz:(s.heap.push {cls:= .type "dict",data:= .dict #[]}).objs.size=s.heap.objs.size + 1:=Heap.size_push ..
 have oldlt: ∀x c,X.env.cells.lookup x=some c→c < s.heap.objs.size:=fun x c e=>by
  obtain ⟨v,z⟩:=I.cell x c e
  exact z.lt
 have cellsIs: ∀p∈cellsFrom (s.heap.objs.size + 1) scope.names (kbp X.env scope.names []),∃v,(pushCells (s.heap.push {cls:= .type "dict",data:= .dict #[]}) scope.names).IsCell p.2 v:=by
  rw [← hsz]
  refine kb3 fun p hp=> ?_
  obtain ⟨v,z⟩:=I.cell _ _ (clo p hp)
  exact ⟨v,z.keeps fun b o e=>Heap.get?_push_of_some _ e⟩
 have hinj:InjL (cellsFrom (s.heap.objs.size + 1) scope.names (kbp X.env scope.names [])):=by
  refine kct (fun p hp=>Nat.lt_succ_of_lt (oldlt _ _ (clo p hp))) fun p hp q hq e=> ?_
  have e1:=clo p hp
  have e2:=clo q hq
  rw [← e] at e2
  exact I.ok.inj _ _ _ e1 e2
 refine ⟨⟨I.ok.mod,hkind,I.ok.glob,I.ok.blt,Nat.le_refl _,fun x y c h1 h2=> ?_,fun x hx=> ?_,fun x c hf h=> ?_,I.ok.hd,I.ok.frames,.inl rfl,fun b hb=> ?_,I.bs,Nat.le_trans I.ok.bsz I.sz,fun b o e hb=> ?_,fun b hb hf=> ?_,I.stack,I.stkFree⟩,
  rfl,I.bare,Un.kept keeps,⟨fun q_=>none,(Heap.Ns.new s.heap (.type "dict")).keeps (pushCells_keeps _ _),fun i x v h1 h2 h3=> ?_⟩,fun x c h=> ?_,I.hok.fresh (Nat.le_refl _),fun x c h=> ?_,fun p hp=>absurd (show p∈([]:List (Addr×Obj)) from hp) (by simp),I.hok.kept keeps,?_⟩
 · exact hinj (x,c) (PySem.mem_of_lookup h1) (y,c) (PySem.mem_of_lookup h2) rfl
 · have hx:(relabel scope X.env).names.lookup x=some .cell∨(relabel scope X.env).names.lookup x=some .free:=hx
   have key:scope.names.lookup x=some .cell∨scope.names.lookup x=some .free:=by
    rcases hx with hx | hx
    · obtain ⟨k,e,z⟩:=kcg (scope:=scope) (env:=X.env) hx
      rcases z with z | ⟨z,_⟩
      · exact .inl (by rw [e,z])
      · exact .inr (by rw [e,z])
    · obtain ⟨k,e,z⟩:=kcg (scope:=scope) (env:=X.env) hx
      rcases z with z | ⟨_,z⟩
      · exact .inr (by rw [e,z])
      · cases z
   have:((cellsFrom (s.heap.objs.size + 1) scope.names (kbp X.env scope.names [])).lookup x).isSome=true:=by
    rcases key with e | e
    · exact PySem.W.cellsFrom_some _ _ _ (.inl e)
    · exact PySem.W.cellsFrom_some _ _ _ (.inr (by rw [kcs e];rfl))
   exact Option.isSome_iff_exists.mp this
 · have hf:scope.names.lookup x=some .cell:=of_decide_eq_true hf
   exact Nat.le_of_succ_le (kcv (lo:=s.heap.objs.size + 1) (Nat.le_refl _) (.inl hf) h)
 · refine ⟨Nat.ne_of_lt (hfo b hb),fun x c h z=> ?_⟩
   rcases cls x c h with e | e
   · exact (hfp b hb).2.2.2.2.1 x c e z
   · rw [z] at e
     exact absurd (hfo b hb) (Nat.not_lt.mpr (Nat.le_of_succ_le e))
 · rcases (hfp b hb).2.2.2.1 with z | z
   · exact I.ok.noex b o e z
   · exact absurd (Nat.lt_of_lt_of_le (Heap.lt_size e) I.ok.bsz) (Nat.not_lt.mpr z)
 · rcases List.mem_cons.mp (I.stkSub b hf) with z | z
   · exact (hfp b hb).2.1 z
   · exact (hfp b hb).2.2.1 z
 · obtain ⟨j,a1,a2,a3,a4⟩:=caps.get h1 h2
   have kx:=hfree (x,.free) (PySem.mem_of_lookup a3) rfl
   obtain ⟨m,hn,hl⟩:=I.loc
   have vis:Vis X.env.scope x:=by
    rcases kx with k | k
    · exact .inr (.inl k)
    · exact .inr (.inr k)
   obtain ⟨u,r,l⟩:=hl j x v a1 a2 vis
   refine ⟨u,r,.inr ⟨kdv (env:=X.env) a3,?_⟩⟩
   rcases l with ⟨k,_⟩ | ⟨_,c,e,z⟩
   · rcases kx with k' | k'
     · rw [k] at k';cases k'
     · rw [k] at k';cases k'
   · refine ⟨c,?_,z.keeps keeps⟩
     show (cellsFrom (s.heap.objs.size + 1) scope.names (kbp X.env scope.names [])).lookup x=some c
     rw [kcb a4,kcs a3,e]
     rfl
 · exact cellsIs (x,c) (PySem.mem_of_lookup h)
 · rcases cls x c h with e | e
   · exact I.freeC x c e
   · exact I.hok.fresh (by lia)
 · show (kdt σ js).length=N'.length
   unfold kdt
   rw [List.length_map,caps.len]
theorem Inv.unblock {pins':List (Addr×Obj)} {σ':St} {H':Hp} {s':Shared} {h':Heap} (I:Inv X pins σ H s) (hfp: ∀b∈fp,klp X pins H b) (I':Inv (kba X scope N' s H fp) pins' σ' H' s') (hs:Heap.SameBut s.heap.objs.size s'.heap h'):
 Inv X pins σ H' {s' with heap:=h'}:=by
 have ne: ∀b o,s.heap.get? b=some o→b≠s.heap.objs.size:=fun b o e=>Nat.ne_of_lt (Heap.lt_size e)
 have u:Un (frs X.stack) fp H H' s.heap h':=by
  refine ⟨fun b o e n hb hx=>(hs.2 b (ne b o e)).trans (I'.base.keep b o e n hb hx),fun b o e n hb hx=> ?_,I'.base.free,fun b o e hx=> ?_,I'.base.tups,I'.base.frzs,I'.base.tbls⟩
  · obtain ⟨sl,q⟩:=I'.base.slot b o e n hb hx
    exact ⟨sl,(hs.2 b (ne b o e)).trans q⟩
  · obtain ⟨o',q⟩:=I'.base.there b o e hx
    exact ⟨o',(hs.2 b (ne b o e)).trans q⟩
 have hf:H' s.heap.objs.size=none:=I'.free
 have hok:HOk X.prog X.w H' h':=fun a o e=>(I'.hok a o e).stay (fun c v hc q=>(hs.2 c (by
  rintro rfl
  rcases hc with z | z
  · rw [← z,hf] at e;cases e
  · rw [hf] at z;cases z)).trans q) (fun q_ q=>q) fun q_ q_ q=>q
 refine I.call' (s':={s' with heap:=h'}) (ch:=fp) I'.os u hok I'.bare fun b hb=> ?_
 obtain ⟨f0,f1,f2,f3,f4,f5⟩:=hfp b hb
 exact ⟨f3,f1,f4,f5⟩
noncomputable def PIf (X:Cx) (ifs:List Expr) (t:TT):Prop:=
 ∀(pins:List (Addr×Obj)) (s:Shared) (σ:St) (H:Hp) (Q:Bool→Hp→Prop),Inv X pins σ H s→t σ H Q→
  wpAny (model X.prog X.w) X.A (forIn ifs true fun c r=>if r=true then do let ok ← isTrue c X.env (eval c X.env);pure (ForInStep.yield ok) else pure (ForInStep.yield r)) (TP X pins σ Q) X.xe s
theorem ki0:PIf X [] (fun q_ H Q=>Q true H):=fun pins s σ H Q I h=>by
 rw [List.forIn_nil]
 exact wpAny_pure ⟨H,I,h⟩
theorem km2 {c:Expr} {tc:TT} (hc:PT X c tc):PIf X [c] tc:=fun pins s σ H Q I h=>by
 rw [List.forIn_cons,if_pos rfl]
 refine wpAny_bind (wpAny_bind (thn (hc pins s σ H Q I h) fun b s1 q=>wpAny_pure ?_))
 show wpAny _ _ (forIn ([]:List Expr) b _) _ _ s1
 rw [List.forIn_nil]
 exact wpAny_pure q
noncomputable def kj0 (J:It) (g:TG) (tc:TT) (te:TE) (Q:VK) (D:Addr) (W:Nat→Nat→St→List V→Hp→Prop):Prop:=
 ∀(i m:Nat) (σ1:St) (acc:List V) (H:Hp),W i m σ1 acc H→(J.stop i H∧Q (.ref D) H)∨
  (J.go i H∧∃N:St→List V→Hp→Prop,(∀ σ' acc' H',N σ' acc' H'→∃m',m' < m∧W (i + 1) m' σ' acc' H')∧
    ∀x H',J.yld i H x H'→g x σ1 H' fun σ2 H2=>tc σ2 H2 fun b H3=>if b=true then te σ2 H3 fun y H4=>H4 D=some (.lst acc)∧acc.length < sizeLine∧N σ2 (acc++[y]) (upd H4 D (.lst (acc++[y])))
     else N σ2 acc H3)
noncomputable def tLC (js:List (Option Nat)) (wi:TI) (g:TG) (tc:TT) (te:TE):TE:=fun σ H Q=>wi σ H fun J H1=>∀D,H1 D=none→∃W:Nat→Nat→St→List V→Hp→Prop,(∃ m,W 0 m (kdt σ js) [] (upd H1 D (.lst [])))∧kj0 J g tc te Q D W
theorem kh6 {elt tg iter:Expr} {ifs:List Expr} {pos:Pos} {g:TG} {tc:TT} {te:TE} {Q:VK} {R:Result→Shared→Prop} {it:Addr} {J:It} {tn:Nat→Heap→Prop} {D:Addr} {W:Nat→Nat→St→List V→Hp→Prop} {m0:Nat} {σ0:St} {s4:Shared} {H4:Hp}
 (hcalm:X.calm=true) (T:Turn X.prog X.w X.K tg J fp it tn)
 (hg:PG (kba X scope N' s H fp) tg g) (hc:PIf (kba X scope N' s H fp) ifs tc) (he:PE (kba X scope N' s H fp) elt te)
 (turn:kj0 J g tc te Q D W)
 (I4:Inv (kba X scope N' s H fp) [] σ0 H4 s4) (st4:tn 0 s4.heap) (fr4: ∀b∈fp,H4 b=none) (w4:W 0 m0 σ0 [] H4)
 (fin: ∀σ' H' s',Inv (kba X scope N' s H fp) [] σ' H' s'→Q (.ref D) H'→R (.ok .next) s'):
 codeAny (model X.prog X.w) X.A (.compStart (.ListComp elt [⟨tg,iter,ifs,0⟩] scope pos) 0 (.ref it) (.ref D) (kba X scope N' s H fp).env) R s4:=by
 have loop:codeAny (model X.prog X.w) X.A (.compLoop (.ListComp elt [⟨tg,iter,ifs,0⟩] scope pos) 0 (.ref it) (.ref D) (kba X scope N' s H fp).env) R s4:=by
  have stat: ∀{H':Hp},(∀ b∈fp,H' b=none)→∀b∈fp,klp (kba X scope N' s H fp) [] H' b:=fun hn b hb=>
   ⟨hn b hb,(I4.ok.exf b hb).1,I4.ok.exfs b hb,.inl hb,(I4.ok.exf b hb).2,fun p hp=>absurd (show p∈([]:List (Addr×Obj)) from hp) (by simp)⟩
  refine codeAny_loop rfl (fun n s'=>∃i σ' acc H',Inv (kba X scope N' s H fp) [] σ' H' s'∧tn i s'.heap∧(∀ b∈fp,H' b=none)∧W i n σ' acc H') ?_ m0 ⟨0,σ0,[],H4,I4,st4,fr4,w4⟩
  rintro n s5 ⟨i,σ5,acc,H5,I5,st5,fr5,w5⟩
  show wpAny _ X.A ((compTurn (.ListComp elt [⟨tg,iter,ifs,0⟩] scope pos) 0 (.ref it) (.ref D) (kba X scope N' s H fp).env).onRaise (fun x=>do noteFrame x (kba X scope N' s H fp).env;theTreesLotGoes x)) _ _ s5
  refine wpAny_noted ?_
  rw [compTurn_list]
  have ex: ∀{E':Value→Shared→Prop} (e:Value) (s':Shared),(kba X scope N' s H fp).xe e s'→E' e s':=fun q_ q_ z=>False.elim z
  rcases turn i n σ5 acc H5 w5 with ⟨stop,q⟩ | ⟨go,N,hN,step⟩
  · refine wpAny_bind (wpAny_standAt (wpAny_bind (thn (T.done (kba X scope N' s H fp) rfl rfl rfl hcalm i [] s5 σ5 H5 _ I5 (stat fr5) st5 stop) fun r s6 ⟨hr,I6⟩=> ?_)))
    subst hr
    exact wpAny_pure (fin σ5 H5 s6 I6 q)
  · refine wpAny_bind (wpAny_standAt (wpAny_bind (thn (T.item (kba X scope N' s H fp) rfl rfl rfl hcalm i [] s5 σ5 H5 _ I5 (stat fr5) st5 go) fun r s6 ⟨u,hr,h6⟩=> ?_)))
    subst hr
    refine wpAny_bind (thn h6 fun _ s7 ⟨x,H7,I7,r7,y7,st7,fr7⟩=> ?_)
    have I7':=I7.pinned (stat fr7) (T.obj _ _ st7)
    refine wpAny_bind (wpAny_mono (hg _ s7 σ5 H7 x u _ I7' r7 (step x H7 y7)) (fun _ s8 ⟨σ8,H8,I8,q8⟩=> ?_) ex)
    refine wpAny_bind (wpAny_mono (hc _ s8 σ8 H8 _ I8 q8) (fun ok s9 ⟨H9,I9,q9⟩=> ?_) ex)
    have again: ∀{s':Shared} {σ':St} {H':Hp} {acc':List V},Inv (kba X scope N' s H fp) ([]++khu fp s7.heap) σ' H' s'→N σ' acc' H'→
     ∃m,m < n∧∃i σ' acc H',Inv (kba X scope N' s H fp) [] σ' H' s'∧tn i s'.heap∧(∀ b∈fp,H' b=none)∧W i m σ' acc H':=fun {s' σ' H' acc'} J' n'=>by
     obtain ⟨m',hm,w'⟩:=hN σ' acc' H' n'
     refine ⟨m',hm,i + 1,σ',acc',H',J'.unpinned,T.keep _ _ _ st7 fun b hb o e=>(J'.pin (b,o) (List.mem_append_right _ (List.mem_append_right _ (kdc hb e)))).1,fun b hb=> ?_,w'⟩
     obtain ⟨o,e,d⟩:=T.obj _ _ st7 b hb
     exact (J'.pin (b,o) (List.mem_append_right _ (List.mem_append_right _ (kdc hb e)))).2.1
    cases ok with
    | false=>
      rw [if_neg Bool.false_ne_true] at q9
      exact wpAny_pure ⟨rfl,again I9 q9⟩
    | true=>
      rw [if_pos rfl] at q9
      refine wpAny_bind (wpAny_bind (wpAny_mono (he _ s9 σ8 H9 _ I9 q9) (fun y s10 ⟨yv,H10,I10,r10,hD,hz,q10⟩=> ?_) ex))
      refine wpAny_bind (wpAny_mono (kcl (X:=kba X scope N' s H fp) _ s10 σ8 H10 (.ref D) [yv] (.ref D) [y] (fun q_ H11=>N σ8 (acc++[yv]) H11) I10 rfl (.cons r10 .nil) ⟨D,acc,yv,rfl,rfl,hD,hz,q10⟩) (fun _ s11 ⟨_,H11,I11,_,q11⟩=> ?_) ex)
      exact wpAny_pure (wpAny_pure ⟨rfl,again I11 q11⟩)
 exact codeAny_compStart_list loop (T.self _ 0 _ _ _ st4 loop)
theorem km3 {scope:Scope} {env:Env} (h:(scope.names.all fun p=>p.2 != NameKind.free || (env.scope.names.lookup p.1 == some .cell || env.scope.names.lookup p.1 == some .free))=true):
 ∀x∈scope.names,x.2= .free→env.kindOf x.1=some .cell∨env.kindOf x.1=some .free:=fun x hx e=>by
 have q:=List.all_eq_true.mp h x hx
 rw [e] at q
 have q:(env.scope.names.lookup x.1 == some NameKind.cell || env.scope.names.lookup x.1 == some NameKind.free)=true:=q
 rw [Bool.or_eq_true] at q
 rcases q with q | q
 · exact .inl (beq_iff_eq.mp q)
 · exact .inr (beq_iff_eq.mp q)
theorem kj1 {scope:Scope} (h:(scope.names.all fun p=>p.2 != NameKind.local || scope.names.lookup p.1 == some .local)=true): ∀x∈scope.names,x.2= .local→scope.names.lookup x.1=some .local:=fun x hx e=>by
 have q:=List.all_eq_true.mp h x hx
 rw [e] at q
 have q:(scope.names.lookup x.1 == some NameKind.local)=true:=q
 exact beq_iff_eq.mp q
variable {elt tg iter:Expr} {ifs:List Expr} {pos:Pos} {wi:TI} {g:TG} {tc:TT} {te:TE}
theorem kfa (hcalm:X.calm=true) (caps:Caps X scope N' js) (hi:PI X tg iter wi)
 (hg: ∀s H fp,PG (kba X scope N' s H fp) tg g) (hc: ∀s H fp,PIf (kba X scope N' s H fp) ifs tc) (he: ∀s H fp,PE (kba X scope N' s H fp) elt te)
 (hfb:autoParam ((scope.names.all fun p=>p.2 != NameKind.free || (X.env.scope.names.lookup p.1 == some .cell || X.env.scope.names.lookup p.1 == some .free))=true) u4._auto_1)
 (hnb:autoParam ((scope.names.all fun p=>p.2 != NameKind.local || scope.names.lookup p.1 == some .local)=true) u4._auto_1)
 (hkind:autoParam (scope.kind= .function) u4._auto_1)
 (hs:autoParam (∀ x,foldedSetIterable iter X.env x=pure x) u3._auto_1):PE X (.ListComp elt [⟨tg,iter,ifs,0⟩] scope pos) (tLC js wi g tc te):=by
 intro pins s σ H Q I h
 have hfree:=km3 hfb
 have hnames:=kj1 hnb
 rw [eval_ListComp]
 refine wpAny_comprehension_free (use:=none) (cl:=kbp X.env scope.names []) rfl hs (kd8 fun x hx e=>I.ok.has x.1 (hfree x hx e)) hkind hnames ?_
 refine thn (hi pins s σ H _ I h) fun v s1 h1=>thn h1 fun itv s2 h2=> ?_
 obtain ⟨it,fp,tn,J,H2,e,I2,T,st2,f2,q⟩:=h2
 subst e
 refine wpAny_newObj_type ?_
 have hD:H2 s2.heap.objs.size=none:=I2.hok.fresh (Nat.le_refl _)
 have I3:Inv X pins σ (upd H2 s2.heap.objs.size (.lst [])) {s2 with heap:=s2.heap.push {cls:= .type "list",data:= .seq ([]:List Value).toArray}}:=I2.lnew (t':=s2.toks) .nil (Nat.zero_le _)
 obtain ⟨W,⟨m0,w0⟩,turn⟩:=q s2.heap.objs.size hD
 have fo: ∀b∈fp,b < s2.heap.objs.size:=fun b hb=>by
  obtain ⟨o,e,_⟩:=T.obj _ _ st2 b hb
  exact Heap.lt_size e
 have f3: ∀b∈fp,klp X pins (upd H2 s2.heap.objs.size (.lst [])) b:=fun b hb=>⟨by rw [kah (Nat.ne_of_lt (fo b hb))];exact (f2 b hb).1,(f2 b hb).2⟩
 have fo3: ∀b∈fp,b < (s2.heap.push {cls:= .type "list",data:= .seq ([]:List Value).toArray}).objs.size:=fun b hb=>by
  rw [Heap.size_push]
  exact Nat.lt_succ_of_lt (fo b hb)
 refine ke1 ?_
 have I4:=kh5 (fp:=fp) caps hkind hfree I3 f3 fo3
 refine kh6 (fp:=fp) hcalm T (hg _ _ _) (hc _ _ _) (he _ _ _) turn I4 ?_ (fun b hb=>(f3 b hb).1) w0 ?_
 · refine T.keep _ _ _ st2 fun b hb o e=> ?_
   exact pushCells_keeps _ _ b o (Heap.get?_push_of_some _ (Heap.get?_push_of_some _ e))
 · intro σ' H' s' I' q'
   obtain ⟨m,hn,_⟩:=I'.loc
   exact ⟨m,hn,fun h' hs'=>⟨.ref s2.heap.objs.size,H',Inv.unblock I3 f3 I' hs',rfl,q'⟩⟩
theorem kqq {i:Nat} {x:Str} {pos' spos:Pos} (hcalm:X.calm=true) (caps:Caps X scope N' js) (hi:PI X tg iter wi)
 (hg: ∀s H fp,PG (kba X scope N' s H fp) tg g) (hc: ∀s H fp,PIf (kba X scope N' s H fp) ifs tc) (he: ∀s H fp,PE (kba X scope N' s H fp) elt te)
 (hN:X.N.Nodup) (hix:X.N[i]?=some x) (hx:Loc X.env.scope x)
 (hfb:autoParam ((scope.names.all fun p=>p.2 != NameKind.free || (X.env.scope.names.lookup p.1 == some .cell || X.env.scope.names.lookup p.1 == some .free))=true) u4._auto_1)
 (hnb:autoParam ((scope.names.all fun p=>p.2 != NameKind.local || scope.names.lookup p.1 == some .local)=true) u4._auto_1)
 (hsw:autoParam (swapsWith (.ListComp elt [⟨tg,iter,ifs,0⟩] scope pos) (some (.Name x pos')) spos.line X.env=pure true) u4._auto_1)
 (hkind:autoParam (scope.kind= .function) u4._auto_1) (hs:autoParam (∀ x,foldedSetIterable iter X.env x=pure x) u3._auto_1)
 (hf:autoParam (X.fn x=true∨X.env.scope.names.lookup x=some .local) u1._auto_1):
 PS X (.Assign [.Name x pos'] (.ListComp elt [⟨tg,iter,ifs,0⟩] scope pos) spos) (kxn (tLC js wi g tc te) (kmk i)):=by
 intro pins s σ H E I h
 have hfree:=km3 hfb
 have hnames:=kj1 hnb
 rw [exec_Assign_Name_used _ _ _ _ hsw]
 refine wpAny_bind (wpAny_standAt (wpAny_bind ?_))
 show wpAny _ X.A (do let _ ← comprehension (.ListComp elt [⟨tg,iter,ifs,0⟩] scope pos) scope X.env _ (newList []) false (eval iter X.env) (some (assign (.Name x pos') X.env))) _ _ s
 refine wpAny_bind (wpAny_mono (wpAny_comprehension_free (use:=some (assign (.Name x pos') X.env)) (Q:=fun q_ s'=>SP X pins E .next s') (cl:=kbp X.env scope.names []) rfl hs (kd8 fun x hx e=>I.ok.has x.1 (hfree x hx e)) hkind hnames ?_)
  (fun q_ s' hq=>wpAny_pure (wpAny_pure hq)) fun q_ q_ e=>e)
 have h:tLC js wi g tc te σ H (fun x H1=>E.nx (σ.set i (some x)) H1):=h
 refine thn (hi pins s σ H _ I h) fun v s1 h1=>thn h1 fun itv s2 h2=> ?_
 obtain ⟨it,fp,tn,J,H2,e,I2,T,st2,f2,q⟩:=h2
 subst e
 refine wpAny_newObj_type ?_
 have hD:H2 s2.heap.objs.size=none:=I2.hok.fresh (Nat.le_refl _)
 have I3:Inv X pins σ (upd H2 s2.heap.objs.size (.lst [])) {s2 with heap:=s2.heap.push {cls:= .type "list",data:= .seq ([]:List Value).toArray}}:=I2.lnew (t':=s2.toks) .nil (Nat.zero_le _)
 obtain ⟨W,⟨m0,w0⟩,turn⟩:=q s2.heap.objs.size hD
 have fo: ∀b∈fp,b < s2.heap.objs.size:=fun b hb=>by
  obtain ⟨o,e,_⟩:=T.obj _ _ st2 b hb
  exact Heap.lt_size e
 have f3: ∀b∈fp,klp X pins (upd H2 s2.heap.objs.size (.lst [])) b:=fun b hb=>⟨by rw [kah (Nat.ne_of_lt (fo b hb))];exact (f2 b hb).1,(f2 b hb).2⟩
 have fo3: ∀b∈fp,b < (s2.heap.push {cls:= .type "list",data:= .seq ([]:List Value).toArray}).objs.size:=fun b hb=>by
  rw [Heap.size_push]
  exact Nat.lt_succ_of_lt (fo b hb)
 refine ke1 ?_
 have I4:=kh5 (fp:=fp) caps hkind hfree I3 f3 fo3
 refine kh6 (fp:=fp) hcalm T (hg _ _ _) (hc _ _ _) (he _ _ _) turn I4 ?_ (fun b hb=>(f3 b hb).1) w0 ?_
 · refine T.keep _ _ _ st2 fun b hb o e=> ?_
   exact pushCells_keeps _ _ b o (Heap.get?_push_of_some _ (Heap.get?_push_of_some _ e))
 · intro σ' H' s' I' q'
   have I5:Inv X pins σ H' s':=Inv.unblock I3 f3 I' (Heap.SameBut.refl ..)
   obtain ⟨m,hn,_⟩:=I'.loc
   show wpAny _ X.A (assign (.Name x pos') X.env (.ref s2.heap.objs.size)) _ _ s'
   refine wpAny_assign_Name (khs I5 hN hix hx (v:= .ref s2.heap.objs.size) rfl (fun s6 I6 ⟨a,hsa,ha⟩=> ?_) hf)
   have lt: ∀b,b < s2.heap.objs.size + 1→b≠(s2.heap.push {cls:= .type "list",data:= .seq ([]:List Value).toArray}).objs.size:=fun b hb=>by
    rw [Heap.size_push]
    exact Nat.ne_of_lt hb
   have hLs:X.env.locals < s2.heap.objs.size:=I2.lt
   have hcs: ∀y c,X.env.cells.lookup y=some c→c < s2.heap.objs.size:=fun y c e=>by
    obtain ⟨v,z⟩:=I2.cell y c e
    exact z.lt
   have hne:(s2.heap.push {cls:= .type "list",data:= .seq ([]:List Value).toArray}).objs.size≠a:=by
    rcases ha with z | z
    · rw [z];exact (lt _ (Nat.lt_succ_of_lt hLs)).symm
    · exact (lt _ (Nat.lt_succ_of_lt (hcs _ _ z))).symm
   refine ⟨m,hn.sameBut hsa hne,fun h' hs'=>⟨_,H',?_,q'⟩⟩
   refine I6.turned (t':=s6.toks) (it:=(s2.heap.push {cls:= .type "list",data:= .seq ([]:List Value).toArray}).objs.size) (fun b o hb e=>(hs'.2 b hb).trans e) I'.free ?_ (.inr ?_) (fun y c e=> ?_) (fun p hp z=> ?_)
   · exact (lt _ (Nat.lt_succ_of_lt hLs)).symm
   · exact I3.sz
   · exact lt _ (Nat.lt_succ_of_lt (hcs y c e))
   · exact absurd (Heap.lt_size (I3.pin p hp).1) (by rw [z];exact Nat.lt_irrefl _)
end
theorem kqr {lo:Int} {n:Nat} {g:TG} {tc:TT} {te:TE} {Q:VK} {D:Addr} {σ:St} {H:Hp} (Pv:Nat→St→List V→Hp→Prop) (h0:Pv 0 σ [] H)
 (hs: ∀i σ acc H,i < n→Pv i σ acc H→g (.int (lo + i)) σ H fun σ2 H2=>tc σ2 H2 fun b H3=>if b=true then te σ2 H3 fun y H4=>H4 D=some (.lst acc)∧acc.length < sizeLine∧Pv (i + 1) σ2 (acc++[y]) (upd H4 D (.lst (acc++[y]))) else Pv (i + 1) σ2 acc H3)
 (hd: ∀σ acc H,Pv n σ acc H→Q (.ref D) H):
 ∃W:Nat→Nat→St→List V→Hp→Prop,(∃ m,W 0 m σ [] H)∧kj0 (Itr lo n) g tc te Q D W:=by
 refine ⟨fun i m σ acc H=>m=n - i∧i≤n∧Pv i σ acc H,⟨n,by simp,Nat.zero_le _,h0⟩,?_⟩
 rintro i m σ acc H ⟨rfl,hi,p⟩
 by_cases hlt:i < n
 · refine .inr ⟨hlt,Pv (i + 1),fun σ' acc' H' p'=>⟨n - (i + 1),by lia,rfl,hlt,p'⟩,fun x H' y=> ?_⟩
   obtain ⟨e,y⟩:=y
   subst e y
   exact hs i σ acc _ hlt p
 · have e:i=n:=by lia
   subst e
   exact .inl ⟨Nat.le_refl _,hd σ acc H p⟩
end L2
namespace L2
open PySem PySem.Spec PyProof.Rows
noncomputable def ke7 (ns:List Int):PyData:= .dict (ns.map fun n=>(.int n,.none))
noncomputable def anyD:PyData:= .dict [(.bool true,.none)]
noncomputable def excD (C:Addr):PyData:= .dict [(.bool false,.int (C:Int))]
noncomputable def xPhi (a C:Addr):Heap→Prop:=fun h=>∃o,h.get? a=some o∧o.cls= .ref C
noncomputable def anyK:List (PyData×PyData)→Bool
 | [(.bool true,_)]=>true
 | _=>false
theorem kj2: ∀ns:List Int,anyK (ns.map fun n=>(PyData.int n,PyData.none))=false
 | []=>rfl
 | [_]=>rfl
 | _::_::_=>rfl
mutual
inductive Rp (K:PySem.W.Frag) (H:Hp):V→PyData→Prop where
 | non:Rp K H .non .none
 | bl (b:Bool):Rp K H (.bl b) (.bool b)
 | int (i:Int):Rp K H (.int i) (.int i)
 | str (x:Str):Rp K H (.str x) (.str x)
 | lst {a:Addr} {xs:List V} {ds:List PyData}:H a=some (.lst xs)→RpAll K H xs ds→Rp K H (.ref a) (.list ds)
 | tup {a:Addr} {xs:List V} {ds:List PyData}:H a=some (.tup xs)→RpAll K H xs ds→Rp K H (.ref a) (.tuple ds)
 | scr {a:Addr} {ns:List Int}:SqL K H a (ns.map V.int)→Rp K H (.ref a) (ke7 ns)
 | any {a:Addr}:Rp K H (.ref a) anyD
 | xc {a C:Addr}:H a=some (.ext (xPhi a C))→Rp K H (.ref a) (excD C)
inductive RpAll (K:PySem.W.Frag) (H:Hp):List V→List PyData→Prop where
 | nil:RpAll K H [] []
 | cons {x:V} {xs:List V} {d:PyData} {ds:List PyData}:Rp K H x d→RpAll K H xs ds→RpAll K H (x::xs) (d::ds)
end
mutual
noncomputable def immD:PyData→Bool
 | .list _=>false
 | .dict kvs=>anyK kvs
 | .tuple ds=>kh7 ds
 | _=>true
noncomputable def kh7:List PyData→Bool
 | []=>true
 | d::ds=>immD d && kh7 ds
end
structure TK (H H':Hp):Prop where
 tup: ∀b xs,H b=some (.tup xs)→H' b=some (.tup xs)
 frz: ∀b o u,H b=some (.frz o u)→H' b=some (.frz o u)
theorem TK.trans {H H1 H2:Hp} (a:TK H H1) (b:TK H1 H2):TK H H2:=⟨fun c xs h=>b.tup c xs (a.tup c xs h),fun c o u h=>b.frz c o u (a.frz c o u h)⟩
theorem Same.tk {H H':Hp} (s:Same H H'):TK H H':=⟨fun b xs h=>s b _ h,fun b o u h=>s b _ h⟩
theorem TK.new {H:Hp} {p:Addr} {o:HO} (h:H p=none):TK H (upd H p o):=⟨fun b xs e=>by rw [kah (kaf e h)];exact e,fun b o u e=>by rw [kah (kaf e h)];exact e⟩
theorem TK.lst {H:Hp} {p:Addr} {xs:List V} {o:HO} (h:H p=some (.lst xs)):TK H (upd H p o):=
 ⟨fun b ys e=>by rw [kah (kxc e h (by intro z;cases z))];exact e,fun b o u e=>by rw [kah (kxc e h (by intro z;cases z))];exact e⟩
theorem TK.sqT {K:PySem.W.Frag} {H H':Hp} {a:Addr} {xs:List V} (t:TK H H') (h:SqT K H a xs):SqT K H' a xs:=by
 rcases h with (h | ⟨o,h⟩) | h
 · exact .inl (.inl (t.tup _ _ h))
 · exact .inl (.inr ⟨o,t.frz _ _ _ h⟩)
 · exact .inr h
theorem Same.new {H:Hp} {p:Addr} {o:HO} (h:H p=none):Same H (upd H p o):=fun b u e=>by rw [kah (kaf e h)];exact e
theorem Same.put {H0 H:Hp} {p:Addr} {o:HO} (s:Same H0 H) (h:H0 p=none):Same H0 (upd H p o):=fun b u e=>by rw [kah (kaf e h)];exact s b u e
mutual
theorem Rp.keep {K:PySem.W.Frag} {H H':Hp} (t:TK H H'): ∀{v:V} {d:PyData},Rp K H v d→immD d=true→Rp K H' v d
 | _,_,.non,_=> .non
 | _,_,.bl b,_=> .bl b
 | _,_,.int i,_=> .int i
 | _,_,.str x,_=> .str x
 | _,_,.lst _ _,h=>absurd (show false=true from h) Bool.false_ne_true
 | _,_,.tup hs ha,h=> .tup (t.tup _ _ hs) (RpAll.keep t ha h)
 | _,_,@Rp.scr _ _ _ ns _,h=>absurd (show anyK (ns.map fun n=>(PyData.int n,PyData.none))=true from h) (by rw [kj2];exact Bool.false_ne_true)
 | _,_,.any,_=> .any
theorem RpAll.keep {K:PySem.W.Frag} {H H':Hp} (t:TK H H'): ∀{vs:List V} {ds:List PyData},RpAll K H vs ds→kh7 ds=true→RpAll K H' vs ds
 | _,_,.nil,_=> .nil
 | _,_,.cons a b,h=>by
   have h:_∧_:=Bool.and_eq_true_iff.mp h
   exact .cons (Rp.keep t a h.1) (RpAll.keep t b h.2)
end
mutual
theorem Rp.same {K:PySem.W.Frag} {H H':Hp} (t:Same H H'): ∀{v:V} {d:PyData},Rp K H v d→Rp K H' v d
 | _,_,.non=> .non
 | _,_,.bl b=> .bl b
 | _,_,.int i=> .int i
 | _,_,.str x=> .str x
 | _,_,.lst hs ha=> .lst (t _ _ hs) (RpAll.same t ha)
 | _,_,.tup hs ha=> .tup (t _ _ hs) (RpAll.same t ha)
 | _,_,.scr h=> .scr (Same.seq t h)
 | _,_,.any=> .any
 | _,_,.xc h=> .xc (t _ _ h)
theorem RpAll.same {K:PySem.W.Frag} {H H':Hp} (t:Same H H'): ∀{vs:List V} {ds:List PyData},RpAll K H vs ds→RpAll K H' vs ds
 | _,_,.nil=> .nil
 | _,_,.cons a b=> .cons (Rp.same t a) (RpAll.same t b)
end
theorem Rp.int_inv {K:PySem.W.Frag} {H:Hp} {v:V} {i:Int} (h:Rp K H v (.int i)):v= .int i:=by cases h;rfl
theorem Rp.bl_inv {K:PySem.W.Frag} {H:Hp} {v:V} {b:Bool} (h:Rp K H v (.bool b)):v= .bl b:=by cases h;rfl
theorem Rp.tup_inv {K:PySem.W.Frag} {H:Hp} {v:V} {ds:List PyData} (h:Rp K H v (.tuple ds)): ∃a xs,v= .ref a∧H a=some (.tup xs)∧RpAll K H xs ds:=by
 cases h with | tup a b=>exact ⟨_,_,rfl,a,b⟩
theorem Rp.lst_inv {K:PySem.W.Frag} {H:Hp} {v:V} {ds:List PyData} (h:Rp K H v (.list ds)): ∃a xs,v= .ref a∧H a=some (.lst xs)∧RpAll K H xs ds:=by
 cases h with | lst a b=>exact ⟨_,_,rfl,a,b⟩
theorem RpAll.len {K:PySem.W.Frag} {H:Hp}: ∀{vs:List V} {ds:List PyData},RpAll K H vs ds→vs.length=ds.length
 | _,_,.nil=>rfl
 | _,_,.cons _ b=>congrArg (· + 1) b.len
theorem RpAll.get {K:PySem.W.Frag} {H:Hp}: ∀{vs:List V} {ds:List PyData} {i:Nat} {v:V},RpAll K H vs ds→vs[i]?=some v→∃d,ds[i]?=some d∧Rp K H v d
 | _,_,_,_,.nil,e=>by simp at e
 | _,_,0,_,.cons a _,e=>by simp at e;subst e;exact ⟨_,rfl,a⟩
 | _,_,i + 1,v,.cons _ b,e=>by
   obtain ⟨d,h1,h2⟩:=RpAll.get (i:=i) (v:=v) b (by simpa using e)
   exact ⟨d,by simpa using h1,h2⟩
theorem RpAll.get' {K:PySem.W.Frag} {H:Hp}: ∀{vs:List V} {ds:List PyData} {i:Nat} {d:PyData},RpAll K H vs ds→ds[i]?=some d→∃v,vs[i]?=some v∧Rp K H v d
 | _,_,_,_,.nil,e=>by simp at e
 | _,_,0,_,.cons a _,e=>by simp at e;subst e;exact ⟨_,rfl,a⟩
 | _,_,i + 1,d,.cons _ b,e=>by
   obtain ⟨v,h1,h2⟩:=RpAll.get' (i:=i) (d:=d) b (by simpa using e)
   exact ⟨v,by simpa using h1,h2⟩
theorem RpAll.append {K:PySem.W.Frag} {H:Hp}: ∀{vs ws:List V} {ds es:List PyData},RpAll K H vs ds→RpAll K H ws es→RpAll K H (vs++ws) (ds++es)
 | _,_,_,_,.nil,h=>h
 | _,_,_,_,.cons a b,h=> .cons a (b.append h)
theorem RpAll.one {K:PySem.W.Frag} {H:Hp} {v:V} {d:PyData} (h:Rp K H v d):RpAll K H [v] [d]:= .cons h .nil
theorem RpAll.ints {K:PySem.W.Frag} {H:Hp}: ∀(ns:List Int),RpAll K H (ns.map V.int) (ns.map PyData.int)
 | []=> .nil
 | n::ns=> .cons (.int n) (RpAll.ints ns)
theorem RpAll.ints_inv {K:PySem.W.Frag} {H:Hp}: ∀{ns:List Int} {vs:List V},RpAll K H vs (ns.map PyData.int)→vs=ns.map V.int
 | [],_,h=>by cases h;rfl
 | n::ns,_,h=>by
   cases h with
   | cons a b=>rw [a.int_inv,RpAll.ints_inv b];rfl
theorem RpAll.bools_inv {K:PySem.W.Frag} {H:Hp}: ∀{bs:List Bool} {vs:List V},RpAll K H vs (bs.map PyData.bool)→vs=bs.map V.bl
 | [],_,h=>by cases h;rfl
 | n::ns,_,h=>by
   cases h with
   | cons a b=>rw [a.bl_inv,RpAll.bools_inv b];rfl
theorem kbx: ∀(ns:List Int),PyData.canLayAll0 (ns.map PyData.int)=true
 | []=>rfl
 | n::ns=>by
   show (PyData.canLay0 (.int n) && PyData.canLayAll0 (ns.map PyData.int))=true
   rw [kbx ns];rfl
section
variable {X:Cx} {pins:List (Addr×Obj)} {σ:St} {H:Hp} {s:Shared}
mutual
theorem Inv.reads (I:Inv X pins σ H s): ∀{x:V} {d:PyData} {v:Value},Rp X.K H x d→RelV x v→d.canLay0=true→∃as,Reads s.heap v d as
 | _,_,_,.non,r,_=>⟨[],by cases r;exact .none⟩
 | _,_,_,.bl b,r,_=>⟨[],by cases r;exact .bool b⟩
 | _,_,_,.int i,r,_=>⟨[],by obtain ⟨t,e⟩:=r;cases e;exact .int i t⟩
 | _,_,_,.str x,r,_=>⟨[],by obtain ⟨t,e⟩:=r;cases e;exact .str x t⟩
 | _,_,_,.scr _,_,h=>absurd (show false=true from h) Bool.false_ne_true
 | _,_,_,.any,_,h=>absurd (show false=true from h) Bool.false_ne_true
 | _,_,_,.lst hq ha,r,hl=>by
   cases r
   obtain ⟨its,rv,⟨o,n,e,c,dd,dt⟩,hz⟩:=I.list (SqL.of hq)
   obtain ⟨as,z⟩:=Inv.readsAll I ha rv hl
   exact ⟨_,.list e c dt z⟩
 | _,_,_,.tup hq ha,r,hl=>by
   cases r
   obtain ⟨its,rv,⟨o,e,c,n,dt⟩,hz⟩:=I.tuple (SqT.of hq)
   obtain ⟨as,z⟩:=Inv.readsAll I ha rv hl
   exact ⟨_,.tuple e c dt z⟩
theorem Inv.readsAll (I:Inv X pins σ H s): ∀{xs:List V} {ds:List PyData} {us:List Value},RpAll X.K H xs ds→Vals xs us→PyData.canLayAll0 ds=true→∃as,ReadsAll s.heap us ds as
 | _,_,_,.nil,.nil,_=>⟨[],.nil⟩
 | _,_,_,.cons a b,.cons r t,h=>by
   have h:_∧_:=Bool.and_eq_true_iff.mp h
   obtain ⟨as,z⟩:=Inv.reads I a r h.1
   obtain ⟨bs,y⟩:=Inv.readsAll I b t h.2
   exact ⟨_,.cons z y⟩
end
noncomputable def rEqD (K:PySem.W.Frag) (u:Nat):R2:=fun x y H Q=>∃dx dy,Rp K H x dx∧Rp K H y dy∧dx.canLay0=true∧dy.canLay0=true∧u + min dx.depth dy.depth < cLine∧Q (.bl (PyData.eqv dx dy)) H
theorem kx3:OpR X (compareOp .Eq) (rEqD X.K X.A.units):=by
 intro pins s σ H x y v u Q I rx ry h
 obtain ⟨dx,dy,h1,h2,l1,l2,hu,q⟩:=h
 obtain ⟨as,ra⟩:=I.reads h1 rx l1
 obtain ⟨bs,rb⟩:=I.reads h2 ry l2
 exact SeqAt.rcAt_reads ra rb l1 l2 hu _ _ _ _ ⟨.bl _,H,I,rfl,q⟩
noncomputable def eqR (h:Heap) (dx:PyData) (w:Value):Bool:= @decide (∃ d as,Reads h w d as∧d.canLay0=true∧PyData.eqv d dx=true) (Classical.propDecidable _)
theorem ksv {h:Heap} {dx d:PyData} {w:Value} {as:List Addr} (r:Reads h w d as) (l:d.canLay0=true):eqR h dx w=PyData.eqv d dx:=by
 unfold eqR
 by_cases e:PyData.eqv d dx=true
 · rw [e]
   exact @decide_eq_true _ (Classical.propDecidable _) ⟨d,as,r,l,e⟩
 · rw [Bool.eq_false_iff.mpr e]
   refine @decide_eq_false _ (Classical.propDecidable _) ?_
   rintro ⟨d',as',r',l',e'⟩
   rw [SeqAt.Reads.unique d' d w as' as l' r' r] at e'
   exact e e'
theorem kfk {h:Heap} {dx:PyData}: ∀{us:List Value} {ds:List PyData} {as:List Addr},ReadsAll h us ds as→PyData.canLayAll0 ds=true→us.any (eqR h dx)=ds.any fun d=>PyData.eqv d dx
 | [],[],_,_,_=>rfl
 | u::us,d::ds,_,r,l=>by
   have l:d.canLay0=true∧PyData.canLayAll0 ds=true:=by simpa [PyData.canLayAll0] using l
   cases r with
   | cons r1 r2=>rw [List.any_cons,List.any_cons,ksv r1 l.1,kfk r2 l.2]
 | [],_::_,_,r,_=>by cases r
 | _::_,[],_,r,_=>by cases r
theorem kfl {A:Around} {dx:PyData} {v:Value} {as:List Addr} (rx:Reads s.heap v dx as) (lx:dx.canLay0=true) (hu:A.units + dx.depth < cLine): ∀{us:List Value} {ds:List PyData} {bs:List Addr},ReadsAll s.heap us ds bs→PyData.canLayAll0 ds=true→
 ∀u∈us,SeqAt.EqAt A s u v (eqR s.heap dx u)
 | [],_,_,_,_,u,hm=>by cases hm
 | w::us,d::ds,_,r,l,u,hm=>by
   have l:d.canLay0=true∧PyData.canLayAll0 ds=true:=by simpa [PyData.canLayAll0] using l
   cases r with
   | cons r1 r2=>
     rcases List.mem_cons.mp hm with rfl | hm
     · rw [ksv r1 l.1]
       refine SeqAt.eqAt_reads d dx A s _ _ _ _ r1 rx l.1 lx ?_
       have:min d.depth dx.depth≤dx.depth:=Nat.min_le_right _ _
       lia
     · exact kfl rx lx hu r2 l.2 u hm
 | _::_,[],_,r,_,_,_=>by cases r
noncomputable def rInD (K:PySem.W.Frag) (u:Nat):R2:=fun x y H Q=>∃p xs ds dx,y= .ref p∧(SqL K H p xs∨SqT K H p xs)∧RpAll K H xs ds∧Rp K H x dx∧PyData.canLayAll0 ds=true∧dx.canLay0=true∧u + 1 + dx.depth < cLine∧Q (.bl (ds.any fun d=>PyData.eqv d dx)) H
theorem kx4:OpR X (compareOp .In) (rInD X.K X.A.units):=by
 intro pins s σ H x y v u Q I rx ry h
 obtain ⟨p,xs,ds,dx,rfl,hq,ha,hx,l1,l2,hu,q⟩:=h
 cases ry
 obtain ⟨as,ra⟩:=I.reads hx rx l2
 have hu1:X.A.in1.units + dx.depth < cLine:=hu
 rcases hq with hq | hq
 · obtain ⟨its,r,pl,hz⟩:=I.list hq
   obtain ⟨bs,rb⟩:=I.readsAll ha r l1
   refine SeqAt.in_listAt (eqR s.heap dx) pl.isList (fun w hw=>kfl ra l2 hu1 rb l1 w (by simpa using hw)) ⟨.bl _,H,I,rfl,?_⟩
   rw [show its.toArray.any (eqR s.heap dx)=its.any (eqR s.heap dx) by simp,kfk rb l1]
   exact q
 · obtain ⟨its,r,pl,hz⟩:=I.tuple hq
   obtain ⟨bs,rb⟩:=I.readsAll ha r l1
   refine SeqAt.in_tupleAt (eqR s.heap dx) pl (fun w hw=>kfl ra l2 hu1 rb l1 w (by simpa using hw)) ⟨.bl _,H,I,rfl,?_⟩
   rw [show its.toArray.any (eqR s.heap dx)=its.any (eqR s.heap dx) by simp,kfk rb l1]
   exact q
theorem kdw:CallR X (.builtin "isinstance") (fun xs H Q=>∃x T t b,xs=[x,.ty T]∧TyOf X.K H x t∧PySem.W.kitOne X.K t (.type T)=some b∧Q (.bl b) H):=by
 intro pins s σ H xs us Q I r h
 obtain ⟨x,T,t,b,rfl,ty,e,q⟩:=h
 obtain ⟨u,w',rfl,r1,r2⟩:=kxu r
 cases r2
 exact kmt I r1 ty e fun tk=>⟨.bl b,H,I.tok tk,rfl,q⟩
noncomputable def tRng1 (ta:TA):TE:=fun σ H Q=>ta σ H fun vs H1=>∃j:Int,vs=[.int j]∧∀p,H1 p=none→Q (.ref p) (upd H1 p (.rng 0 j))
theorem kfm {a:Expr} {ta:TA} {p pos:Pos} (hg:Gl X "range") (hm:X.mg "range"=none) (ha:PA X [a] ta) (hs:autoParam (starEach [a] X.env=[(false,eval a X.env)]) u4._auto_1):PE X (.Call (.Name "range" p) [a] [] pos) (tRng1 ta):=by
 intro pins s σ H Q I h
 refine wpAny_Call_Name_kw (kgg I hg hm boot_range (PyProof.Rows.callWith_type1 (thn (ha pos pins s σ H _ I h) fun us s1 ⟨vs,H1,I1,r1,q1⟩=> ?_) hs rfl))
 obtain ⟨j,e,q⟩:=q1
 subst e
 cases r1 with
 | cons r rr=>
   cases rr
   obtain ⟨t,rfl⟩:=r
   refine call_range_1 ⟨.ref s1.heap.objs.size,_,?_,rfl,q _ (I1.hok.fresh (Nat.le_refl _))⟩
   exact I1.laid (fun b o e=>Heap.get?_push_of_some _ e) (Nat.le_refl _) ⟨_,_,_,Heap.get?_push_size _ rfl⟩
noncomputable def rangeV (lo:Int) (n:Nat):List V:=(List.range n).map fun (i:Nat)=>V.int (lo + (i:Int))
theorem klu {P:Nat→Value→Prop}: ∀{n:Nat} {us:List Value} (f:Nat→V),us.length=n→(∀ j v,us[j]?=some v→RelV (f j) v)→Vals ((List.range n).map f) us
 | n,us,f,hl,h=>by
   induction us generalizing n f with
   | nil=>
     have:n=0:=by simpa using hl.symm
     subst this
     exact .nil
   | cons u us ih=>
     obtain ⟨k,rfl⟩: ∃k,n=k + 1:=⟨us.length,by simpa using hl.symm⟩
     rw [List.range_succ_eq_map,List.map_cons,List.map_map]
     exact .cons (h 0 u rfl) (ih k (fun j=>f (j + 1)) (by simpa using hl) fun j v e=>h (j + 1) v (by simpa using e))
theorem kcw (hc:X.calm=true):CallR X (.type "list") (fun xs H Q=>∃p lo hi,xs=[.ref p]∧H p=some (.rng lo hi)∧(-(2 ^ 62)≤lo∧lo < 2 ^ 62∧ -(2 ^ 62)≤hi∧hi < 2 ^ 62)∧(hi - lo).toNat≤sizeLine∧∀l,H l=none→Q (.ref l) (upd H l (.lst (rangeV lo (hi - lo).toNat)))):=by
 intro pins s σ H xs us Q I r h
 obtain ⟨p,lo,hi,rfl,hp,⟨b1,b2,b3,b4⟩,hz,q⟩:=h
 obtain ⟨u,rfl,rx⟩:=kd6 r
 cases rx
 obtain ⟨t,u,v,e⟩:=(show ∃t u v,s.heap.get? p=some {cls:= .type "range",data:= .fields #[.int lo t,.int hi u,.int 1 v]} from I.hok p _ hp)
 have hn:Builtin.Range.rangeSize lo hi 1=(((hi - lo).toNat:Nat):Int):=by rw [rangeSize_one];split <;> lia
 refine call_list_range (n:=(hi - lo).toNat) (I.ok.hd hc) e (small_one b1 b2 b3 b4) hn (by rw [sizeLine_eq] at hz;lia) fun h' tk acc' c' kp e' hit=> ?_
 refine ⟨.ref s.heap.objs.size,_,I.laid (t':=tk) kp (Nat.le_refl _) (show ObjOk X.prog X.w _ h' _ (.lst (rangeV lo (hi - lo).toNat)) from ⟨?_,acc'.toList,c',?_,?_⟩),rfl,q _ (I.hok.fresh (Nat.le_refl _))⟩
 · unfold rangeV
   rw [List.length_map,List.length_range]
   exact hz
 · refine klu (P:=fun q_ q_=>True) (us:=acc'.toList) (fun i=>V.int (lo + (i:Int))) (by rw [Array.length_toList];exact hit.1) fun j v hj=> ?_
   obtain ⟨t',ev⟩:=hit.2 j v (by rw [← Array.getElem?_toList];exact hj)
   exact ⟨t',by rw [ev,Int.mul_one]⟩
 · simpa using e'
end
noncomputable def Fn (P:Program) (w:World) (K:PySem.W.Frag) (mg:Str→Option Value) (base:Heap) (x:Str) (lvl:Nat) (ps:List Str) (sp:Sp):Prop:=
 ∃f fd,FnOk P w K mg base CX0 lvl f fd ps sp∧mg x=some (.ref f)∧PySem.W.keepIn K (.ref f)=true∧Binds K fd ps []
section
variable {X:Cx} {x:Str} {lvl:Nat} {ps:List Str} {sp:Sp} {e:Expr} {es:List Expr} {t:TA} {p pos:Pos}
theorem kgf (G:Fn X.prog X.w X.K X.mg X.base x lvl ps sp) (hr:Room lvl X.A) (ha:PA X (e::es) t) (hg:autoParam (Gl X x) u4._auto_1)
 (hdb:autoParam ((x == ("__debug__":Str))=false) u2._auto_1) (he:autoParam (starEach (e::es) X.env=(false,eval e X.env)::starEach es X.env) u4._auto_1) (hpl:autoParam ((backTo pos (starEach es X.env)).any (·.1)=false) u4._auto_1):
 PE X (.Call (.Name x p) (e::es) [] pos) (kxv sp [] E0 t):=by
 obtain ⟨f,fd,F,hm,hk,hb⟩:=G
 exact kuc F hr hg hm hk hb .nil pass0 ha hdb he hpl
end
theorem ka2 {k d:Nat} {A:Around} (hr:Room k A) (h:d≤200):A.units + d < cLine:=by have:=hr.un;lia
section
variable {X:Cx}
theorem kj3 (K:PySem.W.Frag) (h:autoParam (X.K=K) u4._auto_1):IxR X (kxx K):=h▸kbw
noncomputable def rInK (K:PySem.W.Frag):R2:=fun x y H Q=>∃p xs ds dx,y= .ref p∧(SqL K H p xs∨SqT K H p xs)∧RpAll K H xs ds∧Rp K H x dx∧PyData.canLayAll0 ds=true∧dx.canLay0=true∧dx.depth≤9∧Q (.bl (ds.any fun d=>PyData.eqv d dx)) H
theorem km4 (K:PySem.W.Frag) (hu:X.A.units + 10 < cLine) (h:autoParam (X.K=K) u4._auto_1):OpR X (compareOp .In) (rInK K):=by
 subst h
 intro pins s σ H x y v u Q I rx ry hq
 obtain ⟨p,xs,ds,dx,e1,e2,e3,e4,e5,e6,e7,q⟩:=hq
 exact kx4 pins s σ H x y v u Q I rx ry ⟨p,xs,ds,dx,e1,e2,e3,e4,e5,e6,by lia,q⟩
noncomputable def rEqK (K:PySem.W.Frag):R2:=fun x y H Q=>∃dx dy,Rp K H x dx∧Rp K H y dy∧dx.canLay0=true∧dy.canLay0=true∧min dx.depth dy.depth≤9∧Q (.bl (PyData.eqv dx dy)) H
theorem kx5 (K:PySem.W.Frag) (hu:X.A.units + 10 < cLine) (h:autoParam (X.K=K) u4._auto_1):OpR X (compareOp .Eq) (rEqK K):=by
 subst h
 intro pins s σ H x y v u Q I rx ry hq
 obtain ⟨dx,dy,e1,e2,e3,e4,e5,q⟩:=hq
 exact kx3 pins s σ H x y v u Q I rx ry ⟨dx,dy,e1,e2,e3,e4,by lia,q⟩
theorem km5 (K:PySem.W.Frag) (h:autoParam (X.K=K) u4._auto_1):CallR X (.builtin "len") (fun xs H Q=>∃p ys,xs=[.ref p]∧(SqL K H p ys∨SqT K H p ys)∧Q (.int ys.length) H):=h▸kcf
end
theorem kfn {α β:Type} (f:α→β): ∀(l:List α) (k:Nat),(l.map f).eraseIdx k=(l.eraseIdx k).map f
 | [],_=>rfl
 | _::_,0=>rfl
 | a::r,k + 1=>congrArg (f a:: ·) (kfn f r k)
end L2
namespace L2
open PySem PySem.Spec PyProof.Rows
noncomputable def kfo:HO→Prop
 | .lst _=>True
 | .dK _=>True
 | .dT _=>True
 | .set _ _=>True
 | .ext _=>True
 | _=>False
structure Ext (R H R' H':Hp):Prop where
 hh:Same H H'
 rr:Same R R'
 rh:Same R' H'
 nn: ∀b o,H b=some o→R b=none→R' b=none
 ls: ∀b o,H' b=some o→R' b=none→kfo o
structure Wd (R H:Hp):Prop where
 rh:Same R H
 ls: ∀b o,H b=some o→R b=none→kfo o
theorem Wd.all (H:Hp):Wd H H:=⟨Same.refl H,fun b o h n=>by rw [h] at n;cases n⟩
theorem Ext.wd {R H R' H':Hp} (e:Ext R H R' H'):Wd R' H':=⟨e.rh,e.ls⟩
theorem Ext.refl {R H:Hp} (w:Wd R H):Ext R H R H:=⟨Same.refl H,Same.refl R,w.rh,fun q_ q_ q_ n=>n,w.ls⟩
theorem Ext.trans {R H R1 H1 R2 H2:Hp} (a:Ext R H R1 H1) (b:Ext R1 H1 R2 H2):Ext R H R2 H2:=
 ⟨a.hh.trans b.hh,a.rr.trans b.rr,b.rh,fun c o h n=>b.nn c o (a.hh c o h) (a.nn c o h n),b.ls⟩
theorem Ext.of_same {H H':Hp} (s:Same H H'):Ext H H H' H':=⟨s,s,Same.refl _,fun b o h n=>(by rw [h] at n;cases n),(Wd.all H').ls⟩
theorem Ext.new {R H:Hp} {p:Addr} {o:HO} (w:Wd R H) (h:H p=none):Ext R H (upd R p o) (upd H p o):=by
 have hr:R p=none:=w.rh.free h
 refine ⟨Same.new h,Same.new hr,fun b u e=> ?_,fun b u e n=> ?_,fun b u e n=> ?_⟩
 · by_cases hb:b=p
   · subst hb;rw [kad] at e ⊢;exact e
   · rw [kah hb] at e ⊢;exact w.rh b u e
 · rw [kah (kaf e h)];exact n
 · by_cases hb:b=p
   · subst hb;rw [kad] at n;cases n
   · rw [kah hb] at e n;exact w.ls b u e n
theorem Ext.newO {R H:Hp} {p:Addr} {o:HO} (w:Wd R H) (h:H p=none) (lo:kfo o):Ext R H R (upd H p o):=by
 have hr:R p=none:=w.rh.free h
 refine ⟨Same.new h,Same.refl R,fun b u e=> ?_,fun b u e n=>n,fun b u e n=> ?_⟩
 · rw [kah (kaf e hr)];exact w.rh b u e
 · by_cases hb:b=p
   · subst hb;rw [kad] at e;cases e;exact lo
   · rw [kah hb] at e;exact w.ls b u e n
theorem Wd.mut {R H:Hp} {p:Addr} {o:HO} (w:Wd R H) (hr:R p=none) (lo:kfo o):Wd R (upd H p o):=by
 refine ⟨fun b u e=> ?_,fun b u e n=> ?_⟩
 · rw [kah (kaf e hr)];exact w.rh b u e
 · by_cases hb:b=p
   · subst hb;rw [kad] at e;cases e;exact lo
   · rw [kah hb] at e;exact w.ls b u e n
noncomputable abbrev Vw:=Int×List Int×List Int
noncomputable def ksw (x:List Int):Int:=reduceHash (Builtin.Tuple.tupleHashOf (x.map hashInt))
noncomputable def vwH (k:Vw):Int:=reduceHash (Builtin.Tuple.tupleHashOf [hashInt k.1,ksw k.2.1,ksw k.2.2])
noncomputable def VwH (H:Hp) (a:Addr) (k:Vw):Prop:=∃p q,H a=some (.tup [.int k.1,.ref p,.ref q])∧H p=some (.tup (k.2.1.map V.int))∧H q=some (.tup (k.2.2.map V.int))
noncomputable def DicV (l:Addr) (zs:List ((Addr×Vw)×Int)) (h:Heap):Prop:=(l == sysModules)=false∧∃o es ep,h.get? l=some o∧o.ExactDict∧o.data= .dict es ep∧Paired (fun (z:(Addr×Vw)×Int) (e:DictEntry)=>e.hash=vwH z.1.2∧e.key= .ref z.1.1∧∃t,e.val= .int z.2 t) zs es.toList
noncomputable def DvR (R:Hp) (zs:List ((Addr×Vw)×Int)) (kvs:List (Vw×Int)):Prop:=kvs=zs.map (fun z=>(z.1.2,z.2))∧∀z∈zs,VwH R z.1.1 z.1.2
theorem VwH.same {R R':Hp} (s:Same R R') {a:Addr} {k:Vw} (h:VwH R a k):VwH R' a k:=by
 obtain ⟨p,q,h1,h2,h3⟩:=h
 exact ⟨p,q,s _ _ h1,s _ _ h2,s _ _ h3⟩
theorem DvR.same {R R':Hp} (s:Same R R') {zs:List ((Addr×Vw)×Int)} {kvs:List (Vw×Int)} (h:DvR R zs kvs):DvR R' zs kvs:=⟨h.1,fun z hz=>(h.2 z hz).same s⟩
inductive Dt where
 | un
 | d (x:PyData)
 | o (xs:List PyData)
 | dk (kvs:List (Key×PyData))
 | dt (kvs:List (List Key×PyData))
 | oo (xss:List (List PyData))
 | dv (kvs:List (Vw×Int))
noncomputable def Dt.own:Dt→Bool
 | .un=>false
 | .d _=>false
 | _=>true
noncomputable abbrev KvR {κ:Type} (K:PySem.W.Frag) (R:Hp):List (κ×V)→List (κ×PyData)→Prop:=Paired fun p q=>p.1=q.1∧Rp K R p.2 q.2
theorem KvR.same {κ:Type} {K:PySem.W.Frag} {R R':Hp} (s:Same R R') {l:List (κ×V)} {m:List (κ×PyData)} (h:KvR K R l m):KvR K R' l m:=Paired.mapP h fun q_ q_ z=>⟨z.1,Rp.same s z.2⟩
noncomputable abbrev OwnR (K:PySem.W.Frag) (H0 R H:Hp):List V→List (List PyData)→Prop:=Paired fun y xs=>∃b zs,y= .ref b∧H b=some (.lst zs)∧R b=none∧H0 b=none∧RpAll K R zs xs
theorem OwnR.next {K:PySem.W.Frag} {H0 R H R' H':Hp} {ys:List V} {xss:List (List PyData)} (h:OwnR K H0 R H ys xss) (e:Ext R H R' H'):OwnR K H0 R' H' ys xss:=
 Paired.mapP h fun _ _ ⟨b,zs,h1,h2,h3,h4,h5⟩=>⟨b,zs,h1,e.hh _ _ h2,e.nn _ _ h2 h3,h4,RpAll.same e.rr h5⟩
theorem OwnR.mem {K:PySem.W.Frag} {H0 R H:Hp} {b:Addr}: ∀{ys:List V} {xss:List (List PyData)},OwnR K H0 R H ys xss→V.ref b∈ys→∃zs,H b=some (.lst zs)∧R b=none∧H0 b=none
 | _,_,.nil,m=>by cases m
 | _,_,.cons ⟨b',zs,h1,h2,h3,h4,_⟩ t,m=>by
   rcases List.mem_cons.mp m with z | m
   · rw [h1] at z;cases z;exact ⟨zs,h2,h3,h4⟩
   · exact OwnR.mem t m
theorem OwnR.mut {K:PySem.W.Frag} {H0 R H:Hp} {p:Addr} {o:HO}: ∀{ys:List V} {xss:List (List PyData)},OwnR K H0 R H ys xss→V.ref p ∉ ys→OwnR K H0 R (upd H p o) ys xss
 | _,_,.nil,_=> .nil
 | _,_,.cons ⟨b',zs,h1,h2,h3⟩ t,m=> .cons ⟨b',zs,h1,by rw [kah (fun z=>m (by rw [← z,h1];exact List.mem_cons_self))];exact h2,h3⟩ (OwnR.mut t fun z=>m (List.mem_cons_of_mem _ z))
noncomputable def SlotR (K:PySem.W.Frag) (H0 R H:Hp):Option V→Dt→Prop
 | _,.un=>True
 | some v,.d x=>Rp K R v x
 | some v,.o xs=>∃a ys,v= .ref a∧H a=some (.lst ys)∧R a=none∧H0 a=none∧RpAll K R ys xs
 | some v,.dk kvs=>∃a ys,v= .ref a∧H a=some (.dK ys)∧R a=none∧H0 a=none∧KvR K R ys kvs
 | some v,.dt kvs=>∃a ys,v= .ref a∧H a=some (.dT ys)∧R a=none∧H0 a=none∧KvR K R ys kvs
 | some v,.dv kvs=>∃a ys,v= .ref a∧H a=some (.ext (DicV a ys))∧R a=none∧H0 a=none∧DvR R ys kvs
 | some v,.oo xss=>∃a ys,v= .ref a∧H a=some (.lst ys)∧R a=none∧H0 a=none∧OwnR K H0 R H ys xss∧ys.Nodup∧V.ref a ∉ ys
 | none,_=>False
noncomputable def Dt.has (H:Hp):Dt→Option V→Addr→Prop
 | .un,_,_=>False
 | .d _,_,_=>False
 | .oo _,x,b=>x=some (.ref b)∨∃a ys,x=some (.ref a)∧H a=some (.lst ys)∧V.ref b∈ys
 | _,x,b=>x=some (.ref b)
theorem Dt.has_ref {H:Hp} {d:Dt} {a:Addr} (h:d.own=true):d.has H (some (.ref a)) a:=by
 cases d with
 | un=>cases h
 | d _=>cases h
 | oo _=>exact .inl rfl
 | _=>rfl
theorem Dt.has_own {H:Hp} {d:Dt} {x:Option V} {b:Addr} (h:d.has H x b):d.own=true:=by
 cases d with
 | un=>cases h
 | d _=>cases h
 | _=>rfl
theorem SlotR.next {K:PySem.W.Frag} {H0 R H R' H':Hp} {x:Option V} {d:Dt} (h:SlotR K H0 R H x d) (e:Ext R H R' H'):SlotR K H0 R' H' x d:=by
 cases d with
 | un=>cases x <;> trivial
 | d y=>cases x with
   | none=>exact h
   | some v=>exact Rp.same e.rr h
 | o xs=>cases x with
   | none=>exact h
   | some v=>
     obtain ⟨a,ys,h1,h2,h3,h4,h5⟩:=h
     exact ⟨a,ys,h1,e.hh _ _ h2,e.nn _ _ h2 h3,h4,RpAll.same e.rr h5⟩
 | dk xs=>cases x with
   | none=>exact h
   | some v=>
     obtain ⟨a,ys,h1,h2,h3,h4,h5⟩:=h
     exact ⟨a,ys,h1,e.hh _ _ h2,e.nn _ _ h2 h3,h4,KvR.same e.rr h5⟩
 | dt xs=>cases x with
   | none=>exact h
   | some v=>
     obtain ⟨a,ys,h1,h2,h3,h4,h5⟩:=h
     exact ⟨a,ys,h1,e.hh _ _ h2,e.nn _ _ h2 h3,h4,KvR.same e.rr h5⟩
 | dv xs=>cases x with
   | none=>exact h
   | some v=>
     obtain ⟨a,ys,h1,h2,h3,h4,h5⟩:=h
     exact ⟨a,ys,h1,e.hh _ _ h2,e.nn _ _ h2 h3,h4,DvR.same e.rr h5⟩
 | oo xs=>cases x with
   | none=>exact h
   | some v=>
     obtain ⟨a,ys,h1,h2,h3,h4,h5,h6⟩:=h
     exact ⟨a,ys,h1,e.hh _ _ h2,e.nn _ _ h2 h3,h4,h5.next e,h6⟩
theorem SlotR.mut {K:PySem.W.Frag} {H0 R H:Hp} {p:Addr} {o:HO} {x:Option V} {d:Dt} (h:SlotR K H0 R H x d) (ne: ¬d.has H x p):SlotR K H0 R (upd H p o) x d:=by
 cases d with
 | un=>cases x <;> trivial
 | d y=>cases x <;> exact h
 | o xs=>cases x with
   | none=>exact h
   | some v=>
     obtain ⟨a,ys,h1,h2,h3⟩:=h
     subst h1
     exact ⟨a,ys,rfl,by rw [kah (fun z=>ne (by rw [z];exact rfl))];exact h2,h3⟩
 | dk xs=>cases x with
   | none=>exact h
   | some v=>
     obtain ⟨a,ys,h1,h2,h3⟩:=h
     subst h1
     exact ⟨a,ys,rfl,by rw [kah (fun z=>ne (by rw [z];exact rfl))];exact h2,h3⟩
 | dt xs=>cases x with
   | none=>exact h
   | some v=>
     obtain ⟨a,ys,h1,h2,h3⟩:=h
     subst h1
     exact ⟨a,ys,rfl,by rw [kah (fun z=>ne (by rw [z];exact rfl))];exact h2,h3⟩
 | dv xs=>cases x with
   | none=>exact h
   | some v=>
     obtain ⟨a,ys,h1,h2,h3⟩:=h
     subst h1
     exact ⟨a,ys,rfl,by rw [kah (fun z=>ne (by rw [z];exact rfl))];exact h2,h3⟩
 | oo xs=>cases x with
   | none=>exact h
   | some v=>
     obtain ⟨a,ys,h1,h2,h3,h4,h5,h6⟩:=h
     subst h1
     exact ⟨a,ys,rfl,by rw [kah (fun z=>ne (.inl (by rw [z])))];exact h2,h3,h4,h5.mut fun z=>ne (.inr ⟨a,ys,rfl,h2,z⟩),h6⟩
theorem SlotR.addr {K:PySem.W.Frag} {H0 R H:Hp} {x:Option V} {d:Dt} (h:SlotR K H0 R H x d) (ho:d.own=true): ∃a o,x=some (.ref a)∧H a=some o∧R a=none∧H0 a=none:=by
 cases d with
 | un=>cases ho
 | d y=>cases ho
 | o xs=>cases x with
   | none=>exact h.elim
   | some v=>obtain ⟨a,ys,rfl,h2,h3,h4,_⟩:=h;exact ⟨a,_,rfl,h2,h3,h4⟩
 | dk xs=>cases x with
   | none=>exact h.elim
   | some v=>obtain ⟨a,ys,rfl,h2,h3,h4,_⟩:=h;exact ⟨a,_,rfl,h2,h3,h4⟩
 | dt xs=>cases x with
   | none=>exact h.elim
   | some v=>obtain ⟨a,ys,rfl,h2,h3,h4,_⟩:=h;exact ⟨a,_,rfl,h2,h3,h4⟩
 | dv xs=>cases x with
   | none=>exact h.elim
   | some v=>obtain ⟨a,ys,rfl,h2,h3,h4,_⟩:=h;exact ⟨a,_,rfl,h2,h3,h4⟩
 | oo xs=>cases x with
   | none=>exact h.elim
   | some v=>obtain ⟨a,ys,rfl,h2,h3,h4,_⟩:=h;exact ⟨a,_,rfl,h2,h3,h4⟩
theorem SlotR.hasAt {K:PySem.W.Frag} {H0 R H:Hp} {x:Option V} {d:Dt} {b:Addr} (h:SlotR K H0 R H x d) (hb:d.has H x b): ∃o,H b=some o∧R b=none∧H0 b=none:=by
 have go:d.own=true→x=some (.ref b)→∃o,H b=some o∧R b=none∧H0 b=none:=fun ho hx=>by
  obtain ⟨a,o,e,h2,h3,h4⟩:=h.addr ho
  rw [hx] at e;cases e
  exact ⟨o,h2,h3,h4⟩
 cases d with
 | un=>cases hb
 | d y=>cases hb
 | oo xs=>
   rcases hb with hb | ⟨a,ys,rfl,h2,m⟩
   · exact go rfl hb
   · obtain ⟨a',ys',e,h2',_,_,h5,_⟩:=h
     cases e
     rw [h2] at h2';cases h2'
     obtain ⟨zs,z⟩:=h5.mem m
     exact ⟨_,z⟩
 | o xs=>exact go rfl hb
 | dk xs=>exact go rfl hb
 | dt xs=>exact go rfl hb
 | dv xs=>exact go rfl hb
theorem SlotR.hasNext {K:PySem.W.Frag} {H0 R H H':Hp} {x:Option V} {d:Dt} {b:Addr} (h:SlotR K H0 R H x d) (e: ∀a ys,x=some (.ref a)→H a=some (.lst ys)→H' a=some (.lst ys)) (hb:d.has H' x b):d.has H x b:=by
 cases d with
 | un=>cases hb
 | d y=>cases hb
 | oo xs=>
   rcases hb with hb | ⟨a,ys,rfl,h2,m⟩
   · exact .inl hb
   · obtain ⟨a',ys',q,h2',_⟩:=h
     cases q
     rw [e a ys' rfl h2'] at h2;cases h2
     exact .inr ⟨a,_,rfl,h2',m⟩
 | o xs=>exact hb
 | dk xs=>exact hb
 | dt xs=>exact hb
 | dv xs=>exact hb
theorem SlotR.hasMut {K:PySem.W.Frag} {H0 R H:Hp} {p:Addr} {o:HO} {x:Option V} {d:Dt} {b:Addr} (h:SlotR K H0 R H x d) (ne: ¬d.has H x p) (hb:d.has (upd H p o) x b):d.has H x b:=
 h.hasNext (fun a ys hx e=>by rw [kah (fun z=>ne (by rw [hx,z];exact Dt.has_ref (Dt.has_own hb)))];exact e) hb
structure Fra (He:Hp) (K:PySem.W.Frag) (H0 R H:Hp) (σ:St) (env:List Dt):Prop where
 at0:Same He H0
 ext:Ext H0 H0 R H
 len:σ.length=env.length
 slot: ∀(i:Nat) (d:Dt),env[i]?=some d→SlotR K H0 R H (σ[i]?).join d
 apart: ∀(i j:Nat) (di dj:Dt) (b:Addr),env[i]?=some di→env[j]?=some dj→di.has H (σ[i]?).join b→dj.has H (σ[j]?).join b→i=j
section
variable {He:Hp} {K:PySem.W.Frag} {H0 R H R' H':Hp} {σ:St} {env:List Dt}
theorem Fra.wd (f:Fra He K H0 R H σ env):Wd R H:=f.ext.wd
theorem Fra.next (f:Fra He K H0 R H σ env) (e:Ext R H R' H'):Fra He K H0 R' H' σ env:=⟨f.at0,f.ext.trans e,f.len,fun i d h=>(f.slot i d h).next e,fun i j di dj b hi hj bi bj=>f.apart i j di dj b hi hj ((f.slot i di hi).hasNext (fun a ys q_ z=>e.hh a _ z) bi) ((f.slot j dj hj).hasNext (fun a ys q_ z=>e.hh a _ z) bj)⟩
theorem Fra.get (f:Fra He K H0 R H σ env) {i:Nat} {d:Dt} (h:env[i]?=some d) (hu:d≠ .un): ∃v,σ[i]?=some (some v)∧SlotR K H0 R H (some v) d:=by
 have q:=f.slot i d h
 cases e:σ[i]? with
 | none=>
   rw [e] at q
   cases d <;> first | exact absurd rfl hu | exact q.elim
 | some x=>
   cases x with
   | none=>
     rw [e] at q
     cases d <;> first | exact absurd rfl hu | exact q.elim
   | some v=>rw [e] at q;exact ⟨v,rfl,q⟩
theorem Fra.data (f:Fra He K H0 R H σ env) {i:Nat} {d:PyData} (h:env[i]?=some (.d d)): ∃v,σ[i]?=some (some v)∧Rp K R v d:=f.get h (by intro z;cases z)
set_option tactic.hygienic true in
theorem Fra.set (f:Fra He K H0 R H σ env) (i:Nat) {v:V} {d:Dt} (h:SlotR K H0 R H (some v) d) (ha: ∀(b:Addr),d.has H (some v) b→∀(j:Nat) (dj:Dt),j≠i→env[j]?=some dj→¬dj.has H (σ[j]?).join b):Fra He K H0 R H (σ.set i (some v)) (env.set i d):=by
 have g: ∀k,(σ.set i (some v))[k]?=if i=k then (if i < σ.length then some (some v) else none) else σ[k]?:=fun k=>List.getElem?_set ..
 have ge: ∀k,(env.set i d)[k]?=if i=k then (if i < env.length then some d else none) else env[k]?:=fun k=>List.getElem?_set ..
 refine ⟨f.at0,f.ext,by simp [f.len],fun k x e=> ?_,fun k j dk dj a ek ej ok oj=> ?_⟩
 · rw [ge] at e
   rw [g,f.len]
   by_cases hk:i=k
   · rw [if_pos hk] at e ⊢
     split at e
     · rename_i hl
       cases e
       rw [if_pos hl];exact h
     · cases e
   · rw [if_neg hk] at e ⊢
     exact f.slot k x e
 · rw [ge] at ek ej
   rw [g,f.len] at ok oj
   by_cases hk:i=k <;> by_cases hj:i=j
   · rw [← hk,hj]
   · rw [if_pos hk] at ek ok
     rw [if_neg hj] at ej oj
     split at ek
     · rename_i hl
       cases ek
       rw [if_pos hl] at ok
       exact absurd oj (ha a ok j dj (fun z=>hj z.symm) ej)
     · cases ek
   · rw [if_neg hk] at ek ok
     rw [if_pos hj] at ej oj
     split at ej
     · rename_i hl
       cases ej
       rw [if_pos hl] at oj
       exact absurd ok (ha a oj k dk (fun z=>hk z.symm) ek)
     · cases ej
   · rw [if_neg hk] at ek ok
     rw [if_neg hj] at ej oj
     exact f.apart k j dk dj a ek ej ok oj
theorem Fra.setD (f:Fra He K H0 R H σ env) (i:Nat) {v:V} {d:PyData} (h:Rp K R v d):Fra He K H0 R H (σ.set i (some v)) (env.set i (.d d)):=f.set i h (fun q_ z=>by cases z)
theorem Fra.setN' (f:Fra He K H0 R H σ env) (e:Ext R H R' H') (i:Nat) {v:V} {d:Dt} (h:SlotR K H0 R' H' (some v) d) (hn: ∀b,d.has H' (some v) b→H b=none):Fra He K H0 R' H' (σ.set i (some v)) (env.set i d):=
 (f.next e).set i h fun b hb j dj q_ ej oj=>by
   have oj:=(f.slot j dj ej).hasNext (fun a ys q_ z=>e.hh a _ z) oj
   obtain ⟨o,e2,_⟩:=(f.slot j dj ej).hasAt oj
   rw [hn b hb] at e2
   cases e2
theorem Fra.setN (f:Fra He K H0 R H σ env) (e:Ext R H R' H') (i:Nat) {a:Addr} {d:Dt} (hn:H a=none) (h:SlotR K H0 R' H' (some (.ref a)) d) (hd:autoParam (∀ b,d.has H' (some (.ref a)) b→a=b) u7._auto_1):Fra He K H0 R' H' (σ.set i (some (.ref a))) (env.set i d):=
 f.setN' e i h fun b hb=>by rw [← hd b hb];exact hn
theorem Fra.mut' (f:Fra He K H0 R H σ env) {i:Nat} {a:Addr} {d d':Dt} {o:HO} (h:env[i]?=some d) (hs:d.has H (σ[i]?).join a) (lo:kfo o)
 (h':SlotR K H0 R (upd H a o) (σ[i]?).join d') (hn: ∀b,d'.has (upd H a o) (σ[i]?).join b→d.has H (σ[i]?).join b∨∀(j:Nat) (dj:Dt),j≠i→env[j]?=some dj→¬dj.has H (σ[j]?).join b):Fra He K H0 R (upd H a o) σ (env.set i d'):=by
 obtain ⟨u,e2,e3,e4⟩:=(f.slot i d h).hasAt hs
 have ge: ∀k,(env.set i d')[k]?=if i=k then (if i < env.length then some d' else none) else env[k]?:=fun k=>List.getElem?_set ..
 have w:=Wd.mut (o:=o) f.wd e3 lo
 have nh: ∀(k:Nat) (x:Dt),i≠k→env[k]?=some x→¬x.has H (σ[k]?).join a:=fun k x hk e z=>hk (f.apart i k d x a h e hs z)
 have two: ∀(k j:Nat) (dk dj:Dt) (b:Addr),i=k→i≠j→(if i < env.length then some d' else none)=some dk→env[j]?=some dj→dk.has (upd H a o) (σ[k]?).join b→dj.has (upd H a o) (σ[j]?).join b→False:=fun k j dk dj b hk hj ek ej ok oj=>by
  subst hk
  split at ek
  · cases ek
    have oj:=(f.slot j dj ej).hasMut (nh j dj hj ej) oj
    rcases hn b ok with ok | nb
    · exact hj (f.apart i j d dj b h ej ok oj)
    · exact nb j dj (fun z=>hj z.symm) ej oj
  · cases ek
 refine ⟨f.at0,⟨f.ext.hh.put e4,f.ext.rr,w.rh,f.ext.nn,w.ls⟩,by simp [f.len],fun k x e=> ?_,fun k j dk dj b ek ej ok oj=> ?_⟩
 · rw [ge] at e
   by_cases hk:i=k
   · subst hk
     rw [if_pos rfl] at e
     split at e
     · cases e
       exact h'
     · cases e
   · rw [if_neg hk] at e
     exact (f.slot k x e).mut (nh k x hk e)
 · rw [ge] at ek ej
   by_cases hk:i=k <;> by_cases hj:i=j
   · rw [← hk,hj]
   · rw [if_pos hk] at ek
     rw [if_neg hj] at ej
     exact (two k j dk dj b hk hj ek ej ok oj).elim
   · rw [if_neg hk] at ek
     rw [if_pos hj] at ej
     exact (two j k dj dk b hj hk ej ek oj ok).elim
   · rw [if_neg hk] at ek
     rw [if_neg hj] at ej
     exact f.apart k j dk dj b ek ej ((f.slot k dk ek).hasMut (nh k dk hk ek) ok) ((f.slot j dj ej).hasMut (nh j dj hj ej) oj)
theorem Fra.mut (f:Fra He K H0 R H σ env) {i:Nat} {a:Addr} {d d':Dt} {o:HO} (h:env[i]?=some d) (hd:d.own=true) (hs:σ[i]?=some (some (.ref a))) (lo:kfo o)
 (h':SlotR K H0 R (upd H a o) (some (.ref a)) d') (hd':autoParam (∀ b,d'.has (upd H a o) (some (.ref a)) b→a=b) u7._auto_1):Fra He K H0 R (upd H a o) σ (env.set i d'):=by
 have hj:(σ[i]?).join=some (.ref a):=by rw [hs];rfl
 refine f.mut' h (by rw [hj];exact Dt.has_ref hd) lo (by rw [hj];exact h') fun b z=> .inl ?_
 rw [hj] at z ⊢
 rw [← hd' b z]
 exact Dt.has_ref hd
theorem SlotR.grow {K:PySem.W.Frag} {H0 R H R':Hp} {x:Option V} {d:Dt} (h:SlotR K H0 R H x d) (s:Same R R') (hn: ∀b,d.has H x b→R' b=none):SlotR K H0 R' H x d:=by
 cases d with
 | un=>cases x <;> trivial
 | d y=>cases x with
   | none=>exact h
   | some v=>exact Rp.same s h
 | o xs=>cases x with
   | none=>exact h
   | some v=>
     obtain ⟨a,ys,rfl,h2,h3,h4,h5⟩:=h
     exact ⟨a,ys,rfl,h2,hn a rfl,h4,RpAll.same s h5⟩
 | dk xs=>cases x with
   | none=>exact h
   | some v=>
     obtain ⟨a,ys,rfl,h2,h3,h4,h5⟩:=h
     exact ⟨a,ys,rfl,h2,hn a rfl,h4,KvR.same s h5⟩
 | dt xs=>cases x with
   | none=>exact h
   | some v=>
     obtain ⟨a,ys,rfl,h2,h3,h4,h5⟩:=h
     exact ⟨a,ys,rfl,h2,hn a rfl,h4,KvR.same s h5⟩
 | dv xs=>cases x with
   | none=>exact h
   | some v=>
     obtain ⟨a,ys,rfl,h2,h3,h4,h5⟩:=h
     exact ⟨a,ys,rfl,h2,hn a rfl,h4,DvR.same s h5⟩
 | oo xs=>cases x with
   | none=>exact h
   | some v=>
     obtain ⟨a,ys,rfl,h2,h3,h4,h5,h6⟩:=h
     refine ⟨a,ys,rfl,h2,hn a (.inl rfl),h4,?_,h6⟩
     have hm: ∀b,V.ref b∈ys→R' b=none:=fun b m=>hn b (.inr ⟨a,ys,rfl,h2,m⟩)
     clear h2 h6 hn
     induction h5 with
     | nil=>exact .nil
     | cons h t ih=>
       obtain ⟨b,zs,e1,e2,e3,e4,e5⟩:=h
       exact .cons ⟨b,zs,e1,e2,hm b (by rw [e1];exact List.mem_cons_self),e4,RpAll.same s e5⟩ (ih fun b m=>hm b (List.mem_cons_of_mem _ m))
theorem Fra.give (f:Fra He K H0 R H σ env) {i:Nat} {d d':Dt} (h:env[i]?=some d) (hr:Same R R') (hR: ∀b o,R' b=some o→R b=some o∨d.has H (σ[i]?).join b∧H b=some o) (h':SlotR K H0 R' H (σ[i]?).join d') (hn: ∀b,d'.has H (σ[i]?).join b→d.has H (σ[i]?).join b):Fra He K H0 R' H σ (env.set i d'):=by
 have ge: ∀k,(env.set i d')[k]?=if i=k then (if i < env.length then some d' else none) else env[k]?:=fun k=>List.getElem?_set ..
 refine ⟨f.at0,⟨f.ext.hh,f.ext.rr.trans hr,fun b o e=> ?_,fun b o e n=> ?_,fun b o e n=> ?_⟩,by simp [f.len],fun k x e=> ?_,fun k j dk dj b ek ej ok oj=> ?_⟩
 · rcases hR b o e with z | z
   · exact f.ext.rh b o z
   · exact z.2
 · rw [e] at n;cases n
 · cases q:R b with
   | none=>exact f.ext.ls b o e q
   | some u=>rw [hr b u q] at n;cases n
 · rw [ge] at e
   by_cases hk:i=k
   · subst hk
     rw [if_pos rfl] at e
     split at e
     · cases e;exact h'
     · cases e
   · rw [if_neg hk] at e
     refine (f.slot k x e).grow hr fun b hb=> ?_
     cases q:R' b with
     | none=>rfl
     | some o=>
       rcases hR b o q with z | z
       · obtain ⟨_,_,z2,_⟩:=(f.slot k x e).hasAt hb
         rw [z] at z2;cases z2
       · exact absurd (f.apart i k d x b h e z.1 hb) hk
 · have old: ∀(k:Nat) (dk:Dt),(env.set i d')[k]?=some dk→dk.has H (σ[k]?).join b→∃dk0,env[k]?=some dk0∧dk0.has H (σ[k]?).join b:=fun k dk ek ok=>by
    rw [ge] at ek
    by_cases hk:i=k
    · subst hk
      rw [if_pos rfl] at ek
      split at ek
      · cases ek;exact ⟨d,h,hn b ok⟩
      · cases ek
    · rw [if_neg hk] at ek
      exact ⟨dk,ek,ok⟩
   obtain ⟨d1,e1,o1⟩:=old k dk ek ok
   obtain ⟨d2,e2,o2⟩:=old j dj ej oj
   exact f.apart k j d1 d2 b e1 e2 o1 o2
theorem Fra.frz1 (f:Fra He K H0 R H σ env) {i:Nat} {xs:List PyData} (h:env[i]?=some (.o xs)): ∃a ys,σ[i]?=some (some (.ref a))∧H a=some (.lst ys)∧R a=none∧Same R (upd R a (.lst ys))∧Fra He K H0 (upd R a (.lst ys)) H σ (env.set i (.d (.list xs))):=by
 obtain ⟨v,hs,a,ys,rfl,h2,h3,h4,h5⟩:=f.get h (by intro z;cases z)
 have hr:Same R (upd R a (.lst ys)):=Same.new h3
 have hj:(σ[i]?).join=some (.ref a):=by rw [hs];rfl
 refine ⟨a,ys,hs,h2,h3,hr,f.give h hr (fun b o e=> ?_) (by rw [hj];exact .lst kad (RpAll.same hr h5)) (fun b z=>by cases z)⟩
 by_cases hb:b=a
 · subst hb;rw [kad] at e;cases e;exact .inr ⟨by rw [hj];exact rfl,h2⟩
 · rw [kah hb] at e;exact .inl e
theorem Fra.frz (f:Fra He K H0 R H σ env) {i:Nat} {xs:List PyData} (h:env[i]?=some (.o xs)): ∃R',Same R R'∧Fra He K H0 R' H σ (env.set i (.d (.list xs))):=by
 obtain ⟨a,ys,_,_,_,hr,F⟩:=f.frz1 h
 exact ⟨_,hr,F⟩
end
noncomputable abbrev De:=List Dt→(PyData→Prop)→Prop
noncomputable abbrev Dq:=List Dt→(List PyData→Prop)→Prop
noncomputable abbrev Db:=List Dt→(Bool→Prop)→Prop
section
variable (He:Hp) (K:PySem.W.Frag) {ι:Type} (Y:ι→Cx)
noncomputable def DE (e:Expr) (t:De):Prop:=∃te:TE,(∀ i,PE (Y i) e te)∧∀{H0 R H:Hp} {σ:St} {env:List Dt} (P:PyData→Prop) (Q:VK),Fra He K H0 R H σ env→t env P→
 (∀ d v R' H',P d→Ext R H R' H'→Rp K R' v d→Q v H')→te σ H Q
noncomputable def DB (e:Expr) (t:De):Prop:=∃te:TE,(∀ i,PE (Y i) e te)∧∀{H0 R H:Hp} {σ:St} {env:List Dt} (P:PyData→Prop) (Q:VK),Fra He K H0 R H σ env→t env P→
 (∀ d v R' H',P d→Ext R H R' H'→Rp K H' v d→Q v H')→te σ H Q
noncomputable def DQ (e:Expr) (t:Dq):Prop:=∃te:TE,(∀ i,PE (Y i) e te)∧∀{H0 R H:Hp} {σ:St} {env:List Dt} (P:List PyData→Prop) (Q:VK),Fra He K H0 R H σ env→t env P→
 (∀ ds a ys R' H',P ds→Ext R H R' H'→(SqL K H' a ys∨SqT K H' a ys)→RpAll K R' ys ds→Q (.ref a) H')→te σ H Q
noncomputable def DO (e:Expr) (t:Dq):Prop:=∃te:TE,(∀ i,PE (Y i) e te)∧∀{H0 R H:Hp} {σ:St} {env:List Dt} (P:List PyData→Prop) (Q:VK),Fra He K H0 R H σ env→t env P→
 (∀ ds a ys R' H',P ds→Ext R H R' H'→H a=none→H' a=some (.lst ys)→R' a=none→RpAll K R' ys ds→Q (.ref a) H')→te σ H Q
noncomputable def DT (e:Expr) (t:Db):Prop:=∃te:TT,(∀ i,PT (Y i) e te)∧∀{H0 R H:Hp} {σ:St} {env:List Dt} (P:Bool→Prop) (Q:Bool→Hp→Prop),Fra He K H0 R H σ env→t env P→
 (∀ b R' H',P b→Ext R H R' H'→Q b H')→te σ H Q
noncomputable def DW (e:Expr) (t:Db):Prop:=∃te:TT,(∀ i,PW (Y i) e te)∧∀{H0 R H:Hp} {σ:St} {env:List Dt} (P:Bool→Prop) (Q:Bool→Hp→Prop),Fra He K H0 R H σ env→t env P→
 (∀ b R' H',P b→Ext R H R' H'→Q b H')→te σ H Q
noncomputable def DA (es:List Expr) (t:Dq):Prop:=∃te:TA,(∀ i,PA (Y i) es te)∧∀{H0 R H:Hp} {σ:St} {env:List Dt} (P:List PyData→Prop) (Q:List V→Hp→Prop),Fra He K H0 R H σ env→t env P→
 (∀ ds vs R' H',P ds→Ext R H R' H'→RpAll K R' vs ds→Q vs H')→te σ H Q
noncomputable def Sc (v:V) (d:PyData):Prop:=∀(K:PySem.W.Frag) (R:Hp),Rp K R v d
noncomputable def OD (f:Value→Value→Sem Value) (r:PyData→PyData→(PyData→Prop)→Prop):Prop:=∃rr:R2,(∀ i,OpR (Y i) f rr)∧∀{H:Hp} {x y:V} {dx dy:PyData} (P:PyData→Prop) (Q:VK),Rp K H x dx→Rp K H y dy→r dx dy P→
 (∀ d v,P d→Sc v d→Q v H)→rr x y H Q
end
section
variable {He:Hp} {K:PySem.W.Frag} {ι:Type} {Y:ι→Cx} {e a b c:Expr} {es:List Expr} {pos:Pos}
noncomputable def xVar (i:Nat):De:=fun env P=>∃d,env[i]?=some (.d d)∧P d
noncomputable def xC (d:PyData):De:=fun q_ P=>P d
theorem kac (i:Nat) {x:Str} (h:autoParam (∀ j,PE (Y j) (.Name x pos) (khr i)) u8._auto_1):DE He K Y (.Name x pos) (xVar i):=
 ⟨_,h,fun P Q f ⟨d,e,p⟩ k=>by obtain ⟨v,h1,h2⟩:=f.data e;exact ⟨v,h1,k d v _ _ p (.refl f.wd) h2⟩⟩
theorem kao {i:Int} {j}:DE He K Y (.Constant (.int i) j pos) (xC (.int i)):=⟨_,fun q_=>kar,fun P Q f p k=>k _ _ _ _ p (.refl f.wd) (.int i)⟩
theorem klv {i:Bool} {j}:DE He K Y (.Constant (.bool i) j pos) (xC (.bool i)):=⟨_,fun q_=>kxe,fun P Q f p k=>k _ _ _ _ p (.refl f.wd) (.bl i)⟩
theorem kbv {j}:DE He K Y (.Constant .none j pos) (xC .none):=⟨_,fun q_=>kxf,fun P Q f p k=>k _ _ _ _ p (.refl f.wd) .non⟩
theorem DE.bw {t:De} (h:DE He K Y e t):DB He K Y e t:=by
 obtain ⟨te,h1,h2⟩:=h
 exact ⟨te,h1,fun P Q f p k=>h2 P Q f p fun d v R' H' pd e r=>k d v R' H' pd e (Rp.same e.rh r)⟩
noncomputable def kui:Dt→Option PyData
 | .d x=>some x
 | .o xs=>some (.list xs)
 | .oo xss=>some (.list (xss.map PyData.list))
 | _=>none
theorem OwnR.rp {K:PySem.W.Frag} {H0 R H H':Hp} {ys:List V} {xss:List (List PyData)} (h:OwnR K H0 R H ys xss) (s:Same R H') (e: ∀b zs,V.ref b∈ys→H b=some (.lst zs)→H' b=some (.lst zs)):RpAll K H' ys (xss.map PyData.list):=by
 induction h with
 | nil=>exact .nil
 | cons h t ih=>
   obtain ⟨b,zs,rfl,e2,e3,e4,e5⟩:=h
   exact .cons (.lst (e b zs List.mem_cons_self e2) (RpAll.same s e5)) (ih fun b zs m=>e b zs (List.mem_cons_of_mem _ m))
noncomputable def kuj (i:Nat):De:=fun env P=>∃s d,env[i]?=some s∧kui s=some d∧P d
theorem kap (i:Nat) {x:Str} (h:autoParam (∀ j,PE (Y j) (.Name x pos) (khr i)) u8._auto_1):DB He K Y (.Name x pos) (kuj i):=
 ⟨_,h,fun P Q f ⟨s,d,e,z,p⟩ k=>by
   cases s with
   | d x=>
     cases z
     obtain ⟨v,h1,h2⟩:=f.data e
     exact ⟨v,h1,k d v _ _ p (.refl f.wd) (Rp.same f.wd.rh h2)⟩
   | o xs=>
     cases z
     obtain ⟨v,hs,a,ys,rfl,h2,h3,h4,h5⟩:=f.get e (by intro z;cases z)
     exact ⟨_,hs,k _ _ _ _ p (.refl f.wd) (.lst h2 (RpAll.same f.wd.rh h5))⟩
   | oo xs=>
     cases z
     obtain ⟨v,hs,a,ys,rfl,h2,h3,h4,h5,_⟩:=f.get e (by intro z;cases z)
     exact ⟨_,hs,k _ _ _ _ p (.refl f.wd) (.lst h2 (h5.rp f.wd.rh fun q_ q_ q_ z=>z))⟩
   | un=>cases z
   | dk _=>cases z
   | dt _=>cases z
   | dv _=>cases z⟩
noncomputable def excK:List (PyData×PyData)→Bool
 | (.bool _,_)::_=>true
 | _=>false
theorem kgw (ns:List Int):excK (ns.map fun n=>(PyData.int n,PyData.none))=false:=by cases ns <;> rfl
noncomputable def kp8:PyData→Option (List PyData)
 | .list xs=>some xs
 | .tuple xs=>some xs
 | .dict kvs=>if excK kvs=true then none else some (kvs.map (·.1))
 | _=>none
noncomputable def seqS:Dt→Option (List PyData)
 | .d x=>kp8 x
 | .o xs=>some xs
 | _=>none
theorem kfp {H:Hp} {v:V} {d:PyData} {l:List PyData} (r:Rp K H v d) (h:kp8 d=some l): ∃a ys,v= .ref a∧(SqL K H a ys∨SqT K H a ys)∧RpAll K H ys l:=by
 cases r with
 | lst h1 h2=>cases h;exact ⟨_,_,rfl,.inl (SqL.of h1),h2⟩
 | @scr a ns h1=>
   have h:(if excK (ns.map fun n=>(PyData.int n,PyData.none))=true then none else some ((ns.map fun n=>(PyData.int n,PyData.none)).map (·.1)))=some l:=h
   rw [kgw,if_neg Bool.false_ne_true,List.map_map] at h
   cases h
   exact ⟨_,_,rfl,.inl h1,RpAll.ints ns⟩
 | tup h1 h2=>cases h;exact ⟨_,_,rfl,.inr (SqT.of h1),h2⟩
 | non=>cases h
 | bl _=>cases h
 | int _=>cases h
 | str _=>cases h
 | any=>cases h
 | xc _=>cases h
theorem Same.seqT {H H':Hp} {a:Addr} {xs:List V} (e:Same H H') (h:SqT K H a xs):SqT K H' a xs:=(Same.tk e).sqT h
theorem Same.sq {H H':Hp} {a:Addr} {xs:List V} (e:Same H H') (h:SqL K H a xs∨SqT K H a xs):SqL K H' a xs∨SqT K H' a xs:=h.imp e.seq e.seqT
noncomputable def xSeq (t:De):Dq:=fun env P=>t env fun d=>∃l,kp8 d=some l∧P l
theorem DE.q {t:De} (h:DE He K Y e t):DQ He K Y e (xSeq t):=by
 obtain ⟨te,h1,h2⟩:=h
 refine ⟨te,h1,fun P Q f p k=>h2 _ Q f p fun d v R' H' ⟨l,hl,pl⟩ e r=> ?_⟩
 obtain ⟨a,ys,rfl,h3,h4⟩:=kfp r hl
 exact k l a ys R' H' pl e (e.rh.sq h3) h4
noncomputable def kuk (i:Nat):Dq:=fun env P=>∃s l,env[i]?=some s∧seqS s=some l∧P l
theorem kan (i:Nat) {x:Str} (h:autoParam (∀ j,PE (Y j) (.Name x pos) (khr i)) u8._auto_1):DQ He K Y (.Name x pos) (kuk i):=
 ⟨_,h,fun P Q f ⟨s,l,e,z,p⟩ k=>by
   cases s with
   | d x=>
     obtain ⟨v,h1,h2⟩:=f.data e
     obtain ⟨a,ys,rfl,h3,h4⟩:=kfp h2 z
     exact ⟨_,h1,k l a ys _ _ p (.refl f.wd) (f.wd.rh.sq h3) h4⟩
   | o xs=>
     cases z
     obtain ⟨v,hs,a,ys,rfl,h2,h3,h4,h5⟩:=f.get e (by intro z;cases z)
     exact ⟨_,hs,k _ a ys _ _ p (.refl f.wd) (.inl (SqL.of h2)) h5⟩
   | un=>cases z
   | oo _=>cases z
   | dk _=>cases z
   | dt _=>cases z
   | dv _=>cases z⟩
noncomputable def xLst (t:Dq):De:=fun env P=>t env fun l=>P (.list l)
theorem DO.ew {t:Dq} (h:DO He K Y e t):DE He K Y e (xLst t):=by
 obtain ⟨te,h1,h2⟩:=h
 refine ⟨te,h1,fun P Q f p k=>h2 _ Q f p fun ds a ys R' H' pl e hn ha hr r=> ?_⟩
 have s:=Same.new (H:=R') (p:=a) (o:= .lst ys) hr
 refine k _ _ (upd R' a (.lst ys)) H' pl ⟨e.hh,e.rr.trans s,fun b o z=> ?_,fun b o z n=> ?_,fun b o z n=> ?_⟩ (.lst kad (RpAll.same s r))
 · by_cases hb:b=a
   · subst hb;rw [kad] at z;cases z;exact ha
   · rw [kah hb] at z;exact e.rh b o z
 · rw [kah (kaf z hn)];exact e.nn b o z n
 · by_cases hb:b=a
   · subst hb;rw [kad] at n;cases n
   · rw [kah hb] at n;exact e.ls b o z n
theorem DO.q {t:Dq} (h:DO He K Y e t):DQ He K Y e t:=by
 obtain ⟨te,h1,h2⟩:=h
 exact ⟨te,h1,fun P Q f p k=>h2 P Q f p fun ds a ys R' H' pl e hn ha hr r=>k ds a ys R' H' pl e (.inl (SqL.of ha)) r⟩
theorem DO.bw {t:Dq} (h:DO He K Y e t):DB He K Y e (xLst t):=h.ew.bw
noncomputable def x2 (r:PyData→PyData→(PyData→Prop)→Prop) (ta tb:De):De:=fun env P=>ta env fun x=>tb env fun y=>r x y P
theorem km6 {f:Value→Value→Sem Value} {r:PyData→PyData→(PyData→Prop)→Prop} {ta tb:De} {te te':TE} {rr:R2}
 (ha: ∀{H0 R H:Hp} {σ:St} {env:List Dt} (P:PyData→Prop) (Q:VK),Fra He K H0 R H σ env→ta env P→(∀ d v R' H',P d→Ext R H R' H'→Rp K H' v d→Q v H')→te σ H Q)
 (hb: ∀{H0 R H:Hp} {σ:St} {env:List Dt} (P:PyData→Prop) (Q:VK),Fra He K H0 R H σ env→tb env P→(∀ d v R' H',P d→Ext R H R' H'→Rp K H' v d→Q v H')→te' σ H Q)
 (ho: ∀{H:Hp} {x y:V} {dx dy:PyData} (P:PyData→Prop) (Q:VK),Rp K H x dx→Rp K H y dy→r dx dy P→(∀ d v,P d→Sc v d→Q v H)→rr x y H Q)
 {H0 R H:Hp} {σ:St} {env:List Dt} (P:PyData→Prop) (Q:VK) (F:Fra He K H0 R H σ env) (p:x2 r ta tb env P) (k: ∀d v R' H',P d→Ext R H R' H'→Rp K R' v d→Q v H'):tOp rr te te' σ H Q:=by
 refine ha _ _ F p fun d v R1 H1 p1 e1 r1=> ?_
 refine hb _ _ (F.next e1) p1 fun d2 v2 R2 H2 p2 e2 r2=> ?_
 exact ho P _ (Rp.same e2.hh r1) r2 p2 fun d3 v3 p3 s3=>k d3 v3 R2 H2 p3 (e1.trans e2) (s3 K R2)
theorem ke2 {op:Operator} {r:PyData→PyData→(PyData→Prop)→Prop} {ta tb:De} (o:OD K Y (binaryOp op) r) (ha:DB He K Y a ta) (hb:DB He K Y b tb):DE He K Y (.BinOp a op b pos) (x2 r ta tb):=by
 obtain ⟨te,h1,h2⟩:=ha
 obtain ⟨te',h3,h4⟩:=hb
 obtain ⟨rr,h5,h6⟩:=o
 exact ⟨_,fun i=>ka0 (h5 i) (h1 i) (h3 i),fun P Q F p k=>km6 (f:=binaryOp op) h2 h4 h6 P Q F p k⟩
theorem km7 {op:CmpOp} {r:PyData→PyData→(PyData→Prop)→Prop} {ta tb:De} (o:OD K Y (compareOp op) r) (ha:DB He K Y a ta) (hb:DB He K Y b tb) (hm:autoParam (behindInMarks op b=false) u9._auto_1):DE He K Y (.Compare a [op] [b] pos) (x2 r ta tb):=by
 obtain ⟨te,h1,h2⟩:=ha
 obtain ⟨te',h3,h4⟩:=hb
 obtain ⟨rr,h5,h6⟩:=o
 exact ⟨_,fun i=>kek (h5 i) (h1 i) (h3 i) hm,fun P Q F p k=>km6 (f:=compareOp op) h2 h4 h6 P Q F p k⟩
noncomputable def xB (t:De):Db:=fun env P=>t env fun d=>∃b,d= .bool b∧P b
theorem ka3 {op:CmpOp} {r:PyData→PyData→(PyData→Prop)→Prop} {ta tb:De} (o:OD K Y (compareOp op) r) (ha:DB He K Y a ta) (hb:DB He K Y b tb) (hm:autoParam (behindInMarks op b=false) u9._auto_1):DT He K Y (.Compare a [op] [b] pos) (xB (x2 r ta tb)):=by
 obtain ⟨te,h1,h2⟩:=ha
 obtain ⟨te',h3,h4⟩:=hb
 obtain ⟨rr,h5,h6⟩:=o
 refine ⟨_,fun i=>kdq (h5 i) (h1 i) (h3 i) hm,fun P Q F p k=>km6 (f:=compareOp op) h2 h4 h6 _ _ F p fun d v R' H' ⟨b,eb,pb⟩ e r=> ?_⟩
 subst eb
 exact ⟨b,r.bl_inv,k b R' H' pb e⟩
noncomputable def kj4 (r r':PyData→PyData→(PyData→Prop)→Prop) (ta tb tc:De):De:=fun env P=>ta env fun x=>tb env fun y=>r x y fun z=>∃k,z= .bool k∧if k=true then tc env fun w=>r' y w P else P (.bool false)
theorem klw {r r':PyData→PyData→(PyData→Prop)→Prop} {ta tb tc:De} {te te' te'':TE} {rr rr':R2}
 (ha: ∀{H0 R H:Hp} {σ:St} {env:List Dt} (P:PyData→Prop) (Q:VK),Fra He K H0 R H σ env→ta env P→(∀ d v R' H',P d→Ext R H R' H'→Rp K H' v d→Q v H')→te σ H Q)
 (hb: ∀{H0 R H:Hp} {σ:St} {env:List Dt} (P:PyData→Prop) (Q:VK),Fra He K H0 R H σ env→tb env P→(∀ d v R' H',P d→Ext R H R' H'→Rp K H' v d→Q v H')→te' σ H Q)
 (hc: ∀{H0 R H:Hp} {σ:St} {env:List Dt} (P:PyData→Prop) (Q:VK),Fra He K H0 R H σ env→tc env P→(∀ d v R' H',P d→Ext R H R' H'→Rp K H' v d→Q v H')→te'' σ H Q)
 (ho: ∀{H:Hp} {x y:V} {dx dy:PyData} (P:PyData→Prop) (Q:VK),Rp K H x dx→Rp K H y dy→r dx dy P→(∀ d v,P d→Sc v d→Q v H)→rr x y H Q)
 (ho': ∀{H:Hp} {x y:V} {dx dy:PyData} (P:PyData→Prop) (Q:VK),Rp K H x dx→Rp K H y dy→r' dx dy P→(∀ d v,P d→Sc v d→Q v H)→rr' x y H Q)
 {H0 R H:Hp} {σ:St} {env:List Dt} (P:PyData→Prop) (Q:VK) (F:Fra He K H0 R H σ env) (p:kj4 r r' ta tb tc env P) (k: ∀d v R' H',P d→Ext R H R' H'→Rp K R' v d→Q v H'):kmr rr rr' te te' te'' σ H Q:=by
 refine ha _ _ F p fun d v R1 H1 p1 e1 r1=> ?_
 refine hb _ _ (F.next e1) p1 fun d2 v2 R2 H2 p2 e2 r2=> ?_
 refine ho _ _ (Rp.same e2.hh r1) r2 p2 fun d3 v3 ⟨b,eb,p3⟩ s3=> ?_
 subst eb
 have ev:=(s3 K R2).bl_inv
 subst ev
 refine ⟨b,rfl,?_⟩
 cases b with
 | true=>
   rw [if_pos rfl] at p3 ⊢
   refine hc _ _ (F.next (e1.trans e2)) p3 fun d4 v4 R4 H4 p4 e4 r4=> ?_
   exact ho' P _ (Rp.same e4.hh r2) r4 p4 fun d5 v5 p5 s5=>k d5 v5 R4 H4 p5 ((e1.trans e2).trans e4) (s5 K R4)
 | false=>
   rw [if_neg Bool.false_ne_true] at p3 ⊢
   exact k _ _ R2 H2 p3 (e1.trans e2) (.bl false)
theorem kqs {op op':CmpOp} {r r':PyData→PyData→(PyData→Prop)→Prop} {ta tb tc:De} (o:OD K Y (compareOp op) r) (o':OD K Y (compareOp op') r') (ha:DB He K Y a ta) (hb:DB He K Y b tb) (hc:DB He K Y c tc)
 (hm:autoParam (lastMarks [op,op'] [b,c]=false) u5._auto_1):DT He K Y (.Compare a [op,op'] [b,c] pos) (xB (kj4 r r' ta tb tc)):=by
 obtain ⟨te,h1,h2⟩:=ha
 obtain ⟨te',h3,h4⟩:=hb
 obtain ⟨te'',h7,h8⟩:=hc
 obtain ⟨rr,h5,h6⟩:=o
 obtain ⟨rr',h9,h10⟩:=o'
 refine ⟨_,fun i=>kjw (h5 i) (h9 i) (h1 i) (h3 i) (h7 i) hm,fun P Q F p k=>klw h2 h4 h8 h6 h10 _ _ F p fun d v R' H' ⟨b,eb,pb⟩ e r=> ?_⟩
 subst eb
 exact ⟨b,r.bl_inv,k b R' H' pb e⟩
noncomputable def kul (g:Int→Int→PyData):PyData→PyData→(PyData→Prop)→Prop:=fun x y P=>∃i j,x= .int i∧y= .int j∧P (g i j)
noncomputable def rdI (C:Int→Int→Prop) (g:Int→Int→PyData):PyData→PyData→(PyData→Prop)→Prop:=fun x y P=>∃i j,x= .int i∧y= .int j∧C i j∧P (g i j)
theorem kum (i:Int):Sc (.int i) (.int i):=fun q_ q_=> .int i
theorem kqt (i:Bool):Sc (.bl i) (.bool i):=fun q_ q_=> .bl i
theorem kqu {f:Value→Value→Sem Value} {g:Int→Int→V} {gd:Int→Int→PyData} (ho: ∀i,OpR (Y i) f (rI0 g)) (hs: ∀i j,Sc (g i j) (gd i j)):OD K Y f (kul gd):=by
 refine ⟨_,ho,fun P Q r1 r2 p k=> ?_⟩
 obtain ⟨i,j,rfl,rfl,p⟩:=p
 exact ⟨i,j,r1.int_inv,r2.int_inv,k _ _ p (hs i j)⟩
theorem od_I {f:Value→Value→Sem Value} {C:Int→Int→Prop} {g:Int→Int→V} {gd:Int→Int→PyData} (ho: ∀i,OpR (Y i) f (rI C g)) (hs: ∀i j,Sc (g i j) (gd i j)):OD K Y f (rdI C gd):=by
 refine ⟨_,ho,fun P Q r1 r2 p k=> ?_⟩
 obtain ⟨i,j,rfl,rfl,hc,p⟩:=p
 exact ⟨i,j,r1.int_inv,r2.int_inv,hc,k _ _ p (hs i j)⟩
theorem kj5:OD K Y (binaryOp .Sub) (kul fun i j=> .int (i - j)):=kqu (fun q_=>ksq) fun q_ q_=>kum _
theorem km8:OD K Y (binaryOp .FloorDiv) (rdI CDiv fun i j=> .int (i / j)):=od_I (fun q_=>kb1) fun q_ q_=>kum _
theorem ksx:OD K Y (binaryOp .Mod) (rdI (fun q_ j=>0 < j) fun i j=> .int (i % j)):=od_I (fun q_=>kb7) fun q_ q_=>kum _
theorem od_lt:OD K Y (compareOp .Lt) (kul fun i j=> .bool (decide (i < j))):=kqu (fun q_=>kql) fun q_ q_=>kqt _
theorem od_le:OD K Y (compareOp .LtE) (kul fun i j=> .bool (decide (i≤j))):=kqu (fun q_=>kt8) fun q_ q_=>kqt _
theorem kun:OD K Y (compareOp .Gt) (kul fun i j=> .bool (decide (j < i))):=kqu (fun q_=>kt9) fun q_ q_=>kqt _
noncomputable def okD (d:PyData):Prop:=d.canLay0=true
noncomputable def ki1 (d:PyData):Prop:=d.depth≤9
noncomputable def rdEq:PyData→PyData→(PyData→Prop)→Prop:=fun x y P=>okD x∧okD y∧(ki1 x∨ki1 y)∧P (.bool (PyData.eqv x y))
noncomputable def rdNe:PyData→PyData→(PyData→Prop)→Prop:=fun x y P=>okD x∧okD y∧(ki1 x∨ki1 y)∧P (.bool (!PyData.eqv x y))
theorem kgx (hu: ∀i,(Y i).A.units + 10 < cLine) (hK:autoParam (∀ i,(Y i).K=K) u3._auto_1):OD K Y (compareOp .Eq) rdEq:=by
 refine ⟨_,fun i=>kx5 K (hu i) (hK i),fun P Q r1 r2 p k=> ?_⟩
 obtain ⟨h1,h2,h3,p⟩:=p
 exact ⟨_,_,r1,r2,h1,h2,by unfold ki1 at h3;lia,k _ _ p (kqt _)⟩
theorem kx6 {X:Cx} (K:PySem.W.Frag) (hu:X.A.units + 10 < cLine) (h:autoParam (X.K=K) u4._auto_1):OpR X (compareOp .NotEq) (fun x y H Q=>∃dx dy,Rp K H x dx∧Rp K H y dy∧dx.canLay0=true∧dy.canLay0=true∧min dx.depth dy.depth≤9∧Q (.bl (!PyData.eqv dx dy)) H):=by
 subst h
 intro pins s σ H x y v u Q I rx ry hq
 obtain ⟨dx,dy,h1,h2,l1,l2,hd,q⟩:=hq
 obtain ⟨as,ra⟩:=I.reads h1 rx l1
 obtain ⟨bs,rb⟩:=I.reads h2 ry l2
 exact SeqAt.rcNeAt_reads ra rb l1 l2 (by lia) _ _ _ _ ⟨.bl _,H,I,rfl,q⟩
theorem ke8 (hu: ∀i,(Y i).A.units + 10 < cLine) (hK:autoParam (∀ i,(Y i).K=K) u3._auto_1):OD K Y (compareOp .NotEq) rdNe:=by
 refine ⟨_,fun i=>kx6 K (hu i) (hK i),fun P Q r1 r2 p k=> ?_⟩
 obtain ⟨h1,h2,h3,p⟩:=p
 exact ⟨_,_,r1,r2,h1,h2,by unfold ki1 at h3;lia,k _ _ p (kqt _)⟩
noncomputable def rdIn:PyData→PyData→(PyData→Prop)→Prop:=fun x y P=>∃l,kp8 y=some l∧PyData.canLayAll0 l=true∧okD x∧ki1 x∧P (.bool (l.any fun d=>PyData.eqv d x))
theorem od_in (hu: ∀i,(Y i).A.units + 10 < cLine) (hK:autoParam (∀ i,(Y i).K=K) u3._auto_1):OD K Y (compareOp .In) rdIn:=by
 refine ⟨_,fun i=>km4 K (hu i) (hK i),fun P Q r1 r2 p k=> ?_⟩
 obtain ⟨l,h1,h2,h3,h4,p⟩:=p
 obtain ⟨a,ys,rfl,h5,h6⟩:=kfp r2 h1
 exact ⟨a,ys,l,_,rfl,h5,h6,r1,h2,h3,h4,k _ _ p (kqt _)⟩
noncomputable def isNone:PyData→Bool
 | .none=>true
 | _=>false
theorem km9 {H:Hp} {v:V} {d:PyData} (r:Rp K H v d):decide (v= .non)=isNone d:=by
 cases r <;> simp [isNone,ke7,anyD,excD]
theorem klx:OD K Y (compareOp .Is) (fun x y P=>y= .none∧P (.bool (isNone x))):=by
 refine ⟨_,fun i=>kxs,fun P Q r1 r2 p k=> ?_⟩
 obtain ⟨rfl,p⟩:=p
 cases r2
 exact ⟨rfl,by rw [km9 r1];exact k _ _ p (kqt _)⟩
theorem kgy:OD K Y (compareOp .IsNot) (fun x y P=>y= .none∧P (.bool (!isNone x))):=by
 refine ⟨_,fun i=>kua,fun P Q r1 r2 p k=> ?_⟩
 obtain ⟨rfl,p⟩:=p
 cases r2
 exact ⟨rfl,by rw [km9 r1];exact k _ _ p (kqt _)⟩
theorem ke3 {t:De} (h:DB He K Y e t) (he:autoParam (∀ i whole,isTrue e (Y i).env whole=(do let v ← whole;standAt e.pos;holding [v] (truthy v))) u10._auto_1):DT He K Y e (xB t):=by
 obtain ⟨te,h1,h2⟩:=h
 refine ⟨_,fun i=>kjt (h1 i) (he i),fun P Q F p k=>h2 _ _ F p fun d v R' H' ⟨b,eb,pb⟩ e r=> ?_⟩
 subst eb
 exact ⟨b,r.bl_inv,k b R' H' pb e⟩
noncomputable def xNot (t:Db):Db:=fun env P=>t env fun b=>P (!b)
theorem kh8 {t:Db} (h:DT He K Y a t):DT He K Y (.UnaryOp .Not a pos) (xNot t):=by
 obtain ⟨te,h1,h2⟩:=h
 exact ⟨_,fun i=>kxh (h1 i),fun P Q F p k=>h2 _ _ F p fun b R' H' pb e=>k _ R' H' pb e⟩
noncomputable def xAnd (t u:Db):Db:=fun env P=>t env fun b=>if b=true then u env P else P false
noncomputable def xOr (t u:Db):Db:=fun env P=>t env fun b=>if b=true then P true else u env P
theorem ki2 {t:Db} (h:DT He K Y a t):DW He K Y (.BoolOp .And [a] pos) t:=by
 obtain ⟨te,h1,h2⟩:=h
 exact ⟨_,fun i=>kgu (h1 i),h2⟩
theorem kna {t:Db} (h:DT He K Y a t):DW He K Y (.BoolOp .Or [a] pos) t:=by
 obtain ⟨te,h1,h2⟩:=h
 exact ⟨_,fun i=>kso (h1 i),h2⟩
theorem knc {t u:Db} (h:DT He K Y a t) (h':DW He K Y (.BoolOp .And (b::es) pos) u):DW He K Y (.BoolOp .And (a::b::es) pos) (xAnd t u):=by
 obtain ⟨te,h1,h2⟩:=h
 obtain ⟨te',h3,h4⟩:=h'
 refine ⟨_,fun i=>kju (h1 i) (h3 i),fun P Q F p k=>h2 _ _ F p fun b R' H' pb e=> ?_⟩
 cases b with
 | true=>
   rw [if_pos rfl] at pb ⊢
   exact h4 P Q (F.next e) pb fun b R2 H2 p2 e2=>k b R2 H2 p2 (e.trans e2)
 | false=>
   rw [if_neg Bool.false_ne_true] at pb ⊢
   exact k _ R' H' pb e
theorem kqv {t u:Db} (h:DT He K Y a t) (h':DW He K Y (.BoolOp .Or (b::es) pos) u):DW He K Y (.BoolOp .Or (a::b::es) pos) (xOr t u):=by
 obtain ⟨te,h1,h2⟩:=h
 obtain ⟨te',h3,h4⟩:=h'
 refine ⟨_,fun i=>kxg (h1 i) (h3 i),fun P Q F p k=>h2 _ _ F p fun b R' H' pb e=> ?_⟩
 cases b with
 | true=>
   rw [if_pos rfl] at pb ⊢
   exact k _ R' H' pb e
 | false=>
   rw [if_neg Bool.false_ne_true] at pb ⊢
   exact h4 P Q (F.next e) pb fun b R2 H2 p2 e2=>k b R2 H2 p2 (e.trans e2)
theorem DW.t {t:Db} (h:DW He K Y e t):DT He K Y e t:=by
 obtain ⟨te,h1,h2⟩:=h
 exact ⟨te,fun i=>(h1 i).pt,h2⟩
noncomputable def xNeg (t:De):De:=fun env P=>t env fun x=>∃i,x= .int i∧P (.int (-i))
theorem ksy {t:De} (h:DE He K Y a t):DE He K Y (.UnaryOp .USub a pos) (xNeg t):=by
 obtain ⟨te,h1,h2⟩:=h
 refine ⟨_,fun i=>pe_un kxr (h1 i),fun P Q F p k=>h2 _ _ F p fun d v R' H' ⟨c,ec,pc⟩ e r=> ?_⟩
 subst ec
 exact ⟨c,r.int_inv,k _ _ R' H' pc e (.int _)⟩
noncomputable def xIf (t:Db) (ta tb:De):De:=fun env P=>t env fun b=>if b=true then ta env P else tb env P
theorem kx7 {t:Db} {ta tb:De} (hc:DT He K Y c t) (ha:DE He K Y a ta) (hb:DE He K Y b tb):DE He K Y (.IfExp c a b pos) (xIf t ta tb):=by
 obtain ⟨te,h1,h2⟩:=hc
 obtain ⟨te',h3,h4⟩:=ha
 obtain ⟨te'',h5,h6⟩:=hb
 refine ⟨_,fun i=>kqg (h1 i) (h3 i) (h5 i),fun P Q F p k=>h2 _ _ F p fun b R' H' pb e=> ?_⟩
 cases b with
 | true=>
   rw [if_pos rfl] at pb ⊢
   exact h4 P Q (F.next e) pb fun d v R2 H2 p2 e2=>k d v R2 H2 p2 (e.trans e2)
 | false=>
   rw [if_neg Bool.false_ne_true] at pb ⊢
   exact h6 P Q (F.next e) pb fun d v R2 H2 p2 e2=>k d v R2 H2 p2 (e.trans e2)
end
end L2
namespace L2
open PySem PySem.Spec PyProof.Rows
theorem szl {n:Nat} (h:n≤100000):n≤sizeLine:=Nat.le_trans h (by decide)
section
variable {He:Hp} {K:PySem.W.Frag} {ι:Type} {Y:ι→Cx} {e a b c:Expr} {es:List Expr} {pos:Pos}
theorem RpAll.at {R:Hp} {ys:List V} {l:List PyData} {k:Int} {d:PyData} (r:RpAll K R ys l) (h:atI l k=some d): ∃v,atI ys k=some v∧Rp K R v d:=by
 unfold atI at h ⊢
 rw [r.len]
 cases q:ixN l.length k with
 | none=>rw [q] at h;cases h
 | some j=>
   rw [q] at h
   exact r.get' h
noncomputable def xIx (t:Dq) (ti:De):De:=fun env P=>t env fun l=>ti env fun i=>∃k d,i= .int k∧atI l k=some d∧P d
theorem kuo {X:Cx} (K:PySem.W.Frag) (h:autoParam (X.K=K) u4._auto_1):IxR X (rIx K):=h▸kxz
theorem kaw {t:Dq} {ti:De} (ha:DQ He K Y a t) (hb:DB He K Y b ti) (hs:autoParam (kmy b) u10._auto_1) (hK:autoParam (∀ i,(Y i).K=K) u3._auto_1):DE He K Y (.Subscript a b pos) (xIx t ti):=by
 obtain ⟨te,h1,h2⟩:=ha
 obtain ⟨te',h3,h4⟩:=hb
 refine ⟨_,fun i=>kdr (kuo K (hK i)) (h1 i) (h3 i) hs,fun P Q F p k=> ?_⟩
 refine h2 _ _ F p fun l p1 ys R1 H1 q1 e1 s1 r1=> ?_
 refine h4 _ _ (F.next e1) q1 fun d v R2 H2 q2 e2 r2=> ?_
 obtain ⟨j,d',rfl,hd,q2⟩:=q2
 have ev:=r2.int_inv
 subst ev
 obtain ⟨w,hw,rw'⟩:=r1.at hd
 have fin:=k d' w R2 H2 q2 (e1.trans e2) (Rp.same e2.rr rw')
 rcases e2.hh.sq s1 with z | z
 · exact .inl ⟨p1,ys,j,w,rfl,rfl,z,hw,fin⟩
 · exact .inr (.inl ⟨p1,ys,j,w,rfl,rfl,z,hw,fin⟩)
noncomputable def xNil:Dq:=fun q_ P=>P []
noncomputable def kup (t:De) (u:Dq):Dq:=fun env P=>t env fun d=>u env fun ds=>P (d::ds)
theorem kak:DA He K Y [] xNil:=⟨_,fun q_=>kai,fun P Q F p k=>k [] [] _ _ p (.refl F.wd) .nil⟩
theorem kaa {t:De} {u:Dq} (h:DE He K Y e t) (h':DA He K Y es u) (hs:autoParam (∀ i,starEach (e::es) (Y i).env=(false,eval e (Y i).env)::starEach es (Y i).env) u3._auto_1):DA He K Y (e::es) (kup t u):=by
 obtain ⟨te,h1,h2⟩:=h
 obtain ⟨te',h3,h4⟩:=h'
 refine ⟨_,fun i=>kab (h1 i) (h3 i) (hs i),fun P Q F p k=> ?_⟩
 refine h2 _ _ F p fun d v R1 H1 q1 e1 r1=> ?_
 refine h4 _ _ (F.next e1) q1 fun ds vs R2 H2 q2 e2 r2=> ?_
 exact k _ _ R2 H2 q2 (e1.trans e2) (.cons (Rp.same e2.rr r1) r2)
noncomputable def xTup (t:Dq):De:=fun env P=>t env fun ds=>ds.length≤100000∧P (.tuple ds)
theorem kch {t:Dq} {x1} (h:DA He K Y es t):DE He K Y (.Tuple es x1 pos) (xTup t):=by
 obtain ⟨te,h1,h2⟩:=h
 refine ⟨_,fun i=>kez (h1 i),fun P Q F p k=>h2 _ _ F p fun ds vs R1 H1 ⟨hl,q⟩ e1 r1=>⟨szl (by rw [r1.len];exact hl),fun a ha=> ?_⟩⟩
 have e2:=Ext.new (o:= .tup vs) e1.wd ha
 exact k _ _ _ _ q (e1.trans e2) (.tup kad (RpAll.same e2.rr r1))
noncomputable def kuq (t:Dq):Dq:=fun env P=>t env fun ds=>ds.length≤100000∧P ds
theorem kd9 {t:Dq} (h:DA He K Y es t):DO He K Y (.List es pos) (kuq t):=by
 obtain ⟨te,h1,h2⟩:=h
 refine ⟨_,fun i=>ke0 (h1 i),fun P Q F p k=>h2 _ _ F p fun ds vs R1 H1 ⟨hl,q⟩ e1 r1=>⟨szl (by rw [r1.len];exact hl),fun a ha=> ?_⟩⟩
 have e2:=Ext.newO (o:= .lst vs) e1.wd ha trivial
 exact k _ _ _ _ _ q (e1.trans e2) (e1.hh.free ha) kad (e1.wd.rh.free ha) r1
noncomputable def xLen (t:Dq):De:=fun env P=>t env fun l=>P (.int (l.length:Int))
theorem ke4 {t:Dq} {p:Pos} (h:DQ He K Y a t) (hm: ∀i,(Y i).mg "len"=none) (hg:autoParam (∀ i,Gl (Y i) "len") u3._auto_1) (hK:autoParam (∀ i,(Y i).K=K) u3._auto_1) (hs:autoParam (∀ i,starEach [a] (Y i).env=[(false,eval a (Y i).env)]) u3._auto_1):
 DE He K Y (.Call (.Name "len" p) [a] [] pos) (xLen t):=by
 obtain ⟨te,h1,h2⟩:=h
 refine ⟨_,fun i=>kbf (km5 K (hK i)) (hg i) (hm i) boot_len (kab (h1 i) kai (hs i)) (by decide) (by decide) (hs i),fun P Q F p k=>h2 _ _ F p fun l x ys R1 H1 q1 e1 s1 r1=> ?_⟩
 exact ⟨x,ys,rfl,s1,by rw [r1.len];exact k _ _ R1 H1 q1 e1 (.int _)⟩
theorem kdn {X:Cx} (K:PySem.W.Frag) (h:autoParam (X.K=K) u4._auto_1):CallR X (.type "tuple") (fun xs H Q=>∃p ys,xs=[.ref p]∧((SqL K H p ys∧∀l,H l=none→Q (.ref l) (upd H l (.tup ys)))∨(SqT K H p ys∧Q (.ref p) H))):=h▸kd7
noncomputable def kj6 (t:Dq):De:=fun env P=>t env fun l=>P (.tuple l)
theorem kdd {t:Dq} {p:Pos} (h:DO He K Y a t) (hm: ∀i,(Y i).mg "tuple"=none) (hg:autoParam (∀ i,Gl (Y i) "tuple") u3._auto_1) (hK:autoParam (∀ i,(Y i).K=K) u3._auto_1) (hs:autoParam (∀ i,starEach [a] (Y i).env=[(false,eval a (Y i).env)]) u3._auto_1):
 DE He K Y (.Call (.Name "tuple" p) [a] [] pos) (kj6 t):=by
 obtain ⟨te,h1,h2⟩:=h
 refine ⟨_,fun i=>kbq (kdn K (hK i)) (hg i) (hm i) boot_tuple (kab (h1 i) kai (hs i)) (by decide) (by decide) (hs i),fun P Q F p k=>h2 _ _ F p fun l x ys R1 H1 q1 e1 hn hx hr r1=> ?_⟩
 refine ⟨x,ys,rfl,.inl ⟨SqL.of hx,fun a ha=> ?_⟩⟩
 have e2:=Ext.new (o:= .tup ys) e1.wd ha
 exact k _ _ _ _ q1 (e1.trans e2) (.tup kad (RpAll.same e2.rr r1))
theorem kfq {x:Str} {p p2:Pos} (i:Nat) (hm: ∀i,(Y i).mg "tuple"=none) (h:autoParam (∀ j,PE (Y j) (.Name x p2) (khr i)) u8._auto_1) (hg:autoParam (∀ i,Gl (Y i) "tuple") u3._auto_1) (hK:autoParam (∀ i,(Y i).K=K) u3._auto_1)
 (hs:autoParam (∀ i,starEach [.Name x p2] (Y i).env=[(false,eval (.Name x p2) (Y i).env)]) u3._auto_1):
 DE He K Y (.Call (.Name "tuple" p) [.Name x p2] [] pos) (kj6 (fun env P=>∃l,(env[i]?=some (.o l)∨env[i]?=some (.d (.list l)))∧P l)):=by
 refine ⟨_,fun i=>kbq (kdn K (hK i)) (hg i) (hm i) boot_tuple (kab (h i) kai (hs i)) (by decide) (by decide) (hs i),fun P Q F p k=> ?_⟩
 obtain ⟨l,p1 | p1,q1⟩:=p
 · obtain ⟨v,hs,a,ys,rfl,h2,h3,h4,h5⟩:=F.get p1 (by intro z;cases z)
   refine ⟨_,hs,a,ys,rfl,.inl ⟨SqL.of h2,fun a ha=> ?_⟩⟩
   have e2:=Ext.new (o:= .tup ys) F.wd ha
   exact k _ _ _ _ q1 e2 (.tup kad (RpAll.same e2.rr h5))
 · obtain ⟨v,hs,r⟩:=F.data p1
   obtain ⟨a,ys,rfl,h2,h3⟩:=Rp.lst_inv r
   refine ⟨_,hs,a,ys,rfl,.inl ⟨SqL.of (F.wd.rh _ _ h2),fun a ha=> ?_⟩⟩
   have e2:=Ext.new (o:= .tup ys) F.wd ha
   exact k _ _ _ _ q1 e2 (.tup kad (RpAll.same e2.rr h3))
noncomputable def ke9 (lo:Int) (n:Nat):List PyData:=(List.range n).map fun (i:Nat)=>PyData.int (lo + (i:Int))
theorem RpAll.rangeV (R:Hp) (lo:Int): ∀n,RpAll K R (rangeV lo n) (ke9 lo n):=by
 intro n
 unfold L2.rangeV ke9
 generalize List.range n=l
 induction l with
 | nil=>exact .nil
 | cons x l ih=>exact .cons (.int _) ih
noncomputable def ken (t:De):Dq:=fun env P=>t env fun d=>∃j:Int,d= .int j∧j≤100000∧ -(2 ^ 62)≤j∧P (ke9 0 j.toNat)
theorem ke5 {t:De} {p p2:Pos} {pos2:Pos} (h:DB He K Y a t) (hm: ∀i,(Y i).mg "list"=none) (hm2: ∀i,(Y i).mg "range"=none) (hc:autoParam (∀ i,(Y i).calm=true) u3._auto_1) (hg:autoParam (∀ i,Gl (Y i) "list") u3._auto_1) (hg2:autoParam (∀ i,Gl (Y i) "range") u3._auto_1)
 (hs:autoParam (∀ i,starEach [a] (Y i).env=[(false,eval a (Y i).env)]) u3._auto_1)
 (hs2:autoParam (∀ i,starEach [.Call (.Name "range" p2) [a] [] pos2] (Y i).env=[(false,eval (.Call (.Name "range" p2) [a] [] pos2) (Y i).env)]) u3._auto_1):
 DO He K Y (.Call (.Name "list" p) [.Call (.Name "range" p2) [a] [] pos2] [] pos) (ken t):=by
 obtain ⟨te,h1,h2⟩:=h
 refine ⟨_,fun i=>kbq (kcw (hc i)) (hg i) (hm i) boot_list (kab (kfm (hg2 i) (hm2 i) (kab (h1 i) kai (hs i)) (hs i)) kai (hs2 i)) (by decide) (by decide) (hs2 i),fun P Q F p k=>h2 _ _ F p fun d v R1 H1 q1 e1 r1=> ?_⟩
 obtain ⟨j,rfl,hj,hj2,q1⟩:=q1
 have ev:=r1.int_inv
 subst ev
 refine ⟨j,rfl,fun p hp=>⟨p,0,j,rfl,kad,⟨by decide,by decide,hj2,by lia⟩,szl (by lia),fun l hl=> ?_⟩⟩
 have e2:=Ext.new (o:= .rng 0 j) e1.wd hp
 have e3:=Ext.newO (o:= .lst (rangeV 0 (j - 0).toNat)) e2.wd hl trivial
 have ee:=e1.trans (e2.trans e3)
 refine k _ _ _ _ _ q1 ee ((e1.trans e2).hh.free hl) kad (e2.wd.rh.free hl) ?_
 rw [Int.sub_zero]
 exact RpAll.rangeV _ 0 _
noncomputable def tyD:PyData→Value
 | .none=> .type "NoneType"
 | .bool _=> .type "bool"
 | .int _=> .type "int"
 | .str _=> .type "str"
 | .list _=> .type "list"
 | .tuple _=> .type "tuple"
 | .dict _=> .type "dict"
noncomputable def ksz:PyData→Bool
 | .dict _=>false
 | _=>true
theorem TyOf.of {H:Hp} {v:V} {d:PyData} (r:Rp K H v d) (h:ksz d=true):TyOf K H v (tyD d):=by
 cases r with
 | non=>exact .non
 | bl b=>exact .bl b
 | int i=>exact .int i
 | str x=>exact .str x
 | lst h1 _=>exact .lst h1
 | tup h1 _=>exact .tup h1
 | scr h1=>cases h
 | any=>cases h
 | xc _=>cases h
noncomputable def xIsi (K:PySem.W.Frag) (T:String) (t:De):De:=fun env P=>t env fun d=>∃b,ksz d=true∧PySem.W.kitOne K (tyD d) (.type T)=some b∧P (.bool b)
theorem kh9 {X:Cx} (K:PySem.W.Frag) (h:autoParam (X.K=K) u4._auto_1):CallR X (.builtin "isinstance") (fun xs H Q=>∃x T t b,xs=[x,.ty T]∧TyOf K H x t∧PySem.W.kitOne K t (.type T)=some b∧Q (.bl b) H):=h▸kdw
theorem kur:bootBuiltins "isinstance"=some (.builtin "isinstance"):=by decide +kernel
theorem kx8 {t:De} {p p2:Pos} {x:Str} {T:String} (h:DB He K Y a t) (hT:bootBuiltins x=some (.type T)) (hmT: ∀i,(Y i).mg x=none) (hm: ∀i,(Y i).mg "isinstance"=none) (hxn:autoParam (x≠"__name__") u2._auto_1) (hxd:autoParam ((x == ("__debug__":Str))=false) u2._auto_1) (hgT:autoParam (∀ i,Gl (Y i) x) u3._auto_1) (hg:autoParam (∀ i,Gl (Y i) "isinstance") u3._auto_1)
 (hK:autoParam (∀ i,(Y i).K=K) u3._auto_1) (hs:autoParam (∀ i,starEach [a,.Name x p2] (Y i).env=(false,eval a (Y i).env)::starEach [.Name x p2] (Y i).env) u3._auto_1) (hs2:autoParam (∀ i,starEach [.Name x p2] (Y i).env=[(false,eval (.Name x p2) (Y i).env)]) u3._auto_1)
 (hpl:autoParam (∀ i,(backTo pos (starEach [.Name x p2] (Y i).env)).any (·.1)=false) u3._auto_1):
 DE He K Y (.Call (.Name "isinstance" p) [a,.Name x p2] [] pos) (xIsi K T t):=by
 obtain ⟨te,h1,h2⟩:=h
 refine ⟨_,fun i=>kbf (kh9 K (hK i)) (hg i) (hm i) kur (kab (h1 i) (kab (kix (v:= .ty T) (hgT i) (hmT i) hT rfl hxn hxd) kai (hs2 i)) (hs i)) (by decide) (by decide) (hs i) (hpl i),fun P Q F p k=>h2 _ _ F p fun d v R1 H1 q1 e1 r1=> ?_⟩
 obtain ⟨b,hn,hb,q1⟩:=q1
 exact ⟨v,T,_,b,rfl,TyOf.of r1 hn,hb,k _ _ R1 H1 q1 e1 (.bl b)⟩
noncomputable def DL (He:Hp) (K:PySem.W.Frag) {ι:Type} (Y:ι→Cx) (e:Expr) (t:Dq):Prop:=∃te:TE,(∀ i,PE (Y i) e te)∧∀{H0 R H:Hp} {σ:St} {env:List Dt} (P:List PyData→Prop) (Q:VK),Fra He K H0 R H σ env→t env P→
 (∀ ds a ys R' H',P ds→Ext R H R' H'→H' a=some (.lst ys)→RpAll K R' ys ds→Q (.ref a) H')→te σ H Q
theorem DO.l {t:Dq} (h:DO He K Y e t):DL He K Y e t:=by
 obtain ⟨te,h1,h2⟩:=h
 exact ⟨te,h1,fun P Q f p k=>h2 P Q f p fun ds a ys R' H' pl e hn ha hr r=>k ds a ys R' H' pl e ha r⟩
noncomputable def xL (t:De):Dq:=fun env P=>t env fun d=>∃l,d= .list l∧P l
theorem DE.l {t:De} (h:DE He K Y e t):DL He K Y e (xL t):=by
 obtain ⟨te,h1,h2⟩:=h
 refine ⟨te,h1,fun P Q f p k=>h2 _ Q f p fun d v R' H' ⟨l,hl,pl⟩ e r=> ?_⟩
 subst hl
 obtain ⟨a,ys,rfl,h3,h4⟩:=Rp.lst_inv r
 exact k l a ys R' H' pl e (e.rh _ _ h3) h4
noncomputable def kus (i:Nat):Dq:=fun env P=>∃l,(env[i]?=some (.o l)∨env[i]?=some (.d (.list l)))∧P l
theorem kgi (i:Nat) {x:Str} (h:autoParam (∀ j,PE (Y j) (.Name x pos) (khr i)) u8._auto_1):DL He K Y (.Name x pos) (kus i):=
 ⟨_,h,fun P Q F ⟨l,p1,p⟩ k=>by
   rcases p1 with p1 | p1
   · obtain ⟨v,hs,a,ys,rfl,h2,h3,h4,h5⟩:=F.get p1 (by intro z;cases z)
     exact ⟨_,hs,k _ _ _ _ _ p (.refl F.wd) h2 h5⟩
   · obtain ⟨v,hs,r⟩:=F.data p1
     obtain ⟨a,ys,rfl,h2,h3⟩:=Rp.lst_inv r
     exact ⟨_,hs,k _ _ _ _ _ p (.refl F.wd) (F.wd.rh _ _ h2) h3⟩⟩
noncomputable def xRep (t:Dq) (u:De):Dq:=fun env P=>t env fun xs=>u env fun d=>∃k:Int,d= .int k∧ -(2 ^ 63)≤k∧xs.length * k.toNat≤100000∧k≤100000∧P (List.replicate k.toNat xs).flatten
theorem RpAll.rep {R:Hp} {ys:List V} {l:List PyData} (r:RpAll K R ys l): ∀n,RpAll K R (List.replicate n ys).flatten (List.replicate n l).flatten
 | 0=> .nil
 | n + 1=>by
   rw [List.replicate_succ,List.replicate_succ,List.flatten_cons,List.flatten_cons]
   exact RpAll.append r (RpAll.rep r n)
theorem kx9 {t:Dq} {u:De} (h:DL He K Y a t) (h':DB He K Y b u):DO He K Y (.BinOp a .Mult b pos) (xRep t u):=by
 obtain ⟨te,h1,h2⟩:=h
 obtain ⟨te',h3,h4⟩:=h'
 refine ⟨_,fun i=>ka0 kx2 (h1 i) (h3 i),fun P Q F p k=> ?_⟩
 refine h2 _ _ F p fun l a ys R1 H1 q1 e1 s1 r1=> ?_
 refine h4 _ _ (F.next e1) q1 fun d v R2 H2 ⟨j,hj,hz0,hz,hz1,q2⟩ e2 r2=> ?_
 subst hj
 have ev:=r2.int_inv
 subst ev
 refine ⟨a,j,ys,rfl,rfl,e2.hh _ _ s1,hz0,by lia,szl (by rw [r1.len];exact hz),fun p hp=> ?_⟩
 have e3:=Ext.newO (o:= .lst (List.replicate j.toNat ys).flatten) e2.wd hp trivial
 exact k _ _ _ _ _ q2 ((e1.trans e2).trans e3) ((e1.trans e2).hh.free hp) kad (e2.wd.rh.free hp) (RpAll.rep (RpAll.same e2.rr r1) _)
end
noncomputable def spG (K:PySem.W.Frag) (P:List PyData→(Dt→Prop)→Prop):Sp:=fun vs H Q q_=>∃ds RS,RpAll K H vs ds∧P ds RS∧∀dt v R' H',RS dt→Ext H H R' H'→SlotR K H R' H' (some v) dt→Q v H'
theorem ObjOk.obj {P:Program} {w:World} {H:Hp} {h:Heap} {a:Addr} {o:HO} (x:ObjOk P w H h a o) (l:kfo o): ∃ob,h.get? a=some ob:=by
 cases o with
 | lst xs=>obtain ⟨_,_,_,_,e⟩:=x;exact ⟨_,e⟩
 | dK kvs=>obtain ⟨_,_,_,_,o,_,_,e,_⟩:=x;exact ⟨_,e⟩
 | dT kvs=>obtain ⟨_,_,_,_,o,_,_,e,_⟩:=x;exact ⟨_,e⟩
 | set S n=>obtain ⟨o,_,_,_,e,_⟩:=x;exact ⟨_,e⟩
 | ext φ=>exact x.2.1
 | _=>exact l.elim
theorem ObjOk.stayL {P:Program} {w:World} {H H':Hp} {h h':Heap} {a:Addr} {o:HO} (x:ObjOk P w H h a o) (l:kfo o) (k: ∀u,h.get? a=some u→h'.get? a=some u) (ht: ∀b xs,H b=some (.tup xs)→H' b=some (.tup xs)):ObjOk P w H' h' a o:=by
 cases o with
 | lst xs=>obtain ⟨z,its,n,r,e⟩:=x;exact ⟨z,its,n,r,k _ e⟩
 | dK kvs=>obtain ⟨z,y,vs,r,ob,es,ep,e,c⟩:=x;exact ⟨z,y,vs,r,ob,es,ep,k _ e,c⟩
 | dT kvs=>
   obtain ⟨z,y,xs,r,ob,es,ep,e,c⟩:=x
   exact ⟨z,y,xs,Paired.mapP r fun p q z=>⟨z.1,ht _ _ z.2.1,z.2.2⟩,ob,es,ep,k _ e,c⟩
 | set S n=>obtain ⟨ob,es,ep,t,e,c⟩:=x;exact ⟨ob,es,ep,t,k _ e,c⟩
 | ext φ=>obtain ⟨p,⟨o,e⟩,st⟩:=x;exact ⟨st _ _ p fun o q=>k _ q,⟨o,k _ e⟩,st⟩
 | _=>exact l.elim
theorem Wd.back {R H:Hp} {b:Addr} {o:HO} (w:Wd R H) (h:H b=some o) (n: ¬kfo o):R b=some o:=by
 cases q:R b with
 | none=>exact absurd (w.ls b o h q) n
 | some u=>
   have:=w.rh b u q
   rw [h] at this
   exact this.symm
section
variable {X:Cx} {k:Nat} {f:Addr} {fd:FuncData} {ps:List Str} {x:Str} {p pos:Pos} {e:Expr} {es:List Expr} {t:TA} {He:Hp} {K:PySem.W.Frag} {P:List PyData→(Dt→Prop)→Prop}
set_option tactic.hygienic true in
theorem kut {pins:List (Addr×Obj)} {σ:St} {R H:Hp} {s:Shared} {Q:VK} {us:List Value} {vs:List V} {ds:List PyData} {RS:Dt→Prop} (hK:X.K=K) (F:FnOk X.prog X.w X.K X.mg X.base CX0 k f fd ps (spG K P)) (hr:Room k X.A) (hb:Binds X.K fd ps [])
 (I:Inv X pins σ H s) (r:Vals vs us) (w:Wd R H) (hv:RpAll K R vs ds) (hp:P ds RS) (kk: ∀dt v R' H',RS dt→Ext R H R' H'→SlotR K H R' H' (some v) dt→Q v H'):
 wpAny (model X.prog X.w) X.A (call (.ref f) us) (EP X pins σ Q) X.xe s:=by
 have hsp:spG K P vs R (fun v H1=>∃dt R',RS dt∧Ext R R R' H1∧SlotR K R R' H1 (some v) dt) E0:=⟨ds,RS,hv,hp,fun dt v R' H' a b c=>⟨dt,R',a,b,c⟩⟩
 have hl:us.length=ps.length:=by rw [← r.length];exact F.len _ _ _ _ hsp
 have e0:Env0 X.prog X.w X.K X.mg X.base X.A X.stack s R:=by
  have e:=I.env0
  refine ⟨e.frames,e.mod,fun b o z=>⟨(e.bs b o z).1,w.rh.free (e.bs b o z).2⟩,e.bsz,e.funs,fun b hb=>w.rh.free (e.frf b hb),fun a o z=> ?_,e.bare⟩
  exact (e.hok a o (w.rh a o z)).stay (fun b u q_ q=>q) (fun b q=>w.back q fun z=>z) fun b xs q=>w.back q fun z=>z
 refine wpAny_call (codeAny_mono (F.run X.A X.stack s R ⟨us,[]⟩ us vs _ E0 hr e0 (by have:=hb s us I.kIn (by rw [List.append_nil];exact hl);rw [List.append_nil] at this;exact this) r hsp) fun r s' hq=> ?_)
 cases r with
 | error e=>exact hq.elim
 | ok fl=>
   cases fl with
   | next=>exact False.elim hq
   | brk=>exact False.elim hq
   | cont=>exact False.elim hq
   | ret u=>
     obtain ⟨v,H1,os,bare,un,hok,rv,dt,R',hRS,ext,slot⟩:=hq
     have gone: ∀b o,H b=some o→R b=none→H1 b=none:=fun b o z n=>by
      obtain ⟨ob,eb⟩:=(I.hok b o z).obj (w.ls b o z n)
      exact un.free b ob eb n (by simp)
     classical
     have eA: ∀b,R b=none→H b≠none→(fun b=>if R b=none∧H b≠none then H b else H1 b) b=H b:=fun b n z=>if_pos ⟨n,z⟩
     have eB: ∀b o,H1 b=some o→(fun b=>if R b=none∧H b≠none then H b else H1 b) b=some o:=fun b o z=>by
      show (if R b=none∧H b≠none then H b else H1 b)=some o
      rw [if_neg]
      · exact z
      · rintro ⟨n,hne⟩
        cases q:H b with
        | none=>exact hne q
        | some u=>rw [gone b u q n] at z;cases z
     have eN: ∀b,H b=none→H1 b=none→(fun b=>if R b=none∧H b≠none then H b else H1 b) b=none:=fun b n z=>by
      show (if R b=none∧H b≠none then H b else H1 b)=none
      rw [if_neg (by rintro ⟨_,z⟩;exact z n)]
      exact z
     have eX: ∀b o,(fun b=>if R b=none∧H b≠none then H b else H1 b) b=some o→(R b=none∧H b=some o)∨H1 b=some o:=fun b o z=>by
      have z:(if R b=none∧H b≠none then H b else H1 b)=some o:=z
      split at z
      · rename_i hc
        exact .inl ⟨hc.1,z⟩
      · exact .inr z
     generalize (fun b=>if R b=none∧H b≠none then H b else H1 b)=H2 at eA eB eN eX
     have nr: ∀b,H b=none→R b=none:=fun b n=>w.rh.free n
     have tup2: ∀b xs,H b=some (.tup xs)→H2 b=some (.tup xs):=fun b xs z=>eB b _ (un.tups b xs (w.back z fun z=>z))
     have ex2:Ext R H R' H2:=by
      refine ⟨fun b o z=> ?_,ext.rr,fun b o z=>eB b o (ext.rh b o z),fun b o z n=> ?_,fun b o z n=> ?_⟩
      · cases q:R b with
        | none=>rw [eA b q (by rw [z];intro y;cases y)];exact z
        | some u=>
          have:=w.rh b u q
          rw [z] at this;cases this
          exact eB b o (ext.hh b o q)
      · cases q:R' b with
        | none=>rfl
        | some u=>have:=ext.rh b u q;rw [gone b o z n] at this;cases this
      · rcases eX b o z with ⟨n2,z2⟩ | z2
        · exact w.ls b o z2 n2
        · exact ext.ls b o z2 n
     have slot2:SlotR K H R' H2 (some v) dt:=by
      have own: ∀a o,H1 a=some o→R a=none→H a=none:=fun a o z n=>by
       cases q:H a with
       | none=>rfl
       | some u=>rw [gone a u q n] at z;cases z
      cases dt with
      | un=>trivial
      | d y=>exact slot
      | o xs=>obtain ⟨a,ys,h1,h2,h3,h4,h5⟩:=slot;exact ⟨a,ys,h1,eB a _ h2,h3,own a _ h2 h4,h5⟩
      | dk xs=>obtain ⟨a,ys,h1,h2,h3,h4,h5⟩:=slot;exact ⟨a,ys,h1,eB a _ h2,h3,own a _ h2 h4,h5⟩
      | dt xs=>obtain ⟨a,ys,h1,h2,h3,h4,h5⟩:=slot;exact ⟨a,ys,h1,eB a _ h2,h3,own a _ h2 h4,h5⟩
      | dv xs=>obtain ⟨a,ys,h1,h2,h3,h4,h5⟩:=slot;exact ⟨a,ys,h1,eB a _ h2,h3,own a _ h2 h4,h5⟩
      | oo xs=>obtain ⟨a,ys,h1,h2,h3,h4,h5,h6⟩:=slot;exact ⟨a,ys,h1,eB a _ h2,h3,own a _ h2 h4,Paired.mapP h5 fun _ _ ⟨b,zs,k1,k2,k3,k4,k5⟩=>⟨b,zs,k1,eB b _ k2,k3,own b _ k2 k4,k5⟩,h6⟩
     refine I.after (Q:=Q) ⟨v,H2,os,bare,⟨?_,?_,?_,un.there,tup2,?_,?_⟩,?_,rv,kk dt v R' H2 hRS ex2 slot2⟩
     · exact fun b o z n hf hx=>un.keep b o z (nr b n) hf hx
     · exact fun b o z n hf hx=>un.slot b o z (nr b n) hf hx
     · exact fun b o z n hx=>eN b n (un.free b o z (nr b n) hx)
     · exact fun b o u z=>eB b _ (un.frzs b o u (w.back z fun z=>z))
     · intro b ps z
       obtain ⟨m,hm⟩:=un.tbls b ps (w.back z fun z=>z)
       exact ⟨m,eB b _ hm⟩
     · intro b o z
       rcases eX b o z with ⟨n2,z2⟩ | z2
       · refine (I.hok b o z2).stayL (w.ls b o z2 n2) (fun u q=>un.keep b u q n2 (fun hf=> ?_) (by simp)) tup2
         rw [I.stkFree b hf] at z2;cases z2
       · refine (hok b o z2).stay (fun c u q_ q=>q) (fun c q=>eB c _ q) fun c xs q=>eB c _ q
noncomputable def tFnG (K:PySem.W.Frag) (P:List PyData→(Dt→Prop)→Prop) (t:TA):TE:=fun σ H Q=>t σ H fun vs H1=>∃R ds RS,Wd R H1∧RpAll K R vs ds∧P ds RS∧∀dt v R' H',RS dt→Ext R H1 R' H'→SlotR K H1 R' H' (some v) dt→Q v H'
theorem kne (G:Fn X.prog X.w X.K X.mg X.base x k ps (spG K P)) (hr:Room k X.A) (ha:PA X (e::es) t) (hK:autoParam (X.K=K) u4._auto_1) (hg:autoParam (Gl X x) u4._auto_1)
 (hdb:autoParam ((x == ("__debug__":Str))=false) u2._auto_1) (he:autoParam (starEach (e::es) X.env=(false,eval e X.env)::starEach es X.env) u4._auto_1) (hpl:autoParam ((backTo pos (starEach es X.env)).any (·.1)=false) u4._auto_1):
 PE X (.Call (.Name x p) (e::es) [] pos) (tFnG K P t):=by
 obtain ⟨f,fd,F,hm,hk,hb⟩:=G
 intro pins s σ H Q I h
 refine wpAny_Call_Name_kw (kmi I hg hm ?_ hdb)
 refine PySem.W.callWith_K (h₀:=X.base) I.ok.mod.kin hk (thn (ha pos pins s σ H _ I h) fun us s1 ⟨vs,H1,I1,r,q⟩=>⟨I1.kIn,?_⟩) he hpl
 obtain ⟨R,ds,RS,w,hv,hp,kk⟩:=q
 exact kut hK F hr hb I1 r w hv hp kk
end
section
variable {He:Hp} {K:PySem.W.Frag} {ι:Type} {Y:ι→Cx} {e:Expr} {es:List Expr} {pos p:Pos} {prog:Program} {w:World} {mg:Str→Option Value} {base:Heap} {x:Str} {k:Nat} {ps:List Str} {P:List PyData→(Dt→Prop)→Prop} {t:Dq}
noncomputable def kuu (P:List PyData→(Dt→Prop)→Prop) (t:Dq):De:=fun env Q=>t env fun ds=>P ds fun dt=>∃d,kui dt=some d∧Q d
theorem Ext.give {R H R' H':Hp} (ex:Ext R H R' H') (S:Addr→Prop) (hS: ∀b,S b→H b=none): ∃R2,Ext R H R2 H'∧Same R' R2∧∀b,S b→R2 b=H' b:=by
 classical
 have e1: ∀b,S b→(fun b=>if S b then H' b else R' b) b=H' b:=fun b s=>if_pos s
 have e2: ∀b,¬S b→(fun b=>if S b then H' b else R' b) b=R' b:=fun b s=>if_neg s
 generalize (fun b=>if S b then H' b else R' b)=R2 at e1 e2
 have sm:Same R' R2:=fun b o z=>by
  by_cases s:S b
  · rw [e1 b s];exact ex.rh b o z
  · rw [e2 b s];exact z
 refine ⟨R2,⟨ex.hh,ex.rr.trans sm,fun b o z=> ?_,fun b o z n=> ?_,fun b o z n=> ?_⟩,sm,e1⟩
 · by_cases s:S b
   · rw [e1 b s] at z;exact z
   · rw [e2 b s] at z;exact ex.rh b o z
 · have s: ¬S b:=fun s=>by rw [hS b s] at z;cases z
   rw [e2 b s];exact ex.nn b o z n
 · by_cases s:S b
   · rw [e1 b s,z] at n;cases n
   · rw [e2 b s] at n;exact ex.ls b o z n
theorem kuv {H0 R H R' H':Hp} {v:V} {dt:Dt} {d:PyData} (hd:kui dt=some d) (ex:Ext R H R' H') (s:SlotR K H R' H' (some v) dt): ∃R2,Ext R H R2 H'∧Rp K R2 v d:=by
 cases dt with
 | un=>cases hd
 | d y=>cases hd;exact ⟨R',ex,s⟩
 | o xs=>
   cases hd
   obtain ⟨a,ys,rfl,h2,h3,h4,h5⟩:=s
   have s:=Same.new (H:=R') (p:=a) (o:= .lst ys) h3
   refine ⟨upd R' a (.lst ys),⟨ex.hh,ex.rr.trans s,fun b o z=> ?_,fun b o z n=> ?_,fun b o z n=> ?_⟩,.lst kad (RpAll.same s h5)⟩
   · by_cases hb:b=a
     · subst hb;rw [kad] at z;cases z;exact h2
     · rw [kah hb] at z;exact ex.rh b o z
   · rw [kah (kaf z h4)];exact ex.nn b o z n
   · by_cases hb:b=a
     · subst hb;rw [kad] at n;cases n
     · rw [kah hb] at n;exact ex.ls b o z n
 | oo xs=>
   cases hd
   obtain ⟨a,ys,rfl,h2,h3,h4,h5,_⟩:=s
   obtain ⟨R2,e2,sm,at2⟩:=ex.give (fun b=>b=a∨V.ref b∈ys) fun b s=>by
    rcases s with rfl | s
    · exact h4
    · obtain ⟨_,_,_,z⟩:=h5.mem s;exact z
   exact ⟨R2,e2,.lst (by rw [at2 a (.inl rfl)];exact h2) (h5.rp sm fun b zs m z=>by rw [at2 b (.inr m)];exact z)⟩
 | dk xs=>cases hd
 | dt xs=>cases hd
 | dv xs=>cases hd
theorem kau (G:Fn prog w K mg base x k ps (spG K P)) (hr: ∀i,Room k (Y i).A) (ha:DA He K Y (e::es) t) (hX:autoParam (∀ i,(Y i).prog=prog∧(Y i).w=w∧(Y i).K=K∧(Y i).mg=mg∧(Y i).base=base) u11._auto_1) (hg:autoParam (∀ i,Gl (Y i) x) u3._auto_1)
 (hdb:autoParam ((x == ("__debug__":Str))=false) u2._auto_1) (he:autoParam (∀ i,starEach (e::es) (Y i).env=(false,eval e (Y i).env)::starEach es (Y i).env) u3._auto_1) (hpl:autoParam (∀ i,(backTo pos (starEach es (Y i).env)).any (·.1)=false) u3._auto_1):
 DE He K Y (.Call (.Name x p) (e::es) [] pos) (kuu P t):=by
 obtain ⟨te,h1,h2⟩:=ha
 refine ⟨tFnG K P te,fun i=> ?_,fun Pk Q F pp kk=>h2 _ _ F pp fun ds vs R1 H1 q1 e1 r1=>⟨R1,ds,_,e1.wd,r1,q1,fun dt v R' H' ⟨d,hd,pd⟩ ex sl=> ?_⟩⟩
 · obtain ⟨a1,a2,a3,a4,a5⟩:=hX i
   subst a1 a2 a3 a4 a5
   exact kne G (hr i) (h1 i) rfl (hg i) hdb (he i) (hpl i)
 · obtain ⟨R2,ex2,r2⟩:=kuv (H0:=R1) hd ex sl
   exact kk d v R2 H' pd (e1.trans ex2) r2
noncomputable def knf (P:List PyData→(Dt→Prop)→Prop) (t:Dq):Dq:=fun env Q=>t env fun ds=>P ds fun dt=>∃xs,dt= .o xs∧Q xs
theorem kbk (G:Fn prog w K mg base x k ps (spG K P)) (hr: ∀i,Room k (Y i).A) (ha:DA He K Y (e::es) t) (hX:autoParam (∀ i,(Y i).prog=prog∧(Y i).w=w∧(Y i).K=K∧(Y i).mg=mg∧(Y i).base=base) u11._auto_1) (hg:autoParam (∀ i,Gl (Y i) x) u3._auto_1)
 (hdb:autoParam ((x == ("__debug__":Str))=false) u2._auto_1) (he:autoParam (∀ i,starEach (e::es) (Y i).env=(false,eval e (Y i).env)::starEach es (Y i).env) u3._auto_1) (hpl:autoParam (∀ i,(backTo pos (starEach es (Y i).env)).any (·.1)=false) u3._auto_1):
 DO He K Y (.Call (.Name x p) (e::es) [] pos) (knf P t):=by
 obtain ⟨te,h1,h2⟩:=ha
 refine ⟨tFnG K P te,fun i=> ?_,fun Pk Q F pp kk=>h2 _ _ F pp fun ds vs R1 H1 q1 e1 r1=>⟨R1,ds,_,e1.wd,r1,q1,fun dt v R' H' ⟨xs,hd,pd⟩ ex sl=> ?_⟩⟩
 · obtain ⟨a1,a2,a3,a4,a5⟩:=hX i
   subst a1 a2 a3 a4 a5
   exact kne G (hr i) (h1 i) rfl (hg i) hdb (he i) (hpl i)
 · subst hd
   obtain ⟨a,ys,rfl,h5,h6,h7,h8⟩:=sl
   exact kk xs a ys R' H' pd (e1.trans ex) (e1.hh.free h7) h5 h6 h8
end
end L2
namespace L2
open PySem PySem.Spec PyProof.Rows
structure Yld (K:PySem.W.Frag) (J:It) (R:Hp) (l:List PyData):Prop where
 go: ∀R1 H1 i,Same R R1→Wd R1 H1→i < l.length→J.go i H1
 yl: ∀R1 H1 i d x H2,Same R R1→Wd R1 H1→l[i]?=some d→J.yld i H1 x H2→∃R2,Ext R1 H1 R2 H2∧Rp K R2 x d
 st: ∀R1 H1,Same R R1→Wd R1 H1→J.stop l.length H1
section
variable (He:Hp) (K:PySem.W.Frag) {ι:Type} (Y:ι→Cx)
noncomputable def DI (tg iter:Expr) (t:Dq):Prop:=∃wi:TI,(∀ i,PI (Y i) tg iter wi)∧∀{H0 R H:Hp} {σ:St} {env:List Dt} (P:List PyData→Prop) (Q:It→Hp→Prop),Fra He K H0 R H σ env→t env P→
 (∀ l J R' H',P l→Ext R H R' H'→l.length≤sizeLine→Yld K J R' l→Q J H')→wi σ H Q
noncomputable abbrev Dg:=PyData→List Dt→(List Dt→Prop)→Prop
noncomputable def kqw (ts:List Nat) (σ σ':St):Prop:=σ'.length=σ.length∧∀k,k ∉ ts→σ'[k]?=σ[k]?
noncomputable def DG (tg:Expr) (ts:List Nat) (g:Dg):Prop:=∃gt:TG,(∀ i,PG (Y i) tg gt)∧∀{H0 R H:Hp} {σ:St} {env:List Dt} {d:PyData} {v:V} (P:List Dt→Prop) (Q:St→Hp→Prop),Fra He K H0 R H σ env→Rp K R v d→g d env P→
 (∀ env' σ',P env'→Fra He K H0 R H σ' env'→kqw ts σ σ'→Q σ' H)→gt v σ H Q
noncomputable def DIf (ifs:List Expr) (t:Db):Prop:=∃te:TT,(∀ i,PIf (Y i) ifs te)∧∀{H0 R H:Hp} {σ:St} {env:List Dt} (P:Bool→Prop) (Q:Bool→Hp→Prop),Fra He K H0 R H σ env→t env P→
 (∀ b R' H',P b→Ext R H R' H'→Q b H')→te σ H Q
end
section
variable {He:Hp} {K:PySem.W.Frag} {ι:Type} {Y:ι→Cx} {e a b c tg iter elt:Expr} {es ifs:List Expr} {pos:Pos}
noncomputable def iSeqZ (K:PySem.W.Frag) (tl:TE):TI:=fun σ H R=>tl σ H fun x H1=>∃a xs,x= .ref a∧((SqL K H1 a xs∧(xs.length≤sizeLine→R (Itl K a) H1))∨(SqT K H1 a xs∧(xs.length≤sizeLine→R (Itt K a) H1)))
theorem kuw {X:Cx} {l:Expr} {tl:TE} (K:PySem.W.Frag) (hl:PE X l tl) (hK:autoParam (X.K=K) u4._auto_1):PI X tg l (iSeqZ K tl):=by
 subst hK
 intro pins s σ H R I h
 refine thn (hl pins s σ H _ I h) fun v s1 ⟨x,H1,I1,r1,q1⟩=> ?_
 obtain ⟨a,xs,e,q⟩:=q1
 subst e
 cases r1
 rcases q with ⟨hq,q⟩ | ⟨hq,q⟩
 · obtain ⟨its,rv,p,hz⟩:=I1.list hq
   refine wpAny_pyIter_list p.isList ?_
   refine ⟨s1.heap.objs.size,[s1.heap.objs.size],_,_,H1,rfl,I1.kept (t':=s1.toks) fun b o e=>Heap.get?_push_of_some _ e,kht a _,⟨_,Heap.get?_push_size _ rfl,rfl,rfl⟩,fun b hb=> ?_,q hz⟩
   have e:b=s1.heap.objs.size:=by simpa using hb
   subst e
   exact I1.fpOk (Nat.le_refl _) (I1.hok.fresh (Nat.le_refl _))
 · obtain ⟨its,rv,p,hz⟩:=I1.tuple hq
   refine wpAny_pyIter_tuple (show s1.heap.IsTuple a its.toArray from p) ?_
   refine ⟨s1.heap.objs.size,[s1.heap.objs.size],_,_,H1,rfl,I1.kept (t':=s1.toks) fun b o e=>Heap.get?_push_of_some _ e,klq a _,⟨_,Heap.get?_push_size _ rfl,rfl,rfl⟩,fun b hb=> ?_,q hz⟩
   have e:b=s1.heap.objs.size:=by simpa using hb
   subst e
   exact I1.fpOk (Nat.le_refl _) (I1.hok.fresh (Nat.le_refl _))
theorem RpAll.some {R:Hp} {ys:List V} {l:List PyData} {i:Nat} (r:RpAll K R ys l) (h:i < l.length): ∃v,ys[i]?=some v:=by
 have hl:=r.len
 exact ⟨ys[i]'(by lia),by simp [show i < ys.length by lia]⟩
theorem kqx {R:Hp} {a:Addr} {ys:List V} {l:List PyData} (h:SqL K R a ys) (r:RpAll K R ys l):Yld K (Itl K a) R l:=by
 refine ⟨fun R1 H1 i s w hi=> ?_,fun R1 H1 i d x H2 s w hd y=> ?_,fun R1 H1 s w=> ?_⟩
 · obtain ⟨v,hv⟩:=r.some hi
   exact ⟨ys,v,(s.trans w.rh).seq h,hv⟩
 · obtain ⟨e,y⟩:=y
   subst e
   have z:=y ys ((s.trans w.rh).seq h)
   obtain ⟨d',hd',r'⟩:=r.get z
   rw [hd] at hd';cases hd'
   exact ⟨R1,.refl w,Rp.same s r'⟩
 · exact ⟨ys,(s.trans w.rh).seq h,by rw [r.len];exact Nat.le_refl _⟩
theorem kux {R:Hp} {a:Addr} {ys:List V} {l:List PyData} (h:SqT K R a ys) (r:RpAll K R ys l):Yld K (Itt K a) R l:=by
 refine ⟨fun R1 H1 i s w hi=> ?_,fun R1 H1 i d x H2 s w hd y=> ?_,fun R1 H1 s w=> ?_⟩
 · obtain ⟨v,hv⟩:=r.some hi
   exact ⟨ys,v,(s.trans w.rh).seqT h,hv⟩
 · obtain ⟨e,y⟩:=y
   subst e
   have z:=y ys ((s.trans w.rh).seqT h)
   obtain ⟨d',hd',r'⟩:=r.get z
   rw [hd] at hd';cases hd'
   exact ⟨R1,.refl w,Rp.same s r'⟩
 · exact ⟨ys,(s.trans w.rh).seqT h,by rw [r.len];exact Nat.le_refl _⟩
theorem kbo {t:De} (h:DE He K Y e t) (hK:autoParam (∀ i,(Y i).K=K) u3._auto_1):DI He K Y tg e (xSeq t):=by
 obtain ⟨te,h1,h2⟩:=h
 refine ⟨_,fun i=>kuw K (h1 i) (hK i),fun P Q F p k=>h2 _ _ F p fun d v R' H' ⟨l,hl,pl⟩ ex r=> ?_⟩
 obtain ⟨a,ys,rfl,h3,h4⟩:=kfp r hl
 refine ⟨a,ys,rfl,?_⟩
 rcases h3 with h3 | h3
 · exact .inl ⟨ex.rh.seq h3,fun hz=>k l _ R' H' pl ex (by rw [← h4.len];exact hz) (kqx h3 h4)⟩
 · exact .inr ⟨ex.rh.seqT h3,fun hz=>k l _ R' H' pl ex (by rw [← h4.len];exact hz) (kux h3 h4)⟩
theorem kj7 {lo:Int} {n i:Nat} {d:PyData} (h:(ke9 lo n)[i]?=some d):i < n∧d= .int (lo + (i:Int)):=by
 unfold ke9 at h
 rw [List.getElem?_map] at h
 obtain ⟨j,hj,rfl⟩:=Option.map_eq_some_iff.mp h
 obtain ⟨h1,h2⟩:=List.getElem?_eq_some_iff.mp hj
 rw [List.length_range] at h1
 rw [List.getElem_range] at h2
 subst h2
 exact ⟨h1,rfl⟩
theorem kfb (lo:Int) (n:Nat):(ke9 lo n).length=n:=by unfold ke9;rw [List.length_map,List.length_range]
theorem kuy (R:Hp) (lo:Int) (n:Nat):Yld K (Itr lo n) R (ke9 lo n):=by
 refine ⟨fun R1 H1 i s w hi=> ?_,fun R1 H1 i d x H2 s w hd y=> ?_,fun R1 H1 s w=> ?_⟩
 · rw [kfb] at hi;exact hi
 · obtain ⟨_,rfl⟩:=kj7 hd
   obtain ⟨e,y⟩:=y
   subst e y
   exact ⟨R1,.refl w,.int _⟩
 · rw [kfb];exact Nat.le_refl _
noncomputable def ki3 (t:De):Dq:=fun env P=>t env fun d=>∃j:Int,d= .int j∧ -(2 ^ 62)≤j∧j≤100000∧P (ke9 0 j.toNat)
theorem kcm {t:De} {p:Pos} (h:DB He K Y a t) (hm: ∀i,(Y i).mg "range"=none) (hg:autoParam (∀ i,Gl (Y i) "range") u3._auto_1) (hs:autoParam (∀ i,starEach [a] (Y i).env=[(false,eval a (Y i).env)]) u3._auto_1):DI He K Y tg (.Call (.Name "range" p) [a] [] pos) (ki3 t):=by
 obtain ⟨te,h1,h2⟩:=h
 refine ⟨_,fun i=>ka4 (hg i) (hm i) (kab (h1 i) kai (hs i)) (hs i),fun P Q F p k=>h2 _ _ F p fun d v R' H' ⟨j,hj,b1,b2,pl⟩ ex r=> ?_⟩
 subst hj
 have ev:=r.int_inv
 subst ev
 exact ⟨j,rfl,b1,by lia,k _ _ R' H' pl ex (by rw [kfb];exact szl (by lia)) (kuy R' 0 _)⟩
theorem kfr (i:Nat) (x:Option V) (σ:St):kqw [i] σ (σ.set i x):=by
 refine ⟨by simp,fun k hk=> ?_⟩
 have hk:k≠i:=by simpa using hk
 rw [List.getElem?_set_ne (fun z=>hk z.symm)]
noncomputable def gN (i:Nat):Dg:=fun d env P=>P (env.set i (.d d))
theorem ka6 (i:Nat) {x:Str} (hN: ∀j,(Y j).N.Nodup) (hi:autoParam (∀ j,(Y j).N[i]?=some x) u3._auto_1) (hx:autoParam (∀ j,Loc (Y j).env.scope x) u12._auto_1)
 (hf:autoParam (∀ j,(Y j).fn x=true∨(Y j).env.scope.names.lookup x=some .local) u13._auto_1):DG He K Y (.Name x pos) [i] (gN i):=
 ⟨_,fun j=>kbj (hN j) (hi j) (hx j) (hf j),fun P Q F r p k=>k _ _ p (F.setD i r) (kfr i _ _)⟩
theorem kuz {X:Cx} {es:List Expr} {k:Nat} {t:TGs} {n:Nat} (K:PySem.W.Frag) (hK:X.K=K) (hc:X.calm=true) (h:PGs X es t) (hn:(assignEach es X.env).length=n) (hst:(assignEach es X.env).findIdx? (·.1)=none):PG X (.Tuple es k pos) (gTup K n t):=hK▸kxl hc h hn hst
noncomputable def gN2 (i j:Nat):Dg:=fun d env P=>∃x y,d= .tuple [x,y]∧P ((env.set i (.d x)).set j (.d y))
theorem kci (i j:Nat) {x y:Str} {p1 p2:Pos} {k:Nat} (hN: ∀j,(Y j).N.Nodup) (hi:autoParam (∀ k,(Y k).N[i]?=some x) u3._auto_1) (hj:autoParam (∀ k,(Y k).N[j]?=some y) u3._auto_1) (hx:autoParam (∀ j,Loc (Y j).env.scope x) u12._auto_1) (hy:autoParam (∀ j,Loc (Y j).env.scope y) u12._auto_1)
 (hfx:autoParam (∀ j,(Y j).fn x=true∨(Y j).env.scope.names.lookup x=some .local) u13._auto_1) (hfy:autoParam (∀ j,(Y j).fn y=true∨(Y j).env.scope.names.lookup y=some .local) u13._auto_1)
 (hc:autoParam (∀ j,(Y j).calm=true) u3._auto_1) (hK:autoParam (∀ i,(Y i).K=K) u3._auto_1)
 (ha1:autoParam (∀ k,(assignEach [.Name x p1,.Name y p2] (Y k).env).map (·.2)=assign (.Name x p1) (Y k).env::(assignEach [.Name y p2] (Y k).env).map (·.2)) u3._auto_1) (ha2:autoParam (∀ k,(assignEach [.Name y p2] (Y k).env).map (·.2)=assign (.Name y p2) (Y k).env::(assignEach [] (Y k).env).map (·.2)) u3._auto_1)
 (hn:autoParam (∀ k,(assignEach [.Name x p1,.Name y p2] (Y k).env).length=2) u3._auto_1) (hst:autoParam (∀ k,(assignEach [.Name x p1,.Name y p2] (Y k).env).findIdx? (·.1)=none) u3._auto_1):
 DG He K Y (.Tuple [.Name x p1,.Name y p2] k pos) [i,j] (gN2 i j):=by
 refine ⟨_,fun m=>kuz K (hK m) (hc m) (kjv (kbj (hN m) (hi m) (hx m) (hfx m)) (kjv (kbj (hN m) (hj m) (hy m) (hfy m)) kt5 (ha2 m)) (ha1 m)) (hn m) (hst m),fun P Q F r p k=> ?_⟩
 obtain ⟨u,w,rfl,p⟩:=p
 obtain ⟨a,xs,rfl,h1,h2⟩:=r.tup_inv
 cases h2 with
 | cons r1 h3=>
   cases h3 with
   | cons r2 h4=>
     cases h4
     refine ⟨a,_,rfl,SqT.of (F.wd.rh _ _ h1),rfl,_,_,rfl,_,_,rfl,rfl,?_⟩
     refine k _ _ p ((F.setD i r1).setD j r2) ?_
     obtain ⟨a1,a2⟩:=kfr i (some _) _
     obtain ⟨b1,b2⟩:=kfr j (some _) _
     exact ⟨b1.trans a1,fun m hm=>(b2 m (by simp at hm ⊢;exact hm.2)).trans (a2 m (by simp at hm ⊢;exact hm.1))⟩
noncomputable abbrev Yc {ι:Type} (Y:ι→Cx) (scope:Scope) (N':List Str):ι×Shared×Hp×List Addr→Cx:=fun p=>kba (Y p.1) scope N' p.2.1 p.2.2.1 p.2.2.2
noncomputable def xTrue:Db:=fun q_ P=>P true
theorem kby:DIf He K Y [] xTrue:=⟨_,fun q_=>ki0,fun P Q F p k=>k true _ _ p (.refl F.wd)⟩
theorem kcx {t:Db} (h:DT He K Y c t):DIf He K Y [c] t:=by
 obtain ⟨te,h1,h2⟩:=h
 exact ⟨te,fun i=>km2 (h1 i),h2⟩
inductive LcR (G:PyData→Option PyData→Prop):List PyData→List PyData→Prop where
 | nil:LcR G [] []
 | skip {y:PyData} {l o:List PyData}:G y none→LcR G l o→LcR G (y::l) o
 | keep {y z:PyData} {l o:List PyData}:G y (some z)→LcR G l o→LcR G (y::l) (z::o)
theorem LcR.snoc_skip {G:PyData→Option PyData→Prop} {y:PyData} (h:G y none): ∀{l o:List PyData},LcR G l o→LcR G (l++[y]) o
 | _,_,.nil=> .skip h .nil
 | _,_,.skip a b=> .skip a (b.snoc_skip h)
 | _,_,.keep a b=> .keep a (b.snoc_skip h)
theorem LcR.snoc_keep {G:PyData→Option PyData→Prop} {y z:PyData} (h:G y (some z)): ∀{l o:List PyData},LcR G l o→LcR G (l++[y]) (o++[z])
 | _,_,.nil=> .keep h .nil
 | _,_,.skip a b=> .skip a (b.snoc_keep h)
 | _,_,.keep a b=> .keep a (b.snoc_keep h)
noncomputable def kly (env:List Dt) (js:List (Option Nat)):List Dt:=js.map fun (o:Option Nat)=>match o with
 | none=> .un
 | some j=>(env[j]?).getD .un
noncomputable def kfs:List (Option Nat)→Bool
 | []=>true
 | none::r=>kfs r
 | some j::r=> !r.contains (some j) && kfs r
theorem kdx: ∀{js:List (Option Nat)},kfs js=true→∀(k k' j:Nat),js[k]?=some (some j)→js[k']?=some (some j)→k=k'
 | [],_,k,_,j,h,_=>by simp at h
 | none::r,hc,k,k',j,h,h'=>by
   cases k with
   | zero=>simp at h
   | succ k=>
     cases k' with
     | zero=>simp at h'
     | succ k'=>rw [kdx (js:=r) hc k k' j (by simpa using h) (by simpa using h')]
 | some i::r,hc,k,k',j,h,h'=>by
   have hc:_∧_:=Bool.and_eq_true_iff.mp hc
   have nc:some i ∉ r:=by simpa using hc.1
   cases k with
   | zero=>
     cases k' with
     | zero=>rfl
     | succ k'=>
       have e:i=j:=by simpa using h
       subst e
       exact absurd (List.mem_of_getElem? (show r[k']?=some (some i) by simpa using h')) nc
   | succ k=>
     cases k' with
     | zero=>
       have e:i=j:=by simpa using h'
       subst e
       exact absurd (List.mem_of_getElem? (show r[k]?=some (some i) by simpa using h)) nc
     | succ k'=>rw [kdx (js:=r) hc.2 k k' j (by simpa using h) (by simpa using h')]
theorem kgz {env:List Dt} {js:List (Option Nat)} {k:Nat} {d:Dt} (h:(kly env js)[k]?=some d):d= .un∨∃j,js[k]?=some (some j)∧env[j]?=some d:=by
 unfold kly at h
 rw [List.getElem?_map] at h
 obtain ⟨o,ho,e⟩:=Option.map_eq_some_iff.mp h
 cases o with
 | none=>exact .inl e.symm
 | some j=>
   cases q:env[j]? with
   | none=>simp only [q,Option.getD_none] at e;exact .inl e.symm
   | some d'=>simp only [q,Option.getD_some] at e;subst e;exact .inr ⟨j,ho,q⟩
theorem kft {σ:St} {js:List (Option Nat)} {k j:Nat} (h:js[k]?=some (some j)):(kdt σ js)[k]?=some (σ[j]?).join:=by
 unfold kdt
 rw [List.getElem?_map,h]
 rfl
theorem Fra.cap {H0 R H:Hp} {σ:St} {env:List Dt} {js:List (Option Nat)} (f:Fra He K H0 R H σ env) (hj:kfs js=true):Fra He K H0 R H (kdt σ js) (kly env js):=by
 refine ⟨f.at0,f.ext,by simp [kdt,kly],fun k d h=> ?_,fun k k' dk dk' a h h' o o'=> ?_⟩
 · rcases kgz h with rfl | ⟨j,hj,e⟩
   · cases ((kdt σ js)[k]?).join <;> trivial
   · rw [kft hj]
     exact f.slot j d e
 · rcases kgz h with rfl | ⟨j,hjk,e⟩
   · cases o
   · rcases kgz h' with rfl | ⟨j',hjk',e'⟩
     · cases o'
     · rw [kft hjk] at o
       rw [kft hjk'] at o'
       have ej:=f.apart j j' dk dk' a e e' o o'
       subst ej
       exact kdx hj k k' j hjk hjk'
theorem Fra.agree {H0 R H:Hp} {σ σ':St} {env:List Dt} {ts:List Nat} (f:Fra He K H0 R H σ env) (ha:kqw ts σ σ') (hu: ∀k∈ts,∀(d:Dt),env[k]?=some d→d= .un):Fra He K H0 R H σ' env:=by
 refine ⟨f.at0,f.ext,ha.1.trans f.len,fun k d h=> ?_,fun k k' dk dk' a h h' o o'=> ?_⟩
 · by_cases hk:k∈ts
   · rw [hu k hk d h]
     cases (σ'[k]?).join <;> trivial
   · rw [ha.2 k hk];exact f.slot k d h
 · have n1:k ∉ ts:=fun z=>by rw [hu k z dk h] at o;cases o
   have n2:k' ∉ ts:=fun z=>by rw [hu k' z dk' h'] at o';cases o'
   rw [ha.2 k n1] at o
   rw [ha.2 k' n2] at o'
   exact f.apart k k' dk dk' a h h' o o'
theorem Fra.other {H0 R H:Hp} {σ:St} {env:List Dt} {D:Addr} {o:HO} (f:Fra He K H0 R H σ env) (h0:H0 D=none) (hr:R D=none) (lo:kfo o) (hne: ∀(k:Nat) (d:Dt),env[k]?=some d→¬d.has H (σ[k]?).join D):Fra He K H0 R (upd H D o) σ env:=by
 have w:=Wd.mut (o:=o) f.wd hr lo
 refine ⟨f.at0,⟨f.ext.hh.put h0,f.ext.rr,w.rh,f.ext.nn,w.ls⟩,f.len,fun k d h=>(f.slot k d h).mut (hne k d h),fun k j dk dj b ek ej ok oj=>f.apart k j dk dj b ek ej ((f.slot k dk ek).hasMut (hne k dk ek) ok) ((f.slot j dj ej).hasMut (hne j dj ej) oj)⟩
theorem Ext.mut {R H R1 H1:Hp} {p:Addr} {o:HO} (e:Ext R H R1 H1) (h:H p=none) (hr:R1 p=none) (lo:kfo o):Ext R H R1 (upd H1 p o):=by
 have w:=Wd.mut (o:=o) e.wd hr lo
 exact ⟨e.hh.put h,e.rr,w.rh,e.nn,w.ls⟩
noncomputable def xLC (js:List (Option Nat)) (ti:Dq) (g:Dg) (tc:Db) (te:De):Dq:=fun env P=>ti env fun l=>∃G:PyData→Option PyData→Prop,
 (∀ y∈l,g y (kly env js) fun env1=>tc env1 fun b=>if b=true then te env1 fun z=>G y (some z) else G y none)∧∀o,LcR G l o→P o
variable {scope:Scope} {N':List Str} {js:List (Option Nat)} {ts:List Nat}
theorem ks0 {ti:Dq} {g:Dg} {tc:Db} {te:De} {wi:TI} {gt:TG} {ct:TT} {et:TE}
 (hi: ∀{H0 R H:Hp} {σ:St} {env:List Dt} (P:List PyData→Prop) (Q:It→Hp→Prop),Fra He K H0 R H σ env→ti env P→(∀ l J R' H',P l→Ext R H R' H'→l.length≤sizeLine→Yld K J R' l→Q J H')→wi σ H Q)
 (hg: ∀{H0 R H:Hp} {σ:St} {env:List Dt} {d:PyData} {v:V} (P:List Dt→Prop) (Q:St→Hp→Prop),Fra He K H0 R H σ env→Rp K R v d→g d env P→(∀ env' σ',P env'→Fra He K H0 R H σ' env'→kqw ts σ σ'→Q σ' H)→gt v σ H Q)
 (hc: ∀{H0 R H:Hp} {σ:St} {env:List Dt} (P:Bool→Prop) (Q:Bool→Hp→Prop),Fra He K H0 R H σ env→tc env P→(∀ b R' H',P b→Ext R H R' H'→Q b H')→ct σ H Q)
 (he: ∀{H0 R H:Hp} {σ:St} {env:List Dt} (P:PyData→Prop) (Q:VK),Fra He K H0 R H σ env→te env P→(∀ d v R' H',P d→Ext R H R' H'→Rp K R' v d→Q v H')→et σ H Q)
 (hj:kfs js=true) (hts: ∀k∈ts,js[k]?=some none∨js[k]?=none)
 {H0 R H:Hp} {σ:St} {env:List Dt} (P:List PyData→Prop) (Q:VK) (F:Fra He K H0 R H σ env) (p:xLC js ti g tc te env P)
 (k: ∀ds a ys R' H',P ds→Ext R H R' H'→H a=none→H' a=some (.lst ys)→R' a=none→RpAll K R' ys ds→Q (.ref a) H'):tLC js wi gt ct et σ H Q:=by
 refine hi _ _ F p fun l J R1 H1 ⟨G,hG,hP⟩ e1 hz yd D hD=> ?_
 have hD0:H0 D=none:=F.ext.hh.free (e1.hh.free hD)
 have hDR:R1 D=none:=e1.wd.rh.free hD
 have F1:=(F.next e1).cap hj
 have un: ∀k∈ts,∀(d:Dt),(kly env js)[k]?=some d→d= .un:=fun m hm d hd=>by
  rcases kgz hd with z | ⟨j,z,_⟩
  · exact z
  · rcases hts m hm with q | q
    · rw [q] at z;cases z
    · rw [q] at z;cases z
 have ne1: ∀(m:Nat) (d:Dt),(kly env js)[m]?=some d→¬d.has H1 ((kdt σ js)[m]?).join D:=fun m d h z=>by
  obtain ⟨u,h2,_⟩:=(F1.slot m d h).hasAt z
  rw [hD] at h2;cases h2
 refine ⟨fun i m σ1 acc H2=>m=l.length - i∧i≤l.length∧∃R2 outs,Fra He K H0 R2 H2 σ1 (kly env js)∧Ext R1 H1 R2 H2∧H2 D=some (.lst acc)∧R2 D=none∧RpAll K R2 acc outs∧LcR G (l.take i) outs∧acc.length≤i∧
  ∀(m:Nat) (d:Dt),(kly env js)[m]?=some d→¬d.has H2 (σ1[m]?).join D,⟨l.length,by simp,Nat.zero_le _,R1,[],?_,?_,kad,hDR,.nil,.nil,Nat.le_refl _,fun m d h z=>ne1 m d h ((F1.slot m d h).hasMut (ne1 m d h) z)⟩,?_⟩
 · exact F1.other hD0 hDR trivial ne1
 · exact (Ext.refl e1.wd).mut hD hDR trivial
 · rintro i m σ1 acc H2 ⟨rfl,hi',R2,outs,F2,e2,hD2,hR2,ra,lc,hl,ne2⟩
   by_cases hlt:i < l.length
   · refine .inr ⟨yd.go R2 H2 i e2.rr e2.wd hlt,_,fun σ' acc' H' n'=>⟨l.length - (i + 1),by lia,rfl,hlt,n'⟩,fun x H3 y=> ?_⟩
     have hd:l[i]?=some l[i]:=by simp [hlt]
     obtain ⟨R3,e3,r3⟩:=yd.yl R2 H2 i l[i] x H3 e2.rr e2.wd hd y
     have F3:=F2.next e3
     have tk:l.take (i + 1)=l.take i++[l[i]]:=by rw [List.take_add_one,hd];rfl
     refine hg _ _ F3 r3 (hG l[i] (List.getElem_mem hlt)) fun env4 σ4 p4 F4 ag=> ?_
     have F3':Fra He K H0 R3 H3 σ4 (kly env js):=F3.agree ag un
     have ne4: ∀(H':Hp),Same H3 H'→∀(m:Nat) (d:Dt),(kly env js)[m]?=some d→¬d.has H' (σ4[m]?).join D:=fun H' s m d h z=>by
      have z:=(F3'.slot m d h).hasNext (fun a ys q_ q=>s a _ q) z
      rw [ag.2 m fun z'=>by rw [un m z' d h] at z;cases z] at z
      exact ne2 m d h ((F2.slot m d h).hasNext (fun a ys q_ q=>e3.hh a _ q) z)
     refine hc _ _ F4 p4 fun b R5 H5 p5 e5=> ?_
     cases b with
     | false=>
       rw [if_neg Bool.false_ne_true] at p5 ⊢
       have ee:=e3.trans e5
       exact ⟨R5,outs,F3'.next e5,e2.trans ee,ee.hh _ _ hD2,ee.nn _ _ hD2 hR2,RpAll.same ee.rr ra,by rw [tk];exact lc.snoc_skip p5,by lia,ne4 H5 e5.hh⟩
     | true=>
       rw [if_pos rfl] at p5 ⊢
       refine he _ _ (F4.next e5) p5 fun z v R6 H6 p6 e6 r6=> ?_
       have ee:=e3.trans (e5.trans e6)
       have hD6:=ee.hh _ _ hD2
       have hR6:=ee.nn _ _ hD2 hR2
       have F6:=F3'.next (e5.trans e6)
       have ne6:=ne4 H6 (e5.trans e6).hh
       refine ⟨hD6,by lia,R6,outs++[z],F6.other hD0 hR6 trivial ne6,(e2.trans ee).mut hD hR6 trivial,kad,hR6,RpAll.append (RpAll.same ee.rr ra) (.one r6),by rw [tk];exact lc.snoc_keep p6,by rw [List.length_append,List.length_singleton];lia,fun m d h z=>ne6 m d h ((F6.slot m d h).hasMut (ne6 m d h) z)⟩
   · have e:i=l.length:=by lia
     subst e
     rw [List.take_length] at lc
     exact .inl ⟨yd.st R2 H2 e2.rr e2.wd,k outs D acc R2 H2 (hP outs lc) (e1.trans e2) (e1.hh.free hD) hD2 hR2 ra⟩
theorem kdj {ti:Dq} {g:Dg} {tc:Db} {te:De} (caps: ∀i,Caps (Y i) scope N' js) (hi:DI He K Y tg iter ti) (hg:DG He K (Yc Y scope N') tg ts g) (hc:DIf He K (Yc Y scope N') ifs tc) (he:DE He K (Yc Y scope N') elt te)
 (hj:autoParam (kfs js=true) u4._auto_1) (hts:autoParam (∀ k∈ts,js[k]?=some none∨js[k]?=none) u14._auto_1)
 (hcalm:autoParam (∀ i,(Y i).calm=true) u3._auto_1)
 (hfb:autoParam (∀ i,(scope.names.all fun p=>p.2 != NameKind.free || ((Y i).env.scope.names.lookup p.1 == some .cell || (Y i).env.scope.names.lookup p.1 == some .free))=true) u3._auto_1)
 (hnb:autoParam ((scope.names.all fun p=>p.2 != NameKind.local || scope.names.lookup p.1 == some .local)=true) u4._auto_1)
 (hkind:autoParam (scope.kind= .function) u4._auto_1)
 (hs:autoParam (∀ i x,foldedSetIterable iter (Y i).env x=pure x) u10._auto_1):DO He K Y (.ListComp elt [⟨tg,iter,ifs,0⟩] scope pos) (xLC js ti g tc te):=by
 obtain ⟨wi,i1,i2⟩:=hi
 obtain ⟨gt,g1,g2⟩:=hg
 obtain ⟨ct,c1,c2⟩:=hc
 obtain ⟨et,e1,e2⟩:=he
 exact ⟨_,fun i=>kfa (hcalm i) (caps i) (i1 i) (fun s H fp=>g1 (i,s,H,fp)) (fun s H fp=>c1 (i,s,H,fp)) (fun s H fp=>e1 (i,s,H,fp)) (hfb i) hnb hkind (hs i),fun P Q F p k=>ks0 i2 g2 c2 e2 hj hts P Q F p k⟩
structure DEnds where
 nx:List Dt→Prop
 rt:Dt→Prop
 bk:List Dt→Prop:=fun q_=>False
 ct:List Dt→Prop:=fun q_=>False
structure Cov (He:Hp) (K:PySem.W.Frag) (H0 R0:Hp) (D:DEnds) (E:Ends):Prop where
 nx: ∀env' R' H' σ',D.nx env'→Same R0 R'→Fra He K H0 R' H' σ' env'→E.nx σ' H'
 rt: ∀dt v R' H',D.rt dt→Ext H0 H0 R' H'→SlotR K H0 R' H' (some v) dt→E.rt v H'
 bk: ∀env' R' H' σ',D.bk env'→Same R0 R'→Fra He K H0 R' H' σ' env'→E.bk σ' H'
 ct: ∀env' R' H' σ',D.ct env'→Same R0 R'→Fra He K H0 R' H' σ' env'→E.ct σ' H'
noncomputable abbrev Ds:=DEnds→List Dt→Prop
noncomputable def DS (He:Hp) (K:PySem.W.Frag) {ι:Type} (Y:ι→Cx) (st:Stmt) (t:Ds):Prop:=∃ts:TS,(∀ i,PS (Y i) st ts)∧∀{H0 R0 R H:Hp} {σ:St} {env:List Dt} (D:DEnds) (E:Ends),Fra He K H0 R H σ env→Same R0 R→Cov He K H0 R0 D E→t D env→ts E σ H
noncomputable def DSs (He:Hp) (K:PySem.W.Frag) {ι:Type} (Y:ι→Cx) (st:List Stmt) (t:Ds):Prop:=∃ts:TS,(∀ i,PSs (Y i) st ts)∧∀{H0 R0 R H:Hp} {σ:St} {env:List Dt} (D:DEnds) (E:Ends),Fra He K H0 R H σ env→Same R0 R→Cov He K H0 R0 D E→t D env→ts E σ H
variable {st:Stmt} {kc4:List Stmt}
noncomputable def ku0:Ds:=fun D env=>D.nx env
noncomputable def sSeq (t u:Ds):Ds:=fun D env=>t {D with nx:=u D} env
theorem ka7:DSs He K Y [] ku0:=⟨_,fun q_=>kej,fun D E F s c p=>c.nx _ _ _ _ p s F⟩
theorem kae {t u:Ds} (h:DS He K Y st t) (h':DSs He K Y kc4 u):DSs He K Y (st::kc4) (sSeq t u):=by
 obtain ⟨a,a1,a2⟩:=h
 obtain ⟨b,b1,b2⟩:=h'
 exact ⟨_,fun i=>kaq (a1 i) (b1 i),fun D E F s c p=>a2 {D with nx:=u D} _ F s ⟨fun env' R' H' σ' q s' F'=>b2 D E F' s' c q,c.rt,c.bk,c.ct⟩ p⟩
theorem kaj {t:Ds} (h:DS He K Y st t):DSs He K Y [st] t:=by
 obtain ⟨a,a1,a2⟩:=h
 exact ⟨_,fun i=>kax (a1 i),a2⟩
noncomputable def kya:Ds:=fun q_ q_=>False
theorem kj8:DS He K Y st kya:=⟨_,fun q_=>kqh,fun q_ q_ q_ q_ q_ p=>p.elim⟩
noncomputable def sFrz (i:Nat) (t:Ds):Ds:=fun D env=>∃xs,env[i]?=some (.o xs)∧t D (env.set i (.d (.list xs)))
theorem DSs.frz {sts:List Stmt} {t:Ds} (i:Nat) (h:DSs He K Y sts t):DSs He K Y sts (sFrz i t):=by
 obtain ⟨a,a1,a2⟩:=h
 refine ⟨a,a1,fun D E F s c ⟨xs,e,p⟩=> ?_⟩
 obtain ⟨R',s',F'⟩:=F.frz e
 exact a2 D E F' (s.trans s') c p
noncomputable def sSet (i:Nat) (t:De):Ds:=fun D env=>t env fun d=>D.nx (env.set i (.d d))
theorem ka5 (i:Nat) {x:Str} {t:De} {pos':Pos} (hN: ∀j,(Y j).N.Nodup) (h:DE He K Y e t) (hi:autoParam (∀ j,(Y j).N[i]?=some x) u3._auto_1) (hx:autoParam (∀ j,Loc (Y j).env.scope x) u12._auto_1)
 (hs:autoParam (∀ j,swapsWith e (some (.Name x pos')) pos.line (Y j).env=pure false) u3._auto_1) (hf:autoParam (∀ j,(Y j).fn x=true∨(Y j).env.scope.names.lookup x=some .local) u13._auto_1):
 DS He K Y (.Assign [.Name x pos'] e pos) (sSet i t):=by
 obtain ⟨a,a1,a2⟩:=h
 exact ⟨_,fun j=>ka9 (hN j) (hi j) (hx j) (a1 j) (hs j) (hf j),fun D E F s c p=>a2 _ _ F p fun d v R' H' q e r=>c.nx _ _ _ _ q (s.trans e.rr) ((F.next e).setD i r)⟩
noncomputable def kng (i:Nat) (t:Dq):Ds:=fun D env=>t env fun l=>D.nx (env.set i (.o l))
theorem kia {i:Nat} {t:Dq} {tl:TE} (ho: ∀{H0 R H:Hp} {σ:St} {env:List Dt} (P:List PyData→Prop) (Q:VK),Fra He K H0 R H σ env→t env P→
 (∀ ds a ys R' H',P ds→Ext R H R' H'→H a=none→H' a=some (.lst ys)→R' a=none→RpAll K R' ys ds→Q (.ref a) H')→tl σ H Q)
 {H0 R0 R H:Hp} {σ:St} {env:List Dt} (D:DEnds) (E:Ends) (F:Fra He K H0 R H σ env) (s:Same R0 R) (c:Cov He K H0 R0 D E) (p:kng i t D env):kxn tl (kmk i) E σ H:=
 ho _ _ F p fun l a ys R' H' q e hn ha hr r=>c.nx _ _ _ _ q (s.trans e.rr) (F.setN e i hn ⟨a,ys,rfl,ha,hr,F.ext.hh.free hn,r⟩)
theorem kfu (i:Nat) {x:Str} {t:Dq} {pos':Pos} (hN: ∀j,(Y j).N.Nodup) (h:DO He K Y e t) (hi:autoParam (∀ j,(Y j).N[i]?=some x) u3._auto_1) (hx:autoParam (∀ j,Loc (Y j).env.scope x) u12._auto_1)
 (hs:autoParam (∀ j,swapsWith e (some (.Name x pos')) pos.line (Y j).env=pure false) u3._auto_1) (hf:autoParam (∀ j,(Y j).fn x=true∨(Y j).env.scope.names.lookup x=some .local) u13._auto_1):
 DS He K Y (.Assign [.Name x pos'] e pos) (kng i t):=by
 obtain ⟨a,a1,a2⟩:=h
 exact ⟨_,fun j=>ka9 (hN j) (hi j) (hx j) (a1 j) (hs j) (hf j),fun D E F s c p=>kia a2 D E F s c p⟩
theorem kde (i:Nat) {x:Str} {ti:Dq} {g:Dg} {tc:Db} {te:De} {pos' spos:Pos} (hN: ∀j,(Y j).N.Nodup) (caps: ∀i,Caps (Y i) scope N' js) (hi:DI He K Y tg iter ti) (hg:DG He K (Yc Y scope N') tg ts g) (hc:DIf He K (Yc Y scope N') ifs tc) (he:DE He K (Yc Y scope N') elt te)
 (hix:autoParam (∀ j,(Y j).N[i]?=some x) u3._auto_1) (hx:autoParam (∀ j,Loc (Y j).env.scope x) u12._auto_1)
 (hj:autoParam (kfs js=true) u4._auto_1) (hts:autoParam (∀ k∈ts,js[k]?=some none∨js[k]?=none) u14._auto_1)
 (hcalm:autoParam (∀ i,(Y i).calm=true) u3._auto_1)
 (hfb:autoParam (∀ i,(scope.names.all fun p=>p.2 != NameKind.free || ((Y i).env.scope.names.lookup p.1 == some .cell || (Y i).env.scope.names.lookup p.1 == some .free))=true) u3._auto_1)
 (hnb:autoParam ((scope.names.all fun p=>p.2 != NameKind.local || scope.names.lookup p.1 == some .local)=true) u4._auto_1)
 (hsw:autoParam (∀ j,swapsWith (.ListComp elt [⟨tg,iter,ifs,0⟩] scope pos) (some (.Name x pos')) spos.line (Y j).env=pure true) u3._auto_1)
 (hkind:autoParam (scope.kind= .function) u4._auto_1) (hs:autoParam (∀ i x,foldedSetIterable iter (Y i).env x=pure x) u10._auto_1)
 (hf:autoParam (∀ j,(Y j).fn x=true∨(Y j).env.scope.names.lookup x=some .local) u13._auto_1):
 DS He K Y (.Assign [.Name x pos'] (.ListComp elt [⟨tg,iter,ifs,0⟩] scope pos) spos) (kng i (xLC js ti g tc te)):=by
 obtain ⟨wi,i1,i2⟩:=hi
 obtain ⟨gt,g1,g2⟩:=hg
 obtain ⟨ct,c1,c2⟩:=hc
 obtain ⟨et,e1,e2⟩:=he
 exact ⟨_,fun m=>kqq (i:=i) (hcalm m) (caps m) (i1 m) (fun s H fp=>g1 (m,s,H,fp)) (fun s H fp=>c1 (m,s,H,fp)) (fun s H fp=>e1 (m,s,H,fp)) (hN m) (hix m) (hx m) (hfb m) hnb (hsw m) hkind (hs m) (hf m),
  fun D E F s c p=>kia (fun P Q F p k=>ks0 i2 g2 c2 e2 hj hts P Q F p k) D E F s c p⟩
noncomputable def sRet (t:De):Ds:=fun D env=>t env fun d=>D.rt (.d d)
theorem kbg {t:De} (h:DE He K Y e t):DS He K Y (.Return (some e) pos) (sRet t):=by
 obtain ⟨a,a1,a2⟩:=h
 exact ⟨_,fun j=>kca (a1 j),fun D E F s c p=>a2 _ _ F p fun d v R' H' q e r=>c.rt _ _ R' H' q (F.ext.trans e) r⟩
noncomputable def ku1 (t:Dq):Ds:=fun D env=>t env fun l=>D.rt (.o l)
theorem kdy {t:Dq} (h:DO He K Y e t):DS He K Y (.Return (some e) pos) (ku1 t):=by
 obtain ⟨a,a1,a2⟩:=h
 exact ⟨_,fun j=>kca (a1 j),fun D E F s c p=>a2 _ _ F p fun l a ys R' H' q e hn ha hr r=>c.rt _ _ R' H' q (F.ext.trans e) ⟨a,ys,rfl,ha,hr,F.ext.hh.free hn,r⟩⟩
noncomputable def ku2 (i:Nat):Ds:=fun D env=>∃dt,env[i]?=some dt∧dt≠ .un∧D.rt dt
theorem kcy (i:Nat) {x:Str} {p2:Pos} (h:autoParam (∀ j,PE (Y j) (.Name x p2) (khr i)) u8._auto_1):DS He K Y (.Return (some (.Name x p2)) pos) (ku2 i):=
 ⟨_,fun j=>kca (h j),fun D E F s c ⟨dt,e,hu,q⟩=>by
   obtain ⟨v,h1,h2⟩:=F.get e hu
   exact ⟨v,h1,c.rt dt v _ _ q F.ext h2⟩⟩
noncomputable def sIf (t:Db) (u w:Ds):Ds:=fun D env=>t env fun b=>if b=true then u D env else w D env
theorem kcn {t:Db} {u w:Ds} {th el:List Stmt} (hc:DT He K Y c t) (h1:DSs He K Y th u) (h2:DSs He K Y el w):DS He K Y (.If c th el pos) (sIf t u w):=by
 obtain ⟨a,a1,a2⟩:=hc
 obtain ⟨b,b1,b2⟩:=h1
 obtain ⟨d,d1,d2⟩:=h2
 refine ⟨_,fun j=>klo (a1 j) (b1 j) (d1 j),fun D E F s c p=>a2 _ _ F p fun b R' H' q e=> ?_⟩
 cases b with
 | true=>
   rw [if_pos rfl] at q ⊢
   exact b2 D E (F.next e) (s.trans e.rr) c q
 | false=>
   rw [if_neg Bool.false_ne_true] at q ⊢
   exact d2 D E (F.next e) (s.trans e.rr) c q
noncomputable def kyb (ti:Dq) (g:Dg) (tb:Ds):Ds:=fun D env=>ti env fun l=>∃I:Nat→List Dt→Prop,I 0 env∧
 (∀ (k:Nat) (y:PyData) (env1:List Dt),l[k]?=some y→I k env1→g y env1 fun env2=>tb {nx:=I (k + 1),rt:=D.rt,bk:=D.nx,ct:=I (k + 1)} env2)∧∀env1,I l.length env1→D.nx env1
theorem kea {ti:Dq} {g:Dg} {tb:Ds} {body:List Stmt} (hp: ∀i,PassesOwn (model (Y i).prog (Y i).w) (Y i).A (Y i).env (Y i).xe) (hi:DI He K Y tg iter ti) (hg:DG He K Y tg ts g) (hb:DSs He K Y body tb) (hc:autoParam (∀ i,(Y i).calm=true) u3._auto_1)
 (hs:autoParam (∀ i x,foldedSetIterable iter (Y i).env x=pure x) u10._auto_1):DS He K Y (.For tg iter body [] pos) (kyb ti g tb):=by
 obtain ⟨wi,i1,i2⟩:=hi
 obtain ⟨gt,g1,g2⟩:=hg
 obtain ⟨bt,b1,b2⟩:=hb
 refine ⟨_,fun m=>kc5 (hp m) (hc m) (i1 m) (g1 m) (b1 m) (hs m),fun {H0 R0 R H σ env} D E F s c p=>i2 _ _ F p fun l J R1 H1 ⟨I,h0,hs,hd⟩ e1 hz yd=> ?_⟩
 have s1:Same R0 R1:=s.trans e1.rr
 refine ⟨fun i m σ2 H2=>m=l.length - i∧i≤l.length∧∃R2 env2,Fra He K H0 R2 H2 σ2 env2∧Same R1 R2∧I i env2,⟨l.length,by simp,Nat.zero_le _,R1,env,F.next e1,Same.refl R1,h0⟩,?_⟩
 rintro i m σ2 H2 ⟨rfl,hi',R2,env2,F2,s2,p2⟩
 by_cases hlt:i < l.length
 · refine .inr ⟨yd.go R2 H2 i s2 F2.wd hlt,fun σ' H'=>∃R2 env2,Fra He K H0 R2 H' σ' env2∧Same R1 R2∧I (i + 1) env2,fun σ' H' n'=>⟨l.length - (i + 1),by lia,rfl,hlt,n'⟩,fun x H3 y=> ?_⟩
   have hd':l[i]?=some l[i]:=by simp [hlt]
   obtain ⟨R3,e3,r3⟩:=yd.yl R2 H2 i l[i] x H3 s2 F2.wd hd' y
   refine g2 _ _ (F2.next e3) r3 (hs i l[i] env2 hd' p2) fun env4 σ4 p4 F4 q_=> ?_
   refine b2 (R0:=R1) {nx:=I (i + 1),rt:=D.rt,bk:=D.nx,ct:=I (i + 1)} _ F4 (s2.trans e3.rr) ⟨fun env' R' H' σ' q s' F'=>⟨R',env',F',s',q⟩,c.rt,fun env' R' H' σ' q s' F'=>c.nx _ _ _ _ q (s1.trans s') F',fun env' R' H' σ' q s' F'=>⟨R',env',F',s',q⟩⟩ p4
 · have e:i=l.length:=by lia
   subst e
   exact .inl ⟨yd.st R2 H2 s2 F2.wd,c.nx _ _ _ _ (hd env2 p2) (s1.trans s2) F2⟩
noncomputable def sApp (i:Nat) (t:De):Ds:=fun D env=>∃xs,env[i]?=some (.o xs)∧t env fun d=>xs.length < 100000∧D.nx (env.set i (.o (xs++[d])))
theorem Fra.lstAt {H0 R H:Hp} {σ:St} {env:List Dt} {i:Nat} {xs:List PyData} (F:Fra He K H0 R H σ env) (h:env[i]?=some (.o xs)): ∃a ys,σ[i]?=some (some (.ref a))∧H a=some (.lst ys)∧R a=none∧H0 a=none∧RpAll K R ys xs:=by
 obtain ⟨v,hs,a,ys,rfl,h2,h3,h4,h5⟩:=F.get h (by intro z;cases z)
 exact ⟨a,ys,hs,h2,h3,h4,h5⟩
theorem Fra.lstSet {H0 R H:Hp} {σ:St} {env:List Dt} {i:Nat} {xs xs':List PyData} {a:Addr} {ys':List V} (F:Fra He K H0 R H σ env) (h:env[i]?=some (.o xs)) (hs:σ[i]?=some (some (.ref a))) (h3:R a=none) (h4:H0 a=none) (h5:RpAll K R ys' xs'):Fra He K H0 R (upd H a (.lst ys')) σ (env.set i (.o xs')):=
 F.mut h rfl hs trivial ⟨a,ys',rfl,kad,h3,h4,h5⟩
theorem szlt' {n:Nat} (h:n≤100000):n < sizeLine:=Nat.lt_of_le_of_lt h (by decide)
theorem kj9 {X:Cx} {o e:Expr} {es:List Expr} {to:TE} {t:TA} {name:Str} {apos cpos:Pos} {T id:String} {r:V→List V→Hp→VK→Prop} (K:PySem.W.Frag) (hK:X.K=K) (pa:PlainAttrs T) (slot:Slot T name id) (hty:typeOf (.builtin id)=pure (.type "method_descriptor")) (hm:MtR X id r) (ho:PE X o to) (ha:PA X (e::es) t)
 (hbase:attributeBase o name X.env (eval o X.env)=eval o X.env)
 (hfew:((backTo cpos (starEach (e::es) X.env)).all (fun x=> !x.1) && (backToKw cpos (keywordEach [] X.env)).all (fun x=>x.1.isSome)
   && decide ((e::es).length + ([]:List Keyword).length + (if ([]:List Keyword).isEmpty then 0 else 1) < 30))=true)
 (hline:(apos.endLine == cpos.line)=true) (hs:starEach (e::es) X.env=(false,eval e X.env)::starEach es X.env) (hplain:(backTo cpos (starEach es X.env)).any (·.1)=false):
 PE X (.Call (.Attribute o name apos) (e::es) [] cpos) (tBM K T r to t):=hK▸kh1 pa slot hty hm ho ha hbase hfew hline hs hplain
theorem kka (i:Nat) {x:Str} {t:De} {p2 apos cpos:Pos} (h:DE He K Y e t) (hv:autoParam (∀ j,PE (Y j) (.Name x p2) (khr i)) u8._auto_1) (hK:autoParam (∀ i,(Y i).K=K) u3._auto_1)
 (hbase:autoParam (∀ j,attributeBase (.Name x p2) "append" (Y j).env (eval (.Name x p2) (Y j).env)=eval (.Name x p2) (Y j).env) u3._auto_1)
 (hfew:autoParam (∀ j,((backTo cpos (starEach [e] (Y j).env)).all (fun x=> !x.1) && (backToKw cpos (keywordEach [] (Y j).env)).all (fun x=>x.1.isSome)
   && decide (([e]:List Expr).length + ([]:List Keyword).length + (if ([]:List Keyword).isEmpty then 0 else 1) < 30))=true) u3._auto_1)
 (hline:autoParam ((apos.endLine == cpos.line)=true) u4._auto_1) (hs:autoParam (∀ j,starEach [e] (Y j).env=(false,eval e (Y j).env)::starEach [] (Y j).env) u3._auto_1) (hplain:autoParam (∀ j,(backTo cpos (starEach [] (Y j).env)).any (·.1)=false) u3._auto_1)
 (hsw:autoParam (∀ j,swapsWith (.Call (.Attribute (.Name x p2) "append" apos) [e] [] cpos) none pos.line (Y j).env=pure false) u3._auto_1):
 DS He K Y (.Expr (.Call (.Attribute (.Name x p2) "append" apos) [e] [] cpos) pos) (sApp i t):=by
 obtain ⟨te,a1,a2⟩:=h
 refine ⟨_,fun j=>kdp (kj9 K (hK j) PySem.F.plainAttrs_list PySem.F.slot_list_append PySem.F.type_list_append kcl (hv j) (kab (a1 j) kai (hs j)) (hbase j) (hfew j) hline (hs j) (hplain j)) (hsw j),fun D E F s c p=> ?_⟩
 obtain ⟨xs,ex,p⟩:=p
 obtain ⟨a,ys,h1,h2,h3,h4,h5⟩:=F.lstAt ex
 refine ⟨_,h1,.inl ⟨rfl,_,SqL.of h2⟩,a2 _ _ F p fun d v R' H' ⟨hz,q⟩ ee r=> ?_⟩
 have r5:=RpAll.same ee.rr h5
 refine ⟨a,ys,v,rfl,rfl,ee.hh _ _ h2,szlt' (by rw [h5.len];lia),?_⟩
 exact c.nx _ _ _ _ q (s.trans ee.rr) ((F.next ee).lstSet ex h1 (ee.nn _ _ h2 h3) h4 (RpAll.append r5 (.one r)))
noncomputable def kc7 (n:Nat) (ds:List PyData):List Dt:=ds.map Dt.d++List.replicate (n - ds.length) .un
theorem Fra.begin {H:Hp} {N:List Str} {vs:List V} {ds:List PyData} (he:Same He H) (r:RpAll K H vs ds):Fra He K H H H (L2.start N vs) (kc7 N.length ds):=by
 have hl:=r.len
 refine ⟨he,Ext.of_same (Same.refl H),by simp [L2.start,kc7,hl],fun i d h=> ?_,fun i j di dj a h q_ o q_=> ?_⟩
 · by_cases hi:i < ds.length
   · have e1:(kc7 N.length ds)[i]?=some (.d ds[i]):=by
      unfold kc7
      rw [List.getElem?_append_left (by rw [List.length_map];exact hi),List.getElem?_map]
      simp [hi]
     rw [e1] at h;cases h
     obtain ⟨v,hv,rv⟩:=r.get' (i:=i) (d:=ds[i]) (by simp [hi])
     have e2:(L2.start N vs)[i]?=some (some v):=by
      unfold L2.start
      rw [List.getElem?_append_left (by rw [List.length_map,hl];exact hi),List.getElem?_map,hv];rfl
     rw [e2]
     exact rv
   · have:d= .un:=by
      unfold kc7 at h
      rw [List.getElem?_append_right (by rw [List.length_map];lia),List.getElem?_replicate] at h
      split at h
      · cases h;rfl
      · cases h
     subst this
     cases ((L2.start N vs)[i]?).join <;> trivial
 · by_cases hi:i < ds.length
   · have e1:(kc7 N.length ds)[i]?=some (.d ds[i]):=by
      unfold kc7
      rw [List.getElem?_append_left (by rw [List.length_map];exact hi),List.getElem?_map]
      simp [hi]
     rw [e1] at h;cases h;cases o
   · have:di= .un:=by
      unfold kc7 at h
      rw [List.getElem?_append_right (by rw [List.length_map];lia),List.getElem?_replicate] at h
      split at h
      · cases h;rfl
      · cases h
     subst this
     cases o
theorem Fun.okG {P:Program} {w:World} {mg:Str→Option Value} {base:Heap} {x qual:Str} {st:Stmt} {f:Addr} {fd:FuncData} {N ps:List Str} {k:Nat} {Pm:List PyData→(Dt→Prop)→Prop} {T:Ds} (F:Fun K x qual st f fd) (S:FnScope N ps (kag st)) (len: ∀ds RS,Pm ds RS→ds.length=ps.length)
 (hT: ∀(cdv:Value) (A:Around) (outer:List Env) (s:Shared) (H:Hp) (E:XK),Room k (A.deeper (envOfC qual (kag st) s.heap.objs.size f cdv))→DSs (fun q_=>none) K (fun _:Unit=>(kmv CX0 P w K mg base N qual (kag st) f cdv A outer s H E).nox) (kbr st) T)
 (hR: ∀ds RS,Pm ds RS→T {nx:=fun q_=>RS (.d .none),rt:=RS} (kc7 N.length ds)):FnOk P w K mg base CX0 (k + 1) f fd ps (spG K Pm):=by
 refine F.ok S (fun vs H Q E h=> ?_) (fun cdv A outer s H vs Q E hr h=> ?_)
 · obtain ⟨ds,RS,h1,h2,_⟩:=h
   rw [h1.len]
   exact len ds RS h2
 · obtain ⟨ds,RS,h1,h2,k⟩:=h
   obtain ⟨ts,t1,t2⟩:=hT cdv A outer s H E hr
   refine ⟨ts,t1 (),t2 (R0:=H) {nx:=fun q_=>RS (.d .none),rt:=RS} _ (Fra.begin (fun q_ q_ z=>by cases z) h1) (Same.refl H) ⟨fun env' R' H' σ' q q_ F'=>k (.d .none) .non R' H' q F'.ext Rp.non,fun dt v R' H' q e sl=>k dt v R' H' q e sl,fun q_ q_ q_ q_ q=>q.elim,fun q_ q_ q_ q_ q=>q.elim⟩ (hR ds RS h2)⟩
end
end L2
namespace L2
open PySem PySem.Spec PyProof.Rows
section
variable {prog:Program} {w:World} {A:Around} {E:Value→Shared→Prop} {s:Shared}
variable {z TI TO i1 i2:Addr} {f1 f2:List Addr} {n1 n2 k1 k2:Nat} {P1 P2:Nat→Value→Prop} {S1 S2:Nat→Heap→Prop} {a b:Value}
end
end L2
namespace L2
open PySem PySem.Spec PyProof.Rows
noncomputable def SqB (b:Bool) (H:Hp) (a:Addr) (xs:List V):Prop:=H a=some (if b=true then .lst xs else .tup xs)
theorem SqB.inj {b:Bool} {H:Hp} {a:Addr} {xs ys:List V} (h:SqB b H a xs) (h':SqB b H a ys):xs=ys:=by
 unfold SqB at h h'
 rw [h] at h'
 cases b
 · simpa using h'
 · simpa using h'
noncomputable def ks1 (b:Bool) (h:Heap) (a:Addr) (its:Array Value):Prop:=if b=true then h.IsList a its else h.IsTuple a its
section
variable {X:Cx} {pins:List (Addr×Obj)} {σ:St} {H:Hp} {s:Shared}
theorem Inv.itemsB {b:Bool} {a:Addr} {xs:List V} (I:Inv X pins σ H s) (h:SqB b H a xs): ∃its:List Value,Vals xs its∧ks1 b s.heap a its.toArray∧xs.length≤sizeLine:=by
 unfold SqB at h
 unfold ks1
 cases b
 · simp only [Bool.false_eq_true,if_false] at h ⊢
   obtain ⟨its,r,p,hz⟩:=I.tuple (SqT.of (K:=X.K) h)
   exact ⟨its,r,p,hz⟩
 · simp only [if_true] at h ⊢
   obtain ⟨its,r,p,hz⟩:=I.list (SqL.of (K:=X.K) h)
   exact ⟨its,r,p.isList,hz⟩
theorem Inv.turnedL {fp:List Addr} {p:Addr} {xs:List V} {its:List Value} {h':Heap} {t':Nat} (I:Inv X pins σ H s) (hf: ∀b∈fp,klp X pins H b) (hk: ∀b o,b ∉ fp→s.heap.get? b=some o→h'.get? b=some o) (hp:p=s.heap.objs.size)
 (hz:xs.length≤sizeLine) (r:Vals xs its) (ht:IsTup h' p its.toArray) (hfl: ∀b∈fp,b < s.heap.objs.size):Inv X pins σ (upd H p (.tup xs)) {s with heap:=h',toks:=t'}:=by
 subst hp
 have hn:H s.heap.objs.size=none:=I.hok.fresh (Nat.le_refl _)
 have nf: ∀b o,H b=some o→b ∉ fp:=fun b o e z=>by rw [(hf b z).1] at e;cases e
 refine I.call (ch:=fp) (g':=s.gens) (d':=s.drawn) ⟨fun b o e n q_ hc=>hk b o hc e,fun b o e n q_ hc=>⟨o.slots,hk b o hc e⟩,fun b o e n q_=> ?_,fun b o e hc=>⟨o,hk b o hc e⟩,fun b ys e=> ?_,fun b o u e=> ?_,fun b ps e=>⟨#[],?_⟩⟩ (fun b o e=> ?_) I.bare fun b hb=> ?_
 · rw [kah (Nat.ne_of_lt (Heap.lt_size e))];exact n
 · rw [kah (kaf e hn)];exact e
 · rw [kah (kaf e hn)];exact e
 · rw [kah (kaf e hn),e];simp
 · by_cases hb:b=s.heap.objs.size
   · subst hb
     rw [kad] at e;cases e
     exact ⟨hz,its,r,ht⟩
   · rw [kah hb] at e
     refine (I.hok b o e).stay (fun c u hc q=>hk c u ?_ q) (fun c q=>by rw [kah (kaf q hn)];exact q) fun c ys q=>by rw [kah (kaf q hn)];exact q
     rcases hc with rfl | hc
     · exact nf _ _ e
     · exact nf _ _ hc
 · obtain ⟨f0,f1,f2,f3,f4,f5⟩:=hf b hb
   exact ⟨f3,f1,f4,f5⟩
theorem Inv.turnedN {fp:List Addr} {h':Heap} {t':Nat} (I:Inv X pins σ H s) (hf: ∀b∈fp,klp X pins H b) (hk: ∀b o,b ∉ fp→s.heap.get? b=some o→h'.get? b=some o):Inv X pins σ H {s with heap:=h',toks:=t'}:=by
 have nf: ∀b o,H b=some o→b ∉ fp:=fun b o e z=>by rw [(hf b z).1] at e;cases e
 refine I.call (ch:=fp) (g':=s.gens) (d':=s.drawn) ⟨fun b o e n q_ hc=>hk b o hc e,fun b o e n q_ hc=>⟨o.slots,hk b o hc e⟩,fun b o e n q_=>n,fun b o e hc=>⟨o,hk b o hc e⟩,fun b ys e=>e,fun b o u e=>e,fun b ps e=>⟨#[],?_⟩⟩ (fun b o e=> ?_) I.bare fun b hb=> ?_
 · rw [e];simp
 · refine (I.hok b o e).stay (fun c u hc q=>hk c u ?_ q) (fun c q=>q) fun c ys q=>q
   rcases hc with rfl | hc
   · exact nf _ _ e
   · exact nf _ _ hc
 · obtain ⟨f0,f1,f2,f3,f4,f5⟩:=hf b hb
   exact ⟨f3,f1,f4,f5⟩
end
section
variable {a b c d e:Addr}
theorem kyc {α:Type} {l:List α} {i:Nat} (h:i < l.length):l[i]?=some l[i]:=List.getElem?_eq_getElem h
end
section
variable {prog:Program} {w:World} {A:Around} {E:Value→Shared→Prop} {s:Shared}
end
section
variable {X:Cx} {elts:List Expr} {kk:Nat} {tpos:Pos}
end
section
variable {He:Hp} {K:PySem.W.Frag} {ι:Type} {Y:ι→Cx} {a b:Expr} {pos:Pos} {elts:List Expr} {kk:Nat} {tpos:Pos}
end
end L2
namespace L2
open PySem PySem.Spec PyProof.Rows
theorem ku3 (bs:List Bool):((List.range bs.length).all fun i=>(bs[i]?).getD true)=bs.all id:=by
 rw [Bool.eq_iff_iff,List.all_eq_true,List.all_eq_true]
 constructor
 · intro h b hb
   obtain ⟨i,hi,e⟩:=List.getElem_of_mem hb
   have:=h i (List.mem_range.mpr hi)
   simp only [List.getElem?_eq_getElem hi,Option.getD_some,e] at this
   exact this
 · intro h i hi
   have hi':=List.mem_range.mp hi
   simp only [List.getElem?_eq_getElem hi',Option.getD_some]
   exact h _ (List.getElem_mem hi')
section
variable {X:Cx}
theorem ku4 {bs:List Bool} {its:List Value} {i:Nat} {v:Value} (r:Vals (bs.map V.bl) its) (h:its[i]?=some v): ∃b,bs[i]?=some b∧v= .bool b:=by
 have hl:=r.length
 rw [List.length_map] at hl
 have hi:i < its.length:=(List.getElem?_eq_some_iff.mp h).1
 obtain ⟨u,hu,ru⟩:=r.get (i:=i) (x:=V.bl (bs[i]'(by lia))) (by simp [show i < bs.length by lia])
 rw [h] at hu
 cases hu
 exact ⟨_,by simp [show i < bs.length by lia],ru⟩
theorem kqy (K:PySem.W.Frag) (hc:X.calm=true) (hK:X.K=K):CallR X (.builtin "all") (fun xs H Q=>∃(p:Addr) (bs:List Bool),xs=[.ref p]∧SqL K H p (bs.map V.bl)∧Q (.bl (bs.all id)) H):=by
 subst hK
 intro pins s σ H xs us Q I r h
 obtain ⟨p,bs,rfl,hq,q⟩:=h
 obtain ⟨u,rfl,rx⟩:=kd6 r
 cases rx
 obtain ⟨its,rv,pl,hz⟩:=I.list hq
 have hl:=pl.isList
 have hlt:p < s.heap.objs.size:=by obtain ⟨_,e,_⟩:=hl;exact Heap.lt_size e
 have hh:X.A.in1.handled=none:=I.ok.hd hc
 refine call_all_walk (wpAny_pyIter_list hl ?_)
 refine ⟨s.heap.objs.size,[s.heap.objs.size,p],[s.heap.objs.size],its.toArray.size,_,_,fun i=>(bs[i]?).getD true,rfl,Walks.list (A:=X.A.in1) hh _ p (Nat.ne_of_lt hlt) its.toArray,
  ⟨⟨_,Heap.get?_push_size _ rfl,rfl,rfl⟩,hl.push _⟩,fun i v s' Q' E' hP hQ=> ?_,fun h' tk hk=> ?_⟩
 · obtain ⟨b,e,rfl⟩:=ku4 rv (i:=i) (v:=v) (by simpa using hP)
   simp only [e,Option.getD_some] at hQ
   exact wpAny_truthy_bool hQ
 · have e:((List.range its.toArray.size).all fun i=>(bs[i]?).getD true)=bs.all id:=by
    rw [List.size_toArray,← rv.length,List.length_map];exact ku3 bs
   rw [e]
   have kp: ∀b o,s.heap.get? b=some o→h'.get? b=some o:=fun b x e=>hk b x (fun hm=>by rw [List.mem_singleton.mp hm] at e;exact Nat.lt_irrefl _ (Heap.lt_size e)) (Heap.get?_push_of_some _ e)
   exact ⟨.bl _,H,I.kept kp,rfl,q⟩
end
section
variable {He:Hp} {K:PySem.W.Frag} {ι:Type} {Y:ι→Cx} {e a b:Expr} {pos:Pos}
theorem kyd:bootBuiltins "all"=some (.builtin "all"):=by decide +kernel
noncomputable def xAll (t:Dq):De:=fun env P=>t env fun l=>∃bs:List Bool,l=bs.map PyData.bool∧P (.bool (bs.all id))
theorem kkb {t:Dq} {p:Pos} (h:DL He K Y a t) (hm: ∀i,(Y i).mg "all"=none) (hc:autoParam (∀ i,(Y i).calm=true) u3._auto_1) (hg:autoParam (∀ i,Gl (Y i) "all") u3._auto_1) (hK:autoParam (∀ i,(Y i).K=K) u3._auto_1) (hs:autoParam (∀ i,starEach [a] (Y i).env=[(false,eval a (Y i).env)]) u3._auto_1):
 DE He K Y (.Call (.Name "all" p) [a] [] pos) (xAll t):=by
 obtain ⟨te,h1,h2⟩:=h
 refine ⟨_,fun i=>kbf (kqy K (hc i) (hK i)) (hg i) (hm i) kyd (kab (h1 i) kai (hs i)) (by decide) (by decide) (hs i),fun P Q F p k=>h2 _ _ F p fun l x ys R1 H1 ⟨bs,hb,q1⟩ e1 s1 r1=> ?_⟩
 subst hb
 rw [RpAll.bools_inv r1] at s1
 exact ⟨x,bs,rfl,SqL.of s1,k _ _ R1 H1 q1 e1 (.bl _)⟩
end
end L2
namespace L2
open PySem PySem.Spec PyProof.Rows
section
variable {X:Cx}
theorem knh (K:PySem.W.Frag) (hu:X.A.units + 10 < cLine) (h:autoParam (X.K=K) u4._auto_1):OpR X (compareOp .NotIn) (fun x y H Q=>∃p xs ds dx,y= .ref p∧(SqL K H p xs∨SqT K H p xs)∧RpAll K H xs ds∧Rp K H x dx∧PyData.canLayAll0 ds=true∧dx.canLay0=true∧dx.depth≤9∧Q (.bl (!(ds.any fun d=>PyData.eqv d dx))) H):=by
 subst h
 intro pins s σ H x y v u Q I rx ry h
 obtain ⟨p,xs,ds,dx,rfl,hq,ha,hx,l1,l2,hd,q⟩:=h
 cases ry
 obtain ⟨as,ra⟩:=I.reads hx rx l2
 have hu1:X.A.in1.units + dx.depth < cLine:=by show X.A.units + 1 + dx.depth < cLine;lia
 rcases hq with hq | hq
 · obtain ⟨its,r,pl,hz⟩:=I.list hq
   obtain ⟨bs,rb⟩:=I.readsAll ha r l1
   refine SeqAt.notIn_listAt (eqR s.heap dx) pl.isList (fun w hw=>kfl ra l2 hu1 rb l1 w (by simpa using hw)) ⟨.bl _,H,I,rfl,?_⟩
   rw [show its.toArray.any (eqR s.heap dx)=its.any (eqR s.heap dx) by simp,kfk rb l1]
   exact q
 · obtain ⟨its,r,pl,hz⟩:=I.tuple hq
   obtain ⟨bs,rb⟩:=I.readsAll ha r l1
   refine SeqAt.notIn_tupleAt (eqR s.heap dx) pl (fun w hw=>kfl ra l2 hu1 rb l1 w (by simpa using hw)) ⟨.bl _,H,I,rfl,?_⟩
   rw [show its.toArray.any (eqR s.heap dx)=its.any (eqR s.heap dx) by simp,kfk rb l1]
   exact q
end
section
variable {He:Hp} {K:PySem.W.Frag} {ι:Type} {Y:ι→Cx} {e a b c:Expr} {es:List Expr} {pos:Pos} {lo hi:Option Expr}
noncomputable def ki4:PyData→PyData→(PyData→Prop)→Prop:=fun x y P=>∃l,kp8 y=some l∧PyData.canLayAll0 l=true∧okD x∧ki1 x∧P (.bool (!(l.any fun d=>PyData.eqv d x)))
theorem kqz (hu: ∀i,(Y i).A.units + 10 < cLine) (hK:autoParam (∀ i,(Y i).K=K) u3._auto_1):OD K Y (compareOp .NotIn) ki4:=by
 refine ⟨_,fun i=>knh K (hu i) (hK i),fun P Q r1 r2 p k=> ?_⟩
 obtain ⟨l,h1,h2,h3,h4,p⟩:=p
 obtain ⟨a,ys,rfl,h5,h6⟩:=kfp r2 h1
 exact ⟨a,ys,l,_,rfl,h5,h6,r1,h2,h3,h4,k _ _ p (kqt _)⟩
theorem RpAll.erase {R:Hp}: ∀{vs:List V} {ds:List PyData} (j:Nat),RpAll K R vs ds→RpAll K R (vs.eraseIdx j) (ds.eraseIdx j)
 | _,_,_,.nil=> .nil
 | _,_,0,.cons _ t=>t
 | _,_,j + 1,.cons x t=> .cons x (RpAll.erase j t)
noncomputable def ks2 (t:Db) (tb:Ds):Ds:=fun D env=>∃(I:Nat→List Dt→Prop),(∃ m,I m env)∧∀m env1,I m env1→t env1 fun b=>if b=true then tb {nx:=fun e=>∃m',m' < m∧I m' e,rt:=D.rt,bk:=D.nx,ct:=fun e=>∃m',m' < m∧I m' e} env1 else D.nx env1
theorem kg0 {t:Db} {tb:Ds} {body:List Stmt} (hp: ∀i,PassesOwn (model (Y i).prog (Y i).w) (Y i).A (Y i).env (Y i).xe) (hc:DT He K Y c t) (hb:DSs He K Y body tb):DS He K Y (.While c body [] pos) (ks2 t tb):=by
 obtain ⟨ct,c1,c2⟩:=hc
 obtain ⟨bt,b1,b2⟩:=hb
 refine ⟨_,fun j=>kqi (hp j) (c1 j) (b1 j),fun {H0 R0 R H σ env} D E F s c p=> ?_⟩
 obtain ⟨I,⟨m0,p0⟩,hI⟩:=p
 refine ⟨fun m σ2 H2=>∃R2 env2,Fra He K H0 R2 H2 σ2 env2∧Same R0 R2∧I m env2,⟨m0,R,env,F,s,p0⟩,?_⟩
 rintro m σ2 H2 ⟨R2,env2,F2,s2,p2⟩
 refine c2 _ _ F2 (hI m env2 p2) fun b R3 H3 q e3=> ?_
 cases b with
 | true=>
   rw [if_pos rfl] at q
   refine ⟨fun σ' H'=>∃m',m' < m∧∃R2 env2,Fra He K H0 R2 H' σ' env2∧Same R0 R2∧I m' env2,fun σ' H' ⟨m',h1,h2⟩=>⟨m',h1,h2⟩,?_⟩
   refine b2 (R0:=R0) {nx:=fun e=>∃m',m' < m∧I m' e,rt:=D.rt,bk:=D.nx,ct:=fun e=>∃m',m' < m∧I m' e} _ (F2.next e3) (s2.trans e3.rr) ⟨fun env' R' H' σ' ⟨m',h1,h2⟩ s' F'=>⟨m',h1,R',env',F',s',h2⟩,c.rt,fun env' R' H' σ' q s' F'=>c.nx _ _ _ _ q s' F',fun env' R' H' σ' ⟨m',h1,h2⟩ s' F'=>⟨m',h1,R',env',F',s',h2⟩⟩ q
 | false=>
   rw [if_neg Bool.false_ne_true] at q
   exact c.nx _ _ _ _ q (s2.trans e3.rr) (F2.next e3)
end
end L2
namespace L2
open PySem PySem.Spec PyProof.Rows
theorem kye (x:PyData):kui (.d x)=some x:=rfl
theorem kyf (x:List PyData):kui (.o x)=some (.list x):=rfl
theorem kyg (xs:List PyData):kp8 (.list xs)=some xs:=rfl
theorem kyh (xs:List PyData):kp8 (.tuple xs)=some xs:=rfl
theorem knj (ns:List Int):kp8 (ke7 ns)=some (ns.map PyData.int):=by
 show (if excK (ns.map fun n=>(PyData.int n,PyData.none))=true then none else some ((ns.map fun n=>(PyData.int n,PyData.none)).map (·.1)))=_
 rw [kgw,if_neg Bool.false_ne_true,List.map_map];rfl
noncomputable def Gf {α:Type} (l:List α) (f:α→PyData) (q:α→Bool) (h:α→PyData):PyData→Option PyData→Prop:=fun y z=>∃x,x∈l∧y=f x∧((q x=true∧z=some (h x))∨(q x=false∧z=none))
theorem Gf.keep {α:Type} {l:List α} {f:α→PyData} {q:α→Bool} {h:α→PyData} {x:α} {z:PyData} (hx:x∈l) (hq:q x=true) (hz:z=h x):Gf l f q h (f x) (some z):=⟨x,hx,rfl,.inl ⟨hq,by rw [hz]⟩⟩
theorem Gf.skip {α:Type} {l:List α} {f:α→PyData} {q:α→Bool} {h:α→PyData} {x:α} (hx:x∈l) (hq:q x=false):Gf l f q h (f x) none:=⟨x,hx,rfl,.inr ⟨hq,rfl⟩⟩
theorem Gf.out {α:Type} {l0:List α} {f:α→PyData} {q:α→Bool} {h:α→PyData} (hf: ∀a b,f a=f b→a=b): ∀{l:List α} {o:List PyData},LcR (Gf l0 f q h) (l.map f) o→o=(l.filter q).map h
 | [],_,.nil=>rfl
 | x::l,_,.skip a b=>by
   obtain ⟨x',_,e,hz⟩:=a
   have e:=hf _ _ e
   subst e
   rcases hz with ⟨_,z⟩ | ⟨hq,_⟩
   · cases z
   · rw [List.filter_cons_of_neg (by rw [hq];exact Bool.false_ne_true)]
     exact Gf.out hf b
 | x::l,_,.keep a b=>by
   obtain ⟨x',_,e,hz⟩:=a
   have e:=hf _ _ e
   subst e
   rcases hz with ⟨hq,z⟩ | ⟨_,z⟩
   · rw [List.filter_cons_of_pos hq,List.map_cons]
     cases z
     exact congrArg _ (Gf.out hf b)
   · cases z
theorem Gf.all {α:Type} {l0:List α} {f:α→PyData} {h:α→PyData} (hf: ∀a b,f a=f b→a=b) {o:List PyData} (r:LcR (Gf l0 f (fun q_=>true) h) (l0.map f) o):o=l0.map h:=by
 rw [Gf.out hf r,List.filter_eq_self.mpr fun q_ q_=>rfl]
theorem kb4: ∀a b:Int,PyData.int a=PyData.int b→a=b:=fun q_ q_ h=>PyData.int.inj h
theorem ki5: ∀a b:Nat,PyData.int (a:Int)=PyData.int (b:Int)→a=b:=fun q_ q_ h=>Int.ofNat.inj (PyData.int.inj h)
theorem kq0: ∀a b:Int×Int,PyData.tuple [.int a.1,.int a.2]=PyData.tuple [.int b.1,.int b.2]→a=b:=fun a b h=>by
 injection h with h
 injection h with h1 h2
 injection h2 with h2 _
 exact Prod.ext (PyData.int.inj h1) (PyData.int.inj h2)
theorem kq1 (n:Nat):ke9 0 n=(List.range n).map fun (i:Nat)=>PyData.int (i:Int):=by
 unfold ke9
 exact List.map_congr_left fun a q_=>by rw [Int.zero_add]
theorem all_map {α:Type} (l:List α) (p:α→Bool):(l.map p).all id=l.all p:=by rw [List.all_map];rfl
end L2
namespace L2
open PySem PySem.Spec PyProof.Rows
theorem kp9 {c:Bool} {A B:Prop} (hc:c=false) (h:B):if c=true then A else B:=by
 subst hc
 exact h
theorem kb8 {t u:Ds} {D:DEnds} {env:List Dt} (G:List Dt→Prop) (h1: ∀N:List Dt→Prop,(∀ e,G e→N e)→t {D with nx:=N} env) (h2: ∀e,G e→u D e):sSeq t u D env:=h1 (u D) h2
end L2
namespace L2
open PySem PySem.Spec PyProof.Rows
section
variable {X:Cx}
theorem klz {prog:Program} {w:World} {A:Around} {E:Value→Shared→Prop} {s:Shared} {l:Addr} {vs:List Value} {ns:List Int} {k:Int} {t:Tok} {Q:Value→Shared→Prop} (hl:s.heap.IsList l vs.toArray) (hi:IntsAre vs ns)
 (hb:ns.length < 2 ^ 62) (hk:k∈ns) (h:Q (.int (ns.idxOf k:Nat) s.toks) {s with toks:=s.toks + 1}):
 wpAny (model prog w) A (call (.builtin "list.index") [.ref l,.int k t]) Q E s:=by
 obtain ⟨⟨cls,dd,data,sl⟩,ho,hc,n,hd⟩:=id hl
 simp only at hc hd
 subst hc hd
 have hlen:=hi.length
 have hj:ns.idxOf k < ns.length:=List.idxOf_lt_length_iff.mpr hk
 refine call_meets PySem.F.slot_list_index ⟨_,ho,rfl⟩ PySem.F.entry_list_index (PySem.F.args_list_index_2 _ _)
  (PySem.SeqAt.list_indexAt l vs.toArray n dd sl (.int k t) (isInt k) (ns.idxOf k) (by simpa [hlen] using hj) (by lia) ?_ ?_) ⟨ho,fun y hy=>(eq_isInt k t hi y (by simpa using hy)).at _ _,h⟩
 · show isInt k vs[ns.idxOf k]=true
   rw [isInt_at k hi _ (by lia) hj]
   simpa using List.getElem_idxOf hj
 · intro j hjs hlt
   show isInt k vs[j]=false
   rw [isInt_at k hi j (by simpa using hjs) (by lia)]
   exact ne_of_lt_idxOf hlt _
theorem kq2 (K:PySem.W.Frag) (hK:X.K=K):MtR X "list.index" (fun x xs H Q=>∃(p:Addr) (ns:List Int) (k:Int),x= .ref p∧xs=[.int k]∧SqL K H p (ns.map V.int)∧k∈ns∧Q (.int (ns.idxOf k:Nat)) H):=by
 subst hK
 intro pins s σ H x xs v us Q I rx rs h
 obtain ⟨p,ns,k,rfl,rfl,hq,hk,q⟩:=h
 cases rx
 obtain ⟨u,rfl,t,rfl⟩:=Vals.one rs
 obtain ⟨its,rv,pl,hz⟩:=I.list hq
 have hz:ns.length≤sizeLine:=by rw [List.length_map] at hz;exact hz
 have hs:sizeLine < 2 ^ 62:=by decide
 exact klz pl.isList (kgh rv) (by lia) hk ⟨.int _,H,I.tok _,⟨_,rfl⟩,q⟩
end
section
variable {He:Hp} {K:PySem.W.Frag} {ι:Type} {Y:ι→Cx} {e a b:Expr} {pos:Pos}
theorem ku5:bootBuiltins "int"=some (.type "int"):=by decide +kernel
noncomputable def knk (t:De):De:=fun env P=>t env fun d=>(∃ i,d= .int i∧P (.int i))∨∃b:Bool,d= .bool b∧P (.int (if b then 1 else 0))
theorem kq3 {t:De} {p:Pos} (h:DB He K Y a t) (hm: ∀i,(Y i).mg "int"=none) (hg:autoParam (∀ i,Gl (Y i) "int") u3._auto_1) (hs:autoParam (∀ i,starEach [a] (Y i).env=[(false,eval a (Y i).env)]) u3._auto_1):
 DE He K Y (.Call (.Name "int" p) [a] [] pos) (knk t):=by
 obtain ⟨te,h1,h2⟩:=h
 refine ⟨_,fun i=>kbq khw (hg i) (hm i) ku5 (kab (h1 i) kai (hs i)) (by decide) (by decide) (hs i),fun P Q F p k=>h2 _ _ F p fun d v R1 H1 q1 e1 r1=> ?_⟩
 rcases q1 with ⟨i,rfl,q1⟩ | ⟨b,rfl,q1⟩
 · exact .inl ⟨i,by rw [r1.int_inv],k _ _ R1 H1 q1 e1 (.int _)⟩
 · exact .inr ⟨b,by rw [r1.bl_inv],k _ _ R1 H1 q1 e1 (.int _)⟩
noncomputable def knl (t:Dq) (u:De):De:=fun env P=>t env fun l=>u env fun d=>∃(ns:List Int) (k:Int),l=ns.map PyData.int∧d= .int k∧k∈ns∧P (.int (ns.idxOf k:Nat))
theorem kg1 {t:Dq} {u:De} {apos cpos:Pos} (ho:DL He K Y a t) (h:DB He K Y e u) (hK:autoParam (∀ i,(Y i).K=K) u3._auto_1)
 (hbase:autoParam (∀ j,attributeBase a "index" (Y j).env (eval a (Y j).env)=eval a (Y j).env) u3._auto_1)
 (hfew:autoParam (∀ j,((backTo cpos (starEach [e] (Y j).env)).all (fun x=> !x.1) && (backToKw cpos (keywordEach [] (Y j).env)).all (fun x=>x.1.isSome)
   && decide (([e]:List Expr).length + ([]:List Keyword).length + (if ([]:List Keyword).isEmpty then 0 else 1) < 30))=true) u3._auto_1)
 (hline:autoParam ((apos.endLine == cpos.line)=true) u4._auto_1) (hs:autoParam (∀ j,starEach [e] (Y j).env=(false,eval e (Y j).env)::starEach [] (Y j).env) u3._auto_1) (hplain:autoParam (∀ j,(backTo cpos (starEach [] (Y j).env)).any (·.1)=false) u3._auto_1):
 DE He K Y (.Call (.Attribute a "index" apos) [e] [] cpos) (knl t u):=by
 obtain ⟨te,a1,a2⟩:=ho
 obtain ⟨te',b1,b2⟩:=h
 refine ⟨_,fun j=>kj9 K (hK j) PySem.F.plainAttrs_list PySem.F.slot_list_index PySem.F.type_list_index (kq2 K (hK j)) (a1 j) (kab (b1 j) kai (hs j)) (hbase j) (hfew j) hline (hs j) (hplain j),fun P Q F p k=> ?_⟩
 refine a2 _ _ F p fun l x ys R1 H1 q1 e1 s1 r1=> ?_
 refine ⟨.inl ⟨rfl,_,SqL.of s1⟩,b2 _ _ (F.next e1) q1 fun d v R2 H2 ⟨ns,m,hl,hd,hm,q2⟩ e2 r2=> ?_⟩
 subst hl hd
 have ev:=r2.int_inv
 subst ev
 have ey:=RpAll.ints_inv r1
 subst ey
 exact ⟨x,ns,m,rfl,rfl,SqL.of (e2.hh _ _ s1),hm,k _ _ R2 H2 q2 (e1.trans e2) (.int _)⟩
noncomputable def ku6 (i:Nat) (t:De):Ds:=fun D env=>∃xs,env[i]?=some (.o xs)∧t env fun d=>∃j:Nat,d= .int (j:Int)∧j < xs.length∧j≤100000∧D.nx (env.set i (.o (xs.eraseIdx j)))
theorem ku7 (i:Nat) {x:Str} {t:De} {p2 apos cpos:Pos} (h:DB He K Y e t) (hv:autoParam (∀ j,PE (Y j) (.Name x p2) (khr i)) u8._auto_1) (hK:autoParam (∀ i,(Y i).K=K) u3._auto_1)
 (hbase:autoParam (∀ j,attributeBase (.Name x p2) "pop" (Y j).env (eval (.Name x p2) (Y j).env)=eval (.Name x p2) (Y j).env) u3._auto_1)
 (hfew:autoParam (∀ j,((backTo cpos (starEach [e] (Y j).env)).all (fun x=> !x.1) && (backToKw cpos (keywordEach [] (Y j).env)).all (fun x=>x.1.isSome)
   && decide (([e]:List Expr).length + ([]:List Keyword).length + (if ([]:List Keyword).isEmpty then 0 else 1) < 30))=true) u3._auto_1)
 (hline:autoParam ((apos.endLine == cpos.line)=true) u4._auto_1) (hs:autoParam (∀ j,starEach [e] (Y j).env=(false,eval e (Y j).env)::starEach [] (Y j).env) u3._auto_1) (hplain:autoParam (∀ j,(backTo cpos (starEach [] (Y j).env)).any (·.1)=false) u3._auto_1)
 (hsw:autoParam (∀ j,swapsWith (.Call (.Attribute (.Name x p2) "pop" apos) [e] [] cpos) none pos.line (Y j).env=pure false) u3._auto_1):
 DS He K Y (.Expr (.Call (.Attribute (.Name x p2) "pop" apos) [e] [] cpos) pos) (ku6 i t):=by
 obtain ⟨te,a1,a2⟩:=h
 refine ⟨_,fun j=>kdp (kj9 K (hK j) PySem.F.plainAttrs_list PySem.F.slot_list_pop PySem.F.type_list_pop kgv (hv j) (kab (a1 j) kai (hs j)) (hbase j) (hfew j) hline (hs j) (hplain j)) (hsw j),fun D E F s c p=> ?_⟩
 obtain ⟨xs,ex,p⟩:=p
 obtain ⟨a,ys,h1,h2,h3,h4,h5⟩:=F.lstAt ex
 refine ⟨_,h1,.inl ⟨rfl,_,SqL.of h2⟩,a2 _ _ F p fun d v R' H' ⟨j,hj,hl,hb,q⟩ ee r=> ?_⟩
 subst hj
 have ev:=r.int_inv
 subst ev
 have r5:=RpAll.same ee.rr h5
 have hjl:j < ys.length:=by rw [h5.len];exact hl
 refine ⟨a,ys,(j:Int),j,ys[j],rfl,rfl,ee.hh _ _ h2,by lia,by lia,PySem.seqIndex_of (by lia) (by lia),List.getElem?_eq_getElem hjl,?_⟩
 exact c.nx _ _ _ _ q (s.trans ee.rr) ((F.next ee).lstSet ex h1 (ee.nn _ _ h2 h3) h4 (RpAll.erase j r5))
end
end L2
namespace L2
open PySem PySem.Spec PyProof.Rows
section
variable {He:Hp} {K:PySem.W.Frag} {ι:Type} {Y:ι→Cx} {e:Expr}
end
end L2
namespace L2
open PySem PySem.Spec PyProof.Rows
section
variable {prog:Program} {w:World} {A:Around} {E:Value→Shared→Prop} {s:Shared}
end
section
variable {X:Cx}
end
section
variable {He:Hp} {K:PySem.W.Frag} {ι:Type} {Y:ι→Cx} {a:Expr} {pos:Pos}
end
section
variable {X:Cx}
end
section
variable {He:Hp} {K:PySem.W.Frag} {ι:Type} {Y:ι→Cx}
end
end L2
namespace L2
open PySem PySem.Spec PyProof.Rows
noncomputable def F2 (h h':Heap):Prop:=∀b o vs,h.get? b=some o→o.data= .fields vs→∃o' vs',h'.get? b=some o'∧o'.data= .fields vs'∧vs'[2]?=vs[2]?∧o'.cls=o.cls∧vs'[0]?=vs[0]?
section
variable {M:Model} {A:Around} {E:Value→Shared→Prop} {s:Shared} {base:Heap} {env env':Env} {outer:List Env} {L e T:Addr}
end
end L2
namespace L2
open PySem PySem.Spec PyProof.Rows
section
variable {M:Model} {A:Around} {E:Value→Shared→Prop} {s:Shared} {base h0:Heap} {H:Hp} {env:Env} {outer:List Env} {L e:Addr} {C:Value} {Q:Unit→Shared→Prop}
end
theorem ObjOk.sits {P:Program} {w:World} {H:Hp} {h:Heap} {a:Addr} {o:HO} (x:ObjOk P w H h a o): ∃u,h.get? a=some u:=by
 cases o with
 | lst xs=>obtain ⟨_,_,_,_,e⟩:=x;exact ⟨_,e⟩
 | tup xs=>obtain ⟨_,_,_,o,e,_⟩:=x;exact ⟨_,e⟩
 | dK kvs=>obtain ⟨_,_,_,_,o,_,_,e,_⟩:=x;exact ⟨_,e⟩
 | dT kvs=>obtain ⟨_,_,_,_,o,_,_,e,_⟩:=x;exact ⟨_,e⟩
 | set S n=>obtain ⟨o,_,_,_,e,_⟩:=x;exact ⟨_,e⟩
 | ins C dx fs=>obtain ⟨_,_,_,e,_⟩:=x;exact ⟨_,e⟩
 | own y=>obtain ⟨_,e⟩:=x;exact ⟨_,e⟩
 | xd fs=>obtain ⟨_,⟨_,_,_,e,_⟩,_⟩:=x;exact ⟨_,e⟩
 | rng lo hi=>obtain ⟨_,_,_,e⟩:=x;exact ⟨_,e⟩
 | frz ob u=>obtain ⟨e,_⟩:=x;exact ⟨_,e⟩
 | tbl ps=>exact ⟨_,(show h.get? a=some _ from x)⟩
 | met f y=>exact ⟨_,(show h.get? a=some _ from x)⟩
 | ext φ=>obtain ⟨_,⟨_,e⟩,_⟩:=x;exact ⟨_,e⟩
theorem HOk.gone {P:Program} {w:World} {H:Hp} {h:Heap} (x:HOk P w H h) {a:Addr} (e:h.get? a=none):H a=none:=by
 cases q:H a with
 | none=>rfl
 | some o=>
   obtain ⟨u,z⟩:=(x a o q).sits
   rw [e] at z;cases z
section
variable {P:Program} {w:World} {K:PySem.W.Frag} {mg:Str→Option Value} {base:Heap} {N:List Str} {qual:Str} {scope:Scope} {f:Addr} {cd:Value} {A:Around} {outer:List Env} {s:Shared} {H:Hp} {E:XK}
end
section
variable {P:Program} {w:World} {K:PySem.W.Frag} {mg:Str→Option Value} {base:Heap} {N:List Str} {qual:Str} {scope:Scope} {f:Addr} {cd:Value} {A:Around} {outer:List Env} {s:Shared} {H:Hp} {E:XK} {x:Str} {C:Addr} {np cpos pos:Pos} {msg:Str} {jj:Nat} {mp:Pos}
end
end L2
namespace L2
open PySem PySem.Spec PyProof.Rows
section
variable {X:Cx} {k:Nat} {f:Addr} {fd:FuncData} {ps:List Str} {x:Str} {p pos:Pos} {e:Expr} {es:List Expr} {t:TA} {K:PySem.W.Frag} {P:List PyData→(Dt→Prop)→(Addr→Prop)→Prop}
end
section
variable {X:Cx} {k:Nat} {f:Addr} {fd:FuncData} {ps:List Str} {x:Str} {p pos:Pos} {e:Expr} {es:List Expr} {t:TA} {K:PySem.W.Frag} {P:List PyData→(Dt→Prop)→(Addr→Prop)→Prop} {E:XK}
end
section
variable {He:Hp} {K:PySem.W.Frag} {ι:Type} {Y:ι→Cx} {e:Expr} {es:List Expr} {pos p:Pos} {prog:Program} {w:World} {mg:Str→Option Value} {base:Heap} {x:Str} {k:Nat} {ps:List Str} {P:List PyData→(Dt→Prop)→(Addr→Prop)→Prop} {t:Dq} {E:XK} {W:Addr→Prop}
end
section
variable {P:Program} {w:World} {K:PySem.W.Frag} {mg:Str→Option Value} {base:Heap} {N:List Str} {qual:Str} {scope:Scope} {f:Addr} {cd:Value} {A:Around} {outer:List Env} {s:Shared} {H:Hp} {E:XK} {x:Str} {C:Addr} {np cpos pos:Pos} {msg:Str} {jj:Nat} {mp:Pos} {W:Addr→Prop}
end
end L2
namespace L2
open PySem PySem.Spec PyProof.Rows
section
variable {M:Model} {A:Around} {E:Value→Shared→Prop} {C D:Addr}
variable {nm q:Str} {N:Addr} {bs bm:List Value} {hdct:Bool} {sn:List Str} {sub:List Value} {ab:Bool} {col:Option Bool} {dd:Option Addr} {k0 k1 k2 k3 k5:Option Value} {newId:String}
variable {nm' q':Str} {N':Addr} {bs' bm':List Value} {hdct':Bool} {sn':List Str} {sub':List Value} {ab':Bool} {col':Option Bool} {dd':Option Addr} {k0' k1' k2' k3' k5':Option Value} {newId':String}
end
section
variable {prog:Program} {w:World} {A:Around} {E:Value→Shared→Prop} {s:Shared} {base h0:Heap} {H:Hp} {env:Env} {outer:List Env} {L e C D:Addr} {Q:Flow→Shared→Prop} {x n:Str} {b₀:Stmt} {suite:List Stmt} {pos np:Pos} {kc4:List ExceptHandler}
end
end L2
namespace L2
open PySem PySem.Spec PyProof.Rows
section
variable {X:Cx} {pins:List (Addr×Obj)} {σ:St} {H:Hp} {s:Shared}
end
end L2
namespace L2
open PySem PySem.Spec PySem.W PySem.Calls PyProof.Rows Builtin Builtin.ObjectAttr Builtin.Getset_descriptor
section
variable {prog:Program} {w:World} {A:Around} {E:Value→Shared→Prop} {h:Heap} {g:Array GenState} {d:Drawn} {t:Nat} {os:OsState} {a D:Addr} {o:Obj} {K:PySem.W.Frag}
end
end L2
namespace L2
open PySem PySem.Spec PyProof.Rows
section
variable {X:Cx} {pins:List (Addr×Obj)} {σ:St} {H:Hp} {s:Shared}
end
section
variable {P:Program} {w:World} {K:PySem.W.Frag} {mg:Str→Option Value} {base:Heap}
end
end L2
namespace L2
open PySem PySem.Spec PyProof.Rows
section
variable {He:Hp} {K:PySem.W.Frag} {ι:Type} {Y:ι→Cx} {a:Expr} {pos:Pos}
end
end L2
namespace L2
open PySem PySem.Spec PyProof.Rows
section
variable {P:Program} {w:World} {K:PySem.W.Frag} {mg:Str→Option Value} {base:Heap}
end
end L2
namespace L2
open PySem PySem.Spec PyProof.Rows
section
variable {prog:Program} {w:World} {A:Around} {E:Value→Shared→Prop}
end
section
variable {X:Cx} {pins:List (Addr×Obj)} {σ:St} {H:Hp} {s:Shared} {C:Addr} {x:Str} {np cpos pos mp pp:Pos} {msg:Str} {jj kk:Nat} {Q:Value→Shared→Prop} {E:Value→Shared→Prop}
end
end L2
namespace L2
open PySem PySem.Spec PyProof.Rows
section
variable {P:Program} {w:World} {K:PySem.W.Frag} {mg:Str→Option Value} {base:Heap} {N:List Str} {qual:Str} {scope:Scope} {f:Addr} {cd:Value} {A:Around} {outer:List Env} {s:Shared} {H:Hp} {E:XK} {x c:Str} {C D:Addr} {np np2 cpos rpos hpos pos mp pp:Pos} {msg:Str} {jj kk:Nat} {W:Addr→Prop} {body:List Stmt} {t:Ds}
end
end L2
namespace L2
open PySem PySem.Spec PyProof.Rows
section
variable {P:Program} {w:World} {K:PySem.W.Frag} {mg:Str→Option Value} {base:Heap} {N:List Str} {qual:Str} {scope:Scope} {f:Addr} {cd:Value} {A:Around} {outer:List Env} {s:Shared} {H:Hp} {E:XK}
end
section
variable {X:Cx} {scope:Scope} {N':List Str} {s:Shared} {H:Hp} {fp:List Addr}
end
section
variable {P:Program} {w:World} {K:PySem.W.Frag} {mg:Str→Option Value} {base:Heap} {N:List Str} {qual:Str} {fscope:Scope} {f:Addr} {cd:Value} {A:Around} {outer:List Env} {s0:Shared} {H0:Hp} {E0:XK}
variable {scope:Scope} {N':List Str} {js:List (Option Nat)} {elt tg iter:Expr} {ifs:List Expr} {pos:Pos} {wi:TI} {g:TG} {tc:TT} {te:TE} {Wc:Addr→Prop}
end
end L2
namespace L2
open PySem PySem.Spec PyProof.Rows
section
variable {He:Hp} {K:PySem.W.Frag} {ι:Type} {Y:ι→Cx} {e tg:Expr} {pos:Pos} {ts:List Nat}
end
end L2
namespace L2
open PySem PySem.Spec PyProof.Rows
section
variable {He:Hp} {K:PySem.W.Frag} {ι:Type} {Y:ι→Cx} {e:Expr} {pos:Pos}
end
end L2
namespace L2
open PySem PySem.Spec PySem.W PyProof.Rows
section
variable {key:Nat→Int} {N:Nat} {cmp:Nat→Nat→(Bool→Shared→Prop)→Shared→Prop} {s:Shared}
noncomputable def kyA (key:Nat→Int) (p:Array Nat) (i:Nat):Int:=key (p.getD i 0)
structure PmA (N:Nat) (p:Array Nat):Prop where
 pm:p.Perm (List.range N).toArray
theorem PmA.size {p:Array Nat} (h:PmA N p):p.size=N:=by
 have:=h.pm.size_eq
 simpa using this
theorem PmA.lt {p:Array Nat} (h:PmA N p) (h0:0 < N) (i:Nat):p.getD i 0 < N:=by
 by_cases hi:i < p.size
 · have e:p.getD i 0=p[i]:=by simp [hi]
   rw [e]
   have:p[i]∈(List.range N).toArray:=h.pm.mem_iff.mp (Array.getElem_mem hi)
   simpa using this
 · have e:p.getD i 0=0:=by simp [hi]
   rw [e];exact h0
theorem kfv {p q:Array Nat} {i j:Nat} (h:p[i]?=q[j]?):p.getD i 0=q.getD j 0:=by
 simp [Array.getD_eq_getD_getElem?,h]
theorem PmA.rev {p:Array Nat} (h:PmA N p) (i j:Nat):PmA N (kas_rev p i j):=⟨(mirror_perm p i j _).trans h.pm⟩
theorem PmA.bub {p:Array Nat} (h:PmA N p) (i j:Nat):PmA N (bubble p i j):=⟨(bubble_perm p i j).trans h.pm⟩
theorem kkc {p:Array Nat} {i j:Nat} (hj:j≤p.size) (k:Nat):kyA key (kas_rev p i j) k=if i≤k∧k < j then kyA key p (i + j - 1 - k) else kyA key p k:=by
 have e:=getElem?_mirror_all (xs:=p) (i:=i) hj k
 unfold kyA kas_rev
 by_cases h:i≤k∧k < j
 · rw [if_pos h] at e ⊢;rw [kfv e]
 · rw [if_neg h] at e ⊢;rw [kfv e]
theorem ks3 {p:Array Nat} {src d:Nat} (hs:src < p.size) (hd:d≤src) (k:Nat):kyA key (bubble p src d) k=if k=src - d then kyA key p src else if src - d < k∧k≤src then kyA key p (k - 1) else kyA key p k:=by
 have e:=getElem?_bubble hs d hd k
 unfold kyA
 by_cases h1:k=src - d
 · rw [if_pos h1] at e ⊢;rw [kfv e]
 · rw [if_neg h1] at e ⊢
   by_cases h2:src - d < k∧k≤src
   · rw [if_pos h2] at e ⊢;rw [kfv e]
   · rw [if_neg h2] at e ⊢;rw [kfv e]
noncomputable def UpA (key:Nat→Int) (p:Array Nat) (m:Nat):Prop:=∀i j,i≤j→j < m→kyA key p i≤kyA key p j
noncomputable def DnA (key:Nat→Int) (p:Array Nat) (m:Nat):Prop:=∀i j,i≤j→j < m→kyA key p j≤kyA key p i
theorem UpA.succ {p:Array Nat} {m:Nat} (h:UpA key p m) (hm:0 < m) (h1:kyA key p (m - 1)≤kyA key p m):UpA key p (m + 1):=fun i j hij hj=>by
 by_cases e:j=m
 · subst e
   by_cases e2:i=j
   · subst e2;exact Int.le_refl _
   · exact Int.le_trans (h i (j - 1) (by lia) (by lia)) h1
 · exact h i j hij (by lia)
theorem DnA.succ {p:Array Nat} {m:Nat} (h:DnA key p m) (hm:0 < m) (h1:kyA key p m≤kyA key p (m - 1)):DnA key p (m + 1):=fun i j hij hj=>by
 by_cases e:j=m
 · subst e
   by_cases e2:i=j
   · subst e2;exact Int.le_refl _
   · exact Int.le_trans h1 (h i (j - 1) (by lia) (by lia))
 · exact h i j hij (by lia)
theorem DnA.rev {p:Array Nat} {m:Nat} (h:DnA key p m) (hm:m≤p.size):UpA key (kas_rev p 0 m) m:=fun i j hij hj=>by
 rw [kkc hm,kkc hm,if_pos ⟨Nat.zero_le _,by lia⟩,if_pos ⟨Nat.zero_le _,hj⟩]
 exact h _ _ (by lia) (by lia)
noncomputable def EqA (key:Nat→Int) (p:Array Nat) (n q:Nat):Prop:=∀i,n - (q + 1)≤i→i < n→kyA key p i=kyA key p (n - 1)
set_option tactic.hygienic true in
theorem knm {p:Array Nat} {n q:Nat} (hn:n≤p.size) (h:EqA key p n q) (k:Nat):kyA key (kas_rev p (n - (q + 1)) n) k=kyA key p k:=by
 rw [kkc hn]
 split
 · rename_i hk
   rw [h k hk.1 hk.2]
   exact h _ (by lia) (by lia)
 · rfl
theorem DnA.same {p p':Array Nat} {m:Nat} (h:DnA key p m) (e: ∀k,kyA key p' k=kyA key p k):DnA key p' m:=fun i j hij hj=>by rw [e,e];exact h i j hij hj
variable (hc: ∀(i j:Nat) (C:Bool→Shared→Prop),i < N→j < N→C (decide (key i < key j)) s→cmp i j C s) (h0:0 < N)
include hc h0
theorem knn {p:Array Nat} (pm:PmA N p) {Q:Nat→Shared→Prop}: ∀(f n:Nat),0 < n→UpA key p n→(∀ m,n≤m→m≤n + f→UpA key p m→(m < n + f→kyA key p m < kyA key p (m - 1))→Q m s)→(kas_asc p f n).kasWp cmp Q s
 | 0,n,hn,hu,k=>k n (Nat.le_refl _) (Nat.le_refl _) hu fun z=>by lia
 | f + 1,n,hn,hu,k=>by
   unfold kas_asc KasT.kasWp
   refine hc _ _ _ (pm.lt h0 _) (pm.lt h0 _) ?_
   by_cases h:kyA key p n < kyA key p (n - 1)
   · rw [show decide (key (p.getD n 0) < key (p.getD (n - 1) 0))=true from decide_eq_true h]
     exact k n (Nat.le_refl _) (by lia) hu fun q_=>h
   · rw [show decide (key (p.getD n 0) < key (p.getD (n - 1) 0))=false from decide_eq_false h]
     exact knn pm f (n + 1) (by lia) (hu.succ hn (by lia)) fun m a b c d=>k m (by lia) (by lia) c fun z=>d (by lia)
theorem kg2 {Q:Array Nat×Nat×Nat→Shared→Prop}: ∀(f:Nat) (p:Array Nat) (n q:Nat),PmA N p→0 < n→q + 1≤n→n + f≤N→DnA key p n→EqA key p n q→
 (∀ p' n' q',PmA N p'→0 < n'→q' + 1≤n'→n'≤N→DnA key p' n'→EqA key p' n' q'→Q (p',n',q') s)→(kas_desc f p n q).kasWp cmp Q s
 | 0,p,n,q,pm,hn,hq,hN,hd,he,k=>k p n q pm hn hq (by lia) hd he
 | f + 1,p,n,q,pm,hn,hq,hN,hd,he,k=>by
   unfold kas_desc KasT.kasWp
   have hsz:=pm.size
   refine hc _ _ _ (pm.lt h0 _) (pm.lt h0 _) ?_
   have one: ∀p',EqA key p' (n + 1) 0:=fun p' i h1 h2=>by
    have:i=n:=by lia
    subst this;rfl
   by_cases h:kyA key p n < kyA key p (n - 1)
   · rw [show decide (key (p.getD n 0) < key (p.getD (n - 1) 0))=true from decide_eq_true h]
     dsimp only
     rw [if_pos rfl]
     by_cases hq0:q > 0
     · rw [if_pos hq0]
       have ek:=knm (key:=key) (p:=p) (n:=n) (q:=q) (by lia) he
       exact kg2 f _ (n + 1) 0 (pm.rev _ _) (by lia) (by lia) (by lia) ((hd.same ek).succ hn (by rw [ek,ek];lia)) (one _) k
     · rw [if_neg hq0]
       exact kg2 f p (n + 1) 0 pm (by lia) (by lia) (by lia) (hd.succ hn (by lia)) (one _) k
   · rw [show decide (key (p.getD n 0) < key (p.getD (n - 1) 0))=false from decide_eq_false h]
     dsimp only
     rw [if_neg Bool.false_ne_true]
     unfold KasT.kasWp
     refine hc _ _ _ (pm.lt h0 _) (pm.lt h0 _) ?_
     by_cases h2:kyA key p (n - 1) < kyA key p n
     · rw [show decide (key (p.getD (n - 1) 0) < key (p.getD n 0))=true from decide_eq_true h2]
       exact k p n q pm hn hq (by lia) hd he
     · rw [show decide (key (p.getD (n - 1) 0) < key (p.getD n 0))=false from decide_eq_false h2]
       have e:kyA key p n=kyA key p (n - 1):=by lia
       refine kg2 f p (n + 1) (q + 1) pm (by lia) (by lia) (by lia) (hd.succ hn (by lia)) (fun i h3 h4=> ?_) k
       show kyA key p i=kyA key p n
       by_cases hi:i=n
       · rw [hi]
       · rw [he i (by lia) (by lia),e]
theorem kkd {p:Array Nat} {n:Nat} (pm:PmA N p) (hn:0 < n) (hN:n≤N) (hd:DnA key p n) {Q:Nat×Array Nat→Shared→Prop} (k: ∀m p',PmA N p'→0 < m→m≤N→UpA key p' m→Q (m,p') s):(kas_tail3 n N p).kasWp cmp Q s:=by
 unfold kas_tail3
 rw [KasT.kasWp_bind]
 refine knn hc h0 (pm.rev 0 n) _ n hn (hd.rev (by rw [pm.size];exact hN)) fun m h1 h2 h3 q_=> ?_
 exact k m _ (pm.rev 0 n) (by lia) (by lia) h3
theorem kke {p:Array Nat} {n:Nat} (pm:PmA N p) (hn:0 < n) (hN:n < N) (hd:DnA key p (n + 1)) {Q:Nat×Array Nat→Shared→Prop} (k: ∀m p',PmA N p'→0 < m→m≤N→UpA key p' m→Q (m,p') s):(kas_descPart n N p).kasWp cmp Q s:=by
 unfold kas_descPart
 rw [KasT.kasWp_bind]
 refine kg2 hc h0 _ p (n + 1) 0 pm (by lia) (by lia) (by lia) hd (fun i h1 h2=> ?_) fun p' n' q' pm' hn' hq' hN' hd' he'=> ?_
 · have:i=n:=by lia
   subst this;rfl
 · dsimp only
   split
   · exact kkd hc h0 (pm'.rev _ _) hn' hN' (hd'.same (knm (by rw [pm'.size];exact hN') he')) k
   · exact kkd hc h0 pm' hn' hN' hd' k
set_option tactic.hygienic true in
theorem kq4 {p:Array Nat} (pm:PmA N p) {Q:Nat×Array Nat→Shared→Prop} (k: ∀m p',PmA N p'→0 < m→m≤N→UpA key p' m→Q (m,p') s):(kas_count N p).kasWp cmp Q s:=by
 unfold kas_count
 rw [KasT.kasWp_bind]
 refine knn hc h0 pm _ 1 (by lia) (fun i j h1 h2=> ?_) fun n h1 h2 h3 h4=> ?_
 · have e:i=j:=by lia
   subst e;exact Int.le_refl _
 skip
 by_cases hn:n=N
 · rw [if_pos (by simp [hn])]
   exact k n p pm (by lia) (by lia) h3
 · rw [if_neg (by simp [hn])]
   have lt:=h4 (by lia)
   by_cases hn1:n > 1
   · rw [if_pos hn1]
     unfold KasT.kasWp
     refine hc _ _ _ (pm.lt h0 _) (pm.lt h0 _) ?_
     by_cases h:kyA key p 0 < kyA key p (n - 1)
     · rw [show decide (key (p.getD 0 0) < key (p.getD (n - 1) 0))=true from decide_eq_true h]
       exact k n p pm (by lia) (by lia) h3
     · rw [show decide (key (p.getD 0 0) < key (p.getD (n - 1) 0))=false from decide_eq_false h]
       have all: ∀i,i < n→kyA key p i=kyA key p 0:=fun i hi=>by
        have a:=h3 0 i (Nat.zero_le _) hi
        have b:=h3 i (n - 1) (by lia) (by lia)
        lia
       have sz:n≤p.size:=by rw [pm.size];lia
       have same: ∀i,kyA key (kas_rev p 0 n) i=kyA key p i:=fun i=>by
        rw [kkc sz]
        split
        · rename_i hi
          rw [all _ (by lia),all i hi.2]
        · rfl
       refine kke hc h0 (pm.rev 0 n) (by lia) (by lia) (DnA.same (p:=p) (fun i j hij hj=> ?_) same) k
       by_cases e:j=n
       · subst e
         by_cases e2:i=j
         · subst e2;exact Int.le_refl _
         · rw [all i (by lia),← all (j - 1) (by lia)];lia
       · rw [all i (by lia),all j (by lia)];exact Int.le_refl _
   · rw [if_neg hn1]
     have e1:n=1:=by lia
     subst e1
     refine kke hc h0 pm (by lia) (by lia) (fun i j hij hj=> ?_) k
     have:(i=j)∨(i=0∧j=1):=by lia
     rcases this with e | ⟨e,e'⟩
     · subst e;exact Int.le_refl _
     · subst e;subst e';exact Int.le_of_lt lt
theorem kg3 {p:Array Nat} (pm:PmA N p) {k:Nat} (hu:UpA key p k) {Q:Nat→Shared→Prop} (kk: ∀l,l≤k→(∀ i,i < l→kyA key p i≤kyA key p k)→(∀ i,l≤i→i < k→kyA key p k < kyA key p i)→Q l s):
 ∀(f l r:Nat),r - l≤f→l≤r→r≤k→(∀ i,i < l→kyA key p i≤kyA key p k)→(∀ i,r≤i→i < k→kyA key p k < kyA key p i)→(kas_place p k f l r).kasWp cmp Q s
 | 0,l,r,hf,hlr,hr,h1,h2=>by
   have e:l=r:=by lia
   subst e
   exact kk l (by lia) h1 h2
 | f + 1,l,r,hf,hlr,hr,h1,h2=>by
   unfold kas_place
   by_cases e:l≥r
   · rw [if_pos e]
     have e:l=r:=by lia
     subst e
     exact kk l (by lia) h1 h2
   · rw [if_neg e]
     unfold KasT.kasWp
     refine hc _ _ _ (pm.lt h0 _) (pm.lt h0 _) ?_
     have hm:l≤(l + r) / 2∧(l + r) / 2 < r:=by lia
     generalize (l + r) / 2=mid at hm ⊢
     by_cases h:kyA key p k < kyA key p mid
     · rw [show decide (key (p.getD k 0) < key (p.getD mid 0))=true from decide_eq_true h]
       exact kg3 pm hu kk f l mid (by lia) (by lia) (by lia) h1 fun i a b=>Int.lt_of_lt_of_le h (hu mid i a b)
     · rw [show decide (key (p.getD k 0) < key (p.getD mid 0))=false from decide_eq_false h]
       exact kg3 pm hu kk f (mid + 1) r (by lia) (by lia) hr (fun i a=>Int.le_trans (hu i mid (by lia) (by lia)) (by lia)) h2
theorem ks4 {Q:Array Nat→Shared→Prop} (kk: ∀p,PmA N p→UpA key p N→Q p s): ∀(f:Nat) (p:Array Nat) (k:Nat),PmA N p→0 < k→k + f=N→UpA key p k→(kas_bin f p k).kasWp cmp Q s
 | 0,p,k,pm,hk,e,hu=>kk p pm (by rw [← e];exact hu)
 | f + 1,p,k,pm,hk,e,hu=>by
   unfold kas_bin
   rw [KasT.kasWp_bind]
   refine kg3 hc h0 pm hu (fun l hl h1 h2=> ?_) k 0 k (by lia) (by lia) (Nat.le_refl _) (fun i z=>by lia) fun i a b=>by lia
   refine ks4 kk f _ (k + 1) (pm.bub _ _) (by lia) (by lia) fun i j hij hj=> ?_
   have hs:k < p.size:=by rw [pm.size];lia
   have el:k - (k - l)=l:=by lia
   rw [ks3 hs (by lia),ks3 hs (by lia),el]
   by_cases i1:i=l
   · rw [if_pos i1]
     by_cases j1:j=l
     · rw [if_pos j1];exact Int.le_refl _
     · rw [if_neg j1,if_pos ⟨by lia,by lia⟩]
       exact Int.le_of_lt (h2 (j - 1) (by lia) (by lia))
   · rw [if_neg i1]
     by_cases i2:l < i∧i≤k
     · rw [if_pos i2,if_neg (by lia),if_pos ⟨by lia,by lia⟩]
       exact hu _ _ (by lia) (by lia)
     · rw [if_neg i2]
       by_cases j1:j=l
       · rw [if_pos j1];exact h1 i (by lia)
       · rw [if_neg j1]
         by_cases j2:l < j∧j≤k
         · rw [if_pos j2];exact hu _ _ (by lia) (by lia)
         · rw [if_neg j2];exact hu _ _ hij (by lia)
theorem ku8 {Q:Array Nat→Shared→Prop} (kk: ∀p,PmA N p→UpA key p N→Q p s):(kas_sort N).kasWp cmp Q s:=by
 unfold kas_sort
 rw [KasT.kasWp_bind]
 refine kq4 hc h0 ⟨Array.Perm.refl _⟩ fun m p pm hm hN hu=> ?_
 dsimp only
 have e:max m 1=m:=by lia
 by_cases h:m < N
 · rw [if_pos h,e]
   exact ks4 hc h0 kk _ p m pm hm (by lia) hu
 · rw [if_neg h]
   have e:m=N:=by lia
   subst e
   exact kk p pm hu
end
end L2
namespace L2
open PySem PySem.Spec PySem.W PySem.Calls PyProof.Rows
section
variable {prog:Program} {w:World} {A:Around} {E:Value→Shared→Prop} {s:Shared}
theorem ku9 {x y:Addr} {ox oy:Obj} {n k:Nat} {a b c d:Int} {t1 t2 t3 t4:Tok} {Q:Bool→Shared→Prop} (hx:s.heap.get? x=some ox) (dx:ox.data= .seq #[.int a t1,.int b t2] n) (hy:s.heap.get? y=some oy) (dy:oy.data= .seq #[.int c t3,.int d t4] k)
 (hu:A.units < cLine) (h:Q (decide (a < c∨a=c∧b < d)) s):wpAny (model prog w) A (keyLt' (tuples' true) (.ref x) (.ref y)) Q E s:=by
 refine kat_lt hx dx hy dy (kat_cons (wpAny_eqBool_int ?_))
 by_cases e1:a=c
 · subst e1
   rw [show (a == a)=true by simp]
   refine kat_yes (kat_cons (wpAny_eqBool_int ?_))
   by_cases e2:b=d
   · subst e2
     rw [show (b == b)=true by simp]
     refine kat_yes (kat_nil ?_)
     have:decide (a < a∨a=a∧b < b)=false:=by simp
     rw [this] at h
     exact h
   · rw [show (b == d)=false by simp [e2]]
     refine kat_no (kat_one _ _ ?_)
     have:decide (a < a∨a=a∧b < d)=decide (b < d):=by simp
     rw [this] at h
     exact PySem.P.lt_int h
 · rw [show (a == c)=false by simp [e1]]
   refine kat_no ?_
   have:decide (a < c∨a=c∧b < d)=decide (a < c):=by simp [e1]
   rw [this] at h
   exact oneLt_int h
end
section
variable {X:Cx} {pins:List (Addr×Obj)} {σ:St} {H:Hp} {s:Shared}
theorem kg4 {ys:List V} {its:List Value} (r:Vals ys its): ∀(π:List Nat),(∀ i∈π,i < ys.length)→Vals (π.map fun i=>ys.getD i V.non) (π.map fun i=>its.getD i Value.none)
 | [],_=> .nil
 | i::π,h=>by
   have hi:=h i List.mem_cons_self
   have e1:ys[i]?=some ys[i]:=List.getElem?_eq_getElem hi
   obtain ⟨u,e2,r2⟩:=r.get e1
   refine .cons ?_ (kg4 r π fun j hj=>h j (List.mem_cons_of_mem _ hj))
   show RelV (ys.getD i V.non) (its.getD i Value.none)
   rw [List.getD_eq_getElem?_getD,List.getD_eq_getElem?_getD,e1,e2]
   exact r2
noncomputable def allN (base h:Heap) (L:Addr):List (Addr×Obj):=(List.range h.objs.size).filterMap fun b=>match h.get? b with
 | some o=>if b≠L∧(base.get? b).isNone=true then some (b,o) else none
 | none=>none
set_option tactic.hygienic true in
theorem kic {base h:Heap} {L:Addr}:News base L h (allN base h L):=fun p hp=>by
 obtain ⟨b,hb,e⟩:=List.mem_filterMap.mp hp
 split at e
 · rename_i o ho
   split at e
   · rename_i hc
     cases e
     exact ⟨ho,hc.1,by simpa using hc.2⟩
   · cases e
 · cases e
theorem kfc {base h:Heap} {L b:Addr} {o:Obj} (ho:h.get? b=some o) (hL:b≠L) (hb:base.get? b=none):(b,o)∈allN base h L:=by
 refine List.mem_filterMap.mpr ⟨b,List.mem_range.mpr (Heap.lt_size ho),?_⟩
 rw [ho]
 show (if b≠L∧(base.get? b).isNone=true then some (b,o) else none)=some (b,o)
 rw [if_pos ⟨hL,by rw [hb];rfl⟩]
theorem Inv.newAt {h':Heap} {m:Str→Option Value} {D:Addr} {zs:List V} {out:List Value} {c:Nat} (I:Inv X pins σ H s) (hn:s.heap.Ns X.env.locals m) (F:Fr X.base X.env.locals h' m) (N:News X.base X.env.locals h' ((D,listOf out.toArray c)::allN X.base s.heap X.env.locals))
 (hD: ∀q∈allN X.base s.heap X.env.locals,q.1 < D) (r:Vals zs out) (hz:zs.length≤sizeLine):H D=none∧Inv X pins σ (upd H D (.lst zs)) {s with heap:=h'}:=by
 obtain ⟨d1,d2,d3⟩:=N _ List.mem_cons_self
 have d0:s.heap.get? D=none:=by
  cases e:s.heap.get? D with
  | none=>rfl
  | some o=>exact absurd (hD _ (kfc e d2 d3)) (Nat.lt_irrefl _)
 have hHD:H D=none:=I.hok.gone d0
 have keep: ∀b o,s.heap.get? b=some o→b≠X.env.locals→h'.get? b=some o:=fun b o e hb=>by
  cases q:X.base.get? b with
  | some o2=>
    have e2:=I.bk b o2 q
    rw [e] at e2
    cases e2
    exact F.keep b o q
  | none=>exact (N _ (List.mem_cons_of_mem _ (kfc e hb q))).1
 have neD: ∀b o,s.heap.get? b=some o→b≠D:=fun b o e z=>by rw [z,d0] at e;cases e
 have nL: ∀b u,H b=some u→b≠X.env.locals:=fun b u e z=>by rw [z,I.free] at e;cases e
 refine ⟨hHD,I.step (g':=s.gens) (d':=s.drawn) (t':=s.toks) (ch:=[]) (fun q_ z=>nomatch z) (fun b o hb q_ q_ e q_=>keep b o e hb) (fun b o hb q_ q_ e q_=>⟨o.slots,keep b o e hb⟩) (fun b o q_ e n=>by rw [kah (neD b o e)];exact n) (fun b o q_ e=> ?_)
  (fun b xs e=>by rw [kah (kaf e hHD)];exact e) (fun b o u e=>by rw [kah (kaf e hHD)];exact e) (fun b ps e=>⟨#[],by rw [kah (kaf e hHD),e];simp⟩) (fun m2 hm2=> ?_) (fun b u e=> ?_) I.bare⟩
 · by_cases hb:b=X.env.locals
   · obtain ⟨oL,_,_,hoL,_⟩:=F.ns
     exact ⟨oL,by rw [hb];exact hoL⟩
   · exact ⟨o,keep b o e hb⟩
 · have em:m2=m:=by
    obtain ⟨o1,es1,ep1,a1,a2,_,a4⟩:=hm2
    obtain ⟨o2,es2,ep2,b1,b2,_,b4⟩:=hn
    rw [a1] at b1
    cases b1
    rw [a2] at b2
    cases b2
    funext x
    rw [← a4,← b4]
   rw [em];exact F.ns
 · by_cases hb:b=D
   · subst hb
     rw [kad] at e
     cases e
     exact ⟨hz,out,c,r,d1⟩
   · rw [kah hb] at e
     refine (I.hok b u e).stay (fun c v hc q=>keep c v q ?_) (fun c q=>by rw [kah (kaf q hHD)];exact q) fun c xs q=>by rw [kah (kaf q hHD)];exact q
     rcases hc with rfl | hc
     · exact nL c _ e
     · exact nL c _ hc
end
end L2
namespace L2
open PySem PySem.Spec PySem.W PySem.Calls PyProof.Rows
section
variable {prog:Program} {w:World} {A:Around} {E:Value→Shared→Prop} {s:Shared}
theorem kg5 {α:Type}: ∀l:List α,l.zip l=l.map fun x=>(x,x)
 | []=>rfl
 | a::l=>by rw [List.zip_cons_cons,kg5 l,List.map_cons]
theorem kgj {a:Addr} {vs:List Value} {n:Nat} {P:PySem.Fin→Shared→Prop} (ho:s.heap.get? a=some (seqObj "list" vs.toArray n)) (h2:vs.length < 2)
 (h:P (.done (.ret .none)) {s with heap:=sortedHeap s.heap a vs vs.toArray}):wpAny (model prog w) A (Builtin.«list.sort» ⟨[.ref a],[]⟩) P E s:=by
 rw [list_sort_plain]
 obtain ⟨e1,o1⟩: ∃e,(s.heap.update a (Obj.mapSeq fun q_=>(#[]:Array Value))).get? a=some (seqObj "list" #[] e):=⟨_,get?_update_seq ho _⟩
 have o6:=Heap.get?_push_of_some (seqObj "list" #[] 0) (Heap.get?_push_of_some (seqObj "tuple" vs.toArray 0) o1)
 have c2:vs.toArray.size < 2:=by simpa using h2
 have zz:vs.length≤sizeLine:=by rw [sizeLine_eq];lia
 refine wpAny_bind (listItems_at ho rfl (wpAny_bind (listUpdate_at ho rfl (wpAny_bind (seqEpoch_at o1 rfl (wpAny_bind (wpAny_newTuple (wpAny_bind (wpAny_newList (wpAny_holding ?_) (Nat.zero_le _))) zz)))) (by simpa using zz) (Nat.zero_le _))))
 simp only [if_pos c2]
 refine wpAny_bind (wpAny_pure ?_)
 rw [StateT.run_pure]
 refine wpAny_bind (wpAny_pure ?_)
 dsimp only
 have eo:(arrOf (SortSt.mk' general' (vs.toArray.zip vs.toArray) #[] 7 none)).map (·.2)=vs.toArray:=by
  show (vs.toArray.zip vs.toArray).map (·.2)=vs.toArray
  simp only [List.zip_toArray,List.map_toArray]
  rw [show vs.zip vs=vs.map fun x=>(x,x) from kg5 vs,List.map_map]
  exact congrArg List.toArray (List.map_id vs)
 rw [eo]
 refine wpAny_bind (seqEpoch_at o6 rfl (wpAny_bind (listUpdate_at o6 rfl ?_ (Nat.zero_le _) (by simpa using Nat.le_succ_of_le zz))))
 simp only [bne_self_eq_false,Bool.false_eq_true,if_false]
 exact wpAny_pure h
theorem ke6 {l:Addr} {vs:List Value} {Q:Value→Shared→Prop} (hl:s.heap.IsList l vs.toArray) (h2:vs.length < 2) (h:Q (.ref (s.heap.objs.size + 1)) {s with heap:=sortedAll s.heap vs vs.toArray}):wpAny (model prog w) A (call (.builtin "sorted") [.ref l]) Q E s:=by
 have zz:vs.length≤sizeLine:=by rw [sizeLine_eq];lia
 apply Calls.call_function_entry kind_sorted plain_sorted entry_sorted
 · exact args_sorted1 _
 unfold Builtin.«sorted»
 refine wpAny_bind (m:=checkCount "sorted" 1 1 _) (wpAny_pure (wpAny_bind (collect_list hl (wpAny_bind (wpAny_newList ?_ zz)) zz)))
 have hz:((s.heap.push (seqObj "list" #[] 0)).update s.heap.objs.size (Obj.mapSeq (· ++vs.toArray))).objs.size=s.heap.objs.size + 1:=(Heap.size_update ..).trans (size_push' ..)
 have ol:(((s.heap.push (seqObj "list" #[] 0)).update s.heap.objs.size (Obj.mapSeq (· ++vs.toArray))).push (seqObj "list" vs.toArray 0)).get? (s.heap.objs.size + 1)=some (seqObj "list" vs.toArray 0):=hz▸Heap.get?_push_size _ rfl
 change wpAny _ _ _ _ _ {s with heap:=((s.heap.push (seqObj "list" #[] 0)).update s.heap.objs.size (Obj.mapSeq (· ++vs.toArray))).push (seqObj "list" vs.toArray 0)}
 rw [hz]
 exact wpAny_bind (wpAny_holding (wpAny_call_entry slot_list_sort ⟨_,ol,rfl⟩ entry_list_sort (kgj ol h2 ⟨_,rfl,wpAny_pure ⟨_,rfl,h⟩⟩) (args_list_sort _)))
end
theorem kbz {α:Type} (l:List α) (d:α):(List.range l.length).map (fun i=>l.getD i d)=l:=by
 apply List.ext_getElem
 · simp
 · intro i h1 h2
   simp [h2]
noncomputable def kw2 (B:Int) (ps:List (Int×Int)) (i:Nat):Int:=(ps.getD i (0,0)).1 * B + (ps.getD i (0,0)).2
theorem kva {B a b c d:Int} (h1:0≤b) (h2:b < B) (h3:0≤d) (h4:d < B):(a < c∨a=c∧b < d)↔a * B + b < c * B + d:=by
 constructor
 · rintro (h | ⟨rfl,h⟩)
   · have:(a + 1) * B≤c * B:=Int.mul_le_mul_of_nonneg_right (by lia) (by lia)
     rw [Int.add_mul,Int.one_mul] at this
     lia
   · lia
 · intro h
   by_cases e:a=c
   · subst e;right;exact ⟨rfl,by lia⟩
   · left
     apply Decidable.byContradiction
     intro z
     have:(c + 1) * B≤a * B:=Int.mul_le_mul_of_nonneg_right (by lia) (by lia)
     rw [Int.add_mul,Int.one_mul] at this
     lia
section
variable {X:Cx}
theorem kl0 (K:PySem.W.Frag) (hK:X.K=K) (hu:X.A.units + 40 < cLine):CallR X (.builtin "sorted") (fun xs H Q=>∃(p:Addr) (ys:List V) (ps:List (Int×Int)) (B:Int),xs=[.ref p]∧SqL K H p ys∧ys.length=ps.length∧
 (∀ (i:Nat) (q:Int×Int),ps[i]?=some q→∃a,ys[i]?=some (.ref a)∧H a=some (.tup [.int q.1,.int q.2]))∧ps.length < 64∧(∀ q∈ps,0≤q.2∧q.2 < B)∧
 ∀(l:Addr) (π:List Nat),H l=none→π.Perm (List.range ps.length)→(∀ i j,i≤j→j < π.length→kw2 B ps (π.getD i 0)≤kw2 B ps (π.getD j 0))→Q (.ref l) (upd H l (.lst (π.map fun i=>ys.getD i V.non)))):=by
 subst hK
 intro pins s σ H xs us Q I r h
 obtain ⟨p,ys,ps,B,rfl,hq,hl,hat,h64,hB,k⟩:=h
 obtain ⟨u,rfl,r1⟩:=kd6 r
 cases (show u=Value.ref p from r1)
 obtain ⟨its,rv,⟨op,n0,hop,hc,_,hd⟩,hz⟩:=I.list hq
 have hL:s.heap.IsList p its.toArray:=⟨op,hop,hc,n0,hd⟩
 have hil:its.length=ps.length:=by rw [← rv.length,hl]
 obtain ⟨m,hn,_⟩:=id I.loc
 have F0:Fr X.base X.env.locals s.heap m:=⟨hn,I.bk,Nat.le_trans I.ok.bsz I.ok.above⟩
 by_cases h2:its.length < 2
 · refine ke6 hL h2 ?_
   obtain ⟨e,at_⟩:=sortedAll_at s.heap its its.toArray
   have er:(List.range ps.length).map (fun i=>ys.getD i V.non)=ys:=by rw [← hl];exact kbz ys V.non
   have hf:H (s.heap.objs.size + 1)=none:=I.hok.fresh (Nat.le_succ _)
   refine ⟨.ref (s.heap.objs.size + 1),upd H (s.heap.objs.size + 1) (.lst ((List.range ps.length).map fun i=>ys.getD i V.non)),?_,rfl,k _ _ hf (List.Perm.refl _) fun i j hij hj=> ?_⟩
   · rw [er]
     exact I.laid (t':=s.toks) (fun b o e=>sortedAll_old e) (Nat.le_succ _) ⟨hz,its,e,rv,at_⟩
   · rw [List.length_range] at hj
     have:i=j:=by lia
     rw [this]
     exact Int.le_refl _
 have h2:2≤its.length:=by lia
 refine kat_sorted F0 (kic (base:=X.base)) hL h2 (by lia) fun D e1 h' F N hD=> ?_
 have keep: ∀b o,s.heap.get? b=some o→b≠X.env.locals→h'.get? b=some o:=fun b o e hb=>by
  cases q:X.base.get? b with
  | some o2=>
    have e2:=I.bk b o2 q
    rw [e] at e2
    cases e2
    exact F.keep b o q
  | none=>exact (N _ (List.mem_cons_of_mem _ (kfc e hb q))).1
 have tupAt: ∀(i:Nat),i < its.length→∃a o n t1 t2,its.getD i Value.none= .ref a∧h'.get? a=some o∧o.cls= .type "tuple"∧o.data= .seq #[.int (ps.getD i (0,0)).1 t1,.int (ps.getD i (0,0)).2 t2] n:=fun i hi=>by
  have e1:ps[i]?=some ps[i]:=List.getElem?_eq_getElem (by lia)
  obtain ⟨a,ha,hH⟩:=hat i _ e1
  obtain ⟨u,e2,r2⟩:=rv.get ha
  cases (show u=Value.ref a from r2)
  obtain ⟨_,ts,rt,ot,ho,ct,nt,dt⟩:=(show ObjOk X.prog X.w H s.heap a (.tup [.int ps[i].1,.int ps[i].2]) from I.hok a _ hH)
  obtain ⟨u1,u2,rfl,q1,q2⟩:=kxu rt
  obtain ⟨t1,rfl⟩:=(show ∃t,u1=Value.int ps[i].1 t from q1)
  obtain ⟨t2,rfl⟩:=(show ∃t,u2=Value.int ps[i].2 t from q2)
  have ep:ps.getD i (0,0)=ps[i]:=by simp [show i < ps.length by lia]
  refine ⟨a,ot,nt,t1,t2,?_,keep a ot ho fun z=> ?_,ct,?_⟩
  · rw [List.getD_eq_getElem?_getD,e2];rfl
  · rw [z,I.free] at hH;cases hH
  · rw [ep];exact dt
 have tups: ∀(l:List Value),(∀ v∈l,∃a o n t1 t2 x y,v= .ref a∧h'.get? a=some o∧o.cls= .type "tuple"∧o.data= .seq #[.int x t1,.int y t2] n)→∃fs,fs.length=l.length∧KatTups h' l fs∧∀f∈fs,∃x t,f=Value.int x t:=fun l=>by
  induction l with
  | nil=>exact fun q_=>⟨[],rfl,KatTups.nil,fun q_ z=>nomatch z⟩
  | cons v l ih=>
    intro hv
    obtain ⟨fs,f1,f2,f3⟩:=ih fun v hm=>hv v (List.mem_cons_of_mem _ hm)
    obtain ⟨a,o,n,t1,t2,x,y,rfl,a1,a2,a3⟩:=hv v List.mem_cons_self
    exact ⟨.int x t1::fs,by rw [List.length_cons,List.length_cons,f1],KatTups.cons a1 a2 a3 rfl f2,fun f hf=>(List.mem_cons.mp hf).elim (fun z=>⟨x,t1,z⟩) (f3 f)⟩
 obtain ⟨fs,f1,f2,f3⟩:=tups its fun v hv=>by
  obtain ⟨i,hi,e⟩:=List.getElem_of_mem hv
  obtain ⟨a,o,n,t1,t2,e1,a1,a2,a3⟩:=tupAt i hi
  have e2:its.getD i Value.none=v:=by simp [hi,e]
  exact ⟨a,o,n,t1,t2,_,_,e2▸e1,a1,a2,a3⟩
 refine kat_kind (T:= .type "int") f2 (by lia) (fun v hv=> ?_) (by decide) ?_
 · obtain ⟨x,t,rfl⟩:=f3 v hv
   exact Looks.of_pure rfl
 rw [show (Value.type "int" != Value.type "tuple")=true by decide]
 refine ku8 (key:=kw2 B ps) (N:=its.length) (fun i j C hi hj hC=> ?_) (by lia) fun pm hp hup=> ?_
 · obtain ⟨a,o,n,t1,t2,e1,a1,_,a3⟩:=tupAt i hi
   obtain ⟨a',o',n',t1',t2',e1',a1',_,a3'⟩:=tupAt j hj
   unfold kas_ask
   rw [e1,e1']
   refine ku9 a1 a3 a1' a3' (by show X.A.units + 1 + 1 < cLine;lia) ?_
   have bi:=hB (ps.getD i (0,0)) (by rw [List.getD_eq_getElem?_getD,List.getElem?_eq_getElem (by lia)];exact List.getElem_mem _)
   have bj:=hB (ps.getD j (0,0)) (by rw [List.getD_eq_getElem?_getD,List.getElem?_eq_getElem (by lia)];exact List.getElem_mem _)
   rw [show decide ((ps.getD i (0,0)).1 < (ps.getD j (0,0)).1∨(ps.getD i (0,0)).1=(ps.getD j (0,0)).1∧(ps.getD i (0,0)).2 < (ps.getD j (0,0)).2)=decide (kw2 B ps i < kw2 B ps j) from decide_eq_decide.mpr (kva bi.1 bi.2 bj.1 bj.2)]
   exact hC
 · have pl:pm.toList.Perm (List.range its.length):=by simpa using Array.perm_iff_toList_perm.mp hp.pm
   have pin: ∀i∈pm.toList,i < its.length:=fun i hi=>List.mem_range.mp (pl.mem_iff.mp hi)
   refine KasFin.intro F N (.head fun q hq z=> ?_) fun h2 c F2 N2=> ?_
   · exact absurd (hD q hq) (by rw [z];exact Nat.lt_irrefl _)
   · have J:=I.newAt hn F2 N2 hD (kg4 rv pm.toList fun i hi=>by rw [rv.length];exact pin i hi) (by rw [List.length_map,pl.length_eq,List.length_range,← rv.length];exact hz)
     refine ⟨.ref D,_,J.2,rfl,k D pm.toList J.1 (by rw [← hil];exact pl) fun i j hij hj=> ?_⟩
     have hup:=hup i j hij (by rw [Array.length_toList,hp.size] at hj;exact hj)
     unfold kyA at hup
     rw [show pm.toList.getD i 0=pm.getD i 0 by simp [Array.getD_eq_getD_getElem?],show pm.toList.getD j 0=pm.getD j 0 by simp [Array.getD_eq_getD_getElem?]]
     exact hup
end
end L2
namespace L2
open PySem PySem.Spec PyProof.Rows
theorem kc8:bootBuiltins "sorted"=some (.builtin "sorted"):=by decide +kernel
noncomputable abbrev pr2 (q:Int×Int):PyData:= .tuple [.int q.1,.int q.2]
section
variable {He:Hp} {K:PySem.W.Frag} {ι:Type} {Y:ι→Cx} {e:Expr} {pos p:Pos}
noncomputable def kno (t:Dq):Dq:=fun env P=>t env fun xs=>∃(ps:List (Int×Int)) (B:Int),xs=ps.map pr2∧ps.length < 64∧(∀ q∈ps,0≤q.2∧q.2 < B)∧∀qs:List (Int×Int),qs.Perm ps→qs.Pairwise (fun x y=>x.1 * B + x.2≤y.1 * B + y.2)→P (qs.map pr2)
theorem kvb {R:Hp} {ys:List V} {ds:List PyData} (r:RpAll K R ys ds): ∀(π:List Nat),(∀ i∈π,i < ys.length)→RpAll K R (π.map fun i=>ys.getD i V.non) (π.map fun i=>ds.getD i PyData.none)
 | [],_=> .nil
 | i::π,h=>by
   have hi:=h i List.mem_cons_self
   have e1:ys[i]?=some ys[i]:=List.getElem?_eq_getElem hi
   obtain ⟨d,e2,r2⟩:=r.get e1
   refine .cons ?_ (kvb r π fun j hj=>h j (List.mem_cons_of_mem _ hj))
   show Rp K R (ys.getD i V.non) (ds.getD i PyData.none)
   rw [List.getD_eq_getElem?_getD,List.getD_eq_getElem?_getD,e1,e2]
   exact r2
theorem kq5 {t:Dq} (h:DL He K Y e t) (hm: ∀i,(Y i).mg "sorted"=none) (hu: ∀i,(Y i).A.units + 40 < cLine) (hg:autoParam (∀ i,Gl (Y i) "sorted") u3._auto_1) (hK:autoParam (∀ i,(Y i).K=K) u3._auto_1) (hs:autoParam (∀ i,starEach [e] (Y i).env=[(false,eval e (Y i).env)]) u3._auto_1):
 DO He K Y (.Call (.Name "sorted" p) [e] [] pos) (kno t):=by
 obtain ⟨te,h1,h2⟩:=h
 refine ⟨_,fun i=>kbf (kl0 K (hK i) (hu i)) (hg i) (hm i) kc8 (kab (h1 i) kai (hs i)) (by decide) (by decide) (hs i) rfl,fun P Q F p k=>h2 _ _ F p fun ds a ys R1 H1 pd e1 ha r1=> ?_⟩
 obtain ⟨ps,B,rfl,h64,hB,kk⟩:=pd
 have hl:ys.length=ps.length:=by rw [r1.len,List.length_map]
 refine ⟨a,ys,ps,B,rfl,SqL.of ha,hl,fun i q hq=> ?_,h64,hB,fun l π hn hp hs=> ?_⟩
 · obtain ⟨v,hv,rv⟩:=r1.get' (i:=i) (d:=pr2 q) (by rw [List.getElem?_map,hq];rfl)
   obtain ⟨b,zs,rfl,hb,rz⟩:=rv.tup_inv
   cases rz with
   | cons z1 rz=>
     cases rz with
     | cons z2 rz=>
       cases rz
       rw [z1.int_inv,z2.int_inv] at hb
       exact ⟨b,hv,e1.rh _ _ hb⟩
 · have pin: ∀i∈π,i < ps.length:=fun i hi=>List.mem_range.mp (hp.mem_iff.mp hi)
   have er:(π.map fun i=>(ps.map pr2).getD i PyData.none)=(π.map fun i=>ps.getD i (0,0)).map pr2:=by
    rw [List.map_map]
    refine List.map_congr_left fun i hi=> ?_
    have:=pin i hi
    simp [this]
   have ra:=kvb r1 π fun i hi=>by rw [hl];exact pin i hi
   rw [er] at ra
   have hp2:(π.map fun i=>ps.getD i (0,0)).Perm ps:=by
    have:=hp.map fun i=>ps.getD i (0,0)
    rwa [kbz] at this
   have hpw:(π.map fun i=>ps.getD i (0,0)).Pairwise (fun x y=>x.1 * B + x.2≤y.1 * B + y.2):=by
    rw [List.pairwise_iff_getElem]
    intro i j hi hj hij
    rw [List.length_map] at hi hj
    have z:=hs i j (by lia) hj
    unfold kw2 at z
    simp only [List.getElem_map]
    rw [show π.getD i 0=π[i] by simp [hi],show π.getD j 0=π[j] by simp [hj]] at z
    exact z
   exact k _ l _ R1 _ (kk _ hp2 hpw) (e1.trans (Ext.newO e1.wd hn trivial)) (e1.hh.free hn) kad (e1.wd.rh.free hn) ra
end
end L2
namespace L2
open PySem PySem.Spec PyProof.Rows
section
variable {He:Hp} {K:PySem.W.Frag} {ι:Type} {Y:ι→Cx} {pos:Pos}
end
end L2
namespace L2
open PySem PySem.Spec PyProof.Rows
section
variable {He:Hp} {K:PySem.W.Frag} {ι:Type} {Y:ι→Cx} {e:Expr} {pos:Pos}
end
end L2
namespace L2
open PySem PySem.Spec PyProof.Rows
section
variable {K:PySem.W.Frag} {R:Hp}
end
section
variable {He:Hp} {K:PySem.W.Frag} {ι:Type} {Y:ι→Cx} {e a b c:Expr} {es:List Expr} {pos:Pos}
end
end L2
namespace L2
open PySem PySem.Spec PyProof.Rows PySem.W
section
variable {X:Cx} {pins:List (Addr×Obj)} {σ:St} {H:Hp} {s:Shared}
theorem kg6: ∀{ns:List Int} {its:List Value},Vals (ns.map V.int) its→IntsAre its ns
 | [],_,r=>by rw [List.map_nil] at r;cases r;exact IntsAre.nil
 | n::ns,_,r=>by
   rw [List.map_cons] at r
   cases r with
   | cons h t=>
     obtain ⟨tk,rfl⟩:=h
     exact IntsAre.cons _ _ (kg6 t)
end
section
variable {He:Hp} {K:PySem.W.Frag} {ι:Type} {Y:ι→Cx} {e:Expr} {pos p:Pos}
end
section
variable {X:Cx}
theorem kfw: ∀{vs:List Value} {ns:List Int},IntsAre vs ns→Vals (ns.map V.int) vs
 | _,_,.nil=> .nil
 | _,_,.cons _ t h=> .cons ⟨t,rfl⟩ (kfw h)
end
section
variable {He:Hp} {K:PySem.W.Frag} {ι:Type} {Y:ι→Cx} {e:Expr} {pos p:Pos}
end
end L2
namespace L2
open PySem PySem.Spec PySem.W PyProof.Rows
section
variable {prog:Program} {w:World} {A:Around} {E:Value→Shared→Prop} {s:Shared}
noncomputable abbrev WS {α:Type} (prog:Program) (w:World) (A:Around) (E:Value→Shared→Prop) (s:Shared) (m:StateT SortSt Sem α) (Q:α→SortSt→Prop) (st:SortSt):Prop:=wpS (model prog w) A E s m Q st
noncomputable def kyi:Bool→Keyed→Array Keyed→Nat→Nat→Nat→StateT SortSt Sem (Option Nat):=PySem.W.Fast.tw8001965791261037382
noncomputable def mloT:Array Keyed→Array Keyed→StateT SortSt Sem (Array Keyed):=PySem.W.Fast.tw17852939151971871240
noncomputable def mhiT:Array Keyed→Array Keyed→StateT SortSt Sem (Array Keyed):=PySem.W.Fast.tw11371033205705349026
noncomputable def matT:Nat→StateT SortSt Sem Bool:=PySem.W.Fast.tw6096456617080501612
theorem kyj:mergeAt'=matT:=PySem.W.Fast.te6096456617080501612
noncomputable def elT:Array Keyed→Nat→StateT SortSt Sem Keyed:=PySem.W.Fast.tw4424054534610556225
noncomputable def ltT:Keyed→Keyed→StateT SortSt Sem (Option Bool):=PySem.W.Fast.tw5462128846355204966
theorem kyk:elem'=elT:=PySem.W.Fast.te4424054534610556225
theorem kyl:lt'=ltT:=PySem.W.Fast.te5462128846355204966
theorem kcc {arr:Array Keyed} {i:Nat} {p:Keyed} {Q:Keyed→SortSt→Prop} {st:SortSt} (h:arr[i]?=some p) (k:Q p st):WS prog w A E s (elT arr i) Q st:=by
 rw [← kyk,elem'_eq,h]
 exact wpS_pure k
noncomputable def kid (prog:Program) (w:World) (A:Around) (E:Value→Shared→Prop) (s:Shared) (key:Keyed→Int) (κ:SortKind) (ok:Keyed→Prop):Prop:=
 ∀(x y:Keyed) (st:SortSt) (Q:Option Bool→SortSt→Prop),ok x→ok y→kindOf st=κ→Q (some (decide (key x < key y))) st→WS prog w A E s (ltT x y) Q st
theorem ks5 {P:Nat→Bool} {n lo hi:Nat} {st:SortSt} {F:Nat→Option (Option Nat)×Nat×Nat→StateT SortSt Sem (ForInStep (Option (Option Nat)×Nat×Nat))} {Q:Option (Option Nat)×Nat×Nat→SortSt→Prop}
 (h1: ∀(i lo hi:Nat) (R:ForInStep (Option (Option Nat)×Nat×Nat)→SortSt→Prop),lo < hi→hi≤n→(P (lo + (hi - lo) / 2)=true→R (.yield (none,lo + (hi - lo) / 2 + 1,hi)) st)→(P (lo + (hi - lo) / 2)=false→R (.yield (none,lo,lo + (hi - lo) / 2)) st)→WS prog w A E s (F i (none,lo,hi)) R st)
 (h2: ∀(i lo hi:Nat) (R:ForInStep (Option (Option Nat)×Nat×Nat)→SortSt→Prop),hi≤lo→R (.done (none,lo,hi)) st→WS prog w A E s (F i (none,lo,hi)) R st)
 (mono: ∀i j,i≤j→j < n→P j=true→P i=true) (hlo:lo≤hi) (hhi:hi≤n) (b1: ∀i,i < lo→P i=true) (b2: ∀i,hi≤i→i < n→P i=false)
 (k: ∀r,r≤n→(∀ i,i < r→P i=true)→(∀ i,r≤i→i < n→P i=false)→Q (none,r,r) st):WS prog w A E s (forIn [:n] (none,lo,hi) F) Q st:=by
 refine wpS_forRange (fun j c st'=>st'=st∧∃lo hi,c=(none,lo,hi)∧lo≤hi∧hi≤n∧(∀ i,i < lo→P i=true)∧(∀ i,hi≤i→i < n→P i=false)∧hi - lo≤n - j) ?_ ?_ ⟨rfl,lo,hi,rfl,hlo,hhi,b1,b2,by lia⟩
 · rintro i c st' _ hi' ⟨rfl,lo,hi,rfl,hl,hh,b1,b2,hm⟩
   by_cases e:lo < hi
   · refine h1 i lo hi _ e hh (fun z=> ?_) (fun z=> ?_)
     · exact ⟨rfl,_,_,rfl,by lia,hh,fun j hj=>mono j _ (by lia) (by lia) z,b2,by lia⟩
     · refine ⟨rfl,_,_,rfl,by lia,by lia,b1,fun j h3 h4=> ?_,by lia⟩
       cases q:P j with
       | false=>rfl
       | true=>rw [mono _ j h3 h4 q] at z;cases z
   · have e':lo=hi:=by lia
     subst e'
     exact h2 i lo lo _ (Nat.le_refl _) (k lo hh b1 b2)
 · rintro c st' ⟨rfl,lo,hi,rfl,hl,hh,b1,b2,hm⟩
   have e':lo=hi:=by lia
   subst e'
   exact k lo hh b1 b2
theorem ks6 {P:Nat→Bool} {n mx:Nat} {st:SortSt} {F:Nat→Option (Option Nat)×Nat×Nat→StateT SortSt Sem (ForInStep (Option (Option Nat)×Nat×Nat))} {Q:Option (Option Nat)×Nat×Nat→SortSt→Prop}
 (h1: ∀(i last ofs:Nat) (R:ForInStep (Option (Option Nat)×Nat×Nat)→SortSt→Prop),ofs < mx→(P ofs=true→R (.done (none,last,ofs)) st)→(P ofs=false→R (.yield (none,ofs,2 * ofs + 1)) st)→WS prog w A E s (F i (none,last,ofs)) R st)
 (h2: ∀(i last ofs:Nat) (R:ForInStep (Option (Option Nat)×Nat×Nat)→SortSt→Prop),mx≤ofs→R (.done (none,last,ofs)) st→WS prog w A E s (F i (none,last,ofs)) R st)
 (hmx:mx≤n) (h0:0 < mx) (k: ∀last ofs,last < ofs→last < mx→(last=0∨P last=false)→(mx≤ofs∨P ofs=true)→Q (none,last,ofs) st):WS prog w A E s (forIn [:n] (none,0,1) F) Q st:=by
 refine wpS_forRange (fun j c st'=>st'=st∧∃last ofs,c=(none,last,ofs)∧last < ofs∧last < mx∧(last=0∨P last=false)∧j + 1≤ofs) ?_ ?_ ⟨rfl,0,1,rfl,by lia,h0,.inl rfl,Nat.le_refl _⟩
 · rintro i c st' _ hi' ⟨rfl,last,ofs,rfl,h3,h4,h5,h6⟩
   by_cases e:ofs < mx
   · exact h1 i last ofs _ e (fun z=>k last ofs h3 h4 h5 (.inr z)) fun z=>⟨rfl,_,_,rfl,by lia,e,.inr z,by lia⟩
   · exact h2 i last ofs _ (by lia) (k last ofs h3 h4 h5 (.inl (by lia)))
 · rintro c st' ⟨rfl,last,ofs,rfl,h3,h4,h5,h6⟩
   exact k last ofs h3 h4 h5 (.inl (by lia))
noncomputable def bey (key:Keyed→Int) (left:Bool) (x:Keyed) (arr:Array Keyed) (base i:Nat):Bool:=if left=true then decide (key (arr.getD (base + i) default) < key x) else !decide (key x < key (arr.getD (base + i) default))
theorem knp {key:Keyed→Int} {κ:SortKind} {ok:Keyed→Prop} (L:kid prog w A E s key κ ok) {left:Bool} {x:Keyed} {arr:Array Keyed} {base n hint:Nat} {st:SortSt} {Q:Option Nat→SortSt→Prop} (hx:ok x) (hn:base + n≤arr.size) (ha: ∀(i:Nat) (p:Keyed),base≤i→i < base + n→arr[i]?=some p→ok p) (hk:kindOf st=κ) (hh:hint < n)
 (mono: ∀i j,i≤j→j < n→bey key left x arr base j=true→bey key left x arr base i=true)
 (k: ∀r,r≤n→(∀ i,i < r→bey key left x arr base i=true)→(∀ i,r≤i→i < n→bey key left x arr base i=false)→Q (some r) st):WS prog w A E s (kyi left x arr base n hint) Q st:=by
 have ask: ∀(i:Nat) (R:Option Bool→SortSt→Prop),i < n→R (some (bey key left x arr base i)) st→WS prog w A E s (elT arr (base + i) >>= fun y=>if left=true then ltT y x else ltT x y >>= fun r=>pure (r.map fun b=> !b)) R st:=fun i R hi k=>by
  have e:arr[base + i]?=some arr[base + i]:=Array.getElem?_eq_getElem (by lia)
  have ed:arr.getD (base + i) default=arr[base + i]:=by simp [show base + i < arr.size by lia]
  have ho:=ha (base + i) _ (by lia) (by lia) e
  refine wpS_bind (kcc e ?_)
  unfold bey at k
  rw [ed] at k
  cases left with
  | true=>exact L _ _ _ _ ho hx hk k
  | false=>exact wpS_bind (L _ _ _ _ hx ho hk (wpS_pure k))
 unfold kyi PySem.W.Fast.tw8001965791261037382
 rw [← PySem.W.Fast.te12456147031677567982]
 dsimp only
 refine wpS_bind (ask hint _ hh ?_)
 cases hb:bey key left x arr base hint with
 | true=>
   dsimp only
   rw [if_pos rfl]
   refine wpS_bind (ks6 (P:=fun o=> !bey key left x arr base (hint + o)) (mx:=n - hint) (fun i last ofs R h1 h2 h3=> ?_) (fun i last ofs R h1 h2=> ?_) (by lia) (by lia) fun last ofs h1 h2 h3 h4=> ?_)
   · dsimp only
     rw [if_neg (by lia)]
     refine wpS_bind (ask (hint + ofs) _ (by lia) ?_)
     cases e:bey key left x arr base (hint + ofs) with
     | true=>exact wpS_pure (h3 (by rw [e];rfl))
     | false=>exact wpS_pure (h2 (by rw [e];rfl))
   · dsimp only
     rw [if_pos h1]
     exact wpS_pure h2
   · dsimp only
     have pl:bey key left x arr base (hint + last)=true:=by
      rcases h3 with rfl | h3
      · exact hb
      · simpa using h3
     refine wpS_bind (ks5 (P:=bey key left x arr base) (fun i lo hi R h5 h6 h7 h8=> ?_) (fun i lo hi R h5 h6=> ?_) mono (by lia) (by lia) (fun i hi=>mono i _ (by lia) (by lia) pl) (fun i h5 h6=> ?_) fun r h5 h6 h7=> ?_)
     · dsimp only
       rw [if_neg (by lia)]
       refine wpS_bind (ask _ _ (by lia) ?_)
       cases e:bey key left x arr base (lo + (hi - lo) / 2) with
       | true=>exact wpS_pure (h7 e)
       | false=>exact wpS_pure (h8 e)
     · dsimp only
       rw [if_pos h5]
       exact wpS_pure h6
     · rcases h4 with h4 | h4
       · lia
       · have h4:bey key left x arr base (hint + ofs)=false:=by simpa using h4
         cases q:bey key left x arr base i with
         | false=>rfl
         | true=>rw [mono (hint + ofs) i (by lia) h6 q] at h4;cases h4
     · exact wpS_pure (k r h5 h6 h7)
 | false=>
   dsimp only
   rw [if_neg Bool.false_ne_true]
   refine wpS_bind (ks6 (P:=fun o=>bey key left x arr base (hint - o)) (mx:=hint + 1) (fun i last ofs R h1 h2 h3=> ?_) (fun i last ofs R h1 h2=> ?_) (by lia) (by lia) fun last ofs h1 h2 h3 h4=> ?_)
   · dsimp only
     rw [if_neg (by lia)]
     refine wpS_bind (ask (hint - ofs) _ (by lia) ?_)
     cases e:bey key left x arr base (hint - ofs) with
     | true=>exact wpS_pure (h2 e)
     | false=>exact wpS_pure (h3 e)
   · dsimp only
     rw [if_pos h1]
     exact wpS_pure h2
   · dsimp only
     have pl:bey key left x arr base (hint - last)=false:=by
      rcases h3 with rfl | h3
      · exact hb
      · exact h3
     refine wpS_bind (ks5 (P:=bey key left x arr base) (fun i lo hi R h5 h6 h7 h8=> ?_) (fun i lo hi R h5 h6=> ?_) mono (by lia) (by lia) (fun i hi=> ?_) (fun i h5 h6=> ?_) fun r h5 h6 h7=> ?_)
     · dsimp only
       rw [if_neg (by lia)]
       refine wpS_bind (ask _ _ (by lia) ?_)
       cases e:bey key left x arr base (lo + (hi - lo) / 2) with
       | true=>exact wpS_pure (h7 e)
       | false=>exact wpS_pure (h8 e)
     · dsimp only
       rw [if_pos h5]
       exact wpS_pure h6
     · rcases h4 with h4 | h4
       · lia
       · exact mono i (hint - ofs) (by lia) (by lia) h4
     · cases q:bey key left x arr base i with
       | false=>rfl
       | true=>rw [mono (hint - last) i (by lia) h6 q] at pl;cases pl
     · exact wpS_pure (k r h5 h6 h7)
end
end L2
namespace L2
open PySem PySem.Spec PySem.W PyProof.Rows
section
variable {key:Keyed→Int} {P Q O:List Keyed} {i j:Nat}
noncomputable def UpL (key:Keyed→Int) (l:List Keyed):Prop:=l.Pairwise fun x y=>key x≤key y
structure Mg (key:Keyed→Int) (P Q O:List Keyed) (i j:Nat):Prop where
 pm:O.Perm (P.take i++Q.take j)
 up:UpL key O
 la: ∀x∈O,∀y∈P.drop i,key x≤key y
 lb: ∀x∈O,∀y∈Q.drop j,key x≤key y
theorem Mg.swap (m:Mg key P Q O i j):Mg key Q P O j i:=⟨m.pm.trans List.perm_append_comm,m.up,m.lb,m.la⟩
theorem Mg.addA (m:Mg key P Q O i j) (sP:UpL key P) (k:Nat) (h: ∀x∈(P.drop i).take k,∀y∈Q.drop j,key x≤key y):Mg key P Q (O++(P.drop i).take k) (i + k) j:=by
 have e:P.drop i=(P.drop i).take k++P.drop (i + k):=by rw [← List.drop_drop,List.take_append_drop]
 have sd:UpL key (P.drop i):=sP.sublist (List.drop_sublist _ _)
 have sd2:=sd
 unfold UpL at sd2
 rw [e,List.pairwise_append] at sd2
 have sub: ∀y∈(P.drop i).take k,y∈P.drop i:=fun y hy=>List.mem_of_mem_take hy
 refine ⟨?_,?_,fun x hx y hy=> ?_,fun x hx y hy=> ?_⟩
 · rw [List.take_add]
   refine (m.pm.append_right _).trans ?_
   rw [List.append_assoc,List.append_assoc]
   exact List.perm_append_comm.append_left _
 · exact List.pairwise_append.mpr ⟨m.up,sd2.1,fun x hx y hy=>m.la x hx y (sub y hy)⟩
 · rcases List.mem_append.mp hx with hx | hx
   · exact m.la x hx y (by rw [e];exact List.mem_append_right _ hy)
   · exact sd2.2.2 x hx y hy
 · rcases List.mem_append.mp hx with hx | hx
   · exact m.lb x hx y hy
   · exact h x hx y hy
theorem Mg.addB (m:Mg key P Q O i j) (sQ:UpL key Q) (k:Nat) (h: ∀x∈(Q.drop j).take k,∀y∈P.drop i,key x≤key y):Mg key P Q (O++(Q.drop j).take k) i (j + k):=(m.swap.addA sQ k h).swap
noncomputable def MgE (key:Keyed→Int) (P Q R:List Keyed):Prop:=R.Perm (P++Q)∧UpL key R
theorem Mg.done (m:Mg key P Q O i j) (hi:P.length≤i) (hj:Q.length≤j):MgE key P Q O:=by
 have:=m.pm
 rw [List.take_of_length_le hi,List.take_of_length_le hj] at this
 exact ⟨this,m.up⟩
theorem Mg.endA (m:Mg key P Q O i j) (sP:UpL key P) (hj:Q.length≤j):MgE key P Q (O++P.drop i):=by
 have:=m.addA sP (P.length - i) (fun x q_ y hy=>by rw [List.drop_of_length_le hj] at hy;cases hy)
 rw [List.take_of_length_le (by rw [List.length_drop];exact Nat.le_refl _)] at this
 exact this.done (by lia) hj
theorem MgE.swap {R:List Keyed} (h:MgE key P Q R):MgE key Q P R:=⟨h.1.trans List.perm_append_comm,h.2⟩
theorem Mg.endB (m:Mg key P Q O i j) (sQ:UpL key Q) (hi:P.length≤i):MgE key P Q (O++Q.drop j):=(m.swap.endA sQ hi).swap
theorem Mg.lastA (m:Mg key P Q O i j) (sP:UpL key P) (sQ:UpL key Q) (h: ∀x∈Q,∀y∈P.drop i,key x≤key y):MgE key P Q (O++Q.drop j++P.drop i):=by
 have:=m.addB sQ (Q.length - j) (fun x hx y hy=>h x (List.mem_of_mem_drop (List.mem_of_mem_take hx)) y hy)
 rw [List.take_of_length_le (by rw [List.length_drop];exact Nat.le_refl _)] at this
 exact this.endA sP (by lia)
theorem Mg.nil (h1:i=0) (h2:j=0):Mg key P Q [] i j:=by
 subst h1 h2
 exact ⟨by simp,List.Pairwise.nil,fun x hx=>(by cases hx),fun x hx=>(by cases hx)⟩
theorem kc9 {l:List Keyed} (h:UpL key l) {x:Keyed} {i:Nat} (hx:l[i]?=some x): ∀y∈l.drop i,key x≤key y:=by
 have hi:i < l.length:=(List.getElem?_eq_some_iff.mp hx).1
 have e:l.drop i=x::l.drop (i + 1):=by
  rw [List.drop_eq_getElem_cons hi,(List.getElem?_eq_some_iff.mp hx).2]
 have sd:UpL key (l.drop i):=h.sublist (List.drop_sublist _ _)
 unfold UpL at sd
 rw [e,List.pairwise_cons] at sd
 intro y hy
 rw [e] at hy
 rcases List.mem_cons.mp hy with rfl | hy
 · exact Int.le_refl _
 · exact sd.1 y hy
theorem take_one {l:List Keyed} {x:Keyed} {i:Nat} (hx:l[i]?=some x):(l.drop i).take 1=[x]:=by
 have hi:i < l.length:=(List.getElem?_eq_some_iff.mp hx).1
 rw [List.drop_eq_getElem_cons hi,(List.getElem?_eq_some_iff.mp hx).2]
 rfl
theorem Mg.pushA (m:Mg key P Q O i j) (sP:UpL key P) (sQ:UpL key Q) {x y:Keyed} (hx:P[i]?=some x) (hy:Q[j]?=some y) (h:key x≤key y):Mg key P Q (O++[x]) (i + 1) j:=by
 have:=m.addA sP 1 (fun z hz u hu=>by
  rw [take_one hx] at hz
  rw [List.mem_singleton.mp hz]
  exact Int.le_trans h (kc9 sQ hy u hu))
 rwa [take_one hx] at this
theorem Mg.pushB (m:Mg key P Q O i j) (sP:UpL key P) (sQ:UpL key Q) {x y:Keyed} (hx:P[i]?=some x) (hy:Q[j]?=some y) (h:key y≤key x):Mg key P Q (O++[y]) i (j + 1):=(m.swap.pushA sQ sP hy hx h).swap
end
section
variable {prog:Program} {w:World} {A:Around} {E:Value→Shared→Prop} {s:Shared}
noncomputable abbrev Stt (st st':SortSt):Prop:=kindOf st'=kindOf st∧arrOf st'=arrOf st∧pendingOf st'=pendingOf st∧failedOf st'=failedOf st
theorem keo (a:Array Keyed) (i:Nat):(a.extract i a.size).toList=a.toList.drop i:=by
 rw [Array.toList_extract,List.extract_eq_take_drop,List.take_of_length_le (by rw [List.length_drop,Array.length_toList];exact Nat.le_refl _)]
theorem ki6 (a:Array Keyed) (i k:Nat):(a.extract i (i + k)).toList=(a.toList.drop i).take k:=by
 rw [Array.toList_extract,List.extract_eq_take_drop,Nat.add_sub_cancel_left]
theorem kay {a:Array Keyed} {i:Nat} {x:Keyed} (h:a[i]?=some x):a.toList[i]?=some x:=by rw [← h,Array.getElem?_toList]
theorem kg7 {g:Nat} {Q:PUnit→SortSt→Prop} {st:SortSt} (h: ∀st',Stt st st'→Q ⟨⟩ st'):WS prog w A E s (PySem.W.Fast.tw5464061087179277862 g) Q st:=by
 unfold PySem.W.Fast.tw5464061087179277862
 rw [← PySem.W.Fast.te12456147031677567982]
 exact wpS_modify (h _ ⟨rfl,rfl,rfl,rfl⟩)
theorem kep {x:String} {Q:Unit→SortSt→Prop} {st:SortSt} (h:Q () st):WS prog w A E s (liftM (rule x)) Q st:=wpS_lift (wpAny_rule ⟨rfl,h⟩)
theorem kam {α:Type} {c:Prop} [Decidable c] {t e:StateT SortSt Sem α} {Q:α→SortSt→Prop} {st:SortSt} (h1:c→WS prog w A E s t Q st) (h2: ¬c→WS prog w A E s e Q st):WS prog w A E s (if c then t else e) Q st:=by
 by_cases h:c
 · rw [if_pos h];exact h1 h
 · rw [if_neg h];exact h2 h
theorem up_at {key:Keyed→Int} {a:Array Keyed} (u:UpL key a.toList) {i j:Nat} (hij:i≤j) (hj:j < a.size):key (a.getD i default)≤key (a.getD j default):=by
 have ei:a.getD i default=a[i]'(by lia):=by simp [show i < a.size by lia]
 have ej:a.getD j default=a[j]:=by simp [hj]
 rw [ei,ej]
 rcases Nat.lt_or_eq_of_le hij with h | h
 · have:=List.pairwise_iff_getElem.mp u i j (by rw [Array.length_toList];lia) (by rw [Array.length_toList];lia) h
   simpa using this
 · subst h;exact Int.le_refl _
theorem kkf {key:Keyed→Int} {a:Array Keyed} (u:UpL key a.toList) {left:Bool} {x:Keyed} {base n:Nat} (hn:base + n≤a.size): ∀i j,i≤j→j < n→bey key left x a base j=true→bey key left x a base i=true:=fun i j hij hj h=>by
 have:=up_at u (i:=base + i) (j:=base + j) (by lia) (by lia)
 unfold bey at h ⊢
 cases left with
 | true=>
   rw [if_pos rfl,decide_eq_true_eq] at h ⊢
   lia
 | false=>
   rw [if_neg Bool.false_ne_true,Bool.not_eq_true',decide_eq_false_iff_not] at h ⊢
   lia
theorem knq {key:Keyed→Int} {κ:SortKind} {ok:Keyed→Prop} (L:kid prog w A E s key κ ok) {x:Keyed} {a:Array Keyed} {base n hint:Nat} {st:SortSt} {Q:Option Nat→SortSt→Prop} (hx:ok x) (hn:base + n≤a.size) (oa: ∀x∈a.toList,ok x) (u:UpL key a.toList) (hk:kindOf st=κ) (hh:hint < n)
 (k: ∀r,r≤n→(∀ z∈(a.toList.drop base).take r,key z≤key x)→(∀ z,r < n→a[base + r]?=some z→key x < key z)→Q (some r) st):WS prog w A E s (kyi false x a base n hint) Q st:=by
 refine knp L hx hn (fun i p q_ q_ h=>oa p (List.mem_of_getElem? (kay h))) hk hh (kkf u hn) fun r h1 h2 h3=>k r h1 (fun z hz=> ?_) fun z hr hz=> ?_
 · obtain ⟨i,hi,e⟩:=List.getElem_of_mem hz
   have hi':i < r:=by rw [List.length_take] at hi;lia
   have:=h2 i hi'
   unfold bey at this
   rw [if_neg Bool.false_ne_true,Bool.not_eq_true',decide_eq_false_iff_not] at this
   have e2:a.getD (base + i) default=z:=by
    rw [← e]
    simp [show base + i < a.size by lia]
   rw [e2] at this
   lia
 · have:=h3 r (Nat.le_refl _) hr
   unfold bey at this
   rw [if_neg Bool.false_ne_true,Bool.not_eq_false',decide_eq_true_eq] at this
   have e2:a.getD (base + r) default=z:=by rw [Array.getD_eq_getD_getElem?,hz];rfl
   rwa [e2] at this
theorem knr {key:Keyed→Int} {κ:SortKind} {ok:Keyed→Prop} (L:kid prog w A E s key κ ok) {x:Keyed} {a:Array Keyed} {base n hint:Nat} {st:SortSt} {Q:Option Nat→SortSt→Prop} (hx:ok x) (hn:base + n≤a.size) (oa: ∀x∈a.toList,ok x) (u:UpL key a.toList) (hk:kindOf st=κ) (hh:hint < n)
 (k: ∀r,r≤n→(∀ z∈(a.toList.drop base).take r,key z < key x)→(∀ z,r < n→a[base + r]?=some z→key x≤key z)→Q (some r) st):WS prog w A E s (kyi true x a base n hint) Q st:=by
 refine knp L hx hn (fun i p q_ q_ h=>oa p (List.mem_of_getElem? (kay h))) hk hh (kkf u hn) fun r h1 h2 h3=>k r h1 (fun z hz=> ?_) fun z hr hz=> ?_
 · obtain ⟨i,hi,e⟩:=List.getElem_of_mem hz
   have hi':i < r:=by rw [List.length_take] at hi;lia
   have:=h2 i hi'
   unfold bey at this
   rw [if_pos rfl,decide_eq_true_eq] at this
   have e2:a.getD (base + i) default=z:=by
    rw [← e]
    simp [show base + i < a.size by lia]
   rwa [e2] at this
 · have:=h3 r (Nat.le_refl _) hr
   unfold bey at this
   rw [if_pos rfl,decide_eq_false_iff_not] at this
   have e2:a.getD (base + r) default=z:=by rw [Array.getD_eq_getD_getElem?,hz];rfl
   rw [e2] at this
   lia
section
variable {key:Keyed→Int} {a b out:Array Keyed} {ia ib:Nat}
noncomputable abbrev MgA (key:Keyed→Int) (a b out:Array Keyed) (ia ib:Nat):Prop:=Mg key a.toList b.toList out.toList ia ib
noncomputable abbrev MgF (key:Keyed→Int) (a b r:Array Keyed):Prop:=MgE key a.toList b.toList r.toList
theorem MgA.pA (m:MgA key a b out ia ib) (sa:UpL key a.toList) (sb:UpL key b.toList) {x y:Keyed} (hx:a[ia]?=some x) (hy:b[ib]?=some y) (h:key x≤key y):MgA key a b (out.push x) (ia + 1) ib:=by
 unfold MgA
 rw [Array.toList_push]
 exact Mg.pushA m sa sb (kay hx) (kay hy) h
theorem MgA.pB (m:MgA key a b out ia ib) (sa:UpL key a.toList) (sb:UpL key b.toList) {x y:Keyed} (hx:a[ia]?=some x) (hy:b[ib]?=some y) (h:key y≤key x):MgA key a b (out.push y) ia (ib + 1):=by
 unfold MgA
 rw [Array.toList_push]
 exact Mg.pushB m sa sb (kay hx) (kay hy) h
theorem MgA.xA (m:MgA key a b out ia ib) (sa:UpL key a.toList) (sb:UpL key b.toList) {y:Keyed} {k:Nat} (hy:b[ib]?=some y) (h: ∀z∈(a.toList.drop ia).take k,key z≤key y):MgA key a b (out++a.extract ia (ia + k)) (ia + k) ib:=by
 unfold MgA
 rw [Array.toList_append,ki6]
 exact Mg.addA m sa k fun z hz u hu=>Int.le_trans (h z hz) (kc9 sb (kay hy) u hu)
theorem MgA.xB (m:MgA key a b out ia ib) (sa:UpL key a.toList) (sb:UpL key b.toList) {x:Keyed} {k:Nat} (hx:a[ia]?=some x) (h: ∀z∈(b.toList.drop ib).take k,key z≤key x):MgA key a b (out++b.extract ib (ib + k)) ia (ib + k):=by
 unfold MgA
 rw [Array.toList_append,ki6]
 exact Mg.addB m sb k fun z hz u hu=>Int.le_trans (h z hz) (kc9 sa (kay hx) u hu)
theorem MgA.eB (m:MgA key a b out ia ib) (sa:UpL key a.toList) (h:b.size≤ib):MgF key a b (out++a.extract ia++b.extract ib):=by
 unfold MgF
 rw [Array.toList_append,Array.toList_append,keo,keo,List.drop_of_length_le (by rw [Array.length_toList];exact h:b.toList.length≤ib),List.append_nil]
 exact Mg.endA m sa (by rw [Array.length_toList];exact h)
theorem MgA.eA (m:MgA key a b out ia ib) (sb:UpL key b.toList) (h:a.size≤ia):MgF key a b (out++a.extract ia++b.extract ib):=by
 unfold MgF
 rw [Array.toList_append,Array.toList_append,keo,keo,List.drop_of_length_le (by rw [Array.length_toList];exact h:a.toList.length≤ia),List.append_nil]
 exact Mg.endB m sb (by rw [Array.length_toList];exact h)
theorem MgA.lA (m:MgA key a b out ia ib) (sa:UpL key a.toList) (sb:UpL key b.toList) (h: ∀x∈b.toList,key x≤key (a.getD (a.size - 1) default)) (hi:ia + 1=a.size):MgF key a b (out++b.extract ib++a.extract ia):=by
 unfold MgF
 rw [Array.toList_append,Array.toList_append,keo,keo]
 refine Mg.lastA m sa sb fun x hx y hy=> ?_
 have e:a.toList.drop ia=[a[ia]'(by lia)]:=by
  rw [List.drop_eq_getElem_cons (by rw [Array.length_toList];lia),List.drop_of_length_le (by rw [Array.length_toList];lia)]
  simp
 rw [e] at hy
 rw [List.mem_singleton.mp hy]
 have:=h x hx
 rwa [show a.getD (a.size - 1) default=a[ia]'(by lia) by simp [show a.size - 1=ia by lia,show ia < a.size by lia]] at this
end
end
end L2
set_option maxHeartbeats 4000000
namespace L2
open PySem PySem.Spec PySem.W PyProof.Rows
section
variable {prog:Program} {w:World} {A:Around} {E:Value→Shared→Prop} {s:Shared}
theorem Stt.trans {a b c:SortSt} (h:Stt a b) (h':Stt b c):Stt a c:=⟨h'.1.trans h.1,h'.2.1.trans h.2.1,h'.2.2.1.trans h.2.2.1,h'.2.2.2.trans h.2.2.2⟩
theorem kym {key:Keyed→Int} {κ:SortKind} {ok:Keyed→Prop} (L:kid prog w A E s key κ ok) {a b:Array Keyed} {st:SortSt} {R:Array Keyed→SortSt→Prop} (hk:kindOf st=κ) (oa: ∀x∈a.toList,ok x) (ob: ∀x∈b.toList,ok x) (sa:UpL key a.toList) (sb:UpL key b.toList) (ha:0 < a.size) (hb:0 < b.size)
 (h0:key (b.getD 0 default)≤key (a.getD 0 default)) (hl: ∀x∈b.toList,key x≤key (a.getD (a.size - 1) default)) (k: ∀r st',MgF key a b r→Stt st st'→R r st'):WS prog w A E s (mloT a b) R st:=by
 have ea: ∀i (h:i < a.size),a[i]?=some a[i]:=fun i h=>Array.getElem?_eq_getElem h
 have eb: ∀i (h:i < b.size),b[i]?=some b[i]:=fun i h=>Array.getElem?_eq_getElem h
 have oka: ∀i (h:i < a.size),ok a[i]:=fun i h=>oa _ (List.mem_of_getElem? (kay (ea i h)))
 have okb: ∀i (h:i < b.size),ok b[i]:=fun i h=>ob _ (List.mem_of_getElem? (kay (eb i h)))
 have m0:MgA key a b #[b[0]] 0 1:=Mg.pushB (O:=[]) (Mg.nil rfl rfl) sa sb (kay (ea 0 ha)) (kay (eb 0 hb)) (by simpa [ha,hb] using h0)
 unfold mloT PySem.W.Fast.tw17852939151971871240
 rw [← PySem.W.Fast.te12456147031677567982,← PySem.W.Fast.te2398297429280069960,← PySem.W.Fast.te8050958516035322399,← PySem.W.Fast.te494991955013373658]
 refine wpS_bind (kep (wpS_bind (kcc (eb 0 hb) ?_)))
 refine kam (fun c1=>wpS_pure (k _ _ (m0.eB sa (by have:=eq_of_beq c1;lia)) ⟨rfl,rfl,rfl,rfl⟩)) fun c1=> ?_
 refine kam (fun c2=>wpS_pure (k _ _ (m0.lA sa sb hl (by have:=eq_of_beq c2;lia)) ⟨rfl,rfl,rfl,rfl⟩)) fun c2=> ?_
 have c1:1≠b.size:=fun z=>c1 (beq_iff_eq.mpr z)
 have c2:0 + 1≠a.size:=fun z=>c2 (beq_iff_eq.mpr z)
 refine wpS_bind (wpS_get ?_)
 refine wpS_bind (wpS_forRange (fun j c st'=>∃out ia ib mg,c=(none,out,ia,ib,mg)∧MgA key a b out ia ib∧ia + 1 < a.size∧ib < b.size∧j≤ia + ib∧Stt st st') ?_ ?_ ⟨_,_,_,_,rfl,m0,by lia,by lia,by lia,⟨rfl,rfl,rfl,rfl⟩⟩)
 · rintro i c st' _ hi ⟨out,ia,ib,mg,rfl,m,i1,i2,ct,t⟩
   refine wpS_bind (wpS_mono (Q:=fun c st''=>Stt st st''∧((∃ r,c.1=some r∧MgF key a b r)∨(c.1=none∧MgA key a b c.2.1 c.2.2.1 c.2.2.2.1∧c.2.2.1 + 1 < a.size∧c.2.2.2.1 < b.size∧i + 1≤c.2.2.1 + c.2.2.2.1)))
    (wpS_forRange (fun j c st''=>∃out ia ib ac bc,c=(none,out,ia,ib,ac,bc)∧MgA key a b out ia ib∧ia + 1 < a.size∧ib < b.size∧i + j≤ia + ib∧Stt st st'') ?_ ?_ ⟨_,_,_,_,_,rfl,m,i1,i2,by lia,t⟩) ?_)
   · rintro j c st' _ hj ⟨out,ia,ib,ac,bc,rfl,m,i1,i2,ct,t⟩
     dsimp only
     refine wpS_bind (kcc (eb ib i2) (wpS_bind (kcc (ea ia (by lia)) (wpS_bind (L _ _ _ _ (okb ib i2) (oka ia (by lia)) (t.1.trans hk) ?_)))))
     by_cases h:key b[ib] < key a[ia]
     · rw [decide_eq_true h]
       have m1:=m.pB sa sb (ea ia (by lia)) (eb ib i2) (Int.le_of_lt h)
       refine kam (fun q_=>wpS_bind (kcc (eb ib i2) ?_)) (fun z=>absurd rfl z)
       refine kam (fun c=>wpS_pure ⟨t,.inl ⟨_,rfl,m1.eB sa (by have:=eq_of_beq c;lia)⟩⟩) fun c=> ?_
       have c:ib + 1≠b.size:=fun z=>c (beq_iff_eq.mpr z)
       exact kam (fun q_=>wpS_pure ⟨t,.inr ⟨rfl,m1,i1,(by show ib + 1 < _;lia),(by show i + 1≤ia + (ib + 1);lia)⟩⟩) fun q_=>wpS_pure ⟨_,_,_,_,_,rfl,m1,i1,by lia,by lia,t⟩
     · rw [decide_eq_false h]
       have m1:=m.pA sa sb (ea ia (by lia)) (eb ib i2) (by lia)
       refine kam (fun z=>absurd z Bool.false_ne_true) (fun q_=>wpS_bind (kcc (ea ia (by lia)) ?_))
       refine kam (fun c=>wpS_pure ⟨t,.inl ⟨_,rfl,m1.lA sa sb hl (by have:=eq_of_beq c;lia)⟩⟩) fun c=> ?_
       have c:ia + 1 + 1≠a.size:=fun z=>c (beq_iff_eq.mpr z)
       exact kam (fun q_=>wpS_pure ⟨t,.inr ⟨rfl,m1,(by show ia + 1 + 1 < _;lia),i2,(by show i + 1≤ia + 1 + ib;lia)⟩⟩) fun q_=>wpS_pure ⟨_,_,_,_,_,rfl,m1,by lia,i2,by lia,t⟩
   · rintro c st' ⟨out,ia,ib,ac,bc,rfl,m,i1,i2,ct,t⟩
     lia
   · rintro ⟨r1,out,ia,ib,ac,bc⟩ st' ⟨t,⟨r,e,hr⟩ | ⟨e,m,i1,i2,ct⟩⟩
     · cases e
       exact wpS_pure (wpS_pure (k _ _ hr t))
     cases e
     refine wpS_bind (kep ?_)
     refine wpS_bind (wpS_mono (Q:=fun c st''=>Stt st st''∧((∃ r,c.1=some r∧MgF key a b r)∨(c.1=none∧MgA key a b c.2.1 c.2.2.1 c.2.2.2.1∧c.2.2.1 + 1 < a.size∧c.2.2.2.1 < b.size∧i + 1≤c.2.2.1 + c.2.2.2.1)))
      (wpS_forRange (fun j c st''=>∃out ia ib mg ac bc,c=(none,out,ia,ib,mg,ac,bc)∧MgA key a b out ia ib∧ia + 1 < a.size∧ib < b.size∧i + 1 + j≤ia + ib∧Stt st st'') ?_ ?_ ⟨_,_,_,_,_,_,rfl,m,i1,i2,by lia,t⟩) ?_)
     · rintro j c st' _ hj ⟨out,ia,ib,mg,ac,bc,rfl,m,i1,i2,ct,t⟩
       dsimp only
       refine kam (fun q_=> ?_) (fun q_=> ?_)
       all_goals
        refine wpS_bind (kg7 fun st1 t1=> ?_)
        have tt:=t.trans t1
        refine wpS_bind (kcc (eb ib i2) ?_)
        refine wpS_bind (knq L (okb ib i2) (by lia) oa sa (tt.1.trans hk) (by lia) fun r r1 r2 r3=> ?_)
        have m1:=m.xA sa sb (eb ib i2) r2
        dsimp only
        refine kam (fun r0=>kam (fun c=>wpS_pure ⟨tt,.inl ⟨_,rfl,m1.lA sa sb hl (by have:=eq_of_beq c;lia)⟩⟩) fun c=>kam (fun c=>wpS_pure ⟨tt,.inl ⟨_,rfl,m1.eA sb (by have:=eq_of_beq c;lia)⟩⟩) fun c'=> ?_) (fun r0=> ?_)
        have c:ia + r + 1≠a.size:=fun z=>c (beq_iff_eq.mpr z)
        have c':ia + r≠a.size:=fun z=>c' (beq_iff_eq.mpr z)
        have m2:=m1
        obtain ⟨IA,hIA⟩: ∃n,n=ia + r:=⟨_,rfl⟩
        have x3:=r3 _ (by lia) (ea (ia + r) (by lia))
        rotate_left
        have r00:r=0:=by lia
        subst r00
        have m2:=m
        obtain ⟨IA,hIA⟩: ∃n,n=ia:=⟨_,rfl⟩
        have x3:=r3 _ (by lia) (ea ia (by lia))
        all_goals
         refine wpS_bind (kcc (eb ib i2) ?_)
         have m3:=m2.pB sa sb (ea _ (by lia)) (eb ib i2) (Int.le_of_lt x3)
         refine kam (fun c=>wpS_pure ⟨tt,.inl ⟨_,rfl,m3.eB sa (by have:=eq_of_beq c;lia)⟩⟩) fun c4=> ?_
         have c4:ib + 1≠b.size:=fun z=>c4 (beq_iff_eq.mpr z)
         refine wpS_bind (kcc (ea _ (by lia)) ?_)
         refine wpS_bind (knr L (oka _ (by lia)) (by lia) ob sb (tt.1.trans hk) (by lia) fun q q1 q2 q3=> ?_)
         have m4:=m3.xB sa sb (ea _ (by lia)) (fun z hz=>Int.le_of_lt (q2 z hz))
         dsimp only
         refine kam (fun q0=>kam (fun c=>wpS_pure ⟨tt,.inl ⟨_,rfl,m4.eB sa (by have:=eq_of_beq c;lia)⟩⟩) fun c5=> ?_) (fun q0=> ?_)
         have c5:ib + 1 + q≠b.size:=fun z=>c5 (beq_iff_eq.mpr z)
         have m5:=m4
         have x5:=q3 _ (by lia) (eb (ib + 1 + q) (by lia))
         rotate_left
         have q00:q=0:=by lia
         subst q00
         have m5:=m3
         have x5:=q3 _ (by lia) (eb (ib + 1) (by lia))
         all_goals
          refine wpS_bind (kcc (ea _ (by lia)) ?_)
          have m6:=m5.pA sa sb (ea _ (by lia)) (eb _ (by lia)) x5
          refine kam (fun c=>wpS_pure ⟨tt,.inl ⟨_,rfl,m6.lA sa sb hl (by have:=eq_of_beq c;lia)⟩⟩) fun c6=> ?_
          have c6:IA + 1 + 1≠a.size:=fun z=>c6 (beq_iff_eq.mpr (hIA▸z))
          exact kam (fun q_=>wpS_pure ⟨tt,.inr ⟨rfl,m6,(by dsimp only;lia),(by dsimp only;lia),(by dsimp only;lia)⟩⟩) fun q_=>wpS_pure ⟨_,_,_,_,_,_,rfl,m6,by lia,by lia,by lia,tt⟩
     · rintro c st' ⟨out,ia,ib,mg,ac,bc,rfl,m,i1,i2,ct,t⟩
       lia
     · rintro ⟨r1,out,ia,ib,mg,ac,bc⟩ st' ⟨t,⟨r,e,hr⟩ | ⟨e,m,i1,i2,ct⟩⟩
       · cases e
         exact wpS_pure (wpS_pure (k _ _ hr t))
       cases e
       exact wpS_bind (kg7 fun st1 t1=>wpS_pure ⟨_,_,_,_,rfl,m,i1,i2,ct,t.trans t1⟩)
 · rintro c st' ⟨out,ia,ib,mg,rfl,m,i1,i2,ct,t⟩
   lia
end
end L2
set_option maxHeartbeats 4000000
namespace L2
open PySem PySem.Spec PySem.W PyProof.Rows
section
variable {key:Keyed→Int} {P Q O:List Keyed} {i j:Nat}
structure Mh (key:Keyed→Int) (P Q O:List Keyed) (i j:Nat):Prop where
 pm:O.Perm (P.drop i++Q.drop j)
 up:UpL key O
 la: ∀x∈P.take i,∀y∈O,key x≤key y
 lb: ∀x∈Q.take j,∀y∈O,key x≤key y
theorem Mh.swap (m:Mh key P Q O i j):Mh key Q P O j i:=⟨m.pm.trans List.perm_append_comm,m.up,m.lb,m.la⟩
theorem Mh.addA (m:Mh key P Q O i j) (sP:UpL key P) {k:Nat} (hk:k≤i) (h: ∀x∈Q.take j,∀y∈(P.take i).drop k,key x≤key y):Mh key P Q ((P.take i).drop k++O) k j:=by
 have e:P.take i=P.take k++(P.take i).drop k:=by
  conv=>lhs;rw [← List.take_append_drop k (P.take i)]
  rw [List.take_take,Nat.min_eq_left hk]
 have e2:P.drop k=(P.take i).drop k++P.drop i:=by
  conv=>lhs;rw [← List.take_append_drop i P]
  rcases Nat.le_total i P.length with hl | hl
  · rw [List.drop_append_of_le_length (by rw [List.length_take];lia)]
  · rw [List.drop_of_length_le hl,List.append_nil,List.append_nil]
 have sd:UpL key (P.take i):=sP.sublist (List.take_sublist _ _)
 have sd2:=sd
 unfold UpL at sd2
 rw [e,List.pairwise_append] at sd2
 refine ⟨?_,?_,fun x hx y hy=> ?_,fun x hx y hy=> ?_⟩
 · rw [e2,List.append_assoc]
   exact m.pm.append_left _
 · exact List.pairwise_append.mpr ⟨sd2.2.1,m.up,fun x hx y hy=>m.la x (List.mem_of_mem_drop hx) y hy⟩
 · rcases List.mem_append.mp hy with hy | hy
   · exact sd2.2.2 x hx y hy
   · exact m.la x (by rw [e];exact List.mem_append_left _ hx) y hy
 · rcases List.mem_append.mp hy with hy | hy
   · exact h x hx y hy
   · exact m.lb x hx y hy
theorem Mh.addB (m:Mh key P Q O i j) (sQ:UpL key Q) {k:Nat} (hk:k≤j) (h: ∀x∈P.take i,∀y∈(Q.take j).drop k,key x≤key y):Mh key P Q ((Q.take j).drop k++O) i k:=(m.swap.addA sQ hk h).swap
theorem Mh.done (m:Mh key P Q O 0 0):MgE key P Q O:=⟨m.pm,m.up⟩
theorem Mh.endB (m:Mh key P Q O 0 j) (sQ:UpL key Q):MgE key P Q (Q.take j++O):=(m.addB sQ (Nat.zero_le _) fun x hx=>by cases hx).done
theorem Mh.endA (m:Mh key P Q O i 0) (sP:UpL key P):MgE key P Q (P.take i++O):=(m.addA sP (Nat.zero_le _) fun x hx=>by cases hx).done
theorem Mh.fstB (m:Mh key P Q O i j) (sP:UpL key P) (sQ:UpL key Q) (h: ∀x∈Q.take j,∀y∈P,key x≤key y):MgE key P Q (Q.take j++(P.take i++O)):=
 ((m.addA sP (Nat.zero_le _) fun x hx y hy=>h x hx y (List.mem_of_mem_take hy)).addB sQ (Nat.zero_le _) fun x hx=>by cases hx).done
theorem kfx {l:List Keyed} (h:UpL key l) {x:Keyed} {i:Nat} (hx:l[i]?=some x): ∀y∈l.take (i + 1),key y≤key x:=by
 intro y hy
 rw [List.take_add_one,hx] at hy
 have hi:i < l.length:=(List.getElem?_eq_some_iff.mp hx).1
 rcases List.mem_append.mp hy with hy | hy
 · obtain ⟨j,hj,e⟩:=List.getElem_of_mem hy
   rw [List.length_take] at hj
   have:=List.pairwise_iff_getElem.mp h j i (by lia) hi (by lia)
   rw [(List.getElem?_eq_some_iff.mp hx).2] at this
   rw [← e,List.getElem_take]
   exact this
 · have hy:y=x:=by simpa using hy
   rw [hy]
   exact Int.le_refl _
theorem kkg {l:List Keyed} {x:Keyed} {i:Nat} (hx:l[i]?=some x):(l.take (i + 1)).drop i=[x]:=by
 have hi:i < l.length:=(List.getElem?_eq_some_iff.mp hx).1
 rw [List.take_add_one,hx,List.drop_append_of_le_length (by rw [List.length_take];lia),List.drop_of_length_le (by rw [List.length_take];lia)]
 rfl
theorem Mh.pushA (m:Mh key P Q O (i + 1) (j + 1)) (sP:UpL key P) (sQ:UpL key Q) {x y:Keyed} (hx:P[i]?=some x) (hy:Q[j]?=some y) (h:key y≤key x):Mh key P Q ([x]++O) i (j + 1):=by
 have:=m.addA sP (Nat.le_succ i) (fun z hz u hu=>by
  rw [kkg hx] at hu
  rw [List.mem_singleton.mp hu]
  exact Int.le_trans (kfx sQ hy z hz) h)
 rwa [kkg hx] at this
theorem Mh.pushB (m:Mh key P Q O (i + 1) (j + 1)) (sP:UpL key P) (sQ:UpL key Q) {x y:Keyed} (hx:P[i]?=some x) (hy:Q[j]?=some y) (h:key x≤key y):Mh key P Q ([y]++O) (i + 1) j:=(m.swap.pushA sQ sP hy hx h).swap
end
section
variable {key:Keyed→Int} {a b out:Array Keyed} {na nb:Nat}
noncomputable abbrev MhA (key:Keyed→Int) (a b out:Array Keyed) (na nb:Nat):Prop:=Mh key a.toList b.toList out.toList.reverse na nb
theorem keq (a:Array Keyed) (i:Nat):(a.extract 0 i).toList=a.toList.take i:=by
 rw [Array.toList_extract,List.extract_eq_take_drop,Nat.sub_zero,List.drop_zero]
theorem ks7 (a:Array Keyed) (i k:Nat):(a.extract k i).toList=(a.toList.take i).drop k:=by
 rw [Array.toList_extract,List.extract_eq_take_drop,List.drop_take]
theorem MhA.pA (m:MhA key a b out (na + 1) (nb + 1)) (sa:UpL key a.toList) (sb:UpL key b.toList) {x y:Keyed} (hx:a[na]?=some x) (hy:b[nb]?=some y) (h:key y≤key x):MhA key a b (out.push x) na (nb + 1):=by
 unfold MhA
 rw [Array.toList_push,List.reverse_append]
 exact Mh.pushA m sa sb (kay hx) (kay hy) h
theorem MhA.pB (m:MhA key a b out (na + 1) (nb + 1)) (sa:UpL key a.toList) (sb:UpL key b.toList) {x y:Keyed} (hx:a[na]?=some x) (hy:b[nb]?=some y) (h:key x≤key y):MhA key a b (out.push y) (na + 1) nb:=by
 unfold MhA
 rw [Array.toList_push,List.reverse_append]
 exact Mh.pushB m sa sb (kay hx) (kay hy) h
theorem MhA.xA (m:MhA key a b out na (nb + 1)) (sa:UpL key a.toList) (sb:UpL key b.toList) {y:Keyed} {k:Nat} (hk:k≤na) (hy:b[nb]?=some y) (h: ∀z∈(a.toList.take na).drop k,key y≤key z):MhA key a b (out++(a.extract k na).reverse) k (nb + 1):=by
 unfold MhA
 rw [Array.toList_append,Array.toList_reverse,ks7,List.reverse_append,List.reverse_reverse]
 exact Mh.addA m sa hk fun u hu z hz=>Int.le_trans (kfx sb (kay hy) u hu) (h z hz)
theorem MhA.xB (m:MhA key a b out (na + 1) nb) (sa:UpL key a.toList) (sb:UpL key b.toList) {x:Keyed} {k:Nat} (hk:k≤nb) (hx:a[na]?=some x) (h: ∀z∈(b.toList.take nb).drop k,key x≤key z):MhA key a b (out++(b.extract k nb).reverse) (na + 1) k:=by
 unfold MhA
 rw [Array.toList_append,Array.toList_reverse,ks7,List.reverse_append,List.reverse_reverse]
 exact Mh.addB m sb hk fun u hu z hz=>Int.le_trans (kfx sa (kay hx) u hu) (h z hz)
theorem MhA.eA (m:MhA key a b out na nb) (sb:UpL key b.toList) (h:na=0):MgF key a b (a.extract 0 na++b.extract 0 nb++out.reverse):=by
 subst h
 unfold MgF
 rw [Array.toList_append,Array.toList_append,Array.toList_reverse,keq,keq,List.take_zero,List.nil_append]
 exact Mh.endB m sb
theorem MhA.eB (m:MhA key a b out na nb) (sa:UpL key a.toList) (h:nb=0):MgF key a b (a.extract 0 na++b.extract 0 nb++out.reverse):=by
 subst h
 unfold MgF
 rw [Array.toList_append,Array.toList_append,Array.toList_reverse,keq,keq,List.take_zero,List.append_nil]
 exact Mh.endA m sa
theorem MhA.fB (m:MhA key a b out na nb) (sa:UpL key a.toList) (sb:UpL key b.toList) (hb:0 < b.size) (h: ∀y∈a.toList,key (b.getD 0 default)≤key y) (hn:nb=1):MgF key a b (b.extract 0 nb++a.extract 0 na++out.reverse):=by
 subst hn
 unfold MgF
 rw [Array.toList_append,Array.toList_append,Array.toList_reverse,keq,keq,List.append_assoc]
 refine Mh.fstB m sa sb fun x hx y hy=> ?_
 have e:b.toList.take 1=[b[0]]:=by
  rw [List.take_one]
  have:b.toList[0]?=some b[0]:=kay (Array.getElem?_eq_getElem hb)
  rw [List.head?_eq_getElem?,this];rfl
 rw [e] at hx
 rw [List.mem_singleton.mp hx]
 have:=h y hy
 rwa [show b.getD 0 default=b[0] by simp [hb]] at this
end
end L2
set_option maxHeartbeats 4000000
namespace L2
open PySem PySem.Spec PySem.W PyProof.Rows
section
variable {prog:Program} {w:World} {A:Around} {E:Value→Shared→Prop} {s:Shared}
theorem kyn {key:Keyed→Int} {κ:SortKind} {ok:Keyed→Prop} (L:kid prog w A E s key κ ok) {a b:Array Keyed} {st:SortSt} {R:Array Keyed→SortSt→Prop} (hk:kindOf st=κ) (oa: ∀x∈a.toList,ok x) (ob: ∀x∈b.toList,ok x) (sa:UpL key a.toList) (sb:UpL key b.toList) (ha:0 < a.size) (hb:0 < b.size)
 (h0: ∀y∈a.toList,key (b.getD 0 default)≤key y) (hl:key (b.getD (b.size - 1) default)≤key (a.getD (a.size - 1) default)) (k: ∀r st',MgF key a b r→Stt st st'→R r st'):WS prog w A E s (mhiT a b) R st:=by
 have ea: ∀i (h:i < a.size),a[i]?=some a[i]:=fun i h=>Array.getElem?_eq_getElem h
 have eb: ∀i (h:i < b.size),b[i]?=some b[i]:=fun i h=>Array.getElem?_eq_getElem h
 have oka: ∀i (h:i < a.size),ok a[i]:=fun i h=>oa _ (List.mem_of_getElem? (kay (ea i h)))
 have okb: ∀i (h:i < b.size),ok b[i]:=fun i h=>ob _ (List.mem_of_getElem? (kay (eb i h)))
 obtain ⟨NA,hNA⟩: ∃n,a.size=n + 1:=⟨a.size - 1,by lia⟩
 obtain ⟨NB,hNB⟩: ∃n,b.size=n + 1:=⟨b.size - 1,by lia⟩
 have m0:MhA key a b #[a[NA]] NA b.size:=by
  have:=Mh.pushA (key:=key) (P:=a.toList) (Q:=b.toList) (O:=[]) (i:=NA) (j:=NB) ⟨by rw [List.drop_of_length_le (by rw [Array.length_toList];lia),List.drop_of_length_le (by rw [Array.length_toList];lia)];exact List.Perm.refl _,List.Pairwise.nil,fun x q_ y hy=>(by cases hy),fun x q_ y hy=>(by cases hy)⟩ sa sb (kay (ea NA (by lia))) (kay (eb NB (by lia))) (by
   have e1:a.getD (a.size - 1) default=a[NA]:=by simp [hNA]
   have e2:b.getD (b.size - 1) default=b[NB]:=by simp [hNB]
   rwa [e1,e2] at hl)
  rw [hNB]
  exact this
 have eNA:a.size - 1=NA:=by lia
 unfold mhiT PySem.W.Fast.tw11371033205705349026
 rw [← PySem.W.Fast.te12456147031677567982,← PySem.W.Fast.te2398297429280069960,← PySem.W.Fast.te8050958516035322399,← PySem.W.Fast.te494991955013373658]
 refine wpS_bind (kep ?_)
 rw [eNA]
 refine wpS_bind (kcc (ea NA (by lia)) ?_)
 refine kam (fun c1=>wpS_pure (k _ _ (m0.eA sb (eq_of_beq c1)) ⟨rfl,rfl,rfl,rfl⟩)) fun c1=> ?_
 refine kam (fun c2=>wpS_pure (k _ _ (m0.fB sa sb hb h0 (eq_of_beq c2)) ⟨rfl,rfl,rfl,rfl⟩)) fun c2=> ?_
 have c1:NA≠0:=fun z=>c1 (beq_iff_eq.mpr z)
 have c2:b.size≠1:=fun z=>c2 (beq_iff_eq.mpr z)
 refine wpS_bind (wpS_get ?_)
 refine wpS_bind (wpS_forRange (fun j c st'=>∃out na nb mg,c=(none,na + 1,nb + 2,out,mg)∧MhA key a b out (na + 1) (nb + 2)∧na + 1≤a.size∧nb + 2≤b.size∧j + (na + 1) + (nb + 2)≤a.size + b.size∧Stt st st') ?_ ?_ ⟨_,NA - 1,NB - 1,_,by rw [show NA - 1 + 1=NA by lia,show NB - 1 + 2=b.size by lia],by rw [show NA - 1 + 1=NA by lia,show NB - 1 + 2=b.size by lia];exact m0,by lia,by lia,by lia,⟨rfl,rfl,rfl,rfl⟩⟩)
 · rintro i c st' _ hi ⟨out,na,nb,mg,rfl,m,i1,i2,ct,t⟩
   refine wpS_bind (wpS_mono (Q:=fun c st''=>Stt st st''∧((∃ r,c.1=some r∧MgF key a b r)∨(∃ na nb,c.1=none∧c.2.1=na + 1∧c.2.2.1=nb + 2∧MhA key a b c.2.2.2.1 (na + 1) (nb + 2)∧na + 1≤a.size∧nb + 2≤b.size∧i + 1 + (na + 1) + (nb + 2)≤a.size + b.size)))
    (wpS_forRange (fun j c st''=>∃out na nb ac bc,c=(none,na + 1,nb + 2,out,ac,bc)∧MhA key a b out (na + 1) (nb + 2)∧na + 1≤a.size∧nb + 2≤b.size∧i + j + (na + 1) + (nb + 2)≤a.size + b.size∧Stt st st'') ?_ ?_ ⟨_,_,_,_,_,rfl,m,i1,i2,by lia,t⟩) ?_)
   · rintro j c st' _ hj ⟨out,na,nb,ac,bc,rfl,m,i1,i2,ct,t⟩
     dsimp only
     rw [show nb + 2 - 1=nb + 1 by lia,show na + 1 - 1=na by lia]
     refine wpS_bind (kcc (eb (nb + 1) (by lia)) (wpS_bind (kcc (ea na (by lia)) (wpS_bind (L _ _ _ _ (okb (nb + 1) (by lia)) (oka na (by lia)) (t.1.trans hk) ?_)))))
     by_cases h:key b[nb + 1] < key a[na]
     · rw [decide_eq_true h]
       have m1:=m.pA sa sb (ea na (by lia)) (eb (nb + 1) (by lia)) (Int.le_of_lt h)
       refine kam (fun q_=>wpS_bind (kcc (ea na (by lia)) ?_)) (fun z=>absurd rfl z)
       refine kam (fun c=>wpS_pure ⟨t,.inl ⟨_,rfl,m1.eA sb (eq_of_beq c)⟩⟩) fun c=> ?_
       have c:na≠0:=fun z=>c (beq_iff_eq.mpr z)
       obtain ⟨na,rfl⟩: ∃n,na=n + 1:=⟨na - 1,by lia⟩
       exact kam (fun q_=>wpS_pure ⟨t,.inr ⟨na,nb,rfl,rfl,rfl,m1,by lia,by lia,by lia⟩⟩) fun q_=>wpS_pure ⟨_,na,nb,_,_,rfl,m1,by lia,by lia,by lia,t⟩
     · rw [decide_eq_false h]
       have m1:=m.pB sa sb (ea na (by lia)) (eb (nb + 1) (by lia)) (by lia)
       refine kam (fun z=>absurd z Bool.false_ne_true) (fun q_=>wpS_bind (kcc (eb (nb + 1) (by lia)) ?_))
       refine kam (fun c=>wpS_pure ⟨t,.inl ⟨_,rfl,m1.fB sa sb hb h0 (eq_of_beq c)⟩⟩) fun c=> ?_
       have c:nb + 1≠1:=fun z=>c (beq_iff_eq.mpr z)
       obtain ⟨nb,rfl⟩: ∃n,nb=n + 1:=⟨nb - 1,by lia⟩
       exact kam (fun q_=>wpS_pure ⟨t,.inr ⟨na,nb,rfl,rfl,rfl,m1,by lia,by lia,by lia⟩⟩) fun q_=>wpS_pure ⟨_,na,nb,_,_,rfl,m1,by lia,by lia,by lia,t⟩
   · rintro c st' ⟨out,ia,ib,ac,bc,rfl,m,i1,i2,ct,t⟩
     lia
   · rintro ⟨r1,na',nb',out,ac,bc⟩ st' ⟨t,⟨r,e,hr⟩ | ⟨na,nb,e,e1,e2,m,i1,i2,ct⟩⟩
     · cases e
       exact wpS_pure (wpS_pure (k _ _ hr t))
     cases e;cases e1;cases e2
     refine wpS_bind (kep ?_)
     refine wpS_bind (wpS_mono (Q:=fun c st''=>Stt st st''∧((∃ r,c.1=some r∧MgF key a b r)∨(∃ na nb,c.1=none∧c.2.1=na + 1∧c.2.2.1=nb + 2∧MhA key a b c.2.2.2.1 (na + 1) (nb + 2)∧na + 1≤a.size∧nb + 2≤b.size∧i + 1 + (na + 1) + (nb + 2)≤a.size + b.size)))
      (wpS_forRange (fun j c st''=>∃out na nb mg ac bc,c=(none,na + 1,nb + 2,out,mg,ac,bc)∧MhA key a b out (na + 1) (nb + 2)∧na + 1≤a.size∧nb + 2≤b.size∧i + 1 + j + (na + 1) + (nb + 2)≤a.size + b.size∧Stt st st'') ?_ ?_ ⟨_,_,_,_,_,_,rfl,m,i1,i2,by lia,t⟩) ?_)
     · rintro j c st' _ hj ⟨out,na,nb,mg,ac,bc,rfl,m,i1,i2,ct,t⟩
       dsimp only
       refine kam (fun q_=> ?_) (fun q_=> ?_)
       all_goals
        refine wpS_bind (kg7 fun st1 t1=> ?_)
        have tt:=t.trans t1
        simp only [show nb + 2 - 1=nb + 1 from rfl,show na + 1 - 1=na from rfl]
        refine wpS_bind (kcc (eb (nb + 1) (by lia)) ?_)
        refine wpS_bind (knq L (okb (nb + 1) (by lia)) (by lia) oa sa (tt.1.trans hk) (by lia) fun r r1 r2 r3=> ?_)
        have r2: ∀i (h:i < r),key (a[i]'(by lia))≤key b[nb + 1]:=fun i h=>r2 _ (List.mem_take_iff_getElem.mpr ⟨i,by rw [List.length_drop,Array.length_toList];lia,by simp⟩)
        have m1:=m.xA sa sb r1 (eb (nb + 1) (by lia)) fun z hz=>by
         rw [List.drop_take] at hz
         by_cases hr:r < na + 1
         · have h1:=r3 _ hr (by rw [Nat.zero_add];exact ea r (by lia))
           have h2:=kc9 sa (kay (ea r (by lia))) z (List.mem_of_mem_take hz)
           lia
         · rw [show na + 1 - r=0 by lia,List.take_zero] at hz
           cases hz
        dsimp only
        refine kam (fun r0=>kam (fun c=>wpS_pure ⟨tt,.inl ⟨_,rfl,m1.eA sb (eq_of_beq c)⟩⟩) fun c=> ?_) (fun r0=> ?_)
        have c:r≠0:=fun z=>c (beq_iff_eq.mpr z)
        obtain ⟨PA,rfl⟩: ∃n,r=n + 1:=⟨r - 1,by lia⟩
        have m2:=m1
        have x3:=r2 PA (by lia)
        rotate_left
        obtain rfl:r=na + 1:=by lia
        obtain ⟨PA,hPA⟩: ∃n,n=na:=⟨_,rfl⟩
        subst hPA
        have m2:=m
        have x3:=r2 PA (by lia)
        all_goals
         try simp only [show PA + 1 - 1=PA from rfl]
         refine wpS_bind (kcc (eb (nb + 1) (by lia)) ?_)
         have m3:=m2.pB sa sb (ea PA (by lia)) (eb (nb + 1) (by lia)) x3
         refine kam (fun c=>wpS_pure ⟨tt,.inl ⟨_,rfl,m3.fB sa sb hb h0 (eq_of_beq c)⟩⟩) fun c4=> ?_
         have c4:nb + 1≠1:=fun z=>c4 (beq_iff_eq.mpr z)
         refine wpS_bind (kcc (ea PA (by lia)) ?_)
         refine wpS_bind (knr L (oka PA (by lia)) (by lia) ob sb (tt.1.trans hk) (by lia) fun q q1 q2 q3=> ?_)
         have q2: ∀i (h:i < q),key (b[i]'(by lia)) < key a[PA]:=fun i h=>q2 _ (List.mem_take_iff_getElem.mpr ⟨i,by rw [List.length_drop,Array.length_toList];lia,by simp⟩)
         have m4:=m3.xB sa sb q1 (ea PA (by lia)) fun z hz=>by
          rw [List.drop_take] at hz
          by_cases hr:q < nb + 1
          · have h1:=q3 _ hr (by rw [Nat.zero_add];exact eb q (by lia))
            have h2:=kc9 sb (kay (eb q (by lia))) z (List.mem_of_mem_take hz)
            lia
          · rw [show nb + 1 - q=0 by lia,List.take_zero] at hz
            cases hz
         dsimp only
         refine kam (fun q0=>kam (fun c=>wpS_pure ⟨tt,.inl ⟨_,rfl,m4.fB sa sb hb h0 (eq_of_beq c)⟩⟩) fun c5=>kam (fun c=>wpS_pure ⟨tt,.inl ⟨_,rfl,m4.eB sa (eq_of_beq c)⟩⟩) fun c6=> ?_) (fun q0=> ?_)
         have c5:q≠1:=fun z=>c5 (beq_iff_eq.mpr z)
         have c6:q≠0:=fun z=>c6 (beq_iff_eq.mpr z)
         obtain ⟨PB,rfl⟩: ∃n,q=n + 2:=⟨q - 2,by lia⟩
         have m5:=m4
         have x5:=q2 (PB + 1) (by lia)
         rotate_left
         obtain rfl:q=nb + 1:=by lia
         obtain ⟨PB,rfl⟩: ∃n,nb=n + 1:=⟨nb - 1,by lia⟩
         have m5:=m3
         have x5:=q2 (PB + 1) (by lia)
         all_goals
          refine wpS_bind (kcc (ea PA (by lia)) ?_)
          have m6:=m5.pA sa sb (ea PA (by lia)) (eb (PB + 1) (by lia)) (Int.le_of_lt x5)
          refine kam (fun c=>wpS_pure ⟨tt,.inl ⟨_,rfl,m6.eA sb (eq_of_beq c)⟩⟩) fun c7=> ?_
          have c7:PA≠0:=fun z=>c7 (beq_iff_eq.mpr z)
          obtain ⟨PC,rfl⟩: ∃n,PA=n + 1:=⟨PA - 1,by lia⟩
          exact kam (fun q_=>wpS_pure ⟨tt,.inr ⟨PC,PB,rfl,rfl,rfl,m6,(by lia),(by lia),(by lia)⟩⟩) fun q_=>wpS_pure ⟨_,PC,PB,_,_,_,rfl,m6,by lia,by lia,by lia,tt⟩
     · rintro c st' ⟨out,ia,ib,mg,ac,bc,rfl,m,i1,i2,ct,t⟩
       lia
     · rintro ⟨r1,na',nb',out,mg,ac,bc⟩ st' ⟨t,⟨r,e,hr⟩ | ⟨na,nb,e,e1,e2,m,i1,i2,ct⟩⟩
       · cases e
         exact wpS_pure (wpS_pure (k _ _ hr t))
       cases e;cases e1;cases e2
       exact wpS_bind (kg7 fun st1 t1=>wpS_pure ⟨_,_,_,_,rfl,m,i1,i2,ct,t.trans t1⟩)
 · rintro c st' ⟨out,ia,ib,mg,rfl,m,i1,i2,ct,t⟩
   lia
end
end L2
set_option maxHeartbeats 4000000
namespace L2
open PySem PySem.Spec PySem.W PyProof.Rows
section
variable {prog:Program} {w:World} {A:Around} {E:Value→Shared→Prop} {s:Shared} {key:Keyed→Int} {κ:SortKind} {ok:Keyed→Prop}
theorem kgk {arr:Array Keyed} {T1 Al R:List Keyed} (e:arr.toList=T1++(Al++R)) {i:Nat} (h:i < Al.length):arr[T1.length + i]?=some Al[i]:=by
 rw [← Array.getElem?_toList,e,List.getElem?_append_right (by lia),Nat.add_sub_cancel_left,List.getElem?_append_left h,List.getElem?_eq_getElem h]
theorem kq6 {arr:Array Keyed} {T1 Al R:List Keyed} (e:arr.toList=T1++(Al++R)):T1.length + Al.length≤arr.size:=by
 have:=congrArg List.length e
 rw [Array.length_toList,List.length_append,List.length_append] at this
 lia
theorem kns (L:kid prog w A E s key κ ok) {left:Bool} {x:Keyed} {arr:Array Keyed} {T1 Al R:List Keyed} (e:arr.toList=T1++(Al++R)) {hint:Nat} {st:SortSt} {Q:Option Nat→SortSt→Prop} (hx:ok x) (oa: ∀z∈Al,ok z) (u:UpL key Al) (hk:kindOf st=κ) (hh:hint < Al.length)
 (k: ∀r,r≤Al.length→(∀ z∈Al.take r,(if left=true then decide (key z < key x) else !decide (key x < key z))=true)→(∀ z∈Al.drop r,(if left=true then decide (key z < key x) else !decide (key x < key z))=false)→Q (some r) st):WS prog w A E s (kyi left x arr T1.length Al.length hint) Q st:=by
 have g: ∀i (h:i < Al.length),arr.getD (T1.length + i) default=Al[i]:=fun i h=>by rw [Array.getD_eq_getD_getElem?,kgk e h];rfl
 have b: ∀i (h:i < Al.length),bey key left x arr T1.length i=if left=true then decide (key Al[i] < key x) else !decide (key x < key Al[i]):=fun i h=>by unfold bey;rw [g i h]
 refine knp L hx (kq6 e) (fun i p h1 h2 h3=> ?_) hk hh (fun i j hij hj h=> ?_) fun r h1 h2 h3=>k r h1 (fun z hz=> ?_) fun z hz=> ?_
 · have:=kgk e (i:=i - T1.length) (by omega)
   rw [show T1.length + (i - T1.length)=i by omega,h3] at this
   cases this
   exact oa _ (List.getElem_mem _)
 · rw [b j hj] at h
   rw [b i (by omega)]
   have hle:key (Al[i]'(by omega))≤key Al[j]:=by
    rcases Nat.lt_or_eq_of_le hij with q | q
    · exact List.pairwise_iff_getElem.mp u i j (by omega) hj q
    · subst q;exact Int.le_refl _
   cases left with
   | true=>
     rw [if_pos rfl,decide_eq_true_eq] at h ⊢
     omega
   | false=>
     rw [if_neg Bool.false_ne_true,Bool.not_eq_true',decide_eq_false_iff_not] at h ⊢
     omega
 · obtain ⟨i,hi,e⟩:=List.mem_take_iff_getElem.mp hz
   rw [← e,← b i (by omega)]
   exact h2 i (by omega)
 · obtain ⟨i,hi,e⟩:=List.mem_drop_iff_getElem.mp hz
   rw [← e,← b _ (by omega)]
   exact h3 _ (by omega) (by omega)
theorem knt (s0:Nat): ∀(l:List Keyed) (k:Nat) (arr:Array Keyed) (i:Nat),((l.zipIdx k).foldl (fun (a:Array Keyed) x=>a.setIfInBounds (s0 + x.2) x.1) arr)[i]?=if s0 + k≤i∧i < s0 + k + l.length∧i < arr.size then l[i - (s0 + k)]? else arr[i]?
 | [],k,arr,i=>by
   rw [if_neg (by rintro ⟨h1,h2,_⟩;simp at h2;lia)]
   rfl
 | x::l,k,arr,i=>by
   rw [List.zipIdx_cons,List.foldl_cons,knt s0 l (k + 1) (arr.setIfInBounds (s0 + k) x) i,Array.size_setIfInBounds,List.length_cons]
   by_cases h:i < arr.size
   · by_cases h1:s0 + k=i
     · subst h1
       rw [if_neg (by lia),if_pos ⟨Nat.le_refl _,by lia,h⟩,Nat.sub_self,List.getElem?_cons_zero]
       simp [h]
     · by_cases h2:s0 + k≤i∧i < s0 + k + (l.length + 1)
       · rw [if_pos ⟨by lia,by lia,h⟩,if_pos ⟨h2.1,h2.2,h⟩,show i - (s0 + k)=(i - (s0 + (k + 1))) + 1 by lia,List.getElem?_cons_succ]
       · rw [if_neg (by lia),if_neg (by lia),Array.getElem?_setIfInBounds_ne (by lia)]
   · rw [if_neg (by lia),if_neg (by lia),Array.getElem?_eq_none (by rw [Array.size_setIfInBounds];lia),Array.getElem?_eq_none (by lia)]
theorem knu {arr:Array Keyed} {T1 X T2 M:List Keyed} (e:arr.toList=T1++(X++T2)) (h:M.length=X.length):((M.zipIdx).foldl (fun (a:Array Keyed) x=>a.setIfInBounds (T1.length + x.2) x.1) arr).toList=T1++(M++T2):=by
 have sz:=congrArg List.length e
 rw [Array.length_toList,List.length_append,List.length_append] at sz
 apply List.ext_getElem?
 intro i
 rw [Array.getElem?_toList,knt,Nat.add_zero]
 have ea:arr[i]?=(T1++(X++T2))[i]?:=by rw [← e,Array.getElem?_toList]
 by_cases h1:T1.length≤i
 · rw [List.getElem?_append_right h1]
   by_cases h2:i < T1.length + M.length
   · rw [if_pos ⟨h1,h2,by lia⟩,List.getElem?_append_left (by lia)]
   · rw [if_neg (by lia),ea,List.getElem?_append_right h1,List.getElem?_append_right (by lia),List.getElem?_append_right (by lia),h]
 · rw [if_neg (by lia),ea,List.getElem?_append_left (by lia),List.getElem?_append_left (by lia)]
end
end L2
set_option maxHeartbeats 4000000
namespace L2
open PySem PySem.Spec PySem.W PyProof.Rows
section
variable {prog:Program} {w:World} {A:Around} {E:Value→Shared→Prop} {s:Shared} {key:Keyed→Int} {κ:SortKind} {ok:Keyed→Prop}
theorem kyo {st st':SortSt} {Q:PUnit→SortSt→Prop} (h:Q ⟨⟩ st'):WS prog w A E s (set st') Q st:=wpAny_pure ⟨rfl,h⟩
theorem ks8 {arr:Array Keyed} {T1 X R:List Keyed} (e:arr.toList=T1++(X++R)) {n:Nat} (hn:n=T1.length + X.length):(arr.extract T1.length n).toList=X:=by
 subst hn
 rw [ki6,e,List.drop_left,List.take_left]
theorem kyp (L:kid prog w A E s key κ ok) {st:SortSt} {i:Nat} {T1 Al Bl T2:List Keyed} {pa pb:Nat} {Q:Bool→SortSt→Prop} (e:(arrOf st).toList=T1++(Al++(Bl++T2))) (ha:0 < Al.length) (hb:0 < Bl.length) (oa: ∀z∈Al,ok z) (ob: ∀z∈Bl,ok z) (ua:UpL key Al) (ub:UpL key Bl) (hk:kindOf st=κ) (hf:failedOf st=none)
 (p1:(pendingOf st)[i]?=some (T1.length,Al.length,pa)) (p2:(pendingOf st)[i + 1]?=some (T1.length + Al.length,Bl.length,pb))
 (k: ∀(st':SortSt) (M:List Keyed),kindOf st'=κ→failedOf st'=none→pendingOf st'=((pendingOf st).setIfInBounds i (T1.length,Al.length + Bl.length,pa)).eraseIdxIfInBounds (i + 1)→(arrOf st').toList=T1++(M++T2)→M.Perm (Al++Bl)→UpL key M→Q true st'):WS prog w A E s (matT i) Q st:=by
 have e2:(arrOf st).toList=(T1++Al)++(Bl++T2):=by rw [e,List.append_assoc]
 have l2:(T1++Al).length=T1.length + Al.length:=List.length_append
 have b0:=kgk e2 hb
 rw [l2,Nat.add_zero] at b0
 unfold matT PySem.W.Fast.tw6096456617080501612
 rw [← PySem.W.Fast.te12456147031677567982,← PySem.W.Fast.te8050958516035322399]
 refine wpS_bind (wpS_get ?_)
 unfold PyProof.Rows.pendingOf at p1 p2
 rw [p1,p2]
 refine wpS_bind (kyo ?_)
 refine wpS_bind (kcc b0 ?_)
 refine wpS_bind (kns L e (ob _ (List.getElem_mem _)) oa ua hk ha fun r r1 r2 r3=> ?_)
 have r2: ∀z∈Al.take r,key z≤key Bl[0]:=fun z hz=>by
  have:=r2 z hz
  rw [if_neg Bool.false_ne_true,Bool.not_eq_true',decide_eq_false_iff_not] at this
  lia
 have r3: ∀z∈Al.drop r,key Bl[0] < key z:=fun z hz=>by
  have:=r3 z hz
  rwa [if_neg Bool.false_ne_true,Bool.not_eq_false',decide_eq_true_eq] at this
 have eb0:Bl[0]?=some Bl[0]:=List.getElem?_eq_getElem hb
 have hb0: ∀z∈Bl,key Bl[0]≤key z:=fun z hz=>kc9 ub eb0 z (by rw [List.drop_zero];exact hz)
 have eal:Al[Al.length - 1]?=some (Al[Al.length - 1]'(by lia)):=List.getElem?_eq_getElem (by lia)
 have hal: ∀z∈Al,key z≤key (Al[Al.length - 1]'(by lia)):=fun z hz=>kfx ua eal z (by rw [show Al.length - 1 + 1=Al.length by lia,List.take_length];exact hz)
 have e':(arrOf st).toList=T1++((Al++Bl)++T2):=by rw [e,List.append_assoc]
 dsimp (zeta:=false) only
 refine kam (fun c=>wpS_pure (k _ (Al++Bl) hk hf rfl e' (List.Perm.refl _) (List.pairwise_append.mpr ⟨ua,ub,fun z hz u hu=> ?_⟩))) fun c=> ?_
 · have c:Al.length - r=0:=eq_of_beq c
   rw [List.take_of_length_le (by lia)] at r2
   exact Int.le_trans (r2 z hz) (hb0 u hu)
 have c:Al.length - r≠0:=fun z=>c (beq_iff_eq.mpr z)
 have al:=kgk e (i:=Al.length - 1) (by lia)
 rw [show T1.length + (Al.length - 1)=T1.length + r + (Al.length - r) - 1 by lia] at al
 refine wpS_bind (kcc al ?_)
 rw [← l2]
 refine wpS_bind (kns L e2 (oa _ (List.getElem_mem _)) ob ub hk (by lia) fun q q1 q2 q3=> ?_)
 rw [l2]
 have q2: ∀z∈Bl.take q,key z < key (Al[Al.length - 1]'(by lia)):=fun z hz=>by
  have:=q2 z hz
  rwa [if_pos rfl,decide_eq_true_eq] at this
 have q3: ∀z∈Bl.drop q,key (Al[Al.length - 1]'(by lia))≤key z:=fun z hz=>by
  have:=q3 z hz
  rw [if_pos rfl,decide_eq_false_iff_not] at this
  lia
 dsimp (zeta:=false) only
 refine kam (fun c=>wpS_pure (k _ (Al++Bl) hk hf rfl e' (List.Perm.refl _) (List.pairwise_append.mpr ⟨ua,ub,fun z hz u hu=> ?_⟩))) fun c'=> ?_
 · have c:q=0:=eq_of_beq c
   subst c
   exact Int.le_trans (hal z hz) (q3 u (by rw [List.drop_zero];exact hu))
 have c':q≠0:=fun z=>c' (beq_iff_eq.mpr z)
 have sA:Al=Al.take r++Al.drop r:=(List.take_append_drop r Al).symm
 have sB:Bl=Bl.take q++Bl.drop q:=(List.take_append_drop q Bl).symm
 have lA:(T1++Al.take r).length=T1.length + r:=by rw [List.length_append,List.length_take];lia
 have lX:(Al.drop r).length=Al.length - r:=List.length_drop
 have lY:(Bl.take q).length=q:=by rw [List.length_take];lia
 have eX:(arrOf st).toList=(T1++Al.take r)++(Al.drop r++(Bl++T2)):=by
  rw [e]
  conv=>lhs;rw [sA]
  simp only [List.append_assoc]
 have eY:(arrOf st).toList=(T1++Al)++(Bl.take q++(Bl.drop q++T2)):=by
  rw [e2]
  conv=>lhs;rw [sB]
  simp only [List.append_assoc]
 have eM:(arrOf st).toList=(T1++Al.take r)++((Al.drop r++Bl.take q)++(Bl.drop q++T2)):=by
  rw [eX]
  conv=>lhs;rw [sB]
  simp only [List.append_assoc]
 obtain ⟨x,hx⟩: ∃x,x=(arrOf st).extract (T1.length + r) (T1.length + Al.length):=⟨_,rfl⟩
 obtain ⟨y,hy⟩: ∃y,y=(arrOf st).extract (T1.length + Al.length) (T1.length + Al.length + q):=⟨_,rfl⟩
 have tx:x.toList=Al.drop r:=by rw [hx,← lA];exact ks8 eX (by rw [lA,lX];lia)
 have ty:y.toList=Bl.take q:=by rw [hy,← l2];exact ks8 eY (by rw [lY])
 have zx:x.size=Al.length - r:=by rw [← Array.length_toList,tx,lX]
 have zy:y.size=q:=by rw [← Array.length_toList,ty,lY]
 have y0:y.getD 0 default=Bl[0]:=by
  rw [Array.getD_eq_getD_getElem?,← Array.getElem?_toList,ty,List.getElem?_take,if_pos (by lia),eb0];rfl
 have xl:x.getD (x.size - 1) default=Al[Al.length - 1]'(by lia):=by
  rw [Array.getD_eq_getD_getElem?,← Array.getElem?_toList,tx,List.getElem?_drop,show r + (x.size - 1)=Al.length - 1 by lia,eal];rfl
 have gm: ∀(a:Array Keyed) (i:Nat),i < a.size→a.getD i default∈a.toList:=fun a i h=>by
  rw [Array.getD_eq_getD_getElem?,Array.getElem?_eq_getElem h]
  exact List.mem_of_getElem? (kay (Array.getElem?_eq_getElem h))
 have fin: ∀(r':Array Keyed) (st':SortSt),MgF key x y r'→Stt (SortSt.mk' (kindOf st) (arrOf st) (((pendingOf st).setIfInBounds i (T1.length,Al.length + Bl.length,pa)).eraseIdxIfInBounds (i + 1)) (gallopOf st) (failedOf st)) st'→
  WS prog w A E s (modify fun s=>setArr s (R.foldlR (fun (a:Array Keyed) x=>a.setIfInBounds (T1.length + r + x.2) x.1) (arrOf s) r'.toList.zipIdx)) (fun q_ st2=>WS prog w A E s (get >>= fun s=>pure (failedOf s).isNone) Q st2) st':=fun r' st' hm ht=>by
  obtain ⟨t1,t2,t3,t4⟩:=ht
  obtain ⟨pm,um⟩:=hm
  rw [tx,ty] at pm
  refine wpS_modify (wpS_bind (wpS_get (wpS_pure ?_)))
  have ef:failedOf st'=none:=t4.trans hf
  show Q (failedOf st').isNone _
  rw [ef]
  have mem: ∀z,z∈r'.toList→z∈Al.drop r∨z∈Bl.take q:=fun z hz=>List.mem_append.mp (pm.mem_iff.mp hz)
  have uA:=ua
  unfold UpL at uA
  rw [sA,List.pairwise_append] at uA
  have uB:=ub
  unfold UpL at uB
  rw [sB,List.pairwise_append] at uB
  refine k _ (Al.take r++(r'.toList++Bl.drop q)) (t1.trans hk) ef t3 ?_ ?_ ?_
  · show (R.foldlR _ (arrOf st') r'.toList.zipIdx).toList=_
    rw [← PySem.W.R.foldlR_eq,show arrOf st'=arrOf st from t2,← lA,knu eM (by rw [pm.length_eq])]
    simp only [List.append_assoc]
  · have h1:=(pm.append_right (Bl.drop q)).append_left (Al.take r)
    have h2:Al.take r++((Al.drop r++Bl.take q)++Bl.drop q)=Al++Bl:=by
     conv=>rhs;rw [sA,sB]
     simp only [List.append_assoc]
    rwa [h2] at h1
  · refine List.pairwise_append.mpr ⟨uA.1,List.pairwise_append.mpr ⟨um,uB.2.1,fun z hz u hu=> ?_⟩,fun z hz u hu=> ?_⟩
    · rcases mem z hz with hz | hz
      · exact Int.le_trans (hal z (List.mem_of_mem_drop hz)) (q3 u hu)
      · exact uB.2.2 z hz u hu
    · rcases List.mem_append.mp hu with hu | hu
      · rcases mem u hu with hu | hu
        · exact uA.2.2 z hz u hu
        · exact Int.le_trans (r2 z hz) (hb0 u (List.mem_of_mem_take hu))
      · exact Int.le_trans (r2 z hz) (hb0 u (List.mem_of_mem_drop hu))
 have ox: ∀z∈x.toList,ok z:=fun z hz=>oa z (List.mem_of_mem_drop (by rw [tx] at hz;exact hz))
 have oy: ∀z∈y.toList,ok z:=fun z hz=>ob z (List.mem_of_mem_take (by rw [ty] at hz;exact hz))
 have ux:UpL key x.toList:=by rw [tx];exact ua.sublist (List.drop_sublist _ _)
 have uy:UpL key y.toList:=by rw [ty];exact ub.sublist (List.take_sublist _ _)
 refine kam (fun q_=>wpS_bind ?_) (fun q_=>wpS_bind ?_)
 · have:=kym (s:=s) (R:=fun r' st'=>WS prog w A E s ((modify fun s=>setArr s (R.foldlR (fun (a:Array Keyed) x=>a.setIfInBounds (T1.length + r + x.2) x.1) (arrOf s) r'.toList.zipIdx)) >>= fun q_=>get >>= fun s=>pure (failedOf s).isNone) Q st') L (st:=(SortSt.mk' (kindOf st) (arrOf st) (((pendingOf st).setIfInBounds i (T1.length,Al.length + Bl.length,pa)).eraseIdxIfInBounds (i + 1)) (gallopOf st) (failedOf st))) (a:=x) (b:=y) hk ox oy ux uy (by lia) (by lia)
    (by rw [y0];exact Int.le_of_lt (r3 _ (by rw [← tx];exact gm x 0 (by lia)))) (fun z hz=>by rw [xl];exact Int.le_of_lt (q2 z (by rw [← ty];exact hz))) fun r' st' hm ht=>wpS_bind (fin r' st' hm ht)
   rw [hx,hy] at this
   exact this
 · have:=kyn (s:=s) (R:=fun r' st'=>WS prog w A E s ((modify fun s=>setArr s (R.foldlR (fun (a:Array Keyed) x=>a.setIfInBounds (T1.length + r + x.2) x.1) (arrOf s) r'.toList.zipIdx)) >>= fun q_=>get >>= fun s=>pure (failedOf s).isNone) Q st') L (st:=(SortSt.mk' (kindOf st) (arrOf st) (((pendingOf st).setIfInBounds i (T1.length,Al.length + Bl.length,pa)).eraseIdxIfInBounds (i + 1)) (gallopOf st) (failedOf st))) (a:=x) (b:=y) hk ox oy ux uy (by lia) (by lia)
    (fun z hz=>by rw [y0];exact Int.le_of_lt (r3 _ (by rw [← tx];exact hz))) (by rw [xl];exact Int.le_of_lt (q2 _ (by rw [← ty];exact gm y _ (by lia)))) fun r' st' hm ht=>wpS_bind (fin r' st' hm ht)
   rw [hx,hy] at this
   exact this
end
end L2
set_option maxHeartbeats 4000000
namespace L2
open PySem PySem.Spec PySem.W PyProof.Rows
section
theorem kq7 {arr:Array Keyed} {T P R:List Keyed} {x:Keyed} (e:arr.toList=T++(P++(x::R))) {d:Nat} (hd:d≤P.length):(bubble arr (T.length + P.length) d).toList=T++(P.take (P.length - d)++(x::(P.drop (P.length - d)++R))):=by
 have sz:=congrArg List.length e
 simp only [Array.length_toList,List.length_append,List.length_cons] at sz
 have at_: ∀i,arr[i]?=(T++(P++(x::R)))[i]?:=fun i=>by rw [← e,Array.getElem?_toList]
 apply List.ext_getElem?
 intro i
 rw [Array.getElem?_toList,getElem?_bubble (by lia) d (by lia)]
 have lt:(P.take (P.length - d)).length=P.length - d:=by rw [List.length_take];lia
 have ld:(P.drop (P.length - d)).length=d:=by rw [List.length_drop];lia
 by_cases h1:i < T.length
 · rw [if_neg (by lia),if_neg (by lia),at_,List.getElem?_append_left h1,List.getElem?_append_left h1]
 have h1:T.length≤i:=by lia
 rw [List.getElem?_append_right (l₁:=T) h1]
 by_cases h2:i=T.length + P.length - d
 · rw [if_pos h2,at_,List.getElem?_append_right (by lia),List.getElem?_append_right (by lia),List.getElem?_append_right (by lia),lt,show T.length + P.length - T.length - P.length=0 by lia,show i - T.length - (P.length - d)=0 by lia]
   rfl
 rw [if_neg h2]
 by_cases h3:T.length + P.length - d < i∧i≤T.length + P.length
 · rw [if_pos h3,at_,List.getElem?_append_right (by lia),List.getElem?_append_left (by lia),List.getElem?_append_right (by lia),lt]
   obtain ⟨k,hk⟩: ∃k,i - T.length - (P.length - d)=k + 1:=⟨i - T.length - (P.length - d) - 1,by lia⟩
   rw [hk,List.getElem?_cons_succ,List.getElem?_append_left (by lia),List.getElem?_drop,show P.length - d + k=i - 1 - T.length by lia]
 · rw [if_neg h3,at_,List.getElem?_append_right (by lia)]
   by_cases h4:i - T.length < P.length - d
   · rw [List.getElem?_append_left (by lia),List.getElem?_append_left (by lia),List.getElem?_take,if_pos h4]
   · rw [List.getElem?_append_right (by lia),List.getElem?_append_right (by lia),lt]
     obtain ⟨k,hk⟩: ∃k,i - T.length - P.length=k + 1:=⟨i - T.length - P.length - 1,by lia⟩
     rw [hk,show i - T.length - (P.length - d)=(k + d) + 1 by lia,List.getElem?_cons_succ,List.getElem?_cons_succ,List.getElem?_append_right (by lia),ld,Nat.add_sub_cancel]
theorem kq8 {arr:Array Keyed} {T S R:List Keyed} (e:arr.toList=T++(S++R)) {j:Nat} (hj:j=T.length + S.length):(mirror arr T.length j ((j - T.length) / 2)).toList=T++(S.reverse++R):=by
 subst hj
 have sz:=congrArg List.length e
 simp only [Array.length_toList,List.length_append] at sz
 have at_: ∀i,arr[i]?=(T++(S++R))[i]?:=fun i=>by rw [← e,Array.getElem?_toList]
 apply List.ext_getElem?
 intro i
 rw [Array.getElem?_toList,getElem?_mirror_all (by lia)]
 by_cases h1:i < T.length
 · rw [if_neg (by lia),at_,List.getElem?_append_left h1,List.getElem?_append_left h1]
 rw [List.getElem?_append_right (l₁:=T) (by lia)]
 by_cases h2:i < T.length + S.length
 · rw [if_pos ⟨by lia,h2⟩,at_,List.getElem?_append_right (by lia),List.getElem?_append_left (by lia),List.getElem?_append_left (by rw [List.length_reverse];lia),List.getElem?_reverse (by lia),show T.length + (T.length + S.length) - 1 - i - T.length=S.length - 1 - (i - T.length) by lia]
 · rw [if_neg (by lia),at_,List.getElem?_append_right (by lia),List.getElem?_append_right (by lia),List.getElem?_append_right (by rw [List.length_reverse];lia),List.length_reverse]
end
section
variable {prog:Program} {w:World} {A:Around} {E:Value→Shared→Prop} {s:Shared} {key:Keyed→Int} {κ:SortKind} {ok:Keyed→Prop}
structure Pc (κ:SortKind) (st:SortSt) (T1 T2 S0:List Keyed) (st':SortSt) (S:List Keyed):Prop where
 kd:kindOf st'=κ
 fl:failedOf st'=none
 pd:pendingOf st'=pendingOf st
 ar:(arrOf st').toList=T1++(S++T2)
 pm:S.Perm S0
theorem kyq (L:kid prog w A E s key κ ok) {st st':SortSt} {T1 T2 S0 S:List Keyed} (h:Pc κ st T1 T2 S0 st' S) (o: ∀z∈S0,ok z) {i j a b:Nat} {Q:Option Bool→SortSt→Prop} (hi:i < S.length) (hj:j < S.length) (ea:a=T1.length + i) (eb:b=T1.length + j) (k:Q (some (decide (key S[i] < key S[j]))) st'):WS prog w A E s (ltAt' a b) Q st':=by
 subst ea eb
 rw [ltAt'_eq,kyk,kyl]
 have os: ∀i (h:i < S.length),ok S[i]:=fun i hi=>o _ (h.pm.mem_iff.mp (List.getElem_mem _))
 exact wpS_bind (wpS_get (wpS_bind (kcc (kgk h.ar hi) (wpS_bind (kcc (kgk h.ar hj) (L _ _ _ _ (os i hi) (os j hj) h.kd k))))))
theorem kq9 (L:kid prog w A E s key κ ok) {st st0:SortSt} {T1 T2 S0 S:List Keyed} (h:Pc κ st T1 T2 S0 st0 S) (o: ∀z∈S0,ok z) {m n:Nat} {Q:Bool→SortSt→Prop} (hm:1≤m) (hmn:m≤n) (hn:n=S.length) (up:UpL key (S.take m)) (k: ∀st' S',Pc κ st T1 T2 S0 st' S'→UpL key S'→Q true st'):WS prog w A E s (binarySort' T1.length n m) Q st0:=by
 have l0:S0.length=n:=by rw [hn,h.pm.length_eq]
 rw [binarySort'_eq,show max m 1=m by lia]
 refine wpS_bind (wpS_mono (Q:=fun c st'=>c.1=none∧∃S',Pc κ st T1 T2 S0 st' S'∧UpL key S') (wpS_forRange (fun j c st'=>c=(none,())∧∃S',Pc κ st T1 T2 S0 st' S'∧UpL key (S'.take j)) ?_ ?_ ⟨rfl,S,h,up⟩) ?_)
 · rintro i c st' hi1 hi2 ⟨rfl,S',h',up'⟩
   have lS:S'.length=n:=by rw [h'.pm.length_eq,l0]
   have hiS:i < S'.length:=by lia
   have sI:S'=S'.take i++(S'[i]::S'.drop (i + 1)):=by rw [← List.drop_eq_getElem_cons hiS,List.take_append_drop]
   have lT:(S'.take i).length=i:=by rw [List.length_take];lia
   refine wpS_bind (wpS_mono (Q:=fun c st2=>st2=st'∧c.1=none∧c.2.1≤i∧(∀ z∈S'.take c.2.1,key z≤key S'[i])∧(∀ z∈(S'.take i).drop c.2.1,key S'[i]≤key z)) (wpS_forRange (fun j c st2=>st2=st'∧∃l r,c=(none,l,r)∧l≤r∧r≤i∧(∀ z∈S'.take l,key z≤key S'[i])∧(∀ z∈(S'.take i).drop r,key S'[i]≤key z)∧r - l≤i - j) ?_ ?_ ⟨rfl,0,i,rfl,Nat.zero_le _,Nat.le_refl _,fun z hz=>(by cases hz),fun z hz=>(by rw [List.drop_of_length_le (by lia)] at hz;cases hz),by lia⟩) ?_)
   · rintro j c st2 _ hj ⟨rfl,l,r,rfl,hlr,hri,b1,b2,hm'⟩
     dsimp only
     refine kam (fun c=>wpS_pure ?_) fun c=> ?_
     · have:l=r:=by lia
       subst this
       exact ⟨rfl,rfl,hri,b1,b2⟩
     have hM:(l + r) / 2 < i:=by lia
     refine wpS_bind (kyq L h' o (i:=i) (j:=(l + r) / 2) hiS (by lia) rfl rfl ?_)
     have tk: ∀z,z∈S'.take ((l + r) / 2 + 1)→key z≤key (S'[(l + r) / 2]'(by lia)):=fun z hz=>by
      have e1:S'.take ((l + r) / 2 + 1)=(S'.take i).take ((l + r) / 2 + 1):=by rw [List.take_take,Nat.min_eq_left (by lia)]
      rw [e1] at hz
      exact kfx up' (by rw [List.getElem?_take,if_pos hM,List.getElem?_eq_getElem (by lia)]) z hz
     have dk: ∀z,z∈(S'.take i).drop ((l + r) / 2)→key (S'[(l + r) / 2]'(by lia))≤key z:=fun z hz=>kc9 up' (by rw [List.getElem?_take,if_pos hM,List.getElem?_eq_getElem (by lia)]) z hz
     by_cases hlt:key S'[i] < key (S'[(l + r) / 2]'(by lia))
     · rw [decide_eq_true hlt]
       exact kam (fun q_=>wpS_pure ⟨rfl,l,(l + r) / 2,rfl,by lia,by lia,b1,fun z hz=>Int.le_trans (Int.le_of_lt hlt) (dk z hz),by lia⟩) fun z=>absurd rfl z
     · rw [decide_eq_false hlt]
       exact kam (fun z=>absurd z Bool.false_ne_true) fun q_=>wpS_pure ⟨rfl,(l + r) / 2 + 1,r,rfl,by lia,hri,fun z hz=>by have:=tk z hz;lia,b2,by lia⟩
   · rintro c st2 ⟨rfl,l,r,rfl,hlr,hri,b1,b2,hm'⟩
     have:l=r:=by lia
     subst this
     exact ⟨rfl,rfl,hri,b1,b2⟩
   · rintro ⟨r0,l,r⟩ st2 ⟨rfl,e0,hl,b1,b2⟩
     cases e0
     dsimp only at hl b1 b2 ⊢
     rw [moveDown'_eq]
     refine wpS_bind (wpS_modify (wpS_pure ⟨rfl,S'.take l++(S'[i]::((S'.take i).drop l++S'.drop (i + 1))),⟨h'.kd,h'.fl,h'.pd,?_,?_⟩,?_⟩))
     · have e1:(arrOf st2).toList=T1++(S'.take i++(S'[i]::(S'.drop (i + 1)++T2))):=by
        rw [h'.ar]
        conv=>lhs;rw [sI]
        simp only [List.append_assoc,List.cons_append]
       have:=kq7 e1 (d:=i - l) (by lia)
       rw [lT,show i - (i - l)=l by lia,List.take_take,Nat.min_eq_left hl] at this
       show (bubble (arrOf st2) (T1.length + i) (T1.length + i - (T1.length + l))).toList=_
       rw [show T1.length + i - (T1.length + l)=i - l by lia,this]
       simp only [List.append_assoc,List.cons_append]
     · refine List.Perm.trans ?_ h'.pm
       conv=>rhs;rw [sI]
       have e2:S'.take i=S'.take l++(S'.take i).drop l:=by
        conv=>lhs;rw [← List.take_append_drop l (S'.take i)]
        rw [List.take_take,Nat.min_eq_left hl]
       conv=>rhs;rw [e2]
       rw [List.append_assoc]
       refine List.Perm.append_left _ ?_
       exact (List.perm_middle).symm
     · have e3:(S'.take l++(S'[i]::((S'.take i).drop l++S'.drop (i + 1)))).take (i + 1)=S'.take l++(S'[i]::(S'.take i).drop l):=by
        have:S'.take l++(S'[i]::((S'.take i).drop l++S'.drop (i + 1)))=(S'.take l++(S'[i]::(S'.take i).drop l))++S'.drop (i + 1):=by simp
        rw [this,List.take_left' (by simp only [List.length_append,List.length_cons,List.length_take,List.length_drop];lia)]
       rw [e3]
       have e2:S'.take i=S'.take l++(S'.take i).drop l:=by
        conv=>lhs;rw [← List.take_append_drop l (S'.take i)]
        rw [List.take_take,Nat.min_eq_left hl]
       have u2:=up'
       unfold UpL at u2
       rw [e2,List.pairwise_append] at u2
       refine List.pairwise_append.mpr ⟨u2.1,List.pairwise_cons.mpr ⟨fun z hz=>b2 z hz,u2.2.1⟩,fun z hz u hu=> ?_⟩
       rcases List.mem_cons.mp hu with rfl | hu
       · exact b1 z hz
       · exact u2.2.2 z hz u hu
 · rintro c st' ⟨rfl,S',h',up'⟩
   rw [List.take_of_length_le (by rw [h'.pm.length_eq];lia)] at up'
   exact ⟨rfl,S',h',up'⟩
 · rintro ⟨r0,_⟩ st' ⟨e0,S',h',up'⟩
   cases e0
   exact wpS_pure (k st' S' h' up')
end
end L2
set_option maxHeartbeats 4000000
namespace L2
open PySem PySem.Spec PySem.W PyProof.Rows
section
variable {prog:Program} {w:World} {A:Around} {E:Value→Shared→Prop} {s:Shared} {key:Keyed→Int} {κ:SortKind} {ok:Keyed→Prop}
theorem kkh (L:kid prog w A E s key κ ok) {st st':SortSt} {T1 T2 S0 S:List Keyed} (h:Pc κ st T1 T2 S0 st' S) (o: ∀z∈S0,ok z) {i j a b:Nat} {x y:Keyed} {Q:Option Bool→SortSt→Prop} (hx:S[i]?=some x) (hy:S[j]?=some y) (ea:a=T1.length + i) (eb:b=T1.length + j) (k:Q (some (decide (key x < key y))) st'):WS prog w A E s (ltAt' a b) Q st':=by
 obtain ⟨hi,ex⟩:=List.getElem?_eq_some_iff.mp hx
 obtain ⟨hj,ey⟩:=List.getElem?_eq_some_iff.mp hy
 exact kyq L h o hi hj ea eb (by rw [ex,ey];exact k)
theorem kki {st st':SortSt} {T1 T2 S0 U V W:List Keyed} (h:Pc κ st T1 T2 S0 st' (U++(V++W))) {i j:Nat} {Q:Unit→SortSt→Prop} (ei:i=T1.length + U.length) (ej:j=T1.length + U.length + V.length) (k: ∀st'',Pc κ st T1 T2 S0 st'' (U++(V.reverse++W))→Q () st''):WS prog w A E s (reverseSlice' i j) Q st':=by
 refine wpS_reverse (k _ ⟨h.kd,h.fl,h.pd,?_,?_⟩)
 · have e:(arrOf st').toList=(T1++U)++(V++(W++T2)):=by rw [h.ar];simp only [List.append_assoc]
   have:=kq8 e (j:=j) (by rw [ej,List.length_append])
   rw [List.length_append,← ei] at this
   show (mirror (arrOf st') i j ((j - i) / 2)).toList=_
   rw [this]
   simp only [List.append_assoc]
 · refine List.Perm.trans ?_ h.pm
   exact ((List.reverse_perm V).append_right W).append_left U
noncomputable def DnL (key:Keyed→Int) (l:List Keyed):Prop:=l.Pairwise fun x y=>key y≤key x
theorem kg8 {D:List Keyed} {x y:Keyed} (u:UpL key (D++[y])) (h:key y≤key x):UpL key ((D++[y])++[x]):=by
 refine List.pairwise_append.mpr ⟨u,List.pairwise_singleton _ _,fun z hz v hv=> ?_⟩
 rw [List.mem_singleton.mp hv]
 rcases List.mem_append.mp hz with hz | hz
 · exact Int.le_trans ((List.pairwise_append.mp u).2.2 z hz y (List.mem_singleton.mpr rfl)) h
 · rw [List.mem_singleton.mp hz];exact h
theorem kyr {D:List Keyed} (u:DnL key D):UpL key D.reverse:=List.pairwise_reverse.mpr u
theorem ki7 {D:List Keyed} (h:0 < D.length): ∃D' y,D=D'++[y]:=by
 rcases List.eq_nil_or_concat D with rfl | ⟨D',y,e⟩
 · cases h
 · exact ⟨D',y,by rw [e,List.concat_eq_append]⟩
theorem knv {D W:List Keyed} {x y:Keyed}:((D++[y])++(x::W))[(D++[y]).length]?=some x∧((D++[y])++(x::W))[D.length]?=some y:=by
 constructor
 · rw [List.getElem?_append_right (Nat.le_refl _),Nat.sub_self];rfl
 · rw [List.append_assoc,List.getElem?_append_right (Nat.le_refl _),Nat.sub_self];rfl
noncomputable def kys (key:Keyed→Int) (V:List Keyed):Prop:=∀x∈V,∀y∈V,key x=key y
theorem knw {U V:List Keyed} (d:DnL key (U++V)) (o:kys key V):DnL key (U++V.reverse):=by
 have h:=List.pairwise_append.mp d
 refine List.pairwise_append.mpr ⟨h.1,?_,fun x hx y hy=>h.2.2 x hx y (List.mem_reverse.mp hy)⟩
 exact List.pairwise_iff_getElem.mpr fun i j hi hj q_=>Int.le_of_eq (o _ (List.mem_reverse.mp (List.getElem_mem hj)) _ (List.mem_reverse.mp (List.getElem_mem hi)))
theorem ks9 (L:kid prog w A E s key κ ok) {st st0:SortSt} {T1 T2 S0 D W:List Keyed} (h:Pc κ st T1 T2 S0 st0 (D++W)) (o: ∀z∈S0,ok z) {n m:Nat} (hn:n=D.length) (h0:0 < n) (hm:m=S0.length) (up:UpL key D) {F:Nat→Option (Option Nat)×Nat→StateT SortSt Sem (ForInStep (Option (Option Nat)×Nat))} {Q:Option (Option Nat)×Nat→SortSt→Prop}
 (hF: ∀i j R st',WS prog w A E s (ltAt' (T1.length + j) (T1.length + j - 1)) (fun c st''=>∃b,c=some b∧(b=true→R (.done (none,j)) st'')∧(b=false→R (.yield (none,j + 1)) st'')) st'→WS prog w A E s (F i (none,j)) R st')
 (k: ∀D' W',D'++W'=D++W→D.length≤D'.length→UpL key D'→(∀ x W'',W'=x::W''→∃D'' y,D'=D''++[y]∧key x < key y)→Q (none,D'.length) st0):WS prog w A E s (forIn [n:m] (none,n) F) Q st0:=by
 have lS:D.length + W.length=m:=by rw [hm,← h.pm.length_eq,List.length_append]
 refine wpS_forRange (fun i c st'=>st'=st0∧∃D' W',D'++W'=D++W∧c=(none,i)∧D'.length=i∧D.length≤i∧UpL key D') ?_ ?_ ⟨rfl,D,W,rfl,rfl,hn.symm,by lia,up⟩
 · rintro i c st' h1 h2 ⟨rfl,D',W',e,rfl,l,ld,u⟩
   have lW:D'.length + W'.length=m:=by rw [← lS,← List.length_append,e,List.length_append]
   obtain ⟨D'',y,rfl⟩:=ki7 (D:=D') (by lia)
   cases W' with
   | nil=>simp only [List.length_nil] at lW;lia
   | cons x W''=>
     have two:=knv (D:=D'') (W:=W'') (x:=x) (y:=y)
     rw [e,l] at two
     rw [List.length_append,List.length_singleton] at l
     refine hF i i _ _ (kkh L h o two.1 two.2 rfl (by lia) ?_)
     refine ⟨_,rfl,fun hb=> ?_,fun hb=>⟨rfl,(D''++[y])++[x],W'',by rw [← e];simp,rfl,by simp;lia,by lia,kg8 u ?_⟩⟩
     · rw [decide_eq_true_eq] at hb
       have:=k (D''++[y]) (x::W'') e (by rw [List.length_append,List.length_singleton];lia) u (fun x' W3 e3=>by cases e3;exact ⟨D'',y,rfl,hb⟩)
       rw [List.length_append,List.length_singleton,l] at this
       exact this
     · rw [decide_eq_false_iff_not] at hb
       lia
 · rintro c st' ⟨rfl,D',W',e,rfl,l,ld,u⟩
   have lW:D'.length + W'.length=m:=by rw [← lS,← List.length_append,e,List.length_append]
   have:=k D' W' e (by lia) u (fun x W'' e3=>by rw [e3,List.length_cons] at lW;lia)
   rw [l] at this
   exact this
end
end L2
set_option maxHeartbeats 4000000
namespace L2
open PySem PySem.Spec PySem.W PyProof.Rows
section
variable {prog:Program} {w:World} {A:Around} {E:Value→Shared→Prop} {s:Shared} {key:Keyed→Int} {κ:SortKind} {ok:Keyed→Prop}
theorem kkj {D:List Keyed} {x:Keyed} (d:DnL key D) (h: ∀z∈D,key x≤key z):DnL key (D++[x]):=
 List.pairwise_append.mpr ⟨d,List.pairwise_singleton _ _,fun z hz v hv=>by rw [List.mem_singleton.mp hv];exact h z hz⟩
theorem kvc {D:List Keyed} {y:Keyed} (d:DnL key (D++[y])): ∀z∈D++[y],key y≤key z:=fun z hz=>by
 rcases List.mem_append.mp hz with hz | hz
 · exact (List.pairwise_append.mp d).2.2 z hz y (List.mem_singleton.mpr rfl)
 · rw [List.mem_singleton.mp hz];exact Int.le_refl _
theorem kra {D:List Keyed} {y:Keyed} (d:UpL key (D++[y])): ∀z∈D++[y],key z≤key y:=fun z hz=>by
 rcases List.mem_append.mp hz with hz | hz
 · exact (List.pairwise_append.mp d).2.2 z hz y (List.mem_singleton.mpr rfl)
 · rw [List.mem_singleton.mp hz];exact Int.le_refl _
theorem kyt {V:List Keyed} (o:kys key V):DnL key V:=List.pairwise_iff_getElem.mpr fun i j hi hj q_=>Int.le_of_eq (o _ (List.getElem_mem hj) _ (List.getElem_mem hi))
theorem krb (L:kid prog w A E s key κ ok) {st st0:SortSt} {T1 T2 S0 S:List Keyed} (h:Pc κ st T1 T2 S0 st0 S) (o: ∀z∈S0,ok z) {m:Nat} {Q:Option Nat→SortSt→Prop} (hm:m=S0.length) (h0:0 < m) (k: ∀st' D W,Pc κ st T1 T2 S0 st' (D++W)→0 < D.length→UpL key D→Q (some D.length) st'):WS prog w A E s (countRun' T1.length m) Q st0:=by
 obtain ⟨x0,W0,rfl⟩: ∃x W,S=x::W:=by
  cases S with
  | nil=>rw [hm,← h.pm.length_eq] at h0;cases h0
  | cons x W=>exact ⟨x,W,rfl⟩
 have lm: ∀{st':SortSt} {D W:List Keyed},Pc κ st T1 T2 S0 st' (D++W)→D.length + W.length=m:=fun {st' D W} p=>by rw [hm,← p.pm.length_eq,List.length_append]
 rw [countRun'_eq]
 refine wpS_bind (ks9 L (D:=[x0]) (W:=W0) h o rfl (Nat.succ_pos 0) hm (List.pairwise_singleton _ _) (fun i j R st' H=> ?_) fun D W e hle u nx=> ?_)
 · refine wpS_bind (wpS_mono H fun c st'' ⟨b,hb,h1,h2⟩=> ?_)
   subst hb
   cases b with
   | true=>exact kam (fun q_=>wpS_pure (h1 rfl)) fun z=>absurd rfl z
   | false=>exact kam (fun z=>absurd z Bool.false_ne_true) fun q_=>wpS_pure (h2 rfl)
 have hP:Pc κ st T1 T2 S0 st0 (D++W):=by rw [e];exact h
 have lW:=lm hP
 have hD0:0 < D.length:=by
  cases D with
  | nil=>simp at hle
  | cons=>exact Nat.succ_pos _
 dsimp only
 refine kam (fun c=>wpS_pure (k st0 D W hP hD0 u)) fun c=> ?_
 have c:D.length≠m:=fun z=>c (beq_iff_eq.mpr z)
 obtain ⟨x,W,rfl⟩: ∃x W',W=x::W':=by
  cases W with
  | nil=>exact absurd (by simpa using lW) c
  | cons x W=>exact ⟨x,W,rfl⟩
 obtain ⟨D,y,rfl,hxy⟩:=nx x W rfl
 obtain ⟨n,hn⟩: ∃n,n=(D++[y]).length:=⟨_,rfl⟩
 rw [← hn]
 have two:=knv (D:=D) (W:=W) (x:=x) (y:=y)
 have hn':n=D.length + 1:=by rw [hn,List.length_append,List.length_singleton]
 refine kam (fun c1=> ?_) (fun c1=> ?_)
 obtain ⟨z,D3,rfl⟩: ∃z D3,D=z::D3:=by
  cases D with
  | nil=>rw [hn'] at c1;simp at c1
  | cons z D3=>exact ⟨z,D3,rfl⟩
 refine wpS_bind (kkh L hP o (i:=0) (x:=z) rfl two.2 rfl (by lia) ?_)
 by_cases hr:key z < key y
 · rw [decide_eq_true hr]
   refine kam (fun q_=>wpS_pure ?_) fun q=>absurd rfl q
   rw [hn]
   exact k st0 _ _ hP hD0 u
 rw [decide_eq_false hr]
 refine kam (fun q=>absurd q Bool.false_ne_true) fun q_=> ?_
 have hone:kys key (z::D3++[y]):=by
  have hz: ∀v∈z::D3++[y],key v=key y:=fun v hv=>by
   have a1:=kra u v hv
   have a2:key z≤key v:=kc9 u (i:=0) (x:=z) rfl v hv
   lia
  exact fun v hv v' hv'=>by rw [hz v hv,hz v' hv']
 refine wpS_bind (kki (U:=[]) (V:=z::D3++[y]) (W:=x::W) hP rfl (by rw [List.length_nil];lia) fun st1 hP1=> ?_)
 rw [List.nil_append] at hP1
 have lD1:((z::D3++[y]).reverse).length=n:=by rw [List.length_reverse,hn]
 have d1:DnL key (z::D3++[y]).reverse:=kyt fun v hv v' hv'=>hone v (List.mem_reverse.mp hv) v' (List.mem_reverse.mp hv')
 have hx1: ∀v∈(z::D3++[y]).reverse,key x≤key v:=fun v hv=>by
  have:=hone v (List.mem_reverse.mp hv) y (by simp)
  lia
 generalize (z::D3++[y]).reverse=D1 at hP1 lD1 d1 hx1
 clear two hone hr hxy u hP hn'
 rotate_left
 obtain rfl:D=[]:=by
  cases D with
  | nil=>rfl
  | cons z D3=>simp only [List.length_cons] at hn';lia
 have hP1:=hP
 have lD1:([]++[y]).length=n:=hn.symm
 have d1:DnL key ([]++[y]):=List.pairwise_singleton _ _
 have hx1: ∀v∈[]++[y],key x≤key v:=fun v hv=>by rw [List.mem_singleton.mp hv];lia
 generalize []++[y]=D1 at hP1 lD1 d1 hx1
 clear two hxy u hP hn'
 all_goals
  refine wpS_bind (kep ?_)
  have hS:D1++x::W=(D1++[x])++W:=by simp
  have l1:=lm hP1
  rw [List.length_cons] at l1
  refine wpS_bind (wpS_mono (Q:=fun c st'=>c.1=none∧∃D W U V,Pc κ st T1 T2 S0 st' (D++W)∧D.length=c.2.1∧0 < D.length∧DnL key D∧D=U++V∧V.length=c.2.2 + 1∧kys key V)
   (wpS_forRange (fun i c st'=>∃D W U V q,c=(none,i,q)∧Pc κ st T1 T2 S0 st' (D++W)∧D.length=i∧0 < D.length∧DnL key D∧D=U++V∧V.length=q + 1∧kys key V) ?_ ?_ ⟨D1++[x],W,D1,[x],0,rfl,hS▸hP1,by rw [List.length_append,List.length_singleton,lD1],by simp,kkj d1 hx1,rfl,rfl,fun v hv v' hv'=>by rw [List.mem_singleton.mp hv,List.mem_singleton.mp hv']⟩) ?_)
  · rintro i c st' hi1 hi2 ⟨D,W,U,V,q,rfl,hP,lD,h0D,d,eD,lV,oV⟩
    have lW:=lm hP
    obtain ⟨D',y',hD'⟩:=ki7 h0D
    obtain ⟨x',W',rfl⟩: ∃x W',W=x::W':=by
     cases W with
     | nil=>rw [List.length_nil] at lW;lia
     | cons x W=>exact ⟨x,W,rfl⟩
    have two:=knv (D:=D') (W:=W') (x:=x') (y:=y')
    rw [← hD',lD] at two
    have lD':D'.length + 1=i:=by rw [← lD,hD',List.length_append,List.length_singleton]
    have hyl: ∀v∈D,key y'≤key v:=by rw [hD'];rw [hD'] at d;exact kvc d
    have hyV:y'∈V:=by
     obtain ⟨V',v,rfl⟩:=ki7 (D:=V) (by lia)
     rw [hD',← List.append_assoc] at eD
     have:=List.append_inj_right' eD rfl
     rw [List.cons.inj this |>.1];simp
    dsimp only
    refine wpS_bind (kkh L hP o two.1 two.2 rfl (by lia) ?_)
    by_cases h1:key x' < key y'
    · rw [decide_eq_true h1]
      refine kam (fun q_=> ?_) fun z=>absurd rfl z
      refine kam (fun hq=> ?_) fun hq=> ?_
      · refine wpS_bind (kki (U:=U) (V:=V) (W:=x'::W') (by rw [← List.append_assoc,← eD];exact hP) (by have:=congrArg List.length eD;rw [List.length_append] at this;lia) (by have:=congrArg List.length eD;rw [List.length_append] at this;lia) fun st2 hP2=>wpS_pure ?_)
        have hD2: ∀v∈U++V.reverse,v∈D:=fun v hv=>by
         rw [eD]
         rcases List.mem_append.mp hv with hv | hv
         · exact List.mem_append_left _ hv
         · exact List.mem_append_right _ (List.mem_reverse.mp hv)
        refine ⟨(U++V.reverse)++[x'],W',U++V.reverse,[x'],0,rfl,?_,?_,(by rw [List.length_append,List.length_singleton];exact Nat.succ_pos _),kkj (knw (eD▸d) oV) fun v hv=>by have:=hyl v (hD2 v hv);lia,rfl,rfl,fun v hv v' hv'=>by rw [List.mem_singleton.mp hv,List.mem_singleton.mp hv']⟩
        · have:U++(V.reverse++x'::W')=U++V.reverse++[x']++W':=by simp
          rw [← this];exact hP2
        · rw [List.length_append,List.length_append,List.length_reverse,← List.length_append,← eD,lD];rfl
      · refine wpS_pure ⟨D++[x'],W',D,[x'],0,rfl,?_,by rw [List.length_append,lD];rfl,by simp,kkj d fun v hv=>by have:=hyl v hv;lia,rfl,rfl,fun v hv v' hv'=>by rw [List.mem_singleton.mp hv,List.mem_singleton.mp hv']⟩
        have:D++x'::W'=D++[x']++W':=by simp
        rw [← this];exact hP
    · rw [decide_eq_false h1]
      refine kam (fun z=>absurd z Bool.false_ne_true) fun q_=> ?_
      refine wpS_bind (kkh L hP o two.2 two.1 (by lia) rfl ?_)
      by_cases h2:key y' < key x'
      · rw [decide_eq_true h2]
        exact kam (fun q_=>wpS_pure ⟨rfl,D,x'::W',U,V,hP,lD,h0D,d,eD,lV,oV⟩) fun z=>absurd rfl z
      · rw [decide_eq_false h2]
        refine kam (fun z=>absurd z Bool.false_ne_true) fun q_=>wpS_pure ⟨D++[x'],W',U,V++[x'],q + 1,rfl,?_,by rw [List.length_append,lD];rfl,by simp,kkj d fun v hv=>by have:=hyl v hv;lia,by rw [eD,List.append_assoc],by rw [List.length_append,lV];rfl,?_⟩
        · have:D++x'::W'=D++[x']++W':=by simp
          rw [← this];exact hP
        · have hv1: ∀v∈V++[x'],key v=key y':=fun v hv=>by
           rcases List.mem_append.mp hv with hv | hv
           · exact oV v hv y' hyV
           · rw [List.mem_singleton.mp hv];lia
          exact fun v hv v' hv'=>by rw [hv1 v hv,hv1 v' hv']
  · rintro c st' ⟨D,W,U,V,q,rfl,hP,lD,h0D,d,eD,lV,oV⟩
    exact ⟨rfl,D,W,U,V,hP,lD,h0D,d,eD,lV,oV⟩
  · rintro ⟨r0,n2,q⟩ st2 ⟨e0,D2,W2,U,V,hP2,lD2,h0D2,d2,eD2,lV,oV⟩
    cases e0
    dsimp only at lD2 lV ⊢
    refine kam (fun hq=> ?_) fun hq=> ?_
    refine wpS_bind (kki (U:=U) (V:=V) (W:=W2) (by rw [← List.append_assoc,← eD2];exact hP2) (by have:=congrArg List.length eD2;rw [List.length_append] at this;lia) (by have:=congrArg List.length eD2;rw [List.length_append] at this;lia) fun st3 hP3=> ?_)
    rw [← List.append_assoc] at hP3
    have l3:(U++V.reverse).length=n2:=by rw [List.length_append,List.length_reverse,← List.length_append,← eD2,lD2]
    have d3:=knw (eD2▸d2) oV
    generalize U++V.reverse=D3 at hP3 l3 d3
    rotate_left
    have hP3:=hP2
    have l3:=lD2
    have d3:=d2
    generalize D2=D3 at hP3 l3 d3
    all_goals
     refine wpS_bind (kki (U:=[]) (V:=D3) (W:=W2) hP3 rfl (by rw [List.length_nil];lia) fun st4 hP4=> ?_)
     refine wpS_bind (ks9 L (D:=D3.reverse) (W:=W2) hP4 o (by rw [List.length_reverse,l3]) (by lia) hm (kyr d3) (fun i j R st' H=> ?_) fun D W e hle u nx=> ?_)
     · refine wpS_bind (wpS_mono H fun c st'' ⟨b,hb,h1,h2⟩=> ?_)
       subst hb
       cases b with
       | true=>exact kam (fun q_=>wpS_pure (h1 rfl)) fun z=>absurd rfl z
       | false=>exact kam (fun z=>absurd z Bool.false_ne_true) fun q_=>wpS_pure (h2 rfl)
     · refine wpS_pure (k st4 D W ?_ (by rw [List.length_reverse] at hle;lia) u)
       rw [e]
       exact hP4
end
end L2
set_option maxHeartbeats 4000000
namespace L2
open PySem PySem.Spec PySem.W PyProof.Rows
inductive PenOk:Nat→List (List Keyed)→List (Nat×Nat×Nat)→Prop
 | nil (b:Nat):PenOk b [] []
 | cons {b:Nat} {r:List Keyed} {Rs:List (List Keyed)} {ps:List (Nat×Nat×Nat)} (pw:Nat):PenOk (b + r.length) Rs ps→PenOk b (r::Rs) ((b,r.length,pw)::ps)
theorem PenOk.len {b:Nat} {Rs:List (List Keyed)} {ps:List (Nat×Nat×Nat)} (h:PenOk b Rs ps):ps.length=Rs.length:=by
 induction h with
 | nil=>rfl
 | cons _ _ ih=>rw [List.length_cons,List.length_cons,ih]
theorem PenOk.snoc {b:Nat} {Rs:List (List Keyed)} {ps:List (Nat×Nat×Nat)} (h:PenOk b Rs ps) (r:List Keyed) (pw:Nat):PenOk b (Rs++[r]) (ps++[(b + Rs.flatten.length,r.length,pw)]):=by
 induction h with
 | nil b=>exact .cons pw (.nil _)
 | @cons b r' Rs ps pw' _ ih=>
   refine .cons pw' ?_
   rw [List.flatten_cons,List.length_append,← Nat.add_assoc]
   exact ih
theorem PenOk.two {b:Nat} {R1 R2:List (List Keyed)} {x y:List Keyed}: ∀{ps:List (Nat×Nat×Nat)},PenOk b (R1++x::y::R2) ps→∃p1 p2 pa pb,ps=p1++(b + R1.flatten.length,x.length,pa)::(b + R1.flatten.length + x.length,y.length,pb)::p2∧p1.length=R1.length∧∀M:List Keyed,M.length=x.length + y.length→PenOk b (R1++M::R2) (p1++(b + R1.flatten.length,x.length + y.length,pa)::p2):=by
 induction R1 generalizing b with
 | nil=>
   intro ps h
   cases h with
   | cons pa h=>
     cases h with
     | @cons _ _ _ p2 pb h=>exact ⟨[],p2,pa,pb,rfl,rfl,fun M hM=>by
       have:=PenOk.cons (r:=M) pa (b:=b) (Rs:=R2) (ps:=p2) (by rw [hM,← Nat.add_assoc];exact h)
       rw [hM] at this
       exact this⟩
 | cons r R1 ih=>
   intro ps h
   cases h with
   | @cons _ _ _ ps pw h=>
     obtain ⟨p1,p2,pa,pb,e,l,k⟩:=ih h
     refine ⟨(b,r.length,pw)::p1,p2,pa,pb,?_,by rw [List.length_cons,List.length_cons,l],fun M hM=> ?_⟩
     · rw [e,List.flatten_cons,List.length_append,← Nat.add_assoc];rfl
     · rw [List.flatten_cons,List.length_append,← Nat.add_assoc]
       exact .cons pw (k M hM)
theorem PenOk.last {b:Nat} {Rs:List (List Keyed)} {ps:List (Nat×Nat×Nat)} (h:PenOk b Rs ps) (pw:Nat):PenOk b Rs (ps.modify (ps.length - 1) fun x=>(x.1,x.2.1,pw)):=by
 induction h with
 | nil=>exact .nil _
 | @cons b r Rs ps pw' h ih=>
   cases h with
   | nil=>exact .cons pw (.nil _)
   | @cons _ r2 Rs ps pw2 h=>
     refine .cons pw' ?_
     exact ih
section
variable {prog:Program} {w:World} {A:Around} {E:Value→Shared→Prop} {s:Shared} {key:Keyed→Int} {κ:SortKind} {ok:Keyed→Prop}
structure Rn (key:Keyed→Int) (κ:SortKind) (S0:List Keyed) (st:SortSt) (Rs:List (List Keyed)) (Rest:List Keyed):Prop where
 kd:kindOf st=κ
 fl:failedOf st=none
 ar:(arrOf st).toList=Rs.flatten++Rest
 pm:(Rs.flatten++Rest).Perm S0
 rs: ∀r∈Rs,0 < r.length∧UpL key r
 pd:PenOk 0 Rs (pendingOf st).toList
theorem knx (L:kid prog w A E s key κ ok) {S0:List Keyed} (o: ∀z∈S0,ok z) {st:SortSt} {R1 R2:List (List Keyed)} {x y Rest:List Keyed} (h:Rn key κ S0 st (R1++x::y::R2) Rest) {i:Nat} (hi:i=R1.length) {Q:Bool→SortSt→Prop} (k: ∀st' M,Rn key κ S0 st' (R1++M::R2) Rest→Q true st'):WS prog w A E s (mergeAt' i) Q st:=by
 subst hi
 rw [kyj]
 obtain ⟨p1,p2,pa,pb,ep,lp,kp⟩:=h.pd.two
 rw [Nat.zero_add] at ep
 have ar:(arrOf st).toList=R1.flatten++(x++(y++(R2.flatten++Rest))):=by rw [h.ar];simp only [List.flatten_append,List.flatten_cons,List.append_assoc]
 have hx:=h.rs x (by simp)
 have hy:=h.rs y (by simp)
 have os: ∀z∈(R1++x::y::R2).flatten++Rest,ok z:=fun z hz=>o z (h.pm.mem_iff.mp hz)
 have e1:(pendingOf st)[R1.length]?=some (R1.flatten.length,x.length,pa):=by
  rw [← Array.getElem?_toList,ep,← lp,List.getElem?_append_right (Nat.le_refl _),Nat.sub_self];rfl
 have e2:(pendingOf st)[R1.length + 1]?=some (R1.flatten.length + x.length,y.length,pb):=by
  rw [← Array.getElem?_toList,ep,← lp,List.getElem?_append_right (by lia),show p1.length + 1 - p1.length=1 by lia];rfl
 refine kyp L ar hx.1 hy.1 (fun z hz=>os z (by simp [hz])) (fun z hz=>os z (by simp [hz])) hx.2 hy.2 h.kd h.fl e1 e2 fun st' M h1 h2 h3 h4 h5 h6=>k st' M ⟨h1,h2,?_,?_,fun r hr=> ?_,?_⟩
 · rw [h4];simp only [List.flatten_append,List.flatten_cons,List.append_assoc]
 · refine List.Perm.trans ?_ h.pm
   simp only [List.flatten_append,List.flatten_cons,List.append_assoc]
   refine List.Perm.append_left _ ?_
   have:=h5.append_right (R2.flatten++Rest)
   simpa only [List.append_assoc] using this
 · rcases List.mem_append.mp hr with hr | hr
   · exact h.rs r (by simp [hr])
   · rcases List.mem_cons.mp hr with rfl | hr
     · exact ⟨by rw [h5.length_eq,List.length_append];lia,h6⟩
     · exact h.rs r (by simp [hr])
 · rw [h3]
   have:(((pendingOf st).setIfInBounds R1.length (R1.flatten.length,x.length + y.length,pa)).eraseIdxIfInBounds (R1.length + 1)).toList=p1++(R1.flatten.length,x.length + y.length,pa)::p2:=by
    rw [Array.toList_eraseIdxIfInBounds,Array.toList_setIfInBounds,ep,← lp,List.set_append_right _ _ (Nat.le_refl _),Nat.sub_self,List.set_cons_zero,List.eraseIdx_append_of_length_le (by lia),show p1.length + 1 - p1.length=1 by lia]
    rfl
   rw [this]
   have q:=kp M (by rw [h5.length_eq,List.length_append])
   rw [Nat.zero_add] at q
   exact q
end
end L2
set_option maxHeartbeats 4000000
namespace L2
open PySem PySem.Spec PySem.W PyProof.Rows
section
variable {prog:Program} {w:World} {A:Around} {E:Value→Shared→Prop} {s:Shared} {key:Keyed→Int} {κ:SortKind} {ok:Keyed→Prop}
theorem krc {Rs:List (List Keyed)} (h: ∀r∈Rs,0 < r.length∧UpL key r):Rs.length≤Rs.flatten.length:=by
 induction Rs with
 | nil=>exact Nat.le_refl _
 | cons r Rs ih=>
   have h1:=(h r List.mem_cons_self).1
   have h2:=ih fun r' hr=>h r' (List.mem_cons_of_mem _ hr)
   rw [List.flatten_cons,List.length_append,List.length_cons]
   lia
theorem kta {Rs:List (List Keyed)} {i:Nat} (h:i + 1 < Rs.length): ∃R1 x y R2,Rs=R1++x::y::R2∧R1.length=i:=by
 refine ⟨Rs.take i,Rs[i],Rs[i + 1],Rs.drop (i + 2),?_,by rw [List.length_take];lia⟩
 rw [← List.drop_eq_getElem_cons (by lia),← List.drop_eq_getElem_cons (by lia),List.take_append_drop]
theorem kyu {c:Prop} [Decidable c] {a n:Nat} (h:a + 1 < n):(if c then a - 1 else a) + 1 < n:=by
 split <;> lia
theorem kvd (L:kid prog w A E s key κ ok) {st:SortSt} {S0:List Keyed} (o: ∀z∈S0,ok z) (hk:kindOf st=κ) (hf:failedOf st=none) (hp:pendingOf st= #[]) (ha:(arrOf st).toList=S0) (h0:0 < S0.length) {Q:Unit→SortSt→Prop}
 (k: ∀st',failedOf st'=none→(arrOf st').toList.Perm S0→UpL key (arrOf st').toList→Q () st'):WS prog w A E s sortRuns' Q st:=by
 have sz:(arrOf st).size=S0.length:=by rw [← ha,Array.length_toList]
 rw [sortRuns'_eq]
 refine wpS_bind (wpS_get ?_)
 rw [sz]
 dsimp (zeta:=false) only
 refine wpS_bind (wpS_mono (Q:=fun c st'=>c.1=none∧∃Rs,Rn key κ S0 st' Rs []) (wpS_forRange (fun i c st'=>∃Rs Rest,c=(none,Rs.flatten.length)∧Rn key κ S0 st' Rs Rest∧i≤Rs.flatten.length) ?_ ?_ ⟨[],S0,rfl,⟨hk,hf,ha,List.Perm.refl _,fun r hr=>(by cases hr),by rw [hp];exact .nil 0⟩,Nat.le_refl _⟩) ?_)
 · rintro i c st' _ hi ⟨Rs,Rest,rfl,h,hl⟩
   have lt:Rs.flatten.length + Rest.length=S0.length:=by rw [← List.length_append,h.pm.length_eq]
   dsimp (zeta:=false) only
   refine kam (fun c=>wpS_pure ⟨rfl,Rs,?_⟩) fun c=> ?_
   · obtain rfl:Rest=[]:=List.eq_nil_of_length_eq_zero (by lia)
     exact h
   have h1:Pc κ st' Rs.flatten [] Rest st' Rest:=⟨h.kd,h.fl,rfl,by rw [h.ar,List.append_nil],List.Perm.refl _⟩
   have oR: ∀z∈Rest,ok z:=fun z hz=>o z (h.pm.mem_iff.mp (List.mem_append_right _ hz))
   refine wpS_bind (krb L h1 oR (by lia) (by lia) fun st1 D W hP hD up=> ?_)
   have lDW:D.length + W.length=Rest.length:=by rw [← List.length_append,hP.pm.length_eq]
   have push: ∀(st2:SortSt) (D2 W2:List Keyed),Pc κ st' Rs.flatten [] Rest st2 (D2++W2)→0 < D2.length→UpL key D2→Rn key κ S0 st2 Rs (D2++W2):=fun st2 D2 W2 hP2 q_ q_=>
    ⟨hP2.kd,hP2.fl,by rw [hP2.ar,List.append_nil],(hP2.pm.append_left _).trans h.pm,h.rs,by rw [hP2.pd];exact h.pd⟩
   dsimp only
   refine kam (fun cm=> ?_) (fun cm=> ?_)
   refine wpS_bind (kep ?_)
   obtain ⟨f,hf'⟩: ∃f,f=min (S0.length - Rs.flatten.length) (minRun' S0.length S0.length 0):=⟨_,rfl⟩
   rw [← hf']
   have lf:((D++W).take f).length=f:=by rw [List.length_take,List.length_append];lia
   have h2:Pc κ st' Rs.flatten ((D++W).drop f) ((D++W).take f) st1 ((D++W).take f):=⟨hP.kd,hP.fl,hP.pd,by rw [hP.ar,List.append_nil,List.take_append_drop],List.Perm.refl _⟩
   refine wpS_bind (kq9 L h2 (fun z hz=>oR z (hP.pm.mem_iff.mp (List.mem_of_mem_take hz))) (m:=D.length) (by lia) (by lia) lf.symm (by rw [List.take_take,Nat.min_eq_left (by lia),List.take_left];exact up) fun st2 D2 hP2 up2=> ?_)
   refine kam (fun z=>absurd z (by simp)) fun q_=> ?_
   have lD2:D2.length=f:=by rw [hP2.pm.length_eq,lf]
   have hR:Rn key κ S0 st2 Rs (D2++(D++W).drop f):=⟨hP2.kd,hP2.fl,by rw [hP2.ar],by
    refine List.Perm.trans (List.Perm.append_left _ ?_) h.pm
    refine List.Perm.trans ?_ hP.pm
    have:=hP2.pm.append_right ((D++W).drop f)
    rwa [List.take_append_drop] at this,h.rs,by rw [hP2.pd];exact h.pd⟩
   have hD2:0 < D2.length:=by lia
   generalize (D++W).drop f=W2 at hR
   rw [← lD2]
   clear hP2 h2 lD2 hf' lf
   rotate_left
   have hR:=push st1 D W hP hD up
   have hD2:=hD
   have up2:=up
   generalize D=D2 at hR hD2 up2
   generalize W=W2 at hR
   generalize st1=st2 at hR
   all_goals
    refine wpS_bind (wpS_get ?_)
    have fin: ∀(st3:SortSt) (Rs3:List (List Keyed)),Rn key κ S0 st3 Rs3 (D2++W2)→Rn key κ S0 (setPending st3 ((pendingOf st3).push (Rs.flatten.length,D2.length,0))) (Rs3++[D2]) W2∧(Rs3++[D2]).flatten.length=Rs.flatten.length + D2.length:=fun st3 Rs3 h3=>by
     have l3:Rs3.flatten.length=Rs.flatten.length:=by
      have a1:=h3.pm.length_eq
      have a2:=hR.pm.length_eq
      rw [List.length_append] at a1 a2
      lia
     have fl:(Rs3++[D2]).flatten=Rs3.flatten++D2:=by simp
     refine ⟨⟨h3.kd,h3.fl,?_,?_,fun r hr=> ?_,?_⟩,by rw [fl,List.length_append,l3]⟩
     · show (arrOf st3).toList=_
       rw [h3.ar,fl,List.append_assoc]
     · rw [fl,List.append_assoc];exact h3.pm
     · rcases List.mem_append.mp hr with hr | hr
       · exact h3.rs r hr
       · rw [List.mem_singleton.mp hr];exact ⟨hD2,up2⟩
     · show PenOk 0 (Rs3++[D2]) ((pendingOf st3).push (Rs.flatten.length,D2.length,0)).toList
       rw [Array.toList_push,← l3]
       have:=h3.pd.snoc D2 0
       rwa [Nat.zero_add] at this
    cases eb:(pendingOf st2).back? with
    | none=>
      obtain ⟨f1,f2⟩:=fin st2 Rs hR
      exact wpS_bind (wpS_modify (wpS_pure ⟨_,_,by rw [f2],f1,by rw [f2];lia⟩))
    | some t=>
      obtain ⟨s1,n1,p0⟩:=t
      dsimp only
      generalize power' S0.length (2 * s1 + n1) (2 * s1 + n1 + n1 + D2.length) S0.length=pw
      refine wpS_bind (wpS_mono (Q:=fun c st3=>c.1=none∧∃Rs3,Rn key κ S0 st3 Rs3 (D2++W2)) (wpS_forRange (fun i c st3=>c=(none,())∧∃Rs3,Rn key κ S0 st3 Rs3 (D2++W2)) ?_ ?_ ⟨rfl,Rs,hR⟩) ?_)
      · rintro i c st3 _ _ ⟨rfl,Rs3,h3⟩
        refine wpS_bind (wpS_get ?_)
        have lp:(pendingOf st3).size=Rs3.length:=by rw [← Array.length_toList];exact h3.pd.len
        by_cases hp2:(pendingOf st3).size > 1
        · rw [if_pos hp2,Array.getElem?_eq_getElem (by lia)]
          refine kam (fun q_=>wpS_pure ⟨rfl,Rs3,h3⟩) fun q_=> ?_
          rw [lp]
          obtain ⟨R1,x,y,R2,rfl,lj⟩:=kta (Rs:=Rs3) (i:=Rs3.length - 2) (by lia)
          refine wpS_bind (knx L o h3 lj.symm fun st4 M h4=> ?_)
          exact kam (fun z=>absurd z (by simp)) fun q_=>wpS_pure ⟨rfl,_,h4⟩
        · rw [if_neg hp2]
          exact wpS_pure ⟨rfl,Rs3,h3⟩
      · rintro c st3 ⟨rfl,Rs3,h3⟩
        exact ⟨rfl,Rs3,h3⟩
      · rintro ⟨r0,_⟩ st3 ⟨e0,Rs3,h3⟩
        cases e0
        refine wpS_bind (wpS_modify ?_)
        have h4:Rn key κ S0 (setPending st3 ((pendingOf st3).modify ((pendingOf st3).size - 1) fun x=>(x.1,x.2.1,pw))) Rs3 (D2++W2):=⟨h3.kd,h3.fl,h3.ar,h3.pm,h3.rs,by
         show PenOk 0 Rs3 ((pendingOf st3).modify ((pendingOf st3).size - 1) fun x=>(x.1,x.2.1,pw)).toList
         rw [Array.toList_modify,← Array.length_toList]
         exact h3.pd.last pw⟩
        obtain ⟨f1,f2⟩:=fin _ Rs3 h4
        exact wpS_bind (wpS_modify (wpS_pure ⟨_,_,by rw [f2],f1,by rw [f2];lia⟩))
 · rintro c st' ⟨Rs,Rest,rfl,h,hl⟩
   have lt:Rs.flatten.length + Rest.length=S0.length:=by rw [← List.length_append,h.pm.length_eq]
   obtain rfl:Rest=[]:=List.eq_nil_of_length_eq_zero (by lia)
   exact ⟨rfl,Rs,h⟩
 · rintro ⟨r0,lo⟩ st' ⟨e0,Rs,h⟩
   cases e0
   have lt:Rs.flatten.length=S0.length:=by rw [← h.pm.length_eq,List.append_nil]
   have lR:=krc h.rs
   refine wpS_bind (wpS_mono (Q:=fun c st'=>c.1=none∧∃Rs,Rn key κ S0 st' Rs []∧Rs.length≤1) (wpS_forRange (fun i c st'=>c=(none,())∧∃Rs,Rn key κ S0 st' Rs []∧(Rs.length≤1∨Rs.length + i≤S0.length)) ?_ ?_ ⟨rfl,Rs,h,by lia⟩) ?_)
   · rintro i c st' _ hi ⟨rfl,Rs,h,hl⟩
     have lp:(pendingOf st').size=Rs.length:=by rw [← Array.length_toList];exact h.pd.len
     refine wpS_bind (wpS_get ?_)
     dsimp only
     rw [lp]
     refine kam (fun c=>wpS_pure ⟨rfl,Rs,h,c⟩) fun c=> ?_
     obtain ⟨j,hj,hj2⟩: ∃j,j + 1 < Rs.length∧j=(if Option.any (fun x=>decide (x < (pendingOf st')[Rs.length - 2 + 1]?.elim 0 fun x=>x.snd.fst)) (if Rs.length - 2 > 0 then Option.map (fun x=>x.snd.fst) (pendingOf st')[Rs.length - 2 - 1]? else none)=true then Rs.length - 2 - 1 else Rs.length - 2):=⟨_,kyu (by lia),rfl⟩
     obtain ⟨R1,x,y,R2,rfl,lj⟩:=kta hj
     rw [← hj2]
     refine wpS_bind (knx L o h lj.symm fun st2 M h2=> ?_)
     refine kam (fun z=>absurd z (by simp)) fun q_=>wpS_pure ⟨rfl,_,h2,?_⟩
     simp only [List.length_append,List.length_cons] at hl ⊢
     lia
   · rintro c st' ⟨rfl,Rs,h,hl⟩
     refine ⟨rfl,Rs,h,?_⟩
     have l0:0 < Rs.length:=by
      have:Rs.flatten.length=S0.length:=by rw [← h.pm.length_eq,List.append_nil]
      cases Rs with
      | nil=>simp at this;lia
      | cons=>exact Nat.succ_pos _
     lia
   · rintro ⟨r0,_⟩ st' ⟨e0,Rs,h,hl⟩
     cases e0
     have e1:(arrOf st').toList=Rs.flatten:=by rw [h.ar,List.append_nil]
     refine wpS_pure (k st' h.fl (by rw [h.ar];exact h.pm) ?_)
     rw [e1]
     match Rs,h,hl with
     | [],_,_=>exact List.Pairwise.nil
     | [r],h,_=>rw [List.flatten_cons,List.flatten_nil,List.append_nil];exact (h.rs r List.mem_cons_self).2
end
end L2
set_option maxHeartbeats 4000000
namespace L2
open PySem PySem.Spec PySem.W PySem.Calls PyProof.Rows
section
variable {prog:Program} {w:World} {A:Around} {E:Value→Shared→Prop} {s:Shared}
theorem kkk {α β:Type} {f:α→β} {l m:List β} (h:l.Perm m): ∀r:List α,m=r.map f→∃π:List α,π.Perm r∧l=π.map f:=by
 induction h with
 | nil=>intro r e;exact ⟨r,List.Perm.refl _,e⟩
 | @cons x l m _ ih=>
   intro r e
   cases r with
   | nil=>cases e
   | cons a r=>
     rw [List.map_cons] at e
     injection e with e1 e2
     obtain ⟨π,h1,h2⟩:=ih r e2
     exact ⟨a::π,h1.cons a,by rw [h2,e1];rfl⟩
 | swap x y l=>
   intro r e
   match r,e with
   | a::b::r,e=>
     rw [List.map_cons,List.map_cons] at e
     injection e with e1 e2
     injection e2 with e2 e3
     exact ⟨b::a::r,List.Perm.swap a b r,by rw [e1,e2,e3];rfl⟩
 | trans _ _ ih1 ih2=>
   intro r e
   obtain ⟨π,h1,h2⟩:=ih2 r e
   obtain ⟨π',h3,h4⟩:=ih1 π h2
   exact ⟨π',h3.trans h1,h4⟩
noncomputable def kve (h:Heap) (a:Addr) (vs:List Value):Heap:=((h.update a (Obj.mapSeq fun q_=>(#[]:Array Value))).push (seqObj "tuple" vs.toArray 0)).push (seqObj "list" #[] 0)
theorem kkl {a:Addr} {vs:List Value} {n:Nat} {P:PySem.Fin→Shared→Prop} {key:Keyed→Int} {κ:SortKind} {ok:Keyed→Prop} (ho:s.heap.get? a=some (seqObj "list" vs.toArray n)) (h2:2≤vs.length) (zz:vs.length≤sizeLine)
 (hkd: ∀R:SortKind→Shared→Prop,R κ {s with heap:=kve s.heap a vs}→wpAny (model prog w) A (keyKind' vs.toArray) R E {s with heap:=kve s.heap a vs})
 (L:kid prog w A E {s with heap:=kve s.heap a vs} key κ ok) (ov: ∀v∈vs,ok (v,v))
 (h: ∀out:List Value,(∃ l:List Keyed,l.Perm (vs.map fun v=>(v,v))∧UpL key l∧out=l.map (·.2))→P (.done (.ret .none)) {s with heap:=sortedHeap s.heap a vs out.toArray}):wpAny (model prog w) A (Builtin.«list.sort» ⟨[.ref a],[]⟩) P E s:=by
 rw [list_sort_plain]
 obtain ⟨e1,o1⟩: ∃e,(s.heap.update a (Obj.mapSeq fun q_=>(#[]:Array Value))).get? a=some (seqObj "list" #[] e):=⟨_,get?_update_seq ho _⟩
 have o6:=Heap.get?_push_of_some (seqObj "list" #[] 0) (Heap.get?_push_of_some (seqObj "tuple" vs.toArray 0) o1)
 have c2: ¬vs.toArray.size < 2:=by simpa using h2
 refine wpAny_bind (listItems_at ho rfl (wpAny_bind (listUpdate_at ho rfl (wpAny_bind (seqEpoch_at o1 rfl (wpAny_bind (wpAny_newTuple (wpAny_bind (wpAny_newList (wpAny_holding ?_) (Nat.zero_le _))) zz)))) (by simpa using zz) (Nat.zero_le _))))
 simp only [if_neg c2]
 refine wpAny_bind (hkd _ ?_)
 have hr:=kvd (Q:=fun q_ st'=>failedOf st'=none∧(arrOf st').toList.Perm (vs.map fun v=>(v,v))∧UpL key (arrOf st').toList) L (st:=SortSt.mk' κ (vs.toArray.zip vs.toArray) #[] 7 none) (S0:=vs.map fun v=>(v,v)) (fun z hz=>by
  obtain ⟨v,hv,rfl⟩:=List.mem_map.mp hz
  exact ov v hv) rfl rfl rfl (by show (vs.toArray.zip vs.toArray).toList=_;simp only [List.zip_toArray];exact kg5 vs) (by rw [List.length_map];lia) (fun st' a1 a2 a3=>⟨a1,a2,a3⟩)
 refine wpAny_bind (wpAny_mono hr ?_ fun q_ q_ z=>z)
 rintro ⟨_,st'⟩ s' ⟨rfl,hf,hp,hu⟩
 dsimp only
 have eo:(arrOf st').map (·.2)=((arrOf st').toList.map (·.2)).toArray:=by
  apply Array.toList_inj.mp
  rw [Array.toList_map]
 have lo:((arrOf st').toList.map (·.2)).length=vs.length:=by rw [List.length_map,hp.length_eq,List.length_map]
 rw [eo,hf]
 refine wpAny_bind (seqEpoch_at o6 rfl (wpAny_bind (listUpdate_at o6 rfl ?_ (Nat.zero_le _) (by rw [List.size_toArray,lo];exact Nat.le_succ_of_le zz))))
 simp only [bne_self_eq_false,Bool.false_eq_true,if_false]
 exact wpAny_pure (h _ ⟨_,hp,hu,rfl⟩)
theorem kl1 {l:Addr} {vs:List Value} {Q:Value→Shared→Prop} {key:Keyed→Int} {κ:SortKind} {ok:Keyed→Prop} (hl:s.heap.IsList l vs.toArray) (h2:2≤vs.length) (zz:vs.length≤sizeLine)
 (hkd: ∀(A':Around) (E':Value→Shared→Prop) (h':Heap),(∀ b o,s.heap.get? b=some o→h'.get? b=some o)→A'.units≤A.units + 2→(∀ R:SortKind→Shared→Prop,R κ {s with heap:=h'}→wpAny (model prog w) A' (keyKind' vs.toArray) R E' {s with heap:=h'})∧kid prog w A' E' {s with heap:=h'} key κ ok) (ov: ∀v∈vs,ok (v,v))
 (h: ∀out:List Value,(∃ l:List Keyed,l.Perm (vs.map fun v=>(v,v))∧UpL key l∧out=l.map (·.2))→Q (.ref (s.heap.objs.size + 1)) {s with heap:=sortedAll s.heap vs out.toArray}):wpAny (model prog w) A (call (.builtin "sorted") [.ref l]) Q E s:=by
 apply Calls.call_function_entry kind_sorted plain_sorted entry_sorted
 · exact args_sorted1 _
 unfold Builtin.«sorted»
 refine wpAny_bind (m:=checkCount "sorted" 1 1 _) (wpAny_pure (wpAny_bind (collect_list hl (wpAny_bind (wpAny_newList ?_ zz)) zz)))
 have hz:((s.heap.push (seqObj "list" #[] 0)).update s.heap.objs.size (Obj.mapSeq (· ++vs.toArray))).objs.size=s.heap.objs.size + 1:=(Heap.size_update ..).trans (size_push' ..)
 have ol:(((s.heap.push (seqObj "list" #[] 0)).update s.heap.objs.size (Obj.mapSeq (· ++vs.toArray))).push (seqObj "list" vs.toArray 0)).get? (s.heap.objs.size + 1)=some (seqObj "list" vs.toArray 0):=hz▸Heap.get?_push_size _ rfl
 change wpAny _ _ _ _ _ {s with heap:=((s.heap.push (seqObj "list" #[] 0)).update s.heap.objs.size (Obj.mapSeq (· ++vs.toArray))).push (seqObj "list" vs.toArray 0)}
 rw [hz]
 refine wpAny_bind (wpAny_holding (wpAny_call_entry slot_list_sort ⟨_,ol,rfl⟩ entry_list_sort (kkl ol h2 zz (hkd _ _ _ ?hh ?hu).1 (hkd _ _ _ ?hh ?hu).2 ov fun out ho=>⟨_,rfl,wpAny_pure ⟨_,rfl,h out ho⟩⟩) (args_list_sort _)))
 case hh=>
  intro b o hb
  have lb:=Heap.lt_size hb
  have n1:b≠s.heap.objs.size:=Nat.ne_of_lt lb
  have n2:b≠s.heap.objs.size + 1:=Nat.ne_of_lt (Nat.lt_succ_of_lt lb)
  unfold kve
  refine Heap.get?_push_of_some _ (Heap.get?_push_of_some _ ?_)
  rw [Heap.get?_update_ne _ _ _ _ n2]
  refine Heap.get?_push_of_some _ ?_
  rw [Heap.get?_update_ne _ _ _ _ n1]
  exact Heap.get?_push_of_some _ hb
 case hu=>exact Nat.le_refl _
end
end L2
set_option maxHeartbeats 4000000
namespace L2
open PySem PySem.Spec PySem.W PySem.Calls PyProof.Rows
section
variable {X:Cx}
end
end L2
namespace L2
open PySem PySem.Spec PyProof.Rows
section
variable {He:Hp} {K:PySem.W.Frag} {ι:Type} {Y:ι→Cx} {e:Expr} {pos p:Pos}
end
end L2
namespace L2
open PySem PySem.Spec PyProof.Rows
section
variable {K:PySem.W.Frag} {R:Hp}
end
section
variable {He:Hp} {K:PySem.W.Frag} {ι:Type} {Y:ι→Cx} {e a b c:Expr} {es:List Expr} {pos:Pos}
end
end L2
namespace L2
open PySem PySem.Spec PyProof.Rows PySem.W PySem.Calls
section
variable {prog:Program} {w:World} {A:Around} {E:Value→Shared→Prop} {s:Shared} {d it:Addr} {es:Array DictEntry} {ep i:Nat}
end
end L2
namespace L2
open PySem PySem.Spec PySem.W PySem.Calls PyProof.Rows
theorem kny {h0 h:Heap} {L D:Addr} {m:Str→Option Value} {news:List (Addr×Obj)} {vs out:List Value} (F:Fr h0 L h m) (N:News h0 L h ((D,listOf vs.toArray 0)::news)) (hD: ∀q∈news,q.1 < D):
 ∃c,Fr h0 L (sortedHeap h D vs out.toArray) m∧News h0 L (sortedHeap h D vs out.toArray) ((D,listOf out.toArray c)::news):=by
 have z:=N _ List.mem_cons_self
 obtain ⟨c,hc⟩:=sortedHeap_at (vs:=vs) (out:=out.toArray) (n:=0) z.1
 refine ⟨c,ksk_fr (((ksk_fr F (Heap.SameBut.update h D _) z.2.1 z.2.2).push _).push _) (Heap.SameBut.update _ D _) z.2.1 z.2.2,fun p hp=> ?_⟩
 rcases List.mem_cons.mp hp with rfl | hp
 · exact ⟨hc,z.2⟩
 · have y:=N p (List.mem_cons_of_mem _ hp)
   exact ⟨(sortedHeap_old (fun e=>absurd (hD p hp) (by rw [e];exact Nat.lt_irrefl _)) (Heap.lt_size y.1)).trans y.1,y.2⟩
theorem kie {α:Type} {f:α→Addr}: ∀l:List α,Vals (l.map fun x=>V.ref (f x)) (l.map fun x=>Value.ref (f x))
 | []=> .nil
 | _::l=> .cons rfl (kie l)
section
variable {X:Cx}
end
section
variable {He:Hp} {K:PySem.W.Frag} {ι:Type} {Y:ι→Cx} {e:Expr} {pos p:Pos}
end
end L2
namespace L2
open PySem PySem.Spec PyProof.Rows
section
variable {He:Hp} {K:PySem.W.Frag} {H0 R H:Hp} {σ:St} {env:List Dt}
end
section
variable {He:Hp} {K:PySem.W.Frag} {ι:Type} {Y:ι→Cx} {e a b c:Expr} {es:List Expr} {pos:Pos}
end
section
variable {He:Hp} {K:PySem.W.Frag} {ι:Type} {Y:ι→Cx} {e:Expr} {es:List Expr} {pos p:Pos} {prog:Program} {w:World} {mg:Str→Option Value} {base:Heap} {x:Str} {k:Nat} {ps:List Str} {P:List PyData→(Dt→Prop)→Prop} {t:Dq}
theorem SlotR.old {H0 H1 R H:Hp} {v:Option V} {d:Dt} (h:SlotR K H1 R H v d) (s:Same H0 H1):SlotR K H0 R H v d:=by
 cases d with
 | un=>cases v <;> trivial
 | d y=>cases v <;> exact h
 | o xs=>cases v with
   | none=>exact h
   | some v=>obtain ⟨a,ys,h1,h2,h3,h4,h5⟩:=h;exact ⟨a,ys,h1,h2,h3,s.free h4,h5⟩
 | dk xs=>cases v with
   | none=>exact h
   | some v=>obtain ⟨a,ys,h1,h2,h3,h4,h5⟩:=h;exact ⟨a,ys,h1,h2,h3,s.free h4,h5⟩
 | dt xs=>cases v with
   | none=>exact h
   | some v=>obtain ⟨a,ys,h1,h2,h3,h4,h5⟩:=h;exact ⟨a,ys,h1,h2,h3,s.free h4,h5⟩
 | dv xs=>cases v with
   | none=>exact h
   | some v=>obtain ⟨a,ys,h1,h2,h3,h4,h5⟩:=h;exact ⟨a,ys,h1,h2,h3,s.free h4,h5⟩
 | oo xs=>cases v with
   | none=>exact h
   | some v=>obtain ⟨a,ys,h1,h2,h3,h4,h5,h6⟩:=h;exact ⟨a,ys,h1,h2,h3,s.free h4,Paired.mapP h5 fun _ _ ⟨b,zs,k1,k2,k3,k4,k5⟩=>⟨b,zs,k1,k2,k3,s.free k4,k5⟩,h6⟩
noncomputable def knz (i:Nat) (P:List PyData→(Dt→Prop)→Prop) (t:Dq):Ds:=fun D env=>t env fun ds=>P ds fun dt=>D.nx (env.set i dt)
theorem krd (i:Nat) {y:Str} {pos':Pos} {cp:Pos} (hN: ∀j,(Y j).N.Nodup) (G:Fn prog w K mg base x k ps (spG K P)) (hr: ∀i,Room k (Y i).A) (ha:DA He K Y (e::es) t) (hi:autoParam (∀ j,(Y j).N[i]?=some y) u3._auto_1) (hx:autoParam (∀ j,Loc (Y j).env.scope y) u12._auto_1)
 (hX:autoParam (∀ i,(Y i).prog=prog∧(Y i).w=w∧(Y i).K=K∧(Y i).mg=mg∧(Y i).base=base) u11._auto_1) (hg:autoParam (∀ i,Gl (Y i) x) u3._auto_1)
 (hdb:autoParam ((x == ("__debug__":Str))=false) u2._auto_1) (he:autoParam (∀ i,starEach (e::es) (Y i).env=(false,eval e (Y i).env)::starEach es (Y i).env) u3._auto_1) (hpl:autoParam (∀ i,(backTo cp (starEach es (Y i).env)).any (·.1)=false) u3._auto_1)
 (hs:autoParam (∀ j,swapsWith (.Call (.Name x p) (e::es) [] cp) (some (.Name y pos')) pos.line (Y j).env=pure false) u3._auto_1) (hf:autoParam (∀ j,(Y j).fn y=true∨(Y j).env.scope.names.lookup y=some .local) u13._auto_1):
 DS He K Y (.Assign [.Name y pos'] (.Call (.Name x p) (e::es) [] cp) pos) (knz i P t):=by
 obtain ⟨te,h1,h2⟩:=ha
 refine ⟨kxn (tFnG K P te) (kmk i),fun j=>ka9 (hN j) (hi j) (hx j) ?_ (hs j) (hf j),fun D E F s c pp=>h2 _ _ F pp fun ds vs R1 H1 q1 e1 r1=>⟨R1,ds,_,e1.wd,r1,q1,fun dt v R' H' q ex sl=> ?_⟩⟩
 · obtain ⟨a1,a2,a3,a4,a5⟩:=hX j
   subst a1 a2 a3 a4 a5
   exact kne G (hr j) (h1 j) rfl (hg j) hdb (he j) (hpl j)
 · have e2:=e1.trans ex
   refine c.nx _ _ _ _ q (s.trans e2.rr) (F.setN' e2 i ?_ fun b hb=> ?_)
   · exact sl.old (F.ext.hh.trans e1.hh)
   · obtain ⟨_,_,_,z⟩:=sl.hasAt hb
     exact e1.hh.free z
end
end L2
namespace L2
open PySem PySem.Spec PySem.W PySem.Calls PyProof.Rows
section
variable {prog:Program} {w:World} {A:Around} {E:Value→Shared→Prop} {s:Shared}
end
section
variable {X:Cx} {pos:Pos}
theorem kgl (K:PySem.W.Frag) (hK:X.K=K):CallR X (.builtin "sorted") (fun xs H Q=>∃(p:Addr) (ns:List Int),xs=[.ref p]∧SqL K H p (ns.map V.int)∧ns.length < 64∧∀(l:Addr) (ms:List Int),H l=none→ms.Perm ns→ms.Pairwise (· ≤ ·)→Q (.ref l) (upd H l (.lst (ms.map V.int)))):=by
 subst hK
 intro pins s σ H xs us Q I r h
 obtain ⟨p,ns,rfl,hq,h64,k⟩:=h
 obtain ⟨u,rfl,r1⟩:=kd6 r
 cases (show u=Value.ref p from r1)
 obtain ⟨its,rv,pl,hz⟩:=I.list hq
 have hi:=kg6 rv
 refine sorted_ints pl.isList hi (by rw [← rv.length,List.length_map];exact h64) fun out ms h1 h2 h3=> ?_
 obtain ⟨e,at_⟩:=sortedAll_at s.heap its out
 have hf:H (s.heap.objs.size + 1)=none:=I.hok.fresh (Nat.le_succ _)
 refine ⟨.ref (s.heap.objs.size + 1),upd H (s.heap.objs.size + 1) (.lst (ms.map V.int)),?_,rfl,k _ ms hf h2 h3⟩
 exact I.laid (t':=s.toks) (fun b o e=>sortedAll_old e) (Nat.le_succ _) ⟨by rw [List.length_map,h2.length_eq,sizeLine_eq];lia,out.toList,e,kfw h1,by rw [Array.toArray_toList];exact at_⟩
end
section
variable {He:Hp} {K:PySem.W.Frag} {ι:Type} {Y:ι→Cx} {e a b:Expr} {pos p:Pos}
noncomputable def kkm (t:Dq):Dq:=fun env P=>t env fun xs=>∃ns:List Int,xs=ns.map PyData.int∧ns.length < 64∧∀ms:List Int,ms.Perm ns→ms.Pairwise (· ≤ ·)→P (ms.map PyData.int)
theorem kre {t:Dq} (h:DL He K Y e t) (hm: ∀i,(Y i).mg "sorted"=none) (hg:autoParam (∀ i,Gl (Y i) "sorted") u3._auto_1) (hK:autoParam (∀ i,(Y i).K=K) u3._auto_1) (hs:autoParam (∀ i,starEach [e] (Y i).env=[(false,eval e (Y i).env)]) u3._auto_1):
 DO He K Y (.Call (.Name "sorted" p) [e] [] pos) (kkm t):=by
 obtain ⟨te,h1,h2⟩:=h
 refine ⟨_,fun i=>kbf (kgl K (hK i)) (hg i) (hm i) kc8 (kab (h1 i) kai (hs i)) (by decide) (by decide) (hs i) rfl,fun P Q F p k=>h2 _ _ F p fun ds a ys R1 H1 pd e1 ha r1=> ?_⟩
 obtain ⟨ns,rfl,h64,kk⟩:=pd
 refine ⟨a,ns,rfl,by rw [← r1.ints_inv];exact SqL.of ha,h64,fun l ms hn hp hs=> ?_⟩
 exact k _ l _ R1 _ (kk _ hp hs) (e1.trans (Ext.newO e1.wd hn trivial)) (e1.hh.free hn) kad (e1.wd.rh.free hn) (RpAll.ints ms)
end
end L2
namespace L2
open PySem PySem.Spec PySem.W PySem.Calls PyProof.Rows
section
variable {X:Cx}
end
section
variable {X:Cx} {e:Expr} {es:List Expr} {pos p2:Pos}
end
section
variable {He:Hp} {K:PySem.W.Frag} {ι:Type} {Y:ι→Cx} {e a b:Expr} {es:List Expr} {pos p p2 apos cpos:Pos} {lo hi:Option Expr}
end
end L2
namespace L2
open PySem PySem.Spec PySem.W PySem.Calls PyProof.Rows
section
variable {X:Cx}
end
section
variable {He:Hp} {K:PySem.W.Frag} {ι:Type} {Y:ι→Cx} {e a b tg:Expr} {es:List Expr} {pos p p2:Pos}
end
end L2
namespace L2
open PySem PySem.SetTable
theorem krf {xs:Array Nat} (hs:xs.toList.Pairwise (· < ·)) (j:Nat): ∀fuel lo hi:Nat,hi - lo≤fuel→lo≤hi→hi≤xs.size→(∀ i (h:i < xs.size),i < lo→xs[i] < j)→(∀ i (h:i < xs.size),hi≤i→j≤xs[i])→
 below.go xs j fuel lo hi≤xs.size∧(∀ i (h:i < xs.size),i < below.go xs j fuel lo hi→xs[i] < j)∧∀i (h:i < xs.size),below.go xs j fuel lo hi≤i→j≤xs[i]:=by
 have le: ∀a b (ha:a < xs.size) (hb:b < xs.size),a≤b→xs[a]≤xs[b]:=fun a b ha hb h=>by
  rcases Nat.lt_or_eq_of_le h with h | rfl
  · have:=List.pairwise_iff_getElem.mp hs a b (by simpa using ha) (by simpa using hb) h
    simp only [Array.getElem_toList] at this
    exact Nat.le_of_lt this
  · exact Nat.le_refl _
 intro fuel
 induction fuel with
 | zero=>
   intro lo hi h1 h2 h3 h4 h5
   have:lo=hi:=by lia
   subst this
   exact ⟨h3,h4,h5⟩
 | succ fuel ih=>
   intro lo hi h1 h2 h3 h4 h5
   unfold below.go
   by_cases c:lo < hi
   · rw [if_pos c]
     have hm:(lo + hi) / 2 < xs.size:=by lia
     dsimp only
     rw [show xs.getD ((lo + hi) / 2) j=xs[(lo + hi) / 2] from by simp [hm]]
     by_cases d:xs[(lo + hi) / 2] < j
     · rw [if_pos d]
       exact ih _ _ (by lia) (by lia) h3 (fun i h q=>Nat.lt_of_le_of_lt (le i _ h hm (by lia)) d) h5
     · rw [if_neg d]
       exact ih _ _ (by lia) (by lia) (by lia) h4 fun i h q=>Nat.le_trans (Nat.le_of_not_lt d) (le _ i hm h q)
   · rw [if_neg c]
     have:lo=hi:=by lia
     subst this
     exact ⟨h3,h4,h5⟩
theorem kg9 {xs:Array Nat} (hs:xs.toList.Pairwise (· < ·)) (j:Nat):below xs j≤xs.size∧(∀ i (h:i < xs.size),i < below xs j→xs[i] < j)∧∀i (h:i < xs.size),below xs j≤i→j≤xs[i]:=
 krf hs j _ _ _ (by lia) (Nat.zero_le _) (Nat.le_refl _) (fun i q_ h=>absurd h (Nat.not_lt_zero _)) fun i h q=>absurd h (by lia)
theorem krg {xs:Array Nat} (hs:xs.toList.Pairwise (· < ·)) {j i:Nat} (h:xs[i]?=some j):below xs j=i:=by
 obtain ⟨hi,e⟩:=Array.getElem?_eq_some_iff.mp h
 obtain ⟨a,b,c⟩:=kg9 hs j
 have lt: ∀a b (ha:a < xs.size) (hb:b < xs.size),a < b→xs[a] < xs[b]:=fun a b ha hb h=>by
  have:=List.pairwise_iff_getElem.mp hs a b (by simpa using ha) (by simpa using hb) h
  simpa only [Array.getElem_toList] using this
 rcases Nat.lt_trichotomy (below xs j) i with z | z | z
 · have h1:=c (below xs j) (by lia) (Nat.le_refl _)
   have h2:=lt _ _ (by lia) hi z
   lia
 · exact z
 · have:=b i hi z
   lia
noncomputable abbrev kdf:=Nat×(Int×Value)
structure TbR (t:SetTable) (es:Array (Int×Value)) (R:List kdf):Prop where
 p:t.place.toList=R.map (·.1)
 e:es.toList=R.map (·.2)
 d:t.dummies= #[]
 up:(R.map (·.1)).Pairwise (· < ·)
 le: ∀r∈R,r.1≤t.mask
theorem TbR.slot_live {t:SetTable} {es:Array (Int×Value)} {R:List kdf} (T:TbR t es R) {i:Nat} {r:kdf} (h:R[i]?=some r):t.slot r.1= .live i:=by
 have hp:t.place[i]?=some r.1:=by
  rw [← Array.getElem?_toList,T.p,List.getElem?_map,h];rfl
 have hb:=krg (by rw [T.p];exact T.up) hp
 unfold SetTable.slot
 dsimp only
 rw [hb,hp,if_pos (beq_self_eq_true _)]
theorem TbR.slot_empty {t:SetTable} {es:Array (Int×Value)} {R:List kdf} (T:TbR t es R) {j:Nat} (h: ∀r∈R,r.1≠j):t.slot j= .empty:=by
 unfold SetTable.slot
 dsimp only
 rw [if_neg]
 · rw [T.d]
   rfl
 · intro z
   have z:=eq_of_beq z
   rw [← Array.getElem?_toList,T.p,List.getElem?_map] at z
   obtain ⟨r,hr,e⟩:=Option.map_eq_some_iff.mp z
   exact h r (List.mem_of_getElem? hr) e
noncomputable def adv (m:Nat) (p:Probe):Probe:=
 if p.more > 0 then {p with j:=p.j + 1,more:=p.more - 1} else {p with j:=(leap m p.i p.perturb).1,more:=runEnd m (leap m p.i p.perturb).1 - (leap m p.i p.perturb).1,i:=(leap m p.i p.perturb).1,perturb:=(leap m p.i p.perturb).2}
noncomputable def at0 (m i q:Nat):Probe:=⟨i,runEnd m i - i,i,q,none⟩
noncomputable def pr (m:Nat) (h:Int):Nat→Probe
 | 0=>at0 m (bits h % (m + 1)) (bits h)
 | n + 1=>adv m (pr m h n)
theorem kha (m:Nat) (h:Int): ∀n,(pr m h n).dummy=none
 | 0=>rfl
 | n + 1=>by
   show (adv m (pr m h n)).dummy=none
   unfold adv
   split <;> exact kha m h n
noncomputable def Past (R:List kdf) (m:Nat) (h:Int) (a b:Nat):Prop:=∀q,a≤q→q < b→∃r∈R,r.1=(pr m h q).j∧r.2.1≠h
theorem Past.one {R:List kdf} {m:Nat} {h:Int} {a b:Nat} {r:kdf} (hr:r∈R) (e:r.1=(pr m h a).j) (n:r.2.1≠h) (x:Past R m h (a + 1) b):Past R m h a b:=fun q h1 h2=>by
 rcases Nat.lt_or_eq_of_le h1 with z | rfl
 · exact x q z h2
 · exact ⟨r,hr,e,n⟩
noncomputable def kvf (R:List kdf) (m:Nat) (h:Int) (n fuel:Nat):Option Met→Prop
 | none=>Past R m h n (n + fuel)
 | some (.empty j d)=>d=none∧∃k,n≤k∧j=(pr m h k).j∧(∀ r∈R,r.1≠j)∧Past R m h n k
 | some (.candidate j i next)=>∃k r,n≤k∧j=(pr m h k).j∧R[i]?=some r∧r.1=j∧r.2.1=h∧next=pr m h (k + 1)∧Past R m h n k
theorem kyv {t:SetTable} {es:Array (Int×Value)} {R:List kdf} (T:TbR t es R) {f:Nat→Int} {h:Int} (hf: ∀i r,R[i]?=some r→f i=r.2.1):
 ∀fuel n,kvf R t.mask h n fuel (probe.go t f h fuel (pr t.mask h n))
 | 0,n=>fun q h1 h2=>by lia
 | fuel + 1,n=>by
   unfold probe.go
   by_cases c: ∃r∈R,r.1=(pr t.mask h n).j
   · obtain ⟨r,hr,e⟩:=c
     obtain ⟨i,hi⟩:=List.mem_iff_getElem?.mp hr
     rw [← e,T.slot_live hi]
     dsimp only
     rw [hf i r hi]
     by_cases d:r.2.1=h
     · rw [d,if_pos (beq_self_eq_true _)]
       exact ⟨n,r,Nat.le_refl _,e,hi,rfl,d,rfl,fun q h1 h2=>by lia⟩
     · rw [if_neg (fun z=>d (eq_of_beq z))]
       have ih:=kyv (h:=h) T hf fuel (n + 1)
       show kvf R t.mask h n (fuel + 1) (probe.go t f h fuel (pr t.mask h (n + 1)))
       revert ih
       generalize probe.go t f h fuel (pr t.mask h (n + 1))=g
       intro ih
       match g,ih with
       | none,ih=>exact Past.one hr e d (by rw [show n + (fuel + 1)=n + 1 + fuel by lia];exact ih)
       | some (.empty j d'),⟨h1,k,h2,h3,h4,h5⟩=>exact ⟨h1,k,by lia,h3,h4,Past.one hr e d h5⟩
       | some (.candidate j i' nx),⟨k,r',h2,h3,h4,h5,h6,h7,h8⟩=>exact ⟨k,r',by lia,h3,h4,h5,h6,h7,Past.one hr e d h8⟩
   · rw [T.slot_empty (fun r hr e=>c ⟨r,hr,e⟩)]
     exact ⟨kha _ _ _,n,Nat.le_refl _,rfl,fun r hr e=>c ⟨r,hr,e⟩,fun q h1 h2=>by lia⟩
noncomputable def OkM (m:Nat):Prop:=m=7∨m=31
noncomputable def lf (m i:Nat):Nat:=(i * 5 + 1) % (m + 1)
noncomputable def itr (m i:Nat):Nat→Nat
 | 0=>i
 | r + 1=>lf m (itr m i r)
theorem all7: ∀i < 8,∀s < 8,∃r < 8,itr 7 i r=s:=by decide +kernel
theorem all31: ∀i < 32,∀s < 32,∃r < 32,itr 31 i r=s:=by decide +kernel
theorem OkM.all {m:Nat} (h:OkM m) {i s:Nat} (hi:i≤m) (hs:s≤m): ∃r,r≤m∧itr m i r=s:=by
 rcases h with rfl | rfl
 · obtain ⟨r,h1,h2⟩:=all7 i (by lia) s (by lia)
   exact ⟨r,by lia,h2⟩
 · obtain ⟨r,h1,h2⟩:=all31 i (by lia) s (by lia)
   exact ⟨r,by lia,h2⟩
noncomputable def adN (m:Nat) (p:Probe):Nat→Probe
 | 0=>p
 | n + 1=>adv m (adN m p n)
theorem khb (m:Nat) (p:Probe) (a:Nat): ∀b,adN m p (a + b)=adN m (adN m p a) b
 | 0=>rfl
 | b + 1=>by show adv m (adN m p (a + b))=adv m _;rw [khb m p a b]
theorem kn0 (m:Nat) (h:Int) (a:Nat): ∀b,pr m h (a + b)=adN m (pr m h a) b
 | 0=>rfl
 | b + 1=>by show adv m (pr m h (a + b))=adv m _;rw [kn0 m h a b]
theorem kfd (m:Nat): ∀(c:Nat) (p:Probe),p.more=c→p.dummy=none→adN m p (c + 1)=at0 m (leap m p.i p.perturb).1 (leap m p.i p.perturb).2
 | 0,p,h,hd=>by
   show adv m p=_
   unfold adv
   rw [if_neg (by lia)]
   unfold at0
   rw [← hd]
 | c + 1,p,h,hd=>by
   have e:adv m p={p with j:=p.j + 1,more:=p.more - 1}:=by unfold adv;rw [if_pos (by lia)]
   rw [show c + 1 + 1=1 + (c + 1) by lia,khb]
   show adN m (adv m p) (c + 1)=_
   rw [e]
   exact kfd m c _ (by show p.more - 1=c;lia) hd
theorem kfy (m i:Nat):runEnd m i - i≤9:=by unfold runEnd;split <;> lia
theorem kn1 (m:Nat) (h:Int): ∀n,(pr m h n).more≤9
 | 0=>kfy _ _
 | n + 1=>by
   show (adv m (pr m h n)).more≤9
   unfold adv
   split
   · have:=kn1 m h n
     dsimp only
     lia
   · exact kfy _ _
theorem kn2 (h:Int):bits h < 2 ^ 64:=by
 unfold bits
 have h1:0≤h % (2 ^ 64:Int):=Int.emod_nonneg _ (by decide)
 have h2:h % (2 ^ 64:Int) < 2 ^ 64:=Int.emod_lt_of_pos _ (by decide)
 lia
theorem kn3 (m:Nat) (h:Int): ∀n,(pr m h n).perturb < 2 ^ 64
 | 0=>kn2 h
 | n + 1=>by
   have ih:=kn3 m h n
   show (adv m (pr m h n)).perturb < 2 ^ 64
   unfold adv
   split
   · exact ih
   · show (pr m h n).perturb / 32 < 2 ^ 64
     lia
noncomputable def trn (m:Nat):Nat→Nat→Nat→Nat×Nat
 | i,q,0=>(i,q)
 | i,q,r + 1=>leap m (trn m i q r).1 (trn m i q r).2
theorem kif (m i q:Nat): ∀r,∃n,n≤10 * r∧adN m (at0 m i q) n=at0 m (trn m i q r).1 (trn m i q r).2
 | 0=>⟨0,Nat.le_refl _,rfl⟩
 | r + 1=>by
   obtain ⟨n,h1,h2⟩:=kif m i q r
   have:=kfy m (trn m i q r).1
   refine ⟨n + ((runEnd m (trn m i q r).1 - (trn m i q r).1) + 1),by lia,?_⟩
   rw [khb,h2]
   exact kfd m _ (at0 m _ _) rfl rfl
theorem kkn (m i q:Nat): ∀r,(trn m i q r).2=q / 32 ^ r
 | 0=>by simp [trn]
 | r + 1=>by
   show (trn m i q r).2 / 32=_
   rw [kkn m i q r,Nat.div_div_eq_div_mul,Nat.pow_succ]
theorem ki8 (m i q a:Nat): ∀b,trn m i q (a + b)=trn m (trn m i q a).1 (trn m i q a).2 b
 | 0=>rfl
 | b + 1=>by
   show leap m (trn m i q (a + b)).1 (trn m i q (a + b)).2=leap m _ _
   rw [ki8 m i q a b]
theorem kko (m i:Nat): ∀r,trn m i 0 r=(itr m i r,0)
 | 0=>rfl
 | r + 1=>by
   show leap m (trn m i 0 r).1 (trn m i 0 r).2=_
   rw [kko m i r]
   simp [leap,itr,lf]
theorem ki9 (m i q:Nat):(leap m i q).1≤m:=by
 have:(i * 5 + 1 + q / 32) % (m + 1) < m + 1:=Nat.mod_lt _ (by lia)
 show (i * 5 + 1 + q / 32) % (m + 1)≤m
 lia
theorem kig {m:Nat} (hm:OkM m) {i q s:Nat} (hi:i≤m) (hq:q < 2 ^ 64) (hs:s≤m): ∃r,r≤13 + m∧(trn m i q r).1=s:=by
 have h13:(trn m i q 13).2=0:=by rw [kkn];exact Nat.div_eq_of_lt (by lia)
 have hi':(trn m i q 13).1≤m:=ki9 m _ _
 obtain ⟨r,h1,h2⟩:=hm.all hi' hs
 exact ⟨13 + r,by lia,by rw [ki8,h13,kko];exact h2⟩
theorem ktb {m:Nat} (hm:OkM m) (h:Int) (n:Nat) {s:Nat} (hs:s≤m): ∃k,n≤k∧k < n + 10 * turns m∧(pr m h k).j=s:=by
 have h1:=kfd m _ (pr m h n) rfl (kha m h n)
 obtain ⟨r,h2,h3⟩:=kig hm (ki9 m (pr m h n).i (pr m h n).perturb) (q:=(leap m (pr m h n).i (pr m h n).perturb).2) (by have:=kn3 m h n;show (pr m h n).perturb / 32 < _;lia) hs
 obtain ⟨k,h4,h5⟩:=kif m (leap m (pr m h n).i (pr m h n).perturb).1 (leap m (pr m h n).i (pr m h n).perturb).2 r
 have:=kn1 m h n
 refine ⟨n + (((pr m h n).more + 1) + k),by lia,by unfold turns;lia,?_⟩
 rw [kn0,khb,h1,h5]
 exact h3
theorem krh {m:Nat} (hm:OkM m) {R:List kdf} {h:Int} {n:Nat} (hl:R.length≤m) (x:Past R m h n (n + 10 * turns m)):False:=by
 have sub:List.range (m + 1) ⊆ R.map (·.1):=fun s hs=>by
  obtain ⟨k,h1,h2,h3⟩:=ktb hm h n (s:=s) (by have:=List.mem_range.mp hs;lia)
  obtain ⟨r,hr,e,_⟩:=x k h1 h2
  exact List.mem_map.mpr ⟨r,hr,e.trans h3⟩
 have:=(List.nodup_range (n:=m + 1)).length_le_of_subset sub
 rw [List.length_range,List.length_map] at this
 lia
theorem kvg (j:Nat):has #[] j=false:=rfl
theorem kkp {α:Type} (xs:Array α) (p:Nat) (x:α):(insertAt xs p x).toList=xs.toList.take p++x::xs.toList.drop p:=by
 unfold insertAt
 simp [List.extract_eq_drop_take]
 exact List.take_of_length_le (by simp)
theorem kyw: ∀{l:List Nat} {j p:Nat},l.Pairwise (· < ·)→(∀ i (h:i < l.length),i < p→l[i] < j)→(∀ i (h:i < l.length),p≤i→j < l[i])→(l.take p++j::l.drop p).Pairwise (· < ·):=fun {l j p} hs h1 h2=>by
 refine List.pairwise_append.mpr ⟨hs.sublist (List.take_sublist _ _),List.pairwise_cons.mpr ⟨fun y hy=> ?_,hs.sublist (List.drop_sublist _ _)⟩,fun a ha b hb=> ?_⟩
 · obtain ⟨i,hi,rfl⟩:=List.mem_drop_iff_getElem.mp hy
   exact h2 (p + i) (by lia) (by lia)
 · obtain ⟨i,hi,rfl⟩:=List.mem_take_iff_getElem.mp ha
   have hlt:=h1 i (by lia) (by lia)
   rcases List.mem_cons.mp hb with rfl | hb
   · exact hlt
   · obtain ⟨k,hk,rfl⟩:=List.mem_drop_iff_getElem.mp hb
     exact Nat.lt_trans hlt (h2 (p + k) (by lia) (by lia))
theorem TbR.put {t:SetTable} {es:Array (Int×Value)} {R:List kdf} (T:TbR t es R) {j:Nat} {x:Int×Value} (hj: ∀r∈R,r.1≠j) (hm:j≤t.mask):
 ∃R',TbR (t.put j).1 (insertAt es (t.put j).2 x) R'∧R'.Perm ((j,x)::R):=by
 obtain ⟨b1,b2,b3⟩:=kg9 (xs:=t.place) (by rw [T.p];exact T.up) j
 refine ⟨R.take (below t.place j)++(j,x)::R.drop (below t.place j),⟨?_,?_,?_,?_,?_⟩,List.perm_middle.trans (by rw [List.take_append_drop])⟩
 · show (insertAt t.place (below t.place j) j).toList=_
   rw [kkp,T.p]
   simp [List.map_take,List.map_drop]
 · show (insertAt es (below t.place j) x).toList=_
   rw [kkp,T.e]
   simp [List.map_take,List.map_drop]
 · show (if has t.dummies j=true then _ else t.dummies)=_
   rw [T.d,kvg]
   rfl
 · have:=kyw (j:=j) (p:=below t.place j) T.up (fun i h hi=>by
    have:=b2 i (by rw [← Array.length_toList,T.p];exact h) hi
    simpa [← T.p] using this) (fun i h hi=>by
    have h':i < t.place.size:=by rw [← Array.length_toList,T.p];exact h
    have h3:=b3 i h' hi
    have e:t.place[i]=(R.map (·.1))[i]:=by simp [← T.p]
    have ne:(R.map (·.1))[i]≠j:=by
     obtain ⟨r,hr,e⟩:=List.mem_map.mp (List.getElem_mem h)
     rw [← e]
     exact hj r hr
    lia)
   simpa [List.map_take,List.map_drop] using this
 · intro r hr
   show r.1≤t.mask
   rcases List.mem_append.mp hr with h | h
   · exact T.le r (List.mem_of_mem_take h)
   · rcases List.mem_cons.mp h with rfl | h
     · exact hm
     · exact T.le r (List.mem_of_mem_drop h)
noncomputable def Rch (R:List kdf) (m:Nat):Prop:=∀r∈R,∃n,r.1=(pr m r.2.1 n).j∧∀q,q < n→∃r'∈R,r'.1=(pr m r.2.1 q).j
theorem Rch.put {R R':List kdf} {m k:Nat} {x:Int×Value} (H:Rch R m) (p:R'.Perm (((pr m x.1 k).j,x)::R)) (hp: ∀q,q < k→∃r'∈R,r'.1=(pr m x.1 q).j):Rch R' m:=fun r hr=>by
 have up: ∀r'∈R,r'∈R':=fun r' h=>p.mem_iff.mpr (List.mem_cons_of_mem _ h)
 rcases List.mem_cons.mp (p.mem_iff.mp hr) with rfl | h
 · exact ⟨k,rfl,fun q hq=>by obtain ⟨r',h1,h2⟩:=hp q hq;exact ⟨r',up _ h1,h2⟩⟩
 · obtain ⟨n,h1,h2⟩:=H r h
   exact ⟨n,h1,fun q hq=>by obtain ⟨r',h3,h4⟩:=h2 q hq;exact ⟨r',up _ h3,h4⟩⟩
theorem kri {m:Nat} (hm:OkM m) (h:Int): ∀n,(pr m h n).j + (pr m h n).more≤m
 | 0=>by
   have:bits h % (m + 1) < m + 1:=Nat.mod_lt _ (by lia)
   show bits h % (m + 1) + (runEnd m _ - _)≤m
   unfold runEnd
   split <;> lia
 | n + 1=>by
   have ih:=kri hm h n
   show (adv m (pr m h n)).j + (adv m (pr m h n)).more≤m
   unfold adv
   split
   · dsimp only
     lia
   · have:=ki9 m (pr m h n).i (pr m h n).perturb
     dsimp only
     unfold runEnd
     split <;> lia
end L2
namespace L2
open PySem PySem.SetTable
theorem win {m:Nat} {h:Int} {n i q:Nat} (e:pr m h n=at0 m i q): ∀c,c≤runEnd m i - i→pr m h (n + c)=⟨i + c,runEnd m i - i - c,i,q,none⟩
 | 0,_=>e
 | c + 1,hc=>by
   show adv m (pr m h (n + c))=_
   rw [win e c (by lia)]
   unfold adv
   rw [if_pos (show runEnd m i - i - c > 0 by lia)]
   rfl
noncomputable def Fre (o:Array (Option Nat)) (j:Nat):Bool:=(o.getD j (some 0)).isNone
set_option tactic.hygienic true in
theorem kih {m:Nat} {h:Int} {o:Array (Option Nat)}: ∀(fuel i q n j:Nat),pr m h n=at0 m i q→layClean.free m o fuel i q=some j→∃k,n≤k∧j=(pr m h k).j∧Fre o j=true∧∀a,n≤a→a < k→Fre o (pr m h a).j=false
 | 0,i,q,n,j,e,z=>by cases z
 | fuel + 1,i,q,n,j,e,z=>by
   unfold layClean.free at z
   have w: ∀c,c < runEnd m i + 1 - i→(pr m h (n + c)).j=i + c:=fun c hc=>by
    have hr:i≤runEnd m i:=by unfold runEnd;split <;> lia
    rw [win e c (by lia)]
   split at z
   · rename_i k hk
     obtain ⟨h1,h2,h3⟩:=List.find?_range_eq_some.mp hk
     cases z
     refine ⟨n + k,by lia,(w k (List.mem_range.mp h2)).symm,h1,fun a ha hb=> ?_⟩
     have:=h3 (a - n) (by lia)
     have hw:=w (a - n) (by have:=List.mem_range.mp h2;lia)
     rw [show n + (a - n)=a by lia] at hw
     rw [hw]
     simpa [Fre] using this
   · rename_i hk
     have hk:=List.find?_range_eq_none.mp hk
     have hr:i≤runEnd m i:=by unfold runEnd;split <;> lia
     have e2:pr m h (n + ((runEnd m i - i) + 1))=at0 m (leap m i q).1 (leap m i q).2:=by
      rw [kn0,e]
      exact kfd m _ (at0 m i q) rfl rfl
     obtain ⟨k,h1,h2,h3,h4⟩:=kih fuel _ _ _ j e2 z
     refine ⟨k,by lia,h2,h3,fun a ha hb=> ?_⟩
     by_cases c:a < n + ((runEnd m i - i) + 1)
     · have:=hk (a - n) (by lia)
       have hw:=w (a - n) (by lia)
       rw [show n + (a - n)=a by lia] at hw
       rw [hw]
       simpa [Fre] using this
     · exact h4 a (by lia) hb
set_option tactic.hygienic true in
theorem kij {m:Nat} {o:Array (Option Nat)}: ∀(fuel i q:Nat),layClean.free m o fuel i q=none→∀r,r < fuel→Fre o (trn m i q r).1=false
 | 0,i,q,_,r,hr=>by lia
 | fuel + 1,i,q,z,r,hr=>by
   unfold layClean.free at z
   split at z
   · cases z
   · rename_i hk
     have hk:=List.find?_range_eq_none.mp hk
     cases r with
     | zero=>
       have:=hk 0 (by unfold runEnd;split <;> lia)
       simpa [Fre,trn] using this
     | succ r=>
       have:=kij fuel _ _ z r (by lia)
       rw [show r + 1=1 + r by lia,ki8]
       exact this
structure OwnI (m:Nat) (hs:List Int) (o:Array (Option Nat)) (S:List Nat):Prop where
 sz:o.size=m + 1
 len:S.length=hs.length
 le: ∀s∈S,s≤m
 nd:S.Nodup
 ow: ∀j q:Nat,o[j]?=some (some q)↔S[q]?=some j
 rch: ∀(q:Nat) (h:Int),hs[q]?=some h→∃s n:Nat,S[q]?=some s∧s=(pr m h n).j∧∀a,a < n→(pr m h a).j∈S
theorem OwnI.fre {m:Nat} {hs:List Int} {o:Array (Option Nat)} {S:List Nat} (I:OwnI m hs o S) {j:Nat} (hj:j≤m):Fre o j= !decide (j∈S):=by
 have hlt:j < o.size:=by rw [I.sz];lia
 have eg:o.getD j (some 0)=o[j]:=by simp [hlt]
 unfold Fre
 rw [eg]
 cases h:o[j] with
 | none=>
   have:j ∉ S:=fun z=>by
    obtain ⟨q,hq⟩:=List.mem_iff_getElem?.mp z
    have:=(I.ow j q).mpr hq
    rw [Array.getElem?_eq_getElem hlt,h] at this
    cases this
   simp [this]
 | some q=>
   have:=(I.ow j q).mp (by rw [Array.getElem?_eq_getElem hlt,h])
   simp [List.mem_of_getElem? this]
theorem OwnI.nil (m:Nat):OwnI m [] (Array.replicate (m + 1) none) [] where
 sz:=by simp
 len:=rfl
 le:=fun q_ h=>by cases h
 nd:=List.nodup_nil
 ow:=fun j q=>by
  rw [Array.getElem?_replicate]
  constructor
  · intro h
    split at h <;> cases h
  · intro h
    cases h
 rch:=fun q h e=>by cases e
theorem OwnI.step {m:Nat} (hm:OkM m) {hs:List Int} {o:Array (Option Nat)} {S:List Nat} (I:OwnI m hs o S) (hl:hs.length≤m) (h:Int):
 ∃j,layClean.free m o (turns m) (bits h % (m + 1)) (bits h)=some j∧OwnI m (hs++[h]) (o.setIfInBounds j (some hs.length)) (S++[j]):=by
 cases z:layClean.free m o (turns m) (bits h % (m + 1)) (bits h) with
 | none=>
   exfalso
   have hz:=kij _ _ _ z
   have sub:List.range (m + 1) ⊆ S:=fun s hs'=>by
    have hs':s≤m:=by have:=List.mem_range.mp hs';lia
    obtain ⟨r,h1,h2⟩:=kig hm (i:=bits h % (m + 1)) (q:=bits h) (by have:bits h % (m + 1) < m + 1:=Nat.mod_lt _ (by lia);lia) (kn2 h) hs'
    have:=hz r (by unfold turns;lia)
    rw [h2,I.fre hs'] at this
    simpa using this
   have:=(List.nodup_range (n:=m + 1)).length_le_of_subset sub
   rw [List.length_range,I.len] at this
   lia
 | some j=>
   obtain ⟨k,_,h2,h3,h4⟩:=kih _ _ _ 0 j rfl z
   have hjm:j≤m:=by have:=kri hm h k;lia
   have hj:j ∉ S:=by rw [I.fre hjm] at h3;simpa using h3
   have hjs:j < o.size:=by rw [I.sz];lia
   refine ⟨j,rfl,⟨by simp [I.sz],by simp [I.len],?_,?_,?_,?_⟩⟩
   · intro s hs'
     rcases List.mem_append.mp hs' with x | x
     · exact I.le s x
     · rw [List.mem_singleton.mp x];exact hjm
   · exact List.nodup_append.mpr ⟨I.nd,by simp,fun a ha b hb=>by rw [List.mem_singleton.mp hb];exact fun e=>hj (e▸ha)⟩
   · intro j' q
     rw [Array.getElem?_setIfInBounds]
     by_cases e:j=j'
     · subst e
       rw [if_pos rfl,if_pos hjs,← I.len]
       constructor
       · intro x
         cases x
         exact List.getElem?_concat_length
       · intro x
         have:q=S.length:=by
          rcases Nat.lt_trichotomy q S.length with y | y | y
          · rw [List.getElem?_append_left y] at x
            exact absurd (List.mem_of_getElem? x) hj
          · exact y
          · rw [List.getElem?_eq_none (by simp;lia)] at x
            cases x
         rw [this]
     · rw [if_neg e,I.ow]
       constructor
       · intro x
         rw [List.getElem?_append_left (List.getElem?_eq_some_iff.mp x).1]
         exact x
       · intro x
         rcases Nat.lt_or_ge q S.length with y | y
         · rwa [List.getElem?_append_left y] at x
         · rw [List.getElem?_append_right y] at x
           cases hq:q - S.length with
           | zero=>rw [hq] at x;cases x;exact absurd rfl e
           | succ _=>rw [hq] at x;cases x
   · intro q h' hq
     rcases Nat.lt_or_ge q hs.length with y | y
     · rw [List.getElem?_append_left y] at hq
       obtain ⟨s,n,a1,a2,a3⟩:=I.rch q h' hq
       exact ⟨s,n,by rw [List.getElem?_append_left (by rw [I.len];exact y)];exact a1,a2,fun a ha=>List.mem_append_left _ (a3 a ha)⟩
     · rw [List.getElem?_append_right y] at hq
       have hq0:q=hs.length:=by
        cases hq':q - hs.length with
        | zero=>lia
        | succ _=>rw [hq'] at hq;cases hq
       subst hq0
       rw [Nat.sub_self] at hq
       cases hq
       refine ⟨j,k,by rw [← I.len];exact List.getElem?_concat_length,h2,fun a ha=>List.mem_append_left _ ?_⟩
       have hp:=kri hm h a
       have:=h4 a (Nat.zero_le _) ha
       rw [I.fre (by lia)] at this
       simpa using this
theorem kkq {m:Nat} (hm:OkM m): ∀(todo hs:List Int) (o:Array (Option Nat)) (S:List Nat),OwnI m hs o S→hs.length + todo.length≤m + 1→
 ∃o' S',todo.foldl (fun acc h=>do
  let (owner,k) ← acc
  let j ← layClean.free m owner (turns m) (bits h % (m + 1)) (bits h)
  pure (owner.setIfInBounds j (some k),k + 1)) (some (o,hs.length))=some (o',(hs++todo).length)∧OwnI m (hs++todo) o' S'
 | [],hs,o,S,I,_=>⟨o,S,by simp,by simpa using I⟩
 | h::todo,hs,o,S,I,hl=>by
   obtain ⟨j,h1,h2⟩:=I.step hm (by simp at hl;lia) h
   obtain ⟨o',S',h3,h4⟩:=kkq hm todo (hs++[h]) _ _ h2 (by simp at hl ⊢;lia)
   refine ⟨o',S',?_,by simpa using h4⟩
   rw [List.foldl_cons]
   show List.foldl _ ((layClean.free m o (turns m) (bits h % (m + 1)) (bits h)).bind fun j=>some (o.setIfInBounds j (some hs.length),hs.length + 1)) todo=_
   rw [h1]
   simpa using h3
end L2
namespace L2
open PySem PySem.SetTable
theorem kik {α β:Type} {f:α→Option β} {g:α→β}: ∀{l:List α},(∀ x∈l,f x=some (g x))→l.filterMap f=l.map g
 | [],_=>rfl
 | x::l,h=>by
   rw [List.filterMap_cons,h x List.mem_cons_self,List.map_cons,kik fun y hy=>h y (List.mem_cons_of_mem _ hy)]
theorem krj {m:Nat} (hm:OkM m) {hs:Array Int} (hl:hs.size≤m): ∃o S,layClean m hs=some o∧OwnI m hs.toList o S:=by
 obtain ⟨o,S,h1,h2⟩:=kkq hm hs.toList [] _ _ (OwnI.nil m) (by simp;lia)
 refine ⟨o,S,?_,by simpa using h2⟩
 unfold layClean
 rw [← Array.foldl_toList]
 rw [show (some (Array.replicate (m + 1) none,0):Option (Array (Option Nat)×Nat))=some (Array.replicate (m + 1) none,([]:List Int).length) from rfl,h1]
 rfl
noncomputable def khc (m:Nat) (o:Array (Option Nat)):List (Nat×Nat):=(List.range (m + 1)).filterMap fun j=>(o.getD j none).map (j,·)
theorem keb {m:Nat} {hs:List Int} {o:Array (Option Nat)} {S:List Nat} (I:OwnI m hs o S) {x:Nat×Nat}:x∈khc m o↔S[x.2]?=some x.1:=by
 unfold khc
 rw [List.mem_filterMap]
 constructor
 · rintro ⟨j,hj,e⟩
   obtain ⟨q,hq,rfl⟩:=Option.map_eq_some_iff.mp e
   have hlt:j < o.size:=by rw [I.sz];exact List.mem_range.mp hj
   rw [show o.getD j none=o[j] by simp [hlt]] at hq
   exact (I.ow j q).mp (by rw [Array.getElem?_eq_getElem hlt,hq])
 · intro h
   have hle:=I.le _ (List.mem_of_getElem? h)
   have hlt:x.1 < o.size:=by rw [I.sz];lia
   have:=(I.ow x.1 x.2).mpr h
   rw [Array.getElem?_eq_getElem hlt] at this
   exact ⟨x.1,List.mem_range.mpr (by lia),by rw [show o.getD x.1 none=o[x.1] by simp [hlt],Option.some.inj this];rfl⟩
theorem kn4 (o:Array (Option Nat)): ∀(l:List Nat),l.Pairwise (· < ·)→((l.filterMap fun j=>(o.getD j none).map (j,·)).map (·.1)).Pairwise (· < ·)
 | [],_=>List.Pairwise.nil
 | j::l,h=>by
   have ih:=kn4 o l (List.pairwise_cons.mp h).2
   rw [List.filterMap_cons]
   cases e:o.getD j none with
   | none=>exact ih
   | some q=>
     refine List.pairwise_cons.mpr ⟨fun y hy=> ?_,ih⟩
     obtain ⟨z,hz,rfl⟩:=List.mem_map.mp hy
     obtain ⟨k,hk,e'⟩:=List.mem_filterMap.mp hz
     obtain ⟨q',_,rfl⟩:=Option.map_eq_some_iff.mp e'
     exact (List.pairwise_cons.mp h).1 k hk
theorem krk (n:Nat):(List.range n).Pairwise (· < ·):=List.pairwise_lt_range
theorem kkr: ∀{l:List (Nat×Nat)},(l.map (·.1)).Pairwise (· < ·)→l.Nodup
 | [],_=>List.nodup_nil
 | x::l,h=>by
   rw [List.map_cons] at h
   obtain ⟨h1,h2⟩:=List.pairwise_cons.mp h
   exact List.nodup_cons.mpr ⟨fun z=>Nat.lt_irrefl _ (h1 x.1 (List.mem_map_of_mem z)),kkr h2⟩
theorem kvh {m:Nat} (hm:OkM m) {es:Array (Int×Value)} (hl:es.size≤m) (finger moves:Nat) (led plain:Bool):
 ∃t order R,SetTable.laid m finger moves led plain (es.map (·.1))=some (t,order)∧t.mask=m∧t.led=led∧t.plain=plain∧t.moves=moves∧TbR t (order.filterMap (es[·]?)) R∧Rch R m∧(R.map (·.2)).Perm es.toList:=by
 obtain ⟨o,S,h1,I⟩:=krj hm (hs:=es.map (·.1)) (by simpa using hl)
 have hS:S.length=es.size:=by rw [I.len];simp
 have up:=kn4 o (List.range (m + 1)) (krk _)
 let gv:Nat×Nat→Int×Value:=fun x=>es.getD x.2 (0,.none)
 have hq: ∀x∈khc m o,x.2 < es.size:=fun x hx=>by
  have:=(List.getElem?_eq_some_iff.mp ((keb I).mp hx)).1
  lia
 have hg: ∀x∈khc m o,es[x.2]?=some (gv x):=fun x hx=>by
  have:=hq x hx
  simp [gv,this]
 have pm:(khc m o).Perm ((List.range es.size).map fun q=>(S.getD q 0,q)):=by
  refine (List.perm_ext_iff_of_nodup (show (khc m o).Nodup from kkr up) ?_).mpr fun x=> ?_
  · exact List.Pairwise.map _ (fun a b hab e=>hab (Prod.mk.inj e).2) List.nodup_range
  · rw [keb I]
    constructor
    · intro h
      obtain ⟨h2,h3⟩:=List.getElem?_eq_some_iff.mp h
      exact List.mem_map.mpr ⟨x.2,List.mem_range.mpr (by lia),by simp [h2,h3]⟩
    · intro h
      obtain ⟨q,h2,rfl⟩:=List.mem_map.mp h
      have h2:=List.mem_range.mp h2
      have h3:q < S.length:=by lia
      simp [h3]
 refine ⟨_,_,(khc m o).map fun x=>(x.1,gv x),by unfold SetTable.laid;rw [h1];rfl,rfl,rfl,rfl,rfl,⟨?_,?_,rfl,?_,?_⟩,?_,?_⟩
 · show ((khc m o).map (·.1)).toArray.toList=_
   simp
 · show (((khc m o).map (·.2)).toArray.filterMap (es[·]?)).toList=_
   rw [Array.toList_filterMap]
   simp only [List.filterMap_map,List.map_map]
   exact kik hg
 · rw [List.map_map]
   exact up
 · intro r hr
   obtain ⟨x,hx,rfl⟩:=List.mem_map.mp hr
   exact I.le _ (List.mem_of_getElem? ((keb I).mp hx))
 · intro r hr
   obtain ⟨x,hx,rfl⟩:=List.mem_map.mp hr
   obtain ⟨s,n,a1,a2,a3⟩:=I.rch x.2 (gv x).1 (by rw [Array.getElem?_toList,Array.getElem?_map,hg x hx];rfl)
   have:=(keb I).mp hx
   rw [a1] at this
   cases this
   refine ⟨n,a2,fun a ha=> ?_⟩
   obtain ⟨q,hq'⟩:=List.mem_iff_getElem?.mp (a3 a ha)
   exact ⟨_,List.mem_map_of_mem ((keb I (x:=((pr m (gv x).1 a).j,q))).mpr hq'),rfl⟩
 · rw [List.map_map]
   refine (pm.map _).trans ?_
   rw [List.map_map]
   refine List.Perm.of_eq (List.ext_getElem (by simp) fun i h2 h3=> ?_)
   simp at h2 h3
   simp [gv,h2]
end L2
namespace L2
open PySem PySem.Spec PySem.SetTable
structure Ky (prog:Program) (w:World) (A:Around) (C:Heap→Prop) (x:Value) (h:Int):Prop where
 ref: ∃a,x= .ref a
 hash: ∀(s:Shared) (E:Value→Shared→Prop) (Q:Int→Shared→Prop),C s.heap→(∀ tk,Q h {s with toks:=tk})→wpAny (model prog w) A (pyHash x) Q E s
 quiet: ∀(s:Shared) (E:Value→Shared→Prop) (Q:Bool→Shared→Prop),C s.heap→Q true s→wpAny (model prog w) A (eqIsQuiet 8 x) Q E s
 nocl: ∀(s:Shared) (E:Value→Shared→Prop) (Q:Bool→Shared→Prop),C s.heap→Q false s→wpAny (model prog w) A (ofAClassStatement 8 x) Q E s
 byv: ∀(s:Shared) (E:Value→Shared→Prop) (Q:Bool→Shared→Prop),C s.heap→Q true s→wpAny (model prog w) A (hashByValue 8 x) Q E s
section
variable {prog:Program} {w:World} {A:Around} {C:Heap→Prop} {E:Value→Shared→Prop} {s:Shared}
theorem kbl {α:Type} {M:Model} {c:Prop} [Decidable c] {m1 m2:Sem α} {Q:α→Shared→Prop} (h1:c→wpAny M A m1 Q E s) (h2: ¬c→wpAny M A m2 Q E s):wpAny M A (if c then m1 else m2) Q E s:=by
 by_cases h:c
 · rw [if_pos h];exact h1 h
 · rw [if_neg h];exact h2 h
theorem kvi {x:Value} {h:Int} (kx:Ky prog w A C x h) (c:C s.heap): ∀{ys:List Value} {Q:Bool→Shared→Prop},(∀ y∈ys,∃k,Ky prog w A C y k)→Q false s→wpAny (model prog w) A (searchCouldBeSeen x ys) Q E s:=fun {ys Q} hy hQ=>by
 unfold searchCouldBeSeen
 refine wpAny_bind ?_
 refine wpAny_forIn_list _ (fun kc4 r s'=>r.1=none∧s'=s∧∀y∈kc4,∃k,Ky prog w A C y k) _ ?_ ?_ _ _ ⟨rfl,rfl,hy⟩
 · rintro y kc4 r s' ⟨hr,rfl,hall⟩
   obtain ⟨k,ky⟩:=hall y List.mem_cons_self
   have tl: ∀z∈kc4,∃k,Ky prog w A C z k:=fun z hz=>hall z (List.mem_cons_of_mem _ hz)
   dsimp only
   refine kbl (fun q_=>wpAny_pure ⟨rfl,rfl,tl⟩) fun q_=> ?_
   refine wpAny_bind (kx.quiet _ _ _ c (kbl (fun z=>nomatch z) fun q_=> ?_))
   refine wpAny_bind (ky.quiet _ _ _ c (kbl (fun z=>nomatch z) fun q_=> ?_))
   refine wpAny_bind (kx.nocl _ _ _ c (kbl (fun z=>nomatch z) fun q_=> ?_))
   exact wpAny_bind (ky.nocl _ _ _ c (kbl (fun z=>nomatch z) fun q_=>wpAny_pure ⟨rfl,rfl,tl⟩))
 · rintro ⟨r1,r2⟩ s' ⟨hr,rfl,_⟩
   simp only at hr
   subst hr
   exact wpAny_pure hQ
end
end L2
namespace L2
open PySem PySem.Spec PySem.SetTable
theorem ktc {t:SetTable} {es:Array (Int×Value)} {R:List kdf} (T:TbR t es R) {f:Nat→Int} {h:Int} {p:Probe} {n:Nat} {m:Option Met} (hm:t.probe f h p=m) (hp:p=pr t.mask h n) (hf: ∀i r,R[i]?=some r→f i=r.2.1):
 kvf R t.mask h n (10 * turns t.mask) m:=by
 subst hp
 rw [← hm]
 exact kyv T hf _ n
theorem kvj {α:Type} {o:Option α} (h: ∀m,o=some m→False):o=none:=by
 cases o with
 | none=>rfl
 | some m=>exact (h m rfl).elim
theorem TbR.es_at {t:SetTable} {es:Array (Int×Value)} {R:List kdf} (T:TbR t es R) {i:Nat} {r:kdf} (h:R[i]?=some r):es[i]?=some r.2:=by
 rw [← Array.getElem?_toList,T.e,List.getElem?_map,h];rfl
theorem TbR.size {t:SetTable} {es:Array (Int×Value)} {R:List kdf} (T:TbR t es R):es.size=R.length:=by
 rw [← Array.length_toList,T.e,List.length_map]
theorem TbR.fits {t:SetTable} {es:Array (Int×Value)} {R:List kdf} (T:TbR t es R) (hl:R.length≤t.mask):t.fits es.size=true:=by
 have h1:t.place.size=R.length:=by rw [← Array.length_toList,T.p,List.length_map]
 unfold SetTable.fits SetTable.fill
 rw [T.size,h1,T.d]
 simp [hl]
section
variable {prog:Program} {w:World} {A:Around} {C:Heap→Prop} {E:Value→Shared→Prop} {s:Shared}
noncomputable def Gone (R:List kdf) (m:Nat) (h:Int) (e:Value→Bool) (n:Nat):Prop:=∀q,q < n→∃r∈R,r.1=(pr m h q).j∧(r.2.1=h→e r.2.2=false)
theorem Gone.past {R:List kdf} {m:Nat} {h:Int} {e:Value→Bool} {n k:Nat} (g:Gone R m h e n) (p:Past R m h n k):Gone R m h e k:=fun q hq=>by
 by_cases c:q < n
 · exact g q c
 · obtain ⟨r,h1,h2,h3⟩:=p q (by lia) hq
   exact ⟨r,h1,h2,fun z=>absurd z h3⟩
set_option tactic.hygienic true in
theorem kgm {d:Addr} {o:Obj} {es:Array (Int×Value)} {ep:Nat} {t:SetTable} {R:List kdf} {x:Value} {h:Int} (ho:s.heap.get? d=some o) (hd:o.data= .set es ep t) (T:TbR t es R) (hm:OkM t.mask) (hl:R.length≤t.mask)
 (kx:Ky prog w A C x h) (hk: ∀r∈R,∃k,Ky prog w A C r.2.2 k) (c:C s.heap) {e:Value→Bool} (he: ∀r∈R,SeqAt.EqAt A s r.2.2 x (e r.2.2)) {k0:Nat} (h0: ∀r∈R,r.1≠(pr t.mask h k0).j)
 {Q:SetFound→Shared→Prop} (hT: ∀r∈R,r.2.1=h→e r.2.2=true→Q (.there none) s)
 (hF: ∀k,(∀ r∈R,r.1≠(pr t.mask h k).j)→Gone R t.mask h e k→Q (.free (pr t.mask h k).j false) s):
 ∀(fuel n:Nat) (stand:Option Probe),stand.getD (t.probeStart h)=pr t.mask h n→n≤k0→k0 < n + fuel→Gone R t.mask h e n→wpAny (model prog w) A (setSearchFrom d x h true fuel stand) Q E s
 | 0,n,stand,_,h1,h2,_=>by lia
 | fuel + 1,n,stand,hs,h1,h2,g=>by
   have hfit:=T.fits hl
   unfold setSearchFrom
   refine wpAny_bind (wpAny_setState_of ho hd hfit ?_)
   dsimp only
   refine kbl (fun z=> ?_) fun q_=> ?_
   · exfalso
     unfold SetTable.gaveWay at z
     rcases hm with q | q <;> rw [q] at z <;> exact nomatch z
   have hf: ∀(i:Nat) (r:kdf),R[i]?=some r→((es[i]?.map (·.1)).getD 0)=r.2.1:=fun i r hr=>by rw [T.es_at hr];rfl
   split
   · rename_i met heq
     have mo:=ktc T heq hs hf
     cases met with
     | empty j dm=>
       obtain ⟨rfl,k,a1,a2,a3,a4⟩:=mo
       dsimp only
       subst a2
       exact wpAny_pure (hF k a3 (g.past a4))
     | candidate j i nx=>
       obtain ⟨k,r,a1,a2,a3,a4,a5,a6,a7⟩:=mo
       have hr:=List.mem_of_getElem? a3
       have hk0:k < k0:=by
        rcases Nat.lt_trichotomy k k0 with z | z | z
        · exact z
        · subst z;exact absurd (a4.trans a2) (h0 r hr)
        · obtain ⟨r',b1,b2,_⟩:=a7 k0 h1 z
          exact absurd b2 (h0 r' b1)
       have tail:wpAny (model prog w) A (do
        let equal ← holding [r.2.2] (eqBool r.2.2 x)
        let (es',_,t') ← setState d
        if true && equal then return SetFound.there none
        let some same:=t'.sameMemory t.moves t.mask | unsupported "set.changed-during-lookup:is-the-new-block-at-the-old-address"
        let still ← match (if same then t'.slot j else .empty) with
         | .live i'=>match es'[i']? with
           | some (_,y')=>do pure (if ← isSame y' r.2.2 then some i' else none)
           | none=>pure none
         | _=>pure none
        match still with
        | none=>rule "set.search.anew";setSearchFrom d x h true fuel none
        | some i'=>if equal then return .there (some i') else setSearchFrom d x h true fuel (some nx)) Q E s:=by
        refine wpAny_bind (wpAny_holding (he r hr prog w E _ ?_))
        refine wpAny_bind (wpAny_setState_of ho hd hfit ?_)
        dsimp only
        cases hb:e r.2.2 with
        | true=>exact wpAny_pure (hT r hr a5 hb)
        | false=>
          rw [show t.sameMemory t.moves t.mask=some true by unfold SetTable.sameMemory;rw [if_pos (beq_self_eq_true _)]]
          rw [← a4,T.slot_live a3]
          simp only [Bool.and_false,Bool.false_eq_true,if_false,if_true,T.es_at a3]
          obtain ⟨_,ky⟩:=hk r hr
          obtain ⟨b,hb'⟩:=ky.ref
          rw [hb']
          refine wpAny_bind (wpAny_isSame_ref_self (wpAny_bind (wpAny_pure ?_)))
          exact kgm ho hd T hm hl kx hk c he h0 hT hF fuel (k + 1) (some nx) a6 (by lia) (by lia) fun q hq=>by
           rcases Nat.lt_or_eq_of_le (Nat.le_of_lt_succ hq) with z | rfl
           · exact (g.past a7) q z
           · exact ⟨r,hr,a4.trans a2,fun q_=>hb⟩
       dsimp only
       refine kbl (fun q_=>wpAny_bind (kvi kx c (fun y hy=> ?_) (kbl (fun z=>nomatch z) fun q_=> ?_))) fun q_=> ?_
       · obtain ⟨z,hz,rfl⟩:=List.mem_map.mp hy
         have hz:z∈es.toList:=by simpa using (Array.mem_filter.mp (Array.mem_toList_iff.mp hz)).1
         rw [T.e] at hz
         obtain ⟨r',hr',rfl⟩:=List.mem_map.mp hz
         exact hk r' hr'
       · rw [T.es_at a3]
         exact tail
       · rw [T.es_at a3]
         exact tail
   · rename_i heq
     exact absurd (ktc T (kvj heq) hs hf) (krh hm hl)
end
end L2
namespace L2
open PySem PySem.Spec PySem.SetTable
noncomputable def kw3 (ld:Bool) (hp:Heap) (d:Addr) (R:List kdf):Prop:=
 ∃o es ep t,hp.get? d=some o∧o.ExactSet∧o.data= .set es ep t∧TbR t es R∧Rch R t.mask∧OkM t.mask∧R.length * 5 < t.mask * 3∧t.plain=true∧t.led=ld
section
variable {prog:Program} {w:World} {A:Around} {C:Heap→Prop} {E:Value→Shared→Prop} {s:Shared} {ld:Bool}
theorem kks {hp:Heap} {d:Addr} {o:Obj} {es:Array (Int×Value)} {ep:Nat} {t:SetTable} (ho:hp.get? d=some o) (hd:o.data= .set es ep t) (es':Array (Int×Value)) (t':SetTable):
 (hp.update d (Obj.putSet es' t')).get? d=some {o with data:= .set es' (ep + 1) t'}:=by
 have:=Heap.get?_update_self (Obj.putSet es' t') ho (by rw [putSet_of es' t' hd];rfl)
 rwa [putSet_of es' t' hd] at this
theorem kn5 {d:Addr} {o:Obj} {es:Array (Int×Value)} {ep:Nat} {t:SetTable} {R:List kdf} (ho:s.heap.get? d=some o) (hx:o.ExactSet) (hd:o.data= .set es ep t) (T:TbR t es R) (hl:R.length≤t.mask) (hn:R.length=5) (hp:t.plain=true) (hld:t.led=ld) {Q:Unit→Shared→Prop}
 (hQ: ∀h' R',Heap.SameBut d s.heap h'→kw3 ld h' d R'→(R'.map (·.2)).Perm (R.map (·.2))→Q () {s with heap:=h'}):
 wpAny (model prog w) A (setRelay d (SetTable.grown 5)) Q E s:=by
 have hz:es.size=5:=by rw [T.size,hn]
 obtain ⟨t',order,R',h1,h2,h3,h4,_,T',H',p⟩:=kvh (m:=31) (.inr rfl) (es:=es) (by lia) t.finger (t.movedTo 31) t.led t.plain
 have e1:t.relaid (es.map (·.1)) (SetTable.grown 5)=some (t',order):=h1
 have pl:R'.length=5:=by
  have:=p.length_eq
  simpa [hz] using this
 have hz':(order.filterMap (es[·]?)).size=5:=by rw [T'.size,pl]
 unfold setRelay
 refine wpAny_bind (wpAny_setState_of ho hd (T.fits hl) ?_)
 dsimp only
 refine kbl (fun z=>absurd z (by decide +kernel)) fun q_=> ?_
 rw [e1]
 refine wpAny_bind (show wpAny _ _ (if ((order.filterMap (es[·]?)).size != es.size)=true then (unsupported "internal:set-table-lost-an-element" >>= fun q_=>pure (order.filterMap (es[·]?),t')) else pure (order.filterMap (es[·]?),t')) _ _ _ from ?_)
 refine kbl (fun z=>absurd z (by rw [hz',hz];decide)) fun q_=>wpAny_pure ?_
 dsimp only
 refine wpAny_storeSet_of ho hd (hQ _ R' (Heap.SameBut.update _ _ _) ⟨_,_,_,t',kks ho hd _ _,hx,rfl,T',by rw [h2];exact H',.inr h2,by rw [h2,pl];decide,by rw [h4];exact hp,by rw [h3];exact hld⟩ (p.trans (by rw [T.e]))) (by rw [hz',sizeLine_eq];decide)
theorem kn6 {m:Nat} {R:List kdf} (hl:R.length≤m): ∃j,j≤m∧∀r∈R,r.1≠j:=by
 refine Classical.byContradiction fun z=> ?_
 have sub:List.range (m + 1) ⊆ R.map (·.1):=fun j hj=>Classical.byContradiction fun y=>z ⟨j,by have:=List.mem_range.mp hj;lia,fun r hr e=>y (List.mem_map.mpr ⟨r,hr,e⟩)⟩
 have:=(List.nodup_range (n:=m + 1)).length_le_of_subset sub
 rw [List.length_range,List.length_map] at this
 lia
theorem Gone.none {R:List kdf} {m k:Nat} {h:Int} {e:Value→Bool} (H:Rch R m) (g:Gone R m h e k) (hf: ∀r∈R,r.1≠(pr m h k).j) (up:(R.map (·.1)).Pairwise (· < ·)) (hh: ∀r∈R,e r.2.2=true→r.2.1=h): ∀r∈R,e r.2.2=false:=fun r hr=>by
 cases z:e r.2.2 with
 | false=>rfl
 | true=>
   exfalso
   have hz:=hh r hr z
   obtain ⟨n,h1,h2⟩:=H r hr
   rw [hz] at h1 h2
   rcases Nat.lt_trichotomy n k with y | y | y
   · obtain ⟨r',b1,b2,b3⟩:=g n y
     have:r'=r:=by
      have e1:r'.1=r.1:=b2.trans h1.symm
      obtain ⟨i,hi,rfl⟩:=List.getElem_of_mem b1
      obtain ⟨j,hj,rfl⟩:=List.getElem_of_mem hr
      have pw:=List.pairwise_iff_getElem.mp up
      rcases Nat.lt_trichotomy i j with q | q | q
      · have:=pw i j (by simpa using hi) (by simpa using hj) q
        simp at this;lia
      · subst q;rfl
      · have:=pw j i (by simpa using hj) (by simpa using hi) q
        simp at this;lia
     subst this
     rw [b3 hz] at z
     cases z
   · subst y;exact hf r hr h1
   · obtain ⟨r',b1,b2⟩:=h2 k y
     exact hf r' b1 b2
theorem krl {d:Addr} {R:List kdf} {x:Value} {h:Int} (S:kw3 ld s.heap d R) (hR:R.length≤16) (kx:Ky prog w A C x h) (hk: ∀r∈R,∃k,Ky prog w A C r.2.2 k)
 (c:C s.heap) {e:Value→Bool} (he: ∀r∈R,SeqAt.EqAt A s r.2.2 x (e r.2.2)) (hh: ∀r∈R,e r.2.2=true→r.2.1=h) {Q:Bool→Shared→Prop}
 (h1:(∃ r∈R,e r.2.2=true)→Q false s)
 (h2:(∀ r∈R,e r.2.2=false)→∀h' R',Heap.SameBut d s.heap h'→kw3 ld h' d R'→(R'.map (·.2)).Perm ((h,x)::R.map (·.2))→Q true {s with heap:=h'}):
 wpAny (model prog w) A (setAddHashed d x h) Q E s:=by
 obtain ⟨o,es,ep,t,ho,hx,hd,T,H,hm,hl,hp,hld⟩:=S
 have hl':R.length≤t.mask:=by lia
 have hfit:=T.fits hl'
 obtain ⟨xa,rfl⟩:=kx.ref
 obtain ⟨j0,j1,j2⟩:=kn6 hl'
 obtain ⟨k0,_,k1,k2⟩:=ktb hm h 0 j1
 have k3:k0 < 0 + 100000:=by
  have:10 * turns t.mask≤1000:=by unfold turns;rcases hm with q | q <;> rw [q] <;> decide
  lia
 unfold setAddHashed
 refine wpAny_holding ?_
 show wpAny _ _ (setAddHashedIn d (.ref xa) h (99999 + 1)) _ _ _
 unfold setAddHashedIn
 refine wpAny_bind (wpAny_setState_of ho hd hfit ?_)
 dsimp only
 rw [show byScan (.ref xa) es=false from rfl]
 simp only [Bool.false_eq_true,if_false]
 refine wpAny_bind ?_
 show wpAny _ _ (setSearchFrom d (.ref xa) h true 100000 none) _ _ _
 refine kgm ho hd T hm hl' kx hk c he (k0:=k0) (by rw [k2];exact j2) (fun r hr q_ ht=> ?_) (fun k hf g=> ?_) 100000 0 none rfl (Nat.zero_le _) k3 (fun q hq=>absurd hq (Nat.not_lt_zero _))
 · exact wpAny_pure (h1 ⟨r,hr,ht⟩)
 have hno:=g.none H hf T.up hh
 have hj:(pr t.mask h k).j≤t.mask:=by have:=kri hm h k;lia
 obtain ⟨R',T',p⟩:=T.put (x:=(h,Value.ref xa)) hf hj
 have H':Rch R' t.mask:=H.put (x:=(h,Value.ref xa)) (k:=k) p fun q hq=>by obtain ⟨r,b1,b2,_⟩:=g q hq;exact ⟨r,b1,b2⟩
 have pl:R'.length=R.length + 1:=p.length_eq
 have ps:(R'.map (·.2)).Perm ((h,Value.ref xa)::R.map (·.2)):=p.map (·.2)
 dsimp only
 refine wpAny_bind (wpAny_setState_of ho hd hfit ?_)
 dsimp only
 have hpp:(t.put (pr t.mask h k).j).1.plain=true:=hp
 have hpm:(t.put (pr t.mask h k).j).1.mask=t.mask:=rfl
 rw [hpp]
 simp only [if_true]
 refine wpAny_bind (kx.byv _ _ _ c ?_)
 simp only [if_true]
 have hsz:(insertAt es (t.put (pr t.mask h k).j).2 (h,Value.ref xa)).size≤sizeLine:=by
  rw [T'.size,pl,sizeLine_eq];lia
 refine wpAny_bind (wpAny_storeSet_of ho hd ?_ hsz)
 have ho':=kks ho hd (insertAt es (t.put (pr t.mask h k).j).2 (h,Value.ref xa)) (t.put (pr t.mask h k).j).1
 have sb:=Heap.SameBut.update s.heap d (Obj.putSet (insertAt es (t.put (pr t.mask h k).j).2 (h,Value.ref xa)) (t.put (pr t.mask h k).j).1)
 have hfill:(t.put (pr t.mask h k).j).1.fill=R.length + 1:=by
  unfold SetTable.fill
  rw [T'.d,← Array.length_toList,T'.p,List.length_map,pl]
  rfl
 refine kbl (fun z=> ?_) fun z=> ?_
 · have hz:(R.length + 1) * 5≥t.mask * 3:=by
    simp only [Bool.not_false,Bool.true_and,SetTable.tooFull,hfill,hpm,ge_iff_le,decide_eq_true_eq] at z
    exact z
   have h5:R.length + 1=5:=by rcases hm with q | q <;> rw [q] at hz hl <;> lia
   rw [show es.size + 1=5 by rw [T.size];exact h5]
   refine wpAny_bind (kn5 (R:=R') (o:={o with data:= .set (insertAt es (t.put (pr t.mask h k).j).2 (h,Value.ref xa)) (ep + 1) (t.put (pr t.mask h k).j).1}) ho' hx rfl T' (by rw [pl];show _≤t.mask;rcases hm with q | q <;> rw [q] <;> lia) (by rw [pl];exact h5) hpp hld fun h' R2 sb2 S2 p2=> ?_)
   exact wpAny_pure (h2 hno _ R2 (sb.trans sb2) S2 (p2.trans ps))
 · have hz:(R.length + 1) * 5 < t.mask * 3:=by
    simp only [Bool.not_false,Bool.true_and,SetTable.tooFull,hfill,hpm,ge_iff_le,decide_eq_true_eq] at z
    lia
   exact wpAny_pure (h2 hno _ R' sb ⟨_,_,_,_,ho',hx,rfl,T',H',hm,by rw [pl];exact hz,hpp,hld⟩ ps)
theorem kvk {d:Addr} {R:List kdf} {x:Value} {h:Int} (S:kw3 ld s.heap d R) (hR:R.length≤16) (kx:Ky prog w A C x h) (hk: ∀r∈R,∃k,Ky prog w A C r.2.2 k)
 (c:C s.heap) {e:Value→Bool} (he: ∀r∈R,∀s',C s'.heap→SeqAt.EqAt A s' r.2.2 x (e r.2.2)) (hh: ∀r∈R,e r.2.2=true→r.2.1=h) {Q:Bool→Shared→Prop}
 (h1:(∃ r∈R,e r.2.2=true)→∀tk,Q false {s with toks:=tk})
 (h2:(∀ r∈R,e r.2.2=false)→∀h' R' tk,Heap.SameBut d s.heap h'→kw3 ld h' d R'→(R'.map (·.2)).Perm ((h,x)::R.map (·.2))→Q true {s with heap:=h',toks:=tk}):
 wpAny (model prog w) A (setAdd d x) Q E s:=by
 unfold setAdd
 refine wpAny_holding (wpAny_bind (kx.hash _ _ _ c fun tk=> ?_))
 exact krl (s:={s with toks:=tk}) S hR kx hk c (fun r hr=>he r hr _ c) hh (fun z=>h1 z tk) fun z h' R' sb S' p=>h2 z h' R' tk sb S' p
end
end L2
namespace L2
open PySem PySem.Spec PyProof.Rows
section
variable {prog:Program} {w:World} {A:Around} {R:Result→Shared→Prop} {I:Addr} {fp wr:List Addr} {G:Array GenState→Array GenState→Prop} {n:Nat} {P:Nat→Value→Prop} {St:Nat→Shared→Prop}
theorem kkt (W:WalksS prog w A.in1 I fp wr G n P St) {d:Addr} (hdf:d ∉ fp) {J:Nat→Heap→Prop} (jm: ∀i h h',J i h→(∀ b o,b ∉ wr→h.get? b=some o→h'.get? b=some o)→J i h')
 (js: ∀(i:Nat) (v:Value) (s:Shared) (E:Value→Shared→Prop) (Q:Bool→Shared→Prop),i < n→P i v→J i s.heap→(∀ b h' tk,Heap.SameBut d s.heap h'→J (i + 1) h'→Q b {s with heap:=h',toks:=tk})→wpAny (model prog w) A.in1 (setAdd d v) Q E s):
 ∀(k i:Nat) (s:Shared),n - i=k→i≤n→St i s→J i s.heap→(∀ s',Moved (d::wr) G s s'→J n s'.heap→R (.ok (.ret .none)) s')→codeAny (model prog w) A (.builtin "set.update.loop" ⟨[.ref d,.ref I],[]⟩) R s
 | 0,i,s,hk,hi,st,j,hR=>by
   obtain rfl:i=n:=by lia
   refine codeAny_builtin F.entry_set_update_loop ?_
   rw [Around.under_plainId F.plain_set_update_loop _]
   refine wpAny_bind (W.done s _ _ st fun s' mv=> ?_)
   exact wpAny_pure (hR s' (mv.mono fun b hb=>List.mem_cons_of_mem _ hb) (jm _ _ _ j mv.heap))
 | k + 1,i,s,hk,hi,st,j,hR=>by
   have hlt:i < n:=by lia
   refine codeAny_builtin F.entry_set_update_loop ?_
   rw [Around.under_plainId F.plain_set_update_loop _]
   refine wpAny_bind (W.item i s _ _ hlt st fun v s' hP st' mv=> ?_)
   have j':=jm i _ _ j mv.heap
   refine wpAny_bind (wpAny_holding (wpAny_with_toks (Nat.le_refl s'.toks) ?_))
   refine js i v s' _ _ hlt hP j' fun b h' tk sb jn le=> ?_
   refine wpAny_pure ⟨plainId_quiet F.plain_set_update_loop _,kkt W hdf jm js k (i + 1) _ (by lia) hlt ?_ jn fun s2 mv2 j2=> ?_⟩
   · exact W.frame _ s' h' tk st' le fun b hb o e=>by rw [sb.2 b (fun z=>hdf (z▸hb))];exact e
   · refine hR s2 (Moved.trans W.gtrans ((mv.mono fun b hb=>List.mem_cons_of_mem _ hb).then_heap le fun b o hb e=> ?_) mv2) j2
     rw [sb.2 b (fun z=>hb (by rw [z];exact List.mem_cons_self))];exact e
end
noncomputable abbrev kl2 (w:World):Bool:= !w.params.followText "set-order"
noncomputable abbrev kqa (led:Bool):Obj:={cls:= .type "set",dict:=none,data:= .set #[] 0 (.fresh 0 0 led)}
section
variable {prog:Program} {w:World} {A:Around} {E:Value→Shared→Prop} {s:Shared}
theorem kvl (a:Value) {Q1:Value→Shared→Prop} (h:Q1 (.ref s.heap.objs.size) {s with heap:=s.heap.push (kqa (kl2 w))}):codeAny (model prog w) A (.call (.builtin "set.__new__") ⟨[.type "set",a],[]⟩) (wants Q1 E) s:=by
 refine codeAny_of_tree (show wpAny _ A.in1 (do checkBuiltinCall "set.__new__" ⟨[.type "set",a],[]⟩;again (.builtin "set.__new__" ⟨[.type "set",a],[]⟩)) _ _ s from wpAny_bind (wpAny_of_eq (PySem.F.newCall_set_1 a) (wpAny_pure ⟨plainId_quiet F.plain_set_new _,codeAny_builtin F.entry_set_new ?_⟩)))
 rw [Around.under_plainId F.plain_set_new _]
 unfold Builtin.«set.__new__» Builtin.Frozenset.newClass
 have g:=sub_set_self
 obtain ⟨hp,g0,d,tk,os⟩:=s
 dsimp only
 wp_walk
 refine wpAny_askSetting (wpAny_pure ?_)
 dsimp only
 simp only [newObj]
 exact wpAny_bind (wpAny_alloc (wpAny_pure (wpAny_pure h)))
set_option maxHeartbeats 4000000 in
theorem kn7 {l:Addr} {items:Array Value} {Q:Value→Shared→Prop} {J:Nat→Heap→Prop} (hh:A.handled=none) (hl:s.heap.IsList l items)
 (j0: ∀h',h'.get? s.heap.objs.size=some (kqa (kl2 w))→(∀ b o,s.heap.get? b=some o→h'.get? b=some o)→J 0 h')
 (jm: ∀i h h',J i h→(∀ b o,b≠s.heap.objs.size + 1→h.get? b=some o→h'.get? b=some o)→J i h')
 (js: ∀(i:Nat) (v:Value) (s':Shared) (E:Value→Shared→Prop) (Q:Bool→Shared→Prop),items[i]?=some v→J i s'.heap→(∀ b h' tk,Heap.SameBut s.heap.objs.size s'.heap h'→J (i + 1) h'→Q b {s' with heap:=h',toks:=tk})→wpAny (model prog w) A.in1.in1.in1 (setAdd s.heap.objs.size v) Q E s')
 (q: ∀h' tk,J items.size h'→(∀ b o,b < s.heap.objs.size→s.heap.get? b=some o→h'.get? b=some o)→Q (.ref s.heap.objs.size) {s with heap:=h',toks:=tk}):
 wpAny (model prog w) A (call (.type "set") [.ref l]) Q E s:=by
 obtain ⟨c,tl,hmro⟩:=PySem.F.called_set.mro
 have g1:=PySem.F.called_set.made;have g2:=PySem.F.called_set.sub;have g3:=PySem.F.called_set.notType;have g4:=PySem.F.called_set.canCreate;have g5:=PySem.F.typeCall_set_1 (.ref l)
 refine wpAny_call (codeAny_of_tree (show wpAny _ _ (callAny (.type "set") _) _ _ _ from wpAny_pure ⟨Code.quiet_builtin _ (by decide +kernel),codeAny_builtin PySem.F.entry_type_call ?_⟩))
 rw [Around.under_plain (weight_type_call_type "set" [.ref l] []) rfl]
 repeat (any_goals (first | assumption | wp_step))
 refine codeAny_mono (kvl (.ref l) (E:=E) (Q1:=fun ob s1=>ob= .ref s.heap.objs.size∧s1={s with heap:=s.heap.push (kqa (kl2 w))}) ⟨rfl,rfl⟩) fun r s1 hr=> ?_
 cases r with
 | error e=>exact hr
 | ok fl=>
   cases fl with
   | ret ob=>
     obtain ⟨rfl,rfl⟩:=hr
     have hS:(s.heap.push (kqa (kl2 w))).get? s.heap.objs.size=some (kqa (kl2 w)):=Heap.get?_push_size _ rfl
     have ty:Shared.TypeIs {s with heap:=s.heap.push (kqa (kl2 w))} (.ref s.heap.objs.size) "set":=⟨_,hS,rfl⟩
     have g6:=PySem.F.called_set.init.lookup;have g7:=PySem.F.called_set.init.bind (.ref s.heap.objs.size)
     repeat (any_goals (first | assumption | wp_step))
     refine codeAny_mono (codeAny_call_builtin (R:=wants (fun r s2=>r= .none∧∃h' tk,s2={s with heap:=h',toks:=tk}∧J items.size h'∧∀b o,b < s.heap.objs.size→s.heap.get? b=some o→h'.get? b=some o) E) PySem.F.called_set.init.plain PySem.F.entry_set_init (check_set_init_1 ty ?_)) fun r2 s2 hr2=> ?_
     · obtain ⟨ol,hol,hcl,nl,hdl⟩:=hl
       obtain ⟨_,od,_,osl⟩:=ol
       simp only at hcl hdl
       subst hcl;subst hdl
       have hol':(s.heap.push (kqa (kl2 w))).get? l=some {cls:= .type "list",dict:=od,data:= .seq items nl,slots:=osl}:=Heap.get?_push_of_some _ hol
       have g8:=PySem.F.sub_list_set;have g9:=PySem.F.sub_list_frozenset
       have ne:(Value.type "list" == Value.type "dict")=false:=by decide
       have hl1:(s.heap.push (kqa (kl2 w))).IsList l items:=⟨_,hol',rfl,nl,rfl⟩
       have lS:l < s.heap.objs.size:=Heap.lt_size hol
       unfold Builtin.«set.__init__» noKeywords Builtin.Frozenset.updateFrom
       generalize hPI:pyIter=PI
       wp_walk
       subst hPI
       refine wpAny_pyIter_list hl1 (wpAny_bind (wpAny_runValue ?_))
       have sz:(s.heap.push (kqa (kl2 w))).objs.size=s.heap.objs.size + 1:=Heap.size_push ..
       refine kkt ((Walks.list (A:=A.in1.in1.in1) (by simp [hh]) _ l (by rw [sz];exact Nat.ne_of_lt (Nat.lt_succ_of_lt lS)) items).toS) (d:=s.heap.objs.size) (J:=J) (fun z=>by
        rw [sz] at z
        rcases List.mem_cons.mp z with z | z
        · exact Nat.ne_of_lt (Nat.lt_succ_self _) z
        · exact Nat.ne_of_gt lS (List.mem_singleton.mp z)) (fun i h h' j k=>jm i h h' j fun b o hb=>k b o (by rw [sz];simpa using hb)) (fun i v s' E Q q_ hv j k=>js i v s' E Q hv j k) (items.size - 0) 0 _ (by lia) (Nat.zero_le _)
        ⟨⟨_,Heap.get?_push_size _ rfl,rfl,rfl⟩,(hl1.push _)⟩ (j0 _ (Heap.get?_push_of_some _ hS) fun b o e=>Heap.get?_push_of_some _ (Heap.get?_push_of_some _ e)) ?_
       intro s' mv j
       obtain ⟨h',g',d',tk',os'⟩:=s'
       obtain ⟨m1,m2,m3,m4,_⟩:=mv
       cases m2;cases m3;cases m4
       show wpAny _ _ _ _ _ _
       refine wpAny_pure (show wpAny _ _ (ret Value.none) _ _ _ from wpAny_pure ⟨rfl,h',tk',rfl,j,fun b o hb e=> ?_⟩)
       exact m1 b o (fun z=>by
        rw [sz] at z
        rcases List.mem_cons.mp z with z | z
        · exact Nat.ne_of_lt hb z
        · exact Nat.ne_of_lt (Nat.lt_succ_of_lt hb) (List.mem_singleton.mp z)) (Heap.get?_push_of_some _ (Heap.get?_push_of_some _ e))
     · cases r2 with
       | error e=>exact hr2
       | ok fl2=>
         cases fl2 with
         | ret r=>
           obtain ⟨rfl,h',tk,rfl,jj,kk⟩:=hr2
           repeat (any_goals (first | assumption | wp_step))
           exact q _ _ jj kk
         | _=>exact hr2.elim
   | _=>exact hr.elim
end
end L2
namespace L2
open PySem PySem.Spec PyProof.Rows PySem.SetTable
theorem kgn {α:Type}: ∀(l:List α) (i:Nat) (h:i < l.length),(l[i]::l.eraseIdx i).Perm l
 | _::_,0,_=>List.Perm.refl _
 | x::l,i + 1,h=>(List.Perm.swap ..).trans ((kgn l i (Nat.lt_of_succ_lt_succ h)).cons x)
theorem kn8 {α:Type} (nx:Nat→Nat): ∀(fuel k:Nat) (left:List α) (out:Array α),left.length=fuel→(pickOrder.go nx fuel k left out).toList.Perm (out.toList++left)
 | 0,k,left,out,h=>by
   rw [List.length_eq_zero_iff.mp h,List.append_nil]
   exact List.Perm.refl _
 | fuel + 1,k,left,out,h=>by
   have hlt:nx k % left.length < left.length:=Nat.mod_lt _ (by lia)
   unfold pickOrder.go
   rw [List.getElem?_eq_getElem hlt]
   dsimp only
   refine (kn8 nx fuel (k + 1) _ _ (by rw [List.length_eraseIdx_of_lt hlt];lia)).trans ?_
   rw [Array.toList_push,List.append_assoc]
   exact (kgn left _ hlt).append_left _
theorem kn9 {α:Type} (nx:Nat→Nat) (xs:Array α):(pickOrder nx xs).toList.Perm xs.toList:=by
 have:=kn8 nx xs.size 0 xs.toList #[] (by simp)
 simpa [pickOrder] using this
noncomputable def kdo (w:World) (d:Addr) (es:Array (Int×Value)) (ep:Nat):Array (Int×Value):=if w.params.followText "set-order" then pickOrder (w.params.setOrder d ep) es else es
theorem kku (w:World) (d:Addr) (es:Array (Int×Value)) (ep:Nat):(kdo w d es ep).toList.Perm es.toList:=by
 unfold kdo
 split
 · exact kn9 _ _
 · exact List.Perm.refl _
theorem khd (w:World) (d:Addr) (es:Array (Int×Value)) (ep:Nat):(kdo w d es ep).size=es.size:=by
 have:=(kku w d es ep).length_eq
 simpa using this
noncomputable def kb5 (w:World) (t:SetTable) (i:Nat):Nat:=if w.params.followText "set-order" then 0 else if i=0 then 0 else t.place.getD (i - 1) 0 + 1
structure SAt (w:World) (h:Heap) (d:Addr) (es:Array (Int×Value)) (ep:Nat) (t:SetTable) (R:List kdf):Prop where
 at_:h.get? d=some {cls:= .type "set",dict:=none,data:= .set es ep t,slots:= #[]}
 tb:TbR t es R
 le:R.length≤t.mask
 pl:t.plain=true
 ld:t.led=kl2 w
theorem SAt.lt {w:World} {h:Heap} {d:Addr} {es:Array (Int×Value)} {ep:Nat} {t:SetTable} {R:List kdf} (S:SAt w h d es ep t R):d < h.objs.size:=Heap.lt_size S.at_
theorem SAt.to {w:World} {h h':Heap} {d:Addr} {es:Array (Int×Value)} {ep:Nat} {t:SetTable} {R:List kdf} (S:SAt w h d es ep t R) (k: ∀o,h.get? d=some o→h'.get? d=some o):SAt w h' d es ep t R:=⟨k _ S.at_,S.tb,S.le,S.pl,S.ld⟩
theorem kl3 {t:SetTable} {es:Array (Int×Value)} {R:List kdf} (T:TbR t es R) {i:Nat} (hi:i≤es.size):below t.place (if i=0 then 0 else t.place.getD (i - 1) 0 + 1)=i:=by
 have up:t.place.toList.Pairwise (· < ·):=by rw [T.p];exact T.up
 have hsz:t.place.size=es.size:=by rw [T.size,← Array.length_toList,T.p,List.length_map]
 have lt: ∀a b (ha:a < t.place.size) (hb:b < t.place.size),a < b→t.place[a] < t.place[b]:=fun a b ha hb h=>by
  have:=List.pairwise_iff_getElem.mp up a b (by simpa using ha) (by simpa using hb) h
  simpa only [Array.getElem_toList] using this
 obtain ⟨b1,b2,b3⟩:=kg9 up (if i=0 then 0 else t.place.getD (i - 1) 0 + 1)
 generalize below t.place _=b at b1 b2 b3
 by_cases h0:i=0
 · subst h0
   simp only [if_true] at b2 b3
   cases b with
   | zero=>rfl
   | succ b=>exact absurd (b2 0 (by lia) (by lia)) (Nat.not_lt_zero _)
 · simp only [if_neg h0] at b2 b3
   have hp:i - 1 < t.place.size:=by lia
   rw [show t.place.getD (i - 1) 0=t.place[i - 1] by simp [hp]] at b2 b3
   rcases Nat.lt_trichotomy b i with z | z | z
   · have h1:=b3 (i - 1) hp (by lia)
     lia
   · exact z
   · have h1:=b2 i (by lia) z
     have h2:=lt (i - 1) i hp (by lia) (by lia)
     lia
section
variable {prog:Program} {w:World} {A:Around} {E:Value→Shared→Prop} {s:Shared} {d:Addr} {es:Array (Int×Value)} {ep:Nat} {t:SetTable} {R:List kdf}
theorem kkv (S:SAt w s.heap d es ep t R) {i:Nat} (hi:i≤es.size) {Q:Option (Value×Nat)→Shared→Prop} (q:Q ((kdo w d es ep)[i]?.map fun e=>(e.2,kb5 w t (i + 1))) s):
 wpAny (model prog w) A (setNext d (kb5 w t i) i ep) Q E s:=by
 have hf:=S.tb.fits S.le
 unfold setNext
 refine wpAny_bind (wpAny_setState_of S.at_ rfl hf ?_)
 dsimp only
 unfold setsByText
 refine wpAny_bind (wpAny_bind (wpAny_askSetting (wpAny_pure ?_)))
 show wpAny _ _ (if w.params.followText "set-order"=true then _ else _) _ _ _
 unfold kdo kb5 at q
 cases hb:w.params.followText "set-order" with
 | true=>
   rw [hb] at q
   simp only [if_true] at q ⊢
   rw [if_neg (by simp)]
   refine wpAny_bind ?_
   unfold setWalk setsByText
   refine wpAny_bind (wpAny_setState_of S.at_ rfl hf ?_)
   dsimp only
   refine wpAny_bind (wpAny_bind (wpAny_askSetting (wpAny_pure ?_)))
   show wpAny _ _ (if w.params.followText "set-order"=true then _ else _) _ _ _
   rw [if_pos hb]
   refine wpAny_bind (wpAny_askSetting (wpAny_pure (wpAny_pure ?_)))
   unfold kb5
   rw [if_pos hb]
   exact q
 | false=>
   rw [hb] at q
   simp only [Bool.false_eq_true,if_false] at q ⊢
   refine kbl (fun z=> ?_) fun q_=> ?_
   · have z:(!t.plain && decide (es.size > 1))=true:=z
     rw [S.pl] at z
     exact nomatch z
   refine wpAny_bind (show wpAny _ _ (if (!t.led && !es.isEmpty)=true then unsupported "set:maker-not-led" else pure ()) _ _ _ from kbl (fun z=> ?_) fun q_=>wpAny_pure ?_)
   · rw [S.ld] at z
     unfold kl2 at z
     rw [hb] at z
     exact nomatch z
   unfold kb5
   rw [hb]
   simp only [Bool.false_eq_true,if_false]
   rw [kl3 S.tb hi]
   refine wpAny_pure ?_
   rcases Nat.lt_or_ge i es.size with h | h
   · have hp:i < t.place.size:=by rw [← Array.length_toList,S.tb.p,List.length_map,← S.tb.size];exact h
     rw [Array.getElem?_eq_getElem h,Array.getElem?_eq_getElem hp]
     rw [Array.getElem?_eq_getElem h] at q
     simpa [hp] using q
   · rw [Array.getElem?_eq_none h]
     rw [Array.getElem?_eq_none h] at q
     exact q
end
end L2
namespace L2
open PySem PySem.Spec PyProof.Rows PySem.SetTable
theorem ker:Slot "set_iterator" "__next__" "set_iterator.__next__":= .of (owner:="set_iterator") (n:="__next__") (by rw [typeLookup_type,builtinLookup_eq_fast];kernel_rfl) (by decide +kernel) (by decide +kernel) (by decide +kernel) (by first | exact .inl (by decide +kernel) | exact .inr (by decide +kernel)) (by rw [isSubtype_type];kernel_rfl)
theorem koa:Slot "set_iterator" "__iter__" "set_iterator.__iter__":= .of (owner:="set_iterator") (n:="__iter__") (by rw [typeLookup_type,builtinLookup_eq_fast];kernel_rfl) (by decide +kernel) (by decide +kernel) (by decide +kernel) (by first | exact .inl (by decide +kernel) | exact .inr (by decide +kernel)) (by rw [isSubtype_type];kernel_rfl)
theorem kob:entryFor table "set_iterator.__next__"=some Builtin.«set_iterator.__next__» :=entryFor_of_tree (by kernel_rfl)
theorem kvm:entryFor table "set_iterator.__iter__"=some Builtin.«dict_keyiterator.__iter__» :=entryFor_alias (id':="dict_keyiterator.__iter__") (by kernel_rfl) rfl (by decide +kernel) (by kernel_rfl)
theorem kyx:entryFor table "set.__iter__"=some Builtin.«frozenset.__iter__» :=entryFor_alias (id':="frozenset.__iter__") (by kernel_rfl) rfl (by decide +kernel) (by kernel_rfl)
theorem koc (a:Value):argsOk "set_iterator.__next__" ⟨[a],[]⟩:=by unfold argsOk;kernel_rfl
theorem kvn (a:Value):argsOk "set_iterator.__iter__" ⟨[a],[]⟩:=by unfold argsOk;kernel_rfl
noncomputable def SIt (h:Heap) (it d:Addr) (sl i n ep:Nat):Prop:=h.get? it=some {cls:= .type "set_iterator",dict:=none,data:= .fields #[.int sl 0,.int i 0,.ref d,.int n 0,.int ep 0],slots:= #[]}
section
variable {prog:Program} {w:World} {A:Around} {E:Value→Shared→Prop} {s:Shared} {d it:Addr} {es:Array (Int×Value)} {ep i:Nat} {t:SetTable} {R:List kdf}
theorem SIt.ty {sl n:Nat} (x:SIt s.heap it d sl i n ep):s.TypeIs (.ref it) "set_iterator":=⟨_,x,rfl⟩
theorem kvo (S:SAt w s.heap d es ep t R) (x:SIt s.heap it d (kb5 w t i) i es.size ep) {e:Int×Value} (he:(kdo w d es ep)[i]?=some e) {Q:Option Value→Shared→Prop}
 (q: ∀h',SIt h' it d (kb5 w t (i + 1)) (i + 1) es.size ep→Heap.SameBut it s.heap h'→Q (some e.2) {s with heap:=h'}):wpAny (model prog w) A (pyNext (.ref it)) Q E s:=by
 have hi:i≤es.size:=by
  have:=(Array.getElem?_eq_some_iff.mp he).1
  rw [khd] at this
  lia
 have ty:=x.ty
 have hf:=S.tb.fits S.le
 unfold pyNext
 refine wpAny_bind (wpAny_attempt (wpAny_callSpecial?_slot (name:=Str.ofString "__next__") ty ker (wpAny_call_entry ker ty kob ?_ (koc _))))
 unfold Builtin.«set_iterator.__next__»
 refine wpAny_bind (wpAny_pure ?_)
 refine wpAny_bind (wpAny_fieldsOf x rfl ?_)
 dsimp only
 refine wpAny_bind (wpAny_setEntries_of S.at_ rfl hf ?_)
 refine kbl (fun z=>absurd z (by simp)) fun q_=> ?_
 simp only [Int.toNat_natCast]
 refine wpAny_bind (kkv S hi ?_)
 rw [he]
 dsimp only [Option.map]
 refine wpAny_bind (wpAny_setField_rec x (by simp) fun h1 y1 b1=> ?_)
 refine wpAny_bind (wpAny_setField_rec (s:={s with heap:=h1}) y1 (by simp) fun h2 y2 b2=> ?_)
 exact wpAny_pure ⟨_,rfl,wpAny_pure (q _ (by simpa [SIt,rawInt] using y2) (b1.trans b2))⟩
theorem kyy (hh:A.handled=none) (S:SAt w s.heap d es ep t R) (x:SIt s.heap it d (kb5 w t es.size) es.size es.size ep) {Q:Option Value→Shared→Prop}
 (q: ∀h',Heap.ExtBut it s.heap h'→Q none {s with heap:=h'}):wpAny (model prog w) A (pyNext (.ref it)) Q E s:=by
 have ty:=x.ty
 have hf:=S.tb.fits S.le
 unfold pyNext
 refine wpAny_bind (wpAny_attempt (wpAny_callSpecial?_slot (name:=Str.ofString "__next__") ty ker (wpAny_call_entry ker ty kob ?_ (koc _))))
 unfold Builtin.«set_iterator.__next__»
 refine wpAny_bind (wpAny_pure (wpAny_bind (wpAny_fieldsOf x rfl ?_)))
 dsimp only
 refine wpAny_bind (wpAny_setEntries_of S.at_ rfl hf (kbl (fun z=>absurd z (by simp)) fun q_=> ?_))
 simp only [Int.toNat_natCast]
 refine wpAny_bind (kkv S (Nat.le_refl _) ?_)
 rw [Array.getElem?_eq_none (by rw [khd];exact Nat.le_refl _)]
 dsimp only [Option.map]
 refine wpAny_bind (wpAny_setField_rec x (by simp) fun h1 y1 b1=> ?_)
 refine wpAny_bind ?_
 simp only [newExc,newTuple]
 refine wpAny_bind (wpAny_newObj_type (wpAny_bind (m:=firstArgMember _ _) (wpAny_of_eq (a:=Value.none) (by first | rfl | (simp only [firstArgMember];rfl)) (wpAny_newObj_type ?_ (by size_fits)))) (by size_fits))
 simp only [raiseNew]
 refine wpAny_bind (wpAny_handled ?_)
 rw [show A.in1.handled=none from hh]
 refine wpAny_bind (wpAny_pure (wpAny_throw ?_))
 refine wpAny_bind (wpAny_isInstance (T:="StopIteration") (b:=true) ⟨_,Heap.get?_push_size _ rfl,rfl⟩ isSubtype_stop ?_)
 exact wpAny_pure (q _ ((b1.extBut.push _).push _))
theorem krm (S:SAt w s.heap d es ep t R) {Q:Value→Shared→Prop}
 (q:Q (.ref s.heap.objs.size) {s with heap:=s.heap.push {cls:= .type "set_iterator",data:= .fields #[.int (kb5 w t 0:Nat) 0,.int (0:Nat) 0,.ref d,.int es.size 0,.int ep 0]}}):wpAny (model prog w) A (pyIter (.ref d)) Q E s:=by
 have ty:s.TypeIs (.ref d) "set":=⟨_,S.at_,rfl⟩
 have hf:=S.tb.fits S.le
 have h0:kb5 w t 0=0:=by unfold kb5;split <;> rfl
 rw [h0] at q
 refine wpAny_pyIter_slot ty PySem.F.slot_set_iter (wpAny_call_entry PySem.F.slot_set_iter ty kyx ?_ (PySem.F.args_set_iter_1 _))
 unfold Builtin.«frozenset.__iter__»
 refine wpAny_bind (wpAny_pure ?_)
 unfold Builtin.Frozenset.sizeOf
 refine wpAny_bind (wpAny_bind (wpAny_setEntries_of S.at_ rfl hf (wpAny_pure ?_)))
 refine wpAny_bind ?_
 unfold setDrawn setsByText
 refine wpAny_bind (wpAny_setState_of S.at_ rfl hf (wpAny_bind (wpAny_bind (wpAny_askSetting (wpAny_pure (wpAny_pure ?_))))))
 refine kbl (fun z=> ?_) fun q_=>wpAny_bind (wpAny_pure ?_)
 · have z:(!w.params.followText "set-order" && (!t.plain && decide (es.size > 1)))=true:=z
   rw [S.pl] at z
   simp at z
 refine wpAny_bind (wpAny_setEpoch_of S.at_ rfl hf (wpAny_bind ?_))
 unfold newFields
 exact wpAny_newObj_type (wpAny_pure ⟨_,rfl,"set_iterator",_,⟨_,Heap.get?_push_size _ rfl,rfl⟩,ker.lookup,q⟩)
theorem kvp {sl n:Nat} (x:SIt s.heap it d sl i n ep) {Q:Value→Shared→Prop} (q:Q (.ref it) s):wpAny (model prog w) A (pyIter (.ref it)) Q E s:=
 wpAny_pyIter_slot x.ty koa (wpAny_call_entry koa x.ty kvm (show wpAny _ _ (ret (.ref it)) _ _ s from wpAny_pure ⟨_,rfl,"set_iterator",_,x.ty,ker.lookup,q⟩) (kvn _))
theorem krn (hh:A.handled=none) (I:Addr) (ne:d≠I):Walks prog w A I [I,d] [I] es.size (fun i v=>∃e,(kdo w d es ep)[i]?=some e∧v=e.2) (fun i h=>SIt h I d (kb5 w t i) i es.size ep∧SAt w h d es ep t R):=by
 refine {sub:=fun b hb=>by simp at hb;simp [hb],frame:=fun q_ q_ q_ st k=>⟨k I (by simp) _ st.1,st.2.to fun o e=>k d (by simp) o e⟩,item:=fun i s Q E hi st hQ=> ?_,done:=fun s Q E st hQ=> ?_,self:=fun q_ q_ q_ q_ st hQ=>kvp st.1 hQ}
 · have hi':i < (kdo w d es ep).size:=by rw [khd];exact hi
   refine kvo st.2 st.1 (e:=(kdo w d es ep)[i]) (by simp [hi']) fun h' hit hs=>hQ _ h' s.toks ⟨_,by simp [hi'],rfl⟩ ⟨hit,st.2.to fun o e=>hs.extBut d o ne e⟩ fun b o hb e=>hs.extBut b o (fun z=>hb (by simp [z])) e
 · exact kyy hh st.2 st.1 fun h' he=>hQ h' s.toks fun b o hb e=>he b o (fun z=>hb (by simp [z])) e
theorem kro (ty:s.TypeIs (.ref d) "set") {Q:Bool→Shared→Prop} (q:Q false s):wpAny (model prog w) A (Builtin.List.listLengthHint (.ref d)) Q E s:=by
 unfold Builtin.List.listLengthHint;refine wpAny_bind (wpAny_specialOf ty PySem.F.slot_set_len.lookup ?_)
 generalize hz:("set.__len__":String)=z0
 wp_delta;rw [show splitId z0=some ("set","__len__") from by subst hz;decide +kernel];subst hz
 refine wpAny_bind (wpAny_isInstance (T:="set") (b:=true) ty (by rw [isSubtype_type];kernel_rfl) (kbl (fun z=>absurd z (by decide)) fun q_=>kbl (fun q_=>wpAny_bind (wpAny_typeOf ty ?_)) fun z=>absurd (by decide +kernel) z))
 exact wpAny_pure q
theorem kvq:W.KdlSrc prog w "set" d d es.size (fun i v=>∃e,(kdo w d es ep)[i]?=some e∧v=e.2) (fun h=>SAt w h d es ep t R):=by
 refine {type:=fun q_ x=>⟨_,x.at_,rfl⟩,there:=fun q_ x=>⟨x.lt,x.lt⟩,keep:=fun q_ q_ x k=>x.to fun o e=>k d (.inl rfl) o e,notList:=by decide,notTuple:=by decide,hint:=fun q_ q_ s q_ x q=>kro (s:=s) ⟨_,x.at_,rfl⟩ q,iter:=fun q_ q_ hh x=> ?_}
 exact ⟨_,_,(fun q_ q_ q=>krm x q),krn hh _ (Nat.ne_of_lt x.lt),⟨Heap.get?_push_size _ rfl,x.to fun o e=>Heap.get?_push_of_some _ e⟩⟩
end
end L2
namespace L2
open PySem PySem.Spec PyProof.Rows
noncomputable def TpA (h:Heap) (a:Addr) (its:List Value):Prop:=∃o n,h.get? a=some o∧o.cls= .type "tuple"∧o.data= .seq its.toArray n
section
variable {prog:Program} {w:World} {A:Around} {E:Value→Shared→Prop} {s:Shared} {a b:Addr} {its:List Value}
theorem TpA.ty (x:TpA s.heap a its):s.TypeIs (.ref a) "tuple":=let ⟨o,_,h1,h2,_⟩:=x;⟨o,h1,h2⟩
theorem kdg (x:TpA s.heap a its) (k:Nat) (hq: ∀v∈its,∀(E:Value→Shared→Prop) (Q:Bool→Shared→Prop),Q true s→wpAny (model prog w) A (eqIsQuiet k v) Q E s) {Q:Bool→Shared→Prop} (q:Q true s):wpAny (model prog w) A (eqIsQuiet (k + 1) (.ref a)) Q E s:=by
 have ty:=x.ty
 obtain ⟨o,n,ho,_,hd⟩:=x
 unfold eqIsQuiet
 refine wpAny_bind (wpAny_specialOf ty F.slot_tuple_eq.lookup (show wpAny _ _ (isInstance (.ref a) (.type "tuple") >>= _) _ _ s from wpAny_bind (wpAny_isInstance ty isSubtype_tuple_tuple ?_)))
 refine kbl (fun z=>nomatch z) fun q_=>wpAny_bind (wpAny_seqItems ho hd (wpAny_bind ?_))
 show wpAny _ _ (forIn its.toArray _ _) _ _ s
 rw [← Array.forIn_toList]
 refine wpAny_forIn_list _ (fun kc4 r s'=>r.1=none∧s'=s∧∀v∈kc4,v∈its) _ ?_ ?_ _ _ ⟨rfl,rfl,fun v hv=>by simpa using hv⟩
 · rintro v kc4 r s' ⟨hr,rfl,hall⟩
   exact wpAny_bind (hq v (hall v List.mem_cons_self) _ _ (kbl (fun z=>nomatch z) fun q_=>wpAny_pure ⟨rfl,rfl,fun u hu=>hall u (List.mem_cons_of_mem _ hu)⟩))
 · rintro ⟨r1,r2⟩ s' ⟨hr,rfl,_⟩
   cases (show r1=none from hr)
   exact wpAny_pure q
theorem kja (x:TpA s.heap a its) (k:Nat) (hq: ∀v∈its,∀(E:Value→Shared→Prop) (Q:Bool→Shared→Prop),Q false s→wpAny (model prog w) A (ofAClassStatement k v) Q E s) {Q:Bool→Shared→Prop} (q:Q false s):wpAny (model prog w) A (ofAClassStatement (k + 1) (.ref a)) Q E s:=by
 have ty:=x.ty
 obtain ⟨o,n,ho,_,hd⟩:=x
 unfold ofAClassStatement
 refine wpAny_bind (wpAny_typeOf ty ?_)
 dsimp only
 refine kbl (fun q_=>wpAny_bind (wpAny_pure (kbl (fun z=>nomatch z) fun q_=>wpAny_bind (wpAny_seqItems ho hd ?_)))) fun z=>absurd (by decide) z
 dsimp only
 refine wpAny_bind ?_
 rw [← Array.forIn_toList]
 refine wpAny_forIn_list _ (fun kc4 r s'=>r.1=none∧s'=s∧∀v∈kc4,v∈its) _ ?_ ?_ _ _ ⟨rfl,rfl,fun v hv=>by simpa using hv⟩
 · rintro v kc4 r s' ⟨hr,rfl,hall⟩
   exact wpAny_bind (hq v (hall v List.mem_cons_self) _ _ (kbl (fun z=>nomatch z) fun q_=>wpAny_pure ⟨rfl,rfl,fun u hu=>hall u (List.mem_cons_of_mem _ hu)⟩))
 · rintro ⟨r1,r2⟩ s' ⟨hr,rfl,_⟩
   cases (show r1=none from hr)
   exact wpAny_pure q
theorem kod (x:TpA s.heap a its) (k:Nat) (hq: ∀v∈its,∀(E:Value→Shared→Prop) (Q:Bool→Shared→Prop),Q true s→wpAny (model prog w) A (hashByValue k v) Q E s) {Q:Bool→Shared→Prop} (q:Q true s):wpAny (model prog w) A (hashByValue (k + 1) (.ref a)) Q E s:=by
 have ty:=x.ty
 obtain ⟨o,n,ho,_,hd⟩:=x
 unfold hashByValue
 refine wpAny_bind (wpAny_specialOf ty F.slot_tuple_hash.lookup ?_)
 show wpAny _ _ (seqItems? (.ref a) >>= _) _ _ s
 refine wpAny_bind (wpAny_seqItems ho hd (wpAny_bind ?_))
 show wpAny _ _ (forIn its.toArray _ _) _ _ s
 rw [← Array.forIn_toList]
 refine wpAny_forIn_list _ (fun kc4 r s'=>r.1=none∧s'=s∧∀v∈kc4,v∈its) _ ?_ ?_ _ _ ⟨rfl,rfl,fun v hv=>by simpa using hv⟩
 · rintro v kc4 r s' ⟨hr,rfl,hall⟩
   exact wpAny_bind (hq v (hall v List.mem_cons_self) _ _ (kbl (fun z=>nomatch z) fun q_=>wpAny_pure ⟨rfl,rfl,fun u hu=>hall u (List.mem_cons_of_mem _ hu)⟩))
 · rintro ⟨r1,r2⟩ s' ⟨hr,rfl,_⟩
   cases (show r1=none from hr)
   exact wpAny_pure q
theorem koe (hu:A.units < cLine) (x:TpA s.heap a its) {hs:List Int} (hq:Paired (fun v h=>∀(s':Shared) (E:Value→Shared→Prop) (Q:Int→Shared→Prop),s'.heap=s.heap→(∀ tk,Q h {s' with toks:=tk})→wpAny (model prog w) A.in1 (pyHash v) Q E s') its hs)
 {Q:Int→Shared→Prop} (q: ∀tk,Q (reduceHash (Builtin.Tuple.tupleHashOf hs)) {s with toks:=tk}):wpAny (model prog w) A (pyHash (.ref a)) Q E s:=by
 have ty:=x.ty
 obtain ⟨o,n,ho,_,hd⟩:=x
 unfold pyHash pyHashByItsType
 refine wpAny_bind (wpAny_cRoomFor_or (.inr hu) (wpAny_bind (wpAny_specialOf ty F.slot_tuple_hash.lookup ?_)))
 show wpAny _ _ (if (some (Value.builtin "tuple.__hash__") == some Value.none)=true then _ else _) Q E s
 refine kbl (fun z=>absurd z (by rw [beq_builtin_none];decide)) fun q_=>wpAny_bind (wpAny_specialOf ty F.slot_tuple_hash.lookup ?_)
 show wpAny _ _ (callSpecialIfBoundUnlessNone? (.ref a) "__hash__" _ >>= _) Q E s
 refine wpAny_bind (wpAny_callSpecialIfBoundUnlessNone?_slot ty F.slot_tuple_hash (wpAny_call_entry F.slot_tuple_hash ty F.entry_tuple_hash ?_ (F.args_tuple_hash_1 _)))
 show wpAny _ _ (Builtin.Tuple.tupleItemsOf (.ref a) >>= _) _ _ s
 refine wpAny_bind (wpAny_tupleItemsOf ho hd (wpAny_bind ?_))
 rw [← Array.forIn_toList]
 refine wpAny_forIn_list _ (fun kc4 (b:Array Int) s'=>∃left,b.toList++left=hs∧s'.heap=s.heap∧(∃ tk,s'={s with toks:=tk})∧Paired (fun v h=>∀(s':Shared) (E:Value→Shared→Prop) (Q:Int→Shared→Prop),s'.heap=s.heap→(∀ tk,Q h {s' with toks:=tk})→wpAny (model prog w) A.in1 (pyHash v) Q E s') kc4 left) _ ?_ ?_ _ _ ⟨hs,rfl,rfl,⟨s.toks,rfl⟩,by simpa using hq⟩
 · rintro v kc4 b s' ⟨left,e1,e2,⟨tk,rfl⟩,pl⟩
   cases pl with
   | @cons _ h _ left p1 p2=>
     refine wpAny_bind (p1 _ _ _ e2 fun tk'=> ?_)
     exact wpAny_pure ⟨left,by simpa using e1,rfl,⟨tk',rfl⟩,p2⟩
 · rintro b s' ⟨left,e1,e2,⟨tk,rfl⟩,pl⟩
   cases pl
   rw [List.append_nil] at e1
   show wpAny _ _ (retInt (Builtin.Tuple.tupleHashOf b.toList)) _ _ _
   rw [e1]
   refine wpAny_ret_mkInt ?_
   show wpAny _ _ (if (decide (-(2:Int) ^ 63≤Builtin.Tuple.tupleHashOf hs) && decide (Builtin.Tuple.tupleHashOf hs < 2 ^ 63))=true then _ else _) Q E _
   unfold reduceHash at q
   refine kbl (fun z=> ?_) fun z=> ?_
   · simp only [if_pos z] at q
     exact wpAny_pure (q _)
   · simp only [if_neg z] at q
     exact wpAny_bind (wpAny_rule (wpAny_pure (q _)))
theorem TpA.isT (x:TpA s.heap a its):s.heap.IsTuple a its.toArray:=let ⟨o,n,h1,h2,h3⟩:=x;⟨o,h1,h2,n,h3⟩
theorem kyz {α:Type} [DecidableEq α] (hu:A.units < cLine) {xs ys:List Value} {x y:List α} (ha:TpA s.heap a xs) (hb:TpA s.heap b ys) (lx:xs.length=x.length) (ly:ys.length=y.length) (inj:a=b→x=y)
 (he: ∀(j:Nat) (u v:Value) (p q:α),xs[j]?=some u→ys[j]?=some v→x[j]?=some p→y[j]?=some q→SeqAt.EqAt A.in1 s u v (decide (p=q))):SeqAt.EqAt A s (.ref a) (.ref b) (decide (x=y)):=by
 by_cases hab:a=b
 · rw [inj hab]
   subst hab
   simpa using SeqAt.EqAt.same (A:=A) (s:=s) (.ref a)
 · have h:=SeqAt.RcAt.tuples (e:=fun j=>decide (x[j]?=y[j]?)) ha.isT hb.isT hu fun j h1 h2=>by
    simp only [List.size_toArray] at h1 h2
    have:=he j xs[j] ys[j] (x[j]'(by lia)) (y[j]'(by lia)) (by simp [h1]) (by simp [h2]) (by simp) (by simp)
    simpa [show j < x.length by lia,show j < y.length by lia] using this
   rw [show ((List.range (min xs.toArray.size ys.toArray.size)).all (fun j=>decide (x[j]?=y[j]?)) && xs.toArray.size == ys.toArray.size)=decide (x=y) from ?_] at h
   · exact SeqAt.EqAt.of_refs hab h
   · rw [Bool.eq_iff_iff]
     simp only [Bool.and_eq_true,List.all_eq_true,List.mem_range,decide_eq_true_eq,beq_iff_eq,List.size_toArray]
     constructor
     · rintro ⟨h1,h2⟩
       apply List.ext_getElem?
       intro i
       by_cases hi:i < x.length
       · exact h1 i (by lia)
       · rw [List.getElem?_eq_none (by lia),List.getElem?_eq_none (by lia)]
     · rintro rfl
       exact ⟨fun q_ q_=>rfl,by lia⟩
noncomputable def ltL:List Int→List Int→Bool
 | _,[]=>false
 | [],_::_=>true
 | a::x,b::y=>if a=b then ltL x y else decide (a < b)
theorem ky0 {m k:Int} {x y:List Int} (e:m≠k):ltL (m::x) (k::y)=decide (m < k):=by
 unfold ltL
 rw [if_neg e]
theorem kvr {x y:List Int} (h:x=[]∨y=[]):ltL x y=decide (x.length < y.length):=by
 rcases h with rfl | rfl
 · cases y <;> rfl
 · cases x <;> rfl
theorem ky1 {xs ys:List Value} {x y:List Int} (ha:TpA s.heap a xs) (hb:TpA s.heap b ys) (ix:IntsAre xs x) (iy:IntsAre ys y) (hu:A.units < cLine) {Q:Value→Shared→Prop} (q:Q (.bool (ltL x y)) s):wpAny (model prog w) A (compareOp .Lt (.ref a) (.ref b)) Q E s:=by
 have ta:=ha.ty
 have tb:=hb.ty
 obtain ⟨oa,na,hoa,_,hda⟩:=ha
 obtain ⟨ob,nb,hob,_,hdb⟩:=hb
 show wpAny _ _ (richCompare .Lt (.ref a) (.ref b)) _ _ _
 refine wpAny_richCompare_same_room (op:= .Lt) ta tb F.slot_tuple_lt (wpAny_call_entry F.slot_tuple_lt ta F.entry_tuple_lt ?_ (F.args_tuple_lt_2 _ _)) hu
 show wpAny _ _ (isInstance (.ref b) (.type "tuple") >>= _) _ _ s
 refine wpAny_bind (wpAny_isInstance tb isSubtype_tuple_tuple (kbl (fun z=>nomatch z) fun q_=>wpAny_bind (wpAny_tupleItemsOf hoa hda (wpAny_bind (wpAny_tupleItemsOf hob hdb (wpAny_bind ?_))))))
 refine wpAny_forIn_list _ (fun kc4 r s'=>r.1=none∧s'=s∧∃xs' ys' x' y',kc4=List.zip xs' ys'∧IntsAre xs' x'∧IntsAre ys' y'∧ltL x' y'=ltL x y∧decide (xs'.length < ys'.length)=decide (xs.length < ys.length)) _ ?_ ?_ _ _ ⟨rfl,rfl,xs,ys,x,y,by simp,ix,iy,rfl,rfl⟩
 · rintro ⟨u,v⟩ kc4 r s' ⟨hr,rfl,xs',ys',x',y',hz,ix',iy',h1,h2⟩
   cases ix' with
   | nil=>cases hz
   | cons m t1 ix'=>
     cases iy' with
     | nil=>cases hz
     | cons k t2 iy'=>
       rw [List.zip_cons_cons] at hz
       injection hz with z1 z2
       cases z1
       subst z2
       refine wpAny_bind (wpAny_eqBool_int ?_)
       by_cases e:m=k
       · subst e
         refine kbl (fun z=>absurd z (by simp)) fun q_=>wpAny_pure ⟨rfl,rfl,_,_,_,_,rfl,ix',iy',by rw [← h1];simp [ltL],by rw [← h2];simp⟩
       · refine kbl (fun q_=> ?_) fun z=>absurd (by simp [e]) z
         dsimp only
         refine wpAny_bind (wpAny_rule ?_)
         refine wpAny_bind (show wpAny _ _ (compareOp .Lt (.int m t1) (.int k t2)) _ _ _ from PySem.P.lt_int ?_)
         rw [← h1,ky0 e] at q
         exact wpAny_bind (wpAny_pure (wpAny_pure (wpAny_pure ⟨_,rfl,(fun z=>nomatch z),q⟩)))
 · rintro ⟨r1,r2⟩ s' ⟨hr,rfl,xs',ys',x',y',hz,ix',iy',h1,h2⟩
   cases (show r1=none from hr)
   have hx:xs'=[]∨ys'=[]:=by
    cases xs' with
    | nil=>exact .inl rfl
    | cons _ _=>cases ys' with
      | nil=>exact .inr rfl
      | cons _ _=>cases hz
   have lx:=ix'.length
   have ly:=iy'.length
   have hn:x'=[]∨y'=[]:=by
    rcases hx with rfl | rfl
    · exact .inl (List.length_eq_zero_iff.mp (by simpa using lx.symm))
    · exact .inr (List.length_eq_zero_iff.mp (by simpa using ly.symm))
   rw [← h1,kvr hn,← lx,← ly,h2] at q
   refine wpAny_pure ⟨_,rfl,(fun z=>nomatch z),?_⟩
   simpa [Builtin.Tuple.tupleCompareSizes] using q
end
end L2
namespace L2
open PySem PySem.Spec PyProof.Rows
noncomputable def VwA (h:Heap) (a:Addr) (k:Vw):Prop:=∃tk p q us os,TpA h a [.int k.1 tk,.ref p,.ref q]∧TpA h p us∧IntsAre us k.2.1∧TpA h q os∧IntsAre os k.2.2
theorem TpA.inj {h:Heap} {a:Addr} {x y:List Value} (hx:TpA h a x) (hy:TpA h a y):x=y:=by
 obtain ⟨o,n,h1,_,h3⟩:=hx
 obtain ⟨o',n',h1',_,h3'⟩:=hy
 rw [h1] at h1'
 cases h1'
 rw [h3] at h3'
 injection h3' with z _
 simpa using congrArg Array.toList z
theorem kfe: ∀{vs:List Value} {x y:List Int},IntsAre vs x→IntsAre vs y→x=y
 | _,_,_,.nil,.nil=>rfl
 | _,_,_,.cons n t r,.cons _ _ r'=>by rw [kfe r r']
theorem VwA.inj {h:Heap} {a:Addr} {x y:Vw} (hx:VwA h a x) (hy:VwA h a y):x=y:=by
 obtain ⟨tk,p,q,us,os,h1,h2,h3,h4,h5⟩:=hx
 obtain ⟨tk',p',q',us',os',h1',h2',h3',h4',h5'⟩:=hy
 have e:=h1.inj h1'
 injection e with e1 e2
 injection e2 with e2 e3
 injection e3 with e3 _
 injection e1 with e1 _
 injection e2 with e2
 injection e3 with e3
 subst e2;subst e3
 cases h2.inj h2'
 cases h4.inj h4'
 exact Prod.ext e1 (Prod.ext (kfe h3 h3') (kfe h5 h5'))
theorem TpA.to {h h':Heap} {a:Addr} {x:List Value} (t:TpA h a x) (k: ∀o,h.get? a=some o→o.cls= .type "tuple"→h'.get? a=some o):TpA h' a x:=by
 obtain ⟨o,n,h1,h2,h3⟩:=t
 exact ⟨o,n,k o h1 h2,h2,h3⟩
theorem VwA.to {h h':Heap} {a:Addr} {x:Vw} (t:VwA h a x) (k: ∀b o,h.get? b=some o→o.cls= .type "tuple"→h'.get? b=some o):VwA h' a x:=by
 obtain ⟨tk,p,q,us,os,h1,h2,h3,h4,h5⟩:=t
 exact ⟨tk,p,q,us,os,h1.to (k _),h2.to (k _),h3,h4.to (k _),h5⟩
section
variable {prog:Program} {w:World} {A:Around} {E:Value→Shared→Prop} {s:Shared} {a b:Addr} {its:List Value}
theorem kkw (hu:A.units < cLine) {x:List Int} (t:TpA s.heap a its) (ix:IntsAre its x) {Q:Int→Shared→Prop} (q: ∀tk,Q (ksw x) {s with toks:=tk}):wpAny (model prog w) A (pyHash (.ref a)) Q E s:=by
 refine koe hu t (hs:=x.map hashInt) ?_ q
 clear q t
 induction ix with
 | nil=>exact .nil
 | cons n tk r ih=>exact .cons (fun s' E Q q_ q=>wpAny_pyHash_int (q _)) ih
theorem kjb (p q:Int):(p == q)=decide (p=q):=by
 rw [Bool.eq_iff_iff]
 simp
theorem kkx (hu:A.units < cLine) {x y:List Int} {ts:List Value} (ta:TpA s.heap a its) (ix:IntsAre its x) (tb:TpA s.heap b ts) (iy:IntsAre ts y):SeqAt.EqAt A s (.ref a) (.ref b) (decide (x=y)):=by
 refine kyz hu ta tb ix.length iy.length (fun e=>by subst e;cases ta.inj tb;exact kfe ix iy) fun j u v p q h1 h2 h3 h4=> ?_
 obtain ⟨t1,rfl⟩:=IntsAre.int_at ix j u h1
 obtain ⟨t2,rfl⟩:=IntsAre.int_at iy j v h2
 have e1:x.getD j 0=p:=by rw [List.getD_eq_getElem?_getD,h3];rfl
 have e2:y.getD j 0=q:=by rw [List.getD_eq_getElem?_getD,h4];rfl
 rw [e1,e2]
 rw [← kjb]
 exact SeqAt.EqAt.int_int p t1 q t2
theorem ky2 (hu:A.units + 1 < cLine) {x y:Vw} (ha:VwA s.heap a x) (hb:VwA s.heap b y):SeqAt.EqAt A s (.ref a) (.ref b) (decide (x=y)):=by
 have inj:a=b→x=y:=fun e=>by subst e;exact ha.inj hb
 obtain ⟨tk,p,q,us,os,h1,h2,h3,h4,h5⟩:=ha
 obtain ⟨tk',p',q',us',os',h1',h2',h3',h4',h5'⟩:=hb
 have:=kyz (A:=A) (α:=Int ⊕ List Int) (x:=[.inl x.1,.inr x.2.1,.inr x.2.2]) (y:=[.inl y.1,.inr y.2.1,.inr y.2.2]) (by lia) h1 h1' rfl rfl (fun e=>by rw [inj e]) fun j u v p q i1 i2 i3 i4=>by
  match j,i1,i2,i3,i4 with
  | 0,i1,i2,i3,i4=>
    cases i1;cases i2;cases i3;cases i4
    rw [show decide (Sum.inl (β:=List Int) x.1=Sum.inl y.1)=decide (x.1=y.1) by simp,← kjb]
    exact SeqAt.EqAt.int_int _ _ _ _
  | 1,i1,i2,i3,i4=>
    cases i1;cases i2;cases i3;cases i4
    rw [show decide (Sum.inr (α:=Int) x.2.1=Sum.inr y.2.1)=decide (x.2.1=y.2.1) by simp]
    exact kkx (A:=A.in1) hu h2 h3 h2' h3'
  | 2,i1,i2,i3,i4=>
    cases i1;cases i2;cases i3;cases i4
    rw [show decide (Sum.inr (α:=Int) x.2.2=Sum.inr y.2.2)=decide (x.2.2=y.2.2) by simp]
    exact kkx (A:=A.in1) hu h4 h5 h4' h5'
  | j + 3,i1,_,_,_=>cases i1
 rwa [show decide (([.inl x.1,.inr x.2.1,.inr x.2.2]:List (Int ⊕ List Int))=[.inl y.1,.inr y.2.1,.inr y.2.2])=decide (x=y) from by
  rw [decide_eq_decide]
  simp [Prod.ext_iff]] at this
theorem kda {x:List Int}: ∀{its:List Value},IntsAre its x→∀v∈its,∃n t,v= .int n t:=by
 intro its ix
 induction ix with
 | nil=>intro v hv;cases hv
 | cons n t r ih=>
   intro v hv
   rcases List.mem_cons.mp hv with rfl | hv
   · exact ⟨n,t,rfl⟩
   · exact ih v hv
theorem ky3 (hu:A.units + 1 < cLine) {C:Heap→Prop} {x:Vw} (hC: ∀h,C h→VwA h a x):Ky prog w A C (.ref a) (vwH x) where
 ref:=⟨a,rfl⟩
 hash:=fun s E Q c q=>by
  obtain ⟨tk,p,r,us,os,h1,h2,h3,h4,h5⟩:=hC _ c
  exact koe (by lia) h1 (hs:=[hashInt x.1,ksw x.2.1,ksw x.2.2]) (.cons (fun s' E Q q_ q=>wpAny_pyHash_int (q _)) (.cons (fun s' E Q e q=>kkw (A:=A.in1) hu (e▸h2) h3 q) (.cons (fun s' E Q e q=>kkw (A:=A.in1) hu (e▸h4) h5 q) .nil))) q
 quiet:=fun s E Q c q=>by
  obtain ⟨tk,p,r,us,os,h1,h2,h3,h4,h5⟩:=hC _ c
  refine kdg h1 7 (fun v hv E Q q=> ?_) q
  simp only [List.mem_cons,List.not_mem_nil,or_false] at hv
  rcases hv with rfl | rfl | rfl
  · exact wpAny_of_eq (eqIsQuiet_byValue _ rfl) q
  · exact kdg h2 6 (fun v hv E Q q=>by obtain ⟨n,t,rfl⟩:=kda h3 v hv;exact wpAny_of_eq (eqIsQuiet_byValue _ rfl) q) q
  · exact kdg h4 6 (fun v hv E Q q=>by obtain ⟨n,t,rfl⟩:=kda h5 v hv;exact wpAny_of_eq (eqIsQuiet_byValue _ rfl) q) q
 nocl:=fun s E Q c q=>by
  obtain ⟨tk,p,r,us,os,h1,h2,h3,h4,h5⟩:=hC _ c
  refine kja h1 7 (fun v hv E Q q=> ?_) q
  simp only [List.mem_cons,List.not_mem_nil,or_false] at hv
  rcases hv with rfl | rfl | rfl
  · exact wpAny_pure q
  · exact kja h2 6 (fun v hv E Q q=>by obtain ⟨n,t,rfl⟩:=kda h3 v hv;exact wpAny_pure q) q
  · exact kja h4 6 (fun v hv E Q q=>by obtain ⟨n,t,rfl⟩:=kda h5 v hv;exact wpAny_pure q) q
 byv:=fun s E Q c q=>by
  obtain ⟨tk,p,r,us,os,h1,h2,h3,h4,h5⟩:=hC _ c
  refine kod h1 7 (fun v hv E Q q=> ?_) q
  simp only [List.mem_cons,List.not_mem_nil,or_false] at hv
  rcases hv with rfl | rfl | rfl
  · exact wpAny_pure q
  · exact kod h2 6 (fun v hv E Q q=>by obtain ⟨n,t,rfl⟩:=kda h3 v hv;exact wpAny_pure q) q
  · exact kod h4 6 (fun v hv E Q q=>by obtain ⟨n,t,rfl⟩:=kda h5 v hv;exact wpAny_pure q) q
end
end L2
namespace L2
open PySem PySem.Spec PyProof.Rows PySem.W
structure Ord (α:Type) (lt:α→α→Bool):Prop where
 irr: ∀x,lt x x=false
 tr: ∀x y z,lt x y=true→lt y z=true→lt x z=true
 tot: ∀x y,x≠y→lt x y=true∨lt y x=true
theorem kjc: ∀x:List Int,ltL x x=false
 | []=>rfl
 | a::x=>by unfold ltL;rw [if_pos rfl];exact kjc x
theorem ktd: ∀x y z:List Int,ltL x y=true→ltL y z=true→ltL x z=true
 | _,[],_,h,_=>by cases h':(‹List Int› :List Int) <;> simp_all [ltL]
 | _,_::_,[],_,h=>by simp [ltL] at h
 | [],_::_,_::_,_,_=>rfl
 | a::x,b::y,c::z,h1,h2=>by
   unfold ltL at h1 h2 ⊢
   by_cases e1:a=b
   · subst e1
     rw [if_pos rfl] at h1
     by_cases e2:a=c
     · subst e2
       rw [if_pos rfl] at h2 ⊢
       exact ktd x y z h1 h2
     · rw [if_neg e2] at h2 ⊢
       exact h2
   · rw [if_neg e1] at h1
     have h1:=of_decide_eq_true h1
     by_cases e2:b=c
     · subst e2
       rw [if_neg e1]
       exact decide_eq_true h1
     · rw [if_neg e2] at h2
       have h2:=of_decide_eq_true h2
       rw [if_neg (by lia)]
       exact decide_eq_true (by lia)
theorem kof: ∀x y:List Int,x≠y→ltL x y=true∨ltL y x=true
 | [],[],h=>absurd rfl h
 | [],_::_,_=> .inl rfl
 | _::_,[],_=> .inr rfl
 | a::x,b::y,h=>by
   by_cases e:a=b
   · subst e
     have:=kof x y fun z=>h (by rw [z])
     unfold ltL
     rw [if_pos rfl,if_pos rfl]
     exact this
   · unfold ltL
     rw [if_neg e,if_neg (Ne.symm e)]
     rcases Int.lt_or_lt_of_ne e with z | z
     · exact .inl (decide_eq_true z)
     · exact .inr (decide_eq_true z)
theorem ordL:Ord (List Int) ltL:=⟨kjc,ktd,kof⟩
noncomputable def kvt {α β:Type} [DecidableEq α] (l1:α→α→Bool) (l2:β→β→Bool) (x y:α×β):Bool:=if x.1=y.1 then l2 x.2 y.2 else l1 x.1 y.1
theorem Ord.lex {α β:Type} [DecidableEq α] {l1:α→α→Bool} {l2:β→β→Bool} (h1:Ord α l1) (h2:Ord β l2):Ord (α×β) (kvt l1 l2) where
 irr:=fun x=>by unfold kvt;rw [if_pos rfl];exact h2.irr _
 tr:=fun x y z a b=>by
  unfold kvt at a b ⊢
  by_cases e1:x.1=y.1
  · rw [if_pos e1] at a
    by_cases e2:y.1=z.1
    · rw [if_pos e2] at b
      rw [if_pos (e1.trans e2)]
      exact h2.tr _ _ _ a b
    · rw [if_neg e2] at b
      rw [e1,if_neg e2]
      exact b
  · rw [if_neg e1] at a
    by_cases e2:y.1=z.1
    · rw [← e2,if_neg e1]
      exact a
    · rw [if_neg e2] at b
      have:=h1.tr _ _ _ a b
      rw [if_neg (fun z=>by rw [z,h1.irr] at this;cases this)]
      exact this
 tot:=fun x y h=>by
  unfold kvt
  by_cases e:x.1=y.1
  · rw [if_pos e,if_pos e.symm]
    exact h2.tot _ _ fun z=>h (Prod.ext e z)
  · rw [if_neg e,if_neg (Ne.symm e)]
    exact h1.tot _ _ e
theorem ordI:Ord Int (fun a b=>decide (a < b)):=⟨fun x=>by simp,fun x y z a b=>by simp at a b ⊢;lia,fun x y h=>by simp;lia⟩
noncomputable def ltV:Vw→Vw→Bool:=kvt (fun a b=>decide (a < b)) (kvt ltL ltL)
theorem ky4:Ord Vw ltV:=ordI.lex (ordL.lex ordL)
noncomputable def rk {α:Type} (lt:α→α→Bool) (L:List α) (x:α):Int:=(L.countP fun z=>lt z x:Nat)
theorem kil {α:Type} {p q:α→Bool}: ∀{L:List α} {x:α},x∈L→(∀ z,p z=true→q z=true)→p x=false→q x=true→L.countP p < L.countP q
 | y::L,x,hx,h,hp,hq=>by
   rw [List.countP_cons,List.countP_cons]
   have le:L.countP p≤L.countP q:=List.countP_mono_left fun z q_=>h z
   rcases List.mem_cons.mp hx with rfl | hx
   · rw [hp,hq]
     simp
     lia
   · have ih:=kil hx h hp hq
     have:(if p y=true then 1 else 0)≤(if q y=true then 1 else 0):=by
      by_cases z:p y=true
      · rw [if_pos z,if_pos (h y z)];exact Nat.le_refl _
      · rw [if_neg z];exact Nat.zero_le _
     lia
theorem ky5 {α:Type} {lt:α→α→Bool} (O:Ord α lt) [DecidableEq α] {L:List α} {x y:α} (hx:x∈L) (hy:y∈L):lt x y=decide (rk lt L x < rk lt L y):=by
 have up: ∀x y,x∈L→lt x y=true→rk lt L x < rk lt L y:=fun x y hx h=>by
  unfold rk
  exact Int.ofNat_lt.mpr (kil hx (fun z hz=>O.tr _ _ _ hz h) (O.irr x) h)
 cases h:lt x y with
 | true=>exact (decide_eq_true (up x y hx h)).symm
 | false=>
   refine (decide_eq_false fun z=> ?_).symm
   by_cases e:x=y
   · rw [e] at z;exact Int.lt_irrefl _ z
   · rcases O.tot x y e with q | q
     · rw [h] at q;cases q
     · exact absurd (up y x hy q) (by lia)
section
variable {prog:Program} {w:World} {A:Around} {E:Value→Shared→Prop} {s:Shared} {a b:Addr}
theorem vw_lt (hu:A.units + 1 < cLine) {x y:Vw} (ha:VwA s.heap a x) (hb:VwA s.heap b y) {Q:Bool→Shared→Prop} (q:Q (ltV x y) s):wpAny (model prog w) A (keyLt' (tuples' true) (.ref a) (.ref b)) Q E s:=by
 obtain ⟨tk,p,r,us,os,⟨o1,n1,g1,_,d1⟩,h2,h3,h4,h5⟩:=ha
 obtain ⟨tk',p',r',us',os',⟨o2,n2,g2,_,d2⟩,h2',h3',h4',h5'⟩:=hb
 have hu0:A.units < cLine:=by lia
 unfold ltV kvt at q
 refine kat_lt g1 d1 g2 d2 (kat_cons (wpAny_eqBool_int ?_))
 rw [kjb]
 refine kat_go (fun e1=>kat_yes (kat_cons (kkx hu0 h2 h3 h2' h3' prog w _ _ ?_))) fun e1=>kat_no ?_
 · rw [if_pos (of_decide_eq_true e1)] at q
   refine kat_go (fun e2=>kat_yes (kat_cons (kkx hu0 h4 h5 h4' h5' prog w _ _ ?_))) fun e2=>kat_no (kat_one _ _ ?_)
   · rw [if_pos (of_decide_eq_true e2)] at q
     refine kat_go (fun e3=>kat_yes (kat_nil ?_)) fun e3=>kat_no (kat_one _ _ ?_)
     · rw [of_decide_eq_true e3,kjc] at q
       exact q
     · exact ky1 h4 h4' h5 h5' hu0 q
   · rw [if_neg (of_decide_eq_false e2)] at q
     exact ky1 h2 h2' h3 h3' hu0 q
 · rw [if_neg (of_decide_eq_false e1)] at q
   exact oneLt_int q
end
end L2
set_option maxHeartbeats 4000000
namespace L2
open PySem PySem.Spec PySem.W PySem.Calls PyProof.Rows
theorem khe: ∀{x:List Int} {ts:List Value},Vals (x.map V.int) ts→IntsAre ts x
 | [],_,r=>by cases r;exact .nil
 | n::x,_,r=>by
   rw [List.map_cons] at r
   cases r with
   | cons h t=>
     obtain ⟨tk,rfl⟩:=(show ∃t,_=Value.int n t from h)
     exact .cons n tk (khe t)
theorem kky {P:Program} {w:World} {H:Hp} {h:Heap} {a:Addr} {xs:List V} (ok:HOk P w H h) (e:H a=some (.tup xs)): ∃ts,Vals xs ts∧TpA h a ts:=by
 obtain ⟨_,ts,r,o,h1,h2,n,h3⟩:=(show ObjOk P w H h a (.tup xs) from ok a _ e)
 exact ⟨ts,r,o,n,h1,h2,h3⟩
theorem kgo {P:Program} {w:World} {H:Hp} {h:Heap} {a:Addr} {k:Vw} (ok:HOk P w H h) (v:VwH H a k):VwA h a k:=by
 obtain ⟨p,q,h1,h2,h3⟩:=v
 obtain ⟨ts,r,t1⟩:=kky ok h1
 obtain ⟨us,ru,t2⟩:=kky ok h2
 obtain ⟨os,ro,t3⟩:=kky ok h3
 cases r with
 | cons r1 r=>
   cases r with
   | cons r2 r=>
     cases r with
     | cons r3 r=>
       cases r
       obtain ⟨tk,rfl⟩:=(show ∃t,_=Value.int k.1 t from r1)
       cases (show _=Value.ref p from r2)
       cases (show _=Value.ref q from r3)
       exact ⟨tk,p,q,us,os,t1,t2,khe ru,t3,khe ro⟩
theorem kog {M:Model} {A:Around} {E:Value→Shared→Prop} {s:Shared} {its:List Value} (h2:0 < its.length) (hv: ∀v∈its,∃a k,v= .ref a∧VwA s.heap a k) {R:SortKind→Shared→Prop} (q:R (tuples' true) s):wpAny M A (keyKind' its.toArray) R E s:=by
 have tups: ∀(l:List Value),(∀ v∈l,∃a k,v= .ref a∧VwA s.heap a k)→∃fs,fs.length=l.length∧KatTups s.heap l fs∧∀f∈fs,∃x t,f=Value.int x t:=fun l=>by
  induction l with
  | nil=>exact fun q_=>⟨[],rfl,KatTups.nil,fun q_ z=>nomatch z⟩
  | cons v l ih=>
    intro hv
    obtain ⟨fs,f1,f2,f3⟩:=ih fun v hm=>hv v (List.mem_cons_of_mem _ hm)
    obtain ⟨a,k,rfl,tk,p,q,us,os,⟨o,n,a1,a2,a3⟩,_⟩:=hv v List.mem_cons_self
    exact ⟨.int k.1 tk::fs,by rw [List.length_cons,List.length_cons,f1],KatTups.cons a1 a2 a3 rfl f2,fun f hf=>(List.mem_cons.mp hf).elim (fun z=>⟨_,tk,z⟩) (f3 f)⟩
 obtain ⟨fs,f1,f2,f3⟩:=tups its hv
 refine kat_kind (T:= .type "int") f2 (by lia) (fun v hv=> ?_) (by decide) ?_
 · obtain ⟨x,t,rfl⟩:=f3 v hv
   exact Looks.of_pure rfl
 rw [show (Value.type "int" != Value.type "tuple")=true by decide]
 exact q
noncomputable def vw0:Vw:=(0,[],[])
noncomputable def UpV (vs:List Vw) (π:List Nat):Prop:=∀i j,i≤j→j < π.length→ltV (vs.getD (π.getD j 0) vw0) (vs.getD (π.getD i 0) vw0)=false
theorem kte {its:List Value} {vs:List Vw} (hl:its.length=vs.length) (same: ∀i j,i < its.length→j < its.length→its.getD i Value.none=its.getD j Value.none→vs.getD i vw0=vs.getD j vw0):
 ∃key:Keyed→Int,∀i,i < its.length→∀v,key (its.getD i Value.none,v)=rk ltV vs (vs.getD i vw0):=by
 classical
 refine ⟨fun kd=>if hh: ∃i,i < its.length∧its.getD i Value.none=kd.1 then rk ltV vs (vs.getD hh.choose vw0) else 0,fun i hi v=> ?_⟩
 have hh: ∃j,j < its.length∧its.getD j Value.none=its.getD i Value.none:=⟨i,hi,rfl⟩
 show (if hh: ∃j,j < its.length∧its.getD j Value.none=its.getD i Value.none then rk ltV vs (vs.getD hh.choose vw0) else 0)=_
 rw [dif_pos hh,same _ _ hh.choose_spec.1 hi hh.choose_spec.2]
theorem kff {vs:List Vw} {i:Nat} (h:i < vs.length):vs.getD i vw0∈vs:=by
 rw [List.getD_eq_getElem?_getD,List.getElem?_eq_getElem h]
 exact List.getElem_mem h
theorem krp {vs:List Vw} {i j:Nat} (hi:i < vs.length) (hj:j < vs.length) (h:rk ltV vs (vs.getD i vw0)≤rk ltV vs (vs.getD j vw0)):ltV (vs.getD j vw0) (vs.getD i vw0)=false:=by
 rw [ky5 ky4 (kff hj) (kff hi)]
 exact decide_eq_false (by lia)
theorem ky6 {prog:Program} {w:World} {A:Around} {E:Value→Shared→Prop} {s:Shared} {its:List Value} {vs:List Vw} {key:Keyed→Int} (hu:A.units + 1 < cLine) (hl:its.length=vs.length)
 (at_: ∀i,i < its.length→∃a,its.getD i Value.none= .ref a∧VwA s.heap a (vs.getD i vw0)) (hkey: ∀i,i < its.length→∀v,key (its.getD i Value.none,v)=rk ltV vs (vs.getD i vw0)):
 kid prog w A E s key (tuples' true) (fun kd=>∃i,i < its.length∧kd=(its.getD i Value.none,its.getD i Value.none)):=fun x y st R ⟨i,hi,ex⟩ ⟨j,hj,ey⟩ hk hR=>by
 subst ex ey
 rw [← kyl,lt'_eq]
 obtain ⟨a,e1,va⟩:=at_ i hi
 obtain ⟨b,e2,vb⟩:=at_ j hj
 refine wpS_bind (wpS_get (wpS_bind (wpS_lift (wpAny_attempt ?_))))
 rw [hk]
 dsimp only
 rw [e1,e2]
 refine vw_lt hu va vb ⟨rfl,wpS_pure ?_⟩
 rw [hkey i hi,hkey j hj] at hR
 rw [ky5 ky4 (kff (by lia)) (kff (by lia))]
 exact hR
theorem ktf {its:List Value} {vs:List Vw} {key:Keyed→Int} (hl:its.length=vs.length) (hkey: ∀i,i < its.length→∀v,key (its.getD i Value.none,v)=rk ltV vs (vs.getD i vw0)) {l:List Keyed} (lp:l.Perm (its.map fun v=>(v,v))) (lu:UpL key l):
 ∃π:List Nat,π.Perm (List.range vs.length)∧UpV vs π∧l.map (·.2)=π.map fun i=>its.getD i Value.none:=by
 obtain ⟨π,hp,rfl⟩:=kkk (f:=fun i=>(its.getD i Value.none,its.getD i Value.none)) lp (List.range its.length) (by
  conv=>lhs;rw [← kbz its Value.none]
  rw [List.map_map];rfl)
 have pin: ∀i∈π,i < its.length:=fun i hi=>List.mem_range.mp (hp.mem_iff.mp hi)
 refine ⟨π,by rw [← hl];exact hp,fun i j hij hj=> ?_,by rw [List.map_map];rfl⟩
 rw [show π.getD i 0=π[i]'(by lia) by simp [show i < π.length by lia],show π.getD j 0=π[j] by simp [hj]]
 have q1:=pin _ (List.getElem_mem (l:=π) (n:=i) (by lia))
 have q2:=pin _ (List.getElem_mem (l:=π) (n:=j) hj)
 refine krp (by lia) (by lia) ?_
 rcases Nat.lt_or_eq_of_le hij with q | q
 · have z:=List.pairwise_iff_getElem.mp lu i j (by rw [List.length_map];lia) (by rw [List.length_map];exact hj) q
   rw [List.getElem_map,List.getElem_map,hkey _ q1,hkey _ q2] at z
   exact z
 · subst q;exact Int.le_refl _
section
variable {X:Cx}
theorem kl4 (K:PySem.W.Frag) (hK:X.K=K) (hu:X.A.units + 40 < cLine):CallR X (.builtin "sorted") (fun xs H Q=>∃(p:Addr) (ys:List V) (vs:List Vw),xs=[.ref p]∧SqL K H p ys∧ys.length=vs.length∧
 (∀ (i:Nat) (v:Vw),vs[i]?=some v→∃a,ys[i]?=some (.ref a)∧VwH H a v)∧
 ∀(l:Addr) (π:List Nat),H l=none→π.Perm (List.range vs.length)→UpV vs π→Q (.ref l) (upd H l (.lst (π.map fun i=>ys.getD i V.non)))):=by
 subst hK
 intro pins s σ H xs us Q I r h
 obtain ⟨p,ys,vs,rfl,hq,hl,hat,k⟩:=h
 obtain ⟨u,rfl,r1⟩:=kd6 r
 cases (show u=Value.ref p from r1)
 obtain ⟨its,rv,⟨op,n0,hop,hc,_,hd⟩,hz⟩:=I.list hq
 have hL:s.heap.IsList p its.toArray:=⟨op,hop,hc,n0,hd⟩
 have hil:its.length=vs.length:=by rw [← rv.length,hl]
 have hf:H (s.heap.objs.size + 1)=none:=I.hok.fresh (Nat.le_succ _)
 have fin: ∀π:List Nat,π.Perm (List.range vs.length)→UpV vs π→∃v H',Inv X pins σ H' {s with heap:=sortedAll s.heap its (π.map fun i=>its.getD i Value.none).toArray}∧RelV v (.ref (s.heap.objs.size + 1))∧Q v H':=fun π hp ho=>by
  obtain ⟨e,at_⟩:=sortedAll_at s.heap its (π.map fun i=>its.getD i Value.none).toArray
  have pin: ∀i∈π,i < ys.length:=fun i hi=>by rw [hl];exact List.mem_range.mp (hp.mem_iff.mp hi)
  refine ⟨.ref (s.heap.objs.size + 1),upd H (s.heap.objs.size + 1) (.lst (π.map fun i=>ys.getD i V.non)),?_,rfl,k _ _ hf hp ho⟩
  exact I.laid (t':=s.toks) (fun b o e=>sortedAll_old e) (Nat.le_succ _) ⟨by rw [List.length_map,hp.length_eq,List.length_range,← hl];exact hz,π.map fun i=>its.getD i Value.none,e,kg4 rv π pin,at_⟩
 by_cases h2:its.length < 2
 · refine ke6 hL h2 ?_
   have:=fin (List.range vs.length) (List.Perm.refl _) fun i j hij hj=>by
    rw [List.length_range] at hj
    have:i=j:=by lia
    rw [this]
    exact ky4.irr _
   rw [show (List.range vs.length).map (fun i=>its.getD i Value.none)=its by rw [← hil];exact kbz its Value.none] at this
   exact this
 have h2:2≤its.length:=by lia
 have at0: ∀i,i < its.length→∃a,its.getD i Value.none= .ref a∧VwA s.heap a (vs.getD i vw0):=fun i hi=>by
  have e1:vs[i]?=some vs[i]:=List.getElem?_eq_getElem (by lia)
  obtain ⟨a,ha,hH⟩:=hat i _ e1
  obtain ⟨u,e2,r2⟩:=rv.get ha
  cases (show u=Value.ref a from r2)
  refine ⟨a,by rw [List.getD_eq_getElem?_getD,e2];rfl,?_⟩
  rw [show vs.getD i vw0=vs[i] by simp [show i < vs.length by lia]]
  exact kgo I.hok hH
 obtain ⟨key,hkey⟩:=kte hil fun i j hi hj e=>by
  obtain ⟨a,e1,v1⟩:=at0 i hi
  obtain ⟨b,e2,v2⟩:=at0 j hj
  rw [e1,e2] at e
  cases e
  exact v1.inj v2
 refine kl1 (κ:=tuples' true) (key:=key) (ok:=fun kd=>∃i,i < its.length∧kd=(its.getD i Value.none,its.getD i Value.none)) hL h2 (by rw [← rv.length];exact hz) (fun A' E' h' keep hA=> ?_) (fun v hv=> ?_) fun out ho=> ?_
 · have at1: ∀i,i < its.length→∃a,its.getD i Value.none= .ref a∧VwA h' a (vs.getD i vw0):=fun i hi=>by
    obtain ⟨a,e,v⟩:=at0 i hi
    exact ⟨a,e,v.to fun b o q q_=>keep b o q⟩
   refine ⟨fun R hR=>kog (by lia) (fun v hv=> ?_) hR,ky6 (by lia) hil at1 hkey⟩
   obtain ⟨i,hi,e⟩:=List.getElem_of_mem hv
   obtain ⟨a,e1,v1⟩:=at1 i hi
   exact ⟨a,_,by rw [← e1];simp [hi,e],v1⟩
 · obtain ⟨i,hi,e⟩:=List.getElem_of_mem hv
   exact ⟨i,hi,by rw [show its.getD i Value.none=v by simp [hi,e]]⟩
 · obtain ⟨l,lp,lu,rfl⟩:=ho
   obtain ⟨π,p1,p2,p3⟩:=ktf hil hkey lp lu
   rw [p3]
   exact fin π p1 p2
end
end L2
set_option maxHeartbeats 4000000
namespace L2
open PySem PySem.Spec PySem.W PySem.Calls PyProof.Rows PySem.SetTable
noncomputable def SetV (w:World) (l:Addr) (zs:List (Addr×Vw)) (h:Heap):Prop:=∃R,kw3 (kl2 w) h l R∧(R.map (·.2)).Perm (zs.map fun z=>(vwH z.2,Value.ref z.1))
theorem SetV.to {w:World} {l:Addr} {zs:List (Addr×Vw)} {h h':Heap} (x:SetV w l zs h) (k: ∀o,h.get? l=some o→h'.get? l=some o):SetV w l zs h':=by
 obtain ⟨R,⟨o,es,ep,t,h1,r⟩,p⟩:=x
 exact ⟨R,⟨o,es,ep,t,k o h1,r⟩,p⟩
theorem SetV.obj {w:World} {l:Addr} {zs:List (Addr×Vw)} {h:Heap} (x:SetV w l zs h): ∃o,h.get? l=some o:=by
 obtain ⟨R,⟨o,es,ep,t,h1,r⟩,p⟩:=x
 exact ⟨o,h1⟩
section
variable {prog:Program} {w:World} {A:Around} {E:Value→Shared→Prop} {s:Shared}
theorem krq {C:Heap→Prop} {d:Addr} {zs:List (Addr×Vw)} {a:Addr} {k:Vw} (hu:A.units + 1 < cLine) (S:SetV w d zs s.heap) (hl:zs.length≤16) (c:C s.heap) (hz: ∀z∈zs,∀h,C h→VwA h z.1 z.2) (hk: ∀h,C h→VwA h a k) {Q:Bool→Shared→Prop}
 (h1:k∈zs.map (·.2)→∀tk,Q false {s with toks:=tk}) (h2:k ∉ zs.map (·.2)→∀h' tk,Heap.SameBut d s.heap h'→SetV w d ((a,k)::zs) h'→Q true {s with heap:=h',toks:=tk}):
 wpAny (model prog w) A (setAdd d (.ref a)) Q E s:=by
 classical
 obtain ⟨R,S,p⟩:=S
 have rz: ∀r∈R,∃z∈zs,r.2=(vwH z.2,Value.ref z.1):=fun r hr=>by
  obtain ⟨z,hz,e⟩:=List.mem_map.mp (p.mem_iff.mp (List.mem_map_of_mem hr))
  exact ⟨z,hz,e.symm⟩
 let e:Value→Bool:=fun u=>decide (∃ z∈zs,u= .ref z.1∧z.2=k)
 have ee: ∀z∈zs,e (.ref z.1)=decide (z.2=k):=fun z hz'=>by
  show decide (∃ z'∈zs,Value.ref z.1= .ref z'.1∧z'.2=k)=_
  rw [decide_eq_decide]
  constructor
  · rintro ⟨z',m',q1,q2⟩
    injection q1 with q1
    have v1:=hz z hz' _ c
    have v2:=hz z' m' _ c
    rw [← q1] at v2
    rw [v1.inj v2]
    exact q2
  · intro q
    exact ⟨z,hz',rfl,q⟩
 refine kvk (C:=C) (h:=vwH k) (e:=e) S (by have:=p.length_eq;simp at this;lia) (ky3 hu hk) (fun r hr=> ?_) c (fun r hr s' c'=> ?_) (fun r hr he=> ?_) (fun ⟨r,hr,he⟩=> ?_) fun hno h' R' tk sb S' p'=> ?_
 · obtain ⟨z,hz',e⟩:=rz r hr
   rw [e]
   exact ⟨_,ky3 hu (hz z hz')⟩
 · obtain ⟨z,hz',e⟩:=rz r hr
   rw [e,ee z hz']
   exact ky2 hu (hz z hz' _ c') (hk _ c')
 · obtain ⟨z,hz',q⟩:=rz r hr
   rw [q] at he ⊢
   rw [ee z hz'] at he
   rw [of_decide_eq_true he]
 · obtain ⟨z,hz',q⟩:=rz r hr
   rw [q,ee z hz'] at he
   exact h1 (List.mem_map.mpr ⟨z,hz',of_decide_eq_true he⟩)
 · refine h2 (fun z=> ?_) h' tk sb ⟨R',S',p'.trans ?_⟩
   · obtain ⟨z,hz',q⟩:=List.mem_map.mp z
     obtain ⟨r,hr,q2⟩:=List.mem_map.mp (p.mem_iff.mpr (List.mem_map_of_mem hz'))
     have:=hno r hr
     rw [q2,ee z hz',decide_eq_true q] at this
     cases this
   · exact p.cons _
end
theorem krr {w:World} {l:Addr} {h:Heap} (e:h.get? l=some (kqa (kl2 w))):SetV w l [] h:=
 ⟨[],⟨_,#[],0,_,e,⟨rfl,rfl,rfl⟩,rfl,⟨rfl,rfl,rfl,List.Pairwise.nil,fun q_ z=>nomatch z⟩,(fun q_ z=>nomatch z),.inl rfl,(show 0 * 5 < 7 * 3 by decide),rfl,rfl⟩,List.Perm.refl _⟩
noncomputable def JV (w:World) (ys:List V) (vs:List Vw) (h0:Heap) (i:Nat) (h:Heap):Prop:=(∀ b o,h0.get? b=some o→h.get? b=some o)∧∃zs:List (Addr×Vw),SetV w h0.objs.size zs h∧(zs.map (·.2)).Nodup∧(∀ v,v∈zs.map (·.2)↔v∈vs.take i)∧(∀ z∈zs,∃j:Nat,ys[j]?=some (V.ref z.1)∧vs[j]?=some z.2)∧zs.length≤i
section
variable {X:Cx}
theorem koh (K:PySem.W.Frag) (w:World) (hw:X.w=w) (hK:X.K=K) (hc:X.calm=true) (hu:X.A.units + 40 < cLine):CallR X (.type "set") (fun xs H Q=>∃(p:Addr) (ys:List V) (vs:List Vw),xs=[.ref p]∧SqL K H p ys∧ys.length=vs.length∧vs.length≤16∧
 (∀ (i:Nat) (v:Vw),vs[i]?=some v→∃a,ys[i]?=some (.ref a)∧VwH H a v)∧
 ∀(l:Addr) (zs:List (Addr×Vw)),H l=none→(zs.map (·.2)).Nodup→(∀ v,v∈zs.map (·.2)↔v∈vs)→(∀ z∈zs,∃j:Nat,ys[j]?=some (V.ref z.1)∧vs[j]?=some z.2)→Q (.ref l) (upd H l (.ext (SetV w l zs)))):=by
 subst hK;subst hw
 intro pins s σ H xs us Q I r h
 obtain ⟨p,ys,vs,rfl,hq,hl,h16,hat,k⟩:=h
 obtain ⟨u,rfl,r1⟩:=kd6 r
 cases (show u=Value.ref p from r1)
 obtain ⟨its,rv,⟨op,n0,hop,hcl,_,hd⟩,hz⟩:=I.list hq
 have hL:s.heap.IsList p its.toArray:=⟨op,hop,hcl,n0,hd⟩
 have hil:its.length=vs.length:=by rw [← rv.length,hl]
 have at0: ∀(i:Nat) (v:Value),its[i]?=some v→∃a k,v= .ref a∧vs[i]?=some k∧VwH H a k∧ys[i]?=some (.ref a):=fun i v hv=>by
  have hi:i < its.length:=(List.getElem?_eq_some_iff.mp hv).1
  have e1:vs[i]?=some vs[i]:=List.getElem?_eq_getElem (by lia)
  obtain ⟨a,ha,hH⟩:=hat i _ e1
  obtain ⟨u,e2,r2⟩:=rv.get ha
  cases (show u=Value.ref a from r2)
  rw [hv] at e2
  cases e2
  exact ⟨a,_,rfl,e1,hH,ha⟩
 let C:Heap→Prop:=fun h=>∀b o,s.heap.get? b=some o→h.get? b=some o
 have cv: ∀a k,VwH H a k→∀h,C h→VwA h a k:=fun a k v h c=>(kgo I.hok v).to fun b o q q_=>c b o q
 refine kn7 (J:=JV X.w ys vs s.heap) (I.ok.hd hc) hL (fun h' e c=>⟨c,[],krr e,List.nodup_nil,by simp,(fun q_ z=>nomatch z),Nat.le_refl _⟩) (fun i h h' ⟨c,zs,S,r⟩ kp=>⟨fun b o e=>kp b o (fun z=>absurd (Heap.lt_size e) (by rw [z];exact Nat.not_lt.mpr (Nat.le_succ _))) (c b o e),zs,S.to fun o e=>kp _ o (Nat.ne_of_lt (Nat.lt_succ_self _)) e,r⟩) (fun i v s' E Q hv ⟨c,zs,S,nd,mem,vz,le⟩ q=> ?_) fun h' tk ⟨c,zs,S,nd,mem,vz,le⟩ kp=> ?_
 · obtain ⟨a,kv,rfl,e1,va,ea⟩:=at0 i v (by simpa using hv)
   have vzH: ∀z∈zs,VwH H z.1 z.2:=fun z hz=>by
    obtain ⟨j,j1,j2⟩:=vz z hz
    obtain ⟨b,b1,b2⟩:=hat j _ j2
    rw [j1] at b1
    cases b1
    exact b2
   have hlt:i < vs.length:=(List.getElem?_eq_some_iff.mp e1).1
   have tk1:vs.take (i + 1)=vs.take i++[kv]:=by rw [List.take_add_one,e1];rfl
   refine krq (C:=C) (zs:=zs) (k:=kv) (by simp only [Around.in1_units];lia) S (by lia) c (fun z hz=>cv _ _ (vzH z hz)) (cv a kv va) (fun hm tk=> ?_) fun hm h' tk sb S'=> ?_
   · refine q false s'.heap tk (Heap.SameBut.refl _ _) ⟨c,zs,S,nd,fun v=> ?_,vz,by lia⟩
     rw [mem v,tk1,List.mem_append,List.mem_singleton]
     constructor
     · exact .inl
     · rintro (z | rfl)
       · exact z
       · exact (mem _).mp hm
   · refine q true h' tk sb ⟨fun b o e=> ?_,(a,kv)::zs,S',List.nodup_cons.mpr ⟨hm,nd⟩,fun v=> ?_,fun z hz=> ?_,by simp;lia⟩
     · rw [sb.2 b (Nat.ne_of_lt (Heap.lt_size e))]
       exact c b o e
     · rw [List.map_cons,List.mem_cons,mem v,tk1,List.mem_append,List.mem_singleton,or_comm]
     · rcases List.mem_cons.mp hz with rfl | hz
       · exact ⟨i,ea,e1⟩
       · exact vz z hz
 · have hf:H s.heap.objs.size=none:=I.hok.fresh (Nat.le_refl _)
   refine ⟨.ref s.heap.objs.size,_,I.laid (a:=s.heap.objs.size) (o:= .ext (SetV X.w s.heap.objs.size zs)) (t':=tk) (fun b o e=>c b o e) (Nat.le_refl _) (show SetV X.w s.heap.objs.size zs h'∧_∧_ from ⟨S,S.obj,fun h1 h2 x y=>x.to y⟩),rfl,k _ zs hf nd (fun v=> ?_) vz⟩
   rw [mem v,List.take_of_length_le (by simp;lia)]
end
end L2
set_option maxHeartbeats 4000000
namespace L2
open PySem PySem.Spec PySem.W PySem.Calls PyProof.Rows PySem.SetTable
noncomputable abbrev zv0:Addr×Vw:=(0,vw0)
section
variable {X:Cx}
theorem kl5 (w:World) (hw:X.w=w) (hc:X.calm=true) (hu:X.A.units + 40 < cLine):CallR X (.builtin "sorted") (fun xs H Q=>∃(a:Addr) (zs:List (Addr×Vw)),xs=[.ref a]∧H a=some (.ext (SetV w a zs))∧zs.length≤16∧(∀ z∈zs,VwH H z.1 z.2)∧
 ∀(l:Addr) (ts:List (Addr×Vw)),H l=none→ts.Perm zs→ts.Pairwise (fun x y=>ltV y.2 x.2=false)→Q (.ref l) (upd H l (.lst (ts.map fun z=>V.ref z.1)))):=by
 subst hw
 intro pins s σ H xs us Q I r h
 obtain ⟨a,zs,rfl,ha,h16,hv,q⟩:=h
 obtain ⟨u,rfl,r1⟩:=kd6 r
 cases (show u=Value.ref a from r1)
 obtain ⟨⟨R,⟨o,es,ep,t,h1,h2,h3,T,_,hm,hl5,hpl,hld⟩,pz⟩,_,_⟩:=(show ObjOk X.prog X.w H s.heap a (.ext (SetV X.w a zs)) from I.hok a _ ha)
 obtain ⟨m,hn,_⟩:=id I.loc
 have F0:Fr X.base X.env.locals s.heap m:=⟨hn,I.bk,Nat.le_trans I.ok.bsz I.ok.above⟩
 have S:SAt X.w s.heap a es ep t R:=by
  obtain ⟨c1,c2,c3,c4⟩:=o
  obtain ⟨x1,x2,x3⟩:=h2
  simp only at x1 x2 x3 h3
  subst x1;subst x2;subst x3;subst h3
  exact ⟨h1,T,by lia,hpl,hld⟩
 have hR:R.length=zs.length:=by have:=pz.length_eq;simpa using this
 have hes:es.size=zs.length:=by rw [T.size,hR]
 obtain ⟨ts0,tp,te⟩:=kkk (f:=fun z:Addr×Vw=>(vwH z.2,Value.ref z.1)) ((kku X.w a es ep).trans (by rw [T.e];exact pz)) zs rfl
 have tl:ts0.length=zs.length:=tp.length_eq
 have sl:zs.length≤sizeLine:=by rw [sizeLine_eq];lia
 refine kdu_sorted (kvq (es:=es) (ep:=ep) (t:=t) (R:=R)) (I.ok.hd hc) F0 (kic (base:=X.base)) S (by rw [hes];exact sl) fun D h' tk vs F' N' hD hl' hvs=> ?_
 have hvs:vs=ts0.map fun z=>Value.ref z.1:=by
  apply List.ext_getElem
  · rw [hl',hes,List.length_map,tl]
  · intro i i1 i2
    obtain ⟨e,e1,e2⟩:=hvs i _ (List.getElem?_eq_getElem i1)
    rw [e2,List.getElem_map]
    rw [← Array.getElem?_toList,te,List.getElem?_map,List.getElem?_eq_getElem (by rw [List.length_map] at i2;exact i2)] at e1
    cases e1
    rfl
 have hil:vs.length=ts0.length:=by rw [hvs,List.length_map]
 have rv:Vals (ts0.map fun z=>V.ref z.1) vs:=by rw [hvs];exact kie (f:=fun z:Addr×Vw=>z.1) ts0
 have ol:h'.get? D=some (seqObj "list" vs.toArray 0):=(N' _ List.mem_cons_self).1
 have keep: ∀b o,s.heap.get? b=some o→b≠X.env.locals→(kve h' D vs).get? b=some o:=fun b o e hb=>by
  have:h'.get? b=some o∧b≠D:=by
   cases q:X.base.get? b with
   | some o2=>
     have e2:=I.bk b o2 q
     rw [e] at e2
     cases e2
     exact ⟨F'.keep b o q,fun z=>by have:=(N' _ List.mem_cons_self).2.2;dsimp only at this;rw [← z,q] at this;cases this⟩
   | none=>
     have mm:=kfc e hb q
     exact ⟨(N' _ (List.mem_cons_of_mem _ mm)).1,Nat.ne_of_lt (hD _ mm)⟩
  unfold kve
  refine Heap.get?_push_of_some _ (Heap.get?_push_of_some _ ?_)
  rw [Heap.get?_update_ne _ _ _ _ this.2]
  exact this.1
 have zin: ∀i,i < ts0.length→ts0.getD i zv0∈zs:=fun i hi=>by
  rw [show ts0.getD i zv0=ts0[i] by simp [hi]]
  exact tp.mem_iff.mp (List.getElem_mem hi)
 have lo: ∀b xs,H b=some (.tup xs)→b≠X.env.locals:=fun b xs e z=>by rw [z,I.free] at e;cases e
 have vw1: ∀i,i < vs.length→∃a,vs.getD i Value.none= .ref a∧VwA (kve h' D vs) a ((ts0.map (·.2)).getD i vw0):=fun i hi=>by
  have hi':i < ts0.length:=by lia
  refine ⟨(ts0.getD i zv0).1,by rw [hvs];simp [hi'],?_⟩
  have hz:=hv _ (zin i hi')
  rw [show (ts0.map (·.2)).getD i vw0=(ts0.getD i zv0).2 by simp [hi']]
  obtain ⟨p,q,e1,e2,e3⟩:=id hz
  obtain ⟨tk0,p',q',us,os,t1,t2,t3,t4,t5⟩:=kgo I.hok hz
  have t6:=(kky I.hok e1)
  obtain ⟨ts,rr,t6⟩:=t6
  cases t1.inj t6
  have rr1:Vals [.int (ts0.getD i zv0).2.1,.ref p,.ref q] [.int (ts0.getD i zv0).2.1 tk0,.ref p',.ref q']:=rr
  cases rr1 with
  | cons r1 rr=>
    cases rr with
    | cons r2 rr=>
      cases rr with
      | cons r3 _=>
        cases (show Value.ref p'=Value.ref p from r2)
        cases (show Value.ref q'=Value.ref q from r3)
        exact ⟨tk0,p,q,us,os,t1.to fun o g q_=>keep _ _ g (lo _ _ e1),t2.to fun o g q_=>keep _ _ g (lo _ _ e2),t3,t4.to fun o g q_=>keep _ _ g (lo _ _ e3),t5⟩
 have zv:vs.length≤sizeLine:=by lia
 have fin: ∀π:List Nat,π.Perm (List.range ts0.length)→UpV (ts0.map (·.2)) π→∃v H',Inv X pins σ H' {s with heap:=sortedHeap h' D vs (π.map fun i=>vs.getD i Value.none).toArray,toks:=tk}∧RelV v (.ref D)∧Q v H':=fun π hp hs=>by
  obtain ⟨c,F2,N2⟩:=kny (out:=π.map fun i=>vs.getD i Value.none) F' N' hD
  have pin: ∀i∈π,i < ts0.length:=fun i hi=>List.mem_range.mp (hp.mem_iff.mp hi)
  have J:=I.newAt hn F2 N2 hD (kg4 rv π fun i hi=>by rw [List.length_map];exact pin i hi) (by rw [List.length_map,hp.length_eq,List.length_range];lia)
  have eq:(π.map fun i=>(ts0.map fun z=>V.ref z.1).getD i V.non)=(π.map fun i=>ts0.getD i zv0).map fun z=>V.ref z.1:=by
   rw [List.map_map]
   refine List.map_congr_left fun i hi=> ?_
   have:=pin i hi
   simp [this]
  rw [eq] at J
  refine ⟨.ref D,_,J.2.tok tk,rfl,q D _ J.1 ?_ ?_⟩
  · have:=hp.map fun i=>ts0.getD i zv0
    rw [kbz] at this
    exact this.trans tp
  · rw [List.pairwise_iff_getElem]
    intro i j hi hj hij
    rw [List.length_map] at hi hj
    have z:=hs i j (by lia) hj
    simp only [List.getElem_map]
    rw [show π.getD i 0=π[i] by simp [hi],show π.getD j 0=π[j] by simp [hj]] at z
    have p1:=pin _ (List.getElem_mem hi)
    have p2:=pin _ (List.getElem_mem hj)
    simpa [p1,p2] using z
 have hil2:vs.length=(ts0.map (·.2)).length:=by rw [List.length_map];exact hil
 by_cases h2:vs.length < 2
 · refine wpAny_call_entry slot_list_sort ⟨_,ol,rfl⟩ entry_list_sort (kgj ol h2 ⟨_,rfl,?_⟩) (args_list_sort _)
   have:=fin (List.range ts0.length) (List.Perm.refl _) fun i j hij hj=>by
    rw [List.length_range] at hj
    have:i=j:=by lia
    rw [this]
    exact ky4.irr _
   rw [show (List.range ts0.length).map (fun i=>vs.getD i Value.none)=vs by rw [← hil];exact kbz vs Value.none] at this
   exact this
 have h2:2≤vs.length:=by lia
 obtain ⟨key,hkey⟩:=kte hil2 fun i j hi hj e=>by
  obtain ⟨a,e1,v1⟩:=vw1 i hi
  obtain ⟨b,e2,v2⟩:=vw1 j hj
  rw [e1,e2] at e
  cases e
  exact v1.inj v2
 refine wpAny_call_entry slot_list_sort ⟨_,ol,rfl⟩ entry_list_sort (kkl (κ:=tuples' true) (key:=key) (ok:=fun kd=>∃i,i < vs.length∧kd=(vs.getD i Value.none,vs.getD i Value.none)) ol h2 zv (fun R hR=>kog (by lia) (fun v hv=> ?_) hR) (ky6 (by simp only [Around.in1_units];lia) hil2 vw1 hkey) (fun v hv=> ?_) fun out ho=>⟨_,rfl,?_⟩) (args_list_sort _)
 · obtain ⟨i,hi,e⟩:=List.getElem_of_mem hv
   obtain ⟨a,e1,v1⟩:=vw1 i hi
   exact ⟨a,_,by rw [← e1];simp [hi,e],v1⟩
 · obtain ⟨i,hi,e⟩:=List.getElem_of_mem hv
   exact ⟨i,hi,by rw [show vs.getD i Value.none=v by simp [hi,e]]⟩
 · obtain ⟨l,lp,lu,rfl⟩:=ho
   obtain ⟨π,p1,p2,p3⟩:=ktf hil2 hkey lp lu
   rw [p3]
   exact fin π (by rw [List.length_map] at p1;exact p1) p2
end
end L2
namespace L2
open PySem PySem.Spec PyProof.Rows
section
variable {prog:Program} {w:World} {A:Around} {E:Value→Shared→Prop} {s:Shared} {a b:Addr} {its:List Value}
noncomputable def HsN (prog:Program) (w:World) (A:Around) (hp:Heap) (v:Value) (h:Int×Nat):Prop:=∀(s:Shared) (E:Value→Shared→Prop) (Q:Int→Shared→Prop),s.heap=hp→Q h.1 {s with toks:=s.toks + h.2}→wpAny (model prog w) A (pyHash v) Q E s
theorem kkz (hu:A.units < cLine) (x:TpA s.heap a its) {hs:List (Int×Nat)} (hq:Paired (HsN prog w A.in1 s.heap) its hs)
 {Q:Int→Shared→Prop} (q:Q (reduceHash (Builtin.Tuple.tupleHashOf (hs.map (·.1)))) {s with toks:=s.toks + ((hs.map (·.2)).sum + 1)}):wpAny (model prog w) A (pyHash (.ref a)) Q E s:=by
 have ty:=x.ty
 obtain ⟨o,n,ho,_,hd⟩:=x
 unfold pyHash pyHashByItsType
 refine wpAny_bind (wpAny_cRoomFor_or (.inr hu) (wpAny_bind (wpAny_specialOf ty F.slot_tuple_hash.lookup ?_)))
 show wpAny _ _ (if (some (Value.builtin "tuple.__hash__") == some Value.none)=true then _ else _) Q E s
 refine kbl (fun z=>absurd z (by rw [beq_builtin_none];decide)) fun q_=>wpAny_bind (wpAny_specialOf ty F.slot_tuple_hash.lookup ?_)
 show wpAny _ _ (callSpecialIfBoundUnlessNone? (.ref a) "__hash__" _ >>= _) Q E s
 refine wpAny_bind (wpAny_callSpecialIfBoundUnlessNone?_slot ty F.slot_tuple_hash (wpAny_call_entry F.slot_tuple_hash ty F.entry_tuple_hash ?_ (F.args_tuple_hash_1 _)))
 show wpAny _ _ (Builtin.Tuple.tupleItemsOf (.ref a) >>= _) _ _ s
 refine wpAny_bind (wpAny_tupleItemsOf ho hd (wpAny_bind ?_))
 rw [← Array.forIn_toList]
 refine wpAny_forIn_list _ (fun kc4 (b:Array Int) s'=>∃done left,done++left=hs∧b.toList=done.map (·.1)∧s'={s with toks:=s.toks + (done.map (·.2)).sum}∧Paired (HsN prog w A.in1 s.heap) kc4 left) _ ?_ ?_ _ _ ⟨[],hs,rfl,rfl,rfl,by simpa using hq⟩
 · rintro v kc4 b s' ⟨done,left,e1,e2,rfl,pl⟩
   cases pl with
   | @cons _ h _ left p1 p2=>
     refine wpAny_bind (p1 _ _ _ rfl ?_)
     exact wpAny_pure ⟨done++[h],left,by simpa using e1,by simp [e2],by simp [Nat.add_assoc],p2⟩
 · rintro b s' ⟨done,left,e1,e2,rfl,pl⟩
   cases pl
   rw [List.append_nil] at e1
   subst e1
   show wpAny _ _ (retInt (Builtin.Tuple.tupleHashOf b.toList)) _ _ _
   rw [e2]
   refine wpAny_ret_mkInt ?_
   show wpAny _ _ (if (decide (-(2:Int) ^ 63≤Builtin.Tuple.tupleHashOf (done.map (·.1))) && decide (Builtin.Tuple.tupleHashOf (done.map (·.1)) < 2 ^ 63))=true then _ else _) Q E _
   unfold reduceHash at q
   refine kbl (fun z=> ?_) fun z=> ?_
   · rw [if_pos z] at q
     exact wpAny_pure (by simpa [Nat.add_assoc] using q)
   · rw [if_neg z] at q
     exact wpAny_bind (wpAny_rule (wpAny_pure (by simpa [Nat.add_assoc] using q)))
theorem kim (hu:A.units < cLine) {hp:Heap} {x:List Int} (t:TpA hp a its) (ix:IntsAre its x):HsN prog w A hp (.ref a) (ksw x,x.length + 1):=fun s E Q e q=>by
 subst e
 have:Paired (HsN prog w A.in1 s.heap) its (x.map fun n=>(hashInt n,1)):=by
  clear q t
  induction ix with
  | nil=>exact .nil
  | cons n tk r ih=>exact .cons (fun s' E Q q_ q=>wpAny_pyHash_int q) ih
 refine kkz hu t this ?_
 have e1:(x.map fun n=>(hashInt n,1)).map (·.1)=x.map hashInt:=by rw [List.map_map];rfl
 have e2:((x.map fun n=>(hashInt n,1)).map (·.2)).sum=x.length:=by
  rw [List.map_map]
  clear q this ix e1
  induction x with
  | nil=>rfl
  | cons n x ih=>simp at ih ⊢;lia
 rw [e1,e2]
 exact q
noncomputable def koi (k:Vw):Nat:=1 + ((k.2.1.length + 1) + (k.2.2.length + 1)) + 1
theorem krs (hu:A.units + 1 < cLine) {x:Vw} (v:VwA s.heap a x) {Q:Int→Shared→Prop} (q:Q (vwH x) {s with toks:=s.toks + koi x}):wpAny (model prog w) A (pyHash (.ref a)) Q E s:=by
 obtain ⟨tk,p,r,us,os,h1,h2,h3,h4,h5⟩:=v
 refine kkz (by lia) h1 (hs:=[(hashInt x.1,1),(ksw x.2.1,x.2.1.length + 1),(ksw x.2.2,x.2.2.length + 1)]) (.cons (fun s' E Q q_ q=>wpAny_pyHash_int q) (.cons (kim (A:=A.in1) hu h2 h3) (.cons (kim (A:=A.in1) hu h4 h5) .nil))) ?_
 exact q
theorem krt {x:Vw} (v:VwA s.heap a x) {Q:Bool→Shared→Prop} (q:Q true s):wpAny (model prog w) A (eqIsQuiet 8 (.ref a)) Q E s:=by
 obtain ⟨tk,p,r,us,os,h1,h2,h3,h4,h5⟩:=v
 refine kdg h1 7 (fun v hv E Q q=> ?_) q
 simp only [List.mem_cons,List.not_mem_nil,or_false] at hv
 rcases hv with rfl | rfl | rfl
 · exact wpAny_of_eq (eqIsQuiet_byValue _ rfl) q
 · exact kdg h2 6 (fun v hv E Q q=>by obtain ⟨n,t,rfl⟩:=kda h3 v hv;exact wpAny_of_eq (eqIsQuiet_byValue _ rfl) q) q
 · exact kdg h4 6 (fun v hv E Q q=>by obtain ⟨n,t,rfl⟩:=kda h5 v hv;exact wpAny_of_eq (eqIsQuiet_byValue _ rfl) q) q
theorem TpA.sb {h h':Heap} {d:Addr} {o:Obj} {es:Array DictEntry} {ep:Nat} (t:TpA h a its) (ho:h.get? d=some o) (hd:o.data= .dict es ep) (sb:Heap.SameBut d h h'):TpA h' a its:=by
 obtain ⟨o',n,h1,h2,h3⟩:=t
 have:a≠d:=fun z=>by
  subst z
  rw [ho] at h1
  cases h1
  rw [hd] at h3
  cases h3
 exact ⟨o',n,(sb.2 a this).trans h1,h2,h3⟩
noncomputable def kio (prog:Program) (w:World):HeapKind prog w Vw where
 is:=fun h k a=>VwA h a k
 hash:=vwH
 draws:=koi
 room:=fun A=>A.units + 1 < cLine
 inj:=fun x y=>x.inj y
 keeps:=fun ⟨tk,p,q,us,os,h1,h2,h3,h4,h5⟩ ho hd sb=>⟨tk,p,q,us,os,h1.sb ho hd sb,h2.sb ho hd sb,h3,h4.sb ho hd sb,h5⟩
 pyHash:=fun hu x q=>krs hu x q
 eqBool:=fun hu x y q=>ky2 hu x y _ _ _ _ q
 quiet:=fun x q=>krt x q
end
end L2
set_option maxHeartbeats 4000000
namespace L2
open PySem PySem.Spec PyProof.Rows
theorem DicV.to {l:Addr} {zs:List ((Addr×Vw)×Int)} {h h':Heap} (x:DicV l zs h) (k: ∀o,h.get? l=some o→h'.get? l=some o):DicV l zs h':=by
 obtain ⟨e,o,es,ep,h1,r⟩:=x
 exact ⟨e,o,es,ep,k o h1,r⟩
theorem DicV.obj {l:Addr} {zs:List ((Addr×Vw)×Int)} {h:Heap} (x:DicV l zs h): ∃o,h.get? l=some o:=by
 obtain ⟨e,o,es,ep,h1,r⟩:=x
 exact ⟨o,h1⟩
noncomputable abbrev VxR:List ((Addr×Vw)×Int)→List (Vw×Addr×Value)→Prop:=Paired fun z x=>x.1=z.1.2∧x.2.1=z.1.1∧∃t,x.2.2= .int z.2 t
theorem vx_of {prog:Program} {w:World}: ∀{zs:List ((Addr×Vw)×Int)} {es:List DictEntry},Paired (fun (z:(Addr×Vw)×Int) (e:DictEntry)=>e.hash=vwH z.1.2∧e.key= .ref z.1.1∧∃t,e.val= .int z.2 t) zs es→∃xs,es=xs.map (entryOfKey (kio prog w))∧VxR zs xs:=by
 intro zs es r
 induction r with
 | nil=>exact ⟨[],rfl,.nil⟩
 | @cons z e zs es h t ih=>
   obtain ⟨xs,rfl,p⟩:=ih
   obtain ⟨h1,h2,tk,h3⟩:=h
   refine ⟨(z.1.2,z.1.1,e.val)::xs,?_,.cons ⟨rfl,rfl,tk,h3⟩ p⟩
   rw [List.map_cons]
   congr 1
   obtain ⟨e1,e2,e3⟩:=e
   simp only at h1 h2
   subst h1;subst h2
   rfl
theorem vx_to {prog:Program} {w:World}: ∀{zs:List ((Addr×Vw)×Int)} {xs:List (Vw×Addr×Value)},VxR zs xs→Paired (fun (z:(Addr×Vw)×Int) (e:DictEntry)=>e.hash=vwH z.1.2∧e.key= .ref z.1.1∧∃t,e.val= .int z.2 t) zs (xs.map (entryOfKey (kio prog w))):=by
 intro zs xs r
 induction r with
 | nil=>exact .nil
 | @cons z x zs xs h t ih=>
   obtain ⟨h1,h2,h3⟩:=h
   exact .cons ⟨by rw [← h1];rfl,by rw [← h2];rfl,h3⟩ ih
theorem VxR.snoc {b:Addr} {k:Vw} {n:Int} {r:Value} (rr: ∃t,r= .int n t): ∀{zs:List ((Addr×Vw)×Int)} {xs:List (Vw×Addr×Value)},VxR zs xs→VxR (zs++[((b,k),n)]) (xs++[(k,b,r)])
 | _,_,.nil=> .cons ⟨rfl,rfl,rr⟩ .nil
 | _,_,.cons q t=> .cons q (VxR.snoc rr t)
theorem VxR.keys: ∀{zs:List ((Addr×Vw)×Int)} {xs:List (Vw×Addr×Value)},VxR zs xs→xs.map (·.1)=zs.map (·.1.2):=by
 intro zs xs r
 induction r with
 | nil=>rfl
 | @cons z x zs xs h t ih=>rw [List.map_cons,List.map_cons,ih,h.1]
theorem VxR.find: ∀{zs:List ((Addr×Vw)×Int)} {xs:List (Vw×Addr×Value)},VxR zs xs→∀{k:Vw} {n:Int},(zs.map (·.1.2)).Nodup→(k,n)∈zs.map (fun z=>(z.1.2,z.2))→∃p,atKey xs k=some p∧∃t,p.2= .int n t:=by
 intro zs xs r
 induction r with
 | nil=>intro k n q_ h;cases h
 | @cons z x zs xs h t ih=>
   intro k n nd m
   rw [List.map_cons] at m nd
   obtain ⟨n1,n2⟩:=List.nodup_cons.mp nd
   obtain ⟨h1,h2,tk,h3⟩:=h
   rcases List.mem_cons.mp m with e | m
   · injection e with e1 e2
     refine ⟨x.2,?_,tk,by rw [h3,e2]⟩
     unfold atKey
     rw [List.find?_cons_of_pos (by simp [h1,e1])]
     rfl
   · have hk:x.1≠k:=fun e=>by
      obtain ⟨z',m1,m2⟩:=List.mem_map.mp m
      injection m2 with m2 _
      exact n1 (by rw [← h1,e,← m2];exact List.mem_map_of_mem (f:=fun z:(Addr×Vw)×Int=>z.1.2) m1)
     obtain ⟨p,hp,q⟩:=ih n2 m
     refine ⟨p,?_,q⟩
     unfold atKey at hp ⊢
     rw [List.find?_cons_of_neg (by simp [hk])]
     exact hp
section
variable {X:Cx} {pins:List (Addr×Obj)} {σ:St} {H:Hp} {s:Shared} {a b:Addr} {A:Around} {E:Value→Shared→Prop} {zs:List ((Addr×Vw)×Int)} {k:Vw}
theorem ky7 (I:Inv X pins σ H s) (e:H a=some (.ext (DicV a zs))) (hz: ∀z∈zs,VwH H z.1.1 z.1.2) (nd:(zs.map (·.1.2)).Nodup):(a == sysModules)=false∧∃xs,VxR zs xs∧s.heap.DictOfH (kio X.prog X.w) a xs:=by
 obtain ⟨⟨h0,o,es,ep,h1,h2,h3,r⟩,_,_⟩:=(show ObjOk X.prog X.w H s.heap a (.ext (DicV a zs)) from I.hok a _ e)
 obtain ⟨xs,e1,p⟩:=vx_of (prog:=X.prog) (w:=X.w) r
 refine ⟨h0,xs,p,o,es,ep,h1,h2,h3,e1,?_,by rw [p.keys];exact nd⟩
 intro x hx
 have: ∀{zs:List ((Addr×Vw)×Int)} {xs:List (Vw×Addr×Value)},VxR zs xs→(∀ z∈zs,VwH H z.1.1 z.1.2)→∀x∈xs,VwA s.heap x.2.1 x.1:=by
  intro zs xs r
  induction r with
  | nil=>intro q_ x hx;cases hx
  | @cons z y zs xs h t ih=>
    intro hz x hx
    rcases List.mem_cons.mp hx with rfl | hx
    · rw [h.1,h.2.1]
      exact kgo I.hok (hz z List.mem_cons_self)
    · exact ih (fun z m=>hz z (List.mem_cons_of_mem _ m)) x hx
 exact this p hz x hx
theorem koj {n:Int} {Q:Value→Shared→Prop} (hu:A.units + 2 < cLine) (I:Inv X pins σ H s) (e:H a=some (.ext (DicV a zs))) (hz: ∀z∈zs,VwH H z.1.1 z.1.2) (nd:(zs.map (·.1.2)).Nodup) (vb:VwH H b k) (m:(k,n)∈zs.map (fun z=>(z.1.2,z.2)))
 (h: ∀t s',Inv X pins σ H s'→Q (.int n t) s'):wpAny (model X.prog X.w) A (getItem (.ref a) (.ref b)) Q E s:=by
 obtain ⟨h0,xs,p,dd⟩:=ky7 I e hz nd
 obtain ⟨q,hq,t,ht⟩:=p.find nd m
 refine wpAny_getItem_heap (knd:=kio X.prog X.w) (show A.in1.units + 1 < cLine from by simp only [Around.in1_units];lia) (kgo I.hok vb) dd hq ?_
 rw [ht]
 exact h t _ (I.tok _)
theorem kok {n:Int} {r:Value} {Q:Unit→Shared→Prop} (hu:A.units + 2 < cLine) (I:Inv X pins σ H s) (e:H a=some (.ext (DicV a zs))) (hz: ∀z∈zs,VwH H z.1.1 z.1.2) (nd:(zs.map (·.1.2)).Nodup) (hl:zs.length≤1000) (vb:VwH H b k) (hn:k ∉ zs.map (·.1.2)) (rr: ∃t,r= .int n t)
 (h: ∀s',Inv X pins σ (upd H a (.ext (DicV a (zs++[((b,k),n)])))) s'→Q () s'):wpAny (model X.prog X.w) A (setItem (.ref a) (.ref b) r) Q E s:=by
 obtain ⟨h0,xs,p,dd⟩:=ky7 I e hz nd
 have lx:xs.length=zs.length:=(Paired.length p).symm
 refine wpAny_setItem_heap (knd:=kio X.prog X.w) (hsz:=by rw [lx,sizeLine_eq];lia) (show A.in1.units + 1 < cLine from by simp only [Around.in1_units];lia) (kgo I.hok vb) dd fun h' dd' sb=>h _ ?_
 have hk:atKey xs k=none:=by
  unfold atKey
  rw [List.find?_eq_none.mpr fun x hx=> ?_]
  · rfl
  · intro z
    refine hn ?_
    rw [← p.keys,← of_decide_eq_true z]
    exact List.mem_map_of_mem hx
 rw [storedH_new hk] at dd'
 obtain ⟨o,es,ep,g1,g2,g3,g4,_,_⟩:=dd'
 have new:DicV a (zs++[((b,k),n)]) h':=by
  refine ⟨h0,o,es,ep,g1,g2,g3,?_⟩
  rw [g4]
  exact vx_to (VxR.snoc rr p)
 exact kud I (by rw [e];exact True.intro) sb ⟨o,g1⟩ (show DicV a (zs++[((b,k),n)]) h'∧_∧_ from ⟨new,new.obj,fun h1 h2 x y=>x.to y⟩)
theorem v_len {Q:Value→Shared→Prop} (I:Inv X pins σ H s) (e:H a=some (.ext (DicV a zs))) (hl:zs.length≤1000) (h: ∀t s',Inv X pins σ H s'→Q (.int zs.length t) s'):wpAny (model X.prog X.w) A (call (.builtin "len") [.ref a]) Q E s:=by
 obtain ⟨⟨h0,o,es,ep,h1,h2,h3,r⟩,_,_⟩:=(show ObjOk X.prog X.w H s.heap a (.ext (DicV a zs)) from I.hok a _ e)
 have ty:s.TypeIs (.ref a) "dict":=⟨o,h1,h2.1⟩
 have hes:es.size=zs.length:=by rw [← Array.length_toList];exact (Paired.length r).symm
 refine Calls.call_function_entry kind_len plain_len entry_len (args_len1 _) ?_
 unfold Builtin.«len»
 refine wpAny_bind (m:=oneArg "len" _) (wpAny_pure (wpAny_bind (m:=callSpecial? (.ref a) (Str.ofString "__len__")) (wpAny_callSpecial?_slot (name:=Str.ofString "__len__") ty PySem.F.slot_dict_len (wpAny_call_entry PySem.F.slot_dict_len ty PySem.F.entry_dict_len ?_ (PySem.F.args_dict_len_1 _)))))
 unfold Builtin.«dict.__len__» Builtin.Dict.dictSlotNone
 refine wpAny_bind (wpAny_bind (wpAny_notOrdered_dict ty (wpAny_pure (a:=Value.ref a) ?_)))
 refine wpAny_bind (wpAny_pure ?_)
 unfold dictSize Builtin.Dict.pendingCount
 refine wpAny_bind (wpAny_bind (wpAny_dictEntries h1 h3 (wpAny_pure (wpAny_bind (kbl (fun z=>absurd z (by rw [h0];decide)) fun q_=>wpAny_pure ?_)))))
 rw [hes]
 refine wpAny_ret_mkInt ?_
 rw [show ((zs.length:Int) + ((0:Nat):Int))=zs.length by simp]
 refine wpAny_bind (wpAny_holding (wpAny_pure (wpAny_bind (wpAny_letGo ?_))))
 refine kbl (fun z=>absurd z (by lia)) fun q_=>kbl (fun z=>absurd z (by lia)) fun q_=> ?_
 exact wpAny_bind (wpAny_mkInt (wpAny_pure ⟨_,rfl,h _ _ (I.tok _)⟩))
end
noncomputable def vwD (k:Vw):PyData:= .tuple [.int k.1,.tuple (k.2.1.map PyData.int),.tuple (k.2.2.map PyData.int)]
theorem kjd {K:PySem.W.Frag} {R:Hp}: ∀{x:List Int} {zs:List V},RpAll K R zs (x.map PyData.int)→zs=x.map V.int
 | [],_,r=>by cases r;rfl
 | n::x,_,r=>by
   rw [List.map_cons] at r
   cases r with
   | cons h t=>rw [h.int_inv,kjd t];rfl
theorem kl6 {K:PySem.W.Frag} {R:Hp} {v:V} {k:Vw} (r:Rp K R v (vwD k)): ∃a,v= .ref a∧VwH R a k:=by
 obtain ⟨a,zs,rfl,ha,rz⟩:=r.tup_inv
 cases rz with
 | cons z1 rz=>
   cases rz with
   | cons z2 rz=>
     cases rz with
     | cons z3 rz=>
       cases rz
       obtain ⟨p,us,rfl,hp,ru⟩:=z2.tup_inv
       obtain ⟨q,os,rfl,hq,ro⟩:=z3.tup_inv
       rw [z1.int_inv] at ha
       rw [kjd ru] at hp
       rw [kjd ro] at hq
       exact ⟨a,rfl,p,q,ha,hp,hq⟩
noncomputable def ky8:TE:=fun q_ H Q=>∀p,H p=none→Q (.ref p) (upd H p (.ext (DicV p [])))
theorem kru {X:Cx} {pos:Pos}:PE X (.Dict [] [] pos) ky8:=fun pins s σ H Q I h=>by
 have hb:(s.heap.objs.size == sysModules)=false:=beq_eq_false_iff_ne.mpr (Ne.symm (Nat.ne_of_lt I.big))
 have new:DicV s.heap.objs.size [] (s.heap.push {cls:= .type "dict",data:= .dict #[]}):=⟨hb,_,#[],0,Heap.get?_push_size _ rfl,⟨rfl,rfl,rfl⟩,rfl,.nil⟩
 exact wpAny_Dict_empty ⟨.ref s.heap.objs.size,_,I.laid (a:=s.heap.objs.size) (o:= .ext (DicV s.heap.objs.size [])) (t':=s.toks) (fun q_ q_ q=>Heap.get?_push_of_some _ q) (Nat.le_refl _) (show DicV _ [] _∧_∧_ from ⟨new,new.obj,fun h1 h2 x y=>x.to y⟩),rfl,h _ (I.hok.fresh (Nat.le_refl _))⟩
section
variable {He:Hp} {K:PySem.W.Frag} {ι:Type} {Y:ι→Cx} {e a b c:Expr} {es:List Expr} {pos:Pos}
theorem Fra.dvAt {H0 R H:Hp} {σ:St} {env:List Dt} {i:Nat} {kvs:List (Vw×Int)} (F:Fra He K H0 R H σ env) (h:env[i]?=some (.dv kvs)): ∃a zs,σ[i]?=some (some (.ref a))∧H a=some (.ext (DicV a zs))∧R a=none∧H0 a=none∧DvR R zs kvs:=by
 obtain ⟨v,hs,a,zs,rfl,h2,h3,h4,h5⟩:=F.get h (by intro z;cases z)
 exact ⟨a,zs,hs,h2,h3,h4,h5⟩
noncomputable def kvu (i:Nat):Ds:=fun D env=>D.nx (env.set i (.dv []))
theorem kvv (i:Nat) {x:Str} {p2 p3:Pos} (hN: ∀j,(Y j).N.Nodup) (hi:autoParam (∀ j,(Y j).N[i]?=some x) u3._auto_1) (hx:autoParam (∀ j,Loc (Y j).env.scope x) u12._auto_1)
 (hs:autoParam (∀ j,swapsWith (.Dict [] [] p3) (some (.Name x p2)) pos.line (Y j).env=pure false) u3._auto_1) (hf:autoParam (∀ j,(Y j).fn x=true∨(Y j).env.scope.names.lookup x=some .local) u13._auto_1):
 DS He K Y (.Assign [.Name x p2] (.Dict [] [] p3) pos) (kvu i):=
 ⟨_,fun j=>ka9 (hN j) (hi j) (hx j) kru (hs j) (hf j),fun D E F s c p q hn=>c.nx _ _ _ _ p s (F.setN (Ext.newO (o:= .ext (DicV q [])) F.wd hn trivial) i hn ⟨q,[],rfl,kad,F.wd.rh.free hn,F.ext.hh.free hn,rfl,fun q_ z=>nomatch z⟩)⟩
noncomputable def sVPut (td ty tv:TE):TS:=fun D σ H=>tv σ H fun v H1=>td σ H1 fun x H2=>ty σ H2 fun y H3=>∃(a b:Addr) (zs:List ((Addr×Vw)×Int)) (k:Vw) (n:Int),x= .ref a∧y= .ref b∧v= .int n∧H3 a=some (.ext (DicV a zs))∧(∀ z∈zs,VwH H3 z.1.1 z.1.2)∧(zs.map (·.1.2)).Nodup∧zs.length≤1000∧VwH H3 b k∧k ∉ zs.map (·.1.2)∧D.nx σ (upd H3 a (.ext (DicV a (zs++[((b,k),n)]))))
theorem kvw {X:Cx} {o i value:Expr} {pos':Pos} {td ty tv:TE} (hu:X.A.units + 2 < cLine) (ho:PE X o td) (hi:PE X i ty) (hv:PE X value tv) (hs:swapsWith value (some (.Subscript o i pos')) pos.line X.env=pure false):PS X (.Assign [.Subscript o i pos'] value pos) (sVPut td ty tv):=by
 intro pins s σ H D I h
 refine wpAny_Assign_Subscript (thn (hv pins s σ H _ I h) fun r s1 ⟨v,H1,I1,rv,q1⟩=>thn (ho pins s1 σ H1 _ I1 q1) fun u s2 ⟨x,H2,I2,rx,q2⟩=>thn (hi pins s2 σ H2 _ I2 q2) fun iv s3 ⟨y,H3,I3,ry,a,b,zs,k,n,ex,ey,ev,g1,g2,g3,g4,g5,g6,q3⟩=> ?_) hs
 subst ex;subst ey;subst ev
 obtain rfl:u=Value.ref a:=rx
 obtain rfl:iv=Value.ref b:=ry
 exact kok hu I3 g1 g2 g3 g4 g5 g6 rv fun s4 I4=>⟨σ,_,I4,q3⟩
theorem DvR.keys {R:Hp} {zs:List ((Addr×Vw)×Int)} {kvs:List (Vw×Int)} (h:DvR R zs kvs):zs.map (·.1.2)=kvs.map (·.1):=by rw [h.1,List.map_map];rfl
noncomputable def kvx (i:Nat) (ta tb:De):Ds:=fun D env=>tb env fun v=>∃kvs n,env[i]?=some (.dv kvs)∧v= .int n∧kvs.length≤1000∧(kvs.map (·.1)).Nodup∧ta env fun y=>∃k,y=vwD k∧k ∉ kvs.map (·.1)∧D.nx (env.set i (.dv (kvs++[(k,n)])))
theorem kvy (i:Nat) {x:Str} {p2 p3:Pos} {ta tb:De} (hu: ∀j,(Y j).A.units + 2 < cLine) (ha:DE He K Y a ta) (hb:DE He K Y b tb) (hv:autoParam (∀ j,PE (Y j) (.Name x p2) (khr i)) u8._auto_1)
 (hs:autoParam (∀ j,swapsWith b (some (.Subscript (.Name x p2) a p3)) pos.line (Y j).env=pure false) u3._auto_1):
 DS He K Y (.Assign [.Subscript (.Name x p2) a p3] b pos) (kvx i ta tb):=by
 obtain ⟨t1,a1,a2⟩:=ha
 obtain ⟨t2,b1,b2⟩:=hb
 refine ⟨_,fun j=>kvw (hu j) (hv j) (a1 j) (b1 j) (hs j),fun D E F s c p=> ?_⟩
 refine b2 _ _ F p fun d v R1 H1 ⟨kvs,n,hx,hn,hl,nd,p1⟩ e1 r1=> ?_
 subst hn
 obtain ⟨q,zs,h1,h2,h3,h4,h5⟩:=(F.next e1).dvAt hx
 refine ⟨_,h1,a2 _ _ (F.next e1) p1 fun d2 v2 R2 H2 ⟨k,hk,nk,p2⟩ e2 r2=> ?_⟩
 subst hk
 obtain ⟨pp,rfl,hpp⟩:=kl6 r2
 have F2:=(F.next e1).next e2
 have l2:=e2.hh q _ h2
 have h5':=h5.same e2.rr
 refine ⟨q,pp,zs,k,n,rfl,rfl,r1.int_inv,l2,fun z hz=>(h5'.2 z hz).same F2.wd.rh,by rw [h5.keys];exact nd,by rw [h5.1,List.length_map] at hl;exact hl,hpp.same F2.wd.rh,by rw [h5.keys];exact nk,?_⟩
 refine c.nx _ _ _ _ p2 (s.trans (e1.trans e2).rr) (F2.mut hx rfl h1 trivial ⟨q,_,rfl,kad,e2.nn _ _ h2 h3,h4,by rw [h5.1];simp,fun z hz=> ?_⟩)
 rcases List.mem_append.mp hz with hz | hz
 · exact h5'.2 z hz
 · rw [List.mem_singleton.mp hz]
   exact hpp
noncomputable def tVGet (td ty:TE):TE:=fun σ H Q=>td σ H fun x H1=>ty σ H1 fun y H2=>∃(a b:Addr) (zs:List ((Addr×Vw)×Int)) (k:Vw) (n:Int),x= .ref a∧y= .ref b∧H2 a=some (.ext (DicV a zs))∧(∀ z∈zs,VwH H2 z.1.1 z.1.2)∧(zs.map (·.1.2)).Nodup∧VwH H2 b k∧(k,n)∈zs.map (fun z=>(z.1.2,z.2))∧Q (.int n) H2
theorem dv_ty {X:Cx} {pins:List (Addr×Obj)} {σ:St} {H:Hp} {s:Shared} {a:Addr} {zs:List ((Addr×Vw)×Int)} (I:Inv X pins σ H s) (e:H a=some (.ext (DicV a zs))):s.TypeIs (.ref a) "dict":=by
 obtain ⟨⟨h0,o,es,ep,h1,h2,_⟩,_,_⟩:=(show ObjOk X.prog X.w H s.heap a (.ext (DicV a zs)) from I.hok a _ e)
 exact ⟨o,h1,h2.1⟩
theorem kvz {X:Cx} {o i:Expr} {td ty:TE} (hu:X.A.units + 2 < cLine) (ho:PE X o td) (hi:PE X i ty) (hs:NoSl i):PE X (.Subscript o i pos) (tVGet td ty):=by
 intro pins s σ H Q I h
 refine kue PySem.F.slot_dict_getitem.lookup hs (thn (ho pins s σ H _ I h) fun u s1 ⟨x,H1,I1,rx,q1⟩=>thn (hi pins s1 σ H1 _ I1 q1) fun iv s2 ⟨y,H2,I2,ry,a,b,zs,k,n,ex,ey,g1,g2,g3,g4,g5,q2⟩=> ?_)
 subst ex;subst ey
 obtain rfl:u=Value.ref a:=rx
 obtain rfl:iv=Value.ref b:=ry
 exact ⟨dv_ty I2 g1,koj hu I2 g1 g2 g3 g4 g5 fun t s3 I3=>⟨.int n,H2,I3,⟨t,rfl⟩,q2⟩⟩
noncomputable def kv0 (i:Nat) (ta:De):De:=fun env P=>∃kvs,env[i]?=some (.dv kvs)∧(kvs.map (·.1)).Nodup∧ta env fun y=>∃k n,y=vwD k∧(k,n)∈kvs∧P (.int n)
theorem kol (i:Nat) {x:Str} {p2:Pos} {ta:De} (hu: ∀j,(Y j).A.units + 2 < cLine) (ha:DE He K Y a ta) (hv:autoParam (∀ j,PE (Y j) (.Name x p2) (khr i)) u8._auto_1)
 (hs:autoParam (NoSl a) u10._auto_1):DE He K Y (.Subscript (.Name x p2) a pos) (kv0 i ta):=by
 obtain ⟨t1,a1,a2⟩:=ha
 refine ⟨_,fun j=>kvz (hu j) (hv j) (a1 j) hs,fun P Q F p k=> ?_⟩
 obtain ⟨kvs,hx,nd,p⟩:=p
 obtain ⟨q,zs,h1,h2,h3,h4,h5⟩:=F.dvAt hx
 refine ⟨_,h1,a2 _ _ F p fun d v R1 H1 ⟨kk,n,hk,hm,p1⟩ e1 r1=> ?_⟩
 subst hk
 obtain ⟨pp,rfl,hpp⟩:=kl6 r1
 have h5':=h5.same e1.rr
 have F1:=F.next e1
 exact ⟨q,pp,zs,kk,n,rfl,rfl,e1.hh _ _ h2,fun z hz=>(h5'.2 z hz).same F1.wd.rh,by rw [h5.keys];exact nd,hpp.same F1.wd.rh,by rw [← h5.1];exact hm,k _ _ R1 H1 p1 e1 (.int _)⟩
theorem kom {X:Cx}:CallR X (.builtin "len") (fun xs H Q=>∃(a:Addr) (zs:List ((Addr×Vw)×Int)),xs=[V.ref a]∧H a=some (.ext (DicV a zs))∧zs.length≤1000∧Q (.int zs.length) H):=by
 intro pins s σ H xs us Q I r h
 obtain ⟨a,zs,rfl,ha,hl,q⟩:=h
 obtain ⟨u,rfl,ru⟩:=kd6 r
 cases ru
 exact v_len I ha hl fun t s' I'=>⟨.int zs.length,H,I',⟨t,rfl⟩,q⟩
noncomputable def kv1 (i:Nat):De:=fun env P=>∃kvs,env[i]?=some (.dv kvs)∧kvs.length≤1000∧P (.int kvs.length)
theorem kon (i:Nat) {x:Str} {p2 p:Pos} (hm: ∀j,(Y j).mg "len"=none) (hv:autoParam (∀ j,PE (Y j) (.Name x p2) (khr i)) u8._auto_1) (hg:autoParam (∀ j,Gl (Y j) "len") u3._auto_1)
 (hs:autoParam (∀ j,starEach [.Name x p2] (Y j).env=[(false,eval (.Name x p2) (Y j).env)]) u3._auto_1):DE He K Y (.Call (.Name "len" p) [.Name x p2] [] pos) (kv1 i):=by
 refine ⟨_,fun j=>kbf kom (hg j) (hm j) boot_len (kab (hv j) kai (hs j)) (by decide) (by decide) (hs j) rfl,fun P Q F p k=> ?_⟩
 obtain ⟨kvs,hx,hl,p⟩:=p
 obtain ⟨q,zs,h1,h2,h3,h4,h5⟩:=F.dvAt hx
 have e:zs.length=kvs.length:=by rw [h5.1,List.length_map]
 refine ⟨_,h1,q,zs,rfl,h2,by rw [e];exact hl,?_⟩
 rw [e]
 exact k _ _ _ _ p (.refl F.wd) (.int _)
noncomputable def koo (t:Dq):Dq:=fun env P=>t env fun xs=>∃vs:List Vw,xs=vs.map vwD∧∀ws:List Vw,ws.Perm vs→ws.Pairwise (fun x y=>ltV y x=false)→P (ws.map vwD)
theorem kk0 {t:Dq} {p:Pos} (h:DL He K Y e t) (hm: ∀i,(Y i).mg "sorted"=none) (hu: ∀i,(Y i).A.units + 40 < cLine) (hg:autoParam (∀ i,Gl (Y i) "sorted") u3._auto_1) (hK:autoParam (∀ i,(Y i).K=K) u3._auto_1) (hs:autoParam (∀ i,starEach [e] (Y i).env=[(false,eval e (Y i).env)]) u3._auto_1):
 DO He K Y (.Call (.Name "sorted" p) [e] [] pos) (koo t):=by
 obtain ⟨te,h1,h2⟩:=h
 refine ⟨_,fun i=>kbf (kl4 K (hK i) (hu i)) (hg i) (hm i) kc8 (kab (h1 i) kai (hs i)) (by decide) (by decide) (hs i) rfl,fun P Q F p k=>h2 _ _ F p fun ds a ys R1 H1 pd e1 ha r1=> ?_⟩
 obtain ⟨vs,rfl,kk⟩:=pd
 have hl:ys.length=vs.length:=by rw [r1.len,List.length_map]
 refine ⟨a,ys,vs,rfl,SqL.of ha,hl,fun i v hv=> ?_,fun l π hn hp hs=> ?_⟩
 · obtain ⟨u,hu',ru⟩:=r1.get' (i:=i) (d:=vwD v) (by rw [List.getElem?_map,hv];rfl)
   obtain ⟨b,rfl,hb⟩:=kl6 ru
   exact ⟨b,hu',hb.same e1.wd.rh⟩
 · have pin: ∀i∈π,i < vs.length:=fun i hi=>List.mem_range.mp (hp.mem_iff.mp hi)
   have er:(π.map fun i=>(vs.map vwD).getD i PyData.none)=(π.map fun i=>vs.getD i vw0).map vwD:=by
    rw [List.map_map]
    refine List.map_congr_left fun i hi=> ?_
    have:=pin i hi
    simp [this]
   have ra:=kvb r1 π fun i hi=>by rw [hl];exact pin i hi
   rw [er] at ra
   have hp2:(π.map fun i=>vs.getD i vw0).Perm vs:=by
    have:=hp.map fun i=>vs.getD i vw0
    rwa [kbz] at this
   have hpw:(π.map fun i=>vs.getD i vw0).Pairwise (fun x y=>ltV y x=false):=by
    rw [List.pairwise_iff_getElem]
    intro i j hi hj hij
    rw [List.length_map] at hi hj
    have z:=hs i j (by lia) hj
    simp only [List.getElem_map]
    rw [show π.getD i 0=π[i] by simp [hi],show π.getD j 0=π[j] by simp [hj]] at z
    exact z
   exact k _ l _ R1 _ (kk _ hp2 hpw) (e1.trans (Ext.newO e1.wd hn trivial)) (e1.hh.free hn) kad (e1.wd.rh.free hn) ra
theorem ky9:bootBuiltins "set"=some (.type "set"):=by decide +kernel
noncomputable def kop (t:Dq):Dq:=fun env P=>t env fun xs=>∃vs:List Vw,xs=vs.map vwD∧vs.length≤16∧∀ws:List Vw,ws.Nodup→(∀ v,v∈ws↔v∈vs)→ws.Pairwise (fun x y=>ltV y x=false)→P (ws.map vwD)
theorem krv {t:Dq} {p p' pos':Pos} (w:World) (h:DL He K Y e t) (hm: ∀i,(Y i).mg "sorted"=none) (hm2: ∀i,(Y i).mg "set"=none) (hu: ∀i,(Y i).A.units + 40 < cLine) (hw:autoParam (∀ i,(Y i).w=w) u3._auto_1) (hc:autoParam (∀ i,(Y i).calm=true) u3._auto_1) (hg:autoParam (∀ i,Gl (Y i) "sorted") u3._auto_1) (hg2:autoParam (∀ i,Gl (Y i) "set") u3._auto_1) (hK:autoParam (∀ i,(Y i).K=K) u3._auto_1)
 (hs:autoParam (∀ i,starEach [e] (Y i).env=[(false,eval e (Y i).env)]) u3._auto_1) (hs2:autoParam (∀ i,starEach [.Call (.Name "set" p') [e] [] pos'] (Y i).env=[(false,eval (.Call (.Name "set" p') [e] [] pos') (Y i).env)]) u3._auto_1):
 DO He K Y (.Call (.Name "sorted" p) [.Call (.Name "set" p') [e] [] pos'] [] pos) (kop t):=by
 obtain ⟨te,h1,h2⟩:=h
 refine ⟨_,fun i=>kbf (kl5 w (hw i) (hc i) (hu i)) (hg i) (hm i) kc8 (kab (kbq (koh K w (hw i) (hK i) (hc i) (hu i)) (hg2 i) (hm2 i) ky9 (kab (h1 i) kai (hs i)) (by decide) (by decide) (hs i) rfl) kai (hs2 i)) (by decide) (by decide) (hs2 i) rfl,fun P Q F p k=>h2 _ _ F p fun ds a ys R1 H1 pd e1 ha r1=> ?_⟩
 obtain ⟨vs,rfl,h16,kk⟩:=pd
 have hl:ys.length=vs.length:=by rw [r1.len,List.length_map]
 have at1: ∀(i:Nat) (v:Vw),vs[i]?=some v→∃b,ys[i]?=some (.ref b)∧Rp K R1 (.ref b) (vwD v):=fun i v hv=>by
  obtain ⟨u,hu',ru⟩:=r1.get' (i:=i) (d:=vwD v) (by rw [List.getElem?_map,hv];rfl)
  obtain ⟨b,rfl,hb⟩:=kl6 ru
  exact ⟨b,hu',ru⟩
 refine ⟨a,ys,vs,rfl,SqL.of ha,hl,h16,fun i v hv=> ?_,fun l zs hn nd mem hz=> ?_⟩
 · obtain ⟨b,b1,b2⟩:=at1 i v hv
   obtain ⟨b',e',hb⟩:=kl6 b2
   cases e'
   exact ⟨b,b1,hb.same e1.wd.rh⟩
 have rz: ∀z∈zs,Rp K R1 (.ref z.1) (vwD z.2):=fun z m=>by
  obtain ⟨j,j1,j2⟩:=hz z m
  obtain ⟨b,b1,b2⟩:=at1 j _ j2
  rw [j1] at b1
  cases b1
  exact b2
 have ex1:=Ext.newO (o:= .ext (SetV w l zs)) e1.wd hn trivial
 have le:zs.length≤16:=by
  have:=nd.length_le_of_subset (fun v hv=>(mem v).mp hv)
  rw [List.length_map] at this
  lia
 refine ⟨l,zs,rfl,kad,le,fun z m=> ?_,fun l2 ts hn2 tp pw=> ?_⟩
 · obtain ⟨b',e',hb⟩:=kl6 (rz z m)
   cases e'
   exact (hb.same e1.wd.rh).same ex1.hh
 have ra:RpAll K R1 (ts.map fun z=>V.ref z.1) ((ts.map (·.2)).map vwD):=by
  have: ∀{us:List (Addr×Vw)},(∀ z∈us,Rp K R1 (.ref z.1) (vwD z.2))→RpAll K R1 (us.map fun z=>V.ref z.1) ((us.map (·.2)).map vwD):=by
   intro us
   induction us with
   | nil=>intro q_;exact .nil
   | cons z us ih=>intro h;exact .cons (h z List.mem_cons_self) (ih fun z m=>h z (List.mem_cons_of_mem _ m))
  exact this fun z m=>rz z (tp.mem_iff.mp m)
 have tn:(ts.map (·.2)).Perm (zs.map (·.2)):=tp.map _
 refine k _ l2 _ R1 _ (kk (ts.map (·.2)) (tn.nodup_iff.mpr nd) (fun v=>by rw [tn.mem_iff];exact mem v) (List.pairwise_map.mpr pw)) (e1.trans (ex1.trans (Ext.newO ex1.wd hn2 trivial))) (e1.hh.free (ex1.hh.free hn2)) kad (ex1.wd.rh.free hn2) ra
end
end L2
namespace L2
open PySem PySem.Spec PyProof.Rows
section
variable {X:Cx}
theorem krw (K:PySem.W.Frag) (hK:X.K=K):MtR X "list.count" (fun x xs H Q=>∃(p:Addr) (ns:List Int) (k:Int),x= .ref p∧xs=[.int k]∧SqL K H p (ns.map V.int)∧Q (.int (ns.count k:Nat)) H):=by
 subst hK
 intro pins s σ H x xs v us Q I rx rs h
 obtain ⟨p,ns,k,rfl,rfl,hq,q⟩:=h
 cases rx
 obtain ⟨u,rfl,t,rfl⟩:=Vals.one rs
 obtain ⟨its,rv,pl,hz⟩:=I.list hq
 exact count_list_ints pl.isList (kgh rv) ⟨.int _,H,I.tok _,⟨_,rfl⟩,q⟩
end
section
variable {He:Hp} {K:PySem.W.Frag} {ι:Type} {Y:ι→Cx} {e a b:Expr} {pos:Pos}
noncomputable def koq (t:Dq) (u:De):De:=fun env P=>t env fun l=>u env fun d=>∃(ns:List Int) (k:Int),l=ns.map PyData.int∧d= .int k∧P (.int (ns.count k:Nat))
theorem krx {t:Dq} {u:De} {apos cpos:Pos} (ho:DL He K Y a t) (h:DB He K Y e u) (hK:autoParam (∀ i,(Y i).K=K) u3._auto_1)
 (hbase:autoParam (∀ j,attributeBase a "count" (Y j).env (eval a (Y j).env)=eval a (Y j).env) u3._auto_1)
 (hfew:autoParam (∀ j,((backTo cpos (starEach [e] (Y j).env)).all (fun x=> !x.1) && (backToKw cpos (keywordEach [] (Y j).env)).all (fun x=>x.1.isSome)
   && decide (([e]:List Expr).length + ([]:List Keyword).length + (if ([]:List Keyword).isEmpty then 0 else 1) < 30))=true) u3._auto_1)
 (hline:autoParam ((apos.endLine == cpos.line)=true) u4._auto_1) (hs:autoParam (∀ j,starEach [e] (Y j).env=(false,eval e (Y j).env)::starEach [] (Y j).env) u3._auto_1) (hplain:autoParam (∀ j,(backTo cpos (starEach [] (Y j).env)).any (·.1)=false) u3._auto_1):
 DE He K Y (.Call (.Attribute a "count" apos) [e] [] cpos) (koq t u):=by
 obtain ⟨te,a1,a2⟩:=ho
 obtain ⟨te',b1,b2⟩:=h
 refine ⟨_,fun j=>kj9 K (hK j) PySem.F.plainAttrs_list PySem.F.slot_list_count PySem.F.type_list_count (krw K (hK j)) (a1 j) (kab (b1 j) kai (hs j)) (hbase j) (hfew j) hline (hs j) (hplain j),fun P Q F p k=> ?_⟩
 refine a2 _ _ F p fun l x ys R1 H1 q1 e1 s1 r1=> ?_
 refine ⟨.inl ⟨rfl,_,SqL.of s1⟩,b2 _ _ (F.next e1) q1 fun d v R2 H2 ⟨ns,m,hl,hd,q2⟩ e2 r2=> ?_⟩
 subst hl hd
 have ev:=r2.int_inv
 subst ev
 have ey:=RpAll.ints_inv r1
 subst ey
 exact ⟨x,ns,m,rfl,rfl,SqL.of (e2.hh _ _ s1),k _ _ R2 H2 q2 (e1.trans e2) (.int _)⟩
end
end L2
namespace L2
open PySem PySem.Spec PyProof.Rows
noncomputable def Ite (a:Addr):It where
 go:=fun i H=>∃xs,SqB true H a xs∧i < xs.length
 yld:=fun i H v H'=>∃p x,v= .ref p∧H p=none∧H'=upd H p (.tup [.int (i:Nat),x])∧∀xs,SqB true H a xs→xs[i]?=some x
 stop:=fun i H=>∃xs,SqB true H a xs∧i=xs.length
theorem two {P:Addr→Prop} {a b:Addr} (h1:P a) (h2:P b): ∀x∈[a,b],P x
 | _,.head _=>h1
 | _,.tail _ (.head _)=>h2
theorem kor {P:Program} {w:World} {K:PySem.W.Frag} {elts:List Expr} {kk:Nat} {tpos:Pos} (a e it:Addr) (hei:e≠it):
 Turn P w K (.Tuple elts kk tpos) (Ite a) [e,it] e (fun i h=>(∃ old,IsEnum h e it i old)∧h.IsListIter it a i) where
 mem:= .head _
 obj:=fun i h ⟨⟨old,s1⟩,s2⟩=>two ⟨_,s1,fun q_ q=>nomatch q⟩ (by obtain ⟨o,e,c,d⟩:=s2;exact ⟨o,e,fun v z=>by rw [d] at z;cases z⟩)
 keep:=fun i h h' ⟨⟨old,s1⟩,s2⟩ k=>⟨⟨old,k e (.head _) _ s1⟩,s2.at fun o x=>k it (.tail _ (.head _)) o x⟩
 item:=by
  intro X hP hw hK hc i pins s σ H E I hf ⟨⟨old,s1⟩,s2⟩ hg
  subst hP hw hK
  obtain ⟨xs,q1,l1⟩:=hg
  obtain ⟨its,r1,p1,z1⟩:=I.itemsB q1
  have p1:s.heap.IsList a its.toArray:=p1
  have nf: ∀b∈[e,it],∀o,H b≠some o:=fun b hb o e=>by rw [(hf b hb).1] at e;cases e
  have e1:=r1.length
  have hi:i < its.length:=by lia
  have hx:its.toArray[i]?=some its[i]:=by simp [hi]
  refine wpAny_pyNext_enum_item s1 s2 p1 hx hei fun h' ho hit' hT hsz hk=> ?_
  refine ⟨_,rfl,wpAny_letOwnedTupleGo_enum (s:={s with heap:=h',toks:=s.toks + 1}) ho fun h2' w1 w2=> ?_⟩
  replace w2:Heap.SameBut e h' h2':=w2
  obtain ⟨oi,gi,_⟩:=id s2
  have lt: ∀b∈[e,it],b < s.heap.objs.size:=two (Heap.lt_size s1) (Heap.lt_size gi)
  obtain ⟨vx,hvx,rvx⟩: ∃vx,xs[i]?=some vx∧RelV vx its[i]:=by
   obtain ⟨u,hu,ru⟩:=r1.get (i:=i) (x:=xs[i]) (kyc l1)
   have:its[i]?=some its[i]:=List.getElem?_eq_getElem hi
   rw [this] at hu;cases hu
   exact ⟨_,kyc l1,ru⟩
  have ze:s.heap.objs.size≠e:=Nat.ne_of_gt (lt e (.head _))
  have tup2:=w2.extBut _ _ ze hT
  refine ⟨.ref s.heap.objs.size,upd H s.heap.objs.size (.tup [.int (i:Nat),vx]),?_,rfl,⟨_,vx,rfl,I.hok.fresh (Nat.le_refl _),rfl,fun xs' h=> ?_⟩,⟨⟨_,by simpa using w1⟩,?_⟩,fun b hb=> ?_⟩
  · refine Inv.turnedL (s:=s) (h':=h2') (t':=s.toks + 1) (fp:=[e,it]) (its:=[.int (i:Nat) s.toks,its[i]]) I hf (fun b o hb x=> ?_) rfl (by show 2≤sizeLine;decide) (.cons ⟨_,rfl⟩ (.cons rvx .nil)) ⟨_,tup2,rfl,_,rfl⟩ lt
    simp only [List.mem_cons,List.not_mem_nil,or_false,not_or] at hb
    exact w2.extBut _ _ hb.1 (hk b o hb.1 hb.2 x)
  · rw [h.inj q1];exact hvx
  · exact hit'.at fun o x=>w2.extBut _ _ hei.symm x
  · rw [kah (Nat.ne_of_lt (lt b hb))];exact (hf b hb).1
 done:=by
  intro X hP hw hK hc i pins s σ H E I hf ⟨⟨old,s1⟩,s2⟩ hg
  subst hP hw hK
  obtain ⟨xs,q1,hi⟩:=hg
  obtain ⟨its,r1,p1,z1⟩:=I.itemsB q1
  have p1:s.heap.IsList a its.toArray:=p1
  have hh:X.A.in1.handled=none:=I.ok.hd hc
  have e1:=r1.length
  refine wpAny_pyNext_enum_end hh s1 s2 p1 (Array.getElem?_eq_none (by simp;lia)) fun h' hx=>⟨rfl,?_⟩
  refine Inv.turnedN (fp:=[e,it]) (t':=s.toks) I hf fun b o hb x=> ?_
  simp only [List.mem_cons,List.not_mem_nil,or_false,not_or] at hb
  exact hx b o hb.2 x
 self:=fun q_ q_ q_ q_ q_ st h=>by
  obtain ⟨⟨old,s1⟩,_⟩:=st
  exact wpAny_pyIter_enum s1 h
theorem kos:bootBuiltins "enumerate"=some (.type "enumerate"):=by decide +kernel
section
variable {X:Cx} {elts:List Expr} {kk:Nat} {tpos:Pos}
noncomputable def iEnum (ta:TA):TI:=fun σ H R=>ta σ H fun vs H2=>∃a xs,vs=[.ref a]∧SqB true H2 a xs∧(xs.length≤sizeLine→R (Ite a) H2)
theorem kv2 {a:Expr} {ta:TA} {p pos:Pos} (hg:Gl X "enumerate") (hm:X.mg "enumerate"=none) (ha:PA X [a] ta) (hs:autoParam (starEach [a] X.env=[(false,eval a X.env)]) u4._auto_1):
 PI X (.Tuple elts kk tpos) (.Call (.Name "enumerate" p) [a] [] pos) (iEnum ta):=by
 intro pins s σ H R I h
 refine Call_ (kgg I hg hm kos (PyProof.Rows.callWith_type1 (thn (ha pos pins s σ H _ I h) fun us s1 ⟨vs,H1,I1,r1,q1⟩=> ?_) (by rw [hs];rfl) rfl))
 obtain ⟨b,xs,e,h1,q⟩:=q1
 subst e
 obtain ⟨u,rfl,ra⟩:=kd6 r1
 cases ra
 obtain ⟨its,r2,p2,z2⟩:=I1.itemsB h1
 refine call_enumerate_list p2 fun h' g1 g2 q_ kp=> ?_
 refine wpAny_pyIter_enum (s:={s1 with heap:=h'}) g1 ?_
 refine ⟨s1.heap.objs.size + 1,[s1.heap.objs.size + 1,s1.heap.objs.size],_,_,H1,rfl,I1.kept (t':=s1.toks) kp,kor b (s1.heap.objs.size + 1) s1.heap.objs.size (Nat.ne_of_gt (Nat.lt_succ_self _)),⟨⟨_,g1⟩,g2⟩,fun c hc=> ?_,q z2⟩
 have le:s1.heap.objs.size≤c:=by
  simp only [List.mem_cons,List.not_mem_nil,or_false] at hc
  rcases hc with rfl | rfl
  · exact Nat.le_succ _
  · exact Nat.le_refl _
 exact I1.fpOk le (I1.hok.fresh le)
end
noncomputable def kip (xs:List PyData):List PyData:=xs.zipIdx.map fun p=> .tuple [.int (p.2:Nat),p.1]
theorem kco (xs:List PyData):(kip xs).length=xs.length:=by unfold kip;rw [List.length_map,List.length_zipIdx]
theorem kec {xs:List PyData} {i:Nat} {d:PyData} (h:(kip xs)[i]?=some d): ∃x,xs[i]?=some x∧d= .tuple [.int (i:Nat),x]:=by
 unfold kip at h
 rw [List.getElem?_map,List.getElem?_zipIdx] at h
 cases e:xs[i]? with
 | none=>rw [e] at h;cases h
 | some x=>rw [e] at h;simp at h;exact ⟨x,rfl,h.symm⟩
section
variable {He:Hp} {K:PySem.W.Frag} {ι:Type} {Y:ι→Cx} {a b:Expr} {pos:Pos} {elts:List Expr} {kk:Nat} {tpos:Pos}
theorem kry {R:Hp} {a1:Addr} {us:List V} {xs:List PyData} (h1:SqB true R a1 us) (r1:RpAll K R us xs):Yld K (Ite a1) R (kip xs):=by
 have e1:=r1.len
 refine ⟨fun R1 H1 i s w hi=> ?_,fun R1 H1 i d x H2 s w hd y=> ?_,fun R1 H1 s w=> ?_⟩
 · rw [kco] at hi
   exact ⟨us,(s.trans w.rh) _ _ h1,by lia⟩
 · obtain ⟨dx,hx,rfl⟩:=kec hd
   obtain ⟨p,vx,rfl,hp,rfl,g1⟩:=y
   have z1:=g1 us ((s.trans w.rh) _ _ h1)
   obtain ⟨d1,k1,q1⟩:=r1.get z1
   rw [hx] at k1;cases k1
   have e:=Ext.new (o:= .tup [.int (i:Nat),vx]) w hp
   exact ⟨_,e,.tup kad (.cons (.int _) (.cons (Rp.same (s.trans e.rr) q1) .nil))⟩
 · exact ⟨us,(s.trans w.rh) _ _ h1,by rw [kco];lia⟩
noncomputable def kv3 (ta:De):Dq:=fun env P=>ta env fun x=>∃xs,x= .list xs∧P (kip xs)
theorem khf {ta:De} {p:Pos} (ha:DE He K Y a ta) (hm: ∀i,(Y i).mg "enumerate"=none) (hg:autoParam (∀ i,Gl (Y i) "enumerate") u3._auto_1) (hs:autoParam (∀ i,starEach [a] (Y i).env=[(false,eval a (Y i).env)]) u3._auto_1):
 DI He K Y (.Tuple elts kk tpos) (.Call (.Name "enumerate" p) [a] [] pos) (kv3 ta):=by
 obtain ⟨te,h1,h2⟩:=ha
 refine ⟨_,fun i=>kv2 (hg i) (hm i) (kab (h1 i) kai (hs i)) (hs i),fun P Q F p k=>h2 _ _ F p fun d v R1 H1 ⟨xs,hc,pl⟩ e1 r1=> ?_⟩
 subst hc
 obtain ⟨a1,us,rfl,g1,w1⟩:=r1.lst_inv
 refine ⟨a1,us,rfl,e1.rh _ _ g1,fun hz=>k _ _ R1 H1 pl e1 ?_ (kry g1 w1)⟩
 rw [kco,← w1.len];lia
end
end L2
namespace L2
open PySem PySem.Spec PySem.W PySem.Calls PyProof.Rows
section
variable {prog:Program} {w:World} {A:Around} {E:Value→Shared→Prop} {s:Shared}
theorem kv4 {r:Addr} {u:Obj} {c:Nat} {its:List Value} {R:List Value→Shared→Prop} (hr:s.heap.get? r=some u) (uc:u.cls= .type "tuple") (ud:u.data= .seq its.toArray c) (hz:its.length≤sizeLine)
 (k: ∀h1:Heap,(∀ b o,s.heap.get? b=some o→h1.get? b=some o)→s.heap.objs.size≤h1.objs.size→R its {s with heap:=h1}):wpAny (model prog w) A (collect (.ref r)) R E s:=by
 unfold collect
 apply wpAny_bind;apply wpAny_runValue;apply codeAny_builtin F.entry_proto_collect;rw [Around.under_plainId F.plain_proto_collect _]
 show wpAny _ A.in1 (newList [] >>= fun l=>again (.builtin "list.__iadd__" ⟨[l,.ref r],[]⟩)) _ _ s
 refine wpAny_bind (wpAny_newObj_type (wpAny_pure ⟨plainId_quiet F.plain_list_iadd _,codeAny_builtin F.entry_list_iadd ?_⟩))
 rw [Around.under_plainId F.plain_list_iadd _];show wpAny _ A.in1 (Builtin.List.listExtendWith (.ref s.heap.objs.size) (.ref r) (.ref s.heap.objs.size)) _ _ _
 have o1:(s.heap.push {cls:= .type "list",data:= .seq ([]:List Value).toArray}).get? s.heap.objs.size=some {cls:= .type "list",data:= .seq #[] 0}:=Heap.get?_push_size _ rfl
 have o2:=Heap.get?_update_self (Obj.mapSeq (· ++its.toArray)) o1 rfl
 have last:wpAny (model prog w) A (match Value.ref s.heap.objs.size with
  | Value.ref a=>do
    match (← load a).data with
     | Data.seq xs _=>pure xs.toList
     | _=>unsupported "internal:collect"
  | _=>unsupported "internal:collect") R E {s with heap:=(s.heap.push {cls:= .type "list",data:= .seq ([]:List Value).toArray}).update s.heap.objs.size (Obj.mapSeq (· ++its.toArray))}:=by
  show wpAny _ A (load s.heap.objs.size >>= _) _ _ _
  refine wpAny_bind (wpAny_load o2 (wpAny_pure ?_))
  show R ((#[]:Array Value)++its.toArray).toList _
  rw [show ((#[]:Array Value)++its.toArray).toList=its by simp]
  refine k _ (fun b o hb=>(Heap.get?_update_other _ _ (Nat.ne_of_gt (Heap.lt_size hb))).trans (Heap.get?_push_of_some _ hb)) ?_
  rw [Heap.size_update,size_push']
  exact Nat.le_succ _
 refine wpAny_mono (wpAny_extend_seq (hsz:=by simpa using hz) (A:=A) (R:=fun r s'=>r= .ok (.ret (.ref s.heap.objs.size))∧s'={s with heap:=(s.heap.push {cls:= .type "list",data:= .seq ([]:List Value).toArray}).update s.heap.objs.size (Obj.mapSeq (· ++its.toArray))})
  (s:={s with heap:=s.heap.push {cls:= .type "list",data:= .seq ([]:List Value).toArray}}) _ r _ 0 (.inr rfl) o1 (Heap.get?_push_of_some _ hr) uc ud ⟨rfl,rfl⟩) (fun fin s2 h=> ?_) (fun e s2 h=>absurd h.1 (by simp))
 cases fin with
 | done f=>
   obtain ⟨e,rfl⟩:=h
   cases e
   exact last
 | again c2=>exact ⟨h.1,codeAny_mono h.2 fun q_ q_ z=>by obtain ⟨rfl,rfl⟩:=z;exact last⟩
theorem krz {r:Addr} {u:Obj} {c:Nat} {its:List Value} {ns:List Int} {R:Value→Shared→Prop} (hr:s.heap.get? r=some u) (uc:u.cls= .type "tuple") (ud:u.data= .seq its.toArray c) (hI:IntsAre its ns) (h64:its.length < 64)
 (k: ∀(h1:Heap) (out:Array Value) (ms:List Int),(∀ b o,s.heap.get? b=some o→h1.get? b=some o)→s.heap.objs.size≤h1.objs.size→IntsAre out.toList ms→ms.Perm ns→ms.Pairwise (· ≤ ·)→R (.ref h1.objs.size) {s with heap:=sortedHeap (h1.push (seqObj "list" its.toArray 0)) h1.objs.size its out}):
 wpAny (model prog w) A (call (.builtin "sorted") [.ref r]) R E s:=by
 have zz:its.length≤sizeLine:=by rw [sizeLine_eq];lia
 apply Calls.call_function_entry kind_sorted plain_sorted entry_sorted
 · exact args_sorted1 _
 unfold Builtin.«sorted»
 refine wpAny_bind (m:=checkCount "sorted" 1 1 _) (wpAny_pure (wpAny_bind (kv4 hr uc ud zz fun h1 kp le=>wpAny_bind (wpAny_newList ?_ zz))))
 have ol:(h1.push (seqObj "list" its.toArray 0)).get? h1.objs.size=some (seqObj "list" its.toArray 0):=Heap.get?_push_size _ rfl
 change wpAny _ _ _ _ _ {s with heap:=h1.push (seqObj "list" its.toArray 0)}
 exact wpAny_bind (wpAny_holding (wpAny_call_entry slot_list_sort ⟨_,ol,rfl⟩ entry_list_sort (list_sort_tree ol hI h64 fun out ms a1 a2 a3=>⟨_,rfl,wpAny_pure ⟨_,rfl,k h1 out ms kp le a1 a2 a3⟩⟩) (args_list_sort _)))
end
section
variable {X:Cx}
theorem kje (K:PySem.W.Frag) (hK:X.K=K):CallR X (.builtin "sorted") (fun xs H Q=>∃(p:Addr) (ns:List Int),xs=[.ref p]∧SqT K H p (ns.map V.int)∧ns.length < 64∧∀(l:Addr) (ms:List Int),H l=none→ms.Perm ns→ms.Pairwise (· ≤ ·)→Q (.ref l) (upd H l (.lst (ms.map V.int)))):=by
 subst hK
 intro pins s σ H xs us Q I r h
 obtain ⟨p,ns,rfl,hq,h64,k⟩:=h
 obtain ⟨u,rfl,r1⟩:=kd6 r
 cases (show u=Value.ref p from r1)
 obtain ⟨its,rv,⟨o,ho,hc,n,hd⟩,hz⟩:=I.tuple hq
 have hi:=kg6 rv
 refine krz ho hc hd hi (by rw [← rv.length,List.length_map];exact h64) fun h1 out ms kp le h3 h4 h5=> ?_
 have hlt: ∀b o,s.heap.get? b=some o→b < h1.objs.size:=fun b o e=>Heap.lt_size (kp b o e)
 obtain ⟨e,at_⟩:=sortedHeap_at (h:=h1.push (seqObj "list" its.toArray 0)) (a:=h1.objs.size) (vs:=its) (n:=0) (out:=out) (Heap.get?_push_size _ rfl)
 refine ⟨.ref h1.objs.size,upd H h1.objs.size (.lst (ms.map V.int)),?_,rfl,k _ ms (I.hok.fresh le) h4 h5⟩
 refine I.laid (t':=s.toks) (fun b o e=> ?_) le ⟨by rw [List.length_map,h4.length_eq,sizeLine_eq];lia,out.toList,e,kfw h3,by rw [Array.toArray_toList];exact at_⟩
 have lt:=hlt b o e
 rw [sortedHeap_old (Nat.ne_of_lt lt) (by rw [size_push'];exact Nat.lt_succ_of_lt lt)]
 exact Heap.get?_push_of_some _ (kp b o e)
end
section
variable {He:Hp} {K:PySem.W.Frag} {ι:Type} {Y:ι→Cx} {e:Expr} {pos p:Pos}
theorem kot {t:Dq} (h:DQ He K Y e t) (hm: ∀i,(Y i).mg "sorted"=none) (hg:autoParam (∀ i,Gl (Y i) "sorted") u3._auto_1) (hK:autoParam (∀ i,(Y i).K=K) u3._auto_1) (hs:autoParam (∀ i,starEach [e] (Y i).env=[(false,eval e (Y i).env)]) u3._auto_1):
 DO He K Y (.Call (.Name "sorted" p) [e] [] pos) (kkm t):=by
 obtain ⟨te,h1,h2⟩:=h
 refine ⟨_,fun i=>kbf (CallR.or (kgl K (hK i)) (kje K (hK i))) (hg i) (hm i) kc8 (kab (h1 i) kai (hs i)) (by decide) (by decide) (hs i) rfl,fun P Q F p k=>h2 _ _ F p fun ds a ys R1 H1 pd e1 ha r1=> ?_⟩
 obtain ⟨ns,rfl,h64,kk⟩:=pd
 have go: ∀(l:Addr) (ms:List Int),H1 l=none→ms.Perm ns→ms.Pairwise (· ≤ ·)→Q (.ref l) (upd H1 l (.lst (ms.map V.int))):=fun l ms hn hp hs=>k _ l _ R1 _ (kk _ hp hs) (e1.trans (Ext.newO e1.wd hn trivial)) (e1.hh.free hn) kad (e1.wd.rh.free hn) (RpAll.ints ms)
 have ey:=r1.ints_inv
 subst ey
 rcases ha with ha | ha
 · exact .inl ⟨a,ns,rfl,ha,h64,go⟩
 · exact .inr ⟨a,ns,rfl,ha,h64,go⟩
end
end L2
set_option maxHeartbeats 4000000
open PySem L2
local macro_rules | `(tactic| simp only [rD,$ls,*] $[$l]?)=> `(tactic| simp only [kv3,kvu,kvx,kv0,kv1,koo,kop,koq,Dt.dv.injEq,Bool.false_xor,Bool.true_xor,PyData.str.injEq,kkm,knz,kno,ku0,sSeq,sSet,kng,sRet,ku1,ku2,sIf,sFrz,sApp,xVar,xC,kuj,kuk,kus,xSeq,xL,xLst,x2,xB,xNot,xAnd,xOr,xNeg,xIf,kj4,xIx,xNil,kup,xTup,kuq,xLen,kj6,xIsi,xRep,kuu,knf,ki3,ken,xAll,knk,knl,ku6,gN,gN2,kul,rdI,rdEq,rdNe,rdIn,ki4,reduceCtorEq,false_or,or_false,false_and,exists_false,exists_const,kye,kyf,seqS,kyg,kyh,knj,kc7,kly,List.map_cons,List.map_nil,List.length_cons,List.length_nil,List.getElem?_cons_zero,List.getElem?_cons_succ,List.set_cons_zero,List.set_cons_succ,List.replicate_succ,List.replicate_zero,List.cons_append,List.nil_append,Option.some.injEq,Dt.d.injEq,Dt.o.injEq,PyData.int.injEq,PyData.bool.injEq,PyData.tuple.injEq,PyData.list.injEq,exists_eq_left,exists_eq_left',exists_eq_right,exists_and_left,true_and,and_true,ne_eq,not_false_eq_true,Option.getD_some,Option.getD_none,Nat.reduceAdd,Nat.reduceSub,Nat.reduceLeDiff,Nat.zero_le,Nat.le_refl,$ls,*] $[$l]?)
local macro_rules | `(tactic| simp only [rD] $[$l]?)=> `(tactic| simp only [kv3,kvu,kvx,kv0,kv1,koo,kop,koq,Dt.dv.injEq,Bool.false_xor,Bool.true_xor,PyData.str.injEq,kkm,knz,kno,ku0,sSeq,sSet,kng,sRet,ku1,ku2,sIf,sFrz,sApp,xVar,xC,kuj,kuk,kus,xSeq,xL,xLst,x2,xB,xNot,xAnd,xOr,xNeg,xIf,kj4,xIx,xNil,kup,xTup,kuq,xLen,kj6,xIsi,xRep,kuu,knf,ki3,ken,xAll,knk,knl,ku6,gN,gN2,kul,rdI,rdEq,rdNe,rdIn,ki4,reduceCtorEq,false_or,or_false,false_and,exists_false,exists_const,kye,kyf,seqS,kyg,kyh,knj,kc7,kly,List.map_cons,List.map_nil,List.length_cons,List.length_nil,List.getElem?_cons_zero,List.getElem?_cons_succ,List.set_cons_zero,List.set_cons_succ,List.replicate_succ,List.replicate_zero,List.cons_append,List.nil_append,Option.some.injEq,Dt.d.injEq,Dt.o.injEq,PyData.int.injEq,PyData.bool.injEq,PyData.tuple.injEq,PyData.list.injEq,exists_eq_left,exists_eq_left',exists_eq_right,exists_and_left,true_and,and_true,ne_eq,not_false_eq_true,Option.getD_some,Option.getD_none,Nat.reduceAdd,Nat.reduceSub,Nat.reduceLeDiff,Nat.zero_le,Nat.le_refl] $[$l]?)
namespace Me
open PySem L2
def top (i:Nat):Stmt:=PySem.Challenge.pw_fewpoints_k10_whole_whichever_first.main.body.getD i (.Pass ⟨0,0,0,0⟩)
noncomputable abbrev kou:Stmt:=top 5
noncomputable abbrev kv5:Stmt:=top 6
noncomputable abbrev kcj:Stmt:=top 7
noncomputable abbrev kcz:Stmt:=top 8
noncomputable abbrev kov:Stmt:=top 10
noncomputable abbrev khg:Stmt:=top 11
noncomputable abbrev kfz:Stmt:=top 12
noncomputable abbrev kes:Stmt:=top 13
noncomputable abbrev khh:Stmt:=top 14
noncomputable abbrev kf0:Stmt:=top 15
noncomputable abbrev kdz:Stmt:=top 16
noncomputable abbrev kjf:Stmt:=top 18
noncomputable abbrev kf1:Stmt:=top 19
noncomputable abbrev kjg:Stmt:=top 20
noncomputable abbrev ket:Stmt:=top 21
noncomputable abbrev keu:Stmt:=top 22
noncomputable abbrev kev:Stmt:=top 23
noncomputable abbrev kd0:Stmt:=top 24
noncomputable abbrev kc0:Stmt:=top 26
noncomputable abbrev kew:Stmt:=top 27
noncomputable abbrev kex:Stmt:=top 28
noncomputable abbrev kv6:Stmt:=top 30
noncomputable abbrev kow:Stmt:=top 31
noncomputable abbrev kv7:Stmt:=top 32
noncomputable abbrev kjh:Stmt:=top 33
noncomputable abbrev sRaw:Stmt:=top 34
noncomputable abbrev sDig:Stmt:=top 35
noncomputable abbrev sMix:Stmt:=top 36
noncomputable abbrev kox:Stmt:=top 37
noncomputable abbrev kd1:Stmt:=top 38
noncomputable abbrev kck:Stmt:=top 39
noncomputable abbrev kd2:Stmt:=top 40
noncomputable abbrev kcd:Stmt:=top 41
noncomputable abbrev kb6:Stmt:=top 42
noncomputable abbrev kbs:Stmt:=top 43
noncomputable abbrev kr0:Stmt:=top 44
noncomputable abbrev Rel:=Nat→Nat→Bool
noncomputable def stp (t:Rel) (k a b:Nat):Rel:=if (t a k && t k b)=true then (fun x y=>if x=a∧y=b then true else t x y) else t
noncomputable def w3 (t:Rel) (k a:Nat):Nat→Rel
 | 0=>t
 | n + 1=>stp (w3 t k a n) k a n
noncomputable def w2 (m:Nat) (t:Rel) (k:Nat):Nat→Rel
 | 0=>t
 | n + 1=>w3 (w2 m t k n) k n m
noncomputable def w1 (m:Nat) (t:Rel):Nat→Rel
 | 0=>t
 | n + 1=>w2 m (w1 m t n) n m
theorem kza (t:Rel) (k a:Nat): ∀(n x y:Nat),w3 t k a n x y=(t x y || (decide (x=a) && decide (y < n) && t a k && t k y))
 | 0,x,y=>by simp [w3]
 | n + 1,x,y=>by
   have ih:=kza t k a n
   have e1:w3 t k a n a k=t a k:=by
    rw [ih];cases t a k <;> simp
   have e2:w3 t k a n k n=t k n:=by
    rw [ih];simp
   show stp (w3 t k a n) k a n x y=_
   unfold stp
   rw [e1,e2]
   by_cases hc:(t a k && t k n)=true
   · rw [if_pos hc]
     have hc:=Bool.and_eq_true_iff.mp hc
     by_cases hxy:x=a∧y=n
     · rw [if_pos hxy]
       obtain ⟨rfl,rfl⟩:=hxy
       simp [hc.1,hc.2]
     · rw [if_neg hxy,ih]
       by_cases hx:x=a
       · subst hx
         have hy: ¬y=n:=fun z=>hxy ⟨rfl,z⟩
         have:decide (y < n)=decide (y < n + 1):=by simp;lia
         rw [this]
       · simp [hx]
   · rw [if_neg hc,ih]
     by_cases hx:x=a
     · subst hx
       by_cases hy:y=n
       · subst hy
         have:(t x k && t k y)=false:=by simpa using hc
         simp only [Nat.lt_irrefl,decide_false,Bool.and_false,Bool.false_and,decide_true,Bool.true_and,Nat.lt_succ_self,this,Bool.or_false]
       · have:decide (y < n)=decide (y < n + 1):=by simp;lia
         rw [this]
     · simp [hx]
theorem kzb (m:Nat) (t:Rel) (k:Nat): ∀(n x y:Nat),w2 m t k n x y=(t x y || (decide (x < n) && decide (y < m) && t x k && t k y))
 | 0,x,y=>by simp [w2]
 | n + 1,x,y=>by
   have ih:=kzb m t k n
   show w3 (w2 m t k n) k n m x y=_
   rw [kza]
   have e1:w2 m t k n n k=t n k:=by rw [ih];simp
   have e2:w2 m t k n k y=t k y:=by rw [ih];cases t k y <;> simp
   rw [e1,e2,ih]
   by_cases hx:x=n
   · subst hx
     simp
   · have:decide (x < n)=decide (x < n + 1):=by simp;lia
     rw [this]
     simp [hx]
theorem khi (m:Nat) (t:Rel) (n x y:Nat) (hx:x < m) (hy:y < m):w1 m t (n + 1) x y=(w1 m t n x y || (w1 m t n x n && w1 m t n n y)):=by
 show w2 m (w1 m t n) n m x y=_
 rw [kzb]
 simp [hx,hy]
theorem kk1 (m:Nat) (t:Rel): ∀(n:Nat),n≤m→∀c a b,c < n→a < m→b < m→w1 m t n a c=true→w1 m t n c b=true→w1 m t n a b=true
 | 0,_,c,_,_,h,_,_,_,_=>absurd h (Nat.not_lt_zero _)
 | n + 1,hn,c,a,b,hc,ha,hb,h1,h2=>by
   have ih:=kk1 m t n (by lia)
   have hcm:c < m:=by lia
   have hnm:n < m:=by lia
   rw [khi m t n a c ha hcm] at h1
   rw [khi m t n c b hcm hb] at h2
   rw [khi m t n a b ha hb]
   simp only [Bool.or_eq_true,Bool.and_eq_true] at h1 h2 ⊢
   by_cases e:c=n
   · subst e
     have k1:w1 m t c a c=true:=h1.elim id fun z=>z.1
     have k2:w1 m t c c b=true:=h2.elim id fun z=>z.2
     exact .inr ⟨k1,k2⟩
   · have hc':c < n:=by lia
     rcases h1 with h1 | ⟨h1,h1'⟩ <;> rcases h2 with h2 | ⟨h2,h2'⟩
     · exact .inl (ih c a b hc' ha hb h1 h2)
     · exact .inr ⟨ih c a n hc' ha hnm h1 h2,h2'⟩
     · exact .inr ⟨h1,ih c n b hc' hnm hb h1' h2⟩
     · exact .inr ⟨h1,h2'⟩
theorem kk2 (m:Nat) (t:Rel) (S:Nat→Nat→Prop) (h0: ∀x y,x < m→y < m→t x y=true→S x y) (hS: ∀a b c,a < m→b < m→c < m→S a b→S b c→S a c): ∀(n x y:Nat),n≤m→x < m→y < m→w1 m t n x y=true→S x y
 | 0,x,y,_,hx,hy,h=>h0 x y hx hy h
 | n + 1,x,y,hn,hx,hy,h=>by
   rw [khi m t n x y hx hy] at h
   simp only [Bool.or_eq_true,Bool.and_eq_true] at h
   rcases h with h | ⟨h1,h2⟩
   · exact kk2 m t S h0 hS n x y (by lia) hx hy h
   · exact hS x n y hx (by lia) hy (kk2 m t S h0 hS n x n (by lia) hx (by lia) h1) (kk2 m t S h0 hS n n y (by lia) (by lia) hy h2)
noncomputable def kc1 (m:Nat) (t:Rel) (a:Nat):List (Int×Int):=((List.range m).filter (t a)).map fun (b:Nat)=>((a:Int),(b:Int))
noncomputable def kal (m:Nat) (t:Rel):List (Int×Int):=(List.range m).flatMap (kc1 m t)
noncomputable def t0 (ps:List (Int×Int)):Rel:=fun a b=>decide (((a:Int),(b:Int))∈ps∧a≠b)
noncomputable def clo (m:Nat) (ps:List (Int×Int)):List (Int×Int):=kal m (w1 m (t0 ps) m)
theorem kav {m:Nat} {t:Rel} {q:Int×Int}:q∈kal m t↔∃a b:Nat,a < m∧b < m∧t a b=true∧q=((a:Int),(b:Int)):=by
 unfold kal kc1
 rw [List.mem_flatMap]
 constructor
 · rintro ⟨a,ha,h⟩
   obtain ⟨b,hb,rfl⟩:=List.mem_map.mp h
   obtain ⟨h1,h2⟩:=List.mem_filter.mp hb
   exact ⟨a,b,List.mem_range.mp ha,List.mem_range.mp h1,h2,rfl⟩
 · rintro ⟨a,b,ha,hb,h,rfl⟩
   exact ⟨a,List.mem_range.mpr ha,List.mem_map.mpr ⟨b,List.mem_filter.mpr ⟨List.mem_range.mpr hb,h⟩,rfl⟩⟩
theorem kaz {m:Nat} {t:Rel} {a b:Nat}:((a:Int),(b:Int))∈kal m t↔a < m∧b < m∧t a b=true:=by
 rw [kav]
 constructor
 · rintro ⟨x,y,h1,h2,h3,e⟩
   have e1:a=x:=Int.ofNat.inj (congrArg Prod.fst e)
   have e2:b=y:=Int.ofNat.inj (congrArg Prod.snd e)
   subst e1 e2
   exact ⟨h1,h2,h3⟩
 · rintro ⟨h1,h2,h3⟩
   exact ⟨a,b,h1,h2,h3,rfl⟩
theorem koy (m:Nat) (t:Rel) (a:Nat):(kc1 m t a).length≤m:=by
 unfold kc1
 rw [List.length_map]
 exact Nat.le_trans (List.length_filter_le _ _) (by rw [List.length_range];exact Nat.le_refl _)
theorem kf2 (m:Nat) (t:Rel): ∀n,((List.range n).flatMap (kc1 m t)).length≤n * m
 | 0=>by simp
 | n + 1=>by
   rw [List.range_succ,List.flatMap_append,List.length_append]
   have h1:=kf2 m t n
   have h2:=koy m t n
   simp only [List.flatMap_cons,List.flatMap_nil,List.append_nil]
   rw [Nat.succ_mul]
   lia
noncomputable def IsSp (m:Nat) (ts:List (Int×Int)):Prop:=∃t:Rel,ts=kal m t∧(∀ a,a < m→t a a=false)∧∀a b c,a < m→b < m→c < m→t a b=true→t b c=true→t a c=true
noncomputable def Up (os:List Int) (q:Int×Int):Prop:=∃j i:Nat,j < i∧os[j]?=some q.1∧os[i]?=some q.2
theorem khj {os:List Int} (nd:os.Nodup) {i j:Nat} {x:Int} (h:os[i]?=some x) (h':os[j]?=some x):i=j:=by
 obtain ⟨hi,ei⟩:=List.getElem?_eq_some_iff.mp h
 obtain ⟨hj,ej⟩:=List.getElem?_eq_some_iff.mp h'
 have pw:=List.pairwise_iff_getElem.mp nd
 rcases Nat.lt_trichotomy i j with z | z | z
 · exact absurd (ei.trans ej.symm) (pw i j hi hj z)
 · exact z
 · exact absurd (ej.trans ei.symm) (pw j i hj hi z)
theorem ktg {m:Nat} {ps:List (Int×Int)} {os:List Int} (nd:os.Nodup) (hu: ∀q∈ps,Up os q):IsSp m (clo m ps):=by
 have S: ∀x y:Nat,x < m→y < m→w1 m (t0 ps) m x y=true→Up os ((x:Int),(y:Int)):=by
  intro x y hx hy h
  refine kk2 m (t0 ps) (fun x y=>Up os ((x:Int),(y:Int))) (fun x y q_ q_ h=> ?_) (fun a b c q_ q_ q_ h1 h2=> ?_) m x y (Nat.le_refl _) hx hy h
  · exact hu _ (of_decide_eq_true h).1
  · obtain ⟨i1,i2,l1,g1,g2⟩:=h1
    obtain ⟨i3,i4,l2,g3,g4⟩:=h2
    have:i2=i3:=khj nd g2 g3
    exact ⟨i1,i4,by lia,g1,g4⟩
 refine ⟨w1 m (t0 ps) m,rfl,fun a ha=> ?_,fun a b c ha hb hc h1 h2=>kk1 m (t0 ps) m (Nat.le_refl _) b a c hb ha hc h1 h2⟩
 cases e:w1 m (t0 ps) m a a with
 | false=>rfl
 | true=>
   obtain ⟨j,i,l,g1,g2⟩:=S a a ha ha e
   have:=khj nd g1 g2
   lia
noncomputable def pD (p:Int×Int):PyData:= .tuple [.int p.1,.int p.2]
noncomputable def spD (n:Int) (ps:List (Int×Int)):PyData:= .tuple [.int n,.tuple (ps.map pD)]
theorem kb0: ∀ps:List (Int×Int),kh7 (ps.map pD)=true
 | []=>rfl
 | p::r=>by
   show (immD (pD p) && kh7 (r.map pD))=true
   rw [kb0 r];rfl
theorem kcp: ∀ps:List (Int×Int),PyData.canLayAll0 (ps.map pD)=true
 | []=>rfl
 | p::r=>by
   show (PyData.canLay0 (pD p) && PyData.canLayAll0 (r.map pD))=true
   rw [kcp r];rfl
theorem khk (p:Int×Int):(pD p).depth≤3:=by simp [pD,PyData.depth,PyData.depthAll]
theorem kth (p q:Int×Int):PyData.eqv (pD p) (pD q)=decide (p=q):=by
 obtain ⟨a,b⟩:=p
 obtain ⟨c,d⟩:=q
 simp only [pD,PyData.eqv,PyData.eqvAll]
 by_cases h1:a=c <;> by_cases h2:b=d <;> simp [h1,h2]
theorem kiq (p:Int×Int): ∀ps:List (Int×Int),((ps.map pD).any fun d=>PyData.eqv d (pD p))=decide (p∈ps)
 | []=>by simp
 | q::r=>by
   rw [List.map_cons,List.any_cons,kiq p r,kth]
   by_cases h:q=p
   · subst h;simp
   · have h': ¬p=q:=fun e=>h e.symm
     simp [h,h']
theorem kir {K:PySem.W.Frag} {H:Hp} {a:Addr} {x y:Int} (h:H a=some (.tup [.int x,.int y])):Rp K H (.ref a) (pD (x,y)):= .tup h (.cons (.int x) (.cons (.int y) .nil))
theorem koz {K:PySem.W.Frag} {H:Hp} {v:V} {n:Int} {ps:List (Int×Int)} (h:Rp K H v (spD n ps)): ∃a t ys,v= .ref a∧H a=some (.tup [.int n,.ref t])∧H t=some (.tup ys)∧RpAll K H ys (ps.map pD):=by
 obtain ⟨a,xs,rfl,h1,h2⟩:=Rp.tup_inv h
 cases h2 with
 | cons i j=>
   cases j with
   | cons i2 j2=>
     cases j2
     obtain ⟨t,ys,rfl,h3,h4⟩:=Rp.tup_inv i2
     rw [i.int_inv] at h1
     exact ⟨a,t,ys,rfl,h1,h3,h4⟩
noncomputable def kr1 (qs:List (Int×Int)) (a b:Int):Prop:=a=b∨(a,b)∈qs
noncomputable def inR (n:Int) (q:Int×Int):Prop:=0≤q.1∧q.1 < n∧0≤q.2∧q.2 < n
theorem IsSp.inR {m:Nat} {ts:List (Int×Int)} (h:IsSp m ts): ∀q∈ts,Me.inR m q:=by
 obtain ⟨t,rfl,_⟩:=h
 intro q hq
 obtain ⟨a,b,ha,hb,_,rfl⟩:=kav.mp hq
 exact ⟨by show (0:Int)≤a;lia,by show (a:Int) < m;lia,by show (0:Int)≤b;lia,by show (b:Int) < m;lia⟩
theorem modB (v m:Int) (h:0 < m) (hm:m < 2 ^ 64): -(2 ^ 64) < v % m∧v % m < 2 ^ 64:=by
 have h1:=Int.emod_nonneg v (Int.ne_of_gt h)
 have h2:=Int.emod_lt_of_pos v h
 lia
theorem kis {n:Nat} (h:n≤100000):n≤sizeLine:=Nat.le_trans h (by decide)
theorem kv8 {n:Nat} (h:n≤100000):n < sizeLine:=Nat.lt_of_le_of_lt h (by decide)
theorem kbd {n:Nat} {g:TG} {tb:TS} {D:Ends} {σ:St} {H:Hp} (Pv:Nat→St→Hp→Prop) (h0:Pv 0 σ H)
 (hs: ∀i σ H,i < n→Pv i σ H→g (.int (i:Int)) σ H fun σ2 H2=>tb {D with nx:=Pv (i + 1),ct:=Pv (i + 1),bk:=D.nx} σ2 H2) (hd: ∀σ H,Pv n σ H→D.nx σ H):
 ∃W:Nat→Nat→St→Hp→Prop,(∃ m,W 0 m σ H)∧∀i m σ H,W i m σ H→
  ((Itr 0 n).stop i H∧D.nx σ H)∨((Itr 0 n).go i H∧∃N:St→Hp→Prop,(∀ σ' H',N σ' H'→∃m',m' < m∧W (i + 1) m' σ' H')∧∀x H',(Itr 0 n).yld i H x H'→g x σ H' fun σ2 H2=>tb {D with nx:=N,ct:=N,bk:=D.nx} σ2 H2):=
 kmm (lo:=0) Pv h0 (fun i σ H hi p=>by rw [Int.zero_add];exact hs i σ H hi p) hd
theorem kf3 {n:Nat} {g:TG} {tc:TT} {te:TE} {Q:VK} {D:Addr} {σ:St} {H:Hp} (Pv:Nat→St→List V→Hp→Prop) (h0:Pv 0 σ [] H)
 (hs: ∀i σ acc H,i < n→Pv i σ acc H→g (.int (i:Int)) σ H fun σ2 H2=>tc σ2 H2 fun b H3=>if b=true then te σ2 H3 fun y H4=>H4 D=some (.lst acc)∧acc.length < sizeLine∧Pv (i + 1) σ2 (acc++[y]) (upd H4 D (.lst (acc++[y]))) else Pv (i + 1) σ2 acc H3)
 (hd: ∀σ acc H,Pv n σ acc H→Q (.ref D) H):
 ∃W:Nat→Nat→St→List V→Hp→Prop,(∃ m,W 0 m σ [] H)∧kj0 (Itr 0 n) g tc te Q D W:=
 kqr (lo:=0) Pv h0 (fun i σ acc H hi p=>by rw [Int.zero_add];exact hs i σ acc H hi p) hd
theorem kti:bootBuiltins "int"=some (.type "int"):=by decide +kernel
theorem kv9:bootBuiltins "bool"=some (.type "bool"):=by decide +kernel
theorem ko0:bootBuiltins "list"=some (.type "list"):=by decide +kernel
theorem kk3:bootBuiltins "tuple"=some (.type "tuple"):=by decide +kernel
theorem ko1:bootBuiltins "len"=some (.builtin "len"):=by decide +kernel
theorem ktj:bootBuiltins "isinstance"=some (.builtin "isinstance"):=by decide +kernel
theorem kwa {n j:Nat} (h:j < n):ixN n (j:Int)=some j:=by
 unfold ixN
 rw [if_pos (by lia),if_pos (by lia)];simp
structure Txt (K:PySem.W.Frag) (mg:Str→Option Value):Prop where
 range:mg "range"=none
 len:mg "len"=none
 list:mg "list"=none
 tuple:mg "tuple"=none
 isi:mg "isinstance"=none
 int:mg "int"=none
 bool:mg "bool"=none
 zip:mg "zip"=none
 all:mg "all"=none
 any:mg "any"=none
 sum:mg "sum"=none
 sorted:mg "sorted"=none
 min:mg "min"=none
 max:mg "max"=none
 str:mg "str"=none
 enumerate:mg "enumerate"=none
 set:mg "set"=none
 reversed:mg "reversed"=none
 ve:mg "ValueError"=none
 kii:PySem.W.kitOne K (.type "int") (.type "int")=some true
 kib:PySem.W.kitOne K (.type "int") (.type "bool")=some false
 kbb:PySem.W.kitOne K (.type "bool") (.type "bool")=some true
 ktt:PySem.W.kitOne K (.type "tuple") (.type "tuple")=some true
 kll:PySem.W.kitOne K (.type "list") (.type "list")=some true
 klt:PySem.W.kitOne K (.type "list") (.type "tuple")=some false
 ktl:PySem.W.kitOne K (.type "tuple") (.type "list")=some false
 klb:PySem.W.kitOne K (.type "list") (.type "bool")=some false
 kbt:PySem.W.kitOne K (.type "bool") (.type "tuple")=some false
 kit:PySem.W.kitOne K (.type "int") (.type "tuple")=some false
 kss:PySem.W.kitOne K (.type "str") (.type "str")=some true
 knb:PySem.W.kitOne K (.type "NoneType") (.type "bool")=some false
 kni:PySem.W.kitOne K (.type "NoneType") (.type "int")=some false
 kbi:PySem.W.kitOne K (.type "bool") (.type "int")=some true
noncomputable def kk4:Sp:=fun vs H Q q_=>∃c:Int,vs=[.int c]∧∀(r:Int) H',Same H H'→Q (.int r) H'
noncomputable def kk5 (K:PySem.W.Frag):Sp:=fun vs H Q q_=>∃(a:Addr) (ns:List Int) (k:Nat),vs=[.ref a,.int (k:Int)]∧SqL K H a (ns.map V.int)∧∀(r:Int) H',Same H H'→Q (.int r) H'
noncomputable def kji:Sp:=fun vs H Q q_=>∃i:Int,vs=[.int i]∧Q (.bl true) H
noncomputable def kk6:Sp:=fun vs H Q q_=>∃c k b:Int,vs=[.int c,.int k,.int b]∧0 < b∧∀r:Int,0≤r→r < b→Q (.int r) H
noncomputable def kwb (K:PySem.W.Frag):Sp:=fun vs H Q q_=>∃(v:V) (n:Int) (ps:List (Int×Int)) (a b:Int),vs=[v,.int a,.int b]∧Rp K H v (spD n ps)∧∀(r:Bool) H',Same H H'→(r=true↔kr1 ps a b)→Q (.bl r) H'
noncomputable def kfg (K:PySem.W.Frag):Sp:=fun vs H Q q_=>∃(m:Nat) (p:Addr) (xs:List V) (ps:List (Int×Int)),vs=[.int (m:Int),.ref p]∧m≤16∧H p=some (.lst xs)∧RpAll K H xs (ps.map pD)∧
 ∀(v:V) (H':Hp),Same H H'→Rp K H' v (.tuple ((clo m ps).map pD))→Q v H'
noncomputable def kk7 (K:PySem.W.Frag) (H:Hp) (t:Int) (Q:VK):Prop:=∀(v:V) (H':Hp) (m:Nat) (ts:List (Int×Int)),Same H H'→1≤m→(m:Int)≤t→IsSp m ts→Rp K H' v (spD m ts)→Q v H'
noncomputable def kl7 (K:PySem.W.Frag):Sp:=fun vs H Q q_=>∃c t:Int,vs=[.int c,.int t]∧1≤t∧t≤16∧kk7 K H t Q
noncomputable def kjj (K:PySem.W.Frag):Sp:=fun vs H Q q_=>∃(a:Addr) (ns:List Int) (k:Nat) (t:Int),vs=[.ref a,.int (k:Int),.int t]∧SqL K H a (ns.map V.int)∧1≤t∧t≤16∧kk7 K H t Q
section
variable {P:Program} {w:World} {K:PySem.W.Frag} {mg:Str→Option Value} {base:Heap}
theorem kgp:FnScope ["cell","found","factor","mixed"] ["cell"] (kag kv6):=⟨rfl,rfl,rfl,by decide +kernel,rfl,by decide +kernel,by decide +kernel⟩
theorem kwc {f:Addr} {fd:FuncData} (F:Fun K "_law_stir" "_law_stir" kv6 f fd):FnOk P w K mg base CX0 1 f fd ["cell"] kk4:=by
 refine F.ok kgp (fun vs H Q E h=> ?_) (fun cdv A outer s H vs Q E hr h=> ?_)
 · obtain ⟨c,rfl,_⟩:=h;rfl
 · obtain ⟨c,rfl,k⟩:=h
   refine ⟨_,kaq (ka9 (i:=1) kgp.nd rfl (Or.inl rfl) kar)
    (kaq (kc5 PassesOwn.never rfl (kt7 (ke0 (kab kar (kab kar (kab kar (kab kar kai)))))) (kbj (i:=2) kgp.nd rfl (Or.inl rfl))
      (kaq (ka9 (i:=3) kgp.nd rfl (Or.inl rfl) (ka0 kb7 (ka0 kd5 (ka0 kc6 (pv 0) (pv 2)) kar) kar))
      (kaq (ka9 (i:=3) kgp.nd rfl (Or.inl rfl) (ka0 kb7 (ka0 kc6 (ka0 kb7 (ka0 kc6 (pv 3) (pv 3)) kar) kar) kar))
      (kax (ka9 (i:=1) kgp.nd rfl (Or.inl rfl) (ka0 kd5 (ka0 kc6 (pv 1) (ka0 kxq kar kar)) (ka0 kb1 (pv 3) kar)))))))
    (kax (kca (pv 1)))),?_⟩
   refine ⟨kis (by show 4≤100000;decide),fun p hp=>⟨p,rfl,⟨_,SqL.of kad⟩,kqk (K:=K) (a:=p) (xs:=[.int 48271,.int 69621,.int 39373,.int 44488])
    (fun i σ H2=>∃(r:Int) (f m:Option V),σ=[some (.int c),some (.int r),f,m]∧H2=upd H p (.lst [.int 48271,.int 69621,.int 39373,.int 44488]))
    ⟨0,none,none,rfl,rfl⟩ (fun i σ H2 _ ⟨_,_,_,_,e⟩=>by rw [e];exact SqL.of kad) ?_ ?_⟩⟩
   · rintro i y σ H2 hi ⟨r,f,m,rfl,rfl⟩
     obtain ⟨z,rfl,hz1,hz2⟩: ∃z:Int,y= .int z∧0 < z∧z < 2 ^ 32:=by
      have hm:=List.mem_of_getElem? hi
      simp only [List.mem_cons,List.not_mem_nil,or_false] at hm
      rcases hm with rfl | rfl | rfl | rfl <;> exact ⟨_,rfl,by decide,by decide⟩
     refine ⟨_,rfl,_,rfl,_,_,rfl,rfl,.inr ⟨by lia,by lia⟩,_,_,rfl,rfl,_,_,rfl,rfl,(by show (0:Int) < 2147483647;decide),?_⟩
     refine ⟨_,rfl,_,rfl,_,_,rfl,rfl,.inl (modB _ _ (by decide) (by decide)),_,_,rfl,rfl,(by show (0:Int) < 2147483647;decide),_,_,rfl,rfl,.inr ⟨by decide,by decide⟩,_,_,rfl,rfl,(by show (0:Int) < 2147483399;decide),?_⟩
     refine ⟨_,rfl,_,_,rfl,rfl,⟨by decide,by decide,by decide⟩,_,_,rfl,rfl,.inr ⟨by decide,by decide⟩,_,rfl,_,_,rfl,rfl,⟨by decide,by decide⟩,_,_,rfl,rfl,?_⟩
     exact ⟨_,_,_,rfl,rfl⟩
   · rintro σ H2 ⟨r,f,m,rfl,rfl⟩
     exact ⟨_,rfl,k r _ (Same.new hp)⟩
theorem scRaw:FnScope ["script","k"] ["script","k"] (kag sRaw):=⟨rfl,rfl,rfl,by decide +kernel,rfl,by decide +kernel,by decide +kernel⟩
theorem kzc {f:Addr} {fd:FuncData} (F:Fun K "_law_raw" "_law_raw" sRaw f fd) (T:Txt K mg):FnOk P w K mg base CX0 1 f fd ["script","k"] (kk5 K):=by
 refine F.ok scRaw (fun vs H Q E h=> ?_) (fun cdv A outer s H vs Q E hr h=> ?_)
 · obtain ⟨a,ns,k,rfl,_⟩:=h;rfl
 · obtain ⟨a,ns,j,rfl,hS,k⟩:=h
   refine ⟨_,kaq (klo (kdq kql (pv 1) (kbf kcf (by rfl) T.len ko1 (kab (pv 0) kai)) (kdm _)) (kax (kca (kdr kbw (pv 0) (pv 1) (fun q_ q_=>rfl)))) kej)
    (kax (kca kar)),?_⟩
   refine ⟨_,rfl,_,rfl,a,_,rfl,.inl hS,_,_,rfl,rfl,_,rfl,?_⟩
   refine kdi (fun e=> ?_) (fun e=> ?_)
   · have hj:j < ns.length:=by
      have:=of_decide_eq_true e
      rw [List.length_map] at this
      lia
     exact ⟨_,rfl,_,rfl,a,_,_,_,rfl,rfl,hS,kbn (j:=j) (v:= .int ns[j]) (by simp [hj]),k _ _ (Same.refl _)⟩
   · exact k _ _ (Same.refl _)
theorem kwd:FnScope ["found"] ["found"] (kag kow):=⟨rfl,rfl,rfl,by decide +kernel,rfl,by decide +kernel,by decide +kernel⟩
theorem kr2 {f:Addr} {fd:FuncData} (F:Fun K "_law_whole" "_law_whole" kow f fd) (T:Txt K mg):FnOk P w K mg base CX0 1 f fd ["found"] kji:=by
 refine F.ok kwd (fun vs H Q E h=> ?_) (fun cdv A outer s H vs Q E hr h=> ?_)
 · obtain ⟨i,rfl,_⟩:=h;rfl
 · obtain ⟨i,rfl,k⟩:=h
   refine ⟨_,kax (kca (ksp (kbf kdw (by rfl) T.isi ktj (kab (pv 0) (kab (kix (v:= .ty "int") (by rfl) T.int kti rfl) kai)))
    (kmj (kxi (kbf kdw (by rfl) T.isi ktj (kab (pv 0) (kab (kix (v:= .ty "bool") (by rfl) T.bool kv9 rfl) kai))))))),?_⟩
   refine ⟨_,rfl,_,_,_,_,rfl,TyOf.int i,T.kii,_,rfl,?_⟩
   exact ⟨_,rfl,_,_,_,_,rfl,TyOf.int i,T.kib,_,rfl,k⟩
theorem kk8:FnScope ["cell","k","bound","stir"] ["cell","k","bound"] (kag kv7):=⟨rfl,rfl,rfl,by decide +kernel,rfl,by decide +kernel,by decide +kernel⟩
theorem kwe {f:Addr} {fd:FuncData} (F:Fun K "_law_draw" "_law_draw" kv7 f fd):FnOk P w K mg base CX0 1 f fd ["cell","k","bound"] kk6:=by
 refine F.ok kk8 (fun vs H Q E h=> ?_) (fun cdv A outer s H vs Q E hr h=> ?_)
 · obtain ⟨c,k,b,rfl,_⟩:=h;rfl
 · obtain ⟨c,j,b,rfl,hb,k⟩:=h
   refine ⟨_,kaq (ka9 (i:=3) kk8.nd rfl (Or.inl rfl) (ka0 kb7 (ka0 kd5 (ka0 kd5 (ka0 kb7 (pv 0) kar) kar) (ka0 kc6 (pv 1) kar)) kar))
    (kaq (ka9 (i:=3) kk8.nd rfl (Or.inl rfl) (ka0 kb7 (ka0 kc6 (ka0 kb7 (ka0 kc6 (pv 3) (pv 3)) kar) kar) kar))
    (kaq (ka9 (i:=3) kk8.nd rfl (Or.inl rfl) (ka0 kb7 (ka0 kc6 (ka0 kb7 (ka0 kc6 (pv 3) (pv 3)) kar) kar) kar))
    (kax (kca (ka0 kb7 (ka0 kb1 (pv 3) kar) (pv 2)))))),?_⟩
   refine ⟨_,rfl,_,_,rfl,rfl,(by show (0:Int) < 2147483629;decide),_,_,rfl,rfl,_,rfl,_,_,rfl,rfl,.inr ⟨by decide,by decide⟩,_,_,rfl,rfl,_,_,rfl,rfl,(by show (0:Int) < 2147483647;decide),?_⟩
   refine ⟨_,rfl,_,rfl,_,_,rfl,rfl,.inl (modB _ _ (by decide) (by decide)),_,_,rfl,rfl,(by show (0:Int) < 2147483647;decide),_,_,rfl,rfl,.inr ⟨by decide,by decide⟩,_,_,rfl,rfl,(by show (0:Int) < 2147483629;decide),?_⟩
   refine ⟨_,rfl,_,rfl,_,_,rfl,rfl,.inl (modB _ _ (by decide) (by decide)),_,_,rfl,rfl,(by show (0:Int) < 2147483629;decide),_,_,rfl,rfl,.inr ⟨by decide,by decide⟩,_,_,rfl,rfl,(by show (0:Int) < 2147483399;decide),?_⟩
   refine ⟨_,rfl,_,_,rfl,rfl,⟨by decide,by decide⟩,_,rfl,_,_,rfl,rfl,hb,?_⟩
   exact k _ (Int.emod_nonneg _ (Int.ne_of_gt hb)) (Int.emod_lt_of_pos _ hb)
end
noncomputable def kl8 (m:Nat) (t:Rel) (i:Nat):List V:=(List.range m).map fun (j:Nat)=>V.bl (t i j)
theorem kr3 (m:Nat) (t:Rel) (i:Nat):(kl8 m t i).length=m:=by unfold kl8;simp
noncomputable def ktk (t:Rel) (a b:Nat):Rel:=fun x y=>if x=a∧y=b then true else t x y
theorem kr4 {m:Nat} {t:Rel} {a b:Nat}:(kl8 m t a).set b (V.bl true)=kl8 m (ktk t a b) a:=by
 refine List.ext_getElem? fun i=> ?_
 unfold kl8
 rw [List.getElem?_set]
 by_cases hi:b=i
 · subst hi
   rw [if_pos rfl]
   by_cases hb:b < m
   · simp [hb,ktk]
   · simp [hb]
 · rw [if_neg hi]
   by_cases hm:i < m
   · have: ¬i=b:=fun z=>hi z.symm
     simp [hm,ktk,this]
   · simp [hm]
theorem kl9 {m:Nat} {t:Rel} {a b i:Nat} (h:i≠a):kl8 m (ktk t a b) i=kl8 m t i:=by
 unfold kl8 ktk
 exact List.map_congr_left fun j q_=>by simp [h]
structure Tb (H0 H:Hp) (D:Addr) (rs:List Addr) (m:Nat) (t:Rel):Prop where
 same:Same H0 H
 out:H0 D=none
 tab:H D=some (.lst (rs.map V.ref))
 nD: ∀r∈rs,r≠D
 nd:rs.Nodup
 row: ∀(i:Nat) (r:Addr),rs[i]?=some r→H0 r=none∧H r=some (.lst (kl8 m t i))
theorem Tb.mono {H0 H H':Hp} {D:Addr} {rs:List Addr} {m:Nat} {t:Rel} (b:Tb H0 H D rs m t) (s:Same H H'):Tb H0 H' D rs m t:=
 ⟨b.same.trans s,b.out,s _ _ b.tab,b.nD,b.nd,fun i r hr=>let ⟨h1,h2⟩:=b.row i r hr;⟨h1,s _ _ h2⟩⟩
theorem Tb.put {H0 H:Hp} {D:Addr} {rs:List Addr} {m:Nat} {t:Rel} {l:Addr} {o:HO} (b:Tb H0 H D rs m t) (h0:H0 l=none) (h1:D≠l) (h2: ∀r∈rs,r≠l):Tb H0 (upd H l o) D rs m t:=
 ⟨b.same.put h0,b.out,by rw [kah h1];exact b.tab,b.nD,b.nd,fun i r hr=>let ⟨h3,h4⟩:=b.row i r hr;⟨h3,by rw [kah (h2 r (List.mem_of_getElem? hr))];exact h4⟩⟩
theorem ko2 {os:List Addr} (nd:os.Nodup) {i j:Nat} {x:Addr} (h:os[i]?=some x) (h':os[j]?=some x):i=j:=by
 obtain ⟨hi,ei⟩:=List.getElem?_eq_some_iff.mp h
 obtain ⟨hj,ej⟩:=List.getElem?_eq_some_iff.mp h'
 have pw:=List.pairwise_iff_getElem.mp nd
 rcases Nat.lt_trichotomy i j with z | z | z
 · exact absurd (ei.trans ej.symm) (pw i j hi hj z)
 · exact z
 · exact absurd (ej.trans ei.symm) (pw j i hj hi z)
theorem Tb.set {H0 H:Hp} {D:Addr} {rs:List Addr} {m:Nat} {t:Rel} {r:Addr} {a b:Nat} (x:Tb H0 H D rs m t) (hr:rs[a]?=some r):Tb H0 (upd H r (.lst ((kl8 m t a).set b (V.bl true)))) D rs m (ktk t a b):=by
 have hm:=List.mem_of_getElem? hr
 refine ⟨x.same.put (x.row a r hr).1,x.out,by rw [kah (x.nD r hm).symm];exact x.tab,x.nD,x.nd,fun i q hq=>⟨(x.row i q hq).1,?_⟩⟩
 by_cases e:q=r
 · subst e
   have:=ko2 x.nd hq hr
   subst this
   rw [kad,kr4]
 · have ne:i≠a:=fun z=>by subst z;rw [hr] at hq;cases hq;exact e rfl
   rw [kah e,kl9 ne]
   exact (x.row i q hq).2
theorem Tb.at {H0 H:Hp} {D:Addr} {rs:List Addr} {m:Nat} {t:Rel} (x:Tb H0 H D rs m t) (hm:rs.length=m) {a:Nat} (ha:a < m): ∃r,rs[a]?=some r∧atI (rs.map V.ref) (a:Int)=some (.ref r)∧H r=some (.lst (kl8 m t a))∧∀b:Nat,b < m→atI (kl8 m t a) (b:Int)=some (.bl (t a b)):=by
 have ha':a < rs.length:=by lia
 refine ⟨rs[a],by simp [ha'],kbn (by simp [ha']),(x.row a rs[a] (by simp [ha'])).2,fun b hb=>kbn ?_⟩
 unfold kl8
 simp [hb]
theorem kwf {t:Rel} {k a b:Nat} (h1:t a k=true) (h2:t k b=true):stp t k a b=ktk t a b:=by
 unfold stp ktk
 rw [h1,h2]
 rfl
theorem kr5 {t:Rel} {k a b:Nat} (h1: ¬t a k=true):stp t k a b=t:=by
 unfold stp
 rw [Bool.eq_false_iff.mpr h1]
 rfl
theorem kr6 {t:Rel} {k a b:Nat} (h1: ¬t k b=true):stp t k a b=t:=by
 unfold stp
 rw [Bool.eq_false_iff.mpr h1,Bool.and_false]
 rfl
theorem kiu {t:Rel} {a j:Nat}:(((List.range (j + 1)).filter (t a)).map fun (b:Nat)=>((a:Int),(b:Int)))=(((List.range j).filter (t a)).map fun (b:Nat)=>((a:Int),(b:Int)))++(if t a j=true then [((a:Int),(j:Int))] else []):=by
 rw [List.range_succ,List.filter_append,List.map_append]
 congr 1
 by_cases h:t a j=true
 · rw [if_pos h,List.filter_cons_of_pos h];rfl
 · rw [if_neg h,List.filter_cons_of_neg h];rfl
section
variable {P:Program} {w:World} {K:PySem.W.Frag} {mg:Str→Option Value} {base:Heap}
theorem nd1:(["a","many","pairs"]:List Str).Nodup:=by decide +kernel
theorem nd2:(["b","a","pairs"]:List Str).Nodup:=by decide +kernel
theorem nd3:(["b","a","table"]:List Str).Nodup:=by decide +kernel
theorem kc2:FnScope ["many","pairs","table","k","a","b","found"] ["many","pairs"] (kag kjh):=⟨rfl,rfl,rfl,by decide +kernel,rfl,by decide +kernel,by decide +kernel⟩
noncomputable abbrev Cl1 (H:Hp) (D p:Addr) (m:Nat) (ps:List (Int×Int)) (i:Nat) (σ:St) (acc:List V) (H1:Hp):Prop:=∃(rs:List Addr) (va:Option V),σ=[va,some (.int m),some (.ref p)]∧acc=rs.map V.ref∧Tb H H1 D rs m (t0 ps)∧rs.length=i
noncomputable abbrev Cl2 (H1:Hp) (D2 p:Addr) (ps:List (Int×Int)) (i j:Nat) (σ2:St) (acc2:List V) (H2:Hp):Prop:=∃(vb:Option V),σ2=[vb,some (.int i),some (.ref p)]∧acc2=((List.range j).map fun (y:Nat)=>V.bl (t0 ps i y))∧Same H1 H2∧H2 D2=some (.lst acc2)
noncomputable abbrev Cl3 (H:Hp) (D p:Addr) (m:Nat) (rs:List Addr) (ps:List (Int×Int)) (i:Nat) (σ:St) (H2:Hp):Prop:=∃vk va vb,σ=[some (.int m),some (.ref p),some (.ref D),vk,va,vb,none]∧Tb H H2 D rs m (w1 m (t0 ps) i)
noncomputable abbrev Cl4 (H:Hp) (D p:Addr) (m:Nat) (rs:List Addr) (ps:List (Int×Int)) (kk:Nat) (i:Nat) (σ:St) (H3:Hp):Prop:=∃va vb,σ=[some (.int m),some (.ref p),some (.ref D),some (.int kk),va,vb,none]∧Tb H H3 D rs m (w2 m (w1 m (t0 ps) kk) kk i)
noncomputable abbrev Cl5 (H:Hp) (D p:Addr) (m:Nat) (rs:List Addr) (ps:List (Int×Int)) (kk aa:Nat) (i:Nat) (σ:St) (H4:Hp):Prop:=∃vb,σ=[some (.int m),some (.ref p),some (.ref D),some (.int kk),some (.int aa),vb,none]∧Tb H H4 D rs m (w3 (w2 m (w1 m (t0 ps) kk) kk aa) kk aa i)
noncomputable abbrev Cl6 (K:PySem.W.Frag) (H:Hp) (D p fl:Addr) (m:Nat) (rs:List Addr) (vk vb:Option V) (cl:Nat→Nat→Bool) (i:Nat) (σ:St) (H3:Hp):Prop:=∃(va:Option V) (ws:List V),σ=[some (.int m),some (.ref p),some (.ref D),vk,va,vb,some (.ref fl)]∧Tb H H3 D rs m cl∧H3 fl=some (.lst ws)∧RpAll K H3 ws (((List.range i).flatMap (kc1 m cl)).map pD)
set_option maxHeartbeats 16000000 in
theorem ko3 {f:Addr} {fd:FuncData} (F:Fun K "_law_closed" "_law_closed" kjh f fd) (T:Txt K mg):FnOk P w K mg base CX0 1 f fd ["many","pairs"] (kfg K):=by
 refine F.ok kc2 (fun vs H Q E h=> ?_) (fun cdv A outer s H vs Q E hr h=> ?_)
 · obtain ⟨m,p,xs,ps,rfl,_⟩:=h;rfl
 · obtain ⟨m,p,xs,ps,rfl,hm,hp,hps,k⟩:=h
   refine ⟨_,kaq (ka9 (i:=2) kc2.nd rfl (Or.inr rfl) (kfa (N':=["a","many","pairs"]) rfl (.own (.cap 0 rfl rfl rfl (.cap 1 rfl rfl rfl .nil))) (ka4 (by rfl) T.range (kab (pv 0) kai))
    (fun s H fp=>kbj (i:=0) nd1 rfl (Or.inr rfl)) (fun s H fp=>ki0)
    (fun s H fp=>kfa (N':=["b","a","pairs"]) rfl (.own (.cap 0 rfl rfl rfl (.cap 2 rfl rfl rfl .nil))) (ka4 (by rfl) T.range (kab (pv 1) kai))
      (fun s H fp=>kbj (i:=0) nd2 rfl (Or.inl rfl)) (fun s H fp=>ki0)
      (fun s H fp=>ksp (kek (km4 K (ka2 hr (by decide))) (kez (kab (pv 1) (kab (pv 0) kai))) (pv 2) rfl) (kmj (kek op_ne (pv 1) (pv 0) (kdm _)))))))
    (kaq (kc5 PassesOwn.never rfl (ka4 (by rfl) T.range (kab (pv 0) kai)) (kbj (i:=3) kc2.nd rfl (Or.inl rfl))
      (kax (kc5 PassesOwn.never rfl (ka4 (by rfl) T.range (kab (pv 0) kai)) (kbj (i:=4) kc2.nd rfl (Or.inr rfl))
        (kax (kc5 PassesOwn.never rfl (ka4 (by rfl) T.range (kab (pv 0) kai)) (kbj (i:=5) kc2.nd rfl (Or.inl rfl))
          (kax (klo (kju (kjt (kdr kbw (kdr kbw (pv 2) (pv 4) (fun q_ q_=>rfl)) (pv 3) (fun q_ q_=>rfl))) (kgu (kjt (kdr kbw (kdr kbw (pv 2) (pv 3) (fun q_ q_=>rfl)) (pv 5) (fun q_ q_=>rfl))))).pt
            (kax (kxo kxe (kxm (kdr kbw (pv 2) (pv 4) (fun q_ q_=>rfl)) (pv 5) kqo))) kej)))))))
    (kaq (ka9 (i:=6) kc2.nd rfl (Or.inl rfl) (ke0 kai))
    (kaq (kc5 PassesOwn.never rfl (ka4 (by rfl) T.range (kab (pv 0) kai)) (kbj (i:=4) kc2.nd rfl (Or.inr rfl))
      (kax (kdp (kh1 PySem.F.plainAttrs_list PySem.F.slot_list_extend PySem.F.type_list_extend kmz (pv 6)
        (kab (kfa (N':=["b","a","table"]) rfl (.own (.cap 4 rfl rfl rfl (.cap 2 rfl rfl rfl .nil))) (ka4 (by rfl) T.range (kab (pv 0) kai))
          (fun s H fp=>kbj (i:=0) nd3 rfl (Or.inl rfl)) (fun s H fp=>km2 (kjt (kdr (kj3 K) (kdr (kj3 K) (pv 2) (pv 1) (fun q_ q_=>rfl)) (pv 0) (fun q_ q_=>rfl))))
          (fun s H fp=>kez (kab (pv 1) (kab (pv 0) kai)))) kai)))))
    (kax (kca (kbq kd7 (by rfl) T.tuple kk3 (kab (pv 6) kai))))))),?_⟩
   try dsimp only [kmv]
   refine ⟨_,rfl,(m:Int),rfl,by lia,by lia,fun D hD=> ?_⟩
   refine kf3 (n:=m) (Cl1 H D p m ps) ⟨[],none,rfl,rfl,⟨Same.new hD,hD,kad,(fun r hr=>nomatch hr),List.nodup_nil,(fun i r hr=>by simp at hr)⟩,rfl⟩ ?_ ?_
   · rintro i σ acc H1 hi ⟨rs,va,rfl,rfl,t,hl⟩
     refine ⟨_,rfl,(m:Int),rfl,by lia,by lia,fun D2 hD2=> ?_⟩
     refine kf3 (n:=m) (Cl2 H1 D2 p ps i) ⟨none,rfl,rfl,Same.new hD2,kad⟩ ?_ ?_
     · rintro j σ2 acc2 H2 hj ⟨vb,rfl,rfl,s2,h2⟩
       refine ⟨_,rfl,_,rfl,kis (by show 2≤100000;decide),fun q hq=> ?_⟩
       have s3:Same H (upd H2 q (.tup [.int (i:Int),.int (j:Int)])):=t.same.trans (s2.trans (Same.new hq))
       have fin: ∀c:Bool,c=t0 ps i j→(upd H2 q (.tup [.int (i:Int),.int (j:Int)])) D2=some (.lst ((List.range j).map fun (y:Nat)=>V.bl (t0 ps i y)))∧((List.range j).map fun (y:Nat)=>V.bl (t0 ps i y)).length < sizeLine∧Cl2 H1 D2 p ps i (j + 1) [some (V.int j),some (V.int i),some (V.ref p)] (((List.range j).map fun (y:Nat)=>V.bl (t0 ps i y))++[V.bl c]) (upd (upd H2 q (.tup [.int (i:Int),.int (j:Int)])) D2 (.lst (((List.range j).map fun (y:Nat)=>V.bl (t0 ps i y))++[V.bl c]))):=fun c hc=>
        ⟨by rw [kah (kaf h2 hq)];exact h2,kv8 (by rw [List.length_map,List.length_range];lia),_,rfl,by rw [hc,List.range_succ,List.map_append];rfl,(s2.trans (Same.new hq)).put hD2,kad⟩
       refine ⟨_,rfl,p,xs,ps.map pD,pD ((i:Int),(j:Int)),rfl,.inl (SqL.of (s3 _ _ hp)),RpAll.same s3 hps,kir kad,kcp ps,rfl,Nat.le_trans (khk ((i:Int),(j:Int))) (by decide),_,rfl,?_⟩
       rw [kiq]
       refine kdi (fun e=> ?_) (fun e=>fin false ?_)
       · refine ⟨_,rfl,_,rfl,rfl,fin _ ?_⟩
         have e:=of_decide_eq_true e
         unfold t0
         by_cases hij:i=j
         · subst hij;simp
         · have h1: ¬(V.int (i:Int)=V.int (j:Int)):=fun z=>hij (Int.ofNat.inj (V.int.inj z))
           rw [decide_eq_false h1,decide_eq_true (show ((i:Int),(j:Int))∈ps∧i≠j from ⟨e,hij⟩)]
           rfl
       · unfold t0
         rw [decide_eq_false]
         intro z
         exact e (decide_eq_true z.1)
     · rintro σ2 acc2 H2 ⟨vb,rfl,rfl,s2,h2⟩
       have hDD:D≠D2:=kaf t.tab hD2
       have t2:=t.mono s2
       have nw: ∀r∈rs,r≠D2:=fun r hr=>by
        obtain ⟨z,hz⟩:=List.mem_iff_getElem?.mp hr
        exact kaf (t.row z r hz).2 hD2
       refine ⟨t2.tab,kv8 (by rw [List.length_map];lia),rs++[D2],_,rfl,by simp,⟨t2.same.put hD,hD,by rw [kad];simp,fun r hr=> ?_,?_,fun z r hr=> ?_⟩,by simp [hl]⟩
       · rcases List.mem_append.mp hr with z | z
         · exact t.nD r z
         · rw [List.mem_singleton.mp z];exact hDD.symm
       · refine List.nodup_append.mpr ⟨t.nd,by simp,fun a ha b hb=> ?_⟩
         rw [List.mem_singleton.mp hb]
         exact nw a ha
       · by_cases hz:z < rs.length
         · rw [List.getElem?_append_left hz] at hr
           obtain ⟨h3,h4⟩:=t2.row z r hr
           exact ⟨h3,by rw [kah (t.nD r (List.mem_of_getElem? hr))];exact h4⟩
         · rw [List.getElem?_append_right (by lia)] at hr
           have hz0:z - rs.length=0:=by
            have:=(List.getElem?_eq_some_iff.mp hr).1
            simp at this;lia
           rw [hz0] at hr
           have hr:D2=r:=by simpa using hr
           subst hr
           have:z=i:=by lia
           subst this
           exact ⟨t.same.free hD2,by rw [kah hDD.symm];exact h2⟩
   rintro σ acc H1 ⟨rs,va,rfl,rfl,t,hl⟩
   refine ⟨_,rfl,(m:Int),rfl,by lia,by lia,kbd (n:=m) (Cl3 H D p m rs ps) ⟨none,none,none,rfl,t⟩ ?_ ?_⟩
   · rintro kk σ H2 hk ⟨vk,va,vb,rfl,t2⟩
     refine ⟨_,rfl,(m:Int),rfl,by lia,by lia,kbd (n:=m) (Cl4 H D p m rs ps kk) ⟨va,vb,rfl,t2⟩ ?_ ?_⟩
     · rintro aa σ H3 ha ⟨va,vb,rfl,t3⟩
       refine ⟨_,rfl,(m:Int),rfl,by lia,by lia,kbd (n:=m) (Cl5 H D p m rs ps kk aa) ⟨vb,rfl,t3⟩ ?_ ?_⟩
       · rintro bb σ H4 hb ⟨vb,rfl,t4⟩
         obtain ⟨ra,hra,ea,ha4,ga⟩:=t4.at hl ha
         obtain ⟨rk,hrk,ek,hk4,gk⟩:=t4.at hl hk
         have e1:=ga kk hk
         have e2:=gk bb hb
         refine ⟨_,rfl,_,rfl,D,_,_,_,rfl,rfl,SqL.of t4.tab,ea,_,rfl,ra,_,_,_,rfl,rfl,SqL.of ha4,e1,_,rfl,?_⟩
         refine kdi (fun c1=> ?_) (fun c1=>⟨_,rfl,?_⟩)
         · refine ⟨_,rfl,_,rfl,D,_,_,_,rfl,rfl,SqL.of t4.tab,ek,_,rfl,rk,_,_,_,rfl,rfl,SqL.of hk4,e2,_,rfl,?_⟩
           refine kdi (fun c2=> ?_) (fun c2=>⟨_,rfl,?_⟩)
           · refine ⟨_,rfl,_,rfl,D,_,_,_,rfl,rfl,SqL.of t4.tab,ea,_,rfl,ra,_,_,bb,rfl,rfl,ha4,kwa (by rw [kr3];lia),?_⟩
             refine ⟨_,rfl,?_⟩
             show Tb H _ D rs m (stp _ kk aa bb)
             rw [kwf c1 c2]
             exact t4.set hra
           · show Tb H H4 D rs m (stp _ kk aa bb)
             rw [kr6 c2]
             exact t4
         · show Tb H H4 D rs m (stp _ kk aa bb)
           rw [kr5 c1]
           exact t4
       · rintro σ H4 ⟨vb,rfl,t4⟩
         exact ⟨_,_,rfl,t4⟩
     · rintro σ H3 ⟨va,vb,rfl,t3⟩
       exact ⟨_,_,_,rfl,t3⟩
   rintro σ H2 ⟨vk,va,vb,rfl,t2⟩
   generalize hcl:w1 m (t0 ps) m=cl at t2
   refine ⟨kis (by show 0≤100000;decide),fun fl hf=> ?_⟩
   have t3:Tb H (upd H2 fl (.lst [])) D rs m cl:=t2.mono (Same.new hf)
   have nfD:D≠fl:=kaf t2.tab hf
   have nfr: ∀r∈rs,r≠fl:=fun r hr=>by
    obtain ⟨z,hz⟩:=List.mem_iff_getElem?.mp hr
    exact kaf (t2.row z r hz).2 hf
   have hf0:H fl=none:=t2.same.free hf
   refine ⟨_,rfl,(m:Int),rfl,by lia,by lia,kbd (n:=m) (Cl6 K H D p fl m rs vk vb cl)
    ⟨va,[],rfl,t3,kad,.nil⟩ ?_ ?_⟩
   · rintro aa σ H3 ha ⟨va,ws,rfl,t4,h4,r4⟩
     refine ⟨_,rfl,.inl ⟨rfl,_,SqL.of h4⟩,_,rfl,(m:Int),rfl,by lia,by lia,fun D2 hD2=> ?_⟩
     have l4:=kf2 m cl aa
     have hmm:aa * m≤16 * 16:=Nat.mul_le_mul (by lia) hm
     refine kf3 (n:=m) (fun j σ2 acc H5=>∃(vb:Option V),σ2=[vb,some (.int aa),some (.ref D)]∧Same H3 H5∧H5 D2=some (.lst acc)∧RpAll K H5 acc ((((List.range j).filter (cl aa)).map fun (b:Nat)=>((aa:Int),(b:Int))).map pD)∧acc.length≤j)
      ⟨none,rfl,Same.new hD2,kad,.nil,Nat.zero_le _⟩ ?_ ?_
     · rintro j σ2 acc H5 hj ⟨vb2,rfl,s5,h5,r5,l5⟩
       have t5:=t4.mono s5
       obtain ⟨ra,hra,ea,ha4,ga⟩:=t5.at hl ha
       refine ⟨_,rfl,_,rfl,D,_,_,_,rfl,rfl,SqL.of t5.tab,ea,_,rfl,ra,_,_,_,rfl,rfl,SqL.of ha4,ga j hj,_,rfl,?_⟩
       refine kdi (fun c=> ?_) (fun c=>⟨_,rfl,s5,h5,?_,by lia⟩)
       · refine ⟨_,rfl,_,rfl,kis (by show 2≤100000;decide),fun q hq=> ?_⟩
         refine ⟨by rw [kah (kaf h5 hq)];exact h5,kv8 (by lia),_,rfl,(s5.trans (Same.new hq)).put hD2,kad,?_,?_⟩
         · rw [kiu,if_pos c,List.map_append]
           have hl5:(upd H5 q (HO.tup [V.int aa,V.int j])) D2=some (.lst acc):=by rw [kah (kaf h5 hq)];exact h5
           exact RpAll.append (RpAll.keep ((TK.new hq).trans (TK.lst hl5)) r5 (kb0 _)) (.one (kir (by rw [kah (kaf h5 hq).symm];exact kad)))
         · rw [List.length_append,List.length_singleton];lia
       · rw [kiu,if_neg c,List.append_nil]
         exact r5
     · rintro σ2 acc H5 ⟨vb2,rfl,s5,h5,r5,l5⟩
       have wl:ws.length=((List.range aa).flatMap (kc1 m cl)).length:=by rw [r4.len,List.length_map]
       have h6:=s5 _ _ h4
       refine ⟨fl,D2,ws,acc,rfl,rfl,h6,h5,kis (by lia),_,ws++acc,rfl,(t4.mono s5).put hf0 nfD nfr,kad,?_⟩
       rw [List.range_succ,List.flatMap_append,List.map_append]
       simp only [List.flatMap_cons,List.flatMap_nil,List.append_nil]
       exact RpAll.append (RpAll.keep (s5.tk.trans (TK.lst h6)) r4 (kb0 _)) (RpAll.keep (TK.lst h6) r5 (kb0 _))
   · rintro σ H3 ⟨va,ws,rfl,t4,h4,r4⟩
     refine ⟨_,rfl,fl,ws,rfl,.inl ⟨SqL.of h4,fun l hl=> ?_⟩⟩
     refine k _ _ (t4.same.trans (Same.new hl)) (.tup kad (RpAll.keep (TK.new hl) ?_ (kb0 _)))
     show RpAll K H3 ws ((kal m (w1 m (t0 ps) m)).map pD)
     rw [hcl]
     exact r4
end
theorem kk9 (c t:Int) (h1:1≤t) (h2:t≤16): ∃m:Nat,1 + c % t=(m:Int)∧1≤m∧(m:Int)≤t:=by
 have a:=Int.emod_nonneg c (show t≠0 by lia)
 have b:=Int.emod_lt_of_pos c (show 0 < t by lia)
 exact ⟨(1 + c % t).toNat,by lia,by lia,by lia⟩
theorem kg8 {os:List Int} {ps:List (Int×Int)} {i j:Nat} (h: ∀q∈ps,Up os q) (hji:j < i) (hj:j < os.length) (hi:i < os.length): ∀q∈ps++[(os[j],os[i])],Up os q:=fun q hq=>by
 rcases List.mem_append.mp hq with z | z
 · exact h q z
 · rw [List.mem_singleton.mp z]
   exact ⟨j,i,hji,by simp [hj],by simp [hi]⟩
theorem kgq: ∀(l:List Int) (k:Nat) (h:k < l.length),(l[k]::l.eraseIdx k).Perm l
 | [],_,h=>absurd h (Nat.not_lt_zero _)
 | a::l,0,_=>List.Perm.refl _
 | a::l,k + 1,h=>by
   have h':k < l.length:=Nat.lt_of_succ_lt_succ h
   show (l[k]::a::l.eraseIdx k).Perm (a::l)
   exact (List.Perm.swap _ _ _).trans ((kgq l k h').cons a)
structure Two (H0 H:Hp) (fr od:Addr) (m:Nat) (fs os:List Int):Prop where
 same:Same H0 H
 f0:H0 fr=none
 o0:H0 od=none
 ne:fr≠od
 hf:H fr=some (.lst (fs.map V.int))
 ho:H od=some (.lst (os.map V.int))
 rf: ∀x∈fs,0≤x∧x < (m:Int)
 ro: ∀x∈os,0≤x∧x < (m:Int)
 nd:(fs++os).Nodup
theorem khl (m:Nat):(((List.range m).map fun (i:Nat)=>(i:Int))++[]).Nodup:=by
 rw [List.append_nil]
 refine List.Pairwise.map _ (fun a b h=> ?_) List.nodup_range
 intro z
 exact h (Int.ofNat.inj z)
theorem kf4 (n:Nat):rangeV 0 n=((List.range n).map fun (i:Nat)=>(i:Int)).map V.int:=by
 unfold rangeV
 rw [List.map_map]
 refine List.map_congr_left fun i q_=> ?_
 show V.int (0 + (i:Int))=V.int (i:Int)
 rw [Int.zero_add]
theorem Two.pop {H0 H H':Hp} {fr od:Addr} {m:Nat} {fs os:List Int} (t:Two H0 H fr od m fs os) {k:Nat} (hk:k < fs.length):
 Two H0 (upd (upd H fr (.lst ((fs.map V.int).eraseIdx k))) od (.lst (os.map V.int++[V.int fs[k]]))) fr od m (fs.eraseIdx k) (os++[fs[k]]):=by
 refine ⟨(t.same.put t.f0).put t.o0,t.f0,t.o0,t.ne,?_,?_,fun x hx=>t.rf x (List.mem_of_mem_eraseIdx hx),fun x hx=> ?_,?_⟩
 · rw [kah t.ne,kad,kfn]
 · rw [kad];simp
 · rcases List.mem_append.mp hx with z | z
   · exact t.ro x z
   · rw [List.mem_singleton.mp z];exact t.rf _ (List.getElem_mem hk)
 · have pm:(fs.eraseIdx k++(os++[fs[k]])).Perm (fs++os):=by
    rw [← List.append_assoc]
    exact (List.perm_append_singleton _ _).trans ((kgq fs k hk).append_right os)
   exact pm.nodup_iff.mpr t.nd
noncomputable abbrev Kdg (H:Hp) (t:Int) (m:Nat) (fr od:Addr) (i:Nat) (σ:St) (H3:Hp):Prop:=∃(cc:Int) (vk:Option V) (fs os:List Int),σ=[some (.int cc),some (.int t),some (.int m),some (.ref fr),some (.ref od),vk,none,none,none]∧Two H H3 fr od m fs os∧fs.length + i=m∧os.length=i
noncomputable abbrev Idg (K:PySem.W.Frag) (H:Hp) (t:Int) (m:Nat) (fr od:Addr) (vk:Option V) (pr:Addr) (os:List Int) (i:Nat) (σ:St) (H4:Hp):Prop:=∃(cc:Int) (vi vj:Option V) (ps:List (Int×Int)) (ws:List V),σ=[some (.int cc),some (.int t),some (.int m),some (.ref fr),some (.ref od),vk,some (.ref pr),vi,vj]∧Same H H4∧H4 od=some (.lst (os.map V.int))∧H4 pr=some (.lst ws)∧RpAll K H4 ws (ps.map pD)∧ps.length≤16 * i∧∀q∈ps,Up os q
noncomputable abbrev Jdg (K:PySem.W.Frag) (H:Hp) (t:Int) (m:Nat) (fr od:Addr) (vk:Option V) (pr:Addr) (os:List Int) (i:Nat) (j:Nat) (σ:St) (H5:Hp):Prop:=∃(cc:Int) (vj:Option V) (ps:List (Int×Int)) (ws:List V),σ=[some (.int cc),some (.int t),some (.int m),some (.ref fr),some (.ref od),vk,some (.ref pr),some (.int i),vj]∧Same H H5∧H5 od=some (.lst (os.map V.int))∧H5 pr=some (.lst ws)∧RpAll K H5 ws (ps.map pD)∧ps.length≤16 * i + j∧∀q∈ps,Up os q
noncomputable abbrev Kmx (H:Hp) (c t:Int) (m:Nat) (fr od:Addr) (i:Nat) (σ:St) (H3:Hp):Prop:=∃(vk:Option V) (fs os:List Int),σ=[some (.int c),some (.int t),some (.int m),some (.ref fr),some (.ref od),vk,none,none,none,none,none,none]∧Two H H3 fr od m fs os∧fs.length + i=m∧os.length=i
noncomputable abbrev Imx (K:PySem.W.Frag) (H:Hp) (c t:Int) (m:Nat) (fr od:Addr) (vk:Option V) (ra rb:Int) (pr:Addr) (os:List Int) (i:Nat) (σ:St) (H4:Hp):Prop:=∃(vi vj vd:Option V) (ps:List (Int×Int)) (ws:List V),σ=[some (.int c),some (.int t),some (.int m),some (.ref fr),some (.ref od),vk,some (.int ra),some (.int rb),some (.ref pr),vi,vj,vd]∧Same H H4∧H4 od=some (.lst (os.map V.int))∧H4 pr=some (.lst ws)∧RpAll K H4 ws (ps.map pD)∧ps.length≤16 * i∧∀q∈ps,Up os q
noncomputable abbrev Jmx (K:PySem.W.Frag) (H:Hp) (c t:Int) (m:Nat) (fr od:Addr) (vk:Option V) (ra rb:Int) (pr:Addr) (os:List Int) (i:Nat) (j:Nat) (σ:St) (H5:Hp):Prop:=∃(vj vd:Option V) (ps:List (Int×Int)) (ws:List V),σ=[some (.int c),some (.int t),some (.int m),some (.ref fr),some (.ref od),vk,some (.int ra),some (.int rb),some (.ref pr),some (.int i),vj,vd]∧Same H H5∧H5 od=some (.lst (os.map V.int))∧H5 pr=some (.lst ws)∧RpAll K H5 ws (ps.map pD)∧ps.length≤16 * i + j∧∀q∈ps,Up os q
section
variable {P:Program} {w:World} {K:PySem.W.Frag} {mg:Str→Option Value} {base:Heap}
theorem kf5:FnScope ["cell","most","many","free","order","k","pairs","i","j"] ["cell","most"] (kag sDig):=⟨rfl,rfl,rfl,by decide +kernel,rfl,by decide +kernel,by decide +kernel⟩
set_option maxHeartbeats 16000000 in
theorem kzd {f:Addr} {fd:FuncData} (F:Fun K "_law_by_digits" "_law_by_digits" sDig f fd) (T:Txt K mg) (GC:Fn P w K mg base "_law_closed" 1 ["many","pairs"] (kfg K)):FnOk P w K mg base CX0 2 f fd ["cell","most"] (kl7 K):=by
 refine F.ok kf5 (fun vs H Q E h=> ?_) (fun cdv A outer s H vs Q E hr h=> ?_)
 · obtain ⟨c,t,rfl,_⟩:=h;rfl
 · obtain ⟨c,t,rfl,ht1,ht2,k⟩:=h
   refine ⟨_,kaq (ka9 (i:=2) kf5.nd rfl (Or.inl rfl) (ka0 kd5 kar (ka0 kb7 (pv 0) (pv 1))))
    (kaq (ka9 (i:=0) kf5.nd rfl (Or.inl rfl) (ka0 kb1 (pv 0) (pv 1)))
    (kaq (ka9 (i:=3) kf5.nd rfl (Or.inl rfl) (kbq (kcw rfl) (by rfl) T.list ko0 (kab (kfm (by rfl) T.range (kab (pv 2) kai)) kai)))
    (kaq (ka9 (i:=4) kf5.nd rfl (Or.inl rfl) (ke0 kai))
    (kaq (kc5 PassesOwn.never rfl (ka4 (by rfl) T.range (kab (pv 2) kai)) (kbj (i:=5) kf5.nd rfl (Or.inl rfl))
      (kaq (kdp (kh1 PySem.F.plainAttrs_list PySem.F.slot_list_append PySem.F.type_list_append kcl (pv 4)
        (kab (kh1 PySem.F.plainAttrs_list PySem.F.slot_list_pop PySem.F.type_list_pop kgv (pv 3) (kab (ka0 kb7 (pv 0) (kbf kcf (by rfl) T.len ko1 (kab (pv 3) kai))) kai)) kai)))
      (kax (ka9 (i:=0) kf5.nd rfl (Or.inl rfl) (ka0 kb1 (pv 0) (ka0 ksq (pv 2) (pv 5)))))))
    (kaq (ka9 (i:=6) kf5.nd rfl (Or.inl rfl) (ke0 kai))
    (kaq (kc5 PassesOwn.never rfl (ka4 (by rfl) T.range (kab (pv 2) kai)) (kbj (i:=7) kf5.nd rfl (Or.inl rfl))
      (kax (kc5 PassesOwn.never rfl (ka4 (by rfl) T.range (kab (pv 7) kai)) (kbj (i:=8) kf5.nd rfl (Or.inl rfl))
        (kaq (klo (kdq kmq (ka0 kb7 (pv 0) kar) kar (kdm _))
          (kax (kdp (kh1 PySem.F.plainAttrs_list PySem.F.slot_list_append PySem.F.type_list_append kcl (pv 6)
            (kab (kez (kab (kdr kbw (pv 4) (pv 8) (fun q_ q_=>rfl)) (kab (kdr kbw (pv 4) (pv 7) (fun q_ q_=>rfl)) kai))) kai)))) kej)
        (kax (ka9 (i:=0) kf5.nd rfl (Or.inl rfl) (ka0 kb1 (pv 0) kar)))))))
    (kax (kca (kez (kab (pv 2) (kab (kgf GC hr (kab (pv 2) (kab (pv 6) kai))) kai))))))))))),?_⟩
   try dsimp only [kmv]
   obtain ⟨m,em,hm1,hm2⟩:=kk9 c t ht1 ht2
   refine ⟨_,rfl,_,rfl,_,_,rfl,rfl,(by show (0:Int) < t;lia),_,_,rfl,rfl,?_⟩
   dsimp only
   rw [em]
   refine ⟨_,rfl,_,rfl,_,_,rfl,rfl,⟨by lia,by lia⟩,?_⟩
   refine ⟨_,rfl,(m:Int),rfl,fun p hp=>⟨p,0,(m:Int),rfl,kad,⟨by lia,by lia,by lia,by lia⟩,kis (by lia),fun fr hfr=> ?_⟩⟩
   refine ⟨kis (by show 0≤100000;decide),fun od hod=> ?_⟩
   have efr:rangeV 0 ((m:Int) - 0).toNat=((List.range m).map fun (i:Nat)=>(i:Int)).map V.int:=by
    rw [Int.sub_zero,Int.toNat_natCast];exact kf4 m
   rw [efr] at hod
   dsimp only
   rw [efr]
   have s0:Same H (upd (upd (upd H p (.rng 0 m)) fr (.lst (((List.range m).map fun (i:Nat)=>(i:Int)).map V.int))) od (.lst [])):=((Same.new hp).trans (Same.new hfr)).trans (Same.new hod)
   have fr0:H fr=none:=(Same.new hp).free hfr
   have od0:H od=none:=((Same.new hp).trans (Same.new hfr)).free hod
   have nfo:fr≠od:=kaf (kad (H:=upd H p (.rng 0 m))) hod
   have t0:Two H (upd (upd (upd H p (.rng 0 m)) fr (.lst (((List.range m).map fun (i:Nat)=>(i:Int)).map V.int))) od (.lst [])) fr od m ((List.range m).map fun (i:Nat)=>(i:Int)) []:=
    ⟨s0,fr0,od0,nfo,by rw [kah nfo,kad],kad,fun x hx=>by
      obtain ⟨i,hi,rfl⟩:=List.mem_map.mp hx
      have:=List.mem_range.mp hi
      exact ⟨by lia,by lia⟩,(fun x hx=>nomatch hx),khl m⟩
   refine ⟨_,rfl,(m:Int),rfl,by lia,by lia,kbd (n:=m) (Kdg H t m fr od)
    ⟨_,none,_,[],rfl,t0,by simp,rfl⟩ ?_ ?_⟩
   · rintro i σ H3 hi ⟨cc,vk,fs,os,rfl,t3,l1,l2⟩
     have hpos:(0:Int) < (fs.length:Int):=by lia
     have a1:=Int.emod_nonneg cc (show (fs.length:Int)≠0 by lia)
     have a2:=Int.emod_lt_of_pos cc hpos
     obtain ⟨kk,ek⟩:=Int.eq_ofNat_of_zero_le a1
     have hkk:kk < fs.length:=by lia
     refine ⟨_,rfl,.inl ⟨rfl,_,SqL.of t3.ho⟩,_,rfl,.inl ⟨rfl,_,SqL.of t3.hf⟩,_,rfl,_,rfl,fr,_,rfl,.inl (SqL.of t3.hf),_,_,rfl,rfl,(by show (0:Int) < (((fs.map V.int).length:Nat):Int);rw [List.length_map];exact hpos),?_⟩
     dsimp only
     rw [List.length_map,ek]
     refine ⟨fr,_,(kk:Int),kk,.int fs[kk],rfl,rfl,t3.hf,by lia,by lia,by rw [List.length_map];exact PySem.seqIndex_of (by lia) (by lia),by simp [hkk],od,_,_,rfl,rfl,(by rw [kah t3.ne.symm];exact t3.ho),kv8 (by rw [List.length_map];lia),?_⟩
     refine ⟨_,rfl,_,rfl,_,rfl,_,_,rfl,rfl,_,_,rfl,rfl,⟨by lia,by lia⟩,?_⟩
     exact ⟨_,_,_,_,rfl,Two.pop (H':=H) t3 hkk,by rw [List.length_eraseIdx_of_lt hkk];lia,by simp [l2]⟩
   rintro σ H3 ⟨cc,vk,fs,os,rfl,t3,l1,l2⟩
   refine ⟨kis (by show 0≤100000;decide),fun pr hpr=> ?_⟩
   have pr0:H pr=none:=t3.same.free hpr
   have npo:od≠pr:=kaf t3.ho hpr
   refine ⟨_,rfl,(m:Int),rfl,by lia,by lia,kbd (n:=m) (Idg K H t m fr od vk pr os)
    ⟨cc,none,none,[],[],rfl,t3.same.trans (Same.new hpr),by rw [kah npo];exact t3.ho,kad,.nil,Nat.zero_le _,fun q hq=>nomatch hq⟩ ?_ ?_⟩
   · rintro i σ H4 hi ⟨cc,vi,vj,ps,ws,rfl,s4,o4,p4,r4,l4,u4⟩
     refine ⟨_,rfl,(i:Int),rfl,by lia,by lia,kbd (n:=i) (Jdg K H t m fr od vk pr os i)
      ⟨cc,vj,ps,ws,rfl,s4,o4,p4,r4,l4,u4⟩ ?_ ?_⟩
     · rintro j σ H5 hj ⟨cc,vj,ps,ws,rfl,s5,o5,p5,r5,l5,u5⟩
       refine ⟨_,rfl,_,_,rfl,rfl,(by show (0:Int) < 2;decide),rfl,_,rfl,?_⟩
       refine kdi (fun q_=> ?_) (fun q_=> ?_)
       · have hjo:j < os.length:=by lia
         have hio:i < os.length:=by lia
         refine ⟨_,rfl,.inl ⟨rfl,_,SqL.of p5⟩,_,rfl,_,rfl,od,_,_,_,rfl,rfl,SqL.of o5,kbn (j:=j) (v:= .int os[j]) (by simp [hjo]),_,rfl,_,rfl,od,_,_,_,rfl,rfl,SqL.of o5,kbn (j:=i) (v:= .int os[i]) (by simp [hio]),kis (by show 2≤100000;decide),fun q hq=> ?_⟩
         have wl:ws.length=ps.length:=by rw [r5.len,List.length_map]
         have p6:(upd H5 q (.tup [.int os[j],.int os[i]])) pr=some (.lst ws):=by rw [kah (kaf p5 hq)];exact p5
         refine ⟨pr,ws,_,rfl,rfl,p6,kv8 (by lia),?_⟩
         refine ⟨_,rfl,_,_,rfl,rfl,⟨by decide,by decide⟩,?_⟩
         refine ⟨_,_,ps++[(os[j],os[i])],_,rfl,(s5.trans (Same.new hq)).put pr0,by rw [kah npo,kah (kaf o5 hq)];exact o5,kad,?_,?_,?_⟩
         · rw [List.map_append]
           exact RpAll.append (RpAll.keep ((TK.new hq).trans (TK.lst p6)) r5 (kb0 ps)) (.one (kir (by rw [kah (kaf p5 hq).symm];exact kad)))
         · rw [List.length_append,List.length_singleton];lia
         · exact kg8 u5 hj hjo hio
       · refine ⟨_,rfl,_,_,rfl,rfl,⟨by decide,by decide⟩,?_⟩
         exact ⟨_,_,ps,ws,rfl,s5,o5,p5,r5,by lia,u5⟩
     · rintro σ H5 ⟨cc,vj,ps,ws,rfl,s5,o5,p5,r5,l5,u5⟩
       exact ⟨_,_,_,ps,ws,rfl,s5,o5,p5,r5,by lia,u5⟩
   rintro σ H4 ⟨cc,vi,vj,ps,ws,rfl,s4,o4,p4,r4,l4,u4⟩
   refine ⟨_,rfl,_,rfl,_,rfl,m,pr,ws,ps,rfl,by lia,p4,r4,fun v H5 s5 r5=>⟨kis (by show 2≤100000;decide),fun q hq=> ?_⟩⟩
   exact k _ _ m (clo m ps) ((s4.trans s5).trans (Same.new hq)) hm1 hm2 (ktg (List.nodup_append.mp t3.nd).2.1 u4) (.tup kad (.cons (.int _) (.one (Rp.same (Same.new hq) r5))))
theorem kf6:FnScope ["cell","most","many","free","order","k","share","half","pairs","i","j","drawn"] ["cell","most"] (kag sMix):=⟨rfl,rfl,rfl,by decide +kernel,rfl,by decide +kernel,by decide +kernel⟩
set_option maxHeartbeats 16000000 in
theorem kze {f:Addr} {fd:FuncData} (F:Fun K "_law_mixed" "_law_mixed" sMix f fd) (T:Txt K mg) (GC:Fn P w K mg base "_law_closed" 1 ["many","pairs"] (kfg K)) (GD:Fn P w K mg base "_law_draw" 1 ["cell","k","bound"] kk6):FnOk P w K mg base CX0 2 f fd ["cell","most"] (kl7 K):=by
 refine F.ok kf6 (fun vs H Q E h=> ?_) (fun cdv A outer s H vs Q E hr h=> ?_)
 · obtain ⟨c,t,rfl,_⟩:=h;rfl
 · obtain ⟨c,t,rfl,ht1,ht2,k⟩:=h
   refine ⟨_,kaq (ka9 (i:=2) kf6.nd rfl (Or.inl rfl) (ka0 kd5 kar (ka0 kb7 (pv 0) (pv 1))))
    (kaq (ka9 (i:=3) kf6.nd rfl (Or.inl rfl) (kbq (kcw rfl) (by rfl) T.list ko0 (kab (kfm (by rfl) T.range (kab (pv 2) kai)) kai)))
    (kaq (ka9 (i:=4) kf6.nd rfl (Or.inl rfl) (ke0 kai))
    (kaq (kc5 PassesOwn.never rfl (ka4 (by rfl) T.range (kab (pv 2) kai)) (kbj (i:=5) kf6.nd rfl (Or.inl rfl))
      (kax (kdp (kh1 PySem.F.plainAttrs_list PySem.F.slot_list_append PySem.F.type_list_append kcl (pv 4)
        (kab (kh1 PySem.F.plainAttrs_list PySem.F.slot_list_pop PySem.F.type_list_pop kgv (pv 3)
          (kab (kgf GD hr (kab (ka0 kb1 (pv 0) kar) (kab (pv 5) (kab (kbf kcf (by rfl) T.len ko1 (kab (pv 3) kai)) kai)))) kai)) kai)))))
    (kaq (ka9 (i:=6) kf6.nd rfl (Or.inl rfl) (ka0 kd5 kar (kgf GD hr (kab (ka0 kb1 (pv 0) kar) (kab kar (kab kar kai))))))
    (kaq (ka9 (i:=7) kf6.nd rfl (Or.inl rfl) (ka0 kb1 (ka0 kc6 (pv 2) (kgf GD hr (kab (ka0 kb1 (pv 0) kar) (kab kar (kab kar kai))))) kar))
    (kaq (ka9 (i:=8) kf6.nd rfl (Or.inl rfl) (ke0 kai))
    (kaq (kc5 PassesOwn.never rfl (ka4 (by rfl) T.range (kab (pv 2) kai)) (kbj (i:=9) kf6.nd rfl (Or.inl rfl))
      (kax (kc5 PassesOwn.never rfl (ka4 (by rfl) T.range (kab (pv 9) kai)) (kbj (i:=10) kf6.nd rfl (Or.inl rfl))
        (kaq (ka9 (i:=11) kf6.nd rfl (Or.inl rfl) (kgf GD hr (kab (ka0 kb1 (pv 0) kar) (kab (ka0 kd5 (ka0 kd5 kar (ka0 kc6 kar (pv 9))) (pv 10))
          (kab (kdr kbw (ke0 (kab (pv 6) (kab kar kai))) (kbq khw (by rfl) T.int kti (kab (kek kt9 (pv 7) kar (kdm _)) kai)) (fun q_ q_=>rfl)) kai)))))
        (kax (klo (kxg (kju (kdq kmq (pv 7) kar (kdm _)) (kgu (kdq kmq (pv 11) kar (kdm _)))).pt
          (kso (kju (kjw kql kt8 (pv 10) (pv 7) (pv 9)) (kgu (kdq kt9 (pv 11) kar (kdm _)))).pt)).pt
          (kax (kdp (kh1 PySem.F.plainAttrs_list PySem.F.slot_list_append PySem.F.type_list_append kcl (pv 8)
            (kab (kez (kab (kdr kbw (pv 4) (pv 10) (fun q_ q_=>rfl)) (kab (kdr kbw (pv 4) (pv 9) (fun q_ q_=>rfl)) kai))) kai)))) kej))))))
    (kax (kca (kez (kab (pv 2) (kab (kgf GC hr (kab (pv 2) (kab (pv 8) kai))) kai)))))))))))),?_⟩
   try dsimp only [kmv]
   obtain ⟨m,em,hm1,hm2⟩:=kk9 c t ht1 ht2
   refine ⟨_,rfl,_,rfl,_,_,rfl,rfl,(by show (0:Int) < t;lia),_,_,rfl,rfl,?_⟩
   dsimp only
   rw [em]
   refine ⟨_,rfl,(m:Int),rfl,fun p hp=>⟨p,0,(m:Int),rfl,kad,⟨by lia,by lia,by lia,by lia⟩,kis (by lia),fun fr hfr=> ?_⟩⟩
   refine ⟨kis (by show 0≤100000;decide),fun od hod=> ?_⟩
   have efr:rangeV 0 ((m:Int) - 0).toNat=((List.range m).map fun (i:Nat)=>(i:Int)).map V.int:=by
    rw [Int.sub_zero,Int.toNat_natCast];exact kf4 m
   rw [efr] at hod
   dsimp only
   rw [efr]
   have s0:Same H (upd (upd (upd H p (.rng 0 m)) fr (.lst (((List.range m).map fun (i:Nat)=>(i:Int)).map V.int))) od (.lst [])):=((Same.new hp).trans (Same.new hfr)).trans (Same.new hod)
   have fr0:H fr=none:=(Same.new hp).free hfr
   have od0:H od=none:=((Same.new hp).trans (Same.new hfr)).free hod
   have nfo:fr≠od:=kaf (kad (H:=upd H p (.rng 0 m))) hod
   have t0:Two H (upd (upd (upd H p (.rng 0 m)) fr (.lst (((List.range m).map fun (i:Nat)=>(i:Int)).map V.int))) od (.lst [])) fr od m ((List.range m).map fun (i:Nat)=>(i:Int)) []:=
    ⟨s0,fr0,od0,nfo,by rw [kah nfo,kad],kad,fun x hx=>by
      obtain ⟨i,hi,rfl⟩:=List.mem_map.mp hx
      have:=List.mem_range.mp hi
      exact ⟨by lia,by lia⟩,(fun x hx=>nomatch hx),khl m⟩
   refine ⟨_,rfl,(m:Int),rfl,by lia,by lia,kbd (n:=m) (Kmx H c t m fr od)
    ⟨none,_,[],rfl,t0,by simp,rfl⟩ ?_ ?_⟩
   · rintro i σ H3 hi ⟨vk,fs,os,rfl,t3,l1,l2⟩
     refine ⟨_,rfl,.inl ⟨rfl,_,SqL.of t3.ho⟩,_,rfl,.inl ⟨rfl,_,SqL.of t3.hf⟩,_,rfl,_,_,rfl,rfl,⟨by decide,by decide⟩,_,rfl,_,rfl,fr,_,rfl,.inl (SqL.of t3.hf),_,_,_,rfl,(by show (0:Int) < (((fs.map V.int).length:Nat):Int);rw [List.length_map];lia),fun r a1 a2=> ?_⟩
     rw [List.length_map] at a2
     obtain ⟨kk,rfl⟩:=Int.eq_ofNat_of_zero_le a1
     have hkk:kk < fs.length:=by lia
     refine ⟨fr,_,(kk:Int),kk,.int fs[kk],rfl,rfl,t3.hf,by lia,by lia,by rw [List.length_map];exact PySem.seqIndex_of (by lia) (by lia),by simp [hkk],od,_,_,rfl,rfl,(by rw [kah t3.ne.symm];exact t3.ho),kv8 (by rw [List.length_map];lia),?_⟩
     exact ⟨_,_,_,rfl,Two.pop (H':=H) t3 hkk,by rw [List.length_eraseIdx_of_lt hkk];lia,by simp [l2]⟩
   rintro σ H3 ⟨vk,fs,os,rfl,t3,l1,l2⟩
   refine ⟨_,rfl,_,_,rfl,rfl,⟨by decide,by decide⟩,_,_,_,rfl,(by decide),fun r1 b1 b2=> ?_⟩
   refine ⟨_,_,rfl,rfl,?_⟩
   refine ⟨_,rfl,_,rfl,_,_,rfl,rfl,⟨by decide,by decide⟩,_,_,_,rfl,(by decide),fun r2 b3 b4=> ?_⟩
   refine ⟨_,_,rfl,rfl,.inl ⟨by lia,by lia⟩,_,_,rfl,rfl,⟨by decide,by decide⟩,?_⟩
   refine ⟨kis (by show 0≤100000;decide),fun pr hpr=> ?_⟩
   have pr0:H pr=none:=t3.same.free hpr
   have npo:od≠pr:=kaf t3.ho hpr
   refine ⟨_,rfl,(m:Int),rfl,by lia,by lia,kbd (n:=m) (Imx K H c t m fr od vk (2 + r1) ((m:Int) * r2 / 2) pr os)
    ⟨none,none,none,[],[],rfl,t3.same.trans (Same.new hpr),by rw [kah npo];exact t3.ho,kad,.nil,Nat.zero_le _,fun q hq=>nomatch hq⟩ ?_ ?_⟩
   · rintro i σ H4 hi ⟨vi,vj,vd,ps,ws,rfl,s4,o4,p4,r4,l4,u4⟩
     refine ⟨_,rfl,(i:Int),rfl,by lia,by lia,kbd (n:=i) (Jmx K H c t m fr od vk (2 + r1) ((m:Int) * r2 / 2) pr os i)
      ⟨vj,vd,ps,ws,rfl,s4,o4,p4,r4,l4,u4⟩ ?_ ?_⟩
     · rintro j σ H5' hj ⟨vj,vd,ps,ws,rfl,s5',o5',p5',r5',l5,u5⟩
       refine ⟨_,rfl,_,_,rfl,rfl,⟨by decide,by decide⟩,_,rfl,_,_,rfl,rfl,.inl ⟨by decide,by decide⟩,_,_,rfl,rfl,_,rfl,_,_,rfl,rfl,_,rfl,kis (by show 2≤100000;decide),fun q0 hq0=> ?_⟩
       have s5:Same H (upd H5' q0 (.lst [.int (2 + r1),.int 3])):=s5'.trans (Same.new hq0)
       have o5:(upd H5' q0 (.lst [.int (2 + r1),.int 3])) od=some (.lst (os.map V.int)):=Same.new hq0 _ _ o5'
       have p5:(upd H5' q0 (.lst [.int (2 + r1),.int 3])) pr=some (.lst ws):=Same.new hq0 _ _ p5'
       have r5:RpAll K (upd H5' q0 (.lst [.int (2 + r1),.int 3])) ws (ps.map pD):=RpAll.same (Same.new hq0) r5'
       generalize hH5:upd H5' q0 (.lst [.int (2 + r1),.int 3])=H5 at s5 o5 p5 r5 ⊢
       have hq1:H5 q0=some (.lst [.int (2 + r1),.int 3]):=by rw [← hH5];exact kad
       refine ⟨_,rfl,_,_,rfl,rfl,.inr ⟨_,rfl,?_⟩⟩
       obtain ⟨bd,hbd,hat⟩: ∃bd:Int,0 < bd∧atI [V.int (2 + r1),V.int 3] (if decide (0 < (m:Int) * r2 / 2)=true then 1 else 0)=some (.int bd):=by
        by_cases hh:0 < (m:Int) * r2 / 2
        · exact ⟨3,by decide,by rw [decide_eq_true hh];rfl⟩
        · exact ⟨2 + r1,by lia,by rw [decide_eq_false hh];rfl⟩
       refine ⟨q0,_,_,_,rfl,rfl,SqL.of hq1,hat,_,_,_,rfl,hbd,fun r d1 d2=> ?_⟩
       have hjo:j < os.length:=by lia
       have hio:i < os.length:=by lia
       have wl:ws.length=ps.length:=by rw [r5.len,List.length_map]
       have goA:Jmx K H c t m fr od vk (2 + r1) ((m:Int) * r2 / 2) pr os i (j + 1) [some (V.int c),some (.int t),some (.int m),some (.ref fr),some (.ref od),vk,some (.int (2 + r1)),some (.int ((m:Int) * r2 / 2)),some (.ref pr),some (.int i),some (.int j),some (.int r)] H5:=⟨_,_,ps,ws,rfl,s5,o5,p5,r5,by lia,u5⟩
       have goB: ∀(q:Addr),H5 q=none→kiz (.ref pr) [.ref q] (upd H5 q (.tup [.int os[j],.int os[i]])) (fun q_ H6=>Jmx K H c t m fr od vk (2 + r1) ((m:Int) * r2 / 2) pr os i (j + 1) [some (V.int c),some (.int t),some (.int m),some (.ref fr),some (.ref od),vk,some (.int (2 + r1)),some (.int ((m:Int) * r2 / 2)),some (.ref pr),some (.int i),some (.int j),some (.int r)] H6):=fun q hq=>by
        have p6:(upd H5 q (.tup [.int os[j],.int os[i]])) pr=some (.lst ws):=by rw [kah (kaf p5 hq)];exact p5
        refine ⟨pr,ws,_,rfl,rfl,p6,kv8 (by lia),_,_,ps++[(os[j],os[i])],_,rfl,(s5.trans (Same.new hq)).put pr0,by rw [kah npo,kah (kaf o5 hq)];exact o5,kad,?_,?_,?_⟩
        · rw [List.map_append]
          exact RpAll.append (RpAll.keep ((TK.new hq).trans (TK.lst p6)) r5 (kb0 ps)) (.one (kir (by rw [kah (kaf p5 hq).symm];exact kad)))
        · rw [List.length_append,List.length_singleton];lia
        · exact kg8 u5 hj hjo hio
       have goC: ∀D':Ends,D'.nx=Jmx K H c t m fr od vk (2 + r1) ((m:Int) * r2 / 2) pr os i (j + 1)→kxj (tBM K "list" kiz (khr 8) (kqn (tTup (kqn (tOp (kxx K) (khr 4) (khr 10)) (kqn (tOp (kxx K) (khr 4) (khr 9)) tNil))) tNil)) D' [some (V.int c),some (.int t),some (.int m),some (.ref fr),some (.ref od),vk,some (.int (2 + r1)),some (.int ((m:Int) * r2 / 2)),some (.ref pr),some (.int i),some (.int j),some (.int r)] H5:=fun D' hD=>by
        refine ⟨_,rfl,.inl ⟨rfl,_,SqL.of p5⟩,_,rfl,_,rfl,od,_,_,_,rfl,rfl,SqL.of o5,kbn (j:=j) (v:= .int os[j]) (by simp [hjo]),_,rfl,_,rfl,od,_,_,_,rfl,rfl,SqL.of o5,kbn (j:=i) (v:= .int os[i]) (by simp [hio]),kis (by show 2≤100000;decide),fun q hq=> ?_⟩
        rw [hD]
        exact goB q hq
       refine ⟨_,rfl,rfl,_,rfl,kdi (fun q_=>⟨_,rfl,rfl,_,rfl,kdi (fun q_=>goC _ rfl) (fun q_=> ?_)⟩) (fun q_=> ?_)⟩
       all_goals
        exact ⟨_,rfl,_,rfl,_,_,rfl,rfl,_,rfl,kdi (fun q_=>⟨_,rfl,_,_,rfl,rfl,_,rfl,kdi (fun q_=>⟨_,rfl,_,_,rfl,rfl,_,rfl,kdi (fun q_=>goC _ rfl) (fun q_=>goA)⟩) (fun q_=>goA)⟩) (fun q_=>⟨_,rfl,(goA)⟩)⟩
     · rintro σ H5 ⟨vj,vd,ps,ws,rfl,s5,o5,p5,r5,l5,u5⟩
       exact ⟨_,_,_,ps,ws,rfl,s5,o5,p5,r5,by lia,u5⟩
   rintro σ H4 ⟨vi,vj,vd,ps,ws,rfl,s4,o4,p4,r4,l4,u4⟩
   refine ⟨_,rfl,_,rfl,_,rfl,m,pr,ws,ps,rfl,by lia,p4,r4,fun v H5 s5 r5=>⟨kis (by show 2≤100000;decide),fun q hq=> ?_⟩⟩
   exact k _ _ m (clo m ps) ((s4.trans s5).trans (Same.new hq)) hm1 hm2 (ktg (List.nodup_append.mp t3.nd).2.1 u4) (.tup kad (.cons (.int _) (.one (Rp.same (Same.new hq) r5))))
theorem ko4:FnScope ["script","at","most","cell"] ["script","at","most"] (kag kox):=⟨rfl,rfl,rfl,by decide +kernel,rfl,by decide +kernel,by decide +kernel⟩
theorem kr7 {f:Addr} {fd:FuncData} (F:Fun K "_law_space" "_law_space" kox f fd) (GR:Fn P w K mg base "_law_raw" 1 ["script","k"] (kk5 K)) (GS:Fn P w K mg base "_law_stir" 1 ["cell"] kk4)
 (GB:Fn P w K mg base "_law_by_digits" 2 ["cell","most"] (kl7 K)) (GM:Fn P w K mg base "_law_mixed" 2 ["cell","most"] (kl7 K)):FnOk P w K mg base CX0 3 f fd ["script","at","most"] (kjj K):=by
 refine F.ok ko4 (fun vs H Q E h=> ?_) (fun cdv A outer s H vs Q E hr h=> ?_)
 · obtain ⟨a,ns,k,t,rfl,_⟩:=h;rfl
 · obtain ⟨a,ns,j,t,rfl,hS,ht1,ht2,k⟩:=h
   have hr1:=hr.mono (show 1≤2 by decide)
   refine ⟨_,kaq (ka9 (i:=3) ko4.nd rfl (Or.inl rfl) (kgf GR hr1 (kab (pv 0) (kab (pv 1) kai))))
    (kaq (klo (kdq kmq (ka0 kb7 (pv 3) kar) kar (kdm _)) (kax (kca (kgf GB hr (kab (ka0 kb1 (pv 3) kar) (kab (pv 2) kai))))) kej)
    (kax (kca (kgf GM hr (kab (kgf GS hr1 (kab (pv 3) kai)) (kab (pv 2) kai)))))),?_⟩
   try dsimp only [kmv]
   refine ⟨_,rfl,_,rfl,a,ns,j,rfl,hS,fun r H1 s1=> ?_⟩
   refine ⟨_,rfl,_,_,rfl,rfl,(by show (0:Int) < 2;decide),rfl,_,rfl,?_⟩
   refine kdi (fun q_=> ?_) (fun q_=> ?_)
   · exact ⟨_,rfl,_,_,rfl,rfl,⟨by decide,by decide⟩,_,rfl,_,t,rfl,ht1,ht2,fun v H' m ts s2=>k v H' m ts (s1.trans s2)⟩
   · exact ⟨_,rfl,_,rfl,fun r2 H2 s2=>⟨_,rfl,_,t,rfl,ht1,ht2,fun v H' m ts s3=>k v H' m ts ((s1.trans s2).trans s3)⟩⟩
end
noncomputable def kjk:Sp:=fun vs H Q q_=>∃n x:Int,vs=[.int n,.int x]∧∀b:Bool,(b=true↔0≤x∧x < n)→Q (.bl b) H
noncomputable def gt (xs:List Int) (i:Int):Int:=xs.getD i.toNat 0
section
variable {P:Program} {w:World} {K:PySem.W.Frag} {mg:Str→Option Value} {base:Heap}
theorem kwg:FnScope ["many","number"] ["many","number"] (kag kou):=⟨rfl,rfl,rfl,by decide +kernel,rfl,by decide +kernel,by decide +kernel⟩
theorem kr8 {f:Addr} {fd:FuncData} (F:Fun K "is_point" "is_point" kou f fd):FnOk P w K mg base CX0 1 f fd ["many","number"] kjk:=by
 refine F.ok kwg (fun vs H Q E h=> ?_) (fun cdv A outer s H vs Q E hr h=> ?_)
 · obtain ⟨n,x,rfl,_⟩:=h;rfl
 · obtain ⟨n,x,rfl,k⟩:=h
   refine ⟨_,kax (kca (kqm kt8 kql kar (pv 1) (pv 0))),?_⟩
   refine ⟨_,rfl,_,_,rfl,rfl,_,rfl,?_⟩
   refine kdi (fun e=> ?_) (fun e=> ?_)
   · refine ⟨_,rfl,_,_,rfl,rfl,k _ ⟨fun h=>⟨of_decide_eq_true e,of_decide_eq_true h⟩,fun h=>decide_eq_true h.2⟩⟩
   · exact k _ ⟨fun h=>absurd h Bool.false_ne_true,fun h=>absurd (decide_eq_true h.1) e⟩
end
section
variable {P:Program} {w:World} {K:PySem.W.Frag} {mg:Str→Option Value} {base:Heap}
theorem kzf:FnScope ["space","a","b"] ["space","a","b"] (kag kv5):=⟨rfl,rfl,rfl,by decide +kernel,rfl,by decide +kernel,by decide +kernel⟩
theorem kwh {f:Addr} {fd:FuncData} (F:Fun K "same_or_under" "same_or_under" kv5 f fd):FnOk P w K mg base CX0 1 f fd ["space","a","b"] (kwb K):=by
 refine F.ok kzf (fun vs H Q E h=> ?_) (fun cdv A outer s H vs Q E hr h=> ?_)
 · obtain ⟨v,n,ps,a,b,rfl,_⟩:=h;rfl
 · obtain ⟨v,n,ps,a,b,rfl,hv,k⟩:=h
   obtain ⟨sa,ta,ys,rfl,h1,h2,h3⟩:=koz hv
   refine ⟨_,kax (kca (pe_or (kek kmq (pv 1) (pv 2) (kdm _)) (kmj (kek (km4 K (ka2 hr (by decide))) (kez (kab (pv 1) (kab (pv 2) kai))) (kdr kst (pv 0) kar (fun q_ q_=>rfl)) rfl)))),?_⟩
   refine ⟨_,rfl,_,rfl,rfl,_,rfl,?_⟩
   refine kdi (fun e=>k true H (Same.refl H) ⟨fun q_=> .inl (by simpa using e),fun q_=>rfl⟩) (fun e=> ?_)
   have ne:a≠b:=by simpa using e
   refine ⟨_,rfl,_,rfl,kis (by show 2≤100000;decide),fun p hp=> ?_⟩
   have tk:TK H (upd H p (.tup [.int a,.int b])):=TK.new hp
   refine ⟨_,rfl,sa,_,1,_,rfl,rfl,SqT.of (tk.tup _ _ h1),kbn (j:=1) rfl,ta,ys,ps.map pD,pD (a,b),rfl,.inr (SqT.of (tk.tup _ _ h2)),RpAll.keep tk h3 (kb0 ps),kir kad,kcp ps,rfl,Nat.le_trans (khk (a,b)) (by decide),?_⟩
   rw [kiq]
   exact k _ _ (Same.new hp) ⟨fun e=> .inr (of_decide_eq_true e),fun h=>decide_eq_true (h.resolve_left ne)⟩
end
noncomputable def ko5 (xs:List Int):PyData:= .tuple (xs.map PyData.int)
theorem ko6 {K:PySem.W.Frag} {H:Hp} {v:V} {ns:List Int} (h:Rp K H v (ke7 ns)): ∃a,v= .ref a∧SqL K H a (ns.map V.int):=by
 generalize e:ke7 ns=d at h
 cases h with
 | @scr a ms h1=>
   have e:ns=ms:=by
    have e:ns.map (fun n=>(PyData.int n,PyData.none))=ms.map fun n=>(PyData.int n,PyData.none):=by
     unfold ke7 at e;exact PyData.dict.inj e
    have:=congrArg (List.map fun p:PyData×PyData=>match p.1 with | .int i=>i | _=>0) e
    rw [List.map_map,List.map_map] at this
    simpa [Function.comp_def] using this
   subst e
   exact ⟨a,rfl,h1⟩
 | any=>
   have e:ns.map (fun n=>(PyData.int n,PyData.none))=[(.bool true,.none)]:=PyData.dict.inj e
   have:=kj2 ns
   rw [e] at this
   cases this
 | xc _=>
   have e:ns.map (fun n=>(PyData.int n,PyData.none))=[(.bool false,.int _)]:=PyData.dict.inj e
   have:=kgw ns
   rw [e] at this
   cases this
 | _=>cases e
noncomputable def kwi (ds:List PyData) (RS:Dt→Prop):Prop:=∃c:Int,ds=[.int c]∧∀r:Int,RS (.d (.int r))
noncomputable def kwj (ds:List PyData) (RS:Dt→Prop):Prop:=∃(ns:List Int) (k:Nat),ds=[ke7 ns,.int (k:Int)]∧∀r:Int,RS (.d (.int r))
noncomputable def ko7 (ds:List PyData) (RS:Dt→Prop):Prop:=∃i:Int,ds=[.int i]∧RS (.d (.bool true))
noncomputable def kwk (ds:List PyData) (RS:Dt→Prop):Prop:=∃c k b:Int,ds=[.int c,.int k,.int b]∧0 < b∧∀r:Int,0≤r→r < b→RS (.d (.int r))
noncomputable def kjl (ps:List (Int×Int)) (a b:Int):Bool:= @decide (kr1 ps a b) (Classical.propDecidable _)
theorem kb9 {ps:List (Int×Int)} {a b:Int}:kjl ps a b=true↔kr1 ps a b:= @decide_eq_true_iff _ (Classical.propDecidable _)
noncomputable def Pleq (ds:List PyData) (RS:Dt→Prop):Prop:=∃(n:Int) (ps:List (Int×Int)) (a b:Int),ds=[spD n ps,.int a,.int b]∧RS (.d (.bool (kjl ps a b)))
noncomputable def ko8 (ds:List PyData) (RS:Dt→Prop):Prop:=∃(ns:List Int) (k:Nat) (t:Int),ds=[ke7 ns,.int (k:Int),.int t]∧1≤t∧t≤16∧∀(m:Nat) (ts:List (Int×Int)),1≤m→(m:Int)≤t→IsSp m ts→RS (.d (spD m ts))
section
variable {K:PySem.W.Frag} {vs:List V} {H:Hp} {Q:VK} {E:XK}
theorem kwl (h:spG K kwi vs H Q E):kk4 vs H Q E:=by
 obtain ⟨ds,RS,r,⟨c,rfl,hR⟩,k⟩:=h
 cases r with
 | cons r1 r2=>
   cases r2
   exact ⟨c,by rw [r1.int_inv],fun i H' s=>k _ _ H' H' (hR i) (.of_same s) (Rp.int i)⟩
theorem kwm (h:spG K kwj vs H Q E):kk5 K vs H Q E:=by
 obtain ⟨ds,RS,r,⟨ns,j,rfl,hR⟩,k⟩:=h
 cases r with
 | cons r1 r2=>
   cases r2 with
   | cons r2 r3=>
     cases r3
     obtain ⟨a,rfl,hs⟩:=ko6 r1
     exact ⟨a,ns,j,by rw [r2.int_inv],hs,fun i H' s=>k _ _ H' H' (hR i) (.of_same s) (Rp.int i)⟩
theorem kr9 (h:spG K ko7 vs H Q E):kji vs H Q E:=by
 obtain ⟨ds,RS,r,⟨c,rfl,hR⟩,k⟩:=h
 cases r with
 | cons r1 r2=>
   cases r2
   exact ⟨c,by rw [r1.int_inv],k _ _ H H hR (.of_same (Same.refl H)) (Rp.bl true)⟩
theorem kwn (h:spG K kwk vs H Q E):kk6 vs H Q E:=by
 obtain ⟨ds,RS,r,⟨c,j,b,rfl,hb,hR⟩,k⟩:=h
 cases r with
 | cons r1 r2=>
   cases r2 with
   | cons r2 r3=>
     cases r3 with
     | cons r3 r4=>
       cases r4
       exact ⟨c,j,b,by rw [r1.int_inv,r2.int_inv,r3.int_inv],hb,fun i h1 h2=>k _ _ H H (hR i h1 h2) (.of_same (Same.refl H)) (Rp.int i)⟩
theorem kzg (h:spG K Pleq vs H Q E):kwb K vs H Q E:=by
 obtain ⟨ds,RS,r,⟨n,ps,a,b,rfl,hR⟩,k⟩:=h
 cases r with
 | cons r1 r2=>
   cases r2 with
   | cons r2 r3=>
     cases r3 with
     | cons r3 r4=>
       cases r4
       refine ⟨_,n,ps,a,b,by rw [r2.int_inv,r3.int_inv],r1,fun r H' s hr=> ?_⟩
       have:r=kjl ps a b:=by rw [Bool.eq_iff_iff,hr,kb9]
       subst this
       exact k _ _ H' H' hR (.of_same s) (Rp.bl _)
theorem ksa (h:spG K ko8 vs H Q E):kjj K vs H Q E:=by
 obtain ⟨ds,RS,r,⟨ns,j,t,rfl,h1,h2,hR⟩,k⟩:=h
 cases r with
 | cons r1 r2=>
   cases r2 with
   | cons r2 r3=>
     cases r3 with
     | cons r3 r4=>
       cases r4
       obtain ⟨a,rfl,hs⟩:=ko6 r1
       exact ⟨a,ns,j,t,by rw [r2.int_inv,r3.int_inv],hs,h1,h2,fun v H' m ts s b1 b2 b3 rv=>k _ _ H' H' (hR m ts b1 b2 b3) (.of_same s) rv⟩
end
theorem kjm {P:Program} {w:World} {K:PySem.W.Frag} {mg:Str→Option Value} {base:Heap} {x:Str} {lvl:Nat} {ps:List Str} {sp sp':Sp} (G:Fn P w K mg base x lvl ps sp) (h: ∀vs H Q E,sp' vs H Q E→sp vs H Q E):Fn P w K mg base x lvl ps sp':=by
 obtain ⟨f,fd,F,a⟩:=G
 exact ⟨f,fd,F.imp h,a⟩
theorem okI (i:Int):okD (.int i):=rfl
theorem shI (i:Int):ki1 (.int i):=by unfold ki1;simp [PyData.depth]
theorem okP (p:Int×Int):okD (pD p):=rfl
theorem shP (p:Int×Int):ki1 (pD p):=Nat.le_trans (khk p) (by decide)
theorem ka8 (i j:Int):PyData.eqv (.int i) (.int j)=decide (i=j):=by
 show (i == j)=_
 by_cases h:i=j <;> simp [h]
theorem at0 {α:Type} (a:α) (l:List α):atI (a::l) 0=some a:=kbn (j:=0) rfl
theorem at1 {α:Type} (a b:α) (l:List α):atI (a::b::l) 1=some b:=kbn (j:=1) rfl
theorem kwo {xs:List Int} {i:Int} (h0:0≤i) (h1:i < xs.length):atI (xs.map PyData.int) i=some (.int (xs.getD i.toNat 0)):=by
 obtain ⟨j,rfl⟩:=Int.eq_ofNat_of_zero_le h0
 have hj:j < xs.length:=by lia
 refine kbn (j:=j) ?_
 simp [hj]
noncomputable def ko9 (ds:List PyData) (RS:Dt→Prop):Prop:=∃n x:Int,ds=[.int n,.int x]∧RS (.d (.bool (decide (0≤x∧x < n))))
theorem ksb {K:PySem.W.Frag} {vs:List V} {H:Hp} {Q:VK} {E:XK} (h:spG K ko9 vs H Q E):kjk vs H Q E:=by
 obtain ⟨ds,RS,r,⟨n,x,rfl,hR⟩,k⟩:=h
 cases r with
 | cons r1 r2=>
   cases r2 with
   | cons r2 r3=>
     cases r3
     refine ⟨n,x,by rw [r1.int_inv,r2.int_inv],fun b hb=> ?_⟩
     have:b=decide (0≤x∧x < n):=by rw [Bool.eq_iff_iff,hb,decide_eq_true_iff]
     subst this
     exact k _ _ H H hR (.of_same (Same.refl H)) (Rp.bl _)
theorem kbu (n:Int) (ps:List (Int×Int)):kp8 (spD n ps)=some [.int n,.tuple (ps.map pD)]:=rfl
theorem kf7: ∀a b:Int×Int,pD a=pD b→a=b:=kq0
noncomputable def pu (ps:List (Int×Int)) (p:Int):List Int:=(ps.filter fun q=>decide (q.2=p)).map (·.1)
noncomputable def po (ps:List (Int×Int)) (p:Int):List Int:=(ps.filter fun q=>decide (q.1=p)).map (·.2)
noncomputable def kmf (ps:List (Int×Int)) (pts:List Int):Option Int:=pts.find? fun p=>pts.all fun a=>kjl ps p a
noncomputable def kf8 (ps:List (Int×Int)) (pts:List Int):Option Int:=pts.find? fun p=>pts.all fun a=>kjl ps a p
noncomputable def kbh (ps:List (Int×Int)) (p:Int):Option Int:=(kmf ps (po ps p)).or (kf8 ps (pu ps p))
noncomputable def kzh:Option Int→PyData
 | none=> .none
 | some x=> .int x
noncomputable def kbe (n:Nat) (ps:List (Int×Int)):List Int:=((List.range n).map fun (i:Nat)=>(i:Int)).filter fun p=>(kbh ps p).isSome
noncomputable def cu (p x:Int):Int:=if x > p then x - 1 else x
noncomputable def cu2 (p:Int) (q:Int×Int):Int×Int:=(cu p q.1,cu p q.2)
noncomputable def woF (ps:List (Int×Int)) (p:Int):List (Int×Int):=(ps.filter fun q=>decide (p≠q.1) && decide (p≠q.2)).map (cu2 p)
noncomputable def Ppu (ds:List PyData) (RS:Dt→Prop):Prop:=∃(n:Int) (ps:List (Int×Int)) (p:Int),ds=[spD n ps,.int p]∧RS (.o ((pu ps p).map PyData.int))
noncomputable def Ppo (ds:List PyData) (RS:Dt→Prop):Prop:=∃(n:Int) (ps:List (Int×Int)) (p:Int),ds=[spD n ps,.int p]∧RS (.o ((po ps p).map PyData.int))
noncomputable def Plow (ds:List PyData) (RS:Dt→Prop):Prop:=∃(n:Int) (ps:List (Int×Int)) (pts:List Int),ds=[spD n ps,.list (pts.map PyData.int)]∧RS (.d (kzh (kmf ps pts)))
noncomputable def kwp (ds:List PyData) (RS:Dt→Prop):Prop:=∃(n:Int) (ps:List (Int×Int)) (pts:List Int),ds=[spD n ps,.list (pts.map PyData.int)]∧RS (.d (kzh (kf8 ps pts)))
noncomputable def ksc (ds:List PyData) (RS:Dt→Prop):Prop:=∃(n:Int) (ps:List (Int×Int)) (p:Int),ds=[spD n ps,.int p]∧0≤p∧p < n∧RS (.d (kzh (kbh ps p)))
noncomputable def kla (ds:List PyData) (RS:Dt→Prop):Prop:=∃(n:Int) (ps:List (Int×Int)) (p:Int),ds=[spD n ps,.int p]∧RS (.d (kzh (kbh ps p)))
noncomputable def kcq (ds:List PyData) (RS:Dt→Prop):Prop:=∃(n:Nat) (ps:List (Int×Int)),ds=[spD n ps]∧n≤100∧RS (.o ((kbe n ps).map PyData.int))
noncomputable def Pcu (ds:List PyData) (RS:Dt→Prop):Prop:=∃x p:Int,ds=[.int x,.int p]∧RS (.d (.int (cu p x)))
noncomputable def Pwo (ds:List PyData) (RS:Dt→Prop):Prop:=∃(n:Int) (ps:List (Int×Int)) (p:Int),ds=[spD n ps,.int p]∧RS (.d (spD (n - 1) (woF ps p)))
noncomputable def kjn (ds:List PyData) (RS:Dt→Prop):Prop:=∃(n:Int) (ps:List (Int×Int)) (p:Int),ds=[spD n ps,.int p]∧0≤p∧p < n∧(kbh ps p).isSome=true∧RS (.d (spD (n - 1) (woF ps p)))
theorem kcr (o:Option Int):isNone (kzh o)=o.isNone:=by cases o <;> rfl
theorem ked {α:Type} {p:α→Bool} {l:List α} {k:Nat} {x:α} (hx:l[k]?=some x) (h:p x=true) (hn: ∀(j:Nat) (y:α),j < k→l[j]?=some y→p y=false):l.find? p=some x:=by
 rw [List.find?_eq_some_iff_getElem]
 obtain ⟨hk,e⟩:=List.getElem?_eq_some_iff.mp hx
 refine ⟨h,k,hk,e,fun j hj=> ?_⟩
 have:=hn j l[j] hj (List.getElem?_eq_getElem (by lia))
 simp [this]
theorem kee {α:Type} {p:α→Bool} {l:List α} (hn: ∀(j:Nat) (y:α),j < l.length→l[j]?=some y→p y=false):l.find? p=none:=by
 rw [List.find?_eq_none]
 intro x hx
 obtain ⟨j,hj,e⟩:=List.getElem_of_mem hx
 rw [hn j x hj (by rw [← e];exact List.getElem?_eq_getElem hj)]
 exact Bool.false_ne_true
theorem atc0 {α:Type} (a:α) (l:List α):atI (a::l) ((0:Nat):Int)=some a:=kbn (j:=0) rfl
theorem atc1 {α:Type} (a b:α) (l:List α):atI (a::b::l) ((1:Nat):Int)=some b:=kbn (j:=1) rfl
theorem atd1 {α:Type} (a b:α) (l:List α):atI (a::b::l) (1 - ((0:Nat):Int))=some b:=kbn (j:=1) rfl
theorem atd0 {α:Type} (a:α) (l:List α):atI (a::l) (1 - ((1:Nat):Int))=some a:=kbn (j:=0) rfl
theorem kma (ps:List (Int×Int)) (near:List Int) (x:Int):((near.filter fun o=> !decide (o=x)).all fun o=>decide ((x,o)∈ps))=near.all fun a=>kjl ps x a:=by
 rw [Bool.eq_iff_iff,List.all_eq_true,List.all_eq_true]
 constructor
 · intro h a ha
   rw [kb9]
   by_cases e:a=x
   · exact .inl e.symm
   · exact .inr (of_decide_eq_true (h a (List.mem_filter.mpr ⟨ha,by simp [e]⟩)))
 · intro h o ho
   obtain ⟨h1,h2⟩:=List.mem_filter.mp ho
   have h2: ¬o=x:=by simpa using h2
   rcases kb9.mp (h o h1) with z | z
   · exact absurd z.symm h2
   · exact decide_eq_true z
theorem kjo (ps:List (Int×Int)) (near:List Int) (x:Int):((near.filter fun o=> !decide (o=x)).all fun o=>decide ((o,x)∈ps))=near.all fun a=>kjl ps a x:=by
 rw [Bool.eq_iff_iff,List.all_eq_true,List.all_eq_true]
 constructor
 · intro h a ha
   rw [kb9]
   by_cases e:a=x
   · exact .inl e
   · exact .inr (of_decide_eq_true (h a (List.mem_filter.mpr ⟨ha,by simp [e]⟩)))
 · intro h o ho
   obtain ⟨h1,h2⟩:=List.mem_filter.mp ho
   have h2: ¬o=x:=by simpa using h2
   rcases kb9.mp (h o h1) with z | z
   · exact absurd z h2
   · exact decide_eq_true z
noncomputable abbrev Elg (n:Int) (ps:List (Int×Int)) (p:Int) (k:Nat) (v3 v4 v5:Dt):List Dt:=[.d (spD n ps),.d (.int p),.d (.int ((k:Nat):Int)),v3,v4,v5]
section
variable {P:Program} {w:World} {K:PySem.W.Frag} {mg:Str→Option Value} {base:Heap}
theorem scPu:FnScope ["space","point"] ["space","point"] (kag kcj):=⟨rfl,rfl,rfl,by decide +kernel,rfl,by decide +kernel,by decide +kernel⟩
theorem ok_Pu {f:Addr} {fd:FuncData} (F:Fun K "points_under" "points_under" kcj f fd) (T:Txt K mg):
 FnOk P w K mg base CX0 1 f fd ["space","point"] (spG K Ppu):=by
 refine F.okG scPu (fun ds RS h=> ?_) (fun cdv A outer s H E hr=>(kaj (kdy (kdj (N':=["a","b","point"]) (fun q_=>(.own (.own (.cap 1 rfl rfl rfl .nil)))) (kbo (kaw (kan 0) (kao).bw)) (kci 0 1 (fun q_=>(by decide +kernel:(["a","b","point"]:List Str).Nodup))) (kcx (ka3 (kgx (fun q_=>ka2 hr (by decide))) (kap 1) (kap 2))) (kac 0))))) (fun ds RS h=> ?_)
 · obtain ⟨n,ps,p,rfl,_⟩:=h;rfl
 · obtain ⟨n,ps,p,rfl,hR⟩:=h
   simp only [rD,xLC,kbu,at1]
   refine ⟨Gf ps pD (fun q=>decide (q.2=p)) (fun q=> .int q.1),fun y hy=> ?_,fun o ho=> ?_⟩
   · obtain ⟨q,hq,rfl⟩:=List.mem_map.mp hy
     refine ⟨_,_,rfl,okI _,okI _,.inl (shI _),?_⟩
     rw [ka8]
     exact kdi (fun e=>Gf.keep hq e rfl) (fun e=>Gf.skip hq (by simpa using e))
   · rw [Gf.out kf7 ho]
     unfold pu at hR
     rw [List.map_map] at hR
     exact hR
end
section
variable {P:Program} {w:World} {K:PySem.W.Frag} {mg:Str→Option Value} {base:Heap}
theorem scPo:FnScope ["space","point"] ["space","point"] (kag kcz):=⟨rfl,rfl,rfl,by decide +kernel,rfl,by decide +kernel,by decide +kernel⟩
theorem ok_Po {f:Addr} {fd:FuncData} (F:Fun K "points_over" "points_over" kcz f fd) (T:Txt K mg):
 FnOk P w K mg base CX0 1 f fd ["space","point"] (spG K Ppo):=by
 refine F.okG scPo (fun ds RS h=> ?_) (fun cdv A outer s H E hr=>(kaj (kdy (kdj (N':=["a","b","point"]) (fun q_=>(.own (.own (.cap 1 rfl rfl rfl .nil)))) (kbo (kaw (kan 0) (kao).bw)) (kci 0 1 (fun q_=>(by decide +kernel:(["a","b","point"]:List Str).Nodup))) (kcx (ka3 (kgx (fun q_=>ka2 hr (by decide))) (kap 0) (kap 2))) (kac 1))))) (fun ds RS h=> ?_)
 · obtain ⟨n,ps,p,rfl,_⟩:=h;rfl
 · obtain ⟨n,ps,p,rfl,hR⟩:=h
   simp only [rD,xLC,kbu,at1]
   refine ⟨Gf ps pD (fun q=>decide (q.1=p)) (fun q=> .int q.2),fun y hy=> ?_,fun o ho=> ?_⟩
   · obtain ⟨q,hq,rfl⟩:=List.mem_map.mp hy
     refine ⟨_,_,rfl,okI _,okI _,.inl (shI _),?_⟩
     rw [ka8]
     exact kdi (fun e=>Gf.keep hq e rfl) (fun e=>Gf.skip hq (by simpa using e))
   · rw [Gf.out kf7 ho]
     unfold po at hR
     rw [List.map_map] at hR
     exact hR
end
section
variable {P:Program} {w:World} {K:PySem.W.Frag} {mg:Str→Option Value} {base:Heap}
theorem scLw:FnScope ["space","points","point"] ["space","points"] (kag khg):=⟨rfl,rfl,rfl,by decide +kernel,rfl,by decide +kernel,by decide +kernel⟩
theorem ok_Lw {f:Addr} {fd:FuncData} (F:Fun K "lowest" "lowest" khg f fd) (T:Txt K mg) (GDSm:Fn P w K mg base "same_or_under" 1 ["space","a","b"] (spG K Pleq)):
 FnOk P w K mg base CX0 2 f fd ["space","points"] (spG K Plow):=by
 refine F.okG scLw (fun ds RS h=> ?_) (fun cdv A outer s H E hr=>(kae (kea (fun q_=>PassesOwn.never) (kbo (kac 1)) (ka6 2 (fun q_=>scLw.nd)) (kaj (kcn (ke3 (kkb (kdj (N':=["another","space","point"]) (fun q_=>(.own (.cap 0 rfl rfl rfl (.cap 2 rfl rfl rfl .nil)))) (kbo (kac 1)) (ka6 0 (fun q_=>(by decide +kernel:(["another","space","point"]:List Str).Nodup))) kby (kau GDSm (fun q_=>hr.mono (by decide)) (kaa (kac 1) (kaa (kac 2) (kaa (kac 0) kak))))).l (fun q_=>T.all)).bw) (kaj (kcy 2)) ka7)))
  (kaj (kbg (kbv))))) (fun ds RS h=> ?_)
 · obtain ⟨n,ps,pts,rfl,_⟩:=h;rfl
 · obtain ⟨n,ps,pts,rfl,hR⟩:=h
   refine ⟨_,rfl,_,rfl,fun k env=>∃v,env=[.d (spD n ps),.d (.list (pts.map PyData.int)),v]∧∀(j:Nat) (y:Int),j < k→pts[j]?=some y→(pts.all fun a=>kjl ps y a)=false,⟨_,rfl,fun j y h=>absurd h (Nat.not_lt_zero _)⟩,?_,?_⟩
   · rintro k y env hy ⟨v,rfl,no⟩
     rw [List.getElem?_map] at hy
     obtain ⟨x,hx,rfl⟩:=Option.map_eq_some_iff.mp hy
     simp only [rD,xLC]
     refine ⟨Gf pts PyData.int (fun q_=>true) (fun a=> .bool (kjl ps x a)),fun y hy=> ?_,fun o ho=> ?_⟩
     · obtain ⟨y,hy2,rfl⟩:=List.mem_map.mp hy
       exact ⟨n,ps,x,y,rfl,_,rfl,Gf.keep hy2 rfl rfl⟩
     · rw [Gf.all kb4 ho]
       refine ⟨pts.map fun a=>kjl ps x a,by rw [List.map_map];rfl,?_⟩
       rw [all_map]
       refine kdi (fun e=> ?_) (fun e=>⟨_,rfl,fun j z hj hz=> ?_⟩)
       · have:kmf ps pts=some x:=ked hx e no
         rw [this] at hR
         exact hR
       · rcases Nat.lt_succ_iff_lt_or_eq.mp hj with q | q
         · exact no j z q hz
         · subst q
           rw [hx] at hz
           cases hz
           simpa using e
   · rintro env ⟨v,rfl,no⟩
     have:kmf ps pts=none:=kee fun j y hj hy=>no j y (by rw [List.length_map];exact hj) hy
     rw [this] at hR
     exact hR
end
section
variable {P:Program} {w:World} {K:PySem.W.Frag} {mg:Str→Option Value} {base:Heap}
theorem scHg:FnScope ["space","points","point"] ["space","points"] (kag kfz):=⟨rfl,rfl,rfl,by decide +kernel,rfl,by decide +kernel,by decide +kernel⟩
theorem ok_Hg {f:Addr} {fd:FuncData} (F:Fun K "highest" "highest" kfz f fd) (T:Txt K mg) (GDSm:Fn P w K mg base "same_or_under" 1 ["space","a","b"] (spG K Pleq)):
 FnOk P w K mg base CX0 2 f fd ["space","points"] (spG K kwp):=by
 refine F.okG scHg (fun ds RS h=> ?_) (fun cdv A outer s H E hr=>(kae (kea (fun q_=>PassesOwn.never) (kbo (kac 1)) (ka6 2 (fun q_=>scHg.nd)) (kaj (kcn (ke3 (kkb (kdj (N':=["another","space","point"]) (fun q_=>(.own (.cap 0 rfl rfl rfl (.cap 2 rfl rfl rfl .nil)))) (kbo (kac 1)) (ka6 0 (fun q_=>(by decide +kernel:(["another","space","point"]:List Str).Nodup))) kby (kau GDSm (fun q_=>hr.mono (by decide)) (kaa (kac 1) (kaa (kac 0) (kaa (kac 2) kak))))).l (fun q_=>T.all)).bw) (kaj (kcy 2)) ka7)))
  (kaj (kbg (kbv))))) (fun ds RS h=> ?_)
 · obtain ⟨n,ps,pts,rfl,_⟩:=h;rfl
 · obtain ⟨n,ps,pts,rfl,hR⟩:=h
   refine ⟨_,rfl,_,rfl,fun k env=>∃v,env=[.d (spD n ps),.d (.list (pts.map PyData.int)),v]∧∀(j:Nat) (y:Int),j < k→pts[j]?=some y→(pts.all fun a=>kjl ps a y)=false,⟨_,rfl,fun j y h=>absurd h (Nat.not_lt_zero _)⟩,?_,?_⟩
   · rintro k y env hy ⟨v,rfl,no⟩
     rw [List.getElem?_map] at hy
     obtain ⟨x,hx,rfl⟩:=Option.map_eq_some_iff.mp hy
     simp only [rD,xLC]
     refine ⟨Gf pts PyData.int (fun q_=>true) (fun a=> .bool (kjl ps a x)),fun y hy=> ?_,fun o ho=> ?_⟩
     · obtain ⟨y,hy2,rfl⟩:=List.mem_map.mp hy
       exact ⟨n,ps,y,x,rfl,_,rfl,Gf.keep hy2 rfl rfl⟩
     · rw [Gf.all kb4 ho]
       refine ⟨pts.map fun a=>kjl ps a x,by rw [List.map_map];rfl,?_⟩
       rw [all_map]
       refine kdi (fun e=> ?_) (fun e=>⟨_,rfl,fun j z hj hz=> ?_⟩)
       · have:kf8 ps pts=some x:=ked hx e no
         rw [this] at hR
         exact hR
       · rcases Nat.lt_succ_iff_lt_or_eq.mp hj with q | q
         · exact no j z q hz
         · subst q
           rw [hx] at hz
           cases hz
           simpa using e
   · rintro env ⟨v,rfl,no⟩
     have:kf8 ps pts=none:=kee fun j y hj hy=>no j y (by rw [List.length_map];exact hj) hy
     rw [this] at hR
     exact hR
end
section
variable {P:Program} {w:World} {K:PySem.W.Frag} {mg:Str→Option Value} {base:Heap}
theorem scGo:FnScope ["space","point","onto"] ["space","point"] (kag kov):=⟨rfl,rfl,rfl,by decide +kernel,rfl,by decide +kernel,by decide +kernel⟩
theorem ok_Go {f:Addr} {fd:FuncData} (F:Fun K "goal" "goal" kov f fd) (T:Txt K mg) (GDPt:Fn P w K mg base "is_point" 1 ["many","number"] (spG K ko9)) (GPu:Fn P w K mg base "points_under" 1 ["space","point"] (spG K Ppu)) (GPo:Fn P w K mg base "points_over" 1 ["space","point"] (spG K Ppo)) (GLw:Fn P w K mg base "lowest" 2 ["space","points"] (spG K Plow)) (GHg:Fn P w K mg base "highest" 2 ["space","points"] (spG K kwp)):
 FnOk P w K mg base CX0 3 f fd ["space","point"] (spG K ksc):=by
 refine F.okG scGo (fun ds RS h=> ?_) (fun cdv A outer s H E hr=>(kae (kcn (kh8 (ke3 (kau GDPt (fun q_=>hr.mono (by decide)) (kaa (kaw (kan 0) (kao).bw) (kaa (kac 1) kak))).bw)) (kaj (kj8)) ka7)
  (kae (ka5 2 (fun q_=>scGo.nd) (kau GLw (fun q_=>hr.mono (by decide)) (kaa (kac 0) (kaa ((kbk GPo (fun q_=>hr.mono (by decide)) (kaa (kac 0) (kaa (kac 1) kak))).ew) kak))))
  (kae (kcn (ka3 klx (kap 2) (kbv).bw) (kaj (ka5 2 (fun q_=>scGo.nd) (kau GHg (fun q_=>hr.mono (by decide)) (kaa (kac 0) (kaa ((kbk GPu (fun q_=>hr.mono (by decide)) (kaa (kac 0) (kaa (kac 1) kak))).ew) kak))))) ka7)
  (kaj (kcy 2)))))) (fun ds RS h=> ?_)
 · obtain ⟨n,ps,p,rfl,_⟩:=h;rfl
 · obtain ⟨n,ps,p,rfl,h0,h1,hR⟩:=h
   simp only [rD,kbu,at0]
   refine ⟨n,p,rfl,_,rfl,_,rfl,?_⟩
   refine kp9 (by rw [decide_eq_true ⟨h0,h1⟩];rfl) ?_
   refine ⟨n,ps,p,rfl,_,rfl,n,ps,_,rfl,_,rfl,?_⟩
   rw [kcr]
   cases e:kmf ps (po ps p) with
   | some x=>
     have:kbh ps p=some x:=by unfold kbh;rw [e];rfl
     rw [this] at hR
     exact hR
   | none=>
     have:kbh ps p=kf8 ps (pu ps p):=by unfold kbh;rw [e];rfl
     rw [this] at hR
     exact ⟨n,ps,p,rfl,_,rfl,n,ps,_,rfl,_,rfl,hR⟩
end
section
variable {P:Program} {w:World} {K:PySem.W.Frag} {mg:Str→Option Value} {base:Heap}
theorem kzi:FnScope ["space","point","side","near","one","others"] ["space","point"] (kag kd1):=⟨rfl,rfl,rfl,by decide +kernel,rfl,by decide +kernel,by decide +kernel⟩
theorem ok_Lg {f:Addr} {fd:FuncData} (F:Fun K "_law_goal" "_law_goal" kd1 f fd) (T:Txt K mg):
 FnOk P w K mg base CX0 1 f fd ["space","point"] (spG K kla):=by
 refine F.okG kzi (fun ds RS h=> ?_) (fun cdv A outer s H E hr=>(kae (kea (fun q_=>PassesOwn.never) (kcm (kao).bw (fun q_=>T.range)) (ka6 2 (fun q_=>kzi.nd)) (kae (kde 3 (fun q_=>kzi.nd) (N':=["pair","side","point"]) (fun q_=>(.own (.cap 2 rfl rfl rfl (.cap 1 rfl rfl rfl .nil)))) (kbo (kaw (kan 0) (kao).bw)) (ka6 0 (fun q_=>(by decide +kernel:(["pair","side","point"]:List Str).Nodup))) (kcx (ka3 (kgx (fun q_=>ka2 hr (by decide))) (kaw (kan 0) (kap 1)).bw (kap 2))) (kaw (kan 0) (ke2 kj5 (kao).bw (kap 1)).bw))
  (DSs.frz 3 (kaj (kea (fun q_=>PassesOwn.never) (kbo (kac 3)) (ka6 4 (fun q_=>kzi.nd)) (kae (kde 5 (fun q_=>kzi.nd) (N':=["other","one"]) (fun q_=>(.own (.cap 4 rfl rfl rfl .nil))) (kbo (kac 3)) (ka6 0 (fun q_=>(by decide +kernel:(["other","one"]:List Str).Nodup))) (kcx (ka3 (ke8 (fun q_=>ka2 hr (by decide))) (kap 0) (kap 1))) (kac 0))
  (DSs.frz 5 (kaj (kcn (ke3 (kkb (kdj (N':=["other","side","space","one"]) (fun q_=>(.own (.cap 2 rfl rfl rfl (.cap 0 rfl rfl rfl (.cap 4 rfl rfl rfl .nil))))) (kbo (kac 5)) (ka6 0 (fun q_=>(by decide +kernel:(["other","side","space","one"]:List Str).Nodup))) kby (km7 (od_in (fun q_=>ka2 hr (by decide))) (kaw (kd9 (kaa (kch (kaa (kac 3) (kaa (kac 0) kak))) (kaa (kch (kaa (kac 0) (kaa (kac 3) kak))) kak))).q (kap 1)).bw (kaw (kan 2) (kao).bw).bw)).l (fun q_=>T.all)).bw) (kaj (kcy 4)) ka7)))))))))
  (kaj (kbg (kbv))))) (fun ds RS h=> ?_)
 · obtain ⟨n,ps,p,rfl,_⟩:=h;rfl
 · obtain ⟨n,ps,p,rfl,hR⟩:=h
   refine ⟨2,rfl,by decide,by decide,fun k env=>∃v2 v3 v4 v5,env=[.d (spD n ps),.d (.int p),v2,v3,v4,v5]∧(1≤k→kmf ps (po ps p)=none)∧(2≤k→kf8 ps (pu ps p)=none),⟨_,_,_,_,rfl,fun z=>absurd z (by decide),fun z=>absurd z (by decide)⟩,?_,?_⟩
   · rintro k y env hy ⟨v2,v3,v4,v5,rfl,g1,g2⟩
     obtain ⟨hk,rfl⟩:=kj7 hy
     rw [Int.zero_add]
     have k01:k=0∨k=1:=by
      have:k < 2:=hk
      lia
     rcases k01 with rfl | rfl
     · refine kb8 (fun env=>env=Elg n ps p 0 (.o ((po ps p).map PyData.int)) v4 v5) (fun N hN=> ?_) ?_
       · simp only [rD,xLC,kbu,at0,at1]
         refine ⟨Gf ps pD (fun q=>decide (q.1=p)) (fun q=> .int q.2),fun y hy=> ?_,fun o ho=> ?_⟩
         · obtain ⟨q,hq,rfl⟩:=List.mem_map.mp hy
           refine ⟨_,rfl,_,atc0 _ _,okI _,okI _,.inl (shI _),?_⟩
           rw [ka8]
           exact kdi (fun e=>⟨_,rfl,_,atd1 _ _ _,Gf.keep hq e rfl⟩) (fun e=>Gf.skip hq (by simpa using e))
         have en:((ps.filter fun q=>decide (q.1=p)).map fun q=>PyData.int q.2)=(po ps p).map PyData.int:=by unfold po;rw [List.map_map];rfl
         rw [Gf.out kf7 ho,en]
         exact hN _ rfl
       rintro env rfl
       refine ⟨_,rfl,?_⟩
       generalize hnear:po ps p=near at *
       refine ⟨_,rfl,_,rfl,fun k env=>∃v4 v5,env=Elg n ps p 0 (.d (.list (near.map PyData.int))) v4 v5∧∀(j:Nat) (y:Int),j < k→near[j]?=some y→(near.all fun a=>kjl ps y a)=false,⟨_,_,rfl,fun j y h=>absurd h (Nat.not_lt_zero _)⟩,?_,?_⟩
       · rintro k y env hy ⟨v4,v5,rfl,no⟩
         rw [List.getElem?_map] at hy
         obtain ⟨x,hx,rfl⟩:=Option.map_eq_some_iff.mp hy
         refine kb8 (fun env=>env=Elg n ps p 0 (.d (.list (near.map PyData.int))) (.d (.int x)) (.o ((near.filter fun o=> !decide (o=x)).map PyData.int))) (fun N hN=> ?_) ?_
         · simp only [rD,xLC]
           refine ⟨Gf near PyData.int (fun o=> !decide (o=x)) PyData.int,fun y hy=> ?_,fun o ho=> ?_⟩
           · obtain ⟨z,hz,rfl⟩:=List.mem_map.mp hy
             refine ⟨okI _,okI _,.inl (shI _),?_⟩
             rw [ka8]
             exact kdi (fun e=>Gf.keep hz e rfl) (fun e=>Gf.skip hz (by simpa using e))
           rw [Gf.out kb4 ho]
           exact hN _ rfl
         rintro env rfl
         refine ⟨_,rfl,?_⟩
         simp only [rD,xLC,kbu,at1]
         refine ⟨Gf (near.filter fun o=> !decide (o=x)) PyData.int (fun q_=>true) (fun o=> .bool (decide ((x,o)∈ps))),fun y hy=> ?_,fun o ho=> ?_⟩
         · obtain ⟨z,hz,rfl⟩:=List.mem_map.mp hy
           refine ⟨_,atc0 _ _,kcp ps,okP (x,z),shP (x,z),?_⟩
           exact Gf.keep hz rfl (congrArg PyData.bool (kiq (x,z) ps))
         rw [Gf.all kb4 ho]
         refine ⟨(near.filter fun o=> !decide (o=x)).map fun o=>decide ((x,o)∈ps),by rw [List.map_map];rfl,?_⟩
         rw [all_map,kma]
         refine kdi (fun e=> ?_) (fun e=>⟨_,_,rfl,fun j z hj hz=> ?_⟩)
         · have hf:kmf ps near=some x:=ked hx e no
           have hg:kbh ps p=some x:=by unfold kbh;rw [hnear,hf];rfl
           rw [hg] at hR
           exact hR
         · rcases Nat.lt_succ_iff_lt_or_eq.mp hj with q | q
           · exact no j z q hz
           · subst q
             rw [hx] at hz
             cases hz
             simpa using e
       · rintro env ⟨v4,v5,rfl,no⟩
         have hn:kmf ps near=none:=kee fun j y hj hy=>no j y (by rw [List.length_map];exact hj) hy
         exact ⟨_,_,_,_,rfl,fun q_=>hn,fun z=>absurd z (by decide)⟩
     · refine kb8 (fun env=>env=Elg n ps p 1 (.o ((pu ps p).map PyData.int)) v4 v5) (fun N hN=> ?_) ?_
       · simp only [rD,xLC,kbu,at0,at1]
         refine ⟨Gf ps pD (fun q=>decide (q.2=p)) (fun q=> .int q.1),fun y hy=> ?_,fun o ho=> ?_⟩
         · obtain ⟨q,hq,rfl⟩:=List.mem_map.mp hy
           refine ⟨_,rfl,_,atc1 _ _ _,okI _,okI _,.inl (shI _),?_⟩
           rw [ka8]
           exact kdi (fun e=>⟨_,rfl,_,atd0 _ _,Gf.keep hq e rfl⟩) (fun e=>Gf.skip hq (by simpa using e))
         have en:((ps.filter fun q=>decide (q.2=p)).map fun q=>PyData.int q.1)=(pu ps p).map PyData.int:=by unfold pu;rw [List.map_map];rfl
         rw [Gf.out kf7 ho,en]
         exact hN _ rfl
       rintro env rfl
       refine ⟨_,rfl,?_⟩
       generalize hnear:pu ps p=near at *
       refine ⟨_,rfl,_,rfl,fun k env=>∃v4 v5,env=Elg n ps p 1 (.d (.list (near.map PyData.int))) v4 v5∧∀(j:Nat) (y:Int),j < k→near[j]?=some y→(near.all fun a=>kjl ps a y)=false,⟨_,_,rfl,fun j y h=>absurd h (Nat.not_lt_zero _)⟩,?_,?_⟩
       · rintro k y env hy ⟨v4,v5,rfl,no⟩
         rw [List.getElem?_map] at hy
         obtain ⟨x,hx,rfl⟩:=Option.map_eq_some_iff.mp hy
         refine kb8 (fun env=>env=Elg n ps p 1 (.d (.list (near.map PyData.int))) (.d (.int x)) (.o ((near.filter fun o=> !decide (o=x)).map PyData.int))) (fun N hN=> ?_) ?_
         · simp only [rD,xLC]
           refine ⟨Gf near PyData.int (fun o=> !decide (o=x)) PyData.int,fun y hy=> ?_,fun o ho=> ?_⟩
           · obtain ⟨z,hz,rfl⟩:=List.mem_map.mp hy
             refine ⟨okI _,okI _,.inl (shI _),?_⟩
             rw [ka8]
             exact kdi (fun e=>Gf.keep hz e rfl) (fun e=>Gf.skip hz (by simpa using e))
           rw [Gf.out kb4 ho]
           exact hN _ rfl
         rintro env rfl
         refine ⟨_,rfl,?_⟩
         simp only [rD,xLC,kbu,at1]
         refine ⟨Gf (near.filter fun o=> !decide (o=x)) PyData.int (fun q_=>true) (fun o=> .bool (decide ((o,x)∈ps))),fun y hy=> ?_,fun o ho=> ?_⟩
         · obtain ⟨z,hz,rfl⟩:=List.mem_map.mp hy
           refine ⟨_,atc1 _ _ _,kcp ps,okP (z,x),shP (z,x),?_⟩
           exact Gf.keep hz rfl (congrArg PyData.bool (kiq (z,x) ps))
         rw [Gf.all kb4 ho]
         refine ⟨(near.filter fun o=> !decide (o=x)).map fun o=>decide ((o,x)∈ps),by rw [List.map_map];rfl,?_⟩
         rw [all_map,kjo]
         refine kdi (fun e=> ?_) (fun e=>⟨_,_,rfl,fun j z hj hz=> ?_⟩)
         · have hf:kf8 ps near=some x:=ked hx e no
           have hg:kbh ps p=some x:=by unfold kbh;rw [g1 (by decide),hnear,hf];rfl
           rw [hg] at hR
           exact hR
         · rcases Nat.lt_succ_iff_lt_or_eq.mp hj with q | q
           · exact no j z q hz
           · subst q
             rw [hx] at hz
             cases hz
             simpa using e
       · rintro env ⟨v4,v5,rfl,no⟩
         have hn:kf8 ps near=none:=kee fun j y hj hy=>no j y (by rw [List.length_map];exact hj) hy
         exact ⟨_,_,_,_,rfl,fun q_=>g1 (by decide),fun q_=>hn⟩
   · rintro env ⟨v2,v3,v4,v5,rfl,g1,g2⟩
     rw [kfb] at g1 g2
     have:kbh ps p=none:=by unfold kbh;rw [g1 (by decide),g2 (by decide)];rfl
     rw [this] at hR
     exact hR
end
noncomputable def kqb (n:Int) (ps:List (Int×Int)):Prop:=∀q∈ps,inR n q
theorem kwq {n p x:Int} (h0:0≤x) (h1:x < n) (hp0:0≤p) (hp1:p < n) (hne:x≠p):0≤cu p x∧cu p x < n - 1:=by
 unfold cu
 split <;> lia
theorem kwr {n p:Int} {ps:List (Int×Int)} (h:kqb n ps) (hp0:0≤p) (hp1:p < n):kqb (n - 1) (woF ps p):=by
 intro q hq
 obtain ⟨r,hr,rfl⟩:=List.mem_map.mp hq
 obtain ⟨h1,h2⟩:=List.mem_filter.mp hr
 obtain ⟨a,b,c,d⟩:=h r h1
 have h2:p≠r.1∧p≠r.2:=by simpa using h2
 have e1:=kwq a b hp0 hp1 (Ne.symm h2.1)
 have e2:=kwq c d hp0 hp1 (Ne.symm h2.2)
 exact ⟨e1.1,e1.2,e2.1,e2.2⟩
noncomputable def nmF (n:Nat) (p:Int):List Int:=((List.range n).map fun (i:Nat)=>(i:Int)).filter fun i=> !decide (i=p)
theorem ksd (k m:Nat):nmF (k + 1 + m) (k:Int)=((List.range k).map fun (i:Nat)=>(i:Int))++((List.range m).map fun (i:Nat)=>((k + 1 + i:Nat):Int)):=by
 unfold nmF
 have e:List.range (k + 1 + m)=List.range k++[k]++(List.range m).map fun i=>k + 1 + i:=by
  rw [← List.range_succ,List.range_add]
 rw [e,List.map_append,List.map_append,List.filter_append,List.filter_append]
 have f1:(((List.range k).map fun (i:Nat)=>(i:Int)).filter fun i=> !decide (i=(k:Int)))=(List.range k).map fun (i:Nat)=>(i:Int):=by
  rw [List.filter_eq_self]
  intro x hx
  obtain ⟨i,hi,rfl⟩:=List.mem_map.mp hx
  have:=List.mem_range.mp hi
  have: ¬((i:Int)=(k:Int)):=by lia
  simp [this]
 have f2:((([k]:List Nat).map fun (i:Nat)=>(i:Int)).filter fun i=> !decide (i=(k:Int)))=[]:=by simp
 have f3:((((List.range m).map fun i=>k + 1 + i).map fun (i:Nat)=>(i:Int)).filter fun i=> !decide (i=(k:Int)))=(List.range m).map fun (i:Nat)=>((k + 1 + i:Nat):Int):=by
  rw [List.map_map,List.filter_eq_self.mpr]
  · rfl
  · intro x hx
    obtain ⟨i,hi,rfl⟩:=List.mem_map.mp hx
    have: ¬(((k + 1 + i:Nat):Int)=(k:Int)):=by lia
    simpa using this
 rw [f1,f2,f3,List.append_nil]
theorem kzj {l:List Int} (nd:l.Nodup) {i:Nat} {x:Int} (h:l[i]?=some x):l.idxOf x=i:=by
 have hm:x∈l:=List.mem_of_getElem? h
 have hlt:l.idxOf x < l.length:=List.idxOf_lt_length_iff.mpr hm
 have e:l[l.idxOf x]?=some x:=by
  rw [List.getElem?_eq_getElem hlt]
  exact congrArg some (List.getElem_idxOf hlt)
 exact khj nd e h
theorem kse (n:Nat) (p:Int):(nmF n p).Nodup:=by
 unfold nmF
 refine List.Pairwise.filter _ ?_
 have:=khl n
 rw [List.append_nil] at this
 exact this
theorem ktm {n:Nat} {p a:Int} (hp0:0≤p) (hp1:p < n) (h0:0≤a) (h1:a < n) (hne:a≠p):a∈nmF n p∧(((nmF n p).idxOf a:Nat):Int)=cu p a:=by
 obtain ⟨k,rfl⟩:=Int.eq_ofNat_of_zero_le hp0
 obtain ⟨x,rfl⟩:=Int.eq_ofNat_of_zero_le h0
 obtain ⟨m,rfl⟩: ∃m,n=k + 1 + m:=⟨n - (k + 1),by lia⟩
 have at':(nmF (k + 1 + m) (k:Int))[(cu (k:Int) (x:Int)).toNat]?=some (x:Int):=by
  rw [ksd]
  unfold cu
  by_cases hx:(x:Int) > (k:Int)
  · rw [if_pos hx]
    have e:((x:Int) - 1).toNat=x - 1:=by lia
    rw [e,List.getElem?_append_right (by simp;lia)]
    simp only [List.length_map,List.length_range,List.getElem?_map]
    rw [List.getElem?_range (by lia)]
    simp only [Option.map_some,Option.some.injEq]
    lia
  · rw [if_neg hx]
    have e:((x:Int)).toNat=x:=by lia
    have hlt:x < k:=by lia
    rw [e,List.getElem?_append_left (by simp;lia)]
    simp [hlt]
 refine ⟨List.mem_of_getElem? at',?_⟩
 rw [kzj (kse _ _) at']
 have:=kwq h0 h1 hp0 hp1 hne
 lia
inductive Walk:Nat→List (Int×Int)→List Int→Nat→List (Int×Int)→Prop where
 | nil (n:Nat) (ps:List (Int×Int)):Walk n ps [] n ps
 | cons {n:Nat} {ps:List (Int×Int)} {p:Int} {row:List Int} {n':Nat} {ps':List (Int×Int)}:0≤p→p < ((n + 1:Nat):Int)→(kbh ps p).isSome=true→Walk n (woF ps p) row n' ps'→Walk (n + 1) ps (p::row) n' ps'
theorem Walk.snoc {n:Nat} {ps:List (Int×Int)} {row:List Int} {n':Nat} {qs:List (Int×Int)} {p:Int} (w:Walk n ps row (n' + 1) qs) (h0:0≤p) (h1:p < ((n' + 1:Nat):Int)) (h2:(kbh qs p).isSome=true):Walk n ps (row++[p]) n' (woF qs p):=by
 generalize hm:n' + 1=m at w
 induction w with
 | nil n ps=>subst hm;exact .cons h0 h1 h2 (.nil _ _)
 | cons a b c _ ih=>exact .cons a b c (ih h2 hm)
theorem Walk.len {n:Nat} {ps:List (Int×Int)} {row:List Int} {n':Nat} {ps':List (Int×Int)} (w:Walk n ps row n' ps'):row.length + n'=n:=by
 induction w with
 | nil n ps=>simp
 | cons _ _ _ _ ih=>rw [List.length_cons];lia
theorem klc {n:Nat} {ps:List (Int×Int)} {p:Int} (h:p∈kbe n ps):0≤p∧p < n∧(kbh ps p).isSome=true:=by
 obtain ⟨h1,h2⟩:=List.mem_filter.mp h
 obtain ⟨i,hi,rfl⟩:=List.mem_map.mp h1
 have:=List.mem_range.mp hi
 exact ⟨by lia,by lia,h2⟩
noncomputable def kwt (ds:List PyData) (RS:Dt→Prop):Prop:=∃(n:Nat) (ps:List (Int×Int)),ds=[spD n ps]∧n≤100∧∀(row:List Int) (n':Nat) (ps':List (Int×Int)),Walk n ps row n' ps'→kbe n' ps'=[]→RS (.o (row.map PyData.int))
noncomputable def Plwo (ds:List PyData) (RS:Dt→Prop):Prop:=∃(n:Nat) (ps:List (Int×Int)) (p:Int),ds=[spD n ps,.int p]∧n≤100∧0≤p∧p < n∧kqb n ps∧RS (.d (spD ((n:Int) - 1) (woF ps p)))
noncomputable def kei (n:Nat):List Int:=(List.range n).map fun (i:Nat)=>(i:Int)
theorem ksf (n:Nat):(kei n).length=n:=by unfold kei;simp
theorem kfh (n:Nat):ke9 0 n=(kei n).map PyData.int:=by rw [kq1];unfold kei;rw [List.map_map];rfl
noncomputable def ksg (ps:List (Int×Int)) (names last:List Int) (p:Int):List Int:=last.map fun a=>if a=names.getD p.toNat 0 then names.getD ((kbh ps p).getD 0).toNat 0 else a
noncomputable def wkN:List (Int×Int)→List Int→List Int→List Int
 | _,names,[]=>names
 | ps,names,p::row=>wkN (woF ps p) (names.eraseIdx p.toNat) row
noncomputable def wkS:List (Int×Int)→List Int→List Int→List Int→List (List Int)
 | _,_,_,[]=>[]
 | ps,names,last,p::row=>ksg ps names last p::wkS (woF ps p) (names.eraseIdx p.toNat) (ksg ps names last p) row
noncomputable def kpa (ds:List PyData) (RS:Dt→Prop):Prop:=∃(n:Nat) (ps:List (Int×Int)) (row:List Int) (n':Nat) (ps':List (Int×Int)),ds=[spD n ps,.list (row.map PyData.int)]∧n≤100∧kqb n ps∧Walk n ps row n' ps'∧
 RS (.d (.tuple [spD n' ps',.list ((wkN ps (kei n) row).map PyData.int),.list ((kei n::wkS ps (kei n) (kei n) row).map ko5)]))
theorem khm {α:Type} {p:α→Bool} {l:List α} {x:α} (h:l.find? p=some x):x∈l:=List.mem_of_find?_eq_some h
theorem kpb {n:Int} {ps:List (Int×Int)} {p g:Int} (h:kqb n ps) (hg:kbh ps p=some g):0≤g∧g < n:=by
 unfold kbh at hg
 cases e:kmf ps (po ps p) with
 | some x=>
   rw [e] at hg
   have hg:x=g:=Option.some.inj hg
   subst hg
   have hm:=khm e
   obtain ⟨q,hq,rfl⟩:=List.mem_map.mp hm
   obtain ⟨_,_,c,d⟩:=h q (List.mem_filter.mp hq).1
   exact ⟨c,d⟩
 | none=>
   rw [e] at hg
   have hg:kf8 ps (pu ps p)=some g:=hg
   have hm:=khm hg
   obtain ⟨q,hq,rfl⟩:=List.mem_map.mp hm
   obtain ⟨c,d,_,_⟩:=h q (List.mem_filter.mp hq).1
   exact ⟨c,d⟩
theorem kjp {xs:List Int} {i:Int} (h0:0≤i) (h1:i < xs.length):atI (xs.map PyData.int) i=some (.int (xs.getD i.toNat 0)):=kwo h0 h1
theorem sc1 (m:Nat):((m + 1:Nat):Int) - 1=(m:Int):=by lia
theorem ksh (xs:List Int):kp8 (ko5 xs)=some (xs.map PyData.int):=rfl
noncomputable abbrev Elk (m:Nat) (qs:List (Int×Int)) (row:List Int) (nm sd:List PyData) (p:Int) (v:Dt):List Dt:=[.d (spD ((m + 1:Nat):Int) qs),.d (.list (row.map PyData.int)),.o nm,.o sd,.d (.int p),v]
section
variable {P:Program} {w:World} {K:PySem.W.Frag} {mg:Str→Option Value} {base:Heap}
theorem scFb:FnScope ["space"] ["space"] (kag kes):=⟨rfl,rfl,rfl,by decide +kernel,rfl,by decide +kernel,by decide +kernel⟩
theorem ok_Fb {f:Addr} {fd:FuncData} (F:Fun K "foldable" "foldable" kes f fd) (T:Txt K mg) (GGo:Fn P w K mg base "goal" 3 ["space","point"] (spG K ksc)):
 FnOk P w K mg base CX0 4 f fd ["space"] (spG K kcq):=by
 refine F.okG scFb (fun ds RS h=> ?_) (fun cdv A outer s H E hr=>(kaj (kdy (kdj (N':=["point","space"]) (fun q_=>(.own (.cap 0 rfl rfl rfl .nil))) (kcm (kaw (kan 0) (kao).bw).bw (fun q_=>T.range)) (ka6 0 (fun q_=>(by decide +kernel:(["point","space"]:List Str).Nodup))) (kcx (ka3 kgy (kau GGo (fun q_=>hr.mono (by decide)) (kaa (kac 1) (kaa (kac 0) kak))).bw (kbv).bw)) (kac 0))))) (fun ds RS h=> ?_)
 · obtain ⟨n,ps,rfl,_⟩:=h;rfl
 · obtain ⟨n,ps,rfl,hn,hR⟩:=h
   simp only [rD,xLC,kbu,at0]
   refine ⟨by lia,by lia,?_⟩
   rw [Int.toNat_natCast,kq1]
   refine ⟨Gf (List.range n) (fun (i:Nat)=>PyData.int (i:Int)) (fun (i:Nat)=>(kbh ps (i:Int)).isSome) (fun (i:Nat)=> .int (i:Int)),fun y hy=> ?_,fun o ho=> ?_⟩
   · obtain ⟨i,hi,rfl⟩:=List.mem_map.mp hy
     have:=List.mem_range.mp hi
     refine ⟨n,ps,(i:Int),rfl,by lia,by lia,_,rfl,?_⟩
     rw [kcr]
     cases e:kbh ps (i:Int) with
     | some x=>
       have hs:(kbh ps (i:Int)).isSome=true:=by rw [e];rfl
       rw [if_pos (show (!(some x:Option Int).isNone)=true from rfl)]
       exact Gf.keep hi hs rfl
     | none=>
       have hs:(kbh ps (i:Int)).isSome=false:=by rw [e];rfl
       rw [if_neg (show ¬(!(none:Option Int).isNone)=true from Bool.false_ne_true)]
       exact Gf.skip hi hs
   · rw [Gf.out ki5 ho]
     unfold kbe at hR
     rw [List.filter_map,List.map_map] at hR
     exact hR
end
section
variable {P:Program} {w:World} {K:PySem.W.Frag} {mg:Str→Option Value} {base:Heap}
theorem scLf:FnScope ["space"] ["space"] (kag kcd):=⟨rfl,rfl,rfl,by decide +kernel,rfl,by decide +kernel,by decide +kernel⟩
theorem ok_Lf {f:Addr} {fd:FuncData} (F:Fun K "_law_foldable" "_law_foldable" kcd f fd) (T:Txt K mg) (GLg:Fn P w K mg base "_law_goal" 1 ["space","point"] (spG K kla)):
 FnOk P w K mg base CX0 2 f fd ["space"] (spG K kcq):=by
 refine F.okG scLf (fun ds RS h=> ?_) (fun cdv A outer s H E hr=>(kaj (kdy (kdj (N':=["point","space"]) (fun q_=>(.own (.cap 0 rfl rfl rfl .nil))) (kcm (kaw (kan 0) (kao).bw).bw (fun q_=>T.range)) (ka6 0 (fun q_=>(by decide +kernel:(["point","space"]:List Str).Nodup))) (kcx (ka3 kgy (kau GLg (fun q_=>hr.mono (by decide)) (kaa (kac 1) (kaa (kac 0) kak))).bw (kbv).bw)) (kac 0))))) (fun ds RS h=> ?_)
 · obtain ⟨n,ps,rfl,_⟩:=h;rfl
 · obtain ⟨n,ps,rfl,hn,hR⟩:=h
   simp only [rD,xLC,kbu,at0]
   refine ⟨by lia,by lia,?_⟩
   rw [Int.toNat_natCast,kq1]
   refine ⟨Gf (List.range n) (fun (i:Nat)=>PyData.int (i:Int)) (fun (i:Nat)=>(kbh ps (i:Int)).isSome) (fun (i:Nat)=> .int (i:Int)),fun y hy=> ?_,fun o ho=> ?_⟩
   · obtain ⟨i,hi,rfl⟩:=List.mem_map.mp hy
     have:=List.mem_range.mp hi
     refine ⟨n,ps,(i:Int),rfl,_,rfl,?_⟩
     rw [kcr]
     cases e:kbh ps (i:Int) with
     | some x=>
       have hs:(kbh ps (i:Int)).isSome=true:=by rw [e];rfl
       rw [if_pos (show (!(some x:Option Int).isNone)=true from rfl)]
       exact Gf.keep hi hs rfl
     | none=>
       have hs:(kbh ps (i:Int)).isSome=false:=by rw [e];rfl
       rw [if_neg (show ¬(!(none:Option Int).isNone)=true from Bool.false_ne_true)]
       exact Gf.skip hi hs
   · rw [Gf.out ki5 ho]
     unfold kbe at hR
     rw [List.filter_map,List.map_map] at hR
     exact hR
end
section
variable {P:Program} {w:World} {K:PySem.W.Frag} {mg:Str→Option Value} {base:Heap}
theorem scCu:FnScope ["number","gone"] ["number","gone"] (kag kdz):=⟨rfl,rfl,rfl,by decide +kernel,rfl,by decide +kernel,by decide +kernel⟩
theorem ok_Cu {f:Addr} {fd:FuncData} (F:Fun K "closed_up" "closed_up" kdz f fd) (T:Txt K mg):
 FnOk P w K mg base CX0 1 f fd ["number","gone"] (spG K Pcu):=by
 refine F.okG scCu (fun ds RS h=> ?_) (fun cdv A outer s H E hr=>(kaj (kbg (kx7 (ka3 kun (kap 0) (kap 1)) (ke2 kj5 (kap 0) (kao).bw) (kac 0))))) (fun ds RS h=> ?_)
 · obtain ⟨x,p,rfl,_⟩:=h;rfl
 · obtain ⟨x,p,rfl,hR⟩:=h
   simp only [rD]
   unfold cu at hR
   refine kdi (fun e=> ?_) (fun e=> ?_)
   · rw [if_pos (of_decide_eq_true e)] at hR
     exact hR
   · rw [if_neg (fun z=>e (decide_eq_true z))] at hR
     exact hR
end
section
variable {P:Program} {w:World} {K:PySem.W.Frag} {mg:Str→Option Value} {base:Heap}
theorem scWo:FnScope ["space","point","ties"] ["space","point"] (kag kf0):=⟨rfl,rfl,rfl,by decide +kernel,rfl,by decide +kernel,by decide +kernel⟩
theorem ok_Wo {f:Addr} {fd:FuncData} (F:Fun K "without" "without" kf0 f fd) (T:Txt K mg) (GCu:Fn P w K mg base "closed_up" 1 ["number","gone"] (spG K Pcu)):
 FnOk P w K mg base CX0 2 f fd ["space","point"] (spG K Pwo):=by
 refine F.okG scWo (fun ds RS h=> ?_) (fun cdv A outer s H E hr=>(kae (kde 2 (fun q_=>scWo.nd) (N':=["a","b","point"]) (fun q_=>(.own (.own (.cap 1 rfl rfl rfl .nil)))) (kbo (kaw (kan 0) (kao).bw)) (kci 0 1 (fun q_=>(by decide +kernel:(["a","b","point"]:List Str).Nodup))) (kcx ((knc (ka3 (ke8 (fun q_=>ka2 hr (by decide))) (kap 2) (kap 0)) (ki2 (ka3 (ke8 (fun q_=>ka2 hr (by decide))) (kap 2) (kap 1)))).t)) (kch (kaa (kau GCu (fun q_=>hr.mono (by decide)) (kaa (kac 0) (kaa (kac 2) kak))) (kaa (kau GCu (fun q_=>hr.mono (by decide)) (kaa (kac 1) (kaa (kac 2) kak))) kak))))
  (DSs.frz 2 (kaj (kbg (kch (kaa (ke2 kj5 (kaw (kan 0) (kao).bw).bw (kao).bw) (kaa (kfq 2 (fun q_=>T.tuple)) kak)))))))) (fun ds RS h=> ?_)
 · obtain ⟨n,ps,p,rfl,_⟩:=h;rfl
 · obtain ⟨n,ps,p,rfl,hR⟩:=h
   simp only [rD,xLC,kbu,at0,at1]
   refine ⟨Gf ps pD (fun q=>decide (p≠q.1) && decide (p≠q.2)) (fun q=>pD (cu2 p q)),fun y hy=> ?_,fun o ho=> ?_⟩
   · obtain ⟨q,hq,rfl⟩:=List.mem_map.mp hy
     have go:(decide (p≠q.1) && decide (p≠q.2))=true→Pcu [.int q.1,.int p] fun dt=>∃d,kui dt=some d∧Pcu [.int q.2,.int p] fun dt=>∃d_1,kui dt=some d_1∧Gf ps pD (fun q=>decide (p≠q.1) && decide (p≠q.2)) (fun q=>pD (cu2 p q)) (pD q) (some (.tuple [d,d_1])):=fun e=>⟨_,_,rfl,_,rfl,_,_,rfl,_,rfl,Gf.keep hq e rfl⟩
     refine ⟨_,_,rfl,okI _,okI _,.inl (shI _),?_⟩
     rw [ka8]
     refine kdi (fun e=>⟨okI _,okI _,.inl (shI _),?_⟩) (fun e=>Gf.skip hq ?_)
     · rw [ka8]
       refine kdi (fun e2=>go (by simp at e e2 ⊢;exact ⟨e,e2⟩)) (fun e2=>Gf.skip hq (by simp at e e2 ⊢;intro q_;exact e2))
     · simp at e ⊢
       intro z;exact absurd e z
   · rw [Gf.out kf7 ho]
     unfold woF at hR
     rw [show spD (n - 1) ((ps.filter fun q=>decide (p≠q.1) && decide (p≠q.2)).map (cu2 p))= .tuple [.int (n - 1),.tuple ((ps.filter fun q=>decide (p≠q.1) && decide (p≠q.2)).map fun q=>pD (cu2 p q))] by unfold spD;rw [List.map_map];rfl] at hR
     exact hR
end
section
variable {P:Program} {w:World} {K:PySem.W.Frag} {mg:Str→Option Value} {base:Heap}
theorem scLo:FnScope ["space","point","names","ties"] ["space","point"] (kag kck):=⟨rfl,rfl,rfl,by decide +kernel,rfl,by decide +kernel,by decide +kernel⟩
theorem ok_Lo {f:Addr} {fd:FuncData} (F:Fun K "_law_without" "_law_without" kck f fd) (T:Txt K mg):
 FnOk P w K mg base CX0 1 f fd ["space","point"] (spG K Plwo):=by
 refine F.okG scLo (fun ds RS h=> ?_) (fun cdv A outer s H E hr=>(kae (ka5 2 (fun q_=>scLo.nd) ((kdj (N':=["one","point"]) (fun q_=>(.own (.cap 1 rfl rfl rfl .nil))) (kcm (kaw (kan 0) (kao).bw).bw (fun q_=>T.range)) (ka6 0 (fun q_=>(by decide +kernel:(["one","point"]:List Str).Nodup))) (kcx (ka3 (ke8 (fun q_=>ka2 hr (by decide))) (kap 0) (kap 1))) (kac 0)).ew))
  (kae (kde 3 (fun q_=>scLo.nd) (N':=["a","b","names","point"]) (fun q_=>(.own (.own (.cap 2 rfl rfl rfl (.cap 1 rfl rfl rfl .nil))))) (kbo (kaw (kan 0) (kao).bw)) (kci 0 1 (fun q_=>(by decide +kernel:(["a","b","names","point"]:List Str).Nodup))) (kcx ((knc (ka3 (ke8 (fun q_=>ka2 hr (by decide))) (kap 0) (kap 3)) (ki2 (ka3 (ke8 (fun q_=>ka2 hr (by decide))) (kap 1) (kap 3)))).t)) (kch (kaa (kg1 (kgi 2) (kap 0)) (kaa (kg1 (kgi 2) (kap 1)) kak))))
  (DSs.frz 3 (kaj (kbg (kch (kaa (ke2 kj5 (kaw (kan 0) (kao).bw).bw (kao).bw) (kaa (kfq 3 (fun q_=>T.tuple)) kak))))))))) (fun ds RS h=> ?_)
 · obtain ⟨n,ps,p,rfl,_⟩:=h;rfl
 · obtain ⟨n,ps,p,rfl,hn,h0,h1,hin,hR⟩:=h
   refine kb8 (fun env=>env=[.d (spD n ps),.d (.int p),.d (.list ((nmF n p).map PyData.int)),.un]) (fun N hN=> ?_) ?_
   · simp only [rD,xLC,kbu,at0]
     refine ⟨by lia,by lia,?_⟩
     rw [Int.toNat_natCast,kq1,show (List.range n).map (fun (i:Nat)=>PyData.int (i:Int))=(((List.range n).map fun (i:Nat)=>(i:Int))).map PyData.int by rw [List.map_map];rfl]
     refine ⟨Gf ((List.range n).map fun (i:Nat)=>(i:Int)) PyData.int (fun i=> !decide (i=p)) PyData.int,fun y hy=> ?_,fun o ho=> ?_⟩
     · obtain ⟨i,hi,rfl⟩:=List.mem_map.mp hy
       refine ⟨okI _,okI _,.inl (shI _),?_⟩
       rw [ka8]
       exact kdi (fun e=>Gf.keep hi e rfl) (fun e=>Gf.skip hi (by simpa using e))
     rw [Gf.out kb4 ho]
     exact hN _ rfl
   rintro env rfl
   refine kb8 (fun env=>env=[.d (spD n ps),.d (.int p),.d (.list ((nmF n p).map PyData.int)),.o ((woF ps p).map pD)]) (fun N hN=> ?_) ?_
   · simp only [rD,xLC,kbu,at1]
     refine ⟨Gf ps pD (fun q=>decide (p≠q.1) && decide (p≠q.2)) (fun q=>pD (cu2 p q)),fun y hy=> ?_,fun o ho2=> ?_⟩
     · obtain ⟨q,hq,rfl⟩:=List.mem_map.mp hy
       obtain ⟨a,b,c,d⟩:=hin q hq
       refine ⟨_,_,rfl,okI _,okI _,.inl (shI _),?_⟩
       rw [ka8]
       refine kdi (fun e=>⟨okI _,okI _,.inl (shI _),?_⟩) (fun e=> ?_)
       · rw [ka8]
         have n1:q.1≠p:=by simpa using e
         refine kdi (fun e2=> ?_) (fun e2=>Gf.skip hq ?_)
         · have n2:q.2≠p:=by simpa using e2
           obtain ⟨m1,i1⟩:=ktm h0 h1 a b n1
           obtain ⟨m2,i2⟩:=ktm h0 h1 c d n2
           refine ⟨nmF n p,rfl,q.1,rfl,m1,nmF n p,rfl,q.2,rfl,m2,?_⟩
           rw [i1,i2]
           exact Gf.keep hq (by simp;exact ⟨Ne.symm n1,Ne.symm n2⟩) rfl
         · have n2:q.2=p:=by simpa using e2
           simp [n2]
       · rw [if_neg (fun z=>z)]
         have n1:q.1=p:=by simpa using e
         exact Gf.skip hq (by simp [n1])
     · rw [Gf.out kf7 ho2]
       exact hN _ (by unfold woF;rw [List.map_map];rfl)
   rintro env rfl
   refine ⟨_,rfl,?_⟩
   simp only [rD,kbu,at0]
   exact hR
end
section
variable {P:Program} {w:World} {K:PySem.W.Frag} {mg:Str→Option Value} {base:Heap}
theorem scFo:FnScope ["space","point"] ["space","point"] (kag khh):=⟨rfl,rfl,rfl,by decide +kernel,rfl,by decide +kernel,by decide +kernel⟩
theorem ok_Fo {f:Addr} {fd:FuncData} (F:Fun K "folded" "folded" khh f fd) (T:Txt K mg) (GGo:Fn P w K mg base "goal" 3 ["space","point"] (spG K ksc)) (GWo:Fn P w K mg base "without" 2 ["space","point"] (spG K Pwo)):
 FnOk P w K mg base CX0 4 f fd ["space","point"] (spG K kjn):=by
 refine F.okG scFo (fun ds RS h=> ?_) (fun cdv A outer s H E hr=>(kae (kcn (ka3 klx (kau GGo (fun q_=>hr.mono (by decide)) (kaa (kac 0) (kaa (kac 1) kak))).bw (kbv).bw) (kaj (kj8)) ka7)
  (kaj (kbg (kau GWo (fun q_=>hr.mono (by decide)) (kaa (kac 0) (kaa (kac 1) kak))))))) (fun ds RS h=> ?_)
 · obtain ⟨n,ps,p,rfl,_⟩:=h;rfl
 · obtain ⟨n,ps,p,rfl,h0,h1,h2,hR⟩:=h
   simp only [rD]
   refine ⟨n,ps,p,rfl,h0,h1,_,rfl,?_⟩
   rw [kcr]
   refine kp9 ?_ ⟨n,ps,p,rfl,_,rfl,hR⟩
   cases e:kbh ps p with
   | some x=>rfl
   | none=>rw [e] at h2;cases h2
end
section
variable {P:Program} {w:World} {K:PySem.W.Frag} {mg:Str→Option Value} {base:Heap}
theorem kw4:FnScope ["space","row","here","can"] ["space"] (kag kc0):=⟨rfl,rfl,rfl,by decide +kernel,rfl,by decide +kernel,by decide +kernel⟩
theorem ok_Co {f:Addr} {fd:FuncData} (F:Fun K "row_to_core" "row_to_core" kc0 f fd) (T:Txt K mg) (GFb:Fn P w K mg base "foldable" 4 ["space"] (spG K kcq)) (GFo:Fn P w K mg base "folded" 4 ["space","point"] (spG K kjn)):
 FnOk P w K mg base CX0 5 f fd ["space"] (spG K kwt):=by
 refine F.okG kw4 (fun ds RS h=> ?_) (fun cdv A outer s H E hr=>(kae (kfu 1 (fun q_=>kw4.nd) (kd9 kak))
  (kae (ka5 2 (fun q_=>kw4.nd) (kac 0))
  (kae (ka5 3 (fun q_=>kw4.nd) ((kbk GFb (fun q_=>hr.mono (by decide)) (kaa (kac 2) kak)).ew))
  (kae (kg0 (fun q_=>PassesOwn.never) (ka3 kun (ke4 (kan 3) (fun q_=>T.len)).bw (kao).bw) (kae (kka 1 (kaw (kan 3) (kao).bw))
  (kae (ka5 2 (fun q_=>kw4.nd) (kau GFo (fun q_=>hr.mono (by decide)) (kaa (kac 2) (kaa (kaw (kan 3) (kao).bw) kak))))
  (kaj (ka5 3 (fun q_=>kw4.nd) ((kbk GFb (fun q_=>hr.mono (by decide)) (kaa (kac 2) kak)).ew))))))
  (kaj (kcy 1))))))) (fun ds RS h=> ?_)
 · obtain ⟨n,ps,rfl,_⟩:=h;rfl
 · obtain ⟨n,ps,rfl,hn,hR⟩:=h
   refine ⟨Nat.zero_le _,_,rfl,_,rfl,n,ps,rfl,hn,_,rfl,?_⟩
   refine ⟨fun m env=>∃(qs:List (Int×Int)) (row:List Int),env=[.d (spD n ps),.o (row.map PyData.int),.d (spD m qs),.d (.list ((kbe m qs).map PyData.int))]∧Walk n ps row m qs,⟨n,ps,[],rfl,.nil n ps⟩,?_⟩
   rintro m env ⟨qs,row,rfl,w⟩
   have hl:=w.len
   simp only [rD]
   refine kdi (fun e=> ?_) (fun e=> ?_)
   · have hpos:0 < (kbe m qs).length:=by
      have:=of_decide_eq_true e
      rw [List.length_map] at this
      lia
     obtain ⟨p,fs,hf⟩:=List.exists_cons_of_length_pos hpos
     have hp:=klc (n:=m) (ps:=qs) (p:=p) (by rw [hf];exact List.mem_cons_self)
     obtain ⟨m',rfl⟩: ∃m',m=m' + 1:=⟨m - 1,by lia⟩
     rw [hf]
     refine ⟨_,at0 _ _,by rw [List.length_map];lia,_,at0 _ _,_,qs,p,rfl,hp.1,hp.2.1,hp.2.2,_,rfl,?_⟩
     rw [sc1]
     refine ⟨m',_,rfl,by lia,_,rfl,m',Nat.lt_succ_self _,_,row++[p],by rw [List.map_append];rfl,w.snoc hp.1 hp.2.1 hp.2.2⟩
   · have h0:kbe m qs=[]:=by
      cases hf:kbe m qs with
      | nil=>rfl
      | cons p fs=>
        exfalso
        apply e
        rw [hf]
        simp
     exact hR row m qs w h0
end
section
variable {P:Program} {w:World} {K:PySem.W.Frag} {mg:Str→Option Value} {base:Heap}
theorem kw5:FnScope ["space","row","names","sends","point","end"] ["space","row"] (kag kd2):=⟨rfl,rfl,rfl,by decide +kernel,rfl,by decide +kernel,by decide +kernel⟩
theorem ok_Lk {f:Addr} {fd:FuncData} (F:Fun K "_law_walk" "_law_walk" kd2 f fd) (T:Txt K mg) (GLg:Fn P w K mg base "_law_goal" 1 ["space","point"] (spG K kla)) (GLo:Fn P w K mg base "_law_without" 1 ["space","point"] (spG K Plwo)):
 FnOk P w K mg base CX0 3 f fd ["space","row"] (spG K kpa):=by
 refine F.okG kw5 (fun ds RS h=> ?_) (fun cdv A outer s H E hr=>(kae (kfu 2 (fun q_=>kw5.nd) (ke5 (kaw (kan 0) (kao).bw).bw (fun q_=>T.list) (fun q_=>T.range)))
  (kae (kfu 3 (fun q_=>kw5.nd) (kd9 (kaa (kfq 2 (fun q_=>T.tuple)) kak)))
  (kae (kea (fun q_=>PassesOwn.never) (kbo (kac 1)) (ka6 4 (fun q_=>kw5.nd)) (kae (kcn ((kqv (kh8 (kqs od_le od_lt (kao).bw (kap 4) (kaw (kan 0) (kao).bw).bw)) (kna (ka3 klx (kau GLg (fun q_=>hr.mono (by decide)) (kaa (kac 0) (kaa (kac 4) kak))).bw (kbv).bw))).t) (kaj (kbg (kbv))) ka7)
  (kae (ka5 5 (fun q_=>kw5.nd) (kaw (kan 2) (kau GLg (fun q_=>hr.mono (by decide)) (kaa (kac 0) (kaa (kac 4) kak))).bw))
  (kae (kka 3 (kdd (kdj (N':=["at","end","names","point"]) (fun q_=>(.own (.cap 5 rfl rfl rfl (.cap 2 rfl rfl rfl (.cap 4 rfl rfl rfl .nil))))) (kbo (kaw (kan 3) (ksy (kao)).bw)) (ka6 0 (fun q_=>(by decide +kernel:(["at","end","names","point"]:List Str).Nodup))) kby (kaw (kd9 (kaa (kac 0) (kaa (kac 1) kak))).q (kq3 (km7 (kgx (fun q_=>ka2 hr (by decide))) (kap 0) (kaw (kan 2) (kap 3)).bw).bw (fun q_=>T.int)).bw)) (fun q_=>T.tuple)))
  (kae (ku7 2 (kap 4))
  (kaj (ka5 0 (fun q_=>kw5.nd) (kau GLo (fun q_=>hr.mono (by decide)) (kaa (kac 0) (kaa (kac 4) kak))))))))))
  (DSs.frz 3 (DSs.frz 2 (kaj (kbg (kch (kaa (kac 0) (kaa (kac 2) (kaa (kac 3) kak)))))))))))) (fun ds RS h=> ?_)
 · obtain ⟨n,ps,row,n',ps',rfl,_⟩:=h;rfl
 · obtain ⟨n,ps,row,n',ps',rfl,hn,hin,hw,hR⟩:=h
   refine ⟨_,_,rfl,rfl,_,_,rfl,at0 _ _,_,rfl,by lia,by lia,?_⟩
   rw [Int.toNat_natCast,kfh]
   refine ⟨_,.inl rfl,(by show 1≤100000;decide),?_⟩
   refine ⟨_,rfl,_,rfl,fun k env=>∃(a:Nat) (qs:List (Int×Int)) (names:List Int) (sends:List (List Int)) (last:List Int) (v4 v5:Dt),env=[.d (spD a qs),.d (.list (row.map PyData.int)),.o (names.map PyData.int),.o ((sends++[last]).map ko5),v4,v5]∧
    Walk a qs (row.drop k) n' ps'∧kqb a qs∧names.length=a∧sends.length=k∧wkN ps (kei n) row=wkN qs names (row.drop k)∧kei n::wkS ps (kei n) (kei n) row=sends++[last]++wkS qs names last (row.drop k),
    ⟨n,ps,kei n,[],kei n,_,_,rfl,hw,hin,ksf n,rfl,rfl,rfl⟩,?_,?_⟩
   · rintro k y env hy ⟨a,qs,names,sends,last,v4,v5,rfl,w,iq,ln,ls,e1,e2⟩
     rw [List.getElem?_map] at hy
     obtain ⟨p,hp,rfl⟩:=Option.map_eq_some_iff.mp hy
     obtain ⟨hk,e⟩:=List.getElem?_eq_some_iff.mp hp
     have wl:=hw.len
     rw [List.drop_eq_getElem_cons hk,e] at w e1 e2
     cases w with
     | @cons m _ _ _ _ _ h0 h1 h2 w=>
       have wl2:=w.len
       rw [List.length_drop] at wl2
       obtain ⟨g,hg⟩:=Option.isSome_iff_exists.mp h2
       have hgi:=kpb iq hg
       have hlast:atI ((sends++[last]).map ko5) (-1)=some (ko5 last):=by rw [List.map_append];exact kjy _ _
       have hpn:p < names.length:=by rw [ln];exact h1
       refine kb8 (fun env=>env=Elk m qs row (names.map PyData.int) ((sends++[last]).map ko5) p v5) (fun N hN=> ?_) ?_
       · simp only [rD,kbu,at0,decide_eq_true h0,decide_eq_true h1,Bool.not_true,Bool.false_eq_true,reduceIte]
         refine ⟨_,qs,p,rfl,_,rfl,?_⟩
         rw [kcr,hg]
         exact kp9 rfl (hN _ rfl)
       rintro env rfl
       refine kb8 (fun env=>env=Elk m qs row (names.map PyData.int) ((sends++[last]).map ko5) p (.d (.int (names.getD g.toNat 0)))) (fun N hN=> ?_) ?_
       · simp only [rD]
         refine ⟨_,qs,p,rfl,_,rfl,?_⟩
         rw [hg]
         exact ⟨g,rfl,_,kjp hgi.1 (by rw [ln];exact hgi.2),hN _ rfl⟩
       rintro env rfl
       refine kb8 (fun env=>env=Elk m qs row (names.map PyData.int) ((sends++[last]++[ksg qs names last p]).map ko5) p (.d (.int (names.getD g.toNat 0)))) (fun N hN=> ?_) ?_
       · simp only [rD,xLC,hlast,ksh,kjp h0 hpn]
         refine ⟨Gf last PyData.int (fun q_=>true) (fun a=> .int (if a=names.getD p.toNat 0 then names.getD g.toNat 0 else a)),fun y hy=> ?_,fun o ho=> ?_⟩
         · obtain ⟨x,hx,rfl⟩:=List.mem_map.mp hy
           refine ⟨okI _,okI _,.inl (shI _),.int (if x=names.getD p.toNat 0 then names.getD g.toNat 0 else x),?_,Gf.keep hx rfl rfl⟩
           rw [ka8]
           by_cases hxp:x=names.getD p.toNat 0
           · rw [decide_eq_true hxp,if_pos rfl,if_pos hxp]
             exact at1 _ _ _
           · rw [decide_eq_false hxp,if_neg Bool.false_ne_true,if_neg hxp]
             exact at0 _ _
         have eo:PyData.tuple o=ko5 (ksg qs names last p):=by
          rw [Gf.all kb4 ho]
          unfold ko5 ksg
          rw [List.map_map,hg]
          rfl
         refine ⟨by rw [List.length_map,List.length_append,List.length_singleton];lia,hN _ ?_⟩
         rw [eo,List.map_append (l₂:=[ksg qs names last p])]
         rfl
       rintro env rfl
       refine kb8 (fun env=>env=Elk m qs row ((names.eraseIdx p.toNat).map PyData.int) ((sends++[last]++[ksg qs names last p]).map ko5) p (.d (.int (names.getD g.toNat 0)))) (fun N hN=> ?_) ?_
       · simp only [rD]
         refine ⟨p.toNat,by lia,by rw [List.length_map];lia,by lia,hN _ ?_⟩
         rw [kfn]
       rintro env rfl
       have iq2:=kwr iq h0 h1
       rw [sc1] at iq2
       simp only [rD]
       refine ⟨m + 1,qs,p,rfl,by lia,h0,h1,iq,_,rfl,m,woF qs p,names.eraseIdx p.toNat,sends++[last],ksg qs names last p,.d (.int p),.d (.int (names.getD g.toNat 0)),?_,w,iq2,?_,?_,e1,?_⟩
       · rw [sc1]
       · rw [List.length_eraseIdx_of_lt (by lia)];lia
       · rw [List.length_append,ls];rfl
       · rw [e2]
         show sends++[last]++(ksg qs names last p::_)=_
         simp
   · rintro env ⟨a,qs,names,sends,last,v4,v5,rfl,w,iq,ln,ls,e1,e2⟩
     rw [List.length_map,List.drop_length] at w e1 e2
     cases w
     refine ⟨_,rfl,_,rfl,?_⟩
     refine ⟨_,rfl,_,rfl,_,rfl,(by show 3≤100000;decide),?_⟩
     rw [e1,e2,show sends++[last]++wkS ps' names last []=sends++[last] from List.append_nil _] at hR
     exact hR
end
theorem kld {ps:List (Int×Int)} {p a:Int}:a∈po ps p↔(p,a)∈ps:=by
 unfold po
 rw [List.mem_map]
 constructor
 · rintro ⟨q,hq,rfl⟩
   obtain ⟨h1,h2⟩:=List.mem_filter.mp hq
   have:q.1=p:=of_decide_eq_true h2
   subst this
   exact h1
 · intro h
   exact ⟨(p,a),List.mem_filter.mpr ⟨h,decide_eq_true rfl⟩,rfl⟩
theorem kle {ps:List (Int×Int)} {p a:Int}:a∈pu ps p↔(a,p)∈ps:=by
 unfold pu
 rw [List.mem_map]
 constructor
 · rintro ⟨q,hq,rfl⟩
   obtain ⟨h1,h2⟩:=List.mem_filter.mp hq
   have:q.2=p:=of_decide_eq_true h2
   subst this
   exact h1
 · intro h
   exact ⟨(a,p),List.mem_filter.mpr ⟨h,decide_eq_true rfl⟩,rfl⟩
noncomputable def Goal (ps:List (Int×Int)) (p g:Int):Prop:=((p,g)∈ps∧∀a,(p,a)∈ps→kr1 ps g a)∨((g,p)∈ps∧∀a,(a,p)∈ps→kr1 ps a g)
theorem kpc {ps:List (Int×Int)} {p g:Int} (h:kbh ps p=some g):Goal ps p g:=by
 unfold kbh at h
 cases e:kmf ps (po ps p) with
 | some x=>
   rw [e] at h
   have h:x=g:=Option.some.inj h
   subst h
   refine .inl ⟨kld.mp (khm e),fun a ha=> ?_⟩
   have:=List.find?_some e
   exact kb9.mp (List.all_eq_true.mp this a (kld.mpr ha))
 | none=>
   rw [e] at h
   have h:kf8 ps (pu ps p)=some g:=h
   refine .inr ⟨kle.mp (khm h),fun a ha=> ?_⟩
   have:=List.find?_some h
   exact kb9.mp (List.all_eq_true.mp this a (kle.mpr ha))
theorem ksi {n:Nat} {x:Int}:x∈kei n↔0≤x∧x < (n:Int):=by
 unfold kei
 rw [List.mem_map]
 constructor
 · rintro ⟨i,hi,rfl⟩
   have:=List.mem_range.mp hi
   lia
 · rintro ⟨h0,h1⟩
   exact ⟨x.toNat,List.mem_range.mpr (by lia),by lia⟩
noncomputable def upN (p i:Nat):Nat:=if i < p then i else i + 1
theorem ktn {qs:List (Int×Int)} {p i j:Nat}:((i:Int),(j:Int))∈woF qs (p:Int)↔((upN p i:Int),(upN p j:Int))∈qs:=by
 unfold woF
 rw [List.mem_map]
 constructor
 · rintro ⟨q,hq,e⟩
   obtain ⟨h1,h2⟩:=List.mem_filter.mp hq
   have h2:(p:Int)≠q.1∧(p:Int)≠q.2:=by simpa using h2
   have e1:cu (p:Int) q.1=(i:Int):=congrArg Prod.fst e
   have e2:cu (p:Int) q.2=(j:Int):=congrArg Prod.snd e
   have f1:q.1=(upN p i:Int):=by unfold cu at e1;unfold upN;split at e1 <;> split <;> lia
   have f2:q.2=(upN p j:Int):=by unfold cu at e2;unfold upN;split at e2 <;> split <;> lia
   rw [← f1,← f2]
   exact h1
 · intro h
   refine ⟨_,List.mem_filter.mpr ⟨h,?_⟩,?_⟩
   · simp only [ne_eq,Bool.and_eq_true,decide_eq_true_eq]
     constructor <;> (unfold upN;split <;> lia)
   · unfold cu2 cu
     simp only [Prod.mk.injEq]
     constructor <;> (unfold upN;split <;> split <;> lia)
theorem kzk {xs:List Int} {i:Int} (h0:0≤i) (h1:i < xs.length):gt xs i∈xs:=by
 unfold gt
 rw [List.getD_eq_getElem?_getD,List.getElem?_eq_getElem (by lia:i.toNat < xs.length)]
 exact List.getElem_mem _
theorem kgr: ∀xs:List Int,PyData.depthAll (xs.map PyData.int)=0
 | []=>rfl
 | x::xs=>by
   show max (PyData.depth (.int x)) (PyData.depthAll (xs.map PyData.int))=0
   rw [kgr xs];rfl
theorem khn: ∀xs ys:List Int,PyData.eqvAll (xs.map PyData.int) (ys.map PyData.int)=decide (xs=ys)
 | [],[]=>rfl
 | [],_::_=>rfl
 | _::_,[]=>rfl
 | x::xs,y::ys=>by
   show (PyData.eqv (.int x) (.int y) && PyData.eqvAll (xs.map PyData.int) (ys.map PyData.int))=_
   rw [ka8,khn xs ys]
   by_cases h1:x=y <;> by_cases h2:xs=ys <;> simp [h1,h2]
noncomputable def kpd (ds:List PyData) (RS:Dt→Prop):Prop:=∃(n:Nat) (ps:List (Int×Int)) (ns:List Int) (k:Nat),ds=[spD n ps,ke7 ns,.int (k:Int)]∧n≤100∧kqb n ps∧∀(row:List Int) (n':Nat) (ps':List (Int×Int)),Walk n ps row n' ps'→kbe n' ps'=[]→RS (.o (row.map PyData.int))
theorem kpe (xs:List Int):okD (.list (xs.map PyData.int)):=kbx xs
theorem kto (xs:List Int):ki1 (.list (xs.map PyData.int)):=by
 show PyData.depthAll (xs.map PyData.int) + 1≤9
 rw [kgr];decide
theorem klf (n:Nat) (ps:List (Int×Int)):(kbe n ps).length≤n:=by
 unfold kbe
 refine Nat.le_trans (List.length_filter_le _ _) ?_
 simp
section
variable {P:Program} {w:World} {K:PySem.W.Frag} {mg:Str→Option Value} {base:Heap}
theorem kqc:FnScope ["space","script","at","cell","digits","row","some","pick"] ["space","script","at"] (kag kb6):=⟨rfl,rfl,rfl,by decide +kernel,rfl,by decide +kernel,by decide +kernel⟩
theorem ok_Dw {f:Addr} {fd:FuncData} (F:Fun K "_law_drawn_row" "_law_drawn_row" kb6 f fd) (T:Txt K mg) (GDRw:Fn P w K mg base "_law_raw" 1 ["script","k"] (spG K kwj)) (GDDr:Fn P w K mg base "_law_draw" 1 ["cell","k","bound"] (spG K kwk)) (GDSt:Fn P w K mg base "_law_stir" 1 ["cell"] (spG K kwi)) (GLf:Fn P w K mg base "_law_foldable" 2 ["space"] (spG K kcq)) (GLo:Fn P w K mg base "_law_without" 1 ["space","point"] (spG K Plwo)):
 FnOk P w K mg base CX0 3 f fd ["space","script","at"] (spG K kpd):=by
 refine F.okG kqc (fun ds RS h=> ?_) (fun cdv A outer s H E hr=>(kae (ka5 3 (fun q_=>kqc.nd) (kau GDRw (fun q_=>hr.mono (by decide)) (kaa (kac 1) (kaa (kac 2) kak))))
  (kae (ka5 4 (fun q_=>kqc.nd) (ke2 km8 (kap 3) (kao).bw))
  (kae (kfu 5 (fun q_=>kqc.nd) (kd9 kak))
  (kae (ka5 6 (fun q_=>kqc.nd) ((kbk GLf (fun q_=>hr.mono (by decide)) (kaa (kac 0) kak)).ew))
  (kae (kg0 (fun q_=>PassesOwn.never) (ka3 (ke8 (fun q_=>ka2 hr (by decide))) (kap 6) (kd9 kak).bw) (kae (ka5 7 (fun q_=>kqc.nd) (ke2 ksx (kap 4) (ke4 (kan 6) (fun q_=>T.len)).bw))
  (kae (ka5 4 (fun q_=>kqc.nd) (ke2 km8 (kap 4) (ke4 (kan 6) (fun q_=>T.len)).bw))
  (kae (kcn (ka3 (kgx (fun q_=>ka2 hr (by decide))) (ke2 ksx (kap 3) (kao).bw).bw (kao).bw) (kaj (ka5 7 (fun q_=>kqc.nd) (kau GDDr (fun q_=>hr.mono (by decide)) (kaa (kau GDSt (fun q_=>hr.mono (by decide)) (kaa (kac 3) kak)) (kaa (ke4 (kan 5) (fun q_=>T.len)) (kaa (ke4 (kan 6) (fun q_=>T.len)) kak)))))) ka7)
  (kae (kka 5 (kaw (kan 6) (kap 7)))
  (kae (ka5 0 (fun q_=>kqc.nd) (kau GLo (fun q_=>hr.mono (by decide)) (kaa (kac 0) (kaa (kaw (kan 5) (ksy (kao)).bw) kak))))
  (kaj (ka5 6 (fun q_=>kqc.nd) ((kbk GLf (fun q_=>hr.mono (by decide)) (kaa (kac 0) kak)).ew)))))))))
  (kaj (kcy 5)))))))) (fun ds RS h=> ?_)
 · obtain ⟨n,ps,ns,k,rfl,_⟩:=h;rfl
 · obtain ⟨n,ps,ns,k0,rfl,hn,hin,hR⟩:=h
   refine kb8 (fun env=>∃c:Int,env=[.d (spD n ps),.d (ke7 ns),.d (.int k0),.d (.int c),.un,.un,.un,.un]) (fun N hN=> ?_) ?_
   · simp only [rD]
     exact ⟨ns,k0,rfl,fun c=>⟨_,rfl,hN _ ⟨c,rfl⟩⟩⟩
   rintro env ⟨c,rfl⟩
   refine kb8 (fun env=>∃dg:Int,env=[.d (spD n ps),.d (ke7 ns),.d (.int k0),.d (.int c),.d (.int dg),.un,.un,.un]) (fun N hN=> ?_) ?_
   · simp only [rD]
     exact ⟨by simp [CDiv],hN _ ⟨_,rfl⟩⟩
   rintro env ⟨dg,rfl⟩
   refine kb8 (fun env=>env=[.d (spD n ps),.d (ke7 ns),.d (.int k0),.d (.int c),.d (.int dg),.o [],.un,.un]) (fun N hN=> ?_) ?_
   · simp only [rD]
     exact hN _ rfl
   rintro env rfl
   refine kb8 (fun env=>env=[.d (spD n ps),.d (ke7 ns),.d (.int k0),.d (.int c),.d (.int dg),.o [],.d (.list ((kbe n ps).map PyData.int)),.un]) (fun N hN=> ?_) ?_
   · simp only [rD]
     exact ⟨n,ps,rfl,hn,_,rfl,hN _ rfl⟩
   rintro env rfl
   refine ⟨fun m env=>∃(qs:List (Int×Int)) (row:List Int) (dg:Int) (v7:Dt),env=[.d (spD m qs),.d (ke7 ns),.d (.int k0),.d (.int c),.d (.int dg),.o (row.map PyData.int),.d (.list ((kbe m qs).map PyData.int)),v7]∧Walk n ps row m qs∧kqb m qs,⟨n,ps,[],dg,_,rfl,.nil n ps,hin⟩,?_⟩
   rintro m env ⟨qs,row,dg,v7,rfl,w,iq⟩
   have hl:=w.len
   refine ⟨_,_,rfl,rfl,Nat.zero_le _,kpe _,rfl,.inl (kto _),_,rfl,?_⟩
   rw [show PyData.eqv (.list ((kbe m qs).map PyData.int)) (.list [])=decide (kbe m qs=[]) from khn _ []]
   refine kdi (fun e=> ?_) (fun e=> ?_)
   · have hne:kbe m qs≠[]:=by simpa using e
     have hpos:0 < (kbe m qs).length:=List.length_pos_iff.mpr hne
     refine kb8 (fun env=>∃pk:Int,env=[.d (spD m qs),.d (ke7 ns),.d (.int k0),.d (.int c),.d (.int dg),.o (row.map PyData.int),.d (.list ((kbe m qs).map PyData.int)),.d (.int pk)]∧0≤pk∧pk < (kbe m qs).length) (fun N hN=> ?_) ?_
     · simp only [rD]
       rw [List.length_map]
       exact ⟨by lia,hN _ ⟨_,rfl,Int.emod_nonneg _ (by lia),Int.emod_lt_of_pos _ (by lia)⟩⟩
     rintro env ⟨pk,rfl,p0,p1⟩
     refine kb8 (fun env=>∃dg:Int,env=[.d (spD m qs),.d (ke7 ns),.d (.int k0),.d (.int c),.d (.int dg),.o (row.map PyData.int),.d (.list ((kbe m qs).map PyData.int)),.d (.int pk)]) (fun N hN=> ?_) ?_
     · simp only [rD]
       rw [List.length_map]
       have:=klf m qs
       exact ⟨⟨by lia,by lia⟩,hN _ ⟨_,rfl⟩⟩
     rintro env ⟨dg,rfl⟩
     refine kb8 (fun env=>∃pk:Int,env=[.d (spD m qs),.d (ke7 ns),.d (.int k0),.d (.int c),.d (.int dg),.o (row.map PyData.int),.d (.list ((kbe m qs).map PyData.int)),.d (.int pk)]∧0≤pk∧pk < (kbe m qs).length) (fun N hN=> ?_) ?_
     · simp only [rD]
       refine ⟨by decide,okI _,okI _,.inl (shI _),kdi (fun e=> ?_) (fun e=>hN _ ⟨_,rfl,p0,p1⟩)⟩
       exact ⟨c,rfl,fun r=>⟨_,rfl,r,_,_,rfl,by rw [List.length_map];lia,fun r2 a1 a2=>⟨_,rfl,hN _ ⟨r2,rfl,a1,by rw [List.length_map] at a2;exact a2⟩⟩⟩⟩
     rintro env ⟨pk,rfl,p0,p1⟩
     obtain ⟨m',rfl⟩: ∃m',m=m' + 1:=⟨m - 1,by have:=klf m qs;lia⟩
     have hpm:(kbe (m' + 1) qs).getD pk.toNat 0∈kbe (m' + 1) qs:=kzk (xs:=kbe (m' + 1) qs) p0 p1
     simp only [rD,kjp p0 p1]
     generalize (kbe (m' + 1) qs).getD pk.toNat 0=p at hpm ⊢
     have hp:=klc hpm
     have iq2:=kwr iq hp.1 hp.2.1
     rw [sc1] at iq2
     refine ⟨by rw [List.length_map];lia,_,kjy _ _,m' + 1,qs,p,rfl,by lia,hp.1,hp.2.1,iq,_,rfl,?_⟩
     rw [sc1]
     exact ⟨m',woF qs p,rfl,by lia,_,rfl,m',Nat.lt_succ_self _,woF qs p,row++[p],dg,_,by rw [List.map_append];rfl,w.snoc hp.1 hp.2.1 hp.2.2,iq2⟩
   · have h0:kbe m qs=[]:=by simpa using e
     exact ⟨_,rfl,(fun z=>by cases z),hR row m qs w h0⟩
end
noncomputable def Plaw (ds:List PyData) (RS:Dt→Prop):Prop:=∃ns:List Int,ds=[ke7 ns]∧ns.length≤63∧RS (.d (.bool true))
theorem kf9: ∀ps:List (Int×Int),PyData.depthAll (ps.map pD)≤1
 | []=>Nat.zero_le _
 | p::r=>by
   show max (PyData.depth (pD p)) (PyData.depthAll (r.map pD))≤1
   have h1:=kf9 r
   have h2:PyData.depth (pD p)=1:=rfl
   lia
theorem kiv: ∀ps qs:List (Int×Int),PyData.eqvAll (ps.map pD) (qs.map pD)=decide (ps=qs)
 | [],[]=>rfl
 | [],_::_=>rfl
 | _::_,[]=>rfl
 | x::xs,y::ys=>by
   show (PyData.eqv (pD x) (pD y) && PyData.eqvAll (xs.map pD) (ys.map pD))=_
   rw [kth,kiv xs ys]
   by_cases h1:x=y <;> by_cases h2:xs=ys <;> simp [h1,h2]
noncomputable abbrev Rl:=Nat→Nat→Bool
structure Iso (n:Nat) (T U:Rl) (f:Nat→Nat):Prop where
 lt: ∀a,a < n→f a < n
 inj: ∀a b,a < n→b < n→f a=f b→a=b
 eq: ∀a b,a < n→b < n→T a b=U (f a) (f b)
theorem kce {f:Nat→Nat}: ∀{l:List Nat},l.Nodup→(∀ a b,a∈l→b∈l→f a=f b→a=b)→(l.map f).Nodup
 | [],_,_=>List.nodup_nil
 | a::l,h,hf=>by
   obtain ⟨h1,h2⟩:=List.nodup_cons.mp h
   rw [List.map_cons]
   refine List.nodup_cons.mpr ⟨fun z=> ?_,kce h2 fun x y hx hy=>hf x y (List.mem_cons_of_mem _ hx) (List.mem_cons_of_mem _ hy)⟩
   obtain ⟨b,hb,e⟩:=List.mem_map.mp z
   have:=hf b a (List.mem_cons_of_mem _ hb) List.mem_cons_self e
   rw [this] at hb
   exact h1 hb
theorem kpf {n:Nat} {f:Nat→Nat} (lt: ∀a,a < n→f a < n) (inj: ∀a b,a < n→b < n→f a=f b→a=b) {b:Nat} (hb:b < n): ∃a,a < n∧f a=b:=by
 refine Classical.byContradiction fun z=> ?_
 have nd:((List.range n).map f).Nodup:=kce List.nodup_range fun x y hx hy=>inj x y (List.mem_range.mp hx) (List.mem_range.mp hy)
 have nd2:(b::(List.range n).map f).Nodup:=List.nodup_cons.mpr ⟨fun m=>by
  obtain ⟨a,ha,e⟩:=List.mem_map.mp m
  exact z ⟨a,List.mem_range.mp ha,e⟩,nd⟩
 have sub:(b::(List.range n).map f) ⊆ List.range n:=fun x hx=>by
  rcases List.mem_cons.mp hx with rfl | hx
  · exact List.mem_range.mpr hb
  · obtain ⟨a,ha,rfl⟩:=List.mem_map.mp hx
    exact List.mem_range.mpr (lt a (List.mem_range.mp ha))
 have:=nd2.length_le_of_subset sub
 simp at this
 lia
theorem Iso.onto {n:Nat} {T U:Rl} {f:Nat→Nat} (h:Iso n T U f) {b:Nat} (hb:b < n): ∃a,a < n∧f a=b:=kpf h.lt h.inj hb
noncomputable def undr (T:Rl) (n p:Nat):List Nat:=(List.range n).filter fun q=>T q p
noncomputable def ovr (T:Rl) (n p:Nat):List Nat:=(List.range n).filter fun q=>T p q
theorem kbm {T:Rl} {n p q:Nat}:q∈undr T n p↔q < n∧T q p=true:=by unfold undr;rw [List.mem_filter,List.mem_range]
theorem kc3 {T:Rl} {n p q:Nat}:q∈ovr T n p↔q < n∧T p q=true:=by unfold ovr;rw [List.mem_filter,List.mem_range]
theorem kgs (T:Rl) (n p:Nat):(undr T n p).Nodup:=List.nodup_range.filter _
theorem kiw (T:Rl) (n p:Nat):(ovr T n p).Nodup:=List.nodup_range.filter _
theorem Iso.undr {n:Nat} {T U:Rl} {f:Nat→Nat} (h:Iso n T U f) {p:Nat} (hp:p < n):((undr T n p).map f).Perm (undr U n (f p)):=by
 refine (List.perm_ext_iff_of_nodup (kce (kgs T n p) fun a b ha hb=>h.inj a b (kbm.mp ha).1 (kbm.mp hb).1) (kgs U n (f p))).mpr fun x=> ?_
 rw [kbm,List.mem_map]
 constructor
 · rintro ⟨a,ha,rfl⟩
   obtain ⟨h1,h2⟩:=kbm.mp ha
   exact ⟨h.lt a h1,by rw [← h.eq a p h1 hp];exact h2⟩
 · rintro ⟨h1,h2⟩
   obtain ⟨a,ha,rfl⟩:=h.onto h1
   exact ⟨a,kbm.mpr ⟨ha,by rw [h.eq a p ha hp];exact h2⟩,rfl⟩
theorem Iso.ovr {n:Nat} {T U:Rl} {f:Nat→Nat} (h:Iso n T U f) {p:Nat} (hp:p < n):((ovr T n p).map f).Perm (ovr U n (f p)):=by
 refine (List.perm_ext_iff_of_nodup (kce (kiw T n p) fun a b ha hb=>h.inj a b (kc3.mp ha).1 (kc3.mp hb).1) (kiw U n (f p))).mpr fun x=> ?_
 rw [kc3,List.mem_map]
 constructor
 · rintro ⟨a,ha,rfl⟩
   obtain ⟨h1,h2⟩:=kc3.mp ha
   exact ⟨h.lt a h1,by rw [← h.eq p a hp h1];exact h2⟩
 · rintro ⟨h1,h2⟩
   obtain ⟨a,ha,rfl⟩:=h.onto h1
   exact ⟨a,kc3.mpr ⟨ha,by rw [h.eq p a hp ha];exact h2⟩,rfl⟩
theorem kjq: ∀{x y:List Int},x.Pairwise (· ≤ ·)→y.Pairwise (· ≤ ·)→x.Perm y→x=y
 | [],y,_,_,p=>(List.Perm.nil_eq p)
 | a::x,[],_,_,p=>absurd p.length_eq (by simp)
 | a::x,b::y,hx,hy,p=>by
   obtain ⟨h1,h2⟩:=List.pairwise_cons.mp hx
   obtain ⟨h3,h4⟩:=List.pairwise_cons.mp hy
   have e:a=b:=by
    have m1:a∈b::y:=p.mem_iff.mp List.mem_cons_self
    have m2:b∈a::x:=p.mem_iff.mpr List.mem_cons_self
    rcases List.mem_cons.mp m1 with e | m1
    · exact e
    · rcases List.mem_cons.mp m2 with e | m2
      · exact e.symm
      · exact Int.le_antisymm (h1 b m2) (h3 a m1)
   subst e
   rw [kjq h2 h4 (List.Perm.cons_inv p)]
noncomputable def kdk (l:List Int):List Int:=l.mergeSort (fun a b=>decide (a≤b))
theorem kdh (l:List Int):(kdk l).Perm l:=List.mergeSort_perm ..
theorem klg (l:List Int):(kdk l).Pairwise (· ≤ ·):=by
 have:=List.pairwise_mergeSort (le:=fun a b:Int=>decide (a≤b)) (fun a b c h1 h2=>by simp at h1 h2 ⊢;lia) (fun a b=>by simp;lia) l
 exact this.imp fun h=>by simpa using h
theorem klh {l x:List Int} (h:x.Pairwise (· ≤ ·)) (p:x.Perm l):x=kdk l:=kjq h (klg l) (p.trans (kdh l).symm)
theorem kga {l x:List Int} (p:x.Perm l):kdk x=kdk l:=klh (klg x) ((kdh x).trans p)
noncomputable def seen (T:Rl) (n:Nat) (M:Nat→Int) (p:Nat):Vw:=(M p,kdk ((undr T n p).map M),kdk ((ovr T n p).map M))
theorem Iso.seen {n:Nat} {T U:Rl} {f:Nat→Nat} (h:Iso n T U f) {M N:Nat→Int} (r: ∀p,p < n→M p=N (f p)) {p:Nat} (hp:p < n):seen T n M p=seen U n N (f p):=by
 unfold Me.seen
 have e1:kdk ((Me.undr T n p).map M)=kdk ((Me.undr U n (f p)).map N):=by
  refine kga ?_
  have:=(h.undr hp).map N
  rw [List.map_map] at this
  rw [show (Me.undr T n p).map M=(Me.undr T n p).map (N ∘ f) from List.map_congr_left fun q hq=>r q (kbm.mp hq).1]
  exact this
 have e2:kdk ((Me.ovr T n p).map M)=kdk ((Me.ovr U n (f p)).map N):=by
  refine kga ?_
  have:=(h.ovr hp).map N
  rw [List.map_map] at this
  rw [show (Me.ovr T n p).map M=(Me.ovr T n p).map (N ∘ f) from List.map_congr_left fun q hq=>r q (kc3.mp hq).1]
  exact this
 rw [r p hp,e1,e2]
theorem Iso.all {n:Nat} {T U:Rl} {f:Nat→Nat} (h:Iso n T U f) {M N:Nat→Int} (r: ∀p,p < n→M p=N (f p)):((List.range n).map (Me.seen T n M)).Perm ((List.range n).map (Me.seen U n N)):=by
 have pf:((List.range n).map f).Perm (List.range n):=by
  refine (List.perm_ext_iff_of_nodup (kce List.nodup_range fun a b ha hb=>h.inj a b (List.mem_range.mp ha) (List.mem_range.mp hb)) List.nodup_range).mpr fun x=> ?_
  rw [List.mem_map,List.mem_range]
  constructor
  · rintro ⟨a,ha,rfl⟩
    exact h.lt a (List.mem_range.mp ha)
  · intro hx
    obtain ⟨a,ha,e⟩:=h.onto hx
    exact ⟨a,List.mem_range.mpr ha,e⟩
 have:=pf.map (Me.seen U n N)
 rw [List.map_map] at this
 rw [show (List.range n).map (Me.seen T n M)=(List.range n).map (Me.seen U n N ∘ f) from List.map_congr_left fun p hp=>h.seen r (List.mem_range.mp hp)]
 exact this
theorem kzl {n:Nat} {T U:Rl} {M N:Nat→Int} (hv:((List.range n).map (seen T n M)).Perm ((List.range n).map (seen U n N))) (hd: ∀a b,a < n→b < n→M a=M b→a=b) {f:Nat→Nat} (hf: ∀p,p < n→f p < n∧N (f p)=M p):Iso n T U f:=by
 have mp:((List.range n).map M).Perm ((List.range n).map N):=by
  have:=hv.map (fun v:Vw=>v.1)
  rw [List.map_map,List.map_map] at this
  exact this
 have ndM:((List.range n).map M).Nodup:=by
  have: ∀{l:List Nat},l.Nodup→(∀ a b,a∈l→b∈l→M a=M b→a=b)→(l.map M).Nodup:=by
   intro l
   induction l with
   | nil=>intro q_ q_;exact List.nodup_nil
   | cons a l ih=>
     intro h hf
     obtain ⟨h1,h2⟩:=List.nodup_cons.mp h
     rw [List.map_cons]
     refine List.nodup_cons.mpr ⟨fun z=> ?_,ih h2 fun x y hx hy=>hf x y (List.mem_cons_of_mem _ hx) (List.mem_cons_of_mem _ hy)⟩
     obtain ⟨b,hb,e⟩:=List.mem_map.mp z
     have:=hf b a (List.mem_cons_of_mem _ hb) List.mem_cons_self e
     rw [this] at hb
     exact h1 hb
  exact this List.nodup_range fun a b ha hb=>hd a b (List.mem_range.mp ha) (List.mem_range.mp hb)
 have ndN:((List.range n).map N).Nodup:=mp.nodup_iff.mp ndM
 have hdN: ∀a b,a < n→b < n→N a=N b→a=b:=fun a b ha hb e=>by
  rcases Nat.lt_trichotomy a b with z | z | z
  · have:=List.pairwise_iff_getElem.mp ndN a b (by simpa using ha) (by simpa using hb) z
    simp at this
    exact absurd e this
  · exact z
  · have:=List.pairwise_iff_getElem.mp ndN b a (by simpa using hb) (by simpa using ha) z
    simp at this
    exact absurd e.symm this
 have sv: ∀p,p < n→seen T n M p=seen U n N (f p):=fun p hp=>by
  have m:seen T n M p∈(List.range n).map (seen U n N):=hv.mem_iff.mp (List.mem_map_of_mem (List.mem_range.mpr hp))
  obtain ⟨q,hq,e⟩:=List.mem_map.mp m
  have hq:=List.mem_range.mp hq
  have e1:N q=M p:=congrArg (fun v:Vw=>v.1) e
  have:q=f p:=hdN q (f p) hq (hf p hp).1 (e1.trans (hf p hp).2.symm)
  rw [← this]
  exact e.symm
 refine ⟨fun a ha=>(hf a ha).1,fun a b ha hb e=>hd a b ha hb (by rw [← (hf a ha).2,← (hf b hb).2,e]),fun a b ha hb=> ?_⟩
 have e:=congrArg (fun v:Vw=>v.2.1) (sv b hb)
 have pm:((undr T n b).map M).Perm ((undr U n (f b)).map N):=((kdh _).symm.trans (by rw [show kdk ((undr T n b).map M)=kdk ((undr U n (f b)).map N) from e])).trans (kdh _)
 rw [Bool.eq_iff_iff]
 constructor
 · intro h
   have:M a∈(undr U n (f b)).map N:=pm.mem_iff.mp (List.mem_map_of_mem (kbm.mpr ⟨ha,h⟩))
   obtain ⟨q,hq,e⟩:=List.mem_map.mp this
   obtain ⟨q1,q2⟩:=kbm.mp hq
   have:q=f a:=hdN q (f a) q1 (hf a ha).1 (e.trans (hf a ha).2.symm)
   rw [← this]
   exact q2
 · intro h
   have:N (f a)∈(undr T n b).map M:=pm.mem_iff.mpr (List.mem_map_of_mem (kbm.mpr ⟨(hf a ha).1,h⟩))
   obtain ⟨q,hq,e⟩:=List.mem_map.mp this
   obtain ⟨q1,q2⟩:=kbm.mp hq
   have:q=a:=hd q a q1 ha (e.trans (hf a ha).2)
   rw [← this]
   exact q2
noncomputable def swp (x y a:Nat):Nat:=if a=x then y else if a=y then x else a
theorem Iso.swap {n:Nat} {T U:Rl} {f:Nat→Nat} (h:Iso n T U f) {x y:Nat} (hx:x < n) (hy:y < n) (irr: ∀a,a < n→U a a=false) (h1:Me.undr U n x=Me.undr U n y) (h2:Me.ovr U n x=Me.ovr U n y):Iso n T U (fun a=>swp x y (f a)):=by
 have eu: ∀a,a < n→U a x=U a y:=fun a ha=>by
  have:a∈Me.undr U n x↔a∈Me.undr U n y:=by rw [h1]
  rw [kbm,kbm] at this
  rw [Bool.eq_iff_iff]
  exact ⟨fun z=>(this.mp ⟨ha,z⟩).2,fun z=>(this.mpr ⟨ha,z⟩).2⟩
 have eo: ∀a,a < n→U x a=U y a:=fun a ha=>by
  have:a∈Me.ovr U n x↔a∈Me.ovr U n y:=by rw [h2]
  rw [kc3,kc3] at this
  rw [Bool.eq_iff_iff]
  exact ⟨fun z=>(this.mp ⟨ha,z⟩).2,fun z=>(this.mpr ⟨ha,z⟩).2⟩
 have sw: ∀a b,a < n→b < n→U (swp x y a) (swp x y b)=U a b:=fun a b ha hb=>by
  have l: ∀c,c < n→U (swp x y a) c=U a c:=fun c hc=>by
   unfold swp
   by_cases e1:a=x
   · rw [if_pos e1,e1,eo c hc]
   · rw [if_neg e1]
     by_cases e2:a=y
     · rw [if_pos e2,e2,eo c hc]
     · rw [if_neg e2]
  have r: ∀c,c < n→U c (swp x y b)=U c b:=fun c hc=>by
   unfold swp
   by_cases e1:b=x
   · rw [if_pos e1,e1,eu c hc]
   · rw [if_neg e1]
     by_cases e2:b=y
     · rw [if_pos e2,e2,eu c hc]
     · rw [if_neg e2]
  have hb':swp x y b < n:=by unfold swp;split;exact hy;split;exact hx;exact hb
  rw [l _ hb',r _ ha]
 refine ⟨fun a ha=> ?_,fun a b ha hb e=>h.inj a b ha hb ?_,fun a b ha hb=>by rw [sw _ _ (h.lt a ha) (h.lt b hb)];exact h.eq a b ha hb⟩
 · have:=h.lt a ha
   show swp x y (f a) < n
   unfold swp;split;exact hy;split;exact hx;exact this
 · have e:swp x y (f a)=swp x y (f b):=e
   unfold swp at e
   split at e <;> split at e <;> (try split at e) <;> (try split at e) <;> lia
noncomputable def kd3 (x:List Int×List Int):PyData:= .tuple [.tuple (x.1.map PyData.int),.tuple (x.2.map PyData.int)]
noncomputable def mAt (M:List Int) (p:Int):Int:=M.getD p.toNat 0
noncomputable def vwL (L:List (List Int×List Int)) (M:List Int) (p:Nat):Vw:=(M.getD p 0,kdk ((L.getD p ([],[])).1.map (mAt M)),kdk ((L.getD p ([],[])).2.map (mAt M)))
noncomputable def kmb (ws:List Vw):List (Vw×Int):=ws.zipIdx.map fun x=>(x.1,(x.2:Int))
structure LieOk (L:List (List Int×List Int)) (m:Nat):Prop where
 len:L.length=m
 few:m≤16
 one: ∀x∈L,x.1.length≤16∧x.2.length≤16
 inr: ∀x∈L,(∀ p∈x.1,0≤p∧p < m)∧∀p∈x.2,0≤p∧p < m
noncomputable def kpg (ds:List PyData) (RS:Dt→Prop):Prop:=∃(n:Nat) (ps:List (Int×Int)),ds=[spD n ps]∧n≤16∧RS (.o ((kei n).map fun p=>kd3 (pu ps p,po ps p)))
noncomputable def kho (ds:List PyData) (RS:Dt→Prop):Prop:=∃(M pts:List Int),ds=[.list (M.map PyData.int),.tuple (pts.map PyData.int)]∧pts.length≤16∧(∀ p∈pts,0≤p∧p < M.length)∧RS (.d (.tuple ((kdk (pts.map (mAt M))).map PyData.int)))
noncomputable def kph (ds:List PyData) (RS:Dt→Prop):Prop:=∃(L:List (List Int×List Int)) (M:List Int),ds=[.list (L.map kd3),.list (M.map PyData.int)]∧LieOk L M.length∧RS (.o ((List.range M.length).map fun p=>vwD (vwL L M p)))
noncomputable def Pnum (ds:List PyData) (RS:Dt→Prop):Prop:=∃vs:List Vw,ds=[.list (vs.map vwD)]∧vs.length≤16∧∀ws:List Vw,ws.Nodup→(∀ v,v∈ws↔v∈vs)→ws.Pairwise (fun x y=>ltV y x=false)→RS (.dv (kmb ws))
theorem kgb {α:Type} {l:List α} {f:α→PyData} {p:Int} (d:α) (h0:0≤p) (h1:p < l.length):atI (l.map f) p=some (f (l.getD p.toNat d)):=by
 obtain ⟨j,rfl⟩:=Int.eq_ofNat_of_zero_le h0
 have hj:j < l.length:=by lia
 refine kbn ?_
 rw [List.getElem?_map,List.getElem?_eq_getElem hj]
 simp [hj]
theorem LieOk.at_ {L:List (List Int×List Int)} {m p:Nat} (ok:LieOk L m) (hp:p < m):(L.getD p ([],[])).1.length≤16∧(L.getD p ([],[])).2.length≤16∧(∀ q∈(L.getD p ([],[])).1,0≤q∧q < m)∧∀q∈(L.getD p ([],[])).2,0≤q∧q < m:=by
 have hl:p < L.length:=by rw [ok.len];exact hp
 have hm:L.getD p ([],[])∈L:=by
  rw [List.getD_eq_getElem?_getD,List.getElem?_eq_getElem hl]
  exact List.getElem_mem hl
 exact ⟨(ok.one _ hm).1,(ok.one _ hm).2,(ok.inr _ hm).1,(ok.inr _ hm).2⟩
theorem kef (ws:List Vw):(kmb ws).length=ws.length:=by unfold kmb;rw [List.length_map,List.length_zipIdx]
theorem kgc (ws:List Vw):(kmb ws).map (·.1)=ws:=by
 unfold kmb
 rw [List.map_map]
 exact List.zipIdx_map_fst 0 ws
theorem kpi {ws:List Vw} {k:Nat} {v:Vw} (h:ws[k]?=some v):kmb (ws.take (k + 1))=kmb (ws.take k)++[(v,(k:Int))]:=by
 have hk:k < ws.length:=(List.getElem?_eq_some_iff.mp h).1
 rw [List.take_add_one,h]
 unfold kmb
 rw [Option.toList_some,List.zipIdx_append,List.map_append,List.length_take]
 rw [show min k ws.length=k by lia]
 simp
theorem kmc {α:Type} {l:List α} {k:Nat} {v:α} (nd:l.Nodup) (h:l[k]?=some v):v ∉ l.take k:=fun z=>by
 obtain ⟨hk,e⟩:=List.getElem?_eq_some_iff.mp h
 obtain ⟨i,hi,q⟩:=List.mem_take_iff_getElem.mp z
 have:=List.pairwise_iff_getElem.mp nd i k (by lia) hk (by lia)
 exact this (q.trans e.symm)
noncomputable def kpj (M:List Int):Option Nat:=(List.range M.length).find? fun p=>decide (1 < M.count (M.getD p 0))
noncomputable def kpk (ds:List PyData) (RS:Dt→Prop):Prop:=∃M:List Int,ds=[.list (M.map PyData.int)]∧M.length≤16∧RS (.d (match kpj M with | some p=> .int (p:Nat) | none=> .none))
noncomputable def kmd (M:List Int) (p:Nat):List Int:=(List.range M.length).map fun q=>if q=p then (M.length:Int) else M.getD q 0
noncomputable def kpl (ds:List PyData) (RS:Dt→Prop):Prop:=∃(M:List Int) (p:Nat),ds=[.list (M.map PyData.int),.int (p:Nat)]∧M.length≤16∧p < M.length∧RS (.o ((kmd M p).map PyData.int))
theorem kpm {M:List Int} {k:Nat} (hk:k < M.length) (h:1 < M.count (M.getD k 0)) (no: ∀j,j < k→M.count (M.getD j 0)≤1):kpj M=some k:=by
 unfold kpj
 refine List.find?_range_eq_some.mpr ⟨decide_eq_true h,List.mem_range.mpr hk,fun j hj=> ?_⟩
 have:=no j hj
 simp
 simpa using this
theorem kpn {M:List Int} (no: ∀j,j < M.length→M.count (M.getD j 0)≤1):kpj M=none:=by
 unfold kpj
 refine List.find?_range_eq_none.mpr fun j hj=> ?_
 have:=no j hj
 simp
 simpa using this
noncomputable def kzm (x:Int×Nat):PyData:= .tuple [.int (x.2:Nat),.int x.1]
theorem ksj: ∀a b,kzm a=kzm b→a=b:=fun a b h=>by
 unfold kzm at h
 injection h with h
 injection h with h1 h2
 injection h2 with h2
 injection h1 with h1
 injection h2 with h2
 exact Prod.ext h2 (by lia)
theorem kpo (M:List Int):kip (M.map PyData.int)=M.zipIdx.map kzm:=by
 unfold kip
 rw [List.zipIdx_map,List.map_map]
 rfl
theorem kwu (M:List Int) (p:Nat):(M.zipIdx.map fun x=>PyData.int (if x.2=p then (M.length:Int) else x.1))=(kmd M p).map PyData.int:=by
 unfold kmd
 rw [List.map_map]
 apply List.ext_getElem
 · simp
 · intro i h1 h2
   simp only [List.length_map,List.length_zipIdx] at h1
   simp [h1]
noncomputable def kd4 (T:Rl) (m:Nat):List (List Int×List Int):=(List.range m).map fun p=>((undr T m p).map fun (q:Nat)=>(q:Int),(ovr T m p).map fun (q:Nat)=>(q:Int))
noncomputable def gM (M:List Int) (p:Nat):Int:=M.getD p 0
noncomputable def Rsp (m:Nat) (f:Nat→Nat) (M N:List Int):Prop:=∀p,p < m→gM M p=gM N (f p)
structure RefOk (m:Nat) (T U:Rl) (M N M' N':List Int):Prop where
 l1:M'.length=m
 l2:N'.length=m
 r1: ∀x∈M',0≤x∧x < m
 r2: ∀x∈N',0≤x∧x < m
 rsp: ∀f,Iso m T U f→Rsp m f M N→Rsp m f M' N'
 fin: ∀a b,a < m→b < m→gM M' a=gM M' b→gM M a=gM M b
 vws:((List.range m).map (seen T m (gM M'))).Perm ((List.range m).map (seen U m (gM N')))
noncomputable def Pref (ds:List PyData) (RS:Dt→Prop):Prop:=∃(m:Nat) (T U:Rl) (M N:List Int),ds=[.list ((kd4 T m).map kd3),.list ((kd4 U m).map kd3),.list (M.map PyData.int),.list (N.map PyData.int)]∧1≤m∧m≤16∧M.length=m∧N.length=m∧
 ((∀ f,Iso m T U f→¬Rsp m f M N)→RS (.d .none))∧∀M' N',RefOk m T U M N M' N'→RS (.d (.tuple [.list (M'.map PyData.int),.list (N'.map PyData.int)]))
theorem kpp (T:Rl) {m:Nat} (hm:m≤16):LieOk (kd4 T m) m where
 len:=by unfold kd4;simp
 few:=hm
 one:=fun x hx=>by
  obtain ⟨p,_,rfl⟩:=List.mem_map.mp hx
  have h1:(undr T m p).length≤m:=by unfold undr;exact Nat.le_trans (List.length_filter_le _ _) (by simp)
  have h2:(ovr T m p).length≤m:=by unfold ovr;exact Nat.le_trans (List.length_filter_le _ _) (by simp)
  simp only [List.length_map]
  lia
 inr:=fun x hx=>by
  obtain ⟨p,_,rfl⟩:=List.mem_map.mp hx
  refine ⟨fun q hq=> ?_,fun q hq=> ?_⟩
  · obtain ⟨r,hr,rfl⟩:=List.mem_map.mp hq
    have:=(kbm.mp hr).1
    lia
  · obtain ⟨r,hr,rfl⟩:=List.mem_map.mp hq
    have:=(kc3.mp hr).1
    lia
theorem ksk {T:Rl} {m:Nat} {M:List Int} {p:Nat} (hp:p < m):vwL (kd4 T m) M p=seen T m (gM M) p:=by
 have e:(kd4 T m).getD p ([],[])=((undr T m p).map fun (q:Nat)=>(q:Int),(ovr T m p).map fun (q:Nat)=>(q:Int)):=by unfold kd4;simp [hp]
 unfold vwL seen
 rw [e]
 simp only [List.map_map]
 rfl
theorem kli: ∀{x y:List Vw},x.Pairwise (fun a b=>ltV b a=false)→y.Pairwise (fun a b=>ltV b a=false)→x.Perm y→x=y
 | [],y,_,_,p=>(List.Perm.nil_eq p)
 | a::x,[],_,_,p=>absurd p.length_eq (by simp)
 | a::x,b::y,hx,hy,p=>by
   obtain ⟨h1,h2⟩:=List.pairwise_cons.mp hx
   obtain ⟨h3,h4⟩:=List.pairwise_cons.mp hy
   have e:a=b:=by
    have m1:a∈b::y:=p.mem_iff.mp List.mem_cons_self
    have m2:b∈a::x:=p.mem_iff.mpr List.mem_cons_self
    rcases List.mem_cons.mp m1 with e | m1
    · exact e
    · rcases List.mem_cons.mp m2 with e | m2
      · exact e.symm
      · refine Classical.byContradiction fun ne=> ?_
        rcases ky4.tot a b ne with z | z
        · rw [h3 a m1] at z;cases z
        · rw [h1 b m2] at z;cases z
   subst e
   rw [kli h2 h4 (List.Perm.cons_inv p)]
structure RefI (m:Nat) (T U:Rl) (M N M1 N1:List Int) (kn:Nat):Prop where
 l1:M1.length=m
 l2:N1.length=m
 rsp: ∀f,Iso m T U f→Rsp m f M N→Rsp m f M1 N1
 fin: ∀a b,a < m→b < m→gM M1 a=gM M1 b→gM M a=gM M b
 st:kn=0∨((∀ x∈M1,0≤x∧x < kn)∧(∀ x∈N1,0≤x∧x < kn)∧(∀ j:Nat,j < kn→(j:Int)∈M1))
 le:kn≤m
theorem RefI.start {m:Nat} {T U:Rl} {M N:List Int} (hM:M.length=m) (hN:N.length=m):RefI m T U M N M N 0:=⟨hM,hN,fun q_ q_ r=>r,fun q_ q_ q_ q_ e=>e,.inl rfl,Nat.zero_le _⟩
theorem ktp {T:Rl} {m:Nat} {M:List Int} (hM:M.length=m):(List.range M.length).map (fun p=>vwD (vwL (kd4 T m) M p))=((List.range m).map (seen T m (gM M))).map vwD:=by
 rw [hM,List.map_map]
 exact List.map_congr_left fun p hp=>by rw [ksk (List.mem_range.mp hp)];rfl
theorem kzn: ∀xs ys:List Int,PyData.eqvAll (xs.map PyData.int) (ys.map PyData.int)=decide (xs=ys)
 | [],[]=>rfl
 | [],_::_=>rfl
 | _::_,[]=>rfl
 | x::xs,y::ys=>by
   show (PyData.eqv (.int x) (.int y) && PyData.eqvAll (xs.map PyData.int) (ys.map PyData.int))=_
   rw [ka8,kzn xs ys]
   by_cases h1:x=y <;> by_cases h2:xs=ys <;> simp [h1,h2]
theorem kpq (x y:Vw):PyData.eqv (vwD x) (vwD y)=decide (x=y):=by
 show (PyData.eqv (.int x.1) (.int y.1) && (PyData.eqvAll (x.2.1.map PyData.int) (y.2.1.map PyData.int) && (PyData.eqvAll (x.2.2.map PyData.int) (y.2.2.map PyData.int) && true)))=_
 rw [ka8,kzn,kzn]
 obtain ⟨x1,x2,x3⟩:=x
 obtain ⟨y1,y2,y3⟩:=y
 by_cases h1:x1=y1 <;> by_cases h2:x2=y2 <;> by_cases h3:x3=y3 <;> simp [h1,h2,h3]
theorem kpr: ∀xs ys:List Vw,PyData.eqvAll (xs.map vwD) (ys.map vwD)=decide (xs=ys)
 | [],[]=>rfl
 | [],_::_=>rfl
 | _::_,[]=>rfl
 | x::xs,y::ys=>by
   show (PyData.eqv (vwD x) (vwD y) && PyData.eqvAll (xs.map vwD) (ys.map vwD))=_
   rw [kpq,kpr xs ys]
   by_cases h1:x=y <;> by_cases h2:xs=ys <;> simp [h1,h2]
theorem kwv (xs ys:List Vw):PyData.eqv (.list (xs.map vwD)) (.list (ys.map vwD))=decide (xs=ys):=kpr xs ys
theorem ok_vw (x:Vw):PyData.canLay0 (vwD x)=true:=by
 show (true && (PyData.canLayAll0 (x.2.1.map PyData.int) && (PyData.canLayAll0 (x.2.2.map PyData.int) && true)))=true
 rw [show PyData.canLayAll0 (x.2.1.map PyData.int)=true from kbx _,show PyData.canLayAll0 (x.2.2.map PyData.int)=true from kbx _]
 rfl
theorem ktq (xs:List Vw):okD (.list (xs.map vwD)):=by
 show PyData.canLayAll0 (xs.map vwD)=true
 induction xs with
 | nil=>rfl
 | cons r rs ih=>
   show (PyData.canLay0 (vwD r) && PyData.canLayAll0 (rs.map vwD))=true
   rw [ih,ok_vw];rfl
theorem keg: ∀xs:List Int,PyData.depthAll (xs.map PyData.int)=0
 | []=>rfl
 | x::xs=>by
   show max (PyData.depth (.int x)) (PyData.depthAll (xs.map PyData.int))=0
   rw [keg xs];rfl
theorem kzo (x:Vw):PyData.depth (vwD x)=2:=by
 show max 0 (max (PyData.depthAll (x.2.1.map PyData.int) + 1) (max (PyData.depthAll (x.2.2.map PyData.int) + 1) 0)) + 1=2
 rw [keg,keg];rfl
theorem kzp (xs:List Vw):ki1 (.list (xs.map vwD)):=by
 have:PyData.depthAll (xs.map vwD)≤2:=by
  induction xs with
  | nil=>exact Nat.zero_le _
  | cons r rs ih=>
    show max (PyData.depth (vwD r)) (PyData.depthAll (rs.map vwD))≤2
    rw [kzo]
    lia
 show PyData.depthAll (xs.map vwD) + 1≤9
 lia
noncomputable def kdb (ws:List Vw) (v:Vw):Int:=(ws.idxOf v:Nat)
theorem kps {ws:List Vw} {v:Vw} (h:v∈ws):(v,kdb ws v)∈kmb ws:=by
 have hl:=List.idxOf_lt_length_iff.mpr h
 unfold kmb kdb
 refine List.mem_map.mpr ⟨(v,ws.idxOf v),?_,rfl⟩
 rw [List.mk_mem_zipIdx_iff_getElem?]
 rw [List.getElem?_eq_getElem hl,List.getElem_idxOf hl]
theorem ktr {ws:List Vw} {v:Vw} (h:v∈ws):0≤kdb ws v∧kdb ws v < ws.length:=by
 have hl:=List.idxOf_lt_length_iff.mpr h
 unfold kdb
 lia
theorem kww {ws:List Vw} {u v:Vw} (hu:u∈ws) (hv:v∈ws) (h:kdb ws u=kdb ws v):u=v:=by
 have h1:=List.idxOf_lt_length_iff.mpr hu
 have h2:=List.idxOf_lt_length_iff.mpr hv
 have e:ws.idxOf u=ws.idxOf v:=by unfold kdb at h;lia
 have a:=List.getElem_idxOf h1
 have b:=List.getElem_idxOf h2
 rw [← a,← b]
 simp [e]
theorem kpt: ∀a b,vwD a=vwD b→a=b:=fun a b h=>by
 have:=kpq a b
 rw [h,kpq b b] at this
 simpa using this.symm
theorem klj {f:Nat→Vw} {g:Vw→Int} {m p:Nat} (hp:p < m):gM (((List.range m).map f).map g) p=g (f p):=by
 unfold gM
 simp [hp]
theorem RefI.ge {m:Nat} {T U:Rl} {M N M1 N1:List Int} {kn:Nat} (I:RefI m T U M N M1 N1 kn) {ws:List Vw} (nd:ws.Nodup) (mem: ∀v,v∈ws↔v∈(List.range m).map (seen T m (gM M1))):kn≤ws.length:=by
 rcases I.st with z | ⟨_,_,z⟩
 · lia
 · have sub:((List.range kn).map fun (j:Nat)=>(j:Int)) ⊆ ws.map (·.1):=fun x hx=>by
    obtain ⟨j,hj,rfl⟩:=List.mem_map.mp hx
    obtain ⟨p,hp,e⟩:=List.getElem_of_mem (z j (List.mem_range.mp hj))
    have hp':p < m:=by rw [← I.l1];exact hp
    refine List.mem_map.mpr ⟨seen T m (gM M1) p,(mem _).mpr (List.mem_map_of_mem (List.mem_range.mpr hp')),?_⟩
    show gM M1 p=_
    unfold gM
    rw [List.getD_eq_getElem?_getD,List.getElem?_eq_getElem hp,← e]
    rfl
   have nd2:((List.range kn).map fun (j:Nat)=>(j:Int)).Nodup:=List.Pairwise.map _ (fun a b hab e=>hab (by lia)) List.nodup_range
   have:=nd2.length_le_of_subset sub
   simpa using this
theorem RefI.next {m:Nat} {T U:Rl} {M N M1 N1:List Int} {kn:Nat} (I:RefI m T U M N M1 N1 kn) {ws:List Vw} (nd:ws.Nodup) (mem: ∀v,v∈ws↔v∈(List.range m).map (seen T m (gM M1))) (pm:((List.range m).map (seen T m (gM M1))).Perm ((List.range m).map (seen U m (gM N1)))) (wl:ws.length≤m):
 RefI m T U M N (((List.range m).map (seen T m (gM M1))).map (kdb ws)) (((List.range m).map (seen U m (gM N1))).map (kdb ws)) ws.length where
 l1:=by simp
 l2:=by simp
 rsp:=fun f iso r p hp=>by
  rw [klj hp,klj (iso.lt p hp),iso.seen (I.rsp f iso r) hp]
 fin:=fun a b ha hb e=>by
  rw [klj ha,klj hb] at e
  have:=kww ((mem _).mpr (List.mem_map_of_mem (List.mem_range.mpr ha))) ((mem _).mpr (List.mem_map_of_mem (List.mem_range.mpr hb))) e
  exact I.fin a b ha hb (congrArg (fun v:Vw=>v.1) this)
 st:= .inr ⟨fun x hx=>by
    obtain ⟨v,hv,rfl⟩:=List.mem_map.mp hx
    exact ktr ((mem v).mpr hv),fun x hx=>by
    obtain ⟨v,hv,rfl⟩:=List.mem_map.mp hx
    exact ktr ((mem v).mpr (pm.mem_iff.mpr hv)),fun j hj=>by
    refine List.mem_map.mpr ⟨ws[j],(mem _).mp (List.getElem_mem hj),?_⟩
    unfold kdb
    rw [nd.idxOf_getElem j hj]⟩
 le:=wl
section
variable {P:Program} {w:World} {K:PySem.W.Frag} {mg:Str→Option Value} {base:Heap}
theorem scLy:FnScope ["space"] ["space"] (kag kjf):=⟨rfl,rfl,rfl,by decide +kernel,rfl,by decide +kernel,by decide +kernel⟩
theorem ok_Ly {f:Addr} {fd:FuncData} (F:Fun K "lying" "lying" kjf f fd) (T:Txt K mg) (GPu:Fn P w K mg base "points_under" 1 ["space","point"] (spG K Ppu)) (GPo:Fn P w K mg base "points_over" 1 ["space","point"] (spG K Ppo)):
 FnOk P w K mg base CX0 2 f fd ["space"] (spG K kpg):=by
 refine F.okG scLy (fun ds RS h=> ?_) (fun cdv A outer s H E hr=>(kaj (kdy (kdj (N':=["point","space"]) (fun q_=>(.own (.cap 0 rfl rfl rfl .nil))) (kcm (kaw (kan 0) (kao).bw).bw (fun q_=>T.range)) (ka6 0 (fun q_=>(by decide +kernel:(["point","space"]:List Str).Nodup))) kby (kch (kaa (kdd (kbk GPu (fun q_=>hr.mono (by decide)) (kaa (kac 1) (kaa (kac 0) kak))) (fun q_=>T.tuple)) (kaa (kdd (kbk GPo (fun q_=>hr.mono (by decide)) (kaa (kac 1) (kaa (kac 0) kak))) (fun q_=>T.tuple)) kak))))))) (fun ds RS h=> ?_)
 · obtain ⟨n,ps,rfl,_⟩:=h;rfl
 · obtain ⟨n,ps,rfl,hn,hR⟩:=h
   simp only [rD,xLC,kbu,at0]
   refine ⟨by lia,by lia,?_⟩
   rw [Int.toNat_natCast,kfh]
   refine ⟨Gf (kei n) PyData.int (fun q_=>true) (fun p=>kd3 (pu ps p,po ps p)),fun y hy=> ?_,fun o ho=> ?_⟩
   · obtain ⟨p,hp,rfl⟩:=List.mem_map.mp hy
     exact ⟨n,ps,p,rfl,_,rfl,n,ps,p,rfl,_,rfl,Gf.keep hp rfl rfl⟩
   · rw [Gf.all kb4 ho]
     exact hR
end
section
variable {P:Program} {w:World} {K:PySem.W.Frag} {mg:Str→Option Value} {base:Heap}
theorem scMo:FnScope ["marks","points"] ["marks","points"] (kag ket):=⟨rfl,rfl,rfl,by decide +kernel,rfl,by decide +kernel,by decide +kernel⟩
theorem ok_Mo {f:Addr} {fd:FuncData} (F:Fun K "marks_of" "marks_of" ket f fd) (T:Txt K mg):
 FnOk P w K mg base CX0 1 f fd ["marks","points"] (spG K kho):=by
 refine F.okG scMo (fun ds RS h=> ?_) (fun cdv A outer s H E hr=>(kaj (kbg (kdd (kre (kdj (N':=["point","marks"]) (fun q_=>(.own (.cap 0 rfl rfl rfl .nil))) (kbo (kac 1)) (ka6 0 (fun q_=>(by decide +kernel:(["point","marks"]:List Str).Nodup))) kby (kaw (kan 1) (kap 0))).l (fun q_=>T.sorted)) (fun q_=>T.tuple))))) (fun ds RS h=> ?_)
 · obtain ⟨M,pts,rfl,_⟩:=h;rfl
 · obtain ⟨M,pts,rfl,hl,hin,hR⟩:=h
   simp only [rD,xLC]
   refine ⟨Gf pts PyData.int (fun q_=>true) (fun p=> .int (mAt M p)),fun y hy=> ?_,fun o ho=> ?_⟩
   · obtain ⟨p,hp,rfl⟩:=List.mem_map.mp hy
     obtain ⟨h0,h1⟩:=hin p hp
     exact ⟨p,rfl,_,kgb 0 h0 h1,Gf.keep hp rfl rfl⟩
   · rw [Gf.all kb4 ho]
     refine ⟨pts.map (mAt M),by rw [List.map_map];rfl,by rw [List.length_map];lia,fun ms pm up=> ?_⟩
     rw [klh up pm]
     exact hR
end
section
variable {P:Program} {w:World} {K:PySem.W.Frag} {mg:Str→Option Value} {base:Heap}
theorem scVi:FnScope ["lies","marks"] ["lies","marks"] (kag kjg):=⟨rfl,rfl,rfl,by decide +kernel,rfl,by decide +kernel,by decide +kernel⟩
theorem ok_Vi {f:Addr} {fd:FuncData} (F:Fun K "views" "views" kjg f fd) (T:Txt K mg) (GMo:Fn P w K mg base "marks_of" 1 ["marks","points"] (spG K kho)):
 FnOk P w K mg base CX0 2 f fd ["lies","marks"] (spG K kph):=by
 refine F.okG scVi (fun ds RS h=> ?_) (fun cdv A outer s H E hr=>(kaj (kdy (kdj (N':=["point","marks","lies"]) (fun q_=>(.own (.cap 1 rfl rfl rfl (.cap 0 rfl rfl rfl .nil)))) (kcm (ke4 (kan 1) (fun q_=>T.len)).bw (fun q_=>T.range)) (ka6 0 (fun q_=>(by decide +kernel:(["point","marks","lies"]:List Str).Nodup))) kby (kch (kaa (kaw (kan 1) (kap 0)) (kaa (kau GMo (fun q_=>hr.mono (by decide)) (kaa (kac 1) (kaa (kaw (kaw (kan 2) (kap 0)).q (kao).bw) kak))) (kaa (kau GMo (fun q_=>hr.mono (by decide)) (kaa (kac 1) (kaa (kaw (kaw (kan 2) (kap 0)).q (kao).bw) kak))) kak)))))))) (fun ds RS h=> ?_)
 · obtain ⟨L,M,rfl,_⟩:=h;rfl
 · obtain ⟨L,M,rfl,ok,hR⟩:=h
   simp only [rD,xLC]
   have hm:=ok.few
   rw [List.length_map]
   refine ⟨by lia,by lia,?_⟩
   rw [Int.toNat_natCast,kfh]
   refine ⟨Gf (kei M.length) PyData.int (fun q_=>true) (fun p=>vwD (vwL L M p.toNat)),fun y hy=> ?_,fun o ho=> ?_⟩
   · obtain ⟨p,hp,rfl⟩:=List.mem_map.mp hy
     obtain ⟨h0,h1⟩:=ksi.mp hp
     obtain ⟨q1,q2,q3,q4⟩:=ok.at_ (p:=p.toNat) (by lia)
     have h2:p < (L.length:Int):=by rw [ok.len];exact h1
     exact ⟨p,rfl,_,kgb 0 h0 h1,p,rfl,_,kgb ([],[]) h0 h2,_,rfl,_,at0 _ _,M,_,rfl,q1,q3,_,rfl,p,rfl,_,kgb ([],[]) h0 h2,_,rfl,_,at1 _ _ _,M,_,rfl,q2,q4,_,rfl,Gf.keep hp rfl rfl⟩
   · rw [Gf.all kb4 ho]
     unfold kei
     rw [List.map_map]
     exact hR
end
section
variable {P:Program} {w:World} {K:PySem.W.Frag} {mg:Str→Option Value} {base:Heap}
theorem scNu:FnScope ["some_views","numbers","number","view"] ["some_views"] (kag keu):=⟨rfl,rfl,rfl,by decide +kernel,rfl,by decide +kernel,by decide +kernel⟩
theorem ok_Nu {f:Addr} {fd:FuncData} (F:Fun K "numbered" "numbered" keu f fd) (T:Txt K mg):
 FnOk P w K mg base CX0 1 f fd ["some_views"] (spG K Pnum):=by
 refine F.okG scNu (fun ds RS h=> ?_) (fun cdv A outer s H E hr=>(kae (kvv 1 (fun q_=>scNu.nd))
  (kae (kea (fun q_=>PassesOwn.never) (khf ((krv w (kgi 0) (fun q_=>T.sorted) (fun q_=>T.set) (fun q_=>ka2 hr (by decide))).ew) (fun q_=>T.enumerate)) (kci 2 3 (fun q_=>scNu.nd)) (kaj (kvy 1 (fun q_=>ka2 hr (by decide)) (kac 3) (kac 2))))
  (kaj (kcy 1))))) (fun ds RS h=> ?_)
 · obtain ⟨vs,rfl,_⟩:=h;rfl
 · obtain ⟨vs,rfl,hl,hR⟩:=h
   simp only [rD,kyb]
   refine ⟨vs,rfl,hl,fun ws nd mem up=>⟨fun k env=>∃v2 v3,env=[.d (.list (vs.map vwD)),.dv (kmb (ws.take k)),v2,v3],⟨_,_,rfl⟩,?_,?_⟩⟩
   · rintro k y env hy ⟨v2,v3,rfl⟩
     obtain ⟨x,hx,rfl⟩:=kec hy
     rw [List.getElem?_map] at hx
     obtain ⟨v,hv,rfl⟩:=Option.map_eq_some_iff.mp hx
     have hk:v ∉ ws.take k:=fun z=>kmc nd hv z
     have wl:ws.length≤vs.length:=nd.length_le_of_subset fun v hv=>(mem v).mp hv
     refine ⟨_,_,rfl,_,rfl,_,rfl,_,rfl,?_,?_,_,rfl,v,rfl,?_,.d (.int (k:Nat)),.d (vwD v),?_⟩
     · rw [kef,List.length_take];lia
     · rw [kgc];exact nd.sublist (List.take_sublist _ _)
     · rw [kgc];exact hk
     · rw [kpi hv];rfl
   · rintro env ⟨v2,v3,rfl⟩
     refine ⟨_,rfl,(fun z=>nomatch z),?_⟩
     rw [kco,List.length_map,List.take_length]
     exact hR ws nd mem up
end
section
variable {P:Program} {w:World} {K:PySem.W.Frag} {mg:Str→Option Value} {base:Heap}
theorem scDb:FnScope ["marks","point","mark"] ["marks"] (kag kev):=⟨rfl,rfl,rfl,by decide +kernel,rfl,by decide +kernel,by decide +kernel⟩
theorem ok_Db {f:Addr} {fd:FuncData} (F:Fun K "doubtful" "doubtful" kev f fd) (T:Txt K mg):
 FnOk P w K mg base CX0 1 f fd ["marks"] (spG K kpk):=by
 refine F.okG scDb (fun ds RS h=> ?_) (fun cdv A outer s H E hr=>(kae (kea (fun q_=>PassesOwn.never) (khf (kac 0) (fun q_=>T.enumerate)) (kci 1 2 (fun q_=>scDb.nd)) (kaj (kcn (ka3 kun (krx (kgi 0) (kap 2)).bw (kao).bw) (kaj (kcy 1)) ka7)))
  (kaj (kbg (kbv))))) (fun ds RS h=> ?_)
 · obtain ⟨M,rfl,_⟩:=h;rfl
 · obtain ⟨M,rfl,hl,hR⟩:=h
   simp only [rD,kyb]
   refine ⟨fun k env=>(∀ j,j < k→M.count (M.getD j 0)≤1)∧∃v1 v2,env=[.d (.list (M.map PyData.int)),v1,v2],⟨fun j hj=>absurd hj (Nat.not_lt_zero _),_,_,rfl⟩,?_,?_⟩
   · rintro k y env hy ⟨no,v1,v2,rfl⟩
     obtain ⟨x,hx,rfl⟩:=kec hy
     rw [List.getElem?_map] at hx
     obtain ⟨m,hm,rfl⟩:=Option.map_eq_some_iff.mp hx
     have hk:k < M.length:=(List.getElem?_eq_some_iff.mp hm).1
     have em:M.getD k 0=m:=by rw [List.getD_eq_getElem?_getD,hm];rfl
     refine ⟨_,_,rfl,_,.inr rfl,_,rfl,_,rfl,M,rfl,m,rfl,?_⟩
     by_cases c:1 < M.count m
     · rw [if_pos (decide_eq_true (by lia))]
       refine ⟨_,rfl,(fun z=>nomatch z),?_⟩
       rw [kpm hk (by rw [em];exact c) no] at hR
       exact hR
     · rw [if_neg (by simp;lia)]
       refine ⟨fun j hj=> ?_,.d (.int (k:Nat)),.d (.int m),rfl⟩
       rcases Nat.lt_or_eq_of_le (Nat.le_of_lt_succ hj) with z | rfl
       · exact no j z
       · rw [em];lia
   · rintro env ⟨no,v1,v2,rfl⟩
     rw [kco,List.length_map] at no
     rw [kpn no] at hR
     exact hR
end
section
variable {P:Program} {w:World} {K:PySem.W.Frag} {mg:Str→Option Value} {base:Heap}
theorem scSa:FnScope ["marks","point"] ["marks","point"] (kag kd0):=⟨rfl,rfl,rfl,by decide +kernel,rfl,by decide +kernel,by decide +kernel⟩
theorem ok_Sa {f:Addr} {fd:FuncData} (F:Fun K "set_apart" "set_apart" kd0 f fd) (T:Txt K mg):
 FnOk P w K mg base CX0 1 f fd ["marks","point"] (spG K kpl):=by
 refine F.okG scSa (fun ds RS h=> ?_) (fun cdv A outer s H E hr=>(kaj (kdy (kdj (N':=["place","mark","point","marks"]) (fun q_=>(.own (.own (.cap 1 rfl rfl rfl (.cap 0 rfl rfl rfl .nil))))) (khf (kac 0) (fun q_=>T.enumerate)) (kci 0 1 (fun q_=>(by decide +kernel:(["place","mark","point","marks"]:List Str).Nodup))) kby (kx7 (ka3 (kgx (fun q_=>ka2 hr (by decide))) (kap 0) (kap 2)) (ke4 (kan 3) (fun q_=>T.len)) (kac 1)))))) (fun ds RS h=> ?_)
 · obtain ⟨M,p,rfl,_⟩:=h;rfl
 · obtain ⟨M,p,rfl,hl,hp,hR⟩:=h
   simp only [rD,xLC]
   rw [kpo]
   refine ⟨Gf M.zipIdx kzm (fun q_=>true) (fun x=> .int (if x.2=p then (M.length:Int) else x.1)),fun y hy=> ?_,fun o ho=> ?_⟩
   · obtain ⟨x,hx,rfl⟩:=List.mem_map.mp hy
     refine ⟨_,_,rfl,?_⟩
     show _∧_
     refine ⟨okI _,okI _,.inl (shI _),?_⟩
     rw [ka8,List.length_map]
     by_cases e:x.2=p
     · rw [if_pos (by simp [e])]
       exact Gf.keep hx rfl (by rw [if_pos e])
     · rw [if_neg (by simp;lia)]
       exact Gf.keep hx rfl (by rw [if_neg e])
   · rw [Gf.all ksj ho,kwu]
     exact hR
end
section
variable {P:Program} {w:World} {K:PySem.W.Frag} {mg:Str→Option Value} {base:Heap}
theorem kts:FnScope ["one_lying","other_lying","one_marks","other_marks","known","one_views","other_views","numbers"] ["one_lying","other_lying","one_marks","other_marks"] (kag kf1):=⟨rfl,rfl,rfl,by decide +kernel,rfl,by decide +kernel,by decide +kernel⟩
theorem ok_Rf {f:Addr} {fd:FuncData} (F:Fun K "refined" "refined" kf1 f fd) (T:Txt K mg) (GVi:Fn P w K mg base "views" 2 ["lies","marks"] (spG K kph)) (GNu:Fn P w K mg base "numbered" 1 ["some_views"] (spG K Pnum)):
 FnOk P w K mg base CX0 3 f fd ["one_lying","other_lying","one_marks","other_marks"] (spG K Pref):=by
 refine F.okG kts (fun ds RS h=> ?_) (fun cdv A outer s H E hr=>(kae (ka5 4 (fun q_=>kts.nd) (kao))
  (kaj (kg0 (fun q_=>PassesOwn.never) (ke3 (klv).bw) (kae (ka5 5 (fun q_=>kts.nd) ((kbk GVi (fun q_=>hr.mono (by decide)) (kaa (kac 0) (kaa (kac 2) kak))).ew))
  (kae (ka5 6 (fun q_=>kts.nd) ((kbk GVi (fun q_=>hr.mono (by decide)) (kaa (kac 1) (kaa (kac 3) kak))).ew))
  (kae (kcn (ka3 (ke8 (fun q_=>ka2 hr (by decide))) (kk0 (kgi 5) (fun q_=>T.sorted) (fun q_=>ka2 hr (by decide))).bw (kk0 (kgi 6) (fun q_=>T.sorted) (fun q_=>ka2 hr (by decide))).bw) (kaj (kbg (kbv))) ka7)
  (kae (krd 7 (fun q_=>kts.nd) GNu (fun q_=>hr.mono (by decide)) (kaa (kac 5) kak))
  (kae (kcn (ka3 (kgx (fun q_=>ka2 hr (by decide))) (kon 7 (fun q_=>T.len)).bw (kap 4)) (kaj (kbg (kch (kaa (kac 2) (kaa (kac 3) kak))))) ka7)
  (kae (ka5 4 (fun q_=>kts.nd) (kon 7 (fun q_=>T.len)))
  (kae (kde 2 (fun q_=>kts.nd) (N':=["view","numbers"]) (fun q_=>(.own (.cap 7 rfl rfl rfl .nil))) (kbo (kac 5)) (ka6 0 (fun q_=>(by decide +kernel:(["view","numbers"]:List Str).Nodup))) kby (kol 1 (fun q_=>ka2 hr (by decide)) (kac 0)))
  (DSs.frz 2 (kae (kde 3 (fun q_=>kts.nd) (N':=["view","numbers"]) (fun q_=>(.own (.cap 7 rfl rfl rfl .nil))) (kbo (kac 6)) (ka6 0 (fun q_=>(by decide +kernel:(["view","numbers"]:List Str).Nodup))) kby (kol 1 (fun q_=>ka2 hr (by decide)) (kac 0))) (DSs.frz 3 ka7)))))))))))))) (fun ds RS h=> ?_)
 · obtain ⟨m,T,U,M,N,rfl,_⟩:=h;rfl
 · obtain ⟨m,T,U,M,N,rfl,m1,m16,hM,hN,hX,hR⟩:=h
   simp only [rD,ks2]
   refine ⟨fun k env=>∃(M1 N1:List Int) (kn:Nat) (v5 v6 v7:Dt),env=[.d (.list ((kd4 T m).map kd3)),.d (.list ((kd4 U m).map kd3)),.d (.list (M1.map PyData.int)),.d (.list (N1.map PyData.int)),.d (.int (kn:Nat)),v5,v6,v7]∧RefI m T U M N M1 N1 kn∧k + kn=17,⟨17,M,N,0,.un,.un,.un,rfl,RefI.start hM hN,rfl⟩,?_⟩
   rintro k env ⟨M1,N1,kn,v5,v6,v7,rfl,I,hk⟩
   rw [if_pos trivial]
   have e1:(List.range M1.length).map (fun p=>vwD (vwL (kd4 T m) M1 p))=((List.range m).map (seen T m (gM M1))).map vwD:=ktp I.l1
   have e2:(List.range N1.length).map (fun p=>vwD (vwL (kd4 U m) N1 p))=((List.range m).map (seen U m (gM N1))).map vwD:=ktp I.l2
   refine ⟨_,rfl,_,rfl,kd4 T m,M1,rfl,by rw [I.l1];exact kpp T m16,_,rfl,_,rfl,_,rfl,kd4 U m,N1,rfl,by rw [I.l2];exact kpp U m16,_,rfl,_,.inr rfl,_,e1,fun ws1 p1 u1=>⟨_,.inr rfl,_,e2,fun ws2 p2 u2=>⟨ktq ws1,ktq ws2,.inl (kzp ws1),?_⟩⟩⟩
   rw [kwv]
   by_cases c:ws1=ws2
   · rw [if_neg (by simp [c])]
     have pm:((List.range m).map (seen T m (gM M1))).Perm ((List.range m).map (seen U m (gM N1))):=p1.symm.trans (by rw [c];exact p2)
     rw [e1,e2]
     refine ⟨_,rfl,(List.range m).map (seen T m (gM M1)),rfl,by rw [List.length_map,List.length_range];exact m16,fun ws nd mem up=> ?_⟩
     have wl:ws.length≤m:=by
      have:=nd.length_le_of_subset fun v hv=>(mem v).mp hv
      rwa [List.length_map,List.length_range] at this
     have w1:1≤ws.length:=List.length_pos_of_mem ((mem (seen T m (gM M1) 0)).mpr (List.mem_map_of_mem (List.mem_range.mpr m1)))
     refine ⟨_,rfl,by rw [kef];lia,_,rfl,_,rfl,okI _,okI _,.inl (shI _),?_⟩
     rw [ka8,kef]
     by_cases c2:ws.length=kn
     · rw [if_pos (decide_eq_true (by lia))]
       refine ⟨_,rfl,_,rfl,hR M1 N1 ?_⟩
       rcases I.st with z | ⟨z1,z2,_⟩
       · lia
       · have:=I.le
         exact ⟨I.l1,I.l2,fun x hx=>by have:=z1 x hx;lia,fun x hx=>by have:=z2 x hx;lia,I.rsp,I.fin,pm⟩
     · rw [if_neg (by simp;lia)]
       refine ⟨_,rfl,by rw [kef];lia,?_⟩
       simp only [List.set_cons_zero,List.set_cons_succ,kef]
       have mT: ∀v∈(List.range m).map (seen T m (gM M1)),v∈ws:=fun v hv=>(mem v).mpr hv
       have mU: ∀v∈(List.range m).map (seen U m (gM N1)),v∈ws:=fun v hv=>(mem v).mpr (pm.mem_iff.mpr hv)
       have nk:((kmb ws).map (·.1)).Nodup:=by rw [kgc];exact nd
       simp only [rD,xLC]
       refine ⟨Gf ((List.range m).map (seen T m (gM M1))) vwD (fun q_=>true) (fun v=> .int (kdb ws v)),fun y hy=> ?_,fun o ho=> ?_⟩
       · obtain ⟨v,hv,rfl⟩:=List.mem_map.mp hy
         exact ⟨nk,v,rfl,kdb ws v,kps (mT v hv),Gf.keep hv rfl rfl⟩
       · rw [Gf.all kpt ho]
         refine ⟨Gf ((List.range m).map (seen U m (gM N1))) vwD (fun q_=>true) (fun v=> .int (kdb ws v)),fun y hy=> ?_,fun o2 ho2=> ?_⟩
         · obtain ⟨v,hv,rfl⟩:=List.mem_map.mp hy
           exact ⟨nk,v,rfl,kdb ws v,kps (mU v hv),Gf.keep hv rfl rfl⟩
         · rw [Gf.all kpt ho2]
           have gt:kn < ws.length:=by
            have:=I.ge nd mem
            lia
           refine ⟨17 - ws.length,by lia,((List.range m).map (seen T m (gM M1))).map (kdb ws),((List.range m).map (seen U m (gM N1))).map (kdb ws),ws.length,.d (.list (((List.range m).map (seen T m (gM M1))).map vwD)),.d (.list (((List.range m).map (seen U m (gM N1))).map vwD)),.dv (kmb ws),?_,I.next nd mem pm wl,by lia⟩
           simp only [List.map_map]
           rfl
   · rw [if_pos (by simp [c])]
     refine hX fun f iso r=>c ?_
     exact kli u1 u2 (p1.trans ((iso.all (I.rsp f iso r)).trans p2.symm))
end
noncomputable def Dst (m:Nat) (M:List Int) (d:Nat):Prop:=∃l:List Nat,l.length=d∧(∀ p∈l,p < m)∧l.Pairwise fun a b=>gM M a≠gM M b
theorem Dst.le {m d:Nat} {M:List Int} (h:Dst m M d):d≤m:=by
 obtain ⟨l,rfl,h1,h2⟩:=h
 have nd:l.Nodup:=h2.imp fun {a b} h e=>h (by rw [e])
 have:=nd.length_le_of_subset (l₂:=List.range m) fun x hx=>List.mem_range.mpr (h1 x hx)
 simpa using this
theorem Dst.fine {m d:Nat} {M M':List Int} (h:Dst m M d) (fin: ∀a b,a < m→b < m→gM M' a=gM M' b→gM M a=gM M b):Dst m M' d:=by
 obtain ⟨l,e,h1,h2⟩:=h
 exact ⟨l,e,h1,h2.imp_of_mem fun {a b} ha hb n z=>n (fin a b (h1 a ha) (h1 b hb) z)⟩
theorem khp {M:List Int} {p q:Nat} (hq:q < M.length):gM (kmd M p) q=if q=p then (M.length:Int) else gM M q:=by
 unfold gM kmd
 simp [hq]
theorem ktu {M:List Int} {q:Nat} (hq:q < M.length):gM M q∈M:=by
 unfold gM
 rw [List.getD_eq_getElem?_getD,List.getElem?_eq_getElem hq]
 exact List.getElem_mem hq
theorem Dst.apart {m d:Nat} {M:List Int} (h:Dst m M d) (hM:M.length=m) (r: ∀x∈M,0≤x∧x < m) {p q:Nat} (hp:p < m) (hq:q < m) (ne:q≠p) (e:gM M q=gM M p):Dst m (kmd M p) (d + 1):=by
 obtain ⟨l,rfl,h1,h2⟩:=h
 have hs: ∀x∈l,(if x=p then q else x) < m∧(if x=p then q else x)≠p∧gM M (if x=p then q else x)=gM M x:=fun x hx=>by
  have:=h1 x hx
  by_cases c:x=p
  · rw [if_pos c,c];exact ⟨hq,ne,e⟩
  · rw [if_neg c];exact ⟨this,c,rfl⟩
 have hg: ∀x∈l,gM (kmd M p) (if x=p then q else x)=gM M x:=fun x hx=>by
  obtain ⟨z1,z2,z3⟩:=hs x hx
  rw [khp (by lia),if_neg z2,z3]
 refine ⟨p::l.map (fun x=>if x=p then q else x),by simp,fun x hx=> ?_,List.pairwise_cons.mpr ⟨fun y hy=> ?_,List.pairwise_map.mpr (h2.imp_of_mem fun {a b} ha hb n z=>n (by rw [← hg a ha,← hg b hb,z]))⟩⟩
 · rcases List.mem_cons.mp hx with rfl | hx
   · exact hp
   · obtain ⟨y,hy,rfl⟩:=List.mem_map.mp hx
     exact (hs y hy).1
 · obtain ⟨x,hx,rfl⟩:=List.mem_map.mp hy
   rw [hg x hx,khp (by lia),if_pos rfl]
   have:=r _ (ktu (M:=M) (q:=x) (by rw [hM];exact h1 x hx))
   lia
theorem kpu {a:Int}: ∀{l:List Int},1 < l.count a→∀p:Nat,∃q:Nat,q≠p∧l[q]?=some a
 | [],h,_=>by simp at h
 | x::t,h,p=>by
   rw [List.count_cons] at h
   by_cases c:x=a
   · rw [if_pos (by simp [c])] at h
     obtain ⟨j,hj,e⟩:=List.getElem_of_mem (List.count_pos_iff.mp (show 0 < t.count a by omega))
     by_cases c2:p=0
     · exact ⟨j + 1,by omega,by rw [List.getElem?_cons_succ,List.getElem?_eq_getElem hj,e]⟩
     · exact ⟨0,by omega,by rw [List.getElem?_cons_zero,c]⟩
   · rw [if_neg (by simp [c])] at h
     obtain ⟨q,hq,e⟩:=kpu (l:=t) (by omega) (p - 1)
     by_cases c2:p=0
     · exact ⟨q + 1,by omega,by rw [List.getElem?_cons_succ,e]⟩
     · exact ⟨q + 1,by omega,by rw [List.getElem?_cons_succ,e]⟩
theorem kwx {M:List Int} {p:Nat} (h:kpj M=some p):p < M.length∧∃q,q < M.length∧q≠p∧gM M q=gM M p:=by
 unfold kpj at h
 obtain ⟨h1,h2,_⟩:=List.find?_range_eq_some.mp h
 refine ⟨List.mem_range.mp h2,?_⟩
 obtain ⟨q,hq,e⟩:=kpu (of_decide_eq_true h1) p
 refine ⟨q,(List.getElem?_eq_some_iff.mp e).1,hq,?_⟩
 unfold gM
 rw [List.getD_eq_getElem?_getD,e]
 rfl
theorem kwy {M:List Int} (h:kpj M=none): ∀a b,a < M.length→b < M.length→gM M a=gM M b→a=b:=by
 unfold kpj at h
 have no:=List.find?_range_eq_none.mp h
 have nd:M.Nodup:=List.nodup_iff_count.mpr fun x=>by
  by_cases c:x∈M
  · obtain ⟨j,hj,e⟩:=List.getElem_of_mem c
    have:=no j hj
    rw [List.getD_eq_getElem?_getD,List.getElem?_eq_getElem hj,e] at this
    simp at this
    exact this
  · rw [List.count_eq_zero.mpr c];exact Nat.zero_le _
 intro a b ha hb e
 unfold gM at e
 rw [List.getD_eq_getElem?_getD,List.getD_eq_getElem?_getD,List.getElem?_eq_getElem ha,List.getElem?_eq_getElem hb] at e
 have e:M[a]=M[b]:=e
 have pw:=List.pairwise_iff_getElem.mp nd
 rcases Nat.lt_trichotomy a b with z | z | z
 · exact absurd e (pw a b ha hb z)
 · exact z
 · exact absurd e.symm (pw b a hb ha z)
noncomputable def Bad (m:Nat) (T U:Rl) (M N:List Int) (p j:Nat):Prop:=∀f,Iso m T U f→Rsp m f M N→f p≠j
theorem kpv {m:Nat} {T U:Rl} {M N:List Int} {p j:Nat} (hM:M.length=m) (hN:N.length=m) (hp:p < m) (no: ∀f,Iso m T U f→¬Rsp m f (kmd M p) (kmd N j)):Bad m T U M N p j:=fun f iso r e=>no f iso fun q hq=>by
 have:=iso.lt q hq
 rw [khp (by lia),khp (by lia),hM,hN]
 by_cases c:q=p
 · rw [if_pos c,if_pos (by rw [c];exact e)]
 · rw [if_neg c,if_neg (fun z=>c (iso.inj q p hq hp (z.trans e.symm)))]
   exact r q hq
theorem kpw {U:Rl} {m j:Nat} (hj:j < m):(kd4 U m).getD j ([],[])=((undr U m j).map fun (q:Nat)=>(q:Int),(ovr U m j).map fun (q:Nat)=>(q:Int)):=by unfold kd4;simp [hj]
theorem ksl {m:Nat} {T U:Rl} {M N:List Int} {p i j:Nat} (irr: ∀a,a < m→U a a=false) (hp:p < m) (hi:i < m) (hj:j < m) (h:(kd4 U m).getD j ([],[])=(kd4 U m).getD i ([],[])) (b:Bad m T U M N p i) (e1:gM N i=gM M p):Bad m T U M N p j:=fun f iso r e=>by
 rw [kpw hj,kpw hi] at h
 injection h with h1 h2
 have ci: ∀x y:Nat,(x:Int)=(y:Int)→x=y:=fun x y h=>by lia
 have u:=(List.map_inj_right ci).mp h1
 have o:=(List.map_inj_right ci).mp h2
 have e2:gM N j=gM M p:=by rw [← e];exact (r p hp).symm
 refine b _ (iso.swap hi hj irr u.symm o.symm) (fun q hq=> ?_) ?_
 · show gM M q=gM N (swp i j (f q))
   rw [r q hq]
   unfold swp
   by_cases c:f q=i
   · rw [if_pos c,c,e1,e2]
   · rw [if_neg c]
     by_cases c2:f q=j
     · rw [if_pos c2,c2,e1,e2]
     · rw [if_neg c2]
 · show swp i j (f p)=i
   unfold swp
   rw [e]
   by_cases c:j=i
   · rw [if_pos c,c]
   · rw [if_neg c,if_pos rfl]
theorem kpx (x y:List Int×List Int):PyData.eqv (kd3 x) (kd3 y)=decide (x=y):=by
 show (PyData.eqvAll (x.1.map PyData.int) (y.1.map PyData.int) && (PyData.eqvAll (x.2.map PyData.int) (y.2.map PyData.int) && true))=_
 rw [kzn,kzn]
 obtain ⟨x1,x2⟩:=x
 obtain ⟨y1,y2⟩:=y
 by_cases h1:x1=y1 <;> by_cases h2:x2=y2 <;> simp [h1,h2]
theorem ktv (x:List Int×List Int):PyData.canLay0 (kd3 x)=true:=by
 show (PyData.canLayAll0 (x.1.map PyData.int) && (PyData.canLayAll0 (x.2.map PyData.int) && true))=true
 rw [show PyData.canLayAll0 (x.1.map PyData.int)=true from kbx _,show PyData.canLayAll0 (x.2.map PyData.int)=true from kbx _]
 rfl
theorem kzq (x:List Int×List Int):ki1 (kd3 x):=by
 show max (PyData.depthAll (x.1.map PyData.int) + 1) (max (PyData.depthAll (x.2.map PyData.int) + 1) 0) + 1≤9
 rw [keg,keg]
 decide
theorem kpy: ∀xs:List (List Int×List Int),PyData.canLayAll0 (xs.map kd3)=true
 | []=>rfl
 | x::xs=>by
   show (PyData.canLay0 (kd3 x) && PyData.canLayAll0 (xs.map kd3))=true
   rw [ktv,kpy xs];rfl
theorem kwz (xs:List (List Int×List Int)) (x:List Int×List Int):((xs.map kd3).any fun d=>PyData.eqv d (kd3 x))=decide (x∈xs):=by
 rw [List.any_map]
 rw [Bool.eq_iff_iff,List.any_eq_true,decide_eq_true_iff]
 constructor
 · rintro ⟨y,hy,e⟩
   have e:PyData.eqv (kd3 y) (kd3 x)=true:=e
   rw [kpx] at e
   rw [← of_decide_eq_true e];exact hy
 · intro h
   exact ⟨x,h,by show PyData.eqv (kd3 x) (kd3 x)=true;rw [kpx];simp⟩
noncomputable def Psr (k:Nat) (ds:List PyData) (RS:Dt→Prop):Prop:=∃(m:Nat) (T U:Rl) (M N:List Int) (d:Nat),ds=[.list ((kd4 T m).map kd3),.list ((kd4 U m).map kd3),.list (M.map PyData.int),.list (N.map PyData.int)]∧1≤m∧m≤16∧M.length=m∧N.length=m∧(∀ a,a < m→U a a=false)∧Dst m M d∧m < k + d∧
 ((∀ f,Iso m T U f→¬Rsp m f M N)→RS (.d .none))∧∀g:List Nat,g.length=m→Iso m T U (fun p=>g.getD p 0)→RS (.d (.tuple (g.map fun x=> .int (x:Nat))))
theorem kpz {m:Nat} {T U:Rl} {M N M' N':List Int} (R:RefOk m T U M N M' N') (h:kpj M'=none):(∀ x∈M',x∈N')∧Iso m T U (fun p=>(M'.map fun x=>N'.idxOf x).getD p 0):=by
 have rg: ∀{X:List Int},X.length=m→(List.range m).map (gM X)=X:=fun {X} hX=>by
  apply List.ext_getElem
  · simp [hX]
  · intro i h1 h2
    simp [gM,h2]
 have mp:M'.Perm N':=by
  have:=R.vws.map (fun v:Vw=>v.1)
  rw [List.map_map,List.map_map] at this
  have:((List.range m).map (gM M')).Perm ((List.range m).map (gM N')):=this
  rwa [rg R.l1,rg R.l2] at this
 have mm: ∀x∈M',x∈N':=fun x hx=>mp.mem_iff.mp hx
 refine ⟨mm,kzl R.vws (fun a b ha hb=>kwy h a b (by rw [R.l1];exact ha) (by rw [R.l1];exact hb)) fun p hp=> ?_⟩
 have hp':p < M'.length:=by rw [R.l1];exact hp
 have e:(M'.map fun x=>N'.idxOf x).getD p 0=N'.idxOf (gM M' p):=by simp [gM,hp']
 rw [e]
 have hx:=mm _ (ktu hp')
 have hl:=List.idxOf_lt_length_iff.mpr hx
 refine ⟨by rw [← R.l2];exact hl,?_⟩
 show N'.getD _ 0=_
 rw [List.getD_eq_getElem?_getD,List.getElem?_eq_getElem hl,List.getElem_idxOf hl]
 rfl
theorem ktw {ds:List PyData} {RS:Dt→Prop} (h:Psr 0 ds RS):False:=by
 obtain ⟨m,T,U,M,N,d,_,_,_,_,_,_,D,l,_⟩:=h
 have:=D.le
 lia
section
variable {P:Program} {w:World} {K:PySem.W.Frag} {mg:Str→Option Value} {base:Heap}
theorem kw6:FnScope ["one_lying","other_lying","one_marks","other_marks","finer","point","tried","onto","mark","found"] ["one_lying","other_lying","one_marks","other_marks"] (kag kex):=⟨rfl,rfl,rfl,by decide +kernel,rfl,by decide +kernel,by decide +kernel⟩
theorem kzr {f:Addr} {fd:FuncData} (k:Nat) (F:Fun K "searched" "searched" kex f fd) (T:Txt K mg) (GRf:Fn P w K mg base "refined" 3 ["one_lying","other_lying","one_marks","other_marks"] (spG K Pref)) (GDb:Fn P w K mg base "doubtful" 1 ["marks"] (spG K kpk)) (GSa:Fn P w K mg base "set_apart" 1 ["marks","point"] (spG K kpl)) (GSr:Fn P w K mg base "searched" (4 + k) ["one_lying","other_lying","one_marks","other_marks"] (spG K (Psr k))):
 FnOk P w K mg base CX0 (4 + k + 1) f fd ["one_lying","other_lying","one_marks","other_marks"] (spG K (Psr (k + 1))):=by
 refine F.okG kw6 (fun ds RS h=> ?_) (fun cdv A outer s H E hr=>(kae (ka5 4 (fun q_=>kw6.nd) (kau GRf (fun q_=>hr.mono (by lia)) (kaa (kac 0) (kaa (kac 1) (kaa (kac 2) (kaa (kac 3) kak))))))
  (kae (kcn (ka3 klx (kap 4) (kbv).bw) (kaj (kbg (kbv))) ka7)
  (kae (ka5 5 (fun q_=>kw6.nd) (kau GDb (fun q_=>hr.mono (by lia)) (kaa (kaw (kan 4) (kao).bw) kak)))
  (kae (kcn (ka3 klx (kap 5) (kbv).bw) (kaj (kbg (kdd (kdj (N':=["mark","finer"]) (fun q_=>(.own (.cap 4 rfl rfl rfl .nil))) (kbo (kaw (kan 4) (kao).bw)) (ka6 0 (fun q_=>(by decide +kernel:(["mark","finer"]:List Str).Nodup))) kby (kg1 (kaw (kan 1) (kao).bw).l (kap 0))) (fun q_=>T.tuple)))) ka7)
  (kae (kfu 6 (fun q_=>kw6.nd) (kd9 kak))
  (kae (kea (fun q_=>PassesOwn.never) (khf (kaw (kan 4) (kao).bw) (fun q_=>T.enumerate)) (kci 7 8 (fun q_=>kw6.nd)) (kaj (kcn ((knc (ka3 (kgx (fun q_=>ka2 hr (by decide))) (kap 8) (kaw (kaw (kan 4) (kao).bw).q (kap 5)).bw) (ki2 (ka3 (kqz (fun q_=>ka2 hr (by decide))) (kaw (kan 1) (kap 7)).bw (kap 6)))).t) (kae (ka5 9 (fun q_=>kw6.nd) (kau GSr (fun q_=>hr.mono (by lia)) (kaa (kac 0) (kaa (kac 1) (kaa ((kbk GSa (fun q_=>hr.mono (by lia)) (kaa (kaw (kan 4) (kao).bw) (kaa (kac 5) kak))).ew) (kaa ((kbk GSa (fun q_=>hr.mono (by lia)) (kaa (kaw (kan 4) (kao).bw) (kaa (kac 7) kak))).ew) kak))))))
  (kae (kcn (ka3 kgy (kap 9) (kbv).bw) (kaj (kcy 9)) ka7)
  (kaj (kka 6 (kaw (kan 1) (kap 7)))))) ka7)))
  (kaj (kbg (kbv)))))))))) (fun ds RS h=> ?_)
 · obtain ⟨m,T,U,M,N,d,rfl,_⟩:=h;rfl
 · obtain ⟨m,T,U,M,N,d,rfl,m1,m16,hM,hN,irr,D,hd,hX,hR⟩:=h
   simp only [rD]
   refine ⟨m,T,U,M,N,rfl,m1,m16,hM,hN,fun no=> ?_,fun M' N' R=> ?_⟩
   · refine ⟨.none,rfl,?_⟩
     rw [if_pos (show isNone .none=true from rfl)]
     exact hX no
   · refine ⟨_,rfl,?_⟩
     rw [if_neg (fun z=>nomatch z)]
     refine ⟨_,rfl,_,at0 _ _,M',rfl,by rw [R.l1];exact m16,?_⟩
     cases e:kpj M' with
     | none=>
       obtain ⟨mm,iso⟩:=kpz R e
       refine ⟨.none,rfl,?_⟩
       rw [if_pos (show isNone .none=true from rfl)]
       simp only [rD,xLC]
       refine ⟨_,at0 _ _,_,rfl,Gf M' PyData.int (fun q_=>true) (fun x=> .int ((N'.idxOf x:Nat))),fun y hy=> ?_,fun o ho=> ?_⟩
       · obtain ⟨x,hx,rfl⟩:=List.mem_map.mp hy
         exact ⟨_,at1 _ _ _,_,rfl,N',rfl,x,rfl,mm x hx,Gf.keep hx rfl rfl⟩
       · rw [Gf.all kb4 ho]
         have:=hR _ (by rw [List.length_map];exact R.l1) iso
         rw [List.map_map] at this
         exact this
     | some p=>
       obtain ⟨hp,q,hq,ne,eq⟩:=kwx e
       refine ⟨.int (p:Nat),rfl,?_⟩
       rw [if_neg (show ¬isNone (.int (p:Nat))=true from nofun)]
       simp only [rD,kyb]
       refine ⟨_,at1 _ _ _,_,rfl,fun j env=>∃(tr:List (List Int×List Int)) (v7 v8 v9:Dt),env=[.d (.list ((kd4 T m).map kd3)),.d (.list ((kd4 U m).map kd3)),.d (.list (M.map PyData.int)),.d (.list (N.map PyData.int)),.d (.tuple [.list (M'.map PyData.int),.list (N'.map PyData.int)]),.d (.int (p:Nat)),.o (tr.map kd3),v7,v8,v9]∧tr.length≤j∧(∀ i,i < j→Bad m T U M' N' p i)∧∀x∈tr,∃i,i < m∧x=(kd4 U m).getD i ([],[])∧gM N' i=gM M' p∧Bad m T U M' N' p i,⟨[],_,_,_,rfl,Nat.le_refl _,fun i hi=>absurd hi (Nat.not_lt_zero _),fun x hx=>nomatch hx⟩,?_,?_⟩
       · rintro j y env hy ⟨tr,v7,v8,v9,rfl,tl,bad,htr⟩
         obtain ⟨x,hx,rfl⟩:=kec hy
         rw [List.getElem?_map] at hx
         obtain ⟨n,hn,rfl⟩:=Option.map_eq_some_iff.mp hx
         have hj:j < N'.length:=(List.getElem?_eq_some_iff.mp hn).1
         have hjm:j < m:=by rw [← R.l2];exact hj
         have en:gM N' j=n:=by unfold gM;rw [List.getD_eq_getElem?_getD,hn];rfl
         simp only [rD]
         have hpm:p < m:=by rw [← R.l1];exact hp
         have ep:atI (M'.map PyData.int) (p:Nat)=some (.int (gM M' p)):=kgb 0 (by lia) (by lia)
         have ej:atI ((kd4 U m).map kd3) (j:Nat)=some (kd3 ((kd4 U m).getD j ([],[]))):=kgb ([],[]) (by lia) (by unfold kd4;rw [List.length_map,List.length_range];lia)
         have grow:Bad m T U M' N' p j→∀i,i < j + 1→Bad m T U M' N' p i:=fun b i hi=>by
          rcases Nat.lt_or_eq_of_le (Nat.le_of_lt_succ hi) with z | rfl
          · exact bad i z
          · exact b
         refine ⟨_,_,rfl,_,at0 _ _,_,rfl,_,ep,okI _,okI _,.inl (shI _),?_⟩
         rw [ka8]
         by_cases c:n=gM M' p
         · rw [if_pos (decide_eq_true c)]
           refine ⟨_,rfl,_,ej,kpy tr,ktv _,kzq _,?_⟩
           rw [kwz]
           by_cases c2:(kd4 U m).getD j ([],[])∈tr
           · rw [if_neg (by rw [decide_eq_true c2];exact nofun)]
             obtain ⟨i,hi,e1,e2,b⟩:=htr _ c2
             exact ⟨tr,_,_,_,rfl,by lia,grow (ksl irr hpm hi hjm e1 b e2),htr⟩
           · rw [if_pos (by rw [decide_eq_false c2];rfl)]
             refine ⟨_,at0 _ _,M',p,rfl,by rw [R.l1];exact m16,hp,_,rfl,_,at1 _ _ _,N',j,rfl,by rw [R.l2];exact m16,hj,_,rfl,m,T,U,kmd M' p,kmd N' j,d + 1,rfl,m1,m16,by unfold kmd;simp [R.l1],by unfold kmd;simp [R.l2],irr,(D.fine R.fin).apart R.l1 R.r1 hpm (by rw [← R.l1];exact hq) ne eq,by lia,fun no=> ?_,fun g hg iso=> ?_⟩
             · refine ⟨.none,rfl,?_⟩
               rw [if_neg (show ¬(!isNone .none)=true from nofun)]
               have b:=kpv R.l1 R.l2 hpm no
               refine ⟨_,rfl,_,ej,by rw [List.length_map];lia,tr++[(kd4 U m).getD j ([],[])],.d (.int (j:Nat)),.d (.int n),.d .none,by rw [List.map_append];rfl,by rw [List.length_append];exact Nat.succ_le_succ tl,grow b,fun x hx=> ?_⟩
               rcases List.mem_append.mp hx with z | z
               · exact htr x z
               · rw [List.mem_singleton.mp z]
                 exact ⟨j,hjm,rfl,en.trans c,b⟩
             · refine ⟨_,rfl,?_⟩
               rw [if_pos (show (!isNone (.tuple _))=true from rfl)]
               exact hR g hg iso
         · rw [if_neg (by simp [c]),if_neg id]
           exact ⟨tr,_,_,_,rfl,by lia,grow (fun f iso r e=>c (by rw [← en,← e];exact (r p hpm).symm)),htr⟩
       · rintro env ⟨tr,v7,v8,v9,rfl,tl,bad,htr⟩
         rw [kco,List.length_map,R.l2] at bad
         refine hX fun f iso r=> ?_
         have hpm:p < m:=by rw [← R.l1];exact hp
         exact bad _ (iso.lt p hpm) f iso (R.rsp f iso r) rfl
theorem kzs {f:Addr} {fd:FuncData}:FnOk P w K mg base CX0 4 f fd ["one_lying","other_lying","one_marks","other_marks"] (spG K (Psr 0)):=⟨fun vs H Q E h=>by obtain ⟨ds,RS,_,h,_⟩:=h;exact (ktw h).elim,fun q_ q_ q_ q_ q_ q_ q_ q_ q_ q_ q_ q_ q_ h=>by obtain ⟨ds,RS,_,h,_⟩:=h;exact (ktw h).elim⟩
end
theorem kp0 {c:Nat→Bool} {p:Nat}: ∀n:Nat,(List.range n).filter (fun b=>c b && decide (b=p))=if p < n∧c p=true then [p] else []
 | 0=>by simp
 | n + 1=>by
   rw [List.range_succ,List.filter_append,kp0 n]
   by_cases h:n=p
   · subst h
     by_cases h2:c n=true
     · rw [if_neg (by lia),if_pos ⟨by lia,h2⟩];simp [h2]
     · rw [if_neg (by lia),if_neg (fun z=>h2 z.2)];simp [h2]
   · by_cases h2:p < n∧c p=true
     · rw [if_pos h2,if_pos ⟨by lia,h2.2⟩];simp [h]
     · rw [if_neg h2,if_neg (fun z=>h2 ⟨by lia,z.2⟩)];simp [h]
theorem kzt {n k p:Nat} {T:Rl} (hp:p < n):((kc1 n T k).filter fun q=>decide (q.2=(p:Int))).map (·.1)=if T k p=true then [(k:Int)] else []:=by
 unfold kc1
 rw [List.filter_map,List.map_map,List.filter_filter]
 have e:(List.range n).filter (fun b=>((fun q:Int×Int=>decide (q.2=(p:Int))) ∘ fun (b:Nat)=>((k:Int),(b:Int))) b && T k b)=(List.range n).filter (fun b=>T k b && decide (b=p)):=by
  refine List.filter_congr fun b q_=> ?_
  rw [Bool.and_comm]
  congr 1
  show decide ((b:Int)=(p:Int))=_
  exact decide_eq_decide.mpr (by lia)
 rw [e,kp0 n]
 by_cases h:T k p=true
 · rw [if_pos ⟨hp,h⟩,if_pos h];rfl
 · rw [if_neg (fun z=>h z.2),if_neg h];rfl
theorem kzu {n k p:Nat} {T:Rl}:((kc1 n T k).filter fun q=>decide (q.1=(p:Int))).map (·.2)=if k=p then (ovr T n p).map (fun (q:Nat)=>(q:Int)) else []:=by
 unfold kc1
 rw [List.filter_map,List.map_map,List.filter_filter]
 by_cases h:k=p
 · subst h
   rw [if_pos rfl]
   unfold ovr
   congr 1
   refine List.filter_congr fun b q_=> ?_
   simp
 · rw [if_neg h]
   have e:(List.range n).filter (fun b=>((fun q:Int×Int=>decide (q.1=(p:Int))) ∘ fun (b:Nat)=>((k:Int),(b:Int))) b && T k b)=[]:=List.filter_eq_nil_iff.mpr fun b q_=>by
    show ¬(decide ((k:Int)=(p:Int)) && T k b)=true
    rw [decide_eq_false (by lia)]
    exact nofun
   rw [e];rfl
theorem kzv {n p:Nat} {T:Rl} (hp:p < n): ∀k:Nat,(((List.range k).flatMap (kc1 n T)).filter fun q=>decide (q.2=(p:Int))).map (·.1)=((List.range k).filter fun q=>T q p).map fun (q:Nat)=>(q:Int)
 | 0=>rfl
 | k + 1=>by
   rw [List.range_succ,List.flatMap_append,List.filter_append,List.map_append,kzv hp k,List.filter_append,List.map_append]
   congr 1
   rw [List.flatMap_cons,List.flatMap_nil,List.append_nil,kzt hp]
   by_cases h:T k p=true
   · rw [if_pos h];simp [h]
   · rw [if_neg h];simp [h]
theorem kzw {n p:Nat} {T:Rl}: ∀k:Nat,(((List.range k).flatMap (kc1 n T)).filter fun q=>decide (q.1=(p:Int))).map (·.2)=if p < k then (ovr T n p).map (fun (q:Nat)=>(q:Int)) else []
 | 0=>rfl
 | k + 1=>by
   rw [List.range_succ,List.flatMap_append,List.filter_append,List.map_append,kzw k]
   rw [List.flatMap_cons,List.flatMap_nil,List.append_nil,kzu]
   by_cases h:k=p
   · subst h
     rw [if_neg (by lia),if_pos rfl,if_pos (by lia)];rfl
   · rw [if_neg h,List.append_nil]
     by_cases h2:p < k
     · rw [if_pos h2,if_pos (by lia)]
     · rw [if_neg h2,if_neg (by lia)]
theorem ktx (n:Nat) (T:Rl):((kei n).map fun p=>kd3 (pu (kal n T) p,po (kal n T) p))=(kd4 T n).map kd3:=by
 unfold kd4 kei
 rw [List.map_map,List.map_map]
 refine List.map_congr_left fun p hp=> ?_
 have hp:=List.mem_range.mp hp
 show kd3 (pu (kal n T) (p:Int),po (kal n T) (p:Int))=kd3 _
 rw [show pu (kal n T) (p:Int)=(undr T n p).map fun (q:Nat)=>(q:Int) from kzv hp n]
 rw [show po (kal n T) (p:Int)=(ovr T n p).map fun (q:Nat)=>(q:Int) from (kzw n).trans (if_pos hp)]
theorem kty {n p:Nat} (hp:p < n):gM (List.replicate n 0) p=0:=by unfold gM;simp [hp]
noncomputable def Pren (ds:List PyData) (RS:Dt→Prop):Prop:=∃(n m:Nat) (T U:Rl),ds=[spD n (kal n T),spD m (kal m U)]∧1≤n∧n≤16∧1≤m∧m≤16∧(∀ a,a < m→U a a=false)∧(n≠m→RS (.d .none))∧
 (n=m→((∀ f,¬Iso n T U f)→RS (.d .none))∧∀g:List Nat,g.length=n→Iso n T U (fun p=>g.getD p 0)→RS (.d (.tuple (g.map fun x=> .int (x:Nat)))))
theorem klk: ∀n:Nat,(List.replicate n [PyData.int 0]).flatten=List.replicate n (PyData.int 0)
 | 0=>rfl
 | n + 1=>by rw [List.replicate_succ,List.flatten_cons,klk n];rfl
section
variable {P:Program} {w:World} {K:PySem.W.Frag} {mg:Str→Option Value} {base:Heap}
theorem scRn:FnScope ["one","other","unmarked"] ["one","other"] (kag kew):=⟨rfl,rfl,rfl,by decide +kernel,rfl,by decide +kernel,by decide +kernel⟩
theorem ok_Rn {f:Addr} {fd:FuncData} (F:Fun K "renaming" "renaming" kew f fd) (T:Txt K mg) (GLy:Fn P w K mg base "lying" 2 ["space"] (spG K kpg)) (GSr:Fn P w K mg base "searched" 20 ["one_lying","other_lying","one_marks","other_marks"] (spG K (Psr 16))):
 FnOk P w K mg base CX0 22 f fd ["one","other"] (spG K Pren):=by
 refine F.okG scRn (fun ds RS h=> ?_) (fun cdv A outer s H E hr=>(kae (kcn (ka3 (ke8 (fun q_=>ka2 hr (by decide))) (kaw (kan 0) (kao).bw).bw (kaw (kan 1) (kao).bw).bw) (kaj (kbg (kbv))) ka7)
  (kae (ka5 2 (fun q_=>scRn.nd) ((kx9 (kd9 (kaa (kao) kak)).l (kaw (kan 0) (kao).bw).bw).ew))
  (kaj (kbg (kau GSr (fun q_=>hr.mono (by decide)) (kaa ((kbk GLy (fun q_=>hr.mono (by decide)) (kaa (kac 0) kak)).ew) (kaa ((kbk GLy (fun q_=>hr.mono (by decide)) (kaa (kac 1) kak)).ew) (kaa (kac 2) (kaa (kac 2) kak)))))))))) (fun ds RS h=> ?_)
 · obtain ⟨n,m,T,U,rfl,_⟩:=h;rfl
 · obtain ⟨n,m,T,U,rfl,n1,n16,m1,m16,irr,hN,hS⟩:=h
   simp only [rD,kbu,at0]
   refine ⟨okI _,okI _,.inl (shI _),?_⟩
   rw [ka8]
   by_cases c:n=m
   · subst c
     rw [if_neg (by simp)]
     obtain ⟨h1,h2⟩:=hS rfl
     have er:(List.replicate ((n:Int).toNat) [PyData.int 0]).flatten=(List.replicate n (0:Int)).map PyData.int:=by
      rw [Int.toNat_natCast,List.map_replicate]
      exact klk n
     refine ⟨by lia,by lia,by lia,n,_,rfl,n16,_,rfl,n,_,rfl,n16,_,rfl,n,T,U,List.replicate n 0,List.replicate n 0,1,?_,n1,n16,List.length_replicate,List.length_replicate,irr,⟨[0],rfl,fun p hp=>by rw [List.mem_singleton.mp hp];lia,List.pairwise_singleton _ _⟩,by lia,fun no=> ?_,fun g hg iso=> ?_⟩
     · rw [er,ktx,ktx]
     · exact ⟨_,rfl,h1 fun f iso=>no f iso fun p hp=>by rw [kty hp,kty (iso.lt p hp)]⟩
     · exact ⟨_,rfl,h2 g hg iso⟩
   · rw [if_pos (by simp;lia)]
     exact hN c
end
noncomputable def Srt (qs:List (Int×Int)):Prop:=qs.Pairwise fun x y=>x.1 * 100 + x.2≤y.1 * 100 + y.2
noncomputable def InB (ps:List (Int×Int)):Prop:=∀q∈ps,(0≤q.1∧q.1 < 100)∧0≤q.2∧q.2 < 100
theorem ktz {qs rs:List (Int×Int)} (h:InB qs) (nd1:qs.Nodup) (nd2:rs.Nodup) (h2:Srt qs) (h4:Srt rs) (mem: ∀q,q∈qs↔q∈rs):qs=rs:=by
 refine List.Perm.eq_of_pairwise (le:=fun (x y:Int×Int)=>x.1 * 100 + x.2≤y.1 * 100 + y.2) (fun a b ha hb l1 l2=> ?_) h2 h4 ((List.perm_ext_iff_of_nodup nd1 nd2).mpr mem)
 have ia:=h a ha
 have ib:=h b ((mem b).mpr hb)
 have e1:a.1=b.1:=by lia
 have e2:a.2=b.2:=by lia
 exact Prod.ext e1 e2
theorem kgd {m:Nat} {t:Rel} (hm:m≤16):InB (kal m t):=fun q hq=>by
 obtain ⟨a,b,ha,hb,_,rfl⟩:=kav.mp hq
 refine ⟨⟨?_,?_⟩,?_,?_⟩ <;> (dsimp only;lia)
theorem klm {m:Nat} {t:Rel} {R:Int×Int→Int×Int→Prop} (h: ∀a b c d:Nat,a < m→b < m→c < m→d < m→a < c∨(a=c∧b < d)→R ((a:Int),(b:Int)) ((c:Int),(d:Int))):(kal m t).Pairwise R:=by
 unfold kal
 rw [List.pairwise_flatMap]
 refine ⟨fun a ha=> ?_,?_⟩
 · unfold kc1
   rw [List.pairwise_map]
   have ha:=List.mem_range.mp ha
   refine (List.pairwise_lt_range.filter _).imp_of_mem fun {b d} hb hd lt=> ?_
   exact h a b a d ha (List.mem_range.mp (List.mem_filter.mp hb).1) ha (List.mem_range.mp (List.mem_filter.mp hd).1) (.inr ⟨rfl,lt⟩)
 · refine List.pairwise_lt_range.imp_of_mem fun {a c} ha hc lt x hx y hy=> ?_
   unfold kc1 at hx hy
   obtain ⟨b,hb,rfl⟩:=List.mem_map.mp hx
   obtain ⟨d,hd,rfl⟩:=List.mem_map.mp hy
   exact h a b c d (List.mem_range.mp ha) (List.mem_range.mp (List.mem_filter.mp hb).1) (List.mem_range.mp hc) (List.mem_range.mp (List.mem_filter.mp hd).1) (.inl lt)
theorem kge {m:Nat} {t:Rel} (hm:m≤16):Srt (kal m t):=klm fun a b c d ha hb hc hd h=>by dsimp only;lia
theorem kfi {m:Nat} {t:Rel}:(kal m t).Nodup:=klm fun a b c d ha hb hc hd h z=>by
 have e1:=congrArg Prod.fst z
 have e2:=congrArg Prod.snd z
 dsimp only at e1 e2
 lia
theorem ksm (m:Nat) (t:Rel) (a:Nat):(List.range (a + 1)).flatMap (kc1 m t)=(List.range a).flatMap (kc1 m t)++((List.range m).filter (t a)).map (fun (b:Nat)=>((a:Int),(b:Int))):=by
 rw [List.range_succ,List.flatMap_append]
 simp [kc1]
noncomputable def kqd (f:Nat→Bool) (n:Nat):Nat:=((List.range n).filter f).length
theorem keh (f:Nat→Bool) (n:Nat):kqd f (n + 1)=kqd f n + (if f n=true then 1 else 0):=by
 unfold kqd
 rw [List.range_succ,List.filter_append,List.length_append]
 by_cases h:f n=true <;> simp [h]
noncomputable def kt0 (t:Rel) (n m:Nat):Nat:=((List.range n).flatMap (kc1 m t)).length
theorem khq (t:Rel) (n m:Nat):kt0 t (n + 1) m=kt0 t n m + kqd (t n) m:=by
 unfold kt0 kqd
 rw [ksm,List.length_append,List.length_map]
theorem kln (t:Rel) (m:Nat): ∀n,kt0 t n (m + 1)=kt0 t n m + kqd (fun a=>t a m) n
 | 0=>rfl
 | n + 1=>by
   rw [khq,khq,kln t m n,keh,keh]
   lia
theorem kp1 {f g:Nat→Bool}: ∀{n:Nat},(∀ a,a < n→¬(f a=true∧g a=true))→kqd f n + kqd g n≤n
 | 0,_=>Nat.le_refl _
 | n + 1,h=>by
   have ih:=kp1 (f:=f) (g:=g) (n:=n) fun a ha=>h a (by lia)
   have hn:=h n (by lia)
   rw [keh,keh]
   by_cases h1:f n=true <;> by_cases h2:g n=true
   · exact absurd ⟨h1,h2⟩ hn
   all_goals simp [h1,h2];lia
theorem kp2 {t:Rel}: ∀{m:Nat},(∀ a,a < m→t a a=false)→(∀ a b,a < m→b < m→¬(t a b=true∧t b a=true))→2 * kt0 t m m≤m * (m - 1)
 | 0,_,_=>Nat.le_refl _
 | m + 1,h1,h2=>by
   have ih:=kp2 (t:=t) (m:=m) (fun a ha=>h1 a (by lia)) fun a b ha hb=>h2 a b (by lia) (by lia)
   have c:=kp1 (f:=fun a=>t a m) (g:=t m) (n:=m) fun a ha=>h2 a m (by lia) (by lia)
   have e:kt0 t (m + 1) (m + 1)=kt0 t m m + kqd (fun a=>t a m) m + kqd (t m) m:=by
    rw [khq,kln,keh,if_neg (by rw [h1 m (by lia)];exact Bool.false_ne_true)]
    lia
   rw [e]
   have q:(m + 1) * (m + 1 - 1)=m * (m - 1) + 2 * m:=by
    cases m with
    | zero=>rfl
    | succ k=>simp only [Nat.add_sub_cancel];rw [Nat.add_mul,Nat.mul_add,Nat.mul_add,Nat.mul_add];lia
   lia
theorem IsSp.tri {m:Nat} {ts:List (Int×Int)} (h:IsSp m ts):2 * ts.length≤m * (m - 1):=by
 obtain ⟨t,rfl,h1,h2⟩:=h
 refine kp2 h1 fun a b ha hb z=> ?_
 have:=h2 a b a ha hb ha z.1 z.2
 rw [h1 a ha] at this
 cases this
theorem kp3 {ps:List (Int×Int)} {p:Int} (h:kbh ps p=none):(∀ g,(p,g)∈ps→¬ ∀a,(p,a)∈ps→kr1 ps g a)∧∀g,(g,p)∈ps→¬ ∀a,(a,p)∈ps→kr1 ps a g:=by
 unfold kbh at h
 have h1:kmf ps (po ps p)=none:=by
  cases e:kmf ps (po ps p) with
  | none=>rfl
  | some x=>rw [e] at h;cases h
 have h2:kf8 ps (pu ps p)=none:=by rw [h1] at h;exact h
 refine ⟨fun g hg z=> ?_,fun g hg z=> ?_⟩
 · have:=List.find?_eq_none.mp h1 g (kld.mpr hg)
   exact this (List.all_eq_true.mpr fun a ha=>kb9.mpr (z a (kld.mp ha)))
 · have:=List.find?_eq_none.mp h2 g (kle.mpr hg)
   exact this (List.all_eq_true.mpr fun a ha=>kb9.mpr (z a (kle.mp ha)))
theorem kzx {α:Type} {p q:α→Bool} {l:List α} (h: ∀x∈l,p x=true→q x=true) {y:α} (hy:y∈l) (h1:p y=false) (h2:q y=true):(l.filter p).length < (l.filter q).length:=by
 induction l with
 | nil=>cases hy
 | cons a l ih=>
   have le:(l.filter p).length≤(l.filter q).length:=by
    rw [← List.countP_eq_length_filter,← List.countP_eq_length_filter]
    exact List.countP_mono_left fun x hx=>h x (List.mem_cons_of_mem _ hx)
   rcases List.mem_cons.mp hy with e | hy
   · subst e
     rw [List.filter_cons_of_neg (by rw [h1];exact nofun),List.filter_cons_of_pos h2,List.length_cons]
     lia
   · have:=ih (fun x hx=>h x (List.mem_cons_of_mem _ hx)) hy
     by_cases c:p a=true
     · rw [List.filter_cons_of_pos c,List.filter_cons_of_pos (h a List.mem_cons_self c),List.length_cons,List.length_cons];lia
     · rw [List.filter_cons_of_neg c]
       by_cases c2:q a=true
       · rw [List.filter_cons_of_pos c2,List.length_cons];lia
       · rw [List.filter_cons_of_neg c2];exact this
theorem ksn {n:Nat} {T:Rel} (hn:n≤15) {p:Int} (h0:0≤p) (h1:p < ((n + 1:Nat):Int)):woF (kal (n + 1) T) p=kal n fun a b=>T (upN p.toNat a) (upN p.toNat b):=by
 obtain ⟨k,rfl⟩:=Int.eq_ofNat_of_zero_le h0
 rw [Int.toNat_natCast]
 have fl: ∀q∈(kal (n + 1) T).filter (fun q=>decide ((k:Int)≠q.1) && decide ((k:Int)≠q.2)),(k:Int)≠q.1∧(k:Int)≠q.2:=fun q hq=>by simpa using (List.mem_filter.mp hq).2
 have hw:kqb n (woF (kal (n + 1) T) (k:Int)):=by
  have:=kwr (n:=((n + 1:Nat):Int)) (ps:=kal (n + 1) T) (p:=(k:Int)) (fun q hq=>by
   obtain ⟨a,b,ha,hb,_,rfl⟩:=kav.mp hq
   refine ⟨?_,?_,?_,?_⟩ <;> (dsimp only;lia)) h0 h1
  rwa [sc1] at this
 refine ktz (fun q hq=> ?_) ?_ kfi ?_ (kge (by lia)) fun q=> ?_
 · obtain ⟨a,b,c,d⟩:=hw q hq
   lia
 · unfold woF
   rw [List.nodup_iff_pairwise_ne,List.pairwise_map]
   refine (kfi.filter _).imp_of_mem fun {x y} hx hy ne z=>ne ?_
   have nx:=fl x hx
   have ny:=fl y hy
   have e1:cu (k:Int) x.1=cu (k:Int) y.1:=congrArg Prod.fst z
   have e2:cu (k:Int) x.2=cu (k:Int) y.2:=congrArg Prod.snd z
   unfold cu at e1 e2
   refine Prod.ext ?_ ?_
   · split at e1 <;> split at e1 <;> lia
   · split at e2 <;> split at e2 <;> lia
 · unfold woF Srt
   rw [List.pairwise_map]
   refine ((kge (m:=n + 1) (t:=T) (by lia)).filter _).imp_of_mem fun {x y} hx hy le=> ?_
   have nx:=fl x hx
   have ny:=fl y hy
   have ix:=kgd (by lia) x (List.mem_filter.mp hx).1
   have iy:=kgd (by lia) y (List.mem_filter.mp hy).1
   show cu (k:Int) x.1 * 100 + cu (k:Int) x.2≤cu (k:Int) y.1 * 100 + cu (k:Int) y.2
   unfold cu
   split <;> split <;> split <;> split <;> lia
 · constructor
   · intro hq
     obtain ⟨a,b,c,d⟩:=hw q hq
     have e:q=((q.1.toNat:Int),(q.2.toNat:Int)):=Prod.ext (by dsimp only;lia) (by dsimp only;lia)
     rw [e] at hq ⊢
     have:=ktn.mp hq
     rw [kaz] at this ⊢
     exact ⟨by lia,by lia,this.2.2⟩
   · intro hq
     obtain ⟨a,b,ha,hb,ht,rfl⟩:=kav.mp hq
     rw [ktn,kaz]
     refine ⟨?_,?_,ht⟩ <;> (unfold upN;split <;> lia)
noncomputable def leT (T:Rl) (a b:Nat):Prop:=a=b∨T a b=true
structure OrT (n:Nat) (T:Rl):Prop where
 irr: ∀a,a < n→T a a=false
 trs: ∀a b c,a < n→b < n→c < n→T a b=true→T b c=true→T a c=true
structure Mon (n:Nat) (T:Rl) (m:Nat) (U:Rl) (f:Nat→Nat):Prop where
 lt: ∀a,a < n→f a < m
 le: ∀a b,a < n→b < n→T a b=true→leT U (f a) (f b)
theorem Mon.leq {n m:Nat} {T U:Rl} {f:Nat→Nat} (h:Mon n T m U f) {a b:Nat} (ha:a < n) (hb:b < n) (l:leT T a b):leT U (f a) (f b):=by
 rcases l with rfl | l
 · exact .inl rfl
 · exact h.le a b ha hb l
theorem Mon.comp {n m k:Nat} {T U V:Rl} {f g:Nat→Nat} (h:Mon n T m U f) (h2:Mon m U k V g):Mon n T k V (fun x=>g (f x)):=⟨fun a ha=>h2.lt _ (h.lt a ha),fun a b ha hb l=>h2.leq (h.lt a ha) (h.lt b hb) (h.le a b ha hb l)⟩
inductive Fen (n:Nat) (T:Rl):(Nat→Nat)→Prop
 | id:Fen n T fun x=>x
 | step {f g:Nat→Nat}:Fen n T f→Mon n T n T g→((∀ x,x < n→leT T (f x) (g x))∨∀x,x < n→leT T (g x) (f x))→Fen n T g
theorem Fen.mon {n:Nat} {T:Rl} {f:Nat→Nat} (h:Fen n T f):Mon n T n T f:=by
 cases h with
 | id=>exact ⟨fun a ha=>ha,fun a b q_ q_ l=> .inr l⟩
 | step _ h _=>exact h
structure CoT (m:Nat) (U:Rl):Prop where
 up: ∀p g,p < m→g < m→U p g=true→¬ ∀a,a < m→U p a=true→leT U g a
 dn: ∀p g,p < m→g < m→U g p=true→¬ ∀a,a < m→U a p=true→leT U a g
noncomputable def flT (T:Rl):Rl:=fun a b=>T b a
theorem kp4 {T:Rl} {a b:Nat}:leT (flT T) a b↔leT T b a:=or_congr ⟨Eq.symm,Eq.symm⟩ Iff.rfl
theorem kt1 {m:Nat} {U:Rl} (o:OrT m U) (no: ∀p g,p < m→g < m→U p g=true→¬ ∀a,a < m→U p a=true→leT U g a) {f:Nat→Nat} (M:Mon m U m U f) (up: ∀x,x < m→leT U x (f x)): ∀(k x:Nat),x < m→((List.range m).filter (U x)).length=k→f x=x:=by
 intro k
 induction k using Nat.strongRecOn with
 | _ k ih=>
   intro x hx e
   rcases up x hx with z | z
   · exact z.symm
   · refine absurd ?_ (no x (f x) hx (M.lt x hx) z)
     intro y hy hxy
     have lt:((List.range m).filter (U y)).length < ((List.range m).filter (U x)).length:=
      kzx (fun u hu h=>o.trs x y u hx hy (List.mem_range.mp hu) hxy h) (List.mem_range.mpr hy) (o.irr y hy) hxy
     have:=M.le x y hx hy hxy
     rw [ih _ (by lia) y hy rfl] at this
     exact this
theorem OrT.fl {m:Nat} {U:Rl} (o:OrT m U):OrT m (flT U):=⟨o.irr,fun a b c ha hb hc h1 h2=>o.trs c b a hc hb ha h2 h1⟩
theorem Mon.fl {n m:Nat} {T U:Rl} {f:Nat→Nat} (h:Mon n T m U f):Mon n (flT T) m (flT U) f:=⟨h.lt,fun a b ha hb l=>kp4.mpr (h.le b a hb ha l)⟩
theorem kzy {m:Nat} {U:Rl} (o:OrT m U) (C:CoT m U) {f:Nat→Nat} (M:Mon m U m U f) (nr:(∀ x,x < m→leT U x (f x))∨∀x,x < m→leT U (f x) x): ∀x,x < m→f x=x:=by
 intro x hx
 rcases nr with h | h
 · exact kt1 o C.up M h _ x hx rfl
 · exact kt1 o.fl (fun p g hp hg l z=>C.dn p g hp hg l fun a ha q=>kp4.mp (z a ha q)) M.fl (fun x hx=>kp4.mpr (h x hx)) _ x hx rfl
structure Rt (n:Nat) (T:Rl) (m:Nat) (U:Rl) (i r:Nat→Nat):Prop where
 il: ∀a,a < m→i a < n
 rl: ∀x,x < n→r x < m
 ri: ∀a,a < m→r (i a)=a
 em: ∀a b,a < m→b < m→U a b=T (i a) (i b)
 fen:Fen n T fun x=>i (r x)
theorem Rt.iMon {n m:Nat} {T U:Rl} {i r:Nat→Nat} (R:Rt n T m U i r):Mon m U n T i:=⟨R.il,fun a b ha hb l=> .inr (by rw [← R.em a b ha hb];exact l)⟩
theorem Rt.inj {n m:Nat} {T U:Rl} {i r:Nat→Nat} (R:Rt n T m U i r) {a b:Nat} (ha:a < m) (hb:b < m) (e:i a=i b):a=b:=by rw [← R.ri a ha,e,R.ri b hb]
theorem Rt.rMon {n m:Nat} {T U:Rl} {i r:Nat→Nat} (R:Rt n T m U i r):Mon n T m U r:=⟨R.rl,fun a b ha hb l=>by
 rcases R.fen.mon.le a b ha hb l with z | z
 · exact .inl (R.inj (R.rl a ha) (R.rl b hb) z)
 · exact .inr (by rw [R.em _ _ (R.rl a ha) (R.rl b hb)];exact z)⟩
theorem Rt.ord {n m:Nat} {T U:Rl} {i r:Nat→Nat} (R:Rt n T m U i r) (o:OrT n T):OrT m U:=⟨fun a ha=>by rw [R.em a a ha ha];exact o.irr _ (R.il a ha),fun a b c ha hb hc h1 h2=>by
 rw [R.em _ _ ha hb] at h1
 rw [R.em _ _ hb hc] at h2
 rw [R.em _ _ ha hc]
 exact o.trs _ _ _ (R.il a ha) (R.il b hb) (R.il c hc) h1 h2⟩
theorem Rt.fix {n m:Nat} {T U:Rl} {i r:Nat→Nat} (R:Rt n T m U i r) (o:OrT n T) (C:CoT m U) {f:Nat→Nat} (h:Fen n T f): ∀a,a < m→r (f (i a))=a:=by
 induction h with
 | id=>exact R.ri
 | @step f g hf hg nr ih=>
   refine kzy (R.ord o) C (f:=fun a=>r (g (i a))) ((R.iMon.comp hg).comp R.rMon) ?_
   rcases nr with h | h
   · refine .inl fun a ha=> ?_
     have:=R.rMon.leq (hf.mon.lt _ (R.il a ha)) (hg.lt _ (R.il a ha)) (h _ (R.il a ha))
     rwa [ih a ha] at this
   · refine .inr fun a ha=> ?_
     have:=R.rMon.leq (hg.lt _ (R.il a ha)) (hf.mon.lt _ (R.il a ha)) (h _ (R.il a ha))
     rwa [ih a ha] at this
theorem kgt {m m':Nat} {f:Nat→Nat} (lt: ∀a,a < m→f a < m') (inj: ∀a b,a < m→b < m→f a=f b→a=b):m≤m':=by
 have nd:((List.range m).map f).Nodup:=kce List.nodup_range fun a b ha hb=>inj a b (List.mem_range.mp ha) (List.mem_range.mp hb)
 have:=nd.length_le_of_subset (l₂:=List.range m') fun x hx=>by
  obtain ⟨a,ha,rfl⟩:=List.mem_map.mp hx
  exact List.mem_range.mpr (lt a (List.mem_range.mp ha))
 simpa using this
theorem Rt.iso {n m m':Nat} {T U U':Rl} {i r i' r':Nat→Nat} (R:Rt n T m U i r) (R':Rt n T m' U' i' r') (o:OrT n T) (C:CoT m U) (C':CoT m' U'):m=m'∧∃f,Iso m U U' f:=by
 have h1: ∀a,a < m→r (i' (r' (i a)))=a:=R.fix o C R'.fen
 have h2: ∀a,a < m'→r' (i (r (i' a)))=a:=R'.fix o C' R.fen
 have t1:=R.iMon.comp R'.rMon
 have t2:=R'.iMon.comp R.rMon
 have j1: ∀a b,a < m→b < m→r' (i a)=r' (i b)→a=b:=fun a b ha hb e=>by rw [← h1 a ha,← h1 b hb,e]
 have j2: ∀a b,a < m'→b < m'→r (i' a)=r (i' b)→a=b:=fun a b ha hb e=>by rw [← h2 a ha,← h2 b hb,e]
 have em:m=m':=Nat.le_antisymm (kgt t1.lt j1) (kgt t2.lt j2)
 subst em
 refine ⟨rfl,fun a=>r' (i a),t1.lt,j1,fun a b ha hb=> ?_⟩
 have ou:=R.ord o
 have ou':=R'.ord o
 rw [Bool.eq_iff_iff]
 constructor
 · intro h
   refine (t1.le a b ha hb h).resolve_left fun z=> ?_
   rw [j1 a b ha hb z,ou.irr b hb] at h
   cases h
 · intro h
   have:=t2.le _ _ (t1.lt a ha) (t1.lt b hb) h
   rw [h1 a ha,h1 b hb] at this
   refine this.resolve_left fun z=> ?_
   rw [z,ou'.irr _ (t1.lt b hb)] at h
   cases h
theorem Fen.comp {n:Nat} {T:Rl} {f:Nat→Nat} (h:Fen n T f) {k:Nat} {V:Rl} {L:(Nat→Nat)→Nat→Nat} (h0:Fen k V (L fun x=>x)) (m: ∀g,Mon n T n T g→Mon k V k V (L g)) (l: ∀f g,Mon n T n T f→Mon n T n T g→(∀ x,x < n→leT T (f x) (g x))→∀x,x < k→leT V (L f x) (L g x)):Fen k V (L f):=by
 induction h with
 | id=>exact h0
 | @step f g hf hg nr ih=>exact ih.step (m g hg) (nr.imp (fun h=>l f g hf.mon hg h) fun h=>l g f hg hf.mon h)
theorem Fen.ext {n:Nat} {T:Rl} {f g:Nat→Nat} (h:Fen n T f) (e: ∀x,x < n→f x=g x):Fen n T g:=by
 refine h.step ⟨fun a ha=>by rw [← e a ha];exact h.mon.lt a ha,fun a b ha hb l=>by rw [← e a ha,← e b hb];exact h.mon.le a b ha hb l⟩ (.inl fun x hx=> .inl (e x hx))
theorem Rt.comp {n m k:Nat} {T U V:Rl} {i r i2 r2:Nat→Nat} (R:Rt n T m U i r) (R2:Rt m U k V i2 r2):Rt n T k V (fun a=>i (i2 a)) (fun x=>r2 (r x)):=by
 refine ⟨fun a ha=>R.il _ (R2.il a ha),fun x hx=>R2.rl _ (R.rl x hx),fun a ha=> ?_,fun a b ha hb=> ?_,?_⟩
 · show r2 (r (i (i2 a)))=a
   rw [R.ri _ (R2.il a ha),R2.ri a ha]
 · rw [R2.em a b ha hb,R.em _ _ (R2.il a ha) (R2.il b hb)]
 · exact R2.fen.comp (L:=fun f x=>i (f (r x))) R.fen (fun g hg=>(R.rMon.comp hg).comp R.iMon) fun f g hf hg l x hx=>R.iMon.leq (hf.lt _ (R.rl x hx)) (hg.lt _ (R.rl x hx)) (l _ (R.rl x hx))
theorem Rt.refl {n:Nat} {T:Rl}:Rt n T n T (fun x=>x) (fun x=>x):=⟨fun q_ h=>h,fun q_ h=>h,fun q_ q_=>rfl,fun q_ q_ q_ q_=>rfl,.id⟩
noncomputable def cuN (p x:Nat):Nat:=if p < x then x - 1 else x
noncomputable def fdN (p g x:Nat):Nat:=if x=p then g else x
theorem leP {n:Nat} {T:Rl} {a b:Nat} (h:kr1 (kal n T) (a:Int) (b:Int)):leT T a b:=by
 rcases h with h | h
 · exact .inl (by lia)
 · exact .inr (kaz.mp h).2.2
theorem kzz {n p g:Nat} {T:Rl} (o:OrT n T) (hp:p < n) (hg:g < n) (h:(T p g=true∧∀a,a < n→T p a=true→leT T g a)∨(T g p=true∧∀a,a < n→T a p=true→leT T a g)):Mon n T n T (fdN p g):=by
 refine ⟨fun a ha=>by unfold fdN;split <;> assumption,fun a b ha hb l=> ?_⟩
 unfold fdN
 by_cases ea:a=p
 · subst ea
   rw [if_pos rfl]
   by_cases eb:b=a
   · rw [if_pos eb];exact .inl rfl
   · rw [if_neg eb]
     rcases h with ⟨_,h⟩ | ⟨h,_⟩
     · exact h b hb l
     · exact .inr (o.trs g a b hg hp hb h l)
 · rw [if_neg ea]
   by_cases eb:b=p
   · subst eb
     rw [if_pos rfl]
     rcases h with ⟨h,_⟩ | ⟨_,h⟩
     · exact .inr (o.trs a b g ha hp hg l h)
     · exact h a ha l
   · rw [if_neg eb];exact .inr l
theorem up_cu {p x:Nat} (h:x≠p):upN p (cuN p x)=x:=by unfold upN cuN;split <;> split <;> lia
set_option tactic.hygienic true in
theorem kw0 {n:Nat} {T:Rl} (o:OrT (n + 1) T) {p:Int} (h0:0≤p) (h1:p < ((n + 1:Nat):Int)) (h2:(kbh (kal (n + 1) T) p).isSome=true): ∃r,Rt (n + 1) T n (fun a b=>T (upN p.toNat a) (upN p.toNat b)) (upN p.toNat) r:=by
 obtain ⟨q,rfl⟩:=Int.eq_ofNat_of_zero_le h0
 rw [Int.toNat_natCast]
 obtain ⟨g,hg⟩:=Option.isSome_iff_exists.mp h2
 have gs:=kpc hg
 have gi:0≤g∧g < ((n + 1:Nat):Int):=kpb (n:=((n + 1:Nat):Int)) (fun q hq=>by
  obtain ⟨a,b,ha,hb,_,rfl⟩:=kav.mp hq
  refine ⟨?_,?_,?_,?_⟩ <;> (dsimp only;lia)) hg
 obtain ⟨k,rfl⟩:=Int.eq_ofNat_of_zero_le gi.1
 have hq:q < n + 1:=by lia
 have hk:k < n + 1:=by lia
 have h:(T q k=true∧∀a,a < n + 1→T q a=true→leT T k a)∨(T k q=true∧∀a,a < n + 1→T a q=true→leT T a k):=by
  rcases gs with ⟨a1,a2⟩ | ⟨a1,a2⟩
  · exact .inl ⟨(kaz.mp a1).2.2,fun a ha l=>leP (a2 a (kaz.mpr ⟨hq,ha,l⟩))⟩
  · exact .inr ⟨(kaz.mp a1).2.2,fun a ha l=>leP (a2 a (kaz.mpr ⟨ha,hq,l⟩))⟩
 have ne:k≠q:=fun z=>by
  subst z
  rcases h with ⟨h,_⟩ | ⟨h,_⟩ <;> (rw [o.irr k hk] at h;cases h)
 have M:=kzz o hq hk h
 have nq: ∀x,fdN q k x≠q:=fun x=>by unfold fdN;split <;> assumption
 refine ⟨fun x=>cuN q (fdN q k x),fun a ha=>by unfold upN;split <;> lia,fun x hx=> ?_,fun a ha=> ?_,fun a b ha hb=>rfl,?_⟩
 · have:=M.lt x hx
   have:=nq x
   unfold cuN
   split <;> lia
 · have:fdN q k (upN q a)=upN q a:=if_neg (by unfold upN;split <;> lia)
   rw [this]
   unfold cuN upN
   split <;> split <;> lia
 · have F:Fen (n + 1) T (fdN q k):=by
    refine Fen.id.step M ?_
    rcases h with ⟨h,_⟩ | ⟨h,_⟩
    · refine .inl fun x hx=> ?_
      unfold fdN
      split
      · rename_i e;rw [e];exact .inr h
      · exact .inl rfl
    · refine .inr fun x hx=> ?_
      unfold fdN
      split
      · rename_i e;rw [e];exact .inr h
      · exact .inl rfl
   exact F.ext fun x q_=>(up_cu (nq x)).symm
theorem kp5 {n:Nat} {ps:List (Int×Int)} {row:List Int} {m:Nat} {qs:List (Int×Int)} (w:Walk n ps row m qs): ∀{T:Rl},n≤16→ps=kal n T→OrT n T→1≤n→∃U i r,qs=kal m U∧Rt n T m U i r∧1≤m:=by
 induction w with
 | nil n ps=>exact fun q_ e q_ h=>⟨_,_,_,e,.refl,h⟩
 | @cons n ps p row m qs h0 h1 h2 w ih=>
   intro T hn e o q_
   subst e
   obtain ⟨r,R⟩:=kw0 o h0 h1 h2
   have n1:1≤n:=by
    have:=R.rl 0 (by lia)
    lia
   obtain ⟨U,i2,r2,e2,R2,m1⟩:=ih (by lia) (ksn (by lia) h0 h1) (R.ord o) n1
   exact ⟨U,_,_,e2,R.comp R2,m1⟩
theorem kp6 {m:Nat} {U:Rl} (h:kbe m (kal m U)=[]):CoT m U:=by
 have no: ∀p,p < m→kbh (kal m U) (p:Int)=none:=fun p hp=>by
  cases e:kbh (kal m U) (p:Int) with
  | none=>rfl
  | some x=>
    have:(p:Int)∈kbe m (kal m U):=List.mem_filter.mpr ⟨List.mem_map.mpr ⟨p,List.mem_range.mpr hp,rfl⟩,by rw [e];rfl⟩
    rw [h] at this
    cases this
 have le: ∀a b,a < m→b < m→leT U a b→kr1 (kal m U) (a:Int) (b:Int):=fun a b ha hb l=>l.imp (fun z=>by rw [z]) fun z=>kaz.mpr ⟨ha,hb,z⟩
 refine ⟨fun p g hp hg l z=>(kp3 (no p hp)).1 g (kaz.mpr ⟨hp,hg,l⟩) fun a ha=> ?_,fun p g hp hg l z=>(kp3 (no p hp)).2 g (kaz.mpr ⟨hg,hp,l⟩) fun a ha=> ?_⟩
 · obtain ⟨x,y,hx,hy,t,e⟩:=kav.mp ha
   have e1:a=(y:Int):=congrArg Prod.snd e
   have e2:p=x:=Int.ofNat.inj (congrArg Prod.fst e)
   subst e2 e1
   exact le _ _ hg hy (z y hy t)
 · obtain ⟨x,y,hx,hy,t,e⟩:=kav.mp ha
   have e1:a=(x:Int):=congrArg Prod.fst e
   have e2:p=y:=Int.ofNat.inj (congrArg Prod.snd e)
   subst e2 e1
   exact le _ _ hx hg (z x hx t)
theorem kp7 {n:Nat} {T:Rl} (n16:n≤16) (n1:1≤n) (o:OrT n T) {row row':List Int} {m m':Nat} {qs qs':List (Int×Int)} (w:Walk n (kal n T) row m qs) (hf:kbe m qs=[]) (w':Walk n (kal n T) row' m' qs') (hf':kbe m' qs'=[]): ∃U V:Rl,qs=kal m U∧qs'=kal m V∧m=m'∧OrT m U∧OrT m V∧1≤m∧m≤n∧∃f,Iso m U V f:=by
 obtain ⟨U,i,r,rfl,R,m1⟩:=kp5 w n16 rfl o n1
 obtain ⟨V,i2,r2,rfl,R2,m2⟩:=kp5 w' n16 rfl o n1
 obtain ⟨e,f,iso⟩:=R.iso R2 o (kp6 hf) (kp6 hf')
 subst e
 have:=w.len
 exact ⟨U,V,rfl,rfl,rfl,R.ord o,R2.ord o,m1,by lia,f,iso⟩
noncomputable def rnL (g:List Nat) (q:Int×Int):Int×Int:=((g.getD q.1.toNat 0:Int),(g.getD q.2.toNat 0:Int))
theorem kz0 {n:Nat} {T U:Rl} {g:List Nat} (n16:n≤16) (iso:Iso n T U fun p=>g.getD p 0) {qs:List (Int×Int)} (pm:qs.Perm ((kal n T).map (rnL g))) (up:Srt qs):qs=kal n U:=by
 have mem: ∀q,q∈qs↔q∈kal n U:=fun q=>by
  rw [pm.mem_iff,List.mem_map,kav]
  constructor
  · rintro ⟨r,hr,rfl⟩
    obtain ⟨a,b,ha,hb,ht,rfl⟩:=kav.mp hr
    exact ⟨g.getD a 0,g.getD b 0,iso.lt a ha,iso.lt b hb,by rw [← iso.eq a b ha hb];exact ht,rfl⟩
  · rintro ⟨a,b,ha,hb,ht,rfl⟩
    obtain ⟨x,hx,ex⟩:=iso.onto ha
    obtain ⟨y,hy,ey⟩:=iso.onto hb
    have ex:g.getD x 0=a:=ex
    have ey:g.getD y 0=b:=ey
    refine ⟨((x:Int),(y:Int)),kaz.mpr ⟨hx,hy,?_⟩,?_⟩
    · have e:=iso.eq x y hx hy
      rw [ex,ey] at e
      rw [e];exact ht
    · show ((g.getD x 0:Int),(g.getD y 0:Int))=_
      rw [ex,ey]
 refine ktz (fun q hq=>kgd n16 q ((mem q).mp hq)) (pm.nodup_iff.mpr ?_) kfi up (kge n16) mem
 rw [List.nodup_iff_pairwise_ne,List.pairwise_map]
 refine kfi.imp_of_mem fun {x y} hx hy ne z=>ne ?_
 obtain ⟨a,b,ha,hb,_,rfl⟩:=kav.mp hx
 obtain ⟨c,d,hc,hd,_,rfl⟩:=kav.mp hy
 have e1:((g.getD a 0:Nat):Int)=((g.getD c 0:Nat):Int):=congrArg Prod.fst z
 have e2:((g.getD b 0:Nat):Int)=((g.getD d 0:Nat):Int):=congrArg Prod.snd z
 rw [iso.inj a c ha hc (by lia),iso.inj b d hb hd (by lia)]
theorem kz1 {n:Nat} {g:List Nat} (hl:g.length=n) (lt: ∀a,a < n→g.getD a 0 < n) (inj: ∀a b,a < n→b < n→g.getD a 0=g.getD b 0→a=b) {ms:List Int} (pm:ms.Perm (g.map fun (x:Nat)=>(x:Int))) (up:ms.Pairwise (· ≤ ·)):ms=kei n:=by
 have eg:g=(List.range n).map fun a=>g.getD a 0:=by
  apply List.ext_getElem
  · simp [hl]
  · intro i h1 h2
    simp [h1]
 have nd:g.Nodup:=by
  rw [eg]
  exact kce List.nodup_range fun a b ha hb=>inj a b (List.mem_range.mp ha) (List.mem_range.mp hb)
 have pg:g.Perm (List.range n):=(List.perm_ext_iff_of_nodup nd List.nodup_range).mpr fun x=>by
  rw [List.mem_range]
  constructor
  · intro hx
    rw [eg] at hx
    obtain ⟨a,ha,rfl⟩:=List.mem_map.mp hx
    exact lt a (List.mem_range.mp ha)
  · intro hx
    obtain ⟨a,ha,e⟩:=kpf lt inj hx
    rw [eg,← e]
    exact List.mem_map_of_mem (List.mem_range.mpr ha)
 refine kjq up ?_ (pm.trans (pg.map _))
 unfold kei
 rw [List.pairwise_map]
 exact List.pairwise_lt_range.imp fun h=>by lia
noncomputable def Pisr (ds:List PyData) (RS:Dt→Prop):Prop:=∃(n:Nat) (T U:Rl) (g:List Nat),ds=[spD n (kal n T),spD n (kal n U),.tuple (g.map fun (x:Nat)=>PyData.int (x:Int))]∧n≤16∧(kal n T).length < 64∧g.length=n∧Iso n T U (fun p=>g.getD p 0)∧RS (.d (.bool true))
theorem kz2 {g:List Nat} {k:Nat} (h:k < g.length):atI (g.map fun (x:Nat)=>PyData.int (x:Int)) (k:Int)=some (.int (g.getD k 0:Nat)):=kgb (f:=fun (x:Nat)=>PyData.int (x:Int)) 0 (by lia) (by lia)
theorem kw1 (ps qs:List (Int×Int)):PyData.eqv (.tuple (ps.map pD)) (.tuple (qs.map pD))=decide (ps=qs):=kiv ps qs
theorem kt2 (ps:List (Int×Int)):okD (.tuple (ps.map pD)):=kcp ps
theorem kz3 (ps:List (Int×Int)):ki1 (.tuple (ps.map pD)):=by
 show PyData.depthAll (ps.map pD) + 1≤9
 have:=kf9 ps
 lia
section
variable {P:Program} {w:World} {K:PySem.W.Frag} {mg:Str→Option Value} {base:Heap}
theorem scIr:FnScope ["one","other","row"] ["one","other","row"] (kag kbs):=⟨rfl,rfl,rfl,by decide +kernel,rfl,by decide +kernel,by decide +kernel⟩
theorem ok_Ir {f:Addr} {fd:FuncData} (F:Fun K "_law_is_renaming" "_law_is_renaming" kbs f fd) (T:Txt K mg) (GDWh:Fn P w K mg base "_law_whole" 1 ["found"] (spG K ko7)):
 FnOk P w K mg base CX0 2 f fd ["one","other","row"] (spG K Pisr):=by
 refine F.okG scIr (fun ds RS h=> ?_) (fun cdv A outer s H E hr=>(kae (kcn ((kqv (kh8 (ke3 (kx8 (kap 2) kk3 (fun q_=>T.tuple) (fun q_=>T.isi)).bw)) (kqv (ka3 (ke8 (fun q_=>ka2 hr (by decide))) (ke4 (kan 2) (fun q_=>T.len)).bw (kaw (kan 0) (kao).bw).bw) (kna (ka3 (ke8 (fun q_=>ka2 hr (by decide))) (kaw (kan 0) (kao).bw).bw (kaw (kan 1) (kao).bw).bw)))).t) (kaj (kbg (klv))) ka7)
  (kae (kcn ((kqv (kh8 (ke3 (kkb (kdj (N':=["point"]) (fun q_=>(.own .nil)) (kbo (kac 2)) (ka6 0 (fun q_=>(by decide +kernel:(["point"]:List Str).Nodup))) kby (kau GDWh (fun q_=>hr.mono (by decide)) (kaa (kac 0) kak))).l (fun q_=>T.all)).bw)) (kna (ka3 (ke8 (fun q_=>ka2 hr (by decide))) (kot (kan 2) (fun q_=>T.sorted)).bw (ke5 (kaw (kan 0) (kao).bw).bw (fun q_=>T.list) (fun q_=>T.range)).bw))).t) (kaj (kbg (klv))) ka7)
  (kaj (kbg (km7 (kgx (fun q_=>ka2 hr (by decide))) (kdd (kq5 (kdj (N':=["a","b","row"]) (fun q_=>(.own (.own (.cap 2 rfl rfl rfl .nil)))) (kbo (kaw (kan 0) (kao).bw)) (kci 0 1 (fun q_=>(by decide +kernel:(["a","b","row"]:List Str).Nodup))) kby (kch (kaa (kaw (kan 2) (kap 0)) (kaa (kaw (kan 2) (kap 1)) kak)))).l (fun q_=>T.sorted) (fun q_=>ka2 hr (by decide))) (fun q_=>T.tuple)).bw (kaw (kan 1) (kao).bw).bw)))))) (fun ds RS h=> ?_)
 · obtain ⟨n,T,U,g,rfl,_⟩:=h;rfl
 · obtain ⟨n,T',U,g,rfl,n16,h64,gl,iso,hR⟩:=h
   have eg:(g.map fun (x:Nat)=>PyData.int (x:Int))=(g.map fun (x:Nat)=>(x:Int)).map PyData.int:=by rw [List.map_map];rfl
   refine kb8 (fun env=>env=[.d (spD n (kal n T')),.d (spD n (kal n U)),.d (.tuple (g.map fun (x:Nat)=>PyData.int (x:Int)))]) (fun N hN=> ?_) ?_
   · simp only [rD,kbu,at0]
     refine ⟨rfl,_,T.ktt,kp9 rfl ⟨okI _,okI _,.inl (shI _),kp9 ?_ ⟨okI _,okI _,.inl (shI _),kp9 ?_ (hN _ rfl)⟩⟩⟩
     · rw [ka8,List.length_map,gl];simp
     · rw [ka8];simp
   rintro env rfl
   refine kb8 (fun env=>env=[.d (spD n (kal n T')),.d (spD n (kal n U)),.d (.tuple (g.map fun (x:Nat)=>PyData.int (x:Int)))]) (fun N hN=> ?_) ?_
   · simp only [rD,xLC,kbu,at0]
     refine ⟨Gf g (fun (x:Nat)=>PyData.int (x:Int)) (fun q_=>true) (fun q_=> .bool true),fun y hy=> ?_,fun o ho=> ?_⟩
     · obtain ⟨x,hx,rfl⟩:=List.mem_map.mp hy
       exact ⟨_,rfl,_,rfl,Gf.keep hx rfl rfl⟩
     · rw [Gf.all ki5 ho]
       refine ⟨g.map fun q_=>true,by rw [List.map_map];rfl,?_⟩
       rw [all_map]
       refine kp9 (by simp) ⟨_,eg,by rw [List.length_map];lia,fun ms pm up=> ?_⟩
       have em:=kz1 gl (fun a ha=>iso.lt a ha) (fun a b ha hb=>iso.inj a b ha hb) pm up
       rw [Int.toNat_natCast,kfh,em]
       refine ⟨by lia,by lia,kpe _,kpe _,.inl (kto _),kp9 ?_ (hN _ rfl)⟩
       rw [show PyData.eqv (.list ((kei n).map PyData.int)) (.list ((kei n).map PyData.int))=decide (kei n=kei n) from khn _ _];simp
   rintro env rfl
   simp only [rD,xLC,kbu,at1]
   refine ⟨Gf (kal n T') pD (fun q_=>true) (fun q=>pD (rnL g q)),fun y hy=> ?_,fun o ho=> ?_⟩
   · obtain ⟨q,hq,rfl⟩:=List.mem_map.mp hy
     obtain ⟨a,b,ha,hb,_,rfl⟩:=kav.mp hq
     exact ⟨_,_,rfl,_,rfl,_,kz2 (by lia),_,rfl,_,kz2 (by lia),Gf.keep hq rfl rfl⟩
   · rw [Gf.all kf7 ho]
     refine ⟨(kal n T').map (rnL g),by rw [List.map_map];rfl,by rw [List.length_map];exact h64,100,fun q hq=> ?_,fun qs pm up=> ?_⟩
     · obtain ⟨r,hr,rfl⟩:=List.mem_map.mp hq
       obtain ⟨a,b,ha,hb,_,rfl⟩:=kav.mp hr
       have:=iso.lt b hb
       show 0≤((g.getD b 0:Nat):Int)∧((g.getD b 0:Nat):Int) < 100
       have this:g.getD b 0 < n:=this
       lia
     · have e:=kz0 n16 iso pm up
       subst e
       refine ⟨kt2 _,kt2 _,.inl (kz3 _),?_⟩
       show RS (.d (.bool (PyData.eqv (.tuple ((kal n U).map pD)) (.tuple ((kal n U).map pD)))))
       rw [kw1]
       simpa using hR
end
theorem three {α:Type} {a b c y:α} {k:Nat} (h:[a,b,c][k]?=some y):y=a∨y=b∨y=c:=by
 have:=List.mem_of_getElem? h
 simpa using this
section
variable {P:Program} {w:World} {K:PySem.W.Frag} {mg:Str→Option Value} {base:Heap}
theorem kme:FnScope ["script","space","one","other","third","first","second"] ["script"] (kag kr0):=⟨rfl,rfl,rfl,by decide +kernel,rfl,by decide +kernel,by decide +kernel⟩
theorem kz4 {f:Addr} {fd:FuncData} (F:Fun K "law" "law" kr0 f fd) (T:Txt K mg) (GDSp:Fn P w K mg base "_law_space" 3 ["script","at","most"] (spG K ko8)) (GDw:Fn P w K mg base "_law_drawn_row" 3 ["space","script","at"] (spG K kpd)) (GLk:Fn P w K mg base "_law_walk" 3 ["space","row"] (spG K kpa)) (GCo:Fn P w K mg base "row_to_core" 5 ["space"] (spG K kwt)) (GRn:Fn P w K mg base "renaming" 22 ["one","other"] (spG K Pren)) (GIr:Fn P w K mg base "_law_is_renaming" 2 ["one","other","row"] (spG K Pisr)):
 FnOk P w K mg base CX0 24 f fd ["script"] (spG K Plaw):=by
 refine F.okG kme (fun ds RS h=> ?_) (fun cdv A outer s H E hr=>(kae (ka5 1 (fun q_=>kme.nd) (kau GDSp (fun q_=>hr.mono (by decide)) (kaa (kac 0) (kaa (kao) (kaa (kao) kak)))))
  (kae (ka5 2 (fun q_=>kme.nd) (kaw (kau GLk (fun q_=>hr.mono (by decide)) (kaa (kac 1) (kaa ((kbk GDw (fun q_=>hr.mono (by decide)) (kaa (kac 1) (kaa (kac 0) (kaa (kao) kak)))).ew) kak))).q (kao).bw))
  (kae (ka5 3 (fun q_=>kme.nd) (kaw (kau GLk (fun q_=>hr.mono (by decide)) (kaa (kac 1) (kaa ((kbk GDw (fun q_=>hr.mono (by decide)) (kaa (kac 1) (kaa (kac 0) (kaa (kao) kak)))).ew) kak))).q (kao).bw))
  (kae (ka5 4 (fun q_=>kme.nd) (kau GLk (fun q_=>hr.mono (by decide)) (kaa (kac 1) (kaa ((kbk GCo (fun q_=>hr.mono (by decide)) (kaa (kac 1) kak)).ew) kak))))
  (kae (kcn (ka3 klx (kap 4) (kbv).bw) (kaj (kbg (klv))) ka7)
  (kae (kea (fun q_=>PassesOwn.never) (kbo ((kd9 (kaa (kch (kaa (kac 2) (kaa (kac 3) kak))) (kaa (kch (kaa (kaw (kan 4) (kao).bw) (kaa (kac 2) kak))) (kaa (kch (kaa (kac 3) (kaa (kaw (kan 4) (kao).bw) kak))) kak)))).ew)) (kci 5 6 (fun q_=>kme.nd)) (kaj (kcn (kh8 (ke3 (kau GIr (fun q_=>hr.mono (by decide)) (kaa (kac 5) (kaa (kac 6) (kaa (kau GRn (fun q_=>hr.mono (by decide)) (kaa (kac 5) (kaa (kac 6) kak))) kak)))).bw)) (kaj (kbg (klv))) ka7)))
  (kaj (kbg (klv)))))))))) (fun ds RS h=> ?_)
 · obtain ⟨ns,rfl,_⟩:=h;rfl
 · obtain ⟨ns,rfl,hn,hR⟩:=h
   refine kb8 (fun env=>∃(n:Nat) (ps:List (Int×Int)),env=[.d (ke7 ns),.d (spD n ps),.un,.un,.un,.un,.un]∧1≤n∧n≤10∧IsSp n ps) (fun N hN=> ?_) ?_
   · simp only [rD]
     exact ⟨ns,0,10,rfl,by decide,by decide,fun n ps h1 h2 h3=>⟨_,rfl,hN _ ⟨n,ps,rfl,h1,by lia,h3⟩⟩⟩
   rintro env ⟨n,ps,rfl,n1,n10,sp⟩
   have hin:kqb n ps:=sp.inR
   obtain ⟨T0,e0,t1,t2⟩:=sp
   refine kb8 (fun env=>∃(row:List Int) (m:Nat) (qs:List (Int×Int)),env=[.d (ke7 ns),.d (spD n ps),.d (spD m qs),.un,.un,.un,.un]∧Walk n ps row m qs∧kbe m qs=[]) (fun N hN=> ?_) ?_
   · simp only [rD]
     exact ⟨n,ps,ns,1,rfl,by lia,hin,fun row m qs w hf=>⟨_,rfl,n,ps,row,m,qs,rfl,by lia,hin,w,_,rfl,_,rfl,_,at0 _ _,hN _ ⟨row,m,qs,rfl,w,hf⟩⟩⟩
   rintro env ⟨row1,m1,qs1,rfl,w1,f1⟩
   refine kb8 (fun env=>∃(row:List Int) (m:Nat) (qs:List (Int×Int)),env=[.d (ke7 ns),.d (spD n ps),.d (spD m1 qs1),.d (spD m qs),.un,.un,.un]∧Walk n ps row m qs∧kbe m qs=[]) (fun N hN=> ?_) ?_
   · simp only [rD]
     exact ⟨n,ps,ns,2,rfl,by lia,hin,fun row m qs w hf=>⟨_,rfl,n,ps,row,m,qs,rfl,by lia,hin,w,_,rfl,_,rfl,_,at0 _ _,hN _ ⟨row,m,qs,rfl,w,hf⟩⟩⟩
   rintro env ⟨row2,m2,qs2,rfl,w2,f2⟩
   refine kb8 (fun env=>∃(row:List Int) (m:Nat) (qs:List (Int×Int)) (x y:PyData),env=[.d (ke7 ns),.d (spD n ps),.d (spD m1 qs1),.d (spD m2 qs2),.d (.tuple [spD m qs,x,y]),.un,.un]∧Walk n ps row m qs∧kbe m qs=[]) (fun N hN=> ?_) ?_
   · simp only [rD]
     exact ⟨n,ps,rfl,by lia,fun row m qs w hf=>⟨_,rfl,n,ps,row,m,qs,rfl,by lia,hin,w,_,rfl,hN _ ⟨row,m,qs,_,_,rfl,w,hf⟩⟩⟩
   rintro env ⟨row3,m3,qs3,x3,y3,rfl,w3,f3⟩
   refine kb8 (fun env=>env=[.d (ke7 ns),.d (spD n ps),.d (spD m1 qs1),.d (spD m2 qs2),.d (.tuple [spD m3 qs3,x3,y3]),.un,.un]) (fun N hN=> ?_) ?_
   · simp only [rD]
     exact kp9 rfl (hN _ rfl)
   rintro env rfl
   simp only [rD,kyb]
   refine ⟨_,at0 _ _,_,at0 _ _,fun k env=>∃v5 v6,env=[.d (ke7 ns),.d (spD n ps),.d (spD m1 qs1),.d (spD m2 qs2),.d (.tuple [spD m3 qs3,x3,y3]),v5,v6],⟨_,_,rfl⟩,?_,?_⟩
   · rintro k y env hy ⟨v5,v6,rfl⟩
     obtain ⟨a,pa,b,pb,ra,rb,rfl,wa,fa,wb,fb⟩: ∃(a:Nat) (pa:List (Int×Int)) (b:Nat) (pb:List (Int×Int)) (ra rb:List Int),y= .tuple [spD a pa,spD b pb]∧Walk n ps ra a pa∧kbe a pa=[]∧Walk n ps rb b pb∧kbe b pb=[]:=by
      rcases three hy with rfl | rfl | rfl
      · exact ⟨_,_,_,_,_,_,rfl,w1,f1,w2,f2⟩
      · exact ⟨_,_,_,_,_,_,rfl,w3,f3,w1,f1⟩
      · exact ⟨_,_,_,_,_,_,rfl,w2,f2,w3,f3⟩
     subst e0
     obtain ⟨T',U,rfl,rfl,rfl,oT,oU,a1,an,f,iso⟩:=kp7 (by lia) n1 ⟨t1,t2⟩ wa fa wb fb
     have tri:=IsSp.tri ⟨T',rfl,oT.irr,oT.trs⟩
     have tri2:a * (a - 1)≤10 * 9:=Nat.mul_le_mul (by lia) (by lia)
     simp only [rD]
     refine ⟨_,_,rfl,a,a,T',U,rfl,a1,by lia,a1,by lia,oU.irr,fun z=>absurd rfl z,fun q_=>⟨fun z=>absurd iso (z f),fun g gl ig=>⟨_,rfl,a,T',U,g,rfl,by lia,by lia,gl,ig,_,rfl,?_⟩⟩⟩
     exact ⟨_,rfl,kp9 rfl ⟨_,_,rfl⟩⟩
   · rintro env ⟨v5,v6,rfl⟩
     exact hR
end
inductive HasFn (K:PySem.W.Frag) (x:Str) (st:Stmt):Prop
 | mk {f:Addr} {od an:Option Addr} {sl:Array (Option Value)} {oc kV dc pm cd ct:Value} (a:PySem.W.nsIn K mainGlobals x=some (some (.ref f)))
   (l:K.lookup f=some ⟨oc,od,.func (PySem.W.fnOf x x (kb2 st) (kbr st) (kag st) .none kV dc pm an cd ct),sl⟩) (c:PySem.W.codeIn K cd x=true) (k:PySem.W.keepIn K (.ref f)=true):HasFn K x st
section
variable {P:Program} {w:World} {K:PySem.W.Frag} {mg:Str→Option Value} {base h:Heap} {x:Str} {st:Stmt} {k:Nat} {ps:List Str}
noncomputable abbrev Bd (x:Str) (st:Stmt) (ps:List Str):Prop:=∀(kV doc pm:Value) (an:Option Addr) (cdv ct:Value) (us:List Value),us.length=ps.length→bindArgs (PySem.W.fnOf x x (kb2 st) (kbr st) (kag st) .none kV doc pm an cdv ct) ⟨us,[]⟩=pure (ps.zip us)
theorem bd1 {p:Str} (h: ∀(kV doc pm:Value) (an:Option Addr) (cdv ct u:Value),bindArgs (PySem.W.fnOf x x (kb2 st) (kbr st) (kag st) .none kV doc pm an cdv ct) ⟨[u],[]⟩=pure [(p,u)]):Bd x st [p]:=by
 intro kV doc pm an cdv ct us hl
 obtain ⟨u,rfl⟩:=List.length_eq_one_iff.mp hl
 exact h kV doc pm an cdv ct u
theorem bd2 {p q:Str} (h: ∀(kV doc pm:Value) (an:Option Addr) (cdv ct u v:Value),bindArgs (PySem.W.fnOf x x (kb2 st) (kbr st) (kag st) .none kV doc pm an cdv ct) ⟨[u,v],[]⟩=pure [(p,u),(q,v)]):Bd x st [p,q]:=by
 intro kV doc pm an cdv ct us hl
 cases us with
 | nil=>cases hl
 | cons u us=>
   obtain ⟨v,rfl⟩:=List.length_eq_one_iff.mp (Nat.succ.inj hl)
   exact h kV doc pm an cdv ct u v
theorem bd3 {p q r:Str} (h: ∀(kV doc pm:Value) (an:Option Addr) (cdv ct u v w:Value),bindArgs (PySem.W.fnOf x x (kb2 st) (kbr st) (kag st) .none kV doc pm an cdv ct) ⟨[u,v,w],[]⟩=pure [(p,u),(q,v),(r,w)]):Bd x st [p,q,r]:=by
 intro kV doc pm an cdv ct us hl
 cases us with
 | nil=>cases hl
 | cons u us=>
   cases us with
   | nil=>cases hl
   | cons v us=>
     obtain ⟨w,rfl⟩:=List.length_eq_one_iff.mp (Nat.succ.inj (Nat.succ.inj hl))
     exact h kV doc pm an cdv ct u v w
theorem bd4 {p q r z:Str} (h: ∀(kV doc pm:Value) (an:Option Addr) (cdv ct u v w y:Value),bindArgs (PySem.W.fnOf x x (kb2 st) (kbr st) (kag st) .none kV doc pm an cdv ct) ⟨[u,v,w,y],[]⟩=pure [(p,u),(q,v),(r,w),(z,y)]):Bd x st [p,q,r,z]:=by
 intro kV doc pm an cdv ct us hl
 cases us with
 | nil=>cases hl
 | cons u us=>
   cases us with
   | nil=>cases hl
   | cons v us=>
     cases us with
     | nil=>cases hl
     | cons w us=>
       obtain ⟨y,rfl⟩:=List.length_eq_one_iff.mp (Nat.succ.inj (Nat.succ.inj (Nat.succ.inj hl)))
       exact h kV doc pm an cdv ct u v w y
theorem HasFn.fn {sp:Sp} (H:HasFn K x st) (X:K.In h) (G:h.Ns mainGlobals mg) (hb:Bd x st ps) (ok: ∀{f:Addr} {fd:FuncData},Fun K x x st f fd→FnOk P w K mg base CX0 k f fd ps sp):Fn P w K mg base x k ps sp:=by
 obtain ⟨a,l,c,kk⟩:=H
 have F:Fun K x x st _ _:=ksu l c kk
 exact ⟨_,_,ok F,PySem.W.mg_of X G a,kk,F.binds hb⟩
end
set_option maxHeartbeats 8000000 in
theorem kz5 {l:PySem.W.OpenLaw} {w:World} {K:PySem.W.Frag} {h:Heap} {mg:Str→Option Value} {fa:Addr} (X:K.In h) (G:h.Ns mainGlobals mg) (hfa:mg "law"=some (.ref fa))
 {f36:Addr} {od36 an36:Option Addr} {sl36:Array (Option Value)} {oc36 kV36 dc36 pm36 cd36 ct36:Value}
 (h1:HasFn K "_law_stir" kv6)
 (h2:HasFn K "_law_raw" sRaw)
 (h3:HasFn K "_law_whole" kow)
 (h4:HasFn K "_law_draw" kv7)
 (h5:HasFn K "_law_closed" kjh)
 (h6:HasFn K "_law_by_digits" sDig)
 (h7:HasFn K "_law_mixed" sMix)
 (h8:HasFn K "_law_space" kox)
 (h9:HasFn K "is_point" kou)
 (h10:HasFn K "same_or_under" kv5)
 (h11:HasFn K "points_under" kcj)
 (h12:HasFn K "points_over" kcz)
 (h13:HasFn K "lowest" khg)
 (h14:HasFn K "highest" kfz)
 (h15:HasFn K "goal" kov)
 (h16:HasFn K "_law_goal" kd1)
 (h17:HasFn K "foldable" kes)
 (h18:HasFn K "_law_foldable" kcd)
 (h19:HasFn K "closed_up" kdz)
 (h20:HasFn K "without" kf0)
 (h21:HasFn K "_law_without" kck)
 (h22:HasFn K "folded" khh)
 (h23:HasFn K "row_to_core" kc0)
 (h24:HasFn K "_law_walk" kd2)
 (h25:HasFn K "_law_drawn_row" kb6)
 (h26:HasFn K "lying" kjf)
 (h27:HasFn K "marks_of" ket)
 (h28:HasFn K "views" kjg)
 (h29:HasFn K "numbered" keu)
 (h30:HasFn K "doubtful" kev)
 (h31:HasFn K "set_apart" kd0)
 (h32:HasFn K "refined" kf1)
 (h33:HasFn K "searched" kex)
 (h34:HasFn K "renaming" kew)
 (h35:HasFn K "_law_is_renaming" kbs)
 (a36:PySem.W.nsIn K mainGlobals "law"=some (some (.ref f36))) (l36:K.lookup f36=some ⟨oc36,od36,.func (PySem.W.fnOf "law" "law" (kb2 kr0) (kbr kr0) (kag kr0) .none kV36 dc36 pm36 an36 cd36 ct36),sl36⟩) (c36:PySem.W.codeIn K cd36 "law"=true) (k36:PySem.W.keepIn K (.ref f36)=true)
 (z0:PySem.W.nsIn K mainGlobals "range"=some none)
 (z1:PySem.W.nsIn K mainGlobals "len"=some none)
 (z2:PySem.W.nsIn K mainGlobals "list"=some none)
 (z3:PySem.W.nsIn K mainGlobals "tuple"=some none)
 (z4:PySem.W.nsIn K mainGlobals "isinstance"=some none)
 (z5:PySem.W.nsIn K mainGlobals "int"=some none)
 (z6:PySem.W.nsIn K mainGlobals "bool"=some none)
 (z7:PySem.W.nsIn K mainGlobals "zip"=some none)
 (z8:PySem.W.nsIn K mainGlobals "all"=some none)
 (z9:PySem.W.nsIn K mainGlobals "any"=some none)
 (z10:PySem.W.nsIn K mainGlobals "sum"=some none)
 (z11:PySem.W.nsIn K mainGlobals "sorted"=some none)
 (z12:PySem.W.nsIn K mainGlobals "min"=some none)
 (z13:PySem.W.nsIn K mainGlobals "max"=some none)
 (z14:PySem.W.nsIn K mainGlobals "str"=some none)
 (z15:PySem.W.nsIn K mainGlobals "enumerate"=some none)
 (z16:PySem.W.nsIn K mainGlobals "set"=some none)
 (z17:PySem.W.nsIn K mainGlobals "reversed"=some none)
 (z18:PySem.W.nsIn K mainGlobals "ValueError"=some none)
 (y0:PySem.W.kitOne K (.type "int") (.type "int")=some true)
 (y1:PySem.W.kitOne K (.type "int") (.type "bool")=some false)
 (y2:PySem.W.kitOne K (.type "bool") (.type "bool")=some true)
 (y3:PySem.W.kitOne K (.type "tuple") (.type "tuple")=some true)
 (y4:PySem.W.kitOne K (.type "list") (.type "list")=some true)
 (y5:PySem.W.kitOne K (.type "list") (.type "tuple")=some false)
 (y6:PySem.W.kitOne K (.type "tuple") (.type "list")=some false)
 (y7:PySem.W.kitOne K (.type "list") (.type "bool")=some false)
 (y8:PySem.W.kitOne K (.type "bool") (.type "tuple")=some false)
 (y9:PySem.W.kitOne K (.type "int") (.type "tuple")=some false)
 (y10:PySem.W.kitOne K (.type "str") (.type "str")=some true)
 (y11:PySem.W.kitOne K (.type "NoneType") (.type "bool")=some false)
 (y12:PySem.W.kitOne K (.type "NoneType") (.type "int")=some false)
 (y13:PySem.W.kitOne K (.type "bool") (.type "int")=some true):
 ∃fd:FuncData,(∀ (s:Shared) (v:Value),BindsTo s fd ⟨[v],[]⟩ [("script",v)])∧∀base:Heap,K.In base→base.Ns mainGlobals mg→FnOk l.prog w K mg base CX0 24 fa fd ["script"] (spG K Plaw):=by
 have e:=hfa.symm.trans (PySem.W.mg_of X G a36)
 cases e
 have T:Txt K mg:=⟨PySem.W.mg_none_of X G z0,PySem.W.mg_none_of X G z1,PySem.W.mg_none_of X G z2,PySem.W.mg_none_of X G z3,PySem.W.mg_none_of X G z4,PySem.W.mg_none_of X G z5,PySem.W.mg_none_of X G z6,PySem.W.mg_none_of X G z7,PySem.W.mg_none_of X G z8,PySem.W.mg_none_of X G z9,PySem.W.mg_none_of X G z10,PySem.W.mg_none_of X G z11,PySem.W.mg_none_of X G z12,PySem.W.mg_none_of X G z13,PySem.W.mg_none_of X G z14,PySem.W.mg_none_of X G z15,PySem.W.mg_none_of X G z16,PySem.W.mg_none_of X G z17,PySem.W.mg_none_of X G z18,y0,y1,y2,y3,y4,y5,y6,y7,y8,y9,y10,y11,y12,y13⟩
 have F36:=ksu (st:=kr0) l36 c36 k36
 refine ⟨PySem.W.fnOf "law" "law" (kb2 kr0) (kbr kr0) (kag kr0) .none kV36 dc36 pm36 an36 cd36 ct36,fun s v=> .of_eq rfl,fun base q_ q_=> ?_⟩
 have GSt:Fn l.prog w K mg base "_law_stir" 1 ["cell"] (kk4):=h1.fn X G (bd1 fun q_ q_ q_ q_ q_ q_ q_=>rfl) fun F=>kwc F
 have GDSt:Fn l.prog w K mg base "_law_stir" 1 ["cell"] (spG K kwi):=kjm GSt fun q_ q_ q_ q_=>kwl
 have GRw:Fn l.prog w K mg base "_law_raw" 1 ["script","k"] (kk5 K):=h2.fn X G (bd2 fun q_ q_ q_ q_ q_ q_ q_ q_=>rfl) fun F=>kzc F T
 have GDRw:Fn l.prog w K mg base "_law_raw" 1 ["script","k"] (spG K kwj):=kjm GRw fun q_ q_ q_ q_=>kwm
 have GWh:Fn l.prog w K mg base "_law_whole" 1 ["found"] (kji):=h3.fn X G (bd1 fun q_ q_ q_ q_ q_ q_ q_=>rfl) fun F=>kr2 F T
 have GDWh:Fn l.prog w K mg base "_law_whole" 1 ["found"] (spG K ko7):=kjm GWh fun q_ q_ q_ q_=>kr9
 have GDr:Fn l.prog w K mg base "_law_draw" 1 ["cell","k","bound"] (kk6):=h4.fn X G (bd3 fun q_ q_ q_ q_ q_ q_ q_ q_ q_=>rfl) fun F=>kwe F
 have GDDr:Fn l.prog w K mg base "_law_draw" 1 ["cell","k","bound"] (spG K kwk):=kjm GDr fun q_ q_ q_ q_=>kwn
 have GCd:Fn l.prog w K mg base "_law_closed" 1 ["many","pairs"] (kfg K):=h5.fn X G (bd2 fun q_ q_ q_ q_ q_ q_ q_ q_=>rfl) fun F=>ko3 F T
 have GDg:Fn l.prog w K mg base "_law_by_digits" 2 ["cell","most"] (kl7 K):=h6.fn X G (bd2 fun q_ q_ q_ q_ q_ q_ q_ q_=>rfl) fun F=>kzd F T GCd
 have GMx:Fn l.prog w K mg base "_law_mixed" 2 ["cell","most"] (kl7 K):=h7.fn X G (bd2 fun q_ q_ q_ q_ q_ q_ q_ q_=>rfl) fun F=>kze F T GCd GDr
 have GSp:Fn l.prog w K mg base "_law_space" 3 ["script","at","most"] (kjj K):=h8.fn X G (bd3 fun q_ q_ q_ q_ q_ q_ q_ q_ q_=>rfl) fun F=>kr7 F GRw GSt GDg GMx
 have GDSp:Fn l.prog w K mg base "_law_space" 3 ["script","at","most"] (spG K ko8):=kjm GSp fun q_ q_ q_ q_=>ksa
 have GPt:Fn l.prog w K mg base "is_point" 1 ["many","number"] (kjk):=h9.fn X G (bd2 fun q_ q_ q_ q_ q_ q_ q_ q_=>rfl) fun F=>kr8 F
 have GDPt:Fn l.prog w K mg base "is_point" 1 ["many","number"] (spG K ko9):=kjm GPt fun q_ q_ q_ q_=>ksb
 have GSm:Fn l.prog w K mg base "same_or_under" 1 ["space","a","b"] (kwb K):=h10.fn X G (bd3 fun q_ q_ q_ q_ q_ q_ q_ q_ q_=>rfl) fun F=>kwh F
 have GDSm:Fn l.prog w K mg base "same_or_under" 1 ["space","a","b"] (spG K Pleq):=kjm GSm fun q_ q_ q_ q_=>kzg
 have GPu:Fn l.prog w K mg base "points_under" 1 ["space","point"] (spG K Ppu):=h11.fn X G (bd2 fun q_ q_ q_ q_ q_ q_ q_ q_=>rfl) fun F=>ok_Pu F T
 have GPo:Fn l.prog w K mg base "points_over" 1 ["space","point"] (spG K Ppo):=h12.fn X G (bd2 fun q_ q_ q_ q_ q_ q_ q_ q_=>rfl) fun F=>ok_Po F T
 have GLw:Fn l.prog w K mg base "lowest" 2 ["space","points"] (spG K Plow):=h13.fn X G (bd2 fun q_ q_ q_ q_ q_ q_ q_ q_=>rfl) fun F=>ok_Lw F T GDSm
 have GHg:Fn l.prog w K mg base "highest" 2 ["space","points"] (spG K kwp):=h14.fn X G (bd2 fun q_ q_ q_ q_ q_ q_ q_ q_=>rfl) fun F=>ok_Hg F T GDSm
 have GGo:Fn l.prog w K mg base "goal" 3 ["space","point"] (spG K ksc):=h15.fn X G (bd2 fun q_ q_ q_ q_ q_ q_ q_ q_=>rfl) fun F=>ok_Go F T GDPt GPu GPo GLw GHg
 have GLg:Fn l.prog w K mg base "_law_goal" 1 ["space","point"] (spG K kla):=h16.fn X G (bd2 fun q_ q_ q_ q_ q_ q_ q_ q_=>rfl) fun F=>ok_Lg F T
 have GFb:Fn l.prog w K mg base "foldable" 4 ["space"] (spG K kcq):=h17.fn X G (bd1 fun q_ q_ q_ q_ q_ q_ q_=>rfl) fun F=>ok_Fb F T GGo
 have GLf:Fn l.prog w K mg base "_law_foldable" 2 ["space"] (spG K kcq):=h18.fn X G (bd1 fun q_ q_ q_ q_ q_ q_ q_=>rfl) fun F=>ok_Lf F T GLg
 have GCu:Fn l.prog w K mg base "closed_up" 1 ["number","gone"] (spG K Pcu):=h19.fn X G (bd2 fun q_ q_ q_ q_ q_ q_ q_ q_=>rfl) fun F=>ok_Cu F T
 have GWo:Fn l.prog w K mg base "without" 2 ["space","point"] (spG K Pwo):=h20.fn X G (bd2 fun q_ q_ q_ q_ q_ q_ q_ q_=>rfl) fun F=>ok_Wo F T GCu
 have GLo:Fn l.prog w K mg base "_law_without" 1 ["space","point"] (spG K Plwo):=h21.fn X G (bd2 fun q_ q_ q_ q_ q_ q_ q_ q_=>rfl) fun F=>ok_Lo F T
 have GFo:Fn l.prog w K mg base "folded" 4 ["space","point"] (spG K kjn):=h22.fn X G (bd2 fun q_ q_ q_ q_ q_ q_ q_ q_=>rfl) fun F=>ok_Fo F T GGo GWo
 have GCo:Fn l.prog w K mg base "row_to_core" 5 ["space"] (spG K kwt):=h23.fn X G (bd1 fun q_ q_ q_ q_ q_ q_ q_=>rfl) fun F=>ok_Co F T GFb GFo
 have GLk:Fn l.prog w K mg base "_law_walk" 3 ["space","row"] (spG K kpa):=h24.fn X G (bd2 fun q_ q_ q_ q_ q_ q_ q_ q_=>rfl) fun F=>ok_Lk F T GLg GLo
 have GDw:Fn l.prog w K mg base "_law_drawn_row" 3 ["space","script","at"] (spG K kpd):=h25.fn X G (bd3 fun q_ q_ q_ q_ q_ q_ q_ q_ q_=>rfl) fun F=>ok_Dw F T GDRw GDDr GDSt GLf GLo
 have GLy:Fn l.prog w K mg base "lying" 2 ["space"] (spG K kpg):=h26.fn X G (bd1 fun q_ q_ q_ q_ q_ q_ q_=>rfl) fun F=>ok_Ly F T GPu GPo
 have GMo:Fn l.prog w K mg base "marks_of" 1 ["marks","points"] (spG K kho):=h27.fn X G (bd2 fun q_ q_ q_ q_ q_ q_ q_ q_=>rfl) fun F=>ok_Mo F T
 have GVi:Fn l.prog w K mg base "views" 2 ["lies","marks"] (spG K kph):=h28.fn X G (bd2 fun q_ q_ q_ q_ q_ q_ q_ q_=>rfl) fun F=>ok_Vi F T GMo
 have GNu:Fn l.prog w K mg base "numbered" 1 ["some_views"] (spG K Pnum):=h29.fn X G (bd1 fun q_ q_ q_ q_ q_ q_ q_=>rfl) fun F=>ok_Nu F T
 have GDb:Fn l.prog w K mg base "doubtful" 1 ["marks"] (spG K kpk):=h30.fn X G (bd1 fun q_ q_ q_ q_ q_ q_ q_=>rfl) fun F=>ok_Db F T
 have GSa:Fn l.prog w K mg base "set_apart" 1 ["marks","point"] (spG K kpl):=h31.fn X G (bd2 fun q_ q_ q_ q_ q_ q_ q_ q_=>rfl) fun F=>ok_Sa F T
 have GRf:Fn l.prog w K mg base "refined" 3 ["one_lying","other_lying","one_marks","other_marks"] (spG K Pref):=h32.fn X G (bd4 fun q_ q_ q_ q_ q_ q_ q_ q_ q_ q_=>rfl) fun F=>ok_Rf F T GVi GNu
 have RSr: ∀k:Nat,Fn l.prog w K mg base "searched" (4 + k) ["one_lying","other_lying","one_marks","other_marks"] (spG K (Psr k)):=fun k=>by
  induction k with
  | zero=>exact h33.fn X G (bd4 fun q_ q_ q_ q_ q_ q_ q_ q_ q_ q_=>rfl) fun F=>kzs
  | succ k ih=>exact h33.fn X G (bd4 fun q_ q_ q_ q_ q_ q_ q_ q_ q_ q_=>rfl) fun F=>kzr k F T GRf GDb GSa ih
 have GSr:Fn l.prog w K mg base "searched" 20 ["one_lying","other_lying","one_marks","other_marks"] (spG K (Psr 16)):=RSr 16
 have GRn:Fn l.prog w K mg base "renaming" 22 ["one","other"] (spG K Pren):=h34.fn X G (bd2 fun q_ q_ q_ q_ q_ q_ q_ q_=>rfl) fun F=>ok_Rn F T GLy GSr
 have GIr:Fn l.prog w K mg base "_law_is_renaming" 2 ["one","other","row"] (spG K Pisr):=h35.fn X G (bd3 fun q_ q_ q_ q_ q_ q_ q_ q_ q_=>rfl) fun F=>ok_Ir F T GDWh
 exact kz4 F36 T GDSp GDw GLk GCo GRn GIr
theorem walk {l:PySem.W.OpenLaw} {q:Program} {loose:List Str} {XP:(Str→Option Value)→Heap→Prop} {YP:World→Heap→Prop} {d:DefRec} {K:Params→PySem.W.Frag} (hn:l.most=some 63) (hdf:d.params.defaults=[])
 (hY: ∀(w:World) (h:Heap),YP w h→(K w.params).In h)
 (F: ∀(w:World) (mg:Str→Option Value) (fa:Addr) (h:Heap),(K w.params).In h→h.Ns mainGlobals mg→mg d.name=some (.ref fa)→
   ∃fd:FuncData,(∀ (s:Shared) (u:Value),BindsTo s fd ⟨[u],[]⟩ [("script",u)])∧∀base:Heap,(K w.params).In base→base.Ns mainGlobals mg→FnOk l.prog w (K w.params) mg base CX0 24 fa fd ["script"] (spG (K w.params) Plaw)):
 PySem.W.WalkO q loose XP YP l.row.toRowW d [] (fun f vs=>PySem.call f vs):=
 L2.kuh (n:=63) (k:=24) (x:="script") (CX:=fun q_=>CX0) (sp:=fun w=>spG (K w.params) Plaw) hn (by decide) hdf ⟨rfl,by decide,by decide⟩ hY F
  (fun q_ q_ a ns hl q_ hS=>⟨[ke7 ns],fun dt=>dt= .d (.bool true),.cons (.scr hS) .nil,⟨ns,rfl,hl,rfl⟩,fun dt v R' H' e q_ sl=>by subst e;exact Rp.bl_inv sl⟩) fun q_ q_ q_ q_ q_ z=>z
end Me
open PySem PySem.W PyProof.Rows
namespace Me
def zt0:=top 0
def zt1:=top 1
def zt2:=top 2
def zt3:=top 3
def zt4:=top 4
def zt5:=top 5
def zt6:=top 6
def zt7:=top 7
def zt8:=top 8
def zt9:=top 9
def zt10:=top 10
def zt11:=top 11
def zt12:=top 12
def zt13:=top 13
def zt14:=top 14
def zt15:=top 15
def zt16:=top 16
def zt17:=top 17
def zt18:=top 18
def zt19:=top 19
def zt20:=top 20
def zt21:=top 21
def zt22:=top 22
def zt23:=top 23
def zt24:=top 24
def zt25:=top 25
def zt26:=top 26
def zt27:=top 27
def zt28:=top 28
def zt29:=top 29
def zt30:=top 30
def zt31:=top 31
def zt32:=top 32
def zt33:=top 33
def zt34:=top 34
def zt35:=top 35
def zt36:=top 36
def zt37:=top 37
def zt38:=top 38
def zt39:=top 39
def zt40:=top 40
def zt41:=top 41
def zt42:=top 42
def zt43:=top 43
def zt44:=top 44
def pN:Program:={PySem.Challenge.pw_fewpoints_k10_whole_whichever_first with main:={PySem.Challenge.pw_fewpoints_k10_whole_whichever_first.main with body:=[zt0,zt1,zt2,zt3,zt4,zt5,zt6,zt7,zt8,zt9,zt10,zt11,zt12,zt13,zt14,zt15,zt16,zt17,zt18,zt19,zt20,zt21,zt22,zt23,zt24,zt25,zt26,zt27,zt28,zt29,zt30,zt31,zt32,zt33,zt34,zt35,zt36,zt37,zt38,zt39,zt40,zt41,zt42,zt43,zt44]}}
def rN:PySem.W.OpenLaw:={PySem.Challenge.rw_fewpoints_k10_whole_whichever_first with prog:=pN}
end Me
namespace PySem.W.Fast
def tw11883298569379892159:=0
def tw4006540742052607006:=0
def tw10498995019835462550:=0
def tw5319709410083783861:=0
def tw90023024540392276:=0
def tw15092383599339869325:=0
def tw4825728995107818636:=0
def tw13992904327005122187:=0
def tw13496132193528147403:=0
def tw6135362677213247938:=0
def tw15707641385716414323:=0
end PySem.W.Fast
set_option maxRecDepth 100000 in
set_option maxHeartbeats 0 in
theorem Me.held:Me.rN.Holds:=by
 w_on;o_law;k_head;(case hw=>w_witness2)
 k_fill
 refine Me.walk (l:=Me.rN) rfl rfl (fun w h Y=>PySem.W.kIn_of Y) ?F
 case F=>
  intro w mg fa h KX G hmg
  refine' Me.kz5 KX G hmg ?h1 ?h2 ?h3 ?h4 ?h5 ?h6 ?h7 ?h8 ?h9 ?h10 ?h11 ?h12 ?h13 ?h14 ?h15 ?h16 ?h17 ?h18 ?h19 ?h20 ?h21 ?h22 ?h23 ?h24 ?h25 ?h26 ?h27 ?h28 ?h29 ?h30 ?h31 ?h32 ?h33 ?h34 ?h35 ?a36 ?l36 ?c36 ?k36 ?z0 ?z1 ?z2 ?z3 ?z4 ?z5 ?z6 ?z7 ?z8 ?z9 ?z10 ?z11 ?z12 ?z13 ?z14 ?z15 ?z16 ?z17 ?z18 ?y0 ?y1 ?y2 ?y3 ?y4 ?y5 ?y6 ?y7 ?y8 ?y9 ?y10 ?y11 ?y12 ?y13
  (case h1=>refine' Me.HasFn.mk ?a ?l ?c ?k;(case a=>k_is);(case l=>k_is);(case c=>k_is);(case k=>k_is))
  (case h2=>refine' Me.HasFn.mk ?a ?l ?c ?k;(case a=>k_is);(case l=>k_is);(case c=>k_is);(case k=>k_is))
  (case h3=>refine' Me.HasFn.mk ?a ?l ?c ?k;(case a=>k_is);(case l=>k_is);(case c=>k_is);(case k=>k_is))
  (case h4=>refine' Me.HasFn.mk ?a ?l ?c ?k;(case a=>k_is);(case l=>k_is);(case c=>k_is);(case k=>k_is))
  (case h5=>refine' Me.HasFn.mk ?a ?l ?c ?k;(case a=>k_is);(case l=>k_is);(case c=>k_is);(case k=>k_is))
  (case h6=>refine' Me.HasFn.mk ?a ?l ?c ?k;(case a=>k_is);(case l=>k_is);(case c=>k_is);(case k=>k_is))
  (case h7=>refine' Me.HasFn.mk ?a ?l ?c ?k;(case a=>k_is);(case l=>k_is);(case c=>k_is);(case k=>k_is))
  (case h8=>refine' Me.HasFn.mk ?a ?l ?c ?k;(case a=>k_is);(case l=>k_is);(case c=>k_is);(case k=>k_is))
  (case h9=>refine' Me.HasFn.mk ?a ?l ?c ?k;(case a=>k_is);(case l=>k_is);(case c=>k_is);(case k=>k_is))
  (case h10=>refine' Me.HasFn.mk ?a ?l ?c ?k;(case a=>k_is);(case l=>k_is);(case c=>k_is);(case k=>k_is))
  (case h11=>refine' Me.HasFn.mk ?a ?l ?c ?k;(case a=>k_is);(case l=>k_is);(case c=>k_is);(case k=>k_is))
  (case h12=>refine' Me.HasFn.mk ?a ?l ?c ?k;(case a=>k_is);(case l=>k_is);(case c=>k_is);(case k=>k_is))
  (case h13=>refine' Me.HasFn.mk ?a ?l ?c ?k;(case a=>k_is);(case l=>k_is);(case c=>k_is);(case k=>k_is))
  (case h14=>refine' Me.HasFn.mk ?a ?l ?c ?k;(case a=>k_is);(case l=>k_is);(case c=>k_is);(case k=>k_is))
  (case h15=>refine' Me.HasFn.mk ?a ?l ?c ?k;(case a=>k_is);(case l=>k_is);(case c=>k_is);(case k=>k_is))
  (case h16=>refine' Me.HasFn.mk ?a ?l ?c ?k;(case a=>k_is);(case l=>k_is);(case c=>k_is);(case k=>k_is))
  (case h17=>refine' Me.HasFn.mk ?a ?l ?c ?k;(case a=>k_is);(case l=>k_is);(case c=>k_is);(case k=>k_is))
  (case h18=>refine' Me.HasFn.mk ?a ?l ?c ?k;(case a=>k_is);(case l=>k_is);(case c=>k_is);(case k=>k_is))
  (case h19=>refine' Me.HasFn.mk ?a ?l ?c ?k;(case a=>k_is);(case l=>k_is);(case c=>k_is);(case k=>k_is))
  (case h20=>refine' Me.HasFn.mk ?a ?l ?c ?k;(case a=>k_is);(case l=>k_is);(case c=>k_is);(case k=>k_is))
  (case h21=>refine' Me.HasFn.mk ?a ?l ?c ?k;(case a=>k_is);(case l=>k_is);(case c=>k_is);(case k=>k_is))
  (case h22=>refine' Me.HasFn.mk ?a ?l ?c ?k;(case a=>k_is);(case l=>k_is);(case c=>k_is);(case k=>k_is))
  (case h23=>refine' Me.HasFn.mk ?a ?l ?c ?k;(case a=>k_is);(case l=>k_is);(case c=>k_is);(case k=>k_is))
  (case h24=>refine' Me.HasFn.mk ?a ?l ?c ?k;(case a=>k_is);(case l=>k_is);(case c=>k_is);(case k=>k_is))
  (case h25=>refine' Me.HasFn.mk ?a ?l ?c ?k;(case a=>k_is);(case l=>k_is);(case c=>k_is);(case k=>k_is))
  (case h26=>refine' Me.HasFn.mk ?a ?l ?c ?k;(case a=>k_is);(case l=>k_is);(case c=>k_is);(case k=>k_is))
  (case h27=>refine' Me.HasFn.mk ?a ?l ?c ?k;(case a=>k_is);(case l=>k_is);(case c=>k_is);(case k=>k_is))
  (case h28=>refine' Me.HasFn.mk ?a ?l ?c ?k;(case a=>k_is);(case l=>k_is);(case c=>k_is);(case k=>k_is))
  (case h29=>refine' Me.HasFn.mk ?a ?l ?c ?k;(case a=>k_is);(case l=>k_is);(case c=>k_is);(case k=>k_is))
  (case h30=>refine' Me.HasFn.mk ?a ?l ?c ?k;(case a=>k_is);(case l=>k_is);(case c=>k_is);(case k=>k_is))
  (case h31=>refine' Me.HasFn.mk ?a ?l ?c ?k;(case a=>k_is);(case l=>k_is);(case c=>k_is);(case k=>k_is))
  (case h32=>refine' Me.HasFn.mk ?a ?l ?c ?k;(case a=>k_is);(case l=>k_is);(case c=>k_is);(case k=>k_is))
  (case h33=>refine' Me.HasFn.mk ?a ?l ?c ?k;(case a=>k_is);(case l=>k_is);(case c=>k_is);(case k=>k_is))
  (case h34=>refine' Me.HasFn.mk ?a ?l ?c ?k;(case a=>k_is);(case l=>k_is);(case c=>k_is);(case k=>k_is))
  (case h35=>refine' Me.HasFn.mk ?a ?l ?c ?k;(case a=>k_is);(case l=>k_is);(case c=>k_is);(case k=>k_is))
  (case a36=>k_is)
  (case l36=>k_is)
  (case c36=>k_is)
  (case k36=>k_is)
  (case z0=>k_is)
  (case z1=>k_is)
  (case z2=>k_is)
  (case z3=>k_is)
  (case z4=>k_is)
  (case z5=>k_is)
  (case z6=>k_is)
  (case z7=>k_is)
  (case z8=>k_is)
  (case z9=>k_is)
  (case z10=>k_is)
  (case z11=>k_is)
  (case z12=>k_is)
  (case z13=>k_is)
  (case z14=>k_is)
  (case z15=>k_is)
  (case z16=>k_is)
  (case z17=>k_is)
  (case z18=>k_is)
  (case y0=>kit_is)
  (case y1=>kit_is)
  (case y2=>kit_is)
  (case y3=>kit_is)
  (case y4=>kit_is)
  (case y5=>kit_is)
  (case y6=>kit_is)
  (case y7=>kit_is)
  (case y8=>kit_is)
  (case y9=>kit_is)
  (case y10=>kit_is)
  (case y11=>kit_is)
  (case y12=>kit_is)
  (case y13=>kit_is)
theorem PySem.Challenge.cw_fewpoints_k10_whole_whichever_first_holds : PySem.Challenge.rw_fewpoints_k10_whole_whichever_first.Holds :=
 Me.held
