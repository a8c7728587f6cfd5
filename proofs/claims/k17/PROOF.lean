import PyProof.Rows.All
import Wide.All
import OpenK.AllK
import Wide.FinOn
import Lean
import PyProof.EqAt
import PyProof.EqKinds
import PyProof.TupleCall
import PyProof.NeData
import PyProof.ZipIter
import PyProof.Draws
import PyProof.ConsumeWalk
import PyProof.SumAny
import PyProof.StationsW
import PyProof.ExcArgsOwn
import PyProof.ExcAttrAll.ValueError
import OpenK.KDescr
import KE.KIsAll
import OpenK.KOwn
import KE.KSortTup
import KE.KDictSum
import KE.KSortKey
import KE.KDictIter
import PyProof.AutoSeq1
import KE.KxSplit
import PyProof.CallStr
import PyProof.StrLawsTight
import PyProof.StrLawsNeg
import KE.KIntText
import PyProof.WalkInts
import PySem.Challenge.RW_fewpoints_k17_read
set_option Elab.async false
set_option linter.all false
set_option maxRecDepth 100000
set_option tactic.hygienic false
namespace L2
theorem u1 (_:True:=by first | exact .inl rfl | exact .inr rfl | assumption):True:=trivial
theorem u2 (_:True:=by decide):True:=trivial
theorem u3 (_:True:=by first | exact nobehind _ (by decide) (by decide) | rfl):True:=trivial
theorem u4 (_:True:=by intro q_;rfl):True:=trivial
theorem u5 (_:True:=by rfl):True:=trivial
theorem u6 (_:True:=by with_unfolding_all rfl):True:=trivial
theorem u7 (_:True:=by first | exact Or.inl rfl | exact Or.inr (Or.inl rfl) | exact Or.inr (Or.inr rfl)):True:=trivial
theorem u8 (_:True:=by intro b z;cases z;rfl):True:=trivial
theorem u9 (_:True:=by intro q_;exact pv _):True:=trivial
theorem u10 (_:True:=by first | exact nomark _ | rfl):True:=trivial
theorem u11 (_:True:=by intro q_ q_;rfl):True:=trivial
theorem u12 (_:True:=by intro q_;exact ⟨rfl,rfl,rfl,rfl,rfl⟩):True:=trivial
theorem u13 (_:True:=by intro q_;first | exact Or.inl rfl | exact Or.inr rfl):True:=trivial
theorem u14 (_:True:=by intro q_;first | exact .inl rfl | exact .inr rfl):True:=trivial
theorem u15 (_:True:=by simp):True:=trivial
theorem u16 (_:True:=by first | exact Or.inl rfl | exact Or.inr rfl):True:=trivial
theorem u17 (_:True:=by first | exact .inl rfl | exact .inr rfl):True:=trivial
open PySem PySem.Spec PyProof.Rows
noncomputable abbrev Key:=Sum Int Str
noncomputable def keyIs:Key→Value→Bool
 | .inl k,v=>Value.isInt k v
 | .inr x,v=>Value.isStrOf x v
noncomputable def keyH (w:World):Key→Int
 | .inl k=>hashInt k
 | .inr x=>hashStr w x
theorem keyIs_shape: ∀{k:Key} {v:Value},keyIs k v=true→(∃ i t,k=Sum.inl i∧v=Value.int i t)∨(∃ x t,k=Sum.inr x∧v=Value.str x t)
 | .inl i,v,h=>by
   obtain ⟨t,e⟩:=Value.isInt_shape (k:=i) (v:=v) h
   exact .inl ⟨i,t,rfl,e⟩
 | .inr x,v,h=>by
   obtain ⟨t,e⟩:=Value.isStrOf_shape (x:=x) (v:=v) h
   exact .inr ⟨x,t,rfl,e⟩
theorem keyIs_int (i:Int) (t:Tok):keyIs (.inl i) (.int i t)=true:=by simp [keyIs,Value.isInt]
theorem keyIs_str (x:Str) (t:Tok):keyIs (.inr x) (.str x t)=true:=by simp [keyIs,Value.isStrOf]
theorem key_ll (a b:Int):decide ((Sum.inl a:Key)=Sum.inl b)=(a == b):=by
 by_cases e:a=b
 · subst e;simp
 · have h: ¬(Sum.inl a:Key)=Sum.inl b:=fun q=>e (Sum.inl.inj q)
   rw [decide_eq_false h]
   exact (beq_eq_false_iff_ne.mpr e).symm
theorem key_rr (a b:Str):decide ((Sum.inr a:Key)=Sum.inr b)=decide (a=b):=by
 by_cases e:a=b
 · subst e;simp
 · have h: ¬(Sum.inr a:Key)=Sum.inr b:=fun q=>e (Sum.inr.inj q)
   rw [decide_eq_false h,decide_eq_false e]
theorem key_lr (a:Int) (b:Str):decide ((Sum.inl a:Key)=Sum.inr b)=false:=decide_eq_false (fun q=>nomatch q)
theorem key_rl (a:Str) (b:Int):decide ((Sum.inr a:Key)=Sum.inl b)=false:=decide_eq_false (fun q=>nomatch q)
noncomputable def mixKind (prog:Program) (w:World):PySem.KeyKind prog w Key where
 is:=keyIs
 hash:=keyH w
 inj:=fun v a b ha hb=>by
  rcases keyIs_shape ha with ⟨i,t,rfl,rfl⟩ | ⟨x,t,rfl,rfl⟩
  · rcases keyIs_shape hb with ⟨j,u,rfl,e⟩ | ⟨y,u,rfl,e⟩
    · injection e with e1 _;rw [e1]
    · exact nomatch e
  · rcases keyIs_shape hb with ⟨j,u,rfl,e⟩ | ⟨y,u,rfl,e⟩
    · exact nomatch e
    · injection e with e1 _;rw [e1]
 byValue:=fun k v h=>by
  rcases keyIs_shape h with ⟨i,t,rfl,rfl⟩ | ⟨x,t,rfl,rfl⟩ <;> rfl
 pyHash:=fun hv h=>by
  rcases keyIs_shape hv with ⟨i,t,rfl,rfl⟩ | ⟨x,t,rfl,rfl⟩
  · exact wpAny_pyHash_int h
  · exact wpAny_pyHash_str h
 eqBool:=fun hu hv h=>by
  rcases keyIs_shape hu with ⟨i,t,rfl,rfl⟩ | ⟨x,t,rfl,rfl⟩
  · rcases keyIs_shape hv with ⟨j,u,rfl,rfl⟩ | ⟨y,u,rfl,rfl⟩
    · rw [key_ll] at h;exact wpAny_eqBool_int h
    · rw [key_lr] at h;exact SeqAt.EqAt.int_str i t y u _ _ _ _ h
  · rcases keyIs_shape hv with ⟨j,u,rfl,rfl⟩ | ⟨y,u,rfl,rfl⟩
    · rw [key_rl] at h;exact SeqAt.EqAt.str_int x t j u _ _ _ _ h
    · rw [key_rr] at h;exact wpAny_eqBool_str h
 «strs» :=fun k x t v h=>by
  rcases keyIs_shape h with ⟨i,u,rfl,e⟩ | ⟨y,u,rfl,e⟩
  · exact nomatch e
  · injection e with e1 _
    subst e1
    cases v <;> rfl
theorem mixKind_int (prog:Program) (w:World) (i:Int) (t:Tok):(mixKind prog w).is (.inl i) (.int i t)=true:=keyIs_int i t
theorem mixKind_str (prog:Program) (w:World) (x:Str) (t:Tok):(mixKind prog w).is (.inr x) (.str x t)=true:=keyIs_str x t
end L2
namespace L2
open PySem PySem.Spec PyProof.Rows
inductive V where
 | non | bl (b:Bool) | int (i:Int) | str (x:Str) | byt (b:Array UInt8) | flt (b:UInt64) | ref (a:Addr) | ty (n:String)
 deriving DecidableEq
noncomputable def RelV:V→Value→Prop
 | .non,u=>u=Value.none
 | .bl b,u=>u=Value.bool b
 | .int i,u=>∃t,u=Value.int i t
 | .str x,u=>∃t,u=Value.str x t
 | .byt b,u=>∃t,u=Value.bytes b t
 | .flt b,u=>∃t,u=Value.float b t
 | .ref a,u=>u=Value.ref a
 | .ty n,u=>u=Value.type n
noncomputable abbrev Vals:List V→List Value→Prop:=Paired RelV
theorem Vals.length {xs:List V} {us:List Value} (r:Vals xs us):xs.length=us.length:=Paired.length r
theorem Vals.get: ∀{xs:List V} {us:List Value} {i:Nat} {x:V},Vals xs us→xs[i]?=some x→∃u,us[i]?=some u∧RelV x u
 | _,_,_,_,.nil,e=>by simp at e
 | _,_,0,_,.cons r _,e=>by simp at e;subst e;exact ⟨_,rfl,r⟩
 | _,_,i + 1,x,.cons _ t,e=>by
   obtain ⟨u,h1,h2⟩:=Vals.get (i:=i) (x:=x) t (by simpa using e)
   exact ⟨u,by simpa using h1,h2⟩
theorem Vals.set {x:V} {u:Value} (r:RelV x u): ∀{xs:List V} {us:List Value} (i:Nat),Vals xs us→Vals (xs.set i x) (us.set i u)
 | _,_,_,.nil=> .nil
 | _,_,0,.cons _ t=> .cons r t
 | _,_,i + 1,.cons q t=> .cons q (Vals.set r i t)
theorem Vals.append: ∀{xs ys:List V} {us ws:List Value},Vals xs us→Vals ys ws→Vals (xs++ys) (us++ws)
 | _,_,_,_,.nil,s=>s
 | _,_,_,_,.cons r t,s=> .cons r (Vals.append t s)
theorem Vals.take: ∀{xs:List V} {us:List Value} (n:Nat),Vals xs us→Vals (xs.take n) (us.take n)
 | _,_,0,_=> .nil
 | _,_,_ + 1,.nil=> .nil
 | _,_,n + 1,.cons r t=> .cons r (Vals.take n t)
theorem Vals.drop: ∀{xs:List V} {us:List Value} (n:Nat),Vals xs us→Vals (xs.drop n) (us.drop n)
 | _,_,0,r=>r
 | _,_,_ + 1,.nil=> .nil
 | _,_,n + 1,.cons _ t=>Vals.drop n t
noncomputable def RelO:Option V→Option Value→Prop
 | some v,some u=>RelV v u
 | none,none=>True
 | _,_=>False
noncomputable def KV {κ:Type}:List (κ×V)→List (κ×Value)→Prop:=Paired fun (p:κ×V) (q:κ×Value)=>p.1=q.1∧RelV p.2 q.2
noncomputable def kV:Key→V
 | .inl i=> .int i
 | .inr x=> .str x
inductive HO where
 | lst (xs:List V)
 | tup (xs:List V)
 | dK (kvs:List (Key×V)) | dT (kvs:List (List Key×V))
 | set (S:Int→Bool) (n:Nat)
 | ins (C dx:Addr) (fs:List (Str×V))
 | own (x:Addr)
 | xd (fs:List (Str×V))
 | met (f x:Addr)
 | rng (lo hi:Int)
 | frz (o:Obj) (u:HO)
 | tbl (ps:Array Value)
 | ext (φ:Heap→Prop)
noncomputable abbrev Hp:=Addr→Option HO
noncomputable def upd (H:Hp) (a:Addr) (o:HO):Hp:=fun b=>if b=a then some o else H b
theorem upd_same {H:Hp} {a:Addr} {o:HO}:upd H a o a=some o:=by unfold upd;rw [if_pos rfl]
theorem upd_ne {H:Hp} {a b:Addr} {o:HO} (h:b≠a):upd H a o b=H b:=by unfold upd;rw [if_neg h]
theorem ne_of {H:Hp} {a b:Addr} {o u:HO} (h:H a=some o) (h':H b=some u) (d:o≠u):a≠b:=by
 intro e;subst e;rw [h] at h';exact d (Option.some.inj h')
theorem ne_of_none {H:Hp} {a b:Addr} {o:HO} (h:H a=some o) (h':H b=none):a≠b:=by
 intro e;subst e;rw [h] at h';cases h'
section
variable (P:Program) (w:World)
noncomputable def ObjOk (H:Hp) (h:Heap) (a:Addr):HO→Prop
 | .lst xs=>xs.length≤sizeLine∧∃(its:List Value) (n:Nat),Vals xs its∧h.get? a=some {cls:= .type "list",data:= .seq its.toArray n}
 | .tup xs=>xs.length≤sizeLine∧∃its:List Value,Vals xs its∧IsTup h a its.toArray
 | .dK kvs=>kvs.length≤sizeLine∧(a == sysModules)=false∧∃vs,KV kvs vs∧h.DictOf (mixKind P w) a vs
 | .dT kvs=>kvs.length≤sizeLine∧(a == sysModules)=false∧∃xs:List (List Key×Addr×Value),
    Paired (fun (p:List Key×V) (q:List Key×Addr×Value)=>p.1=q.1∧H q.2.1=some (.tup (p.1.map kV))∧RelV p.2 q.2.2) kvs xs∧
    ∃o es ep,h.get? a=some o∧o.ExactDict∧o.data= .dict es ep∧es.toList=xs.map (entryOfKey (tupleKind (mixKind P w)))∧(xs.map (·.1)).Nodup
 | .set S n=>h.SetOf (intKind P w) a S n
 | .ins C dx fs=>H dx=some (.own a)∧fs.length≤1000∧dx≠a∧h.get? a=some (PySem.W.instObj C dx)∧
    ∃mA,h.Ns1 dx mA∧(∀ f,RelO (fs.lookup f) (mA f))∧PySem.Within mA (fs.map (·.1))
 | .own _=>∃o,h.get? a=some o
 | .xd fs=>∃mA,h.Ns1 a mA∧∀f,RelO (fs.lookup f) (mA f)
 | .rng lo hi=>∃t u v,h.get? a=some {cls:= .type "range",data:= .fields #[.int lo t,.int hi u,.int 1 v]}
 | .frz o u=>h.get? a=some o∧ObjOk H h a u
 | .tbl ps=>h.get? a=some {cls:= .none,data:= .fields ps}
 | .met f x=>h.get? a=some (PySem.W.methodObj (.ref f) (.ref x))
 | .ext φ=>φ h∧(∃ o,h.get? a=some o)∧∀h1 h2:Heap,φ h1→(∀ o,h1.get? a=some o→h2.get? a=some o)→φ h2
noncomputable def HOk (H:Hp) (h:Heap):Prop:=∀a o,H a=some o→ObjOk P w H h a o
end
section
variable {P:Program} {w:World} {H H':Hp} {h h':Heap} {a:Addr} {o:HO}
theorem ObjOk.lt (x:ObjOk P w H h a o):a < h.objs.size:=by
 cases o with
 | lst xs=>obtain ⟨_,_,_,_,e⟩:=x;exact Heap.lt_size e
 | tup xs=>obtain ⟨_,_,_,p⟩:=x;exact p.lt
 | dK kvs=>obtain ⟨_,_,_,_,o,_,_,e,_⟩:=x;exact Heap.lt_size e
 | dT kvs=>obtain ⟨_,_,_,_,o,_,_,e,_⟩:=x;exact Heap.lt_size e
 | set S n=>obtain ⟨o,_,_,_,e,_⟩:=x;exact Heap.lt_size e
 | ins C dx fs=>obtain ⟨_,_,_,e,_⟩:=x;exact Heap.lt_size e
 | own y=>obtain ⟨_,e⟩:=x;exact Heap.lt_size e
 | xd fs=>obtain ⟨_,⟨_,_,_,e,_⟩,_⟩:=x;exact Heap.lt_size e
 | rng lo hi=>obtain ⟨_,_,_,e⟩:=x;exact Heap.lt_size e
 | frz ob u=>obtain ⟨e,_⟩:=x;exact Heap.lt_size e
 | tbl ps=>exact Heap.lt_size (show h.get? a=some _ from x)
 | met f y=>exact Heap.lt_size (show h.get? a=some _ from x)
 | ext φ=>obtain ⟨_,⟨_,e⟩,_⟩:=x;exact Heap.lt_size e
theorem Paired.mapP {α β:Type} {F G:α→β→Prop}: ∀{l₁:List α} {l₂:List β},Paired F l₁ l₂→(∀ a b,F a b→G a b)→Paired G l₁ l₂
 | _,_,.nil,_=> .nil
 | _,_,.cons r t,f=> .cons (f _ _ r) (Paired.mapP t f)
theorem ObjOk.stay (x:ObjOk P w H h a o) (k: ∀b u,(b=a∨H b=some (.own a))→h.get? b=some u→h'.get? b=some u)
 (ho: ∀b,H b=some (.own a)→H' b=some (.own a)) (ht: ∀b xs,H b=some (.tup xs)→H' b=some (.tup xs)):ObjOk P w H' h' a o:=by
 induction o with
 | lst xs=>obtain ⟨z,its,n,r,e⟩:=x;exact ⟨z,its,n,r,k _ _ (.inl rfl) e⟩
 | tup xs=>obtain ⟨z,its,r,ob,e,c⟩:=x;exact ⟨z,its,r,ob,k _ _ (.inl rfl) e,c⟩
 | dK kvs=>obtain ⟨z,y,vs,r,ob,es,ep,e,c⟩:=x;exact ⟨z,y,vs,r,ob,es,ep,k _ _ (.inl rfl) e,c⟩
 | dT kvs=>
   obtain ⟨z,y,xs,r,ob,es,ep,e,c⟩:=x
   exact ⟨z,y,xs,Paired.mapP r fun p q z=>⟨z.1,ht _ _ z.2.1,z.2.2⟩,ob,es,ep,k _ _ (.inl rfl) e,c⟩
 | set S n=>obtain ⟨ob,es,ep,t,e,c⟩:=x;exact ⟨ob,es,ep,t,k _ _ (.inl rfl) e,c⟩
 | ins C dx fs=>
   obtain ⟨d,z,ne,e,mA,⟨od,es,ep,e2,c⟩,r⟩:=x
   exact ⟨ho _ d,z,ne,k _ _ (.inl rfl) e,mA,⟨od,es,ep,k _ _ (.inr d) e2,c⟩,r⟩
 | own y=>obtain ⟨ob,e⟩:=x;exact ⟨ob,k _ _ (.inl rfl) e⟩
 | xd fs=>obtain ⟨mA,⟨od,es,ep,e,c⟩,r⟩:=x;exact ⟨mA,⟨od,es,ep,k _ _ (.inl rfl) e,c⟩,r⟩
 | rng lo hi=>obtain ⟨t,u,v,e⟩:=x;exact ⟨t,u,v,k _ _ (.inl rfl) e⟩
 | frz ob u ih=>obtain ⟨e,q⟩:=x;exact ⟨k _ _ (.inl rfl) e,ih q⟩
 | tbl ps=>
   have e:h.get? a=some {cls:= .none,data:= .fields ps}:=x
   show h'.get? a=some {cls:= .none,data:= .fields ps}
   exact k a _ (.inl rfl) e
 | met f y=>
   have e:h.get? a=some (PySem.W.methodObj (.ref f) (.ref y)):=x
   show h'.get? a=some (PySem.W.methodObj (.ref f) (.ref y))
   exact k a _ (.inl rfl) e
 | ext φ=>obtain ⟨p,⟨o,e⟩,st⟩:=x;exact ⟨st _ _ p fun o q=>k _ _ (.inl rfl) q,⟨o,k _ _ (.inl rfl) e⟩,st⟩
theorem HOk.lt (x:HOk P w H h) (e:H a=some o):a < h.objs.size:=(x a o e).lt
theorem HOk.fresh (x:HOk P w H h) (e:h.objs.size≤a):H a=none:=by
 cases q:H a with
 | none=>rfl
 | some u=>exact absurd (Nat.lt_of_lt_of_le (x.lt q) e) (Nat.lt_irrefl _)
theorem HOk.kept (x:HOk P w H h) (k: ∀b u,h.get? b=some u→h'.get? b=some u):HOk P w H h':=fun a o e=>
 (x a o e).stay (fun b u q_ q=>k b u q) (fun q_ q=>q) fun q_ q_ q=>q
theorem HOk.laid (x:HOk P w H h) (k: ∀b u,h.get? b=some u→h'.get? b=some u) (hp:h.objs.size≤a) (new:ObjOk P w (upd H a o) h' a o):HOk P w (upd H a o) h':=fun b u e=>by
 have hn:=x.fresh hp
 by_cases hb:b=a
 · subst hb;rw [upd_same] at e;cases e;exact new
 · rw [upd_ne hb] at e
   exact (x b u e).stay (fun c v q_ q=>k c v q) (fun c q=>by rw [upd_ne (ne_of_none q hn)];exact q) fun c xs q=>by rw [upd_ne (ne_of_none q hn)];exact q
end
noncomputable def Rd (H:Hp) (a:Addr) (u:HO):Prop:=H a=some u∨∃o,H a=some (.frz o u)
theorem Rd.ok {P:Program} {w:World} {H:Hp} {h:Heap} {a:Addr} {u:HO} (r:Rd H a u) (x:HOk P w H h):ObjOk P w H h a u:=by
 rcases r with r | ⟨o,r⟩
 · exact x a u r
 · obtain ⟨_,q⟩:=x a _ r
   exact q
noncomputable def Mut:Option HO→Prop
 | some (.lst _)=>True
 | some (.dK _)=>True
 | some (.dT _)=>True
 | some (.set _ _)=>True
 | some (.ins _ _ _)=>True
 | some (.ext _)=>True
 | _=>False
section
variable {P:Program} {w:World} {H:Hp} {h h':Heap} {x e:Addr} {o':HO}
theorem HOk.write (ok:HOk P w H h) (mu:Mut (H x)) (he:e=x∨H e=some (.own x)) (k: ∀b u,b≠e→h.get? b=some u→h'.get? b=some u) (heo: ∃u,h'.get? e=some u)
 (new:ObjOk P w (upd H x o') h' x o'):HOk P w (upd H x o') h':=fun b u q=>by
 have nown: ∀c y,H c=some (.own y)→c≠x:=fun c y r z=>by subst z;rw [r] at mu;exact mu
 have ntup: ∀c xs,H c=some (.tup xs)→c≠x:=fun c xs r z=>by subst z;rw [r] at mu;exact mu
 by_cases hb:b=x
 · subst hb;rw [upd_same] at q;cases q;exact new
 · rw [upd_ne hb] at q
   by_cases hbe:b=e
   · have q':H b=some (.own x):=by
      rcases he with z | z
      · exact absurd (hbe.trans z) hb
      · rw [hbe];exact z
     rw [q] at q';cases q'
     obtain ⟨v,hv⟩:=heo
     exact ⟨v,by rw [hbe];exact hv⟩
   · refine (ok b u q).stay (fun c v hc r=>k c v ?_ r) (fun c r=>by rw [upd_ne (nown c b r)];exact r) fun c xs r=>by rw [upd_ne (ntup c xs r)];exact r
     rcases hc with rfl | hc
     · exact hbe
     · rintro rfl
       rcases he with z | z
       · exact nown c b hc z
       · rw [hc] at z;cases z;exact hb rfl
end
structure Un (fs ex:List Addr) (H H':Hp) (h h':Heap):Prop where
 keep: ∀b o,h.get? b=some o→H b=none→b ∉ fs→b ∉ ex→h'.get? b=some o
 slot: ∀b o,h.get? b=some o→H b=none→b∈fs→b ∉ ex→∃sl,h'.get? b=some {o with slots:=sl}
 free: ∀b o,h.get? b=some o→H b=none→b ∉ ex→H' b=none
 there: ∀b o,h.get? b=some o→b ∉ ex→∃o',h'.get? b=some o'
 tups: ∀b xs,H b=some (.tup xs)→H' b=some (.tup xs)
 frzs: ∀b o u,H b=some (.frz o u)→H' b=some (.frz o u)
 tbls: ∀b ps,H b=some (.tbl ps)→∃more,H' b=some (.tbl (ps++more))
section
variable {fs fs' ex ex':List Addr} {H H1 H2:Hp} {h h1 h2 h':Heap} {a x e:Addr} {o:HO}
theorem Un.any (u:Un fs ex H H1 h h1) {b:Addr} {ob:Obj} (q:h.get? b=some ob) (n:H b=none) (hx:b ∉ ex): ∃sl,h1.get? b=some {ob with slots:=sl}:=by
 by_cases hb:b∈fs
 · exact u.slot b ob q n hb hx
 · exact ⟨ob.slots,u.keep b ob q n hb hx⟩
theorem Un.kept (k: ∀b u,h.get? b=some u→h'.get? b=some u):Un fs ex H H h h':=
 ⟨fun b ob q q_ q_ q_=>k b ob q,fun b ob q q_ q_ q_=>⟨ob.slots,k b ob q⟩,fun q_ q_ q_ n q_=>n,fun b ob q q_=>⟨ob,k b ob q⟩,fun q_ q_ q=>q,fun q_ q_ q_ q=>q,fun q_ ps q=>⟨#[],by rw [q];simp⟩⟩
theorem Un.refl:Un fs ex H H h h:=Un.kept fun q_ q_ q=>q
theorem Un.laid (k: ∀b u,h.get? b=some u→h'.get? b=some u) (hp:h.objs.size≤a) (hn:H a=none):Un fs ex H (upd H a o) h h' where
 keep:=fun b u q q_ q_ q_=>k b u q
 slot:=fun b u q q_ q_ q_=>⟨u.slots,k b u q⟩
 free:=fun b u q n q_=>by rw [upd_ne (Nat.ne_of_lt (Nat.lt_of_lt_of_le (Heap.lt_size q) hp))];exact n
 there:=fun b u q q_=>⟨u,k b u q⟩
 tups:=fun b xs q=>by rw [upd_ne (ne_of_none q hn)];exact q
 frzs:=fun b u xs q=>by rw [upd_ne (ne_of_none q hn)];exact q
 tbls:=fun b ps q=>⟨#[],by rw [upd_ne (ne_of_none q hn),q];simp⟩
theorem Un.write (mu:Mut (H x)) (he:e=x∨H e=some (.own x)) (k: ∀b u,b≠e→h.get? b=some u→h'.get? b=some u) (heo: ∃u,h'.get? e=some u):Un fs ex H (upd H x o) h h':=by
 have hx: ∀b,H b=none→b≠x:=fun b n z=>by subst z;rw [n] at mu;exact mu
 have hb: ∀b,H b=none→b≠e:=fun b n z=>by
  subst z
  rcases he with r | r
  · exact hx b n r
  · rw [n] at r;cases r
 have hm: ∀b u,H b=some u→¬Mut (some u)→b≠x:=fun b u q nm z=>by subst z;rw [q] at mu;exact nm mu
 refine ⟨fun b u q n q_ q_=>k b u (hb b n) q,fun b u q n q_ q_=>⟨u.slots,k b u (hb b n) q⟩,fun b u q n q_=>by rw [upd_ne (hx b n)];exact n,fun b u q q_=> ?_,
  fun b xs q=>by rw [upd_ne (hm b _ q fun z=>z)];exact q,fun b u xs q=>by rw [upd_ne (hm b _ q fun z=>z)];exact q,fun b ps q=>⟨#[],by rw [upd_ne (hm b _ q fun z=>z),q];simp⟩⟩
 by_cases hbe:b=e
 · subst hbe;exact heo
 · exact ⟨u,k b u hbe q⟩
end
noncomputable def trk (h:Heap) (H:Hp):List Addr:=(List.range h.objs.size).filter fun a=>(H a).isSome
noncomputable def hidT (h:Heap) (H:Hp):Heap:=PySem.W.hideAll h (trk h H)
theorem hidT_size (h:Heap) (H:Hp):(hidT h H).objs.size=h.objs.size:=PySem.W.hideAll_size _ _
theorem hidT_get {h:Heap} {H:Hp} {b:Addr} {o:Obj} (e:h.get? b=some o) (n:H b=none):(hidT h H).get? b=some o:=
 PySem.W.hideAll_get _ e fun hm=>by
  have q:(H b).isSome=true:=(List.mem_filter.mp hm).2
  rw [n] at q;simp at q
theorem of_hidT {h:Heap} {H:Hp} {b:Addr} {o:Obj} (e:(hidT h H).get? b=some o):h.get? b=some o∧H b=none:=by
 have e':h.get? b=some o:=PySem.W.of_hideAll (trk h H) e
 refine ⟨e',?_⟩
 cases q:H b with
 | none=>rfl
 | some x=>
   have hm:b∈trk h H:=List.mem_filter.mpr ⟨List.mem_range.mpr (Heap.lt_size e'),by simp [q]⟩
   have z:(hidT h H).get? b=none:=PySem.W.hideAll_none (trk h H) hm
   rw [z] at e;cases e
noncomputable def allNews (g h:Heap) (L:Addr):List (Addr×Obj):=(List.range h.objs.size).filterMap fun a=>if a=L∨(g.get? a).isSome=true then none else (h.get? a).map fun o=>(a,o)
noncomputable def rest (g h:Heap) (L d:Addr):List (Addr×Obj):=(allNews g h L).filter fun p=>decide (p.1≠d)
end L2
namespace L2
open PySem PySem.Spec PyProof.Rows
structure Mod (K:PySem.W.Frag) (mg:Str→Option Value) (base:Heap):Prop where
 kin:K.In base
 glob:base.Ns mainGlobals mg
 blt: ∃mb,base.Ns builtinsNs mb∧∀x:Str,x≠"__name__"→mb x=bootBuiltins x
 nolimit:base.NoLimit
structure Cx where
 prog:Program
 w:World
 K:PySem.W.Frag
 mg:Str→Option Value
 base:Heap
 A:Around
 N:List Str
 s₀:Shared
 H₀:Hp
 env:Env
 outer:List Env
 stack:List Env
 ex:List Addr
 fn:Str→Bool
 calm:Bool
 pn:List (Addr×Obj)
 xe:Value→Shared→Prop
noncomputable def frs (l:List Env):List Addr:=l.filterMap (·.frame)
noncomputable abbrev Cx.fs (X:Cx):List Addr:=frs X.outer
noncomputable def Vis (sc:Scope) (x:Str):Prop:=sc.names.lookup x=some .local∨sc.names.lookup x=some .cell∨sc.names.lookup x=some .free
noncomputable def Loc (sc:Scope) (x:Str):Prop:=sc.names.lookup x=some .local∨sc.names.lookup x=some .cell
noncomputable def Look (env:Env) (h:Heap) (m:Str→Option Value) (x:Str) (u:Value):Prop:=
 (env.kindOf x=some .local∧m x=some u)∨((env.kindOf x=some .cell∨env.kindOf x=some .free)∧∃c,env.cells.lookup x=some c∧h.IsCell c (some u))
structure Cx.Ok (X:Cx):Prop where
 mod:Mod X.K X.mg X.base
 kind:X.env.scope.kind= .function
 glob:X.env.globals=mainGlobals
 blt:X.env.builtins=builtinsNs
 above:X.s₀.heap.objs.size≤X.env.locals
 inj: ∀x y c,X.env.cells.lookup x=some c→X.env.cells.lookup y=some c→x=y
 has: ∀x,(X.env.kindOf x=some .cell∨X.env.kindOf x=some .free)→∃c,X.env.cells.lookup x=some c
 cab: ∀x c,X.fn x=true→X.env.cells.lookup x=some c→X.s₀.heap.objs.size≤c
 hd:X.calm=true→X.A.handled=none
 frames:X.A.frames=some X.stack
 stk:X.stack=X.outer∨(X.stack=X.env::X.outer∧X.env.frame=some X.env.locals)
 exf: ∀b∈X.ex,b≠X.env.locals∧∀x c,X.env.cells.lookup x=some c→c≠b
 bs: ∀b o,X.base.get? b=some o→X.s₀.heap.get? b=some o∧X.H₀ b=none
 bsz:X.base.objs.size≤X.s₀.heap.objs.size
 noex: ∀b o,X.base.get? b=some o→b ∉ X.ex
 exfs: ∀b∈X.ex,b ∉ X.fs
 funs:X.s₀.heap.FunFrames X.base X.outer
 frf: ∀b∈X.fs,X.H₀ b=none
structure Inv (X:Cx) (pins:List (Addr×Obj)) (σ:List (Option V)) (H:Hp) (s:Shared):Prop where
 ok:X.Ok
 os:s.os=X.s₀.os
 bare:AllBare s.gens
 base:Un X.fs X.ex X.H₀ H X.s₀.heap s.heap
 loc: ∃m,s.heap.Ns X.env.locals m∧∀(i:Nat) (x:Str) (v:V),X.N[i]?=some x→σ[i]?=some (some v)→Vis X.env.scope x→∃u,RelV v u∧Look X.env s.heap m x u
 cell: ∀x c,X.env.cells.lookup x=some c→∃v,s.heap.IsCell c v
 free:H X.env.locals=none
 freeC: ∀x c,X.env.cells.lookup x=some c→H c=none
 pin: ∀p∈X.pn++pins,s.heap.get? p.1=some p.2∧H p.1=none∧p.1≠X.env.locals∧p.1 ∉ X.fs∧∀v,p.2.data≠ .cell v
 hok:HOk X.prog X.w H s.heap
 len:σ.length=X.N.length
section
variable {X:Cx} {pins:List (Addr×Obj)} {σ:List (Option V)} {H H':Hp} {s:Shared} {h':Heap}
theorem Cx.Ok.nofr (ok:X.Ok) {b:Addr} {o:Obj} (e:X.base.get? b=some o):b ∉ X.fs:=fun hb=>by
 have:=(ok.funs.mem hb).1
 rw [e] at this;cases this
theorem Inv.bs (I:Inv X pins σ H s): ∀b o,X.base.get? b=some o→s.heap.get? b=some o∧H b=none:=fun b o e=>
 ⟨I.base.keep b o (I.ok.bs b o e).1 (I.ok.bs b o e).2 (I.ok.nofr e) (I.ok.noex b o e),I.base.free b o (I.ok.bs b o e).1 (I.ok.bs b o e).2 (I.ok.noex b o e)⟩
theorem Inv.bk (I:Inv X pins σ H s): ∀b o,X.base.get? b=some o→s.heap.get? b=some o:=fun b o e=>(I.bs b o e).1
theorem Inv.mod (I:Inv X pins σ H s):Mod X.K X.mg X.base:=I.ok.mod
theorem Inv.kIn (I:Inv X pins σ H s):X.K.In s.heap:=I.ok.mod.kin.keeps I.bk
theorem Inv.lt (I:Inv X pins σ H s):X.env.locals < s.heap.objs.size:=let ⟨_,hn,_⟩:=I.loc;hn.lt
theorem Inv.sz (I:Inv X pins σ H s):X.s₀.heap.objs.size≤s.heap.objs.size:=Nat.le_trans I.ok.above (Nat.le_of_lt I.lt)
theorem Inv.nofs (I:Inv X pins σ H s) {a:Addr} (h:s.heap.objs.size≤a):a ∉ X.fs:=fun hb=>by
 obtain ⟨_,o,ho,_⟩:=I.ok.funs.mem hb
 exact absurd (Nat.lt_of_lt_of_le (Heap.lt_size ho) (Nat.le_trans I.sz h)) (Nat.lt_irrefl _)
theorem Inv.cne (I:Inv X pins σ H s): ∀x c,X.env.cells.lookup x=some c→c≠X.env.locals:=fun x c e z=>by
 obtain ⟨v,o,ho,hd⟩:=I.cell x c e
 obtain ⟨m,⟨o',es,ep,ho',hd',_⟩,_⟩:=I.loc
 rw [z,ho'] at ho;cases ho;rw [hd'] at hd;cases hd
theorem Inv.funs (I:Inv X pins σ H s):s.heap.FunFrames X.base X.outer:=by
 have all: ∀(l:List Env),(∀ b∈frs l,b∈X.fs)→X.s₀.heap.FunFrames X.base l→s.heap.FunFrames X.base l:=by
  intro l
  induction l with
  | nil=>intro q_ q_;trivial
  | cons env r ih=>
    intro hs hl
    obtain ⟨hk,⟨L,o,hf,hn,ho,hd⟩,hr⟩:=hl
    have hL:L∈X.fs:=hs L (by unfold frs;rw [List.filterMap_cons,hf];exact List.mem_cons_self)
    obtain ⟨sl,e⟩:=I.base.slot L o ho (I.ok.frf L hL) hL fun z=>I.ok.exfs L z hL
    exact ⟨hk,⟨L,_,hf,hn,e,hd⟩,ih (fun b hb=>hs b (by unfold frs;rw [List.filterMap_cons,hf];exact List.mem_cons_of_mem _ hb)) hr⟩
 exact all X.outer (fun q_ hb=>hb) I.ok.funs
theorem Inv.stack (I:Inv X pins σ H s):s.heap.FunFrames X.base X.stack:=by
 rcases I.ok.stk with e | ⟨e,hf⟩
 · rw [e];exact I.funs
 · rw [e]
   obtain ⟨m,hn,_⟩:=I.loc
   refine .cons (by rw [I.ok.kind];decide) hf hn ?_ I.funs
   exact Heap.get?_none_of_le (Nat.le_trans I.ok.bsz I.ok.above)
theorem Inv.stkSub (I:Inv X pins σ H s): ∀b∈frs X.stack,b∈X.env.locals::X.fs:=fun b hb=>by
 rcases I.ok.stk with e | ⟨e,hf⟩
 · rw [e] at hb;exact List.mem_cons_of_mem _ hb
 · rw [e] at hb
   unfold frs at hb
   rw [List.filterMap_cons,hf] at hb
   exact hb
theorem Inv.stkFree (I:Inv X pins σ H s): ∀b∈frs X.stack,H b=none:=fun b hb=>by
 rcases List.mem_cons.mp (I.stkSub b hb) with e | hb
 · rw [e];exact I.free
 · obtain ⟨_,o,ho,_⟩:=I.ok.funs.mem hb
   exact I.base.free b o ho (I.ok.frf b hb) fun z=>I.ok.exfs b z hb
theorem Inv.step {g':Array GenState} {t':Nat} {d':Drawn} {ch:List Addr} (I:Inv X pins σ H s)
 (hch: ∀b∈ch,(b∈X.ex∨X.s₀.heap.objs.size≤b)∧b≠X.env.locals∧(∀ x c,X.env.cells.lookup x=some c→c≠b)∧∀p∈X.pn++pins,p.1≠b)
 (keep: ∀b o,b≠X.env.locals→b ∉ X.fs→b ∉ ch→s.heap.get? b=some o→H b=none→h'.get? b=some o)
 (slot: ∀b o,b≠X.env.locals→b∈X.fs→b ∉ ch→s.heap.get? b=some o→H b=none→∃sl,h'.get? b=some {o with slots:=sl}) (free: ∀b o,b ∉ ch→s.heap.get? b=some o→H b=none→H' b=none)
 (there: ∀b o,b ∉ ch→s.heap.get? b=some o→∃o',h'.get? b=some o')
 (tups: ∀b xs,H b=some (.tup xs)→H' b=some (.tup xs)) (frzs: ∀b o u,H b=some (.frz o u)→H' b=some (.frz o u)) (tbls: ∀b ps,H b=some (.tbl ps)→∃more,H' b=some (.tbl (ps++more)))
 (ns: ∀m,s.heap.Ns X.env.locals m→h'.Ns X.env.locals m) (hok:HOk X.prog X.w H' h') (hg:AllBare g'):
 Inv X pins σ H' {s with heap:=h',gens:=g',drawn:=d',toks:=t'}:=by
 have neL: ∀b o,X.s₀.heap.get? b=some o→b≠X.env.locals:=fun b o e=>Nat.ne_of_lt (Nat.lt_of_lt_of_le (Heap.lt_size e) I.ok.above)
 have neC: ∀b o,X.s₀.heap.get? b=some o→b ∉ X.ex→b ∉ ch:=fun b o e hx hb=>by
  rcases (hch b hb).1 with z | z
  · exact hx z
  · exact absurd (Nat.lt_of_lt_of_le (Heap.lt_size e) z) (Nat.lt_irrefl _)
 have cellK: ∀x c,X.env.cells.lookup x=some c→∀v,s.heap.IsCell c v→h'.IsCell c v:=fun x c e v ⟨o,ho,hd⟩=>by
  have nch:c ∉ ch:=fun z=>(hch c z).2.2.1 x c e rfl
  by_cases hc:c∈X.fs
  · obtain ⟨sl,q⟩:=slot c o (I.cne x c e) hc nch ho (I.freeC x c e)
    exact ⟨_,q,hd⟩
  · exact ⟨o,keep c o (I.cne x c e) hc nch ho (I.freeC x c e),hd⟩
 refine ⟨I.ok,I.os,hg,⟨fun b o e n hb hx=> ?_,fun b o e n hb hx=> ?_,fun b o e n hx=> ?_,fun b o e hx=> ?_,fun b xs e=>tups b xs (I.base.tups b xs e),fun b o xs e=>frzs b o xs (I.base.frzs b o xs e),fun b ps e=> ?_⟩,?_,fun x c e=> ?_,?_,fun x c e=> ?_,fun p hp=> ?_,hok,I.len⟩
 · exact keep b o (neL b o e) hb (neC b o e hx) (I.base.keep b o e n hb hx) (I.base.free b o e n hx)
 · obtain ⟨sl,e1⟩:=I.base.slot b o e n hb hx
   obtain ⟨sl',e2⟩:=slot b _ (neL b o e) hb (neC b o e hx) e1 (I.base.free b o e n hx)
   exact ⟨sl',e2⟩
 · obtain ⟨o',e1⟩:=I.base.there b o e hx
   exact free b o' (neC b o e hx) e1 (I.base.free b o e n hx)
 · obtain ⟨o',e1⟩:=I.base.there b o e hx
   exact there b o' (neC b o e hx) e1
 · obtain ⟨m1,e1⟩:=I.base.tbls b ps e
   obtain ⟨m2,e2⟩:=tbls b _ e1
   exact ⟨m1++m2,by rw [e2,Array.append_assoc]⟩
 · obtain ⟨m,hn,hl⟩:=I.loc
   refine ⟨m,ns m hn,fun i x v e1 e2 e3=> ?_⟩
   obtain ⟨u,r,l⟩:=hl i x v e1 e2 e3
   refine ⟨u,r,?_⟩
   rcases l with l | ⟨k,c,e,z⟩
   · exact .inl l
   · exact .inr ⟨k,c,e,cellK x c e _ z⟩
 · obtain ⟨v,z⟩:=I.cell x c e
   exact ⟨v,cellK x c e v z⟩
 · obtain ⟨m,⟨o,_,_,ho,_⟩,_⟩:=I.loc
   exact free _ o (fun z=>(hch _ z).2.1 rfl) ho I.free
 · obtain ⟨v,o,ho,hd⟩:=I.cell x c e
   exact free c o (fun z=>(hch c z).2.2.1 x c e rfl) ho (I.freeC x c e)
 · obtain ⟨e,n,ne,nf,d⟩:=I.pin p hp
   have nch:p.1 ∉ ch:=fun z=>(hch p.1 z).2.2.2 p hp rfl
   exact ⟨keep p.1 p.2 ne nf nch e n,free p.1 p.2 nch e n,ne,nf,d⟩
theorem Inv.un {t':Nat} (I:Inv X pins σ H s) (u:Un X.fs [] H H' s.heap h') (hok:HOk X.prog X.w H' h'):Inv X pins σ H' {s with heap:=h',toks:=t'}:=by
 obtain ⟨m,⟨o,es,ep,ho,r⟩,_⟩:=id I.loc
 obtain ⟨sl,hL⟩:=u.any ho I.free (by simp)
 exact I.step (g':=s.gens) (d':=s.drawn) (ch:=[]) (fun q_ z=>nomatch z) (fun b o q_ hb q_ e n=>u.keep b o e n hb (by simp)) (fun b o q_ hb q_ e n=>u.slot b o e n hb (by simp)) (fun b o q_ e n=>u.free b o e n (by simp)) (fun b o q_ e=>u.there b o e (by simp)) u.tups u.frzs u.tbls (fun m' hm=>by
  obtain ⟨o',es',ep',ho',r'⟩:=hm
  rw [ho] at ho';cases ho'
  exact ⟨_,es',ep',hL,r'⟩) hok I.bare
theorem Inv.call {g':Array GenState} {t':Nat} {d':Drawn} {ch:List Addr} (I:Inv X pins σ H s) (u:Un (frs X.stack) ch H H' s.heap h') (hok:HOk X.prog X.w H' h') (hg:AllBare g')
 (hch: ∀b∈ch,(b∈X.ex∨X.s₀.heap.objs.size≤b)∧b≠X.env.locals∧(∀ x c,X.env.cells.lookup x=some c→c≠b)∧∀p∈X.pn++pins,p.1≠b):
 Inv X pins σ H' {s with heap:=h',gens:=g',drawn:=d',toks:=t'}:=by
 obtain ⟨m,⟨o,es,ep,ho,r⟩,_⟩:=id I.loc
 obtain ⟨sl,hL⟩:=u.any ho I.free fun z=>(hch _ z).2.1 rfl
 exact I.step (ch:=ch) hch (fun b o hL hb hc e n=>u.keep b o e n (fun z=>(List.mem_cons.mp (I.stkSub b z)).elim hL hb) hc) (fun b o q_ q_ hc e n=>u.any e n hc) (fun b o hc e n=>u.free b o e n hc) (fun b o hc e=>u.there b o e hc) u.tups u.frzs u.tbls (fun m' hm=>by
  obtain ⟨o',es',ep',ho',r'⟩:=hm
  rw [ho] at ho';cases ho'
  exact ⟨_,es',ep',hL,r'⟩) hok hg
theorem Inv.turned {t':Nat} {it:Addr} (I:Inv X pins σ H s) (k: ∀b o,b≠it→s.heap.get? b=some o→h'.get? b=some o) (hn:H it=none) (hL:it≠X.env.locals)
 (h1:it∈X.ex∨X.s₀.heap.objs.size≤it) (h2: ∀x c,X.env.cells.lookup x=some c→c≠it) (h3: ∀p∈X.pn++pins,p.1≠it):Inv X pins σ H {s with heap:=h',toks:=t'}:=by
 have nit: ∀b u,H b=some u→b≠it:=fun b u e z=>by rw [z,hn] at e;cases e
 refine I.step (g':=s.gens) (d':=s.drawn) (ch:=[it]) (fun b hb=> ?_) (fun b o q_ q_ hc e q_=>k b o (fun z=>hc (by simp [z])) e) (fun b o q_ q_ hc e q_=>⟨o.slots,k b o (fun z=>hc (by simp [z])) e⟩) (fun q_ q_ q_ q_ n=>n)
  (fun b o hc e=>⟨o,k b o (fun z=>hc (by simp [z])) e⟩) (fun q_ q_ e=>e) (fun q_ q_ q_ e=>e) (fun b ps e=>⟨#[],by rw [e];simp⟩) (fun m hm=> ?_) (fun b u e=> ?_) I.bare
 · have e:b=it:=by simpa using hb
   subst e
   exact ⟨h1,hL,h2,h3⟩
 · obtain ⟨o,es,ep,ho,r⟩:=hm
   exact ⟨o,es,ep,k _ o (Ne.symm hL) ho,r⟩
 · refine (I.hok b u e).stay (fun c v hc q=>k c v ?_ q) (fun q_ q=>q) fun q_ q_ q=>q
   rcases hc with z | z
   · rw [z];exact nit b u e
   · exact nit c _ z
theorem Inv.tok (I:Inv X pins σ H s) (t:Nat):Inv X pins σ H {s with toks:=t}:=I.un (h':=s.heap) (t':=t) Un.refl I.hok
theorem Inv.kept {t':Nat} (I:Inv X pins σ H s) (k: ∀b u,s.heap.get? b=some u→h'.get? b=some u):Inv X pins σ H {s with heap:=h',toks:=t'}:=I.un (Un.kept k) (I.hok.kept k)
theorem Inv.laid {a:Addr} {o:HO} {t':Nat} (I:Inv X pins σ H s) (k: ∀b u,s.heap.get? b=some u→h'.get? b=some u) (hp:s.heap.objs.size≤a) (new:ObjOk X.prog X.w (upd H a o) h' a o):
 Inv X pins σ (upd H a o) {s with heap:=h',toks:=t'}:=I.un (Un.laid k hp (I.hok.fresh hp)) (I.hok.laid k hp new)
theorem Inv.write {x e:Addr} {o:HO} {t':Nat} (I:Inv X pins σ H s) (mu:Mut (H x)) (he:e=x∨H e=some (.own x)) (k: ∀b u,b≠e→s.heap.get? b=some u→h'.get? b=some u) (heo: ∃u,h'.get? e=some u)
 (new:ObjOk X.prog X.w (upd H x o) h' x o):Inv X pins σ (upd H x o) {s with heap:=h',toks:=t'}:=I.un (Un.write mu he k heo) (I.hok.write mu he k heo new)
theorem Inv.pins_of {pins':List (Addr×Obj)} (I:Inv X pins σ H s) (h: ∀p∈pins',s.heap.get? p.1=some p.2∧H p.1=none∧p.1≠X.env.locals∧p.1 ∉ X.fs∧∀v,p.2.data≠ .cell v):Inv X pins' σ H s:=
 ⟨I.ok,I.os,I.bare,I.base,I.loc,I.cell,I.free,I.freeC,fun p hp=>(List.mem_append.mp hp).elim (fun z=>I.pin p (List.mem_append_left _ z)) (h p),I.hok,I.len⟩
theorem nodup_ix {N:List Str} (hN:N.Nodup) {i j:Nat} {x:Str} (a:N[i]?=some x) (b:N[j]?=some x):i=j:=by
 obtain ⟨h1,e1⟩:=List.getElem?_eq_some_iff.mp a
 obtain ⟨h2,e2⟩:=List.getElem?_eq_some_iff.mp b
 exact (List.getElem_inj hN).mp (e1.trans e2.symm)
theorem store_ok2 {M:Model} {A:Around} {E:Value→Shared→Prop} {i:Nat} {x:Str} {v:V} {u:Value} {Q:Unit→Shared→Prop} (I:Inv X pins σ H s) (hN:X.N.Nodup) (hi:X.N[i]?=some x) (hx:Loc X.env.scope x) (r:RelV v u)
 (h: ∀s',Inv X pins (σ.set i (some v)) H s'→(∃ a,Heap.SameBut a s.heap s'.heap∧(a=X.env.locals∨X.env.cells.lookup x=some a))→Q () s') (hf:autoParam (X.fn x=true∨X.env.scope.names.lookup x=some .local) u1._auto_1):wpAny M A (storeName X.env x u) Q E s:=by
 obtain ⟨m,hn,hl⟩:=id I.loc
 have hcls:(X.env.scope.kind == .class || (X.env.scope.kind == .module && X.env.locals != X.env.globals))=false:=by rw [I.ok.kind];rfl
 have hiσ:i < σ.length:=by rw [I.len];exact (List.getElem?_eq_some_iff.mp hi).1
 have cne:=I.cne
 have tracked: ∀{a:Addr} {h':Heap},(∃ o,s.heap.get? a=some o∧H a=none)→Heap.SameBut a s.heap h'→HOk X.prog X.w H h':=fun {a h'} ha hs b ob e=>by
  obtain ⟨_,_,hfree⟩:=ha
  refine (I.hok b ob e).stay (fun c w' hc q=>(hs.2 c ?_).trans q) (fun q_ q=>q) fun q_ q_ q=>q
  rintro rfl
  rcases hc with rfl | hc
  · rw [hfree] at e;cases e
  · rw [hfree] at hc;cases hc
 rcases hx with hk | hk
 · refine wpAny_storeName_local hk hn (fun h' hn' hs=> ?_) hcls
   obtain ⟨oL,_,_,hoL,_⟩:=id hn
   refine h _ ⟨I.ok,I.os,I.bare,⟨fun b o e n hb hx=> ?_,fun b o e n hb hx=> ?_,I.base.free,fun b o e hx=> ?_,I.base.tups,I.base.frzs,I.base.tbls⟩,⟨_,hn',fun j y v' e1 e2 e3=> ?_⟩,fun y c e=> ?_,I.free,I.freeC,fun p hp=> ?_,tracked ⟨oL,hoL,I.free⟩ hs,by simpa using I.len⟩ ⟨_,hs,.inl rfl⟩
   · exact (hs.2 b (Nat.ne_of_lt (Nat.lt_of_lt_of_le (Heap.lt_size e) I.ok.above))).trans (I.base.keep b o e n hb hx)
   · obtain ⟨sl,e1⟩:=I.base.slot b o e n hb hx
     exact ⟨sl,(hs.2 b (Nat.ne_of_lt (Nat.lt_of_lt_of_le (Heap.lt_size e) I.ok.above))).trans e1⟩
   · obtain ⟨o',e1⟩:=I.base.there b o e hx
     exact ⟨o',(hs.2 b (Nat.ne_of_lt (Nat.lt_of_lt_of_le (Heap.lt_size e) I.ok.above))).trans e1⟩
   · by_cases hj:j=i
     · subst hj
       rw [hi] at e1;cases e1
       rw [List.getElem?_set_self hiσ] at e2
       cases e2
       exact ⟨u,r,.inl ⟨hk,by simp⟩⟩
     · rw [List.getElem?_set_ne (Ne.symm hj)] at e2
       obtain ⟨u',r',q⟩:=hl j y v' e1 e2 e3
       refine ⟨u',r',?_⟩
       rcases q with ⟨k,e⟩ | ⟨k,c,e,z⟩
       · refine .inl ⟨k,?_⟩
         have:y≠x:=fun e=>hj (nodup_ix hN e1 (e▸hi))
         simp [this,e]
       · exact .inr ⟨k,c,e,z.sameBut hs (cne y c e)⟩
   · obtain ⟨w',z⟩:=I.cell y c e
     exact ⟨w',z.sameBut hs (cne y c e)⟩
   · obtain ⟨e,n,ne,nf,d⟩:=I.pin p hp
     exact ⟨(hs.2 p.1 ne).trans e,n,ne,nf,d⟩
 · have hfn:X.fn x=true:=by
    rcases hf with z | z
    · exact z
    · rw [z] at hk;cases hk
   obtain ⟨c,hc⟩:=I.ok.has x (.inl hk)
   obtain ⟨w',z⟩:=I.cell x c hc
   refine wpAny_storeName_cell I.ok.kind hk hc z (fun h' hc' hs=> ?_)
   obtain ⟨oc,hoc,hocd⟩:=id z
   refine h {s with heap:=h'} ⟨I.ok,I.os,I.bare,⟨fun b o e n hb hx=> ?_,fun b o e n hb hx=> ?_,I.base.free,fun b o e hx=> ?_,I.base.tups,I.base.frzs,I.base.tbls⟩,⟨m,hn.sameBut hs (Ne.symm (cne x c hc)),fun j y v' e1 e2 e3=> ?_⟩,fun y c' e=> ?_,I.free,I.freeC,fun p hp=> ?_,tracked ⟨oc,hoc,I.freeC x c hc⟩ hs,by simpa using I.len⟩ ⟨c,hs,.inr hc⟩
   · exact (hs.2 b (Nat.ne_of_lt (Nat.lt_of_lt_of_le (Heap.lt_size e) (I.ok.cab x c hfn hc)))).trans (I.base.keep b o e n hb hx)
   · obtain ⟨sl,e1⟩:=I.base.slot b o e n hb hx
     exact ⟨sl,(hs.2 b (Nat.ne_of_lt (Nat.lt_of_lt_of_le (Heap.lt_size e) (I.ok.cab x c hfn hc)))).trans e1⟩
   · obtain ⟨o',e1⟩:=I.base.there b o e hx
     exact ⟨o',(hs.2 b (Nat.ne_of_lt (Nat.lt_of_lt_of_le (Heap.lt_size e) (I.ok.cab x c hfn hc)))).trans e1⟩
   · by_cases hj:j=i
     · subst hj
       rw [hi] at e1;cases e1
       rw [List.getElem?_set_self hiσ] at e2
       cases e2
       exact ⟨u,r,.inr ⟨.inl hk,c,hc,hc'⟩⟩
     · rw [List.getElem?_set_ne (Ne.symm hj)] at e2
       obtain ⟨u',r',q⟩:=hl j y v' e1 e2 e3
       refine ⟨u',r',?_⟩
       rcases q with q | ⟨k,c',e,z'⟩
       · exact .inl q
       · refine .inr ⟨k,c',e,z'.sameBut hs ?_⟩
         rintro rfl
         exact hj (nodup_ix hN e1 (I.ok.inj _ _ _ e hc▸hi))
   · by_cases hcc:c'=c
     · subst hcc;exact ⟨_,hc'⟩
     · obtain ⟨w2,z2⟩:=I.cell y c' e
       exact ⟨w2,z2.sameBut hs hcc⟩
   · obtain ⟨e,n,ne,nf,d⟩:=I.pin p hp
     refine ⟨(hs.2 p.1 ?_).trans e,n,ne,nf,d⟩
     intro q
     rw [q,hoc] at e
     have q':oc=p.2:=Option.some.inj e
     exact d w' (by rw [← q'];exact hocd)
theorem store_ok {M:Model} {A:Around} {E:Value→Shared→Prop} {i:Nat} {x:Str} {v:V} {u:Value} {Q:Unit→Shared→Prop} (I:Inv X pins σ H s) (hN:X.N.Nodup) (hi:X.N[i]?=some x) (hx:Loc X.env.scope x) (r:RelV v u)
 (h: ∀s',Inv X pins (σ.set i (some v)) H s'→Q () s') (hf:autoParam (X.fn x=true∨X.env.scope.names.lookup x=some .local) u1._auto_1):wpAny M A (storeName X.env x u) Q E s:=
 store_ok2 I hN hi hx r (fun s' I' q_=>h s' I') hf
theorem Inv.call' {s':Shared} {ch:List Addr} (I:Inv X pins σ H s) (ho:s'.os=s.os) (u:Un (frs X.stack) ch H H' s.heap s'.heap) (hok:HOk X.prog X.w H' s'.heap) (hg:AllBare s'.gens)
 (hch: ∀b∈ch,(b∈X.ex∨X.s₀.heap.objs.size≤b)∧b≠X.env.locals∧(∀ x c,X.env.cells.lookup x=some c→c≠b)∧∀p∈X.pn++pins,p.1≠b):Inv X pins σ H' s':=by
 obtain ⟨h',g',d',t',o'⟩:=s'
 have e:o'=s.os:=ho
 subst e
 exact I.call (g':=g') (t':=t') (d':=d') u hok hg hch
end
noncomputable abbrev XK:=Value→Option Addr→Hp→Prop
noncomputable abbrev St:=List (Option V)
noncomputable abbrev VK:=V→Hp→Prop
noncomputable abbrev TE:=St→Hp→VK→Prop
noncomputable abbrev TT:=St→Hp→(Bool→Hp→Prop)→Prop
noncomputable abbrev TA:=St→Hp→(List V→Hp→Prop)→Prop
structure Ends where
 nx:St→Hp→Prop
 rt:VK
 bk:St→Hp→Prop:=fun q_ q_=>False
 ct:St→Hp→Prop:=fun q_ q_=>False
noncomputable abbrev TS:=Ends→St→Hp→Prop
noncomputable def EP (X:Cx) (pins:List (Addr×Obj)) (σ:St) (Q:VK) (u:Value) (s':Shared):Prop:=∃v H',Inv X pins σ H' s'∧RelV v u∧Q v H'
noncomputable def TP (X:Cx) (pins:List (Addr×Obj)) (σ:St) (Q:Bool→Hp→Prop) (b:Bool) (s':Shared):Prop:=∃H',Inv X pins σ H' s'∧Q b H'
noncomputable def AP (X:Cx) (pins:List (Addr×Obj)) (σ:St) (Q:List V→Hp→Prop) (us:List Value) (s':Shared):Prop:=∃vs H',Inv X pins σ H' s'∧Vals vs us∧Q vs H'
noncomputable def SP (X:Cx) (pins:List (Addr×Obj)) (D:Ends) (f:Flow) (s':Shared):Prop:=
 match f with
 | .next=>∃σ' H',Inv X pins σ' H' s'∧D.nx σ' H'
 | .brk=>∃σ' H',Inv X pins σ' H' s'∧D.bk σ' H'
 | .cont=>∃σ' H',Inv X pins σ' H' s'∧D.ct σ' H'
 | .ret u=>∃v σ' H',Inv X pins σ' H' s'∧RelV v u∧D.rt v H'
noncomputable def PE (X:Cx) (e:Expr) (t:TE):Prop:=
 ∀(pins:List (Addr×Obj)) (s:Shared) (σ:St) (H:Hp) (Q:VK),Inv X pins σ H s→t σ H Q→wpAny (model X.prog X.w) X.A (eval e X.env) (EP X pins σ Q) X.xe s
noncomputable def PT (X:Cx) (e:Expr) (t:TT):Prop:=
 ∀(pins:List (Addr×Obj)) (s:Shared) (σ:St) (H:Hp) (Q:Bool→Hp→Prop),Inv X pins σ H s→t σ H Q→wpAny (model X.prog X.w) X.A (isTrue e X.env (eval e X.env)) (TP X pins σ Q) X.xe s
noncomputable def PW (X:Cx) (e:Expr) (t:TT):Prop:=
 ∀(whole:Sem Value) (pins:List (Addr×Obj)) (s:Shared) (σ:St) (H:Hp) (Q:Bool→Hp→Prop),Inv X pins σ H s→t σ H Q→wpAny (model X.prog X.w) X.A (isTrue e X.env whole) (TP X pins σ Q) X.xe s
theorem PW.pt {X:Cx} {e:Expr} {t:TT} (h:PW X e t):PT X e t:=h _
noncomputable def PA (X:Cx) (es:List Expr) (t:TA):Prop:=
 ∀(pos:Pos) (pins:List (Addr×Obj)) (s:Shared) (σ:St) (H:Hp) (Q:List V→Hp→Prop),Inv X pins σ H s→t σ H Q→wpAny (model X.prog X.w) X.A (spliced (backTo pos (starEach es X.env))) (AP X pins σ Q) X.xe s
noncomputable def PS (X:Cx) (st:Stmt) (t:TS):Prop:=
 ∀(pins:List (Addr×Obj)) (s:Shared) (σ:St) (H:Hp) (D:Ends),Inv X pins σ H s→t D σ H→wpAny (model X.prog X.w) X.A (exec st X.env) (SP X pins D) X.xe s
noncomputable def PSs (X:Cx) (st:List Stmt) (t:TS):Prop:=
 ∀(pins:List (Addr×Obj)) (s:Shared) (σ:St) (H:Hp) (D:Ends),Inv X pins σ H s→t D σ H→wpAny (model X.prog X.w) X.A (execs st X.env) (SP X pins D) X.xe s
theorem thn {α:Type} {t:Sem α} {Q Q':α→Shared→Prop} {M:Model} {A:Around} {E:Value→Shared→Prop} {s:Shared} (h:wpAny M A t Q E s) (hQ: ∀a s,Q a s→Q' a s):wpAny M A t Q' E s:=wpAny_mono h hQ fun q_ q_ x=>x
end L2
namespace L2
open PySem PySem.Spec PyProof.Rows
section
variable {X:Cx}
noncomputable def tVar (i:Nat):TE:=fun σ H Q=>∃v,σ[i]?=some (some v)∧Q v H
noncomputable def tC (v:V):TE:=fun q_ H Q=>Q v H
theorem pe_var {i:Nat} {x:Str} {pos:Pos} (hN:X.N[i]?=some x) (hv:Vis X.env.scope x) (hd:autoParam ((x == ("__debug__":Str))=false) u2._auto_1) (hcd:autoParam ((x == ("__classdict__":Str))=false) u2._auto_1):PE X (.Name x pos) (tVar i):=by
 intro pins s σ H Q I h
 obtain ⟨v,e,h⟩:=h
 obtain ⟨m,hn,hl⟩:=I.loc
 obtain ⟨u,r,l⟩:=hl i x v hN e hv
 have fin:EP X pins σ Q u s:=⟨v,H,I,r,h⟩
 rcases l with ⟨hk,hm⟩ | ⟨hk,c,hc,hcell⟩
 · exact wpAny_Name (wpAny_loadName_local I.ok.kind hk hn hm fin) hd
 · rcases hk with hk | hk
   · exact wpAny_Name (wpAny_loadName_cell I.ok.kind hk hc hcell fin) hd
   · exact wpAny_Name (wpAny_loadName_free I.ok.kind hk hc hcell fin hcd) hd
theorem pe_int {i j pos}:PE X (.Constant (.int i) j pos) (tC (.int i)):=fun q_ q_ q_ H q_ I h=>wpAny_Constant_int ⟨.int i,H,I.tok _,⟨_,rfl⟩,h⟩
theorem pe_bl {b j pos}:PE X (.Constant (.bool b) j pos) (tC (.bl b)):=fun q_ q_ q_ H q_ I h=>Constant_bool ⟨.bl b,H,I,rfl,h⟩
theorem pe_non {j pos}:PE X (.Constant .none j pos) (tC .non):=fun q_ q_ q_ H q_ I h=>Constant_none ⟨.non,H,I,rfl,h⟩
theorem pe_str {x j pos}:PE X (.Constant (.str x) j pos) (tC (.str x)):=fun q_ q_ q_ H q_ I h=>Calls.Constant_str ⟨.str x,H,I.tok _,⟨_,rfl⟩,h⟩
noncomputable def Gl (X:Cx) (x:Str):Prop:=X.env.kindOf x=some .globalImplicit
theorem ld_glob {E:Value→Shared→Prop} {pins:List (Addr×Obj)} {s:Shared} {σ:St} {H:Hp} {x:Str} {u:Value} {pos:Pos} {Q:Value→Shared→Prop} (I:Inv X pins σ H s) (hg:Gl X x) (hm:X.mg x=some u) (h:Q u s)
 (hd:autoParam ((x == ("__debug__":Str))=false) u2._auto_1):wpAny (model X.prog X.w) X.A (eval (.Name x pos) X.env) Q E s:=
 Calls.Name_function_global I.ok.kind hg (Calls.loadGlobal_global (by rw [I.ok.glob];exact I.mod.glob.keeps I.bk) hm h) hd
theorem ld_blt {E:Value→Shared→Prop} {pins:List (Addr×Obj)} {s:Shared} {σ:St} {H:Hp} {x:Str} {u:Value} {pos:Pos} {Q:Value→Shared→Prop} (I:Inv X pins σ H s) (hg:Gl X x) (hm:X.mg x=none) (hv:bootBuiltins x=some u) (h:Q u s)
 (hn:autoParam (x≠"__name__") u2._auto_1) (hd:autoParam ((x == ("__debug__":Str))=false) u2._auto_1):wpAny (model X.prog X.w) X.A (eval (.Name x pos) X.env) Q E s:=by
 obtain ⟨mb,h1,h2⟩:=I.mod.blt
 exact Calls.Name_function_global I.ok.kind hg (Calls.loadGlobal_builtin (by rw [I.ok.glob];exact I.mod.glob.keeps I.bk) hm (by rw [I.ok.blt];exact h1.keeps I.bk) ((h2 x hn).trans hv) h) hd
theorem pe_glob {x:Str} {v:V} {u:Value} {pos:Pos} (hg:Gl X x) (hm:X.mg x=some u) (r:RelV v u) (hd:autoParam ((x == ("__debug__":Str))=false) u2._auto_1):PE X (.Name x pos) (tC v):=
 fun q_ q_ q_ H q_ I h=>ld_glob I hg hm ⟨v,H,I,r,h⟩ hd
theorem pe_bltn {x:Str} {v:V} {u:Value} {pos:Pos} (hg:Gl X x) (hm:X.mg x=none) (hv:bootBuiltins x=some u) (r:RelV v u) (hn:autoParam (x≠"__name__") u2._auto_1) (hd:autoParam ((x == ("__debug__":Str))=false) u2._auto_1):PE X (.Name x pos) (tC v):=
 fun q_ q_ q_ H q_ I h=>ld_blt I hg hm hv ⟨v,H,I,r,h⟩ hn hd
variable {a b:Expr} {ta tb:TE} {pos:Pos}
noncomputable def PC (X:Cx) (op:CmpOp) (a b:Expr) (t:TE):Prop:=
 ∀(pins:List (Addr×Obj)) (s:Shared) (σ:St) (H:Hp) (Q:VK),Inv X pins σ H s→t σ H Q→
  wpAny (model X.prog X.w) X.A (eval a X.env) (fun v s₁=>wpAny (model X.prog X.w) X.A (eval b X.env) (fun u s₂=>wpAny (model X.prog X.w) X.A (compareOp op v u) (EP X pins σ Q) X.xe s₂) X.xe s₁) X.xe s
theorem nobehind (b:Expr) {op:CmpOp} (h:op≠ .In) (h2:op≠ .NotIn):behindInMarks op b=false:=by
 have e1:(op == CmpOp.In)=false:=by cases op <;> first | rfl | exact absurd rfl h
 have e2:(op == CmpOp.NotIn)=false:=by cases op <;> first | rfl | exact absurd rfl h2
 cases b <;> simp [behindInMarks,e1,e2]
noncomputable def tB (t:TE):TT:=fun σ H Q=>t σ H fun x H1=>∃c,x= .bl c∧Q c H1
theorem pt_cmp {op:CmpOp} {t:TE} (h:PC X op a b t) (h1:autoParam (behindInMarks op b=false) u3._auto_1):PT X (.Compare a [op] [b] pos) (tB t):=by
 intro pins s σ H Q I hw
 refine wpAny_isTrue_Compare1 (thn (h pins s σ H _ I hw) fun v s1 h1=>thn h1 fun u s2 h2=>thn h2 fun c s3 ⟨x,H1,I1,r1,q1⟩=> ?_) h1
 obtain ⟨d,rfl,q⟩:=q1
 cases r1
 exact wpAny_truthy_bool ⟨H1,I1,q⟩
theorem pt_val {e:Expr} {t:TE} (h:PE X e t) (he:autoParam (∀ whole,isTrue e X.env whole=(do let v ← whole;standAt e.pos;holding [v] (truthy v))) u4._auto_1):PT X e (tB t):=by
 intro pins s σ H Q I hw
 refine isTrue_plain (thn (h pins s σ H _ I hw) fun v s1 ⟨x,H1,I1,r1,q1⟩=> ?_) (he _)
 obtain ⟨d,rfl,q⟩:=q1
 cases r1
 exact wpAny_truthy_bool ⟨H1,I1,q⟩
variable {tA tB':TT} {rest:List Expr}
noncomputable def tAnd (t u:TT):TT:=fun σ H Q=>t σ H fun c H1=>if c=true then u σ H1 Q else Q false H1
noncomputable def tOr (t u:TT):TT:=fun σ H Q=>t σ H fun c H1=>if c=true then Q true H1 else u σ H1 Q
noncomputable def tNot (t:TT):TT:=fun σ H Q=>t σ H fun c H1=>Q (!c) H1
theorem pw_and1 (ha:PT X a tA):PW X (.BoolOp .And [a] pos) tA:=by
 intro wh pins s σ H Q I h
 refine isTrue_and (thn (ha pins s σ H Q I h) fun c s1 e=> ?_)
 cases c with
 | true=>exact isTrue_and_nil e
 | false=>exact e
theorem pw_or1 (ha:PT X a tA):PW X (.BoolOp .Or [a] pos) tA:=by
 intro wh pins s σ H Q I h
 refine isTrue_or (thn (ha pins s σ H Q I h) fun c s1 e=> ?_)
 cases c with
 | false=>exact isTrue_or_nil e
 | true=>exact e
theorem pw_and (ha:PT X a tA) (hb:PW X (.BoolOp .And (b::rest) pos) tB'):PW X (.BoolOp .And (a::b::rest) pos) (tAnd tA tB'):=by
 intro wh pins s σ H Q I h
 refine isTrue_and (thn (ha pins s σ H _ I h) fun c s1 ⟨H1,I1,q1⟩=> ?_)
 cases c with
 | true=>exact hb wh pins s1 σ H1 Q I1 q1
 | false=>exact ⟨H1,I1,q1⟩
theorem pw_or (ha:PT X a tA) (hb:PW X (.BoolOp .Or (b::rest) pos) tB'):PW X (.BoolOp .Or (a::b::rest) pos) (tOr tA tB'):=by
 intro wh pins s σ H Q I h
 refine isTrue_or (thn (ha pins s σ H _ I h) fun c s1 ⟨H1,I1,q1⟩=> ?_)
 cases c with
 | true=>exact ⟨H1,I1,q1⟩
 | false=>exact hb wh pins s1 σ H1 Q I1 q1
theorem pt_not (ha:PT X a tA):PT X (.UnaryOp .Not a pos) (tNot tA):=by
 intro pins s σ H Q I h
 exact isTrue_not (ha pins s σ H (fun c H1=>Q (!c) H1) I h)
noncomputable def tAndV (ta tb:TE):TE:=fun σ H Q=>ta σ H fun x H1=>∃c,x= .bl c∧if c=true then tb σ H1 Q else Q (.bl false) H1
noncomputable def tNotV (ta:TE):TE:=fun σ H Q=>ta σ H fun x H1=>∃c,x= .bl c∧Q (.bl (!c)) H1
theorem pe_one {op} {t:TE} (h:PE X a t):PE X (.BoolOp op [a] pos) t:=fun pins s σ H Q I hw=>BoolOp_one (h pins s σ H Q I hw)
theorem pe_and (ha:PE X a ta) (hb:PE X (.BoolOp .And (b::rest) pos) tb):PE X (.BoolOp .And (a::b::rest) pos) (tAndV ta tb):=by
 intro pins s σ H Q I h
 refine BoolOp_and (thn (ha pins s σ H _ I h) fun v s1 ⟨x,H1,I1,r1,q1⟩=> ?_)
 obtain ⟨c,rfl,q1⟩:=q1
 cases r1
 refine wpAny_truthy_bool ?_
 cases c with
 | true=>exact hb pins s1 σ H1 Q I1 q1
 | false=>exact ⟨.bl false,H1,I1,rfl,q1⟩
theorem pe_not (ha:PE X a ta):PE X (.UnaryOp .Not a pos) (tNotV ta):=by
 intro pins s σ H Q I h
 refine UnaryOp_ (thn (ha pins s σ H _ I h) fun v s1 ⟨x,H1,I1,r1,q1⟩=> ?_)
 obtain ⟨c,rfl,q1⟩:=q1
 cases r1
 exact not_of (wpAny_truthy_bool ⟨.bl (!c),H1,I1,rfl,q1⟩)
end
end L2
namespace L2
open PySem PySem.Spec PyProof.Rows
noncomputable def SqL (K:PySem.W.Frag) (H:Hp) (a:Addr) (xs:List V):Prop:=
 Rd H a (.lst xs)∨
  ∃(o:Obj) (its:Array Value) (n:Nat),K.lookup a=some o∧o.cls= .type "list"∧o.dict=none∧o.data= .seq its n∧its.size≤sizeLine∧Vals xs its.toList
noncomputable def SqT (K:PySem.W.Frag) (H:Hp) (a:Addr) (xs:List V):Prop:=
 Rd H a (.tup xs)∨
  ∃(o:Obj) (its:Array Value) (n:Nat),K.lookup a=some o∧o.cls= .type "tuple"∧o.data= .seq its n∧its.size≤sizeLine∧Vals xs its.toList
noncomputable def absV:Value→Option V
 | .none=>some .non
 | .bool b=>some (.bl b)
 | .int i _=>some (.int i)
 | .str x _=>some (.str x)
 | .bytes b _=>some (.byt b)
 | .float b _=>some (.flt b)
 | .ref a=>some (.ref a)
 | .type n=>some (.ty n)
 | _=>none
theorem RelV.abs {x:V} {u:Value} (r:RelV x u):absV u=some x:=by
 cases x with
 | non=>cases r;rfl
 | bl _=>cases r;rfl
 | int _=>obtain ⟨t,rfl⟩:=r;rfl
 | str _=>obtain ⟨t,rfl⟩:=r;rfl
 | byt _=>obtain ⟨t,rfl⟩:=r;rfl
 | flt _=>obtain ⟨t,rfl⟩:=r;rfl
 | ref _=>cases r;rfl
 | ty _=>cases r;rfl
theorem RelV.inj {x y:V} {u:Value} (r:RelV x u) (q:RelV y u):x=y:=Option.some.inj (r.abs.symm.trans q.abs)
theorem Vals.inj: ∀{xs ys:List V} {us:List Value},Vals xs us→Vals ys us→xs=ys
 | _,_,_,.nil,.nil=>rfl
 | _,_,_,.cons r t,.cons r' t'=>by rw [r.inj r',Vals.inj t t']
section
variable {X:Cx} {pins:List (Addr×Obj)} {σ:St} {H:Hp} {s:Shared} {a:Addr} {xs ys:List V}
theorem SqL.of {K:PySem.W.Frag} (h:H a=some (.lst xs)):SqL K H a xs:= .inl (.inl h)
theorem SqT.of {K:PySem.W.Frag} (h:H a=some (.tup xs)):SqT K H a xs:= .inl (.inl h)
theorem Inv.list (I:Inv X pins σ H s) (h:SqL X.K H a xs): ∃its:List Value,Vals xs its∧PlainL s.heap a its.toArray∧xs.length≤sizeLine:=by
 rcases h with h | ⟨o,its,n,hk,hc,hd,hs,hz,r⟩
 · obtain ⟨z,its,n,r,e⟩:=h.ok I.hok
   exact ⟨its,r,⟨_,n,e,rfl,rfl,rfl⟩,z⟩
 · refine ⟨its.toList,r,⟨o,n,I.kIn a o hk,hc,hd,by simpa using hs⟩,?_⟩
   have e:=r.length
   simp only [Array.length_toList] at e
   lia
theorem Inv.tuple (I:Inv X pins σ H s) (h:SqT X.K H a xs): ∃its:List Value,Vals xs its∧IsTup s.heap a its.toArray∧xs.length≤sizeLine:=by
 rcases h with h | ⟨o,its,n,hk,hc,hs,hz,r⟩
 · obtain ⟨z,its,r,p⟩:=h.ok I.hok
   exact ⟨its,r,p,z⟩
 · refine ⟨its.toList,r,⟨o,I.kIn a o hk,hc,n,by simpa using hs⟩,?_⟩
   have e:=r.length
   simp only [Array.length_toList] at e
   lia
theorem Inv.list_inj (I:Inv X pins σ H s) (h:SqL X.K H a xs) (h':SqL X.K H a ys):xs=ys:=by
 obtain ⟨its,r,⟨o,n,e,_,_,d⟩,_⟩:=I.list h
 obtain ⟨its',r',⟨o',n',e',_,_,d'⟩,_⟩:=I.list h'
 rw [e] at e';cases e'
 rw [d] at d'
 injection d' with d1 _
 have:its=its':=by simpa using congrArg Array.toList d1
 subst this
 exact r.inj r'
theorem Inv.tuple_inj (I:Inv X pins σ H s) (h:SqT X.K H a xs) (h':SqT X.K H a ys):xs=ys:=by
 obtain ⟨its,r,⟨o,e,_,n,d⟩,_⟩:=I.tuple h
 obtain ⟨its',r',⟨o',e',_,n',d'⟩,_⟩:=I.tuple h'
 rw [e] at e';cases e'
 rw [d] at d'
 injection d' with d1 _
 have:its=its':=by simpa using congrArg Array.toList d1
 subst this
 exact r.inj r'
end
noncomputable abbrev Cx.wish (X:Cx) (E:Value→Shared→Prop):Cx:={X with xe:=E}
noncomputable abbrev Cx.nox (X:Cx):Cx:=X.wish fun q_ q_=>False
theorem Cx.Ok.wish {X:Cx} (ok:X.Ok) (E:Value→Shared→Prop):(X.wish E).Ok:=
 ⟨ok.mod,ok.kind,ok.glob,ok.blt,ok.above,ok.inj,ok.has,ok.cab,ok.hd,ok.frames,ok.stk,ok.exf,ok.bs,ok.bsz,ok.noex,ok.exfs,ok.funs,ok.frf⟩
theorem Cx.Ok.unwish {X:Cx} {E:Value→Shared→Prop} (ok:(X.wish E).Ok):X.Ok:=
 ⟨ok.mod,ok.kind,ok.glob,ok.blt,ok.above,ok.inj,ok.has,ok.cab,ok.hd,ok.frames,ok.stk,ok.exf,ok.bs,ok.bsz,ok.noex,ok.exfs,ok.funs,ok.frf⟩
section
variable {X:Cx} {pins:List (Addr×Obj)} {σ:St} {H:Hp} {s:Shared} {E:Value→Shared→Prop}
theorem Inv.wish (I:Inv X pins σ H s) (E:Value→Shared→Prop):Inv (X.wish E) pins σ H s:=⟨I.ok.wish E,I.os,I.bare,I.base,I.loc,I.cell,I.free,I.freeC,I.pin,I.hok,I.len⟩
theorem Inv.unwish (I:Inv (X.wish E) pins σ H s):Inv X pins σ H s:=⟨I.ok.unwish,I.os,I.bare,I.base,I.loc,I.cell,I.free,I.freeC,I.pin,I.hok,I.len⟩
theorem SP.unwish {D:Ends} {f:Flow} {s':Shared} (h:SP (X.wish E) pins D f s'):SP X pins D f s':=by
 cases f with
 | next=>obtain ⟨σ',H',I,q⟩:=h;exact ⟨σ',H',I.unwish,q⟩
 | brk=>obtain ⟨σ',H',I,q⟩:=h;exact ⟨σ',H',I.unwish,q⟩
 | cont=>obtain ⟨σ',H',I,q⟩:=h;exact ⟨σ',H',I.unwish,q⟩
 | ret u=>obtain ⟨v,σ',H',I,r,q⟩:=h;exact ⟨v,σ',H',I.unwish,r,q⟩
theorem PSs.nox {st:List Stmt} {t:TS} (h:PSs X.nox st t):PSs X st t:=fun pins s σ H D I hw=>
 wpAny_mono (h pins s σ H D (I.wish _) hw) (fun q_ q_ q=>q.unwish) fun q_ q_ z=>False.elim z
end
section
variable {X:Cx} {st:Stmt} {rest:List Stmt} {t u:TS} {e:Expr} {te:TE} {pos:Pos}
noncomputable def tNext:TS:=fun D σ H=>D.nx σ H
noncomputable def tSeq (t u:TS):TS:=fun D σ H=>t {D with nx:=u D} σ H
theorem pss_nil:PSs X [] tNext:=fun q_ q_ σ H q_ I h=>wpAny_execs_nil ⟨σ,H,I,h⟩
theorem pss_cons (h1:PS X st t) (h2:PSs X rest u):PSs X (st::rest) (tSeq t u):=by
 intro pins s σ H D I h
 refine wpAny_execs_cons (thn (h1 pins s σ H {D with nx:=u D} I h) fun f s1 q=> ?_)
 cases f with
 | next=>
   obtain ⟨σ',H',I',q⟩:=q
   exact h2 pins s1 σ' H' D I' q
 | ret v=>exact q
 | brk=>exact q
 | cont=>exact q
theorem pss_one (h1:PS X st t):PSs X [st] t:=by
 intro pins s σ H D I h
 refine wpAny_execs_cons (thn (h1 pins s σ H D I h) fun f s1 q=> ?_)
 cases f with
 | next=>exact wpAny_execs_nil q
 | ret v=>exact q
 | brk=>exact q
 | cont=>exact q
theorem Inv.quiet {pins:List (Addr×Obj)} {σ:St} {H:Hp} {s:Shared} (I:Inv X pins σ H s):interactive X.env=false:=by simp [interactive,I.ok.kind]
noncomputable def tDrop (te:TE):TS:=fun D σ H=>te σ H fun q_ H1=>D.nx σ H1
theorem ps_expr (he:PE X e te) (hs:autoParam (swapsWith e none pos.line X.env=pure false) u5._auto_1):PS X (.Expr e pos) (tDrop te):=by
 intro pins s σ H D I h
 exact wpAny_Expr_any (thn (he pins s σ H _ I h) fun v s1 ⟨x,H1,I1,r1,q1⟩=>⟨σ,H1,I1,q1⟩) I.quiet hs
noncomputable def tRet (te:TE):TS:=fun D σ H=>te σ H D.rt
theorem ps_ret (he:PE X e te):PS X (.Return (some e) pos) (tRet te):=by
 intro pins s σ H D I h
 exact wpAny_Return_some (thn (he pins s σ H _ I h) fun v s1 ⟨x,H1,I1,r1,q1⟩=>⟨x,σ,H1,I1,r1,q1⟩)
noncomputable def tIfS (c:TT) (t u:TS):TS:=fun D σ H=>c σ H fun b H1=>if b=true then t D σ H1 else u D σ H1
theorem ps_if {c:Expr} {a b:List Stmt} {tc:TT} (hc:PT X c tc) (ha:PSs X a t) (hb:PSs X b u):PS X (.If c a b pos) (tIfS tc t u):=by
 intro pins s σ H D I h
 refine wpAny_If (thn (hc pins s σ H _ I h) fun d s1 ⟨H1,I1,q1⟩=> ?_)
 cases d with
 | true=>exact ha pins s1 σ H1 D I1 q1
 | false=>exact hb pins s1 σ H1 D I1 q1
end
noncomputable abbrev TG:=V→St→Hp→(St→Hp→Prop)→Prop
noncomputable abbrev TGs:=List V→St→Hp→(St→Hp→Prop)→Prop
noncomputable def PG (X:Cx) (target:Expr) (t:TG):Prop:=
 ∀(pins:List (Addr×Obj)) (s:Shared) (σ:St) (H:Hp) (v:V) (u:Value) (Q:St→Hp→Prop),Inv X pins σ H s→RelV v u→t v σ H Q→
  wpAny (model X.prog X.w) X.A (assign target X.env u) (fun q_ s'=>∃σ' H',Inv X pins σ' H' s'∧Q σ' H') X.xe s
noncomputable def PGs (X:Cx) (ts:List Expr) (t:TGs):Prop:=
 ∀(pins:List (Addr×Obj)) (s:Shared) (σ:St) (H:Hp) (vs:List V) (us:List Value) (Q:St→Hp→Prop),Inv X pins σ H s→Vals vs us→t vs σ H Q→
  wpAny (model X.prog X.w) X.A (assignInOrder ((assignEach ts X.env).map (·.2)) us) (fun q_ s'=>∃σ' H',Inv X pins σ' H' s'∧Q σ' H') X.xe s
noncomputable abbrev TSet:=V→V→V→Hp→(Hp→Prop)→Prop
noncomputable def PSet (X:Cx) (t:TSet):Prop:=
 ∀(pins:List (Addr×Obj)) (s:Shared) (σ:St) (H:Hp) (o i v:V) (ov iv u:Value) (Q:Hp→Prop),Inv X pins σ H s→RelV o ov→RelV i iv→RelV v u→t o i v H Q→
  wpAny (model X.prog X.w) X.A (setItem ov iv u) (fun q_ s'=>∃H',Inv X pins σ H' s'∧Q H') X.xe s
section
variable {X:Cx} {pos:Pos}
noncomputable def gName (i:Nat):TG:=fun v σ H Q=>Q (σ.set i (some v)) H
theorem pg_name {i:Nat} {x:Str} (hN:X.N.Nodup) (hi:X.N[i]?=some x) (hx:Loc X.env.scope x) (hf:autoParam (X.fn x=true∨X.env.scope.names.lookup x=some .local) u1._auto_1):PG X (.Name x pos) (gName i):=by
 intro pins s σ H v u Q I r h
 exact wpAny_assign_Name (store_ok I hN hi hx r (fun s' I'=>⟨_,H,I',h⟩) hf)
noncomputable def gNil:TGs:=fun vs σ H Q=>vs=[]∧Q σ H
noncomputable def gCons (t:TG) (u:TGs):TGs:=fun vs σ H Q=>∃v r,vs=v::r∧t v σ H fun σ' H'=>u r σ' H' Q
theorem pgs_nil:PGs X [] gNil:=by
 intro pins s σ H vs us Q I r h
 obtain ⟨e,h⟩:=h
 subst e
 cases r
 exact assignInOrder_nil ⟨σ,H,I,h⟩
theorem pgs_cons {e:Expr} {es:List Expr} {t:TG} {u:TGs} (h1:PG X e t) (h2:PGs X es u)
 (hs:autoParam ((assignEach (e::es) X.env).map (·.2)=assign e X.env::(assignEach es X.env).map (·.2)) u5._auto_1):PGs X (e::es) (gCons t u):=by
 intro pins s σ H vs us Q I r h
 obtain ⟨v,vr,e1,h⟩:=h
 subst e1
 cases r with
 | cons r rr=>
   rw [hs]
   refine assignInOrder_cons (thn (h1 pins s σ H _ _ _ I r h) fun _ s1 ⟨σ1,H1,I1,q1⟩=> ?_)
   exact h2 pins s1 σ1 H1 _ _ Q I1 rr q1
noncomputable def gTup (K:PySem.W.Frag) (n:Nat) (t:TGs):TG:=fun v σ H Q=>∃a xs,v= .ref a∧SqT K H a xs∧xs.length=n∧t xs σ H Q
theorem pg_tup {es:List Expr} {k:Nat} {t:TGs} {n:Nat} (hc:X.calm=true) (h:PGs X es t)
 (hn:autoParam ((assignEach es X.env).length=n) u5._auto_1) (hst:autoParam ((assignEach es X.env).findIdx? (·.1)=none) u5._auto_1):PG X (.Tuple es k pos) (gTup X.K n t):=by
 intro pins s σ H v u Q I r hw
 obtain ⟨a,xs,e1,hq,hl,hw⟩:=hw
 subst e1
 cases r
 obtain ⟨its,rv,ht,hz⟩:=I.tuple hq
 refine assign_Tuple_tuple (I.ok.hd hc) ht (by simp [hn,← hl,rv.length]) hst fun h' hx=> ?_
 have I1:Inv X pins σ H {s with heap:=h'}:=I.kept (t':=s.toks) fun b o e=>hx b o (Nat.ne_of_lt (Heap.lt_size e)) e
 exact h pins _ σ H xs _ Q I1 (by simpa using rv) hw
noncomputable def gSub (to ti:TE) (t:TSet):TG:=fun v σ H Q=>to σ H fun o H1=>ti σ H1 fun i H2=>t o i v H2 fun H3=>Q σ H3
theorem pg_sub {o i:Expr} {to ti:TE} {t:TSet} (ho:PE X o to) (hi:PE X i ti) (hs:PSet X t)
 (ha:autoParam (∀ v,assign (.Subscript o i pos) X.env v=(do
   let ov ← holding [v] (eval o X.env)
   let iv ← holding [v,ov] (eval i X.env)
   standAt pos
   holding [v,ov,iv] (setItem ov iv v)
   release [v,ov,iv] [])) u4._auto_1):PG X (.Subscript o i pos) (gSub to ti t):=by
 intro pins s σ H v u Q I r h
 rw [ha]
 refine wpAny_bind (wpAny_holding (thn (ho pins s σ H _ I h) fun ov s1 ⟨x,H1,I1,r1,q1⟩=> ?_))
 refine wpAny_bind (wpAny_holding (thn (hi pins s1 σ H1 _ I1 q1) fun iv s2 ⟨y,H2,I2,r2,q2⟩=> ?_))
 refine wpAny_bind (wpAny_standAt (wpAny_bind (wpAny_holding (thn (hs pins s2 σ H2 x y v ov iv u _ I2 r1 r2 r q2) fun _ s3 ⟨H3,I3,q3⟩=> ?_))))
 exact wpAny_release ⟨σ,H3,I3,q3⟩
noncomputable def tAsg (te:TE) (g:TG):TS:=fun D σ H=>te σ H fun x H1=>g x σ H1 D.nx
theorem ps_asg {tg e:Expr} {te:TE} {g:TG} (he:PE X e te) (hg:PG X tg g) (hs:autoParam (swapsWithSole [tg] e pos.line X.env=pure false) u5._auto_1) (hw:autoParam (swappedStores [tg] e X.env=pure none) u5._auto_1)
 (h1:autoParam ((assignEach [tg] X.env).map (·.2)=[assign tg X.env]) u5._auto_1):PS X (.Assign [tg] e pos) (tAsg te g):=by
 intro pins s σ H D I h
 refine wpAny_Assign_stores (thn (he pins s σ H _ I h) fun v s1 ⟨x,H1,I1,r1,q1⟩=> ?_) hs hw
 rw [h1]
 exact thn (hg pins s1 σ H1 x v _ I1 r1 q1) fun q_ s2 q=>q
theorem ps_set {i:Nat} {x:Str} {e:Expr} {te:TE} {pos':Pos} (hN:X.N.Nodup) (hi:X.N[i]?=some x) (hx:Loc X.env.scope x) (he:PE X e te) (hs:autoParam (swapsWith e (some (.Name x pos')) pos.line X.env=pure false) u5._auto_1) (hf:autoParam (X.fn x=true∨X.env.scope.names.lookup x=some .local) u1._auto_1):
 PS X (.Assign [.Name x pos'] e pos) (tAsg te (gName i)):=by
 intro pins s σ H D I h
 refine wpAny_Assign_Name (thn (he pins s σ H _ I h) fun v s1 ⟨y,H1,I1,r1,q1⟩=> ?_) hs
 exact store_ok I1 hN hi hx r1 (fun s2 I2=>⟨_,H1,I2,q1⟩) hf
end
section
variable {X:Cx} {pos:Pos}
end
structure It where
 go:Nat→Hp→Prop
 yld:Nat→Hp→V→Hp→Prop
 stop:Nat→Hp→Prop
noncomputable def FpOk (X:Cx) (pins:List (Addr×Obj)) (H:Hp) (b:Addr):Prop:=
 H b=none∧b≠X.env.locals∧b ∉ X.fs∧(b∈X.ex∨X.s₀.heap.objs.size≤b)∧(∀ x c,X.env.cells.lookup x=some c→c≠b)∧∀p∈X.pn++pins,p.1≠b
theorem Inv.fpOk {X:Cx} {pins:List (Addr×Obj)} {σ:St} {H H':Hp} {s:Shared} {b:Addr} (I:Inv X pins σ H s) (hb:s.heap.objs.size≤b) (hn:H' b=none):FpOk X pins H' b:=by
 refine ⟨hn,Nat.ne_of_gt (Nat.lt_of_lt_of_le I.lt hb),I.nofs hb,.inr (Nat.le_trans I.sz hb),fun x c e z=> ?_,fun p hp z=> ?_⟩
 · obtain ⟨v,q⟩:=I.cell x c e
   exact absurd (Nat.lt_of_lt_of_le q.lt (by rw [z];exact hb)) (Nat.lt_irrefl _)
 · exact absurd (Nat.lt_of_lt_of_le (Heap.lt_size (I.pin p hp).1) (by rw [z];exact hb)) (Nat.lt_irrefl _)
structure Turn (P:Program) (w:World) (K:PySem.W.Frag) (tg:Expr) (J:It) (fp:List Addr) (it:Addr) (tn:Nat→Heap→Prop):Prop where
 mem:it∈fp
 obj: ∀i h,tn i h→∀b∈fp,∃o,h.get? b=some o∧∀v,o.data≠ .cell v
 keep: ∀i h h',tn i h→(∀ b∈fp,∀o,h.get? b=some o→h'.get? b=some o)→tn i h'
 item: ∀(X:Cx),X.prog=P→X.w=w→X.K=K→X.calm=true→∀(i:Nat) (pins:List (Addr×Obj)) (s:Shared) (σ:St) (H:Hp) (E:Value→Shared→Prop),Inv X pins σ H s→(∀ b∈fp,FpOk X pins H b)→tn i s.heap→J.go i H→
  wpAny (model P w) X.A (pyNext (.ref it)) (fun r s1=>∃u,r=some u∧
   wpAny (model P w) X.A (letOwnedTupleGo tg (.ref it) u) (fun q_ s2=>∃x H',Inv X pins σ H' s2∧RelV x u∧J.yld i H x H'∧tn (i + 1) s2.heap∧∀b∈fp,H' b=none) E s1) E s
 done: ∀(X:Cx),X.prog=P→X.w=w→X.K=K→X.calm=true→∀(i:Nat) (pins:List (Addr×Obj)) (s:Shared) (σ:St) (H:Hp) (E:Value→Shared→Prop),Inv X pins σ H s→(∀ b∈fp,FpOk X pins H b)→tn i s.heap→J.stop i H→
  wpAny (model P w) X.A (pyNext (.ref it)) (fun r s1=>r=none∧Inv X pins σ H s1) E s
 self: ∀(A:Around) (i:Nat) (s:Shared) (Q:Value→Shared→Prop) (E:Value→Shared→Prop),tn i s.heap→Q (.ref it) s→wpAny (model P w) A (pyIter (.ref it)) Q E s
noncomputable abbrev TI:=St→Hp→(It→Hp→Prop)→Prop
noncomputable def PIE (X:Cx) (pins:List (Addr×Obj)) (σ:St) (tg:Expr) (R:It→Hp→Prop) (itv:Value) (s2:Shared):Prop:=
 ∃(it:Addr) (fp:List Addr) (tn:Nat→Heap→Prop) (J:It) (H':Hp),itv= .ref it∧Inv X pins σ H' s2∧Turn X.prog X.w X.K tg J fp it tn∧tn 0 s2.heap∧(∀ b∈fp,FpOk X pins H' b)∧R J H'
noncomputable def PI (X:Cx) (tg iter:Expr) (wi:TI):Prop:=
 ∀(pins:List (Addr×Obj)) (s:Shared) (σ:St) (H:Hp) (R:It→Hp→Prop),Inv X pins σ H s→wi σ H R→
  wpAny (model X.prog X.w) X.A (eval iter X.env) (fun v s1=>wpAny (model X.prog X.w) X.A (pyIter v) (PIE X pins σ tg R) X.xe s1) X.xe s
theorem go_of {M:Model} {A:Around} {E:Value→Shared→Prop} {s:Shared} {tg:Expr} {it:Addr} {u:Value} {o:Obj} {n:String} {vs:Array Value} {Q:Unit→Shared→Prop} (ho:s.heap.get? it=some o) (hc:o.cls= .type n) (hd:o.data= .fields vs)
 (hn:["enumerate","zip","dict_itemiterator","dict_reverseitemiterator","odict_iterator","itertools.zip_longest","itertools.pairwise"].contains n=false) (hQ:Q () s):wpAny M A (letOwnedTupleGo tg (.ref it) u) Q E s:=by
 unfold letOwnedTupleGo
 cases tg <;> first
  | exact wpAny_pure hQ
  | (cases u <;> first
      | exact wpAny_pure hQ
      | (refine wpAny_bind (wpAny_load ho ?_)
         rw [hc,hd]
         show wpAny M A (if (["enumerate","zip","dict_itemiterator","dict_reverseitemiterator","odict_iterator","itertools.zip_longest","itertools.pairwise"].contains n && vs[0]? == some (rawInt _))=true then _ else _) Q E s
         rw [if_neg (by intro h;rw [hn,Bool.false_and] at h;cases h)]
         exact wpAny_pure hQ))
noncomputable def Itl (K:PySem.W.Frag) (a:Addr):It:=
 ⟨fun i H=>∃xs x,SqL K H a xs∧xs[i]?=some x,fun i H x H'=>H'=H∧∀xs,SqL K H a xs→xs[i]?=some x,fun i H=>∃xs,SqL K H a xs∧xs.length≤i⟩
noncomputable def Itt (K:PySem.W.Frag) (a:Addr):It:=
 ⟨fun i H=>∃xs x,SqT K H a xs∧xs[i]?=some x,fun i H x H'=>H'=H∧∀xs,SqT K H a xs→xs[i]?=some x,fun i H=>∃xs,SqT K H a xs∧xs.length≤i⟩
noncomputable def Itr (lo:Int) (n:Nat):It:=⟨fun i q_=>i < n,fun i H x H'=>H'=H∧x= .int (lo + i),fun i q_=>n≤i⟩
theorem turn_list {P:Program} {w:World} {K:PySem.W.Frag} {tg:Expr} (a it:Addr):Turn P w K tg (Itl K a) [it] it (fun i h=>h.IsListIter it a i) where
 mem:=by simp
 obj:=fun i h st b hb=>by
  have e:b=it:=by simpa using hb
  subst e
  obtain ⟨o,e,c,d⟩:=st
  exact ⟨o,e,fun v z=>by rw [d] at z;cases z⟩
 keep:=fun i h h' st k=>st.at fun o e=>k it (by simp) o e
 item:=by
  intro X hP hw hK hc i pins s σ H E I hf st hg
  subst hP hw hK
  obtain ⟨xs,x,hq,hx⟩:=hg
  obtain ⟨its,rv,p,hz⟩:=I.list hq
  obtain ⟨u,hu,ru⟩:=rv.get hx
  obtain ⟨f0,f1,f2,f3,f4,f5⟩:=hf it (by simp)
  refine wpAny_pyNext_list_item st p.isList (x:=u) (by simpa using hu) fun h' st' sb=> ?_
  have I1:Inv X pins σ H {s with heap:=h'}:=I.turned (t':=s.toks) (fun b o hb e=>(sb.2 b hb).trans e) f0 f1 f3 f4 f5
  obtain ⟨o,e,c,d⟩:=id st'
  exact ⟨u,rfl,go_of (s:={s with heap:=h'}) e c d (by decide) ⟨x,H,I1,ru,⟨rfl,fun ys hy=>by rw [I.list_inj hy hq];exact hx⟩,st',fun b hb=>(hf b hb).1⟩⟩
 done:=by
  intro X hP hw hK hc i pins s σ H E I hf st hg
  subst hP hw hK
  obtain ⟨xs,hq,hx⟩:=hg
  obtain ⟨its,rv,p,hz⟩:=I.list hq
  obtain ⟨f0,f1,f2,f3,f4,f5⟩:=hf it (by simp)
  have hl:=rv.length
  exact wpAny_pyNext_list_end (I.ok.hd hc) st p.isList (by simp;lia) fun h' eb=>⟨rfl,I.turned (t':=s.toks) (fun b o hb e=>eb b o hb e) f0 f1 f3 f4 f5⟩
 self:=fun q_ q_ q_ q_ q_ st h=>wpAny_pyIter_listiter st h
theorem turn_tuple {P:Program} {w:World} {K:PySem.W.Frag} {tg:Expr} (a it:Addr):Turn P w K tg (Itt K a) [it] it (fun i h=>h.IsTupleIter it a i) where
 mem:=by simp
 obj:=fun i h st b hb=>by
  have e:b=it:=by simpa using hb
  subst e
  obtain ⟨o,e,c,d⟩:=st
  exact ⟨o,e,fun v z=>by rw [d] at z;cases z⟩
 keep:=fun i h h' st k=>st.at fun o e=>k it (by simp) o e
 item:=by
  intro X hP hw hK hc i pins s σ H E I hf st hg
  subst hP hw hK
  obtain ⟨xs,x,hq,hx⟩:=hg
  obtain ⟨its,rv,p,hz⟩:=I.tuple hq
  obtain ⟨u,hu,ru⟩:=rv.get hx
  obtain ⟨f0,f1,f2,f3,f4,f5⟩:=hf it (by simp)
  refine wpAny_pyNext_tuple_item st (show s.heap.IsTuple a its.toArray from p) (x:=u) (by simpa using hu) fun h' st' sb=> ?_
  have I1:Inv X pins σ H {s with heap:=h'}:=I.turned (t':=s.toks) (fun b o hb e=>(sb.2 b hb).trans e) f0 f1 f3 f4 f5
  obtain ⟨o,e,c,d⟩:=id st'
  exact ⟨u,rfl,go_of (s:={s with heap:=h'}) e c d (by decide) ⟨x,H,I1,ru,⟨rfl,fun ys hy=>by rw [I.tuple_inj hy hq];exact hx⟩,st',fun b hb=>(hf b hb).1⟩⟩
 done:=by
  intro X hP hw hK hc i pins s σ H E I hf st hg
  subst hP hw hK
  obtain ⟨xs,hq,hx⟩:=hg
  obtain ⟨its,rv,p,hz⟩:=I.tuple hq
  obtain ⟨f0,f1,f2,f3,f4,f5⟩:=hf it (by simp)
  have hl:=rv.length
  exact wpAny_pyNext_tuple_end (I.ok.hd hc) st (show s.heap.IsTuple a its.toArray from p) (by simp;lia) fun h' eb=>⟨rfl,I.turned (t':=s.toks) (fun b o hb e=>eb b o hb e) f0 f1 f3 f4 f5⟩
 self:=fun q_ q_ q_ q_ q_ st h=>wpAny_pyIter_tupleiter st h
theorem turn_range {P:Program} {w:World} {K:PySem.W.Frag} {tg:Expr} (it:Addr) (lo:Int) (n:Nat):Turn P w K tg (Itr lo n) [it] it (fun i h=>IsRangeIter h it (lo + (i:Nat) * 1) ((n:Int) - (i:Nat)) 1) where
 mem:=by simp
 obj:=fun i h st b hb=>by
  have e:b=it:=by simpa using hb
  subst e
  exact ⟨_,st,fun v z=>by
   have z':Data.fields _=Data.cell v:=z
   cases z'⟩
 keep:=fun i h h' st k=>k it (by simp) _ st
 item:=by
  intro X hP hw hK hc i pins s σ H E I hf st hg
  subst hP hw hK
  obtain ⟨f0,f1,f2,f3,f4,f5⟩:=hf it (by simp)
  have W:=Walks.range (prog:=X.prog) (w:=X.w) (I.ok.hd hc) it lo 1 n
  refine W.item i s _ _ hg st fun v h' tk hv st' kk=> ?_
  obtain ⟨t,rfl⟩:=hv
  have I1:Inv X pins σ H {s with heap:=h',toks:=tk}:=I.turned (fun b o hb e=>kk b o (by simpa using hb) e) f0 f1 f3 f4 f5
  refine ⟨_,rfl,go_of (s:={s with heap:=h',toks:=tk}) (n:="range_iterator") st' rfl rfl (by decide) ⟨.int (lo + i),H,I1,⟨t,?_⟩,⟨rfl,rfl⟩,st',fun b hb=>(hf b hb).1⟩⟩
  rw [Int.mul_one]
 done:=by
  intro X hP hw hK hc i pins s σ H E I hf st hg
  subst hP hw hK
  obtain ⟨f0,f1,f2,f3,f4,f5⟩:=hf it (by simp)
  exact wpAny_pyNext_range_end (I.ok.hd hc) st (by have:n≤i:=hg;lia) fun h' eb=>⟨rfl,I.turned (t':=s.toks) (fun b o hb e=>eb b o hb e) f0 f1 f3 f4 f5⟩
 self:=fun q_ q_ q_ q_ q_ st h=>wpAny_pyIter_rangeiter st h
end L2
namespace L2
open PySem PySem.Spec PyProof.Rows
section
variable {X:Cx} {tg:Expr}
noncomputable def iList (K:PySem.W.Frag) (tl:TE):TI:=fun σ H R=>tl σ H fun x H1=>∃a,x= .ref a∧(∃ xs,SqL K H1 a xs)∧R (Itl K a) H1
theorem pi_list {l:Expr} {tl:TE} (hl:PE X l tl):PI X tg l (iList X.K tl):=by
 intro pins s σ H R I h
 refine thn (hl pins s σ H _ I h) fun v s1 ⟨x,H1,I1,r1,q1⟩=> ?_
 obtain ⟨a,e,⟨xs,hq⟩,q⟩:=q1
 subst e
 cases r1
 obtain ⟨its,rv,p,hz⟩:=I1.list hq
 refine wpAny_pyIter_list p.isList ?_
 refine ⟨s1.heap.objs.size,[s1.heap.objs.size],_,_,H1,rfl,I1.kept (t':=s1.toks) fun b o e=>Heap.get?_push_of_some _ e,turn_list a _,⟨_,Heap.get?_push_size _ rfl,rfl,rfl⟩,fun b hb=> ?_,q⟩
 have e:b=s1.heap.objs.size:=by simpa using hb
 subst e
 exact I1.fpOk (Nat.le_refl _) (I1.hok.fresh (Nat.le_refl _))
theorem range_it {pins:List (Addr×Obj)} {σ:St} {H:Hp} {s:Shared} {R:It→Hp→Prop} {E:Value→Shared→Prop} {lo hi:Int} {t u v:Tok} {tk:Nat} (I:Inv X pins σ H s) (h1: -(2 ^ 62)≤lo) (h2:lo < 2 ^ 62) (h3: -(2 ^ 62)≤hi) (h4:hi < 2 ^ 62)
 (q:R (Itr lo (hi - lo).toNat) H):wpAny (model X.prog X.w) X.A (pyIter (.ref s.heap.objs.size)) (PIE X pins σ tg R) E {s with heap:=s.heap.push {cls:= .type "range",data:= .fields #[.int lo t,.int hi u,.int 1 v]},toks:=tk}:=by
 refine wpAny_pyIter_range (IsRange.new ..) (small_one h1 h2 h3 h4) ?_
 have I1:Inv X pins σ H {s with heap:=s.heap.push {cls:= .type "range",data:= .fields #[.int lo t,.int hi u,.int 1 v]},toks:=tk}:=I.kept fun b o e=>Heap.get?_push_of_some _ e
 refine ⟨(s.heap.push {cls:= .type "range",data:= .fields #[.int lo t,.int hi u,.int 1 v]}).objs.size,[(s.heap.push {cls:= .type "range",data:= .fields #[.int lo t,.int hi u,.int 1 v]}).objs.size],_,_,H,rfl,
  I1.kept (t':=tk) fun b o e=>Heap.get?_push_of_some _ e,turn_range _ lo (hi - lo).toNat,?_,fun b hb=> ?_,q⟩
 · have e1:lo + ((0:Nat):Int) * 1=lo:=by simp
   have e2:(((hi - lo).toNat:Nat):Int) - ((0:Nat):Int)=Builtin.Range.rangeSize lo hi 1:=by rw [rangeSize_one];split <;> lia
   show IsRangeIter _ _ (lo + ((0:Nat):Int) * 1) ((((hi - lo).toNat:Nat):Int) - ((0:Nat):Int)) 1
   rw [e1,e2]
   exact Heap.get?_push_size _ rfl
 · have e:b=(s.heap.push {cls:= .type "range",data:= .fields #[.int lo t,.int hi u,.int 1 v]}).objs.size:=by simpa using hb
   subst e
   exact I1.fpOk (Nat.le_refl _) (I1.hok.fresh (Nat.le_refl _))
noncomputable def iRng1 (ta:TA):TI:=fun σ H R=>ta σ H fun vs H1=>∃j:Int,vs=[.int j]∧ -(2 ^ 62)≤j∧j < 2 ^ 62∧R (Itr 0 j.toNat) H1
theorem pi_range1 {a:Expr} {ta:TA} {p pos:Pos} (hg:Gl X "range") (hm:X.mg "range"=none) (ha:PA X [a] ta) (hs:autoParam (starEach [a] X.env=[(false,eval a X.env)]) u5._auto_1):PI X tg (.Call (.Name "range" p) [a] [] pos) (iRng1 ta):=by
 intro pins s σ H R I h
 refine Call_ (ld_blt I hg hm boot_range (PyProof.Rows.callWith_type1 (thn (ha pos pins s σ H _ I h) fun us s1 ⟨vs,H1,I1,r1,q1⟩=> ?_) hs rfl))
 obtain ⟨j,e,q1,q2,q⟩:=q1
 subst e
 cases r1 with
 | cons r rr=>
   cases rr
   obtain ⟨t,rfl⟩:=r
   exact call_range_1 (range_it I1 (by lia) (by lia) q1 q2 (by simpa using q))
noncomputable def tFor (wi:TI) (g:TG) (tb:TS):TS:=fun D σ H=>wi σ H fun J H1=>∃W:Nat→Nat→St→Hp→Prop,(∃ m,W 0 m σ H1)∧∀i m σ H,W i m σ H→
 (J.stop i H∧D.nx σ H)∨(J.go i H∧∃N:St→Hp→Prop,(∀ σ' H',N σ' H'→∃m',m' < m∧W (i + 1) m' σ' H')∧∀x H',J.yld i H x H'→g x σ H' fun σ2 H2=>tb {D with nx:=N,ct:=N,bk:=D.nx} σ2 H2)
noncomputable def pinsAt (fp:List Addr) (h:Heap):List (Addr×Obj):=fp.filterMap fun b=>(h.get? b).map fun o=>(b,o)
theorem mem_pinsAt {fp:List Addr} {h:Heap} {b:Addr} {o:Obj} (hb:b∈fp) (e:h.get? b=some o):(b,o)∈pinsAt fp h:=List.mem_filterMap.mpr ⟨b,hb,by rw [e];rfl⟩
theorem of_pinsAt {fp:List Addr} {h:Heap} {p:Addr×Obj} (hp:p∈pinsAt fp h):p.1∈fp∧h.get? p.1=some p.2:=by
 obtain ⟨b,hb,e⟩:=List.mem_filterMap.mp hp
 cases q:h.get? b with
 | none=>rw [q] at e;cases e
 | some o=>
   rw [q] at e
   have e':(b,o)=p:=Option.some.inj e
   subst e'
   exact ⟨hb,q⟩
theorem Inv.pinned {pins:List (Addr×Obj)} {σ:St} {H:Hp} {s:Shared} {fp:List Addr} (I:Inv X pins σ H s) (hf: ∀b∈fp,FpOk X pins H b) (ho: ∀b∈fp,∃o,s.heap.get? b=some o∧∀v,o.data≠ .cell v):Inv X (pins++pinsAt fp s.heap) σ H s:=
 I.pins_of fun p hp=>(List.mem_append.mp hp).elim (fun z=>I.pin p (List.mem_append_right _ z)) fun z=>by
  obtain ⟨hb,e⟩:=of_pinsAt z
  obtain ⟨f0,f1,f2,_⟩:=hf p.1 hb
  obtain ⟨o,e',d⟩:=ho p.1 hb
  rw [e] at e';cases e'
  exact ⟨e,f0,f1,f2,d⟩
theorem Inv.unpinned {pins pl:List (Addr×Obj)} {σ:St} {H:Hp} {s:Shared} (I:Inv X (pins++pl) σ H s):Inv X pins σ H s:=I.pins_of fun p hp=>I.pin p (List.mem_append_right _ (List.mem_append_left _ hp))
theorem ps_for {iter:Expr} {body:List Stmt} {wi:TI} {g:TG} {tb:TS} {pos:Pos} (hp:PassesOwn (model X.prog X.w) X.A X.env X.xe) (hc:X.calm=true) (hi:PI X tg iter wi) (hg:PG X tg g) (hb:PSs X body tb)
 (hs:autoParam (∀ x,foldedSetIterable iter X.env x=pure x) u4._auto_1):PS X (.For tg iter body [] pos) (tFor wi g tb):=by
 intro pins s σ H D I h
 refine wpAny_For (thn (hi pins s σ H _ I h) fun v s1 h1=>thn h1 fun itv s2 h2=> ?_) hs
 obtain ⟨it,fp,tn,J,H2,e,I2,T,st2,f2,W,⟨m0,w0⟩,turn⟩:=h2
 subst e
 have stat: ∀{H':Hp},(∀ b∈fp,H' b=none)→∀b∈fp,FpOk X pins H' b:=fun hn b hb=>⟨hn b hb,(f2 b hb).2⟩
 refine codeAny_forLoop_any (fun n s'=>∃i σ' H',Inv X pins σ' H' s'∧tn i s'.heap∧(∀ b∈fp,H' b=none)∧W i n σ' H') ?_ m0 ⟨0,σ,H2,I2,st2,fun b hb=>(f2 b hb).1,w0⟩
 rintro n s3 ⟨i,σ3,H3,I3,st3,fr3,w3⟩
 rcases turn i n σ3 H3 w3 with ⟨stop,qn⟩ | ⟨go,N,hN,step⟩
 · refine wpAny_passesOwn hp (thn (T.done X rfl rfl rfl hc i pins s3 σ3 H3 X.xe I3 (stat fr3) st3 stop) fun r s4 ⟨hr,I4⟩=> ?_)
   subst hr
   exact wpAny_execs_nil ⟨σ3,H3,I4,qn⟩
 · refine wpAny_passesOwn hp (thn (T.item X rfl rfl rfl hc i pins s3 σ3 H3 X.xe I3 (stat fr3) st3 go) fun r s4 ⟨u,hr,h4⟩=> ?_)
   subst hr
   refine wpAny_passesOwn hp (thn h4 fun _ s5 ⟨x,H5,I5,r5,y5,st5,fr5⟩=> ?_)
   have I5':=I5.pinned (stat fr5) (T.obj _ _ st5)
   refine wpAny_passesOwn hp (thn (hg _ s5 σ3 H5 x u _ I5' r5 (step x H5 y5)) fun _ s6 ⟨σ6,H6,I6,q6⟩=> ?_)
   refine wpAny_passesOwn hp (thn (hb _ s6 σ6 H6 _ I6 q6) fun f s7 q7=> ?_)
   have again: ∀{σ7:St} {H7:Hp},Inv X (pins++pinsAt fp s5.heap) σ7 H7 s7→N σ7 H7→∃m,m < n∧∃i σ' H',Inv X pins σ' H' s7∧tn i s7.heap∧(∀ b∈fp,H' b=none)∧W i m σ' H':=fun {σ7 H7} I7 n7=>by
    obtain ⟨m',hm,w7⟩:=hN σ7 H7 n7
    refine ⟨m',hm,i + 1,σ7,H7,I7.unpinned,T.keep _ _ _ st5 fun b hb o e=>(I7.pin (b,o) (List.mem_append_right _ (List.mem_append_right _ (mem_pinsAt hb e)))).1,fun b hb=> ?_,w7⟩
    obtain ⟨o,e,d⟩:=T.obj _ _ st5 b hb
    exact (I7.pin (b,o) (List.mem_append_right _ (List.mem_append_right _ (mem_pinsAt hb e)))).2.1
   cases f with
   | next=>obtain ⟨σ7,H7,I7,n7⟩:=q7;exact again I7 n7
   | cont=>obtain ⟨σ7,H7,I7,n7⟩:=q7;exact again I7 n7
   | brk=>obtain ⟨σ7,H7,I7,q7⟩:=q7;exact ⟨σ7,H7,I7.unpinned,q7⟩
   | ret v=>obtain ⟨x7,σ7,H7,I7,r7,q7⟩:=q7;exact ⟨x7,σ7,H7,I7.unpinned,r7,q7⟩
end
theorem for_list {K:PySem.W.Frag} {a:Addr} {xs:List V} {g:TG} {tb:TS} {D:Ends} {σ:St} {H:Hp} (Pv:Nat→St→Hp→Prop) (h0:Pv 0 σ H) (hl: ∀i σ H,i≤xs.length→Pv i σ H→SqL K H a xs)
 (hs: ∀i x σ H,xs[i]?=some x→Pv i σ H→g x σ H fun σ2 H2=>tb {D with nx:=Pv (i + 1),ct:=Pv (i + 1),bk:=D.nx} σ2 H2) (hd: ∀σ H,Pv xs.length σ H→D.nx σ H):
 ∃W:Nat→Nat→St→Hp→Prop,(∃ m,W 0 m σ H)∧∀i m σ H,W i m σ H→
  ((Itl K a).stop i H∧D.nx σ H)∨((Itl K a).go i H∧∃N:St→Hp→Prop,(∀ σ' H',N σ' H'→∃m',m' < m∧W (i + 1) m' σ' H')∧∀x H',(Itl K a).yld i H x H'→g x σ H' fun σ2 H2=>tb {D with nx:=N,ct:=N,bk:=D.nx} σ2 H2):=by
 refine ⟨fun i m σ H=>m=xs.length - i∧i≤xs.length∧Pv i σ H,⟨xs.length,by simp,Nat.zero_le _,h0⟩,?_⟩
 rintro i m σ H ⟨rfl,hi,p⟩
 have q:=hl i σ H hi p
 by_cases hlt:i < xs.length
 · refine .inr ⟨⟨xs,xs[i],q,by simp [hlt]⟩,Pv (i + 1),fun σ' H' p'=>⟨xs.length - (i + 1),by lia,rfl,hlt,p'⟩,fun x H' y=> ?_⟩
   obtain ⟨e,y⟩:=y
   subst e
   exact hs i x σ _ (y xs q) p
 · have e:i=xs.length:=by lia
   subst e
   exact .inl ⟨⟨xs,q,Nat.le_refl _⟩,hd σ H p⟩
theorem for_range {lo:Int} {n:Nat} {g:TG} {tb:TS} {D:Ends} {σ:St} {H:Hp} (Pv:Nat→St→Hp→Prop) (h0:Pv 0 σ H)
 (hs: ∀i σ H,i < n→Pv i σ H→g (.int (lo + i)) σ H fun σ2 H2=>tb {D with nx:=Pv (i + 1),ct:=Pv (i + 1),bk:=D.nx} σ2 H2) (hd: ∀σ H,Pv n σ H→D.nx σ H):
 ∃W:Nat→Nat→St→Hp→Prop,(∃ m,W 0 m σ H)∧∀i m σ H,W i m σ H→
  ((Itr lo n).stop i H∧D.nx σ H)∨((Itr lo n).go i H∧∃N:St→Hp→Prop,(∀ σ' H',N σ' H'→∃m',m' < m∧W (i + 1) m' σ' H')∧∀x H',(Itr lo n).yld i H x H'→g x σ H' fun σ2 H2=>tb {D with nx:=N,ct:=N,bk:=D.nx} σ2 H2):=by
 refine ⟨fun i m σ H=>m=n - i∧i≤n∧Pv i σ H,⟨n,by simp,Nat.zero_le _,h0⟩,?_⟩
 rintro i m σ H ⟨rfl,hi,p⟩
 by_cases hlt:i < n
 · refine .inr ⟨hlt,Pv (i + 1),fun σ' H' p'=>⟨n - (i + 1),by lia,rfl,hlt,p'⟩,fun x H' y=> ?_⟩
   obtain ⟨e,y⟩:=y
   subst e y
   exact hs i σ _ hlt p
 · have e:i=n:=by lia
   subst e
   exact .inl ⟨Nat.le_refl _,hd σ H p⟩
end L2
namespace L2
open PySem PySem.Spec PyProof.Rows
noncomputable abbrev R2:=V→V→Hp→VK→Prop
noncomputable def OpR (X:Cx) (f:Value→Value→Sem Value) (r:R2):Prop:=
 ∀(pins:List (Addr×Obj)) (s:Shared) (σ:St) (H:Hp) (x y:V) (v u:Value) (Q:VK),Inv X pins σ H s→RelV x v→RelV y u→r x y H Q→
  wpAny (model X.prog X.w) X.A (f v u) (EP X pins σ Q) X.xe s
noncomputable def UnR (X:Cx) (f:Value→Sem Value) (r:V→Hp→VK→Prop):Prop:=
 ∀(pins:List (Addr×Obj)) (s:Shared) (σ:St) (H:Hp) (x:V) (v:Value) (Q:VK),Inv X pins σ H s→RelV x v→r x H Q→
  wpAny (model X.prog X.w) X.A (f v) (EP X pins σ Q) X.xe s
noncomputable def CallR (X:Cx) (f:Value) (r:List V→Hp→VK→Prop):Prop:=
 ∀(pins:List (Addr×Obj)) (s:Shared) (σ:St) (H:Hp) (xs:List V) (us:List Value) (Q:VK),Inv X pins σ H s→Vals xs us→r xs H Q→
  wpAny (model X.prog X.w) X.A (call f us) (EP X pins σ Q) X.xe s
noncomputable def tOp (r:R2) (ta tb:TE):TE:=fun σ H Q=>ta σ H fun x H1=>tb σ H1 fun y H2=>r x y H2 Q
noncomputable def tUn (r:V→Hp→VK→Prop) (ta:TE):TE:=fun σ H Q=>ta σ H fun x H1=>r x H1 Q
noncomputable def rI (C:Int→Int→Prop) (g:Int→Int→V):R2:=fun x y H Q=>∃i j,x= .int i∧y= .int j∧C i j∧Q (g i j) H
noncomputable def rI0 (g:Int→Int→V):R2:=fun x y H Q=>∃i j,x= .int i∧y= .int j∧Q (g i j) H
noncomputable def rU (g:Int→V):V→Hp→VK→Prop:=fun x H Q=>∃i,x= .int i∧Q (g i) H
section
variable {X:Cx} {a b c:Expr} {ta tb tc:TE} {pos:Pos}
theorem binT (ha:PE X a ta) (hb:PE X b tb) {pins:List (Addr×Obj)} {s:Shared} {σ:St} {H:Hp} {R:V→V→Hp→Prop} (I:Inv X pins σ H s)
 (h:ta σ H fun x H1=>tb σ H1 fun y H2=>R x y H2) {Q:Value→Shared→Prop} {f:Value→Value→Sem Value}
 (hf: ∀v u s2 x y H2,Inv X pins σ H2 s2→RelV x v→RelV y u→R x y H2→wpAny (model X.prog X.w) X.A (f v u) Q X.xe s2):
 wpAny (model X.prog X.w) X.A (eval a X.env) (fun v s₁=>wpAny (model X.prog X.w) X.A (eval b X.env) (fun u s₂=>wpAny (model X.prog X.w) X.A (f v u) Q X.xe s₂) X.xe s₁) X.xe s:=by
 refine thn (ha pins s σ H _ I h) fun v s1 ⟨x,H1,I1,r1,q1⟩=> ?_
 refine thn (hb pins s1 σ H1 _ I1 q1) fun u s2 ⟨y,H2,I2,r2,q2⟩=> ?_
 exact hf v u s2 x y H2 I2 r1 r2 q2
theorem pe_op {op:Operator} {r:R2} (ho:OpR X (binaryOp op) r) (ha:PE X a ta) (hb:PE X b tb):PE X (.BinOp a op b pos) (tOp r ta tb):=by
 intro pins s σ H Q I h
 exact wpAny_BinOp (binT ha hb I h fun v u s2 x y H2 I2 rx ry q=>ho pins s2 σ H2 x y v u Q I2 rx ry q)
theorem pe_un {op:UnaryOp} {r:V→Hp→VK→Prop} (ho:UnR X (unaryOp op) r) (ha:PE X a ta):PE X (.UnaryOp op a pos) (tUn r ta):=by
 intro pins s σ H Q I h
 exact UnaryOp_ (thn (ha pins s σ H _ I h) fun v s1 ⟨x,H1,I1,r1,q1⟩=>ho pins s1 σ H1 x v Q I1 r1 q1)
theorem opI {f:Value→Value→Sem Value} {C:Int→Int→Prop} {g:Int→Int→Int}
 (rule: ∀(i j:Int) (t u:Tok) (s:Shared) (Q:Value→Shared→Prop) (E:Value→Shared→Prop),C i j→Q (.int (g i j) s.toks) {s with toks:=s.toks + 1}→wpAny (model X.prog X.w) X.A (f (.int i t) (.int j u)) Q E s):
 OpR X f (rI C fun i j=> .int (g i j)):=by
 intro pins s σ H x y v u Q I rx ry h
 obtain ⟨i,j,rfl,rfl,hc,q⟩:=h
 obtain ⟨t,rfl⟩:=rx
 obtain ⟨t',rfl⟩:=ry
 exact rule i j t t' s _ _ hc ⟨.int (g i j),H,I.tok _,⟨_,rfl⟩,q⟩
theorem opI0 {f:Value→Value→Sem Value} {g:Int→Int→Int}
 (rule: ∀(i j:Int) (t u:Tok) (s:Shared) (Q:Value→Shared→Prop) (E:Value→Shared→Prop),Q (.int (g i j) s.toks) {s with toks:=s.toks + 1}→wpAny (model X.prog X.w) X.A (f (.int i t) (.int j u)) Q E s):
 OpR X f (rI0 fun i j=> .int (g i j)):=by
 intro pins s σ H x y v u Q I rx ry h
 obtain ⟨i,j,rfl,rfl,q⟩:=h
 obtain ⟨t,rfl⟩:=rx
 obtain ⟨t',rfl⟩:=ry
 exact rule i j t t' s _ _ ⟨.int (g i j),H,I.tok _,⟨_,rfl⟩,q⟩
theorem opB0 {f:Value→Value→Sem Value} {g:Int→Int→Bool}
 (rule: ∀(i j:Int) (t u:Tok) (s:Shared) (Q:Value→Shared→Prop) (E:Value→Shared→Prop),Q (.bool (g i j)) s→wpAny (model X.prog X.w) X.A (f (.int i t) (.int j u)) Q E s):
 OpR X f (rI0 fun i j=> .bl (g i j)):=by
 intro pins s σ H x y v u Q I rx ry h
 obtain ⟨i,j,rfl,rfl,q⟩:=h
 obtain ⟨t,rfl⟩:=rx
 obtain ⟨t',rfl⟩:=ry
 exact rule i j t t' s _ _ ⟨.bl (g i j),H,I,rfl,q⟩
noncomputable def CDiv (i j:Int):Prop:=0 < j∧j < 1073741824
noncomputable def CPow (i j:Int):Prop:=0≤j∧j≤1000000∧i.natAbs < 2 ^ 64
noncomputable def CMul (i j:Int):Prop:=(-(2 ^ 64) < i∧i < 2 ^ 64)∨(-(2 ^ 64) < j∧j < 2 ^ 64)
theorem CMul.ok {i j:Int} (h:CMul i j):IntMulOk i j:=by
 rcases h with ⟨h1,h2⟩ | ⟨h1,h2⟩
 · exact .of_left (intBits_le_64 h1 h2)
 · exact .of_right (intBits_le_64 h1 h2)
theorem op_add:OpR X (binaryOp .Add) (rI0 fun i j=> .int (i + j)):=opI0 fun q_ q_ q_ q_ q_ q_ q_ q=>add_int q
theorem op_sub:OpR X (binaryOp .Sub) (rI0 fun i j=> .int (i - j)):=opI0 fun q_ q_ q_ q_ q_ q_ q_ q=>sub_int q
theorem op_mul:OpR X (binaryOp .Mult) (rI CMul fun i j=> .int (i * j)):=opI fun q_ q_ q_ q_ q_ q_ q_ hc q=>mul_int q hc.ok
theorem op_fdiv:OpR X (binaryOp .FloorDiv) (rI CDiv fun i j=> .int (i / j)):=opI fun i j q_ q_ q_ q_ q_ hc q=>by
 have h1:(0:Int) < j:=hc.1
 have h2:j < 1073741824:=hc.2
 exact floordiv_int (by lia) (by rw [Int.fdiv_eq_ediv_of_nonneg i (by lia)];exact q) (.inl (PyProof.noPylong_small (by lia)))
theorem op_mod:OpR X (binaryOp .Mod) (rI (fun q_ j=>0 < j) fun i j=> .int (i % j)):=opI fun i j q_ q_ q_ q_ q_ hc q=>by
 have h1:(0:Int) < j:=hc
 exact mod_int' (by lia) (by rw [Int.fmod_eq_emod_of_nonneg i (by lia)];exact q)
theorem op_pow:OpR X (binaryOp .Pow) (rI CPow fun i j=> .int (i ^ j.toNat)):=opI fun q_ q_ q_ q_ q_ q_ q_ hc q=>pow_int_small hc.1 hc.2.1 hc.2.2 q
theorem unI {f:Value→Sem Value} {g:Int→Int}
 (rule: ∀(i:Int) (t:Tok) (s:Shared) (Q:Value→Shared→Prop) (E:Value→Shared→Prop),Q (.int (g i) s.toks) {s with toks:=s.toks + 1}→wpAny (model X.prog X.w) X.A (f (.int i t)) Q E s):
 UnR X f (rU fun i=> .int (g i)):=by
 intro pins s σ H x v Q I rx h
 obtain ⟨i,rfl,q⟩:=h
 obtain ⟨t,rfl⟩:=rx
 exact rule i t s _ _ ⟨.int (g i),H,I.tok _,⟨_,rfl⟩,q⟩
theorem un_neg:UnR X (unaryOp .USub) (rU fun i=> .int (-i)):=unI fun q_ q_ q_ q_ q_ q=>neg_int q
end
noncomputable def scal:V→V→Bool
 | .non,.non=>true | .non,.int _=>true | .int _,.non=>true | .non,.bl _=>true | .bl _,.non=>true | .non,.str _=>true | .str _,.non=>true
 | .int _,.int _=>true | .bl _,.bl _=>true | .str _,.str _=>true | .byt _,.byt _=>true
 | .int _,.str _=>true | .str _,.int _=>true | .bl _,.str _=>true | .str _,.bl _=>true
 | _,_=>false
noncomputable def rEq:R2:=fun x y H Q=>scal x y=true∧Q (.bl (decide (x=y))) H
noncomputable def rNe:R2:=fun x y H Q=>scal x y=true∧Q (.bl (!decide (x=y))) H
theorem dec_int {i j:Int}:decide (V.int i=V.int j)=(i == j):=by
 rw [Bool.eq_iff_iff]
 simp
theorem dec_bl {i j:Bool}:decide (V.bl i=V.bl j)=(i == j):=by
 rw [Bool.eq_iff_iff]
 simp
theorem dec_str {i j:Str}:decide (V.str i=V.str j)=(i == j):=by
 rw [Bool.eq_iff_iff]
 simp
theorem dec_byt {i j:Array UInt8}:decide (V.byt i=V.byt j)=(i.toList == j.toList):=by
 rw [Bool.eq_iff_iff]
 cases i
 cases j
 simp
section
variable {X:Cx} {a b c:Expr} {ta tb tc:TE} {pos:Pos}
theorem fin_bl {pins:List (Addr×Obj)} {σ:St} {H:Hp} {s:Shared} {Q:VK} {k k':Bool} (I:Inv X pins σ H s) (q:Q (.bl k) H) (e:k=k'):EP X pins σ Q (.bool k') s:=by
 subst e
 exact ⟨.bl k,H,I,rfl,q⟩
theorem op_eq:OpR X (compareOp .Eq) rEq:=by
 intro pins s σ H x y v u Q I rx ry h
 obtain ⟨hs,q⟩:=h
 cases x with
 | non=>
   cases rx
   cases y with
   | non=>cases ry;exact PySem.EqNone.eq_none_none (fin_bl I q (by simp))
   | bl j=>cases ry;exact PySem.EqNone.eq_none_bool (fin_bl I q (by simp))
   | int j=>obtain ⟨t',rfl⟩:=ry;exact PySem.EqNone.eq_none_int (fin_bl I q (by simp))
   | str j=>obtain ⟨t',rfl⟩:=ry;exact PySem.EqNone.eq_none_str (fin_bl I q (by simp))
   | _=>exact absurd (show false=true from hs) Bool.false_ne_true
 | bl i=>
   cases rx
   cases y with
   | non=>cases ry;exact PySem.EqNone.eq_bool_none (fin_bl I q (by simp))
   | bl j=>cases ry;exact eq_bool (fin_bl I q dec_bl)
   | str j=>obtain ⟨t',rfl⟩:=ry;exact PySem.EqMixed.eq_bool_str (fin_bl I q (by simp))
   | _=>exact absurd (show false=true from hs) Bool.false_ne_true
 | int i=>
   obtain ⟨t,rfl⟩:=rx
   cases y with
   | non=>cases ry;exact PySem.EqNone.eq_int_none (fin_bl I q (by simp))
   | int j=>obtain ⟨t',rfl⟩:=ry;exact eq_int (fin_bl I q dec_int)
   | str j=>obtain ⟨t',rfl⟩:=ry;exact PySem.EqMixed.eq_int_str (fin_bl I q (by simp))
   | _=>exact absurd (show false=true from hs) Bool.false_ne_true
 | str i=>
   obtain ⟨t,rfl⟩:=rx
   cases y with
   | non=>cases ry;exact PySem.EqNone.eq_str_none (fin_bl I q (by simp))
   | bl j=>cases ry;exact PySem.EqMixed.eq_str_bool (fin_bl I q (by simp))
   | int j=>obtain ⟨t',rfl⟩:=ry;exact PySem.EqMixed.eq_str_int (fin_bl I q (by simp))
   | str j=>obtain ⟨t',rfl⟩:=ry;exact eq_str (fin_bl I q dec_str)
   | _=>exact absurd (show false=true from hs) Bool.false_ne_true
 | byt i=>
   obtain ⟨t,rfl⟩:=rx
   cases y with
   | byt j=>obtain ⟨t',rfl⟩:=ry;exact PySem.W.eq_bytes (fin_bl I q dec_byt)
   | _=>exact absurd (show false=true from hs) Bool.false_ne_true
 | _=>cases y <;> exact absurd (show false=true from hs) Bool.false_ne_true
theorem op_ne:OpR X (compareOp .NotEq) rNe:=by
 intro pins s σ H x y v u Q I rx ry h
 obtain ⟨hs,q⟩:=h
 cases x with
 | non=>
   cases rx
   cases y with
   | non=>cases ry;exact PySem.EqNone.ne_none_none (fin_bl I q (by simp))
   | bl j=>cases ry;exact PySem.EqNone.ne_none_bool (fin_bl I q (by simp))
   | int j=>obtain ⟨t',rfl⟩:=ry;exact PySem.EqNone.ne_none_int (fin_bl I q (by simp))
   | str j=>obtain ⟨t',rfl⟩:=ry;exact PySem.EqNone.ne_none_str (fin_bl I q (by simp))
   | _=>exact absurd (show false=true from hs) Bool.false_ne_true
 | bl i=>
   cases rx
   cases y with
   | non=>cases ry;exact PySem.EqNone.ne_bool_none (fin_bl I q (by simp))
   | bl j=>cases ry;exact ne_bool (fin_bl I q (congrArg not dec_bl))
   | str j=>obtain ⟨t',rfl⟩:=ry;exact PySem.EqMixed.ne_bool_str (fin_bl I q (by simp))
   | _=>exact absurd (show false=true from hs) Bool.false_ne_true
 | int i=>
   obtain ⟨t,rfl⟩:=rx
   cases y with
   | non=>cases ry;exact PySem.EqNone.ne_int_none (fin_bl I q (by simp))
   | int j=>obtain ⟨t',rfl⟩:=ry;exact ne_int (fin_bl I q (congrArg not dec_int))
   | str j=>obtain ⟨t',rfl⟩:=ry;exact PySem.EqMixed.ne_int_str (fin_bl I q (by simp))
   | _=>exact absurd (show false=true from hs) Bool.false_ne_true
 | str i=>
   obtain ⟨t,rfl⟩:=rx
   cases y with
   | non=>cases ry;exact PySem.EqNone.ne_str_none (fin_bl I q (by simp))
   | bl j=>cases ry;exact PySem.EqMixed.ne_str_bool (fin_bl I q (by simp))
   | int j=>obtain ⟨t',rfl⟩:=ry;exact PySem.EqMixed.ne_str_int (fin_bl I q (by simp))
   | str j=>obtain ⟨t',rfl⟩:=ry;exact ne_str (fin_bl I q (congrArg not dec_str))
   | _=>exact absurd (show false=true from hs) Bool.false_ne_true
 | byt i=>
   obtain ⟨t,rfl⟩:=rx
   cases y with
   | byt j=>obtain ⟨t',rfl⟩:=ry;exact PySem.W.ne_bytes (fin_bl I q (congrArg not dec_byt))
   | _=>exact absurd (show false=true from hs) Bool.false_ne_true
 | _=>cases y <;> exact absurd (show false=true from hs) Bool.false_ne_true
theorem op_lt:OpR X (compareOp .Lt) (rI0 fun i j=> .bl (decide (i < j))):=opB0 fun q_ q_ q_ q_ q_ q_ q_ q=>lt_int q
theorem op_le:OpR X (compareOp .LtE) (rI0 fun i j=> .bl (decide (i≤j))):=opB0 fun q_ q_ q_ q_ q_ q_ q_ q=>le_int q
theorem op_gt:OpR X (compareOp .Gt) (rI0 fun i j=> .bl (decide (j < i))):=opB0 fun q_ q_ q_ q_ q_ q_ q_ q=>gt_int q
theorem op_ge:OpR X (compareOp .GtE) (rI0 fun i j=> .bl (decide (j≤i))):=opB0 fun q_ q_ q_ q_ q_ q_ q_ q=>ge_int q
theorem op_isN:OpR X (compareOp .Is) (fun x y H Q=>y= .non∧Q (.bl (decide (x= .non))) H):=by
 intro pins s σ H x y v u Q I rx ry h
 obtain ⟨rfl,q⟩:=h
 cases ry
 refine is_none_gen (fin_bl I q ?_)
 cases x <;> first
  | (cases rx;rfl)
  | (obtain ⟨t,rfl⟩:=rx;rfl)
theorem op_notin_str:OpR X (compareOp .NotIn) (fun x y H Q=>∃i j,x= .str i∧y= .str j∧Q (.bl (!(!(Builtin.Str.occurrences j i 0 j.length 1).isEmpty))) H):=by
 intro pins s σ H x y v u Q I rx ry h
 obtain ⟨i,j,rfl,rfl,q⟩:=h
 obtain ⟨t,rfl⟩:=rx
 obtain ⟨t',rfl⟩:=ry
 exact notIn_str (fin_bl I q rfl)
theorem nomark (b:Expr) {op:CmpOp} (h:autoParam (op≠ .In) u2._auto_1) (h2:autoParam (op≠ .NotIn) u2._auto_1):behindInMarks op b=false:=by
 have e1:(op == CmpOp.In)=false:=by cases op <;> first | rfl | exact absurd rfl h
 have e2:(op == CmpOp.NotIn)=false:=by cases op <;> first | rfl | exact absurd rfl h2
 cases b <;> simp [behindInMarks,e1,e2]
theorem pe_cmpR {op:CmpOp} {r:R2} (ho:OpR X (compareOp op) r) (ha:PE X a ta) (hb:PE X b tb) (hm:behindInMarks op b=false):PE X (.Compare a [op] [b] pos) (tOp r ta tb):=by
 intro pins s σ H Q I h
 exact wpAny_Compare1 (binT ha hb I h fun v u s2 x y H2 I2 rx ry q=>ho pins s2 σ H2 x y v u Q I2 rx ry q) hm
noncomputable def tTest (t:TE):TT:=fun σ H Q=>t σ H fun x H'=>∃k,x= .bl k∧Q k H'
theorem pt_cmpR {op:CmpOp} {r:R2} (ho:OpR X (compareOp op) r) (ha:PE X a ta) (hb:PE X b tb) (hm:behindInMarks op b=false):PT X (.Compare a [op] [b] pos) (tTest (tOp r ta tb)):=by
 intro pins s σ H Q I h
 refine wpAny_isTrue_Compare1 (thn (ha pins s σ H _ I h) fun v s1 ⟨x,H1,I1,r1,q1⟩=>thn (hb pins s1 σ H1 _ I1 q1) fun u s2 ⟨y,H2,I2,r2,q2⟩=>
  thn (ho pins s2 σ H2 x y v u _ I2 r1 r2 q2) fun c s3 ⟨z,H3,I3,r3,k,e,q3⟩=> ?_) hm
 subst e
 cases r3
 exact wpAny_truthy_bool ⟨H3,I3,q3⟩
noncomputable def tChain (r r':R2) (ta tb tc:TE):TE:=fun σ H Q=>ta σ H fun x H1=>tb σ H1 fun y H2=>r x y H2 fun z H3=>∃k,z= .bl k∧
 (if k=true then tc σ H3 fun w' H4=>r' y w' H4 Q else Q (.bl false) H3)
theorem pe_chain {op op':CmpOp} {r r':R2} (ho:OpR X (compareOp op) r) (ho':OpR X (compareOp op') r') (ha:PE X a ta) (hb:PE X b tb) (hc:PE X c tc)
 (hm:autoParam (lastMarks [op,op'] [b,c]=false) u6._auto_1):PE X (.Compare a [op,op'] [b,c] pos) (tChain r r' ta tb tc):=by
 intro pins s σ H Q I h
 refine Compare_chain (thn (ha pins s σ H _ I h) fun v s1 ⟨x,H1,I1,r1,q1⟩=>chain_link (thn (hb pins s1 σ H1 _ I1 q1) fun u s2 ⟨y,H2,I2,r2,q2⟩=>
  thn (ho pins s2 σ H2 x y v u _ I2 r1 r2 q2) fun d s3 ⟨z,H3,I3,r3,k,e,q3⟩=> ?_)) hm
 subst e
 cases r3
 refine wpAny_truthy_bool ?_
 cases k with
 | false=>exact ite_ff ⟨.bl false,H3,I3,rfl,q3⟩
 | true=>exact ite_tt (chain_last (thn (hc pins s3 σ H3 _ I3 q3) fun w' s4 ⟨z',H4,I4,r4,q4⟩=>ho' pins s4 σ H4 y z' u w' Q I4 r2 r4 q4))
theorem pt_chain {op op':CmpOp} {r r':R2} (ho:OpR X (compareOp op) r) (ho':OpR X (compareOp op') r') (ha:PE X a ta) (hb:PE X b tb) (hc:PE X c tc)
 (hm:autoParam (lastMarks [op,op'] [b,c]=false) u6._auto_1):PT X (.Compare a [op,op'] [b,c] pos) (tTest (tChain r r' ta tb tc)):=by
 intro pins s σ H Q I h
 refine isTrue_chain (thn (ha pins s σ H _ I h) fun v s1 ⟨x,H1,I1,r1,q1⟩=>test_link (thn (hb pins s1 σ H1 _ I1 q1) fun u s2 ⟨y,H2,I2,r2,q2⟩=>
  thn (ho pins s2 σ H2 x y v u _ I2 r1 r2 q2) fun d s3 ⟨z,H3,I3,r3,k,e,q3⟩=> ?_)) hm
 subst e
 cases r3
 refine wpAny_truthy_bool ?_
 cases k with
 | false=>
   obtain ⟨k',e',q'⟩:=q3
   cases e'
   exact ite_ff ⟨H3,I3,q'⟩
 | true=>
   refine ite_tt (test_last (thn (hc pins s3 σ H3 _ I3 q3) fun w' s4 ⟨z',H4,I4,r4,q4⟩=>thn (ho' pins s4 σ H4 y z' u w' _ I4 r2 r4 q4) fun d' s5 ⟨z2,H5,I5,r5,k2,e2,q5⟩=> ?_))
   subst e2
   cases r5
   exact wpAny_truthy_bool ⟨H5,I5,q5⟩
theorem line63:(sizeLine:Nat) < 2 ^ 63:=by rw [sizeLine_eq];decide
theorem vals1 {x:V} {us:List Value} (r:Vals [x] us): ∃u,us=[u]∧RelV x u:=by
 cases r with
 | cons r1 r2=>cases r2;exact ⟨_,rfl,r1⟩
theorem vals2 {x y:V} {us:List Value} (r:Vals [x,y] us): ∃u w',us=[u,w']∧RelV x u∧RelV y w':=by
 cases r with
 | cons r1 r2=>
   cases r2 with
   | cons r3 r4=>cases r4;exact ⟨_,_,rfl,r1,r3⟩
theorem call_int1:CallR X (.type "int") (fun xs H Q=>(∃ i,xs=[.int i]∧Q (.int i) H)∨∃k,xs=[.bl k]∧Q (.int (if k then 1 else 0)) H):=by
 intro pins s σ H xs us Q I r h
 rcases h with ⟨i,rfl,q⟩ | ⟨k,rfl,q⟩
 · obtain ⟨u,rfl,t,rfl⟩:=vals1 r
   exact call_int_int ⟨.int i,H,I,⟨_,rfl⟩,q⟩
 · obtain ⟨u,rfl,r1⟩:=vals1 r
   cases r1
   exact call_int_bool ⟨.int (if k then 1 else 0),H,I.tok _,⟨_,rfl⟩,q⟩
end
end L2
namespace L2
open PySem PySem.Spec PyProof.Rows
structure ObjM (h:Heap) (x dx C:Addr) (mA:Str→Option Value):Prop where
 obj:h.get? x=some (PySem.W.instObj C dx)
 ns:h.Ns1 dx mA
 ne:dx≠x
set_option tactic.hygienic true in
theorem lookIn_ns {h:Heap} {dx:Addr} {mA:Str→Option Value} (n:h.Ns1 dx mA): ∃od,h.get? dx=some od∧∀name,PySem.W.lookIn name od=some (mA name):=by
 obtain ⟨o,es,ep,ho,hd,hk,_,hm⟩:=n
 refine ⟨o,ho,fun name=> ?_⟩
 have e:=hm name
 unfold nsFind findBy at e
 rw [← Array.find?_toList] at e
 unfold PySem.W.lookIn
 rw [hd]
 dsimp only
 split
 · rename_i y q
   rw [q] at e
   exact congrArg some e
 · rename_i q
   rw [q] at e
   have a:es.toList.any (·.refKey)=false:=by
    rw [List.any_eq_false]
    intro y hy
    obtain ⟨z,t,hkey⟩:=hk y (Array.mem_toList_iff.mp hy)
    simp [DictEntry.refKey,hkey]
   have a': ¬es.toList.any (·.refKey)=true:=by rw [a];exact Bool.false_ne_true
   rw [if_neg a']
   exact congrArg some e
theorem ObjM.look {h:Heap} {x dx C:Addr} {mA:Str→Option Value} (I:ObjM h x dx C mA): ∃od,PySem.W.InstAt h x (PySem.W.instObj C dx) C (some od)∧∀name,PySem.W.lookIn name od=some (mA name):=
 let ⟨od,ho,hl⟩:=lookIn_ns I.ns
 ⟨od,⟨I.obj,rfl,rfl,ho⟩,hl⟩
section
variable {prog:Program} {w:World} {A:Around} {E:Value→Shared→Prop} {s:Shared} {K:PySem.W.Frag} {x dx C f:Addr} {mA:Str→Option Value} {name:Str} {v:Value}
end
section
variable {P:Program} {w:World} {H H':Hp} {h h':Heap} {a C dx:Addr} {fs fs':List (Str×V)}
theorem ins_get (hok:HOk P w H h) (e:H a=some (.ins C dx fs)): ∃mA,ObjM h a dx C mA∧(∀ f,RelO (fs.lookup f) (mA f))∧PySem.Within mA (fs.map (·.1))∧fs.length≤1000∧H dx=some (.own a):=by
 obtain ⟨d,z,ne,ob,mA,n,r,q⟩:=(show ObjOk P w H h a (.ins C dx fs) from hok a _ e)
 exact ⟨mA,⟨ob,n,ne⟩,r,q,z,d⟩
end
structure Cls (K:PySem.W.Frag) (C:Addr):Prop where
 pg:PySem.W.plainGet K C Str.empty=true
 hd:PySem.W.hasDictIn K C=true
 po:PySem.W.plainOver K C=true
 sa:PySem.W.findIn K (.ref C) "__setattr__"=some (some (.builtin "object.__setattr__"))
theorem Cls.get {K:PySem.W.Frag} {C:Addr} (c:Cls K C) (f:Str):PySem.W.plainGet K C f=true:=c.pg
section
variable {X:Cx} {pins:List (Addr×Obj)} {σ:St} {H:Hp} {s:Shared} {a C dx:Addr} {fs:List (Str×V)} {f:Str} {v:V} {A:Around} {E:Value→Shared→Prop}
end
section
variable {X:Cx} {o e value:Expr} {f:Str} {pos pos' tpos:Pos} {ta tv:TE}
end
section
variable {X:Cx} {pins:List (Addr×Obj)} {σ:St} {H:Hp} {s:Shared} {A:Around} {E:Value→Shared→Prop} {Q:Value→Shared→Prop} {c:Value} {b:Bool}
inductive TyOf (K:PySem.W.Frag) (H:Hp):V→Value→Prop where
 | non:TyOf K H .non (.type "NoneType")
 | bl (x:Bool):TyOf K H (.bl x) (.type "bool")
 | int (i:Int):TyOf K H (.int i) (.type "int")
 | str (x:Str):TyOf K H (.str x) (.type "str")
 | flt (x:UInt64):TyOf K H (.flt x) (.type "float")
 | lst {a:Addr} {xs:List V} (e:H a=some (.lst xs)):TyOf K H (.ref a) (.type "list")
 | frz {a:Addr} {o:Obj} {xs:List V} (e:H a=some (.frz o (.lst xs))):TyOf K H (.ref a) (.type "list")
 | tup {a:Addr} {xs:List V} (e:H a=some (.tup xs)):TyOf K H (.ref a) (.type "tuple")
 | dK {a:Addr} {kvs:List (Key×V)} (e:H a=some (.dK kvs)):TyOf K H (.ref a) (.type "dict")
 | dT {a:Addr} {kvs:List (List Key×V)} (e:H a=some (.dT kvs)):TyOf K H (.ref a) (.type "dict")
 | ins {a C dx:Addr} {fs:List (Str×V)} (e:H a=some (.ins C dx fs)) (cl:Cls K C) (ha:PySem.W.findIn K (.ref C) "__class__"=some (some (.builtin "object.__class__")))
    (hn:PySem.W.specialIn K (.builtin "object.__class__") "__get__"=some (some (.builtin "getset_descriptor.__get__"))) (htk:PySem.W.takesIn K (.builtin "object.__class__")=some true)
    (hm:PySem.W.mroIn K C (.type "object")=some true):TyOf K H (.ref a) (.ref C)
theorem isinst_ok {x:V} {u t:Value} (I:Inv X pins σ H s) (rx:RelV x u) (ty:TyOf X.K H x t) (e:PySem.W.kitOne X.K t c=some b) (h: ∀tk,Q (.bool b) {s with toks:=tk}):
 wpAny (model X.prog X.w) A (call (.builtin "isinstance") [u,c]) Q E s:=by
 cases ty with
 | non=>cases (show u=Value.none from rx);exact PySem.W.kia_one PySem.W.kitx_none I.kIn True.intro e (fun z=>nomatch z) h
 | bl y=>cases (show u=Value.bool y from rx);exact PySem.W.kia_one PySem.W.kitx_bool I.kIn True.intro e (fun z=>nomatch z) h
 | int i=>obtain ⟨t,q⟩:=(show ∃t,u=Value.int i t from rx);cases q;exact PySem.W.kia_one PySem.W.kitx_int I.kIn True.intro e (fun z=>nomatch z) h
 | str y=>obtain ⟨t,q⟩:=(show ∃t,u=Value.str y t from rx);cases q;exact PySem.W.kia_one PySem.W.kitx_str I.kIn True.intro e (fun z=>nomatch z) h
 | flt y=>obtain ⟨t,q⟩:=(show ∃t,u=Value.float y t from rx);cases q;exact PySem.W.kia_one PySem.W.kitx_float I.kIn True.intro e (fun z=>nomatch z) h
 | @lst a xs ea=>
   cases (show u=Value.ref a from rx)
   obtain ⟨_,_,n,_,h1⟩:=(show ObjOk X.prog X.w H s.heap a (.lst xs) from I.hok a _ ea)
   exact PySem.W.kia_one PySem.W.kitx_list I.kIn ⟨_,h1,rfl⟩ e (fun z=>nomatch z) h
 | @frz a ob xs ea=>
   cases (show u=Value.ref a from rx)
   obtain ⟨_,_,_,n,_,h1⟩:=(show ObjOk X.prog X.w H s.heap a (.frz ob (.lst xs)) from I.hok a _ ea)
   exact PySem.W.kia_one PySem.W.kitx_list I.kIn ⟨_,h1,rfl⟩ e (fun z=>nomatch z) h
 | @tup a xs ea=>
   cases (show u=Value.ref a from rx)
   obtain ⟨_,_,_,p⟩:=(show ObjOk X.prog X.w H s.heap a (.tup xs) from I.hok a _ ea)
   obtain ⟨o,h1,h2,_⟩:=p
   exact PySem.W.kia_one PySem.W.kitx_tuple I.kIn ⟨o,h1,h2⟩ e (fun z=>nomatch z) h
 | @dK a kvs ea=>
   cases (show u=Value.ref a from rx)
   obtain ⟨_,_,vs,_,p⟩:=(show ObjOk X.prog X.w H s.heap a (.dK kvs) from I.hok a _ ea)
   obtain ⟨o,es,ep,h1,h2,_⟩:=p
   exact PySem.W.kia_one PySem.W.kitx_dict I.kIn ⟨o,h1,h2.1⟩ e (fun z=>nomatch z) h
 | @dT a kvs ea=>
   cases (show u=Value.ref a from rx)
   obtain ⟨_,_,xs,_,o,es,ep,h1,h2,_⟩:=(show ObjOk X.prog X.w H s.heap a (.dT kvs) from I.hok a _ ea)
   exact PySem.W.kia_one PySem.W.kitx_dict I.kIn ⟨o,h1,h2.1⟩ e (fun z=>nomatch z) h
 | @ins a C dx fs ea cl ha hn htk hm=>
   cases (show u=Value.ref a from rx)
   obtain ⟨mA,O,_⟩:=ins_get I.hok ea
   obtain ⟨od,J,_⟩:=O.look
   exact PySem.W.kia_one (PySem.W.kitx_own (cl.get _) cl.hd ha hn htk hm) I.kIn J e (fun z=>nomatch z) h
end
end L2
namespace L2
open PySem PySem.Spec PyProof.Rows
structure Room (k:Nat) (A:Around):Prop where
 hd:A.handled=none
 dp:A.depth + 3 * k + 5 < recursionLimit
 un:A.units + 16 * k + 200 < cLine
theorem Room.mono {j k:Nat} {A:Around} (r:Room k A) (h:j≤k):Room j A:=⟨r.hd,by have:=r.dp;lia,by have:=r.un;lia⟩
theorem Room.deeper {k:Nat} {A:Around} (r:Room (k + 1) A) (env:Env):Room k (A.deeper env):=
 ⟨r.hd,by have:=r.dp;show A.depth + 1 + 3 * k + 5 < _;lia,by have:=r.un;show A.units + 3 + 16 * k + 200 < _;lia⟩
theorem Room.depth {k:Nat} {A:Around} (r:Room k A):A.depth < recursionLimit:=by have:=r.dp;lia
noncomputable def tNil:TA:=fun q_ H Q=>Q [] H
noncomputable def tCons (ta:TE) (tr:TA):TA:=fun σ H Q=>ta σ H fun x H1=>tr σ H1 fun xs H2=>Q (x::xs) H2
section
variable {X:Cx} {e:Expr} {es:List Expr} {te:TE} {t:TA} {pos:Pos}
theorem pa_nil:PA X [] tNil:=fun q_ q_ q_ q_ H Q I h=>Calls.spliced_nil ⟨[],H,I,.nil,h⟩
theorem pa_cons (ha:PE X e te) (hr:PA X es t) (hs:autoParam (starEach (e::es) X.env=(false,eval e X.env)::starEach es X.env) u5._auto_1):PA X (e::es) (tCons te t):=by
 intro pos pins s σ H Q I h
 rw [hs]
 show wpAny _ _ (spliced ((false,eval e X.env)::backTo pos (starEach es X.env))) _ _ s
 refine Calls.spliced_cons (thn (ha pins s σ H _ I h) fun u s1 ⟨x,H1,I1,r1,q1⟩=> ?_)
 exact thn (hr pos pins s1 σ H1 _ I1 q1) fun us s2 ⟨xs,H2,I2,r2,q2⟩=>⟨x::xs,H2,I2,.cons r1 r2,q2⟩
noncomputable def tTup (t:TA):TE:=fun σ H Q=>t σ H fun xs H1=>xs.length≤sizeLine∧∀p,H1 p=none→Q (.ref p) (upd H1 p (.tup xs))
noncomputable def tLst (t:TA):TE:=fun σ H Q=>t σ H fun xs H1=>xs.length≤sizeLine∧∀p,H1 p=none→Q (.ref p) (upd H1 p (.lst xs))
theorem pe_tup {x1} (h:PA X es t):PE X (.Tuple es x1 pos) (tTup t):=by
 intro pins s σ H Q I hq
 refine wpAny_Tuple_spliced (thn (h pos pins s σ H _ I hq) fun us s1 ⟨xs,H1,I1,r,z,q⟩=>⟨by rw [← r.length];exact z,?_⟩)
 have hf:H1 s1.heap.objs.size=none:=I1.hok.fresh (Nat.le_refl _)
 refine ⟨.ref s1.heap.objs.size,upd H1 s1.heap.objs.size (.tup xs),I1.laid (t':=s1.toks) (fun b u e=>Heap.get?_push_of_some _ e) (Nat.le_refl _) ?_,rfl,q _ hf⟩
 exact ⟨z,us,r,⟨_,Heap.get?_push_size _ rfl,rfl,_,rfl⟩⟩
theorem pe_lst (h:PA X es t):PE X (.List es pos) (tLst t):=by
 intro pins s σ H Q I hq
 refine wpAny_List_spliced (thn (h pos pins s σ H _ I hq) fun us s1 ⟨xs,H1,I1,r,z,q⟩=>⟨by rw [← r.length];exact z,?_⟩)
 have hf:H1 s1.heap.objs.size=none:=I1.hok.fresh (Nat.le_refl _)
 refine ⟨.ref s1.heap.objs.size,upd H1 s1.heap.objs.size (.lst xs),I1.laid (t':=s1.toks) (fun b u e=>Heap.get?_push_of_some _ e) (Nat.le_refl _) ?_,rfl,q _ hf⟩
 exact ⟨z,us,0,r,Heap.get?_push_size _ rfl⟩
end
noncomputable abbrev Sp:=List V→Hp→VK→XK→Prop
noncomputable abbrev CXT:=List Env→Hp→Shared→XK→Value→Shared→Prop
structure Env0 (P:Program) (w:World) (K:PySem.W.Frag) (mg:Str→Option Value) (base:Heap) (A:Around) (outer:List Env) (s:Shared) (H:Hp):Prop where
 frames:A.frames=some outer
 mod:Mod K mg base
 bs: ∀b o,base.get? b=some o→s.heap.get? b=some o∧H b=none
 bsz:base.objs.size≤s.heap.objs.size
 funs:s.heap.FunFrames base outer
 frf: ∀b∈frs outer,H b=none
 hok:HOk P w H s.heap
 bare:AllBare s.gens
noncomputable def CE (outer:List Env) (P:Program) (w:World) (H:Hp) (s:Shared) (Q:VK) (u:Value) (s':Shared):Prop:=
 ∃v H',s'.os=s.os∧AllBare s'.gens∧Un (frs outer) [] H H' s.heap s'.heap∧HOk P w H' s'.heap∧RelV v u∧Q v H'
noncomputable def CR (CX:CXT) (outer:List Env) (P:Program) (w:World) (H:Hp) (s:Shared) (Q:VK) (E:XK) (r:Result) (s':Shared):Prop:=
 match r with
 | .ok (.ret u)=>CE outer P w H s Q u s'
 | .ok _=>False
 | .error e=>CX outer H s E e s'
structure FnOk (P:Program) (w:World) (K:PySem.W.Frag) (mg:Str→Option Value) (base:Heap) (CX:CXT) (k:Nat) (f:Addr) (fd:FuncData) (ps:List Str) (sp:Sp):Prop where
 len: ∀vs H Q E,sp vs H Q E→vs.length=ps.length
 run: ∀(A:Around) (outer:List Env) (s:Shared) (H:Hp) (args:Args) (us:List Value) (vs:List V) (Q:VK) (E:XK),Room k A→Env0 P w K mg base A outer s H→BindsTo s fd args (ps.zip us)→Vals vs us→sp vs H Q E→
  codeAny (model P w) A (.call (.ref f) args) (CR CX outer P w H s Q E) s
theorem FnOk.imp {P:Program} {w:World} {K:PySem.W.Frag} {mg:Str→Option Value} {base:Heap} {CX:CXT} {k:Nat} {f:Addr} {fd:FuncData} {ps:List Str} {sp sp':Sp} (F:FnOk P w K mg base CX k f fd ps sp)
 (h: ∀vs H Q E,sp' vs H Q E→sp vs H Q E):FnOk P w K mg base CX k f fd ps sp':=
 ⟨fun vs H Q E q=>F.len vs H Q E (h _ _ _ _ q),fun A outer s H args us vs Q E hr he hb hv hs=>F.run A outer s H args us vs Q E hr he hb hv (h _ _ _ _ hs)⟩
section
variable {X:Cx} {pins:List (Addr×Obj)} {σ:St} {H:Hp} {s s':Shared}
theorem Inv.env0 (I:Inv X pins σ H s):Env0 X.prog X.w X.K X.mg X.base X.A X.stack s H:=
 ⟨I.ok.frames,I.ok.mod,I.bs,Nat.le_trans I.ok.bsz I.sz,I.stack,I.stkFree,I.hok,I.bare⟩
theorem Inv.after {Q:VK} {u:Value} (I:Inv X pins σ H s) (h:CE X.stack X.prog X.w H s Q u s'):EP X pins σ Q u s':=by
 obtain ⟨v,H',os,bare,un,hok,r,q⟩:=h
 obtain ⟨hh,g,d,t,os'⟩:=s'
 obtain rfl:os'=s.os:=os
 exact ⟨v,H',I.call (h':=hh) (g':=g) (d':=d) (t':=t) (ch:=[]) un hok bare (fun b z=>absurd z (by simp)),r,q⟩
end
noncomputable def tCall (sp:Sp) (dvs:List V) (E:XK) (t:TA):TE:=fun σ H Q=>t σ H fun vs H1=>sp (vs++dvs) H1 Q E
noncomputable def Binds (K:PySem.W.Frag) (fd:FuncData) (ps:List Str) (ds:List Value):Prop:=
 ∀(s:Shared) (us:List Value),K.In s.heap→(us++ds).length=ps.length→BindsTo s fd ⟨us,[]⟩ (ps.zip (us++ds))
theorem Binds.all {K:PySem.W.Frag} {fd:FuncData} {ps:List Str} (h: ∀us:List Value,us.length=ps.length→bindArgs fd ⟨us,[]⟩=pure (ps.zip us)):Binds K fd ps []:=fun s us q_ hl=>by
 rw [List.append_nil] at hl ⊢
 exact .of_eq (h us hl)
noncomputable def Passes (CX:CXT) (X:Cx) (E:XK):Prop:=∀(pins:List (Addr×Obj)) (σ:St) (H:Hp) (s:Shared) (e:Value) (s':Shared),Inv X pins σ H s→CX X.stack H s E e s'→X.xe e s'
section
variable {X:Cx} {CX:CXT} {k:Nat} {f C:Addr} {fd:FuncData} {ps:List Str} {sp:Sp} {dvs:List V} {ds:List Value} {E:XK} {x m:Str} {p pos apos:Pos} {e o:Expr} {es:List Expr} {ta:TE} {t:TA}
theorem run_fn {pins:List (Addr×Obj)} {σ:St} {H:Hp} {s:Shared} {Q:VK} {us:List Value} {vs:List V} (F:FnOk X.prog X.w X.K X.mg X.base CX k f fd ps sp) (hr:Room k X.A) (hb:Binds X.K fd ps ds) (hd:Vals dvs ds) (hx:Passes CX X E)
 (I:Inv X pins σ H s) (r:Vals vs us) (h:sp (vs++dvs) H Q E):wpAny (model X.prog X.w) X.A (call (.ref f) us) (EP X pins σ Q) X.xe s:=by
 have r2:Vals (vs++dvs) (us++ds):=r.append hd
 have hl:(us++ds).length=ps.length:=by rw [← r2.length];exact F.len _ _ _ _ h
 refine wpAny_call (codeAny_mono (F.run X.A X.stack s H ⟨us,[]⟩ (us++ds) (vs++dvs) Q E hr I.env0 (hb s us I.kIn hl) r2 h) fun r s' hq=> ?_)
 cases r with
 | error e=>exact hx pins σ H s e s' I hq
 | ok fl=>
   cases fl with
   | ret u=>exact I.after hq
   | next=>exact False.elim hq
   | brk=>exact False.elim hq
   | cont=>exact False.elim hq
theorem pe_call (F:FnOk X.prog X.w X.K X.mg X.base CX k f fd ps sp) (hr:Room k X.A) (hg:Gl X x) (hm:X.mg x=some (.ref f)) (hk:PySem.W.keepIn X.K (.ref f)=true) (hb:Binds X.K fd ps ds) (hd:Vals dvs ds) (hx:Passes CX X E)
 (ha:PA X (e::es) t) (hdb:autoParam ((x == ("__debug__":Str))=false) u2._auto_1) (he:autoParam (starEach (e::es) X.env=(false,eval e X.env)::starEach es X.env) u5._auto_1) (hpl:autoParam ((backTo pos (starEach es X.env)).any (·.1)=false) u5._auto_1):
 PE X (.Call (.Name x p) (e::es) [] pos) (tCall sp dvs E t):=by
 intro pins s σ H Q I h
 refine wpAny_Call_Name_kw (ld_glob I hg hm ?_ hdb)
 refine PySem.W.callWith_K (h₀:=X.base) I.ok.mod.kin hk (thn (ha pos pins s σ H _ I h) fun us s1 ⟨vs,H1,I1,r,q⟩=>⟨I1.kIn,?_⟩) he hpl
 exact run_fn F hr hb hd hx I1 r q
end
section
variable {X:Cx} {CX:CXT} {k:Nat} {f C:Addr} {fd:FuncData} {ps ks:List Str} {sp:Sp} {E:XK} {x m:Str} {p pos apos kpos:Pos} {e o:Expr} {es:List Expr} {kws:List Keyword} {te ta:TE} {t tk:TA} {nm:Option Str}
variable {g:List Value→List Value→List Value} {gV:List V→List V→List V}
end
structure FnScope (N P:List Str) (sc:Scope):Prop where
 kind:sc.kind= .function
 co:sc.isCoroutine=false
 gen:sc.isGenerator=false
 nd:N.Nodup
 pre:N.take P.length=P
 par: ∀x∈P,sc.names.lookup x=some .local∨sc.names.lookup x=some .cell
 nofree: ∀y∈sc.names,y.2≠ .free
theorem bindL_out {kindOf:Str→Option NameKind} {x:Str}: ∀{binds:List (Str×Value)} {m:Str→Option Value},(∀ v,(x,v) ∉ binds)→bindL kindOf binds m x=m x
 | [],_,_=>rfl
 | (n,v)::r,m,h=>by
   unfold bindL
   rw [bindL_out fun w hw=>h w (List.mem_cons_of_mem _ hw)]
   split
   · have:x≠n:=by rintro rfl;exact h v List.mem_cons_self
     simp [this]
   · rfl
theorem bindC_out {kindOf:Str→Option NameKind} {x:Str}: ∀{binds:List (Str×Value)} {m:Str→Option Value},(∀ v,(x,v) ∉ binds)→bindC kindOf binds m x=m x
 | [],_,_=>rfl
 | (n,v)::r,m,h=>by
   unfold bindC
   rw [bindC_out fun w hw=>h w (List.mem_cons_of_mem _ hw)]
   split
   · rfl
   · have:x≠n:=by rintro rfl;exact h v List.mem_cons_self
     simp [this]
theorem bindL_get {kindOf:Str→Option NameKind} {x:Str} {v:Value}: ∀{P:List Str} {vs:List Value} {i:Nat} {m:Str→Option Value},P.Nodup→P[i]?=some x→vs[i]?=some v→kindOf x=some .local→
 bindL kindOf (P.zip vs) m x=some v
 | [],_,_,_,_,h,_,_=>by simp at h
 | _::_,[],_,_,_,_,h,_=>by simp at h
 | p::P,w::vs,0,m,nd,h1,h2,hk=>by
   simp at h1 h2;subst h1;subst h2
   show bindL kindOf ((p,w)::P.zip vs) m p=_
   unfold bindL
   rw [bindL_out fun v hv=>(List.nodup_cons.mp nd).1 (List.of_mem_zip hv).1,if_pos hk]
   simp
 | p::P,w::vs,i + 1,m,nd,h1,h2,hk=>by
   show bindL kindOf ((p,w)::P.zip vs) m x=_
   unfold bindL
   exact bindL_get (i:=i) (List.nodup_cons.mp nd).2 (by simpa using h1) (by simpa using h2) hk
theorem bindC_get {kindOf:Str→Option NameKind} {x:Str} {v:Value}: ∀{P:List Str} {vs:List Value} {i:Nat} {m:Str→Option Value},P.Nodup→P[i]?=some x→vs[i]?=some v→kindOf x≠some .local→
 bindC kindOf (P.zip vs) m x=some v
 | [],_,_,_,_,h,_,_=>by simp at h
 | _::_,[],_,_,_,_,h,_=>by simp at h
 | p::P,w::vs,0,m,nd,h1,h2,hk=>by
   simp at h1 h2;subst h1;subst h2
   show bindC kindOf ((p,w)::P.zip vs) m p=_
   unfold bindC
   rw [bindC_out fun v hv=>(List.nodup_cons.mp nd).1 (List.of_mem_zip hv).1,if_neg hk]
   simp
 | p::P,w::vs,i + 1,m,nd,h1,h2,hk=>by
   show bindC kindOf ((p,w)::P.zip vs) m x=_
   unfold bindC
   exact bindC_get (i:=i) (List.nodup_cons.mp nd).2 (by simpa using h1) (by simpa using h2) hk
noncomputable def start (N:List Str) (vs:List V):St:=vs.map some++List.replicate (N.length - vs.length) none
noncomputable def cxOf (CX:CXT) (P:Program) (w:World) (K:PySem.W.Frag) (mg:Str→Option Value) (base:Heap) (N:List Str) (qual:Str) (scope:Scope) (f:Addr) (cd:Value) (A:Around) (outer:List Env) (s:Shared) (H:Hp) (E:XK):Cx where
 prog:=P
 w:=w
 K:=K
 mg:=mg
 base:=base
 A:=A.deeper (envOfC qual scope s.heap.objs.size f cd)
 N:=N
 s₀:=s
 H₀:=H
 env:=envOfC qual scope s.heap.objs.size f cd
 outer:=outer
 stack:=envOfC qual scope s.heap.objs.size f cd::outer
 ex:=[]
 calm:=true
 fn:=fun q_=>true
 pn:=[]
 xe:=fun e s'=>wpAny (model P w) (A.deeper (envOfC qual scope s.heap.objs.size f cd)) (leaving (envOfC qual scope s.heap.objs.size f cd) e) (fun q_ s''=>CX outer H s E e s'') (fun e' s''=>CX outer H s E e' s'') s'
theorem cell_has {sc:Scope} {n:Nat} {x:Str} (h:sc.names.lookup x=some .cell): ∃c,(cellsFrom n sc.names []).lookup x=some c:=by
 have q:=PySem.W.cellsFrom_some sc.names n [] (.inl h)
 exact Option.isSome_iff_exists.mp q
theorem inv_start {CX:CXT} {P:Program} {w:World} {K:PySem.W.Frag} {mg:Str→Option Value} {base:Heap} {N ps:List Str} {qual:Str} {scope:Scope} {f:Addr} {cd:Value} {A:Around} {outer:List Env} {s s1:Shared} {H:Hp} {E:XK} {us:List Value} {vs:List V}
 (S:FnScope N ps scope) (hd:A.handled=none) (e0:Env0 P w K mg base A outer s H) (hl:vs.length=ps.length) (r:Vals vs us)
 (x:InCallC s s.heap.objs.size (bindL (envOfC qual scope s.heap.objs.size f cd).kindOf (ps.zip us) fun q_=>none) (cellsFrom (s.heap.objs.size + 1) scope.names []) (bindC (envOfC qual scope s.heap.objs.size f cd).kindOf (ps.zip us) fun q_=>none) s1):
 Inv (cxOf CX P w K mg base N qual scope f cd A outer s H E) [] (start N vs) H s1:=by
 have hpl:ps.length≤N.length:=by have:=congrArg List.length S.pre;rw [List.length_take] at this;lia
 obtain ⟨h1,tk,rfl,hk⟩:=x.done
 have noA: ∀b:Addr,b ∉ (cxOf CX P w K mg base N qual scope f cd A outer s H E).ex:=fun b z=>absurd (show b∈([]:List Addr) from z) (by simp)
 refine ⟨⟨e0.mod,S.kind,rfl,rfl,Nat.le_refl _,fun y z c h1 h2=> ?_,fun y hy=> ?_,fun y c q_ h=> ?_,fun q_=>hd,Around.frames_deeper e0.frames,.inr ⟨rfl,rfl⟩,fun b z=>absurd z (noA b),e0.bs,e0.bsz,fun b q_ q_=>noA b,fun b z=>absurd z (noA b),e0.funs,e0.frf⟩,
  rfl,e0.bare,Un.kept hk,⟨_,x.toInCall.ns,fun i y v h1 h2 h3=> ?_⟩,fun y c h=>⟨_,x.cell y c h⟩,e0.hok.fresh (Nat.le_refl _),fun y c h=> ?_,fun p hp=>absurd (show p∈([]:List (Addr×Obj)) from hp) (by simp),e0.hok.kept hk,?_⟩
 · exact name_of_addr x.apart (PySem.mem_of_lookup h1) (PySem.mem_of_lookup h2)
 · have hy:scope.names.lookup y=some .cell∨scope.names.lookup y=some .free:=hy
   rcases hy with hy | hy
   · exact cell_has hy
   · exact absurd rfl (S.nofree _ (PySem.mem_of_lookup hy))
 · exact Nat.le_of_lt (x.above y c (PySem.mem_of_lookup h))
 · have hi:i < vs.length:=by
    unfold start at h2
    by_cases hi:i < vs.length
    · exact hi
    · rw [List.getElem?_append_right (by simpa using hi)] at h2
      rw [List.getElem?_replicate] at h2
      split at h2 <;> cases h2
   have ha:vs[i]?=some v:=by
    unfold start at h2
    rw [List.getElem?_append_left (by simpa using hi),List.getElem?_map] at h2
    cases e:vs[i]? with
    | none=>rw [e] at h2;cases h2
    | some a=>rw [e] at h2;cases h2;rfl
   obtain ⟨u,hu,rv⟩:=r.get ha
   have hp:ps[i]?=some y:=by
    rw [← S.pre,List.getElem?_take_of_lt (by lia)];exact h1
   have ndP:ps.Nodup:=by rw [← S.pre];exact S.nd.sublist (List.take_sublist _ _)
   refine ⟨u,rv,?_⟩
   rcases S.par y (List.mem_of_getElem? hp) with k | k
   · exact .inl ⟨k,bindL_get ndP hp hu k⟩
   · obtain ⟨c,e⟩:=cell_has (n:=s.heap.objs.size + 1) k
     refine .inr ⟨.inl k,c,e,?_⟩
     have q:=x.cell y c e
     rw [bindC_get ndP hp hu (by show scope.names.lookup y≠_;rw [k];decide)] at q
     exact q
 · exact e0.hok.fresh (Nat.le_of_lt (x.above y c (PySem.mem_of_lookup h)))
 · unfold start
   show _=N.length
   rw [List.length_append,List.length_map,List.length_replicate]
   lia
theorem fn_of {CX:CXT} {P:Program} {w:World} {K:PySem.W.Frag} {mg:Str→Option Value} {base:Heap} {k:Nat} {f:Addr} {name qual:Str} {params:Arguments} {body:List Stmt} {scope:Scope} {dV kV doc pm cdv ct oc:Value} {an od:Option Addr}
 {osl:Array (Option Value)} {N ps:List Str} {sp:Sp} (lk:K.lookup f=some ⟨oc,od,.func (PySem.W.fnOf name qual params body scope dV kV doc pm an cdv ct),osl⟩) (hcd:PySem.W.codeIn K cdv qual=true) (S:FnScope N ps scope)
 (len: ∀vs H Q E,sp vs H Q E→vs.length=ps.length)
 (hbody: ∀(A:Around) (outer:List Env) (s:Shared) (H:Hp) (vs:List V) (Q:VK) (E:XK),Room k (A.deeper (envOfC qual scope s.heap.objs.size f cdv))→sp vs H Q E→
   ∃t,PSs (cxOf CX P w K mg base N qual scope f cdv A outer s H E) body t∧t {nx:=fun q_ H'=>Q .non H',rt:=Q} (start N vs) H):
 FnOk P w K mg base CX (k + 1) f (PySem.W.fnOf name qual params body scope dV kV doc pm an cdv ct) ps sp:=by
 refine ⟨len,fun A outer s H args us vs Q E hr e0 hb r hsp=> ?_⟩
 have hl:=len _ _ _ _ hsp
 have KX:K.In s.heap:=e0.mod.kin.keeps fun b o e=>(e0.bs b o e).1
 have lim:s.heap.NoLimit:=e0.mod.nolimit.keeps fun b o e=>(e0.bs b o e).1
 have hkind: ∀y∈ps.zip us,scope.names.lookup y.1=some .local∨(scope.names.lookup y.1=some .cell∧((cellsFrom (s.heap.objs.size + 1) scope.names []).lookup y.1).isSome=true):=fun ⟨n,v⟩ hy=>by
  rcases S.par n (List.of_mem_zip hy).1 with q | q
  · exact .inl q
  · exact .inr ⟨q,PySem.W.cellsFrom_some _ _ _ (.inl q)⟩
 refine codeAny_call_function hr.depth (KX _ _ lk) rfl S.co S.gen rfl (PySem.W.codeRec_of KX hcd) (hb _ _ _ _ ?_)
 refine wpAny_newFunctionEnv_cells S.kind hkind fun env he s1 x=> ?_
 subst he
 refine ⟨lim.keeps x.toInCall.keep,codeAny_func ?_⟩
 obtain ⟨t,ht,hq⟩:=hbody A outer s H vs Q E (hr.deeper _) hsp
 have I:Inv (cxOf CX P w K mg base N qual scope f cdv A outer s H E) [] (start N vs) H s1:=inv_start S hr.hd e0 hl r x
 refine wpAny_mono (ht [] s1 (start N vs) H _ I hq) (fun fl s' hs=> ?_) fun e s' hs=>hs
 have fin: ∀{σ':St} {H':Hp} {v:V} {u:Value},Inv (cxOf CX P w K mg base N qual scope f cdv A outer s H E) [] σ' H' s'→RelV v u→Q v H'→CE outer P w H s Q u s':=
  fun {σ' H' v u} J rv q=>⟨v,H',J.os,J.bare,J.base,J.hok,rv,q⟩
 cases fl with
 | ret u=>
   obtain ⟨v,σ',H',J,rv,q⟩:=hs
   exact fin J rv q
 | next=>
   obtain ⟨σ',H',J,q⟩:=hs
   exact fin (v:=V.non) (u:=Value.none) J rfl q
 | brk=>
   obtain ⟨_,_,_,q⟩:=hs
   exact False.elim q
 | cont=>
   obtain ⟨_,_,_,q⟩:=hs
   exact False.elim q
end L2
namespace L2
open PySem PySem.Spec PyProof.Rows
section
variable {X:Cx} {x:Str} {p pos:Pos} {e:Expr} {es:List Expr} {t:TA} {id T:String} {r:List V→Hp→VK→Prop}
noncomputable def tCB (r:List V→Hp→VK→Prop) (t:TA):TE:=fun σ H Q=>t σ H fun vs H1=>r vs H1 Q
theorem pe_callB (hc:CallR X (.builtin id) r) (hg:Gl X x) (hm:X.mg x=none) (hv:bootBuiltins x=some (.builtin id)) (ha:PA X (e::es) t) (hn:autoParam (x≠"__name__") u2._auto_1) (hdb:autoParam ((x == ("__debug__":Str))=false) u2._auto_1)
 (he:autoParam (starEach (e::es) X.env=(false,eval e X.env)::starEach es X.env) u5._auto_1) (hpl:autoParam ((backTo pos (starEach es X.env)).any (·.1)=false) u5._auto_1):PE X (.Call (.Name x p) (e::es) [] pos) (tCB r t):=by
 intro pins s σ H Q I h
 refine wpAny_Call_Name_kw (ld_blt I hg hm hv ?_ hn hdb)
 exact PyProof.Rows.callWith_builtin1 (thn (ha pos pins s σ H _ I h) fun us s1 ⟨vs,H1,I1,r1,q1⟩=>hc pins s1 σ H1 vs us Q I1 r1 q1) he hpl
theorem pe_callTy (hc:CallR X (.type T) r) (hg:Gl X x) (hm:X.mg x=none) (hv:bootBuiltins x=some (.type T)) (ha:PA X (e::es) t) (hn:autoParam (x≠"__name__") u2._auto_1) (hdb:autoParam ((x == ("__debug__":Str))=false) u2._auto_1)
 (he:autoParam (starEach (e::es) X.env=(false,eval e X.env)::starEach es X.env) u5._auto_1) (hpl:autoParam ((backTo pos (starEach es X.env)).any (·.1)=false) u5._auto_1):PE X (.Call (.Name x p) (e::es) [] pos) (tCB r t):=by
 intro pins s σ H Q I h
 refine wpAny_Call_Name_kw (ld_blt I hg hm hv ?_ hn hdb)
 exact PyProof.Rows.callWith_type1 (thn (ha pos pins s σ H _ I h) fun us s1 ⟨vs,H1,I1,r1,q1⟩=>hc pins s1 σ H1 vs us Q I1 r1 q1) he hpl
end
end L2
namespace L2
open PySem PySem.Spec PyProof.Rows
section
variable {κ:Type} [DecidableEq κ]
noncomputable def valV (kvs:List (κ×V)) (k:κ):Option V:=(kvs.find? fun kv=>decide (kv.1=k)).map (·.2)
noncomputable def putK (kvs:List (κ×V)) (k:κ) (v:V):List (κ×V):=
 if (kvs.any fun kv=>decide (kv.1=k))=true then kvs.map (fun kv=>if kv.1=k then (kv.1,v) else kv) else kvs++[(k,v)]
theorem valV_pos {p:κ×V} {r:List (κ×V)} {k:κ} (e:p.1=k):valV (p::r) k=some p.2:=by simp [valV,List.find?_cons,e]
theorem valV_neg {p:κ×V} {r:List (κ×V)} {k:κ} (e: ¬p.1=k):valV (p::r) k=valV r k:=by simp [valV,List.find?_cons,e]
theorem valV_any (k:κ): ∀kvs:List (κ×V),(kvs.any fun kv=>decide (kv.1=k))=(valV kvs k).isSome
 | []=>rfl
 | p::r=>by
   rw [List.any_cons]
   by_cases e:p.1=k
   · simp only [valV_pos e,decide_eq_true e,Bool.true_or,Option.isSome_some]
   · rw [valV_neg e,decide_eq_false e,Bool.false_or];exact valV_any k r
theorem length_putK (kvs:List (κ×V)) (k:κ) (v:V):(putK kvs k v).length≤kvs.length + 1:=by
 unfold putK
 split
 · rw [List.length_map];lia
 · rw [List.length_append,List.length_cons,List.length_nil];lia
theorem RelO.isSome_eq {o:Option V} {u:Option Value} (r:RelO o u):o.isSome=u.isSome:=by
 cases o with
 | none=>cases u with
   | none=>rfl
   | some _=>exact (show False from r).elim
 | some _=>cases u with
   | none=>exact (show False from r).elim
   | some _=>rfl
theorem KV.val {kvs:List (κ×V)} {vs:List (κ×Value)} (r:KV kvs vs) (k:κ):RelO (valV kvs k) (valueAt vs k):=by
 unfold KV at r
 induction r with
 | nil=>exact True.intro
 | @cons p q ps qs h t ih=>
   obtain ⟨h1,h2⟩:=h
   by_cases e:p.1=k
   · have e':q.1=k:=h1.symm.trans e
     have b:valueAt (q::qs) k=some q.2:=by simp [valueAt,List.find?_cons,e']
     rw [valV_pos e,b];exact h2
   · have e': ¬q.1=k:=fun z=>e (h1.trans z)
     have b:valueAt (q::qs) k=valueAt qs k:=by simp [valueAt,List.find?_cons,e']
     rw [valV_neg e,b];exact ih
theorem KV.any {kvs:List (κ×V)} {vs:List (κ×Value)} (r:KV kvs vs) (k:κ):(kvs.any fun kv=>decide (kv.1=k))=vs.any fun kv=>decide (kv.1=k):=by
 unfold KV at r
 induction r with
 | nil=>rfl
 | cons h t ih=>rw [List.any_cons,List.any_cons,ih,h.1]
theorem KV.repl {kvs:List (κ×V)} {vs:List (κ×Value)} (r:KV kvs vs) (k:κ) {y:V} {u:Value} (ry:RelV y u):
 KV (kvs.map fun kv=>if kv.1=k then (kv.1,y) else kv) (vs.map fun kv=>if kv.1=k then (kv.1,u) else kv):=by
 unfold KV at r ⊢
 induction r with
 | nil=>exact .nil
 | @cons p q ps qs h t ih=>
   rw [List.map_cons,List.map_cons]
   refine .cons ?_ ih
   obtain ⟨h1,h2⟩:=h
   by_cases e:p.1=k
   · rw [if_pos e,if_pos (h1.symm.trans e)];exact ⟨h1,ry⟩
   · rw [if_neg e,if_neg (fun z=>e (h1.trans z))];exact ⟨h1,h2⟩
theorem KV.put {kvs:List (κ×V)} {vs:List (κ×Value)} (r:KV kvs vs) (k:κ) {y:V} {u:Value} (ry:RelV y u):KV (putK kvs k y) (stored vs k u):=by
 unfold putK stored
 rw [r.any k]
 by_cases e:(vs.any fun kv=>decide (kv.1=k))=true
 · rw [if_pos e,if_pos e];exact r.repl k ry
 · rw [if_neg e,if_neg e];exact Paired.snoc r ⟨rfl,ry⟩
theorem KV.length {kvs:List (κ×V)} {vs:List (κ×Value)} (r:KV kvs vs):kvs.length=vs.length:=Paired.length r
end
theorem kV_is {P:Program} {w:World} {k:Key} {u:Value} (r:RelV (kV k) u):(mixKind P w).is k u=true:=by
 cases k with
 | inl i=>obtain ⟨t,e⟩:=(show ∃t,u=Value.int i t from r);subst e;exact mixKind_int P w i t
 | inr x=>obtain ⟨t,e⟩:=(show ∃t,u=Value.str x t from r);subst e;exact mixKind_str P w x t
theorem items_are {P:Program} {w:World}: ∀{ks:List Key} {us:List Value},Vals (ks.map kV) us→ItemsAre (mixKind P w) ks us
 | [],_,r=>by rw [List.map_nil] at r;cases r;exact .nil
 | k::ks,_,r=>by
   rw [List.map_cons] at r
   cases r with
   | cons h t=>exact .cons (kV_is h) (items_are t)
noncomputable abbrev KT (H:Hp):List (List Key×V)→List (List Key×Addr×Value)→Prop:=Paired fun p q=>p.1=q.1∧H q.2.1=some (.tup (p.1.map kV))∧RelV p.2 q.2.2
theorem KT.val {H:Hp} {kvs:List (List Key×V)} {xs:List (List Key×Addr×Value)} (r:KT H kvs xs) (k:List Key):RelO (valV kvs k) ((atKey xs k).map (·.2)):=by
 induction r with
 | nil=>exact True.intro
 | @cons p q ps qs h t ih=>
   obtain ⟨h1,_,h2⟩:=h
   by_cases e:p.1=k
   · have e':q.1=k:=h1.symm.trans e
     have b:atKey (q::qs) k=some q.2:=by simp [atKey,List.find?_cons,e']
     rw [valV_pos e,b];exact h2
   · have e': ¬q.1=k:=fun z=>e (h1.trans z)
     have b:atKey (q::qs) k=atKey qs k:=by simp [atKey,List.find?_cons,e']
     rw [valV_neg e,b];exact ih
theorem KT.repl {H:Hp} {kvs:List (List Key×V)} {xs:List (List Key×Addr×Value)} (r:KT H kvs xs) (k:List Key) {y:V} {u:Value} (ry:RelV y u):
 KT H (kvs.map fun kv=>if kv.1=k then (kv.1,y) else kv) (xs.map (putAt k u)):=by
 induction r with
 | nil=>exact .nil
 | @cons p q ps qs h t ih=>
   rw [List.map_cons,List.map_cons]
   refine .cons ?_ ih
   obtain ⟨h1,h2,h3⟩:=h
   unfold putAt
   by_cases e:p.1=k
   · rw [if_pos e,if_pos (h1.symm.trans e)];exact ⟨h1,h2,ry⟩
   · rw [if_neg e,if_neg (fun z=>e (h1.trans z))];exact ⟨h1,h2,h3⟩
theorem KT.put {H:Hp} {kvs:List (List Key×V)} {xs:List (List Key×Addr×Value)} (r:KT H kvs xs) (k:List Key) {b:Addr} {y:V} {u:Value} (hb:H b=some (.tup (k.map kV))) (ry:RelV y u):
 KT H (putK kvs k y) (storedH xs k b u):=by
 have e:(kvs.any fun kv=>decide (kv.1=k))=(atKey xs k).isSome:=by
  rw [valV_any,(r.val k).isSome_eq,Option.isSome_map]
 unfold putK storedH
 rw [e]
 by_cases q:(atKey xs k).isSome=true
 · rw [if_pos q,if_pos q];exact r.repl k ry
 · rw [if_neg q,if_neg q];exact Paired.snoc r ⟨rfl,hb,ry⟩
theorem KT.keeps {H H':Hp} {kvs:List (List Key×V)} {xs:List (List Key×Addr×Value)} (r:KT H kvs xs) (ht: ∀b ys,H b=some (.tup ys)→H' b=some (.tup ys)):KT H' kvs xs:=
 Paired.mapP r fun q_ q_ z=>⟨z.1,ht _ _ z.2.1,z.2.2⟩
section
variable {P:Program} {w:World} {H:Hp} {h:Heap} {a:Addr}
theorem rd_of {u:HO} (ok:HOk P w H h) (e:Rd H a u):ObjOk P w H h a u:=e.ok ok
theorem dk_rd {kvs:List (Key×V)} (ok:HOk P w H h) (e:Rd H a (.dK kvs)):kvs.length≤sizeLine∧(a == sysModules)=false∧∃vs,KV kvs vs∧h.DictOf (mixKind P w) a vs:=
 show ObjOk P w H h a (.dK kvs) from rd_of ok e
theorem dk_of {kvs:List (Key×V)} (ok:HOk P w H h) (e:H a=some (.dK kvs)):kvs.length≤sizeLine∧(a == sysModules)=false∧∃vs,KV kvs vs∧h.DictOf (mixKind P w) a vs:=dk_rd ok (.inl e)
theorem key_of {ks:List Key} (ok:HOk P w H h) (e:H a=some (.tup (ks.map kV))):(tupleKind (mixKind P w)).is h ks a:=by
 obtain ⟨_,its,r,o,h1,h2,n,h3⟩:=(show ObjOk P w H h a (.tup (ks.map kV)) from ok a _ e)
 exact ⟨o,its.toArray,n,h1,h2,h3,by simpa using items_are r⟩
theorem dt_rd {kvs:List (List Key×V)} (ok:HOk P w H h) (e:Rd H a (.dT kvs)):kvs.length≤sizeLine∧(a == sysModules)=false∧
 ∃xs,KT H kvs xs∧h.DictOfH (tupleKind (mixKind P w)) a xs:=by
 obtain ⟨z,y,xs,r,o,es,ep,h1,h2,h3,h4,h5⟩:=(show ObjOk P w H h a (.dT kvs) from rd_of ok e)
 refine ⟨z,y,xs,r,o,es,ep,h1,h2,h3,h4,fun x hx=> ?_,h5⟩
 have all: ∀{l:List (List Key×V)} {m:List (List Key×Addr×Value)},KT H l m→∀x∈m,(tupleKind (mixKind P w)).is h x.1 x.2.1:=by
  intro l m q
  induction q with
  | nil=>intro x hx;exact nomatch hx
  | @cons p q ps qs hq t ih=>
    intro x hx
    rcases List.mem_cons.mp hx with e | hx
    · subst e
      exact key_of ok (by rw [← hq.1];exact hq.2.1)
    · exact ih x hx
 exact all r x hx
theorem dt_of {kvs:List (List Key×V)} (ok:HOk P w H h) (e:H a=some (.dT kvs)):kvs.length≤sizeLine∧(a == sysModules)=false∧
 ∃xs,KT H kvs xs∧h.DictOfH (tupleKind (mixKind P w)) a xs:=dt_rd ok (.inl e)
end
noncomputable def DGet (H:Hp) (a:Addr) (y:V) (r:Option V):Prop:=
 (∃ kvs k,Rd H a (.dK kvs)∧y=kV k∧r=valV kvs k)∨∃kvs k b,Rd H a (.dT kvs)∧y= .ref b∧H b=some (.tup (k.map kV))∧r=valV kvs k
noncomputable def DPut (H:Hp) (a:Addr) (y v:V) (H':Hp):Prop:=
 (∃ kvs k,H a=some (.dK kvs)∧y=kV k∧kvs.length < sizeLine∧H'=upd H a (.dK (putK kvs k v)))∨
 ∃kvs k b,H a=some (.dT kvs)∧y= .ref b∧H b=some (.tup (k.map kV))∧kvs.length < sizeLine∧H'=upd H a (.dT (putK kvs k v))
theorem DGet.t {H:Hp} {a b:Addr} {kvs:List (List Key×V)} {k:List Key} (e:H a=some (.dT kvs)) (eb:H b=some (.tup (k.map kV))):DGet H a (.ref b) (valV kvs k):= .inr ⟨kvs,k,b,.inl e,rfl,eb,rfl⟩
theorem DPut.t {H:Hp} {a b:Addr} {kvs:List (List Key×V)} {k:List Key} {v:V} (e:H a=some (.dT kvs)) (eb:H b=some (.tup (k.map kV))) (hl:kvs.length < sizeLine):
 DPut H a (.ref b) v (upd H a (.dT (putK kvs k v))):= .inr ⟨kvs,k,b,e,rfl,eb,hl,rfl⟩
section
variable {X:Cx} {pins:List (Addr×Obj)} {σ:St} {H:Hp} {s:Shared} {a:Addr} {y v:V} {u r:Value} {o:Option V} {A:Around} {E:Value→Shared→Prop}
theorem Inv.big (I:Inv X pins σ H s):sysModules < s.heap.objs.size:=by
 have h:mainGlobals < s.heap.objs.size:=(I.mod.glob.keeps I.bk).lt
 exact Nat.lt_trans (by decide) h
theorem d_in {Q:Value→Shared→Prop} (hu:A.units + 1 < cLine) (I:Inv X pins σ H s) (g:DGet H a y o) (ry:RelV y u) (h: ∀s',Inv X pins σ H s'→Q (.bool o.isSome) s'):
 wpAny (model X.prog X.w) A (compareOp .In u (.ref a)) Q E s:=by
 rcases g with ⟨kvs,k,e,ey,l⟩ | ⟨kvs,k,b,e,ey,eb,l⟩
 · subst ey
   obtain ⟨z,hd,vs,rel,dd⟩:=dk_rd I.hok e
   refine wpAny_in_of (kV_is ry) hd dd.mapOf ?_
   rw [← (rel.val k).isSome_eq,← l]
   exact h _ (I.tok _)
 · subst ey
   cases (show u=Value.ref b from ry)
   obtain ⟨z,hd,xs,rel,dd⟩:=dt_rd I.hok e
   refine wpAny_in_heap (tupleKind_room_in1 hu) (key_of I.hok eb) hd dd ?_
   have q:=(rel.val k).isSome_eq
   rw [Option.isSome_map] at q
   rw [← q,← l]
   exact h _ (I.tok _)
theorem d_write {h':Heap} {t':Nat} {ob:HO} (I:Inv X pins σ H s) (mu:Mut (H a)) (hs:Heap.SameBut a s.heap h') (he: ∃q,h'.get? a=some q) (new:ObjOk X.prog X.w (upd H a ob) h' a ob):
 Inv X pins σ (upd H a ob) {s with heap:=h',toks:=t'}:=
 I.write (x:=a) (e:=a) mu (.inl rfl) (fun b q hb z=>(hs.2 b hb).trans z) he new
theorem dk_new {P:Program} {w:World} {H':Hp} {h':Heap} {kvs:List (Key×V)} {vs:List (Key×Value)} (z:kvs.length≤sizeLine) (hd:(a == sysModules)=false) (rel:KV kvs vs) (dd:h'.DictOf (mixKind P w) a vs):
 ObjOk P w H' h' a (.dK kvs):=⟨z,hd,vs,rel,dd⟩
theorem d_setItem {H':Hp} {Q:Unit→Shared→Prop} (hu:A.units + 1 < cLine) (I:Inv X pins σ H s) (g:DPut H a y v H') (ry:RelV y u) (rv:RelV v r) (h: ∀s',Inv X pins σ H' s'→Q () s'):
 wpAny (model X.prog X.w) A (setItem (.ref a) u r) Q E s:=by
 rcases g with ⟨kvs,k,e,ey,l,eH⟩ | ⟨kvs,k,b,e,ey,eb,l,eH⟩
 · subst ey eH
   obtain ⟨z,hd,vs,rel,dd⟩:=dk_of I.hok e
   have hz:vs.length≤sizeLine:=by rw [← rel.length];exact z
   have hl:(putK kvs k v).length≤sizeLine:=by have:=length_putK kvs k v;lia
   refine wpAny_setItem_pairs (hsz:=hz) (kV_is ry) dd fun h' dd' hs=>h _ ?_
   have he: ∃q,h'.get? a=some q:=let ⟨q,_,_,hq,_⟩:=dd';⟨q,hq⟩
   exact d_write I (by rw [e];exact True.intro) hs he (dk_new hl hd (rel.put k rv) dd')
 · subst ey eH
   cases (show u=Value.ref b from ry)
   obtain ⟨z,hd,xs,rel,dd⟩:=dt_of I.hok e
   have hz:xs.length≤sizeLine:=by rw [← Paired.length rel];exact z
   have hl:(putK kvs k v).length≤sizeLine:=by have:=length_putK kvs k v;lia
   refine wpAny_setItem_heap (hsz:=hz) (tupleKind_room_in1 hu) (key_of I.hok eb) dd fun h' dd' hs=>h _ ?_
   obtain ⟨q,es,ep,hq,h2,h3,h4,_,h5⟩:=dd'
   refine d_write I (by rw [e];exact True.intro) hs ⟨q,hq⟩ ⟨hl,hd,_,(rel.put k eb rv).keeps fun c ys ec=> ?_,q,es,ep,hq,h2,h3,h4,h5⟩
   rw [upd_ne (ne_of ec e (fun z=>nomatch z))]
   exact ec
end
section
variable {X:Cx} {pins:List (Addr×Obj)} {σ:St} {H:Hp} {s:Shared} {a:Addr} {kvs:List (Key×V)} {k:Key} {u:Value} {A:Around} {E:Value→Shared→Prop}
end
noncomputable def tDIn (ty td:TE):TE:=fun σ H Q=>ty σ H fun y H1=>td σ H1 fun x H2=>∃a o,x= .ref a∧DGet H2 a y o∧Q (.bl o.isSome) H2
noncomputable def sDPut (td ty tv:TE):TS:=fun D σ H=>tv σ H fun v H1=>td σ H1 fun x H2=>ty σ H2 fun y H3=>∃a H4,x= .ref a∧DPut H3 a y v H4∧D.nx σ H4
section
variable {X:Cx} {o i e value:Expr} {pos pos' tpos:Pos} {td ty tv:TE}
theorem pc_din (hu:X.A.units + 1 < cLine) (hi:PE X i ty) (ho:PE X o td):PC X .In i o (tDIn ty td):=by
 intro pins s σ H Q I h
 refine thn (hi pins s σ H _ I h) fun iv s1 ⟨y,H1,I1,ry,q1⟩=>thn (ho pins s1 σ H1 _ I1 q1) fun u s2 ⟨x,H2,I2,rx,a,ov,ex,g,q2⟩=> ?_
 subst ex
 obtain rfl:u=Value.ref a:=rx
 exact d_in hu I2 g ry fun s3 I3=>⟨.bl ov.isSome,H2,I3,rfl,q2⟩
theorem ps_dput (hu:X.A.units + 1 < cLine) (ho:PE X o td) (hi:PE X i ty) (hv:PE X value tv) (hs:swapsWith value (some (.Subscript o i pos')) pos.line X.env=pure false):
 PS X (.Assign [.Subscript o i pos'] value pos) (sDPut td ty tv):=by
 intro pins s σ H D I h
 refine wpAny_Assign_Subscript (thn (hv pins s σ H _ I h) fun r s1 ⟨v,H1,I1,rv,q1⟩=>thn (ho pins s1 σ H1 _ I1 q1) fun u s2 ⟨x,H2,I2,rx,q2⟩=>thn (hi pins s2 σ H2 _ I2 q2) fun iv s3 ⟨y,H3,I3,ry,a,H4,ex,g,q3⟩=> ?_) hs
 subst ex
 obtain rfl:u=Value.ref a:=rx
 exact d_setItem hu I3 g ry rv fun s4 I4=>⟨σ,H4,I4,q3⟩
end
theorem dt_empty {P:Program} {w:World} {H:Hp} (h:Heap) (hb:sysModules < h.objs.size):ObjOk P w H (h.push {cls:= .type "dict",data:= .dict #[]}) h.objs.size (.dT []):=
 ⟨Nat.zero_le _,beq_eq_false_iff_ne.mpr (Ne.symm (Nat.ne_of_lt hb)),[],.nil,_,#[],0,Heap.get?_push_size _ rfl,⟨rfl,rfl,rfl⟩,rfl,rfl,List.nodup_nil⟩
noncomputable def tDNewT:TE:=fun q_ H Q=>∀p,H p=none→Q (.ref p) (upd H p (.dT []))
section
variable {X:Cx} {pos:Pos}
theorem pe_dnewT:PE X (.Dict [] [] pos) tDNewT:=fun pins s σ H Q I h=>
 wpAny_Dict_empty ⟨.ref s.heap.objs.size,_,I.laid (a:=s.heap.objs.size) (o:= .dT []) (t':=s.toks) (fun q_ q_ q=>Heap.get?_push_of_some _ q) (Nat.le_refl _) (dt_empty s.heap I.big),rfl,h _ (I.hok.fresh (Nat.le_refl _))⟩
end
structure M1 (X:Cx) (o:Expr) (m:Str) (apos:Pos) (e:Expr) (cpos:Pos):Prop where
 base:attributeBase o m X.env (eval o X.env)=eval o X.env
 few:((backTo cpos (starEach [e] X.env)).all (fun x=> !x.1) && (backToKw cpos (keywordEach [] X.env)).all (fun x=>x.1.isSome)
  && decide (([e]:List Expr).length + ([]:List Keyword).length + (if ([]:List Keyword).isEmpty then 0 else 1) < 30))=true
 line:(apos.endLine == cpos.line)=true
 trees:backTo cpos (starEach [e] X.env)=[(false,eval e X.env)]
structure M2 (X:Cx) (o:Expr) (m:Str) (apos:Pos) (e f:Expr) (cpos:Pos):Prop where
 base:attributeBase o m X.env (eval o X.env)=eval o X.env
 few:((backTo cpos (starEach [e,f] X.env)).all (fun x=> !x.1) && (backToKw cpos (keywordEach [] X.env)).all (fun x=>x.1.isSome)
  && decide (([e,f]:List Expr).length + ([]:List Keyword).length + (if ([]:List Keyword).isEmpty then 0 else 1) < 30))=true
 line:(apos.endLine == cpos.line)=true
 trees:backTo cpos (starEach [e,f] X.env)=[(false,eval e X.env),(false,eval f X.env)]
section
variable {X:Cx} {pins:List (Addr×Obj)} {σ:St} {H:Hp} {s:Shared} {a:Addr} {y d:V} {u r:Value} {o:Option V} {A:Around} {E:Value→Shared→Prop}
end
section
variable {X:Cx} {o e f:Expr} {apos cpos:Pos} {td ty tx:TE}
end
section
variable {X:Cx} {pins:List (Addr×Obj)} {σ:St} {H:Hp} {s:Shared} {a:Addr} {kvs:List (Key×V)} {A:Around} {E:Value→Shared→Prop}
end
section
variable {X:Cx} {pins:List (Addr×Obj)} {σ:St} {H:Hp} {s:Shared} {a:Addr} {y:V} {u:Value} {A:Around} {E:Value→Shared→Prop}
end
end L2
namespace HT
open PySem PyProof.Rows
section
open PySem.SeqAt
open PySem.AutoSeq1 (wpAny_loadPart')
open PySem.MeetsSeq PySem.MeetsSeq2 PySem.MeetsSeq3
end
section
variable {prog:Program} {w:World} {A:Around} {E:Value→Shared→Prop} {s:Shared}
noncomputable def sIx (n d:Nat):Option Int→Nat
 | none=>d
 | some v=>if v < 0 then (v + (n:Int)).toNat else min v.toNat n
end
end HT
namespace L2
open PySem PySem.Spec PyProof.Rows
noncomputable abbrev TO:=St→Hp→(Option Int→Hp→Prop)→Prop
noncomputable def PO (X:Cx) (e:Option Expr) (t:TO):Prop:=
 ∀(pins:List (Addr×Obj)) (s:Shared) (σ:St) (H:Hp) (Q:Option Int→Hp→Prop),Inv X pins σ H s→t σ H Q→
  wpAny (model X.prog X.w) X.A (evalPart e X.env) (fun u s'=>∃o H',Inv X pins σ H' s'∧IsPart u o∧Q o H') X.xe s
noncomputable def tNoPart:TO:=fun q_ H Q=>Q none H
noncomputable def tPart (t:TE):TO:=fun σ H Q=>t σ H fun x H1=>∃i,x= .int i∧Q (some i) H1
section
variable {X:Cx} {e:Expr} {te:TE} {lo hi:Option Expr} {tl th:TO} {pos p2:Pos}
theorem po_none:PO X none tNoPart:=by
 intro pins s σ H Q I h
 rw [evalPart_none]
 exact wpAny_pure ⟨none,H,I,.none,h⟩
theorem po_some (h:PE X e te):PO X (some e) (tPart te):=by
 intro pins s σ H Q I hw
 rw [evalPart_some]
 refine thn (h pins s σ H _ I hw) fun u s1 ⟨x,H1,I1,r1,q1⟩=> ?_
 obtain ⟨i,rfl,q⟩:=q1
 obtain ⟨t,rfl⟩:=r1
 exact ⟨some i,H1,I1,.int i t,q⟩
noncomputable def SlR (X:Cx) (r:V→Option Int→Option Int→Hp→VK→Prop):Prop:=
 ∀(pins:List (Addr×Obj)) (s:Shared) (σ:St) (H:Hp) (x:V) (v vl vu:Value) (lo hi:Option Int) (sl:Addr) (Q:VK),Inv X pins σ H s→RelV x v→s.heap.IsSliceOf sl vl vu .none→IsPart vl lo→IsPart vu hi→r x lo hi H Q→
  ∃T id,typeLookup (.type T) "__getitem__"=pure (some (.builtin id))∧s.TypeIs v T∧wpAny (model X.prog X.w) X.A (getItem v (.ref sl)) (EP X pins σ Q) X.xe s
noncomputable def tSl (r:V→Option Int→Option Int→Hp→VK→Prop) (te:TE) (tl th:TO):TE:=fun σ H Q=>te σ H fun x H1=>tl σ H1 fun l H2=>th σ H2 fun u H3=>r x l u H3 Q
theorem pe_slice {r:V→Option Int→Option Int→Hp→VK→Prop} (hr:SlR X r) (he:PE X e te) (hl:PO X lo tl) (hu:PO X hi th):PE X (.Subscript e (.Slice lo hi none p2) pos) (tSl r te tl th):=by
 intro pins s σ H Q I h
 refine Subscript_ (thn (he pins s σ H _ I h) fun v s1 ⟨x,H1,I1,r1,q1⟩=> ?_)
 refine wpAny_Slice (thn (hl pins s1 σ H1 _ I1 q1) fun vl s2 ⟨l,H2,I2,pl,q2⟩=>thn (hu pins s2 σ H2 _ I2 q2) fun vu s3 ⟨u,H3,I3,pu,q3⟩=> ?_)
 rw [evalPart_none]
 refine wpAny_pure ?_
 have I4:Inv X pins σ H3 {s3 with heap:=s3.heap.push {cls:= .type "slice",data:= .fields #[vl,vu,.none]}}:=I3.kept (t':=s3.toks) fun b ob q=>Heap.get?_push_of_some _ q
 obtain ⟨T,id,hT,ht,hg⟩:=hr pins {s3 with heap:=s3.heap.push {cls:= .type "slice",data:= .fields #[vl,vu,.none]}} σ H3 x v vl vu l u s3.heap.objs.size Q I4 r1 (Heap.IsSliceOf.new ..) pl pu q3
 show wpAny (model X.prog X.w) X.A (subscriptTail e (.Slice lo hi none p2) v (.ref s3.heap.objs.size)) (EP X pins σ Q) X.xe {s3 with heap:=s3.heap.push {cls:= .type "slice",data:= .fields #[vl,vu,.none]}}
 exact tail_any (ops:=[.ref s3.heap.objs.size,v]) ht hT hg (by with_unfolding_all rfl)
noncomputable def cutV (xs:List V) (lo hi:Option Int):List V:=(xs.drop (HT.sIx xs.length 0 lo)).take (HT.sIx xs.length xs.length hi - HT.sIx xs.length 0 lo)
theorem cutV_length (xs:List V) (lo hi:Option Int):(cutV xs lo hi).length≤xs.length:=by
 unfold cutV
 rw [List.length_take,List.length_drop]
 lia
end
end L2
namespace L2
open PySem PySem.Spec PyProof.Rows
noncomputable def ixN (n:Nat) (i:Int):Option Nat:=if 0≤i then (if i < n then some i.toNat else none) else if -(n:Int)≤i then some (i + n).toNat else none
noncomputable def atI {α:Type} (xs:List α) (i:Int):Option α:=(ixN xs.length i).bind fun j=>xs[j]?
theorem ixN_seq {n:Nat} {i:Int} {j:Nat} (h:ixN n i=some j):seqIndex? i n=some j∧j < n∧ -(n:Int)≤i∧i < n:=by
 unfold ixN at h
 by_cases h0:0≤i
 · rw [if_pos h0] at h
   by_cases h1:i < n
   · rw [if_pos h1] at h
     have e:i.toNat=j:=Option.some.inj h
     exact ⟨by rw [seqIndex_of h0 h1,e],by lia,by lia,h1⟩
   · rw [if_neg h1] at h;cases h
 · rw [if_neg h0] at h
   by_cases h1: -(n:Int)≤i
   · rw [if_pos h1] at h
     have e:(i + n).toNat=j:=Option.some.inj h
     exact ⟨by rw [seqIndex_neg (by lia) h1,e],by lia,h1,by lia⟩
   · rw [if_neg h1] at h;cases h
theorem atI_get {α:Type} {xs:List α} {i:Int} {v:α} (h:atI xs i=some v): ∃j,seqIndex? i xs.length=some j∧xs[j]?=some v∧j < xs.length∧ -(xs.length:Int)≤i∧i < xs.length:=by
 unfold atI at h
 cases e:ixN xs.length i with
 | none=>rw [e] at h;cases h
 | some j=>
   rw [e] at h
   obtain ⟨h1,h2,h3,h4⟩:=ixN_seq e
   exact ⟨j,h1,h,h2,h3,h4⟩
theorem atI_nat {α:Type} {xs:List α} {j:Nat} {v:α} (h:xs[j]?=some v):atI xs (j:Int)=some v:=by
 have hj:j < xs.length:=(List.getElem?_eq_some_iff.mp h).1
 have e:ixN xs.length (j:Int)=some j:=by
  unfold ixN
  rw [if_pos (by lia),if_pos (by lia)];simp
 unfold atI;rw [e];exact h
noncomputable def PlainIx (b:Expr):Prop:=∀o i,subscripted b false o i=operate [o,i] (getItem o i)
noncomputable def IxR (X:Cx) (r:R2):Prop:=
 ∀(value slice:Expr) (pins:List (Addr×Obj)) (s:Shared) (σ:St) (H:Hp) (x y:V) (v u:Value) (Q:VK),Inv X pins σ H s→RelV x v→RelV y u→r x y H Q→
  subscripted slice false v u=operate [v,u] (getItem v u)→wpAny (model X.prog X.w) X.A (subscriptTail value slice v u) (EP X pins σ Q) X.xe s
noncomputable def MtR (X:Cx) (id:String) (r:V→List V→Hp→VK→Prop):Prop:=
 ∀(pins:List (Addr×Obj)) (s:Shared) (σ:St) (H:Hp) (x:V) (xs:List V) (v:Value) (us:List Value) (Q:VK),Inv X pins σ H s→RelV x v→Vals xs us→r x xs H Q→
  wpAny (model X.prog X.w) X.A (call (.builtin id) (v::us)) (EP X pins σ Q) X.xe s
section
variable {X:Cx} {a b:Expr} {ta tb:TE} {pos:Pos}
theorem IxR.or {r r':R2} (h:IxR X r) (h':IxR X r'):IxR X (fun x y H Q=>r x y H Q∨r' x y H Q):=by
 intro value slice pins s σ H x y v u Q I rx ry q hs
 rcases q with q | q
 · exact h value slice pins s σ H x y v u Q I rx ry q hs
 · exact h' value slice pins s σ H x y v u Q I rx ry q hs
theorem pe_ix {r:R2} (hr:IxR X r) (ha:PE X a ta) (hb:PE X b tb) (hs:PlainIx b):PE X (.Subscript a b pos) (tOp r ta tb):=by
 intro pins s σ H Q I h
 exact Subscript_ (binT ha hb I h fun v u s2 x y H2 I2 rx ry q=>hr a b pins s2 σ H2 x y v u Q I2 rx ry q (hs _ _))
noncomputable def rIxL (K:PySem.W.Frag):R2:=fun x y H Q=>∃p xs i v,x= .ref p∧y= .int i∧SqL K H p xs∧atI xs i=some v∧Q v H
noncomputable def rIxT (K:PySem.W.Frag):R2:=fun x y H Q=>∃p xs i v,x= .ref p∧y= .int i∧SqT K H p xs∧atI xs i=some v∧Q v H
noncomputable def rIxS:R2:=fun x y H Q=>∃z i c,x= .str z∧y= .int i∧z.length≤sizeLine∧atI z.cps.toList i=some c∧Q (.str ⟨#[c]⟩) H
theorem ix_list:IxR X (rIxL X.K):=by
 intro value slice pins s σ H x y v u Q I rx ry h hs
 obtain ⟨p,xs,i,z,rfl,rfl,hq,he,q⟩:=h
 cases rx
 obtain ⟨t,rfl⟩:=ry
 obtain ⟨its,r,pl,hz⟩:=I.list hq
 obtain ⟨j,h1,h2,h3,h4,h5⟩:=atI_get he
 obtain ⟨w,ew,rw'⟩:=r.get h2
 have hl:=r.length
 have hn:=line63
 have fin:EP X pins σ Q w s:=⟨z,H,I,rw',q⟩
 by_cases h0:0≤i
 · have hj:i.toNat=j:=by
    rw [seqIndex_of h0 h5] at h1
    exact Option.some.inj h1
   exact item_listR pl.isList h0 (by lia) (by rw [hj];simpa using ew) fin hs
 · have hj:(i + (its.toArray.size:Int)).toNat=j:=by
    rw [seqIndex_neg (by lia) h4] at h1
    rw [List.size_toArray,← hl]
    exact Option.some.inj h1
   exact subscriptTail_builtinR (x:=w) pl.isList.typeIs slot_list_getitem.lookup
    (wpAny_getItem_list_neg (Q:=fun r s'=>r=w∧EP X pins σ Q r s') pl.isList (by lia) (by rw [List.size_toArray] <;> lia) (by lia) (by rw [hj];simpa using ew) ⟨rfl,fin⟩) hs
theorem ix_tup:IxR X (rIxT X.K):=by
 intro value slice pins s σ H x y v u Q I rx ry h hs
 obtain ⟨p,xs,i,z,rfl,rfl,hq,he,q⟩:=h
 cases rx
 obtain ⟨t,rfl⟩:=ry
 obtain ⟨its,r,pl,hz⟩:=I.tuple hq
 obtain ⟨j,h1,h2,h3,h4,h5⟩:=atI_get he
 obtain ⟨w,ew,rw'⟩:=r.get h2
 have hl:=r.length
 have hn:=line63
 have fin:EP X pins σ Q w s:=⟨z,H,I,rw',q⟩
 exact subscriptTail_builtinR (x:=w) pl.typeIs slot_tuple_getitem.lookup
  (getItem_tuple (j:=j) (Q:=fun r s'=>r=w∧EP X pins σ Q r s') pl (by lia) (by lia) (by rw [List.size_toArray,← hl];exact h1) (by simpa using ew) ⟨rfl,fin⟩) hs
theorem ix_str:IxR X rIxS:=by
 intro value slice pins s σ H x y v u Q I rx ry h hs
 obtain ⟨z,i,c,rfl,rfl,hz,he,q⟩:=h
 obtain ⟨t,rfl⟩:=rx
 obtain ⟨t',rfl⟩:=ry
 obtain ⟨j,h1,h2,h3,h4,h5⟩:=atI_get he
 have hl:z.cps.toList.length=z.length:=by simp [Str.length]
 rw [hl] at h1 h4 h5
 have hn:=line63
 exact tail_any (typeIs_str s z t) slot_str_getitem.lookup (getItem_str (c:=c) (by
  have e1:decide (i < -(2 ^ 63:Int))=false:=decide_eq_false (by lia)
  have e2:decide (i≥2 ^ 63)=false:=decide_eq_false (by lia)
  rw [e1,e2,Bool.or_false]) (by rw [h1];simpa using h2) ⟨.str ⟨#[c]⟩,H,I.tok _,⟨_,rfl⟩,q⟩) hs
noncomputable def rIx (K:PySem.W.Frag):R2:=fun x y H Q=>rIxL K x y H Q∨rIxT K x y H Q∨rIxS x y H Q
theorem ix_seq:IxR X (rIx X.K):=ix_list.or (ix_tup.or ix_str)
theorem mapSeq_set (its:List Value) (n j:Nat) (u:Value):Obj.mapSeq (·.setIfInBounds j u) {cls:= .type "list",data:= .seq its.toArray n}={cls:= .type "list",data:= .seq (its.set j u).toArray n}:=by
 simp [Obj.mapSeq]
theorem Inv.lst {pins:List (Addr×Obj)} {σ:St} {H:Hp} {s:Shared} {p:Addr} {xs:List V} (I:Inv X pins σ H s) (h:H p=some (.lst xs)):
 ∃(its:List Value) (n:Nat),Vals xs its∧s.heap.get? p=some {cls:= .type "list",data:= .seq its.toArray n}∧xs.length≤sizeLine:=by
 obtain ⟨z,its,n,r,e⟩:=I.hok p _ h
 exact ⟨its,n,r,e,z⟩
theorem Inv.lstUpd {pins:List (Addr×Obj)} {σ:St} {H:Hp} {s:Shared} {p:Addr} {xs ys:List V} {its its':List Value} {n n':Nat} {f:Obj→Obj} (I:Inv X pins σ H s) (h:H p=some (.lst xs))
 (ho:s.heap.get? p=some {cls:= .type "list",data:= .seq its.toArray n}) (hf:f {cls:= .type "list",data:= .seq its.toArray n}={cls:= .type "list",data:= .seq its'.toArray n'}) (r:Vals ys its') (hz:ys.length≤sizeLine) (t:Nat):
 Inv X pins σ (upd H p (.lst ys)) {s with heap:=s.heap.update p f,toks:=t}:=by
 have e:(s.heap.update p f).get? p=some {cls:= .type "list",data:= .seq its'.toArray n'}:=by
  rw [Heap.get?_update_self f ho (by rw [hf] <;> rfl),hf]
 refine I.write (x:=p) (e:=p) (by rw [h];trivial) (.inl rfl) (fun b u hb q=>(Heap.get?_update_other _ _ (Ne.symm hb)).trans q) ⟨_,e⟩ ?_
 exact ⟨hz,its',n',r,e⟩
noncomputable def rSetL:V→V→V→Hp→(Hp→Prop)→Prop:=fun o i v H Q=>∃p xs k j,o= .ref p∧i= .int k∧H p=some (.lst xs)∧ixN xs.length k=some j∧Q (upd H p (.lst (xs.set j v)))
theorem set_list:PSet X rSetL:=by
 intro pins s σ H o i v ov iv u Q I ro ri rv h
 obtain ⟨p,xs,k,j,rfl,rfl,hp,hj,q⟩:=h
 cases ro
 obtain ⟨t,rfl⟩:=ri
 obtain ⟨its,n,r,ho,hz⟩:=I.lst hp
 obtain ⟨h1,h2,h3,h4⟩:=ixN_seq hj
 have hl:=r.length
 have hn:=line63
 have I':Inv X pins σ (upd H p (.lst (xs.set j v))) {s with heap:=s.heap.update p (Obj.mapSeq (·.setIfInBounds j u))}:=
  I.lstUpd hp ho (mapSeq_set its n j u) (r.set rv j) (by rw [List.length_set];exact hz) s.toks
 by_cases h0:0≤k
 · have hk:k.toNat=j:=by
    rw [seqIndex_of h0 h4] at h1
    exact Option.some.inj h1
   exact PySem.W.ki_setAt ho h0 (by lia) (by rw [List.size_toArray,← hl];exact h4) (by rw [hk];exact ⟨_,I',q⟩)
 · have hk:(k + (its.toArray.size:Int)).toNat=j:=by
    rw [seqIndex_neg (by lia) h3] at h1
    rw [List.size_toArray,← hl]
    exact Option.some.inj h1
   exact PySem.W.ki_setBack ho (by lia) (by rw [List.size_toArray,← hl];exact h3) (by lia) (by rw [hk];exact ⟨_,I',q⟩)
theorem slice_bounds (lo hi:Option Int) (n:Nat):(sliceBounds lo hi none n).1=((HT.sIx n 0 lo:Nat):Int)∧(sliceBounds lo hi none n).2.1=((HT.sIx n n hi:Nat):Int)∧(sliceBounds lo hi none n).2.2=1:=by
 refine ⟨?_,?_,rfl⟩
 · cases lo with
   | none=>simp [sliceBounds,HT.sIx]
   | some i=>
     simp only [sliceBounds,HT.sIx,Option.getD_none,show (1:Int) > 0 by decide,if_true]
     by_cases h:i < 0
     · simp only [h,if_true] <;> lia
     · simp only [h,if_false] <;> lia
 · cases hi with
   | none=>simp [sliceBounds,HT.sIx]
   | some i=>
     simp only [sliceBounds,HT.sIx,Option.getD_none,show (1:Int) > 0 by decide,if_true]
     by_cases h:i < 0
     · simp only [h,if_true] <;> lia
     · simp only [h,if_false] <;> lia
theorem slicePick_cut (its:List Value) (lo hi:Option Int):slicePick its.toArray lo hi none=((its.drop (HT.sIx its.length 0 lo)).take (HT.sIx its.length its.length hi - HT.sIx its.length 0 lo)).toArray:=by
 obtain ⟨h1,h2,h3⟩:=slice_bounds lo hi its.toArray.size
 unfold slicePick
 rw [h1,h2,h3]
 simp only [sliceRange_one,pick_run,List.size_toArray] <;> rfl
noncomputable def rSlL (K:PySem.W.Frag):V→Option Int→Option Int→Hp→VK→Prop:=fun x lo hi H Q=>∃a xs,x= .ref a∧SqL K H a xs∧∀p,H p=none→Q (.ref p) (upd H p (.lst (cutV xs lo hi)))
theorem sl_list:SlR X (rSlL X.K):=by
 intro pins s σ H x v vl vu lo hi sl Q I rx hs pl pu h
 obtain ⟨a,xs,rfl,hx,q⟩:=h
 cases rx
 obtain ⟨its,r,ht,hz⟩:=I.list hx
 have hlen:=r.length
 refine ⟨"list",_,slot_list_getitem.lookup,ht.isList.typeIs,?_⟩
 refine wpAny_getItem_list_slice ht.isList hs pl pu .none (by simp) ?_ (by rw [List.size_toArray] <;> lia)
 rw [slicePick_cut,← hlen]
 refine ⟨.ref s.heap.objs.size,_,I.laid (t':=s.toks) (o:= .lst (cutV xs lo hi)) (fun b ob q=>Heap.get?_push_of_some _ q) (Nat.le_refl _) ?_,rfl,q _ (I.hok.fresh (Nat.le_refl _))⟩
 exact ⟨Nat.le_trans (cutV_length xs lo hi) hz,_,0,(r.drop (HT.sIx xs.length 0 lo)).take (HT.sIx xs.length xs.length hi - HT.sIx xs.length 0 lo),Heap.get?_push_size _ rfl⟩
theorem call_len_seq:CallR X (.builtin "len") (fun xs H Q=>∃p ys,xs=[.ref p]∧(SqL X.K H p ys∨SqT X.K H p ys)∧Q (.int ys.length) H):=by
 intro pins s σ H xs us Q I r h
 obtain ⟨p,ys,rfl,hq,q⟩:=h
 obtain ⟨u,rfl,rx⟩:=vals1 r
 cases rx
 have hn:=line63
 rcases hq with hq | hq
 · obtain ⟨its,r',pl,hz⟩:=I.list hq
   have hlen:=r'.length
   exact Calls.call_len_list pl.isList (by simp only [List.size_toArray] <;> lia) ⟨.int ys.length,H,I.tok _,⟨s.toks + 1,by rw [List.size_toArray,hlen]⟩,q⟩
 · obtain ⟨its,r',pl,hz⟩:=I.tuple hq
   have hlen:=r'.length
   exact len_tuple pl (by simp only [List.size_toArray] <;> lia) ⟨.int ys.length,H,I.tok _,⟨s.toks + 1,by rw [List.size_toArray,hlen]⟩,q⟩
theorem call_len_str:CallR X (.builtin "len") (fun xs H Q=>∃z,xs=[.str z]∧z.length≤sizeLine∧Q (.int z.length) H):=by
 intro pins s σ H xs us Q I r h
 obtain ⟨z,rfl,hz,q⟩:=h
 obtain ⟨u,rfl,t,rfl⟩:=vals1 r
 have hn:=line63
 exact len_str (by lia) ⟨.int z.length,H,I.tok _,⟨_,rfl⟩,q⟩
theorem call_tuple_of:CallR X (.type "tuple") (fun xs H Q=>∃p ys,xs=[.ref p]∧((SqL X.K H p ys∧∀l,H l=none→Q (.ref l) (upd H l (.tup ys)))∨(SqT X.K H p ys∧Q (.ref p) H))):=by
 intro pins s σ H xs us Q I r h
 obtain ⟨p,ys,rfl,h⟩:=h
 obtain ⟨u,rfl,rx⟩:=vals1 r
 cases rx
 rcases h with ⟨hq,q⟩ | ⟨hq,q⟩
 · obtain ⟨its,r',pl,hz⟩:=I.list hq
   have hlen:=r'.length
   refine call_tuple_list pl.isList (fun h' kp=> ?_) (by simp only [List.size_toArray] <;> lia)
   have I1:Inv X pins σ H {s with heap:=h'}:=I.kept (t':=s.toks) kp
   have I2:Inv X pins σ (upd H h'.objs.size (.tup ys)) {s with heap:=h'.push {cls:= .type "tuple",data:= .seq its.toArray}}:=
    I1.laid (t':=s.toks) (fun b o e=>Heap.get?_push_of_some _ e) (Nat.le_refl _) (show ObjOk X.prog X.w _ _ _ (.tup ys) from ⟨hz,its,r',IsTup.new _ _⟩)
   exact ⟨.ref h'.objs.size,_,I2,rfl,q _ (I1.hok.fresh (Nat.le_refl _))⟩
 · obtain ⟨its,r',pl,hz⟩:=I.tuple hq
   exact call_tuple_same pl ⟨.ref p,H,I,rfl,q⟩
noncomputable def tyV (K:PySem.W.Frag) (T:String) (x:V) (H:Hp):Prop:=match x with
 | .str _=>T="str"
 | .int _=>T="int"
 | .ref p=>(T="list"∧∃xs,SqL K H p xs)∨(T="tuple"∧∃o,K.lookup p=some o∧o.cls= .type "tuple"∧o.dict=none)∨
    (T="dict"∧((∃ kvs,H p=some (.dK kvs))∨∃kvs,H p=some (.dT kvs)))∨(T="set"∧∃S n,H p=some (.set S n))
 | _=>False
theorem tyV_is {pins:List (Addr×Obj)} {σ:St} {H:Hp} {s:Shared} {T:String} {x:V} {v:Value} (I:Inv X pins σ H s) (r:RelV x v) (ty:tyV X.K T x H):
 s.TypeIs v T∧∀a,v= .ref a→∃ob,s.heap.get? a=some ob∧ob.dict=none:=by
 cases x with
 | str z=>
   obtain ⟨t,rfl⟩:=r
   cases (show T="str" from ty)
   exact ⟨typeIs_str s z t,fun q_ e=>nomatch e⟩
 | int i=>
   obtain ⟨t,rfl⟩:=r
   cases (show T="int" from ty)
   exact ⟨typeIs_int s i t,fun q_ e=>nomatch e⟩
 | ref p=>
   cases r
   rcases ty with ⟨rfl,xs,hq⟩ | ⟨rfl,o,hk,hc,hd⟩ | ⟨rfl,hk⟩ | ⟨rfl,S,n,hk⟩
   · obtain ⟨its,_,pl,_⟩:=I.list hq
     refine ⟨pl.isList.typeIs,fun a e=> ?_⟩
     cases e
     obtain ⟨o,n,e,c,hd,_⟩:=pl
     exact ⟨o,e,hd⟩
   · refine ⟨⟨o,I.kIn p o hk,hc⟩,fun a e=> ?_⟩
     cases e
     exact ⟨o,I.kIn _ o hk,hd⟩
   · have z: ∃o,s.heap.get? p=some o∧o.ExactDict:=by
      rcases hk with ⟨kvs,hk⟩ | ⟨kvs,hk⟩
      · obtain ⟨_,_,_,_,o,_,_,e,ex,_⟩:=I.hok p _ hk
        exact ⟨o,e,ex⟩
      · obtain ⟨_,_,_,_,o,_,_,e,ex,_⟩:=I.hok p _ hk
        exact ⟨o,e,ex⟩
     obtain ⟨o,e,ex⟩:=z
     refine ⟨⟨o,e,ex.1⟩,fun a e2=> ?_⟩
     cases e2
     exact ⟨o,e,ex.2.1⟩
   · obtain ⟨o,_,_,_,e,ex,_⟩:=I.hok p _ hk
     refine ⟨⟨o,e,ex.1⟩,fun a e2=> ?_⟩
     cases e2
     exact ⟨o,e,ex.2.1⟩
 | _=>exact False.elim ty
noncomputable def tBM (K:PySem.W.Frag) (T:String) (r:V→List V→Hp→VK→Prop) (to:TE) (t:TA):TE:=fun σ H Q=>to σ H fun x H1=>tyV K T x H1∧t σ H1 fun xs H2=>r x xs H2 Q
variable {o e:Expr} {es:List Expr} {to:TE} {t:TA} {name:Str} {apos cpos:Pos} {T id:String} {r:V→List V→Hp→VK→Prop}
theorem pe_bm (pa:PlainAttrs T) (slot:Slot T name id) (hty:typeOf (.builtin id)=pure (.type "method_descriptor")) (hm:MtR X id r) (ho:PE X o to) (ha:PA X (e::es) t)
 (hbase:autoParam (attributeBase o name X.env (eval o X.env)=eval o X.env) u5._auto_1)
 (hfew:autoParam (((backTo cpos (starEach (e::es) X.env)).all (fun x=> !x.1) && (backToKw cpos (keywordEach [] X.env)).all (fun x=>x.1.isSome)
   && decide ((e::es).length + ([]:List Keyword).length + (if ([]:List Keyword).isEmpty then 0 else 1) < 30))=true) u5._auto_1)
 (hline:autoParam ((apos.endLine == cpos.line)=true) u5._auto_1) (hs:autoParam (starEach (e::es) X.env=(false,eval e X.env)::starEach es X.env) u5._auto_1) (hplain:autoParam ((backTo cpos (starEach es X.env)).any (·.1)=false) u5._auto_1):
 PE X (.Call (.Attribute o name apos) (e::es) [] cpos) (tBM X.K T r to t):=by
 intro pins s σ H Q I h
 refine wpAny_Call_method_late hbase hfew hline rfl (thn (ho pins s σ H _ I h) fun v s1 ⟨x,H1,I1,r1,ty,q1⟩=> ?_)
 obtain ⟨h1,h2⟩:=tyV_is I1 r1 ty
 refine ⟨T,id,pa,slot,hty,h1,h2,?_⟩
 have hA:=ha cpos pins s1 σ H1 _ I1 q1
 rw [hs] at hA ⊢
 refine Calls.callWith_builtin (by show (false || (backTo cpos (starEach es X.env)).any (·.1))=false;rw [hplain] <;> rfl) (Calls.evalArgs_plain ?_)
 exact thn hA fun us s2 ⟨vs,H2,I2,r2,q2⟩=>hm pins s2 σ H2 x vs v us Q I2 r1 r2 q2
end
end L2
namespace L2
open PySem PySem.Spec PyProof.Rows
noncomputable def MtM (X:Cx) (id:String) (r:V→List V→Hp→VK→Prop):Prop:=
 ∀(pins:List (Addr×Obj)) (s:Shared) (σ:St) (H:Hp) (x:V) (xs:List V) (v:Value) (us:List Value) (Q:VK),Inv X pins σ H s→RelV x v→Vals xs us→r x xs H Q→
  wpAny (model X.prog X.w) X.A (call (.builtin id) (v::us)) (EP X pins σ Q) X.xe s
theorem Vals.one: ∀{x:V} {us:List Value},Vals [x] us→∃u,us=[u]∧RelV x u
 | _,_,.cons r .nil=>⟨_,rfl,r⟩
theorem Vals.eraseIdx: ∀{xs:List V} {us:List Value} (i:Nat),Vals xs us→Vals (xs.eraseIdx i) (us.eraseIdx i)
 | _,_,_,.nil=> .nil
 | _,_,0,.cons _ t=>t
 | _,_,i + 1,.cons r t=> .cons r (Vals.eraseIdx i t)
theorem len_erase {α:Type}: ∀(l:List α) (i:Nat),(l.eraseIdx i).length≤l.length
 | [],_=>Nat.le_refl _
 | _::_,0=>Nat.le_succ _
 | _::r,i + 1=>Nat.succ_le_succ (len_erase r i)
section
variable {X:Cx} {pins:List (Addr×Obj)} {σ:St} {H:Hp} {s:Shared} {l b:Addr} {xs ys zs:List V}
theorem Inv.lset {its its':List Value} {n:Nat} {f:Array Value→Array Value} {t':Nat} (I:Inv X pins σ H s) (hH:H l=some (.lst xs))
 (e:s.heap.get? l=some {cls:= .type "list",data:= .seq its.toArray n}) (hf:f its.toArray=its'.toArray) (hv:Vals ys its') (hz:ys.length≤sizeLine):
 Inv X pins σ (upd H l (.lst ys)) {s with heap:=s.heap.update l (Obj.mapSeq f),toks:=t'}:=by
 have q:=PySem.IsL.update e f
 rw [hf] at q
 refine I.write (x:=l) (e:=l) (by rw [hH];exact trivial) (.inl rfl) (fun b' u hb hu=>(Heap.get?_update_other s.heap (Obj.mapSeq f) (Ne.symm hb)).trans hu) ⟨_,q⟩ ?_
 exact ⟨hz,its',_,hv,q⟩
theorem Inv.lnew {its:List Value} {t':Nat} (I:Inv X pins σ H s) (hv:Vals ys its) (hz:ys.length≤sizeLine):
 Inv X pins σ (upd H s.heap.objs.size (.lst ys)) {s with heap:=s.heap.push {cls:= .type "list",data:= .seq its.toArray},toks:=t'}:=
 I.laid (fun q_ q_ q=>Heap.get?_push_of_some _ q) (Nat.le_refl _) ⟨hz,its,0,hv,Heap.get?_push_size _ rfl⟩
theorem Inv.fresh (I:Inv X pins σ H s):H s.heap.objs.size=none:=I.hok.fresh (Nat.le_refl _)
theorem Inv.lstM (I:Inv X pins σ H s) (hH:H l=some (.lst xs)):xs.length≤sizeLine∧∃(its:List Value) (n:Nat),Vals xs its∧xs.length=its.length∧s.heap.get? l=some {cls:= .type "list",data:= .seq its.toArray n}:=by
 obtain ⟨z,its,n,r,e⟩:=I.hok l _ hH
 exact ⟨z,its,n,r,r.length,e⟩
theorem notLongL {n:Nat} (h:n≤sizeLine):Builtin.List.listTooLong n=false:=by
 unfold Builtin.List.listTooLong
 exact decide_eq_false (by lia)
end
section
variable {X:Cx}
noncomputable def rAppend:V→List V→Hp→VK→Prop:=fun x vs H Q=>∃l xs y,x= .ref l∧vs=[y]∧H l=some (.lst xs)∧xs.length < sizeLine∧Q .non (upd H l (.lst (xs++[y])))
theorem mt_append:MtM X "list.append" rAppend:=by
 intro pins s σ H x vs v us Q I rx rv h
 obtain ⟨l,xs,y,rfl,rfl,hH,hz,q⟩:=h
 cases rx
 obtain ⟨u,rfl,ru⟩:=rv.one
 obtain ⟨z,its,n,r,hl,e⟩:=I.lstM hH
 refine call_meets F.slot_list_append ⟨_,e,rfl⟩ F.entry_list_append (F.args_list_append_2 _ _) (PySem.list_append l its.toArray n u (by rw [List.size_toArray];lia)) ⟨e,?_⟩
 refine ⟨.non,_,I.lset (its':=its++[u]) hH e (by simp) (r.append (.cons ru .nil)) ?_,rfl,q⟩
 rw [List.length_append,List.length_singleton]
 lia
noncomputable def rExtend:V→List V→Hp→VK→Prop:=fun x vs H Q=>∃l b xs zs,x= .ref l∧vs=[.ref b]∧H l=some (.lst xs)∧H b=some (.lst zs)∧xs.length + zs.length≤sizeLine∧Q .non (upd H l (.lst (xs++zs)))
theorem mt_extend:MtM X "list.extend" rExtend:=by
 intro pins s σ H x vs v us Q I rx rv h
 obtain ⟨l,b,xs,zs,rfl,rfl,hH,hB,hz,q⟩:=h
 cases rx
 obtain ⟨u,rfl,ru⟩:=rv.one
 cases ru
 obtain ⟨z,its,n,r,hl,e⟩:=I.lstM hH
 obtain ⟨z2,its2,n2,r2,hl2,e2⟩:=I.lstM hB
 have hsz:its.toArray.size + its2.toArray.size≤sizeLine:=by rw [List.size_toArray,List.size_toArray];lia
 have hlong: ¬(!its.toArray.isEmpty && Builtin.List.listTooLong (its.toArray.size + its2.toArray.size))=true:=by
  rw [notLongL hsz,Bool.and_false]
  exact Bool.false_ne_true
 refine call_meets F.slot_list_extend ⟨_,e,rfl⟩ F.entry_list_extend (F.args_list_extend_2 _ _)
  (AutoSeq1.list_extend_list_list_0 l its.toArray n b its2.toArray n2 hlong (by rw [List.size_toArray];lia) (by lia)) ⟨e,e2,?_⟩
 refine ⟨.non,_,I.lset (its':=its++its2) hH e (by simp) (r.append r2) ?_,rfl,q⟩
 rw [List.length_append]
 lia
noncomputable def rPopAt:V→List V→Hp→VK→Prop:=fun x vs H Q=>∃l xs i k y,x= .ref l∧vs=[.int i]∧H l=some (.lst xs)∧ -(2 ^ 63)≤i∧i < 2 ^ 63∧seqIndex? i xs.length=some k∧xs[k]?=some y∧Q y (upd H l (.lst (xs.eraseIdx k)))
theorem mt_popAt:MtM X "list.pop" rPopAt:=by
 intro pins s σ H x vs v us Q I rx rv h
 obtain ⟨l,xs,i,k,y,rfl,rfl,hH,h1,h2,hk,hy,q⟩:=h
 cases rx
 obtain ⟨u,rfl,ru⟩:=rv.one
 obtain ⟨t,rfl⟩:=ru
 obtain ⟨z,its,n,r,hl,e⟩:=I.lstM hH
 obtain ⟨w,hw,rw'⟩:=r.get hy
 refine call_meets F.slot_list_pop ⟨_,e,rfl⟩ F.entry_list_pop (F.args_list_pop_2 _ _)
  (MeetsSeq.list_pop_at l its.toArray n i t k w (fitsIndex_both h1 h2) (by rw [List.size_toArray,← hl];exact hk) (by rw [← Array.getElem?_toList];exact hw) (by rw [List.size_toArray];lia)) ⟨e,?_⟩
 refine ⟨y,_,I.lset (its':=its.eraseIdx k) hH e ?_ (r.eraseIdx k) ?_,rw',q⟩
 · show its.toArray.eraseIdxIfInBounds k=(its.eraseIdx k).toArray
   rw [List.eraseIdxIfInBounds_toArray]
 · have:=len_erase xs k
   lia
noncomputable def rCat:R2:=fun x y H Q=>∃l b xs zs,x= .ref l∧y= .ref b∧H l=some (.lst xs)∧H b=some (.lst zs)∧xs.length + zs.length≤sizeLine∧∀p,H p=none→Q (.ref p) (upd H p (.lst (xs++zs)))
theorem op_cat:OpR X (binaryOp .Add) rCat:=by
 intro pins s σ H x y v u Q I rx ry h
 obtain ⟨l,b,xs,zs,rfl,rfl,hH,hB,hz,q⟩:=h
 cases rx
 cases ry
 obtain ⟨z,its,n,r,hl,e⟩:=I.lstM hH
 obtain ⟨z2,its2,n2,r2,hl2,e2⟩:=I.lstM hB
 refine PySem.P.add_list e e2 ?_ (by rw [List.size_toArray,List.size_toArray];lia)
 have ea:its.toArray++its2.toArray=(its++its2).toArray:=by simp
 rw [ea]
 exact ⟨.ref _,_,I.lnew (t':=s.toks) (r.append r2) (by rw [List.length_append];lia),rfl,q _ I.fresh⟩
end
section
variable {prog:Program} {w:World} {A:Around} {E:Value→Shared→Prop} {s:Shared}
end
section
variable {X:Cx}
end
end L2
namespace Att
open PySem PySem.W PySem.Calls PyProof.Rows
theorem ints_of_wellAll {P:Params} {h:Heap}: ∀(ns:List Int) (vs:List Value),WellAll P h vs (ns.map WData.int)→IntsAre vs ns:=by
 intro ns
 induction ns with
 | nil=>
   intro vs w
   rw [List.map_nil] at w
   cases w
   exact .nil
 | cons n ns ih=>
   intro vs w
   rw [List.map_cons] at w
   cases w with
   | cons a b=>
     cases a
     exact .cons _ _ (ih _ b)
theorem script_of {l:OpenLaw} {n:Nat} (hn:l.most=some n) {P:Params} {h:Heap} {args:List WData} {vals:List Value}
 (hpre:l.row.toRowW.claim.pre args=true) (hwl:WellAll P h vals args):
 ∃a vs ns,vals=[Value.ref a]∧args=[WData.list (ns.map WData.int)]∧h.get? a=some {cls:= .type "list",data:= .seq vs.toArray}∧IntsAre vs ns∧ns.length≤n:=by
 have hsh:WShape.hasAll [] args [.list .int]=true:=(pre_splitW hpre).1
 have hc:l.pre.holds [] {args:=args}=true:=(pre_splitW hpre).2
 obtain ⟨d,r,rfl,h1,h2⟩:=hasAllW_cons hsh
 obtain rfl:=hasAllW_nil h2
 obtain ⟨xs,rfl,h3⟩:=hasW_list h1
 obtain ⟨ns,rfl⟩:=items_int h3
 have hlen:ns.length≤n:=by
  unfold OpenLaw.pre at hc
  have h4:(WTm.not (.lt (.lit (.int (n:Int))) (.len (.arg 0)))).holds [] {args:=[.list (ns.map .int)]}=true:=by
   have h4:=(holds_andW hc).1
   rw [hn] at h4
   exact h4
  have h5:=condW_of h4 (w_not (w_lt w_lit (w_len_list (w_arg rfl))))
  rw [List.length_map] at h5
  refine Nat.le_of_not_lt fun q=> ?_
  have q':(n:Int) < ((ns.length:Nat):Int):=by lia
  first
   | (rw [decide_eq_true q'] at h5;exact absurd h5 (by decide))
   | (simp at h5;lia)
 cases hwl with
 | cons w1 w2=>
   cases w2
   cases w1 with
   | list ho hall=>exact ⟨_,_,ns,rfl,rfl,ho,ints_of_wellAll ns _ hall,hlen⟩
theorem post_true (l:OpenLaw) (args:List WData):l.row.toRowW.claim.post args (.bool true) args=true:=
 postW_of (r:=l.row.toRowW) (X:=(true == true))
  (show WShape.has [] (.bool true) .bool=true by first | rfl | decide | simp [WShape.has,WShape.arms,WShape.armsAll])
  (show (WTm.eq .res (.lit (.bool true))).value [] {args:=args,res:=some (.bool true),after:=args}=some (.bool (true == true)) from w_eq_bool (w_res rfl) w_lit) rfl
theorem attach_call {l:OpenLaw} {n:Nat} {q:Program} {loose:List Str} {XP:(Str→Option Value)→Heap→Prop} {YP:World→Heap→Prop} {d:DefRec}
 (hn:l.most=some n) (hdf:d.params.defaults=[])
 (call: ∀(w:World) (s₀ s₁:Shared) (mg mb:Str→Option Value) (fa:Addr) (o:Obj) (pm cd doc:Value) (a:Addr) (vs:List Value) (ns:List Int),
   Ground q loose [] XP w s₀ mg mb s₁.heap→YP w s₁.heap→
   s₁.heap.get? fa=some o→o.data= .func (docDef d.name d.params d.body d.scope pm cd doc)→s₁.heap.CodeRec cd d.name→mg d.name=some (.ref fa)→
   s₁.heap.get? a=some {cls:= .type "list",data:= .seq vs.toArray}→IntsAre vs ns→ns.length≤n→s₁.gens= #[]→
   codeAny (model l.prog w) callerA (.call (.ref fa) ⟨[.ref a],[]⟩) (fun r s'=>r= .ok (.ret (.bool true))∧OldK s₁.heap s'.heap∧s'.os=s₁.os∧AllBare s'.gens) s₁):
 WalkO q loose XP YP l.row.toRowW d [] (fun f vs=>PySem.call f vs):=by
 intro w s₀ s₁ mg mb G Y fa o pm cd doc dV kV ho hd hcd hD hmg hg args vals as hpre hlay hrd hwl hlo
 obtain rfl:dV= .none:=Dflts.none hD hdf
 obtain rfl:kV= .none:=Dflts.noKw hD
 obtain ⟨a,vs,ns,rfl,rfl,hobj,hints,hlen⟩:=script_of hn hpre hwl
 refine enter_call (codeAny_mono (call w s₀ s₁ mg mb fa o pm cd doc a vs ns G Y ho (fd_plain hd) hcd hmg hobj hints hlen hg) fun r s' hq=> ?_)
 obtain ⟨rfl,h2,h3,h4⟩:=hq
 exact ⟨.inl ⟨.bool true,.bool true,[],rfl,fun q_=>rfl,.bool true,post_true l _,fun q_=>⟨List.Pairwise.nil,fun q_ hm=>(nomatch hm)⟩⟩,h2,h3,h4⟩
section
variable {prog:Program} {w:World} {A:Around} {E:Value→Shared→Prop} {s:Shared} {K:Frag}
end
end Att
namespace L2
open PySem PySem.Spec PyProof.Rows
theorem vals_ints: ∀{vs:List Value} {ns:List Int},IntsAre vs ns→Vals (ns.map V.int) vs
 | _,_,.nil=> .nil
 | _,_,.cons n t h=> .cons ⟨t,rfl⟩ (vals_ints h)
noncomputable def Only (H:Hp):Prop:=∀b,H b=none∨∃o xs,H b=some (.frz o (.lst xs))
theorem law_call {P:Program} {w:World} {K:PySem.W.Frag} {mg mb:Str→Option Value} {CX:CXT} {k:Nat} {fa a:Addr} {fd:FuncData} {x:Str} {sp:Sp} {s₁:Shared} {vs:List Value} {ns:List Int}
 (KX:K.In s₁.heap) (hns:s₁.heap.Ns mainGlobals mg) (hb:s₁.heap.Ns builtinsNs mb) (hbb: ∀x:Str,x≠"__name__"→mb x=bootBuiltins x) (hlim:s₁.heap.NoLimit) (hg:s₁.gens= #[])
 (ha:s₁.heap.get? a=some {cls:= .type "list",data:= .seq vs.toArray}) (hi:IntsAre vs ns) (hl:ns.length≤sizeLine) (hr:Room k callerA)
 (F: ∀base:Heap,K.In base→base.Ns mainGlobals mg→FnOk P w K mg base CX k fa fd [x] sp) (hbind: ∀(s:Shared) (u:Value),BindsTo s fd ⟨[u],[]⟩ [(x,u)])
 (hsp: ∀H:Hp,Only H→SqL K H a (ns.map V.int)→sp [.ref a] H (fun v q_=>v= .bl true) fun q_ q_ q_=>False)
 (hCX: ∀H e s',CX [] H s₁ (fun q_ q_ q_=>False) e s'→False):
 codeAny (model P w) callerA (.call (.ref fa) ⟨[.ref a],[]⟩) (fun r s'=>r= .ok (.ret (.bool true))∧OldK s₁.heap s'.heap∧s'.os=s₁.os∧AllBare s'.gens) s₁:=by
 have rv:=vals_ints hi
 have lenV:=hi.length
 have core: ∀H:Hp,Only H→SqL K H a (ns.map V.int)→HOk P w H s₁.heap→(∀ b,H b≠none→b=a)→(H a≠none→K.lookup a=none)→
  codeAny (model P w) callerA (.call (.ref fa) ⟨[.ref a],[]⟩) (fun r s'=>r= .ok (.ret (.bool true))∧OldK s₁.heap s'.heap∧s'.os=s₁.os∧AllBare s'.gens) s₁:=by
  intro H hO hS hok hA hK
  have base_of: ∀{b:Addr} {o:Obj},s₁.heap.get? b=some o→H b=none→(hidT s₁.heap H).get? b=some o:=fun e n=>hidT_get e n
  have noA: ∀{b:Addr} {o:Obj} {es:Array DictEntry} {ep:Nat},s₁.heap.get? b=some o→o.data= .dict es ep→H b=none:=fun {b o es ep} e d=>by
   cases q:H b with
   | none=>rfl
   | some u=>
     have e':b=a:=hA b (by rw [q];simp)
     subst e'
     rw [ha] at e;cases e
     have d':Data.seq vs.toArray _=Data.dict es ep:=d
     cases d'
  have nsK: ∀{b:Addr} {m:Str→Option Value},s₁.heap.Ns b m→(hidT s₁.heap H).Ns b m:=fun {b m} ⟨o,es,ep,e,d,r⟩=>⟨o,es,ep,base_of e (noA e d),d,r⟩
  have hKb:K.In (hidT s₁.heap H):=fun b o e=>base_of (KX b o e) (by
   cases q:H b with
   | none=>rfl
   | some u=>
     have e':b=a:=hA b (by rw [q];simp)
     subst e'
     rw [hK (by rw [q];simp)] at e;cases e)
  have hM:Mod K mg (hidT s₁.heap H):=⟨hKb,nsK hns,⟨mb,nsK hb,hbb⟩,let ⟨mc,h1,h2⟩:=hlim;⟨mc,nsK h1,h2⟩⟩
  have e0:Env0 P w K mg (hidT s₁.heap H) callerA [] s₁ H:=⟨rfl,hM,fun b o e=>of_hidT e,Nat.le_of_eq (hidT_size _ _),trivial,fun b hb=>absurd (show b∈([]:List Addr) from hb) (by simp),hok,.of_eq hg⟩
  refine codeAny_mono ((F _ hKb (nsK hns)).run callerA [] s₁ H ⟨[.ref a],[]⟩ [.ref a] [.ref a] _ _ hr e0 (hbind s₁ (.ref a)) (.cons rfl .nil) (hsp H hO hS)) fun r s' h=> ?_
  cases r with
  | error e=>exact (hCX H e s' h).elim
  | ok fl=>
    cases fl with
    | next=>exact False.elim h
    | brk=>exact False.elim h
    | cont=>exact False.elim h
    | ret u=>
      obtain ⟨v,H',os,bare,un,hok',r',q⟩:=h
      have q':v= .bl true:=q
      subst q'
      obtain rfl:u=Value.bool true:=r'
      refine ⟨rfl,OldK.of_keep fun b o e=> ?_,os,bare⟩
      cases q:H b with
      | none=>exact un.keep b o e q (by intro z;exact absurd (show b∈([]:List Addr) from z) (by simp)) (by simp)
      | some u=>
        rcases hO b with z | ⟨ob,xs,z⟩
        · rw [q] at z;cases z
        · have z2:=un.frzs b ob _ z
          obtain ⟨e1,_⟩:=hok b _ z
          obtain ⟨e2,_⟩:=hok' b _ z2
          rw [e] at e1;cases e1
          exact e2
 cases hk:K.lookup a with
 | some o=>
   have e:=KX a o hk
   rw [ha] at e
   cases e
   refine core (fun q_=>none) (fun q_=> .inl rfl) (.inr ⟨_,vs.toArray,_,hk,rfl,rfl,rfl,by rw [List.size_toArray,lenV];exact hl,by simpa using rv⟩) (fun b u z=>by have z':(none:Option HO)=some u:=z;cases z') (fun b z=>absurd rfl z) fun z=>absurd rfl z
 | none=>
   refine core (fun b=>if b=a then some (.frz {cls:= .type "list",data:= .seq vs.toArray} (.lst (ns.map V.int))) else none) (fun b=> ?_) (.inl (.inr ⟨{cls:= .type "list",data:= .seq vs.toArray},if_pos rfl⟩)) (fun b u z=> ?_) (fun b z=> ?_) fun q_=>hk
   · by_cases hb:b=a
     · exact .inr ⟨_,_,if_pos hb⟩
     · exact .inl (if_neg hb)
   · by_cases hb:b=a
     · have z':=(if_pos hb).symm.trans z
       cases z'
       subst hb
       exact ⟨ha,by rw [List.length_map];exact hl,vs,_,rv,ha⟩
     · have z':=(if_neg hb).symm.trans z
       cases z'
   · by_cases hb:b=a
     · exact hb
     · exact absurd (if_neg hb) z
end L2
namespace L2
open PySem PySem.Spec PyProof.Rows
theorem walk_of {l:PySem.W.OpenLaw} {n k:Nat} {q:Program} {loose:List Str} {XP:(Str→Option Value)→Heap→Prop} {YP:World→Heap→Prop} {d:DefRec} {K:Params→PySem.W.Frag} {CX:World→CXT} {sp:World→Sp} {x:Str}
 (hn:l.most=some n) (hn2:n≤sizeLine) (hdf:d.params.defaults=[]) (hr:Room k callerA)
 (hY: ∀(w:World) (h:Heap),YP w h→(K w.params).In h)
 (F: ∀(w:World) (mg:Str→Option Value) (fa:Addr) (h:Heap),(K w.params).In h→h.Ns mainGlobals mg→mg d.name=some (.ref fa)→
   ∃fd:FuncData,(∀ (s:Shared) (u:Value),BindsTo s fd ⟨[u],[]⟩ [(x,u)])∧
    ∀base:Heap,(K w.params).In base→base.Ns mainGlobals mg→FnOk l.prog w (K w.params) mg base (CX w) k fa fd [x] (sp w))
 (hsp: ∀(w:World) (H:Hp) (a:Addr) (ns:List Int),ns.length≤n→Only H→SqL (K w.params) H a (ns.map V.int)→sp w [.ref a] H (fun v q_=>v= .bl true) fun q_ q_ q_=>False)
 (hCX: ∀(w:World) (H:Hp) (s:Shared) (e:Value) (s':Shared),CX w [] H s (fun q_ q_ q_=>False) e s'→False):
 PySem.W.WalkO q loose XP YP l.row.toRowW d [] (fun f vs=>PySem.call f vs):=by
 refine Att.attach_call hn hdf fun w s₀ s₁ mg mb fa o pm cd doc a vs ns G Y ho hd hcd hmg hobj hints hlen hg=> ?_
 have KX:=hY w _ Y
 obtain ⟨fd,hb,hF⟩:=F w mg fa _ KX G.T.g hmg
 exact law_call KX G.T.g G.T.b G.T.builtins G.T.nolimit hg hobj hints (Nat.le_trans hlen hn2) hr hF hb (fun H hO hS=>hsp w H a ns hlen hO hS) fun H e s'=>hCX w H s₁ e s'
end L2
namespace L2
open PySem PySem.Spec PyProof.Rows
noncomputable def defArgs (s:Stmt):Arguments:=match s with
 | .FunctionDef _ a _ _ _ _ _ _ _ _=>a
 | _=>{posonlyargs:=[],args:=[],vararg:=none,kwonlyargs:=[],kw_defaults:=[],kwarg:=none,defaults:=[]}
noncomputable def defBody (s:Stmt):List Stmt:=match s with
 | .FunctionDef _ _ b _ _ _ _ _ _ _=>b
 | _=>[]
noncomputable def defScope (s:Stmt):Scope:=match s with
 | .FunctionDef _ _ _ _ _ _ sc _ _ _=>sc
 | _=>{kind:= .function,names:=[],isGenerator:=false,isCoroutine:=false}
noncomputable abbrev CX0:CXT:=fun q_ q_ q_ q_ q_ q_=>False
noncomputable abbrev E0:XK:=fun q_ q_ q_=>False
theorem pass0 {X:Cx}:Passes CX0 X E0:=fun q_ q_ q_ q_ q_ q_ q_ h=>h.elim
structure Fun (K:PySem.W.Frag) (x qual:Str) (st:Stmt) (f:Addr) (fd:FuncData):Prop where
 ex: ∃(oc:Value) (od:Option Addr) (kV doc pm:Value) (an:Option Addr) (cdv ct:Value) (osl:Array (Option Value)),
  fd=PySem.W.fnOf x qual (defArgs st) (defBody st) (defScope st) .none kV doc pm an cdv ct∧K.lookup f=some ⟨oc,od,.func fd,osl⟩∧PySem.W.codeIn K cdv qual=true
 kp:PySem.W.keepIn K (.ref f)=true
section
variable {P:Program} {w:World} {K:PySem.W.Frag} {mg:Str→Option Value} {base:Heap}
theorem Fun.ok {x qual:Str} {st:Stmt} {f:Addr} {fd:FuncData} {N ps:List Str} {k:Nat} {sp:Sp} (F:Fun K x qual st f fd) (S:FnScope N ps (defScope st)) (len: ∀vs H Q E,sp vs H Q E→vs.length=ps.length)
 (hbody: ∀(cdv:Value) (A:Around) (outer:List Env) (s:Shared) (H:Hp) (vs:List V) (Q:VK) (E:XK),Room k (A.deeper (envOfC qual (defScope st) s.heap.objs.size f cdv))→sp vs H Q E→
   ∃t,PSs (cxOf CX0 P w K mg base N qual (defScope st) f cdv A outer s H E).nox (defBody st) t∧t {nx:=fun q_ H'=>Q .non H',rt:=Q} (start N vs) H):FnOk P w K mg base CX0 (k + 1) f fd ps sp:=by
 obtain ⟨oc,od,kV,doc,pm,an,cdv,ct,osl,rfl,lk,hcd⟩:=F.ex
 refine fn_of lk hcd S len fun A outer s H vs Q E hr hsp=> ?_
 obtain ⟨t,h,q⟩:=hbody cdv A outer s H vs Q E hr hsp
 exact ⟨t,h.nox,q⟩
theorem Fun.binds {x qual:Str} {st:Stmt} {f:Addr} {fd:FuncData} {ps:List Str} (F:Fun K x qual st f fd)
 (h: ∀(kV doc pm:Value) (an:Option Addr) (cdv ct:Value) (us:List Value),us.length=ps.length→bindArgs (PySem.W.fnOf x qual (defArgs st) (defBody st) (defScope st) .none kV doc pm an cdv ct) ⟨us,[]⟩=pure (ps.zip us)):Binds K fd ps []:=by
 obtain ⟨oc,od,kV,doc,pm,an,cdv,ct,osl,rfl,lk,hcd⟩:=F.ex
 exact .all (h kV doc pm an cdv ct)
theorem fun_mk {x qual:Str} {st:Stmt} {f:Addr} {oc:Value} {od an:Option Addr} {osl:Array (Option Value)} {kV doc pm cdv ct:Value} (l:K.lookup f=some ⟨oc,od,.func (PySem.W.fnOf x qual (defArgs st) (defBody st) (defScope st) .none kV doc pm an cdv ct),osl⟩)
 (c:PySem.W.codeIn K cdv qual=true) (k:PySem.W.keepIn K (.ref f)=true):Fun K x qual st f (PySem.W.fnOf x qual (defArgs st) (defBody st) (defScope st) .none kV doc pm an cdv ct):=⟨⟨oc,od,kV,doc,pm,an,cdv,ct,osl,rfl,l,c⟩,k⟩
end
section
variable {X:Cx}
theorem pv (i:Nat) {x:Str} {pos:Pos} (hN:autoParam (X.N[i]?=some x) u5._auto_1) (hv:autoParam (Vis X.env.scope x) u7._auto_1) (hd:autoParam ((x == ("__debug__":Str))=false) u2._auto_1)
 (hcd:autoParam ((x == ("__classdict__":Str))=false) u2._auto_1):PE X (.Name x pos) (tVar i):=pe_var hN hv hd hcd
end
theorem ite2 {c A B:Prop} [Decidable c] (h1:c→A) (h2: ¬c→B):if c then A else B:=by
 by_cases h:c
 · rw [if_pos h]
   exact h1 h
 · rw [if_neg h]
   exact h2 h
noncomputable def Same (H H':Hp):Prop:=∀b o,H b=some o→H' b=some o
theorem Same.refl (H:Hp):Same H H:=fun q_ q_ h=>h
theorem Same.trans {H H1 H2:Hp} (a:Same H H1) (b:Same H1 H2):Same H H2:=fun c o h=>b c o (a c o h)
theorem Same.free {H H':Hp} (e:Same H H') {l:Addr} (h:H' l=Option.none):H l=Option.none:=by
 cases q:H l with
 | none=>rfl
 | some o=>
   rw [e l o q] at h
   cases h
theorem Same.seq {K:PySem.W.Frag} {H H':Hp} {a:Addr} {xs:List V} (e:Same H H') (h:SqL K H a xs):SqL K H' a xs:=by
 rcases h with (h | ⟨o,h⟩) | h
 · exact .inl (.inl (e _ _ h))
 · exact .inl (.inr ⟨o,e _ _ h⟩)
 · exact .inr h
section
variable {κ:Type} [DecidableEq κ]
end
end L2
set_option Elab.async false
set_option linter.all false
set_option maxRecDepth 100000
namespace L2
open PySem PySem.Spec PyProof.Rows
noncomputable def closOf (env:Env):List (Str×NameKind)→List (Str×Addr)→List (Str×Addr)
 | [],acc=>acc
 | (n,k)::r,acc=>if (k == NameKind.free)=true then closOf env r ((n,(env.cells.lookup n).getD 0)::acc) else closOf env r acc
theorem forIn_clos {env:Env} (f:Str×NameKind→List (Str×Addr)→Sem (ForInStep (List (Str×Addr))))
 (hf: ∀name kind cs,f (name,kind) cs=if (kind == NameKind.free)=true then (cellOf env name >>= fun a=>pure (.yield ((name,a)::cs))) else pure (.yield cs)):
 ∀(names:List (Str×NameKind)) (acc:List (Str×Addr)),(∀ x∈names,x.2= .free→∃c,env.cells.lookup x.1=some c)→forIn names acc f=pure (closOf env names acc)
 | [],acc,_=>by rw [List.forIn_nil];rfl
 | (n,k)::r,acc,h=>by
   have hr: ∀x∈r,x.2= .free→∃c,env.cells.lookup x.1=some c:=fun x hx=>h x (List.mem_cons_of_mem _ hx)
   rw [List.forIn_cons,hf]
   unfold closOf
   by_cases hk:(k == NameKind.free)=true
   · rw [if_pos hk,if_pos hk]
     obtain ⟨c,e⟩:=h (n,k) List.mem_cons_self (by simpa using hk)
     have e:env.cells.lookup n=some c:=e
     have e1:cellOf env n=pure c:=by unfold cellOf;rw [e]
     rw [e1,e]
     exact forIn_clos f hf r _ hr
   · rw [if_neg hk,if_neg hk]
     exact forIn_clos f hf r _ hr
theorem closureFor_of {env:Env} {scope:Scope} (h: ∀x∈scope.names,x.2= .free→∃c,env.cells.lookup x.1=some c):closureFor scope env=pure (closOf env scope.names []):=by
 simp only [closureFor]
 rw [forIn_clos (env:=env) _ (fun name kind cs=> ?_) scope.names [] h]
 · rfl
 · cases hk:kind == NameKind.free <;> simp [hk]
set_option tactic.hygienic true in
theorem closOf_mem {env:Env}: ∀{names:List (Str×NameKind)} {acc:List (Str×Addr)} {p:Str×Addr},p∈closOf env names acc→p∈acc∨(p.1,NameKind.free)∈names∧p.2=(env.cells.lookup p.1).getD 0
 | [],_,_,h=> .inl h
 | (n,k)::r,acc,p,h=>by
   unfold closOf at h
   split at h
   · rename_i hk
     rcases closOf_mem h with q | ⟨q1,q2⟩
     · rcases List.mem_cons.mp q with rfl | q
       · exact .inr ⟨by rw [beq_iff_eq.mp hk];exact List.mem_cons_self,rfl⟩
       · exact .inl q
     · exact .inr ⟨List.mem_cons_of_mem _ q1,q2⟩
   · rcases closOf_mem h with q | ⟨q1,q2⟩
     · exact .inl q
     · exact .inr ⟨List.mem_cons_of_mem _ q1,q2⟩
theorem closOf_keep {env:Env} {x:Str}: ∀{names:List (Str×NameKind)} {acc:List (Str×Addr)},acc.lookup x=some ((env.cells.lookup x).getD 0)→(closOf env names acc).lookup x=some ((env.cells.lookup x).getD 0)
 | [],_,h=>h
 | (n,k)::r,acc,h=>by
   unfold closOf
   split
   · refine closOf_keep ?_
     rw [List.lookup_cons]
     cases hb:x == n with
     | true=>
       have e:=beq_iff_eq.mp hb
       subst e
       rfl
     | false=>exact h
   · exact closOf_keep h
theorem closOf_look {env:Env} {x:Str}: ∀{names:List (Str×NameKind)} {acc:List (Str×Addr)},names.lookup x=some .free→(closOf env names acc).lookup x=some ((env.cells.lookup x).getD 0)
 | [],_,h=>by cases h
 | (n,k)::r,acc,h=>by
   rw [List.lookup_cons] at h
   unfold closOf
   cases hb:x == n with
   | true=>
     rw [hb] at h
     have e:=beq_iff_eq.mp hb
     subst e
     have h:k=NameKind.free:=Option.some.inj h
     subst h
     rw [if_pos (by rfl)]
     refine closOf_keep ?_
     rw [List.lookup_cons,hb]
   | false=>
     rw [hb] at h
     split
     · exact closOf_look h
     · exact closOf_look h
noncomputable def InjL (cs:List (Str×Addr)):Prop:=∀p∈cs,∀q∈cs,p.2=q.2→p.1=q.1
theorem cellsFrom_inj: ∀{names:List (Str×NameKind)} {n:Nat} {acc:List (Str×Addr)},(∀ p∈acc,p.2 < n)→InjL acc→InjL (cellsFrom n names acc)
 | [],_,_,_,h=>h
 | (nm,k)::r,n,acc,hl,h=>by
   unfold cellsFrom
   split
   · refine cellsFrom_inj (fun p hp=> ?_) fun p hp q hq e=> ?_
     · rcases List.mem_cons.mp hp with rfl | hp
       · exact Nat.lt_succ_self _
       · exact Nat.lt_succ_of_lt (hl p hp)
     · rcases List.mem_cons.mp hp with rfl | hp <;> rcases List.mem_cons.mp hq with rfl | hq
       · rfl
       · have e:n=q.2:=e
         exact absurd (hl q hq) (by rw [← e];exact Nat.lt_irrefl _)
       · have e:p.2=n:=e
         exact absurd (hl p hp) (by rw [e];exact Nat.lt_irrefl _)
       · exact h p hp q hq e
   · exact cellsFrom_inj hl h
theorem cellsFrom_old: ∀{names:List (Str×NameKind)} {n:Nat} {acc:List (Str×Addr)} {p:Str×Addr},p∈cellsFrom n names acc→p∈acc∨n≤p.2
 | [],_,_,_,h=> .inl h
 | (nm,k)::r,n,acc,p,h=>by
   unfold cellsFrom at h
   split at h
   · rcases cellsFrom_old h with q | q
     · rcases List.mem_cons.mp q with rfl | q
       · exact .inr (Nat.le_refl _)
       · exact .inl q
     · exact .inr (by lia)
   · exact cellsFrom_old h
set_option tactic.hygienic true in
theorem cellsFrom_isCell: ∀{names:List (Str×NameKind)} {h:Heap} {acc:List (Str×Addr)},(∀ p∈acc,∃v,h.IsCell p.2 v)→∀p∈cellsFrom h.objs.size names acc,∃v,(pushCells h names).IsCell p.2 v
 | [],_,_,h,p,hp=>h p hp
 | (nm,k)::r,h,acc,ha,p,hp=>by
   unfold cellsFrom at hp
   unfold pushCells
   split
   · rename_i hk
     rw [if_pos hk] at hp
     have e:h.objs.size + 1=(h.push {cls:= .type "cell",data:= .cell none}).objs.size:=(Heap.size_push ..).symm
     rw [e] at hp
     refine cellsFrom_isCell (fun q hq=> ?_) p hp
     rcases List.mem_cons.mp hq with rfl | hq
     · exact ⟨none,_,Heap.get?_push_size _ rfl,rfl⟩
     · obtain ⟨v,z⟩:=ha q hq
       exact ⟨v,z.keeps fun b o e=>Heap.get?_push_of_some _ e⟩
   · rename_i hk
     rw [if_neg hk] at hp
     exact cellsFrom_isCell ha p hp
theorem cellsFrom_new {x:Str} {c:Addr} {lo:Nat}: ∀{names:List (Str×NameKind)} {n:Nat} {acc:List (Str×Addr)},lo≤n→(names.lookup x=some .cell∨∀c',acc.lookup x=some c'→lo≤c')→
 (cellsFrom n names acc).lookup x=some c→lo≤c
 | [],_,_,_,h,e=>by
   rcases h with h | h
   · cases h
   · exact h c e
 | (y,k)::r,n,acc,hn,h,e=>by
   unfold cellsFrom at e
   by_cases hk:(k == NameKind.cell)=true
   · rw [if_pos hk] at e
     refine cellsFrom_new (Nat.le_succ_of_le hn) ?_ e
     cases hb:x == y with
     | true=>
       refine .inr fun c' e'=> ?_
       rw [List.lookup_cons,hb] at e'
       have e':n=c':=Option.some.inj e'
       lia
     | false=>
       rcases h with h | h
       · rw [List.lookup_cons,hb] at h
         exact .inl h
       · refine .inr fun c' e'=> ?_
         rw [List.lookup_cons,hb] at e'
         exact h c' e'
   · rw [if_neg hk] at e
     refine cellsFrom_new hn ?_ e
     rcases h with h | h
     · rw [List.lookup_cons] at h
       cases hb:x == y with
       | true=>
         rw [hb] at h
         have h:k=NameKind.cell:=Option.some.inj h
         subst h
         exact absurd rfl hk
       | false=>
         rw [hb] at h
         exact .inl h
     · exact .inr h
theorem cellsFrom_other {x:Str}: ∀{names:List (Str×NameKind)} {n:Nat} {acc:List (Str×Addr)},(names.all fun p=>p.1 != x || p.2 != NameKind.cell)=true→(cellsFrom n names acc).lookup x=acc.lookup x
 | [],_,_,_=>rfl
 | (y,k)::r,n,acc,h=>by
   rw [List.all_cons,Bool.and_eq_true] at h
   unfold cellsFrom
   by_cases hk:(k == NameKind.cell)=true
   · rw [if_pos hk,cellsFrom_other h.2,List.lookup_cons]
     have h1:(y != x)=true:=by
      have:=h.1
      rw [Bool.or_eq_true] at this
      rcases this with z | z
      · exact z
      · rw [bne,hk] at z
        cases z
     have hb:(x == y)=false:=by
      cases q:x == y with
      | false=>rfl
      | true=>
        have e:=beq_iff_eq.mp q
        subst e
        rw [bne_self_eq_false] at h1
        cases h1
     rw [hb]
   · rw [if_neg hk]
     exact cellsFrom_other h.2
theorem newEnv_block {M:Model} {A:Around} {E:Value→Shared→Prop} {s:Shared} {scope:Scope} {globals:Addr} {cl:List (Str×Addr)} {qual:Str} {env:Env} {Q:Env→Shared→Prop}
 (h:Q {scope:=scope,locals:=s.heap.objs.size,globals:=globals,cells:=cellsFrom (s.heap.objs.size + 1) scope.names cl,qual:=qual,func:=none,code:=env.code,frame:=env.frame,builtins:=env.builtins}
   {s with heap:=pushCells (s.heap.push {cls:= .type "dict",data:= .dict #[]}) scope.names}):
 wpAny M A (newFunctionEnv scope globals cl [] qual none .none (some env)) Q E s:=by
 simp only [newFunctionEnv,Option.isSome_some,if_true]
 refine wpAny_bind (wpAny_alloc ?_)
 refine wpAny_bind (wpAny_layCells _ (fun name kind cells=>by cases hkc:kind == NameKind.cell <;> simp [hkc]) _ _ _ _ ?_)
 rw [show ({s with heap:=s.heap.push {cls:= .type "dict",data:= .dict #[]}}:Shared).heap.objs.size=s.heap.objs.size + 1 from Heap.size_push ..]
 refine wpAny_bind ?_
 rw [List.forIn_nil]
 exact wpAny_pure (wpAny_pure h)
inductive Caps (X:Cx) (scope:Scope):List Str→List (Option Nat)→Prop where
 | nil:Caps X scope [] []
 | own {x:Str} {N:List Str} {js:List (Option Nat)} (r:Caps X scope N js):Caps X scope (x::N) (none::js)
 | cap {x:Str} {N:List Str} {js:List (Option Nat)} (j:Nat) (h1:X.N[j]?=some x) (h2:scope.names.lookup x=some .free) (h3:(scope.names.all fun p=>p.1 != x || p.2 != NameKind.cell)=true)
    (r:Caps X scope N js):Caps X scope (x::N) (some j::js)
noncomputable def capSt (σ:St) (js:List (Option Nat)):St:=js.map fun (o:Option Nat)=>o.bind fun (j:Nat)=>(σ[j]?).join
theorem Caps.len {X:Cx} {scope:Scope}: ∀{N:List Str} {js:List (Option Nat)},Caps X scope N js→js.length=N.length
 | _,_,.nil=>rfl
 | _,_,.own r=>congrArg (· + 1) r.len
 | _,_,.cap _ _ _ _ r=>congrArg (· + 1) r.len
theorem Caps.get {X:Cx} {scope:Scope} {σ:St}: ∀{N:List Str} {js:List (Option Nat)} {i:Nat} {x:Str} {v:V},Caps X scope N js→N[i]?=some x→(capSt σ js)[i]?=some (some v)→
 ∃j:Nat,X.N[j]?=some x∧σ[j]?=some (some v)∧scope.names.lookup x=some .free∧(scope.names.all fun p=>p.1 != x || p.2 != NameKind.cell)=true
 | _,_,_,_,_,.nil,h,_=>by simp at h
 | _,_,0,_,_,.own r,_,h2=>by simp [capSt] at h2
 | _,_,i + 1,_,_,.own r,h1,h2=>Caps.get (i:=i) r (by simpa using h1) (by simpa [capSt] using h2)
 | _,_,0,x,v,.cap j a b c r,h1,h2=>by
   simp only [List.getElem?_cons_zero,Option.some.injEq] at h1
   subst h1
   refine ⟨j,a,?_,b,c⟩
   simp only [capSt,List.map_cons,List.getElem?_cons_zero,Option.some.injEq,Option.bind_some] at h2
   cases e:σ[j]? with
   | none=>rw [e] at h2;cases h2
   | some z=>rw [e] at h2;rw [show z=some v from h2]
 | _,_,i + 1,_,_,.cap _ _ _ _ r,h1,h2=>Caps.get (i:=i) r (by simpa using h1) (by simpa [capSt] using h2)
noncomputable def cxComp (X:Cx) (scope:Scope) (N':List Str) (s:Shared) (H:Hp) (fp:List Addr):Cx where
 prog:=X.prog
 w:=X.w
 K:=X.K
 mg:=X.mg
 base:=X.base
 A:=X.A
 N:=N'
 s₀:=s
 H₀:=H
 env:={scope:=relabel scope X.env,locals:=s.heap.objs.size,globals:=X.env.globals,cells:=cellsFrom (s.heap.objs.size + 1) scope.names (closOf X.env scope.names []),qual:=X.env.qual,func:=none,code:=X.env.code,frame:=X.env.frame,builtins:=X.env.builtins}
 outer:=X.stack
 stack:=X.stack
 ex:=fp
 fn:=fun x=>decide (scope.names.lookup x=some .cell)
 calm:=X.calm
 pn:=[]
 xe:=fun q_ q_=>False
theorem relabel_look {scope:Scope} {env:Env} {x:Str} {k':NameKind}: ∀{names:List (Str×NameKind)},
 (names.map fun (p:Str×NameKind)=>if (p.2 == NameKind.free && env.scope.kind == .function && env.kindOf p.1 == some .cell)=true then (p.1,NameKind.cell) else (p.1,p.2)).lookup x=some k'→
 ∃k,names.lookup x=some k∧(k'=k∨(k= .free∧k'= .cell))
 | [],h=>by cases h
 | (n,k)::r,h=>by
   rw [List.map_cons,List.lookup_cons] at h
   rw [List.lookup_cons]
   by_cases hc:(k == NameKind.free && env.scope.kind == .function && env.kindOf n == some .cell)=true
   · rw [if_pos hc] at h
     cases hb:x == n with
     | true=>
       rw [hb] at h
       rw [Bool.and_eq_true,Bool.and_eq_true] at hc
       exact ⟨k,rfl,.inr ⟨beq_iff_eq.mp hc.1.1,(Option.some.inj h).symm⟩⟩
     | false=>
       rw [hb] at h
       exact relabel_look (scope:=scope) h
   · rw [if_neg hc] at h
     cases hb:x == n with
     | true=>
       rw [hb] at h
       exact ⟨k,rfl,.inl (Option.some.inj h).symm⟩
     | false=>
       rw [hb] at h
       exact relabel_look (scope:=scope) h
theorem relabel_vis {env:Env} {x:Str}: ∀{names:List (Str×NameKind)},names.lookup x=some .free→
 (names.map fun (p:Str×NameKind)=>if (p.2 == NameKind.free && env.scope.kind == .function && env.kindOf p.1 == some .cell)=true then (p.1,NameKind.cell) else (p.1,p.2)).lookup x=some .cell∨
 (names.map fun (p:Str×NameKind)=>if (p.2 == NameKind.free && env.scope.kind == .function && env.kindOf p.1 == some .cell)=true then (p.1,NameKind.cell) else (p.1,p.2)).lookup x=some .free
 | [],h=>by cases h
 | (n,k)::r,h=>by
   rw [List.lookup_cons] at h
   rw [List.map_cons,List.lookup_cons]
   by_cases hc:(k == NameKind.free && env.scope.kind == .function && env.kindOf n == some .cell)=true
   · rw [if_pos hc]
     cases hb:x == n with
     | true=>exact .inl rfl
     | false=>
       rw [hb] at h
       exact relabel_vis h
   · rw [if_neg hc]
     cases hb:x == n with
     | true=>
       rw [hb] at h
       exact .inr h
     | false=>
       rw [hb] at h
       exact relabel_vis h
section
variable {X:Cx} {scope:Scope} {N':List Str} {js:List (Option Nat)} {pins:List (Addr×Obj)} {σ:St} {H:Hp} {s:Shared} {fp:List Addr}
theorem inv_block (caps:Caps X scope N' js) (hkind:scope.kind= .function) (hfree: ∀x∈scope.names,x.2= .free→X.env.kindOf x.1=some .cell∨X.env.kindOf x.1=some .free)
 (I:Inv X pins σ H s) (hfp: ∀b∈fp,FpOk X pins H b) (hfo: ∀b∈fp,b < s.heap.objs.size):
 Inv (cxComp X scope N' s H fp) [] (capSt σ js) H {s with heap:=pushCells (s.heap.push {cls:= .type "dict",data:= .dict #[]}) scope.names}:=by
 have keeps: ∀b u,s.heap.get? b=some u→(pushCells (s.heap.push {cls:= .type "dict",data:= .dict #[]}) scope.names).get? b=some u:=fun b u e=>pushCells_keeps _ _ b u (Heap.get?_push_of_some _ e)
 have hlk: ∀x,scope.names.lookup x=some .free→∃c,X.env.cells.lookup x=some c:=fun x e=>I.ok.has x (hfree (x,.free) (PySem.mem_of_lookup e) rfl)
 have clo: ∀p∈closOf X.env scope.names [],X.env.cells.lookup p.1=some p.2:=fun p hp=>by
  rcases closOf_mem hp with z | ⟨z1,z2⟩
  · cases z
  · obtain ⟨c,e⟩:=I.ok.has p.1 (hfree (p.1,.free) z1 rfl)
    rw [z2,e]
    rfl
 have cls: ∀x c,(cxComp X scope N' s H fp).env.cells.lookup x=some c→X.env.cells.lookup x=some c∨s.heap.objs.size + 1≤c:=fun x c e=>by
  have m:(x,c)∈cellsFrom (s.heap.objs.size + 1) scope.names (closOf X.env scope.names []):=PySem.mem_of_lookup e
  rcases cellsFrom_old m with z | z
  · exact .inl (clo _ z)
  · exact .inr z
 have hsz:(s.heap.push {cls:= .type "dict",data:= .dict #[]}).objs.size=s.heap.objs.size + 1:=Heap.size_push ..
 have oldlt: ∀x c,X.env.cells.lookup x=some c→c < s.heap.objs.size:=fun x c e=>by
  obtain ⟨v,z⟩:=I.cell x c e
  exact z.lt
 have cellsIs: ∀p∈cellsFrom (s.heap.objs.size + 1) scope.names (closOf X.env scope.names []),∃v,(pushCells (s.heap.push {cls:= .type "dict",data:= .dict #[]}) scope.names).IsCell p.2 v:=by
  rw [← hsz]
  refine cellsFrom_isCell fun p hp=> ?_
  obtain ⟨v,z⟩:=I.cell _ _ (clo p hp)
  exact ⟨v,z.keeps fun b o e=>Heap.get?_push_of_some _ e⟩
 have hinj:InjL (cellsFrom (s.heap.objs.size + 1) scope.names (closOf X.env scope.names [])):=by
  refine cellsFrom_inj (fun p hp=>Nat.lt_succ_of_lt (oldlt _ _ (clo p hp))) fun p hp q hq e=> ?_
  have e1:=clo p hp
  have e2:=clo q hq
  rw [← e] at e2
  exact I.ok.inj _ _ _ e1 e2
 refine ⟨⟨I.ok.mod,hkind,I.ok.glob,I.ok.blt,Nat.le_refl _,fun x y c h1 h2=> ?_,fun x hx=> ?_,fun x c hf h=> ?_,I.ok.hd,I.ok.frames,.inl rfl,fun b hb=> ?_,I.bs,Nat.le_trans I.ok.bsz I.sz,fun b o e hb=> ?_,fun b hb hf=> ?_,I.stack,I.stkFree⟩,
  rfl,I.bare,Un.kept keeps,⟨fun q_=>none,(Heap.Ns.new s.heap (.type "dict")).keeps (pushCells_keeps _ _),fun i x v h1 h2 h3=> ?_⟩,fun x c h=> ?_,I.hok.fresh (Nat.le_refl _),fun x c h=> ?_,fun p hp=>absurd (show p∈([]:List (Addr×Obj)) from hp) (by simp),I.hok.kept keeps,?_⟩
 · exact hinj (x,c) (PySem.mem_of_lookup h1) (y,c) (PySem.mem_of_lookup h2) rfl
 · have hx:(relabel scope X.env).names.lookup x=some .cell∨(relabel scope X.env).names.lookup x=some .free:=hx
   have key:scope.names.lookup x=some .cell∨scope.names.lookup x=some .free:=by
    rcases hx with hx | hx
    · obtain ⟨k,e,z⟩:=relabel_look (scope:=scope) (env:=X.env) hx
      rcases z with z | ⟨z,_⟩
      · exact .inl (by rw [e,z])
      · exact .inr (by rw [e,z])
    · obtain ⟨k,e,z⟩:=relabel_look (scope:=scope) (env:=X.env) hx
      rcases z with z | ⟨_,z⟩
      · exact .inr (by rw [e,z])
      · cases z
   have:((cellsFrom (s.heap.objs.size + 1) scope.names (closOf X.env scope.names [])).lookup x).isSome=true:=by
    rcases key with e | e
    · exact PySem.W.cellsFrom_some _ _ _ (.inl e)
    · exact PySem.W.cellsFrom_some _ _ _ (.inr (by rw [closOf_look e];rfl))
   exact Option.isSome_iff_exists.mp this
 · have hf:scope.names.lookup x=some .cell:=of_decide_eq_true hf
   exact Nat.le_of_succ_le (cellsFrom_new (lo:=s.heap.objs.size + 1) (Nat.le_refl _) (.inl hf) h)
 · refine ⟨Nat.ne_of_lt (hfo b hb),fun x c h z=> ?_⟩
   rcases cls x c h with e | e
   · exact (hfp b hb).2.2.2.2.1 x c e z
   · rw [z] at e
     exact absurd (hfo b hb) (Nat.not_lt.mpr (Nat.le_of_succ_le e))
 · rcases (hfp b hb).2.2.2.1 with z | z
   · exact I.ok.noex b o e z
   · exact absurd (Nat.lt_of_lt_of_le (Heap.lt_size e) I.ok.bsz) (Nat.not_lt.mpr z)
 · rcases List.mem_cons.mp (I.stkSub b hf) with z | z
   · exact (hfp b hb).2.1 z
   · exact (hfp b hb).2.2.1 z
 · obtain ⟨j,a1,a2,a3,a4⟩:=caps.get h1 h2
   have kx:=hfree (x,.free) (PySem.mem_of_lookup a3) rfl
   obtain ⟨m,hn,hl⟩:=I.loc
   have vis:Vis X.env.scope x:=by
    rcases kx with k | k
    · exact .inr (.inl k)
    · exact .inr (.inr k)
   obtain ⟨u,r,l⟩:=hl j x v a1 a2 vis
   refine ⟨u,r,.inr ⟨relabel_vis (env:=X.env) a3,?_⟩⟩
   rcases l with ⟨k,_⟩ | ⟨_,c,e,z⟩
   · rcases kx with k' | k'
     · rw [k] at k';cases k'
     · rw [k] at k';cases k'
   · refine ⟨c,?_,z.keeps keeps⟩
     show (cellsFrom (s.heap.objs.size + 1) scope.names (closOf X.env scope.names [])).lookup x=some c
     rw [cellsFrom_other a4,closOf_look a3,e]
     rfl
 · exact cellsIs (x,c) (PySem.mem_of_lookup h)
 · rcases cls x c h with e | e
   · exact I.freeC x c e
   · exact I.hok.fresh (by lia)
 · show (capSt σ js).length=N'.length
   unfold capSt
   rw [List.length_map,caps.len]
theorem Inv.unblock {pins':List (Addr×Obj)} {σ':St} {H':Hp} {s':Shared} {h':Heap} (I:Inv X pins σ H s) (hfp: ∀b∈fp,FpOk X pins H b) (I':Inv (cxComp X scope N' s H fp) pins' σ' H' s') (hs:Heap.SameBut s.heap.objs.size s'.heap h'):
 Inv X pins σ H' {s' with heap:=h'}:=by
 have ne: ∀b o,s.heap.get? b=some o→b≠s.heap.objs.size:=fun b o e=>Nat.ne_of_lt (Heap.lt_size e)
 have u:Un (frs X.stack) fp H H' s.heap h':=by
  refine ⟨fun b o e n hb hx=>(hs.2 b (ne b o e)).trans (I'.base.keep b o e n hb hx),fun b o e n hb hx=> ?_,I'.base.free,fun b o e hx=> ?_,I'.base.tups,I'.base.frzs,I'.base.tbls⟩
  · obtain ⟨sl,q⟩:=I'.base.slot b o e n hb hx
    exact ⟨sl,(hs.2 b (ne b o e)).trans q⟩
  · obtain ⟨o',q⟩:=I'.base.there b o e hx
    exact ⟨o',(hs.2 b (ne b o e)).trans q⟩
 have hf:H' s.heap.objs.size=none:=I'.free
 have hok:HOk X.prog X.w H' h':=fun a o e=>(I'.hok a o e).stay (fun c v hc q=>(hs.2 c (by
  rintro rfl
  rcases hc with z | z
  · rw [← z,hf] at e;cases e
  · rw [hf] at z;cases z)).trans q) (fun q_ q=>q) fun q_ q_ q=>q
 refine I.call' (s':={s' with heap:=h'}) (ch:=fp) I'.os u hok I'.bare fun b hb=> ?_
 obtain ⟨f0,f1,f2,f3,f4,f5⟩:=hfp b hb
 exact ⟨f3,f1,f4,f5⟩
noncomputable def PIf (X:Cx) (ifs:List Expr) (t:TT):Prop:=
 ∀(pins:List (Addr×Obj)) (s:Shared) (σ:St) (H:Hp) (Q:Bool→Hp→Prop),Inv X pins σ H s→t σ H Q→
  wpAny (model X.prog X.w) X.A (forIn ifs true fun c r=>if r=true then do let ok ← isTrue c X.env (eval c X.env);pure (ForInStep.yield ok) else pure (ForInStep.yield r)) (TP X pins σ Q) X.xe s
theorem pif_nil:PIf X [] (fun q_ H Q=>Q true H):=fun pins s σ H Q I h=>by
 rw [List.forIn_nil]
 exact wpAny_pure ⟨H,I,h⟩
theorem pif_one {c:Expr} {tc:TT} (hc:PT X c tc):PIf X [c] tc:=fun pins s σ H Q I h=>by
 rw [List.forIn_cons,if_pos rfl]
 refine wpAny_bind (wpAny_bind (thn (hc pins s σ H Q I h) fun b s1 q=>wpAny_pure ?_))
 show wpAny _ _ (forIn ([]:List Expr) b _) _ _ s1
 rw [List.forIn_nil]
 exact wpAny_pure q
noncomputable def lcTurn (J:It) (g:TG) (tc:TT) (te:TE) (Q:VK) (D:Addr) (W:Nat→Nat→St→List V→Hp→Prop):Prop:=
 ∀(i m:Nat) (σ1:St) (acc:List V) (H:Hp),W i m σ1 acc H→(J.stop i H∧Q (.ref D) H)∨
  (J.go i H∧∃N:St→List V→Hp→Prop,(∀ σ' acc' H',N σ' acc' H'→∃m',m' < m∧W (i + 1) m' σ' acc' H')∧
    ∀x H',J.yld i H x H'→g x σ1 H' fun σ2 H2=>tc σ2 H2 fun b H3=>if b=true then te σ2 H3 fun y H4=>H4 D=some (.lst acc)∧acc.length < sizeLine∧N σ2 (acc++[y]) (upd H4 D (.lst (acc++[y])))
     else N σ2 acc H3)
noncomputable def tLC (js:List (Option Nat)) (wi:TI) (g:TG) (tc:TT) (te:TE):TE:=fun σ H Q=>wi σ H fun J H1=>∀D,H1 D=none→∃W:Nat→Nat→St→List V→Hp→Prop,(∃ m,W 0 m (capSt σ js) [] (upd H1 D (.lst [])))∧lcTurn J g tc te Q D W
theorem block_run {elt tg iter:Expr} {ifs:List Expr} {pos:Pos} {g:TG} {tc:TT} {te:TE} {Q:VK} {R:Result→Shared→Prop} {it:Addr} {J:It} {tn:Nat→Heap→Prop} {D:Addr} {W:Nat→Nat→St→List V→Hp→Prop} {m0:Nat} {σ0:St} {s4:Shared} {H4:Hp}
 (hcalm:X.calm=true) (T:Turn X.prog X.w X.K tg J fp it tn)
 (hg:PG (cxComp X scope N' s H fp) tg g) (hc:PIf (cxComp X scope N' s H fp) ifs tc) (he:PE (cxComp X scope N' s H fp) elt te)
 (turn:lcTurn J g tc te Q D W)
 (I4:Inv (cxComp X scope N' s H fp) [] σ0 H4 s4) (st4:tn 0 s4.heap) (fr4: ∀b∈fp,H4 b=none) (w4:W 0 m0 σ0 [] H4)
 (fin: ∀σ' H' s',Inv (cxComp X scope N' s H fp) [] σ' H' s'→Q (.ref D) H'→R (.ok .next) s'):
 codeAny (model X.prog X.w) X.A (.compStart (.ListComp elt [⟨tg,iter,ifs,0⟩] scope pos) 0 (.ref it) (.ref D) (cxComp X scope N' s H fp).env) R s4:=by
 have loop:codeAny (model X.prog X.w) X.A (.compLoop (.ListComp elt [⟨tg,iter,ifs,0⟩] scope pos) 0 (.ref it) (.ref D) (cxComp X scope N' s H fp).env) R s4:=by
  have stat: ∀{H':Hp},(∀ b∈fp,H' b=none)→∀b∈fp,FpOk (cxComp X scope N' s H fp) [] H' b:=fun hn b hb=>
   ⟨hn b hb,(I4.ok.exf b hb).1,I4.ok.exfs b hb,.inl hb,(I4.ok.exf b hb).2,fun p hp=>absurd (show p∈([]:List (Addr×Obj)) from hp) (by simp)⟩
  refine codeAny_loop rfl (fun n s'=>∃i σ' acc H',Inv (cxComp X scope N' s H fp) [] σ' H' s'∧tn i s'.heap∧(∀ b∈fp,H' b=none)∧W i n σ' acc H') ?_ m0 ⟨0,σ0,[],H4,I4,st4,fr4,w4⟩
  rintro n s5 ⟨i,σ5,acc,H5,I5,st5,fr5,w5⟩
  show wpAny _ X.A ((compTurn (.ListComp elt [⟨tg,iter,ifs,0⟩] scope pos) 0 (.ref it) (.ref D) (cxComp X scope N' s H fp).env).onRaise (fun x=>do noteFrame x (cxComp X scope N' s H fp).env;theTreesLotGoes x)) _ _ s5
  refine wpAny_noted ?_
  rw [compTurn_list]
  have ex: ∀{E':Value→Shared→Prop} (e:Value) (s':Shared),(cxComp X scope N' s H fp).xe e s'→E' e s':=fun q_ q_ z=>False.elim z
  rcases turn i n σ5 acc H5 w5 with ⟨stop,q⟩ | ⟨go,N,hN,step⟩
  · refine wpAny_bind (wpAny_standAt (wpAny_bind (thn (T.done (cxComp X scope N' s H fp) rfl rfl rfl hcalm i [] s5 σ5 H5 _ I5 (stat fr5) st5 stop) fun r s6 ⟨hr,I6⟩=> ?_)))
    subst hr
    exact wpAny_pure (fin σ5 H5 s6 I6 q)
  · refine wpAny_bind (wpAny_standAt (wpAny_bind (thn (T.item (cxComp X scope N' s H fp) rfl rfl rfl hcalm i [] s5 σ5 H5 _ I5 (stat fr5) st5 go) fun r s6 ⟨u,hr,h6⟩=> ?_)))
    subst hr
    refine wpAny_bind (thn h6 fun _ s7 ⟨x,H7,I7,r7,y7,st7,fr7⟩=> ?_)
    have I7':=I7.pinned (stat fr7) (T.obj _ _ st7)
    refine wpAny_bind (wpAny_mono (hg _ s7 σ5 H7 x u _ I7' r7 (step x H7 y7)) (fun _ s8 ⟨σ8,H8,I8,q8⟩=> ?_) ex)
    refine wpAny_bind (wpAny_mono (hc _ s8 σ8 H8 _ I8 q8) (fun ok s9 ⟨H9,I9,q9⟩=> ?_) ex)
    have again: ∀{s':Shared} {σ':St} {H':Hp} {acc':List V},Inv (cxComp X scope N' s H fp) ([]++pinsAt fp s7.heap) σ' H' s'→N σ' acc' H'→
     ∃m,m < n∧∃i σ' acc H',Inv (cxComp X scope N' s H fp) [] σ' H' s'∧tn i s'.heap∧(∀ b∈fp,H' b=none)∧W i m σ' acc H':=fun {s' σ' H' acc'} J' n'=>by
     obtain ⟨m',hm,w'⟩:=hN σ' acc' H' n'
     refine ⟨m',hm,i + 1,σ',acc',H',J'.unpinned,T.keep _ _ _ st7 fun b hb o e=>(J'.pin (b,o) (List.mem_append_right _ (List.mem_append_right _ (mem_pinsAt hb e)))).1,fun b hb=> ?_,w'⟩
     obtain ⟨o,e,d⟩:=T.obj _ _ st7 b hb
     exact (J'.pin (b,o) (List.mem_append_right _ (List.mem_append_right _ (mem_pinsAt hb e)))).2.1
    cases ok with
    | false=>
      rw [if_neg Bool.false_ne_true] at q9
      exact wpAny_pure ⟨rfl,again I9 q9⟩
    | true=>
      rw [if_pos rfl] at q9
      refine wpAny_bind (wpAny_bind (wpAny_mono (he _ s9 σ8 H9 _ I9 q9) (fun y s10 ⟨yv,H10,I10,r10,hD,hz,q10⟩=> ?_) ex))
      refine wpAny_bind (wpAny_mono (mt_append (X:=cxComp X scope N' s H fp) _ s10 σ8 H10 (.ref D) [yv] (.ref D) [y] (fun q_ H11=>N σ8 (acc++[yv]) H11) I10 rfl (.cons r10 .nil) ⟨D,acc,yv,rfl,rfl,hD,hz,q10⟩) (fun _ s11 ⟨_,H11,I11,_,q11⟩=> ?_) ex)
      exact wpAny_pure (wpAny_pure ⟨rfl,again I11 q11⟩)
 exact codeAny_compStart_list loop (T.self _ 0 _ _ _ st4 loop)
theorem free_of {scope:Scope} {env:Env} (h:(scope.names.all fun p=>p.2 != NameKind.free || (env.scope.names.lookup p.1 == some .cell || env.scope.names.lookup p.1 == some .free))=true):
 ∀x∈scope.names,x.2= .free→env.kindOf x.1=some .cell∨env.kindOf x.1=some .free:=fun x hx e=>by
 have q:=List.all_eq_true.mp h x hx
 rw [e] at q
 have q:(env.scope.names.lookup x.1 == some NameKind.cell || env.scope.names.lookup x.1 == some NameKind.free)=true:=q
 rw [Bool.or_eq_true] at q
 rcases q with q | q
 · exact .inl (beq_iff_eq.mp q)
 · exact .inr (beq_iff_eq.mp q)
theorem local_of {scope:Scope} (h:(scope.names.all fun p=>p.2 != NameKind.local || scope.names.lookup p.1 == some .local)=true): ∀x∈scope.names,x.2= .local→scope.names.lookup x.1=some .local:=fun x hx e=>by
 have q:=List.all_eq_true.mp h x hx
 rw [e] at q
 have q:(scope.names.lookup x.1 == some NameKind.local)=true:=q
 exact beq_iff_eq.mp q
variable {elt tg iter:Expr} {ifs:List Expr} {pos:Pos} {wi:TI} {g:TG} {tc:TT} {te:TE}
theorem pe_lcomp (hcalm:X.calm=true) (caps:Caps X scope N' js) (hi:PI X tg iter wi)
 (hg: ∀s H fp,PG (cxComp X scope N' s H fp) tg g) (hc: ∀s H fp,PIf (cxComp X scope N' s H fp) ifs tc) (he: ∀s H fp,PE (cxComp X scope N' s H fp) elt te)
 (hfb:autoParam ((scope.names.all fun p=>p.2 != NameKind.free || (X.env.scope.names.lookup p.1 == some .cell || X.env.scope.names.lookup p.1 == some .free))=true) u5._auto_1)
 (hnb:autoParam ((scope.names.all fun p=>p.2 != NameKind.local || scope.names.lookup p.1 == some .local)=true) u5._auto_1)
 (hkind:autoParam (scope.kind= .function) u5._auto_1)
 (hs:autoParam (∀ x,foldedSetIterable iter X.env x=pure x) u4._auto_1):PE X (.ListComp elt [⟨tg,iter,ifs,0⟩] scope pos) (tLC js wi g tc te):=by
 intro pins s σ H Q I h
 have hfree:=free_of hfb
 have hnames:=local_of hnb
 rw [eval_ListComp]
 refine wpAny_comprehension_free (use:=none) (cl:=closOf X.env scope.names []) rfl hs (closureFor_of fun x hx e=>I.ok.has x.1 (hfree x hx e)) hkind hnames ?_
 refine thn (hi pins s σ H _ I h) fun v s1 h1=>thn h1 fun itv s2 h2=> ?_
 obtain ⟨it,fp,tn,J,H2,e,I2,T,st2,f2,q⟩:=h2
 subst e
 refine wpAny_newObj_type ?_
 have hD:H2 s2.heap.objs.size=none:=I2.hok.fresh (Nat.le_refl _)
 have I3:Inv X pins σ (upd H2 s2.heap.objs.size (.lst [])) {s2 with heap:=s2.heap.push {cls:= .type "list",data:= .seq ([]:List Value).toArray}}:=I2.lnew (t':=s2.toks) .nil (Nat.zero_le _)
 obtain ⟨W,⟨m0,w0⟩,turn⟩:=q s2.heap.objs.size hD
 have fo: ∀b∈fp,b < s2.heap.objs.size:=fun b hb=>by
  obtain ⟨o,e,_⟩:=T.obj _ _ st2 b hb
  exact Heap.lt_size e
 have f3: ∀b∈fp,FpOk X pins (upd H2 s2.heap.objs.size (.lst [])) b:=fun b hb=>⟨by rw [upd_ne (Nat.ne_of_lt (fo b hb))];exact (f2 b hb).1,(f2 b hb).2⟩
 have fo3: ∀b∈fp,b < (s2.heap.push {cls:= .type "list",data:= .seq ([]:List Value).toArray}).objs.size:=fun b hb=>by
  rw [Heap.size_push]
  exact Nat.lt_succ_of_lt (fo b hb)
 refine newEnv_block ?_
 have I4:=inv_block (fp:=fp) caps hkind hfree I3 f3 fo3
 refine block_run (fp:=fp) hcalm T (hg _ _ _) (hc _ _ _) (he _ _ _) turn I4 ?_ (fun b hb=>(f3 b hb).1) w0 ?_
 · refine T.keep _ _ _ st2 fun b hb o e=> ?_
   exact pushCells_keeps _ _ b o (Heap.get?_push_of_some _ (Heap.get?_push_of_some _ e))
 · intro σ' H' s' I' q'
   obtain ⟨m,hn,_⟩:=I'.loc
   exact ⟨m,hn,fun h' hs'=>⟨.ref s2.heap.objs.size,H',Inv.unblock I3 f3 I' hs',rfl,q'⟩⟩
theorem ps_setlc {i:Nat} {x:Str} {pos' spos:Pos} (hcalm:X.calm=true) (caps:Caps X scope N' js) (hi:PI X tg iter wi)
 (hg: ∀s H fp,PG (cxComp X scope N' s H fp) tg g) (hc: ∀s H fp,PIf (cxComp X scope N' s H fp) ifs tc) (he: ∀s H fp,PE (cxComp X scope N' s H fp) elt te)
 (hN:X.N.Nodup) (hix:X.N[i]?=some x) (hx:Loc X.env.scope x)
 (hfb:autoParam ((scope.names.all fun p=>p.2 != NameKind.free || (X.env.scope.names.lookup p.1 == some .cell || X.env.scope.names.lookup p.1 == some .free))=true) u5._auto_1)
 (hnb:autoParam ((scope.names.all fun p=>p.2 != NameKind.local || scope.names.lookup p.1 == some .local)=true) u5._auto_1)
 (hsw:autoParam (swapsWith (.ListComp elt [⟨tg,iter,ifs,0⟩] scope pos) (some (.Name x pos')) spos.line X.env=pure true) u5._auto_1)
 (hkind:autoParam (scope.kind= .function) u5._auto_1) (hs:autoParam (∀ x,foldedSetIterable iter X.env x=pure x) u4._auto_1)
 (hf:autoParam (X.fn x=true∨X.env.scope.names.lookup x=some .local) u1._auto_1):
 PS X (.Assign [.Name x pos'] (.ListComp elt [⟨tg,iter,ifs,0⟩] scope pos) spos) (tAsg (tLC js wi g tc te) (gName i)):=by
 intro pins s σ H E I h
 have hfree:=free_of hfb
 have hnames:=local_of hnb
 rw [exec_Assign_Name_used _ _ _ _ hsw]
 refine wpAny_bind (wpAny_standAt (wpAny_bind ?_))
 show wpAny _ X.A (do let _ ← comprehension (.ListComp elt [⟨tg,iter,ifs,0⟩] scope pos) scope X.env _ (newList []) false (eval iter X.env) (some (assign (.Name x pos') X.env))) _ _ s
 refine wpAny_bind (wpAny_mono (wpAny_comprehension_free (use:=some (assign (.Name x pos') X.env)) (Q:=fun q_ s'=>SP X pins E .next s') (cl:=closOf X.env scope.names []) rfl hs (closureFor_of fun x hx e=>I.ok.has x.1 (hfree x hx e)) hkind hnames ?_)
  (fun q_ s' hq=>wpAny_pure (wpAny_pure hq)) fun q_ q_ e=>e)
 have h:tLC js wi g tc te σ H (fun x H1=>E.nx (σ.set i (some x)) H1):=h
 refine thn (hi pins s σ H _ I h) fun v s1 h1=>thn h1 fun itv s2 h2=> ?_
 obtain ⟨it,fp,tn,J,H2,e,I2,T,st2,f2,q⟩:=h2
 subst e
 refine wpAny_newObj_type ?_
 have hD:H2 s2.heap.objs.size=none:=I2.hok.fresh (Nat.le_refl _)
 have I3:Inv X pins σ (upd H2 s2.heap.objs.size (.lst [])) {s2 with heap:=s2.heap.push {cls:= .type "list",data:= .seq ([]:List Value).toArray}}:=I2.lnew (t':=s2.toks) .nil (Nat.zero_le _)
 obtain ⟨W,⟨m0,w0⟩,turn⟩:=q s2.heap.objs.size hD
 have fo: ∀b∈fp,b < s2.heap.objs.size:=fun b hb=>by
  obtain ⟨o,e,_⟩:=T.obj _ _ st2 b hb
  exact Heap.lt_size e
 have f3: ∀b∈fp,FpOk X pins (upd H2 s2.heap.objs.size (.lst [])) b:=fun b hb=>⟨by rw [upd_ne (Nat.ne_of_lt (fo b hb))];exact (f2 b hb).1,(f2 b hb).2⟩
 have fo3: ∀b∈fp,b < (s2.heap.push {cls:= .type "list",data:= .seq ([]:List Value).toArray}).objs.size:=fun b hb=>by
  rw [Heap.size_push]
  exact Nat.lt_succ_of_lt (fo b hb)
 refine newEnv_block ?_
 have I4:=inv_block (fp:=fp) caps hkind hfree I3 f3 fo3
 refine block_run (fp:=fp) hcalm T (hg _ _ _) (hc _ _ _) (he _ _ _) turn I4 ?_ (fun b hb=>(f3 b hb).1) w0 ?_
 · refine T.keep _ _ _ st2 fun b hb o e=> ?_
   exact pushCells_keeps _ _ b o (Heap.get?_push_of_some _ (Heap.get?_push_of_some _ e))
 · intro σ' H' s' I' q'
   have I5:Inv X pins σ H' s':=Inv.unblock I3 f3 I' (Heap.SameBut.refl ..)
   obtain ⟨m,hn,_⟩:=I'.loc
   show wpAny _ X.A (assign (.Name x pos') X.env (.ref s2.heap.objs.size)) _ _ s'
   refine wpAny_assign_Name (store_ok2 I5 hN hix hx (v:= .ref s2.heap.objs.size) rfl (fun s6 I6 ⟨a,hsa,ha⟩=> ?_) hf)
   have lt: ∀b,b < s2.heap.objs.size + 1→b≠(s2.heap.push {cls:= .type "list",data:= .seq ([]:List Value).toArray}).objs.size:=fun b hb=>by
    rw [Heap.size_push]
    exact Nat.ne_of_lt hb
   have hLs:X.env.locals < s2.heap.objs.size:=I2.lt
   have hcs: ∀y c,X.env.cells.lookup y=some c→c < s2.heap.objs.size:=fun y c e=>by
    obtain ⟨v,z⟩:=I2.cell y c e
    exact z.lt
   have hne:(s2.heap.push {cls:= .type "list",data:= .seq ([]:List Value).toArray}).objs.size≠a:=by
    rcases ha with z | z
    · rw [z];exact (lt _ (Nat.lt_succ_of_lt hLs)).symm
    · exact (lt _ (Nat.lt_succ_of_lt (hcs _ _ z))).symm
   refine ⟨m,hn.sameBut hsa hne,fun h' hs'=>⟨_,H',?_,q'⟩⟩
   refine I6.turned (t':=s6.toks) (it:=(s2.heap.push {cls:= .type "list",data:= .seq ([]:List Value).toArray}).objs.size) (fun b o hb e=>(hs'.2 b hb).trans e) I'.free ?_ (.inr ?_) (fun y c e=> ?_) (fun p hp z=> ?_)
   · exact (lt _ (Nat.lt_succ_of_lt hLs)).symm
   · exact I3.sz
   · exact lt _ (Nat.lt_succ_of_lt (hcs y c e))
   · exact absurd (Heap.lt_size (I3.pin p hp).1) (by rw [z];exact Nat.lt_irrefl _)
end
theorem lc_range {lo:Int} {n:Nat} {g:TG} {tc:TT} {te:TE} {Q:VK} {D:Addr} {σ:St} {H:Hp} (Pv:Nat→St→List V→Hp→Prop) (h0:Pv 0 σ [] H)
 (hs: ∀i σ acc H,i < n→Pv i σ acc H→g (.int (lo + i)) σ H fun σ2 H2=>tc σ2 H2 fun b H3=>if b=true then te σ2 H3 fun y H4=>H4 D=some (.lst acc)∧acc.length < sizeLine∧Pv (i + 1) σ2 (acc++[y]) (upd H4 D (.lst (acc++[y]))) else Pv (i + 1) σ2 acc H3)
 (hd: ∀σ acc H,Pv n σ acc H→Q (.ref D) H):
 ∃W:Nat→Nat→St→List V→Hp→Prop,(∃ m,W 0 m σ [] H)∧lcTurn (Itr lo n) g tc te Q D W:=by
 refine ⟨fun i m σ acc H=>m=n - i∧i≤n∧Pv i σ acc H,⟨n,by simp,Nat.zero_le _,h0⟩,?_⟩
 rintro i m σ acc H ⟨rfl,hi,p⟩
 by_cases hlt:i < n
 · refine .inr ⟨hlt,Pv (i + 1),fun σ' acc' H' p'=>⟨n - (i + 1),by lia,rfl,hlt,p'⟩,fun x H' y=> ?_⟩
   obtain ⟨e,y⟩:=y
   subst e y
   exact hs i σ acc _ hlt p
 · have e:i=n:=by lia
   subst e
   exact .inl ⟨Nat.le_refl _,hd σ acc H p⟩
end L2
set_option Elab.async false
set_option linter.all false
set_option maxRecDepth 100000
namespace L2
open PySem PySem.Spec PyProof.Rows
noncomputable def scrD (ns:List Int):PyData:= .dict (ns.map fun n=>(.int n,.none))
noncomputable def anyD:PyData:= .dict [(.bool true,.none)]
noncomputable def excD (C:Addr):PyData:= .dict [(.bool false,.int (C:Int))]
noncomputable def xPhi (a C:Addr):Heap→Prop:=fun h=>∃o,h.get? a=some o∧o.cls= .ref C
noncomputable def anyK:List (PyData×PyData)→Bool
 | [(.bool true,_)]=>true
 | _=>false
theorem anyK_scr: ∀ns:List Int,anyK (ns.map fun n=>(PyData.int n,PyData.none))=false
 | []=>rfl
 | [_]=>rfl
 | _::_::_=>rfl
mutual
inductive Rp (K:PySem.W.Frag) (H:Hp):V→PyData→Prop where
 | non:Rp K H .non .none
 | bl (b:Bool):Rp K H (.bl b) (.bool b)
 | int (i:Int):Rp K H (.int i) (.int i)
 | str (x:Str):Rp K H (.str x) (.str x)
 | lst {a:Addr} {xs:List V} {ds:List PyData}:H a=some (.lst xs)→RpAll K H xs ds→Rp K H (.ref a) (.list ds)
 | tup {a:Addr} {xs:List V} {ds:List PyData}:H a=some (.tup xs)→RpAll K H xs ds→Rp K H (.ref a) (.tuple ds)
 | scr {a:Addr} {ns:List Int}:SqL K H a (ns.map V.int)→Rp K H (.ref a) (scrD ns)
 | any {a:Addr}:Rp K H (.ref a) anyD
 | xc {a C:Addr}:H a=some (.ext (xPhi a C))→Rp K H (.ref a) (excD C)
inductive RpAll (K:PySem.W.Frag) (H:Hp):List V→List PyData→Prop where
 | nil:RpAll K H [] []
 | cons {x:V} {xs:List V} {d:PyData} {ds:List PyData}:Rp K H x d→RpAll K H xs ds→RpAll K H (x::xs) (d::ds)
end
mutual
noncomputable def immD:PyData→Bool
 | .list _=>false
 | .dict kvs=>anyK kvs
 | .tuple ds=>immAll ds
 | _=>true
noncomputable def immAll:List PyData→Bool
 | []=>true
 | d::ds=>immD d && immAll ds
end
structure TK (H H':Hp):Prop where
 tup: ∀b xs,H b=some (.tup xs)→H' b=some (.tup xs)
 frz: ∀b o u,H b=some (.frz o u)→H' b=some (.frz o u)
theorem TK.trans {H H1 H2:Hp} (a:TK H H1) (b:TK H1 H2):TK H H2:=⟨fun c xs h=>b.tup c xs (a.tup c xs h),fun c o u h=>b.frz c o u (a.frz c o u h)⟩
theorem Same.tk {H H':Hp} (s:Same H H'):TK H H':=⟨fun b xs h=>s b _ h,fun b o u h=>s b _ h⟩
theorem TK.new {H:Hp} {p:Addr} {o:HO} (h:H p=none):TK H (upd H p o):=⟨fun b xs e=>by rw [upd_ne (ne_of_none e h)];exact e,fun b o u e=>by rw [upd_ne (ne_of_none e h)];exact e⟩
theorem TK.lst {H:Hp} {p:Addr} {xs:List V} {o:HO} (h:H p=some (.lst xs)):TK H (upd H p o):=
 ⟨fun b ys e=>by rw [upd_ne (ne_of e h (by intro z;cases z))];exact e,fun b o u e=>by rw [upd_ne (ne_of e h (by intro z;cases z))];exact e⟩
theorem TK.sqT {K:PySem.W.Frag} {H H':Hp} {a:Addr} {xs:List V} (t:TK H H') (h:SqT K H a xs):SqT K H' a xs:=by
 rcases h with (h | ⟨o,h⟩) | h
 · exact .inl (.inl (t.tup _ _ h))
 · exact .inl (.inr ⟨o,t.frz _ _ _ h⟩)
 · exact .inr h
theorem Same.new {H:Hp} {p:Addr} {o:HO} (h:H p=none):Same H (upd H p o):=fun b u e=>by rw [upd_ne (ne_of_none e h)];exact e
theorem Same.put {H0 H:Hp} {p:Addr} {o:HO} (s:Same H0 H) (h:H0 p=none):Same H0 (upd H p o):=fun b u e=>by rw [upd_ne (ne_of_none e h)];exact s b u e
mutual
theorem Rp.keep {K:PySem.W.Frag} {H H':Hp} (t:TK H H'): ∀{v:V} {d:PyData},Rp K H v d→immD d=true→Rp K H' v d
 | _,_,.non,_=> .non
 | _,_,.bl b,_=> .bl b
 | _,_,.int i,_=> .int i
 | _,_,.str x,_=> .str x
 | _,_,.lst _ _,h=>absurd (show false=true from h) Bool.false_ne_true
 | _,_,.tup hs ha,h=> .tup (t.tup _ _ hs) (RpAll.keep t ha h)
 | _,_,@Rp.scr _ _ _ ns _,h=>absurd (show anyK (ns.map fun n=>(PyData.int n,PyData.none))=true from h) (by rw [anyK_scr];exact Bool.false_ne_true)
 | _,_,.any,_=> .any
theorem RpAll.keep {K:PySem.W.Frag} {H H':Hp} (t:TK H H'): ∀{vs:List V} {ds:List PyData},RpAll K H vs ds→immAll ds=true→RpAll K H' vs ds
 | _,_,.nil,_=> .nil
 | _,_,.cons a b,h=>by
   have h:_∧_:=Bool.and_eq_true_iff.mp h
   exact .cons (Rp.keep t a h.1) (RpAll.keep t b h.2)
end
mutual
theorem Rp.same {K:PySem.W.Frag} {H H':Hp} (t:Same H H'): ∀{v:V} {d:PyData},Rp K H v d→Rp K H' v d
 | _,_,.non=> .non
 | _,_,.bl b=> .bl b
 | _,_,.int i=> .int i
 | _,_,.str x=> .str x
 | _,_,.lst hs ha=> .lst (t _ _ hs) (RpAll.same t ha)
 | _,_,.tup hs ha=> .tup (t _ _ hs) (RpAll.same t ha)
 | _,_,.scr h=> .scr (Same.seq t h)
 | _,_,.any=> .any
 | _,_,.xc h=> .xc (t _ _ h)
theorem RpAll.same {K:PySem.W.Frag} {H H':Hp} (t:Same H H'): ∀{vs:List V} {ds:List PyData},RpAll K H vs ds→RpAll K H' vs ds
 | _,_,.nil=> .nil
 | _,_,.cons a b=> .cons (Rp.same t a) (RpAll.same t b)
end
theorem Rp.int_inv {K:PySem.W.Frag} {H:Hp} {v:V} {i:Int} (h:Rp K H v (.int i)):v= .int i:=by cases h;rfl
theorem Rp.bl_inv {K:PySem.W.Frag} {H:Hp} {v:V} {b:Bool} (h:Rp K H v (.bool b)):v= .bl b:=by cases h;rfl
theorem Rp.tup_inv {K:PySem.W.Frag} {H:Hp} {v:V} {ds:List PyData} (h:Rp K H v (.tuple ds)): ∃a xs,v= .ref a∧H a=some (.tup xs)∧RpAll K H xs ds:=by
 cases h with | tup a b=>exact ⟨_,_,rfl,a,b⟩
theorem Rp.lst_inv {K:PySem.W.Frag} {H:Hp} {v:V} {ds:List PyData} (h:Rp K H v (.list ds)): ∃a xs,v= .ref a∧H a=some (.lst xs)∧RpAll K H xs ds:=by
 cases h with | lst a b=>exact ⟨_,_,rfl,a,b⟩
theorem RpAll.len {K:PySem.W.Frag} {H:Hp}: ∀{vs:List V} {ds:List PyData},RpAll K H vs ds→vs.length=ds.length
 | _,_,.nil=>rfl
 | _,_,.cons _ b=>congrArg (· + 1) b.len
theorem RpAll.get {K:PySem.W.Frag} {H:Hp}: ∀{vs:List V} {ds:List PyData} {i:Nat} {v:V},RpAll K H vs ds→vs[i]?=some v→∃d,ds[i]?=some d∧Rp K H v d
 | _,_,_,_,.nil,e=>by simp at e
 | _,_,0,_,.cons a _,e=>by simp at e;subst e;exact ⟨_,rfl,a⟩
 | _,_,i + 1,v,.cons _ b,e=>by
   obtain ⟨d,h1,h2⟩:=RpAll.get (i:=i) (v:=v) b (by simpa using e)
   exact ⟨d,by simpa using h1,h2⟩
theorem RpAll.get' {K:PySem.W.Frag} {H:Hp}: ∀{vs:List V} {ds:List PyData} {i:Nat} {d:PyData},RpAll K H vs ds→ds[i]?=some d→∃v,vs[i]?=some v∧Rp K H v d
 | _,_,_,_,.nil,e=>by simp at e
 | _,_,0,_,.cons a _,e=>by simp at e;subst e;exact ⟨_,rfl,a⟩
 | _,_,i + 1,d,.cons _ b,e=>by
   obtain ⟨v,h1,h2⟩:=RpAll.get' (i:=i) (d:=d) b (by simpa using e)
   exact ⟨v,by simpa using h1,h2⟩
theorem RpAll.append {K:PySem.W.Frag} {H:Hp}: ∀{vs ws:List V} {ds es:List PyData},RpAll K H vs ds→RpAll K H ws es→RpAll K H (vs++ws) (ds++es)
 | _,_,_,_,.nil,h=>h
 | _,_,_,_,.cons a b,h=> .cons a (b.append h)
theorem RpAll.one {K:PySem.W.Frag} {H:Hp} {v:V} {d:PyData} (h:Rp K H v d):RpAll K H [v] [d]:= .cons h .nil
theorem RpAll.take {K:PySem.W.Frag} {H:Hp}: ∀{vs:List V} {ds:List PyData} (n:Nat),RpAll K H vs ds→RpAll K H (vs.take n) (ds.take n)
 | _,_,0,_=> .nil
 | _,_,_ + 1,.nil=> .nil
 | _,_,n + 1,.cons a b=> .cons a (b.take n)
theorem RpAll.drop {K:PySem.W.Frag} {H:Hp}: ∀{vs:List V} {ds:List PyData} (n:Nat),RpAll K H vs ds→RpAll K H (vs.drop n) (ds.drop n)
 | _,_,0,h=>h
 | _,_,_ + 1,.nil=> .nil
 | _,_,n + 1,.cons _ b=>b.drop n
theorem RpAll.ints {K:PySem.W.Frag} {H:Hp}: ∀(ns:List Int),RpAll K H (ns.map V.int) (ns.map PyData.int)
 | []=> .nil
 | n::ns=> .cons (.int n) (RpAll.ints ns)
theorem RpAll.ints_inv {K:PySem.W.Frag} {H:Hp}: ∀{ns:List Int} {vs:List V},RpAll K H vs (ns.map PyData.int)→vs=ns.map V.int
 | [],_,h=>by cases h;rfl
 | n::ns,_,h=>by
   cases h with
   | cons a b=>rw [a.int_inv,RpAll.ints_inv b];rfl
theorem RpAll.bools_inv {K:PySem.W.Frag} {H:Hp}: ∀{bs:List Bool} {vs:List V},RpAll K H vs (bs.map PyData.bool)→vs=bs.map V.bl
 | [],_,h=>by cases h;rfl
 | n::ns,_,h=>by
   cases h with
   | cons a b=>rw [a.bl_inv,RpAll.bools_inv b];rfl
theorem layAll_ints: ∀(ns:List Int),PyData.canLayAll0 (ns.map PyData.int)=true
 | []=>rfl
 | n::ns=>by
   show (PyData.canLay0 (.int n) && PyData.canLayAll0 (ns.map PyData.int))=true
   rw [layAll_ints ns];rfl
section
variable {X:Cx} {pins:List (Addr×Obj)} {σ:St} {H:Hp} {s:Shared}
mutual
theorem Inv.reads (I:Inv X pins σ H s): ∀{x:V} {d:PyData} {v:Value},Rp X.K H x d→RelV x v→d.canLay0=true→∃as,Reads s.heap v d as
 | _,_,_,.non,r,_=>⟨[],by cases r;exact .none⟩
 | _,_,_,.bl b,r,_=>⟨[],by cases r;exact .bool b⟩
 | _,_,_,.int i,r,_=>⟨[],by obtain ⟨t,e⟩:=r;cases e;exact .int i t⟩
 | _,_,_,.str x,r,_=>⟨[],by obtain ⟨t,e⟩:=r;cases e;exact .str x t⟩
 | _,_,_,.scr _,_,h=>absurd (show false=true from h) Bool.false_ne_true
 | _,_,_,.any,_,h=>absurd (show false=true from h) Bool.false_ne_true
 | _,_,_,.lst hq ha,r,hl=>by
   cases r
   obtain ⟨its,rv,⟨o,n,e,c,dd,dt⟩,hz⟩:=I.list (SqL.of hq)
   obtain ⟨as,z⟩:=Inv.readsAll I ha rv hl
   exact ⟨_,.list e c dt z⟩
 | _,_,_,.tup hq ha,r,hl=>by
   cases r
   obtain ⟨its,rv,⟨o,e,c,n,dt⟩,hz⟩:=I.tuple (SqT.of hq)
   obtain ⟨as,z⟩:=Inv.readsAll I ha rv hl
   exact ⟨_,.tuple e c dt z⟩
theorem Inv.readsAll (I:Inv X pins σ H s): ∀{xs:List V} {ds:List PyData} {us:List Value},RpAll X.K H xs ds→Vals xs us→PyData.canLayAll0 ds=true→∃as,ReadsAll s.heap us ds as
 | _,_,_,.nil,.nil,_=>⟨[],.nil⟩
 | _,_,_,.cons a b,.cons r t,h=>by
   have h:_∧_:=Bool.and_eq_true_iff.mp h
   obtain ⟨as,z⟩:=Inv.reads I a r h.1
   obtain ⟨bs,y⟩:=Inv.readsAll I b t h.2
   exact ⟨_,.cons z y⟩
end
noncomputable def rEqD (K:PySem.W.Frag) (u:Nat):R2:=fun x y H Q=>∃dx dy,Rp K H x dx∧Rp K H y dy∧dx.canLay0=true∧dy.canLay0=true∧u + min dx.depth dy.depth < cLine∧Q (.bl (PyData.eqv dx dy)) H
theorem op_eqD:OpR X (compareOp .Eq) (rEqD X.K X.A.units):=by
 intro pins s σ H x y v u Q I rx ry h
 obtain ⟨dx,dy,h1,h2,l1,l2,hu,q⟩:=h
 obtain ⟨as,ra⟩:=I.reads h1 rx l1
 obtain ⟨bs,rb⟩:=I.reads h2 ry l2
 exact SeqAt.rcAt_reads ra rb l1 l2 hu _ _ _ _ ⟨.bl _,H,I,rfl,q⟩
noncomputable def eqR (h:Heap) (dx:PyData) (w:Value):Bool:= @decide (∃ d as,Reads h w d as∧d.canLay0=true∧PyData.eqv d dx=true) (Classical.propDecidable _)
theorem eqR_of {h:Heap} {dx d:PyData} {w:Value} {as:List Addr} (r:Reads h w d as) (l:d.canLay0=true):eqR h dx w=PyData.eqv d dx:=by
 unfold eqR
 by_cases e:PyData.eqv d dx=true
 · rw [e]
   exact @decide_eq_true _ (Classical.propDecidable _) ⟨d,as,r,l,e⟩
 · rw [Bool.eq_false_iff.mpr e]
   refine @decide_eq_false _ (Classical.propDecidable _) ?_
   rintro ⟨d',as',r',l',e'⟩
   rw [SeqAt.Reads.unique d' d w as' as l' r' r] at e'
   exact e e'
theorem any_eqR {h:Heap} {dx:PyData}: ∀{us:List Value} {ds:List PyData} {as:List Addr},ReadsAll h us ds as→PyData.canLayAll0 ds=true→us.any (eqR h dx)=ds.any fun d=>PyData.eqv d dx
 | [],[],_,_,_=>rfl
 | u::us,d::ds,_,r,l=>by
   have l:d.canLay0=true∧PyData.canLayAll0 ds=true:=by simpa [PyData.canLayAll0] using l
   cases r with
   | cons r1 r2=>rw [List.any_cons,List.any_cons,eqR_of r1 l.1,any_eqR r2 l.2]
 | [],_::_,_,r,_=>by cases r
 | _::_,[],_,r,_=>by cases r
theorem mem_eqR {A:Around} {dx:PyData} {v:Value} {as:List Addr} (rx:Reads s.heap v dx as) (lx:dx.canLay0=true) (hu:A.units + dx.depth < cLine): ∀{us:List Value} {ds:List PyData} {bs:List Addr},ReadsAll s.heap us ds bs→PyData.canLayAll0 ds=true→
 ∀u∈us,SeqAt.EqAt A s u v (eqR s.heap dx u)
 | [],_,_,_,_,u,hm=>by cases hm
 | w::us,d::ds,_,r,l,u,hm=>by
   have l:d.canLay0=true∧PyData.canLayAll0 ds=true:=by simpa [PyData.canLayAll0] using l
   cases r with
   | cons r1 r2=>
     rcases List.mem_cons.mp hm with rfl | hm
     · rw [eqR_of r1 l.1]
       refine SeqAt.eqAt_reads d dx A s _ _ _ _ r1 rx l.1 lx ?_
       have:min d.depth dx.depth≤dx.depth:=Nat.min_le_right _ _
       lia
     · exact mem_eqR rx lx hu r2 l.2 u hm
 | _::_,[],_,r,_,_,_=>by cases r
noncomputable def rInD (K:PySem.W.Frag) (u:Nat):R2:=fun x y H Q=>∃p xs ds dx,y= .ref p∧(SqL K H p xs∨SqT K H p xs)∧RpAll K H xs ds∧Rp K H x dx∧PyData.canLayAll0 ds=true∧dx.canLay0=true∧u + 1 + dx.depth < cLine∧Q (.bl (ds.any fun d=>PyData.eqv d dx)) H
theorem op_inD:OpR X (compareOp .In) (rInD X.K X.A.units):=by
 intro pins s σ H x y v u Q I rx ry h
 obtain ⟨p,xs,ds,dx,rfl,hq,ha,hx,l1,l2,hu,q⟩:=h
 cases ry
 obtain ⟨as,ra⟩:=I.reads hx rx l2
 have hu1:X.A.in1.units + dx.depth < cLine:=hu
 rcases hq with hq | hq
 · obtain ⟨its,r,pl,hz⟩:=I.list hq
   obtain ⟨bs,rb⟩:=I.readsAll ha r l1
   refine SeqAt.in_listAt (eqR s.heap dx) pl.isList (fun w hw=>mem_eqR ra l2 hu1 rb l1 w (by simpa using hw)) ⟨.bl _,H,I,rfl,?_⟩
   rw [show its.toArray.any (eqR s.heap dx)=its.any (eqR s.heap dx) by simp,any_eqR rb l1]
   exact q
 · obtain ⟨its,r,pl,hz⟩:=I.tuple hq
   obtain ⟨bs,rb⟩:=I.readsAll ha r l1
   refine SeqAt.in_tupleAt (eqR s.heap dx) pl (fun w hw=>mem_eqR ra l2 hu1 rb l1 w (by simpa using hw)) ⟨.bl _,H,I,rfl,?_⟩
   rw [show its.toArray.any (eqR s.heap dx)=its.any (eqR s.heap dx) by simp,any_eqR rb l1]
   exact q
theorem call_isinst:CallR X (.builtin "isinstance") (fun xs H Q=>∃x T t b,xs=[x,.ty T]∧TyOf X.K H x t∧PySem.W.kitOne X.K t (.type T)=some b∧Q (.bl b) H):=by
 intro pins s σ H xs us Q I r h
 obtain ⟨x,T,t,b,rfl,ty,e,q⟩:=h
 obtain ⟨u,w',rfl,r1,r2⟩:=vals2 r
 cases r2
 exact isinst_ok I r1 ty e fun tk=>⟨.bl b,H,I.tok tk,rfl,q⟩
noncomputable def tRng1 (ta:TA):TE:=fun σ H Q=>ta σ H fun vs H1=>∃j:Int,vs=[.int j]∧∀p,H1 p=none→Q (.ref p) (upd H1 p (.rng 0 j))
theorem pe_range1 {a:Expr} {ta:TA} {p pos:Pos} (hg:Gl X "range") (hm:X.mg "range"=none) (ha:PA X [a] ta) (hs:autoParam (starEach [a] X.env=[(false,eval a X.env)]) u5._auto_1):PE X (.Call (.Name "range" p) [a] [] pos) (tRng1 ta):=by
 intro pins s σ H Q I h
 refine wpAny_Call_Name_kw (ld_blt I hg hm boot_range (PyProof.Rows.callWith_type1 (thn (ha pos pins s σ H _ I h) fun us s1 ⟨vs,H1,I1,r1,q1⟩=> ?_) hs rfl))
 obtain ⟨j,e,q⟩:=q1
 subst e
 cases r1 with
 | cons r rr=>
   cases rr
   obtain ⟨t,rfl⟩:=r
   refine call_range_1 ⟨.ref s1.heap.objs.size,_,?_,rfl,q _ (I1.hok.fresh (Nat.le_refl _))⟩
   exact I1.laid (fun b o e=>Heap.get?_push_of_some _ e) (Nat.le_refl _) ⟨_,_,_,Heap.get?_push_size _ rfl⟩
noncomputable def rangeV (lo:Int) (n:Nat):List V:=(List.range n).map fun (i:Nat)=>V.int (lo + (i:Int))
theorem vals_items {P:Nat→Value→Prop}: ∀{n:Nat} {us:List Value} (f:Nat→V),us.length=n→(∀ j v,us[j]?=some v→RelV (f j) v)→Vals ((List.range n).map f) us
 | n,us,f,hl,h=>by
   induction us generalizing n f with
   | nil=>
     have:n=0:=by simpa using hl.symm
     subst this
     exact .nil
   | cons u us ih=>
     obtain ⟨k,rfl⟩: ∃k,n=k + 1:=⟨us.length,by simpa using hl.symm⟩
     rw [List.range_succ_eq_map,List.map_cons,List.map_map]
     exact .cons (h 0 u rfl) (ih k (fun j=>f (j + 1)) (by simpa using hl) fun j v e=>h (j + 1) v (by simpa using e))
theorem call_list_rng (hc:X.calm=true):CallR X (.type "list") (fun xs H Q=>∃p lo hi,xs=[.ref p]∧H p=some (.rng lo hi)∧(-(2 ^ 62)≤lo∧lo < 2 ^ 62∧ -(2 ^ 62)≤hi∧hi < 2 ^ 62)∧(hi - lo).toNat≤sizeLine∧∀l,H l=none→Q (.ref l) (upd H l (.lst (rangeV lo (hi - lo).toNat)))):=by
 intro pins s σ H xs us Q I r h
 obtain ⟨p,lo,hi,rfl,hp,⟨b1,b2,b3,b4⟩,hz,q⟩:=h
 obtain ⟨u,rfl,rx⟩:=vals1 r
 cases rx
 obtain ⟨t,u,v,e⟩:=(show ∃t u v,s.heap.get? p=some {cls:= .type "range",data:= .fields #[.int lo t,.int hi u,.int 1 v]} from I.hok p _ hp)
 have hn:Builtin.Range.rangeSize lo hi 1=(((hi - lo).toNat:Nat):Int):=by rw [rangeSize_one];split <;> lia
 refine call_list_range (n:=(hi - lo).toNat) (I.ok.hd hc) e (small_one b1 b2 b3 b4) hn (by rw [sizeLine_eq] at hz;lia) fun h' tk acc' c' kp e' hit=> ?_
 refine ⟨.ref s.heap.objs.size,_,I.laid (t':=tk) kp (Nat.le_refl _) (show ObjOk X.prog X.w _ h' _ (.lst (rangeV lo (hi - lo).toNat)) from ⟨?_,acc'.toList,c',?_,?_⟩),rfl,q _ (I.hok.fresh (Nat.le_refl _))⟩
 · unfold rangeV
   rw [List.length_map,List.length_range]
   exact hz
 · refine vals_items (P:=fun q_ q_=>True) (us:=acc'.toList) (fun i=>V.int (lo + (i:Int))) (by rw [Array.length_toList];exact hit.1) fun j v hj=> ?_
   obtain ⟨t',ev⟩:=hit.2 j v (by rw [← Array.getElem?_toList];exact hj)
   exact ⟨t',by rw [ev,Int.mul_one]⟩
 · simpa using e'
end
noncomputable def Fn (P:Program) (w:World) (K:PySem.W.Frag) (mg:Str→Option Value) (base:Heap) (x:Str) (lvl:Nat) (ps:List Str) (sp:Sp):Prop:=
 ∃f fd,FnOk P w K mg base CX0 lvl f fd ps sp∧mg x=some (.ref f)∧PySem.W.keepIn K (.ref f)=true∧Binds K fd ps []
section
variable {X:Cx} {x:Str} {lvl:Nat} {ps:List Str} {sp:Sp} {e:Expr} {es:List Expr} {t:TA} {p pos:Pos}
theorem pe_fn (G:Fn X.prog X.w X.K X.mg X.base x lvl ps sp) (hr:Room lvl X.A) (ha:PA X (e::es) t) (hg:autoParam (Gl X x) u5._auto_1)
 (hdb:autoParam ((x == ("__debug__":Str))=false) u2._auto_1) (he:autoParam (starEach (e::es) X.env=(false,eval e X.env)::starEach es X.env) u5._auto_1) (hpl:autoParam ((backTo pos (starEach es X.env)).any (·.1)=false) u5._auto_1):
 PE X (.Call (.Name x p) (e::es) [] pos) (tCall sp [] E0 t):=by
 obtain ⟨f,fd,F,hm,hk,hb⟩:=G
 exact pe_call F hr hg hm hk hb .nil pass0 ha hdb he hpl
end
theorem room_u {k d:Nat} {A:Around} (hr:Room k A) (h:d≤200):A.units + d < cLine:=by have:=hr.un;lia
section
variable {X:Cx}
theorem ix_listK (K:PySem.W.Frag) (h:autoParam (X.K=K) u5._auto_1):IxR X (rIxL K):=h▸ix_list
noncomputable def rInK (K:PySem.W.Frag):R2:=fun x y H Q=>∃p xs ds dx,y= .ref p∧(SqL K H p xs∨SqT K H p xs)∧RpAll K H xs ds∧Rp K H x dx∧PyData.canLayAll0 ds=true∧dx.canLay0=true∧dx.depth≤9∧Q (.bl (ds.any fun d=>PyData.eqv d dx)) H
theorem op_inK (K:PySem.W.Frag) (hu:X.A.units + 10 < cLine) (h:autoParam (X.K=K) u5._auto_1):OpR X (compareOp .In) (rInK K):=by
 subst h
 intro pins s σ H x y v u Q I rx ry hq
 obtain ⟨p,xs,ds,dx,e1,e2,e3,e4,e5,e6,e7,q⟩:=hq
 exact op_inD pins s σ H x y v u Q I rx ry ⟨p,xs,ds,dx,e1,e2,e3,e4,e5,e6,by lia,q⟩
noncomputable def rEqK (K:PySem.W.Frag):R2:=fun x y H Q=>∃dx dy,Rp K H x dx∧Rp K H y dy∧dx.canLay0=true∧dy.canLay0=true∧min dx.depth dy.depth≤9∧Q (.bl (PyData.eqv dx dy)) H
theorem op_eqK (K:PySem.W.Frag) (hu:X.A.units + 10 < cLine) (h:autoParam (X.K=K) u5._auto_1):OpR X (compareOp .Eq) (rEqK K):=by
 subst h
 intro pins s σ H x y v u Q I rx ry hq
 obtain ⟨dx,dy,e1,e2,e3,e4,e5,q⟩:=hq
 exact op_eqD pins s σ H x y v u Q I rx ry ⟨dx,dy,e1,e2,e3,e4,by lia,q⟩
theorem call_lenK (K:PySem.W.Frag) (h:autoParam (X.K=K) u5._auto_1):CallR X (.builtin "len") (fun xs H Q=>∃p ys,xs=[.ref p]∧(SqL K H p ys∨SqT K H p ys)∧Q (.int ys.length) H):=h▸call_len_seq
end
theorem map_erase {α β:Type} (f:α→β): ∀(l:List α) (k:Nat),(l.map f).eraseIdx k=(l.eraseIdx k).map f
 | [],_=>rfl
 | _::_,0=>rfl
 | a::r,k + 1=>congrArg (f a:: ·) (map_erase f r k)
end L2
set_option Elab.async false
set_option linter.all false
set_option maxRecDepth 100000
namespace L2
open PySem PySem.Spec PyProof.Rows
noncomputable def Loose:HO→Prop
 | .lst _=>True
 | .dK _=>True
 | .dT _=>True
 | .set _ _=>True
 | _=>False
structure Ext (R H R' H':Hp):Prop where
 hh:Same H H'
 rr:Same R R'
 rh:Same R' H'
 nn: ∀b o,H b=some o→R b=none→R' b=none
 ls: ∀b o,H' b=some o→R' b=none→Loose o
structure Wd (R H:Hp):Prop where
 rh:Same R H
 ls: ∀b o,H b=some o→R b=none→Loose o
theorem Wd.all (H:Hp):Wd H H:=⟨Same.refl H,fun b o h n=>by rw [h] at n;cases n⟩
theorem Ext.wd {R H R' H':Hp} (e:Ext R H R' H'):Wd R' H':=⟨e.rh,e.ls⟩
theorem Ext.refl {R H:Hp} (w:Wd R H):Ext R H R H:=⟨Same.refl H,Same.refl R,w.rh,fun q_ q_ q_ n=>n,w.ls⟩
theorem Ext.trans {R H R1 H1 R2 H2:Hp} (a:Ext R H R1 H1) (b:Ext R1 H1 R2 H2):Ext R H R2 H2:=
 ⟨a.hh.trans b.hh,a.rr.trans b.rr,b.rh,fun c o h n=>b.nn c o (a.hh c o h) (a.nn c o h n),b.ls⟩
theorem Ext.of_same {H H':Hp} (s:Same H H'):Ext H H H' H':=⟨s,s,Same.refl _,fun b o h n=>(by rw [h] at n;cases n),(Wd.all H').ls⟩
theorem Ext.new {R H:Hp} {p:Addr} {o:HO} (w:Wd R H) (h:H p=none):Ext R H (upd R p o) (upd H p o):=by
 have hr:R p=none:=w.rh.free h
 refine ⟨Same.new h,Same.new hr,fun b u e=> ?_,fun b u e n=> ?_,fun b u e n=> ?_⟩
 · by_cases hb:b=p
   · subst hb;rw [upd_same] at e ⊢;exact e
   · rw [upd_ne hb] at e ⊢;exact w.rh b u e
 · rw [upd_ne (ne_of_none e h)];exact n
 · by_cases hb:b=p
   · subst hb;rw [upd_same] at n;cases n
   · rw [upd_ne hb] at e n;exact w.ls b u e n
theorem Ext.newO {R H:Hp} {p:Addr} {o:HO} (w:Wd R H) (h:H p=none) (lo:Loose o):Ext R H R (upd H p o):=by
 have hr:R p=none:=w.rh.free h
 refine ⟨Same.new h,Same.refl R,fun b u e=> ?_,fun b u e n=>n,fun b u e n=> ?_⟩
 · rw [upd_ne (ne_of_none e hr)];exact w.rh b u e
 · by_cases hb:b=p
   · subst hb;rw [upd_same] at e;cases e;exact lo
   · rw [upd_ne hb] at e;exact w.ls b u e n
theorem Wd.mut {R H:Hp} {p:Addr} {o:HO} (w:Wd R H) (hr:R p=none) (lo:Loose o):Wd R (upd H p o):=by
 refine ⟨fun b u e=> ?_,fun b u e n=> ?_⟩
 · rw [upd_ne (ne_of_none e hr)];exact w.rh b u e
 · by_cases hb:b=p
   · subst hb;rw [upd_same] at e;cases e;exact lo
   · rw [upd_ne hb] at e;exact w.ls b u e n
set_option tactic.hygienic true in
theorem Ext.grow {R H H':Hp} (w:Wd R H) (s:Same H H'): ∃R',Ext R H R' H'∧TK H' R'∧∀b o,H' b=some o→H b=none→R' b=some o:=by
 classical
 refine ⟨fun b=>if R b=none∧H b≠none then none else H' b,⟨s,fun b o e=> ?_,fun b o e=> ?_,fun b o e n=> ?_,fun b o e n=> ?_⟩,⟨fun b xs e=> ?_,fun b o u e=> ?_⟩,fun b o e n=> ?_⟩
 · show (if R b=none∧H b≠none then none else H' b)=some o
   rw [if_neg (by rw [e];rintro ⟨z,_⟩;cases z)]
   exact s b o (w.rh b o e)
 · have e:(if R b=none∧H b≠none then none else H' b)=some o:=e
   split at e
   · cases e
   · exact e
 · show (if R b=none∧H b≠none then none else H' b)=none
   rw [if_pos ⟨n,by rw [e];intro z;cases z⟩]
 · have n:(if R b=none∧H b≠none then none else H' b)=none:=n
   split at n
   · rename_i hc
     cases q:H b with
     | none=>exact absurd q hc.2
     | some u=>
       have:=s b u q
       rw [this] at e;cases e
       exact w.ls b _ q hc.1
   · rw [e] at n;cases n
 · show (if R b=none∧H b≠none then none else H' b)=some _
   rw [if_neg]
   · exact e
   · rintro ⟨n,hc⟩
     cases q:H b with
     | none=>exact hc q
     | some u=>
       have:=s b u q
       rw [this] at e;cases e
       exact w.ls b _ q n
 · show (if R b=none∧H b≠none then none else H' b)=some _
   rw [if_neg]
   · exact e
   · rintro ⟨n,hc⟩
     cases q:H b with
     | none=>exact hc q
     | some u=>
       have:=s b u q
       rw [this] at e;cases e
       exact w.ls b _ q n
 · show (if R b=none∧H b≠none then none else H' b)=some _
   rw [if_neg (by rintro ⟨_,z⟩;exact z n)]
   exact e
inductive Dt where
 | un
 | d (x:PyData)
 | o (xs:List PyData)
 | dk (kvs:List (Key×PyData))
 | dt (kvs:List (List Key×PyData))
 | oo (xss:List (List PyData))
noncomputable def Dt.own:Dt→Bool
 | .un=>false
 | .d _=>false
 | _=>true
noncomputable abbrev KvR {κ:Type} (K:PySem.W.Frag) (R:Hp):List (κ×V)→List (κ×PyData)→Prop:=Paired fun p q=>p.1=q.1∧Rp K R p.2 q.2
theorem KvR.same {κ:Type} {K:PySem.W.Frag} {R R':Hp} (s:Same R R') {l:List (κ×V)} {m:List (κ×PyData)} (h:KvR K R l m):KvR K R' l m:=Paired.mapP h fun q_ q_ z=>⟨z.1,Rp.same s z.2⟩
noncomputable abbrev OwnR (K:PySem.W.Frag) (H0 R H:Hp):List V→List (List PyData)→Prop:=Paired fun y xs=>∃b zs,y= .ref b∧H b=some (.lst zs)∧R b=none∧H0 b=none∧RpAll K R zs xs
theorem OwnR.next {K:PySem.W.Frag} {H0 R H R' H':Hp} {ys:List V} {xss:List (List PyData)} (h:OwnR K H0 R H ys xss) (e:Ext R H R' H'):OwnR K H0 R' H' ys xss:=
 Paired.mapP h fun _ _ ⟨b,zs,h1,h2,h3,h4,h5⟩=>⟨b,zs,h1,e.hh _ _ h2,e.nn _ _ h2 h3,h4,RpAll.same e.rr h5⟩
theorem OwnR.mem {K:PySem.W.Frag} {H0 R H:Hp} {b:Addr}: ∀{ys:List V} {xss:List (List PyData)},OwnR K H0 R H ys xss→V.ref b∈ys→∃zs,H b=some (.lst zs)∧R b=none∧H0 b=none
 | _,_,.nil,m=>by cases m
 | _,_,.cons ⟨b',zs,h1,h2,h3,h4,_⟩ t,m=>by
   rcases List.mem_cons.mp m with z | m
   · rw [h1] at z;cases z;exact ⟨zs,h2,h3,h4⟩
   · exact OwnR.mem t m
theorem OwnR.mut {K:PySem.W.Frag} {H0 R H:Hp} {p:Addr} {o:HO}: ∀{ys:List V} {xss:List (List PyData)},OwnR K H0 R H ys xss→V.ref p ∉ ys→OwnR K H0 R (upd H p o) ys xss
 | _,_,.nil,_=> .nil
 | _,_,.cons ⟨b',zs,h1,h2,h3⟩ t,m=> .cons ⟨b',zs,h1,by rw [upd_ne (fun z=>m (by rw [← z,h1];exact List.mem_cons_self))];exact h2,h3⟩ (OwnR.mut t fun z=>m (List.mem_cons_of_mem _ z))
noncomputable def SlotR (K:PySem.W.Frag) (H0 R H:Hp):Option V→Dt→Prop
 | _,.un=>True
 | some v,.d x=>Rp K R v x
 | some v,.o xs=>∃a ys,v= .ref a∧H a=some (.lst ys)∧R a=none∧H0 a=none∧RpAll K R ys xs
 | some v,.dk kvs=>∃a ys,v= .ref a∧H a=some (.dK ys)∧R a=none∧H0 a=none∧KvR K R ys kvs
 | some v,.dt kvs=>∃a ys,v= .ref a∧H a=some (.dT ys)∧R a=none∧H0 a=none∧KvR K R ys kvs
 | some v,.oo xss=>∃a ys,v= .ref a∧H a=some (.lst ys)∧R a=none∧H0 a=none∧OwnR K H0 R H ys xss∧ys.Nodup∧V.ref a ∉ ys
 | none,_=>False
noncomputable def Dt.has (H:Hp):Dt→Option V→Addr→Prop
 | .un,_,_=>False
 | .d _,_,_=>False
 | .oo _,x,b=>x=some (.ref b)∨∃a ys,x=some (.ref a)∧H a=some (.lst ys)∧V.ref b∈ys
 | _,x,b=>x=some (.ref b)
theorem Dt.has_ref {H:Hp} {d:Dt} {a:Addr} (h:d.own=true):d.has H (some (.ref a)) a:=by
 cases d with
 | un=>cases h
 | d _=>cases h
 | oo _=>exact .inl rfl
 | _=>rfl
theorem Dt.has_own {H:Hp} {d:Dt} {x:Option V} {b:Addr} (h:d.has H x b):d.own=true:=by
 cases d with
 | un=>cases h
 | d _=>cases h
 | _=>rfl
theorem SlotR.next {K:PySem.W.Frag} {H0 R H R' H':Hp} {x:Option V} {d:Dt} (h:SlotR K H0 R H x d) (e:Ext R H R' H'):SlotR K H0 R' H' x d:=by
 cases d with
 | un=>cases x <;> trivial
 | d y=>cases x with
   | none=>exact h
   | some v=>exact Rp.same e.rr h
 | o xs=>cases x with
   | none=>exact h
   | some v=>
     obtain ⟨a,ys,h1,h2,h3,h4,h5⟩:=h
     exact ⟨a,ys,h1,e.hh _ _ h2,e.nn _ _ h2 h3,h4,RpAll.same e.rr h5⟩
 | dk xs=>cases x with
   | none=>exact h
   | some v=>
     obtain ⟨a,ys,h1,h2,h3,h4,h5⟩:=h
     exact ⟨a,ys,h1,e.hh _ _ h2,e.nn _ _ h2 h3,h4,KvR.same e.rr h5⟩
 | dt xs=>cases x with
   | none=>exact h
   | some v=>
     obtain ⟨a,ys,h1,h2,h3,h4,h5⟩:=h
     exact ⟨a,ys,h1,e.hh _ _ h2,e.nn _ _ h2 h3,h4,KvR.same e.rr h5⟩
 | oo xs=>cases x with
   | none=>exact h
   | some v=>
     obtain ⟨a,ys,h1,h2,h3,h4,h5,h6⟩:=h
     exact ⟨a,ys,h1,e.hh _ _ h2,e.nn _ _ h2 h3,h4,h5.next e,h6⟩
theorem SlotR.mut {K:PySem.W.Frag} {H0 R H:Hp} {p:Addr} {o:HO} {x:Option V} {d:Dt} (h:SlotR K H0 R H x d) (ne: ¬d.has H x p):SlotR K H0 R (upd H p o) x d:=by
 cases d with
 | un=>cases x <;> trivial
 | d y=>cases x <;> exact h
 | o xs=>cases x with
   | none=>exact h
   | some v=>
     obtain ⟨a,ys,h1,h2,h3⟩:=h
     subst h1
     exact ⟨a,ys,rfl,by rw [upd_ne (fun z=>ne (by rw [z];exact rfl))];exact h2,h3⟩
 | dk xs=>cases x with
   | none=>exact h
   | some v=>
     obtain ⟨a,ys,h1,h2,h3⟩:=h
     subst h1
     exact ⟨a,ys,rfl,by rw [upd_ne (fun z=>ne (by rw [z];exact rfl))];exact h2,h3⟩
 | dt xs=>cases x with
   | none=>exact h
   | some v=>
     obtain ⟨a,ys,h1,h2,h3⟩:=h
     subst h1
     exact ⟨a,ys,rfl,by rw [upd_ne (fun z=>ne (by rw [z];exact rfl))];exact h2,h3⟩
 | oo xs=>cases x with
   | none=>exact h
   | some v=>
     obtain ⟨a,ys,h1,h2,h3,h4,h5,h6⟩:=h
     subst h1
     exact ⟨a,ys,rfl,by rw [upd_ne (fun z=>ne (.inl (by rw [z])))];exact h2,h3,h4,h5.mut fun z=>ne (.inr ⟨a,ys,rfl,h2,z⟩),h6⟩
theorem SlotR.addr {K:PySem.W.Frag} {H0 R H:Hp} {x:Option V} {d:Dt} (h:SlotR K H0 R H x d) (ho:d.own=true): ∃a o,x=some (.ref a)∧H a=some o∧R a=none∧H0 a=none:=by
 cases d with
 | un=>cases ho
 | d y=>cases ho
 | o xs=>cases x with
   | none=>exact h.elim
   | some v=>obtain ⟨a,ys,rfl,h2,h3,h4,_⟩:=h;exact ⟨a,_,rfl,h2,h3,h4⟩
 | dk xs=>cases x with
   | none=>exact h.elim
   | some v=>obtain ⟨a,ys,rfl,h2,h3,h4,_⟩:=h;exact ⟨a,_,rfl,h2,h3,h4⟩
 | dt xs=>cases x with
   | none=>exact h.elim
   | some v=>obtain ⟨a,ys,rfl,h2,h3,h4,_⟩:=h;exact ⟨a,_,rfl,h2,h3,h4⟩
 | oo xs=>cases x with
   | none=>exact h.elim
   | some v=>obtain ⟨a,ys,rfl,h2,h3,h4,_⟩:=h;exact ⟨a,_,rfl,h2,h3,h4⟩
theorem SlotR.hasAt {K:PySem.W.Frag} {H0 R H:Hp} {x:Option V} {d:Dt} {b:Addr} (h:SlotR K H0 R H x d) (hb:d.has H x b): ∃o,H b=some o∧R b=none∧H0 b=none:=by
 have go:d.own=true→x=some (.ref b)→∃o,H b=some o∧R b=none∧H0 b=none:=fun ho hx=>by
  obtain ⟨a,o,e,h2,h3,h4⟩:=h.addr ho
  rw [hx] at e;cases e
  exact ⟨o,h2,h3,h4⟩
 cases d with
 | un=>cases hb
 | d y=>cases hb
 | oo xs=>
   rcases hb with hb | ⟨a,ys,rfl,h2,m⟩
   · exact go rfl hb
   · obtain ⟨a',ys',e,h2',_,_,h5,_⟩:=h
     cases e
     rw [h2] at h2';cases h2'
     obtain ⟨zs,z⟩:=h5.mem m
     exact ⟨_,z⟩
 | o xs=>exact go rfl hb
 | dk xs=>exact go rfl hb
 | dt xs=>exact go rfl hb
theorem SlotR.hasNext {K:PySem.W.Frag} {H0 R H H':Hp} {x:Option V} {d:Dt} {b:Addr} (h:SlotR K H0 R H x d) (e: ∀a ys,x=some (.ref a)→H a=some (.lst ys)→H' a=some (.lst ys)) (hb:d.has H' x b):d.has H x b:=by
 cases d with
 | un=>cases hb
 | d y=>cases hb
 | oo xs=>
   rcases hb with hb | ⟨a,ys,rfl,h2,m⟩
   · exact .inl hb
   · obtain ⟨a',ys',q,h2',_⟩:=h
     cases q
     rw [e a ys' rfl h2'] at h2;cases h2
     exact .inr ⟨a,_,rfl,h2',m⟩
 | o xs=>exact hb
 | dk xs=>exact hb
 | dt xs=>exact hb
theorem SlotR.hasMut {K:PySem.W.Frag} {H0 R H:Hp} {p:Addr} {o:HO} {x:Option V} {d:Dt} {b:Addr} (h:SlotR K H0 R H x d) (ne: ¬d.has H x p) (hb:d.has (upd H p o) x b):d.has H x b:=
 h.hasNext (fun a ys hx e=>by rw [upd_ne (fun z=>ne (by rw [hx,z];exact Dt.has_ref (Dt.has_own hb)))];exact e) hb
structure Fra (He:Hp) (K:PySem.W.Frag) (H0 R H:Hp) (σ:St) (env:List Dt):Prop where
 at0:Same He H0
 ext:Ext H0 H0 R H
 len:σ.length=env.length
 slot: ∀(i:Nat) (d:Dt),env[i]?=some d→SlotR K H0 R H (σ[i]?).join d
 apart: ∀(i j:Nat) (di dj:Dt) (b:Addr),env[i]?=some di→env[j]?=some dj→di.has H (σ[i]?).join b→dj.has H (σ[j]?).join b→i=j
section
variable {He:Hp} {K:PySem.W.Frag} {H0 R H R' H':Hp} {σ:St} {env:List Dt}
theorem Fra.wd (f:Fra He K H0 R H σ env):Wd R H:=f.ext.wd
theorem Fra.next (f:Fra He K H0 R H σ env) (e:Ext R H R' H'):Fra He K H0 R' H' σ env:=⟨f.at0,f.ext.trans e,f.len,fun i d h=>(f.slot i d h).next e,fun i j di dj b hi hj bi bj=>f.apart i j di dj b hi hj ((f.slot i di hi).hasNext (fun a ys q_ z=>e.hh a _ z) bi) ((f.slot j dj hj).hasNext (fun a ys q_ z=>e.hh a _ z) bj)⟩
theorem Fra.get (f:Fra He K H0 R H σ env) {i:Nat} {d:Dt} (h:env[i]?=some d) (hu:d≠ .un): ∃v,σ[i]?=some (some v)∧SlotR K H0 R H (some v) d:=by
 have q:=f.slot i d h
 cases e:σ[i]? with
 | none=>
   rw [e] at q
   cases d <;> first | exact absurd rfl hu | exact q.elim
 | some x=>
   cases x with
   | none=>
     rw [e] at q
     cases d <;> first | exact absurd rfl hu | exact q.elim
   | some v=>rw [e] at q;exact ⟨v,rfl,q⟩
theorem Fra.data (f:Fra He K H0 R H σ env) {i:Nat} {d:PyData} (h:env[i]?=some (.d d)): ∃v,σ[i]?=some (some v)∧Rp K R v d:=f.get h (by intro z;cases z)
set_option tactic.hygienic true in
theorem Fra.set (f:Fra He K H0 R H σ env) (i:Nat) {v:V} {d:Dt} (h:SlotR K H0 R H (some v) d) (ha: ∀(b:Addr),d.has H (some v) b→∀(j:Nat) (dj:Dt),j≠i→env[j]?=some dj→¬dj.has H (σ[j]?).join b):Fra He K H0 R H (σ.set i (some v)) (env.set i d):=by
 have g: ∀k,(σ.set i (some v))[k]?=if i=k then (if i < σ.length then some (some v) else none) else σ[k]?:=fun k=>List.getElem?_set ..
 have ge: ∀k,(env.set i d)[k]?=if i=k then (if i < env.length then some d else none) else env[k]?:=fun k=>List.getElem?_set ..
 refine ⟨f.at0,f.ext,by simp [f.len],fun k x e=> ?_,fun k j dk dj a ek ej ok oj=> ?_⟩
 · rw [ge] at e
   rw [g,f.len]
   by_cases hk:i=k
   · rw [if_pos hk] at e ⊢
     split at e
     · rename_i hl
       cases e
       rw [if_pos hl];exact h
     · cases e
   · rw [if_neg hk] at e ⊢
     exact f.slot k x e
 · rw [ge] at ek ej
   rw [g,f.len] at ok oj
   by_cases hk:i=k <;> by_cases hj:i=j
   · rw [← hk,hj]
   · rw [if_pos hk] at ek ok
     rw [if_neg hj] at ej oj
     split at ek
     · rename_i hl
       cases ek
       rw [if_pos hl] at ok
       exact absurd oj (ha a ok j dj (fun z=>hj z.symm) ej)
     · cases ek
   · rw [if_neg hk] at ek ok
     rw [if_pos hj] at ej oj
     split at ej
     · rename_i hl
       cases ej
       rw [if_pos hl] at oj
       exact absurd ok (ha a oj k dk (fun z=>hk z.symm) ek)
     · cases ej
   · rw [if_neg hk] at ek ok
     rw [if_neg hj] at ej oj
     exact f.apart k j dk dj a ek ej ok oj
theorem Fra.setD (f:Fra He K H0 R H σ env) (i:Nat) {v:V} {d:PyData} (h:Rp K R v d):Fra He K H0 R H (σ.set i (some v)) (env.set i (.d d)):=f.set i h (fun q_ z=>by cases z)
theorem Fra.setN' (f:Fra He K H0 R H σ env) (e:Ext R H R' H') (i:Nat) {v:V} {d:Dt} (h:SlotR K H0 R' H' (some v) d) (hn: ∀b,d.has H' (some v) b→H b=none):Fra He K H0 R' H' (σ.set i (some v)) (env.set i d):=
 (f.next e).set i h fun b hb j dj q_ ej oj=>by
   have oj:=(f.slot j dj ej).hasNext (fun a ys q_ z=>e.hh a _ z) oj
   obtain ⟨o,e2,_⟩:=(f.slot j dj ej).hasAt oj
   rw [hn b hb] at e2
   cases e2
theorem Fra.setN (f:Fra He K H0 R H σ env) (e:Ext R H R' H') (i:Nat) {a:Addr} {d:Dt} (hn:H a=none) (h:SlotR K H0 R' H' (some (.ref a)) d) (hd:autoParam (∀ b,d.has H' (some (.ref a)) b→a=b) u8._auto_1):Fra He K H0 R' H' (σ.set i (some (.ref a))) (env.set i d):=
 f.setN' e i h fun b hb=>by rw [← hd b hb];exact hn
theorem Fra.mut' (f:Fra He K H0 R H σ env) {i:Nat} {a:Addr} {d d':Dt} {o:HO} (h:env[i]?=some d) (hs:d.has H (σ[i]?).join a) (lo:Loose o)
 (h':SlotR K H0 R (upd H a o) (σ[i]?).join d') (hn: ∀b,d'.has (upd H a o) (σ[i]?).join b→d.has H (σ[i]?).join b∨∀(j:Nat) (dj:Dt),j≠i→env[j]?=some dj→¬dj.has H (σ[j]?).join b):Fra He K H0 R (upd H a o) σ (env.set i d'):=by
 obtain ⟨u,e2,e3,e4⟩:=(f.slot i d h).hasAt hs
 have ge: ∀k,(env.set i d')[k]?=if i=k then (if i < env.length then some d' else none) else env[k]?:=fun k=>List.getElem?_set ..
 have w:=Wd.mut (o:=o) f.wd e3 lo
 have nh: ∀(k:Nat) (x:Dt),i≠k→env[k]?=some x→¬x.has H (σ[k]?).join a:=fun k x hk e z=>hk (f.apart i k d x a h e hs z)
 have two: ∀(k j:Nat) (dk dj:Dt) (b:Addr),i=k→i≠j→(if i < env.length then some d' else none)=some dk→env[j]?=some dj→dk.has (upd H a o) (σ[k]?).join b→dj.has (upd H a o) (σ[j]?).join b→False:=fun k j dk dj b hk hj ek ej ok oj=>by
  subst hk
  split at ek
  · cases ek
    have oj:=(f.slot j dj ej).hasMut (nh j dj hj ej) oj
    rcases hn b ok with ok | nb
    · exact hj (f.apart i j d dj b h ej ok oj)
    · exact nb j dj (fun z=>hj z.symm) ej oj
  · cases ek
 refine ⟨f.at0,⟨f.ext.hh.put e4,f.ext.rr,w.rh,f.ext.nn,w.ls⟩,by simp [f.len],fun k x e=> ?_,fun k j dk dj b ek ej ok oj=> ?_⟩
 · rw [ge] at e
   by_cases hk:i=k
   · subst hk
     rw [if_pos rfl] at e
     split at e
     · cases e
       exact h'
     · cases e
   · rw [if_neg hk] at e
     exact (f.slot k x e).mut (nh k x hk e)
 · rw [ge] at ek ej
   by_cases hk:i=k <;> by_cases hj:i=j
   · rw [← hk,hj]
   · rw [if_pos hk] at ek
     rw [if_neg hj] at ej
     exact (two k j dk dj b hk hj ek ej ok oj).elim
   · rw [if_neg hk] at ek
     rw [if_pos hj] at ej
     exact (two j k dj dk b hj hk ej ek oj ok).elim
   · rw [if_neg hk] at ek
     rw [if_neg hj] at ej
     exact f.apart k j dk dj b ek ej ((f.slot k dk ek).hasMut (nh k dk hk ek) ok) ((f.slot j dj ej).hasMut (nh j dj hj ej) oj)
theorem Fra.mut (f:Fra He K H0 R H σ env) {i:Nat} {a:Addr} {d d':Dt} {o:HO} (h:env[i]?=some d) (hd:d.own=true) (hs:σ[i]?=some (some (.ref a))) (lo:Loose o)
 (h':SlotR K H0 R (upd H a o) (some (.ref a)) d') (hd':autoParam (∀ b,d'.has (upd H a o) (some (.ref a)) b→a=b) u8._auto_1):Fra He K H0 R (upd H a o) σ (env.set i d'):=by
 have hj:(σ[i]?).join=some (.ref a):=by rw [hs];rfl
 refine f.mut' h (by rw [hj];exact Dt.has_ref hd) lo (by rw [hj];exact h') fun b z=> .inl ?_
 rw [hj] at z ⊢
 rw [← hd' b z]
 exact Dt.has_ref hd
theorem SlotR.grow {K:PySem.W.Frag} {H0 R H R':Hp} {x:Option V} {d:Dt} (h:SlotR K H0 R H x d) (s:Same R R') (hn: ∀b,d.has H x b→R' b=none):SlotR K H0 R' H x d:=by
 cases d with
 | un=>cases x <;> trivial
 | d y=>cases x with
   | none=>exact h
   | some v=>exact Rp.same s h
 | o xs=>cases x with
   | none=>exact h
   | some v=>
     obtain ⟨a,ys,rfl,h2,h3,h4,h5⟩:=h
     exact ⟨a,ys,rfl,h2,hn a rfl,h4,RpAll.same s h5⟩
 | dk xs=>cases x with
   | none=>exact h
   | some v=>
     obtain ⟨a,ys,rfl,h2,h3,h4,h5⟩:=h
     exact ⟨a,ys,rfl,h2,hn a rfl,h4,KvR.same s h5⟩
 | dt xs=>cases x with
   | none=>exact h
   | some v=>
     obtain ⟨a,ys,rfl,h2,h3,h4,h5⟩:=h
     exact ⟨a,ys,rfl,h2,hn a rfl,h4,KvR.same s h5⟩
 | oo xs=>cases x with
   | none=>exact h
   | some v=>
     obtain ⟨a,ys,rfl,h2,h3,h4,h5,h6⟩:=h
     refine ⟨a,ys,rfl,h2,hn a (.inl rfl),h4,?_,h6⟩
     have hm: ∀b,V.ref b∈ys→R' b=none:=fun b m=>hn b (.inr ⟨a,ys,rfl,h2,m⟩)
     clear h2 h6 hn
     induction h5 with
     | nil=>exact .nil
     | cons h t ih=>
       obtain ⟨b,zs,e1,e2,e3,e4,e5⟩:=h
       exact .cons ⟨b,zs,e1,e2,hm b (by rw [e1];exact List.mem_cons_self),e4,RpAll.same s e5⟩ (ih fun b m=>hm b (List.mem_cons_of_mem _ m))
theorem Fra.give (f:Fra He K H0 R H σ env) {i:Nat} {d d':Dt} (h:env[i]?=some d) (hr:Same R R') (hR: ∀b o,R' b=some o→R b=some o∨d.has H (σ[i]?).join b∧H b=some o) (h':SlotR K H0 R' H (σ[i]?).join d') (hn: ∀b,d'.has H (σ[i]?).join b→d.has H (σ[i]?).join b):Fra He K H0 R' H σ (env.set i d'):=by
 have ge: ∀k,(env.set i d')[k]?=if i=k then (if i < env.length then some d' else none) else env[k]?:=fun k=>List.getElem?_set ..
 refine ⟨f.at0,⟨f.ext.hh,f.ext.rr.trans hr,fun b o e=> ?_,fun b o e n=> ?_,fun b o e n=> ?_⟩,by simp [f.len],fun k x e=> ?_,fun k j dk dj b ek ej ok oj=> ?_⟩
 · rcases hR b o e with z | z
   · exact f.ext.rh b o z
   · exact z.2
 · rw [e] at n;cases n
 · cases q:R b with
   | none=>exact f.ext.ls b o e q
   | some u=>rw [hr b u q] at n;cases n
 · rw [ge] at e
   by_cases hk:i=k
   · subst hk
     rw [if_pos rfl] at e
     split at e
     · cases e;exact h'
     · cases e
   · rw [if_neg hk] at e
     refine (f.slot k x e).grow hr fun b hb=> ?_
     cases q:R' b with
     | none=>rfl
     | some o=>
       rcases hR b o q with z | z
       · obtain ⟨_,_,z2,_⟩:=(f.slot k x e).hasAt hb
         rw [z] at z2;cases z2
       · exact absurd (f.apart i k d x b h e z.1 hb) hk
 · have old: ∀(k:Nat) (dk:Dt),(env.set i d')[k]?=some dk→dk.has H (σ[k]?).join b→∃dk0,env[k]?=some dk0∧dk0.has H (σ[k]?).join b:=fun k dk ek ok=>by
    rw [ge] at ek
    by_cases hk:i=k
    · subst hk
      rw [if_pos rfl] at ek
      split at ek
      · cases ek;exact ⟨d,h,hn b ok⟩
      · cases ek
    · rw [if_neg hk] at ek
      exact ⟨dk,ek,ok⟩
   obtain ⟨d1,e1,o1⟩:=old k dk ek ok
   obtain ⟨d2,e2,o2⟩:=old j dj ej oj
   exact f.apart k j d1 d2 b e1 e2 o1 o2
theorem Fra.frz1 (f:Fra He K H0 R H σ env) {i:Nat} {xs:List PyData} (h:env[i]?=some (.o xs)): ∃a ys,σ[i]?=some (some (.ref a))∧H a=some (.lst ys)∧R a=none∧Same R (upd R a (.lst ys))∧Fra He K H0 (upd R a (.lst ys)) H σ (env.set i (.d (.list xs))):=by
 obtain ⟨v,hs,a,ys,rfl,h2,h3,h4,h5⟩:=f.get h (by intro z;cases z)
 have hr:Same R (upd R a (.lst ys)):=Same.new h3
 have hj:(σ[i]?).join=some (.ref a):=by rw [hs];rfl
 refine ⟨a,ys,hs,h2,h3,hr,f.give h hr (fun b o e=> ?_) (by rw [hj];exact .lst upd_same (RpAll.same hr h5)) (fun b z=>by cases z)⟩
 by_cases hb:b=a
 · subst hb;rw [upd_same] at e;cases e;exact .inr ⟨by rw [hj];exact rfl,h2⟩
 · rw [upd_ne hb] at e;exact .inl e
theorem Fra.frz (f:Fra He K H0 R H σ env) {i:Nat} {xs:List PyData} (h:env[i]?=some (.o xs)): ∃R',Same R R'∧Fra He K H0 R' H σ (env.set i (.d (.list xs))):=by
 obtain ⟨a,ys,_,_,_,hr,F⟩:=f.frz1 h
 exact ⟨_,hr,F⟩
end
noncomputable abbrev De:=List Dt→(PyData→Prop)→Prop
noncomputable abbrev Dq:=List Dt→(List PyData→Prop)→Prop
noncomputable abbrev Db:=List Dt→(Bool→Prop)→Prop
section
variable (He:Hp) (K:PySem.W.Frag) {ι:Type} (Y:ι→Cx)
noncomputable def DE (e:Expr) (t:De):Prop:=∃te:TE,(∀ i,PE (Y i) e te)∧∀{H0 R H:Hp} {σ:St} {env:List Dt} (P:PyData→Prop) (Q:VK),Fra He K H0 R H σ env→t env P→
 (∀ d v R' H',P d→Ext R H R' H'→Rp K R' v d→Q v H')→te σ H Q
noncomputable def DB (e:Expr) (t:De):Prop:=∃te:TE,(∀ i,PE (Y i) e te)∧∀{H0 R H:Hp} {σ:St} {env:List Dt} (P:PyData→Prop) (Q:VK),Fra He K H0 R H σ env→t env P→
 (∀ d v R' H',P d→Ext R H R' H'→Rp K H' v d→Q v H')→te σ H Q
noncomputable def DQ (e:Expr) (t:Dq):Prop:=∃te:TE,(∀ i,PE (Y i) e te)∧∀{H0 R H:Hp} {σ:St} {env:List Dt} (P:List PyData→Prop) (Q:VK),Fra He K H0 R H σ env→t env P→
 (∀ ds a ys R' H',P ds→Ext R H R' H'→(SqL K H' a ys∨SqT K H' a ys)→RpAll K R' ys ds→Q (.ref a) H')→te σ H Q
noncomputable def DO (e:Expr) (t:Dq):Prop:=∃te:TE,(∀ i,PE (Y i) e te)∧∀{H0 R H:Hp} {σ:St} {env:List Dt} (P:List PyData→Prop) (Q:VK),Fra He K H0 R H σ env→t env P→
 (∀ ds a ys R' H',P ds→Ext R H R' H'→H a=none→H' a=some (.lst ys)→R' a=none→RpAll K R' ys ds→Q (.ref a) H')→te σ H Q
noncomputable def DT (e:Expr) (t:Db):Prop:=∃te:TT,(∀ i,PT (Y i) e te)∧∀{H0 R H:Hp} {σ:St} {env:List Dt} (P:Bool→Prop) (Q:Bool→Hp→Prop),Fra He K H0 R H σ env→t env P→
 (∀ b R' H',P b→Ext R H R' H'→Q b H')→te σ H Q
noncomputable def DW (e:Expr) (t:Db):Prop:=∃te:TT,(∀ i,PW (Y i) e te)∧∀{H0 R H:Hp} {σ:St} {env:List Dt} (P:Bool→Prop) (Q:Bool→Hp→Prop),Fra He K H0 R H σ env→t env P→
 (∀ b R' H',P b→Ext R H R' H'→Q b H')→te σ H Q
noncomputable def DA (es:List Expr) (t:Dq):Prop:=∃te:TA,(∀ i,PA (Y i) es te)∧∀{H0 R H:Hp} {σ:St} {env:List Dt} (P:List PyData→Prop) (Q:List V→Hp→Prop),Fra He K H0 R H σ env→t env P→
 (∀ ds vs R' H',P ds→Ext R H R' H'→RpAll K R' vs ds→Q vs H')→te σ H Q
noncomputable def DAb (es:List Expr) (t:Dq):Prop:=∃te:TA,(∀ i,PA (Y i) es te)∧∀{H0 R H:Hp} {σ:St} {env:List Dt} (P:List PyData→Prop) (Q:List V→Hp→Prop),Fra He K H0 R H σ env→t env P→
 (∀ ds vs R' H',P ds→Ext R H R' H'→RpAll K H' vs ds→Q vs H')→te σ H Q
noncomputable def Sc (v:V) (d:PyData):Prop:=∀(K:PySem.W.Frag) (R:Hp),Rp K R v d
noncomputable def OD (f:Value→Value→Sem Value) (r:PyData→PyData→(PyData→Prop)→Prop):Prop:=∃rr:R2,(∀ i,OpR (Y i) f rr)∧∀{H:Hp} {x y:V} {dx dy:PyData} (P:PyData→Prop) (Q:VK),Rp K H x dx→Rp K H y dy→r dx dy P→
 (∀ d v,P d→Sc v d→Q v H)→rr x y H Q
end
section
variable {He:Hp} {K:PySem.W.Frag} {ι:Type} {Y:ι→Cx} {e a b c:Expr} {es:List Expr} {pos:Pos}
noncomputable def xVar (i:Nat):De:=fun env P=>∃d,env[i]?=some (.d d)∧P d
noncomputable def xC (d:PyData):De:=fun q_ P=>P d
theorem de_var (i:Nat) {x:Str} (h:autoParam (∀ j,PE (Y j) (.Name x pos) (tVar i)) u9._auto_1):DE He K Y (.Name x pos) (xVar i):=
 ⟨_,h,fun P Q f ⟨d,e,p⟩ k=>by obtain ⟨v,h1,h2⟩:=f.data e;exact ⟨v,h1,k d v _ _ p (.refl f.wd) h2⟩⟩
theorem de_int {i:Int} {j}:DE He K Y (.Constant (.int i) j pos) (xC (.int i)):=⟨_,fun q_=>pe_int,fun P Q f p k=>k _ _ _ _ p (.refl f.wd) (.int i)⟩
theorem de_bl {i:Bool} {j}:DE He K Y (.Constant (.bool i) j pos) (xC (.bool i)):=⟨_,fun q_=>pe_bl,fun P Q f p k=>k _ _ _ _ p (.refl f.wd) (.bl i)⟩
theorem de_non {j}:DE He K Y (.Constant .none j pos) (xC .none):=⟨_,fun q_=>pe_non,fun P Q f p k=>k _ _ _ _ p (.refl f.wd) .non⟩
theorem de_str {x:Str} {j}:DE He K Y (.Constant (.str x) j pos) (xC (.str x)):=⟨_,fun q_=>pe_str,fun P Q f p k=>k _ _ _ _ p (.refl f.wd) (.str x)⟩
theorem DE.bw {t:De} (h:DE He K Y e t):DB He K Y e t:=by
 obtain ⟨te,h1,h2⟩:=h
 exact ⟨te,h1,fun P Q f p k=>h2 P Q f p fun d v R' H' pd e r=>k d v R' H' pd e (Rp.same e.rh r)⟩
noncomputable def frzD:Dt→Option PyData
 | .d x=>some x
 | .o xs=>some (.list xs)
 | .oo xss=>some (.list (xss.map PyData.list))
 | _=>none
theorem OwnR.rp {K:PySem.W.Frag} {H0 R H H':Hp} {ys:List V} {xss:List (List PyData)} (h:OwnR K H0 R H ys xss) (s:Same R H') (e: ∀b zs,V.ref b∈ys→H b=some (.lst zs)→H' b=some (.lst zs)):RpAll K H' ys (xss.map PyData.list):=by
 induction h with
 | nil=>exact .nil
 | cons h t ih=>
   obtain ⟨b,zs,rfl,e2,e3,e4,e5⟩:=h
   exact .cons (.lst (e b zs List.mem_cons_self e2) (RpAll.same s e5)) (ih fun b zs m=>e b zs (List.mem_cons_of_mem _ m))
noncomputable def xVarB (i:Nat):De:=fun env P=>∃s d,env[i]?=some s∧frzD s=some d∧P d
theorem db_var (i:Nat) {x:Str} (h:autoParam (∀ j,PE (Y j) (.Name x pos) (tVar i)) u9._auto_1):DB He K Y (.Name x pos) (xVarB i):=
 ⟨_,h,fun P Q f ⟨s,d,e,z,p⟩ k=>by
   cases s with
   | d x=>
     cases z
     obtain ⟨v,h1,h2⟩:=f.data e
     exact ⟨v,h1,k d v _ _ p (.refl f.wd) (Rp.same f.wd.rh h2)⟩
   | o xs=>
     cases z
     obtain ⟨v,hs,a,ys,rfl,h2,h3,h4,h5⟩:=f.get e (by intro z;cases z)
     exact ⟨_,hs,k _ _ _ _ p (.refl f.wd) (.lst h2 (RpAll.same f.wd.rh h5))⟩
   | oo xs=>
     cases z
     obtain ⟨v,hs,a,ys,rfl,h2,h3,h4,h5,_⟩:=f.get e (by intro z;cases z)
     exact ⟨_,hs,k _ _ _ _ p (.refl f.wd) (.lst h2 (h5.rp f.wd.rh fun q_ q_ q_ z=>z))⟩
   | un=>cases z
   | dk _=>cases z
   | dt _=>cases z⟩
noncomputable def excK:List (PyData×PyData)→Bool
 | (.bool _,_)::_=>true
 | _=>false
theorem excK_scr (ns:List Int):excK (ns.map fun n=>(PyData.int n,PyData.none))=false:=by cases ns <;> rfl
noncomputable def seqD:PyData→Option (List PyData)
 | .list xs=>some xs
 | .tuple xs=>some xs
 | .dict kvs=>if excK kvs=true then none else some (kvs.map (·.1))
 | _=>none
noncomputable def seqS:Dt→Option (List PyData)
 | .d x=>seqD x
 | .o xs=>some xs
 | _=>none
theorem seq_inv {H:Hp} {v:V} {d:PyData} {l:List PyData} (r:Rp K H v d) (h:seqD d=some l): ∃a ys,v= .ref a∧(SqL K H a ys∨SqT K H a ys)∧RpAll K H ys l:=by
 cases r with
 | lst h1 h2=>cases h;exact ⟨_,_,rfl,.inl (SqL.of h1),h2⟩
 | @scr a ns h1=>
   have h:(if excK (ns.map fun n=>(PyData.int n,PyData.none))=true then none else some ((ns.map fun n=>(PyData.int n,PyData.none)).map (·.1)))=some l:=h
   rw [excK_scr,if_neg Bool.false_ne_true,List.map_map] at h
   cases h
   exact ⟨_,_,rfl,.inl h1,RpAll.ints ns⟩
 | tup h1 h2=>cases h;exact ⟨_,_,rfl,.inr (SqT.of h1),h2⟩
 | non=>cases h
 | bl _=>cases h
 | int _=>cases h
 | str _=>cases h
 | any=>cases h
 | xc _=>cases h
theorem Same.seqT {H H':Hp} {a:Addr} {xs:List V} (e:Same H H') (h:SqT K H a xs):SqT K H' a xs:=(Same.tk e).sqT h
theorem Same.sq {H H':Hp} {a:Addr} {xs:List V} (e:Same H H') (h:SqL K H a xs∨SqT K H a xs):SqL K H' a xs∨SqT K H' a xs:=h.imp e.seq e.seqT
noncomputable def xSeq (t:De):Dq:=fun env P=>t env fun d=>∃l,seqD d=some l∧P l
noncomputable def xVarQ (i:Nat):Dq:=fun env P=>∃s l,env[i]?=some s∧seqS s=some l∧P l
theorem dq_var (i:Nat) {x:Str} (h:autoParam (∀ j,PE (Y j) (.Name x pos) (tVar i)) u9._auto_1):DQ He K Y (.Name x pos) (xVarQ i):=
 ⟨_,h,fun P Q f ⟨s,l,e,z,p⟩ k=>by
   cases s with
   | d x=>
     obtain ⟨v,h1,h2⟩:=f.data e
     obtain ⟨a,ys,rfl,h3,h4⟩:=seq_inv h2 z
     exact ⟨_,h1,k l a ys _ _ p (.refl f.wd) (f.wd.rh.sq h3) h4⟩
   | o xs=>
     cases z
     obtain ⟨v,hs,a,ys,rfl,h2,h3,h4,h5⟩:=f.get e (by intro z;cases z)
     exact ⟨_,hs,k _ a ys _ _ p (.refl f.wd) (.inl (SqL.of h2)) h5⟩
   | un=>cases z
   | oo _=>cases z
   | dk _=>cases z
   | dt _=>cases z⟩
noncomputable def xLst (t:Dq):De:=fun env P=>t env fun l=>P (.list l)
theorem DO.ew {t:Dq} (h:DO He K Y e t):DE He K Y e (xLst t):=by
 obtain ⟨te,h1,h2⟩:=h
 refine ⟨te,h1,fun P Q f p k=>h2 _ Q f p fun ds a ys R' H' pl e hn ha hr r=> ?_⟩
 have s:=Same.new (H:=R') (p:=a) (o:= .lst ys) hr
 refine k _ _ (upd R' a (.lst ys)) H' pl ⟨e.hh,e.rr.trans s,fun b o z=> ?_,fun b o z n=> ?_,fun b o z n=> ?_⟩ (.lst upd_same (RpAll.same s r))
 · by_cases hb:b=a
   · subst hb;rw [upd_same] at z;cases z;exact ha
   · rw [upd_ne hb] at z;exact e.rh b o z
 · rw [upd_ne (ne_of_none z hn)];exact e.nn b o z n
 · by_cases hb:b=a
   · subst hb;rw [upd_same] at n;cases n
   · rw [upd_ne hb] at n;exact e.ls b o z n
theorem DO.q {t:Dq} (h:DO He K Y e t):DQ He K Y e t:=by
 obtain ⟨te,h1,h2⟩:=h
 exact ⟨te,h1,fun P Q f p k=>h2 P Q f p fun ds a ys R' H' pl e hn ha hr r=>k ds a ys R' H' pl e (.inl (SqL.of ha)) r⟩
theorem DO.bw {t:Dq} (h:DO He K Y e t):DB He K Y e (xLst t):=h.ew.bw
noncomputable def x2 (r:PyData→PyData→(PyData→Prop)→Prop) (ta tb:De):De:=fun env P=>ta env fun x=>tb env fun y=>r x y P
theorem x2_run {f:Value→Value→Sem Value} {r:PyData→PyData→(PyData→Prop)→Prop} {ta tb:De} {te te':TE} {rr:R2}
 (ha: ∀{H0 R H:Hp} {σ:St} {env:List Dt} (P:PyData→Prop) (Q:VK),Fra He K H0 R H σ env→ta env P→(∀ d v R' H',P d→Ext R H R' H'→Rp K H' v d→Q v H')→te σ H Q)
 (hb: ∀{H0 R H:Hp} {σ:St} {env:List Dt} (P:PyData→Prop) (Q:VK),Fra He K H0 R H σ env→tb env P→(∀ d v R' H',P d→Ext R H R' H'→Rp K H' v d→Q v H')→te' σ H Q)
 (ho: ∀{H:Hp} {x y:V} {dx dy:PyData} (P:PyData→Prop) (Q:VK),Rp K H x dx→Rp K H y dy→r dx dy P→(∀ d v,P d→Sc v d→Q v H)→rr x y H Q)
 {H0 R H:Hp} {σ:St} {env:List Dt} (P:PyData→Prop) (Q:VK) (F:Fra He K H0 R H σ env) (p:x2 r ta tb env P) (k: ∀d v R' H',P d→Ext R H R' H'→Rp K R' v d→Q v H'):tOp rr te te' σ H Q:=by
 refine ha _ _ F p fun d v R1 H1 p1 e1 r1=> ?_
 refine hb _ _ (F.next e1) p1 fun d2 v2 R2 H2 p2 e2 r2=> ?_
 exact ho P _ (Rp.same e2.hh r1) r2 p2 fun d3 v3 p3 s3=>k d3 v3 R2 H2 p3 (e1.trans e2) (s3 K R2)
theorem de_bin {op:Operator} {r:PyData→PyData→(PyData→Prop)→Prop} {ta tb:De} (o:OD K Y (binaryOp op) r) (ha:DB He K Y a ta) (hb:DB He K Y b tb):DE He K Y (.BinOp a op b pos) (x2 r ta tb):=by
 obtain ⟨te,h1,h2⟩:=ha
 obtain ⟨te',h3,h4⟩:=hb
 obtain ⟨rr,h5,h6⟩:=o
 exact ⟨_,fun i=>pe_op (h5 i) (h1 i) (h3 i),fun P Q F p k=>x2_run (f:=binaryOp op) h2 h4 h6 P Q F p k⟩
theorem de_cmp {op:CmpOp} {r:PyData→PyData→(PyData→Prop)→Prop} {ta tb:De} (o:OD K Y (compareOp op) r) (ha:DB He K Y a ta) (hb:DB He K Y b tb) (hm:autoParam (behindInMarks op b=false) u10._auto_1):DE He K Y (.Compare a [op] [b] pos) (x2 r ta tb):=by
 obtain ⟨te,h1,h2⟩:=ha
 obtain ⟨te',h3,h4⟩:=hb
 obtain ⟨rr,h5,h6⟩:=o
 exact ⟨_,fun i=>pe_cmpR (h5 i) (h1 i) (h3 i) hm,fun P Q F p k=>x2_run (f:=compareOp op) h2 h4 h6 P Q F p k⟩
noncomputable def xB (t:De):Db:=fun env P=>t env fun d=>∃b,d= .bool b∧P b
theorem dt_cmp {op:CmpOp} {r:PyData→PyData→(PyData→Prop)→Prop} {ta tb:De} (o:OD K Y (compareOp op) r) (ha:DB He K Y a ta) (hb:DB He K Y b tb) (hm:autoParam (behindInMarks op b=false) u10._auto_1):DT He K Y (.Compare a [op] [b] pos) (xB (x2 r ta tb)):=by
 obtain ⟨te,h1,h2⟩:=ha
 obtain ⟨te',h3,h4⟩:=hb
 obtain ⟨rr,h5,h6⟩:=o
 refine ⟨_,fun i=>pt_cmpR (h5 i) (h1 i) (h3 i) hm,fun P Q F p k=>x2_run (f:=compareOp op) h2 h4 h6 _ _ F p fun d v R' H' ⟨b,eb,pb⟩ e r=> ?_⟩
 subst eb
 exact ⟨b,r.bl_inv,k b R' H' pb e⟩
noncomputable def xChain (r r':PyData→PyData→(PyData→Prop)→Prop) (ta tb tc:De):De:=fun env P=>ta env fun x=>tb env fun y=>r x y fun z=>∃k,z= .bool k∧if k=true then tc env fun w=>r' y w P else P (.bool false)
theorem xchain_run {r r':PyData→PyData→(PyData→Prop)→Prop} {ta tb tc:De} {te te' te'':TE} {rr rr':R2}
 (ha: ∀{H0 R H:Hp} {σ:St} {env:List Dt} (P:PyData→Prop) (Q:VK),Fra He K H0 R H σ env→ta env P→(∀ d v R' H',P d→Ext R H R' H'→Rp K H' v d→Q v H')→te σ H Q)
 (hb: ∀{H0 R H:Hp} {σ:St} {env:List Dt} (P:PyData→Prop) (Q:VK),Fra He K H0 R H σ env→tb env P→(∀ d v R' H',P d→Ext R H R' H'→Rp K H' v d→Q v H')→te' σ H Q)
 (hc: ∀{H0 R H:Hp} {σ:St} {env:List Dt} (P:PyData→Prop) (Q:VK),Fra He K H0 R H σ env→tc env P→(∀ d v R' H',P d→Ext R H R' H'→Rp K H' v d→Q v H')→te'' σ H Q)
 (ho: ∀{H:Hp} {x y:V} {dx dy:PyData} (P:PyData→Prop) (Q:VK),Rp K H x dx→Rp K H y dy→r dx dy P→(∀ d v,P d→Sc v d→Q v H)→rr x y H Q)
 (ho': ∀{H:Hp} {x y:V} {dx dy:PyData} (P:PyData→Prop) (Q:VK),Rp K H x dx→Rp K H y dy→r' dx dy P→(∀ d v,P d→Sc v d→Q v H)→rr' x y H Q)
 {H0 R H:Hp} {σ:St} {env:List Dt} (P:PyData→Prop) (Q:VK) (F:Fra He K H0 R H σ env) (p:xChain r r' ta tb tc env P) (k: ∀d v R' H',P d→Ext R H R' H'→Rp K R' v d→Q v H'):tChain rr rr' te te' te'' σ H Q:=by
 refine ha _ _ F p fun d v R1 H1 p1 e1 r1=> ?_
 refine hb _ _ (F.next e1) p1 fun d2 v2 R2 H2 p2 e2 r2=> ?_
 refine ho _ _ (Rp.same e2.hh r1) r2 p2 fun d3 v3 ⟨b,eb,p3⟩ s3=> ?_
 subst eb
 have ev:=(s3 K R2).bl_inv
 subst ev
 refine ⟨b,rfl,?_⟩
 cases b with
 | true=>
   rw [if_pos rfl] at p3 ⊢
   refine hc _ _ (F.next (e1.trans e2)) p3 fun d4 v4 R4 H4 p4 e4 r4=> ?_
   exact ho' P _ (Rp.same e4.hh r2) r4 p4 fun d5 v5 p5 s5=>k d5 v5 R4 H4 p5 ((e1.trans e2).trans e4) (s5 K R4)
 | false=>
   rw [if_neg Bool.false_ne_true] at p3 ⊢
   exact k _ _ R2 H2 p3 (e1.trans e2) (.bl false)
theorem dt_chain {op op':CmpOp} {r r':PyData→PyData→(PyData→Prop)→Prop} {ta tb tc:De} (o:OD K Y (compareOp op) r) (o':OD K Y (compareOp op') r') (ha:DB He K Y a ta) (hb:DB He K Y b tb) (hc:DB He K Y c tc)
 (hm:autoParam (lastMarks [op,op'] [b,c]=false) u6._auto_1):DT He K Y (.Compare a [op,op'] [b,c] pos) (xB (xChain r r' ta tb tc)):=by
 obtain ⟨te,h1,h2⟩:=ha
 obtain ⟨te',h3,h4⟩:=hb
 obtain ⟨te'',h7,h8⟩:=hc
 obtain ⟨rr,h5,h6⟩:=o
 obtain ⟨rr',h9,h10⟩:=o'
 refine ⟨_,fun i=>pt_chain (h5 i) (h9 i) (h1 i) (h3 i) (h7 i) hm,fun P Q F p k=>xchain_run h2 h4 h8 h6 h10 _ _ F p fun d v R' H' ⟨b,eb,pb⟩ e r=> ?_⟩
 subst eb
 exact ⟨b,r.bl_inv,k b R' H' pb e⟩
noncomputable def rdI0 (g:Int→Int→PyData):PyData→PyData→(PyData→Prop)→Prop:=fun x y P=>∃i j,x= .int i∧y= .int j∧P (g i j)
noncomputable def rdI (C:Int→Int→Prop) (g:Int→Int→PyData):PyData→PyData→(PyData→Prop)→Prop:=fun x y P=>∃i j,x= .int i∧y= .int j∧C i j∧P (g i j)
theorem scInt (i:Int):Sc (.int i) (.int i):=fun q_ q_=> .int i
theorem scBl (i:Bool):Sc (.bl i) (.bool i):=fun q_ q_=> .bl i
theorem scStr (i:Str):Sc (.str i) (.str i):=fun q_ q_=> .str i
theorem od_I0 {f:Value→Value→Sem Value} {g:Int→Int→V} {gd:Int→Int→PyData} (ho: ∀i,OpR (Y i) f (rI0 g)) (hs: ∀i j,Sc (g i j) (gd i j)):OD K Y f (rdI0 gd):=by
 refine ⟨_,ho,fun P Q r1 r2 p k=> ?_⟩
 obtain ⟨i,j,rfl,rfl,p⟩:=p
 exact ⟨i,j,r1.int_inv,r2.int_inv,k _ _ p (hs i j)⟩
theorem od_I {f:Value→Value→Sem Value} {C:Int→Int→Prop} {g:Int→Int→V} {gd:Int→Int→PyData} (ho: ∀i,OpR (Y i) f (rI C g)) (hs: ∀i j,Sc (g i j) (gd i j)):OD K Y f (rdI C gd):=by
 refine ⟨_,ho,fun P Q r1 r2 p k=> ?_⟩
 obtain ⟨i,j,rfl,rfl,hc,p⟩:=p
 exact ⟨i,j,r1.int_inv,r2.int_inv,hc,k _ _ p (hs i j)⟩
theorem od_add:OD K Y (binaryOp .Add) (rdI0 fun i j=> .int (i + j)):=od_I0 (fun q_=>op_add) fun q_ q_=>scInt _
theorem od_fdiv:OD K Y (binaryOp .FloorDiv) (rdI CDiv fun i j=> .int (i / j)):=od_I (fun q_=>op_fdiv) fun q_ q_=>scInt _
theorem od_mod:OD K Y (binaryOp .Mod) (rdI (fun q_ j=>0 < j) fun i j=> .int (i % j)):=od_I (fun q_=>op_mod) fun q_ q_=>scInt _
theorem od_lt:OD K Y (compareOp .Lt) (rdI0 fun i j=> .bool (decide (i < j))):=od_I0 (fun q_=>op_lt) fun q_ q_=>scBl _
theorem od_le:OD K Y (compareOp .LtE) (rdI0 fun i j=> .bool (decide (i≤j))):=od_I0 (fun q_=>op_le) fun q_ q_=>scBl _
theorem od_gt:OD K Y (compareOp .Gt) (rdI0 fun i j=> .bool (decide (j < i))):=od_I0 (fun q_=>op_gt) fun q_ q_=>scBl _
theorem od_ge:OD K Y (compareOp .GtE) (rdI0 fun i j=> .bool (decide (j≤i))):=od_I0 (fun q_=>op_ge) fun q_ q_=>scBl _
noncomputable def okD (d:PyData):Prop:=d.canLay0=true
noncomputable def shal (d:PyData):Prop:=d.depth≤9
noncomputable def rdEq:PyData→PyData→(PyData→Prop)→Prop:=fun x y P=>okD x∧okD y∧(shal x∨shal y)∧P (.bool (PyData.eqv x y))
noncomputable def rdNe:PyData→PyData→(PyData→Prop)→Prop:=fun x y P=>okD x∧okD y∧(shal x∨shal y)∧P (.bool (!PyData.eqv x y))
theorem od_eq (hu: ∀i,(Y i).A.units + 10 < cLine) (hK:autoParam (∀ i,(Y i).K=K) u4._auto_1):OD K Y (compareOp .Eq) rdEq:=by
 refine ⟨_,fun i=>op_eqK K (hu i) (hK i),fun P Q r1 r2 p k=> ?_⟩
 obtain ⟨h1,h2,h3,p⟩:=p
 exact ⟨_,_,r1,r2,h1,h2,by unfold shal at h3;lia,k _ _ p (scBl _)⟩
theorem op_neK {X:Cx} (K:PySem.W.Frag) (hu:X.A.units + 10 < cLine) (h:autoParam (X.K=K) u5._auto_1):OpR X (compareOp .NotEq) (fun x y H Q=>∃dx dy,Rp K H x dx∧Rp K H y dy∧dx.canLay0=true∧dy.canLay0=true∧min dx.depth dy.depth≤9∧Q (.bl (!PyData.eqv dx dy)) H):=by
 subst h
 intro pins s σ H x y v u Q I rx ry hq
 obtain ⟨dx,dy,h1,h2,l1,l2,hd,q⟩:=hq
 obtain ⟨as,ra⟩:=I.reads h1 rx l1
 obtain ⟨bs,rb⟩:=I.reads h2 ry l2
 exact SeqAt.rcNeAt_reads ra rb l1 l2 (by lia) _ _ _ _ ⟨.bl _,H,I,rfl,q⟩
theorem od_ne (hu: ∀i,(Y i).A.units + 10 < cLine) (hK:autoParam (∀ i,(Y i).K=K) u4._auto_1):OD K Y (compareOp .NotEq) rdNe:=by
 refine ⟨_,fun i=>op_neK K (hu i) (hK i),fun P Q r1 r2 p k=> ?_⟩
 obtain ⟨h1,h2,h3,p⟩:=p
 exact ⟨_,_,r1,r2,h1,h2,by unfold shal at h3;lia,k _ _ p (scBl _)⟩
noncomputable def rdIn:PyData→PyData→(PyData→Prop)→Prop:=fun x y P=>∃l,seqD y=some l∧PyData.canLayAll0 l=true∧okD x∧shal x∧P (.bool (l.any fun d=>PyData.eqv d x))
theorem od_in (hu: ∀i,(Y i).A.units + 10 < cLine) (hK:autoParam (∀ i,(Y i).K=K) u4._auto_1):OD K Y (compareOp .In) rdIn:=by
 refine ⟨_,fun i=>op_inK K (hu i) (hK i),fun P Q r1 r2 p k=> ?_⟩
 obtain ⟨l,h1,h2,h3,h4,p⟩:=p
 obtain ⟨a,ys,rfl,h5,h6⟩:=seq_inv r2 h1
 exact ⟨a,ys,l,_,rfl,h5,h6,r1,h2,h3,h4,k _ _ p (scBl _)⟩
noncomputable def isNone:PyData→Bool
 | .none=>true
 | _=>false
theorem non_iff {H:Hp} {v:V} {d:PyData} (r:Rp K H v d):decide (v= .non)=isNone d:=by
 cases r <;> simp [isNone,scrD,anyD,excD]
theorem od_is:OD K Y (compareOp .Is) (fun x y P=>y= .none∧P (.bool (isNone x))):=by
 refine ⟨_,fun i=>op_isN,fun P Q r1 r2 p k=> ?_⟩
 obtain ⟨rfl,p⟩:=p
 cases r2
 exact ⟨rfl,by rw [non_iff r1];exact k _ _ p (scBl _)⟩
theorem dt_val {t:De} (h:DB He K Y e t) (he:autoParam (∀ i whole,isTrue e (Y i).env whole=(do let v ← whole;standAt e.pos;holding [v] (truthy v))) u11._auto_1):DT He K Y e (xB t):=by
 obtain ⟨te,h1,h2⟩:=h
 refine ⟨_,fun i=>pt_val (h1 i) (he i),fun P Q F p k=>h2 _ _ F p fun d v R' H' ⟨b,eb,pb⟩ e r=> ?_⟩
 subst eb
 exact ⟨b,r.bl_inv,k b R' H' pb e⟩
noncomputable def xNot (t:Db):Db:=fun env P=>t env fun b=>P (!b)
theorem dt_not {t:Db} (h:DT He K Y a t):DT He K Y (.UnaryOp .Not a pos) (xNot t):=by
 obtain ⟨te,h1,h2⟩:=h
 exact ⟨_,fun i=>pt_not (h1 i),fun P Q F p k=>h2 _ _ F p fun b R' H' pb e=>k _ R' H' pb e⟩
noncomputable def xAnd (t u:Db):Db:=fun env P=>t env fun b=>if b=true then u env P else P false
noncomputable def xOr (t u:Db):Db:=fun env P=>t env fun b=>if b=true then P true else u env P
theorem dw_and1 {t:Db} (h:DT He K Y a t):DW He K Y (.BoolOp .And [a] pos) t:=by
 obtain ⟨te,h1,h2⟩:=h
 exact ⟨_,fun i=>pw_and1 (h1 i),h2⟩
theorem dw_or1 {t:Db} (h:DT He K Y a t):DW He K Y (.BoolOp .Or [a] pos) t:=by
 obtain ⟨te,h1,h2⟩:=h
 exact ⟨_,fun i=>pw_or1 (h1 i),h2⟩
theorem dw_and {t u:Db} (h:DT He K Y a t) (h':DW He K Y (.BoolOp .And (b::es) pos) u):DW He K Y (.BoolOp .And (a::b::es) pos) (xAnd t u):=by
 obtain ⟨te,h1,h2⟩:=h
 obtain ⟨te',h3,h4⟩:=h'
 refine ⟨_,fun i=>pw_and (h1 i) (h3 i),fun P Q F p k=>h2 _ _ F p fun b R' H' pb e=> ?_⟩
 cases b with
 | true=>
   rw [if_pos rfl] at pb ⊢
   exact h4 P Q (F.next e) pb fun b R2 H2 p2 e2=>k b R2 H2 p2 (e.trans e2)
 | false=>
   rw [if_neg Bool.false_ne_true] at pb ⊢
   exact k _ R' H' pb e
theorem dw_or {t u:Db} (h:DT He K Y a t) (h':DW He K Y (.BoolOp .Or (b::es) pos) u):DW He K Y (.BoolOp .Or (a::b::es) pos) (xOr t u):=by
 obtain ⟨te,h1,h2⟩:=h
 obtain ⟨te',h3,h4⟩:=h'
 refine ⟨_,fun i=>pw_or (h1 i) (h3 i),fun P Q F p k=>h2 _ _ F p fun b R' H' pb e=> ?_⟩
 cases b with
 | true=>
   rw [if_pos rfl] at pb ⊢
   exact k _ R' H' pb e
 | false=>
   rw [if_neg Bool.false_ne_true] at pb ⊢
   exact h4 P Q (F.next e) pb fun b R2 H2 p2 e2=>k b R2 H2 p2 (e.trans e2)
theorem DW.t {t:Db} (h:DW He K Y e t):DT He K Y e t:=by
 obtain ⟨te,h1,h2⟩:=h
 exact ⟨te,fun i=>(h1 i).pt,h2⟩
noncomputable def xAndV (ta tb:De):De:=fun env P=>ta env fun x=>∃c,x= .bool c∧if c=true then tb env P else P (.bool false)
theorem de_one {op} {t:De} (h:DE He K Y a t):DE He K Y (.BoolOp op [a] pos) t:=by
 obtain ⟨te,h1,h2⟩:=h
 exact ⟨te,fun i=>pe_one (h1 i),h2⟩
theorem de_and {t u:De} (h:DE He K Y a t) (h':DE He K Y (.BoolOp .And (b::es) pos) u):DE He K Y (.BoolOp .And (a::b::es) pos) (xAndV t u):=by
 obtain ⟨te,h1,h2⟩:=h
 obtain ⟨te',h3,h4⟩:=h'
 refine ⟨_,fun i=>pe_and (h1 i) (h3 i),fun P Q F p k=>h2 _ _ F p fun d v R' H' ⟨c,ec,pc⟩ e r=> ?_⟩
 subst ec
 refine ⟨c,r.bl_inv,?_⟩
 cases c with
 | true=>
   rw [if_pos rfl] at pc ⊢
   exact h4 P Q (F.next e) pc fun d v R2 H2 p2 e2=>k d v R2 H2 p2 (e.trans e2)
 | false=>
   rw [if_neg Bool.false_ne_true] at pc ⊢
   exact k _ _ R' H' pc e (.bl false)
noncomputable def xNeg (t:De):De:=fun env P=>t env fun x=>∃i,x= .int i∧P (.int (-i))
theorem de_neg {t:De} (h:DE He K Y a t):DE He K Y (.UnaryOp .USub a pos) (xNeg t):=by
 obtain ⟨te,h1,h2⟩:=h
 refine ⟨_,fun i=>pe_un un_neg (h1 i),fun P Q F p k=>h2 _ _ F p fun d v R' H' ⟨c,ec,pc⟩ e r=> ?_⟩
 subst ec
 exact ⟨c,r.int_inv,k _ _ R' H' pc e (.int _)⟩
end
end L2
set_option Elab.async false
set_option linter.all false
set_option maxRecDepth 100000
namespace L2
open PySem PySem.Spec PyProof.Rows
theorem szl {n:Nat} (h:n≤100000):n≤sizeLine:=Nat.le_trans h (by decide)
section
variable {He:Hp} {K:PySem.W.Frag} {ι:Type} {Y:ι→Cx} {e a b c:Expr} {es:List Expr} {pos:Pos}
theorem RpAll.at {R:Hp} {ys:List V} {l:List PyData} {k:Int} {d:PyData} (r:RpAll K R ys l) (h:atI l k=some d): ∃v,atI ys k=some v∧Rp K R v d:=by
 unfold atI at h ⊢
 rw [r.len]
 cases q:ixN l.length k with
 | none=>rw [q] at h;cases h
 | some j=>
   rw [q] at h
   exact r.get' h
noncomputable def xIx (t:Dq) (ti:De):De:=fun env P=>t env fun l=>ti env fun i=>∃k d,i= .int k∧atI l k=some d∧P d
theorem ix_seqK {X:Cx} (K:PySem.W.Frag) (h:autoParam (X.K=K) u5._auto_1):IxR X (rIx K):=h▸ix_seq
theorem de_ix {t:Dq} {ti:De} (ha:DQ He K Y a t) (hb:DB He K Y b ti) (hs:autoParam (PlainIx b) u11._auto_1) (hK:autoParam (∀ i,(Y i).K=K) u4._auto_1):DE He K Y (.Subscript a b pos) (xIx t ti):=by
 obtain ⟨te,h1,h2⟩:=ha
 obtain ⟨te',h3,h4⟩:=hb
 refine ⟨_,fun i=>pe_ix (ix_seqK K (hK i)) (h1 i) (h3 i) hs,fun P Q F p k=> ?_⟩
 refine h2 _ _ F p fun l p1 ys R1 H1 q1 e1 s1 r1=> ?_
 refine h4 _ _ (F.next e1) q1 fun d v R2 H2 q2 e2 r2=> ?_
 obtain ⟨j,d',rfl,hd,q2⟩:=q2
 have ev:=r2.int_inv
 subst ev
 obtain ⟨w,hw,rw'⟩:=r1.at hd
 have fin:=k d' w R2 H2 q2 (e1.trans e2) (Rp.same e2.rr rw')
 rcases e2.hh.sq s1 with z | z
 · exact .inl ⟨p1,ys,j,w,rfl,rfl,z,hw,fin⟩
 · exact .inr (.inl ⟨p1,ys,j,w,rfl,rfl,z,hw,fin⟩)
noncomputable def xNil:Dq:=fun q_ P=>P []
noncomputable def xCons (t:De) (u:Dq):Dq:=fun env P=>t env fun d=>u env fun ds=>P (d::ds)
theorem da_nil:DA He K Y [] xNil:=⟨_,fun q_=>pa_nil,fun P Q F p k=>k [] [] _ _ p (.refl F.wd) .nil⟩
theorem da_cons {t:De} {u:Dq} (h:DE He K Y e t) (h':DA He K Y es u) (hs:autoParam (∀ i,starEach (e::es) (Y i).env=(false,eval e (Y i).env)::starEach es (Y i).env) u4._auto_1):DA He K Y (e::es) (xCons t u):=by
 obtain ⟨te,h1,h2⟩:=h
 obtain ⟨te',h3,h4⟩:=h'
 refine ⟨_,fun i=>pa_cons (h1 i) (h3 i) (hs i),fun P Q F p k=> ?_⟩
 refine h2 _ _ F p fun d v R1 H1 q1 e1 r1=> ?_
 refine h4 _ _ (F.next e1) q1 fun ds vs R2 H2 q2 e2 r2=> ?_
 exact k _ _ R2 H2 q2 (e1.trans e2) (.cons (Rp.same e2.rr r1) r2)
theorem dab_nil:DAb He K Y [] xNil:=⟨_,fun q_=>pa_nil,fun P Q F p k=>k [] [] _ _ p (.refl F.wd) .nil⟩
theorem dab_cons {t:De} {u:Dq} (h:DB He K Y e t) (h':DAb He K Y es u) (hs:autoParam (∀ i,starEach (e::es) (Y i).env=(false,eval e (Y i).env)::starEach es (Y i).env) u4._auto_1):DAb He K Y (e::es) (xCons t u):=by
 obtain ⟨te,h1,h2⟩:=h
 obtain ⟨te',h3,h4⟩:=h'
 refine ⟨_,fun i=>pa_cons (h1 i) (h3 i) (hs i),fun P Q F p k=> ?_⟩
 refine h2 _ _ F p fun d v R1 H1 q1 e1 r1=> ?_
 refine h4 _ _ (F.next e1) q1 fun ds vs R2 H2 q2 e2 r2=> ?_
 exact k _ _ R2 H2 q2 (e1.trans e2) (.cons (Rp.same e2.hh r1) r2)
noncomputable def xTup (t:Dq):De:=fun env P=>t env fun ds=>ds.length≤100000∧P (.tuple ds)
theorem de_tup {t:Dq} {x1} (h:DA He K Y es t):DE He K Y (.Tuple es x1 pos) (xTup t):=by
 obtain ⟨te,h1,h2⟩:=h
 refine ⟨_,fun i=>pe_tup (h1 i),fun P Q F p k=>h2 _ _ F p fun ds vs R1 H1 ⟨hl,q⟩ e1 r1=>⟨szl (by rw [r1.len];exact hl),fun a ha=> ?_⟩⟩
 have e2:=Ext.new (o:= .tup vs) e1.wd ha
 exact k _ _ _ _ q (e1.trans e2) (.tup upd_same (RpAll.same e2.rr r1))
noncomputable def xDisp (t:Dq):Dq:=fun env P=>t env fun ds=>ds.length≤100000∧P ds
theorem do_lst {t:Dq} (h:DA He K Y es t):DO He K Y (.List es pos) (xDisp t):=by
 obtain ⟨te,h1,h2⟩:=h
 refine ⟨_,fun i=>pe_lst (h1 i),fun P Q F p k=>h2 _ _ F p fun ds vs R1 H1 ⟨hl,q⟩ e1 r1=>⟨szl (by rw [r1.len];exact hl),fun a ha=> ?_⟩⟩
 have e2:=Ext.newO (o:= .lst vs) e1.wd ha trivial
 exact k _ _ _ _ _ q (e1.trans e2) (e1.hh.free ha) upd_same (e1.wd.rh.free ha) r1
noncomputable def xLen (t:Dq):De:=fun env P=>t env fun l=>P (.int (l.length:Int))
theorem de_len {t:Dq} {p:Pos} (h:DQ He K Y a t) (hm: ∀i,(Y i).mg "len"=none) (hg:autoParam (∀ i,Gl (Y i) "len") u4._auto_1) (hK:autoParam (∀ i,(Y i).K=K) u4._auto_1) (hs:autoParam (∀ i,starEach [a] (Y i).env=[(false,eval a (Y i).env)]) u4._auto_1):
 DE He K Y (.Call (.Name "len" p) [a] [] pos) (xLen t):=by
 obtain ⟨te,h1,h2⟩:=h
 refine ⟨_,fun i=>pe_callB (call_lenK K (hK i)) (hg i) (hm i) boot_len (pa_cons (h1 i) pa_nil (hs i)) (by decide) (by decide) (hs i),fun P Q F p k=>h2 _ _ F p fun l x ys R1 H1 q1 e1 s1 r1=> ?_⟩
 exact ⟨x,ys,rfl,s1,by rw [r1.len];exact k _ _ R1 H1 q1 e1 (.int _)⟩
theorem call_tuple_ofK {X:Cx} (K:PySem.W.Frag) (h:autoParam (X.K=K) u5._auto_1):CallR X (.type "tuple") (fun xs H Q=>∃p ys,xs=[.ref p]∧((SqL K H p ys∧∀l,H l=none→Q (.ref l) (upd H l (.tup ys)))∨(SqT K H p ys∧Q (.ref p) H))):=h▸call_tuple_of
noncomputable def xTuple (t:Dq):De:=fun env P=>t env fun l=>P (.tuple l)
theorem de_tuple {t:Dq} {p:Pos} (h:DO He K Y a t) (hm: ∀i,(Y i).mg "tuple"=none) (hg:autoParam (∀ i,Gl (Y i) "tuple") u4._auto_1) (hK:autoParam (∀ i,(Y i).K=K) u4._auto_1) (hs:autoParam (∀ i,starEach [a] (Y i).env=[(false,eval a (Y i).env)]) u4._auto_1):
 DE He K Y (.Call (.Name "tuple" p) [a] [] pos) (xTuple t):=by
 obtain ⟨te,h1,h2⟩:=h
 refine ⟨_,fun i=>pe_callTy (call_tuple_ofK K (hK i)) (hg i) (hm i) boot_tuple (pa_cons (h1 i) pa_nil (hs i)) (by decide) (by decide) (hs i),fun P Q F p k=>h2 _ _ F p fun l x ys R1 H1 q1 e1 hn hx hr r1=> ?_⟩
 refine ⟨x,ys,rfl,.inl ⟨SqL.of hx,fun a ha=> ?_⟩⟩
 have e2:=Ext.new (o:= .tup ys) e1.wd ha
 exact k _ _ _ _ q1 (e1.trans e2) (.tup upd_same (RpAll.same e2.rr r1))
noncomputable def intsD (lo:Int) (n:Nat):List PyData:=(List.range n).map fun (i:Nat)=>PyData.int (lo + (i:Int))
noncomputable def tyD:PyData→Value
 | .none=> .type "NoneType"
 | .bool _=> .type "bool"
 | .int _=> .type "int"
 | .str _=> .type "str"
 | .list _=> .type "list"
 | .tuple _=> .type "tuple"
 | .dict _=> .type "dict"
noncomputable def notScr:PyData→Bool
 | .dict _=>false
 | _=>true
theorem TyOf.of {H:Hp} {v:V} {d:PyData} (r:Rp K H v d) (h:notScr d=true):TyOf K H v (tyD d):=by
 cases r with
 | non=>exact .non
 | bl b=>exact .bl b
 | int i=>exact .int i
 | str x=>exact .str x
 | lst h1 _=>exact .lst h1
 | tup h1 _=>exact .tup h1
 | scr h1=>cases h
 | any=>cases h
 | xc _=>cases h
noncomputable def xIsi (K:PySem.W.Frag) (T:String) (t:De):De:=fun env P=>t env fun d=>∃b,notScr d=true∧PySem.W.kitOne K (tyD d) (.type T)=some b∧P (.bool b)
theorem call_isinstK {X:Cx} (K:PySem.W.Frag) (h:autoParam (X.K=K) u5._auto_1):CallR X (.builtin "isinstance") (fun xs H Q=>∃x T t b,xs=[x,.ty T]∧TyOf K H x t∧PySem.W.kitOne K t (.type T)=some b∧Q (.bl b) H):=h▸call_isinst
theorem bt_isi':bootBuiltins "isinstance"=some (.builtin "isinstance"):=by decide +kernel
theorem de_isi {t:De} {p p2:Pos} {x:Str} {T:String} (h:DB He K Y a t) (hT:bootBuiltins x=some (.type T)) (hmT: ∀i,(Y i).mg x=none) (hm: ∀i,(Y i).mg "isinstance"=none) (hxn:autoParam (x≠"__name__") u2._auto_1) (hxd:autoParam ((x == ("__debug__":Str))=false) u2._auto_1) (hgT:autoParam (∀ i,Gl (Y i) x) u4._auto_1) (hg:autoParam (∀ i,Gl (Y i) "isinstance") u4._auto_1)
 (hK:autoParam (∀ i,(Y i).K=K) u4._auto_1) (hs:autoParam (∀ i,starEach [a,.Name x p2] (Y i).env=(false,eval a (Y i).env)::starEach [.Name x p2] (Y i).env) u4._auto_1) (hs2:autoParam (∀ i,starEach [.Name x p2] (Y i).env=[(false,eval (.Name x p2) (Y i).env)]) u4._auto_1)
 (hpl:autoParam (∀ i,(backTo pos (starEach [.Name x p2] (Y i).env)).any (·.1)=false) u4._auto_1):
 DE He K Y (.Call (.Name "isinstance" p) [a,.Name x p2] [] pos) (xIsi K T t):=by
 obtain ⟨te,h1,h2⟩:=h
 refine ⟨_,fun i=>pe_callB (call_isinstK K (hK i)) (hg i) (hm i) bt_isi' (pa_cons (h1 i) (pa_cons (pe_bltn (v:= .ty T) (hgT i) (hmT i) hT rfl hxn hxd) pa_nil (hs2 i)) (hs i)) (by decide) (by decide) (hs i) (hpl i),fun P Q F p k=>h2 _ _ F p fun d v R1 H1 q1 e1 r1=> ?_⟩
 obtain ⟨b,hn,hb,q1⟩:=q1
 exact ⟨v,T,_,b,rfl,TyOf.of r1 hn,hb,k _ _ R1 H1 q1 e1 (.bl b)⟩
noncomputable def xCat (t u:Dq):Dq:=fun env P=>t env fun xs=>u env fun ys=>xs.length + ys.length≤100000∧P (xs++ys)
noncomputable def DL (He:Hp) (K:PySem.W.Frag) {ι:Type} (Y:ι→Cx) (e:Expr) (t:Dq):Prop:=∃te:TE,(∀ i,PE (Y i) e te)∧∀{H0 R H:Hp} {σ:St} {env:List Dt} (P:List PyData→Prop) (Q:VK),Fra He K H0 R H σ env→t env P→
 (∀ ds a ys R' H',P ds→Ext R H R' H'→H' a=some (.lst ys)→RpAll K R' ys ds→Q (.ref a) H')→te σ H Q
theorem DO.l {t:Dq} (h:DO He K Y e t):DL He K Y e t:=by
 obtain ⟨te,h1,h2⟩:=h
 exact ⟨te,h1,fun P Q f p k=>h2 P Q f p fun ds a ys R' H' pl e hn ha hr r=>k ds a ys R' H' pl e ha r⟩
noncomputable def xVarL (i:Nat):Dq:=fun env P=>∃l,(env[i]?=some (.o l)∨env[i]?=some (.d (.list l)))∧P l
theorem dl_var (i:Nat) {x:Str} (h:autoParam (∀ j,PE (Y j) (.Name x pos) (tVar i)) u9._auto_1):DL He K Y (.Name x pos) (xVarL i):=
 ⟨_,h,fun P Q F ⟨l,p1,p⟩ k=>by
   rcases p1 with p1 | p1
   · obtain ⟨v,hs,a,ys,rfl,h2,h3,h4,h5⟩:=F.get p1 (by intro z;cases z)
     exact ⟨_,hs,k _ _ _ _ _ p (.refl F.wd) h2 h5⟩
   · obtain ⟨v,hs,r⟩:=F.data p1
     obtain ⟨a,ys,rfl,h2,h3⟩:=Rp.lst_inv r
     exact ⟨_,hs,k _ _ _ _ _ p (.refl F.wd) (F.wd.rh _ _ h2) h3⟩⟩
theorem do_cat {t u:Dq} (h:DL He K Y a t) (h':DL He K Y b u):DO He K Y (.BinOp a .Add b pos) (xCat t u):=by
 obtain ⟨te,h1,h2⟩:=h
 obtain ⟨te',h3,h4⟩:=h'
 refine ⟨_,fun i=>pe_op op_cat (h1 i) (h3 i),fun P Q F p k=> ?_⟩
 refine h2 _ _ F p fun l a ys R1 H1 q1 e1 s1 r1=> ?_
 refine h4 _ _ (F.next e1) q1 fun l2 a2 ys2 R2 H2 ⟨hz,q2⟩ e2 s2 r2=> ?_
 refine ⟨a,a2,ys,ys2,rfl,rfl,e2.hh _ _ s1,s2,szl (by rw [r1.len,r2.len];exact hz),fun p hp=> ?_⟩
 have e3:=Ext.newO (o:= .lst (ys++ys2)) e2.wd hp trivial
 exact k _ _ _ _ _ q2 ((e1.trans e2).trans e3) ((e1.trans e2).hh.free hp) upd_same (e2.wd.rh.free hp) (RpAll.append (RpAll.same e2.rr r1) r2)
end
noncomputable def spG (K:PySem.W.Frag) (P:List PyData→(Dt→Prop)→Prop):Sp:=fun vs H Q q_=>∃ds RS,RpAll K H vs ds∧P ds RS∧∀dt v R' H',RS dt→Ext H H R' H'→SlotR K H R' H' (some v) dt→Q v H'
theorem ObjOk.obj {P:Program} {w:World} {H:Hp} {h:Heap} {a:Addr} {o:HO} (x:ObjOk P w H h a o) (l:Loose o): ∃ob,h.get? a=some ob:=by
 cases o with
 | lst xs=>obtain ⟨_,_,_,_,e⟩:=x;exact ⟨_,e⟩
 | dK kvs=>obtain ⟨_,_,_,_,o,_,_,e,_⟩:=x;exact ⟨_,e⟩
 | dT kvs=>obtain ⟨_,_,_,_,o,_,_,e,_⟩:=x;exact ⟨_,e⟩
 | set S n=>obtain ⟨o,_,_,_,e,_⟩:=x;exact ⟨_,e⟩
 | _=>exact l.elim
theorem ObjOk.stayL {P:Program} {w:World} {H H':Hp} {h h':Heap} {a:Addr} {o:HO} (x:ObjOk P w H h a o) (l:Loose o) (k: ∀u,h.get? a=some u→h'.get? a=some u) (ht: ∀b xs,H b=some (.tup xs)→H' b=some (.tup xs)):ObjOk P w H' h' a o:=by
 cases o with
 | lst xs=>obtain ⟨z,its,n,r,e⟩:=x;exact ⟨z,its,n,r,k _ e⟩
 | dK kvs=>obtain ⟨z,y,vs,r,ob,es,ep,e,c⟩:=x;exact ⟨z,y,vs,r,ob,es,ep,k _ e,c⟩
 | dT kvs=>
   obtain ⟨z,y,xs,r,ob,es,ep,e,c⟩:=x
   exact ⟨z,y,xs,Paired.mapP r fun p q z=>⟨z.1,ht _ _ z.2.1,z.2.2⟩,ob,es,ep,k _ e,c⟩
 | set S n=>obtain ⟨ob,es,ep,t,e,c⟩:=x;exact ⟨ob,es,ep,t,k _ e,c⟩
 | _=>exact l.elim
theorem Wd.back {R H:Hp} {b:Addr} {o:HO} (w:Wd R H) (h:H b=some o) (n: ¬Loose o):R b=some o:=by
 cases q:R b with
 | none=>exact absurd (w.ls b o h q) n
 | some u=>
   have:=w.rh b u q
   rw [h] at this
   exact this.symm
section
variable {X:Cx} {k:Nat} {f:Addr} {fd:FuncData} {ps:List Str} {x:Str} {p pos:Pos} {e:Expr} {es:List Expr} {t:TA} {He:Hp} {K:PySem.W.Frag} {P:List PyData→(Dt→Prop)→Prop}
set_option tactic.hygienic true in
theorem run_fnG {pins:List (Addr×Obj)} {σ:St} {R H:Hp} {s:Shared} {Q:VK} {us:List Value} {vs:List V} {ds:List PyData} {RS:Dt→Prop} (hK:X.K=K) (F:FnOk X.prog X.w X.K X.mg X.base CX0 k f fd ps (spG K P)) (hr:Room k X.A) (hb:Binds X.K fd ps [])
 (I:Inv X pins σ H s) (r:Vals vs us) (w:Wd R H) (hv:RpAll K R vs ds) (hp:P ds RS) (kk: ∀dt v R' H',RS dt→Ext R H R' H'→SlotR K H R' H' (some v) dt→Q v H'):
 wpAny (model X.prog X.w) X.A (call (.ref f) us) (EP X pins σ Q) X.xe s:=by
 have hsp:spG K P vs R (fun v H1=>∃dt R',RS dt∧Ext R R R' H1∧SlotR K R R' H1 (some v) dt) E0:=⟨ds,RS,hv,hp,fun dt v R' H' a b c=>⟨dt,R',a,b,c⟩⟩
 have hl:us.length=ps.length:=by rw [← r.length];exact F.len _ _ _ _ hsp
 have e0:Env0 X.prog X.w X.K X.mg X.base X.A X.stack s R:=by
  have e:=I.env0
  refine ⟨e.frames,e.mod,fun b o z=>⟨(e.bs b o z).1,w.rh.free (e.bs b o z).2⟩,e.bsz,e.funs,fun b hb=>w.rh.free (e.frf b hb),fun a o z=> ?_,e.bare⟩
  exact (e.hok a o (w.rh a o z)).stay (fun b u q_ q=>q) (fun b q=>w.back q fun z=>z) fun b xs q=>w.back q fun z=>z
 refine wpAny_call (codeAny_mono (F.run X.A X.stack s R ⟨us,[]⟩ us vs _ E0 hr e0 (by have:=hb s us I.kIn (by rw [List.append_nil];exact hl);rw [List.append_nil] at this;exact this) r hsp) fun r s' hq=> ?_)
 cases r with
 | error e=>exact hq.elim
 | ok fl=>
   cases fl with
   | next=>exact False.elim hq
   | brk=>exact False.elim hq
   | cont=>exact False.elim hq
   | ret u=>
     obtain ⟨v,H1,os,bare,un,hok,rv,dt,R',hRS,ext,slot⟩:=hq
     have gone: ∀b o,H b=some o→R b=none→H1 b=none:=fun b o z n=>by
      obtain ⟨ob,eb⟩:=(I.hok b o z).obj (w.ls b o z n)
      exact un.free b ob eb n (by simp)
     classical
     have eA: ∀b,R b=none→H b≠none→(fun b=>if R b=none∧H b≠none then H b else H1 b) b=H b:=fun b n z=>if_pos ⟨n,z⟩
     have eB: ∀b o,H1 b=some o→(fun b=>if R b=none∧H b≠none then H b else H1 b) b=some o:=fun b o z=>by
      show (if R b=none∧H b≠none then H b else H1 b)=some o
      rw [if_neg]
      · exact z
      · rintro ⟨n,hne⟩
        cases q:H b with
        | none=>exact hne q
        | some u=>rw [gone b u q n] at z;cases z
     have eN: ∀b,H b=none→H1 b=none→(fun b=>if R b=none∧H b≠none then H b else H1 b) b=none:=fun b n z=>by
      show (if R b=none∧H b≠none then H b else H1 b)=none
      rw [if_neg (by rintro ⟨_,z⟩;exact z n)]
      exact z
     have eX: ∀b o,(fun b=>if R b=none∧H b≠none then H b else H1 b) b=some o→(R b=none∧H b=some o)∨H1 b=some o:=fun b o z=>by
      have z:(if R b=none∧H b≠none then H b else H1 b)=some o:=z
      split at z
      · rename_i hc
        exact .inl ⟨hc.1,z⟩
      · exact .inr z
     generalize (fun b=>if R b=none∧H b≠none then H b else H1 b)=H2 at eA eB eN eX
     have nr: ∀b,H b=none→R b=none:=fun b n=>w.rh.free n
     have tup2: ∀b xs,H b=some (.tup xs)→H2 b=some (.tup xs):=fun b xs z=>eB b _ (un.tups b xs (w.back z fun z=>z))
     have ex2:Ext R H R' H2:=by
      refine ⟨fun b o z=> ?_,ext.rr,fun b o z=>eB b o (ext.rh b o z),fun b o z n=> ?_,fun b o z n=> ?_⟩
      · cases q:R b with
        | none=>rw [eA b q (by rw [z];intro y;cases y)];exact z
        | some u=>
          have:=w.rh b u q
          rw [z] at this;cases this
          exact eB b o (ext.hh b o q)
      · cases q:R' b with
        | none=>rfl
        | some u=>have:=ext.rh b u q;rw [gone b o z n] at this;cases this
      · rcases eX b o z with ⟨n2,z2⟩ | z2
        · exact w.ls b o z2 n2
        · exact ext.ls b o z2 n
     have slot2:SlotR K H R' H2 (some v) dt:=by
      have own: ∀a o,H1 a=some o→R a=none→H a=none:=fun a o z n=>by
       cases q:H a with
       | none=>rfl
       | some u=>rw [gone a u q n] at z;cases z
      cases dt with
      | un=>trivial
      | d y=>exact slot
      | o xs=>obtain ⟨a,ys,h1,h2,h3,h4,h5⟩:=slot;exact ⟨a,ys,h1,eB a _ h2,h3,own a _ h2 h4,h5⟩
      | dk xs=>obtain ⟨a,ys,h1,h2,h3,h4,h5⟩:=slot;exact ⟨a,ys,h1,eB a _ h2,h3,own a _ h2 h4,h5⟩
      | dt xs=>obtain ⟨a,ys,h1,h2,h3,h4,h5⟩:=slot;exact ⟨a,ys,h1,eB a _ h2,h3,own a _ h2 h4,h5⟩
      | oo xs=>obtain ⟨a,ys,h1,h2,h3,h4,h5,h6⟩:=slot;exact ⟨a,ys,h1,eB a _ h2,h3,own a _ h2 h4,Paired.mapP h5 fun _ _ ⟨b,zs,k1,k2,k3,k4,k5⟩=>⟨b,zs,k1,eB b _ k2,k3,own b _ k2 k4,k5⟩,h6⟩
     refine I.after (Q:=Q) ⟨v,H2,os,bare,⟨?_,?_,?_,un.there,tup2,?_,?_⟩,?_,rv,kk dt v R' H2 hRS ex2 slot2⟩
     · exact fun b o z n hf hx=>un.keep b o z (nr b n) hf hx
     · exact fun b o z n hf hx=>un.slot b o z (nr b n) hf hx
     · exact fun b o z n hx=>eN b n (un.free b o z (nr b n) hx)
     · exact fun b o u z=>eB b _ (un.frzs b o u (w.back z fun z=>z))
     · intro b ps z
       obtain ⟨m,hm⟩:=un.tbls b ps (w.back z fun z=>z)
       exact ⟨m,eB b _ hm⟩
     · intro b o z
       rcases eX b o z with ⟨n2,z2⟩ | z2
       · refine (I.hok b o z2).stayL (w.ls b o z2 n2) (fun u q=>un.keep b u q n2 (fun hf=> ?_) (by simp)) tup2
         rw [I.stkFree b hf] at z2;cases z2
       · refine (hok b o z2).stay (fun c u q_ q=>q) (fun c q=>eB c _ q) fun c xs q=>eB c _ q
noncomputable def tFnG (K:PySem.W.Frag) (P:List PyData→(Dt→Prop)→Prop) (t:TA):TE:=fun σ H Q=>t σ H fun vs H1=>∃R ds RS,Wd R H1∧RpAll K R vs ds∧P ds RS∧∀dt v R' H',RS dt→Ext R H1 R' H'→SlotR K H1 R' H' (some v) dt→Q v H'
theorem pe_fnG (G:Fn X.prog X.w X.K X.mg X.base x k ps (spG K P)) (hr:Room k X.A) (ha:PA X (e::es) t) (hK:autoParam (X.K=K) u5._auto_1) (hg:autoParam (Gl X x) u5._auto_1)
 (hdb:autoParam ((x == ("__debug__":Str))=false) u2._auto_1) (he:autoParam (starEach (e::es) X.env=(false,eval e X.env)::starEach es X.env) u5._auto_1) (hpl:autoParam ((backTo pos (starEach es X.env)).any (·.1)=false) u5._auto_1):
 PE X (.Call (.Name x p) (e::es) [] pos) (tFnG K P t):=by
 obtain ⟨f,fd,F,hm,hk,hb⟩:=G
 intro pins s σ H Q I h
 refine wpAny_Call_Name_kw (ld_glob I hg hm ?_ hdb)
 refine PySem.W.callWith_K (h₀:=X.base) I.ok.mod.kin hk (thn (ha pos pins s σ H _ I h) fun us s1 ⟨vs,H1,I1,r,q⟩=>⟨I1.kIn,?_⟩) he hpl
 obtain ⟨R,ds,RS,w,hv,hp,kk⟩:=q
 exact run_fnG hK F hr hb I1 r w hv hp kk
end
section
variable {He:Hp} {K:PySem.W.Frag} {ι:Type} {Y:ι→Cx} {e:Expr} {es:List Expr} {pos p:Pos} {prog:Program} {w:World} {mg:Str→Option Value} {base:Heap} {x:Str} {k:Nat} {ps:List Str} {P:List PyData→(Dt→Prop)→Prop} {t:Dq}
noncomputable def xCall (P:List PyData→(Dt→Prop)→Prop) (t:Dq):De:=fun env Q=>t env fun ds=>P ds fun dt=>∃d,frzD dt=some d∧Q d
theorem Ext.give {R H R' H':Hp} (ex:Ext R H R' H') (S:Addr→Prop) (hS: ∀b,S b→H b=none): ∃R2,Ext R H R2 H'∧Same R' R2∧∀b,S b→R2 b=H' b:=by
 classical
 have e1: ∀b,S b→(fun b=>if S b then H' b else R' b) b=H' b:=fun b s=>if_pos s
 have e2: ∀b,¬S b→(fun b=>if S b then H' b else R' b) b=R' b:=fun b s=>if_neg s
 generalize (fun b=>if S b then H' b else R' b)=R2 at e1 e2
 have sm:Same R' R2:=fun b o z=>by
  by_cases s:S b
  · rw [e1 b s];exact ex.rh b o z
  · rw [e2 b s];exact z
 refine ⟨R2,⟨ex.hh,ex.rr.trans sm,fun b o z=> ?_,fun b o z n=> ?_,fun b o z n=> ?_⟩,sm,e1⟩
 · by_cases s:S b
   · rw [e1 b s] at z;exact z
   · rw [e2 b s] at z;exact ex.rh b o z
 · have s: ¬S b:=fun s=>by rw [hS b s] at z;cases z
   rw [e2 b s];exact ex.nn b o z n
 · by_cases s:S b
   · rw [e1 b s,z] at n;cases n
   · rw [e2 b s] at n;exact ex.ls b o z n
theorem frz_run {H0 R H R' H':Hp} {v:V} {dt:Dt} {d:PyData} (hd:frzD dt=some d) (ex:Ext R H R' H') (s:SlotR K H R' H' (some v) dt): ∃R2,Ext R H R2 H'∧Rp K R2 v d:=by
 cases dt with
 | un=>cases hd
 | d y=>cases hd;exact ⟨R',ex,s⟩
 | o xs=>
   cases hd
   obtain ⟨a,ys,rfl,h2,h3,h4,h5⟩:=s
   have s:=Same.new (H:=R') (p:=a) (o:= .lst ys) h3
   refine ⟨upd R' a (.lst ys),⟨ex.hh,ex.rr.trans s,fun b o z=> ?_,fun b o z n=> ?_,fun b o z n=> ?_⟩,.lst upd_same (RpAll.same s h5)⟩
   · by_cases hb:b=a
     · subst hb;rw [upd_same] at z;cases z;exact h2
     · rw [upd_ne hb] at z;exact ex.rh b o z
   · rw [upd_ne (ne_of_none z h4)];exact ex.nn b o z n
   · by_cases hb:b=a
     · subst hb;rw [upd_same] at n;cases n
     · rw [upd_ne hb] at n;exact ex.ls b o z n
 | oo xs=>
   cases hd
   obtain ⟨a,ys,rfl,h2,h3,h4,h5,_⟩:=s
   obtain ⟨R2,e2,sm,at2⟩:=ex.give (fun b=>b=a∨V.ref b∈ys) fun b s=>by
    rcases s with rfl | s
    · exact h4
    · obtain ⟨_,_,_,z⟩:=h5.mem s;exact z
   exact ⟨R2,e2,.lst (by rw [at2 a (.inl rfl)];exact h2) (h5.rp sm fun b zs m z=>by rw [at2 b (.inr m)];exact z)⟩
 | dk xs=>cases hd
 | dt xs=>cases hd
theorem de_call (G:Fn prog w K mg base x k ps (spG K P)) (hr: ∀i,Room k (Y i).A) (ha:DA He K Y (e::es) t) (hX:autoParam (∀ i,(Y i).prog=prog∧(Y i).w=w∧(Y i).K=K∧(Y i).mg=mg∧(Y i).base=base) u12._auto_1) (hg:autoParam (∀ i,Gl (Y i) x) u4._auto_1)
 (hdb:autoParam ((x == ("__debug__":Str))=false) u2._auto_1) (he:autoParam (∀ i,starEach (e::es) (Y i).env=(false,eval e (Y i).env)::starEach es (Y i).env) u4._auto_1) (hpl:autoParam (∀ i,(backTo pos (starEach es (Y i).env)).any (·.1)=false) u4._auto_1):
 DE He K Y (.Call (.Name x p) (e::es) [] pos) (xCall P t):=by
 obtain ⟨te,h1,h2⟩:=ha
 refine ⟨tFnG K P te,fun i=> ?_,fun Pk Q F pp kk=>h2 _ _ F pp fun ds vs R1 H1 q1 e1 r1=>⟨R1,ds,_,e1.wd,r1,q1,fun dt v R' H' ⟨d,hd,pd⟩ ex sl=> ?_⟩⟩
 · obtain ⟨a1,a2,a3,a4,a5⟩:=hX i
   subst a1 a2 a3 a4 a5
   exact pe_fnG G (hr i) (h1 i) rfl (hg i) hdb (he i) (hpl i)
 · obtain ⟨R2,ex2,r2⟩:=frz_run (H0:=R1) hd ex sl
   exact kk d v R2 H' pd (e1.trans ex2) r2
noncomputable def xCallO (P:List PyData→(Dt→Prop)→Prop) (t:Dq):Dq:=fun env Q=>t env fun ds=>P ds fun dt=>∃xs,dt= .o xs∧Q xs
theorem do_call (G:Fn prog w K mg base x k ps (spG K P)) (hr: ∀i,Room k (Y i).A) (ha:DA He K Y (e::es) t) (hX:autoParam (∀ i,(Y i).prog=prog∧(Y i).w=w∧(Y i).K=K∧(Y i).mg=mg∧(Y i).base=base) u12._auto_1) (hg:autoParam (∀ i,Gl (Y i) x) u4._auto_1)
 (hdb:autoParam ((x == ("__debug__":Str))=false) u2._auto_1) (he:autoParam (∀ i,starEach (e::es) (Y i).env=(false,eval e (Y i).env)::starEach es (Y i).env) u4._auto_1) (hpl:autoParam (∀ i,(backTo pos (starEach es (Y i).env)).any (·.1)=false) u4._auto_1):
 DO He K Y (.Call (.Name x p) (e::es) [] pos) (xCallO P t):=by
 obtain ⟨te,h1,h2⟩:=ha
 refine ⟨tFnG K P te,fun i=> ?_,fun Pk Q F pp kk=>h2 _ _ F pp fun ds vs R1 H1 q1 e1 r1=>⟨R1,ds,_,e1.wd,r1,q1,fun dt v R' H' ⟨xs,hd,pd⟩ ex sl=> ?_⟩⟩
 · obtain ⟨a1,a2,a3,a4,a5⟩:=hX i
   subst a1 a2 a3 a4 a5
   exact pe_fnG G (hr i) (h1 i) rfl (hg i) hdb (he i) (hpl i)
 · subst hd
   obtain ⟨a,ys,rfl,h5,h6,h7,h8⟩:=sl
   exact kk xs a ys R' H' pd (e1.trans ex) (e1.hh.free h7) h5 h6 h8
noncomputable def xCallB (P:List PyData→(Dt→Prop)→Prop) (t:Dq):De:=fun env Q=>t env fun ds=>P ds fun dt=>∃d,dt= .d d∧immD d=true∧Q d
theorem de_callB (G:Fn prog w K mg base x k ps (spG K P)) (hr: ∀i,Room k (Y i).A) (ha:DAb He K Y (e::es) t) (hX:autoParam (∀ i,(Y i).prog=prog∧(Y i).w=w∧(Y i).K=K∧(Y i).mg=mg∧(Y i).base=base) u12._auto_1) (hg:autoParam (∀ i,Gl (Y i) x) u4._auto_1)
 (hdb:autoParam ((x == ("__debug__":Str))=false) u2._auto_1) (he:autoParam (∀ i,starEach (e::es) (Y i).env=(false,eval e (Y i).env)::starEach es (Y i).env) u4._auto_1) (hpl:autoParam (∀ i,(backTo pos (starEach es (Y i).env)).any (·.1)=false) u4._auto_1):
 DE He K Y (.Call (.Name x p) (e::es) [] pos) (xCallB P t):=by
 obtain ⟨te,h1,h2⟩:=ha
 refine ⟨tFnG K P te,fun i=> ?_,fun Pk Q F pp kk=>h2 _ _ F pp fun ds vs R1 H1 q1 e1 r1=>⟨H1,ds,_,Wd.all H1,r1,q1,fun dt v R' H' ⟨d,hd,hi,pd⟩ ex sl=> ?_⟩⟩
 · obtain ⟨a1,a2,a3,a4,a5⟩:=hX i
   subst a1 a2 a3 a4 a5
   exact pe_fnG G (hr i) (h1 i) rfl (hg i) hdb (he i) (hpl i)
 · subst hd
   obtain ⟨R2,ex2,tk,_⟩:=Ext.grow e1.wd ex.hh
   exact kk d v R2 H' pd (e1.trans ex2) (Rp.keep tk (Rp.same ex.rh sl) hi)
end
end L2
set_option Elab.async false
set_option linter.all false
set_option maxRecDepth 100000
namespace L2
open PySem PySem.Spec PyProof.Rows
structure Yld (K:PySem.W.Frag) (J:It) (R:Hp) (l:List PyData):Prop where
 go: ∀R1 H1 i,Same R R1→Wd R1 H1→i < l.length→J.go i H1
 yl: ∀R1 H1 i d x H2,Same R R1→Wd R1 H1→l[i]?=some d→J.yld i H1 x H2→∃R2,Ext R1 H1 R2 H2∧Rp K R2 x d
 st: ∀R1 H1,Same R R1→Wd R1 H1→J.stop l.length H1
section
variable (He:Hp) (K:PySem.W.Frag) {ι:Type} (Y:ι→Cx)
noncomputable def DI (tg iter:Expr) (t:Dq):Prop:=∃wi:TI,(∀ i,PI (Y i) tg iter wi)∧∀{H0 R H:Hp} {σ:St} {env:List Dt} (P:List PyData→Prop) (Q:It→Hp→Prop),Fra He K H0 R H σ env→t env P→
 (∀ l J R' H',P l→Ext R H R' H'→l.length≤sizeLine→Yld K J R' l→Q J H')→wi σ H Q
noncomputable abbrev Dg:=PyData→List Dt→(List Dt→Prop)→Prop
noncomputable def Agree (ts:List Nat) (σ σ':St):Prop:=σ'.length=σ.length∧∀k,k ∉ ts→σ'[k]?=σ[k]?
noncomputable def DG (tg:Expr) (ts:List Nat) (g:Dg):Prop:=∃gt:TG,(∀ i,PG (Y i) tg gt)∧∀{H0 R H:Hp} {σ:St} {env:List Dt} {d:PyData} {v:V} (P:List Dt→Prop) (Q:St→Hp→Prop),Fra He K H0 R H σ env→Rp K R v d→g d env P→
 (∀ env' σ',P env'→Fra He K H0 R H σ' env'→Agree ts σ σ'→Q σ' H)→gt v σ H Q
noncomputable def DIf (ifs:List Expr) (t:Db):Prop:=∃te:TT,(∀ i,PIf (Y i) ifs te)∧∀{H0 R H:Hp} {σ:St} {env:List Dt} (P:Bool→Prop) (Q:Bool→Hp→Prop),Fra He K H0 R H σ env→t env P→
 (∀ b R' H',P b→Ext R H R' H'→Q b H')→te σ H Q
end
section
variable {He:Hp} {K:PySem.W.Frag} {ι:Type} {Y:ι→Cx} {e a b c tg iter elt:Expr} {es ifs:List Expr} {pos:Pos}
noncomputable def iSeqZ (K:PySem.W.Frag) (tl:TE):TI:=fun σ H R=>tl σ H fun x H1=>∃a xs,x= .ref a∧((SqL K H1 a xs∧(xs.length≤sizeLine→R (Itl K a) H1))∨(SqT K H1 a xs∧(xs.length≤sizeLine→R (Itt K a) H1)))
theorem pi_seqZ {X:Cx} {l:Expr} {tl:TE} (K:PySem.W.Frag) (hl:PE X l tl) (hK:autoParam (X.K=K) u5._auto_1):PI X tg l (iSeqZ K tl):=by
 subst hK
 intro pins s σ H R I h
 refine thn (hl pins s σ H _ I h) fun v s1 ⟨x,H1,I1,r1,q1⟩=> ?_
 obtain ⟨a,xs,e,q⟩:=q1
 subst e
 cases r1
 rcases q with ⟨hq,q⟩ | ⟨hq,q⟩
 · obtain ⟨its,rv,p,hz⟩:=I1.list hq
   refine wpAny_pyIter_list p.isList ?_
   refine ⟨s1.heap.objs.size,[s1.heap.objs.size],_,_,H1,rfl,I1.kept (t':=s1.toks) fun b o e=>Heap.get?_push_of_some _ e,turn_list a _,⟨_,Heap.get?_push_size _ rfl,rfl,rfl⟩,fun b hb=> ?_,q hz⟩
   have e:b=s1.heap.objs.size:=by simpa using hb
   subst e
   exact I1.fpOk (Nat.le_refl _) (I1.hok.fresh (Nat.le_refl _))
 · obtain ⟨its,rv,p,hz⟩:=I1.tuple hq
   refine wpAny_pyIter_tuple (show s1.heap.IsTuple a its.toArray from p) ?_
   refine ⟨s1.heap.objs.size,[s1.heap.objs.size],_,_,H1,rfl,I1.kept (t':=s1.toks) fun b o e=>Heap.get?_push_of_some _ e,turn_tuple a _,⟨_,Heap.get?_push_size _ rfl,rfl,rfl⟩,fun b hb=> ?_,q hz⟩
   have e:b=s1.heap.objs.size:=by simpa using hb
   subst e
   exact I1.fpOk (Nat.le_refl _) (I1.hok.fresh (Nat.le_refl _))
theorem RpAll.some {R:Hp} {ys:List V} {l:List PyData} {i:Nat} (r:RpAll K R ys l) (h:i < l.length): ∃v,ys[i]?=some v:=by
 have hl:=r.len
 exact ⟨ys[i]'(by lia),by simp [show i < ys.length by lia]⟩
theorem yld_list {R:Hp} {a:Addr} {ys:List V} {l:List PyData} (h:SqL K R a ys) (r:RpAll K R ys l):Yld K (Itl K a) R l:=by
 refine ⟨fun R1 H1 i s w hi=> ?_,fun R1 H1 i d x H2 s w hd y=> ?_,fun R1 H1 s w=> ?_⟩
 · obtain ⟨v,hv⟩:=r.some hi
   exact ⟨ys,v,(s.trans w.rh).seq h,hv⟩
 · obtain ⟨e,y⟩:=y
   subst e
   have z:=y ys ((s.trans w.rh).seq h)
   obtain ⟨d',hd',r'⟩:=r.get z
   rw [hd] at hd';cases hd'
   exact ⟨R1,.refl w,Rp.same s r'⟩
 · exact ⟨ys,(s.trans w.rh).seq h,by rw [r.len];exact Nat.le_refl _⟩
theorem yld_tup {R:Hp} {a:Addr} {ys:List V} {l:List PyData} (h:SqT K R a ys) (r:RpAll K R ys l):Yld K (Itt K a) R l:=by
 refine ⟨fun R1 H1 i s w hi=> ?_,fun R1 H1 i d x H2 s w hd y=> ?_,fun R1 H1 s w=> ?_⟩
 · obtain ⟨v,hv⟩:=r.some hi
   exact ⟨ys,v,(s.trans w.rh).seqT h,hv⟩
 · obtain ⟨e,y⟩:=y
   subst e
   have z:=y ys ((s.trans w.rh).seqT h)
   obtain ⟨d',hd',r'⟩:=r.get z
   rw [hd] at hd';cases hd'
   exact ⟨R1,.refl w,Rp.same s r'⟩
 · exact ⟨ys,(s.trans w.rh).seqT h,by rw [r.len];exact Nat.le_refl _⟩
theorem di_seq {t:De} (h:DE He K Y e t) (hK:autoParam (∀ i,(Y i).K=K) u4._auto_1):DI He K Y tg e (xSeq t):=by
 obtain ⟨te,h1,h2⟩:=h
 refine ⟨_,fun i=>pi_seqZ K (h1 i) (hK i),fun P Q F p k=>h2 _ _ F p fun d v R' H' ⟨l,hl,pl⟩ ex r=> ?_⟩
 obtain ⟨a,ys,rfl,h3,h4⟩:=seq_inv r hl
 refine ⟨a,ys,rfl,?_⟩
 rcases h3 with h3 | h3
 · exact .inl ⟨ex.rh.seq h3,fun hz=>k l _ R' H' pl ex (by rw [← h4.len];exact hz) (yld_list h3 h4)⟩
 · exact .inr ⟨ex.rh.seqT h3,fun hz=>k l _ R' H' pl ex (by rw [← h4.len];exact hz) (yld_tup h3 h4)⟩
theorem ints_get {lo:Int} {n i:Nat} {d:PyData} (h:(intsD lo n)[i]?=some d):i < n∧d= .int (lo + (i:Int)):=by
 unfold intsD at h
 rw [List.getElem?_map] at h
 obtain ⟨j,hj,rfl⟩:=Option.map_eq_some_iff.mp h
 obtain ⟨h1,h2⟩:=List.getElem?_eq_some_iff.mp hj
 rw [List.length_range] at h1
 rw [List.getElem_range] at h2
 subst h2
 exact ⟨h1,rfl⟩
theorem ints_len (lo:Int) (n:Nat):(intsD lo n).length=n:=by unfold intsD;rw [List.length_map,List.length_range]
theorem yld_rng (R:Hp) (lo:Int) (n:Nat):Yld K (Itr lo n) R (intsD lo n):=by
 refine ⟨fun R1 H1 i s w hi=> ?_,fun R1 H1 i d x H2 s w hd y=> ?_,fun R1 H1 s w=> ?_⟩
 · rw [ints_len] at hi;exact hi
 · obtain ⟨_,rfl⟩:=ints_get hd
   obtain ⟨e,y⟩:=y
   subst e y
   exact ⟨R1,.refl w,.int _⟩
 · rw [ints_len];exact Nat.le_refl _
noncomputable def xRange1 (t:De):Dq:=fun env P=>t env fun d=>∃j:Int,d= .int j∧ -(2 ^ 62)≤j∧j≤100000∧P (intsD 0 j.toNat)
theorem di_range1 {t:De} {p:Pos} (h:DB He K Y a t) (hm: ∀i,(Y i).mg "range"=none) (hg:autoParam (∀ i,Gl (Y i) "range") u4._auto_1) (hs:autoParam (∀ i,starEach [a] (Y i).env=[(false,eval a (Y i).env)]) u4._auto_1):DI He K Y tg (.Call (.Name "range" p) [a] [] pos) (xRange1 t):=by
 obtain ⟨te,h1,h2⟩:=h
 refine ⟨_,fun i=>pi_range1 (hg i) (hm i) (pa_cons (h1 i) pa_nil (hs i)) (hs i),fun P Q F p k=>h2 _ _ F p fun d v R' H' ⟨j,hj,b1,b2,pl⟩ ex r=> ?_⟩
 subst hj
 have ev:=r.int_inv
 subst ev
 exact ⟨j,rfl,b1,by lia,k _ _ R' H' pl ex (by rw [ints_len];exact szl (by lia)) (yld_rng R' 0 _)⟩
theorem agree_set (i:Nat) (x:Option V) (σ:St):Agree [i] σ (σ.set i x):=by
 refine ⟨by simp,fun k hk=> ?_⟩
 have hk:k≠i:=by simpa using hk
 rw [List.getElem?_set_ne (fun z=>hk z.symm)]
noncomputable def gN (i:Nat):Dg:=fun d env P=>P (env.set i (.d d))
theorem dg_name (i:Nat) {x:Str} (hN: ∀j,(Y j).N.Nodup) (hi:autoParam (∀ j,(Y j).N[i]?=some x) u4._auto_1) (hx:autoParam (∀ j,Loc (Y j).env.scope x) u13._auto_1)
 (hf:autoParam (∀ j,(Y j).fn x=true∨(Y j).env.scope.names.lookup x=some .local) u14._auto_1):DG He K Y (.Name x pos) [i] (gN i):=
 ⟨_,fun j=>pg_name (hN j) (hi j) (hx j) (hf j),fun P Q F r p k=>k _ _ p (F.setD i r) (agree_set i _ _)⟩
theorem pg_tupK {X:Cx} {es:List Expr} {k:Nat} {t:TGs} {n:Nat} (K:PySem.W.Frag) (hK:X.K=K) (hc:X.calm=true) (h:PGs X es t) (hn:(assignEach es X.env).length=n) (hst:(assignEach es X.env).findIdx? (·.1)=none):PG X (.Tuple es k pos) (gTup K n t):=hK▸pg_tup hc h hn hst
noncomputable def gN2 (i j:Nat):Dg:=fun d env P=>∃x y,d= .tuple [x,y]∧P ((env.set i (.d x)).set j (.d y))
theorem dg_tup2 (i j:Nat) {x y:Str} {p1 p2:Pos} {k:Nat} (hN: ∀j,(Y j).N.Nodup) (hi:autoParam (∀ k,(Y k).N[i]?=some x) u4._auto_1) (hj:autoParam (∀ k,(Y k).N[j]?=some y) u4._auto_1) (hx:autoParam (∀ j,Loc (Y j).env.scope x) u13._auto_1) (hy:autoParam (∀ j,Loc (Y j).env.scope y) u13._auto_1)
 (hfx:autoParam (∀ j,(Y j).fn x=true∨(Y j).env.scope.names.lookup x=some .local) u14._auto_1) (hfy:autoParam (∀ j,(Y j).fn y=true∨(Y j).env.scope.names.lookup y=some .local) u14._auto_1)
 (hc:autoParam (∀ j,(Y j).calm=true) u4._auto_1) (hK:autoParam (∀ i,(Y i).K=K) u4._auto_1)
 (ha1:autoParam (∀ k,(assignEach [.Name x p1,.Name y p2] (Y k).env).map (·.2)=assign (.Name x p1) (Y k).env::(assignEach [.Name y p2] (Y k).env).map (·.2)) u4._auto_1) (ha2:autoParam (∀ k,(assignEach [.Name y p2] (Y k).env).map (·.2)=assign (.Name y p2) (Y k).env::(assignEach [] (Y k).env).map (·.2)) u4._auto_1)
 (hn:autoParam (∀ k,(assignEach [.Name x p1,.Name y p2] (Y k).env).length=2) u4._auto_1) (hst:autoParam (∀ k,(assignEach [.Name x p1,.Name y p2] (Y k).env).findIdx? (·.1)=none) u4._auto_1):
 DG He K Y (.Tuple [.Name x p1,.Name y p2] k pos) [i,j] (gN2 i j):=by
 refine ⟨_,fun m=>pg_tupK K (hK m) (hc m) (pgs_cons (pg_name (hN m) (hi m) (hx m) (hfx m)) (pgs_cons (pg_name (hN m) (hj m) (hy m) (hfy m)) pgs_nil (ha2 m)) (ha1 m)) (hn m) (hst m),fun P Q F r p k=> ?_⟩
 obtain ⟨u,w,rfl,p⟩:=p
 obtain ⟨a,xs,rfl,h1,h2⟩:=r.tup_inv
 cases h2 with
 | cons r1 h3=>
   cases h3 with
   | cons r2 h4=>
     cases h4
     refine ⟨a,_,rfl,SqT.of (F.wd.rh _ _ h1),rfl,_,_,rfl,_,_,rfl,rfl,?_⟩
     refine k _ _ p ((F.setD i r1).setD j r2) ?_
     obtain ⟨a1,a2⟩:=agree_set i (some _) _
     obtain ⟨b1,b2⟩:=agree_set j (some _) _
     exact ⟨b1.trans a1,fun m hm=>(b2 m (by simp at hm ⊢;exact hm.2)).trans (a2 m (by simp at hm ⊢;exact hm.1))⟩
noncomputable abbrev Yc {ι:Type} (Y:ι→Cx) (scope:Scope) (N':List Str):ι×Shared×Hp×List Addr→Cx:=fun p=>cxComp (Y p.1) scope N' p.2.1 p.2.2.1 p.2.2.2
noncomputable def xTrue:Db:=fun q_ P=>P true
theorem dif_nil:DIf He K Y [] xTrue:=⟨_,fun q_=>pif_nil,fun P Q F p k=>k true _ _ p (.refl F.wd)⟩
theorem dif_one {t:Db} (h:DT He K Y c t):DIf He K Y [c] t:=by
 obtain ⟨te,h1,h2⟩:=h
 exact ⟨te,fun i=>pif_one (h1 i),h2⟩
inductive LcR (G:PyData→Option PyData→Prop):List PyData→List PyData→Prop where
 | nil:LcR G [] []
 | skip {y:PyData} {l o:List PyData}:G y none→LcR G l o→LcR G (y::l) o
 | keep {y z:PyData} {l o:List PyData}:G y (some z)→LcR G l o→LcR G (y::l) (z::o)
theorem LcR.snoc_skip {G:PyData→Option PyData→Prop} {y:PyData} (h:G y none): ∀{l o:List PyData},LcR G l o→LcR G (l++[y]) o
 | _,_,.nil=> .skip h .nil
 | _,_,.skip a b=> .skip a (b.snoc_skip h)
 | _,_,.keep a b=> .keep a (b.snoc_skip h)
theorem LcR.snoc_keep {G:PyData→Option PyData→Prop} {y z:PyData} (h:G y (some z)): ∀{l o:List PyData},LcR G l o→LcR G (l++[y]) (o++[z])
 | _,_,.nil=> .keep h .nil
 | _,_,.skip a b=> .skip a (b.snoc_keep h)
 | _,_,.keep a b=> .keep a (b.snoc_keep h)
noncomputable def capD (env:List Dt) (js:List (Option Nat)):List Dt:=js.map fun (o:Option Nat)=>match o with
 | none=> .un
 | some j=>(env[j]?).getD .un
noncomputable def capInj:List (Option Nat)→Bool
 | []=>true
 | none::r=>capInj r
 | some j::r=> !r.contains (some j) && capInj r
theorem capInj_spec: ∀{js:List (Option Nat)},capInj js=true→∀(k k' j:Nat),js[k]?=some (some j)→js[k']?=some (some j)→k=k'
 | [],_,k,_,j,h,_=>by simp at h
 | none::r,hc,k,k',j,h,h'=>by
   cases k with
   | zero=>simp at h
   | succ k=>
     cases k' with
     | zero=>simp at h'
     | succ k'=>rw [capInj_spec (js:=r) hc k k' j (by simpa using h) (by simpa using h')]
 | some i::r,hc,k,k',j,h,h'=>by
   have hc:_∧_:=Bool.and_eq_true_iff.mp hc
   have nc:some i ∉ r:=by simpa using hc.1
   cases k with
   | zero=>
     cases k' with
     | zero=>rfl
     | succ k'=>
       have e:i=j:=by simpa using h
       subst e
       exact absurd (List.mem_of_getElem? (show r[k']?=some (some i) by simpa using h')) nc
   | succ k=>
     cases k' with
     | zero=>
       have e:i=j:=by simpa using h'
       subst e
       exact absurd (List.mem_of_getElem? (show r[k]?=some (some i) by simpa using h)) nc
     | succ k'=>rw [capInj_spec (js:=r) hc.2 k k' j (by simpa using h) (by simpa using h')]
theorem cap_get {env:List Dt} {js:List (Option Nat)} {k:Nat} {d:Dt} (h:(capD env js)[k]?=some d):d= .un∨∃j,js[k]?=some (some j)∧env[j]?=some d:=by
 unfold capD at h
 rw [List.getElem?_map] at h
 obtain ⟨o,ho,e⟩:=Option.map_eq_some_iff.mp h
 cases o with
 | none=>exact .inl e.symm
 | some j=>
   cases q:env[j]? with
   | none=>simp only [q,Option.getD_none] at e;exact .inl e.symm
   | some d'=>simp only [q,Option.getD_some] at e;subst e;exact .inr ⟨j,ho,q⟩
theorem capSt_get {σ:St} {js:List (Option Nat)} {k j:Nat} (h:js[k]?=some (some j)):(capSt σ js)[k]?=some (σ[j]?).join:=by
 unfold capSt
 rw [List.getElem?_map,h]
 rfl
theorem Fra.cap {H0 R H:Hp} {σ:St} {env:List Dt} {js:List (Option Nat)} (f:Fra He K H0 R H σ env) (hj:capInj js=true):Fra He K H0 R H (capSt σ js) (capD env js):=by
 refine ⟨f.at0,f.ext,by simp [capSt,capD],fun k d h=> ?_,fun k k' dk dk' a h h' o o'=> ?_⟩
 · rcases cap_get h with rfl | ⟨j,hj,e⟩
   · cases ((capSt σ js)[k]?).join <;> trivial
   · rw [capSt_get hj]
     exact f.slot j d e
 · rcases cap_get h with rfl | ⟨j,hjk,e⟩
   · cases o
   · rcases cap_get h' with rfl | ⟨j',hjk',e'⟩
     · cases o'
     · rw [capSt_get hjk] at o
       rw [capSt_get hjk'] at o'
       have ej:=f.apart j j' dk dk' a e e' o o'
       subst ej
       exact capInj_spec hj k k' j hjk hjk'
theorem Fra.agree {H0 R H:Hp} {σ σ':St} {env:List Dt} {ts:List Nat} (f:Fra He K H0 R H σ env) (ha:Agree ts σ σ') (hu: ∀k∈ts,∀(d:Dt),env[k]?=some d→d= .un):Fra He K H0 R H σ' env:=by
 refine ⟨f.at0,f.ext,ha.1.trans f.len,fun k d h=> ?_,fun k k' dk dk' a h h' o o'=> ?_⟩
 · by_cases hk:k∈ts
   · rw [hu k hk d h]
     cases (σ'[k]?).join <;> trivial
   · rw [ha.2 k hk];exact f.slot k d h
 · have n1:k ∉ ts:=fun z=>by rw [hu k z dk h] at o;cases o
   have n2:k' ∉ ts:=fun z=>by rw [hu k' z dk' h'] at o';cases o'
   rw [ha.2 k n1] at o
   rw [ha.2 k' n2] at o'
   exact f.apart k k' dk dk' a h h' o o'
theorem Fra.other {H0 R H:Hp} {σ:St} {env:List Dt} {D:Addr} {o:HO} (f:Fra He K H0 R H σ env) (h0:H0 D=none) (hr:R D=none) (lo:Loose o) (hne: ∀(k:Nat) (d:Dt),env[k]?=some d→¬d.has H (σ[k]?).join D):Fra He K H0 R (upd H D o) σ env:=by
 have w:=Wd.mut (o:=o) f.wd hr lo
 refine ⟨f.at0,⟨f.ext.hh.put h0,f.ext.rr,w.rh,f.ext.nn,w.ls⟩,f.len,fun k d h=>(f.slot k d h).mut (hne k d h),fun k j dk dj b ek ej ok oj=>f.apart k j dk dj b ek ej ((f.slot k dk ek).hasMut (hne k dk ek) ok) ((f.slot j dj ej).hasMut (hne j dj ej) oj)⟩
theorem Ext.mut {R H R1 H1:Hp} {p:Addr} {o:HO} (e:Ext R H R1 H1) (h:H p=none) (hr:R1 p=none) (lo:Loose o):Ext R H R1 (upd H1 p o):=by
 have w:=Wd.mut (o:=o) e.wd hr lo
 exact ⟨e.hh.put h,e.rr,w.rh,e.nn,w.ls⟩
noncomputable def xLC (js:List (Option Nat)) (ti:Dq) (g:Dg) (tc:Db) (te:De):Dq:=fun env P=>ti env fun l=>∃G:PyData→Option PyData→Prop,
 (∀ y∈l,g y (capD env js) fun env1=>tc env1 fun b=>if b=true then te env1 fun z=>G y (some z) else G y none)∧∀o,LcR G l o→P o
variable {scope:Scope} {N':List Str} {js:List (Option Nat)} {ts:List Nat}
theorem lc_run {ti:Dq} {g:Dg} {tc:Db} {te:De} {wi:TI} {gt:TG} {ct:TT} {et:TE}
 (hi: ∀{H0 R H:Hp} {σ:St} {env:List Dt} (P:List PyData→Prop) (Q:It→Hp→Prop),Fra He K H0 R H σ env→ti env P→(∀ l J R' H',P l→Ext R H R' H'→l.length≤sizeLine→Yld K J R' l→Q J H')→wi σ H Q)
 (hg: ∀{H0 R H:Hp} {σ:St} {env:List Dt} {d:PyData} {v:V} (P:List Dt→Prop) (Q:St→Hp→Prop),Fra He K H0 R H σ env→Rp K R v d→g d env P→(∀ env' σ',P env'→Fra He K H0 R H σ' env'→Agree ts σ σ'→Q σ' H)→gt v σ H Q)
 (hc: ∀{H0 R H:Hp} {σ:St} {env:List Dt} (P:Bool→Prop) (Q:Bool→Hp→Prop),Fra He K H0 R H σ env→tc env P→(∀ b R' H',P b→Ext R H R' H'→Q b H')→ct σ H Q)
 (he: ∀{H0 R H:Hp} {σ:St} {env:List Dt} (P:PyData→Prop) (Q:VK),Fra He K H0 R H σ env→te env P→(∀ d v R' H',P d→Ext R H R' H'→Rp K R' v d→Q v H')→et σ H Q)
 (hj:capInj js=true) (hts: ∀k∈ts,js[k]?=some none∨js[k]?=none)
 {H0 R H:Hp} {σ:St} {env:List Dt} (P:List PyData→Prop) (Q:VK) (F:Fra He K H0 R H σ env) (p:xLC js ti g tc te env P)
 (k: ∀ds a ys R' H',P ds→Ext R H R' H'→H a=none→H' a=some (.lst ys)→R' a=none→RpAll K R' ys ds→Q (.ref a) H'):tLC js wi gt ct et σ H Q:=by
 refine hi _ _ F p fun l J R1 H1 ⟨G,hG,hP⟩ e1 hz yd D hD=> ?_
 have hD0:H0 D=none:=F.ext.hh.free (e1.hh.free hD)
 have hDR:R1 D=none:=e1.wd.rh.free hD
 have F1:=(F.next e1).cap hj
 have un: ∀k∈ts,∀(d:Dt),(capD env js)[k]?=some d→d= .un:=fun m hm d hd=>by
  rcases cap_get hd with z | ⟨j,z,_⟩
  · exact z
  · rcases hts m hm with q | q
    · rw [q] at z;cases z
    · rw [q] at z;cases z
 have ne1: ∀(m:Nat) (d:Dt),(capD env js)[m]?=some d→¬d.has H1 ((capSt σ js)[m]?).join D:=fun m d h z=>by
  obtain ⟨u,h2,_⟩:=(F1.slot m d h).hasAt z
  rw [hD] at h2;cases h2
 refine ⟨fun i m σ1 acc H2=>m=l.length - i∧i≤l.length∧∃R2 outs,Fra He K H0 R2 H2 σ1 (capD env js)∧Ext R1 H1 R2 H2∧H2 D=some (.lst acc)∧R2 D=none∧RpAll K R2 acc outs∧LcR G (l.take i) outs∧acc.length≤i∧
  ∀(m:Nat) (d:Dt),(capD env js)[m]?=some d→¬d.has H2 (σ1[m]?).join D,⟨l.length,by simp,Nat.zero_le _,R1,[],?_,?_,upd_same,hDR,.nil,.nil,Nat.le_refl _,fun m d h z=>ne1 m d h ((F1.slot m d h).hasMut (ne1 m d h) z)⟩,?_⟩
 · exact F1.other hD0 hDR trivial ne1
 · exact (Ext.refl e1.wd).mut hD hDR trivial
 · rintro i m σ1 acc H2 ⟨rfl,hi',R2,outs,F2,e2,hD2,hR2,ra,lc,hl,ne2⟩
   by_cases hlt:i < l.length
   · refine .inr ⟨yd.go R2 H2 i e2.rr e2.wd hlt,_,fun σ' acc' H' n'=>⟨l.length - (i + 1),by lia,rfl,hlt,n'⟩,fun x H3 y=> ?_⟩
     have hd:l[i]?=some l[i]:=by simp [hlt]
     obtain ⟨R3,e3,r3⟩:=yd.yl R2 H2 i l[i] x H3 e2.rr e2.wd hd y
     have F3:=F2.next e3
     have tk:l.take (i + 1)=l.take i++[l[i]]:=by rw [List.take_add_one,hd];rfl
     refine hg _ _ F3 r3 (hG l[i] (List.getElem_mem hlt)) fun env4 σ4 p4 F4 ag=> ?_
     have F3':Fra He K H0 R3 H3 σ4 (capD env js):=F3.agree ag un
     have ne4: ∀(H':Hp),Same H3 H'→∀(m:Nat) (d:Dt),(capD env js)[m]?=some d→¬d.has H' (σ4[m]?).join D:=fun H' s m d h z=>by
      have z:=(F3'.slot m d h).hasNext (fun a ys q_ q=>s a _ q) z
      rw [ag.2 m fun z'=>by rw [un m z' d h] at z;cases z] at z
      exact ne2 m d h ((F2.slot m d h).hasNext (fun a ys q_ q=>e3.hh a _ q) z)
     refine hc _ _ F4 p4 fun b R5 H5 p5 e5=> ?_
     cases b with
     | false=>
       rw [if_neg Bool.false_ne_true] at p5 ⊢
       have ee:=e3.trans e5
       exact ⟨R5,outs,F3'.next e5,e2.trans ee,ee.hh _ _ hD2,ee.nn _ _ hD2 hR2,RpAll.same ee.rr ra,by rw [tk];exact lc.snoc_skip p5,by lia,ne4 H5 e5.hh⟩
     | true=>
       rw [if_pos rfl] at p5 ⊢
       refine he _ _ (F4.next e5) p5 fun z v R6 H6 p6 e6 r6=> ?_
       have ee:=e3.trans (e5.trans e6)
       have hD6:=ee.hh _ _ hD2
       have hR6:=ee.nn _ _ hD2 hR2
       have F6:=F3'.next (e5.trans e6)
       have ne6:=ne4 H6 (e5.trans e6).hh
       refine ⟨hD6,by lia,R6,outs++[z],F6.other hD0 hR6 trivial ne6,(e2.trans ee).mut hD hR6 trivial,upd_same,hR6,RpAll.append (RpAll.same ee.rr ra) (.one r6),by rw [tk];exact lc.snoc_keep p6,by rw [List.length_append,List.length_singleton];lia,fun m d h z=>ne6 m d h ((F6.slot m d h).hasMut (ne6 m d h) z)⟩
   · have e:i=l.length:=by lia
     subst e
     rw [List.take_length] at lc
     exact .inl ⟨yd.st R2 H2 e2.rr e2.wd,k outs D acc R2 H2 (hP outs lc) (e1.trans e2) (e1.hh.free hD) hD2 hR2 ra⟩
theorem do_lc {ti:Dq} {g:Dg} {tc:Db} {te:De} (caps: ∀i,Caps (Y i) scope N' js) (hi:DI He K Y tg iter ti) (hg:DG He K (Yc Y scope N') tg ts g) (hc:DIf He K (Yc Y scope N') ifs tc) (he:DE He K (Yc Y scope N') elt te)
 (hj:autoParam (capInj js=true) u5._auto_1) (hts:autoParam (∀ k∈ts,js[k]?=some none∨js[k]?=none) u15._auto_1)
 (hcalm:autoParam (∀ i,(Y i).calm=true) u4._auto_1)
 (hfb:autoParam (∀ i,(scope.names.all fun p=>p.2 != NameKind.free || ((Y i).env.scope.names.lookup p.1 == some .cell || (Y i).env.scope.names.lookup p.1 == some .free))=true) u4._auto_1)
 (hnb:autoParam ((scope.names.all fun p=>p.2 != NameKind.local || scope.names.lookup p.1 == some .local)=true) u5._auto_1)
 (hkind:autoParam (scope.kind= .function) u5._auto_1)
 (hs:autoParam (∀ i x,foldedSetIterable iter (Y i).env x=pure x) u11._auto_1):DO He K Y (.ListComp elt [⟨tg,iter,ifs,0⟩] scope pos) (xLC js ti g tc te):=by
 obtain ⟨wi,i1,i2⟩:=hi
 obtain ⟨gt,g1,g2⟩:=hg
 obtain ⟨ct,c1,c2⟩:=hc
 obtain ⟨et,e1,e2⟩:=he
 exact ⟨_,fun i=>pe_lcomp (hcalm i) (caps i) (i1 i) (fun s H fp=>g1 (i,s,H,fp)) (fun s H fp=>c1 (i,s,H,fp)) (fun s H fp=>e1 (i,s,H,fp)) (hfb i) hnb hkind (hs i),fun P Q F p k=>lc_run i2 g2 c2 e2 hj hts P Q F p k⟩
structure DEnds where
 nx:List Dt→Prop
 rt:Dt→Prop
 bk:List Dt→Prop:=fun q_=>False
 ct:List Dt→Prop:=fun q_=>False
structure Cov (He:Hp) (K:PySem.W.Frag) (H0 R0:Hp) (D:DEnds) (E:Ends):Prop where
 nx: ∀env' R' H' σ',D.nx env'→Same R0 R'→Fra He K H0 R' H' σ' env'→E.nx σ' H'
 rt: ∀dt v R' H',D.rt dt→Ext H0 H0 R' H'→SlotR K H0 R' H' (some v) dt→E.rt v H'
 bk: ∀env' R' H' σ',D.bk env'→Same R0 R'→Fra He K H0 R' H' σ' env'→E.bk σ' H'
 ct: ∀env' R' H' σ',D.ct env'→Same R0 R'→Fra He K H0 R' H' σ' env'→E.ct σ' H'
noncomputable abbrev Ds:=DEnds→List Dt→Prop
noncomputable def DS (He:Hp) (K:PySem.W.Frag) {ι:Type} (Y:ι→Cx) (st:Stmt) (t:Ds):Prop:=∃ts:TS,(∀ i,PS (Y i) st ts)∧∀{H0 R0 R H:Hp} {σ:St} {env:List Dt} (D:DEnds) (E:Ends),Fra He K H0 R H σ env→Same R0 R→Cov He K H0 R0 D E→t D env→ts E σ H
noncomputable def DSs (He:Hp) (K:PySem.W.Frag) {ι:Type} (Y:ι→Cx) (st:List Stmt) (t:Ds):Prop:=∃ts:TS,(∀ i,PSs (Y i) st ts)∧∀{H0 R0 R H:Hp} {σ:St} {env:List Dt} (D:DEnds) (E:Ends),Fra He K H0 R H σ env→Same R0 R→Cov He K H0 R0 D E→t D env→ts E σ H
variable {st:Stmt} {rest:List Stmt}
noncomputable def sNext:Ds:=fun D env=>D.nx env
noncomputable def sSeq (t u:Ds):Ds:=fun D env=>t {D with nx:=u D} env
theorem dss_nil:DSs He K Y [] sNext:=⟨_,fun q_=>pss_nil,fun D E F s c p=>c.nx _ _ _ _ p s F⟩
theorem dss_cons {t u:Ds} (h:DS He K Y st t) (h':DSs He K Y rest u):DSs He K Y (st::rest) (sSeq t u):=by
 obtain ⟨a,a1,a2⟩:=h
 obtain ⟨b,b1,b2⟩:=h'
 exact ⟨_,fun i=>pss_cons (a1 i) (b1 i),fun D E F s c p=>a2 {D with nx:=u D} _ F s ⟨fun env' R' H' σ' q s' F'=>b2 D E F' s' c q,c.rt,c.bk,c.ct⟩ p⟩
theorem dss_one {t:Ds} (h:DS He K Y st t):DSs He K Y [st] t:=by
 obtain ⟨a,a1,a2⟩:=h
 exact ⟨_,fun i=>pss_one (a1 i),a2⟩
noncomputable def sFrz (i:Nat) (t:Ds):Ds:=fun D env=>∃xs,env[i]?=some (.o xs)∧t D (env.set i (.d (.list xs)))
theorem DSs.frz {sts:List Stmt} {t:Ds} (i:Nat) (h:DSs He K Y sts t):DSs He K Y sts (sFrz i t):=by
 obtain ⟨a,a1,a2⟩:=h
 refine ⟨a,a1,fun D E F s c ⟨xs,e,p⟩=> ?_⟩
 obtain ⟨R',s',F'⟩:=F.frz e
 exact a2 D E F' (s.trans s') c p
noncomputable def sSet (i:Nat) (t:De):Ds:=fun D env=>t env fun d=>D.nx (env.set i (.d d))
theorem ds_set (i:Nat) {x:Str} {t:De} {pos':Pos} (hN: ∀j,(Y j).N.Nodup) (h:DE He K Y e t) (hi:autoParam (∀ j,(Y j).N[i]?=some x) u4._auto_1) (hx:autoParam (∀ j,Loc (Y j).env.scope x) u13._auto_1)
 (hs:autoParam (∀ j,swapsWith e (some (.Name x pos')) pos.line (Y j).env=pure false) u4._auto_1) (hf:autoParam (∀ j,(Y j).fn x=true∨(Y j).env.scope.names.lookup x=some .local) u14._auto_1):
 DS He K Y (.Assign [.Name x pos'] e pos) (sSet i t):=by
 obtain ⟨a,a1,a2⟩:=h
 exact ⟨_,fun j=>ps_set (hN j) (hi j) (hx j) (a1 j) (hs j) (hf j),fun D E F s c p=>a2 _ _ F p fun d v R' H' q e r=>c.nx _ _ _ _ q (s.trans e.rr) ((F.next e).setD i r)⟩
noncomputable def sSetO (i:Nat) (t:Dq):Ds:=fun D env=>t env fun l=>D.nx (env.set i (.o l))
theorem setlc_run {i:Nat} {t:Dq} {tl:TE} (ho: ∀{H0 R H:Hp} {σ:St} {env:List Dt} (P:List PyData→Prop) (Q:VK),Fra He K H0 R H σ env→t env P→
 (∀ ds a ys R' H',P ds→Ext R H R' H'→H a=none→H' a=some (.lst ys)→R' a=none→RpAll K R' ys ds→Q (.ref a) H')→tl σ H Q)
 {H0 R0 R H:Hp} {σ:St} {env:List Dt} (D:DEnds) (E:Ends) (F:Fra He K H0 R H σ env) (s:Same R0 R) (c:Cov He K H0 R0 D E) (p:sSetO i t D env):tAsg tl (gName i) E σ H:=
 ho _ _ F p fun l a ys R' H' q e hn ha hr r=>c.nx _ _ _ _ q (s.trans e.rr) (F.setN e i hn ⟨a,ys,rfl,ha,hr,F.ext.hh.free hn,r⟩)
theorem ds_setO (i:Nat) {x:Str} {t:Dq} {pos':Pos} (hN: ∀j,(Y j).N.Nodup) (h:DO He K Y e t) (hi:autoParam (∀ j,(Y j).N[i]?=some x) u4._auto_1) (hx:autoParam (∀ j,Loc (Y j).env.scope x) u13._auto_1)
 (hs:autoParam (∀ j,swapsWith e (some (.Name x pos')) pos.line (Y j).env=pure false) u4._auto_1) (hf:autoParam (∀ j,(Y j).fn x=true∨(Y j).env.scope.names.lookup x=some .local) u14._auto_1):
 DS He K Y (.Assign [.Name x pos'] e pos) (sSetO i t):=by
 obtain ⟨a,a1,a2⟩:=h
 exact ⟨_,fun j=>ps_set (hN j) (hi j) (hx j) (a1 j) (hs j) (hf j),fun D E F s c p=>setlc_run a2 D E F s c p⟩
theorem ds_setlc (i:Nat) {x:Str} {ti:Dq} {g:Dg} {tc:Db} {te:De} {pos' spos:Pos} (hN: ∀j,(Y j).N.Nodup) (caps: ∀i,Caps (Y i) scope N' js) (hi:DI He K Y tg iter ti) (hg:DG He K (Yc Y scope N') tg ts g) (hc:DIf He K (Yc Y scope N') ifs tc) (he:DE He K (Yc Y scope N') elt te)
 (hix:autoParam (∀ j,(Y j).N[i]?=some x) u4._auto_1) (hx:autoParam (∀ j,Loc (Y j).env.scope x) u13._auto_1)
 (hj:autoParam (capInj js=true) u5._auto_1) (hts:autoParam (∀ k∈ts,js[k]?=some none∨js[k]?=none) u15._auto_1)
 (hcalm:autoParam (∀ i,(Y i).calm=true) u4._auto_1)
 (hfb:autoParam (∀ i,(scope.names.all fun p=>p.2 != NameKind.free || ((Y i).env.scope.names.lookup p.1 == some .cell || (Y i).env.scope.names.lookup p.1 == some .free))=true) u4._auto_1)
 (hnb:autoParam ((scope.names.all fun p=>p.2 != NameKind.local || scope.names.lookup p.1 == some .local)=true) u5._auto_1)
 (hsw:autoParam (∀ j,swapsWith (.ListComp elt [⟨tg,iter,ifs,0⟩] scope pos) (some (.Name x pos')) spos.line (Y j).env=pure true) u4._auto_1)
 (hkind:autoParam (scope.kind= .function) u5._auto_1) (hs:autoParam (∀ i x,foldedSetIterable iter (Y i).env x=pure x) u11._auto_1)
 (hf:autoParam (∀ j,(Y j).fn x=true∨(Y j).env.scope.names.lookup x=some .local) u14._auto_1):
 DS He K Y (.Assign [.Name x pos'] (.ListComp elt [⟨tg,iter,ifs,0⟩] scope pos) spos) (sSetO i (xLC js ti g tc te)):=by
 obtain ⟨wi,i1,i2⟩:=hi
 obtain ⟨gt,g1,g2⟩:=hg
 obtain ⟨ct,c1,c2⟩:=hc
 obtain ⟨et,e1,e2⟩:=he
 exact ⟨_,fun m=>ps_setlc (i:=i) (hcalm m) (caps m) (i1 m) (fun s H fp=>g1 (m,s,H,fp)) (fun s H fp=>c1 (m,s,H,fp)) (fun s H fp=>e1 (m,s,H,fp)) (hN m) (hix m) (hx m) (hfb m) hnb (hsw m) hkind (hs m) (hf m),
  fun D E F s c p=>setlc_run (fun P Q F p k=>lc_run i2 g2 c2 e2 hj hts P Q F p k) D E F s c p⟩
noncomputable def sRet (t:De):Ds:=fun D env=>t env fun d=>D.rt (.d d)
theorem ds_ret {t:De} (h:DE He K Y e t):DS He K Y (.Return (some e) pos) (sRet t):=by
 obtain ⟨a,a1,a2⟩:=h
 exact ⟨_,fun j=>ps_ret (a1 j),fun D E F s c p=>a2 _ _ F p fun d v R' H' q e r=>c.rt _ _ R' H' q (F.ext.trans e) r⟩
noncomputable def sRetO (t:Dq):Ds:=fun D env=>t env fun l=>D.rt (.o l)
theorem ds_retO {t:Dq} (h:DO He K Y e t):DS He K Y (.Return (some e) pos) (sRetO t):=by
 obtain ⟨a,a1,a2⟩:=h
 exact ⟨_,fun j=>ps_ret (a1 j),fun D E F s c p=>a2 _ _ F p fun l a ys R' H' q e hn ha hr r=>c.rt _ _ R' H' q (F.ext.trans e) ⟨a,ys,rfl,ha,hr,F.ext.hh.free hn,r⟩⟩
noncomputable def sRetV (i:Nat):Ds:=fun D env=>∃dt,env[i]?=some dt∧dt≠ .un∧D.rt dt
theorem ds_retV (i:Nat) {x:Str} {p2:Pos} (h:autoParam (∀ j,PE (Y j) (.Name x p2) (tVar i)) u9._auto_1):DS He K Y (.Return (some (.Name x p2)) pos) (sRetV i):=
 ⟨_,fun j=>ps_ret (h j),fun D E F s c ⟨dt,e,hu,q⟩=>by
   obtain ⟨v,h1,h2⟩:=F.get e hu
   exact ⟨v,h1,c.rt dt v _ _ q F.ext h2⟩⟩
noncomputable def sIf (t:Db) (u w:Ds):Ds:=fun D env=>t env fun b=>if b=true then u D env else w D env
theorem ds_if {t:Db} {u w:Ds} {th el:List Stmt} (hc:DT He K Y c t) (h1:DSs He K Y th u) (h2:DSs He K Y el w):DS He K Y (.If c th el pos) (sIf t u w):=by
 obtain ⟨a,a1,a2⟩:=hc
 obtain ⟨b,b1,b2⟩:=h1
 obtain ⟨d,d1,d2⟩:=h2
 refine ⟨_,fun j=>ps_if (a1 j) (b1 j) (d1 j),fun D E F s c p=>a2 _ _ F p fun b R' H' q e=> ?_⟩
 cases b with
 | true=>
   rw [if_pos rfl] at q ⊢
   exact b2 D E (F.next e) (s.trans e.rr) c q
 | false=>
   rw [if_neg Bool.false_ne_true] at q ⊢
   exact d2 D E (F.next e) (s.trans e.rr) c q
noncomputable def sFor (ti:Dq) (g:Dg) (tb:Ds):Ds:=fun D env=>ti env fun l=>∃I:Nat→List Dt→Prop,I 0 env∧
 (∀ (k:Nat) (y:PyData) (env1:List Dt),l[k]?=some y→I k env1→g y env1 fun env2=>tb {nx:=I (k + 1),rt:=D.rt,bk:=D.nx,ct:=I (k + 1)} env2)∧∀env1,I l.length env1→D.nx env1
theorem ds_for {ti:Dq} {g:Dg} {tb:Ds} {body:List Stmt} (hp: ∀i,PassesOwn (model (Y i).prog (Y i).w) (Y i).A (Y i).env (Y i).xe) (hi:DI He K Y tg iter ti) (hg:DG He K Y tg ts g) (hb:DSs He K Y body tb) (hc:autoParam (∀ i,(Y i).calm=true) u4._auto_1)
 (hs:autoParam (∀ i x,foldedSetIterable iter (Y i).env x=pure x) u11._auto_1):DS He K Y (.For tg iter body [] pos) (sFor ti g tb):=by
 obtain ⟨wi,i1,i2⟩:=hi
 obtain ⟨gt,g1,g2⟩:=hg
 obtain ⟨bt,b1,b2⟩:=hb
 refine ⟨_,fun m=>ps_for (hp m) (hc m) (i1 m) (g1 m) (b1 m) (hs m),fun {H0 R0 R H σ env} D E F s c p=>i2 _ _ F p fun l J R1 H1 ⟨I,h0,hs,hd⟩ e1 hz yd=> ?_⟩
 have s1:Same R0 R1:=s.trans e1.rr
 refine ⟨fun i m σ2 H2=>m=l.length - i∧i≤l.length∧∃R2 env2,Fra He K H0 R2 H2 σ2 env2∧Same R1 R2∧I i env2,⟨l.length,by simp,Nat.zero_le _,R1,env,F.next e1,Same.refl R1,h0⟩,?_⟩
 rintro i m σ2 H2 ⟨rfl,hi',R2,env2,F2,s2,p2⟩
 by_cases hlt:i < l.length
 · refine .inr ⟨yd.go R2 H2 i s2 F2.wd hlt,fun σ' H'=>∃R2 env2,Fra He K H0 R2 H' σ' env2∧Same R1 R2∧I (i + 1) env2,fun σ' H' n'=>⟨l.length - (i + 1),by lia,rfl,hlt,n'⟩,fun x H3 y=> ?_⟩
   have hd':l[i]?=some l[i]:=by simp [hlt]
   obtain ⟨R3,e3,r3⟩:=yd.yl R2 H2 i l[i] x H3 s2 F2.wd hd' y
   refine g2 _ _ (F2.next e3) r3 (hs i l[i] env2 hd' p2) fun env4 σ4 p4 F4 q_=> ?_
   refine b2 (R0:=R1) {nx:=I (i + 1),rt:=D.rt,bk:=D.nx,ct:=I (i + 1)} _ F4 (s2.trans e3.rr) ⟨fun env' R' H' σ' q s' F'=>⟨R',env',F',s',q⟩,c.rt,fun env' R' H' σ' q s' F'=>c.nx _ _ _ _ q (s1.trans s') F',fun env' R' H' σ' q s' F'=>⟨R',env',F',s',q⟩⟩ p4
 · have e:i=l.length:=by lia
   subst e
   exact .inl ⟨yd.st R2 H2 s2 F2.wd,c.nx _ _ _ _ (hd env2 p2) (s1.trans s2) F2⟩
noncomputable def sApp (i:Nat) (t:De):Ds:=fun D env=>∃xs,env[i]?=some (.o xs)∧t env fun d=>xs.length < 100000∧D.nx (env.set i (.o (xs++[d])))
theorem Fra.lstAt {H0 R H:Hp} {σ:St} {env:List Dt} {i:Nat} {xs:List PyData} (F:Fra He K H0 R H σ env) (h:env[i]?=some (.o xs)): ∃a ys,σ[i]?=some (some (.ref a))∧H a=some (.lst ys)∧R a=none∧H0 a=none∧RpAll K R ys xs:=by
 obtain ⟨v,hs,a,ys,rfl,h2,h3,h4,h5⟩:=F.get h (by intro z;cases z)
 exact ⟨a,ys,hs,h2,h3,h4,h5⟩
theorem Fra.lstSet {H0 R H:Hp} {σ:St} {env:List Dt} {i:Nat} {xs xs':List PyData} {a:Addr} {ys':List V} (F:Fra He K H0 R H σ env) (h:env[i]?=some (.o xs)) (hs:σ[i]?=some (some (.ref a))) (h3:R a=none) (h4:H0 a=none) (h5:RpAll K R ys' xs'):Fra He K H0 R (upd H a (.lst ys')) σ (env.set i (.o xs')):=
 F.mut h rfl hs trivial ⟨a,ys',rfl,upd_same,h3,h4,h5⟩
theorem szlt' {n:Nat} (h:n≤100000):n < sizeLine:=Nat.lt_of_le_of_lt h (by decide)
theorem pe_bmK {X:Cx} {o e:Expr} {es:List Expr} {to:TE} {t:TA} {name:Str} {apos cpos:Pos} {T id:String} {r:V→List V→Hp→VK→Prop} (K:PySem.W.Frag) (hK:X.K=K) (pa:PlainAttrs T) (slot:Slot T name id) (hty:typeOf (.builtin id)=pure (.type "method_descriptor")) (hm:MtR X id r) (ho:PE X o to) (ha:PA X (e::es) t)
 (hbase:attributeBase o name X.env (eval o X.env)=eval o X.env)
 (hfew:((backTo cpos (starEach (e::es) X.env)).all (fun x=> !x.1) && (backToKw cpos (keywordEach [] X.env)).all (fun x=>x.1.isSome)
   && decide ((e::es).length + ([]:List Keyword).length + (if ([]:List Keyword).isEmpty then 0 else 1) < 30))=true)
 (hline:(apos.endLine == cpos.line)=true) (hs:starEach (e::es) X.env=(false,eval e X.env)::starEach es X.env) (hplain:(backTo cpos (starEach es X.env)).any (·.1)=false):
 PE X (.Call (.Attribute o name apos) (e::es) [] cpos) (tBM K T r to t):=hK▸pe_bm pa slot hty hm ho ha hbase hfew hline hs hplain
theorem ds_app (i:Nat) {x:Str} {t:De} {p2 apos cpos:Pos} (h:DE He K Y e t) (hv:autoParam (∀ j,PE (Y j) (.Name x p2) (tVar i)) u9._auto_1) (hK:autoParam (∀ i,(Y i).K=K) u4._auto_1)
 (hbase:autoParam (∀ j,attributeBase (.Name x p2) "append" (Y j).env (eval (.Name x p2) (Y j).env)=eval (.Name x p2) (Y j).env) u4._auto_1)
 (hfew:autoParam (∀ j,((backTo cpos (starEach [e] (Y j).env)).all (fun x=> !x.1) && (backToKw cpos (keywordEach [] (Y j).env)).all (fun x=>x.1.isSome)
   && decide (([e]:List Expr).length + ([]:List Keyword).length + (if ([]:List Keyword).isEmpty then 0 else 1) < 30))=true) u4._auto_1)
 (hline:autoParam ((apos.endLine == cpos.line)=true) u5._auto_1) (hs:autoParam (∀ j,starEach [e] (Y j).env=(false,eval e (Y j).env)::starEach [] (Y j).env) u4._auto_1) (hplain:autoParam (∀ j,(backTo cpos (starEach [] (Y j).env)).any (·.1)=false) u4._auto_1)
 (hsw:autoParam (∀ j,swapsWith (.Call (.Attribute (.Name x p2) "append" apos) [e] [] cpos) none pos.line (Y j).env=pure false) u4._auto_1):
 DS He K Y (.Expr (.Call (.Attribute (.Name x p2) "append" apos) [e] [] cpos) pos) (sApp i t):=by
 obtain ⟨te,a1,a2⟩:=h
 refine ⟨_,fun j=>ps_expr (pe_bmK K (hK j) PySem.F.plainAttrs_list PySem.F.slot_list_append PySem.F.type_list_append mt_append (hv j) (pa_cons (a1 j) pa_nil (hs j)) (hbase j) (hfew j) hline (hs j) (hplain j)) (hsw j),fun D E F s c p=> ?_⟩
 obtain ⟨xs,ex,p⟩:=p
 obtain ⟨a,ys,h1,h2,h3,h4,h5⟩:=F.lstAt ex
 refine ⟨_,h1,.inl ⟨rfl,_,SqL.of h2⟩,a2 _ _ F p fun d v R' H' ⟨hz,q⟩ ee r=> ?_⟩
 have r5:=RpAll.same ee.rr h5
 refine ⟨a,ys,v,rfl,rfl,ee.hh _ _ h2,szlt' (by rw [h5.len];lia),?_⟩
 exact c.nx _ _ _ _ q (s.trans ee.rr) ((F.next ee).lstSet ex h1 (ee.nn _ _ h2 h3) h4 (RpAll.append r5 (.one r)))
noncomputable def startD (n:Nat) (ds:List PyData):List Dt:=ds.map Dt.d++List.replicate (n - ds.length) .un
theorem Fra.begin {H:Hp} {N:List Str} {vs:List V} {ds:List PyData} (he:Same He H) (r:RpAll K H vs ds):Fra He K H H H (L2.start N vs) (startD N.length ds):=by
 have hl:=r.len
 refine ⟨he,Ext.of_same (Same.refl H),by simp [L2.start,startD,hl],fun i d h=> ?_,fun i j di dj a h q_ o q_=> ?_⟩
 · by_cases hi:i < ds.length
   · have e1:(startD N.length ds)[i]?=some (.d ds[i]):=by
      unfold startD
      rw [List.getElem?_append_left (by rw [List.length_map];exact hi),List.getElem?_map]
      simp [hi]
     rw [e1] at h;cases h
     obtain ⟨v,hv,rv⟩:=r.get' (i:=i) (d:=ds[i]) (by simp [hi])
     have e2:(L2.start N vs)[i]?=some (some v):=by
      unfold L2.start
      rw [List.getElem?_append_left (by rw [List.length_map,hl];exact hi),List.getElem?_map,hv];rfl
     rw [e2]
     exact rv
   · have:d= .un:=by
      unfold startD at h
      rw [List.getElem?_append_right (by rw [List.length_map];lia),List.getElem?_replicate] at h
      split at h
      · cases h;rfl
      · cases h
     subst this
     cases ((L2.start N vs)[i]?).join <;> trivial
 · by_cases hi:i < ds.length
   · have e1:(startD N.length ds)[i]?=some (.d ds[i]):=by
      unfold startD
      rw [List.getElem?_append_left (by rw [List.length_map];exact hi),List.getElem?_map]
      simp [hi]
     rw [e1] at h;cases h;cases o
   · have:di= .un:=by
      unfold startD at h
      rw [List.getElem?_append_right (by rw [List.length_map];lia),List.getElem?_replicate] at h
      split at h
      · cases h;rfl
      · cases h
     subst this
     cases o
theorem Fun.okG {P:Program} {w:World} {mg:Str→Option Value} {base:Heap} {x qual:Str} {st:Stmt} {f:Addr} {fd:FuncData} {N ps:List Str} {k:Nat} {Pm:List PyData→(Dt→Prop)→Prop} {T:Ds} (F:Fun K x qual st f fd) (S:FnScope N ps (defScope st)) (len: ∀ds RS,Pm ds RS→ds.length=ps.length)
 (hT: ∀(cdv:Value) (A:Around) (outer:List Env) (s:Shared) (H:Hp) (E:XK),Room k (A.deeper (envOfC qual (defScope st) s.heap.objs.size f cdv))→DSs (fun q_=>none) K (fun _:Unit=>(cxOf CX0 P w K mg base N qual (defScope st) f cdv A outer s H E).nox) (defBody st) T)
 (hR: ∀ds RS,Pm ds RS→T {nx:=fun q_=>RS (.d .none),rt:=RS} (startD N.length ds)):FnOk P w K mg base CX0 (k + 1) f fd ps (spG K Pm):=by
 refine F.ok S (fun vs H Q E h=> ?_) (fun cdv A outer s H vs Q E hr h=> ?_)
 · obtain ⟨ds,RS,h1,h2,_⟩:=h
   rw [h1.len]
   exact len ds RS h2
 · obtain ⟨ds,RS,h1,h2,k⟩:=h
   obtain ⟨ts,t1,t2⟩:=hT cdv A outer s H E hr
   refine ⟨ts,t1 (),t2 (R0:=H) {nx:=fun q_=>RS (.d .none),rt:=RS} _ (Fra.begin (fun q_ q_ z=>by cases z) h1) (Same.refl H) ⟨fun env' R' H' σ' q q_ F'=>k (.d .none) .non R' H' q F'.ext Rp.non,fun dt v R' H' q e sl=>k dt v R' H' q e sl,fun q_ q_ q_ q_ q=>q.elim,fun q_ q_ q_ q_ q=>q.elim⟩ (hR ds RS h2)⟩
end
end L2
set_option Elab.async false
set_option linter.all false
set_option maxRecDepth 100000
namespace L2
open PySem PySem.Spec PyProof.Rows
section
variable {prog:Program} {w:World} {A:Around} {E:Value→Shared→Prop} {s:Shared}
variable {z TI TO i1 i2:Addr} {f1 f2:List Addr} {n1 n2 k1 k2:Nat} {P1 P2:Nat→Value→Prop} {S1 S2:Nat→Heap→Prop} {a b:Value}
end
end L2
set_option Elab.async false
set_option linter.all false
set_option maxRecDepth 100000
namespace L2
open PySem PySem.Spec PyProof.Rows
section
variable {X:Cx} {pins:List (Addr×Obj)} {σ:St} {H:Hp} {s:Shared}
end
section
variable {a b c d e:Addr}
end
section
variable {prog:Program} {w:World} {A:Around} {E:Value→Shared→Prop} {s:Shared}
end
section
variable {X:Cx} {elts:List Expr} {kk:Nat} {tpos:Pos}
end
section
variable {He:Hp} {K:PySem.W.Frag} {ι:Type} {Y:ι→Cx} {a b:Expr} {pos:Pos} {elts:List Expr} {kk:Nat} {tpos:Pos}
end
end L2
set_option Elab.async false
set_option linter.all false
set_option maxRecDepth 100000
namespace L2
open PySem PySem.Spec PyProof.Rows
theorem rng_any (bs:List Bool):((List.range bs.length).any fun i=>(bs[i]?).getD false)=bs.any id:=by
 rw [Bool.eq_iff_iff,List.any_eq_true,List.any_eq_true]
 constructor
 · rintro ⟨i,hi,e⟩
   have hi':=List.mem_range.mp hi
   simp only [List.getElem?_eq_getElem hi',Option.getD_some] at e
   exact ⟨_,List.getElem_mem hi',e⟩
 · rintro ⟨b,hb,e⟩
   obtain ⟨i,hi,rfl⟩:=List.getElem_of_mem hb
   exact ⟨i,List.mem_range.mpr hi,by simp only [List.getElem?_eq_getElem hi,Option.getD_some];exact e⟩
section
variable {X:Cx}
theorem bool_at {bs:List Bool} {its:List Value} {i:Nat} {v:Value} (r:Vals (bs.map V.bl) its) (h:its[i]?=some v): ∃b,bs[i]?=some b∧v= .bool b:=by
 have hl:=r.length
 rw [List.length_map] at hl
 have hi:i < its.length:=(List.getElem?_eq_some_iff.mp h).1
 obtain ⟨u,hu,ru⟩:=r.get (i:=i) (x:=V.bl (bs[i]'(by lia))) (by simp [show i < bs.length by lia])
 rw [h] at hu
 cases hu
 exact ⟨_,by simp [show i < bs.length by lia],ru⟩
theorem call_any (K:PySem.W.Frag) (hc:X.calm=true) (hK:X.K=K):CallR X (.builtin "any") (fun xs H Q=>∃(p:Addr) (bs:List Bool),xs=[.ref p]∧SqL K H p (bs.map V.bl)∧Q (.bl (bs.any id)) H):=by
 subst hK
 intro pins s σ H xs us Q I r h
 obtain ⟨p,bs,rfl,hq,q⟩:=h
 obtain ⟨u,rfl,rx⟩:=vals1 r
 cases rx
 obtain ⟨its,rv,pl,hz⟩:=I.list hq
 have hl:=pl.isList
 have hlt:p < s.heap.objs.size:=by obtain ⟨_,e,_⟩:=hl;exact Heap.lt_size e
 have hh:X.A.in1.handled=none:=I.ok.hd hc
 refine call_any_walk (wpAny_pyIter_list hl ?_)
 refine ⟨s.heap.objs.size,[s.heap.objs.size,p],[s.heap.objs.size],its.toArray.size,_,_,fun i=>(bs[i]?).getD false,rfl,Walks.list (A:=X.A.in1) hh _ p (Nat.ne_of_lt hlt) its.toArray,
  ⟨⟨_,Heap.get?_push_size _ rfl,rfl,rfl⟩,hl.push _⟩,fun i v s' Q' E' hP hQ=> ?_,fun h' tk hk=> ?_⟩
 · obtain ⟨b,e,rfl⟩:=bool_at rv (i:=i) (v:=v) (by simpa using hP)
   simp only [e,Option.getD_some] at hQ
   exact wpAny_truthy_bool hQ
 · have e:((List.range its.toArray.size).any fun i=>(bs[i]?).getD false)=bs.any id:=by
    rw [List.size_toArray,← rv.length,List.length_map];exact rng_any bs
   rw [e]
   have kp: ∀b o,s.heap.get? b=some o→h'.get? b=some o:=fun b x e=>hk b x (fun hm=>by rw [List.mem_singleton.mp hm] at e;exact Nat.lt_irrefl _ (Heap.lt_size e)) (Heap.get?_push_of_some _ e)
   exact ⟨.bl _,H,I.kept kp,rfl,q⟩
end
section
variable {He:Hp} {K:PySem.W.Frag} {ι:Type} {Y:ι→Cx} {e a b:Expr} {pos:Pos}
theorem bt_any:bootBuiltins "any"=some (.builtin "any"):=by decide +kernel
noncomputable def xAny (t:Dq):De:=fun env P=>t env fun l=>∃bs:List Bool,l=bs.map PyData.bool∧P (.bool (bs.any id))
theorem de_any {t:Dq} {p:Pos} (h:DL He K Y a t) (hm: ∀i,(Y i).mg "any"=none) (hc:autoParam (∀ i,(Y i).calm=true) u4._auto_1) (hg:autoParam (∀ i,Gl (Y i) "any") u4._auto_1) (hK:autoParam (∀ i,(Y i).K=K) u4._auto_1) (hs:autoParam (∀ i,starEach [a] (Y i).env=[(false,eval a (Y i).env)]) u4._auto_1):
 DE He K Y (.Call (.Name "any" p) [a] [] pos) (xAny t):=by
 obtain ⟨te,h1,h2⟩:=h
 refine ⟨_,fun i=>pe_callB (call_any K (hc i) (hK i)) (hg i) (hm i) bt_any (pa_cons (h1 i) pa_nil (hs i)) (by decide) (by decide) (hs i),fun P Q F p k=>h2 _ _ F p fun l x ys R1 H1 ⟨bs,hb,q1⟩ e1 s1 r1=> ?_⟩
 subst hb
 rw [RpAll.bools_inv r1] at s1
 exact ⟨x,bs,rfl,SqL.of s1,k _ _ R1 H1 q1 e1 (.bl _)⟩
end
end L2
set_option Elab.async false
set_option linter.all false
set_option maxRecDepth 100000
namespace L2
open PySem PySem.Spec PyProof.Rows
section
variable {X:Cx}
end
section
variable {He:Hp} {K:PySem.W.Frag} {ι:Type} {Y:ι→Cx} {e a b c:Expr} {es:List Expr} {pos:Pos} {lo hi:Option Expr}
noncomputable abbrev Dp:=List Dt→(Option Int→Prop)→Prop
noncomputable def DP (He:Hp) (K:PySem.W.Frag) {ι:Type} (Y:ι→Cx) (e:Option Expr) (t:Dp):Prop:=∃te:TO,(∀ i,PO (Y i) e te)∧∀{H0 R H:Hp} {σ:St} {env:List Dt} (P:Option Int→Prop) (Q:Option Int→Hp→Prop),Fra He K H0 R H σ env→t env P→
 (∀ o R' H',P o→Ext R H R' H'→Q o H')→te σ H Q
noncomputable def xPn:Dp:=fun q_ P=>P none
noncomputable def xPs (t:De):Dp:=fun env P=>t env fun d=>∃i,d= .int i∧P (some i)
theorem dp_none:DP He K Y none xPn:=⟨_,fun q_=>po_none,fun P Q F p k=>k none _ _ p (.refl F.wd)⟩
theorem dp_some {t:De} (h:DB He K Y e t):DP He K Y (some e) (xPs t):=by
 obtain ⟨te,h1,h2⟩:=h
 refine ⟨_,fun i=>po_some (h1 i),fun P Q F p k=>h2 _ _ F p fun d v R' H' ⟨i,hi,q⟩ ex r=> ?_⟩
 subst hi
 exact ⟨i,r.int_inv,k _ R' H' q ex⟩
noncomputable def cutD (xs:List PyData) (lo hi:Option Int):List PyData:=(xs.drop (HT.sIx xs.length 0 lo)).take (HT.sIx xs.length xs.length hi - HT.sIx xs.length 0 lo)
theorem RpAll.cut {R:Hp} {ys:List V} {l:List PyData} (r:RpAll K R ys l) (lo hi:Option Int):RpAll K R (cutV ys lo hi) (cutD l lo hi):=by
 unfold cutV cutD
 rw [r.len]
 exact RpAll.take _ (RpAll.drop _ r)
theorem sl_listK {X:Cx} (K:PySem.W.Frag) (h:autoParam (X.K=K) u5._auto_1):SlR X (rSlL K):=h▸sl_list
noncomputable def xSlice (t:Dq) (tl th:Dp):Dq:=fun env P=>t env fun xs=>tl env fun l=>th env fun h=>P (cutD xs l h)
theorem do_slice {t:Dq} {tl th:Dp} {p2:Pos} (h:DL He K Y e t) (hl:DP He K Y lo tl) (hh:DP He K Y hi th) (hK:autoParam (∀ i,(Y i).K=K) u4._auto_1):DO He K Y (.Subscript e (.Slice lo hi none p2) pos) (xSlice t tl th):=by
 obtain ⟨te,h1,h2⟩:=h
 obtain ⟨tl',l1,l2⟩:=hl
 obtain ⟨th',u1,u2⟩:=hh
 refine ⟨_,fun i=>pe_slice (sl_listK K (hK i)) (h1 i) (l1 i) (u1 i),fun P Q F p k=> ?_⟩
 refine h2 _ _ F p fun l a ys R1 H1 q1 e1 s1 r1=> ?_
 refine l2 _ _ (F.next e1) q1 fun ol R2 H2 q2 e2=> ?_
 refine u2 _ _ (F.next (e1.trans e2)) q2 fun oh R3 H3 q3 e3=> ?_
 have ee:=e1.trans (e2.trans e3)
 refine ⟨a,ys,rfl,SqL.of ((e2.trans e3).hh _ _ s1),fun p hp=> ?_⟩
 have e4:=Ext.newO (o:= .lst (cutV ys ol oh)) ee.wd hp trivial
 exact k _ _ _ _ _ q3 (ee.trans e4) (ee.hh.free hp) upd_same (ee.wd.rh.free hp) (RpAll.cut (RpAll.same (e2.trans e3).rr r1) ol oh)
theorem RpAll.setAt {R:Hp} {v:V} {d:PyData} (h:Rp K R v d): ∀{vs:List V} {ds:List PyData} (j:Nat),RpAll K R vs ds→RpAll K R (vs.set j v) (ds.set j d)
 | _,_,_,.nil=> .nil
 | _,_,0,.cons _ t=> .cons h t
 | _,_,j + 1,.cons x t=> .cons x (RpAll.setAt h j t)
end
end L2
set_option Elab.async false
set_option linter.all false
set_option maxRecDepth 100000
namespace L2
open PySem PySem.Spec PyProof.Rows
theorem frz_d (x:PyData):frzD (.d x)=some x:=rfl
theorem frz_o (x:List PyData):frzD (.o x)=some (.list x):=rfl
theorem seq_l (xs:List PyData):seqD (.list xs)=some xs:=rfl
theorem seq_t (xs:List PyData):seqD (.tuple xs)=some xs:=rfl
theorem seq_scr (ns:List Int):seqD (scrD ns)=some (ns.map PyData.int):=by
 show (if excK (ns.map fun n=>(PyData.int n,PyData.none))=true then none else some ((ns.map fun n=>(PyData.int n,PyData.none)).map (·.1)))=_
 rw [excK_scr,if_neg Bool.false_ne_true,List.map_map];rfl
noncomputable def Gf {α:Type} (l:List α) (f:α→PyData) (q:α→Bool) (h:α→PyData):PyData→Option PyData→Prop:=fun y z=>∃x,x∈l∧y=f x∧((q x=true∧z=some (h x))∨(q x=false∧z=none))
theorem Gf.keep {α:Type} {l:List α} {f:α→PyData} {q:α→Bool} {h:α→PyData} {x:α} {z:PyData} (hx:x∈l) (hq:q x=true) (hz:z=h x):Gf l f q h (f x) (some z):=⟨x,hx,rfl,.inl ⟨hq,by rw [hz]⟩⟩
theorem Gf.skip {α:Type} {l:List α} {f:α→PyData} {q:α→Bool} {h:α→PyData} {x:α} (hx:x∈l) (hq:q x=false):Gf l f q h (f x) none:=⟨x,hx,rfl,.inr ⟨hq,rfl⟩⟩
theorem Gf.out {α:Type} {l0:List α} {f:α→PyData} {q:α→Bool} {h:α→PyData} (hf: ∀a b,f a=f b→a=b): ∀{l:List α} {o:List PyData},LcR (Gf l0 f q h) (l.map f) o→o=(l.filter q).map h
 | [],_,.nil=>rfl
 | x::l,_,.skip a b=>by
   obtain ⟨x',_,e,hz⟩:=a
   have e:=hf _ _ e
   subst e
   rcases hz with ⟨_,z⟩ | ⟨hq,_⟩
   · cases z
   · rw [List.filter_cons_of_neg (by rw [hq];exact Bool.false_ne_true)]
     exact Gf.out hf b
 | x::l,_,.keep a b=>by
   obtain ⟨x',_,e,hz⟩:=a
   have e:=hf _ _ e
   subst e
   rcases hz with ⟨hq,z⟩ | ⟨_,z⟩
   · rw [List.filter_cons_of_pos hq,List.map_cons]
     cases z
     exact congrArg _ (Gf.out hf b)
   · cases z
theorem Gf.all {α:Type} {l0:List α} {f:α→PyData} {h:α→PyData} (hf: ∀a b,f a=f b→a=b) {o:List PyData} (r:LcR (Gf l0 f (fun q_=>true) h) (l0.map f) o):o=l0.map h:=by
 rw [Gf.out hf r,List.filter_eq_self.mpr fun q_ q_=>rfl]
theorem int_inj: ∀a b:Int,PyData.int a=PyData.int b→a=b:=fun q_ q_ h=>PyData.int.inj h
theorem pair_inj: ∀a b:Int×Int,PyData.tuple [.int a.1,.int a.2]=PyData.tuple [.int b.1,.int b.2]→a=b:=fun a b h=>by
 injection h with h
 injection h with h1 h2
 injection h2 with h2 _
 exact Prod.ext (PyData.int.inj h1) (PyData.int.inj h2)
theorem ints0 (n:Nat):intsD 0 n=(List.range n).map fun (i:Nat)=>PyData.int (i:Int):=by
 unfold intsD
 exact List.map_congr_left fun a q_=>by rw [Int.zero_add]
theorem any_map {α:Type} (l:List α) (p:α→Bool):(l.map p).any id=l.any p:=by rw [List.any_map];rfl
end L2
namespace L2
open PySem PySem.Spec PyProof.Rows
theorem iteN {c:Bool} {A B:Prop} (hc:c=false) (h:B):if c=true then A else B:=by
 subst hc
 exact h
theorem seq_d {t u:Ds} {D:DEnds} {env:List Dt} (G:List Dt→Prop) (h1: ∀N:List Dt→Prop,(∀ e,G e→N e)→t {D with nx:=N} env) (h2: ∀e,G e→u D e):sSeq t u D env:=h1 (u D) h2
end L2
set_option Elab.async false
set_option linter.all false
set_option maxRecDepth 100000
namespace L2
open PySem PySem.Spec PyProof.Rows
section
variable {X:Cx}
end
section
variable {He:Hp} {K:PySem.W.Frag} {ι:Type} {Y:ι→Cx} {e a b:Expr} {pos:Pos}
theorem bt_int':bootBuiltins "int"=some (.type "int"):=by decide +kernel
end
end L2
namespace L2
open PySem PySem.Spec PyProof.Rows
section
variable {He:Hp} {K:PySem.W.Frag} {ι:Type} {Y:ι→Cx} {e:Expr}
end
end L2
set_option Elab.async false
set_option linter.all false
set_option maxRecDepth 100000
namespace L2
open PySem PySem.Spec PyProof.Rows
section
variable {prog:Program} {w:World} {A:Around} {E:Value→Shared→Prop} {s:Shared}
end
section
variable {X:Cx}
end
section
variable {He:Hp} {K:PySem.W.Frag} {ι:Type} {Y:ι→Cx} {a:Expr} {pos:Pos}
end
section
variable {X:Cx}
end
section
variable {He:Hp} {K:PySem.W.Frag} {ι:Type} {Y:ι→Cx}
end
end L2
set_option Elab.async false
set_option linter.all false
set_option maxRecDepth 100000
namespace L2
open PySem PySem.Spec PyProof.Rows
noncomputable def F2 (h h':Heap):Prop:=∀b o vs,h.get? b=some o→o.data= .fields vs→∃o' vs',h'.get? b=some o'∧o'.data= .fields vs'∧vs'[2]?=vs[2]?∧o'.cls=o.cls∧vs'[0]?=vs[0]?
theorem F2.refl (h:Heap):F2 h h:=fun b o vs e d=>⟨o,vs,e,d,rfl,rfl,rfl⟩
theorem F2.trans {h1 h2 h3:Heap} (a:F2 h1 h2) (b:F2 h2 h3):F2 h1 h3:=fun c o vs e d=>by
 obtain ⟨o',vs',e1,d1,r1,c1,z1⟩:=a c o vs e d
 obtain ⟨o'',vs'',e2,d2,r2,c2,z2⟩:=b c o' vs' e1 d1
 exact ⟨o'',vs'',e2,d2,r2.trans r1,c2.trans c1,z2.trans z1⟩
theorem F2.keeps {h h':Heap} (k: ∀b o,h.get? b=some o→h'.get? b=some o):F2 h h':=fun b o vs e d=>⟨o,vs,k b o e,d,rfl,rfl,rfl⟩
inductive Ch (h:Heap):Addr→Prop
 | nil {a:Addr} {o:Obj} {vs:Array Value}:h.get? a=some o→o.data= .fields vs→vs[2]?=some .none→Ch h a
 | cons {a b:Addr} {o:Obj} {vs:Array Value}:h.get? a=some o→o.data= .fields vs→vs[2]?=some (.ref b)→Ch h b→Ch h a
theorem Ch.to {h h':Heap} (k:F2 h h') {a:Addr} (c:Ch h a):Ch h' a:=by
 induction c with
 | nil e d z=>
   obtain ⟨o',vs',e1,d1,r1,_⟩:=k _ _ _ e d
   exact .nil e1 d1 (r1.trans z)
 | cons e d z _ ih=>
   obtain ⟨o',vs',e1,d1,r1,_⟩:=k _ _ _ e d
   exact .cons e1 d1 (r1.trans z) ih
structure Nt (fs xs:List Addr) (h h':Heap):Prop where
 keep: ∀b o,h.get? b=some o→b ∉ fs→b ∉ xs→h'.get? b=some o
 slot: ∀b o,h.get? b=some o→b∈fs→∃sl,h'.get? b=some {o with slots:=sl}
 f2:F2 h h'
theorem Nt.refl (fs:List Addr) (h:Heap):Nt fs [] h h:=⟨fun q_ q_ e q_ q_=>e,fun q_ o e q_=>⟨o.slots,e⟩,F2.refl h⟩
theorem Nt.trans {fs xs ys:List Addr} {h1 h2 h3:Heap} (a:Nt fs xs h1 h2) (b:Nt fs ys h2 h3):Nt fs (xs++ys) h1 h3:=by
 refine ⟨fun c o e hc n=>b.keep c o (a.keep c o e hc fun z=>n (List.mem_append_left _ z)) hc fun z=>n (List.mem_append_right _ z),fun c o e hc=> ?_,a.f2.trans b.f2⟩
 obtain ⟨sl,e1⟩:=a.slot c o e hc
 obtain ⟨sl2,e2⟩:=b.slot c _ e1 hc
 exact ⟨sl2,e2⟩
theorem Nt.more {fs xs ys:List Addr} {h h':Heap} (a:Nt fs xs h h') (k: ∀b o,h.get? b=some o→b∈xs→b∈ys):Nt fs ys h h':=⟨fun b o e hf n=>a.keep b o e hf fun z=>n (k b o e z),a.slot,a.f2⟩
theorem nt_set {fs:List Addr} {h:Heap} {a:Addr} {o:Obj} {vs:Array Value} {i:Nat} {v:Value} (e:h.get? a=some o) (d:o.data= .fields vs) (i2:i≠2) (i0:i≠0) (hf:a ∉ fs):Nt fs [a] h (h.update a (Obj.mapFields fun z=>z.setIfInBounds i v)):=by
 have d3:=Obj.data_mapFields d (fun z=>z.setIfInBounds i v)
 refine ⟨fun b u eb hb n=> ?_,fun b u eb hb=>⟨u.slots,?_⟩,fun b u ws eb du=> ?_⟩
 · rw [Heap.get?_update_other _ _ (fun z=>n (by rw [z];exact List.mem_cons_self))];exact eb
 · rw [Heap.get?_update_other _ _ (fun z=>hf (by rw [z];exact hb))];exact eb
 · by_cases q:a=b
   · subst q
     rw [e] at eb
     cases eb
     rw [d] at du
     cases du
     exact ⟨_,_,Heap.get?_update_self _ e (Obj.isFreed_of_fields d3),d3,by rw [Array.getElem?_setIfInBounds_ne i2],Obj.cls_mapFields _ _,by rw [Array.getElem?_setIfInBounds_ne i0]⟩
   · exact ⟨u,ws,by rw [Heap.get?_update_other _ _ q];exact eb,du,rfl,rfl,rfl⟩
theorem set_at {h:Heap} {a:Addr} {o:Obj} {vs:Array Value} {i:Nat} {v:Value} (e:h.get? a=some o) (d:o.data= .fields vs) (hi:i < vs.size): ∃o' vs',(h.update a (Obj.mapFields fun z=>z.setIfInBounds i v)).get? a=some o'∧o'.data= .fields vs'∧vs'[i]?=some v∧o'.cls=o.cls:=
 ⟨_,_,Heap.get?_update_self _ e (Obj.isFreed_of_fields (Obj.data_mapFields d _)),Obj.data_mapFields d _,by simp [hi],Obj.cls_mapFields _ _⟩
noncomputable def XRec (h:Heap) (e:Addr) (tb:Value):Prop:=∃oe vs,h.get? e=some oe∧oe.data= .fields vs∧vs[1]?=some tb
noncomputable def TbAt (h:Heap) (T:Addr) (fl:Value):Prop:=∃oT ts,h.get? T=some oT∧oT.data= .fields ts∧ts[3]?=some fl
section
variable {M:Model} {A:Around} {E:Value→Shared→Prop} {s:Shared} {base:Heap} {env env':Env} {outer:List Env} {L e T:Addr}
theorem new_entry {oe:Obj} {vs:Array Value} {head:Value} {hadNext:Bool} {Q:Unit→Shared→Prop} (hfr:A.frames=some (env::outer)) (hl:s.heap.FunFrames base (env::outer)) (hf:env.frame=some L) (hf':env'.frame=some L) (he:s.heap.get? e=some oe) (hd:oe.data= .fields vs) (hsz:1 < vs.size)
 (k: ∀h' T,s.heap.get? T=none→T≠e→Nt (frs (env::outer)) [e] s.heap h'→XRec h' e (.ref T)→TbAt h' T (rawInt L)→Q () {s with heap:=h'}):
 wpAny M A (PySem.frameOf env' >>= fun a=>entryPlaceOf L hadNext >>= fun pl=>EntryCells.newEntry head a .none (rawInt L) .none pl >>= fun b=>setField (.ref e) 1 b) Q E s:=by
 have hene:e ∉ frs (env::outer):=fun hm=>by
  obtain ⟨_,o,ho,hnf⟩:=hl.mem hm
  rw [he] at ho
  cases ho
  exact hnf vs hd
 have ef:PySem.frameOf env'=PySem.frameOf env:=by unfold PySem.frameOf;rw [hf,hf']
 rw [ef]
 refine wpAny_bind (wpAny_frameOf_fun hfr hl hf fun h1 hs1=>wpAny_bind (wpAny_entryPlaceOf fun pl hpl=> ?_))
 unfold EntryCells.newEntry newFields
 refine wpAny_bind (wpAny_newObj_type ?_ (hpl.sizeOk5 _ _ _ _ _))
 have n1:Nt (frs (env::outer)) [] s.heap h1:=by
  refine ⟨fun b o eb hb q_=>(hs1.2.1 b hb).trans eb,fun b o eb q_=>hs1.2.2 b o eb,fun b o ws eb dd=> ?_⟩
  obtain ⟨sl,z⟩:=hs1.2.2 b o eb
  exact ⟨_,ws,z,dd,rfl,rfl,rfl⟩
 have e1:h1.get? e=some oe:=(hs1.2.1 e hene).trans he
 have e2:=Heap.get?_push_of_some (h:=h1) {cls:= .type "traceback",dict:=none,data:= .fields ([head,.ref L,.none,rawInt L,.none]++(if pl.isEmpty then List.replicate 6 Value.none else pl)).toArray} e1
 have nTe:h1.objs.size≠e:=Nat.ne_of_gt (Heap.lt_size e1)
 have n2:Nt (frs (env::outer)) [] h1 (h1.push {cls:= .type "traceback",dict:=none,data:= .fields ([head,.ref L,.none,rawInt L,.none]++(if pl.isEmpty then List.replicate 6 Value.none else pl)).toArray}):=
  ⟨fun b o eb q_ q_=>Heap.get?_push_of_some _ eb,fun b o eb q_=>⟨o.slots,Heap.get?_push_of_some _ eb⟩,F2.keeps fun b o eb=>Heap.get?_push_of_some _ eb⟩
 refine wpAny_setField e2 hd hsz (k _ h1.objs.size ?_ nTe ((n1.trans n2).trans (nt_set e2 hd (by decide) (by decide) hene)) ?_ ?_)
 · cases q:s.heap.get? h1.objs.size with
   | none=>rfl
   | some o=>
     obtain ⟨sl,z⟩:=hs1.2.2 _ o q
     exact absurd (Heap.lt_size z) (Nat.lt_irrefl _)
 · obtain ⟨o',vs',z1,z2,z3,_⟩:=set_at (v:= .ref h1.objs.size) e2 hd hsz
   exact ⟨o',vs',z1,z2,z3⟩
 · refine ⟨_,_,(Heap.get?_update_other _ _ (Ne.symm nTe)).trans (Heap.get?_push_size h1 rfl),rfl,?_⟩
   rcases hpl with rfl | ⟨_,_,_,_,_,_,_,rfl⟩ <;> simp
theorem note_frame {tb:Value} {Q:Unit→Shared→Prop} (hfr:A.frames=some (env::outer)) (hl:s.heap.FunFrames base (env::outer)) (hf:env.frame=some L) (hf':env'.frame=some L) (hx:XRec s.heap e tb) (ht:tb= .none∨∃T fl,tb= .ref T∧T≠e∧TbAt s.heap T fl)
 (k: ∀h' T,(s.heap.get? T=none∨tb= .ref T)→T≠e→Nt (frs (env::outer)) (match tb with | .ref T=>[e,T] | _=>[e]) s.heap h'→XRec h' e (.ref T)→TbAt h' T (rawInt L)→Q () {s with heap:=h'}):wpAny M A (noteFrame (.ref e) env') Q E s:=by
 obtain ⟨oe,vs,he,hd,h1⟩:=hx
 have hsz:=(Array.getElem?_eq_some_iff.mp h1).1
 unfold noteFrame
 simp only [hf']
 refine wpAny_bind (wpAny_field he hd h1 ?_)
 rcases ht with rfl | ⟨T,fl,rfl,nT,oT,ts,hT,dT,h3⟩
 · rw [if_neg (by decide)]
   exact new_entry hfr hl hf hf' he hd hsz fun h' T z1 z2 z3 z4 z5=>k h' T (.inl z1) z2 z3 z4 z5
 · rw [if_pos (show (Value.ref T != Value.none)=true by simp)]
   refine wpAny_bind (wpAny_field hT dT h3 ?_)
   by_cases q:(fl == rawInt L)=true
   · rw [if_pos q]
     have:fl=rawInt L:=eq_of_beq q
     subst this
     exact wpAny_pure (k s.heap T (.inr rfl) nT ((Nt.refl _ _).more fun q_ q_ q_ z=>by cases z) ⟨oe,vs,he,hd,h1⟩ ⟨oT,ts,hT,dT,h3⟩)
   · rw [if_neg q]
     have s3:=(Array.getElem?_eq_some_iff.mp h3).1
     have hTf:T ∉ frs (env::outer):=fun hm=>by
      obtain ⟨_,o,ho,hnf⟩:=hl.mem hm
      rw [hT] at ho
      cases ho
      exact hnf ts dT
     have nt:=nt_set (fs:=frs (env::outer)) (v:=Value.none) (i:=3) hT dT (by decide) (by decide) hTf
     refine wpAny_bind (wpAny_setField hT dT s3 ?_)
     refine new_entry (s:={s with heap:=_}) (base:=base) hfr (hl.of_keeps fun b o hb hnf=> ?_) hf hf' (oe:=oe) (vs:=vs) ((Heap.get?_update_other _ _ nT).trans he) hd hsz fun h' T2 z1 z2 z3 z4 z5=>k h' T2 (.inl ?_) z2 ((nt.trans z3).more fun b o q_ z=>by rcases List.mem_append.mp z with z | z <;> (have:=List.mem_singleton.mp z;subst this;simp)) z4 z5
     · by_cases m:b∈frs (env::outer)
       · obtain ⟨sl,z⟩:=nt.slot b o hb m
         exact ⟨_,z,rfl⟩
       · exact ⟨o,nt.keep b o hb m (fun z=>by have:=List.mem_singleton.mp z;subst this;rw [hT] at hb;cases hb;exact hnf ts dT),rfl⟩
     · by_cases z:T=T2
       · subst z
         obtain ⟨o',_,z0,_⟩:=set_at (v:=Value.none) hT dT s3
         rw [z0] at z1;cases z1
       · rw [Heap.get?_update_other _ _ z] at z1;exact z1
theorem set_flight {fr:Option Addr} {fl:Value} {Q:Unit→Shared→Prop} (hl:s.heap.FunFrames base (env::outer)) (nT:T≠e) (hx:XRec s.heap e (.ref T)) (ht:TbAt s.heap T fl)
 (k: ∀h',Nt (frs (env::outer)) [T] s.heap h'→XRec h' e (.ref T)→TbAt h' T (fr.elim .none fun f=>rawInt f)→Q () {s with heap:=h'}):wpAny M A (setFlight (.ref e) fr) Q E s:=by
 obtain ⟨oe,vs,he,hd,h1⟩:=hx
 obtain ⟨oT,ts,hT,dT,h3⟩:=ht
 have s3:=(Array.getElem?_eq_some_iff.mp h3).1
 have hTf:T ∉ frs (env::outer):=fun hm=>by
  obtain ⟨_,o,ho,hnf⟩:=hl.mem hm
  rw [hT] at ho
  cases ho
  exact hnf ts dT
 unfold setFlight
 refine wpAny_bind (wpAny_field he hd h1 ?_)
 rw [if_pos (show (Value.ref T != Value.none)=true by simp)]
 refine wpAny_setField hT dT s3 (k _ (nt_set hT dT (by decide) (by decide) hTf) ⟨oe,vs,(Heap.get?_update_other _ _ nT).trans he,hd,h1⟩ ?_)
 obtain ⟨o',vs',z1,z2,z3,_⟩:=set_at (v:=fr.elim Value.none fun f=>rawInt f) hT dT s3
 exact ⟨o',vs',z1,z2,z3⟩
end
theorem Nt.funs {fs xs:List Addr} {h h' base:Heap} {l:List Env} (n:Nt fs xs h h') (hx: ∀b∈xs,∀o,h.get? b=some o→∃vs,o.data= .fields vs) (hl:h.FunFrames base l):h'.FunFrames base l:=hl.of_keeps fun b o hb hnf=>by
 by_cases m:b∈fs
 · obtain ⟨sl,z⟩:=n.slot b o hb m
   exact ⟨_,z,rfl⟩
 · exact ⟨o,n.keep b o hb m (fun z=>by obtain ⟨vs,q⟩:=hx b z o hb;exact hnf vs q),rfl⟩
end L2
set_option Elab.async false
set_option linter.all false
set_option maxRecDepth 100000
namespace L2
open PySem PySem.Spec PyProof.Rows
noncomputable def cutH (h:Heap) (bad:List Addr):Heap:={h with objs:=h.objs.mapIdx fun i o=>if i∈bad then ⟨o.cls,o.dict,.freed,o.slots⟩ else o}
theorem cut_bad {h:Heap} {bad:List Addr} {b:Addr} (hb:b∈bad):(cutH h bad).get? b=none:=by
 cases e:(cutH h bad).get? b with
 | none=>rfl
 | some o=>
   obtain ⟨h1,h2⟩:=Heap.get?_some_iff.mp e
   unfold cutH at h1
   rw [Array.getElem?_mapIdx] at h1
   cases e2:h.objs[b]? with
   | none=>rw [e2] at h1;cases h1
   | some u=>
     rw [e2] at h1
     have h1:(if b∈bad then (⟨u.cls,u.dict,.freed,u.slots⟩:Obj) else u)=o:=Option.some.inj h1
     rw [if_pos hb] at h1
     subst h1
     cases h2
theorem cut_good {h:Heap} {bad:List Addr} {b:Addr} (hb:b ∉ bad):(cutH h bad).get? b=h.get? b:=by
 have e:(cutH h bad).objs[b]?=h.objs[b]?:=by
  unfold cutH
  rw [Array.getElem?_mapIdx]
  cases h.objs[b]? with
  | none=>rfl
  | some u=>show some (if b∈bad then _ else u)=some u;rw [if_neg hb]
 unfold Heap.get?
 rw [e]
theorem cut_stays (h:Heap) (bad:List Addr):(cutH h bad).StaysIn h:=fun b o e=>by
 by_cases hb:b∈bad
 · rw [cut_bad hb] at e;cases e
 · rw [cut_good hb] at e;exact e
theorem cut_stays_good {h h':Heap} {bad:List Addr} (k:(cutH h bad).StaysIn h') {b:Addr} {o:Obj} (hb:b ∉ bad) (e:h.get? b=some o):h'.get? b=some o:=k b o (by rw [cut_good hb];exact e)
noncomputable def XTr (h0 h:Heap) (H:Hp) (e:Addr) (C:Value):Prop:=
 ∃oe vs a0 T oT ts,h.get? e=some oe∧oe.cls=C∧(vs[0]?=some a0∧Ch h e)∧oe.data= .fields vs∧vs[1]?=some (.ref T)∧T≠e∧h.get? T=some oT∧oT.data= .fields ts∧ts[3]?=some .none∧h0.get? e=none∧H e=none∧h0.get? T=none∧H T=none
theorem FunFrames.base {h base base':Heap}: ∀{l:List Env},h.FunFrames base l→(∀ b∈frs l,base'.get? b=none)→h.FunFrames base' l
 | [],_,_=>trivial
 | env::rest,⟨h1,⟨L,o,h2,h3,h4⟩,h5⟩,k=>⟨h1,⟨L,o,h2,k L (by unfold frs;rw [List.filterMap_cons,h2];exact List.mem_cons_self),h4⟩,FunFrames.base h5 fun b hb=>k b (by
    unfold frs at hb ⊢
    rw [List.filterMap_cons,h2]
    exact List.mem_cons_of_mem _ hb)⟩
theorem FunFrames.noFields {h base:Heap}: ∀{l:List Env},h.FunFrames base l→∀b∈frs l,∃o,h.get? b=some o∧∀vs,o.data≠ .fields vs
 | [],_,b,hb=>by cases hb
 | env::rest,⟨h1,⟨L,o,h2,h3,h4,h4'⟩,h5⟩,b,hb=>by
   unfold frs at hb
   rw [List.filterMap_cons,h2] at hb
   rcases List.mem_cons.mp hb with rfl | hb
   · exact ⟨o,h4,h4'⟩
   · exact FunFrames.noFields h5 b hb
structure LeftK (fs:List Addr) (h0:Heap) (H:Hp) (h h':Heap):Prop where
 keep: ∀b o,h.get? b=some o→(H b≠none∨h0.get? b≠none∨∀vs,o.data≠ .fields vs)→b ∉ fs→h'.get? b=some o
 slot: ∀b o,h.get? b=some o→b∈fs→∃sl,h'.get? b=some {o with slots:=sl}
section
variable {M:Model} {A:Around} {E:Value→Shared→Prop} {s:Shared} {base h0:Heap} {H:Hp} {env:Env} {outer:List Env} {L e:Addr} {C:Value} {Q:Unit→Shared→Prop}
theorem nt_left {xs:List Addr} {h':Heap} (n:Nt (frs (env::outer)) xs s.heap h') (hx: ∀b∈xs,s.heap.get? b=none∨(h0.get? b=none∧H b=none∧∃o vs,s.heap.get? b=some o∧o.data= .fields vs)) (fr: ∀b,s.heap.get? b=none→h0.get? b=none∧H b=none):LeftK (frs (env::outer)) h0 H s.heap h':=by
 refine ⟨fun b o hb hH hf=>n.keep b o hb hf fun z=> ?_,n.slot⟩
 rcases hx b z with q | ⟨q1,q2,o',vs,q3,q4⟩
 · rw [q] at hb;cases hb
 · rcases hH with w | w | w
   · exact w q2
   · exact w q1
   · rw [hb] at q3;cases q3;exact w vs q4
theorem rec_to {h h':Heap} {oe:Obj} {vs:Array Value} {a0 tb:Value} (n:F2 h h') (he:h.get? e=some oe) (hc:oe.cls=C) (hd:oe.data= .fields vs) (hv:vs[0]?=some a0) (ch:Ch h e) (x:XRec h' e tb): ∃oe' vs',h'.get? e=some oe'∧oe'.cls=C∧(vs'[0]?=some a0∧Ch h' e)∧oe'.data= .fields vs'∧vs'[1]?=some tb:=by
 obtain ⟨o1,w1,z1,z2,z3⟩:=x
 obtain ⟨o2,w2,y1,y2,_,y4,y5⟩:=n e oe vs he hd
 rw [z1] at y1
 cases y1
 rw [z2] at y2
 cases y2
 exact ⟨o1,w1,z1,y4.trans hc,⟨y5.trans hv,ch.to n⟩,z2,z3⟩
theorem leave_rec {oe:Obj} {vs:Array Value} {a0 tb:Value} (hfr:A.frames=some (env::outer)) (hl:s.heap.FunFrames base (env::outer)) (hf:env.frame=some L) (he:s.heap.get? e=some oe) (hc:oe.cls=C) (hd:oe.data= .fields vs) (hv:vs[0]?=some a0) (ch:Ch s.heap e) (h1:vs[1]?=some tb)
 (ht:tb= .none∨∃T fl,tb= .ref T∧T≠e∧TbAt s.heap T fl∧h0.get? T=none∧H T=none) (hh:h0.get? e=none∧H e=none) (fr: ∀b,s.heap.get? b=none→h0.get? b=none∧H b=none)
 (k: ∀h',LeftK (frs (env::outer)) h0 H s.heap h'→XTr h0 h' H e C→Q () {s with heap:=h'}):wpAny M A (leaving env (.ref e)) Q E s:=by
 unfold leaving
 refine wpAny_bind (note_frame hfr hl hf hf ⟨oe,vs,he,hd,h1⟩ (ht.imp id fun ⟨T,fl,a,b,c,_⟩=>⟨T,fl,a,b,c⟩) fun h2 T tn te nt xr tbT=> ?_)
 have hxs: ∀b∈(match tb with | .ref T=>[e,T] | _=>[e]),s.heap.get? b=none∨(h0.get? b=none∧H b=none∧∃o vs,s.heap.get? b=some o∧o.data= .fields vs):=fun b hb=>by
  rcases ht with rfl | ⟨T',fl,rfl,nT,⟨oT,ts,z1,z2,_⟩,y1,y2⟩
  · have:=List.mem_singleton.mp hb
    subst this
    exact .inr ⟨hh.1,hh.2,oe,vs,he,hd⟩
  · rcases List.mem_cons.mp hb with z | z
    · subst z;exact .inr ⟨hh.1,hh.2,oe,vs,he,hd⟩
    · have:=List.mem_singleton.mp z
      subst this
      exact .inr ⟨y1,y2,oT,ts,z1,z2⟩
 have hTo:h0.get? T=none∧H T=none:=by
  rcases tn with z | z
  · exact fr T z
  · rcases ht with y | ⟨T',fl,y,_,_,y1,y2⟩
    · rw [y] at z;cases z
    · rw [y] at z;cases z;exact ⟨y1,y2⟩
 have hTs:s.heap.get? T=none∨(h0.get? T=none∧H T=none∧∃o vs,s.heap.get? T=some o∧o.data= .fields vs):=by
  rcases tn with z | z
  · exact .inl z
  · exact hxs T (by rw [z];simp)
 have hl2:h2.FunFrames base (env::outer):=nt.funs (fun b hb o ho=>by
  rcases hxs b hb with z | ⟨_,_,o',vs',z1,z2⟩
  · rw [z] at ho;cases ho
  · rw [ho] at z1;cases z1;exact ⟨vs',z2⟩) hl
 refine set_flight (s:={s with heap:=h2}) (base:=base) hl2 te xr tbT fun h3 nt3 xr3 tb3=> ?_
 have n:=nt.trans nt3
 obtain ⟨oe',vs',z1,z2,z3,z4,z5⟩:=rec_to n.f2 he hc hd hv ch xr3
 obtain ⟨oT,ts,y1,y2,y3⟩:=tb3
 refine k h3 (nt_left n (fun b hb=> ?_) fr) ⟨oe',vs',a0,T,oT,ts,z1,z2,z3,z4,z5,te,y1,y2,y3,hh.1,hh.2,hTo.1,hTo.2⟩
 rcases List.mem_append.mp hb with z | z
 · exact hxs b z
 · rw [List.mem_singleton.mp z];exact hTs
theorem leave_new {oe:Obj} {vs:Array Value} {a0:Value} (hfr:A.frames=some (env::outer)) (hl:s.heap.FunFrames base (env::outer)) (hf:env.frame=some L) (he:s.heap.get? e=some oe) (hc:oe.cls=C) (hd:oe.data= .fields vs) (h1:vs[1]?=some .none) (hv:vs[0]?=some a0) (ch:Ch s.heap e)
 (hh:h0.get? e=none∧H e=none) (fr: ∀b,s.heap.get? b=none→h0.get? b=none∧H b=none)
 (k: ∀h',LeftK (frs (env::outer)) h0 H s.heap h'→XTr h0 h' H e C→Q () {s with heap:=h'}):wpAny M A (leaving env (.ref e)) Q E s:=
 leave_rec hfr hl hf he hc hd hv ch h1 (.inl rfl) hh fr k
theorem leave_on (hfr:A.frames=some (env::outer)) (hl:s.heap.FunFrames base (env::outer)) (hf:env.frame=some L) (x:XTr h0 s.heap H e C) (fr: ∀b,s.heap.get? b=none→h0.get? b=none∧H b=none)
 (k: ∀h',LeftK (frs (env::outer)) h0 H s.heap h'→XTr h0 h' H e C→Q () {s with heap:=h'}):wpAny M A (leaving env (.ref e)) Q E s:=by
 obtain ⟨oe,vs,a0,T,oT,ts,x1,x2,x3,x4,x5,x6,x7,x8,x9,x10,x11,x12,x13⟩:=x
 exact leave_rec hfr hl hf x1 x2 x4 x3.1 x3.2 x5 (.inr ⟨T,.none,rfl,x6,⟨oT,ts,x7,x8,x9⟩,x12,x13⟩) ⟨x10,x11⟩ fr k
end
theorem ObjOk.sits {P:Program} {w:World} {H:Hp} {h:Heap} {a:Addr} {o:HO} (x:ObjOk P w H h a o): ∃u,h.get? a=some u:=by
 cases o with
 | lst xs=>obtain ⟨_,_,_,_,e⟩:=x;exact ⟨_,e⟩
 | tup xs=>obtain ⟨_,_,_,o,e,_⟩:=x;exact ⟨_,e⟩
 | dK kvs=>obtain ⟨_,_,_,_,o,_,_,e,_⟩:=x;exact ⟨_,e⟩
 | dT kvs=>obtain ⟨_,_,_,_,o,_,_,e,_⟩:=x;exact ⟨_,e⟩
 | set S n=>obtain ⟨o,_,_,_,e,_⟩:=x;exact ⟨_,e⟩
 | ins C dx fs=>obtain ⟨_,_,_,e,_⟩:=x;exact ⟨_,e⟩
 | own y=>obtain ⟨_,e⟩:=x;exact ⟨_,e⟩
 | xd fs=>obtain ⟨_,⟨_,_,_,e,_⟩,_⟩:=x;exact ⟨_,e⟩
 | rng lo hi=>obtain ⟨_,_,_,e⟩:=x;exact ⟨_,e⟩
 | frz ob u=>obtain ⟨e,_⟩:=x;exact ⟨_,e⟩
 | tbl ps=>exact ⟨_,(show h.get? a=some _ from x)⟩
 | met f y=>exact ⟨_,(show h.get? a=some _ from x)⟩
 | ext φ=>obtain ⟨_,⟨_,e⟩,_⟩:=x;exact ⟨_,e⟩
theorem HOk.gone {P:Program} {w:World} {H:Hp} {h:Heap} (x:HOk P w H h) {a:Addr} (e:h.get? a=none):H a=none:=by
 cases q:H a with
 | none=>rfl
 | some o=>
   obtain ⟨u,z⟩:=(x a o q).sits
   rw [e] at z;cases z
noncomputable def CXE (P:Program) (w:World):CXT:=fun outer H s E e s'=>∃a C H',e= .ref a∧s'.os=s.os∧AllBare s'.gens∧Un (frs outer) [] H H' s.heap s'.heap∧HOk P w H' s'.heap∧XTr s.heap s'.heap H' a C∧E C none H'
section
variable {P:Program} {w:World} {K:PySem.W.Frag} {mg:Str→Option Value} {base:Heap} {N:List Str} {qual:Str} {scope:Scope} {f:Addr} {cd:Value} {A:Around} {outer:List Env} {s:Shared} {H:Hp} {E:XK}
noncomputable abbrev cxE (P:Program) (w:World) (K:PySem.W.Frag) (mg:Str→Option Value) (base:Heap) (N:List Str) (qual:Str) (scope:Scope) (f:Addr) (cd:Value) (A:Around) (outer:List Env) (s:Shared) (H:Hp) (E:XK):Cx:=cxOf (CXE P w) P w K mg base N qual scope f cd A outer s H E
theorem left_end {pins:List (Addr×Obj)} {σ:St} {H':Hp} {s':Shared} {a:Addr} {C:Value} {h':Heap} (I:Inv (cxE P w K mg base N qual scope f cd A outer s H E) pins σ H' s') (l:LeftK (frs (cxE P w K mg base N qual scope f cd A outer s H E).stack) s.heap H' s'.heap h') (x:XTr s.heap h' H' a C) (hE:E C none H'):
 CXE P w outer H s E (.ref a) {s' with heap:=h'}:=by
 have hb:=I.base
 have hL: ∀b o,s.heap.get? b=some o→b ∉ frs outer→b ∉ frs (cxE P w K mg base N qual scope f cd A outer s H E).stack:=fun b o e hn z=>by
  have ab:=I.ok.above
  unfold frs at z hn
  rcases I.ok.stk with q | ⟨q,qf⟩
  · rw [q] at z;exact hn z
  · rw [q,List.filterMap_cons,qf] at z
    rcases List.mem_cons.mp z with z | z
    · subst z
      exact absurd (Heap.lt_size e) (Nat.not_lt.mpr ab)
    · exact hn z
 have hS: ∀b,b∈frs outer→b∈frs (cxE P w K mg base N qual scope f cd A outer s H E).stack:=fun b hb=>by
  unfold frs at hb ⊢
  rcases I.ok.stk with q | ⟨q,qf⟩
  · rw [q];exact hb
  · rw [q,List.filterMap_cons,qf];exact List.mem_cons_of_mem _ hb
 refine ⟨a,C,H',rfl,I.os,I.bare,⟨fun b o e n hf hx=> ?_,fun b o e n hf hx=> ?_,hb.free,fun b o e hx=> ?_,hb.tups,hb.frzs,hb.tbls⟩,fun b o e=> ?_,x,hE⟩
 · exact l.keep b o (hb.keep b o e n hf hx) (.inr (.inl (by rw [e];exact fun z=>by cases z))) (hL b o e hf)
 · obtain ⟨sl,e1⟩:=hb.slot b o e n hf hx
   obtain ⟨sl2,e2⟩:=l.slot b _ e1 (hS b hf)
   exact ⟨sl2,e2⟩
 · obtain ⟨o',e1⟩:=hb.there b o e hx
   by_cases hf:b∈frs (cxE P w K mg base N qual scope f cd A outer s H E).stack
   · obtain ⟨sl2,e2⟩:=l.slot b _ e1 hf
     exact ⟨_,e2⟩
   · exact ⟨_,l.keep b o' e1 (.inr (.inl (by rw [e];exact fun z=>by cases z))) hf⟩
 · refine (I.hok b o e).stay (fun c u hc q=>l.keep c u q (.inl ?_) fun z=> ?_) (fun q_ q=>q) fun q_ q_ q=>q
   · rcases hc with rfl | hc
     · rw [e];exact fun z=>by cases z
     · rw [hc];exact fun z=>by cases z
   · have hn:=I.stkFree c z
     rcases hc with rfl | hc
     · rw [e] at hn;cases hn
     · rw [hc] at hn;cases hn
theorem there_of {pins:List (Addr×Obj)} {σ:St} {H':Hp} {s':Shared} (I:Inv (cxE P w K mg base N qual scope f cd A outer s H E) pins σ H' s') {b:Addr} (e:s'.heap.get? b=none):s.heap.get? b=none:=by
 cases q:s.heap.get? b with
 | none=>rfl
 | some o=>
   obtain ⟨o',z⟩:=I.base.there b o q (fun z=>by cases z)
   rw [e] at z;cases z
theorem passE:Passes (CXE P w) (cxE P w K mg base N qual scope f cd A outer s H E) E:=by
 intro pins σ H1 s1 e s' I hx
 obtain ⟨a,C,H',rfl,os,bare,un,hok,xt,hE⟩:=hx
 have I2:Inv (cxE P w K mg base N qual scope f cd A outer s H E) pins σ H' s':=I.call' os un hok bare (fun b z=>by cases z)
 obtain ⟨oe,vs,a0,T,oT,ts,x1,x2,x3,x4,x5,x6,x7,x8,x9,x10,x11,x12,x13⟩:=xt
 have x:XTr s.heap s'.heap H' a C:=⟨oe,vs,a0,T,oT,ts,x1,x2,x3,x4,x5,x6,x7,x8,x9,there_of I x10,x11,there_of I x12,x13⟩
 exact leave_on (base:=base) I2.ok.frames I2.stack rfl x (fun b hb=>⟨there_of I2 hb,I2.hok.gone hb⟩) fun h' l x'=>left_end I2 l x' hE
end
structure OwnX (K:PySem.W.Frag) (C:Addr):Prop where
 ex: ∃bm N nm q bs hdct sn sub ab col dd k0 k1 k2 k3 k5 mN,mN "__init__"=none∧∀h:Heap,K.In h→h.get? C=some (excClassObj nm q C N bs bm hdct sn sub ab col dd k0 k1 k2 k3 k5 "ValueError.__new__")∧h.Ns N mN∧OwnTail h [.type "ValueError",.type "Exception",.type "BaseException",.type "object"] bm
section
variable {P:Program} {w:World} {K:PySem.W.Frag} {mg:Str→Option Value} {base:Heap} {N:List Str} {qual:Str} {scope:Scope} {f:Addr} {cd:Value} {A:Around} {outer:List Env} {s:Shared} {H:Hp} {E:XK} {x:Str} {C:Addr} {np cpos pos:Pos} {msg:Str} {jj:Nat} {mp:Pos}
theorem ps_raise (O:OwnX K C) (hg:Gl (cxE P w K mg base N qual scope f cd A outer s H E) x) (hm:mg x=some (.ref C)) (hdb:autoParam ((x == ("__debug__":Str))=false) u2._auto_1):
 PS (cxE P w K mg base N qual scope f cd A outer s H E) (.Raise (some (.Call (.Name x np) [.Constant (.str msg) jj mp] [] cpos)) none pos) (fun q_ q_ H'=>E (.ref C) none H'):=by
 intro pins s1 σ H1 D I hE
 obtain ⟨bm,N',nm,q,bs,hdct,sn,sub,ab,col,dd,k0,k1,k2,k3,k5,mN,hni,OX⟩:=O.ex
 obtain ⟨hC,hN,T⟩:=OX s1.heap I.kIn
 refine wpAny_Raise_call_subU (C:=C) (nm:=nm) (q:=q) (N:=N') (bs:=bs) (bm:=bm) (hdct:=hdct) (sn:=sn) (sub:=sub) (ab:=ab) (col:=col) (dd:=dd) (k0:=k0) (k1:=k1) (k2:=k2) (k3:=k3) (k5:=k5)
  PySem.F.excBase_ValueError (by decide +kernel) PySem.F.excBase_ValueError (mN:=mN) (T.hasType PySem.F.excBase_ValueError.hasBase) (I.ok.hd rfl) rfl hni (ld_glob I hg hm ⟨rfl,?_⟩ hdb)
 refine Calls.evalArgs_plain (thn ((pa_cons (X:=cxE P w K mg base N qual scope f cd A outer s H E) pe_str pa_nil) cpos pins s1 σ H1 (fun vs H2=>H2=H1∧vs.length=1) I ⟨rfl,rfl⟩) fun us s2 ⟨vs,H2,I2,r,e2,lv⟩=> ?_)
 subst e2
 have hl:us.length=1:=by rw [← r.length];exact lv
 obtain ⟨hC2,hN2,T2⟩:=OX s2.heap I2.kIn
 refine ⟨rfl,by show us.length≤sizeLine;rw [hl];decide,hC2,hN2,T2,fun h' e hx=> ?_⟩
 have I3:Inv (cxE P w K mg base N qual scope f cd A outer s H E) pins σ H2 {s2 with heap:=h'}:=I2.kept (t':=s2.toks) hx.keeps
 obtain ⟨t,ht,_,_⟩:=hx.there
 exact leave_new (base:=base) (s:={s2 with heap:=h'}) I3.ok.frames I3.stack rfl ht rfl rfl rfl rfl (.nil ht rfl rfl) ⟨there_of I2 hx.new,I2.hok.gone hx.new⟩ (fun b hb=>⟨there_of I3 hb,I3.hok.gone hb⟩) fun h'' l x'=>left_end I3 l x' hE
end
end L2
set_option Elab.async false
set_option linter.all false
set_option maxRecDepth 100000
namespace L2
open PySem PySem.Spec PyProof.Rows
noncomputable def spE (K:PySem.W.Frag) (P:List PyData→(Dt→Prop)→(Addr→Prop)→Prop):Sp:=fun vs H Q E=>∃ds RS W,RpAll K H vs ds∧P ds RS W∧(∀ dt v R' H',RS dt→Ext H H R' H'→SlotR K H R' H' (some v) dt→Q v H')∧∀c H',W c→Same H H'→E (.ref c) none H'
section
variable {X:Cx} {k:Nat} {f:Addr} {fd:FuncData} {ps:List Str} {x:Str} {p pos:Pos} {e:Expr} {es:List Expr} {t:TA} {K:PySem.W.Frag} {P:List PyData→(Dt→Prop)→(Addr→Prop)→Prop}
set_option tactic.hygienic true in
theorem merge {pins:List (Addr×Obj)} {σ:St} {R H H1:Hp} {s s':Shared} (I:Inv X pins σ H s) (w:Wd R H) (un:Un (frs X.stack) [] R H1 s.heap s'.heap) (hok:HOk X.prog X.w H1 s'.heap):
 ∃H2:Hp,(∀ b o,H b=some o→R b=none→H1 b=none)∧(∀ b,R b=none→H b≠none→H2 b=H b)∧(∀ b o,H1 b=some o→H2 b=some o)∧(∀ b,H b=none→H1 b=none→H2 b=none)∧(∀ b o,H2 b=some o→(R b=none∧H b=some o)∨H1 b=some o)∧
  Un (frs X.stack) [] H H2 s.heap s'.heap∧HOk X.prog X.w H2 s'.heap:=by
 have gone: ∀b o,H b=some o→R b=none→H1 b=none:=fun b o z n=>by
  obtain ⟨ob,eb⟩:=(I.hok b o z).obj (w.ls b o z n)
  exact un.free b ob eb n (by simp)
 classical
 have eA: ∀b,R b=none→H b≠none→(fun b=>if R b=none∧H b≠none then H b else H1 b) b=H b:=fun b n z=>if_pos ⟨n,z⟩
 have eB: ∀b o,H1 b=some o→(fun b=>if R b=none∧H b≠none then H b else H1 b) b=some o:=fun b o z=>by
  show (if R b=none∧H b≠none then H b else H1 b)=some o
  rw [if_neg]
  · exact z
  · rintro ⟨n,hne⟩
    cases q:H b with
    | none=>exact hne q
    | some u=>rw [gone b u q n] at z;cases z
 have eN: ∀b,H b=none→H1 b=none→(fun b=>if R b=none∧H b≠none then H b else H1 b) b=none:=fun b n z=>by
  show (if R b=none∧H b≠none then H b else H1 b)=none
  rw [if_neg (by rintro ⟨_,z⟩;exact z n)]
  exact z
 have eX: ∀b o,(fun b=>if R b=none∧H b≠none then H b else H1 b) b=some o→(R b=none∧H b=some o)∨H1 b=some o:=fun b o z=>by
  have z:(if R b=none∧H b≠none then H b else H1 b)=some o:=z
  split at z
  · rename_i hc
    exact .inl ⟨hc.1,z⟩
  · exact .inr z
 generalize (fun b=>if R b=none∧H b≠none then H b else H1 b)=H2 at eA eB eN eX
 have nr: ∀b,H b=none→R b=none:=fun b n=>w.rh.free n
 have tup2: ∀b xs,H b=some (.tup xs)→H2 b=some (.tup xs):=fun b xs z=>eB b _ (un.tups b xs (w.back z fun z=>z))
 refine ⟨H2,gone,eA,eB,eN,eX,⟨?_,?_,?_,un.there,tup2,?_,?_⟩,?_⟩
 · exact fun b o z n hf hx=>un.keep b o z (nr b n) hf hx
 · exact fun b o z n hf hx=>un.slot b o z (nr b n) hf hx
 · exact fun b o z n hx=>eN b n (un.free b o z (nr b n) hx)
 · exact fun b o u z=>eB b _ (un.frzs b o u (w.back z fun z=>z))
 · intro b ps z
   obtain ⟨m,hm⟩:=un.tbls b ps (w.back z fun z=>z)
   exact ⟨m,eB b _ hm⟩
 · intro b o z
   rcases eX b o z with ⟨n2,z2⟩ | z2
   · refine (I.hok b o z2).stayL (w.ls b o z2 n2) (fun u q=>un.keep b u q n2 (fun hf=> ?_) (by simp)) tup2
     rw [I.stkFree b hf] at z2;cases z2
   · refine (hok b o z2).stay (fun c u q_ q=>q) (fun c q=>eB c _ q) fun c xs q=>eB c _ q
theorem run_fnE {pins:List (Addr×Obj)} {σ:St} {R H:Hp} {s:Shared} {Q:VK} {E:XK} {us:List Value} {vs:List V} {ds:List PyData} {RS:Dt→Prop} {W:Addr→Prop} (hK:X.K=K) (F:FnOk X.prog X.w X.K X.mg X.base (CXE X.prog X.w) k f fd ps (spE K P)) (hr:Room k X.A) (hb:Binds X.K fd ps []) (hx:Passes (CXE X.prog X.w) X E)
 (I:Inv X pins σ H s) (r:Vals vs us) (w:Wd R H) (hv:RpAll K R vs ds) (hp:P ds RS W) (kk: ∀dt v R' H',RS dt→Ext R H R' H'→SlotR K H R' H' (some v) dt→Q v H') (kx: ∀c H',W c→Same H H'→E (.ref c) none H'):
 wpAny (model X.prog X.w) X.A (call (.ref f) us) (EP X pins σ Q) X.xe s:=by
 have hsp:spE K P vs R (fun v H1=>∃dt R',RS dt∧Ext R R R' H1∧SlotR K R R' H1 (some v) dt) (fun C q_ H1=>(∃ c,C= .ref c∧W c)∧Same R H1):=⟨ds,RS,W,hv,hp,fun dt v R' H' a b c=>⟨dt,R',a,b,c⟩,fun c H' a b=>⟨⟨c,rfl,a⟩,b⟩⟩
 have hl:us.length=ps.length:=by rw [← r.length];exact F.len _ _ _ _ hsp
 have e0:Env0 X.prog X.w X.K X.mg X.base X.A X.stack s R:=by
  have e:=I.env0
  refine ⟨e.frames,e.mod,fun b o z=>⟨(e.bs b o z).1,w.rh.free (e.bs b o z).2⟩,e.bsz,e.funs,fun b hb=>w.rh.free (e.frf b hb),fun a o z=> ?_,e.bare⟩
  exact (e.hok a o (w.rh a o z)).stay (fun b u q_ q=>q) (fun b q=>w.back q fun z=>z) fun b xs q=>w.back q fun z=>z
 refine wpAny_call (codeAny_mono (F.run X.A X.stack s R ⟨us,[]⟩ us vs _ _ hr e0 (by have:=hb s us I.kIn (by rw [List.append_nil];exact hl);rw [List.append_nil] at this;exact this) r hsp) fun r s' hq=> ?_)
 have hh2: ∀{H1 H2:Hp},(∀ b,R b=none→H b≠none→H2 b=H b)→(∀ b o,H1 b=some o→H2 b=some o)→Same R H1→Same H H2:=fun {H1 H2} eA eB sm b o z=>by
  cases q:R b with
  | none=>rw [eA b q (by rw [z];intro y;cases y)];exact z
  | some u=>
    have:=w.rh b u q
    rw [z] at this;cases this
    exact eB b o (sm b o q)
 cases r with
 | error e=>
   obtain ⟨a,C,H1,rfl,os,bare,un,hok,xt,⟨c,rfl,hW⟩,sm⟩:=hq
   obtain ⟨H2,gone,eA,eB,eN,eX,un2,hok2⟩:=merge I w un hok
   obtain ⟨oe,vs',a0,T,oT,ts,x1,x2,x3,x4,x5,x6,x7,x8,x9,x10,x11,x12,x13⟩:=xt
   exact hx pins σ H s (.ref a) s' I ⟨a,.ref c,H2,rfl,os,bare,un2,hok2,⟨oe,vs',a0,T,oT,ts,x1,x2,x3,x4,x5,x6,x7,x8,x9,x10,eN a (I.hok.gone x10) x11,x12,eN T (I.hok.gone x12) x13⟩,kx c H2 hW (hh2 eA eB sm)⟩
 | ok fl=>
   cases fl with
   | next=>exact False.elim hq
   | brk=>exact False.elim hq
   | cont=>exact False.elim hq
   | ret u=>
     obtain ⟨v,H1,os,bare,un,hok,rv,dt,R',hRS,ext,slot⟩:=hq
     obtain ⟨H2,gone,eA,eB,eN,eX,un2,hok2⟩:=merge I w un hok
     have ex2:Ext R H R' H2:=by
      refine ⟨hh2 eA eB ext.hh,ext.rr,fun b o z=>eB b o (ext.rh b o z),fun b o z n=> ?_,fun b o z n=> ?_⟩
      · cases q:R' b with
        | none=>rfl
        | some u=>have:=ext.rh b u q;rw [gone b o z n] at this;cases this
      · rcases eX b o z with ⟨n2,z2⟩ | z2
        · exact w.ls b o z2 n2
        · exact ext.ls b o z2 n
     have slot2:SlotR K H R' H2 (some v) dt:=by
      have own: ∀a o,H1 a=some o→R a=none→H a=none:=fun a o z n=>by
       cases q:H a with
       | none=>rfl
       | some u=>rw [gone a u q n] at z;cases z
      cases dt with
      | un=>trivial
      | d y=>exact slot
      | o xs=>obtain ⟨a,ys,h1,h2,h3,h4,h5⟩:=slot;exact ⟨a,ys,h1,eB a _ h2,h3,own a _ h2 h4,h5⟩
      | dk xs=>obtain ⟨a,ys,h1,h2,h3,h4,h5⟩:=slot;exact ⟨a,ys,h1,eB a _ h2,h3,own a _ h2 h4,h5⟩
      | dt xs=>obtain ⟨a,ys,h1,h2,h3,h4,h5⟩:=slot;exact ⟨a,ys,h1,eB a _ h2,h3,own a _ h2 h4,h5⟩
      | oo xs=>obtain ⟨a,ys,h1,h2,h3,h4,h5,h6⟩:=slot;exact ⟨a,ys,h1,eB a _ h2,h3,own a _ h2 h4,Paired.mapP h5 fun _ _ ⟨b,zs,k1,k2,k3,k4,k5⟩=>⟨b,zs,k1,eB b _ k2,k3,own b _ k2 k4,k5⟩,h6⟩
     exact I.after (Q:=Q) ⟨v,H2,os,bare,un2,hok2,rv,kk dt v R' H2 hRS ex2 slot2⟩
end
noncomputable def FnE (P:Program) (w:World) (K:PySem.W.Frag) (mg:Str→Option Value) (base:Heap) (x:Str) (lvl:Nat) (ps:List Str) (Pm:List PyData→(Dt→Prop)→(Addr→Prop)→Prop):Prop:=
 ∃f fd,FnOk P w K mg base (CXE P w) lvl f fd ps (spE K Pm)∧mg x=some (.ref f)∧PySem.W.keepIn K (.ref f)=true∧Binds K fd ps []
section
variable {X:Cx} {k:Nat} {f:Addr} {fd:FuncData} {ps:List Str} {x:Str} {p pos:Pos} {e:Expr} {es:List Expr} {t:TA} {K:PySem.W.Frag} {P:List PyData→(Dt→Prop)→(Addr→Prop)→Prop} {E:XK}
noncomputable def tFnE (K:PySem.W.Frag) (P:List PyData→(Dt→Prop)→(Addr→Prop)→Prop) (E:XK) (t:TA):TE:=fun σ H Q=>t σ H fun vs H1=>∃R ds RS W,Wd R H1∧RpAll K R vs ds∧P ds RS W∧(∀ dt v R' H',RS dt→Ext R H1 R' H'→SlotR K H1 R' H' (some v) dt→Q v H')∧∀c H',W c→Same H1 H'→E (.ref c) none H'
theorem pe_fnE (G:FnE X.prog X.w X.K X.mg X.base x k ps P) (hr:Room k X.A) (hx:Passes (CXE X.prog X.w) X E) (ha:PA X (e::es) t) (hK:autoParam (X.K=K) u5._auto_1) (hg:autoParam (Gl X x) u5._auto_1)
 (hdb:autoParam ((x == ("__debug__":Str))=false) u2._auto_1) (he:autoParam (starEach (e::es) X.env=(false,eval e X.env)::starEach es X.env) u5._auto_1) (hpl:autoParam ((backTo pos (starEach es X.env)).any (·.1)=false) u5._auto_1):
 PE X (.Call (.Name x p) (e::es) [] pos) (tFnE K P E t):=by
 obtain ⟨f,fd,F,hm,hk,hb⟩:=G
 intro pins s σ H Q I h
 subst hK
 refine wpAny_Call_Name_kw (ld_glob I hg hm ?_ hdb)
 refine PySem.W.callWith_K (h₀:=X.base) I.ok.mod.kin hk (thn (ha pos pins s σ H _ I h) fun us s1 ⟨vs,H1,I1,r,q⟩=>⟨I1.kIn,?_⟩) he hpl
 obtain ⟨R,ds,RS,W,w,hv,hp,kk,kx⟩:=q
 exact run_fnE rfl F hr hb hx I1 r w hv hp kk kx
end
section
variable {He:Hp} {K:PySem.W.Frag} {ι:Type} {Y:ι→Cx} {e:Expr} {es:List Expr} {pos p:Pos} {prog:Program} {w:World} {mg:Str→Option Value} {base:Heap} {x:Str} {k:Nat} {ps:List Str} {P:List PyData→(Dt→Prop)→(Addr→Prop)→Prop} {t:Dq} {E:XK} {W:Addr→Prop}
noncomputable def xCallE (P:List PyData→(Dt→Prop)→(Addr→Prop)→Prop) (W:Addr→Prop) (t:Dq):De:=fun env Q=>t env fun ds=>P ds (fun dt=>∃d,frzD dt=some d∧Q d) W
theorem de_callE (G:FnE prog w K mg base x k ps P) (hr: ∀i,Room k (Y i).A) (hE: ∀c H',W c→Same He H'→E (.ref c) none H') (hx: ∀i,Passes (CXE prog w) (Y i) E) (ha:DA He K Y (e::es) t) (hX:autoParam (∀ i,(Y i).prog=prog∧(Y i).w=w∧(Y i).K=K∧(Y i).mg=mg∧(Y i).base=base) u12._auto_1) (hg:autoParam (∀ i,Gl (Y i) x) u4._auto_1)
 (hdb:autoParam ((x == ("__debug__":Str))=false) u2._auto_1) (he:autoParam (∀ i,starEach (e::es) (Y i).env=(false,eval e (Y i).env)::starEach es (Y i).env) u4._auto_1) (hpl:autoParam (∀ i,(backTo pos (starEach es (Y i).env)).any (·.1)=false) u4._auto_1):
 DE He K Y (.Call (.Name x p) (e::es) [] pos) (xCallE P W t):=by
 obtain ⟨te,h1,h2⟩:=ha
 refine ⟨tFnE K P E te,fun i=> ?_,fun Pk Q F pp kk=>h2 _ _ F pp fun ds vs R1 H1 q1 e1 r1=>⟨R1,ds,_,W,e1.wd,r1,q1,fun dt v R' H' ⟨d,hd,pd⟩ ex sl=> ?_,fun c H' hw hs=>hE c H' hw (((F.at0.trans F.ext.hh).trans e1.hh).trans hs)⟩⟩
 · obtain ⟨a1,a2,a3,a4,a5⟩:=hX i
   have hx:=hx i
   subst a1 a2 a3 a4 a5
   exact pe_fnE G (hr i) hx (h1 i) rfl (hg i) hdb (he i) (hpl i)
 · obtain ⟨R2,ex2,r2⟩:=frz_run (H0:=R1) hd ex sl
   exact kk d v R2 H' pd (e1.trans ex2) r2
end
section
variable {P:Program} {w:World} {K:PySem.W.Frag} {mg:Str→Option Value} {base:Heap} {N:List Str} {qual:Str} {scope:Scope} {f:Addr} {cd:Value} {A:Around} {outer:List Env} {s:Shared} {H:Hp} {E:XK} {x:Str} {C:Addr} {np cpos pos:Pos} {msg:Str} {jj:Nat} {mp:Pos} {W:Addr→Prop}
noncomputable def sRaise (W:Addr→Prop) (C:Addr):Ds:=fun q_ q_=>W C
theorem ds_raise (O:OwnX K C) (hm:mg x=some (.ref C)) (hE: ∀c H',W c→Same H H'→E (.ref c) none H') (hg:autoParam (Gl (cxE P w K mg base N qual scope f cd A outer s H E) x) u5._auto_1) (hdb:autoParam ((x == ("__debug__":Str))=false) u2._auto_1):
 DS H K (fun _:Unit=>cxE P w K mg base N qual scope f cd A outer s H E) (.Raise (some (.Call (.Name x np) [.Constant (.str msg) jj mp] [] cpos)) none pos) (sRaise W C):=
 ⟨_,fun q_=>ps_raise O hg hm hdb,fun D E' F sm c p=>hE C _ p (F.at0.trans F.ext.hh)⟩
theorem Fun.okE {x qual:Str} {st:Stmt} {f:Addr} {fd:FuncData} {N ps:List Str} {k:Nat} {Pm:List PyData→(Dt→Prop)→(Addr→Prop)→Prop} {T:(Addr→Prop)→Ds} (F:Fun K x qual st f fd) (S:FnScope N ps (defScope st)) (len: ∀ds RS W,Pm ds RS W→ds.length=ps.length)
 (hT: ∀(cdv:Value) (A:Around) (outer:List Env) (s:Shared) (H:Hp) (E:XK) (W:Addr→Prop),(∀ c H',W c→Same H H'→E (.ref c) none H')→Room k (A.deeper (envOfC qual (defScope st) s.heap.objs.size f cdv))→DSs H K (fun _:Unit=>cxE P w K mg base N qual (defScope st) f cdv A outer s H E) (defBody st) (T W))
 (hR: ∀ds RS W,Pm ds RS W→T W {nx:=fun q_=>RS (.d .none),rt:=RS} (startD N.length ds)):FnOk P w K mg base (CXE P w) (k + 1) f fd ps (spE K Pm):=by
 obtain ⟨oc,od,kV,doc,pm,an,cdv,ct,osl,rfl,lk,hcd⟩:=F.ex
 refine fn_of lk hcd S (fun vs H Q E h=> ?_) fun A outer s H vs Q E hr h=> ?_
 · obtain ⟨ds,RS,W,h1,h2,_⟩:=h
   rw [h1.len]
   exact len ds RS W h2
 · obtain ⟨ds,RS,W,h1,h2,k,kx⟩:=h
   obtain ⟨ts,t1,t2⟩:=hT cdv A outer s H E W kx hr
   refine ⟨ts,t1 (),t2 (R0:=H) {nx:=fun q_=>RS (.d .none),rt:=RS} _ (Fra.begin (Same.refl H) h1) (Same.refl H) ⟨fun env' R' H' σ' q q_ F'=>k (.d .none) .non R' H' q F'.ext Rp.non,fun dt v R' H' q e sl=>k dt v R' H' q e sl,fun q_ q_ q_ q_ q=>q.elim,fun q_ q_ q_ q_ q=>q.elim⟩ (hR ds RS W h2)⟩
end
end L2
set_option Elab.async false
set_option linter.all false
set_option maxRecDepth 100000
namespace L2
open PySem PySem.Spec PyProof.Rows
section
variable {M:Model} {A:Around} {E:Value→Shared→Prop} {C D:Addr}
variable {nm q:Str} {N:Addr} {bs bm:List Value} {hdct:Bool} {sn:List Str} {sub:List Value} {ab:Bool} {col:Option Bool} {dd:Option Addr} {k0 k1 k2 k3 k5:Option Value} {newId:String}
variable {nm' q':Str} {N':Addr} {bs' bm':List Value} {hdct':Bool} {sn':List Str} {sub':List Value} {ab':Bool} {col':Option Bool} {dd':Option Addr} {k0' k1' k2' k3' k5':Option Value} {newId':String}
theorem excMatches_sub {h:Heap} {g:Array GenState} {d:Drawn} {t:Nat} {os:OsState} {e:Addr} {oe:Obj} {Q:Bool→Shared→Prop}
 (hC:h.get? C=some (excClassObj nm q C N bs bm hdct sn sub ab col dd k0 k1 k2 k3 k5 newId)) (hD:h.get? D=some (excClassObj nm' q' D N' bs' bm' hdct' sn' sub' ab' col' dd' k0' k1' k2' k3' k5' newId'))
 (he:h.get? e=some oe) (hcls:oe.cls= .ref D) (hbase:bm.contains (.type "BaseException")=true) (hsub:bm'.contains (.ref C)=true)
 (hq:Q true ⟨h,g,d,t,os⟩):wpAny M A (excMatches (.ref e) (.ref C)) Q E ⟨h,g,d,t,os⟩:=by
 have hcB:(Value.ref C::bm).contains (.type "BaseException")=true:=by rw [List.contains_cons,hbase,Bool.or_true]
 have hcC:(Value.ref D::bm').contains (.ref C)=true:=by rw [List.contains_cons,hsub,Bool.or_true]
 have f:=tc_notTuple
 unfold excMatches
 repeat (first | (with_reducible refine wpAny_loadPart_at he ?_;rw [hcls]) | with_reducible refine wpAny_loadPart_at hC ?_ | (with_reducible refine wpAny_isSubtype_exc hC ?_;rw [hcB]) | (with_reducible refine wpAny_isSubtype_exc hD ?_;rw [hcC]) | wp_step)
 exact hq
end
section
variable {prog:Program} {w:World} {A:Around} {E:Value→Shared→Prop} {s:Shared} {base h0:Heap} {H:Hp} {env:Env} {outer:List Env} {L e C D:Addr} {Q:Flow→Shared→Prop} {x n:Str} {b₀:Stmt} {suite:List Stmt} {pos np:Pos} {rest:List ExceptHandler}
theorem caught (hfr:A.frames=some (env::outer)) (hl:s.heap.FunFrames base (env::outer)) (hf:env.frame=some L) (xt:XTr h0 s.heap H e (.ref D)) (fr: ∀b,s.heap.get? b=none→h0.get? b=none∧H b=none)
 (hC: ∀h',LeftK (frs (env::outer)) h0 H s.heap h'→∃bm N nm q bs hdct sn sub ab col dd k0 k1 k2 k3 k5 newId,h'.get? C=some (excClassObj nm q C N bs bm hdct sn sub ab col dd k0 k1 k2 k3 k5 newId)∧bm.contains (.type "BaseException")=true)
 (hD: ∀h',LeftK (frs (env::outer)) h0 H s.heap h'→∃bm N nm q bs hdct sn sub ab col dd k0 k1 k2 k3 k5 newId,h'.get? D=some (excClassObj nm q D N bs bm hdct sn sub ab col dd k0 k1 k2 k3 k5 newId)∧bm.contains (.ref C)=true)
 (hN: ∀(h':Heap) (Q':Value→Shared→Prop) (E':Value→Shared→Prop),LeftK (frs (env::outer)) h0 H s.heap h'→Q' (.ref C) {s with heap:=h'}→wpAny (model prog w) (A.mark (some (.ref e))) (eval (.Name x np) env) Q' E' {s with heap:=h'})
 (k: ∀h',LeftK (frs (env::outer)) h0 H s.heap h'→(∃ oe,h'.get? e=some oe∧oe.cls= .ref D)→h0.get? e=none∧H e=none→wpAny (model prog w) (A.mark (some (.ref e))) (storeName env n (.ref e)) (fun q_ s₂=>wpAny (model prog w) (A.mark (some (.ref e))) (execs (b₀::suite) env)
   (fun f s₃=>wpAny (model prog w) A (do bindName env n .none;unbindBehindTheSuite env n pos) (fun q_ s₄=>Q f s₄) E s₃) (fun q_ q_=>False) s₂) (fun q_ q_=>False) {s with heap:=h'}):
 wpAny (model prog w) A (noteFrame (.ref e) env) (fun q_ s₂=>wpAny (model prog w) A (setFlight (.ref e) none) (fun q_ s₃=>wpAny (model prog w) A (handleBy (.ref e) env (.ExceptHandler (some (.Name x np)) (some n) (b₀::suite) pos::rest)) Q E s₃) E s₂) E s:=by
 obtain ⟨oe,vs,a0,T,oT,ts,x1,x2,x3,x4,x5,x6,x7,x8,x9,x10,x11,x12,x13⟩:=xt
 have hbad: ∀b∈e::T::frs (env::outer),b∈frs (env::outer)∨(H b=none∧h0.get? b=none∧∃o vs,s.heap.get? b=some o∧o.data= .fields vs):=fun b hb=>(List.mem_cons.mp hb).elim (fun z=> .inr (by rw [z];exact ⟨x11,x10,oe,vs,x1,x4⟩)) fun hb=>(List.mem_cons.mp hb).elim (fun z=> .inr (by rw [z];exact ⟨x13,x12,oT,ts,x7,x8⟩)) .inl
 have lk: ∀h',(cutH s.heap (e::T::frs (env::outer))).StaysIn h'→s.heap.UpToSlots h'→LeftK (frs (env::outer)) h0 H s.heap h':=fun h' y1 y4=>by
  refine ⟨fun b o hb hH hf=> ?_,fun b o hb hf=> ?_⟩
  · refine cut_stays_good y1 (fun z=> ?_) hb
    rcases hbad b z with q | q
    · exact hf q
    · rcases hH with w | w | w
      · exact w q.1
      · exact w q.2.1
      · obtain ⟨o',vs',e1,e2⟩:=q.2.2
        rw [hb] at e1
        cases e1
        exact w vs' e2
  · obtain ⟨o',h1,h2⟩:=FunFrames.noFields hl b hf
    rw [h1] at hb
    cases hb
    exact y4 b _ h1 h2
 have fl:Heap.FlyingW (cutH s.heap (e::T::frs (env::outer))) (env::outer) e (.ref D) a0 s.heap:=
  ⟨cut_stays _ _,cut_bad List.mem_cons_self,FunFrames.base hl fun b hb=>cut_bad (List.mem_cons_of_mem _ (List.mem_cons_of_mem _ hb)),oe,vs,T,oT,ts,x1,⟨x2,x3.1⟩,x4,x5,cut_bad (List.mem_cons_of_mem _ List.mem_cons_self),x6,x7,x8,x9⟩
 refine wpAny_looks_onW hfr hf fl fun h₄ held₄ sm₄=> ?_
 refine wpAny_landsW held₄ fun h₅ fly₅ sm₅'=> ?_
 have sm₅:=sm₄.trans sm₅'
 have l₅:=lk h₅ fly₅.1 sm₅
 obtain ⟨ob,hob,hobc⟩:=fly₅.there
 obtain ⟨bm,N,nm,q,bs,hdct,sn,sub,ab,col,dd,k0,k1,k2,k3,k5,newId,hC5,hbase⟩:=hC h₅ l₅
 obtain ⟨bm',N',nm',q',bs',hdct',sn',sub',ab',col',dd',k0',k1',k2',k3',k5',newId',hD5,hsub⟩:=hD h₅ l₅
 refine wpAny_handleBy_cons (codeAny_handlers_test (hN h₅ _ _ l₅ ?_)) (by intro q;cases q)
 refine excMatches_sub hC5 hD5 hob hobc hbase hsub (codeAny_handlers_suite_as ?_)
 refine lands_againW fly₅ fun h₆ fly₆ sm₆'=> ?_
 have l₆:=lk h₆ fly₆.1 (sm₅.trans sm₆')
 refine wpAny_mono (k h₆ l₆ fly₆.there ⟨x10,x11⟩) (fun q_ s₂ z=>wpAny_mono z (fun f s₃ z=>z) fun q_ q_ z=>z.elim) fun q_ q_ z=>z.elim
end
theorem fn_of0 {CX:CXT} {P:Program} {w:World} {K:PySem.W.Frag} {mg:Str→Option Value} {base:Heap} {k:Nat} {f:Addr} {name qual:Str} {params:Arguments} {body:List Stmt} {scope:Scope} {dV kV doc pm cdv ct oc:Value} {an od:Option Addr}
 {osl:Array (Option Value)} {N ps:List Str} {sp:Sp} (lk:K.lookup f=some ⟨oc,od,.func (PySem.W.fnOf name qual params body scope dV kV doc pm an cdv ct),osl⟩) (hcd:PySem.W.codeIn K cdv qual=true) (S:FnScope N ps scope)
 (len: ∀vs H Q E,sp vs H Q E→vs.length=ps.length)
 (hbody: ∀(A:Around) (outer:List Env) (s:Shared) (H:Hp) (vs:List V) (Q:VK) (E:XK),Room k (A.deeper (envOfC qual scope s.heap.objs.size f cdv))→sp vs H Q E→
   ∀s1:Shared,Inv (cxOf CX P w K mg base N qual scope f cdv A outer s H E) [] (start N vs) H s1→wpAny (model P w) (cxOf CX P w K mg base N qual scope f cdv A outer s H E).A (execs body (cxOf CX P w K mg base N qual scope f cdv A outer s H E).env)
    (SP (cxOf CX P w K mg base N qual scope f cdv A outer s H E) [] {nx:=fun q_ H'=>Q .non H',rt:=Q}) (cxOf CX P w K mg base N qual scope f cdv A outer s H E).xe s1):
 FnOk P w K mg base CX (k + 1) f (PySem.W.fnOf name qual params body scope dV kV doc pm an cdv ct) ps sp:=by
 refine ⟨len,fun A outer s H args us vs Q E hr e0 hb r hsp=> ?_⟩
 have hl:=len _ _ _ _ hsp
 have KX:K.In s.heap:=e0.mod.kin.keeps fun b o e=>(e0.bs b o e).1
 have lim:s.heap.NoLimit:=e0.mod.nolimit.keeps fun b o e=>(e0.bs b o e).1
 have hkind: ∀y∈ps.zip us,scope.names.lookup y.1=some .local∨(scope.names.lookup y.1=some .cell∧((cellsFrom (s.heap.objs.size + 1) scope.names []).lookup y.1).isSome=true):=fun ⟨n,v⟩ hy=>by
  rcases S.par n (List.of_mem_zip hy).1 with q | q
  · exact .inl q
  · exact .inr ⟨q,PySem.W.cellsFrom_some _ _ _ (.inl q)⟩
 refine codeAny_call_function hr.depth (KX _ _ lk) rfl S.co S.gen rfl (PySem.W.codeRec_of KX hcd) (hb _ _ _ _ ?_)
 refine wpAny_newFunctionEnv_cells S.kind hkind fun env he s1 x=> ?_
 subst he
 refine ⟨lim.keeps x.toInCall.keep,codeAny_func ?_⟩
 have hq:=hbody A outer s H vs Q E (hr.deeper _) hsp
 have I:Inv (cxOf CX P w K mg base N qual scope f cdv A outer s H E) [] (start N vs) H s1:=inv_start S hr.hd e0 hl r x
 refine wpAny_mono (hq s1 I) (fun fl s' hs=> ?_) fun e s' hs=>hs
 have fin: ∀{σ':St} {H':Hp} {v:V} {u:Value},Inv (cxOf CX P w K mg base N qual scope f cdv A outer s H E) [] σ' H' s'→RelV v u→Q v H'→CE outer P w H s Q u s':=
  fun {σ' H' v u} J rv q=>⟨v,H',J.os,J.bare,J.base,J.hok,rv,q⟩
 cases fl with
 | ret u=>
   obtain ⟨v,σ',H',J,rv,q⟩:=hs
   exact fin J rv q
 | next=>
   obtain ⟨σ',H',J,q⟩:=hs
   exact fin (v:=V.non) (u:=Value.none) J rfl q
 | brk=>
   obtain ⟨_,_,_,q⟩:=hs
   exact False.elim q
 | cont=>
   obtain ⟨_,_,_,q⟩:=hs
   exact False.elim q
end L2
set_option Elab.async false
set_option linter.all false
set_option maxRecDepth 100000
namespace L2
open PySem PySem.Spec PyProof.Rows
section
variable {X:Cx} {pins:List (Addr×Obj)} {σ:St} {H:Hp} {s:Shared}
theorem Inv.unpin (I:Inv X pins σ H s):Inv X [] σ H s:=
 ⟨I.ok,I.os,I.bare,I.base,I.loc,I.cell,I.free,I.freeC,fun p hp=>I.pin p (by
   rw [List.append_nil] at hp
   exact List.mem_append_left _ hp),I.hok,I.len⟩
noncomputable def inTry (X:Cx) (He:Hp) (W:Addr→Prop) (e:Value) (s1:Shared):Prop:=∃a D H' σ',e= .ref a∧Inv X [] σ' H' s1∧XTr X.s₀.heap s1.heap H' a (.ref D)∧W D∧Same He H'
noncomputable def wishE (He:Hp) (W:Addr→Prop):XK:=fun C q_ H'=>∃D,C= .ref D∧W D∧Same He H'
theorem pass_try {He:Hp} {W:Addr→Prop} (hex:X.ex=[]):Passes (CXE X.prog X.w) (X.wish (inTry X He W)) (wishE He W):=by
 intro pins σ H1 s1 e s' I hx
 obtain ⟨a,C,H',rfl,os,bare,un,hok,xt,D,rfl,hW,hS⟩:=hx
 have I2:Inv (X.wish (inTry X He W)) pins σ H' s':=I.call' os un hok bare (fun b z=>by cases z)
 have gone: ∀b,s1.heap.get? b=none→X.s₀.heap.get? b=none:=fun b e=>by
  cases q:X.s₀.heap.get? b with
  | none=>rfl
  | some o=>
    obtain ⟨o',z⟩:=I.base.there b o q (by show b ∉ X.ex;rw [hex];exact fun z=>by cases z)
    rw [e] at z;cases z
 obtain ⟨oe,vs,a0,T,oT,ts,x1,x2,x3,x4,x5,x6,x7,x8,x9,x10,x11,x12,x13⟩:=xt
 exact ⟨a,D,H',σ,rfl,I2.unwish.unpin,⟨oe,vs,a0,T,oT,ts,x1,x2,x3,x4,x5,x6,x7,x8,x9,gone _ x10,x11,gone _ x12,x13⟩,hW,hS⟩
end
end L2
set_option Elab.async false
set_option linter.all false
set_option maxRecDepth 100000
namespace L2
open PySem PySem.Spec PySem.W PySem.Calls PyProof.Rows Builtin Builtin.ObjectAttr Builtin.Getset_descriptor
structure ExcK (K:PySem.W.Frag) (D:Addr):Prop where
 cl:(clsIn K D).isSome=true
 ga:findIn K (.ref D) "__getattribute__"=some (some (.builtin "BaseException.__getattribute__"))
 gt:findIn K (.ref D) "__getattr__"=some none
 lc:findIn K (.ref D) "__class__"=some (some (.builtin "object.__class__"))
 mo:mroIn K D (.type "object")=some true
 mb:mroIn K D (.type "BaseException")=some true
section
variable {prog:Program} {w:World} {A:Around} {E:Value→Shared→Prop} {h:Heap} {g:Array GenState} {d:Drawn} {t:Nat} {os:OsState} {a D:Addr} {o:Obj} {K:PySem.W.Frag}
theorem xc_type {M:Model} (hx:h.get? a=some o) (hc:o.cls= .ref D):Looks M h (typeOf (.ref a)) (.ref D):=hc▸(Looks.ld hx).andThen .now
theorem xc_get {tp:Value} {R:Result→Shared→Prop} (Z:ExcK K D) (X:K.In h) (hx:h.get? a=some o) (hc:o.cls= .ref D) (hq:R (.ok (.ret (.ref D))) ⟨h,g,d,t,os⟩):
 codeAny (model prog w) A (.call (.builtin "getset_descriptor.__get__") ⟨[.builtin "object.__class__",.ref a,tp],[]⟩) R ⟨h,g,d,t,os⟩:=by
 have L0:=xc_type (M:=model prog w) hx hc
 have L1:=looks_mroIn (M:=model prog w) X Z.mo
 refine codeAny_call_builtin KF.slot_gs.plain KF.entry_gs (KF.slot_gs.check _ _ _ _ _ _ _ _ KF.type_class (KF.args_gs _ _ _) ?_)
 unfold Builtin.«getset_descriptor.__get__» descrGet
 rw [dga_obj]
 refine wpAny_bind (wpAny_pure ?_)
 unfold descrGetter descrCheckInstance descrNameAndClass isInstance
 simp only [KF.owner_class]
 repeat lk
 refine ⟨Code.quiet_builtin _ (by decide +kernel),codeAny_builtin KF.entry_class ?_⟩
 unfold Builtin.«object.__class__» shownTypeOf
 repeat lk
 exact hq
theorem xc_check {M:Model} {nameV:Value} {Q:Unit→Shared→Prop} (Z:ExcK K D) (X:K.In h) (hx:h.get? a=some o) (hc:o.cls= .ref D) (hq:Q () ⟨h,g,d,t,os⟩):wpAny M A (checkBuiltinCall "BaseException.__getattribute__" ⟨[.ref a,nameV],[]⟩) Q E ⟨h,g,d,t,os⟩:=by
 have hk:builtinKind "BaseException.__getattribute__"=some .slot:=by decide +kernel
 have hsplit:splitId "BaseException.__getattribute__"=some ("BaseException","__getattribute__"):=by decide +kernel
 have ha:=F.args_bexc_ga (.ref a) nameV
 have LI:Looks M h (isInstance (.ref a) (.type "BaseException")) true:=(xc_type hx hc).andThen (looks_mroIn X Z.mb)
 simp only [checkBuiltinCall,hk,hsplit]
 refine wpAny_bind (LI.at ?_)
 repeat wp_step
 exact hq
theorem xc_entry {tk:Tok} {Q:Fin→Shared→Prop} (Z:ExcK K D) (X:K.In h) (hx:h.get? a=some o) (hc:o.cls= .ref D) (hq:Q (.done (.ret (.ref D))) ⟨h,g,d,t,os⟩):
 wpAny (model prog w) A (Builtin.«object.__getattribute__» ⟨[.ref a,.str "__class__" tk],[]⟩) Q E ⟨h,g,d,t,os⟩:=by
 have hT5:(⟨h,g,d,t,os⟩:Shared).TypeIs (.builtin "object.__class__") "getset_descriptor":=F.typeOf_object_class
 have f5:=F.typeOf_object_class
 have f6:=F.slot_gs_get.lookup
 have f7:=F.slot_gs_set.lookup
 have L1:=looks_findIn (M:=model prog w) X Z.lc
 repeat (any_goals (first | assumption | (with_reducible refine wpAny_loadPart_at hx ?_;rw [hc]) | with_reducible refine L1.at ?_ | wp_step))
 refine xc_get Z X hx hc ?_
 repeat (any_goals (first | assumption | wp_step))
theorem xc_by {tk:Tok} {Q:Value→Shared→Prop} (Z:ExcK K D) (X:K.In h) (hx:h.get? a=some o) (hc:o.cls= .ref D) (hq:Q (.ref D) ⟨h,g,d,t,os⟩):
 wpAny (model prog w) A (getAttrBy (.ref a) (.str "__class__" tk) false) Q E ⟨h,g,d,t,os⟩:=by
 have f3:=F.attrBase_ValueError.ga.bind (.ref a)
 have hx2:(Value.builtin "BaseException.__getattribute__" == Value.builtin "object.__getattribute__")=false:=by decide +kernel
 have hx1:(onTheHeap (Value.ref D) && Value.builtin "BaseException.__getattribute__" == Value.builtin "object.__getattribute__")=false:=by rw [hx2];rfl
 have L1:=looks_findIn (M:=model prog w) X Z.ga
 have L2:=looks_findIn (M:=model prog w) X Z.gt
 repeat (any_goals (first | assumption | (with_reducible refine wpAny_loadPart_at hx ?_;rw [hc]) | with_reducible refine L1.at ?_ | with_reducible refine L2.at ?_ | wp_step))
 refine codeAny_call_builtin F.attrBase_ValueError.ga.plain F.entry_bexc_ga (xc_check Z X hx hc (xc_entry Z X hx hc ?_))
 repeat (any_goals (first | assumption | wp_step))
theorem xc_attr {Q:Option Value→Shared→Prop} (Z:ExcK K D) (X:K.In h) (hx:h.get? a=some o) (hc:o.cls= .ref D) (hq:Q (some (.ref D)) ⟨h,g,d,t + 1,os⟩):wpAny (model prog w) A (getAttr? (.ref a) "__class__") Q E ⟨h,g,d,t,os⟩:=by
 unfold getAttr? getAttrBy?
 repeat (any_goals (first | assumption | with_reducible apply xc_by Z X hx hc | wp_step))
set_option tactic.hygienic true in
theorem kitx_exc (Z:ExcK K D):KitX K (.ref a) (.ref D) (xPhi a D) where
 ty:=fun _ _ _ ⟨_,hx,hc⟩=>xc_type hx hc
 it:=fun q_ q_ X q_=>by
  have hcD:=Z.cl
  unfold clsIn at hcD
  split at hcD
  · rename_i c' d' cd' sl' ho
    intro A' Q' E' s' k q
    unfold isType loadHead
    exact wpAny_bind (wpAny_loadPart (k _ _ (X _ _ ho)) (wpAny_pure q))
  · cases hcD
 ne:=fun h tp dd its n sl X htp=>by
  have hcD:=Z.cl
  refine Bool.eq_false_iff.mpr fun q=> ?_
  have e:D=tp:=Value.ref.inj (beq_iff_eq.mp q)
  subst e
  unfold clsIn at hcD
  split at hcD
  · rename_i c' d' cd' sl' ho
    have z:=(X _ _ ho).symm.trans htp
    cases z
  · cases hcD
 ca:=fun {_ _ _ _ _ s} X ⟨_,hx,hc⟩ k=>by
  obtain ⟨h,g,d,t,os⟩:=s
  exact xc_attr Z X hx hc k
end
end L2
set_option Elab.async false
set_option linter.all false
set_option maxRecDepth 100000
namespace L2
open PySem PySem.Spec PyProof.Rows
section
variable {X:Cx} {pins:List (Addr×Obj)} {σ:St} {H:Hp} {s:Shared}
theorem Inv.landed {σ':St} {h':Heap} {a D:Addr} (I:Inv X [] σ H s) (hpn:X.pn=[]) (hex:X.ex=[]) (xt:XTr X.s₀.heap s.heap H a (.ref D)) (l:LeftK (frs X.stack) X.s₀.heap H s.heap h') (he: ∃oe,h'.get? a=some oe∧oe.cls= .ref D) (hl:σ'.length=σ.length) (hw: ∀(i:Nat) v,σ'[i]?=some (some v)→False):
 Inv X [] σ' (upd H a (.ext (xPhi a D))) {s with heap:=h'}:=by
 obtain ⟨oe0,vs,a0,T,oT,ts,x1,x2,x3,x4,x5,x6,x7,x8,x9,x10,x11,x12,x13⟩:=xt
 have hb:=I.base
 have hnx: ∀b,b ∉ X.ex:=fun b z=>by rw [hex] at z;cases z
 have hS: ∀b,b∈X.fs→b∈frs X.stack:=fun b hb=>by
  unfold Cx.fs frs at hb
  unfold frs
  rcases I.ok.stk with q | ⟨q,qf⟩
  · rw [q];exact hb
  · rw [q,List.filterMap_cons,qf];exact List.mem_cons_of_mem _ hb
 have hL: ∀b o,X.s₀.heap.get? b=some o→b ∉ X.fs→b ∉ frs X.stack:=fun b o e hn z=>by
  have ab:=I.ok.above
  unfold Cx.fs frs at hn
  unfold frs at z
  rcases I.ok.stk with q | ⟨q,qf⟩
  · rw [q] at z;exact hn z
  · rw [q,List.filterMap_cons,qf] at z
    rcases List.mem_cons.mp z with z | z
    · subst z
      exact absurd (Heap.lt_size e) (Nat.not_lt.mpr ab)
    · exact hn z
 have any: ∀b o,s.heap.get? b=some o→(H b≠none∨X.s₀.heap.get? b≠none∨∀vs,o.data≠ .fields vs)→∃sl,h'.get? b=some {o with slots:=sl}:=fun b o e hc=>by
  by_cases hf:b∈frs X.stack
  · exact l.slot b o e hf
  · exact ⟨o.slots,l.keep b o e hc hf⟩
 have neA: ∀b o,X.s₀.heap.get? b=some o→b≠a:=fun b o e z=>by rw [z,x10] at e;cases e
 have ca: ∀x c,X.env.cells.lookup x=some c→c≠a:=fun x c e z=>by
  obtain ⟨v,o,ho,hd⟩:=I.cell x c e
  rw [z,x1] at ho
  cases ho
  rw [hd] at x4
  cases x4
 have la:X.env.locals≠a:=fun z=>by
  obtain ⟨m,⟨o,es,ep,ho,hd,_⟩,_⟩:=I.loc
  rw [z,x1] at ho
  cases ho
  rw [hd] at x4
  cases x4
 refine ⟨I.ok,I.os,I.bare,⟨fun b o e n hf hx=> ?_,fun b o e n hf hx=> ?_,fun b o e n hx=> ?_,fun b o e hx=> ?_,fun b xs e=> ?_,fun b o u e=> ?_,fun b ps e=> ?_⟩,?_,fun x c e=> ?_,?_,fun x c e=> ?_,fun p hp=> ?_,fun b o e=> ?_,hl.trans I.len⟩
 · exact l.keep b o (hb.keep b o e n hf hx) (.inr (.inl (by rw [e];exact fun z=>by cases z))) (hL b o e hf)
 · obtain ⟨sl,e1⟩:=hb.slot b o e n hf hx
   obtain ⟨sl2,e2⟩:=l.slot b _ e1 (hS b hf)
   exact ⟨sl2,e2⟩
 · rw [upd_ne (neA b o e)]
   exact hb.free b o e n hx
 · obtain ⟨o',e1⟩:=hb.there b o e hx
   obtain ⟨sl,e2⟩:=any b o' e1 (.inr (.inl (by rw [e];exact fun z=>by cases z)))
   exact ⟨_,e2⟩
 · have z:=hb.tups b xs e
   rw [upd_ne (ne_of_none z x11)]
   exact z
 · have z:=hb.frzs b o u e
   rw [upd_ne (ne_of_none z x11)]
   exact z
 · obtain ⟨m,z⟩:=hb.tbls b ps e
   exact ⟨m,by rw [upd_ne (ne_of_none z x11)];exact z⟩
 · obtain ⟨m,⟨o,es,ep,ho,hd,r⟩,_⟩:=I.loc
   obtain ⟨sl,e2⟩:=any _ o ho (.inr (.inr fun vs z=>by rw [hd] at z;cases z))
   exact ⟨m,⟨_,es,ep,e2,hd,r⟩,fun i x v e1 e2 e3=>(hw i v e2).elim⟩
 · obtain ⟨v,o,ho,hd⟩:=I.cell x c e
   obtain ⟨sl,e2⟩:=any _ o ho (.inr (.inr fun vs z=>by rw [hd] at z;cases z))
   exact ⟨v,_,e2,hd⟩
 · rw [upd_ne la];exact I.free
 · rw [upd_ne (ca x c e)];exact I.freeC x c e
 · rw [hpn] at hp;cases hp
 · by_cases hba:b=a
   · subst hba
     rw [upd_same] at e
     cases e
     obtain ⟨oe,e1,e2⟩:=he
     exact ⟨⟨oe,e1,e2⟩,⟨oe,e1⟩,fun h1 h2 ⟨o,z1,z2⟩ k=>⟨o,k o z1,z2⟩⟩
   · rw [upd_ne hba] at e
     refine (I.hok b o e).stay (fun c u hc q=>l.keep c u q (.inl ?_) fun z=> ?_) (fun c q=>by rw [upd_ne (ne_of_none q x11)];exact q) fun c xs q=>by rw [upd_ne (ne_of_none q x11)];exact q
     · rcases hc with rfl | hc
       · rw [e];exact fun z=>by cases z
       · rw [hc];exact fun z=>by cases z
     · have hn:=I.stkFree c z
       rcases hc with rfl | hc
       · rw [e] at hn;cases hn
       · rw [hc] at hn;cases hn
theorem Inv.gone {σ':St} {h':Heap} {m':Str→Option Value} {t':Nat} (I:Inv X [] σ H s) (hpn:X.pn=[]) (hn:h'.Ns X.env.locals m') (hs:Heap.SameBut X.env.locals s.heap h') (hl:σ'.length=σ.length) (hw: ∀(i:Nat) v,σ'[i]?=some (some v)→False):
 Inv X [] σ' H {s with heap:=h',toks:=t'}:=by
 have neL: ∀b o,X.s₀.heap.get? b=some o→b≠X.env.locals:=fun b o e=>Nat.ne_of_lt (Nat.lt_of_lt_of_le (Heap.lt_size e) I.ok.above)
 refine ⟨I.ok,I.os,I.bare,⟨fun b o e n hb hx=> ?_,fun b o e n hb hx=> ?_,I.base.free,fun b o e hx=> ?_,I.base.tups,I.base.frzs,I.base.tbls⟩,⟨_,hn,fun j y v' e1 e2 e3=>(hw j v' e2).elim⟩,fun y c e=> ?_,I.free,I.freeC,fun p hp=> ?_,fun b ob e=> ?_,hl.trans I.len⟩
 · exact (hs.2 b (neL b o e)).trans (I.base.keep b o e n hb hx)
 · obtain ⟨sl,e1⟩:=I.base.slot b o e n hb hx
   exact ⟨sl,(hs.2 b (neL b o e)).trans e1⟩
 · obtain ⟨o',e1⟩:=I.base.there b o e hx
   exact ⟨o',(hs.2 b (neL b o e)).trans e1⟩
 · obtain ⟨w',z⟩:=I.cell y c e
   exact ⟨w',z.sameBut hs (I.cne y c e)⟩
 · rw [hpn] at hp;cases hp
 · refine (I.hok b ob e).stay (fun c w' hc q=>(hs.2 c ?_).trans q) (fun q_ q=>q) fun q_ q_ q=>q
   rintro rfl
   rcases hc with rfl | hc
   · rw [I.free] at e;cases e
   · rw [I.free] at hc;cases hc
noncomputable def inSuite (X:Cx) (a:Addr):Cx:={X with A:=X.A.mark (some (.ref a)),calm:=false,xe:=fun q_ q_=>False}
theorem Inv.suite {a:Addr} (I:Inv X pins σ H s):Inv (inSuite X a) pins σ H s:=
 ⟨⟨I.ok.mod,I.ok.kind,I.ok.glob,I.ok.blt,I.ok.above,I.ok.inj,I.ok.has,I.ok.cab,(fun z=>by cases z),I.ok.frames,I.ok.stk,I.ok.exf,I.ok.bs,I.ok.bsz,I.ok.noex,I.ok.exfs,I.ok.funs,I.ok.frf⟩,I.os,I.bare,I.base,I.loc,I.cell,I.free,I.freeC,I.pin,I.hok,I.len⟩
theorem Inv.unsuite {a:Addr} (ok:X.Ok) (I:Inv (inSuite X a) pins σ H s):Inv X pins σ H s:=
 ⟨ok,I.os,I.bare,I.base,I.loc,I.cell,I.free,I.freeC,I.pin,I.hok,I.len⟩
theorem Inv.noneAt (I:Inv X pins σ H s) (hex:X.ex=[]) {b:Addr} (e:s.heap.get? b=none):X.s₀.heap.get? b=none∧H b=none:=by
 refine ⟨?_,I.hok.gone e⟩
 cases q:X.s₀.heap.get? b with
 | none=>rfl
 | some o=>
   obtain ⟨o',z⟩:=I.base.there b o q (fun z=>by rw [hex] at z;cases z)
   rw [e] at z;cases z
theorem Inv.bLeft {h':Heap} (I:Inv X pins σ H s) (l:LeftK (frs X.stack) X.s₀.heap H s.heap h'): ∀b o,X.base.get? b=some o→h'.get? b=some o:=fun b o e0=>by
 have e1:=(I.ok.bs b o e0).1
 refine l.keep b o (I.bk b o e0) (.inr (.inl (by rw [e1];exact fun z=>by cases z))) fun z=> ?_
 have:=(I.stack.mem z).1
 rw [e0] at this;cases this
theorem Inv.kLeft {h':Heap} (I:Inv X pins σ H s) (l:LeftK (frs X.stack) X.s₀.heap H s.heap h'):X.K.In h':=I.mod.kin.keeps (I.bLeft l)
noncomputable def UnderX (K:PySem.W.Frag) (D C:Addr):Prop:=∀h:Heap,K.In h→∃bm N nm q bs hdct sn sub ab col dd k0 k1 k2 k3 k5 newId,h.get? D=some (excClassObj nm q D N bs bm hdct sn sub ab col dd k0 k1 k2 k3 k5 newId)∧bm.contains (.ref C)=true
end
theorem Fra.landed {K:PySem.W.Frag} {H H':Hp} {n i:Nat} {a D:Addr} {σ:St} (sm:Same H H') (hn:H' a=none) (hl:σ.length=n):
 Fra H K H (upd H' a (.ext (xPhi a D))) (upd H' a (.ext (xPhi a D))) (σ.set i (some (.ref a))) ((List.replicate n Dt.un).set i (.d (excD D))):=by
 have sm2:Same H (upd H' a (.ext (xPhi a D))):=sm.trans (Same.new hn)
 have F0:Fra H K H (upd H' a (.ext (xPhi a D))) (upd H' a (.ext (xPhi a D))) σ (List.replicate n Dt.un):=by
  have un: ∀(i:Nat) (d:Dt),(List.replicate n Dt.un)[i]?=some d→d= .un:=fun i d h=>by
   rw [List.getElem?_replicate] at h
   split at h
   · cases h;rfl
   · cases h
  refine ⟨Same.refl H,Ext.of_same sm2,by rw [hl,List.length_replicate],fun i d h=> ?_,fun i j di dj a h1 h2 o1 q_=> ?_⟩
  · rw [un i d h]
    cases (σ[i]?).join <;> trivial
  · rw [un i di h1] at o1;cases o1
 exact F0.setD i (.xc upd_same)
section
variable {P:Program} {w:World} {K:PySem.W.Frag} {mg:Str→Option Value} {base:Heap}
theorem Fun.okT {x qual:Str} {st:Stmt} {f:Addr} {fd:FuncData} {N ps:List Str} {k:Nat} {Pm:List PyData→(Dt→Prop)→Prop} {T:(Addr→Prop)→Ds} {TS:Ds} {c n:Str} {np hp pos:Pos} {body suite:List Stmt} {b₀:Stmt} {C:Addr} {ie:Nat}
 (F:Fun K x qual st f fd) (S:FnScope N ps (defScope st)) (len: ∀ds RS,Pm ds RS→ds.length=ps.length)
 (hst:defBody st=[.Try body [.ExceptHandler (some (.Name c np)) (some n) (b₀::suite) hp] [] [] pos]) (hi:N[ie]?=some n) (hlo:(defScope st).names.lookup n=some .local) (hm:mg c=some (.ref C)) (hC:OwnX K C)
 (hg: ∀(cdv:Value) (A:Around) (outer:List Env) (s:Shared) (H:Hp) (E:XK) (a:Addr),Gl (inSuite (cxOf CX0 P w K mg base N qual (defScope st) f cdv A outer s H E) a) c)
 (hT: ∀(cdv:Value) (A:Around) (outer:List Env) (s:Shared) (H:Hp) (E:XK) (W:Addr→Prop),Room k (A.deeper (envOfC qual (defScope st) s.heap.objs.size f cdv))→
   DSs H K (fun _:Unit=>(cxOf CX0 P w K mg base N qual (defScope st) f cdv A outer s H E).wish (inTry (cxOf CX0 P w K mg base N qual (defScope st) f cdv A outer s H E) H W)) body (T W))
 (hS: ∀(cdv:Value) (A:Around) (outer:List Env) (s:Shared) (H:Hp) (E:XK) (a:Addr),Room k (A.deeper (envOfC qual (defScope st) s.heap.objs.size f cdv))→
   DSs H K (fun _:Unit=>inSuite (cxOf CX0 P w K mg base N qual (defScope st) f cdv A outer s H E) a) (b₀::suite) TS)
 (hR: ∀ds RS,Pm ds RS→∃W,T W {nx:=fun q_=>RS (.d .none),rt:=RS} (startD N.length ds)∧∀D,W D→UnderX K D C∧TS {nx:=fun q_=>RS (.d .none),rt:=RS} ((List.replicate N.length .un).set ie (.d (excD D))))
 (hd:autoParam ((c == ("__debug__":Str))=false) u2._auto_1):FnOk P w K mg base CX0 (k + 1) f fd ps (spG K Pm):=by
 obtain ⟨oc,od,kV,doc,pm,an,cdv,ct,osl,rfl,lk,hcd⟩:=F.ex
 refine fn_of0 lk hcd S (fun vs H Q E h=> ?_) fun A outer s H vs Q E hr h s1 I=> ?_
 · obtain ⟨ds,RS,h1,h2,_⟩:=h
   rw [h1.len]
   exact len ds RS h2
 · obtain ⟨ds,RS,h1,h2,kk⟩:=h
   obtain ⟨W,r1,r2⟩:=hR ds RS h2
   obtain ⟨ts,t1,t2⟩:=hT cdv A outer s H E W hr
   rw [hst]
   generalize hX:cxOf CX0 P w K mg base N qual (defScope st) f cdv A outer s H E=X at I t1 ⊢
   have cov:Cov H K H H {nx:=fun q_=>RS (.d .none),rt:=RS} {nx:=fun q_ H'=>Q .non H',rt:=Q}:=⟨fun env' R' H' σ' q q_ F'=>kk (.d .none) .non R' H' q F'.ext Rp.non,fun dt v R' H' q e sl=>kk dt v R' H' q e sl,fun q_ q_ q_ q_ q=>q.elim,fun q_ q_ q_ q_ q=>q.elim⟩
   have ok:=I.ok
   have hex:X.ex=[]:=by rw [← hX];rfl
   have hpn:X.pn=[]:=by rw [← hX];rfl
   have hXs:X.s₀=s:=by rw [← hX];rfl
   have hXK:X.K=K:=by rw [← hX];rfl
   have hXN:X.N=N:=by rw [← hX];rfl
   have one: ∀fl s2,SP X [] {nx:=fun q_ H'=>Q .non H',rt:=Q} fl s2→(match fl with | .next=>wpAny (model P w) X.A (execs [] X.env) (SP X [] {nx:=fun q_ H'=>Q .non H',rt:=Q}) X.xe s2 | f=>SP X [] {nx:=fun q_ H'=>Q .non H',rt:=Q} f s2):=fun fl s2 q=>by
    cases fl with
    | next=>exact wpAny_execs_nil q
    | ret v=>exact q
    | brk=>exact q
    | cont=>exact q
   refine wpAny_execs_cons (thn (wpAny_Try_except (Q:=SP X [] {nx:=fun q_ H'=>Q .non H',rt:=Q}) ?_) fun fl s2 q=>one fl s2 q)
   have hb:=t1 () [] s1 (start N vs) H {nx:=fun q_ H'=>Q .non H',rt:=Q} (I.wish _) (t2 (R0:=H) {nx:=fun q_=>RS (.d .none),rt:=RS} _ (Fra.begin (Same.refl H) h1) (Same.refl H) cov r1)
   have hprog:X.prog=P:=by rw [← hX];rfl
   have hw:X.w=w:=by rw [← hX];rfl
   subst hprog hw
   refine wpAny_mono hb (fun fl s2 q=>one fl s2 q.unwish) fun e s2 q=> ?_
   obtain ⟨a,D,H',σ',rfl,I2,xt,hW,sm⟩:=q
   obtain ⟨hU,hTS⟩:=r2 D hW
   obtain ⟨tsS,u1,u2⟩:=hS cdv A outer s H E a hr
   rw [hX] at u1
   have hstk:X.stack=X.env::X.outer:=by rw [← hX];rfl
   have hfrm:X.env.frame=some X.env.locals:=by rw [← hX];rfl
   have hNd:X.N.Nodup:=by rw [hXN];exact S.nd
   have hkind:X.env.kindOf n=some .local:=by rw [← hX];exact hlo
   have hnoc:(X.env.scope.kind == .class || (X.env.scope.kind == .module && X.env.locals != X.env.globals))=false:=by rw [ok.kind];rfl
   have eN:σ'.length=N.length:=I2.len.trans (by rw [hXN])
   have e0:(List.replicate N.length (none:Option V)).length=σ'.length:=by rw [List.length_replicate,eN]
   have no: ∀(i:Nat) v,(List.replicate N.length (none:Option V))[i]?=some (some v)→False:=fun i v z=>by
    rw [List.getElem?_replicate] at z
    split at z <;> cases z
   have land: ∀h',LeftK (frs X.stack) X.s₀.heap H' s2.heap h'→(∃ oe,h'.get? a=some oe∧oe.cls= .ref D)→Inv X [] (List.replicate N.length none) (upd H' a (.ext (xPhi a D))) {s2 with heap:=h'}:=fun h' l he=>I2.landed hpn hex xt l he e0 no
   have hHa:H' a=none:=by
    obtain ⟨_,_,_,_,_,_,x1,x2,x3,x4,x5,x6,x7,x8,x9,x10,x11,x12,x13⟩:=xt
    exact x11
   have g:=hg cdv A outer s H E a
   rw [hX] at g
   rw [hstk] at land
   refine caught (base:=X.base) (C:=C) (D:=D) (by rw [← hstk];exact I2.ok.frames) (by rw [← hstk];exact I2.stack) hfrm xt (fun b hb=>I2.noneAt hex hb) (fun h' l=> ?_) (fun h' l=> ?_) (fun h' Q' E' l q=> ?_) fun h' l he q_=> ?_
   · obtain ⟨bm,N',nm,q,bs,hdct,sn,sub,ab,col,dd,k0,k1,k2,k3,k5,mN,hni,OX⟩:=hC.ex
     obtain ⟨o1,_,o3⟩:=OX h' (by have:=I2.kLeft (by rw [hstk];exact l);rw [hXK] at this;exact this)
     exact ⟨bm,N',nm,q,bs,hdct,sn,sub,ab,col,dd,k0,k1,k2,k3,k5,_,o1,o3.hasType (by decide)⟩
   · exact hU h' (by have:=I2.kLeft (by rw [hstk];exact l);rw [hXK] at this;exact this)
   · have hmX:X.mg c=some (.ref C):=by rw [← hX];exact hm
     exact Calls.Name_function_global ok.kind g (Calls.loadGlobal_global (by rw [ok.glob];exact I2.mod.glob.keeps (I2.bLeft (by rw [hstk];exact l))) hmX q) hd
   · have I3:=land h' l he
     refine store_ok (i:=ie) (v:= .ref a) I3 hNd (by rw [hXN];exact hi) (.inl hkind) rfl (fun s3 I4=> ?_) (.inr hkind)
     have fr:Fra H K H (upd H' a (.ext (xPhi a D))) (upd H' a (.ext (xPhi a D))) ((List.replicate N.length none).set ie (some (.ref a))) ((List.replicate N.length Dt.un).set ie (.d (excD D))):=Fra.landed sm hHa (by rw [List.length_replicate])
     have hs:=u1 () [] s3 _ _ {nx:=fun q_ H'=>Q .non H',rt:=Q} I4.suite (u2 (R0:=H) {nx:=fun q_=>RS (.d .none),rt:=RS} _ fr fr.ext.rr cov hTS)
     refine wpAny_mono hs (fun fl s4 q=> ?_) fun q_ q_ z=>z
     have fin: ∀{σ4:St} {H4:Hp},Inv X [] σ4 H4 s4→(∀ s5,Inv X [] (List.replicate N.length none) H4 s5→SP X [] {nx:=fun q_ H'=>Q .non H',rt:=Q} fl s5)→wpAny (model X.prog X.w) X.A (do bindName X.env n .none;unbindBehindTheSuite X.env n hp) (fun q_ s5=>SP X [] {nx:=fun q_ H'=>Q .non H',rt:=Q} fl s5) X.xe s4:=fun {σ4 H4} I5 kf=>by
      obtain ⟨m,hn,_⟩:=id I5.loc
      exact wpAny_nameGoes hkind hn hnoc fun h5 m5 n5 b5=>kf _ (I5.gone hpn n5 b5 (by rw [List.length_replicate,I5.len,hXN]) no)
     cases fl with
     | next=>obtain ⟨σ4,H4,I5,q⟩:=q;exact fin (I5.unsuite ok) fun s5 J=>⟨_,_,J,q⟩
     | brk=>obtain ⟨σ4,H4,I5,q⟩:=q;exact fin (I5.unsuite ok) fun s5 J=>⟨_,_,J,q⟩
     | cont=>obtain ⟨σ4,H4,I5,q⟩:=q;exact fin (I5.unsuite ok) fun s5 J=>⟨_,_,J,q⟩
     | ret u=>obtain ⟨v,σ4,H4,I5,rv,q⟩:=q;exact fin (I5.unsuite ok) fun s5 J=>⟨v,_,_,J,rv,q⟩
end
end L2
set_option Elab.async false
set_option linter.all false
set_option maxRecDepth 100000
namespace L2
open PySem PySem.Spec PyProof.Rows
section
variable {He:Hp} {K:PySem.W.Frag} {ι:Type} {Y:ι→Cx} {a:Expr} {pos:Pos}
noncomputable def xIsX (K:PySem.W.Frag) (c:Value) (t:De):De:=fun env P=>t env fun d=>∃D b,d=excD D∧ExcK K D∧PySem.W.kitOne K (.ref D) c=some b∧P (.bool b)
theorem excD_inj {C D:Addr} (h:excD C=excD D):C=D:=by
 unfold excD at h
 injection h with h
 have h:(C:Int)=(D:Int):=by simpa using h
 exact Int.ofNat.inj h
theorem Rp.xc_inv {H:Hp} {v:V} {D:Addr} (r:Rp K H v (excD D)): ∃a,v= .ref a∧H a=some (.ext (xPhi a D)):=by
 generalize hd:excD D=d at r
 cases r with
 | @xc a C h=>have e:=excD_inj hd;subst e;exact ⟨a,rfl,h⟩
 | @scr a ns h=>
   unfold excD scrD at hd
   cases ns with
   | nil=>cases hd
   | cons n ns=>simp at hd
 | any=>unfold excD anyD at hd;simp at hd
 | non=>cases hd
 | bl _=>cases hd
 | int _=>cases hd
 | str _=>cases hd
 | lst _ _=>cases hd
 | tup _ _=>cases hd
theorem call_isX {X:Cx} (K:PySem.W.Frag) {y:V} {c:Value} (hy: ∀u,RelV y u→u=c) (hK:autoParam (X.K=K) u5._auto_1):CallR X (.builtin "isinstance") (fun xs H Q=>∃a D b,xs=[.ref a,y]∧H a=some (.ext (xPhi a D))∧ExcK K D∧PySem.W.kitOne K (.ref D) c=some b∧Q (.bl b) H):=by
 subst hK
 intro pins s σ H xs us Q I r h
 obtain ⟨a,D,b,rfl,hH,Z,e,q⟩:=h
 obtain ⟨u,w',rfl,r1,r2⟩:=vals2 r
 cases (show u=Value.ref a from r1)
 cases hy w' r2
 obtain ⟨hp,_,_⟩:=(show ObjOk X.prog X.w H s.heap a (.ext (xPhi a D)) from I.hok a _ hH)
 exact PySem.W.kia_one (kitx_exc Z) I.kIn hp e (fun z=>nomatch z) fun tk=>⟨.bl b,H,I.tok tk,rfl,q⟩
theorem de_isX {t:De} {p p2:Pos} {x:Str} {C:Addr} (h:DB He K Y a t) (hmT: ∀i,(Y i).mg x=some (.ref C)) (hm: ∀i,(Y i).mg "isinstance"=none) (hxd:autoParam ((x == ("__debug__":Str))=false) u2._auto_1) (hgT:autoParam (∀ i,Gl (Y i) x) u4._auto_1) (hg:autoParam (∀ i,Gl (Y i) "isinstance") u4._auto_1)
 (hK:autoParam (∀ i,(Y i).K=K) u4._auto_1) (hs:autoParam (∀ i,starEach [a,.Name x p2] (Y i).env=(false,eval a (Y i).env)::starEach [.Name x p2] (Y i).env) u4._auto_1) (hs2:autoParam (∀ i,starEach [.Name x p2] (Y i).env=[(false,eval (.Name x p2) (Y i).env)]) u4._auto_1)
 (hpl:autoParam (∀ i,(backTo pos (starEach [.Name x p2] (Y i).env)).any (·.1)=false) u4._auto_1):
 DE He K Y (.Call (.Name "isinstance" p) [a,.Name x p2] [] pos) (xIsX K (.ref C) t):=by
 obtain ⟨te,h1,h2⟩:=h
 refine ⟨_,fun i=>pe_callB (call_isX K (y:= .ref C) (c:= .ref C) (fun u z=>z) (hK i)) (hg i) (hm i) bt_isi' (pa_cons (h1 i) (pa_cons (pe_glob (v:= .ref C) (hgT i) (hmT i) rfl hxd) pa_nil (hs2 i)) (hs i)) (by decide) (by decide) (hs i) (hpl i),fun P Q F p k=>h2 _ _ F p fun d v R1 H1 q1 e1 r1=> ?_⟩
 obtain ⟨D,b,rfl,Z,hb,q1⟩:=q1
 obtain ⟨a',rfl,hH⟩:=r1.xc_inv
 exact ⟨a',D,b,rfl,hH,Z,hb,k _ _ R1 H1 q1 e1 (.bl b)⟩
theorem de_isXT {t:De} {p p2:Pos} {x:Str} {T:String} (h:DB He K Y a t) (hT:bootBuiltins x=some (.type T)) (hmT: ∀i,(Y i).mg x=none) (hm: ∀i,(Y i).mg "isinstance"=none) (hxn:autoParam (x≠"__name__") u2._auto_1) (hxd:autoParam ((x == ("__debug__":Str))=false) u2._auto_1) (hgT:autoParam (∀ i,Gl (Y i) x) u4._auto_1) (hg:autoParam (∀ i,Gl (Y i) "isinstance") u4._auto_1)
 (hK:autoParam (∀ i,(Y i).K=K) u4._auto_1) (hs:autoParam (∀ i,starEach [a,.Name x p2] (Y i).env=(false,eval a (Y i).env)::starEach [.Name x p2] (Y i).env) u4._auto_1) (hs2:autoParam (∀ i,starEach [.Name x p2] (Y i).env=[(false,eval (.Name x p2) (Y i).env)]) u4._auto_1)
 (hpl:autoParam (∀ i,(backTo pos (starEach [.Name x p2] (Y i).env)).any (·.1)=false) u4._auto_1):
 DE He K Y (.Call (.Name "isinstance" p) [a,.Name x p2] [] pos) (xIsX K (.type T) t):=by
 obtain ⟨te,h1,h2⟩:=h
 refine ⟨_,fun i=>pe_callB (call_isX K (y:= .ty T) (c:= .type T) (fun u z=>z) (hK i)) (hg i) (hm i) bt_isi' (pa_cons (h1 i) (pa_cons (pe_bltn (v:= .ty T) (hgT i) (hmT i) hT rfl hxn hxd) pa_nil (hs2 i)) (hs i)) (by decide) (by decide) (hs i) (hpl i),fun P Q F p k=>h2 _ _ F p fun d v R1 H1 q1 e1 r1=> ?_⟩
 obtain ⟨D,b,rfl,Z,hb,q1⟩:=q1
 obtain ⟨a',rfl,hH⟩:=r1.xc_inv
 exact ⟨a',D,b,rfl,hH,Z,hb,k _ _ R1 H1 q1 e1 (.bl b)⟩
theorem bt_ve:bootBuiltins "ValueError"=some (.type "ValueError"):=by decide +kernel
end
noncomputable def clsA (K:PySem.W.Frag) (nm:Str) (c:Addr):Prop:=PySem.W.nsIn K mainGlobals nm=some (some (.ref c))
theorem clsA_inj {K:PySem.W.Frag} {nm:Str} {c d:Addr} (h:clsA K nm c) (h':clsA K nm d):c=d:=by
 unfold clsA at h h'
 rw [h] at h'
 simpa using h'
noncomputable def tailVE:List Value:=[.type "ValueError",.type "Exception",.type "BaseException",.type "object"]
noncomputable def xOk (K:PySem.W.Frag) (C:Addr):Bool:=PySem.W.excIn K C tailVE "ValueError.__new__" && (PySem.W.clsIn K C).isSome && PySem.W.findIn K (.ref C) "__getattribute__" == some (some (.builtin "BaseException.__getattribute__")) && PySem.W.findIn K (.ref C) "__getattr__" == some none &&
 PySem.W.findIn K (.ref C) "__class__" == some (some (.builtin "object.__class__")) && PySem.W.mroIn K C (.type "object") == some true && PySem.W.mroIn K C (.type "BaseException") == some true
noncomputable def xSub (K:PySem.W.Frag) (D C:Addr):Bool:=match K.lookup D with
 | some ⟨_,_,.cls cd,_⟩=>cd.mro.tail.contains (.ref C)
 | _=>false
noncomputable def mapIn (K:PySem.W.Frag) (N:Addr) (x:Str):Option Value:=match K.lookup N with
 | some ⟨_,_,.dict es _,_⟩=>nsFind es x
 | _=>none
set_option tactic.hygienic true in
theorem mapIn_eq {K:PySem.W.Frag} {h:Heap} {N:Addr} (X:K.In h) (e:PySem.W.nsOkIn K N=true):h.nsMap N=mapIn K N:=by
 funext x
 unfold PySem.W.nsOkIn at e
 unfold mapIn Heap.nsMap
 split at e
 · rename_i ho
   rw [X _ _ ho,ho]
 · cases e
set_option tactic.hygienic true in
theorem xOk_own {K:PySem.W.Frag} {C:Addr} (h:xOk K C=true):OwnX K C:=by
 unfold xOk at h
 simp only [Bool.and_eq_true] at h
 have q:=h.1.1.1.1.1.1
 unfold PySem.W.excIn at q
 split at q
 · rename_i dd cd sl ho
   split at q
   · rename_i C' bm k0 k1 k2 k3 n k5 hm hs
     simp only [Bool.and_eq_true,beq_iff_eq,Bool.not_eq_true'] at q
     obtain ⟨⟨⟨⟨⟨rfl,rfl⟩,hdel⟩,ht⟩,hok⟩,hni⟩:=q
     obtain ⟨nm,bs,mro,ns,qn,hd,sn,sub,ab,col,del⟩:=cd
     dsimp only at hm hdel hok hni
     subst hm hdel
     have hsl:sl= #[k0,k1,k2,k3,some (.builtin "ValueError.__new__"),k5]:=by
      obtain ⟨l⟩:=sl
      simp only at hs
      rw [hs]
     subst hsl
     refine ⟨bm,ns,nm,qn,bs,hd,sn,sub,ab,col,dd,k0,k1,k2,k3,k5,mapIn K ns,?_,fun h X=>⟨X _ _ ho,?_,PySem.W.tail_of_in X ht⟩⟩
     · unfold PySem.W.nsOkIn at hok
       unfold PySem.W.nsIn at hni
       unfold mapIn
       split at hok
       · rename_i ho2
         rw [ho2] at hni ⊢
         dsimp only at hni ⊢
         split at hni
         · cases hni
         · rename_i he
           unfold nsFind findBy
           rw [← Array.find?_toList,he]
           rfl
       · cases hok
     · rw [← mapIn_eq X hok]
       exact .of_isNs (PySem.W.isNs_of_in X hok)
   · cases q
 · cases q
theorem xOk_exc {K:PySem.W.Frag} {C:Addr} (h:xOk K C=true):ExcK K C:=by
 unfold xOk at h
 simp only [Bool.and_eq_true,beq_iff_eq] at h
 exact ⟨h.1.1.1.1.1.2,h.1.1.1.1.2,h.1.1.1.2,h.1.1.2,h.1.2,h.2⟩
set_option tactic.hygienic true in
theorem xSub_under {K:PySem.W.Frag} {D C:Addr} (h:xOk K D=true) (hs:xSub K D C=true):UnderX K D C:=by
 obtain ⟨bm,N,nm,q,bs,hdct,sn,sub,ab,col,dd,k0,k1,k2,k3,k5,mN,hni,OX⟩:=(xOk_own h).ex
 intro h' X
 obtain ⟨o1,_,_⟩:=OX h' X
 refine ⟨bm,N,nm,q,bs,hdct,sn,sub,ab,col,dd,k0,k1,k2,k3,k5,_,o1,?_⟩
 unfold xSub at hs
 split at hs
 · rename_i ho
   have z:=(X _ _ ho).symm.trans o1
   injection z with z
   injection z with z1 z2 z3 z4
   injection z3 with z3
   rw [z3] at hs
   exact hs
 · cases hs
end L2
namespace L2
open PySem PySem.Spec PyProof.Rows
section
variable {P:Program} {w:World} {K:PySem.W.Frag} {mg:Str→Option Value} {base:Heap}
theorem Fun.okE' {x qual:Str} {st:Stmt} {f:Addr} {fd:FuncData} {N ps:List Str} {k:Nat} {Pm:List PyData→(Dt→Prop)→(Addr→Prop)→Prop} (F:Fun K x qual st f fd) (S:FnScope N ps (defScope st)) (len: ∀ds RS W,Pm ds RS W→ds.length=ps.length)
 (hT: ∀W:Addr→Prop,∃T:Ds,(∀ (cdv:Value) (A:Around) (outer:List Env) (s:Shared) (H:Hp) (E:XK),(∀ c H',W c→Same H H'→E (.ref c) none H')→Room k (A.deeper (envOfC qual (defScope st) s.heap.objs.size f cdv))→DSs H K (fun _:Unit=>cxE P w K mg base N qual (defScope st) f cdv A outer s H E) (defBody st) T)∧
   ∀ds RS,Pm ds RS W→T {nx:=fun q_=>RS (.d .none),rt:=RS} (startD N.length ds)):FnOk P w K mg base (CXE P w) (k + 1) f fd ps (spE K Pm):=by
 refine F.okE (T:=fun W=>(hT W).choose) S len (fun cdv A outer s H E W hW hr=>(hT W).choose_spec.1 cdv A outer s H E hW hr) fun ds RS W h=>(hT W).choose_spec.2 ds RS h
theorem wishE_mk {He:Hp} {W:Addr→Prop}: ∀c H',W c→Same He H'→wishE He W (.ref c) none H':=fun c H' h s=>⟨c,rfl,h,s⟩
theorem Fun.okT' {x qual:Str} {st:Stmt} {f:Addr} {fd:FuncData} {N ps:List Str} {k:Nat} {Pm:List PyData→(Dt→Prop)→Prop} {Pb:(Addr→Prop)→List PyData→(Dt→Prop)→Prop} {TS:Ds} {c n:Str} {np hp pos:Pos} {body suite:List Stmt} {b₀:Stmt} {C:Addr} {ie:Nat}
 (F:Fun K x qual st f fd) (S:FnScope N ps (defScope st)) (len: ∀ds RS,Pm ds RS→ds.length=ps.length)
 (hst:defBody st=[.Try body [.ExceptHandler (some (.Name c np)) (some n) (b₀::suite) hp] [] [] pos]) (hi:N[ie]?=some n) (hlo:(defScope st).names.lookup n=some .local) (hm:mg c=some (.ref C)) (hC:OwnX K C)
 (hg: ∀(cdv:Value) (A:Around) (outer:List Env) (s:Shared) (H:Hp) (E:XK) (a:Addr),Gl (inSuite (cxOf CX0 P w K mg base N qual (defScope st) f cdv A outer s H E) a) c)
 (hT: ∀W:Addr→Prop,∃T:Ds,(∀ (cdv:Value) (A:Around) (outer:List Env) (s:Shared) (H:Hp) (E:XK),Room k (A.deeper (envOfC qual (defScope st) s.heap.objs.size f cdv))→
   DSs H K (fun _:Unit=>(cxOf CX0 P w K mg base N qual (defScope st) f cdv A outer s H E).wish (inTry (cxOf CX0 P w K mg base N qual (defScope st) f cdv A outer s H E) H W)) body T)∧∀ds RS,Pb W ds RS→T {nx:=fun q_=>RS (.d .none),rt:=RS} (startD N.length ds))
 (hS: ∀(cdv:Value) (A:Around) (outer:List Env) (s:Shared) (H:Hp) (E:XK) (a:Addr),Room k (A.deeper (envOfC qual (defScope st) s.heap.objs.size f cdv))→
   DSs H K (fun _:Unit=>inSuite (cxOf CX0 P w K mg base N qual (defScope st) f cdv A outer s H E) a) (b₀::suite) TS)
 (hR: ∀ds RS,Pm ds RS→∃W,Pb W ds RS∧∀D,W D→UnderX K D C∧TS {nx:=fun q_=>RS (.d .none),rt:=RS} ((List.replicate N.length .un).set ie (.d (excD D))))
 (hd:autoParam ((c == ("__debug__":Str))=false) u2._auto_1):FnOk P w K mg base CX0 (k + 1) f fd ps (spG K Pm):=
 F.okT (T:=fun W=>(hT W).choose) S len hst hi hlo hm hC hg (fun cdv A outer s H E W hr=>(hT W).choose_spec.1 cdv A outer s H E hr) hS (fun ds RS h=>by
  obtain ⟨W,h1,h2⟩:=hR ds RS h
  exact ⟨W,(hT W).choose_spec.2 ds RS h1,h2⟩) hd
end
structure XC (K:PySem.W.Frag) (mg:Str→Option Value) (nm:Str) (c:Addr):Prop where
 a:clsA K nm c
 m:mg nm=some (.ref c)
 ok:xOk K c=true
theorem XC.own {K:PySem.W.Frag} {mg:Str→Option Value} {nm:Str} {c:Addr} (h:XC K mg nm c):OwnX K c:=xOk_own h.ok
theorem XC.exc {K:PySem.W.Frag} {mg:Str→Option Value} {nm:Str} {c:Addr} (h:XC K mg nm c):ExcK K c:=xOk_exc h.ok
theorem XC.is {K:PySem.W.Frag} {mg:Str→Option Value} {nm:Str} {c d:Addr} (h:XC K mg nm c) (z:clsA K nm d):d=c:=clsA_inj z h.a
end L2
set_option Elab.async false
set_option linter.all false
set_option maxRecDepth 100000
namespace L2
open PySem PySem.Spec PyProof.Rows
theorem LeftK.trans {fs:List Addr} {h0:Heap} {H:Hp} {h1 h2 h3:Heap} (a:LeftK fs h0 H h1 h2) (b:LeftK fs h0 H h2 h3):LeftK fs h0 H h1 h3:=by
 refine ⟨fun c o e w hf=>b.keep c o (a.keep c o e w hf) w hf,fun c o e hf=> ?_⟩
 obtain ⟨sl,e1⟩:=a.slot c o e hf
 obtain ⟨sl2,e2⟩:=b.slot c _ e1 hf
 exact ⟨sl2,e2⟩
inductive Lk (h:Heap):Addr→Addr→Prop
 | refl (a:Addr):Lk h a a
 | step {a b c:Addr} {o:Obj} {vs:Array Value}:h.get? a=some o→o.data= .fields vs→vs[2]?=some (.ref c)→Lk h c b→Lk h a b
theorem Lk.snoc {h:Heap} {a b c:Addr} {o:Obj} {vs:Array Value} (l:Lk h a b) (e:h.get? b=some o) (d:o.data= .fields vs) (z:vs[2]?=some (.ref c)):Lk h a c:=by
 induction l with
 | refl=>exact .step e d z (.refl _)
 | step e1 d1 z1 _ ih=>exact .step e1 d1 z1 (ih e)
theorem Ch.there {h:Heap} {a:Addr} (c:Ch h a): ∃o,h.get? a=some o:=by
 cases c with
 | nil e _ _=>exact ⟨_,e⟩
 | cons e _ _ _=>exact ⟨_,e⟩
theorem entry_unchain:entryFor table "proto.unchain"=some Builtin.«proto.unchain» :=entryFor_of_fast (by kernel_rfl)
section
variable {prog:Program} {w:World} {A:Around} {E:Value→Shared→Prop}
theorem unchain {hp:Heap} {v o:Addr} (hv:hp.get? v=none) (c:Ch hp o): ∀(A:Around) (slow:Addr) (t:Bool) (s:Shared) (R:Result→Shared→Prop),Lk hp slow o→(∀ b u,hp.get? b=some u→s.heap.get? b=some u)→R (.ok (.ret .none)) s→
 codeAny (model prog w) A (.builtin "proto.unchain" ⟨[.ref v,.ref o,.ref slow,.bool t],[]⟩) R s:=by
 induction c with
 | @nil a ob vs e d z=>
   intro A slow t s R l k hR
   refine codeAny_builtin entry_unchain ?_
   unfold Builtin.«proto.unchain»
   refine wpAny_bind (wpAny_field (k _ _ e) d z ?_)
   rw [if_pos (by decide)]
   exact wpAny_pure hR
 | @cons a b ob vs e d z cb ih=>
   intro A slow t s R l k hR
   have nb:b≠v:=fun q=>by
    obtain ⟨u,y⟩:=cb.there
    rw [q,hv] at y;cases y
   refine codeAny_builtin entry_unchain ?_
   unfold Builtin.«proto.unchain»
   refine wpAny_bind (wpAny_field (k _ _ e) d z ?_)
   rw [if_neg (by simp)]
   rw [if_neg (by simpa using nb)]
   by_cases q:b=slow
   · rw [if_pos (by simp [q])]
     exact wpAny_bind (wpAny_rule (wpAny_pure hR))
   rw [if_neg (by simpa using q)]
   cases t with
   | false=>
     refine wpAny_bind (wpAny_pure ?_)
     exact wpAny_pure ⟨Code.quiet_builtin _ (by decide +kernel),ih _ slow _ s R (l.snoc e d z) k hR⟩
   | true=>
     cases l with
     | refl=>
       refine wpAny_bind (wpAny_field (k _ _ e) d z ?_)
       exact wpAny_pure ⟨Code.quiet_builtin _ (by decide +kernel),ih _ b _ s R (.refl _) k hR⟩
     | step e1 d1 z1 l1=>
       refine wpAny_bind (wpAny_field (k _ _ e1) d1 z1 ?_)
       exact wpAny_pure ⟨Code.quiet_builtin _ (by decide +kernel),ih _ _ _ s R (l1.snoc e d z) k hR⟩
end
section
variable {X:Cx} {pins:List (Addr×Obj)} {σ:St} {H:Hp} {s:Shared} {C:Addr} {x:Str} {np cpos pos mp pp:Pos} {msg:Str} {jj kk:Nat} {Q:Value→Shared→Prop} {E:Value→Shared→Prop}
theorem eval_exc (O:OwnX X.K C) (I:Inv X pins σ H s) (hg:Gl X x) (hm:X.mg x=some (.ref C)) (hdb:(x == ("__debug__":Str))=false)
 (hs:autoParam (starEach [.Constant (.str msg) jj mp] X.env=[(false,eval (.Constant (.str msg) jj mp) X.env)]) u5._auto_1)
 (k: ∀(tk:Nat) (h':Heap) (e t:Addr),Inv X pins σ H {s with heap:=h',toks:=tk}→s.heap.get? e=none→(∀ b o,s.heap.get? b=some o→h'.get? b=some o)→h'.get? e=some {cls:= .ref C,data:= .fields #[.ref t,.none,.none,.none,.bool false,.none]}→Q (.ref e) {s with heap:=h',toks:=tk}):
 wpAny (model X.prog X.w) X.A (eval (.Call (.Name x np) [.Constant (.str msg) jj mp] [] cpos) X.env) Q E s:=by
 obtain ⟨bm,N',nm,q,bs,hdct,sn,sub,ab,col,dd,k0,k1,k2,k3,k5,mN,hni,OX⟩:=O.ex
 refine wpAny_Call_ofName (ld_glob I hg hm ?_ hdb)
 have I1:Inv X pins σ H {s with toks:=s.toks + 1}:=I.tok _
 obtain ⟨hC,hN,T⟩:=OX _ I1.kIn
 unfold callWith
 have hb:backTo cpos (starEach [.Constant (.str msg) jj mp] X.env)=[(false,eval (.Constant (.str msg) jj mp) X.env)]:=by rw [hs];rfl
 rw [hb]
 refine wpAny_bind (wpAny_holding (Calls.evalArgs_plain (Calls.spliced_cons (Calls.Constant_str (Calls.spliced_nil (wpAny_bind (wpAny_standAt ?_)))))))
 refine wpAny_bind (wpAny_keeperOf_exc hC ?_)
 obtain ⟨hp,g,d,tk,os⟩:=s
 refine wpAny_bind (wpAny_call_exc_subU (hrest:=by show 1≤sizeLine;decide) PySem.F.excBase_ValueError (by decide +kernel) PySem.F.excBase_ValueError T hC hN hni fun h' e hm=>wpAny_bind (wpAny_holding (wpAny_point (wpAny_pure ?_))))
 obtain ⟨t,ht,_,_⟩:=hm.there
 exact k _ h' e t (I1.kept (t':=tk + 1) hm.keeps) hm.new hm.keeps ht
set_option maxHeartbeats 2000000 in
theorem raise_in {a:Addr} {env:Env} {Q':Flow→Shared→Prop} (he:X.env=env) (O:OwnX X.K C) (I:Inv X pins σ H s) (hA:X.A.handled=some (.ref a)) (ha:Ch s.heap a) (hg:Gl X x) (hm:X.mg x=some (.ref C)) (hdb:(x == ("__debug__":Str))=false)
 (hs:autoParam (starEach [.Constant (.str msg) jj mp] X.env=[(false,eval (.Constant (.str msg) jj mp) X.env)]) u5._auto_1)
 (k: ∀(tk:Nat) (h1 h':Heap) (e:Addr) (oe:Obj) (vs:Array Value) (a0:Value),Inv X pins σ H {s with heap:=h1,toks:=tk}→s.heap.get? e=none→(∃ o ws,h1.get? e=some o∧o.data= .fields ws)→Heap.SameBut e h1 h'→h'.get? e=some oe→oe.cls= .ref C→oe.data= .fields vs→vs[0]?=some a0→vs[1]?=some .none→Ch h' e→E (.ref e) {s with heap:=h',toks:=tk}):
 wpAny (model X.prog X.w) X.A (exec (.Raise (some (.Call (.Name x np) [.Constant (.str msg) jj mp] [] cpos)) (some (.Constant .none kk pp)) pos) env) Q' E s:=by
 subst he
 obtain ⟨bm,N',nm,q,bs,hdct,sn,sub,ab,col,dd,k0,k1,k2,k3,k5,mN,hni,OX⟩:=O.ex
 rw [arm_exec_Raise]
 refine wpAny_bind (wpAny_standAt ?_)
 unfold raiseStmt
 show wpAny _ _ (bind (bind (eval (.Call (.Name x np) [.Constant (.str msg) jj mp] [] cpos) X.env) _) _) _ _ s
 refine wpAny_bind (wpAny_bind (eval_exc O I hg hm hdb hs fun tk h1 e t I1 en kp ee=>wpAny_bind (wpAny_standAt (wpAny_pure ?_))))
 obtain ⟨hC,hN,T⟩:=OX _ I1.kIn
 have hbase:=T.hasType (PySem.F.excBase_ValueError.hasBase)
 have hcB:(Value.ref C::bm).contains (.type "BaseException")=true:=by rw [List.contains_cons,hbase,Bool.or_true]
 obtain ⟨hp,g,d,tk0,os⟩:=s
 dsimp only at ee hC kp en ⊢
 repeat (first | with_reducible refine wpAny_loadPart_at ee ?_ | with_reducible refine wpAny_loadPart_at hC ?_ | (with_reducible refine wpAny_isSubtype_exc hC ?_;rw [hcB]) | wp_step)
 have neC:e≠C:=fun z=>by
  obtain ⟨hC0,_,_⟩:=OX _ I.kIn
  rw [← z] at hC0
  rw [en] at hC0;cases hC0
 have nea:a≠e:=fun z=>by
  obtain ⟨u,y⟩:=ha.there
  rw [z] at y
  rw [en] at y;cases y
 have hC2:((h1.update e (Obj.mapFields fun x=>x.setIfInBounds 3 Value.none)).update e (Obj.mapFields fun x=>x.setIfInBounds 4 (Value.bool true))).get? C=some (excClassObj nm q C N' bs bm hdct sn sub ab col dd k0 k1 k2 k3 k5 "ValueError.__new__"):=by
  rw [Heap.get?_update_other _ _ neC,Heap.get?_update_other _ _ neC];exact hC
 have d3:=Obj.data_mapFields (o:={cls:= .ref C,data:= .fields #[.ref t,.none,.none,.none,.bool false,.none]}) rfl (fun z=>z.setIfInBounds 3 Value.none)
 have e3:=Heap.get?_update_self (Obj.mapFields fun z=>z.setIfInBounds 3 Value.none) ee (Obj.isFreed_of_fields d3)
 have d4:=Obj.data_mapFields d3 (fun z=>z.setIfInBounds 4 (Value.bool true))
 have e4:=Heap.get?_update_self (Obj.mapFields fun z=>z.setIfInBounds 4 (Value.bool true)) e3 (Obj.isFreed_of_fields d4)
 have kp2: ∀b u,hp.get? b=some u→((h1.update e (Obj.mapFields fun x=>x.setIfInBounds 3 Value.none)).update e (Obj.mapFields fun x=>x.setIfInBounds 4 (Value.bool true))).get? b=some u:=fun b u hb=>by
  have nb:e≠b:=fun z=>by rw [← z] at hb;rw [en] at hb;cases hb
  rw [Heap.get?_update_other _ _ nb,Heap.get?_update_other _ _ nb];exact kp b u hb
 repeat (first | with_reducible refine wpAny_loadPart_at hC2 ?_ | wp_step)
 unfold raiseNew
 refine wpAny_bind (wpAny_handled ?_)
 rw [hA]
 dsimp only
 rw [if_pos (by simpa using nea)]
 refine wpAny_bind (wpAny_holding (wpAny_runValue (unchain (hp:=hp) en ha _ a false _ _ (.refl a) kp2 ?_)))
 have d5:=Obj.data_mapFields d4 (fun z=>z.setIfInBounds 2 (Value.ref a))
 have e5:=Heap.get?_update_self (Obj.mapFields fun z=>z.setIfInBounds 2 (Value.ref a)) e4 (Obj.isFreed_of_fields d5)
 refine wpAny_bind ?_
 unfold updateField
 refine wpAny_bind (wpAny_load e4 ?_)
 rw [d4]
 dsimp only
 rw [if_pos (by simp)]
 refine wpAny_update e4 (wpAny_throw ?_)
 have sb:=((Heap.SameBut.update h1 e (Obj.mapFields fun z=>z.setIfInBounds 3 Value.none)).trans (Heap.SameBut.update _ e (Obj.mapFields fun z=>z.setIfInBounds 4 (Value.bool true)))).trans (Heap.SameBut.update _ e (Obj.mapFields fun z=>z.setIfInBounds 2 (Value.ref a)))
 refine k tk h1 _ e _ _ (.ref t) I1 en ⟨_,_,ee,rfl⟩ sb e5 (by rw [Obj.cls_mapFields,Obj.cls_mapFields,Obj.cls_mapFields]) d5 rfl rfl (.cons e5 d5 rfl ?_)
 refine ha.to (F2.keeps fun b u hb=> ?_)
 have nb:b≠e:=fun z=>by rw [z] at hb;rw [en] at hb;cases hb
 exact (sb.2 b nb).trans (kp b u hb)
end
end L2
set_option Elab.async false
set_option linter.all false
set_option maxRecDepth 100000
namespace L2
open PySem PySem.Spec PyProof.Rows
section
variable {P:Program} {w:World} {K:PySem.W.Frag} {mg:Str→Option Value} {base:Heap} {N:List Str} {qual:Str} {scope:Scope} {f:Addr} {cd:Value} {A:Around} {outer:List Env} {s:Shared} {H:Hp} {E:XK} {x c:Str} {C D:Addr} {np np2 cpos rpos hpos pos mp pp:Pos} {msg:Str} {jj kk:Nat} {W:Addr→Prop} {body:List Stmt} {t:Ds}
set_option maxHeartbeats 4000000 in
theorem ds_tryR (hC:OwnX K C) (hmc:mg c=some (.ref C)) (hD:OwnX K D) (hmd:mg x=some (.ref D)) (hE: ∀c H',W c→Same H H'→E (.ref c) none H')
 (hb:DSs H K (fun _:Unit=>(cxE P w K mg base N qual scope f cd A outer s H E).wish (inTry (cxE P w K mg base N qual scope f cd A outer s H E) H fun B=>UnderX K B C∧W D)) body t)
 (hg:autoParam (Gl (cxE P w K mg base N qual scope f cd A outer s H E) c) u5._auto_1) (hg2:autoParam (Gl (cxE P w K mg base N qual scope f cd A outer s H E) x) u5._auto_1) (hdb:autoParam ((c == ("__debug__":Str))=false) u2._auto_1) (hdb2:autoParam ((x == ("__debug__":Str))=false) u2._auto_1)
 (hs:autoParam (starEach [.Constant (.str msg) jj mp] (cxE P w K mg base N qual scope f cd A outer s H E).env=[(false,eval (.Constant (.str msg) jj mp) (cxE P w K mg base N qual scope f cd A outer s H E).env)]) u5._auto_1):
 DS H K (fun _:Unit=>cxE P w K mg base N qual scope f cd A outer s H E) (.Try body [.ExceptHandler (some (.Name c np)) none [.Raise (some (.Call (.Name x np2) [.Constant (.str msg) jj mp] [] cpos)) (some (.Constant .none kk pp)) rpos] hpos] [] [] pos) t:=by
 obtain ⟨ts,t1,t2⟩:=hb
 refine ⟨ts,fun q_=> ?_,t2⟩
 intro pins s1 σ H1 Dn I h
 refine wpAny_Try_except ?_
 refine wpAny_mono (t1 () pins s1 σ H1 Dn (I.wish _) h) (fun fl s2 q=> ?_) fun e s2 q=> ?_
 · have q:=q.unwish
   cases fl with
   | next=>exact wpAny_execs_nil q
   | ret v=>exact q
   | brk=>exact q
   | cont=>exact q
 obtain ⟨a,B,H',σ',rfl,I2,xt,⟨hU,hW⟩,sm⟩:=q
 have xt':=xt
 obtain ⟨oe,vs,a0,T,oT,ts',x1,x2,x3,x4,x5,x6,x7,x8,x9,x10,x11,x12,x13⟩:=xt'
 have fr: ∀b,s2.heap.get? b=none→s.heap.get? b=none∧H' b=none:=fun b hb=>⟨there_of I2 hb,I2.hok.gone hb⟩
 refine note_frame (base:=base) I2.ok.frames I2.stack rfl rfl ⟨oe,vs,x1,x4,x5⟩ (.inr ⟨T,.none,rfl,x6,⟨oT,ts',x7,x8,x9⟩⟩) fun h1 T1 tn1 te1 n1 xr1 tb1=> ?_
 have hxs: ∀b∈[a,T],s2.heap.get? b=none∨(s.heap.get? b=none∧H' b=none∧∃o vs,s2.heap.get? b=some o∧o.data= .fields vs):=fun b hb=>by
  rcases List.mem_cons.mp hb with z | z
  · subst z;exact .inr ⟨x10,x11,oe,vs,x1,x4⟩
  · have:=List.mem_singleton.mp z
    subst this
    exact .inr ⟨x12,x13,oT,ts',x7,x8⟩
 have hT1:s2.heap.get? T1=none∨(s.heap.get? T1=none∧H' T1=none∧∃o vs,s2.heap.get? T1=some o∧o.data= .fields vs):=by
  rcases tn1 with z | z
  · exact .inl z
  · cases z;exact hxs T (by simp)
 have rc: ∀{xs:List Addr},(∀ b∈xs,s2.heap.get? b=none∨(s.heap.get? b=none∧H' b=none∧∃o vs,s2.heap.get? b=some o∧o.data= .fields vs))→∀b∈xs,∀o,s2.heap.get? b=some o→∃vs,o.data= .fields vs:=fun hx b hb o ho=>by
  rcases hx b hb with z | ⟨_,_,o',vs',z1,z2⟩
  · rw [z] at ho;cases ho
  · rw [ho] at z1;cases z1;exact ⟨vs',z2⟩
 refine set_flight (base:=base) (s:={s2 with heap:=h1}) (n1.funs (rc hxs) I2.stack) te1 xr1 tb1 fun h2 n2 xr2 tb2=> ?_
 have n12:=n1.trans n2
 have hx12: ∀b∈[a,T]++[T1],s2.heap.get? b=none∨(s.heap.get? b=none∧H' b=none∧∃o vs,s2.heap.get? b=some o∧o.data= .fields vs):=fun b hb=>by
  rcases List.mem_append.mp hb with z | z
  · exact hxs b z
  · rw [List.mem_singleton.mp z];exact hT1
 have no: ∀(i:Nat) v,(List.replicate σ'.length (none:Option V))[i]?=some (some v)→False:=fun i v z=>by
  rw [List.getElem?_replicate] at z
  split at z <;> cases z
 have land: ∀{xs:List Addr} {h':Heap},Nt (frs (cxE P w K mg base N qual scope f cd A outer s H E).stack) xs s2.heap h'→(∀ b∈xs,s2.heap.get? b=none∨(s.heap.get? b=none∧H' b=none∧∃o vs,s2.heap.get? b=some o∧o.data= .fields vs))→
  Inv (cxE P w K mg base N qual scope f cd A outer s H E) [] (List.replicate σ'.length none) (upd H' a (.ext (xPhi a B))) {s2 with heap:=h'}:=fun {xs h'} n hx=>by
  obtain ⟨o',vs',z1,z2,_,z4,_⟩:=n.f2 a oe vs x1 x4
  exact I2.landed rfl rfl xt (nt_left n hx fr) ⟨o',z1,z4.trans x2⟩ (by rw [List.length_replicate]) no
 have I3:=land n12 hx12
 obtain ⟨oa,va,ea,da,_,ca,_⟩:=n12.f2 a oe vs x1 x4
 obtain ⟨bm,N',nm,q,bs,hdct,sn,sub,ab,col,dd,k0,k1,k2,k3,k5,mN,hni,OX⟩:=hC.ex
 obtain ⟨c1,_,c3⟩:=OX h2 I3.kIn
 obtain ⟨bm',N2,nm',q',bs',hdct',sn',sub',ab',col',dd',k0',k1',k2',k3',k5',newId',d1,d2⟩:=hU h2 I3.kIn
 refine wpAny_handleBy_cons (codeAny_handlers_test (ld_glob (X:=inSuite (cxE P w K mg base N qual scope f cd A outer s H E) a) I3.suite hg hmc ?_ hdb)) (by intro q;cases q)
 refine excMatches_sub c1 d1 ea (ca.trans x2) (c3.hasType (by decide)) d2 (codeAny_handlers_suite ?_)
 refine set_flight (base:=base) (env:=(cxE P w K mg base N qual scope f cd A outer s H E).env) (outer:=outer) (s:={s2 with heap:=h2}) (n12.funs (rc hx12) I2.stack) te1 xr2 tb2 fun h3 n3 xr3 tb3=> ?_
 have n123:=n12.trans n3
 have hx123: ∀b∈([a,T]++[T1])++[T1],s2.heap.get? b=none∨(s.heap.get? b=none∧H' b=none∧∃o vs,s2.heap.get? b=some o∧o.data= .fields vs):=fun b hb=>by
  rcases List.mem_append.mp hb with z | z
  · exact hx12 b z
  · rw [List.mem_singleton.mp z];exact hT1
 have I4:=land n123 hx123
 have ok:=I4.ok
 refine wpAny_execs_cons (raise_in (X:=inSuite (cxE P w K mg base N qual scope f cd A outer s H E) a) rfl hD I4.suite rfl (x3.2.to n123.f2) hg2 hmd hdb2 hs fun tk h4 h5 e2 oe2 vs2 a02 I5 en em sb ee2 hc2 hd2 hv2 h12 ch2=> ?_)
 obtain ⟨om,wm,em1,em2⟩:=em
 have I6:=I5.unsuite ok
 have hH5:upd H' a (.ext (xPhi a B)) e2=none:=I4.hok.gone en
 have hs5:s.heap.get? e2=none:=there_of I4 en
 have fr4: ∀b,h4.get? b=none→s.heap.get? b=none∧upd H' a (.ext (xPhi a B)) b=none:=fun b hb=>⟨there_of I6 hb,I6.hok.gone hb⟩
 have fr5: ∀b,h5.get? b=none→s.heap.get? b=none∧upd H' a (.ext (xPhi a B)) b=none:=fun b hb=>fr4 b (by
  by_cases z:b=e2
  · subst z;rw [ee2] at hb;cases hb
  · rw [← sb.2 b z];exact hb)
 have l45:LeftK (frs (cxE P w K mg base N qual scope f cd A outer s H E).stack) s.heap (upd H' a (.ext (xPhi a B))) h4 h5:=by
  have ne: ∀b o,h4.get? b=some o→(upd H' a (.ext (xPhi a B)) b≠none∨s.heap.get? b≠none∨∀vs,o.data≠ .fields vs)→b≠e2:=fun b o eb hc z=>by
   subst z
   rw [em1] at eb
   cases eb
   rcases hc with y | y | y
   · exact y hH5
   · exact y hs5
   · exact y wm em2
  refine ⟨fun b o eb hc q_=>(sb.2 b (ne b o eb hc)).trans eb,fun b o eb hf=>⟨o.slots,?_⟩⟩
  obtain ⟨u,z1,z2⟩:=FunFrames.noFields I6.stack b hf
  rw [eb] at z1
  cases z1
  exact (sb.2 b (ne b o eb (.inr (.inr z2)))).trans eb
 have fun5:h5.FunFrames base (cxE P w K mg base N qual scope f cd A outer s H E).stack:=I6.stack.of_keeps fun b o hb hnf=>⟨o,(sb.2 b (fun z=>by subst z;rw [em1] at hb;cases hb;exact hnf wm em2)).trans hb,rfl⟩
 unfold notedBy
 refine note_frame (base:=base) (env:=(cxE P w K mg base N qual scope f cd A outer s H E).env) (outer:=outer) (s:={s2 with heap:=h5,toks:=tk}) I6.ok.frames fun5 rfl rfl ⟨oe2,vs2,ee2,hd2,h12⟩ (.inl rfl) fun h6 T2 tn2 te2 n6 xr6 tb6=> ?_
 have hx6: ∀b∈[e2],h5.get? b=none∨(s.heap.get? b=none∧upd H' a (.ext (xPhi a B)) b=none∧∃o vs,h5.get? b=some o∧o.data= .fields vs):=fun b hb=>by
  rw [List.mem_singleton.mp hb]
  exact .inr ⟨hs5,hH5,oe2,vs2,ee2,hd2⟩
 have tn2:h5.get? T2=none:=by
  rcases tn2 with z | z
  · exact z
  · cases z
 have fun6:=n6.funs (fun b hb o ho=>by
  rw [List.mem_singleton.mp hb] at ho
  have ho:h5.get? e2=some o:=ho
  rw [ee2] at ho;cases ho;exact ⟨vs2,hd2⟩) fun5
 obtain ⟨oe6,vs6,z1,z2,z3,z4,z5⟩:=rec_to n6.f2 ee2 hc2 hd2 hv2 ch2 xr6
 show cameBackBy _ _ _ _ _ _
 unfold cameBackBy
 refine wpAny_bind (wpAny_field z1 z4 z5 ?_)
 rw [if_neg (by simp)]
 refine set_flight (base:=base) (env:=(cxE P w K mg base N qual scope f cd A outer s H E).env) (outer:=outer) (s:={s2 with heap:=h6,toks:=tk}) fun6 te2 xr6 tb6 fun h7 n7 xr7 tb7=> ?_
 have n67:=n6.trans n7
 have hx67: ∀b∈[e2]++[T2],h5.get? b=none∨(s.heap.get? b=none∧upd H' a (.ext (xPhi a B)) b=none∧∃o vs,h5.get? b=some o∧o.data= .fields vs):=fun b hb=>by
  rcases List.mem_append.mp hb with z | z
  · exact hx6 b z
  · rw [List.mem_singleton.mp z];exact .inl tn2
 have l57:=nt_left (s:={s2 with heap:=h5,toks:=tk}) (h0:=s.heap) (H:=upd H' a (.ext (xPhi a B))) n67 hx67 fr5
 obtain ⟨oe7,vs7,y1,y2,y3,y4,y5⟩:=rec_to n67.f2 ee2 hc2 hd2 hv2 ch2 xr7
 have fun7:=n67.funs (fun b hb o ho=>by
  rcases hx67 b hb with z | ⟨_,_,o',vs',q1,q2⟩
  · rw [z] at ho;cases ho
  · rw [ho] at q1;cases q1;exact ⟨vs',q2⟩) fun5
 have fr7: ∀b,h7.get? b=none→s.heap.get? b=none∧upd H' a (.ext (xPhi a B)) b=none:=fun b hb=>by
  refine fr5 b ?_
  cases q:h5.get? b with
  | none=>rfl
  | some o=>
    by_cases m:b∈frs (cxE P w K mg base N qual scope f cd A outer s H E).stack
    · obtain ⟨sl,z⟩:=n67.slot b o q m
      rw [hb] at z;cases z
    · by_cases m2:b∈[e2]++[T2]
      · rcases hx67 b m2 with z | ⟨_,_,o',vs',q1,q2⟩
        · rw [z] at q;cases q
        · obtain ⟨o3,_,z,_⟩:=n67.f2 b o' vs' q1 q2
          rw [hb] at z;cases z
      · rw [n67.keep b o q m m2] at hb;cases hb
 obtain ⟨hT1',hT2'⟩:=fr5 T2 tn2
 refine leave_rec (base:=base) (h0:=s.heap) (H:=upd H' a (.ext (xPhi a B))) (s:={s2 with heap:=h7,toks:=tk}) I6.ok.frames fun7 rfl y1 y2 y4 y3.1 y3.2 y5 (.inr ⟨T2,_,rfl,te2,tb7,hT1',hT2'⟩) ⟨hs5,hH5⟩ fr7 fun h8 l78 x8=> ?_
 have fin:=left_end I6 (l45.trans (l57.trans l78)) x8 (hE D _ hW (sm.trans (Same.new x11)))
 exact fin
end
end L2
set_option Elab.async false
set_option linter.all false
set_option maxRecDepth 100000
namespace L2
open PySem PySem.Spec PyProof.Rows
structure LeftY (fs:List Addr) (h0:Heap) (H:Hp) (h h':Heap):Prop where
 keep: ∀b o,h.get? b=some o→(H b≠none∨h0.get? b≠none)→b ∉ fs→h'.get? b=some o
 slot: ∀b o,h.get? b=some o→b∈fs→∃sl,h'.get? b=some {o with slots:=sl}
theorem LeftK.y {fs:List Addr} {h0:Heap} {H:Hp} {h h':Heap} (l:LeftK fs h0 H h h'):LeftY fs h0 H h h':=⟨fun b o e w hf=>l.keep b o e (w.imp id .inl) hf,l.slot⟩
theorem LeftY.trans {fs:List Addr} {h0:Heap} {H:Hp} {h1 h2 h3:Heap} (a:LeftY fs h0 H h1 h2) (b:LeftY fs h0 H h2 h3):LeftY fs h0 H h1 h3:=by
 refine ⟨fun c o e w hf=>b.keep c o (a.keep c o e w hf) w hf,fun c o e hf=> ?_⟩
 obtain ⟨sl,e1⟩:=a.slot c o e hf
 obtain ⟨sl2,e2⟩:=b.slot c _ e1 hf
 exact ⟨sl2,e2⟩
section
variable {P:Program} {w:World} {K:PySem.W.Frag} {mg:Str→Option Value} {base:Heap} {N:List Str} {qual:Str} {scope:Scope} {f:Addr} {cd:Value} {A:Around} {outer:List Env} {s:Shared} {H:Hp} {E:XK}
theorem left_endY {pins:List (Addr×Obj)} {σ:St} {H':Hp} {s':Shared} {a:Addr} {C:Value} {h':Heap} (I:Inv (cxE P w K mg base N qual scope f cd A outer s H E) pins σ H' s') (l:LeftY (frs (cxE P w K mg base N qual scope f cd A outer s H E).stack) s.heap H' s'.heap h') (x:XTr s.heap h' H' a C) (hE:E C none H'):
 CXE P w outer H s E (.ref a) {s' with heap:=h'}:=by
 have hb:=I.base
 have hL: ∀b o,s.heap.get? b=some o→b ∉ frs outer→b ∉ frs (cxE P w K mg base N qual scope f cd A outer s H E).stack:=fun b o e hn z=>by
  have ab:=I.ok.above
  unfold frs at z hn
  rcases I.ok.stk with q | ⟨q,qf⟩
  · rw [q] at z;exact hn z
  · rw [q,List.filterMap_cons,qf] at z
    rcases List.mem_cons.mp z with z | z
    · subst z
      exact absurd (Heap.lt_size e) (Nat.not_lt.mpr ab)
    · exact hn z
 have hS: ∀b,b∈frs outer→b∈frs (cxE P w K mg base N qual scope f cd A outer s H E).stack:=fun b hb=>by
  unfold frs at hb ⊢
  rcases I.ok.stk with q | ⟨q,qf⟩
  · rw [q];exact hb
  · rw [q,List.filterMap_cons,qf];exact List.mem_cons_of_mem _ hb
 refine ⟨a,C,H',rfl,I.os,I.bare,⟨fun b o e n hf hx=> ?_,fun b o e n hf hx=> ?_,hb.free,fun b o e hx=> ?_,hb.tups,hb.frzs,hb.tbls⟩,fun b o e=> ?_,x,hE⟩
 · exact l.keep b o (hb.keep b o e n hf hx) (.inr (by rw [e];exact fun z=>by cases z)) (hL b o e hf)
 · obtain ⟨sl,e1⟩:=hb.slot b o e n hf hx
   obtain ⟨sl2,e2⟩:=l.slot b _ e1 (hS b hf)
   exact ⟨sl2,e2⟩
 · obtain ⟨o',e1⟩:=hb.there b o e hx
   by_cases hf:b∈frs (cxE P w K mg base N qual scope f cd A outer s H E).stack
   · obtain ⟨sl2,e2⟩:=l.slot b _ e1 hf
     exact ⟨_,e2⟩
   · exact ⟨_,l.keep b o' e1 (.inr (by rw [e];exact fun z=>by cases z)) hf⟩
 · refine (I.hok b o e).stay (fun c u hc q=>l.keep c u q (.inl ?_) fun z=> ?_) (fun q_ q=>q) fun q_ q_ q=>q
   · rcases hc with rfl | hc
     · rw [e];exact fun z=>by cases z
     · rw [hc];exact fun z=>by cases z
   · have hn:=I.stkFree c z
     rcases hc with rfl | hc
     · rw [e] at hn;cases hn
     · rw [hc] at hn;cases hn
end
theorem funsIn {h h' base:Heap}: ∀{l:List Env},h.FunFrames base l→(∀ b∈frs l,∀o,h.get? b=some o→h'.get? b=some o)→h'.FunFrames base l
 | [],_,_=>trivial
 | env::rest,⟨a1,⟨L,o,a2,a3,a4,a5⟩,a6⟩,k=>by
   have e:frs (env::rest)=L::frs rest:=by unfold frs;rw [List.filterMap_cons,a2]
   exact ⟨a1,⟨L,o,a2,a3,k L (by rw [e];exact List.mem_cons_self) o a4,a5⟩,funsIn a6 fun b hb=>k b (by rw [e];exact List.mem_cons_of_mem _ hb)⟩
noncomputable def inComp (X:Cx) (scope:Scope) (N':List Str) (s:Shared) (H:Hp) (fp:List Addr) (He:Hp) (W:Addr→Prop) (e:Value) (s1:Shared):Prop:=
 ∃a D H' σ',e= .ref a∧Inv (cxComp X scope N' s H fp) [] σ' H' s1∧XTr X.s₀.heap s1.heap H' a (.ref D)∧W D∧Same He H'
noncomputable def GoodC (X:Cx) (s:Shared) (fp:List Addr):Prop:=(∀ b,s.heap.get? b=none→X.s₀.heap.get? b=none)∧∀b∈fp,X.s₀.heap.objs.size≤b
theorem pass_comp {X:Cx} {scope:Scope} {N':List Str} {s:Shared} {H:Hp} {fp:List Addr} {He:Hp} {W:Addr→Prop} (G:GoodC X s fp):Passes (CXE X.prog X.w) ((cxComp X scope N' s H fp).wish (inComp X scope N' s H fp He W)) (wishE He W):=by
 intro pins σ H1 s1 e s' I hx
 obtain ⟨a,C,H',rfl,os,bare,un,hok,xt,D,rfl,hW,hS⟩:=hx
 have I2:Inv ((cxComp X scope N' s H fp).wish (inComp X scope N' s H fp He W)) pins σ H' s':=I.call' os un hok bare (fun b z=>by cases z)
 have gone: ∀b,s1.heap.get? b=none→X.s₀.heap.get? b=none:=fun b e=>by
  by_cases hb:b∈fp
  · exact Heap.get?_none_of_le (G.2 b hb)
  · refine G.1 b ?_
    cases q:s.heap.get? b with
    | none=>rfl
    | some o=>
      obtain ⟨o',z⟩:=I.base.there b o q hb
      rw [e] at z;cases z
 obtain ⟨oe,vs,a0,T,oT,ts,x1,x2,x3,x4,x5,x6,x7,x8,x9,x10,x11,x12,x13⟩:=xt
 exact ⟨a,D,H',σ,rfl,I2.unwish.unpin,⟨oe,vs,a0,T,oT,ts,x1,x2,x3,x4,x5,x6,x7,x8,x9,gone _ x10,x11,gone _ x12,x13⟩,hW,hS⟩
section
variable {X:Cx} {scope:Scope} {N':List Str} {s:Shared} {H:Hp} {fp:List Addr}
theorem block_runE {elt tg iter:Expr} {ifs:List Expr} {pos:Pos} {g:TG} {tc:TT} {te:TE} {Q:VK} {R:Result→Shared→Prop} {it:Addr} {J:It} {tn:Nat→Heap→Prop} {D:Addr} {W:Nat→Nat→St→List V→Hp→Prop} {m0:Nat} {σ0:St} {s4:Shared} {H4:Hp} {XE:Value→Shared→Prop}
 (hcalm:X.calm=true) (T:Turn X.prog X.w X.K tg J fp it tn)
 (hg:PG (cxComp X scope N' s H fp) tg g) (hc:PIf (cxComp X scope N' s H fp) ifs tc) (he:PE ((cxComp X scope N' s H fp).wish XE) elt te)
 (turn:lcTurn J g tc te Q D W)
 (I4:Inv (cxComp X scope N' s H fp) [] σ0 H4 s4) (st4:tn 0 s4.heap) (fr4: ∀b∈fp,H4 b=none) (w4:W 0 m0 σ0 [] H4)
 (err: ∀e s',XE e s'→notedBy (model X.prog X.w) X.A (cxComp X scope N' s H fp).env (fun x s''=>R (.error x) s'') e s')
 (fin: ∀σ' H' s',Inv (cxComp X scope N' s H fp) [] σ' H' s'→Q (.ref D) H'→R (.ok .next) s'):
 codeAny (model X.prog X.w) X.A (.compStart (.ListComp elt [⟨tg,iter,ifs,0⟩] scope pos) 0 (.ref it) (.ref D) (cxComp X scope N' s H fp).env) R s4:=by
 have loop:codeAny (model X.prog X.w) X.A (.compLoop (.ListComp elt [⟨tg,iter,ifs,0⟩] scope pos) 0 (.ref it) (.ref D) (cxComp X scope N' s H fp).env) R s4:=by
  have stat: ∀{H':Hp},(∀ b∈fp,H' b=none)→∀b∈fp,FpOk (cxComp X scope N' s H fp) [] H' b:=fun hn b hb=>
   ⟨hn b hb,(I4.ok.exf b hb).1,I4.ok.exfs b hb,.inl hb,(I4.ok.exf b hb).2,fun p hp=>absurd (show p∈([]:List (Addr×Obj)) from hp) (by simp)⟩
  refine codeAny_loop rfl (fun n s'=>∃i σ' acc H',Inv (cxComp X scope N' s H fp) [] σ' H' s'∧tn i s'.heap∧(∀ b∈fp,H' b=none)∧W i n σ' acc H') ?_ m0 ⟨0,σ0,[],H4,I4,st4,fr4,w4⟩
  rintro n s5 ⟨i,σ5,acc,H5,I5,st5,fr5,w5⟩
  show wpAny _ X.A ((compTurn (.ListComp elt [⟨tg,iter,ifs,0⟩] scope pos) 0 (.ref it) (.ref D) (cxComp X scope N' s H fp).env).onRaise (fun x=>do noteFrame x (cxComp X scope N' s H fp).env;theTreesLotGoes x)) _ _ s5
  refine wpAny_noted ?_
  rw [compTurn_list]
  have ex: ∀{E':Value→Shared→Prop} (e:Value) (s':Shared),(cxComp X scope N' s H fp).xe e s'→E' e s':=fun q_ q_ z=>False.elim z
  rcases turn i n σ5 acc H5 w5 with ⟨stop,q⟩ | ⟨go,N,hN,step⟩
  · refine wpAny_bind (wpAny_standAt (wpAny_bind (thn (T.done (cxComp X scope N' s H fp) rfl rfl rfl hcalm i [] s5 σ5 H5 _ I5 (stat fr5) st5 stop) fun r s6 ⟨hr,I6⟩=> ?_)))
    subst hr
    exact wpAny_pure (fin σ5 H5 s6 I6 q)
  · refine wpAny_bind (wpAny_standAt (wpAny_bind (thn (T.item (cxComp X scope N' s H fp) rfl rfl rfl hcalm i [] s5 σ5 H5 _ I5 (stat fr5) st5 go) fun r s6 ⟨u,hr,h6⟩=> ?_)))
    subst hr
    refine wpAny_bind (thn h6 fun _ s7 ⟨x,H7,I7,r7,y7,st7,fr7⟩=> ?_)
    have I7':=I7.pinned (stat fr7) (T.obj _ _ st7)
    refine wpAny_bind (wpAny_mono (hg _ s7 σ5 H7 x u _ I7' r7 (step x H7 y7)) (fun _ s8 ⟨σ8,H8,I8,q8⟩=> ?_) ex)
    refine wpAny_bind (wpAny_mono (hc _ s8 σ8 H8 _ I8 q8) (fun ok s9 ⟨H9,I9,q9⟩=> ?_) ex)
    have again: ∀{s':Shared} {σ':St} {H':Hp} {acc':List V},Inv (cxComp X scope N' s H fp) ([]++pinsAt fp s7.heap) σ' H' s'→N σ' acc' H'→
     ∃m,m < n∧∃i σ' acc H',Inv (cxComp X scope N' s H fp) [] σ' H' s'∧tn i s'.heap∧(∀ b∈fp,H' b=none)∧W i m σ' acc H':=fun {s' σ' H' acc'} J' n'=>by
     obtain ⟨m',hm,w'⟩:=hN σ' acc' H' n'
     refine ⟨m',hm,i + 1,σ',acc',H',J'.unpinned,T.keep _ _ _ st7 fun b hb o e=>(J'.pin (b,o) (List.mem_append_right _ (List.mem_append_right _ (mem_pinsAt hb e)))).1,fun b hb=> ?_,w'⟩
     obtain ⟨o,e,d⟩:=T.obj _ _ st7 b hb
     exact (J'.pin (b,o) (List.mem_append_right _ (List.mem_append_right _ (mem_pinsAt hb e)))).2.1
    cases ok with
    | false=>
      rw [if_neg Bool.false_ne_true] at q9
      exact wpAny_pure ⟨rfl,again I9 q9⟩
    | true=>
      rw [if_pos rfl] at q9
      refine wpAny_bind (wpAny_bind (wpAny_mono (he _ s9 σ8 H9 _ (I9.wish _) q9) (fun y s10 ⟨yv,H10,I10,r10,hD,hz,q10⟩=> ?_) err))
      refine wpAny_bind (wpAny_mono (mt_append (X:=cxComp X scope N' s H fp) _ s10 σ8 H10 (.ref D) [yv] (.ref D) [y] (fun q_ H11=>N σ8 (acc++[yv]) H11) I10.unwish rfl (.cons r10 .nil) ⟨D,acc,yv,rfl,rfl,hD,hz,q10⟩) (fun _ s11 ⟨_,H11,I11,_,q11⟩=> ?_) ex)
      exact wpAny_pure (wpAny_pure ⟨rfl,again I11 q11⟩)
 exact codeAny_compStart_list loop (T.self _ 0 _ _ _ st4 loop)
end
section
variable {P:Program} {w:World} {K:PySem.W.Frag} {mg:Str→Option Value} {base:Heap} {N:List Str} {qual:Str} {fscope:Scope} {f:Addr} {cd:Value} {A:Around} {outer:List Env} {s0:Shared} {H0:Hp} {E0:XK}
variable {scope:Scope} {N':List Str} {js:List (Option Nat)} {elt tg iter:Expr} {ifs:List Expr} {pos:Pos} {wi:TI} {g:TG} {tc:TT} {te:TE} {Wc:Addr→Prop}
set_option maxHeartbeats 4000000 in
theorem comp_out {pins:List (Addr×Obj)} {σ:St} {H3:Hp} {s3:Shared} {fp:List Addr} {use:Option (Value→Sem Unit)} {Q:Value→Shared→Prop} {acc:Value} (I3:Inv (cxE P w K mg base N qual fscope f cd A outer s0 H0 E0) pins σ H3 s3) (f3: ∀b∈fp,FpOk (cxE P w K mg base N qual fscope f cd A outer s0 H0 E0) pins H3 b)
 (hE: ∀c H',Wc c→Same H0 H'→E0 (.ref c) none H') (e:Value) (s':Shared) (hx:inComp (cxE P w K mg base N qual fscope f cd A outer s0 H0 E0) scope N' s3 H3 fp H0 Wc e s'):
 notedBy (model P w) (cxE P w K mg base N qual fscope f cd A outer s0 H0 E0).A (cxComp (cxE P w K mg base N qual fscope f cd A outer s0 H0 E0) scope N' s3 H3 fp).env
  (fun x s''=>compPost (model P w) (cxE P w K mg base N qual fscope f cd A outer s0 H0 E0).A (cxE P w K mg base N qual fscope f cd A outer s0 H0 E0).xe use Q acc s3.heap.objs.size (.error x) s'') e s':=by
 obtain ⟨a,B,H',σ',rfl,I',xt,hW,sm⟩:=hx
 have I5:Inv (cxE P w K mg base N qual fscope f cd A outer s0 H0 E0) pins σ H' s':=Inv.unblock I3 f3 I' (Heap.SameBut.refl ..)
 obtain ⟨oe,vs,a0,T,oT,ts',x1,x2,x3,x4,x5,x6,x7,x8,x9,x10,x11,x12,x13⟩:=xt
 have fr: ∀b,s'.heap.get? b=none→s0.heap.get? b=none∧H' b=none:=fun b hb=>⟨there_of I5 hb,I5.hok.gone hb⟩
 obtain ⟨m,hm,_⟩:=I'.loc
 have hm:s'.heap.Ns s3.heap.objs.size m:=hm
 obtain ⟨oC,esC,epC,eC,dC,rC⟩:=id hm
 have hCf:s3.heap.objs.size ∉ frs (cxE P w K mg base N qual fscope f cd A outer s0 H0 E0).stack:=fun hf=>by
  obtain ⟨_,o,z,_⟩:=I3.stack.mem hf
  exact absurd (Heap.lt_size z) (Nat.lt_irrefl _)
 have hC0:s0.heap.get? s3.heap.objs.size=none:=Heap.get?_none_of_le I3.sz
 have hCH:H' s3.heap.objs.size=none:=I'.free
 have nCa:s3.heap.objs.size≠a:=fun z=>by rw [z] at eC;rw [x1] at eC;cases eC;rw [x4] at dC;cases dC
 have hxs: ∀b∈[a,T],s'.heap.get? b=none∨(s0.heap.get? b=none∧H' b=none∧∃o vs,s'.heap.get? b=some o∧o.data= .fields vs):=fun b hb=>by
  rcases List.mem_cons.mp hb with z | z
  · subst z;exact .inr ⟨x10,x11,oe,vs,x1,x4⟩
  · have:=List.mem_singleton.mp z
    subst this
    exact .inr ⟨x12,x13,oT,ts',x7,x8⟩
 unfold notedBy
 refine note_frame (base:=base) (env:=(cxE P w K mg base N qual fscope f cd A outer s0 H0 E0).env) (outer:=outer) I5.ok.frames I5.stack rfl rfl ⟨oe,vs,x1,x4,x5⟩ (.inr ⟨T,.none,rfl,x6,⟨oT,ts',x7,x8,x9⟩⟩) fun h1 T1 tn1 te1 n1 xr1 tb1=> ?_
 have hT1:s'.heap.get? T1=none∨(s0.heap.get? T1=none∧H' T1=none∧∃o vs,s'.heap.get? T1=some o∧o.data= .fields vs):=by
  rcases tn1 with z | z
  · exact .inl z
  · cases z;exact hxs T (by simp)
 have hT1':s0.heap.get? T1=none∧H' T1=none:=hT1.elim (fun z=>fr T1 z) fun z=>⟨z.1,z.2.1⟩
 have fun1:=n1.funs (fun b hb o ho=>by
  rcases hxs b hb with z | ⟨_,_,o',vs',z1,z2⟩
  · rw [z] at ho;cases ho
  · rw [ho] at z1;cases z1;exact ⟨vs',z2⟩) I5.stack
 have l1:=(nt_left (h0:=s0.heap) (H:=H') n1 hxs fr).y
 have eC1:h1.get? s3.heap.objs.size=some oC:=n1.keep _ _ eC hCf fun z=>by
  rcases List.mem_cons.mp z with z | z
  · exact nCa z
  · have:=List.mem_singleton.mp z
    rw [this] at eC;rw [x7] at eC;cases eC;rw [x8] at dC;cases dC
 refine ⟨m,⟨oC,esC,epC,eC1,dC,rC⟩,fun h2 sb cenv hcl=> ?_⟩
 obtain ⟨oe1,vs1,a1,a2,a3,a4,a5⟩:=rec_to n1.f2 x1 x2 x4 x3.1 x3.2 xr1
 have nC2: ∀b o vs,h1.get? b=some o→o.data= .fields vs→b≠s3.heap.objs.size:=fun b o vs e1 d1 z=>by rw [z,eC1] at e1;cases e1;rw [d1] at dC;cases dC
 have f12:F2 h1 h2:=fun b o vs e1 d1=>⟨o,vs,(sb.2 b (nC2 b o vs e1 d1)).trans e1,d1,rfl,rfl,rfl⟩
 have xr2:XRec h2 a (.ref T1):=by
  obtain ⟨o,vs,z1,z2,z3⟩:=xr1
  exact ⟨o,vs,(sb.2 _ (nC2 _ _ _ z1 z2)).trans z1,z2,z3⟩
 obtain ⟨flv,tb2⟩: ∃fl,TbAt h2 T1 fl:=by
  obtain ⟨o,vs,z1,z2,z3⟩:=tb1
  exact ⟨_,o,vs,(sb.2 _ (nC2 _ _ _ z1 z2)).trans z1,z2,z3⟩
 have l12:LeftY (frs (cxE P w K mg base N qual fscope f cd A outer s0 H0 E0).stack) s0.heap H' h1 h2:=by
  refine ⟨fun b o e1 hw q_=>(sb.2 b (fun z=> ?_)).trans e1,fun b o e1 hf=>⟨o.slots,(sb.2 b (fun z=>hCf (by rw [← z];exact hf))).trans e1⟩⟩
  subst z
  exact hw.elim (fun y=>y hCH) fun y=>y hC0
 have fun2:h2.FunFrames base (cxE P w K mg base N qual fscope f cd A outer s0 H0 E0).stack:=by
  have fr2: ∀b∈frs (cxE P w K mg base N qual fscope f cd A outer s0 H0 E0).stack,b≠s3.heap.objs.size:=fun b hb z=>hCf (by rw [← z];exact hb)
  exact funsIn fun1 fun b hb o e1=>(sb.2 b (fr2 b hb)).trans e1
 unfold PySem.passOn
 refine wpAny_bind (wpAny_field (s:={s' with heap:=h2}) (xr2.choose_spec.choose_spec.1) (xr2.choose_spec.choose_spec.2.1) (xr2.choose_spec.choose_spec.2.2) ?_)
 rw [if_neg (by simp)]
 refine wpAny_bind ?_
 refine set_flight (base:=base) (env:=(cxE P w K mg base N qual fscope f cd A outer s0 H0 E0).env) (outer:=outer) (s:={s' with heap:=h2}) fun2 te1 xr2 tb2 fun h3 n3 xr3 tb3=>wpAny_throw ?_
 obtain ⟨o2,w2,b1,b2,b3,b4,b5⟩:=rec_to f12 a1 a2 a4 a3.1 a3.2 xr2
 obtain ⟨o3,w3,c1,c2,c3,c4,c5⟩:=rec_to n3.f2 b1 b2 b4 b3.1 b3.2 xr3
 have fr2: ∀b,h2.get? b=none→s0.heap.get? b=none∧H' b=none:=fun b hb=>by
  refine ⟨?_,?_⟩
  · cases q:s0.heap.get? b with
    | none=>rfl
    | some o=>
      obtain ⟨o',z⟩:=I5.base.there b o q (fun z=>by cases z)
      by_cases hf:b∈frs (cxE P w K mg base N qual fscope f cd A outer s0 H0 E0).stack
      · obtain ⟨sl,y⟩:=(l1.trans l12).slot b o' z hf
        rw [hb] at y;cases y
      · rw [(l1.trans l12).keep b o' z (.inr (by rw [q];exact fun z=>by cases z)) hf] at hb;cases hb
  · cases q:H' b with
    | none=>rfl
    | some u=>
      obtain ⟨o',z⟩:=(I5.hok b u q).sits
      by_cases hf:b∈frs (cxE P w K mg base N qual fscope f cd A outer s0 H0 E0).stack
      · rw [I5.stkFree b hf] at q;cases q
      · rw [(l1.trans l12).keep b o' z (.inl (by rw [q];exact fun z=>by cases z)) hf] at hb;cases hb
 have hx3: ∀b∈[T1],h2.get? b=none∨(s0.heap.get? b=none∧H' b=none∧∃o vs,h2.get? b=some o∧o.data= .fields vs):=fun b hb=>by
  rw [List.mem_singleton.mp hb]
  obtain ⟨o,vs,z1,z2,z3⟩:=tb2
  exact .inr ⟨hT1'.1,hT1'.2,o,vs,z1,z2⟩
 have l23:=nt_left (s:={s' with heap:=h2}) (h0:=s0.heap) (H:=H') n3 hx3 fr2
 have fun3:=n3.funs (fun b hb o ho=>by
  rcases hx3 b hb with z | ⟨_,_,o',vs',z1,z2⟩
  · rw [z] at ho;cases ho
  · rw [ho] at z1;cases z1;exact ⟨vs',z2⟩) fun2
 have fr3: ∀b,h3.get? b=none→s0.heap.get? b=none∧H' b=none:=fun b hb=>by
  refine fr2 b ?_
  cases q:h2.get? b with
  | none=>rfl
  | some o=>
    by_cases mf:b∈frs (cxE P w K mg base N qual fscope f cd A outer s0 H0 E0).stack
    · obtain ⟨sl,z⟩:=n3.slot b o q mf
      rw [hb] at z;cases z
    · by_cases m2:b∈[T1]
      · rcases hx3 b m2 with z | ⟨_,_,o',vs',q1,q2⟩
        · rw [z] at q;cases q
        · obtain ⟨o3,_,z,_⟩:=n3.f2 b o' vs' q1 q2
          rw [hb] at z;cases z
      · rw [n3.keep b o q mf m2] at hb;cases hb
 refine leave_rec (base:=base) (h0:=s0.heap) (H:=H') (s:={s' with heap:=h3}) I5.ok.frames fun3 rfl c1 c2 c4 c3.1 c3.2 c5 (.inr ⟨T1,_,rfl,te1,tb3,hT1'.1,hT1'.2⟩) ⟨x10,x11⟩ fr3 fun h8 l38 x8=> ?_
 have fin:=left_endY I5 ((l1.trans l12).trans ((l23.trans l38).y)) x8 (hE B _ hW sm)
 exact fin
set_option maxHeartbeats 4000000 in
theorem ps_setlcE {i:Nat} {x:Str} {pos' spos:Pos} (hE: ∀c H',Wc c→Same H0 H'→E0 (.ref c) none H') (caps:Caps (cxE P w K mg base N qual fscope f cd A outer s0 H0 E0) scope N' js) (hi:PI (cxE P w K mg base N qual fscope f cd A outer s0 H0 E0) tg iter wi)
 (hg: ∀s H fp,PG (cxComp (cxE P w K mg base N qual fscope f cd A outer s0 H0 E0) scope N' s H fp) tg g) (hc: ∀s H fp,PIf (cxComp (cxE P w K mg base N qual fscope f cd A outer s0 H0 E0) scope N' s H fp) ifs tc)
 (he: ∀s H fp,GoodC (cxE P w K mg base N qual fscope f cd A outer s0 H0 E0) s fp→PE ((cxComp (cxE P w K mg base N qual fscope f cd A outer s0 H0 E0) scope N' s H fp).wish (inComp (cxE P w K mg base N qual fscope f cd A outer s0 H0 E0) scope N' s H fp H0 Wc)) elt te)
 (hN:(cxE P w K mg base N qual fscope f cd A outer s0 H0 E0).N.Nodup) (hix:(cxE P w K mg base N qual fscope f cd A outer s0 H0 E0).N[i]?=some x) (hx:Loc (cxE P w K mg base N qual fscope f cd A outer s0 H0 E0).env.scope x)
 (hfb:(scope.names.all fun p=>p.2 != NameKind.free || ((cxE P w K mg base N qual fscope f cd A outer s0 H0 E0).env.scope.names.lookup p.1 == some .cell || (cxE P w K mg base N qual fscope f cd A outer s0 H0 E0).env.scope.names.lookup p.1 == some .free))=true)
 (hnb:(scope.names.all fun p=>p.2 != NameKind.local || scope.names.lookup p.1 == some .local)=true)
 (hsw:swapsWith (.ListComp elt [⟨tg,iter,ifs,0⟩] scope pos) (some (.Name x pos')) spos.line (cxE P w K mg base N qual fscope f cd A outer s0 H0 E0).env=pure true)
 (hkind:scope.kind= .function) (hs: ∀x,foldedSetIterable iter (cxE P w K mg base N qual fscope f cd A outer s0 H0 E0).env x=pure x)
 (hf:(cxE P w K mg base N qual fscope f cd A outer s0 H0 E0).fn x=true∨(cxE P w K mg base N qual fscope f cd A outer s0 H0 E0).env.scope.names.lookup x=some .local):
 PS (cxE P w K mg base N qual fscope f cd A outer s0 H0 E0) (.Assign [.Name x pos'] (.ListComp elt [⟨tg,iter,ifs,0⟩] scope pos) spos) (tAsg (tLC js wi g tc te) (gName i)):=by
 intro pins s σ H E I h
 have hfree:=free_of hfb
 have hnames:=local_of hnb
 rw [exec_Assign_Name_used _ _ _ _ hsw]
 refine wpAny_bind (wpAny_standAt (wpAny_bind ?_))
 show wpAny _ (cxE P w K mg base N qual fscope f cd A outer s0 H0 E0).A (do let _ ← comprehension (.ListComp elt [⟨tg,iter,ifs,0⟩] scope pos) scope (cxE P w K mg base N qual fscope f cd A outer s0 H0 E0).env _ (newList []) false (eval iter (cxE P w K mg base N qual fscope f cd A outer s0 H0 E0).env) (some (assign (.Name x pos') (cxE P w K mg base N qual fscope f cd A outer s0 H0 E0).env))) _ _ s
 refine wpAny_bind (wpAny_mono (wpAny_comprehension_free (use:=some (assign (.Name x pos') (cxE P w K mg base N qual fscope f cd A outer s0 H0 E0).env)) (Q:=fun q_ s'=>SP (cxE P w K mg base N qual fscope f cd A outer s0 H0 E0) pins E .next s') (cl:=closOf (cxE P w K mg base N qual fscope f cd A outer s0 H0 E0).env scope.names []) rfl hs (closureFor_of fun x hx e=>I.ok.has x.1 (hfree x hx e)) hkind hnames ?_)
  (fun q_ s' hq=>wpAny_pure (wpAny_pure hq)) fun q_ q_ e=>e)
 have h:tLC js wi g tc te σ H (fun x H1=>E.nx (σ.set i (some x)) H1):=h
 refine thn (hi pins s σ H _ I h) fun v s1 h1=>thn h1 fun itv s2 h2=> ?_
 obtain ⟨it,fp,tn,J,H2,e,I2,T,st2,f2,q⟩:=h2
 subst e
 refine wpAny_newObj_type ?_
 have hD:H2 s2.heap.objs.size=none:=I2.hok.fresh (Nat.le_refl _)
 have I3:Inv (cxE P w K mg base N qual fscope f cd A outer s0 H0 E0) pins σ (upd H2 s2.heap.objs.size (.lst [])) {s2 with heap:=s2.heap.push {cls:= .type "list",data:= .seq ([]:List Value).toArray}}:=I2.lnew (t':=s2.toks) .nil (Nat.zero_le _)
 obtain ⟨W,⟨m0,w0⟩,turn⟩:=q s2.heap.objs.size hD
 have fo: ∀b∈fp,b < s2.heap.objs.size:=fun b hb=>by
  obtain ⟨o,e,_⟩:=T.obj _ _ st2 b hb
  exact Heap.lt_size e
 have f3: ∀b∈fp,FpOk (cxE P w K mg base N qual fscope f cd A outer s0 H0 E0) pins (upd H2 s2.heap.objs.size (.lst [])) b:=fun b hb=>⟨by rw [upd_ne (Nat.ne_of_lt (fo b hb))];exact (f2 b hb).1,(f2 b hb).2⟩
 have fo3: ∀b∈fp,b < (s2.heap.push {cls:= .type "list",data:= .seq ([]:List Value).toArray}).objs.size:=fun b hb=>by
  rw [Heap.size_push]
  exact Nat.lt_succ_of_lt (fo b hb)
 have gd:GoodC (cxE P w K mg base N qual fscope f cd A outer s0 H0 E0) {s2 with heap:=s2.heap.push {cls:= .type "list",data:= .seq ([]:List Value).toArray}} fp:=by
  refine ⟨fun b hb=>there_of I3 hb,fun b hb=> ?_⟩
  rcases (f3 b hb).2.2.2.1 with z | z
  · cases z
  · exact z
 refine newEnv_block ?_
 have I4:=inv_block (fp:=fp) caps hkind hfree I3 f3 fo3
 refine block_runE (fp:=fp) rfl T (hg _ _ _) (hc _ _ _) (he _ _ _ gd) turn I4 ?_ (fun b hb=>(f3 b hb).1) w0 (fun e s' z=>comp_out I3 f3 hE e s' z) ?_
 · refine T.keep _ _ _ st2 fun b hb o e=> ?_
   exact pushCells_keeps _ _ b o (Heap.get?_push_of_some _ (Heap.get?_push_of_some _ e))
 · intro σ' H' s' I' q'
   have I5:Inv (cxE P w K mg base N qual fscope f cd A outer s0 H0 E0) pins σ H' s':=Inv.unblock I3 f3 I' (Heap.SameBut.refl ..)
   obtain ⟨m,hn,_⟩:=I'.loc
   show wpAny _ (cxE P w K mg base N qual fscope f cd A outer s0 H0 E0).A (assign (.Name x pos') (cxE P w K mg base N qual fscope f cd A outer s0 H0 E0).env (.ref s2.heap.objs.size)) _ _ s'
   refine wpAny_assign_Name (store_ok2 I5 hN hix hx (v:= .ref s2.heap.objs.size) rfl (fun s6 I6 ⟨a,hsa,ha⟩=> ?_) hf)
   have lt: ∀b,b < s2.heap.objs.size + 1→b≠(s2.heap.push {cls:= .type "list",data:= .seq ([]:List Value).toArray}).objs.size:=fun b hb=>by
    rw [Heap.size_push]
    exact Nat.ne_of_lt hb
   have hLs:(cxE P w K mg base N qual fscope f cd A outer s0 H0 E0).env.locals < s2.heap.objs.size:=I2.lt
   have hcs: ∀y c,(cxE P w K mg base N qual fscope f cd A outer s0 H0 E0).env.cells.lookup y=some c→c < s2.heap.objs.size:=fun y c e=>by
    obtain ⟨v,z⟩:=I2.cell y c e
    exact z.lt
   have hne:(s2.heap.push {cls:= .type "list",data:= .seq ([]:List Value).toArray}).objs.size≠a:=by
    rcases ha with z | z
    · rw [z];exact (lt _ (Nat.lt_succ_of_lt hLs)).symm
    · exact (lt _ (Nat.lt_succ_of_lt (hcs _ _ z))).symm
   refine ⟨m,hn.sameBut hsa hne,fun h' hs'=>⟨_,H',?_,q'⟩⟩
   refine I6.turned (t':=s6.toks) (it:=(s2.heap.push {cls:= .type "list",data:= .seq ([]:List Value).toArray}).objs.size) (fun b o hb e=>(hs'.2 b hb).trans e) I'.free ?_ (.inr ?_) (fun y c e=> ?_) (fun p hp z=> ?_)
   · exact (lt _ (Nat.lt_succ_of_lt hLs)).symm
   · exact I3.sz
   · exact lt _ (Nat.lt_succ_of_lt (hcs y c e))
   · exact absurd (Heap.lt_size (I3.pin p hp).1) (by rw [z];exact Nat.lt_irrefl _)
noncomputable abbrev YcE (X:Cx) (scope:Scope) (N':List Str) (He:Hp) (W:Addr→Prop):{p:Shared×Hp×List Addr // GoodC X p.1 p.2.2}→Cx:=fun p=>(cxComp X scope N' p.1.1 p.1.2.1 p.1.2.2).wish (inComp X scope N' p.1.1 p.1.2.1 p.1.2.2 He W)
theorem ds_setlcE {ts:List Nat} (i:Nat) {x:Str} {ti:Dq} {dg:Dg} {dc:Db} {de:De} {pos' spos:Pos} (hE: ∀c H',Wc c→Same H0 H'→E0 (.ref c) none H') (hN:(cxE P w K mg base N qual fscope f cd A outer s0 H0 E0).N.Nodup) (caps:Caps (cxE P w K mg base N qual fscope f cd A outer s0 H0 E0) scope N' js) (hi:DI H0 K (fun _:Unit=>cxE P w K mg base N qual fscope f cd A outer s0 H0 E0) tg iter ti)
 (hg:DG H0 K (Yc (fun _:Unit=>cxE P w K mg base N qual fscope f cd A outer s0 H0 E0) scope N') tg ts dg) (hc:DIf H0 K (Yc (fun _:Unit=>cxE P w K mg base N qual fscope f cd A outer s0 H0 E0) scope N') ifs dc)
 (he:DE H0 K (YcE (cxE P w K mg base N qual fscope f cd A outer s0 H0 E0) scope N' H0 Wc) elt de)
 (hix:autoParam ((cxE P w K mg base N qual fscope f cd A outer s0 H0 E0).N[i]?=some x) u5._auto_1) (hx:autoParam (Loc (cxE P w K mg base N qual fscope f cd A outer s0 H0 E0).env.scope x) u16._auto_1)
 (hj:autoParam (capInj js=true) u5._auto_1) (hts:autoParam (∀ k∈ts,js[k]?=some none∨js[k]?=none) u15._auto_1)
 (hfb:autoParam ((scope.names.all fun p=>p.2 != NameKind.free || ((cxE P w K mg base N qual fscope f cd A outer s0 H0 E0).env.scope.names.lookup p.1 == some .cell || (cxE P w K mg base N qual fscope f cd A outer s0 H0 E0).env.scope.names.lookup p.1 == some .free))=true) u5._auto_1)
 (hnb:autoParam ((scope.names.all fun p=>p.2 != NameKind.local || scope.names.lookup p.1 == some .local)=true) u5._auto_1)
 (hsw:autoParam (swapsWith (.ListComp elt [⟨tg,iter,ifs,0⟩] scope pos) (some (.Name x pos')) spos.line (cxE P w K mg base N qual fscope f cd A outer s0 H0 E0).env=pure true) u5._auto_1)
 (hkind:autoParam (scope.kind= .function) u5._auto_1) (hs:autoParam (∀ x,foldedSetIterable iter (cxE P w K mg base N qual fscope f cd A outer s0 H0 E0).env x=pure x) u4._auto_1)
 (hf:autoParam ((cxE P w K mg base N qual fscope f cd A outer s0 H0 E0).fn x=true∨(cxE P w K mg base N qual fscope f cd A outer s0 H0 E0).env.scope.names.lookup x=some .local) u17._auto_1):
 DS H0 K (fun _:Unit=>cxE P w K mg base N qual fscope f cd A outer s0 H0 E0) (.Assign [.Name x pos'] (.ListComp elt [⟨tg,iter,ifs,0⟩] scope pos) spos) (sSetO i (xLC js ti dg dc de)):=by
 obtain ⟨wi,i1,i2⟩:=hi
 obtain ⟨gt,g1,g2⟩:=hg
 obtain ⟨ct,c1,c2⟩:=hc
 obtain ⟨et,e1,e2⟩:=he
 exact ⟨_,fun q_=>ps_setlcE (i:=i) hE caps (i1 ()) (fun s H fp=>g1 ((),s,H,fp)) (fun s H fp=>c1 ((),s,H,fp)) (fun s H fp gd=>e1 ⟨(s,H,fp),gd⟩) hN hix hx hfb hnb hsw hkind hs hf,
  fun D E F s c p=>setlc_run (fun P Q F p k=>lc_run i2 g2 c2 e2 hj hts P Q F p k) D E F s c p⟩
end
end L2
set_option Elab.async false
set_option linter.all false
set_option maxRecDepth 100000
namespace L2
open PySem PySem.Spec PyProof.Rows
section
variable {He:Hp} {K:PySem.W.Frag} {ι:Type} {Y:ι→Cx} {e tg:Expr} {pos:Pos} {ts:List Nat}
end
end L2
set_option Elab.async false
set_option linter.all false
set_option maxRecDepth 100000
namespace L2
open PySem PySem.Spec PyProof.Rows
section
variable {He:Hp} {K:PySem.W.Frag} {ι:Type} {Y:ι→Cx} {e:Expr} {pos:Pos}
end
end L2
set_option Elab.async false
set_option linter.all false
set_option maxRecDepth 100000
namespace L2
open PySem PySem.Spec PySem.W PyProof.Rows
section
variable {key:Nat→Int} {N:Nat} {cmp:Nat→Nat→(Bool→Shared→Prop)→Shared→Prop} {s:Shared}
variable (hc: ∀(i j:Nat) (C:Bool→Shared→Prop),i < N→j < N→C (decide (key i < key j)) s→cmp i j C s) (h0:0 < N)
include hc h0
end
end L2
set_option Elab.async false
set_option linter.all false
set_option maxRecDepth 100000
namespace L2
open PySem PySem.Spec PySem.W PySem.Calls PyProof.Rows
section
variable {prog:Program} {w:World} {A:Around} {E:Value→Shared→Prop} {s:Shared}
theorem pair_lt {x y:Addr} {ox oy:Obj} {n k:Nat} {a b c d:Int} {t1 t2 t3 t4:Tok} {Q:Bool→Shared→Prop} (hx:s.heap.get? x=some ox) (dx:ox.data= .seq #[.int a t1,.int b t2] n) (hy:s.heap.get? y=some oy) (dy:oy.data= .seq #[.int c t3,.int d t4] k)
 (hu:A.units < cLine) (h:Q (decide (a < c∨a=c∧b < d)) s):wpAny (model prog w) A (keyLt' (tuples' true) (.ref x) (.ref y)) Q E s:=by
 refine kat_lt hx dx hy dy (kat_cons (wpAny_eqBool_int ?_))
 by_cases e1:a=c
 · subst e1
   rw [show (a == a)=true by simp]
   refine kat_yes (kat_cons (wpAny_eqBool_int ?_))
   by_cases e2:b=d
   · subst e2
     rw [show (b == b)=true by simp]
     refine kat_yes (kat_nil ?_)
     have:decide (a < a∨a=a∧b < b)=false:=by simp
     rw [this] at h
     exact h
   · rw [show (b == d)=false by simp [e2]]
     refine kat_no (kat_one _ _ ?_)
     have:decide (a < a∨a=a∧b < d)=decide (b < d):=by simp
     rw [this] at h
     exact PySem.P.lt_int h
 · rw [show (a == c)=false by simp [e1]]
   refine kat_no ?_
   have:decide (a < c∨a=c∧b < d)=decide (a < c):=by simp [e1]
   rw [this] at h
   exact oneLt_int h
end
section
variable {X:Cx} {pins:List (Addr×Obj)} {σ:St} {H:Hp} {s:Shared}
theorem vals_at {ys:List V} {its:List Value} (r:Vals ys its): ∀(π:List Nat),(∀ i∈π,i < ys.length)→Vals (π.map fun i=>ys.getD i V.non) (π.map fun i=>its.getD i Value.none)
 | [],_=> .nil
 | i::π,h=>by
   have hi:=h i List.mem_cons_self
   have e1:ys[i]?=some ys[i]:=List.getElem?_eq_getElem hi
   obtain ⟨u,e2,r2⟩:=r.get e1
   refine .cons ?_ (vals_at r π fun j hj=>h j (List.mem_cons_of_mem _ hj))
   show RelV (ys.getD i V.non) (its.getD i Value.none)
   rw [List.getD_eq_getElem?_getD,List.getD_eq_getElem?_getD,e1,e2]
   exact r2
noncomputable def allN (base h:Heap) (L:Addr):List (Addr×Obj):=(List.range h.objs.size).filterMap fun b=>match h.get? b with
 | some o=>if b≠L∧(base.get? b).isNone=true then some (b,o) else none
 | none=>none
set_option tactic.hygienic true in
theorem allN_news {base h:Heap} {L:Addr}:News base L h (allN base h L):=fun p hp=>by
 obtain ⟨b,hb,e⟩:=List.mem_filterMap.mp hp
 split at e
 · rename_i o ho
   split at e
   · rename_i hc
     cases e
     exact ⟨ho,hc.1,by simpa using hc.2⟩
   · cases e
 · cases e
theorem allN_mem {base h:Heap} {L b:Addr} {o:Obj} (ho:h.get? b=some o) (hL:b≠L) (hb:base.get? b=none):(b,o)∈allN base h L:=by
 refine List.mem_filterMap.mpr ⟨b,List.mem_range.mpr (Heap.lt_size ho),?_⟩
 rw [ho]
 show (if b≠L∧(base.get? b).isNone=true then some (b,o) else none)=some (b,o)
 rw [if_pos ⟨hL,by rw [hb];rfl⟩]
theorem Inv.newAt {h':Heap} {m:Str→Option Value} {D:Addr} {zs:List V} {out:List Value} {c:Nat} (I:Inv X pins σ H s) (hn:s.heap.Ns X.env.locals m) (F:Fr X.base X.env.locals h' m) (N:News X.base X.env.locals h' ((D,listOf out.toArray c)::allN X.base s.heap X.env.locals))
 (hD: ∀q∈allN X.base s.heap X.env.locals,q.1 < D) (r:Vals zs out) (hz:zs.length≤sizeLine):H D=none∧Inv X pins σ (upd H D (.lst zs)) {s with heap:=h'}:=by
 obtain ⟨d1,d2,d3⟩:=N _ List.mem_cons_self
 have d0:s.heap.get? D=none:=by
  cases e:s.heap.get? D with
  | none=>rfl
  | some o=>exact absurd (hD _ (allN_mem e d2 d3)) (Nat.lt_irrefl _)
 have hHD:H D=none:=I.hok.gone d0
 have keep: ∀b o,s.heap.get? b=some o→b≠X.env.locals→h'.get? b=some o:=fun b o e hb=>by
  cases q:X.base.get? b with
  | some o2=>
    have e2:=I.bk b o2 q
    rw [e] at e2
    cases e2
    exact F.keep b o q
  | none=>exact (N _ (List.mem_cons_of_mem _ (allN_mem e hb q))).1
 have neD: ∀b o,s.heap.get? b=some o→b≠D:=fun b o e z=>by rw [z,d0] at e;cases e
 have nL: ∀b u,H b=some u→b≠X.env.locals:=fun b u e z=>by rw [z,I.free] at e;cases e
 refine ⟨hHD,I.step (g':=s.gens) (d':=s.drawn) (t':=s.toks) (ch:=[]) (fun q_ z=>nomatch z) (fun b o hb q_ q_ e q_=>keep b o e hb) (fun b o hb q_ q_ e q_=>⟨o.slots,keep b o e hb⟩) (fun b o q_ e n=>by rw [upd_ne (neD b o e)];exact n) (fun b o q_ e=> ?_)
  (fun b xs e=>by rw [upd_ne (ne_of_none e hHD)];exact e) (fun b o u e=>by rw [upd_ne (ne_of_none e hHD)];exact e) (fun b ps e=>⟨#[],by rw [upd_ne (ne_of_none e hHD),e];simp⟩) (fun m2 hm2=> ?_) (fun b u e=> ?_) I.bare⟩
 · by_cases hb:b=X.env.locals
   · obtain ⟨oL,_,_,hoL,_⟩:=F.ns
     exact ⟨oL,by rw [hb];exact hoL⟩
   · exact ⟨o,keep b o e hb⟩
 · have em:m2=m:=by
    obtain ⟨o1,es1,ep1,a1,a2,_,a4⟩:=hm2
    obtain ⟨o2,es2,ep2,b1,b2,_,b4⟩:=hn
    rw [a1] at b1
    cases b1
    rw [a2] at b2
    cases b2
    funext x
    rw [← a4,← b4]
   rw [em];exact F.ns
 · by_cases hb:b=D
   · subst hb
     rw [upd_same] at e
     cases e
     exact ⟨hz,out,c,r,d1⟩
   · rw [upd_ne hb] at e
     refine (I.hok b u e).stay (fun c v hc q=>keep c v q ?_) (fun c q=>by rw [upd_ne (ne_of_none q hHD)];exact q) fun c xs q=>by rw [upd_ne (ne_of_none q hHD)];exact q
     rcases hc with rfl | hc
     · exact nL c _ e
     · exact nL c _ hc
end
end L2
set_option Elab.async false
set_option linter.all false
set_option maxRecDepth 100000
namespace L2
open PySem PySem.Spec PySem.W PySem.Calls PyProof.Rows
section
variable {prog:Program} {w:World} {A:Around} {E:Value→Shared→Prop} {s:Shared}
theorem zip_same {α:Type}: ∀l:List α,l.zip l=l.map fun x=>(x,x)
 | []=>rfl
 | a::l=>by rw [List.zip_cons_cons,zip_same l,List.map_cons]
theorem sort_short {a:Addr} {vs:List Value} {n:Nat} {P:PySem.Fin→Shared→Prop} (ho:s.heap.get? a=some (seqObj "list" vs.toArray n)) (h2:vs.length < 2)
 (h:P (.done (.ret .none)) {s with heap:=sortedHeap s.heap a vs vs.toArray}):wpAny (model prog w) A (Builtin.«list.sort» ⟨[.ref a],[]⟩) P E s:=by
 rw [list_sort_plain]
 obtain ⟨e1,o1⟩: ∃e,(s.heap.update a (Obj.mapSeq fun q_=>(#[]:Array Value))).get? a=some (seqObj "list" #[] e):=⟨_,get?_update_seq ho _⟩
 have o6:=Heap.get?_push_of_some (seqObj "list" #[] 0) (Heap.get?_push_of_some (seqObj "tuple" vs.toArray 0) o1)
 have c2:vs.toArray.size < 2:=by simpa using h2
 have zz:vs.length≤sizeLine:=by rw [sizeLine_eq];lia
 refine wpAny_bind (listItems_at ho rfl (wpAny_bind (listUpdate_at ho rfl (wpAny_bind (seqEpoch_at o1 rfl (wpAny_bind (wpAny_newTuple (wpAny_bind (wpAny_newList (wpAny_holding ?_) (Nat.zero_le _))) zz)))) (by simpa using zz) (Nat.zero_le _))))
 simp only [if_pos c2]
 refine wpAny_bind (wpAny_pure ?_)
 rw [StateT.run_pure]
 refine wpAny_bind (wpAny_pure ?_)
 dsimp only
 have eo:(arrOf (SortSt.mk' general' (vs.toArray.zip vs.toArray) #[] 7 none)).map (·.2)=vs.toArray:=by
  show (vs.toArray.zip vs.toArray).map (·.2)=vs.toArray
  simp only [List.zip_toArray,List.map_toArray]
  rw [show vs.zip vs=vs.map fun x=>(x,x) from zip_same vs,List.map_map]
  exact congrArg List.toArray (List.map_id vs)
 rw [eo]
 refine wpAny_bind (seqEpoch_at o6 rfl (wpAny_bind (listUpdate_at o6 rfl ?_ (Nat.zero_le _) (by simpa using Nat.le_succ_of_le zz))))
 simp only [bne_self_eq_false,Bool.false_eq_true,if_false]
 exact wpAny_pure h
end
theorem range_getD {α:Type} (l:List α) (d:α):(List.range l.length).map (fun i=>l.getD i d)=l:=by
 apply List.ext_getElem
 · simp
 · intro i h1 h2
   simp [h2]
noncomputable def keyP (B:Int) (ps:List (Int×Int)) (i:Nat):Int:=(ps.getD i (0,0)).1 * B + (ps.getD i (0,0)).2
theorem key_lex {B a b c d:Int} (h1:0≤b) (h2:b < B) (h3:0≤d) (h4:d < B):(a < c∨a=c∧b < d)↔a * B + b < c * B + d:=by
 constructor
 · rintro (h | ⟨rfl,h⟩)
   · have:(a + 1) * B≤c * B:=Int.mul_le_mul_of_nonneg_right (by lia) (by lia)
     rw [Int.add_mul,Int.one_mul] at this
     lia
   · lia
 · intro h
   by_cases e:a=c
   · subst e;right;exact ⟨rfl,by lia⟩
   · left
     apply Decidable.byContradiction
     intro z
     have:(c + 1) * B≤a * B:=Int.mul_le_mul_of_nonneg_right (by lia) (by lia)
     rw [Int.add_mul,Int.one_mul] at this
     lia
section
variable {X:Cx}
end
end L2
namespace L2
open PySem PySem.Spec PyProof.Rows
theorem bt_sorted:bootBuiltins "sorted"=some (.builtin "sorted"):=by decide +kernel
noncomputable abbrev pr2 (q:Int×Int):PyData:= .tuple [.int q.1,.int q.2]
section
variable {He:Hp} {K:PySem.W.Frag} {ι:Type} {Y:ι→Cx} {e:Expr} {pos p:Pos}
end
end L2
namespace L2
open PySem PySem.Spec PyProof.Rows
section
variable {He:Hp} {K:PySem.W.Frag} {ι:Type} {Y:ι→Cx} {pos:Pos}
theorem de_gint {x:Str} {i:Int} (h: ∀j,∃t,(Y j).mg x=some (.int i t)) (hg:autoParam (∀ j,Gl (Y j) x) u4._auto_1) (hd:autoParam ((x == ("__debug__":Str))=false) u2._auto_1):DE He K Y (.Name x pos) (xC (.int i)):=
 ⟨tC (.int i),fun j=>by
   obtain ⟨t,e⟩:=h j
   exact pe_glob (hg j) e ⟨t,rfl⟩ hd,fun P Q f p k=>k _ _ _ _ p (.refl f.wd) (.int i)⟩
end
end L2
namespace L2
open PySem PySem.Spec PyProof.Rows
section
variable {He:Hp} {K:PySem.W.Frag} {ι:Type} {Y:ι→Cx} {e:Expr} {pos:Pos}
noncomputable def sExp (t:De):Ds:=fun D env=>t env fun q_=>D.nx env
theorem ds_expr {t:De} (h:DE He K Y e t) (hs:autoParam (∀ i,swapsWith e none pos.line (Y i).env=pure false) u4._auto_1):DS He K Y (.Expr e pos) (sExp t):=by
 obtain ⟨te,h1,h2⟩:=h
 exact ⟨_,fun i=>ps_expr (h1 i) (hs i),fun D E F s c p=>h2 _ _ F p fun d v R' H' q e r=>c.nx _ _ _ _ q (s.trans e.rr) (F.next e)⟩
end
end L2
set_option Elab.async false
set_option linter.all false
set_option maxRecDepth 100000
namespace L2
open PySem PySem.Spec PyProof.Rows
section
variable {K:PySem.W.Frag} {R:Hp}
end
section
variable {He:Hp} {K:PySem.W.Frag} {ι:Type} {Y:ι→Cx} {e a b c:Expr} {es:List Expr} {pos:Pos}
end
end L2
namespace L2
open PySem PySem.Spec PyProof.Rows PySem.W
section
variable {X:Cx} {pins:List (Addr×Obj)} {σ:St} {H:Hp} {s:Shared}
end
section
variable {He:Hp} {K:PySem.W.Frag} {ι:Type} {Y:ι→Cx} {e:Expr} {pos p:Pos}
end
section
variable {X:Cx}
end
section
variable {He:Hp} {K:PySem.W.Frag} {ι:Type} {Y:ι→Cx} {e:Expr} {pos p:Pos}
end
end L2
set_option Elab.async false
set_option linter.all false
set_option maxRecDepth 100000
namespace L2
open PySem PySem.Spec PySem.W PyProof.Rows
section
variable {prog:Program} {w:World} {A:Around} {E:Value→Shared→Prop} {s:Shared}
noncomputable abbrev WS {α:Type} (prog:Program) (w:World) (A:Around) (E:Value→Shared→Prop) (s:Shared) (m:StateT SortSt Sem α) (Q:α→SortSt→Prop) (st:SortSt):Prop:=wpS (model prog w) A E s m Q st
noncomputable def galT:Bool→Keyed→Array Keyed→Nat→Nat→Nat→StateT SortSt Sem (Option Nat):=PySem.W.Fast.tw8001965791261037382
noncomputable def mloT:Array Keyed→Array Keyed→StateT SortSt Sem (Array Keyed):=PySem.W.Fast.tw17852939151971871240
noncomputable def mhiT:Array Keyed→Array Keyed→StateT SortSt Sem (Array Keyed):=PySem.W.Fast.tw11371033205705349026
noncomputable def matT:Nat→StateT SortSt Sem Bool:=PySem.W.Fast.tw6096456617080501612
theorem mat_eq:mergeAt'=matT:=PySem.W.Fast.te6096456617080501612
noncomputable def elT:Array Keyed→Nat→StateT SortSt Sem Keyed:=PySem.W.Fast.tw4424054534610556225
noncomputable def ltT:Keyed→Keyed→StateT SortSt Sem (Option Bool):=PySem.W.Fast.tw5462128846355204966
theorem el_eq:elem'=elT:=PySem.W.Fast.te4424054534610556225
theorem lt_eq:lt'=ltT:=PySem.W.Fast.te5462128846355204966
theorem ws_el {arr:Array Keyed} {i:Nat} {p:Keyed} {Q:Keyed→SortSt→Prop} {st:SortSt} (h:arr[i]?=some p) (k:Q p st):WS prog w A E s (elT arr i) Q st:=by
 rw [← el_eq,elem'_eq,h]
 exact wpS_pure k
noncomputable def LtOk (prog:Program) (w:World) (A:Around) (E:Value→Shared→Prop) (s:Shared) (key:Keyed→Int) (κ:SortKind) (ok:Keyed→Prop):Prop:=
 ∀(x y:Keyed) (st:SortSt) (Q:Option Bool→SortSt→Prop),ok x→ok y→kindOf st=κ→Q (some (decide (key x < key y))) st→WS prog w A E s (ltT x y) Q st
theorem ws_bin {P:Nat→Bool} {n lo hi:Nat} {st:SortSt} {F:Nat→Option (Option Nat)×Nat×Nat→StateT SortSt Sem (ForInStep (Option (Option Nat)×Nat×Nat))} {Q:Option (Option Nat)×Nat×Nat→SortSt→Prop}
 (h1: ∀(i lo hi:Nat) (R:ForInStep (Option (Option Nat)×Nat×Nat)→SortSt→Prop),lo < hi→hi≤n→(P (lo + (hi - lo) / 2)=true→R (.yield (none,lo + (hi - lo) / 2 + 1,hi)) st)→(P (lo + (hi - lo) / 2)=false→R (.yield (none,lo,lo + (hi - lo) / 2)) st)→WS prog w A E s (F i (none,lo,hi)) R st)
 (h2: ∀(i lo hi:Nat) (R:ForInStep (Option (Option Nat)×Nat×Nat)→SortSt→Prop),hi≤lo→R (.done (none,lo,hi)) st→WS prog w A E s (F i (none,lo,hi)) R st)
 (mono: ∀i j,i≤j→j < n→P j=true→P i=true) (hlo:lo≤hi) (hhi:hi≤n) (b1: ∀i,i < lo→P i=true) (b2: ∀i,hi≤i→i < n→P i=false)
 (k: ∀r,r≤n→(∀ i,i < r→P i=true)→(∀ i,r≤i→i < n→P i=false)→Q (none,r,r) st):WS prog w A E s (forIn [:n] (none,lo,hi) F) Q st:=by
 refine wpS_forRange (fun j c st'=>st'=st∧∃lo hi,c=(none,lo,hi)∧lo≤hi∧hi≤n∧(∀ i,i < lo→P i=true)∧(∀ i,hi≤i→i < n→P i=false)∧hi - lo≤n - j) ?_ ?_ ⟨rfl,lo,hi,rfl,hlo,hhi,b1,b2,by lia⟩
 · rintro i c st' _ hi' ⟨rfl,lo,hi,rfl,hl,hh,b1,b2,hm⟩
   by_cases e:lo < hi
   · refine h1 i lo hi _ e hh (fun z=> ?_) (fun z=> ?_)
     · exact ⟨rfl,_,_,rfl,by lia,hh,fun j hj=>mono j _ (by lia) (by lia) z,b2,by lia⟩
     · refine ⟨rfl,_,_,rfl,by lia,by lia,b1,fun j h3 h4=> ?_,by lia⟩
       cases q:P j with
       | false=>rfl
       | true=>rw [mono _ j h3 h4 q] at z;cases z
   · have e':lo=hi:=by lia
     subst e'
     exact h2 i lo lo _ (Nat.le_refl _) (k lo hh b1 b2)
 · rintro c st' ⟨rfl,lo,hi,rfl,hl,hh,b1,b2,hm⟩
   have e':lo=hi:=by lia
   subst e'
   exact k lo hh b1 b2
theorem ws_exp {P:Nat→Bool} {n mx:Nat} {st:SortSt} {F:Nat→Option (Option Nat)×Nat×Nat→StateT SortSt Sem (ForInStep (Option (Option Nat)×Nat×Nat))} {Q:Option (Option Nat)×Nat×Nat→SortSt→Prop}
 (h1: ∀(i last ofs:Nat) (R:ForInStep (Option (Option Nat)×Nat×Nat)→SortSt→Prop),ofs < mx→(P ofs=true→R (.done (none,last,ofs)) st)→(P ofs=false→R (.yield (none,ofs,2 * ofs + 1)) st)→WS prog w A E s (F i (none,last,ofs)) R st)
 (h2: ∀(i last ofs:Nat) (R:ForInStep (Option (Option Nat)×Nat×Nat)→SortSt→Prop),mx≤ofs→R (.done (none,last,ofs)) st→WS prog w A E s (F i (none,last,ofs)) R st)
 (hmx:mx≤n) (h0:0 < mx) (k: ∀last ofs,last < ofs→last < mx→(last=0∨P last=false)→(mx≤ofs∨P ofs=true)→Q (none,last,ofs) st):WS prog w A E s (forIn [:n] (none,0,1) F) Q st:=by
 refine wpS_forRange (fun j c st'=>st'=st∧∃last ofs,c=(none,last,ofs)∧last < ofs∧last < mx∧(last=0∨P last=false)∧j + 1≤ofs) ?_ ?_ ⟨rfl,0,1,rfl,by lia,h0,.inl rfl,Nat.le_refl _⟩
 · rintro i c st' _ hi' ⟨rfl,last,ofs,rfl,h3,h4,h5,h6⟩
   by_cases e:ofs < mx
   · exact h1 i last ofs _ e (fun z=>k last ofs h3 h4 h5 (.inr z)) fun z=>⟨rfl,_,_,rfl,by lia,e,.inr z,by lia⟩
   · exact h2 i last ofs _ (by lia) (k last ofs h3 h4 h5 (.inl (by lia)))
 · rintro c st' ⟨rfl,last,ofs,rfl,h3,h4,h5,h6⟩
   exact k last ofs h3 h4 h5 (.inl (by lia))
noncomputable def bey (key:Keyed→Int) (left:Bool) (x:Keyed) (arr:Array Keyed) (base i:Nat):Bool:=if left=true then decide (key (arr.getD (base + i) default) < key x) else !decide (key x < key (arr.getD (base + i) default))
theorem ws_gal {key:Keyed→Int} {κ:SortKind} {ok:Keyed→Prop} (L:LtOk prog w A E s key κ ok) {left:Bool} {x:Keyed} {arr:Array Keyed} {base n hint:Nat} {st:SortSt} {Q:Option Nat→SortSt→Prop} (hx:ok x) (hn:base + n≤arr.size) (ha: ∀(i:Nat) (p:Keyed),base≤i→i < base + n→arr[i]?=some p→ok p) (hk:kindOf st=κ) (hh:hint < n)
 (mono: ∀i j,i≤j→j < n→bey key left x arr base j=true→bey key left x arr base i=true)
 (k: ∀r,r≤n→(∀ i,i < r→bey key left x arr base i=true)→(∀ i,r≤i→i < n→bey key left x arr base i=false)→Q (some r) st):WS prog w A E s (galT left x arr base n hint) Q st:=by
 have ask: ∀(i:Nat) (R:Option Bool→SortSt→Prop),i < n→R (some (bey key left x arr base i)) st→WS prog w A E s (elT arr (base + i) >>= fun y=>if left=true then ltT y x else ltT x y >>= fun r=>pure (r.map fun b=> !b)) R st:=fun i R hi k=>by
  have e:arr[base + i]?=some arr[base + i]:=Array.getElem?_eq_getElem (by lia)
  have ed:arr.getD (base + i) default=arr[base + i]:=by simp [show base + i < arr.size by lia]
  have ho:=ha (base + i) _ (by lia) (by lia) e
  refine wpS_bind (ws_el e ?_)
  unfold bey at k
  rw [ed] at k
  cases left with
  | true=>exact L _ _ _ _ ho hx hk k
  | false=>exact wpS_bind (L _ _ _ _ hx ho hk (wpS_pure k))
 unfold galT PySem.W.Fast.tw8001965791261037382
 rw [← PySem.W.Fast.te12456147031677567982]
 dsimp only
 refine wpS_bind (ask hint _ hh ?_)
 cases hb:bey key left x arr base hint with
 | true=>
   dsimp only
   rw [if_pos rfl]
   refine wpS_bind (ws_exp (P:=fun o=> !bey key left x arr base (hint + o)) (mx:=n - hint) (fun i last ofs R h1 h2 h3=> ?_) (fun i last ofs R h1 h2=> ?_) (by lia) (by lia) fun last ofs h1 h2 h3 h4=> ?_)
   · dsimp only
     rw [if_neg (by lia)]
     refine wpS_bind (ask (hint + ofs) _ (by lia) ?_)
     cases e:bey key left x arr base (hint + ofs) with
     | true=>exact wpS_pure (h3 (by rw [e];rfl))
     | false=>exact wpS_pure (h2 (by rw [e];rfl))
   · dsimp only
     rw [if_pos h1]
     exact wpS_pure h2
   · dsimp only
     have pl:bey key left x arr base (hint + last)=true:=by
      rcases h3 with rfl | h3
      · exact hb
      · simpa using h3
     refine wpS_bind (ws_bin (P:=bey key left x arr base) (fun i lo hi R h5 h6 h7 h8=> ?_) (fun i lo hi R h5 h6=> ?_) mono (by lia) (by lia) (fun i hi=>mono i _ (by lia) (by lia) pl) (fun i h5 h6=> ?_) fun r h5 h6 h7=> ?_)
     · dsimp only
       rw [if_neg (by lia)]
       refine wpS_bind (ask _ _ (by lia) ?_)
       cases e:bey key left x arr base (lo + (hi - lo) / 2) with
       | true=>exact wpS_pure (h7 e)
       | false=>exact wpS_pure (h8 e)
     · dsimp only
       rw [if_pos h5]
       exact wpS_pure h6
     · rcases h4 with h4 | h4
       · lia
       · have h4:bey key left x arr base (hint + ofs)=false:=by simpa using h4
         cases q:bey key left x arr base i with
         | false=>rfl
         | true=>rw [mono (hint + ofs) i (by lia) h6 q] at h4;cases h4
     · exact wpS_pure (k r h5 h6 h7)
 | false=>
   dsimp only
   rw [if_neg Bool.false_ne_true]
   refine wpS_bind (ws_exp (P:=fun o=>bey key left x arr base (hint - o)) (mx:=hint + 1) (fun i last ofs R h1 h2 h3=> ?_) (fun i last ofs R h1 h2=> ?_) (by lia) (by lia) fun last ofs h1 h2 h3 h4=> ?_)
   · dsimp only
     rw [if_neg (by lia)]
     refine wpS_bind (ask (hint - ofs) _ (by lia) ?_)
     cases e:bey key left x arr base (hint - ofs) with
     | true=>exact wpS_pure (h2 e)
     | false=>exact wpS_pure (h3 e)
   · dsimp only
     rw [if_pos h1]
     exact wpS_pure h2
   · dsimp only
     have pl:bey key left x arr base (hint - last)=false:=by
      rcases h3 with rfl | h3
      · exact hb
      · exact h3
     refine wpS_bind (ws_bin (P:=bey key left x arr base) (fun i lo hi R h5 h6 h7 h8=> ?_) (fun i lo hi R h5 h6=> ?_) mono (by lia) (by lia) (fun i hi=> ?_) (fun i h5 h6=> ?_) fun r h5 h6 h7=> ?_)
     · dsimp only
       rw [if_neg (by lia)]
       refine wpS_bind (ask _ _ (by lia) ?_)
       cases e:bey key left x arr base (lo + (hi - lo) / 2) with
       | true=>exact wpS_pure (h7 e)
       | false=>exact wpS_pure (h8 e)
     · dsimp only
       rw [if_pos h5]
       exact wpS_pure h6
     · rcases h4 with h4 | h4
       · lia
       · exact mono i (hint - ofs) (by lia) (by lia) h4
     · cases q:bey key left x arr base i with
       | false=>rfl
       | true=>rw [mono (hint - last) i (by lia) h6 q] at pl;cases pl
     · exact wpS_pure (k r h5 h6 h7)
end
end L2
set_option Elab.async false
set_option linter.all false
set_option maxRecDepth 100000
namespace L2
open PySem PySem.Spec PySem.W PyProof.Rows
section
variable {key:Keyed→Int} {P Q O:List Keyed} {i j:Nat}
noncomputable def UpL (key:Keyed→Int) (l:List Keyed):Prop:=l.Pairwise fun x y=>key x≤key y
structure Mg (key:Keyed→Int) (P Q O:List Keyed) (i j:Nat):Prop where
 pm:O.Perm (P.take i++Q.take j)
 up:UpL key O
 la: ∀x∈O,∀y∈P.drop i,key x≤key y
 lb: ∀x∈O,∀y∈Q.drop j,key x≤key y
theorem Mg.swap (m:Mg key P Q O i j):Mg key Q P O j i:=⟨m.pm.trans List.perm_append_comm,m.up,m.lb,m.la⟩
theorem Mg.addA (m:Mg key P Q O i j) (sP:UpL key P) (k:Nat) (h: ∀x∈(P.drop i).take k,∀y∈Q.drop j,key x≤key y):Mg key P Q (O++(P.drop i).take k) (i + k) j:=by
 have e:P.drop i=(P.drop i).take k++P.drop (i + k):=by rw [← List.drop_drop,List.take_append_drop]
 have sd:UpL key (P.drop i):=sP.sublist (List.drop_sublist _ _)
 have sd2:=sd
 unfold UpL at sd2
 rw [e,List.pairwise_append] at sd2
 have sub: ∀y∈(P.drop i).take k,y∈P.drop i:=fun y hy=>List.mem_of_mem_take hy
 refine ⟨?_,?_,fun x hx y hy=> ?_,fun x hx y hy=> ?_⟩
 · rw [List.take_add]
   refine (m.pm.append_right _).trans ?_
   rw [List.append_assoc,List.append_assoc]
   exact List.perm_append_comm.append_left _
 · exact List.pairwise_append.mpr ⟨m.up,sd2.1,fun x hx y hy=>m.la x hx y (sub y hy)⟩
 · rcases List.mem_append.mp hx with hx | hx
   · exact m.la x hx y (by rw [e];exact List.mem_append_right _ hy)
   · exact sd2.2.2 x hx y hy
 · rcases List.mem_append.mp hx with hx | hx
   · exact m.lb x hx y hy
   · exact h x hx y hy
theorem Mg.addB (m:Mg key P Q O i j) (sQ:UpL key Q) (k:Nat) (h: ∀x∈(Q.drop j).take k,∀y∈P.drop i,key x≤key y):Mg key P Q (O++(Q.drop j).take k) i (j + k):=(m.swap.addA sQ k h).swap
noncomputable def MgE (key:Keyed→Int) (P Q R:List Keyed):Prop:=R.Perm (P++Q)∧UpL key R
theorem Mg.done (m:Mg key P Q O i j) (hi:P.length≤i) (hj:Q.length≤j):MgE key P Q O:=by
 have:=m.pm
 rw [List.take_of_length_le hi,List.take_of_length_le hj] at this
 exact ⟨this,m.up⟩
theorem Mg.endA (m:Mg key P Q O i j) (sP:UpL key P) (hj:Q.length≤j):MgE key P Q (O++P.drop i):=by
 have:=m.addA sP (P.length - i) (fun x q_ y hy=>by rw [List.drop_of_length_le hj] at hy;cases hy)
 rw [List.take_of_length_le (by rw [List.length_drop];exact Nat.le_refl _)] at this
 exact this.done (by lia) hj
theorem MgE.swap {R:List Keyed} (h:MgE key P Q R):MgE key Q P R:=⟨h.1.trans List.perm_append_comm,h.2⟩
theorem Mg.endB (m:Mg key P Q O i j) (sQ:UpL key Q) (hi:P.length≤i):MgE key P Q (O++Q.drop j):=(m.swap.endA sQ hi).swap
theorem Mg.lastA (m:Mg key P Q O i j) (sP:UpL key P) (sQ:UpL key Q) (h: ∀x∈Q,∀y∈P.drop i,key x≤key y):MgE key P Q (O++Q.drop j++P.drop i):=by
 have:=m.addB sQ (Q.length - j) (fun x hx y hy=>h x (List.mem_of_mem_drop (List.mem_of_mem_take hx)) y hy)
 rw [List.take_of_length_le (by rw [List.length_drop];exact Nat.le_refl _)] at this
 exact this.endA sP (by lia)
theorem Mg.nil (h1:i=0) (h2:j=0):Mg key P Q [] i j:=by
 subst h1 h2
 exact ⟨by simp,List.Pairwise.nil,fun x hx=>(by cases hx),fun x hx=>(by cases hx)⟩
theorem up_head {l:List Keyed} (h:UpL key l) {x:Keyed} {i:Nat} (hx:l[i]?=some x): ∀y∈l.drop i,key x≤key y:=by
 have hi:i < l.length:=(List.getElem?_eq_some_iff.mp hx).1
 have e:l.drop i=x::l.drop (i + 1):=by
  rw [List.drop_eq_getElem_cons hi,(List.getElem?_eq_some_iff.mp hx).2]
 have sd:UpL key (l.drop i):=h.sublist (List.drop_sublist _ _)
 unfold UpL at sd
 rw [e,List.pairwise_cons] at sd
 intro y hy
 rw [e] at hy
 rcases List.mem_cons.mp hy with rfl | hy
 · exact Int.le_refl _
 · exact sd.1 y hy
theorem take_one {l:List Keyed} {x:Keyed} {i:Nat} (hx:l[i]?=some x):(l.drop i).take 1=[x]:=by
 have hi:i < l.length:=(List.getElem?_eq_some_iff.mp hx).1
 rw [List.drop_eq_getElem_cons hi,(List.getElem?_eq_some_iff.mp hx).2]
 rfl
theorem Mg.pushA (m:Mg key P Q O i j) (sP:UpL key P) (sQ:UpL key Q) {x y:Keyed} (hx:P[i]?=some x) (hy:Q[j]?=some y) (h:key x≤key y):Mg key P Q (O++[x]) (i + 1) j:=by
 have:=m.addA sP 1 (fun z hz u hu=>by
  rw [take_one hx] at hz
  rw [List.mem_singleton.mp hz]
  exact Int.le_trans h (up_head sQ hy u hu))
 rwa [take_one hx] at this
theorem Mg.pushB (m:Mg key P Q O i j) (sP:UpL key P) (sQ:UpL key Q) {x y:Keyed} (hx:P[i]?=some x) (hy:Q[j]?=some y) (h:key y≤key x):Mg key P Q (O++[y]) i (j + 1):=(m.swap.pushA sQ sP hy hx h).swap
end
section
variable {prog:Program} {w:World} {A:Around} {E:Value→Shared→Prop} {s:Shared}
noncomputable abbrev Stt (st st':SortSt):Prop:=kindOf st'=kindOf st∧arrOf st'=arrOf st∧pendingOf st'=pendingOf st∧failedOf st'=failedOf st
theorem ex_drop (a:Array Keyed) (i:Nat):(a.extract i a.size).toList=a.toList.drop i:=by
 rw [Array.toList_extract,List.extract_eq_take_drop,List.take_of_length_le (by rw [List.length_drop,Array.length_toList];exact Nat.le_refl _)]
theorem ex_take (a:Array Keyed) (i k:Nat):(a.extract i (i + k)).toList=(a.toList.drop i).take k:=by
 rw [Array.toList_extract,List.extract_eq_take_drop,Nat.add_sub_cancel_left]
theorem at_list {a:Array Keyed} {i:Nat} {x:Keyed} (h:a[i]?=some x):a.toList[i]?=some x:=by rw [← h,Array.getElem?_toList]
theorem ws_setG {g:Nat} {Q:PUnit→SortSt→Prop} {st:SortSt} (h: ∀st',Stt st st'→Q ⟨⟩ st'):WS prog w A E s (PySem.W.Fast.tw5464061087179277862 g) Q st:=by
 unfold PySem.W.Fast.tw5464061087179277862
 rw [← PySem.W.Fast.te12456147031677567982]
 exact wpS_modify (h _ ⟨rfl,rfl,rfl,rfl⟩)
theorem ws_rule {x:String} {Q:Unit→SortSt→Prop} {st:SortSt} (h:Q () st):WS prog w A E s (liftM (rule x)) Q st:=wpS_lift (wpAny_rule ⟨rfl,h⟩)
theorem ws_ite {α:Type} {c:Prop} [Decidable c] {t e:StateT SortSt Sem α} {Q:α→SortSt→Prop} {st:SortSt} (h1:c→WS prog w A E s t Q st) (h2: ¬c→WS prog w A E s e Q st):WS prog w A E s (if c then t else e) Q st:=by
 by_cases h:c
 · rw [if_pos h];exact h1 h
 · rw [if_neg h];exact h2 h
theorem up_at {key:Keyed→Int} {a:Array Keyed} (u:UpL key a.toList) {i j:Nat} (hij:i≤j) (hj:j < a.size):key (a.getD i default)≤key (a.getD j default):=by
 have ei:a.getD i default=a[i]'(by lia):=by simp [show i < a.size by lia]
 have ej:a.getD j default=a[j]:=by simp [hj]
 rw [ei,ej]
 rcases Nat.lt_or_eq_of_le hij with h | h
 · have:=List.pairwise_iff_getElem.mp u i j (by rw [Array.length_toList];lia) (by rw [Array.length_toList];lia) h
   simpa using this
 · subst h;exact Int.le_refl _
theorem bey_mono {key:Keyed→Int} {a:Array Keyed} (u:UpL key a.toList) {left:Bool} {x:Keyed} {base n:Nat} (hn:base + n≤a.size): ∀i j,i≤j→j < n→bey key left x a base j=true→bey key left x a base i=true:=fun i j hij hj h=>by
 have:=up_at u (i:=base + i) (j:=base + j) (by lia) (by lia)
 unfold bey at h ⊢
 cases left with
 | true=>
   rw [if_pos rfl,decide_eq_true_eq] at h ⊢
   lia
 | false=>
   rw [if_neg Bool.false_ne_true,Bool.not_eq_true',decide_eq_false_iff_not] at h ⊢
   lia
theorem ws_galF {key:Keyed→Int} {κ:SortKind} {ok:Keyed→Prop} (L:LtOk prog w A E s key κ ok) {x:Keyed} {a:Array Keyed} {base n hint:Nat} {st:SortSt} {Q:Option Nat→SortSt→Prop} (hx:ok x) (hn:base + n≤a.size) (oa: ∀x∈a.toList,ok x) (u:UpL key a.toList) (hk:kindOf st=κ) (hh:hint < n)
 (k: ∀r,r≤n→(∀ z∈(a.toList.drop base).take r,key z≤key x)→(∀ z,r < n→a[base + r]?=some z→key x < key z)→Q (some r) st):WS prog w A E s (galT false x a base n hint) Q st:=by
 refine ws_gal L hx hn (fun i p q_ q_ h=>oa p (List.mem_of_getElem? (at_list h))) hk hh (bey_mono u hn) fun r h1 h2 h3=>k r h1 (fun z hz=> ?_) fun z hr hz=> ?_
 · obtain ⟨i,hi,e⟩:=List.getElem_of_mem hz
   have hi':i < r:=by rw [List.length_take] at hi;lia
   have:=h2 i hi'
   unfold bey at this
   rw [if_neg Bool.false_ne_true,Bool.not_eq_true',decide_eq_false_iff_not] at this
   have e2:a.getD (base + i) default=z:=by
    rw [← e]
    simp [show base + i < a.size by lia]
   rw [e2] at this
   lia
 · have:=h3 r (Nat.le_refl _) hr
   unfold bey at this
   rw [if_neg Bool.false_ne_true,Bool.not_eq_false',decide_eq_true_eq] at this
   have e2:a.getD (base + r) default=z:=by rw [Array.getD_eq_getD_getElem?,hz];rfl
   rwa [e2] at this
theorem ws_galT {key:Keyed→Int} {κ:SortKind} {ok:Keyed→Prop} (L:LtOk prog w A E s key κ ok) {x:Keyed} {a:Array Keyed} {base n hint:Nat} {st:SortSt} {Q:Option Nat→SortSt→Prop} (hx:ok x) (hn:base + n≤a.size) (oa: ∀x∈a.toList,ok x) (u:UpL key a.toList) (hk:kindOf st=κ) (hh:hint < n)
 (k: ∀r,r≤n→(∀ z∈(a.toList.drop base).take r,key z < key x)→(∀ z,r < n→a[base + r]?=some z→key x≤key z)→Q (some r) st):WS prog w A E s (galT true x a base n hint) Q st:=by
 refine ws_gal L hx hn (fun i p q_ q_ h=>oa p (List.mem_of_getElem? (at_list h))) hk hh (bey_mono u hn) fun r h1 h2 h3=>k r h1 (fun z hz=> ?_) fun z hr hz=> ?_
 · obtain ⟨i,hi,e⟩:=List.getElem_of_mem hz
   have hi':i < r:=by rw [List.length_take] at hi;lia
   have:=h2 i hi'
   unfold bey at this
   rw [if_pos rfl,decide_eq_true_eq] at this
   have e2:a.getD (base + i) default=z:=by
    rw [← e]
    simp [show base + i < a.size by lia]
   rwa [e2] at this
 · have:=h3 r (Nat.le_refl _) hr
   unfold bey at this
   rw [if_pos rfl,decide_eq_false_iff_not] at this
   have e2:a.getD (base + r) default=z:=by rw [Array.getD_eq_getD_getElem?,hz];rfl
   rw [e2] at this
   lia
section
variable {key:Keyed→Int} {a b out:Array Keyed} {ia ib:Nat}
noncomputable abbrev MgA (key:Keyed→Int) (a b out:Array Keyed) (ia ib:Nat):Prop:=Mg key a.toList b.toList out.toList ia ib
noncomputable abbrev MgF (key:Keyed→Int) (a b r:Array Keyed):Prop:=MgE key a.toList b.toList r.toList
theorem MgA.pA (m:MgA key a b out ia ib) (sa:UpL key a.toList) (sb:UpL key b.toList) {x y:Keyed} (hx:a[ia]?=some x) (hy:b[ib]?=some y) (h:key x≤key y):MgA key a b (out.push x) (ia + 1) ib:=by
 unfold MgA
 rw [Array.toList_push]
 exact Mg.pushA m sa sb (at_list hx) (at_list hy) h
theorem MgA.pB (m:MgA key a b out ia ib) (sa:UpL key a.toList) (sb:UpL key b.toList) {x y:Keyed} (hx:a[ia]?=some x) (hy:b[ib]?=some y) (h:key y≤key x):MgA key a b (out.push y) ia (ib + 1):=by
 unfold MgA
 rw [Array.toList_push]
 exact Mg.pushB m sa sb (at_list hx) (at_list hy) h
theorem MgA.xA (m:MgA key a b out ia ib) (sa:UpL key a.toList) (sb:UpL key b.toList) {y:Keyed} {k:Nat} (hy:b[ib]?=some y) (h: ∀z∈(a.toList.drop ia).take k,key z≤key y):MgA key a b (out++a.extract ia (ia + k)) (ia + k) ib:=by
 unfold MgA
 rw [Array.toList_append,ex_take]
 exact Mg.addA m sa k fun z hz u hu=>Int.le_trans (h z hz) (up_head sb (at_list hy) u hu)
theorem MgA.xB (m:MgA key a b out ia ib) (sa:UpL key a.toList) (sb:UpL key b.toList) {x:Keyed} {k:Nat} (hx:a[ia]?=some x) (h: ∀z∈(b.toList.drop ib).take k,key z≤key x):MgA key a b (out++b.extract ib (ib + k)) ia (ib + k):=by
 unfold MgA
 rw [Array.toList_append,ex_take]
 exact Mg.addB m sb k fun z hz u hu=>Int.le_trans (h z hz) (up_head sa (at_list hx) u hu)
theorem MgA.eB (m:MgA key a b out ia ib) (sa:UpL key a.toList) (h:b.size≤ib):MgF key a b (out++a.extract ia++b.extract ib):=by
 unfold MgF
 rw [Array.toList_append,Array.toList_append,ex_drop,ex_drop,List.drop_of_length_le (by rw [Array.length_toList];exact h:b.toList.length≤ib),List.append_nil]
 exact Mg.endA m sa (by rw [Array.length_toList];exact h)
theorem MgA.eA (m:MgA key a b out ia ib) (sb:UpL key b.toList) (h:a.size≤ia):MgF key a b (out++a.extract ia++b.extract ib):=by
 unfold MgF
 rw [Array.toList_append,Array.toList_append,ex_drop,ex_drop,List.drop_of_length_le (by rw [Array.length_toList];exact h:a.toList.length≤ia),List.append_nil]
 exact Mg.endB m sb (by rw [Array.length_toList];exact h)
theorem MgA.lA (m:MgA key a b out ia ib) (sa:UpL key a.toList) (sb:UpL key b.toList) (h: ∀x∈b.toList,key x≤key (a.getD (a.size - 1) default)) (hi:ia + 1=a.size):MgF key a b (out++b.extract ib++a.extract ia):=by
 unfold MgF
 rw [Array.toList_append,Array.toList_append,ex_drop,ex_drop]
 refine Mg.lastA m sa sb fun x hx y hy=> ?_
 have e:a.toList.drop ia=[a[ia]'(by lia)]:=by
  rw [List.drop_eq_getElem_cons (by rw [Array.length_toList];lia),List.drop_of_length_le (by rw [Array.length_toList];lia)]
  simp
 rw [e] at hy
 rw [List.mem_singleton.mp hy]
 have:=h x hx
 rwa [show a.getD (a.size - 1) default=a[ia]'(by lia) by simp [show a.size - 1=ia by lia,show ia < a.size by lia]] at this
end
end
end L2
set_option Elab.async false
set_option linter.all false
set_option maxRecDepth 100000
set_option maxHeartbeats 4000000
namespace L2
open PySem PySem.Spec PySem.W PyProof.Rows
section
variable {prog:Program} {w:World} {A:Around} {E:Value→Shared→Prop} {s:Shared}
theorem Stt.trans {a b c:SortSt} (h:Stt a b) (h':Stt b c):Stt a c:=⟨h'.1.trans h.1,h'.2.1.trans h.2.1,h'.2.2.1.trans h.2.2.1,h'.2.2.2.trans h.2.2.2⟩
theorem ws_mlo {key:Keyed→Int} {κ:SortKind} {ok:Keyed→Prop} (L:LtOk prog w A E s key κ ok) {a b:Array Keyed} {st:SortSt} {R:Array Keyed→SortSt→Prop} (hk:kindOf st=κ) (oa: ∀x∈a.toList,ok x) (ob: ∀x∈b.toList,ok x) (sa:UpL key a.toList) (sb:UpL key b.toList) (ha:0 < a.size) (hb:0 < b.size)
 (h0:key (b.getD 0 default)≤key (a.getD 0 default)) (hl: ∀x∈b.toList,key x≤key (a.getD (a.size - 1) default)) (k: ∀r st',MgF key a b r→Stt st st'→R r st'):WS prog w A E s (mloT a b) R st:=by
 have ea: ∀i (h:i < a.size),a[i]?=some a[i]:=fun i h=>Array.getElem?_eq_getElem h
 have eb: ∀i (h:i < b.size),b[i]?=some b[i]:=fun i h=>Array.getElem?_eq_getElem h
 have oka: ∀i (h:i < a.size),ok a[i]:=fun i h=>oa _ (List.mem_of_getElem? (at_list (ea i h)))
 have okb: ∀i (h:i < b.size),ok b[i]:=fun i h=>ob _ (List.mem_of_getElem? (at_list (eb i h)))
 have m0:MgA key a b #[b[0]] 0 1:=Mg.pushB (O:=[]) (Mg.nil rfl rfl) sa sb (at_list (ea 0 ha)) (at_list (eb 0 hb)) (by simpa [ha,hb] using h0)
 unfold mloT PySem.W.Fast.tw17852939151971871240
 rw [← PySem.W.Fast.te12456147031677567982,← PySem.W.Fast.te2398297429280069960,← PySem.W.Fast.te8050958516035322399,← PySem.W.Fast.te494991955013373658]
 refine wpS_bind (ws_rule (wpS_bind (ws_el (eb 0 hb) ?_)))
 refine ws_ite (fun c1=>wpS_pure (k _ _ (m0.eB sa (by have:=eq_of_beq c1;lia)) ⟨rfl,rfl,rfl,rfl⟩)) fun c1=> ?_
 refine ws_ite (fun c2=>wpS_pure (k _ _ (m0.lA sa sb hl (by have:=eq_of_beq c2;lia)) ⟨rfl,rfl,rfl,rfl⟩)) fun c2=> ?_
 have c1:1≠b.size:=fun z=>c1 (beq_iff_eq.mpr z)
 have c2:0 + 1≠a.size:=fun z=>c2 (beq_iff_eq.mpr z)
 refine wpS_bind (wpS_get ?_)
 refine wpS_bind (wpS_forRange (fun j c st'=>∃out ia ib mg,c=(none,out,ia,ib,mg)∧MgA key a b out ia ib∧ia + 1 < a.size∧ib < b.size∧j≤ia + ib∧Stt st st') ?_ ?_ ⟨_,_,_,_,rfl,m0,by lia,by lia,by lia,⟨rfl,rfl,rfl,rfl⟩⟩)
 · rintro i c st' _ hi ⟨out,ia,ib,mg,rfl,m,i1,i2,ct,t⟩
   refine wpS_bind (wpS_mono (Q:=fun c st''=>Stt st st''∧((∃ r,c.1=some r∧MgF key a b r)∨(c.1=none∧MgA key a b c.2.1 c.2.2.1 c.2.2.2.1∧c.2.2.1 + 1 < a.size∧c.2.2.2.1 < b.size∧i + 1≤c.2.2.1 + c.2.2.2.1)))
    (wpS_forRange (fun j c st''=>∃out ia ib ac bc,c=(none,out,ia,ib,ac,bc)∧MgA key a b out ia ib∧ia + 1 < a.size∧ib < b.size∧i + j≤ia + ib∧Stt st st'') ?_ ?_ ⟨_,_,_,_,_,rfl,m,i1,i2,by lia,t⟩) ?_)
   · rintro j c st' _ hj ⟨out,ia,ib,ac,bc,rfl,m,i1,i2,ct,t⟩
     dsimp only
     refine wpS_bind (ws_el (eb ib i2) (wpS_bind (ws_el (ea ia (by lia)) (wpS_bind (L _ _ _ _ (okb ib i2) (oka ia (by lia)) (t.1.trans hk) ?_)))))
     by_cases h:key b[ib] < key a[ia]
     · rw [decide_eq_true h]
       have m1:=m.pB sa sb (ea ia (by lia)) (eb ib i2) (Int.le_of_lt h)
       refine ws_ite (fun q_=>wpS_bind (ws_el (eb ib i2) ?_)) (fun z=>absurd rfl z)
       refine ws_ite (fun c=>wpS_pure ⟨t,.inl ⟨_,rfl,m1.eB sa (by have:=eq_of_beq c;lia)⟩⟩) fun c=> ?_
       have c:ib + 1≠b.size:=fun z=>c (beq_iff_eq.mpr z)
       exact ws_ite (fun q_=>wpS_pure ⟨t,.inr ⟨rfl,m1,i1,(by show ib + 1 < _;lia),(by show i + 1≤ia + (ib + 1);lia)⟩⟩) fun q_=>wpS_pure ⟨_,_,_,_,_,rfl,m1,i1,by lia,by lia,t⟩
     · rw [decide_eq_false h]
       have m1:=m.pA sa sb (ea ia (by lia)) (eb ib i2) (by lia)
       refine ws_ite (fun z=>absurd z Bool.false_ne_true) (fun q_=>wpS_bind (ws_el (ea ia (by lia)) ?_))
       refine ws_ite (fun c=>wpS_pure ⟨t,.inl ⟨_,rfl,m1.lA sa sb hl (by have:=eq_of_beq c;lia)⟩⟩) fun c=> ?_
       have c:ia + 1 + 1≠a.size:=fun z=>c (beq_iff_eq.mpr z)
       exact ws_ite (fun q_=>wpS_pure ⟨t,.inr ⟨rfl,m1,(by show ia + 1 + 1 < _;lia),i2,(by show i + 1≤ia + 1 + ib;lia)⟩⟩) fun q_=>wpS_pure ⟨_,_,_,_,_,rfl,m1,by lia,i2,by lia,t⟩
   · rintro c st' ⟨out,ia,ib,ac,bc,rfl,m,i1,i2,ct,t⟩
     lia
   · rintro ⟨r1,out,ia,ib,ac,bc⟩ st' ⟨t,⟨r,e,hr⟩ | ⟨e,m,i1,i2,ct⟩⟩
     · cases e
       exact wpS_pure (wpS_pure (k _ _ hr t))
     cases e
     refine wpS_bind (ws_rule ?_)
     refine wpS_bind (wpS_mono (Q:=fun c st''=>Stt st st''∧((∃ r,c.1=some r∧MgF key a b r)∨(c.1=none∧MgA key a b c.2.1 c.2.2.1 c.2.2.2.1∧c.2.2.1 + 1 < a.size∧c.2.2.2.1 < b.size∧i + 1≤c.2.2.1 + c.2.2.2.1)))
      (wpS_forRange (fun j c st''=>∃out ia ib mg ac bc,c=(none,out,ia,ib,mg,ac,bc)∧MgA key a b out ia ib∧ia + 1 < a.size∧ib < b.size∧i + 1 + j≤ia + ib∧Stt st st'') ?_ ?_ ⟨_,_,_,_,_,_,rfl,m,i1,i2,by lia,t⟩) ?_)
     · rintro j c st' _ hj ⟨out,ia,ib,mg,ac,bc,rfl,m,i1,i2,ct,t⟩
       dsimp only
       refine ws_ite (fun q_=> ?_) (fun q_=> ?_)
       all_goals
        refine wpS_bind (ws_setG fun st1 t1=> ?_)
        have tt:=t.trans t1
        refine wpS_bind (ws_el (eb ib i2) ?_)
        refine wpS_bind (ws_galF L (okb ib i2) (by lia) oa sa (tt.1.trans hk) (by lia) fun r r1 r2 r3=> ?_)
        have m1:=m.xA sa sb (eb ib i2) r2
        dsimp only
        refine ws_ite (fun r0=>ws_ite (fun c=>wpS_pure ⟨tt,.inl ⟨_,rfl,m1.lA sa sb hl (by have:=eq_of_beq c;lia)⟩⟩) fun c=>ws_ite (fun c=>wpS_pure ⟨tt,.inl ⟨_,rfl,m1.eA sb (by have:=eq_of_beq c;lia)⟩⟩) fun c'=> ?_) (fun r0=> ?_)
        have c:ia + r + 1≠a.size:=fun z=>c (beq_iff_eq.mpr z)
        have c':ia + r≠a.size:=fun z=>c' (beq_iff_eq.mpr z)
        have m2:=m1
        obtain ⟨IA,hIA⟩: ∃n,n=ia + r:=⟨_,rfl⟩
        have x3:=r3 _ (by lia) (ea (ia + r) (by lia))
        rotate_left
        have r00:r=0:=by lia
        subst r00
        have m2:=m
        obtain ⟨IA,hIA⟩: ∃n,n=ia:=⟨_,rfl⟩
        have x3:=r3 _ (by lia) (ea ia (by lia))
        all_goals
         refine wpS_bind (ws_el (eb ib i2) ?_)
         have m3:=m2.pB sa sb (ea _ (by lia)) (eb ib i2) (Int.le_of_lt x3)
         refine ws_ite (fun c=>wpS_pure ⟨tt,.inl ⟨_,rfl,m3.eB sa (by have:=eq_of_beq c;lia)⟩⟩) fun c4=> ?_
         have c4:ib + 1≠b.size:=fun z=>c4 (beq_iff_eq.mpr z)
         refine wpS_bind (ws_el (ea _ (by lia)) ?_)
         refine wpS_bind (ws_galT L (oka _ (by lia)) (by lia) ob sb (tt.1.trans hk) (by lia) fun q q1 q2 q3=> ?_)
         have m4:=m3.xB sa sb (ea _ (by lia)) (fun z hz=>Int.le_of_lt (q2 z hz))
         dsimp only
         refine ws_ite (fun q0=>ws_ite (fun c=>wpS_pure ⟨tt,.inl ⟨_,rfl,m4.eB sa (by have:=eq_of_beq c;lia)⟩⟩) fun c5=> ?_) (fun q0=> ?_)
         have c5:ib + 1 + q≠b.size:=fun z=>c5 (beq_iff_eq.mpr z)
         have m5:=m4
         have x5:=q3 _ (by lia) (eb (ib + 1 + q) (by lia))
         rotate_left
         have q00:q=0:=by lia
         subst q00
         have m5:=m3
         have x5:=q3 _ (by lia) (eb (ib + 1) (by lia))
         all_goals
          refine wpS_bind (ws_el (ea _ (by lia)) ?_)
          have m6:=m5.pA sa sb (ea _ (by lia)) (eb _ (by lia)) x5
          refine ws_ite (fun c=>wpS_pure ⟨tt,.inl ⟨_,rfl,m6.lA sa sb hl (by have:=eq_of_beq c;lia)⟩⟩) fun c6=> ?_
          have c6:IA + 1 + 1≠a.size:=fun z=>c6 (beq_iff_eq.mpr (hIA▸z))
          exact ws_ite (fun q_=>wpS_pure ⟨tt,.inr ⟨rfl,m6,(by dsimp only;lia),(by dsimp only;lia),(by dsimp only;lia)⟩⟩) fun q_=>wpS_pure ⟨_,_,_,_,_,_,rfl,m6,by lia,by lia,by lia,tt⟩
     · rintro c st' ⟨out,ia,ib,mg,ac,bc,rfl,m,i1,i2,ct,t⟩
       lia
     · rintro ⟨r1,out,ia,ib,mg,ac,bc⟩ st' ⟨t,⟨r,e,hr⟩ | ⟨e,m,i1,i2,ct⟩⟩
       · cases e
         exact wpS_pure (wpS_pure (k _ _ hr t))
       cases e
       exact wpS_bind (ws_setG fun st1 t1=>wpS_pure ⟨_,_,_,_,rfl,m,i1,i2,ct,t.trans t1⟩)
 · rintro c st' ⟨out,ia,ib,mg,rfl,m,i1,i2,ct,t⟩
   lia
end
end L2
set_option Elab.async false
set_option linter.all false
set_option maxRecDepth 100000
set_option maxHeartbeats 4000000
namespace L2
open PySem PySem.Spec PySem.W PyProof.Rows
section
variable {key:Keyed→Int} {P Q O:List Keyed} {i j:Nat}
structure Mh (key:Keyed→Int) (P Q O:List Keyed) (i j:Nat):Prop where
 pm:O.Perm (P.drop i++Q.drop j)
 up:UpL key O
 la: ∀x∈P.take i,∀y∈O,key x≤key y
 lb: ∀x∈Q.take j,∀y∈O,key x≤key y
theorem Mh.swap (m:Mh key P Q O i j):Mh key Q P O j i:=⟨m.pm.trans List.perm_append_comm,m.up,m.lb,m.la⟩
theorem Mh.addA (m:Mh key P Q O i j) (sP:UpL key P) {k:Nat} (hk:k≤i) (h: ∀x∈Q.take j,∀y∈(P.take i).drop k,key x≤key y):Mh key P Q ((P.take i).drop k++O) k j:=by
 have e:P.take i=P.take k++(P.take i).drop k:=by
  conv=>lhs;rw [← List.take_append_drop k (P.take i)]
  rw [List.take_take,Nat.min_eq_left hk]
 have e2:P.drop k=(P.take i).drop k++P.drop i:=by
  conv=>lhs;rw [← List.take_append_drop i P]
  rcases Nat.le_total i P.length with hl | hl
  · rw [List.drop_append_of_le_length (by rw [List.length_take];lia)]
  · rw [List.drop_of_length_le hl,List.append_nil,List.append_nil]
 have sd:UpL key (P.take i):=sP.sublist (List.take_sublist _ _)
 have sd2:=sd
 unfold UpL at sd2
 rw [e,List.pairwise_append] at sd2
 refine ⟨?_,?_,fun x hx y hy=> ?_,fun x hx y hy=> ?_⟩
 · rw [e2,List.append_assoc]
   exact m.pm.append_left _
 · exact List.pairwise_append.mpr ⟨sd2.2.1,m.up,fun x hx y hy=>m.la x (List.mem_of_mem_drop hx) y hy⟩
 · rcases List.mem_append.mp hy with hy | hy
   · exact sd2.2.2 x hx y hy
   · exact m.la x (by rw [e];exact List.mem_append_left _ hx) y hy
 · rcases List.mem_append.mp hy with hy | hy
   · exact h x hx y hy
   · exact m.lb x hx y hy
theorem Mh.addB (m:Mh key P Q O i j) (sQ:UpL key Q) {k:Nat} (hk:k≤j) (h: ∀x∈P.take i,∀y∈(Q.take j).drop k,key x≤key y):Mh key P Q ((Q.take j).drop k++O) i k:=(m.swap.addA sQ hk h).swap
theorem Mh.done (m:Mh key P Q O 0 0):MgE key P Q O:=⟨m.pm,m.up⟩
theorem Mh.endB (m:Mh key P Q O 0 j) (sQ:UpL key Q):MgE key P Q (Q.take j++O):=(m.addB sQ (Nat.zero_le _) fun x hx=>by cases hx).done
theorem Mh.endA (m:Mh key P Q O i 0) (sP:UpL key P):MgE key P Q (P.take i++O):=(m.addA sP (Nat.zero_le _) fun x hx=>by cases hx).done
theorem Mh.fstB (m:Mh key P Q O i j) (sP:UpL key P) (sQ:UpL key Q) (h: ∀x∈Q.take j,∀y∈P,key x≤key y):MgE key P Q (Q.take j++(P.take i++O)):=
 ((m.addA sP (Nat.zero_le _) fun x hx y hy=>h x hx y (List.mem_of_mem_take hy)).addB sQ (Nat.zero_le _) fun x hx=>by cases hx).done
theorem up_last {l:List Keyed} (h:UpL key l) {x:Keyed} {i:Nat} (hx:l[i]?=some x): ∀y∈l.take (i + 1),key y≤key x:=by
 intro y hy
 rw [List.take_add_one,hx] at hy
 have hi:i < l.length:=(List.getElem?_eq_some_iff.mp hx).1
 rcases List.mem_append.mp hy with hy | hy
 · obtain ⟨j,hj,e⟩:=List.getElem_of_mem hy
   rw [List.length_take] at hj
   have:=List.pairwise_iff_getElem.mp h j i (by lia) hi (by lia)
   rw [(List.getElem?_eq_some_iff.mp hx).2] at this
   rw [← e,List.getElem_take]
   exact this
 · have hy:y=x:=by simpa using hy
   rw [hy]
   exact Int.le_refl _
theorem drop_one {l:List Keyed} {x:Keyed} {i:Nat} (hx:l[i]?=some x):(l.take (i + 1)).drop i=[x]:=by
 have hi:i < l.length:=(List.getElem?_eq_some_iff.mp hx).1
 rw [List.take_add_one,hx,List.drop_append_of_le_length (by rw [List.length_take];lia),List.drop_of_length_le (by rw [List.length_take];lia)]
 rfl
theorem Mh.pushA (m:Mh key P Q O (i + 1) (j + 1)) (sP:UpL key P) (sQ:UpL key Q) {x y:Keyed} (hx:P[i]?=some x) (hy:Q[j]?=some y) (h:key y≤key x):Mh key P Q ([x]++O) i (j + 1):=by
 have:=m.addA sP (Nat.le_succ i) (fun z hz u hu=>by
  rw [drop_one hx] at hu
  rw [List.mem_singleton.mp hu]
  exact Int.le_trans (up_last sQ hy z hz) h)
 rwa [drop_one hx] at this
theorem Mh.pushB (m:Mh key P Q O (i + 1) (j + 1)) (sP:UpL key P) (sQ:UpL key Q) {x y:Keyed} (hx:P[i]?=some x) (hy:Q[j]?=some y) (h:key x≤key y):Mh key P Q ([y]++O) (i + 1) j:=(m.swap.pushA sQ sP hy hx h).swap
end
section
variable {key:Keyed→Int} {a b out:Array Keyed} {na nb:Nat}
noncomputable abbrev MhA (key:Keyed→Int) (a b out:Array Keyed) (na nb:Nat):Prop:=Mh key a.toList b.toList out.toList.reverse na nb
theorem ex_zero (a:Array Keyed) (i:Nat):(a.extract 0 i).toList=a.toList.take i:=by
 rw [Array.toList_extract,List.extract_eq_take_drop,Nat.sub_zero,List.drop_zero]
theorem ex_mid (a:Array Keyed) (i k:Nat):(a.extract k i).toList=(a.toList.take i).drop k:=by
 rw [Array.toList_extract,List.extract_eq_take_drop,List.drop_take]
theorem MhA.pA (m:MhA key a b out (na + 1) (nb + 1)) (sa:UpL key a.toList) (sb:UpL key b.toList) {x y:Keyed} (hx:a[na]?=some x) (hy:b[nb]?=some y) (h:key y≤key x):MhA key a b (out.push x) na (nb + 1):=by
 unfold MhA
 rw [Array.toList_push,List.reverse_append]
 exact Mh.pushA m sa sb (at_list hx) (at_list hy) h
theorem MhA.pB (m:MhA key a b out (na + 1) (nb + 1)) (sa:UpL key a.toList) (sb:UpL key b.toList) {x y:Keyed} (hx:a[na]?=some x) (hy:b[nb]?=some y) (h:key x≤key y):MhA key a b (out.push y) (na + 1) nb:=by
 unfold MhA
 rw [Array.toList_push,List.reverse_append]
 exact Mh.pushB m sa sb (at_list hx) (at_list hy) h
theorem MhA.xA (m:MhA key a b out na (nb + 1)) (sa:UpL key a.toList) (sb:UpL key b.toList) {y:Keyed} {k:Nat} (hk:k≤na) (hy:b[nb]?=some y) (h: ∀z∈(a.toList.take na).drop k,key y≤key z):MhA key a b (out++(a.extract k na).reverse) k (nb + 1):=by
 unfold MhA
 rw [Array.toList_append,Array.toList_reverse,ex_mid,List.reverse_append,List.reverse_reverse]
 exact Mh.addA m sa hk fun u hu z hz=>Int.le_trans (up_last sb (at_list hy) u hu) (h z hz)
theorem MhA.xB (m:MhA key a b out (na + 1) nb) (sa:UpL key a.toList) (sb:UpL key b.toList) {x:Keyed} {k:Nat} (hk:k≤nb) (hx:a[na]?=some x) (h: ∀z∈(b.toList.take nb).drop k,key x≤key z):MhA key a b (out++(b.extract k nb).reverse) (na + 1) k:=by
 unfold MhA
 rw [Array.toList_append,Array.toList_reverse,ex_mid,List.reverse_append,List.reverse_reverse]
 exact Mh.addB m sb hk fun u hu z hz=>Int.le_trans (up_last sa (at_list hx) u hu) (h z hz)
theorem MhA.eA (m:MhA key a b out na nb) (sb:UpL key b.toList) (h:na=0):MgF key a b (a.extract 0 na++b.extract 0 nb++out.reverse):=by
 subst h
 unfold MgF
 rw [Array.toList_append,Array.toList_append,Array.toList_reverse,ex_zero,ex_zero,List.take_zero,List.nil_append]
 exact Mh.endB m sb
theorem MhA.eB (m:MhA key a b out na nb) (sa:UpL key a.toList) (h:nb=0):MgF key a b (a.extract 0 na++b.extract 0 nb++out.reverse):=by
 subst h
 unfold MgF
 rw [Array.toList_append,Array.toList_append,Array.toList_reverse,ex_zero,ex_zero,List.take_zero,List.append_nil]
 exact Mh.endA m sa
theorem MhA.fB (m:MhA key a b out na nb) (sa:UpL key a.toList) (sb:UpL key b.toList) (hb:0 < b.size) (h: ∀y∈a.toList,key (b.getD 0 default)≤key y) (hn:nb=1):MgF key a b (b.extract 0 nb++a.extract 0 na++out.reverse):=by
 subst hn
 unfold MgF
 rw [Array.toList_append,Array.toList_append,Array.toList_reverse,ex_zero,ex_zero,List.append_assoc]
 refine Mh.fstB m sa sb fun x hx y hy=> ?_
 have e:b.toList.take 1=[b[0]]:=by
  rw [List.take_one]
  have:b.toList[0]?=some b[0]:=at_list (Array.getElem?_eq_getElem hb)
  rw [List.head?_eq_getElem?,this];rfl
 rw [e] at hx
 rw [List.mem_singleton.mp hx]
 have:=h y hy
 rwa [show b.getD 0 default=b[0] by simp [hb]] at this
end
end L2
set_option Elab.async false
set_option linter.all false
set_option maxRecDepth 100000
set_option maxHeartbeats 4000000
namespace L2
open PySem PySem.Spec PySem.W PyProof.Rows
section
variable {prog:Program} {w:World} {A:Around} {E:Value→Shared→Prop} {s:Shared}
theorem ws_mhi {key:Keyed→Int} {κ:SortKind} {ok:Keyed→Prop} (L:LtOk prog w A E s key κ ok) {a b:Array Keyed} {st:SortSt} {R:Array Keyed→SortSt→Prop} (hk:kindOf st=κ) (oa: ∀x∈a.toList,ok x) (ob: ∀x∈b.toList,ok x) (sa:UpL key a.toList) (sb:UpL key b.toList) (ha:0 < a.size) (hb:0 < b.size)
 (h0: ∀y∈a.toList,key (b.getD 0 default)≤key y) (hl:key (b.getD (b.size - 1) default)≤key (a.getD (a.size - 1) default)) (k: ∀r st',MgF key a b r→Stt st st'→R r st'):WS prog w A E s (mhiT a b) R st:=by
 have ea: ∀i (h:i < a.size),a[i]?=some a[i]:=fun i h=>Array.getElem?_eq_getElem h
 have eb: ∀i (h:i < b.size),b[i]?=some b[i]:=fun i h=>Array.getElem?_eq_getElem h
 have oka: ∀i (h:i < a.size),ok a[i]:=fun i h=>oa _ (List.mem_of_getElem? (at_list (ea i h)))
 have okb: ∀i (h:i < b.size),ok b[i]:=fun i h=>ob _ (List.mem_of_getElem? (at_list (eb i h)))
 obtain ⟨NA,hNA⟩: ∃n,a.size=n + 1:=⟨a.size - 1,by lia⟩
 obtain ⟨NB,hNB⟩: ∃n,b.size=n + 1:=⟨b.size - 1,by lia⟩
 have m0:MhA key a b #[a[NA]] NA b.size:=by
  have:=Mh.pushA (key:=key) (P:=a.toList) (Q:=b.toList) (O:=[]) (i:=NA) (j:=NB) ⟨by rw [List.drop_of_length_le (by rw [Array.length_toList];lia),List.drop_of_length_le (by rw [Array.length_toList];lia)];exact List.Perm.refl _,List.Pairwise.nil,fun x q_ y hy=>(by cases hy),fun x q_ y hy=>(by cases hy)⟩ sa sb (at_list (ea NA (by lia))) (at_list (eb NB (by lia))) (by
   have e1:a.getD (a.size - 1) default=a[NA]:=by simp [hNA]
   have e2:b.getD (b.size - 1) default=b[NB]:=by simp [hNB]
   rwa [e1,e2] at hl)
  rw [hNB]
  exact this
 have eNA:a.size - 1=NA:=by lia
 unfold mhiT PySem.W.Fast.tw11371033205705349026
 rw [← PySem.W.Fast.te12456147031677567982,← PySem.W.Fast.te2398297429280069960,← PySem.W.Fast.te8050958516035322399,← PySem.W.Fast.te494991955013373658]
 refine wpS_bind (ws_rule ?_)
 rw [eNA]
 refine wpS_bind (ws_el (ea NA (by lia)) ?_)
 refine ws_ite (fun c1=>wpS_pure (k _ _ (m0.eA sb (eq_of_beq c1)) ⟨rfl,rfl,rfl,rfl⟩)) fun c1=> ?_
 refine ws_ite (fun c2=>wpS_pure (k _ _ (m0.fB sa sb hb h0 (eq_of_beq c2)) ⟨rfl,rfl,rfl,rfl⟩)) fun c2=> ?_
 have c1:NA≠0:=fun z=>c1 (beq_iff_eq.mpr z)
 have c2:b.size≠1:=fun z=>c2 (beq_iff_eq.mpr z)
 refine wpS_bind (wpS_get ?_)
 refine wpS_bind (wpS_forRange (fun j c st'=>∃out na nb mg,c=(none,na + 1,nb + 2,out,mg)∧MhA key a b out (na + 1) (nb + 2)∧na + 1≤a.size∧nb + 2≤b.size∧j + (na + 1) + (nb + 2)≤a.size + b.size∧Stt st st') ?_ ?_ ⟨_,NA - 1,NB - 1,_,by rw [show NA - 1 + 1=NA by lia,show NB - 1 + 2=b.size by lia],by rw [show NA - 1 + 1=NA by lia,show NB - 1 + 2=b.size by lia];exact m0,by lia,by lia,by lia,⟨rfl,rfl,rfl,rfl⟩⟩)
 · rintro i c st' _ hi ⟨out,na,nb,mg,rfl,m,i1,i2,ct,t⟩
   refine wpS_bind (wpS_mono (Q:=fun c st''=>Stt st st''∧((∃ r,c.1=some r∧MgF key a b r)∨(∃ na nb,c.1=none∧c.2.1=na + 1∧c.2.2.1=nb + 2∧MhA key a b c.2.2.2.1 (na + 1) (nb + 2)∧na + 1≤a.size∧nb + 2≤b.size∧i + 1 + (na + 1) + (nb + 2)≤a.size + b.size)))
    (wpS_forRange (fun j c st''=>∃out na nb ac bc,c=(none,na + 1,nb + 2,out,ac,bc)∧MhA key a b out (na + 1) (nb + 2)∧na + 1≤a.size∧nb + 2≤b.size∧i + j + (na + 1) + (nb + 2)≤a.size + b.size∧Stt st st'') ?_ ?_ ⟨_,_,_,_,_,rfl,m,i1,i2,by lia,t⟩) ?_)
   · rintro j c st' _ hj ⟨out,na,nb,ac,bc,rfl,m,i1,i2,ct,t⟩
     dsimp only
     rw [show nb + 2 - 1=nb + 1 by lia,show na + 1 - 1=na by lia]
     refine wpS_bind (ws_el (eb (nb + 1) (by lia)) (wpS_bind (ws_el (ea na (by lia)) (wpS_bind (L _ _ _ _ (okb (nb + 1) (by lia)) (oka na (by lia)) (t.1.trans hk) ?_)))))
     by_cases h:key b[nb + 1] < key a[na]
     · rw [decide_eq_true h]
       have m1:=m.pA sa sb (ea na (by lia)) (eb (nb + 1) (by lia)) (Int.le_of_lt h)
       refine ws_ite (fun q_=>wpS_bind (ws_el (ea na (by lia)) ?_)) (fun z=>absurd rfl z)
       refine ws_ite (fun c=>wpS_pure ⟨t,.inl ⟨_,rfl,m1.eA sb (eq_of_beq c)⟩⟩) fun c=> ?_
       have c:na≠0:=fun z=>c (beq_iff_eq.mpr z)
       obtain ⟨na,rfl⟩: ∃n,na=n + 1:=⟨na - 1,by lia⟩
       exact ws_ite (fun q_=>wpS_pure ⟨t,.inr ⟨na,nb,rfl,rfl,rfl,m1,by lia,by lia,by lia⟩⟩) fun q_=>wpS_pure ⟨_,na,nb,_,_,rfl,m1,by lia,by lia,by lia,t⟩
     · rw [decide_eq_false h]
       have m1:=m.pB sa sb (ea na (by lia)) (eb (nb + 1) (by lia)) (by lia)
       refine ws_ite (fun z=>absurd z Bool.false_ne_true) (fun q_=>wpS_bind (ws_el (eb (nb + 1) (by lia)) ?_))
       refine ws_ite (fun c=>wpS_pure ⟨t,.inl ⟨_,rfl,m1.fB sa sb hb h0 (eq_of_beq c)⟩⟩) fun c=> ?_
       have c:nb + 1≠1:=fun z=>c (beq_iff_eq.mpr z)
       obtain ⟨nb,rfl⟩: ∃n,nb=n + 1:=⟨nb - 1,by lia⟩
       exact ws_ite (fun q_=>wpS_pure ⟨t,.inr ⟨na,nb,rfl,rfl,rfl,m1,by lia,by lia,by lia⟩⟩) fun q_=>wpS_pure ⟨_,na,nb,_,_,rfl,m1,by lia,by lia,by lia,t⟩
   · rintro c st' ⟨out,ia,ib,ac,bc,rfl,m,i1,i2,ct,t⟩
     lia
   · rintro ⟨r1,na',nb',out,ac,bc⟩ st' ⟨t,⟨r,e,hr⟩ | ⟨na,nb,e,e1,e2,m,i1,i2,ct⟩⟩
     · cases e
       exact wpS_pure (wpS_pure (k _ _ hr t))
     cases e;cases e1;cases e2
     refine wpS_bind (ws_rule ?_)
     refine wpS_bind (wpS_mono (Q:=fun c st''=>Stt st st''∧((∃ r,c.1=some r∧MgF key a b r)∨(∃ na nb,c.1=none∧c.2.1=na + 1∧c.2.2.1=nb + 2∧MhA key a b c.2.2.2.1 (na + 1) (nb + 2)∧na + 1≤a.size∧nb + 2≤b.size∧i + 1 + (na + 1) + (nb + 2)≤a.size + b.size)))
      (wpS_forRange (fun j c st''=>∃out na nb mg ac bc,c=(none,na + 1,nb + 2,out,mg,ac,bc)∧MhA key a b out (na + 1) (nb + 2)∧na + 1≤a.size∧nb + 2≤b.size∧i + 1 + j + (na + 1) + (nb + 2)≤a.size + b.size∧Stt st st'') ?_ ?_ ⟨_,_,_,_,_,_,rfl,m,i1,i2,by lia,t⟩) ?_)
     · rintro j c st' _ hj ⟨out,na,nb,mg,ac,bc,rfl,m,i1,i2,ct,t⟩
       dsimp only
       refine ws_ite (fun q_=> ?_) (fun q_=> ?_)
       all_goals
        refine wpS_bind (ws_setG fun st1 t1=> ?_)
        have tt:=t.trans t1
        simp only [show nb + 2 - 1=nb + 1 from rfl,show na + 1 - 1=na from rfl]
        refine wpS_bind (ws_el (eb (nb + 1) (by lia)) ?_)
        refine wpS_bind (ws_galF L (okb (nb + 1) (by lia)) (by lia) oa sa (tt.1.trans hk) (by lia) fun r r1 r2 r3=> ?_)
        have r2: ∀i (h:i < r),key (a[i]'(by lia))≤key b[nb + 1]:=fun i h=>r2 _ (List.mem_take_iff_getElem.mpr ⟨i,by rw [List.length_drop,Array.length_toList];lia,by simp⟩)
        have m1:=m.xA sa sb r1 (eb (nb + 1) (by lia)) fun z hz=>by
         rw [List.drop_take] at hz
         by_cases hr:r < na + 1
         · have h1:=r3 _ hr (by rw [Nat.zero_add];exact ea r (by lia))
           have h2:=up_head sa (at_list (ea r (by lia))) z (List.mem_of_mem_take hz)
           lia
         · rw [show na + 1 - r=0 by lia,List.take_zero] at hz
           cases hz
        dsimp only
        refine ws_ite (fun r0=>ws_ite (fun c=>wpS_pure ⟨tt,.inl ⟨_,rfl,m1.eA sb (eq_of_beq c)⟩⟩) fun c=> ?_) (fun r0=> ?_)
        have c:r≠0:=fun z=>c (beq_iff_eq.mpr z)
        obtain ⟨PA,rfl⟩: ∃n,r=n + 1:=⟨r - 1,by lia⟩
        have m2:=m1
        have x3:=r2 PA (by lia)
        rotate_left
        obtain rfl:r=na + 1:=by lia
        obtain ⟨PA,hPA⟩: ∃n,n=na:=⟨_,rfl⟩
        subst hPA
        have m2:=m
        have x3:=r2 PA (by lia)
        all_goals
         try simp only [show PA + 1 - 1=PA from rfl]
         refine wpS_bind (ws_el (eb (nb + 1) (by lia)) ?_)
         have m3:=m2.pB sa sb (ea PA (by lia)) (eb (nb + 1) (by lia)) x3
         refine ws_ite (fun c=>wpS_pure ⟨tt,.inl ⟨_,rfl,m3.fB sa sb hb h0 (eq_of_beq c)⟩⟩) fun c4=> ?_
         have c4:nb + 1≠1:=fun z=>c4 (beq_iff_eq.mpr z)
         refine wpS_bind (ws_el (ea PA (by lia)) ?_)
         refine wpS_bind (ws_galT L (oka PA (by lia)) (by lia) ob sb (tt.1.trans hk) (by lia) fun q q1 q2 q3=> ?_)
         have q2: ∀i (h:i < q),key (b[i]'(by lia)) < key a[PA]:=fun i h=>q2 _ (List.mem_take_iff_getElem.mpr ⟨i,by rw [List.length_drop,Array.length_toList];lia,by simp⟩)
         have m4:=m3.xB sa sb q1 (ea PA (by lia)) fun z hz=>by
          rw [List.drop_take] at hz
          by_cases hr:q < nb + 1
          · have h1:=q3 _ hr (by rw [Nat.zero_add];exact eb q (by lia))
            have h2:=up_head sb (at_list (eb q (by lia))) z (List.mem_of_mem_take hz)
            lia
          · rw [show nb + 1 - q=0 by lia,List.take_zero] at hz
            cases hz
         dsimp only
         refine ws_ite (fun q0=>ws_ite (fun c=>wpS_pure ⟨tt,.inl ⟨_,rfl,m4.fB sa sb hb h0 (eq_of_beq c)⟩⟩) fun c5=>ws_ite (fun c=>wpS_pure ⟨tt,.inl ⟨_,rfl,m4.eB sa (eq_of_beq c)⟩⟩) fun c6=> ?_) (fun q0=> ?_)
         have c5:q≠1:=fun z=>c5 (beq_iff_eq.mpr z)
         have c6:q≠0:=fun z=>c6 (beq_iff_eq.mpr z)
         obtain ⟨PB,rfl⟩: ∃n,q=n + 2:=⟨q - 2,by lia⟩
         have m5:=m4
         have x5:=q2 (PB + 1) (by lia)
         rotate_left
         obtain rfl:q=nb + 1:=by lia
         obtain ⟨PB,rfl⟩: ∃n,nb=n + 1:=⟨nb - 1,by lia⟩
         have m5:=m3
         have x5:=q2 (PB + 1) (by lia)
         all_goals
          refine wpS_bind (ws_el (ea PA (by lia)) ?_)
          have m6:=m5.pA sa sb (ea PA (by lia)) (eb (PB + 1) (by lia)) (Int.le_of_lt x5)
          refine ws_ite (fun c=>wpS_pure ⟨tt,.inl ⟨_,rfl,m6.eA sb (eq_of_beq c)⟩⟩) fun c7=> ?_
          have c7:PA≠0:=fun z=>c7 (beq_iff_eq.mpr z)
          obtain ⟨PC,rfl⟩: ∃n,PA=n + 1:=⟨PA - 1,by lia⟩
          exact ws_ite (fun q_=>wpS_pure ⟨tt,.inr ⟨PC,PB,rfl,rfl,rfl,m6,(by lia),(by lia),(by lia)⟩⟩) fun q_=>wpS_pure ⟨_,PC,PB,_,_,_,rfl,m6,by lia,by lia,by lia,tt⟩
     · rintro c st' ⟨out,ia,ib,mg,ac,bc,rfl,m,i1,i2,ct,t⟩
       lia
     · rintro ⟨r1,na',nb',out,mg,ac,bc⟩ st' ⟨t,⟨r,e,hr⟩ | ⟨na,nb,e,e1,e2,m,i1,i2,ct⟩⟩
       · cases e
         exact wpS_pure (wpS_pure (k _ _ hr t))
       cases e;cases e1;cases e2
       exact wpS_bind (ws_setG fun st1 t1=>wpS_pure ⟨_,_,_,_,rfl,m,i1,i2,ct,t.trans t1⟩)
 · rintro c st' ⟨out,ia,ib,mg,rfl,m,i1,i2,ct,t⟩
   lia
end
end L2
set_option Elab.async false
set_option linter.all false
set_option maxRecDepth 100000
set_option maxHeartbeats 4000000
namespace L2
open PySem PySem.Spec PySem.W PyProof.Rows
section
variable {prog:Program} {w:World} {A:Around} {E:Value→Shared→Prop} {s:Shared} {key:Keyed→Int} {κ:SortKind} {ok:Keyed→Prop}
theorem seg_at {arr:Array Keyed} {T1 Al R:List Keyed} (e:arr.toList=T1++(Al++R)) {i:Nat} (h:i < Al.length):arr[T1.length + i]?=some Al[i]:=by
 rw [← Array.getElem?_toList,e,List.getElem?_append_right (by lia),Nat.add_sub_cancel_left,List.getElem?_append_left h,List.getElem?_eq_getElem h]
theorem seg_size {arr:Array Keyed} {T1 Al R:List Keyed} (e:arr.toList=T1++(Al++R)):T1.length + Al.length≤arr.size:=by
 have:=congrArg List.length e
 rw [Array.length_toList,List.length_append,List.length_append] at this
 lia
theorem ws_galL (L:LtOk prog w A E s key κ ok) {left:Bool} {x:Keyed} {arr:Array Keyed} {T1 Al R:List Keyed} (e:arr.toList=T1++(Al++R)) {hint:Nat} {st:SortSt} {Q:Option Nat→SortSt→Prop} (hx:ok x) (oa: ∀z∈Al,ok z) (u:UpL key Al) (hk:kindOf st=κ) (hh:hint < Al.length)
 (k: ∀r,r≤Al.length→(∀ z∈Al.take r,(if left=true then decide (key z < key x) else !decide (key x < key z))=true)→(∀ z∈Al.drop r,(if left=true then decide (key z < key x) else !decide (key x < key z))=false)→Q (some r) st):WS prog w A E s (galT left x arr T1.length Al.length hint) Q st:=by
 have g: ∀i (h:i < Al.length),arr.getD (T1.length + i) default=Al[i]:=fun i h=>by rw [Array.getD_eq_getD_getElem?,seg_at e h];rfl
 have b: ∀i (h:i < Al.length),bey key left x arr T1.length i=if left=true then decide (key Al[i] < key x) else !decide (key x < key Al[i]):=fun i h=>by unfold bey;rw [g i h]
 refine ws_gal L hx (seg_size e) (fun i p h1 h2 h3=> ?_) hk hh (fun i j hij hj h=> ?_) fun r h1 h2 h3=>k r h1 (fun z hz=> ?_) fun z hz=> ?_
 · have:=seg_at e (i:=i - T1.length) (by omega)
   rw [show T1.length + (i - T1.length)=i by omega,h3] at this
   cases this
   exact oa _ (List.getElem_mem _)
 · rw [b j hj] at h
   rw [b i (by omega)]
   have hle:key (Al[i]'(by omega))≤key Al[j]:=by
    rcases Nat.lt_or_eq_of_le hij with q | q
    · exact List.pairwise_iff_getElem.mp u i j (by omega) hj q
    · subst q;exact Int.le_refl _
   cases left with
   | true=>
     rw [if_pos rfl,decide_eq_true_eq] at h ⊢
     omega
   | false=>
     rw [if_neg Bool.false_ne_true,Bool.not_eq_true',decide_eq_false_iff_not] at h ⊢
     omega
 · obtain ⟨i,hi,e⟩:=List.mem_take_iff_getElem.mp hz
   rw [← e,← b i (by omega)]
   exact h2 i (by omega)
 · obtain ⟨i,hi,e⟩:=List.mem_drop_iff_getElem.mp hz
   rw [← e,← b _ (by omega)]
   exact h3 _ (by omega) (by omega)
theorem over_at (s0:Nat): ∀(l:List Keyed) (k:Nat) (arr:Array Keyed) (i:Nat),((l.zipIdx k).foldl (fun (a:Array Keyed) x=>a.setIfInBounds (s0 + x.2) x.1) arr)[i]?=if s0 + k≤i∧i < s0 + k + l.length∧i < arr.size then l[i - (s0 + k)]? else arr[i]?
 | [],k,arr,i=>by
   rw [if_neg (by rintro ⟨h1,h2,_⟩;simp at h2;lia)]
   rfl
 | x::l,k,arr,i=>by
   rw [List.zipIdx_cons,List.foldl_cons,over_at s0 l (k + 1) (arr.setIfInBounds (s0 + k) x) i,Array.size_setIfInBounds,List.length_cons]
   by_cases h:i < arr.size
   · by_cases h1:s0 + k=i
     · subst h1
       rw [if_neg (by lia),if_pos ⟨Nat.le_refl _,by lia,h⟩,Nat.sub_self,List.getElem?_cons_zero]
       simp [h]
     · by_cases h2:s0 + k≤i∧i < s0 + k + (l.length + 1)
       · rw [if_pos ⟨by lia,by lia,h⟩,if_pos ⟨h2.1,h2.2,h⟩,show i - (s0 + k)=(i - (s0 + (k + 1))) + 1 by lia,List.getElem?_cons_succ]
       · rw [if_neg (by lia),if_neg (by lia),Array.getElem?_setIfInBounds_ne (by lia)]
   · rw [if_neg (by lia),if_neg (by lia),Array.getElem?_eq_none (by rw [Array.size_setIfInBounds];lia),Array.getElem?_eq_none (by lia)]
theorem over_list {arr:Array Keyed} {T1 X T2 M:List Keyed} (e:arr.toList=T1++(X++T2)) (h:M.length=X.length):((M.zipIdx).foldl (fun (a:Array Keyed) x=>a.setIfInBounds (T1.length + x.2) x.1) arr).toList=T1++(M++T2):=by
 have sz:=congrArg List.length e
 rw [Array.length_toList,List.length_append,List.length_append] at sz
 apply List.ext_getElem?
 intro i
 rw [Array.getElem?_toList,over_at,Nat.add_zero]
 have ea:arr[i]?=(T1++(X++T2))[i]?:=by rw [← e,Array.getElem?_toList]
 by_cases h1:T1.length≤i
 · rw [List.getElem?_append_right h1]
   by_cases h2:i < T1.length + M.length
   · rw [if_pos ⟨h1,h2,by lia⟩,List.getElem?_append_left (by lia)]
   · rw [if_neg (by lia),ea,List.getElem?_append_right h1,List.getElem?_append_right (by lia),List.getElem?_append_right (by lia),h]
 · rw [if_neg (by lia),ea,List.getElem?_append_left (by lia),List.getElem?_append_left (by lia)]
end
end L2
set_option Elab.async false
set_option linter.all false
set_option maxRecDepth 100000
set_option maxHeartbeats 4000000
namespace L2
open PySem PySem.Spec PySem.W PyProof.Rows
section
variable {prog:Program} {w:World} {A:Around} {E:Value→Shared→Prop} {s:Shared} {key:Keyed→Int} {κ:SortKind} {ok:Keyed→Prop}
theorem ws_set {st st':SortSt} {Q:PUnit→SortSt→Prop} (h:Q ⟨⟩ st'):WS prog w A E s (set st') Q st:=wpAny_pure ⟨rfl,h⟩
theorem ex_seg {arr:Array Keyed} {T1 X R:List Keyed} (e:arr.toList=T1++(X++R)) {n:Nat} (hn:n=T1.length + X.length):(arr.extract T1.length n).toList=X:=by
 subst hn
 rw [ex_take,e,List.drop_left,List.take_left]
theorem ws_mat (L:LtOk prog w A E s key κ ok) {st:SortSt} {i:Nat} {T1 Al Bl T2:List Keyed} {pa pb:Nat} {Q:Bool→SortSt→Prop} (e:(arrOf st).toList=T1++(Al++(Bl++T2))) (ha:0 < Al.length) (hb:0 < Bl.length) (oa: ∀z∈Al,ok z) (ob: ∀z∈Bl,ok z) (ua:UpL key Al) (ub:UpL key Bl) (hk:kindOf st=κ) (hf:failedOf st=none)
 (p1:(pendingOf st)[i]?=some (T1.length,Al.length,pa)) (p2:(pendingOf st)[i + 1]?=some (T1.length + Al.length,Bl.length,pb))
 (k: ∀(st':SortSt) (M:List Keyed),kindOf st'=κ→failedOf st'=none→pendingOf st'=((pendingOf st).setIfInBounds i (T1.length,Al.length + Bl.length,pa)).eraseIdxIfInBounds (i + 1)→(arrOf st').toList=T1++(M++T2)→M.Perm (Al++Bl)→UpL key M→Q true st'):WS prog w A E s (matT i) Q st:=by
 have e2:(arrOf st).toList=(T1++Al)++(Bl++T2):=by rw [e,List.append_assoc]
 have l2:(T1++Al).length=T1.length + Al.length:=List.length_append
 have b0:=seg_at e2 hb
 rw [l2,Nat.add_zero] at b0
 unfold matT PySem.W.Fast.tw6096456617080501612
 rw [← PySem.W.Fast.te12456147031677567982,← PySem.W.Fast.te8050958516035322399]
 refine wpS_bind (wpS_get ?_)
 unfold PyProof.Rows.pendingOf at p1 p2
 rw [p1,p2]
 refine wpS_bind (ws_set ?_)
 refine wpS_bind (ws_el b0 ?_)
 refine wpS_bind (ws_galL L e (ob _ (List.getElem_mem _)) oa ua hk ha fun r r1 r2 r3=> ?_)
 have r2: ∀z∈Al.take r,key z≤key Bl[0]:=fun z hz=>by
  have:=r2 z hz
  rw [if_neg Bool.false_ne_true,Bool.not_eq_true',decide_eq_false_iff_not] at this
  lia
 have r3: ∀z∈Al.drop r,key Bl[0] < key z:=fun z hz=>by
  have:=r3 z hz
  rwa [if_neg Bool.false_ne_true,Bool.not_eq_false',decide_eq_true_eq] at this
 have eb0:Bl[0]?=some Bl[0]:=List.getElem?_eq_getElem hb
 have hb0: ∀z∈Bl,key Bl[0]≤key z:=fun z hz=>up_head ub eb0 z (by rw [List.drop_zero];exact hz)
 have eal:Al[Al.length - 1]?=some (Al[Al.length - 1]'(by lia)):=List.getElem?_eq_getElem (by lia)
 have hal: ∀z∈Al,key z≤key (Al[Al.length - 1]'(by lia)):=fun z hz=>up_last ua eal z (by rw [show Al.length - 1 + 1=Al.length by lia,List.take_length];exact hz)
 have e':(arrOf st).toList=T1++((Al++Bl)++T2):=by rw [e,List.append_assoc]
 dsimp (zeta:=false) only
 refine ws_ite (fun c=>wpS_pure (k _ (Al++Bl) hk hf rfl e' (List.Perm.refl _) (List.pairwise_append.mpr ⟨ua,ub,fun z hz u hu=> ?_⟩))) fun c=> ?_
 · have c:Al.length - r=0:=eq_of_beq c
   rw [List.take_of_length_le (by lia)] at r2
   exact Int.le_trans (r2 z hz) (hb0 u hu)
 have c:Al.length - r≠0:=fun z=>c (beq_iff_eq.mpr z)
 have al:=seg_at e (i:=Al.length - 1) (by lia)
 rw [show T1.length + (Al.length - 1)=T1.length + r + (Al.length - r) - 1 by lia] at al
 refine wpS_bind (ws_el al ?_)
 rw [← l2]
 refine wpS_bind (ws_galL L e2 (oa _ (List.getElem_mem _)) ob ub hk (by lia) fun q q1 q2 q3=> ?_)
 rw [l2]
 have q2: ∀z∈Bl.take q,key z < key (Al[Al.length - 1]'(by lia)):=fun z hz=>by
  have:=q2 z hz
  rwa [if_pos rfl,decide_eq_true_eq] at this
 have q3: ∀z∈Bl.drop q,key (Al[Al.length - 1]'(by lia))≤key z:=fun z hz=>by
  have:=q3 z hz
  rw [if_pos rfl,decide_eq_false_iff_not] at this
  lia
 dsimp (zeta:=false) only
 refine ws_ite (fun c=>wpS_pure (k _ (Al++Bl) hk hf rfl e' (List.Perm.refl _) (List.pairwise_append.mpr ⟨ua,ub,fun z hz u hu=> ?_⟩))) fun c'=> ?_
 · have c:q=0:=eq_of_beq c
   subst c
   exact Int.le_trans (hal z hz) (q3 u (by rw [List.drop_zero];exact hu))
 have c':q≠0:=fun z=>c' (beq_iff_eq.mpr z)
 have sA:Al=Al.take r++Al.drop r:=(List.take_append_drop r Al).symm
 have sB:Bl=Bl.take q++Bl.drop q:=(List.take_append_drop q Bl).symm
 have lA:(T1++Al.take r).length=T1.length + r:=by rw [List.length_append,List.length_take];lia
 have lX:(Al.drop r).length=Al.length - r:=List.length_drop
 have lY:(Bl.take q).length=q:=by rw [List.length_take];lia
 have eX:(arrOf st).toList=(T1++Al.take r)++(Al.drop r++(Bl++T2)):=by
  rw [e]
  conv=>lhs;rw [sA]
  simp only [List.append_assoc]
 have eY:(arrOf st).toList=(T1++Al)++(Bl.take q++(Bl.drop q++T2)):=by
  rw [e2]
  conv=>lhs;rw [sB]
  simp only [List.append_assoc]
 have eM:(arrOf st).toList=(T1++Al.take r)++((Al.drop r++Bl.take q)++(Bl.drop q++T2)):=by
  rw [eX]
  conv=>lhs;rw [sB]
  simp only [List.append_assoc]
 obtain ⟨x,hx⟩: ∃x,x=(arrOf st).extract (T1.length + r) (T1.length + Al.length):=⟨_,rfl⟩
 obtain ⟨y,hy⟩: ∃y,y=(arrOf st).extract (T1.length + Al.length) (T1.length + Al.length + q):=⟨_,rfl⟩
 have tx:x.toList=Al.drop r:=by rw [hx,← lA];exact ex_seg eX (by rw [lA,lX];lia)
 have ty:y.toList=Bl.take q:=by rw [hy,← l2];exact ex_seg eY (by rw [lY])
 have zx:x.size=Al.length - r:=by rw [← Array.length_toList,tx,lX]
 have zy:y.size=q:=by rw [← Array.length_toList,ty,lY]
 have y0:y.getD 0 default=Bl[0]:=by
  rw [Array.getD_eq_getD_getElem?,← Array.getElem?_toList,ty,List.getElem?_take,if_pos (by lia),eb0];rfl
 have xl:x.getD (x.size - 1) default=Al[Al.length - 1]'(by lia):=by
  rw [Array.getD_eq_getD_getElem?,← Array.getElem?_toList,tx,List.getElem?_drop,show r + (x.size - 1)=Al.length - 1 by lia,eal];rfl
 have gm: ∀(a:Array Keyed) (i:Nat),i < a.size→a.getD i default∈a.toList:=fun a i h=>by
  rw [Array.getD_eq_getD_getElem?,Array.getElem?_eq_getElem h]
  exact List.mem_of_getElem? (at_list (Array.getElem?_eq_getElem h))
 have fin: ∀(r':Array Keyed) (st':SortSt),MgF key x y r'→Stt (SortSt.mk' (kindOf st) (arrOf st) (((pendingOf st).setIfInBounds i (T1.length,Al.length + Bl.length,pa)).eraseIdxIfInBounds (i + 1)) (gallopOf st) (failedOf st)) st'→
  WS prog w A E s (modify fun s=>setArr s (R.foldlR (fun (a:Array Keyed) x=>a.setIfInBounds (T1.length + r + x.2) x.1) (arrOf s) r'.toList.zipIdx)) (fun q_ st2=>WS prog w A E s (get >>= fun s=>pure (failedOf s).isNone) Q st2) st':=fun r' st' hm ht=>by
  obtain ⟨t1,t2,t3,t4⟩:=ht
  obtain ⟨pm,um⟩:=hm
  rw [tx,ty] at pm
  refine wpS_modify (wpS_bind (wpS_get (wpS_pure ?_)))
  have ef:failedOf st'=none:=t4.trans hf
  show Q (failedOf st').isNone _
  rw [ef]
  have mem: ∀z,z∈r'.toList→z∈Al.drop r∨z∈Bl.take q:=fun z hz=>List.mem_append.mp (pm.mem_iff.mp hz)
  have uA:=ua
  unfold UpL at uA
  rw [sA,List.pairwise_append] at uA
  have uB:=ub
  unfold UpL at uB
  rw [sB,List.pairwise_append] at uB
  refine k _ (Al.take r++(r'.toList++Bl.drop q)) (t1.trans hk) ef t3 ?_ ?_ ?_
  · show (R.foldlR _ (arrOf st') r'.toList.zipIdx).toList=_
    rw [← PySem.W.R.foldlR_eq,show arrOf st'=arrOf st from t2,← lA,over_list eM (by rw [pm.length_eq])]
    simp only [List.append_assoc]
  · have h1:=(pm.append_right (Bl.drop q)).append_left (Al.take r)
    have h2:Al.take r++((Al.drop r++Bl.take q)++Bl.drop q)=Al++Bl:=by
     conv=>rhs;rw [sA,sB]
     simp only [List.append_assoc]
    rwa [h2] at h1
  · refine List.pairwise_append.mpr ⟨uA.1,List.pairwise_append.mpr ⟨um,uB.2.1,fun z hz u hu=> ?_⟩,fun z hz u hu=> ?_⟩
    · rcases mem z hz with hz | hz
      · exact Int.le_trans (hal z (List.mem_of_mem_drop hz)) (q3 u hu)
      · exact uB.2.2 z hz u hu
    · rcases List.mem_append.mp hu with hu | hu
      · rcases mem u hu with hu | hu
        · exact uA.2.2 z hz u hu
        · exact Int.le_trans (r2 z hz) (hb0 u (List.mem_of_mem_take hu))
      · exact Int.le_trans (r2 z hz) (hb0 u (List.mem_of_mem_drop hu))
 have ox: ∀z∈x.toList,ok z:=fun z hz=>oa z (List.mem_of_mem_drop (by rw [tx] at hz;exact hz))
 have oy: ∀z∈y.toList,ok z:=fun z hz=>ob z (List.mem_of_mem_take (by rw [ty] at hz;exact hz))
 have ux:UpL key x.toList:=by rw [tx];exact ua.sublist (List.drop_sublist _ _)
 have uy:UpL key y.toList:=by rw [ty];exact ub.sublist (List.take_sublist _ _)
 refine ws_ite (fun q_=>wpS_bind ?_) (fun q_=>wpS_bind ?_)
 · have:=ws_mlo (s:=s) (R:=fun r' st'=>WS prog w A E s ((modify fun s=>setArr s (R.foldlR (fun (a:Array Keyed) x=>a.setIfInBounds (T1.length + r + x.2) x.1) (arrOf s) r'.toList.zipIdx)) >>= fun q_=>get >>= fun s=>pure (failedOf s).isNone) Q st') L (st:=(SortSt.mk' (kindOf st) (arrOf st) (((pendingOf st).setIfInBounds i (T1.length,Al.length + Bl.length,pa)).eraseIdxIfInBounds (i + 1)) (gallopOf st) (failedOf st))) (a:=x) (b:=y) hk ox oy ux uy (by lia) (by lia)
    (by rw [y0];exact Int.le_of_lt (r3 _ (by rw [← tx];exact gm x 0 (by lia)))) (fun z hz=>by rw [xl];exact Int.le_of_lt (q2 z (by rw [← ty];exact hz))) fun r' st' hm ht=>wpS_bind (fin r' st' hm ht)
   rw [hx,hy] at this
   exact this
 · have:=ws_mhi (s:=s) (R:=fun r' st'=>WS prog w A E s ((modify fun s=>setArr s (R.foldlR (fun (a:Array Keyed) x=>a.setIfInBounds (T1.length + r + x.2) x.1) (arrOf s) r'.toList.zipIdx)) >>= fun q_=>get >>= fun s=>pure (failedOf s).isNone) Q st') L (st:=(SortSt.mk' (kindOf st) (arrOf st) (((pendingOf st).setIfInBounds i (T1.length,Al.length + Bl.length,pa)).eraseIdxIfInBounds (i + 1)) (gallopOf st) (failedOf st))) (a:=x) (b:=y) hk ox oy ux uy (by lia) (by lia)
    (fun z hz=>by rw [y0];exact Int.le_of_lt (r3 _ (by rw [← tx];exact hz))) (by rw [xl];exact Int.le_of_lt (q2 _ (by rw [← ty];exact gm y _ (by lia)))) fun r' st' hm ht=>wpS_bind (fin r' st' hm ht)
   rw [hx,hy] at this
   exact this
end
end L2
set_option Elab.async false
set_option linter.all false
set_option maxRecDepth 100000
set_option maxHeartbeats 4000000
namespace L2
open PySem PySem.Spec PySem.W PyProof.Rows
section
theorem bub_list {arr:Array Keyed} {T P R:List Keyed} {x:Keyed} (e:arr.toList=T++(P++(x::R))) {d:Nat} (hd:d≤P.length):(bubble arr (T.length + P.length) d).toList=T++(P.take (P.length - d)++(x::(P.drop (P.length - d)++R))):=by
 have sz:=congrArg List.length e
 simp only [Array.length_toList,List.length_append,List.length_cons] at sz
 have at_: ∀i,arr[i]?=(T++(P++(x::R)))[i]?:=fun i=>by rw [← e,Array.getElem?_toList]
 apply List.ext_getElem?
 intro i
 rw [Array.getElem?_toList,getElem?_bubble (by lia) d (by lia)]
 have lt:(P.take (P.length - d)).length=P.length - d:=by rw [List.length_take];lia
 have ld:(P.drop (P.length - d)).length=d:=by rw [List.length_drop];lia
 by_cases h1:i < T.length
 · rw [if_neg (by lia),if_neg (by lia),at_,List.getElem?_append_left h1,List.getElem?_append_left h1]
 have h1:T.length≤i:=by lia
 rw [List.getElem?_append_right (l₁:=T) h1]
 by_cases h2:i=T.length + P.length - d
 · rw [if_pos h2,at_,List.getElem?_append_right (by lia),List.getElem?_append_right (by lia),List.getElem?_append_right (by lia),lt,show T.length + P.length - T.length - P.length=0 by lia,show i - T.length - (P.length - d)=0 by lia]
   rfl
 rw [if_neg h2]
 by_cases h3:T.length + P.length - d < i∧i≤T.length + P.length
 · rw [if_pos h3,at_,List.getElem?_append_right (by lia),List.getElem?_append_left (by lia),List.getElem?_append_right (by lia),lt]
   obtain ⟨k,hk⟩: ∃k,i - T.length - (P.length - d)=k + 1:=⟨i - T.length - (P.length - d) - 1,by lia⟩
   rw [hk,List.getElem?_cons_succ,List.getElem?_append_left (by lia),List.getElem?_drop,show P.length - d + k=i - 1 - T.length by lia]
 · rw [if_neg h3,at_,List.getElem?_append_right (by lia)]
   by_cases h4:i - T.length < P.length - d
   · rw [List.getElem?_append_left (by lia),List.getElem?_append_left (by lia),List.getElem?_take,if_pos h4]
   · rw [List.getElem?_append_right (by lia),List.getElem?_append_right (by lia),lt]
     obtain ⟨k,hk⟩: ∃k,i - T.length - P.length=k + 1:=⟨i - T.length - P.length - 1,by lia⟩
     rw [hk,show i - T.length - (P.length - d)=(k + d) + 1 by lia,List.getElem?_cons_succ,List.getElem?_cons_succ,List.getElem?_append_right (by lia),ld,Nat.add_sub_cancel]
theorem mir_list {arr:Array Keyed} {T S R:List Keyed} (e:arr.toList=T++(S++R)) {j:Nat} (hj:j=T.length + S.length):(mirror arr T.length j ((j - T.length) / 2)).toList=T++(S.reverse++R):=by
 subst hj
 have sz:=congrArg List.length e
 simp only [Array.length_toList,List.length_append] at sz
 have at_: ∀i,arr[i]?=(T++(S++R))[i]?:=fun i=>by rw [← e,Array.getElem?_toList]
 apply List.ext_getElem?
 intro i
 rw [Array.getElem?_toList,getElem?_mirror_all (by lia)]
 by_cases h1:i < T.length
 · rw [if_neg (by lia),at_,List.getElem?_append_left h1,List.getElem?_append_left h1]
 rw [List.getElem?_append_right (l₁:=T) (by lia)]
 by_cases h2:i < T.length + S.length
 · rw [if_pos ⟨by lia,h2⟩,at_,List.getElem?_append_right (by lia),List.getElem?_append_left (by lia),List.getElem?_append_left (by rw [List.length_reverse];lia),List.getElem?_reverse (by lia),show T.length + (T.length + S.length) - 1 - i - T.length=S.length - 1 - (i - T.length) by lia]
 · rw [if_neg (by lia),at_,List.getElem?_append_right (by lia),List.getElem?_append_right (by lia),List.getElem?_append_right (by rw [List.length_reverse];lia),List.length_reverse]
end
section
variable {prog:Program} {w:World} {A:Around} {E:Value→Shared→Prop} {s:Shared} {key:Keyed→Int} {κ:SortKind} {ok:Keyed→Prop}
structure Pc (κ:SortKind) (st:SortSt) (T1 T2 S0:List Keyed) (st':SortSt) (S:List Keyed):Prop where
 kd:kindOf st'=κ
 fl:failedOf st'=none
 pd:pendingOf st'=pendingOf st
 ar:(arrOf st').toList=T1++(S++T2)
 pm:S.Perm S0
theorem ws_at (L:LtOk prog w A E s key κ ok) {st st':SortSt} {T1 T2 S0 S:List Keyed} (h:Pc κ st T1 T2 S0 st' S) (o: ∀z∈S0,ok z) {i j a b:Nat} {Q:Option Bool→SortSt→Prop} (hi:i < S.length) (hj:j < S.length) (ea:a=T1.length + i) (eb:b=T1.length + j) (k:Q (some (decide (key S[i] < key S[j]))) st'):WS prog w A E s (ltAt' a b) Q st':=by
 subst ea eb
 rw [ltAt'_eq,el_eq,lt_eq]
 have os: ∀i (h:i < S.length),ok S[i]:=fun i hi=>o _ (h.pm.mem_iff.mp (List.getElem_mem _))
 exact wpS_bind (wpS_get (wpS_bind (ws_el (seg_at h.ar hi) (wpS_bind (ws_el (seg_at h.ar hj) (L _ _ _ _ (os i hi) (os j hj) h.kd k))))))
theorem ws_bsort (L:LtOk prog w A E s key κ ok) {st st0:SortSt} {T1 T2 S0 S:List Keyed} (h:Pc κ st T1 T2 S0 st0 S) (o: ∀z∈S0,ok z) {m n:Nat} {Q:Bool→SortSt→Prop} (hm:1≤m) (hmn:m≤n) (hn:n=S.length) (up:UpL key (S.take m)) (k: ∀st' S',Pc κ st T1 T2 S0 st' S'→UpL key S'→Q true st'):WS prog w A E s (binarySort' T1.length n m) Q st0:=by
 have l0:S0.length=n:=by rw [hn,h.pm.length_eq]
 rw [binarySort'_eq,show max m 1=m by lia]
 refine wpS_bind (wpS_mono (Q:=fun c st'=>c.1=none∧∃S',Pc κ st T1 T2 S0 st' S'∧UpL key S') (wpS_forRange (fun j c st'=>c=(none,())∧∃S',Pc κ st T1 T2 S0 st' S'∧UpL key (S'.take j)) ?_ ?_ ⟨rfl,S,h,up⟩) ?_)
 · rintro i c st' hi1 hi2 ⟨rfl,S',h',up'⟩
   have lS:S'.length=n:=by rw [h'.pm.length_eq,l0]
   have hiS:i < S'.length:=by lia
   have sI:S'=S'.take i++(S'[i]::S'.drop (i + 1)):=by rw [← List.drop_eq_getElem_cons hiS,List.take_append_drop]
   have lT:(S'.take i).length=i:=by rw [List.length_take];lia
   refine wpS_bind (wpS_mono (Q:=fun c st2=>st2=st'∧c.1=none∧c.2.1≤i∧(∀ z∈S'.take c.2.1,key z≤key S'[i])∧(∀ z∈(S'.take i).drop c.2.1,key S'[i]≤key z)) (wpS_forRange (fun j c st2=>st2=st'∧∃l r,c=(none,l,r)∧l≤r∧r≤i∧(∀ z∈S'.take l,key z≤key S'[i])∧(∀ z∈(S'.take i).drop r,key S'[i]≤key z)∧r - l≤i - j) ?_ ?_ ⟨rfl,0,i,rfl,Nat.zero_le _,Nat.le_refl _,fun z hz=>(by cases hz),fun z hz=>(by rw [List.drop_of_length_le (by lia)] at hz;cases hz),by lia⟩) ?_)
   · rintro j c st2 _ hj ⟨rfl,l,r,rfl,hlr,hri,b1,b2,hm'⟩
     dsimp only
     refine ws_ite (fun c=>wpS_pure ?_) fun c=> ?_
     · have:l=r:=by lia
       subst this
       exact ⟨rfl,rfl,hri,b1,b2⟩
     have hM:(l + r) / 2 < i:=by lia
     refine wpS_bind (ws_at L h' o (i:=i) (j:=(l + r) / 2) hiS (by lia) rfl rfl ?_)
     have tk: ∀z,z∈S'.take ((l + r) / 2 + 1)→key z≤key (S'[(l + r) / 2]'(by lia)):=fun z hz=>by
      have e1:S'.take ((l + r) / 2 + 1)=(S'.take i).take ((l + r) / 2 + 1):=by rw [List.take_take,Nat.min_eq_left (by lia)]
      rw [e1] at hz
      exact up_last up' (by rw [List.getElem?_take,if_pos hM,List.getElem?_eq_getElem (by lia)]) z hz
     have dk: ∀z,z∈(S'.take i).drop ((l + r) / 2)→key (S'[(l + r) / 2]'(by lia))≤key z:=fun z hz=>up_head up' (by rw [List.getElem?_take,if_pos hM,List.getElem?_eq_getElem (by lia)]) z hz
     by_cases hlt:key S'[i] < key (S'[(l + r) / 2]'(by lia))
     · rw [decide_eq_true hlt]
       exact ws_ite (fun q_=>wpS_pure ⟨rfl,l,(l + r) / 2,rfl,by lia,by lia,b1,fun z hz=>Int.le_trans (Int.le_of_lt hlt) (dk z hz),by lia⟩) fun z=>absurd rfl z
     · rw [decide_eq_false hlt]
       exact ws_ite (fun z=>absurd z Bool.false_ne_true) fun q_=>wpS_pure ⟨rfl,(l + r) / 2 + 1,r,rfl,by lia,hri,fun z hz=>by have:=tk z hz;lia,b2,by lia⟩
   · rintro c st2 ⟨rfl,l,r,rfl,hlr,hri,b1,b2,hm'⟩
     have:l=r:=by lia
     subst this
     exact ⟨rfl,rfl,hri,b1,b2⟩
   · rintro ⟨r0,l,r⟩ st2 ⟨rfl,e0,hl,b1,b2⟩
     cases e0
     dsimp only at hl b1 b2 ⊢
     rw [moveDown'_eq]
     refine wpS_bind (wpS_modify (wpS_pure ⟨rfl,S'.take l++(S'[i]::((S'.take i).drop l++S'.drop (i + 1))),⟨h'.kd,h'.fl,h'.pd,?_,?_⟩,?_⟩))
     · have e1:(arrOf st2).toList=T1++(S'.take i++(S'[i]::(S'.drop (i + 1)++T2))):=by
        rw [h'.ar]
        conv=>lhs;rw [sI]
        simp only [List.append_assoc,List.cons_append]
       have:=bub_list e1 (d:=i - l) (by lia)
       rw [lT,show i - (i - l)=l by lia,List.take_take,Nat.min_eq_left hl] at this
       show (bubble (arrOf st2) (T1.length + i) (T1.length + i - (T1.length + l))).toList=_
       rw [show T1.length + i - (T1.length + l)=i - l by lia,this]
       simp only [List.append_assoc,List.cons_append]
     · refine List.Perm.trans ?_ h'.pm
       conv=>rhs;rw [sI]
       have e2:S'.take i=S'.take l++(S'.take i).drop l:=by
        conv=>lhs;rw [← List.take_append_drop l (S'.take i)]
        rw [List.take_take,Nat.min_eq_left hl]
       conv=>rhs;rw [e2]
       rw [List.append_assoc]
       refine List.Perm.append_left _ ?_
       exact (List.perm_middle).symm
     · have e3:(S'.take l++(S'[i]::((S'.take i).drop l++S'.drop (i + 1)))).take (i + 1)=S'.take l++(S'[i]::(S'.take i).drop l):=by
        have:S'.take l++(S'[i]::((S'.take i).drop l++S'.drop (i + 1)))=(S'.take l++(S'[i]::(S'.take i).drop l))++S'.drop (i + 1):=by simp
        rw [this,List.take_left' (by simp only [List.length_append,List.length_cons,List.length_take,List.length_drop];lia)]
       rw [e3]
       have e2:S'.take i=S'.take l++(S'.take i).drop l:=by
        conv=>lhs;rw [← List.take_append_drop l (S'.take i)]
        rw [List.take_take,Nat.min_eq_left hl]
       have u2:=up'
       unfold UpL at u2
       rw [e2,List.pairwise_append] at u2
       refine List.pairwise_append.mpr ⟨u2.1,List.pairwise_cons.mpr ⟨fun z hz=>b2 z hz,u2.2.1⟩,fun z hz u hu=> ?_⟩
       rcases List.mem_cons.mp hu with rfl | hu
       · exact b1 z hz
       · exact u2.2.2 z hz u hu
 · rintro c st' ⟨rfl,S',h',up'⟩
   rw [List.take_of_length_le (by rw [h'.pm.length_eq];lia)] at up'
   exact ⟨rfl,S',h',up'⟩
 · rintro ⟨r0,_⟩ st' ⟨e0,S',h',up'⟩
   cases e0
   exact wpS_pure (k st' S' h' up')
end
end L2
set_option Elab.async false
set_option linter.all false
set_option maxRecDepth 100000
set_option maxHeartbeats 4000000
namespace L2
open PySem PySem.Spec PySem.W PyProof.Rows
section
variable {prog:Program} {w:World} {A:Around} {E:Value→Shared→Prop} {s:Shared} {key:Keyed→Int} {κ:SortKind} {ok:Keyed→Prop}
theorem ws_at' (L:LtOk prog w A E s key κ ok) {st st':SortSt} {T1 T2 S0 S:List Keyed} (h:Pc κ st T1 T2 S0 st' S) (o: ∀z∈S0,ok z) {i j a b:Nat} {x y:Keyed} {Q:Option Bool→SortSt→Prop} (hx:S[i]?=some x) (hy:S[j]?=some y) (ea:a=T1.length + i) (eb:b=T1.length + j) (k:Q (some (decide (key x < key y))) st'):WS prog w A E s (ltAt' a b) Q st':=by
 obtain ⟨hi,ex⟩:=List.getElem?_eq_some_iff.mp hx
 obtain ⟨hj,ey⟩:=List.getElem?_eq_some_iff.mp hy
 exact ws_at L h o hi hj ea eb (by rw [ex,ey];exact k)
theorem ws_rev {st st':SortSt} {T1 T2 S0 U V W:List Keyed} (h:Pc κ st T1 T2 S0 st' (U++(V++W))) {i j:Nat} {Q:Unit→SortSt→Prop} (ei:i=T1.length + U.length) (ej:j=T1.length + U.length + V.length) (k: ∀st'',Pc κ st T1 T2 S0 st'' (U++(V.reverse++W))→Q () st''):WS prog w A E s (reverseSlice' i j) Q st':=by
 refine wpS_reverse (k _ ⟨h.kd,h.fl,h.pd,?_,?_⟩)
 · have e:(arrOf st').toList=(T1++U)++(V++(W++T2)):=by rw [h.ar];simp only [List.append_assoc]
   have:=mir_list e (j:=j) (by rw [ej,List.length_append])
   rw [List.length_append,← ei] at this
   show (mirror (arrOf st') i j ((j - i) / 2)).toList=_
   rw [this]
   simp only [List.append_assoc]
 · refine List.Perm.trans ?_ h.pm
   exact ((List.reverse_perm V).append_right W).append_left U
noncomputable def DnL (key:Keyed→Int) (l:List Keyed):Prop:=l.Pairwise fun x y=>key y≤key x
theorem up_snoc {D:List Keyed} {x y:Keyed} (u:UpL key (D++[y])) (h:key y≤key x):UpL key ((D++[y])++[x]):=by
 refine List.pairwise_append.mpr ⟨u,List.pairwise_singleton _ _,fun z hz v hv=> ?_⟩
 rw [List.mem_singleton.mp hv]
 rcases List.mem_append.mp hz with hz | hz
 · exact Int.le_trans ((List.pairwise_append.mp u).2.2 z hz y (List.mem_singleton.mpr rfl)) h
 · rw [List.mem_singleton.mp hz];exact h
theorem dn_rev {D:List Keyed} (u:DnL key D):UpL key D.reverse:=List.pairwise_reverse.mpr u
theorem last_of {D:List Keyed} (h:0 < D.length): ∃D' y,D=D'++[y]:=by
 rcases List.eq_nil_or_concat D with rfl | ⟨D',y,e⟩
 · cases h
 · exact ⟨D',y,by rw [e,List.concat_eq_append]⟩
theorem two_at {D W:List Keyed} {x y:Keyed}:((D++[y])++(x::W))[(D++[y]).length]?=some x∧((D++[y])++(x::W))[D.length]?=some y:=by
 constructor
 · rw [List.getElem?_append_right (Nat.le_refl _),Nat.sub_self];rfl
 · rw [List.append_assoc,List.getElem?_append_right (Nat.le_refl _),Nat.sub_self];rfl
noncomputable def OneK (key:Keyed→Int) (V:List Keyed):Prop:=∀x∈V,∀y∈V,key x=key y
theorem dn_turn {U V:List Keyed} (d:DnL key (U++V)) (o:OneK key V):DnL key (U++V.reverse):=by
 have h:=List.pairwise_append.mp d
 refine List.pairwise_append.mpr ⟨h.1,?_,fun x hx y hy=>h.2.2 x hx y (List.mem_reverse.mp hy)⟩
 exact List.pairwise_iff_getElem.mpr fun i j hi hj q_=>Int.le_of_eq (o _ (List.mem_reverse.mp (List.getElem_mem hj)) _ (List.mem_reverse.mp (List.getElem_mem hi)))
theorem ws_asc (L:LtOk prog w A E s key κ ok) {st st0:SortSt} {T1 T2 S0 D W:List Keyed} (h:Pc κ st T1 T2 S0 st0 (D++W)) (o: ∀z∈S0,ok z) {n m:Nat} (hn:n=D.length) (h0:0 < n) (hm:m=S0.length) (up:UpL key D) {F:Nat→Option (Option Nat)×Nat→StateT SortSt Sem (ForInStep (Option (Option Nat)×Nat))} {Q:Option (Option Nat)×Nat→SortSt→Prop}
 (hF: ∀i j R st',WS prog w A E s (ltAt' (T1.length + j) (T1.length + j - 1)) (fun c st''=>∃b,c=some b∧(b=true→R (.done (none,j)) st'')∧(b=false→R (.yield (none,j + 1)) st'')) st'→WS prog w A E s (F i (none,j)) R st')
 (k: ∀D' W',D'++W'=D++W→D.length≤D'.length→UpL key D'→(∀ x W'',W'=x::W''→∃D'' y,D'=D''++[y]∧key x < key y)→Q (none,D'.length) st0):WS prog w A E s (forIn [n:m] (none,n) F) Q st0:=by
 have lS:D.length + W.length=m:=by rw [hm,← h.pm.length_eq,List.length_append]
 refine wpS_forRange (fun i c st'=>st'=st0∧∃D' W',D'++W'=D++W∧c=(none,i)∧D'.length=i∧D.length≤i∧UpL key D') ?_ ?_ ⟨rfl,D,W,rfl,rfl,hn.symm,by lia,up⟩
 · rintro i c st' h1 h2 ⟨rfl,D',W',e,rfl,l,ld,u⟩
   have lW:D'.length + W'.length=m:=by rw [← lS,← List.length_append,e,List.length_append]
   obtain ⟨D'',y,rfl⟩:=last_of (D:=D') (by lia)
   cases W' with
   | nil=>simp only [List.length_nil] at lW;lia
   | cons x W''=>
     have two:=two_at (D:=D'') (W:=W'') (x:=x) (y:=y)
     rw [e,l] at two
     rw [List.length_append,List.length_singleton] at l
     refine hF i i _ _ (ws_at' L h o two.1 two.2 rfl (by lia) ?_)
     refine ⟨_,rfl,fun hb=> ?_,fun hb=>⟨rfl,(D''++[y])++[x],W'',by rw [← e];simp,rfl,by simp;lia,by lia,up_snoc u ?_⟩⟩
     · rw [decide_eq_true_eq] at hb
       have:=k (D''++[y]) (x::W'') e (by rw [List.length_append,List.length_singleton];lia) u (fun x' W3 e3=>by cases e3;exact ⟨D'',y,rfl,hb⟩)
       rw [List.length_append,List.length_singleton,l] at this
       exact this
     · rw [decide_eq_false_iff_not] at hb
       lia
 · rintro c st' ⟨rfl,D',W',e,rfl,l,ld,u⟩
   have lW:D'.length + W'.length=m:=by rw [← lS,← List.length_append,e,List.length_append]
   have:=k D' W' e (by lia) u (fun x W'' e3=>by rw [e3,List.length_cons] at lW;lia)
   rw [l] at this
   exact this
end
end L2
set_option Elab.async false
set_option linter.all false
set_option maxRecDepth 100000
set_option maxHeartbeats 4000000
namespace L2
open PySem PySem.Spec PySem.W PyProof.Rows
section
variable {prog:Program} {w:World} {A:Around} {E:Value→Shared→Prop} {s:Shared} {key:Keyed→Int} {κ:SortKind} {ok:Keyed→Prop}
theorem dn_app {D:List Keyed} {x:Keyed} (d:DnL key D) (h: ∀z∈D,key x≤key z):DnL key (D++[x]):=
 List.pairwise_append.mpr ⟨d,List.pairwise_singleton _ _,fun z hz v hv=>by rw [List.mem_singleton.mp hv];exact h z hz⟩
theorem dn_last {D:List Keyed} {y:Keyed} (d:DnL key (D++[y])): ∀z∈D++[y],key y≤key z:=fun z hz=>by
 rcases List.mem_append.mp hz with hz | hz
 · exact (List.pairwise_append.mp d).2.2 z hz y (List.mem_singleton.mpr rfl)
 · rw [List.mem_singleton.mp hz];exact Int.le_refl _
theorem up_last' {D:List Keyed} {y:Keyed} (d:UpL key (D++[y])): ∀z∈D++[y],key z≤key y:=fun z hz=>by
 rcases List.mem_append.mp hz with hz | hz
 · exact (List.pairwise_append.mp d).2.2 z hz y (List.mem_singleton.mpr rfl)
 · rw [List.mem_singleton.mp hz];exact Int.le_refl _
theorem one_dn {V:List Keyed} (o:OneK key V):DnL key V:=List.pairwise_iff_getElem.mpr fun i j hi hj q_=>Int.le_of_eq (o _ (List.getElem_mem hj) _ (List.getElem_mem hi))
theorem ws_count (L:LtOk prog w A E s key κ ok) {st st0:SortSt} {T1 T2 S0 S:List Keyed} (h:Pc κ st T1 T2 S0 st0 S) (o: ∀z∈S0,ok z) {m:Nat} {Q:Option Nat→SortSt→Prop} (hm:m=S0.length) (h0:0 < m) (k: ∀st' D W,Pc κ st T1 T2 S0 st' (D++W)→0 < D.length→UpL key D→Q (some D.length) st'):WS prog w A E s (countRun' T1.length m) Q st0:=by
 obtain ⟨x0,W0,rfl⟩: ∃x W,S=x::W:=by
  cases S with
  | nil=>rw [hm,← h.pm.length_eq] at h0;cases h0
  | cons x W=>exact ⟨x,W,rfl⟩
 have lm: ∀{st':SortSt} {D W:List Keyed},Pc κ st T1 T2 S0 st' (D++W)→D.length + W.length=m:=fun {st' D W} p=>by rw [hm,← p.pm.length_eq,List.length_append]
 rw [countRun'_eq]
 refine wpS_bind (ws_asc L (D:=[x0]) (W:=W0) h o rfl (Nat.succ_pos 0) hm (List.pairwise_singleton _ _) (fun i j R st' H=> ?_) fun D W e hle u nx=> ?_)
 · refine wpS_bind (wpS_mono H fun c st'' ⟨b,hb,h1,h2⟩=> ?_)
   subst hb
   cases b with
   | true=>exact ws_ite (fun q_=>wpS_pure (h1 rfl)) fun z=>absurd rfl z
   | false=>exact ws_ite (fun z=>absurd z Bool.false_ne_true) fun q_=>wpS_pure (h2 rfl)
 have hP:Pc κ st T1 T2 S0 st0 (D++W):=by rw [e];exact h
 have lW:=lm hP
 have hD0:0 < D.length:=by
  cases D with
  | nil=>simp at hle
  | cons=>exact Nat.succ_pos _
 dsimp only
 refine ws_ite (fun c=>wpS_pure (k st0 D W hP hD0 u)) fun c=> ?_
 have c:D.length≠m:=fun z=>c (beq_iff_eq.mpr z)
 obtain ⟨x,W,rfl⟩: ∃x W',W=x::W':=by
  cases W with
  | nil=>exact absurd (by simpa using lW) c
  | cons x W=>exact ⟨x,W,rfl⟩
 obtain ⟨D,y,rfl,hxy⟩:=nx x W rfl
 obtain ⟨n,hn⟩: ∃n,n=(D++[y]).length:=⟨_,rfl⟩
 rw [← hn]
 have two:=two_at (D:=D) (W:=W) (x:=x) (y:=y)
 have hn':n=D.length + 1:=by rw [hn,List.length_append,List.length_singleton]
 refine ws_ite (fun c1=> ?_) (fun c1=> ?_)
 obtain ⟨z,D3,rfl⟩: ∃z D3,D=z::D3:=by
  cases D with
  | nil=>rw [hn'] at c1;simp at c1
  | cons z D3=>exact ⟨z,D3,rfl⟩
 refine wpS_bind (ws_at' L hP o (i:=0) (x:=z) rfl two.2 rfl (by lia) ?_)
 by_cases hr:key z < key y
 · rw [decide_eq_true hr]
   refine ws_ite (fun q_=>wpS_pure ?_) fun q=>absurd rfl q
   rw [hn]
   exact k st0 _ _ hP hD0 u
 rw [decide_eq_false hr]
 refine ws_ite (fun q=>absurd q Bool.false_ne_true) fun q_=> ?_
 have hone:OneK key (z::D3++[y]):=by
  have hz: ∀v∈z::D3++[y],key v=key y:=fun v hv=>by
   have a1:=up_last' u v hv
   have a2:key z≤key v:=up_head u (i:=0) (x:=z) rfl v hv
   lia
  exact fun v hv v' hv'=>by rw [hz v hv,hz v' hv']
 refine wpS_bind (ws_rev (U:=[]) (V:=z::D3++[y]) (W:=x::W) hP rfl (by rw [List.length_nil];lia) fun st1 hP1=> ?_)
 rw [List.nil_append] at hP1
 have lD1:((z::D3++[y]).reverse).length=n:=by rw [List.length_reverse,hn]
 have d1:DnL key (z::D3++[y]).reverse:=one_dn fun v hv v' hv'=>hone v (List.mem_reverse.mp hv) v' (List.mem_reverse.mp hv')
 have hx1: ∀v∈(z::D3++[y]).reverse,key x≤key v:=fun v hv=>by
  have:=hone v (List.mem_reverse.mp hv) y (by simp)
  lia
 generalize (z::D3++[y]).reverse=D1 at hP1 lD1 d1 hx1
 clear two hone hr hxy u hP hn'
 rotate_left
 obtain rfl:D=[]:=by
  cases D with
  | nil=>rfl
  | cons z D3=>simp only [List.length_cons] at hn';lia
 have hP1:=hP
 have lD1:([]++[y]).length=n:=hn.symm
 have d1:DnL key ([]++[y]):=List.pairwise_singleton _ _
 have hx1: ∀v∈[]++[y],key x≤key v:=fun v hv=>by rw [List.mem_singleton.mp hv];lia
 generalize []++[y]=D1 at hP1 lD1 d1 hx1
 clear two hxy u hP hn'
 all_goals
  refine wpS_bind (ws_rule ?_)
  have hS:D1++x::W=(D1++[x])++W:=by simp
  have l1:=lm hP1
  rw [List.length_cons] at l1
  refine wpS_bind (wpS_mono (Q:=fun c st'=>c.1=none∧∃D W U V,Pc κ st T1 T2 S0 st' (D++W)∧D.length=c.2.1∧0 < D.length∧DnL key D∧D=U++V∧V.length=c.2.2 + 1∧OneK key V)
   (wpS_forRange (fun i c st'=>∃D W U V q,c=(none,i,q)∧Pc κ st T1 T2 S0 st' (D++W)∧D.length=i∧0 < D.length∧DnL key D∧D=U++V∧V.length=q + 1∧OneK key V) ?_ ?_ ⟨D1++[x],W,D1,[x],0,rfl,hS▸hP1,by rw [List.length_append,List.length_singleton,lD1],by simp,dn_app d1 hx1,rfl,rfl,fun v hv v' hv'=>by rw [List.mem_singleton.mp hv,List.mem_singleton.mp hv']⟩) ?_)
  · rintro i c st' hi1 hi2 ⟨D,W,U,V,q,rfl,hP,lD,h0D,d,eD,lV,oV⟩
    have lW:=lm hP
    obtain ⟨D',y',hD'⟩:=last_of h0D
    obtain ⟨x',W',rfl⟩: ∃x W',W=x::W':=by
     cases W with
     | nil=>rw [List.length_nil] at lW;lia
     | cons x W=>exact ⟨x,W,rfl⟩
    have two:=two_at (D:=D') (W:=W') (x:=x') (y:=y')
    rw [← hD',lD] at two
    have lD':D'.length + 1=i:=by rw [← lD,hD',List.length_append,List.length_singleton]
    have hyl: ∀v∈D,key y'≤key v:=by rw [hD'];rw [hD'] at d;exact dn_last d
    have hyV:y'∈V:=by
     obtain ⟨V',v,rfl⟩:=last_of (D:=V) (by lia)
     rw [hD',← List.append_assoc] at eD
     have:=List.append_inj_right' eD rfl
     rw [List.cons.inj this |>.1];simp
    dsimp only
    refine wpS_bind (ws_at' L hP o two.1 two.2 rfl (by lia) ?_)
    by_cases h1:key x' < key y'
    · rw [decide_eq_true h1]
      refine ws_ite (fun q_=> ?_) fun z=>absurd rfl z
      refine ws_ite (fun hq=> ?_) fun hq=> ?_
      · refine wpS_bind (ws_rev (U:=U) (V:=V) (W:=x'::W') (by rw [← List.append_assoc,← eD];exact hP) (by have:=congrArg List.length eD;rw [List.length_append] at this;lia) (by have:=congrArg List.length eD;rw [List.length_append] at this;lia) fun st2 hP2=>wpS_pure ?_)
        have hD2: ∀v∈U++V.reverse,v∈D:=fun v hv=>by
         rw [eD]
         rcases List.mem_append.mp hv with hv | hv
         · exact List.mem_append_left _ hv
         · exact List.mem_append_right _ (List.mem_reverse.mp hv)
        refine ⟨(U++V.reverse)++[x'],W',U++V.reverse,[x'],0,rfl,?_,?_,(by rw [List.length_append,List.length_singleton];exact Nat.succ_pos _),dn_app (dn_turn (eD▸d) oV) fun v hv=>by have:=hyl v (hD2 v hv);lia,rfl,rfl,fun v hv v' hv'=>by rw [List.mem_singleton.mp hv,List.mem_singleton.mp hv']⟩
        · have:U++(V.reverse++x'::W')=U++V.reverse++[x']++W':=by simp
          rw [← this];exact hP2
        · rw [List.length_append,List.length_append,List.length_reverse,← List.length_append,← eD,lD];rfl
      · refine wpS_pure ⟨D++[x'],W',D,[x'],0,rfl,?_,by rw [List.length_append,lD];rfl,by simp,dn_app d fun v hv=>by have:=hyl v hv;lia,rfl,rfl,fun v hv v' hv'=>by rw [List.mem_singleton.mp hv,List.mem_singleton.mp hv']⟩
        have:D++x'::W'=D++[x']++W':=by simp
        rw [← this];exact hP
    · rw [decide_eq_false h1]
      refine ws_ite (fun z=>absurd z Bool.false_ne_true) fun q_=> ?_
      refine wpS_bind (ws_at' L hP o two.2 two.1 (by lia) rfl ?_)
      by_cases h2:key y' < key x'
      · rw [decide_eq_true h2]
        exact ws_ite (fun q_=>wpS_pure ⟨rfl,D,x'::W',U,V,hP,lD,h0D,d,eD,lV,oV⟩) fun z=>absurd rfl z
      · rw [decide_eq_false h2]
        refine ws_ite (fun z=>absurd z Bool.false_ne_true) fun q_=>wpS_pure ⟨D++[x'],W',U,V++[x'],q + 1,rfl,?_,by rw [List.length_append,lD];rfl,by simp,dn_app d fun v hv=>by have:=hyl v hv;lia,by rw [eD,List.append_assoc],by rw [List.length_append,lV];rfl,?_⟩
        · have:D++x'::W'=D++[x']++W':=by simp
          rw [← this];exact hP
        · have hv1: ∀v∈V++[x'],key v=key y':=fun v hv=>by
           rcases List.mem_append.mp hv with hv | hv
           · exact oV v hv y' hyV
           · rw [List.mem_singleton.mp hv];lia
          exact fun v hv v' hv'=>by rw [hv1 v hv,hv1 v' hv']
  · rintro c st' ⟨D,W,U,V,q,rfl,hP,lD,h0D,d,eD,lV,oV⟩
    exact ⟨rfl,D,W,U,V,hP,lD,h0D,d,eD,lV,oV⟩
  · rintro ⟨r0,n2,q⟩ st2 ⟨e0,D2,W2,U,V,hP2,lD2,h0D2,d2,eD2,lV,oV⟩
    cases e0
    dsimp only at lD2 lV ⊢
    refine ws_ite (fun hq=> ?_) fun hq=> ?_
    refine wpS_bind (ws_rev (U:=U) (V:=V) (W:=W2) (by rw [← List.append_assoc,← eD2];exact hP2) (by have:=congrArg List.length eD2;rw [List.length_append] at this;lia) (by have:=congrArg List.length eD2;rw [List.length_append] at this;lia) fun st3 hP3=> ?_)
    rw [← List.append_assoc] at hP3
    have l3:(U++V.reverse).length=n2:=by rw [List.length_append,List.length_reverse,← List.length_append,← eD2,lD2]
    have d3:=dn_turn (eD2▸d2) oV
    generalize U++V.reverse=D3 at hP3 l3 d3
    rotate_left
    have hP3:=hP2
    have l3:=lD2
    have d3:=d2
    generalize D2=D3 at hP3 l3 d3
    all_goals
     refine wpS_bind (ws_rev (U:=[]) (V:=D3) (W:=W2) hP3 rfl (by rw [List.length_nil];lia) fun st4 hP4=> ?_)
     refine wpS_bind (ws_asc L (D:=D3.reverse) (W:=W2) hP4 o (by rw [List.length_reverse,l3]) (by lia) hm (dn_rev d3) (fun i j R st' H=> ?_) fun D W e hle u nx=> ?_)
     · refine wpS_bind (wpS_mono H fun c st'' ⟨b,hb,h1,h2⟩=> ?_)
       subst hb
       cases b with
       | true=>exact ws_ite (fun q_=>wpS_pure (h1 rfl)) fun z=>absurd rfl z
       | false=>exact ws_ite (fun z=>absurd z Bool.false_ne_true) fun q_=>wpS_pure (h2 rfl)
     · refine wpS_pure (k st4 D W ?_ (by rw [List.length_reverse] at hle;lia) u)
       rw [e]
       exact hP4
end
end L2
set_option Elab.async false
set_option linter.all false
set_option maxRecDepth 100000
set_option maxHeartbeats 4000000
namespace L2
open PySem PySem.Spec PySem.W PyProof.Rows
inductive PenOk:Nat→List (List Keyed)→List (Nat×Nat×Nat)→Prop
 | nil (b:Nat):PenOk b [] []
 | cons {b:Nat} {r:List Keyed} {Rs:List (List Keyed)} {ps:List (Nat×Nat×Nat)} (pw:Nat):PenOk (b + r.length) Rs ps→PenOk b (r::Rs) ((b,r.length,pw)::ps)
theorem PenOk.len {b:Nat} {Rs:List (List Keyed)} {ps:List (Nat×Nat×Nat)} (h:PenOk b Rs ps):ps.length=Rs.length:=by
 induction h with
 | nil=>rfl
 | cons _ _ ih=>rw [List.length_cons,List.length_cons,ih]
theorem PenOk.snoc {b:Nat} {Rs:List (List Keyed)} {ps:List (Nat×Nat×Nat)} (h:PenOk b Rs ps) (r:List Keyed) (pw:Nat):PenOk b (Rs++[r]) (ps++[(b + Rs.flatten.length,r.length,pw)]):=by
 induction h with
 | nil b=>exact .cons pw (.nil _)
 | @cons b r' Rs ps pw' _ ih=>
   refine .cons pw' ?_
   rw [List.flatten_cons,List.length_append,← Nat.add_assoc]
   exact ih
theorem PenOk.two {b:Nat} {R1 R2:List (List Keyed)} {x y:List Keyed}: ∀{ps:List (Nat×Nat×Nat)},PenOk b (R1++x::y::R2) ps→∃p1 p2 pa pb,ps=p1++(b + R1.flatten.length,x.length,pa)::(b + R1.flatten.length + x.length,y.length,pb)::p2∧p1.length=R1.length∧∀M:List Keyed,M.length=x.length + y.length→PenOk b (R1++M::R2) (p1++(b + R1.flatten.length,x.length + y.length,pa)::p2):=by
 induction R1 generalizing b with
 | nil=>
   intro ps h
   cases h with
   | cons pa h=>
     cases h with
     | @cons _ _ _ p2 pb h=>exact ⟨[],p2,pa,pb,rfl,rfl,fun M hM=>by
       have:=PenOk.cons (r:=M) pa (b:=b) (Rs:=R2) (ps:=p2) (by rw [hM,← Nat.add_assoc];exact h)
       rw [hM] at this
       exact this⟩
 | cons r R1 ih=>
   intro ps h
   cases h with
   | @cons _ _ _ ps pw h=>
     obtain ⟨p1,p2,pa,pb,e,l,k⟩:=ih h
     refine ⟨(b,r.length,pw)::p1,p2,pa,pb,?_,by rw [List.length_cons,List.length_cons,l],fun M hM=> ?_⟩
     · rw [e,List.flatten_cons,List.length_append,← Nat.add_assoc];rfl
     · rw [List.flatten_cons,List.length_append,← Nat.add_assoc]
       exact .cons pw (k M hM)
theorem PenOk.last {b:Nat} {Rs:List (List Keyed)} {ps:List (Nat×Nat×Nat)} (h:PenOk b Rs ps) (pw:Nat):PenOk b Rs (ps.modify (ps.length - 1) fun x=>(x.1,x.2.1,pw)):=by
 induction h with
 | nil=>exact .nil _
 | @cons b r Rs ps pw' h ih=>
   cases h with
   | nil=>exact .cons pw (.nil _)
   | @cons _ r2 Rs ps pw2 h=>
     refine .cons pw' ?_
     exact ih
section
variable {prog:Program} {w:World} {A:Around} {E:Value→Shared→Prop} {s:Shared} {key:Keyed→Int} {κ:SortKind} {ok:Keyed→Prop}
structure Rn (key:Keyed→Int) (κ:SortKind) (S0:List Keyed) (st:SortSt) (Rs:List (List Keyed)) (Rest:List Keyed):Prop where
 kd:kindOf st=κ
 fl:failedOf st=none
 ar:(arrOf st).toList=Rs.flatten++Rest
 pm:(Rs.flatten++Rest).Perm S0
 rs: ∀r∈Rs,0 < r.length∧UpL key r
 pd:PenOk 0 Rs (pendingOf st).toList
theorem ws_matR (L:LtOk prog w A E s key κ ok) {S0:List Keyed} (o: ∀z∈S0,ok z) {st:SortSt} {R1 R2:List (List Keyed)} {x y Rest:List Keyed} (h:Rn key κ S0 st (R1++x::y::R2) Rest) {i:Nat} (hi:i=R1.length) {Q:Bool→SortSt→Prop} (k: ∀st' M,Rn key κ S0 st' (R1++M::R2) Rest→Q true st'):WS prog w A E s (mergeAt' i) Q st:=by
 subst hi
 rw [mat_eq]
 obtain ⟨p1,p2,pa,pb,ep,lp,kp⟩:=h.pd.two
 rw [Nat.zero_add] at ep
 have ar:(arrOf st).toList=R1.flatten++(x++(y++(R2.flatten++Rest))):=by rw [h.ar];simp only [List.flatten_append,List.flatten_cons,List.append_assoc]
 have hx:=h.rs x (by simp)
 have hy:=h.rs y (by simp)
 have os: ∀z∈(R1++x::y::R2).flatten++Rest,ok z:=fun z hz=>o z (h.pm.mem_iff.mp hz)
 have e1:(pendingOf st)[R1.length]?=some (R1.flatten.length,x.length,pa):=by
  rw [← Array.getElem?_toList,ep,← lp,List.getElem?_append_right (Nat.le_refl _),Nat.sub_self];rfl
 have e2:(pendingOf st)[R1.length + 1]?=some (R1.flatten.length + x.length,y.length,pb):=by
  rw [← Array.getElem?_toList,ep,← lp,List.getElem?_append_right (by lia),show p1.length + 1 - p1.length=1 by lia];rfl
 refine ws_mat L ar hx.1 hy.1 (fun z hz=>os z (by simp [hz])) (fun z hz=>os z (by simp [hz])) hx.2 hy.2 h.kd h.fl e1 e2 fun st' M h1 h2 h3 h4 h5 h6=>k st' M ⟨h1,h2,?_,?_,fun r hr=> ?_,?_⟩
 · rw [h4];simp only [List.flatten_append,List.flatten_cons,List.append_assoc]
 · refine List.Perm.trans ?_ h.pm
   simp only [List.flatten_append,List.flatten_cons,List.append_assoc]
   refine List.Perm.append_left _ ?_
   have:=h5.append_right (R2.flatten++Rest)
   simpa only [List.append_assoc] using this
 · rcases List.mem_append.mp hr with hr | hr
   · exact h.rs r (by simp [hr])
   · rcases List.mem_cons.mp hr with rfl | hr
     · exact ⟨by rw [h5.length_eq,List.length_append];lia,h6⟩
     · exact h.rs r (by simp [hr])
 · rw [h3]
   have:(((pendingOf st).setIfInBounds R1.length (R1.flatten.length,x.length + y.length,pa)).eraseIdxIfInBounds (R1.length + 1)).toList=p1++(R1.flatten.length,x.length + y.length,pa)::p2:=by
    rw [Array.toList_eraseIdxIfInBounds,Array.toList_setIfInBounds,ep,← lp,List.set_append_right _ _ (Nat.le_refl _),Nat.sub_self,List.set_cons_zero,List.eraseIdx_append_of_length_le (by lia),show p1.length + 1 - p1.length=1 by lia]
    rfl
   rw [this]
   have q:=kp M (by rw [h5.length_eq,List.length_append])
   rw [Nat.zero_add] at q
   exact q
end
end L2
set_option Elab.async false
set_option linter.all false
set_option maxRecDepth 100000
set_option maxHeartbeats 4000000
namespace L2
open PySem PySem.Spec PySem.W PyProof.Rows
section
variable {prog:Program} {w:World} {A:Around} {E:Value→Shared→Prop} {s:Shared} {key:Keyed→Int} {κ:SortKind} {ok:Keyed→Prop}
theorem flat_len {Rs:List (List Keyed)} (h: ∀r∈Rs,0 < r.length∧UpL key r):Rs.length≤Rs.flatten.length:=by
 induction Rs with
 | nil=>exact Nat.le_refl _
 | cons r Rs ih=>
   have h1:=(h r List.mem_cons_self).1
   have h2:=ih fun r' hr=>h r' (List.mem_cons_of_mem _ hr)
   rw [List.flatten_cons,List.length_append,List.length_cons]
   lia
theorem split2 {Rs:List (List Keyed)} {i:Nat} (h:i + 1 < Rs.length): ∃R1 x y R2,Rs=R1++x::y::R2∧R1.length=i:=by
 refine ⟨Rs.take i,Rs[i],Rs[i + 1],Rs.drop (i + 2),?_,by rw [List.length_take];lia⟩
 rw [← List.drop_eq_getElem_cons (by lia),← List.drop_eq_getElem_cons (by lia),List.take_append_drop]
theorem ite_le {c:Prop} [Decidable c] {a n:Nat} (h:a + 1 < n):(if c then a - 1 else a) + 1 < n:=by
 split <;> lia
theorem ws_runs (L:LtOk prog w A E s key κ ok) {st:SortSt} {S0:List Keyed} (o: ∀z∈S0,ok z) (hk:kindOf st=κ) (hf:failedOf st=none) (hp:pendingOf st= #[]) (ha:(arrOf st).toList=S0) (h0:0 < S0.length) {Q:Unit→SortSt→Prop}
 (k: ∀st',failedOf st'=none→(arrOf st').toList.Perm S0→UpL key (arrOf st').toList→Q () st'):WS prog w A E s sortRuns' Q st:=by
 have sz:(arrOf st).size=S0.length:=by rw [← ha,Array.length_toList]
 rw [sortRuns'_eq]
 refine wpS_bind (wpS_get ?_)
 rw [sz]
 dsimp (zeta:=false) only
 refine wpS_bind (wpS_mono (Q:=fun c st'=>c.1=none∧∃Rs,Rn key κ S0 st' Rs []) (wpS_forRange (fun i c st'=>∃Rs Rest,c=(none,Rs.flatten.length)∧Rn key κ S0 st' Rs Rest∧i≤Rs.flatten.length) ?_ ?_ ⟨[],S0,rfl,⟨hk,hf,ha,List.Perm.refl _,fun r hr=>(by cases hr),by rw [hp];exact .nil 0⟩,Nat.le_refl _⟩) ?_)
 · rintro i c st' _ hi ⟨Rs,Rest,rfl,h,hl⟩
   have lt:Rs.flatten.length + Rest.length=S0.length:=by rw [← List.length_append,h.pm.length_eq]
   dsimp (zeta:=false) only
   refine ws_ite (fun c=>wpS_pure ⟨rfl,Rs,?_⟩) fun c=> ?_
   · obtain rfl:Rest=[]:=List.eq_nil_of_length_eq_zero (by lia)
     exact h
   have h1:Pc κ st' Rs.flatten [] Rest st' Rest:=⟨h.kd,h.fl,rfl,by rw [h.ar,List.append_nil],List.Perm.refl _⟩
   have oR: ∀z∈Rest,ok z:=fun z hz=>o z (h.pm.mem_iff.mp (List.mem_append_right _ hz))
   refine wpS_bind (ws_count L h1 oR (by lia) (by lia) fun st1 D W hP hD up=> ?_)
   have lDW:D.length + W.length=Rest.length:=by rw [← List.length_append,hP.pm.length_eq]
   have push: ∀(st2:SortSt) (D2 W2:List Keyed),Pc κ st' Rs.flatten [] Rest st2 (D2++W2)→0 < D2.length→UpL key D2→Rn key κ S0 st2 Rs (D2++W2):=fun st2 D2 W2 hP2 q_ q_=>
    ⟨hP2.kd,hP2.fl,by rw [hP2.ar,List.append_nil],(hP2.pm.append_left _).trans h.pm,h.rs,by rw [hP2.pd];exact h.pd⟩
   dsimp only
   refine ws_ite (fun cm=> ?_) (fun cm=> ?_)
   refine wpS_bind (ws_rule ?_)
   obtain ⟨f,hf'⟩: ∃f,f=min (S0.length - Rs.flatten.length) (minRun' S0.length S0.length 0):=⟨_,rfl⟩
   rw [← hf']
   have lf:((D++W).take f).length=f:=by rw [List.length_take,List.length_append];lia
   have h2:Pc κ st' Rs.flatten ((D++W).drop f) ((D++W).take f) st1 ((D++W).take f):=⟨hP.kd,hP.fl,hP.pd,by rw [hP.ar,List.append_nil,List.take_append_drop],List.Perm.refl _⟩
   refine wpS_bind (ws_bsort L h2 (fun z hz=>oR z (hP.pm.mem_iff.mp (List.mem_of_mem_take hz))) (m:=D.length) (by lia) (by lia) lf.symm (by rw [List.take_take,Nat.min_eq_left (by lia),List.take_left];exact up) fun st2 D2 hP2 up2=> ?_)
   refine ws_ite (fun z=>absurd z (by simp)) fun q_=> ?_
   have lD2:D2.length=f:=by rw [hP2.pm.length_eq,lf]
   have hR:Rn key κ S0 st2 Rs (D2++(D++W).drop f):=⟨hP2.kd,hP2.fl,by rw [hP2.ar],by
    refine List.Perm.trans (List.Perm.append_left _ ?_) h.pm
    refine List.Perm.trans ?_ hP.pm
    have:=hP2.pm.append_right ((D++W).drop f)
    rwa [List.take_append_drop] at this,h.rs,by rw [hP2.pd];exact h.pd⟩
   have hD2:0 < D2.length:=by lia
   generalize (D++W).drop f=W2 at hR
   rw [← lD2]
   clear hP2 h2 lD2 hf' lf
   rotate_left
   have hR:=push st1 D W hP hD up
   have hD2:=hD
   have up2:=up
   generalize D=D2 at hR hD2 up2
   generalize W=W2 at hR
   generalize st1=st2 at hR
   all_goals
    refine wpS_bind (wpS_get ?_)
    have fin: ∀(st3:SortSt) (Rs3:List (List Keyed)),Rn key κ S0 st3 Rs3 (D2++W2)→Rn key κ S0 (setPending st3 ((pendingOf st3).push (Rs.flatten.length,D2.length,0))) (Rs3++[D2]) W2∧(Rs3++[D2]).flatten.length=Rs.flatten.length + D2.length:=fun st3 Rs3 h3=>by
     have l3:Rs3.flatten.length=Rs.flatten.length:=by
      have a1:=h3.pm.length_eq
      have a2:=hR.pm.length_eq
      rw [List.length_append] at a1 a2
      lia
     have fl:(Rs3++[D2]).flatten=Rs3.flatten++D2:=by simp
     refine ⟨⟨h3.kd,h3.fl,?_,?_,fun r hr=> ?_,?_⟩,by rw [fl,List.length_append,l3]⟩
     · show (arrOf st3).toList=_
       rw [h3.ar,fl,List.append_assoc]
     · rw [fl,List.append_assoc];exact h3.pm
     · rcases List.mem_append.mp hr with hr | hr
       · exact h3.rs r hr
       · rw [List.mem_singleton.mp hr];exact ⟨hD2,up2⟩
     · show PenOk 0 (Rs3++[D2]) ((pendingOf st3).push (Rs.flatten.length,D2.length,0)).toList
       rw [Array.toList_push,← l3]
       have:=h3.pd.snoc D2 0
       rwa [Nat.zero_add] at this
    cases eb:(pendingOf st2).back? with
    | none=>
      obtain ⟨f1,f2⟩:=fin st2 Rs hR
      exact wpS_bind (wpS_modify (wpS_pure ⟨_,_,by rw [f2],f1,by rw [f2];lia⟩))
    | some t=>
      obtain ⟨s1,n1,p0⟩:=t
      dsimp only
      generalize power' S0.length (2 * s1 + n1) (2 * s1 + n1 + n1 + D2.length) S0.length=pw
      refine wpS_bind (wpS_mono (Q:=fun c st3=>c.1=none∧∃Rs3,Rn key κ S0 st3 Rs3 (D2++W2)) (wpS_forRange (fun i c st3=>c=(none,())∧∃Rs3,Rn key κ S0 st3 Rs3 (D2++W2)) ?_ ?_ ⟨rfl,Rs,hR⟩) ?_)
      · rintro i c st3 _ _ ⟨rfl,Rs3,h3⟩
        refine wpS_bind (wpS_get ?_)
        have lp:(pendingOf st3).size=Rs3.length:=by rw [← Array.length_toList];exact h3.pd.len
        by_cases hp2:(pendingOf st3).size > 1
        · rw [if_pos hp2,Array.getElem?_eq_getElem (by lia)]
          refine ws_ite (fun q_=>wpS_pure ⟨rfl,Rs3,h3⟩) fun q_=> ?_
          rw [lp]
          obtain ⟨R1,x,y,R2,rfl,lj⟩:=split2 (Rs:=Rs3) (i:=Rs3.length - 2) (by lia)
          refine wpS_bind (ws_matR L o h3 lj.symm fun st4 M h4=> ?_)
          exact ws_ite (fun z=>absurd z (by simp)) fun q_=>wpS_pure ⟨rfl,_,h4⟩
        · rw [if_neg hp2]
          exact wpS_pure ⟨rfl,Rs3,h3⟩
      · rintro c st3 ⟨rfl,Rs3,h3⟩
        exact ⟨rfl,Rs3,h3⟩
      · rintro ⟨r0,_⟩ st3 ⟨e0,Rs3,h3⟩
        cases e0
        refine wpS_bind (wpS_modify ?_)
        have h4:Rn key κ S0 (setPending st3 ((pendingOf st3).modify ((pendingOf st3).size - 1) fun x=>(x.1,x.2.1,pw))) Rs3 (D2++W2):=⟨h3.kd,h3.fl,h3.ar,h3.pm,h3.rs,by
         show PenOk 0 Rs3 ((pendingOf st3).modify ((pendingOf st3).size - 1) fun x=>(x.1,x.2.1,pw)).toList
         rw [Array.toList_modify,← Array.length_toList]
         exact h3.pd.last pw⟩
        obtain ⟨f1,f2⟩:=fin _ Rs3 h4
        exact wpS_bind (wpS_modify (wpS_pure ⟨_,_,by rw [f2],f1,by rw [f2];lia⟩))
 · rintro c st' ⟨Rs,Rest,rfl,h,hl⟩
   have lt:Rs.flatten.length + Rest.length=S0.length:=by rw [← List.length_append,h.pm.length_eq]
   obtain rfl:Rest=[]:=List.eq_nil_of_length_eq_zero (by lia)
   exact ⟨rfl,Rs,h⟩
 · rintro ⟨r0,lo⟩ st' ⟨e0,Rs,h⟩
   cases e0
   have lt:Rs.flatten.length=S0.length:=by rw [← h.pm.length_eq,List.append_nil]
   have lR:=flat_len h.rs
   refine wpS_bind (wpS_mono (Q:=fun c st'=>c.1=none∧∃Rs,Rn key κ S0 st' Rs []∧Rs.length≤1) (wpS_forRange (fun i c st'=>c=(none,())∧∃Rs,Rn key κ S0 st' Rs []∧(Rs.length≤1∨Rs.length + i≤S0.length)) ?_ ?_ ⟨rfl,Rs,h,by lia⟩) ?_)
   · rintro i c st' _ hi ⟨rfl,Rs,h,hl⟩
     have lp:(pendingOf st').size=Rs.length:=by rw [← Array.length_toList];exact h.pd.len
     refine wpS_bind (wpS_get ?_)
     dsimp only
     rw [lp]
     refine ws_ite (fun c=>wpS_pure ⟨rfl,Rs,h,c⟩) fun c=> ?_
     obtain ⟨j,hj,hj2⟩: ∃j,j + 1 < Rs.length∧j=(if Option.any (fun x=>decide (x < (pendingOf st')[Rs.length - 2 + 1]?.elim 0 fun x=>x.snd.fst)) (if Rs.length - 2 > 0 then Option.map (fun x=>x.snd.fst) (pendingOf st')[Rs.length - 2 - 1]? else none)=true then Rs.length - 2 - 1 else Rs.length - 2):=⟨_,ite_le (by lia),rfl⟩
     obtain ⟨R1,x,y,R2,rfl,lj⟩:=split2 hj
     rw [← hj2]
     refine wpS_bind (ws_matR L o h lj.symm fun st2 M h2=> ?_)
     refine ws_ite (fun z=>absurd z (by simp)) fun q_=>wpS_pure ⟨rfl,_,h2,?_⟩
     simp only [List.length_append,List.length_cons] at hl ⊢
     lia
   · rintro c st' ⟨rfl,Rs,h,hl⟩
     refine ⟨rfl,Rs,h,?_⟩
     have l0:0 < Rs.length:=by
      have:Rs.flatten.length=S0.length:=by rw [← h.pm.length_eq,List.append_nil]
      cases Rs with
      | nil=>simp at this;lia
      | cons=>exact Nat.succ_pos _
     lia
   · rintro ⟨r0,_⟩ st' ⟨e0,Rs,h,hl⟩
     cases e0
     have e1:(arrOf st').toList=Rs.flatten:=by rw [h.ar,List.append_nil]
     refine wpS_pure (k st' h.fl (by rw [h.ar];exact h.pm) ?_)
     rw [e1]
     match Rs,h,hl with
     | [],_,_=>exact List.Pairwise.nil
     | [r],h,_=>rw [List.flatten_cons,List.flatten_nil,List.append_nil];exact (h.rs r List.mem_cons_self).2
end
end L2
set_option Elab.async false
set_option linter.all false
set_option maxRecDepth 100000
set_option maxHeartbeats 4000000
namespace L2
open PySem PySem.Spec PySem.W PySem.Calls PyProof.Rows
section
variable {prog:Program} {w:World} {A:Around} {E:Value→Shared→Prop} {s:Shared}
theorem perm_pre {α β:Type} {f:α→β} {l m:List β} (h:l.Perm m): ∀r:List α,m=r.map f→∃π:List α,π.Perm r∧l=π.map f:=by
 induction h with
 | nil=>intro r e;exact ⟨r,List.Perm.refl _,e⟩
 | @cons x l m _ ih=>
   intro r e
   cases r with
   | nil=>cases e
   | cons a r=>
     rw [List.map_cons] at e
     injection e with e1 e2
     obtain ⟨π,h1,h2⟩:=ih r e2
     exact ⟨a::π,h1.cons a,by rw [h2,e1];rfl⟩
 | swap x y l=>
   intro r e
   match r,e with
   | a::b::r,e=>
     rw [List.map_cons,List.map_cons] at e
     injection e with e1 e2
     injection e2 with e2 e3
     exact ⟨b::a::r,List.Perm.swap a b r,by rw [e1,e2,e3];rfl⟩
 | trans _ _ ih1 ih2=>
   intro r e
   obtain ⟨π,h1,h2⟩:=ih2 r e
   obtain ⟨π',h3,h4⟩:=ih1 π h2
   exact ⟨π',h3.trans h1,h4⟩
noncomputable def midH (h:Heap) (a:Addr) (vs:List Value):Heap:=((h.update a (Obj.mapSeq fun q_=>(#[]:Array Value))).push (seqObj "tuple" vs.toArray 0)).push (seqObj "list" #[] 0)
theorem sort_any {a:Addr} {vs:List Value} {n:Nat} {P:PySem.Fin→Shared→Prop} {key:Keyed→Int} {κ:SortKind} {ok:Keyed→Prop} (ho:s.heap.get? a=some (seqObj "list" vs.toArray n)) (h2:2≤vs.length) (zz:vs.length≤sizeLine)
 (hkd: ∀R:SortKind→Shared→Prop,R κ {s with heap:=midH s.heap a vs}→wpAny (model prog w) A (keyKind' vs.toArray) R E {s with heap:=midH s.heap a vs})
 (L:LtOk prog w A E {s with heap:=midH s.heap a vs} key κ ok) (ov: ∀v∈vs,ok (v,v))
 (h: ∀out:List Value,(∃ l:List Keyed,l.Perm (vs.map fun v=>(v,v))∧UpL key l∧out=l.map (·.2))→P (.done (.ret .none)) {s with heap:=sortedHeap s.heap a vs out.toArray}):wpAny (model prog w) A (Builtin.«list.sort» ⟨[.ref a],[]⟩) P E s:=by
 rw [list_sort_plain]
 obtain ⟨e1,o1⟩: ∃e,(s.heap.update a (Obj.mapSeq fun q_=>(#[]:Array Value))).get? a=some (seqObj "list" #[] e):=⟨_,get?_update_seq ho _⟩
 have o6:=Heap.get?_push_of_some (seqObj "list" #[] 0) (Heap.get?_push_of_some (seqObj "tuple" vs.toArray 0) o1)
 have c2: ¬vs.toArray.size < 2:=by simpa using h2
 refine wpAny_bind (listItems_at ho rfl (wpAny_bind (listUpdate_at ho rfl (wpAny_bind (seqEpoch_at o1 rfl (wpAny_bind (wpAny_newTuple (wpAny_bind (wpAny_newList (wpAny_holding ?_) (Nat.zero_le _))) zz)))) (by simpa using zz) (Nat.zero_le _))))
 simp only [if_neg c2]
 refine wpAny_bind (hkd _ ?_)
 have hr:=ws_runs (Q:=fun q_ st'=>failedOf st'=none∧(arrOf st').toList.Perm (vs.map fun v=>(v,v))∧UpL key (arrOf st').toList) L (st:=SortSt.mk' κ (vs.toArray.zip vs.toArray) #[] 7 none) (S0:=vs.map fun v=>(v,v)) (fun z hz=>by
  obtain ⟨v,hv,rfl⟩:=List.mem_map.mp hz
  exact ov v hv) rfl rfl rfl (by show (vs.toArray.zip vs.toArray).toList=_;simp only [List.zip_toArray];exact zip_same vs) (by rw [List.length_map];lia) (fun st' a1 a2 a3=>⟨a1,a2,a3⟩)
 refine wpAny_bind (wpAny_mono hr ?_ fun q_ q_ z=>z)
 rintro ⟨_,st'⟩ s' ⟨rfl,hf,hp,hu⟩
 dsimp only
 have eo:(arrOf st').map (·.2)=((arrOf st').toList.map (·.2)).toArray:=by
  apply Array.toList_inj.mp
  rw [Array.toList_map]
 have lo:((arrOf st').toList.map (·.2)).length=vs.length:=by rw [List.length_map,hp.length_eq,List.length_map]
 rw [eo,hf]
 refine wpAny_bind (seqEpoch_at o6 rfl (wpAny_bind (listUpdate_at o6 rfl ?_ (Nat.zero_le _) (by rw [List.size_toArray,lo];exact Nat.le_succ_of_le zz))))
 simp only [bne_self_eq_false,Bool.false_eq_true,if_false]
 exact wpAny_pure (h _ ⟨_,hp,hu,rfl⟩)
end
end L2
set_option Elab.async false
set_option linter.all false
set_option maxRecDepth 100000
set_option maxHeartbeats 4000000
namespace L2
open PySem PySem.Spec PySem.W PySem.Calls PyProof.Rows
section
variable {X:Cx}
end
end L2
namespace L2
open PySem PySem.Spec PyProof.Rows
section
variable {He:Hp} {K:PySem.W.Frag} {ι:Type} {Y:ι→Cx} {e:Expr} {pos p:Pos}
end
end L2
set_option Elab.async false
set_option linter.all false
set_option maxRecDepth 100000
namespace L2
open PySem PySem.Spec PyProof.Rows
noncomputable def getTD (kvs:List (List Key×PyData)) (k:List Key):Option PyData:=(kvs.find? fun kv=>decide (kv.1=k)).map (·.2)
noncomputable def putTD (kvs:List (List Key×PyData)) (k:List Key) (v:PyData):List (List Key×PyData):=
 if (kvs.any fun kv=>decide (kv.1=k))=true then kvs.map (fun kv=>if kv.1=k then (kv.1,v) else kv) else kvs++[(k,v)]
noncomputable abbrev kP (a b:Int):List Key:=[.inl a,.inl b]
section
variable {K:PySem.W.Frag} {R:Hp}
theorem KvR.valT {k:List Key}: ∀{l:List (List Key×V)} {m:List (List Key×PyData)},KvR K R l m→(valV l k=none∧getTD m k=none)∨∃v d,valV l k=some v∧getTD m k=some d∧Rp K R v d:=by
 intro l m h
 induction h with
 | nil=>exact .inl ⟨rfl,rfl⟩
 | @cons p q ps qs h t ih=>
   by_cases e:p.1=k
   · exact .inr ⟨p.2,q.2,valV_pos e,by unfold getTD;rw [List.find?_cons_of_pos (by rw [← h.1];simpa using e)];rfl,h.2⟩
   · rw [valV_neg e,show getTD (q::qs) k=getTD qs k by unfold getTD;rw [List.find?_cons_of_neg (by rw [← h.1];simpa using e)]]
     exact ih
theorem KvR.anyT {k:List Key}: ∀{l:List (List Key×V)} {m:List (List Key×PyData)},KvR K R l m→(l.any fun kv=>decide (kv.1=k))=(m.any fun kv=>decide (kv.1=k)):=by
 intro l m h
 induction h with
 | nil=>rfl
 | @cons p q ps qs h t ih=>rw [List.any_cons,List.any_cons,ih,h.1]
set_option tactic.hygienic true in
theorem KvR.putT {k:List Key} {v:V} {d:PyData} {l:List (List Key×V)} {m:List (List Key×PyData)} (h:KvR K R l m) (r:Rp K R v d):KvR K R (putK l k v) (putTD m k d):=by
 unfold putK putTD
 rw [h.anyT]
 split
 · rename_i hz;clear hz
   induction h with
   | nil=>exact .nil
   | @cons p q ps qs h t ih=>
     rw [List.map_cons,List.map_cons]
     refine .cons ?_ ih
     by_cases e:p.1=k
     · rw [if_pos e,if_pos (by rw [← h.1];exact e)];exact ⟨h.1,r⟩
     · rw [if_neg e,if_neg (by rw [← h.1];exact e)];exact h
 · rename_i hz;clear hz
   induction h with
   | nil=>exact .cons ⟨rfl,r⟩ .nil
   | @cons p q ps qs h t ih=>exact .cons h ih
theorem KvR.lenT {l:List (List Key×V)} {m:List (List Key×PyData)} (h:KvR K R l m):l.length=m.length:=Paired.length h
theorem rp_pair {v:V} {a b:Int} (r:Rp K R v (.tuple [.int a,.int b])): ∃p,v= .ref p∧R p=some (.tup ((kP a b).map kV)):=by
 obtain ⟨p,zs,rfl,hp,rz⟩:=r.tup_inv
 cases rz with
 | cons z1 rz=>
   cases rz with
   | cons z2 rz=>
     cases rz
     rw [z1.int_inv,z2.int_inv] at hp
     exact ⟨p,rfl,hp⟩
end
section
variable {He:Hp} {K:PySem.W.Frag} {ι:Type} {Y:ι→Cx} {e a b c:Expr} {es:List Expr} {pos:Pos}
theorem Fra.dtAt {H0 R H:Hp} {σ:St} {env:List Dt} {i:Nat} {kvs:List (List Key×PyData)} (F:Fra He K H0 R H σ env) (h:env[i]?=some (.dt kvs)): ∃a ys,σ[i]?=some (some (.ref a))∧H a=some (.dT ys)∧R a=none∧H0 a=none∧KvR K R ys kvs:=by
 obtain ⟨v,hs,a,ys,rfl,h2,h3,h4,h5⟩:=F.get h (by intro z;cases z)
 exact ⟨a,ys,hs,h2,h3,h4,h5⟩
noncomputable def sNewT (i:Nat):Ds:=fun D env=>D.nx (env.set i (.dt []))
theorem ds_newT (i:Nat) {x:Str} {p2 p3:Pos} (hN: ∀j,(Y j).N.Nodup) (hi:autoParam (∀ j,(Y j).N[i]?=some x) u4._auto_1) (hx:autoParam (∀ j,Loc (Y j).env.scope x) u13._auto_1)
 (hs:autoParam (∀ j,swapsWith (.Dict [] [] p3) (some (.Name x p2)) pos.line (Y j).env=pure false) u4._auto_1) (hf:autoParam (∀ j,(Y j).fn x=true∨(Y j).env.scope.names.lookup x=some .local) u14._auto_1):
 DS He K Y (.Assign [.Name x p2] (.Dict [] [] p3) pos) (sNewT i):=
 ⟨_,fun j=>ps_set (hN j) (hi j) (hx j) pe_dnewT (hs j) (hf j),fun D E F s c p q hn=>c.nx _ _ _ _ p s (F.setN (Ext.newO (o:= .dT []) F.wd hn trivial) i hn ⟨q,[],rfl,upd_same,F.wd.rh.free hn,F.ext.hh.free hn,.nil⟩)⟩
noncomputable def sPutT (i:Nat) (ta tb:De):Ds:=fun D env=>tb env fun v=>∃kvs,env[i]?=some (.dt kvs)∧kvs.length < 100000∧ta env fun y=>∃k l,y= .tuple [.int k,.int l]∧D.nx (env.set i (.dt (putTD kvs (kP k l) v)))
theorem ds_putT (i:Nat) {x:Str} {p2 p3:Pos} {ta tb:De} (hu: ∀j,(Y j).A.units + 1 < cLine) (ha:DE He K Y a ta) (hb:DE He K Y b tb) (hv:autoParam (∀ j,PE (Y j) (.Name x p2) (tVar i)) u9._auto_1)
 (hs:autoParam (∀ j,swapsWith b (some (.Subscript (.Name x p2) a p3)) pos.line (Y j).env=pure false) u4._auto_1):
 DS He K Y (.Assign [.Subscript (.Name x p2) a p3] b pos) (sPutT i ta tb):=by
 obtain ⟨t1,a1,a2⟩:=ha
 obtain ⟨t2,b1,b2⟩:=hb
 refine ⟨_,fun j=>ps_dput (hu j) (hv j) (a1 j) (b1 j) (hs j),fun D E F s c p=> ?_⟩
 refine b2 _ _ F p fun d v R1 H1 ⟨kvs,hx,hl,p1⟩ e1 r1=> ?_
 obtain ⟨q,ys,h1,h2,h3,h4,h5⟩:=(F.next e1).dtAt hx
 refine ⟨_,h1,a2 _ _ (F.next e1) p1 fun d2 v2 R2 H2 ⟨k,l,hk,p2⟩ e2 r2=> ?_⟩
 subst hk
 obtain ⟨pp,rfl,hpp⟩:=rp_pair r2
 have F2:=(F.next e1).next e2
 have l2:=e2.hh q _ h2
 refine ⟨q,_,rfl,DPut.t (k:=kP k l) l2 (F2.wd.rh _ _ hpp) (szlt' (by rw [h5.lenT];lia)),?_⟩
 exact c.nx _ _ _ _ p2 (s.trans (e1.trans e2).rr) (F2.mut hx rfl h1 trivial ⟨q,_,rfl,upd_same,e2.nn _ _ h2 h3,h4,(KvR.same e2.rr h5).putT (Rp.same e2.rr r1)⟩)
noncomputable def xInT (i:Nat) (ta:De):Db:=fun env P=>ta env fun y=>∃k l kvs,y= .tuple [.int k,.int l]∧env[i]?=some (.dt kvs)∧P (getTD kvs (kP k l)).isSome
theorem dt_inT (i:Nat) {x:Str} {p2:Pos} {ta:De} (hu: ∀j,(Y j).A.units + 1 < cLine) (ha:DE He K Y a ta) (hv:autoParam (∀ j,PE (Y j) (.Name x p2) (tVar i)) u9._auto_1)
 (hm:autoParam (behindInMarks .In (.Name x p2)=false) u3._auto_1):DT He K Y (.Compare a [.In] [.Name x p2] pos) (xInT i ta):=by
 obtain ⟨t1,a1,a2⟩:=ha
 refine ⟨_,fun j=>pt_cmp (pc_din (hu j) (a1 j) (hv j)) hm,fun P Q F p k=>a2 _ _ F p fun d v R1 H1 ⟨n,l,kvs,hn,hx,p1⟩ e1 r1=> ?_⟩
 subst hn
 obtain ⟨pp,rfl,hpp⟩:=rp_pair r1
 have F1:=F.next e1
 obtain ⟨q,ys,h1,h2,h3,h4,h5⟩:=F1.dtAt hx
 refine ⟨_,h1,q,_,rfl,DGet.t (k:=kP n l) h2 (F1.wd.rh _ _ hpp),(valV ys (kP n l)).isSome,rfl,?_⟩
 have:(valV ys (kP n l)).isSome=(getTD kvs (kP n l)).isSome:=by
  rcases h5.valT (k:=kP n l) with ⟨z1,z2⟩ | ⟨v,d,z1,z2,_⟩ <;> simp [z1,z2]
 rw [this]
 exact k _ R1 H1 p1 e1
end
end L2
set_option Elab.async false
set_option linter.all false
set_option maxRecDepth 100000
namespace L2
open PySem PySem.Spec PyProof.Rows PySem.W PySem.Calls
noncomputable def RawAt (h:Heap) (d:Addr) (es:Array DictEntry) (ep:Nat):Prop:=∃o,h.get? d=some o∧o.ExactDict∧o.data= .dict es ep
theorem RawAt.lt {h:Heap} {d:Addr} {es:Array DictEntry} {ep:Nat} (x:RawAt h d es ep):d < h.objs.size:=by obtain ⟨o,ho,_⟩:=x;exact Heap.lt_size ho
theorem RawAt.to {h h':Heap} {d:Addr} {es:Array DictEntry} {ep:Nat} (x:RawAt h d es ep) (k: ∀o,h.get? d=some o→h'.get? d=some o):RawAt h' d es ep:=by obtain ⟨o,ho,r⟩:=x;exact ⟨o,k o ho,r⟩
section
variable {prog:Program} {w:World} {A:Around} {E:Value→Shared→Prop} {s:Shared} {d it:Addr} {es:Array DictEntry} {ep i:Nat}
theorem RawAt.ty (x:RawAt s.heap d es ep):s.TypeIs (.ref d) "dict":=by
 obtain ⟨o,ho,hc,_⟩:=x
 exact ⟨o,ho,hc.1⟩
theorem raw_iter {Q:Value→Shared→Prop} (hs:(d == sysModules)=false) (x:RawAt s.heap d es ep)
 (q:Q (.ref s.heap.objs.size) {s with heap:=s.heap.push {cls:= .type "dict_keyiterator",data:= .fields #[.ref d,.int 0 0,.int es.size 0,.int ep 0]}}):wpAny (model prog w) A (pyIter (.ref d)) Q E s:=by
 have ty:=x.ty
 obtain ⟨o,ho,hc,he⟩:=x
 refine wpAny_pyIter_slot ty PySem.F.slot_dict_iter (wpAny_call_entry PySem.F.slot_dict_iter ty PySem.F.entry_dict_iter ?_ (PySem.F.args_dict_iter_1 _))
 unfold Builtin.«dict.__iter__»
 refine wpAny_bind ?_
 unfold Builtin.Dict.dictSlotNone
 refine wpAny_bind (wpAny_notOrdered_dict ty ?_)
 refine wpAny_pure (a:=Value.ref d) ?_
 show wpAny _ _ (bind (Builtin.Dict.showsAll d) _) _ _ s
 unfold Builtin.Dict.showsAll
 rw [if_neg (by rw [hs];decide)]
 refine wpAny_bind (wpAny_pure ?_)
 refine wpAny_bind (wpAny_dictEntries ho he (wpAny_bind (wpAny_dictEpoch ho he (wpAny_bind (wpAny_newObj_type (wpAny_pure ⟨_,rfl,"dict_keyiterator",_,⟨_,Heap.get?_push_size _ rfl,rfl⟩,PySem.F.slot_dict_keyiterator_next.lookup,?_⟩))))))
 exact q
theorem raw_next {Q:Option Value→Shared→Prop} (hi:s.heap.IsKeyIter it d i es.size ep) (x:RawAt s.heap d es ep) {e:DictEntry} (hx:es[i]?=some e)
 (q: ∀h',h'.IsKeyIter it d (i + 1) es.size ep→Heap.SameBut it s.heap h'→Q (some e.key) {s with heap:=h'}):wpAny (model prog w) A (pyNext (.ref it)) Q E s:=by
 have ty:=hi.typeIs
 obtain ⟨o,ho,hc,hd⟩:=id hi
 obtain ⟨od,hod,_,hdd⟩:=x
 unfold pyNext
 refine wpAny_bind (wpAny_attempt (wpAny_callSpecial?_slot (name:=Str.ofString "__next__") ty PySem.F.slot_dict_keyiterator_next (wpAny_call_entry PySem.F.slot_dict_keyiterator_next ty PySem.F.entry_dict_keyiterator_next ?_ (PySem.F.args_dict_keyiterator_next_1 _))))
 refine wpAny_bind (wpAny_pure (wpAny_bind (wpAny_bind ?_)))
 refine wpAny_bind (wpAny_typeNameOfWhole_keyiter ty (wpAny_pure (wpAny_bind (wpAny_fieldsOf ho hd ?_))))
 simp only [show Builtin.Dict_items.ownsTuple "dict_keyiterator"=false by decide,Bool.false_eq_true,if_false]
 show wpAny _ _ (ite ((Value.ref d == Value.none)=true) _ _) _ _ s
 rw [if_neg (show ¬((Value.ref d == Value.none)=true) from nofun)]
 refine wpAny_bind (wpAny_pure (wpAny_bind (wpAny_dictEntries hod hdd ?_)))
 rw [if_neg (by simp)]
 refine wpAny_bind (wpAny_pure (wpAny_bind (wpAny_dictEpoch hod hdd ?_)))
 rw [if_neg (by simp)]
 refine wpAny_pure ?_
 simp only [show ¬((i:Int) < 0) by lia,if_false,Int.toNat_natCast,hx]
 refine wpAny_bind (wpAny_bind (wpAny_typeNameOfWhole_keyiter ty (wpAny_pure (wpAny_bind (wpAny_isOneOf_keyiter ty ?_)))))
 show wpAny _ _ (bind (setField (.ref it) 1 (rawInt ((i:Int) + 1))) _) _ _ s
 refine wpAny_bind (wpAny_setField ho hd (by simp) ?_)
 have hi':(s.heap.update it (Obj.mapFields fun z=>z.setIfInBounds 1 (rawInt ((i:Int) + 1)))).IsKeyIter it d (i + 1) es.size ep:=⟨_,Heap.get?_update_self _ ho (Obj.isFreed_of_fields (Obj.data_mapFields hd _)),by rw [Obj.cls_mapFields];exact hc,by rw [Obj.data_mapFields hd];simp [rawInt]⟩
 refine wpAny_bind (wpAny_holding (wpAny_bind (wpAny_isOneOf_keyiter (s:=⟨_,_,_,_,_⟩) hi'.typeIs ?_)))
 show wpAny _ _ (pure e.key) _ _ _
 exact wpAny_pure (wpAny_pure ⟨_,rfl,wpAny_pure (q _ hi' (Heap.SameBut.update ..))⟩)
theorem raw_end {Q:Option Value→Shared→Prop} (hh:A.handled=none) (hi:s.heap.IsKeyIter it d i es.size ep) (x:RawAt s.heap d es ep) (hx:es[i]?=none)
 (q: ∀h',Heap.ExtBut it s.heap h'→Q none {s with heap:=h'}):wpAny (model prog w) A (pyNext (.ref it)) Q E s:=by
 have ty:=hi.typeIs
 obtain ⟨o,ho,hc,hd⟩:=id hi
 obtain ⟨od,hod,_,hdd⟩:=x
 unfold pyNext
 refine wpAny_bind (wpAny_attempt (wpAny_callSpecial?_slot (name:=Str.ofString "__next__") ty PySem.F.slot_dict_keyiterator_next (wpAny_call_entry PySem.F.slot_dict_keyiterator_next ty PySem.F.entry_dict_keyiterator_next ?_ (PySem.F.args_dict_keyiterator_next_1 _))))
 refine wpAny_bind (wpAny_pure (wpAny_bind (wpAny_bind ?_)))
 refine wpAny_bind (wpAny_typeNameOfWhole_keyiter ty (wpAny_pure (wpAny_bind (wpAny_fieldsOf ho hd ?_))))
 simp only [show Builtin.Dict_items.ownsTuple "dict_keyiterator"=false by decide,Bool.false_eq_true,if_false]
 show wpAny _ _ (ite ((Value.ref d == Value.none)=true) _ _) _ _ s
 rw [if_neg (show ¬((Value.ref d == Value.none)=true) from nofun)]
 refine wpAny_bind (wpAny_pure (wpAny_bind (wpAny_dictEntries hod hdd ?_)))
 rw [if_neg (by simp)]
 refine wpAny_bind (wpAny_pure (wpAny_bind (wpAny_dictEpoch hod hdd ?_)))
 rw [if_neg (by simp)]
 refine wpAny_pure ?_
 simp only [show ¬((i:Int) < 0) by lia,if_false,Int.toNat_natCast,hx]
 refine wpAny_bind (wpAny_bind (wpAny_typeNameOfWhole_keyiter ty (wpAny_pure ?_)))
 show wpAny _ _ (bind (setField (.ref it) 0 .none) _) _ _ s
 refine wpAny_bind (wpAny_setField ho hd (by simp) ?_)
 show wpAny _ _ (bind (newExc (.type "StopIteration") []) _) _ _ _
 refine wpAny_bind ?_
 simp only [newExc,newTuple]
 refine wpAny_bind (wpAny_newObj_type (wpAny_bind (m:=firstArgMember _ _) (wpAny_of_eq (a:=Value.none) (by first | rfl | (simp only [firstArgMember];rfl)) (wpAny_newObj_type ?_ (by size_fits)))) (by size_fits))
 simp only [raiseNew]
 refine wpAny_bind (wpAny_handled ?_)
 rw [show A.in1.handled=none from hh]
 refine wpAny_bind (wpAny_pure (wpAny_throw ?_))
 refine wpAny_bind (wpAny_isInstance (T:="StopIteration") (b:=true) ⟨_,Heap.get?_push_size _ rfl,rfl⟩ isSubtype_stop ?_)
 exact wpAny_pure (q _ (((Heap.SameBut.update ..).extBut.push _).push _))
theorem raw_walk (hh:A.handled=none) (I:Addr) (ne:d≠I):Walks prog w A I [I,d] [I] es.size (fun i v=>∃e,es[i]?=some e∧v=e.key) (fun i h=>h.IsKeyIter I d i es.size ep∧RawAt h d es ep):=by
 refine {sub:=fun b hb=>by simp at hb;simp [hb],frame:=fun q_ q_ q_ st k=>⟨st.1.at fun o e=>k I (by simp) o e,st.2.to fun o e=>k d (by simp) o e⟩,item:=fun i s Q E hi st hQ=> ?_,done:=fun s Q E st hQ=> ?_,self:=fun q_ q_ q_ q_ st hQ=>wpAny_pyIter_keyiter st.1 hQ}
 · refine raw_next st.1 st.2 (e:=es[i]) (by simp [hi]) fun h' hit hs=>hQ _ h' s.toks ⟨_,by simp [hi],rfl⟩ ⟨hit,st.2.to fun o e=>hs.extBut d o ne e⟩ fun b o hb e=>hs.extBut b o (fun z=>hb (by simp [z])) e
 · exact raw_end hh st.1 st.2 (by simp) fun h' he=>hQ h' s.toks fun b o hb e=>he b o (fun z=>hb (by simp [z])) e
theorem raw_src (lo:(d == sysModules)=false):KdlSrc prog w "dict" d d es.size (fun i v=>∃e,es[i]?=some e∧v=e.key) (fun h=>RawAt h d es ep):=by
 refine {type:=fun q_ x=>x.ty,there:=fun q_ x=>⟨x.lt,x.lt⟩,keep:=fun q_ q_ x k=>x.to fun o e=>k d (.inl rfl) o e,notList:=by decide,notTuple:=by decide,hint:=fun q_ q_ q_ q_ x q=>kdl_hint_dict x.ty q,iter:=fun q_ q_ hh x=> ?_}
 exact ⟨_,_,(fun q_ q_ q=>raw_iter lo x q),raw_walk hh _ (Nat.ne_of_lt x.lt),⟨⟨_,Heap.get?_push_size _ rfl,rfl,rfl⟩,x.to fun o e=>Heap.get?_push_of_some _ e⟩⟩
end
end L2
namespace L2
open PySem PySem.Spec PySem.W PySem.Calls PyProof.Rows
theorem sort_news {h0 h:Heap} {L D:Addr} {m:Str→Option Value} {news:List (Addr×Obj)} {vs out:List Value} (F:Fr h0 L h m) (N:News h0 L h ((D,listOf vs.toArray 0)::news)) (hD: ∀q∈news,q.1 < D):
 ∃c,Fr h0 L (sortedHeap h D vs out.toArray) m∧News h0 L (sortedHeap h D vs out.toArray) ((D,listOf out.toArray c)::news):=by
 have z:=N _ List.mem_cons_self
 obtain ⟨c,hc⟩:=sortedHeap_at (vs:=vs) (out:=out.toArray) (n:=0) z.1
 refine ⟨c,ksk_fr (((ksk_fr F (Heap.SameBut.update h D _) z.2.1 z.2.2).push _).push _) (Heap.SameBut.update _ D _) z.2.1 z.2.2,fun p hp=> ?_⟩
 rcases List.mem_cons.mp hp with rfl | hp
 · exact ⟨hc,z.2⟩
 · have y:=N p (List.mem_cons_of_mem _ hp)
   exact ⟨(sortedHeap_old (fun e=>absurd (hD p hp) (by rw [e];exact Nat.lt_irrefl _)) (Heap.lt_size y.1)).trans y.1,y.2⟩
theorem vals_refs {α:Type} {f:α→Addr}: ∀l:List α,Vals (l.map fun x=>V.ref (f x)) (l.map fun x=>Value.ref (f x))
 | []=> .nil
 | _::l=> .cons rfl (vals_refs l)
theorem KT.at_ {H:Hp}: ∀{kvs:List (List Key×V)} {ws:List (List Key×Addr×Value)} {ps:List (Int×Int)},KT H kvs ws→kvs.map (·.1)=ps.map (fun q=>kP q.1 q.2)→∀(i:Nat) (p:Int×Int),ps[i]?=some p→∃x,ws[i]?=some x∧H x.2.1=some (.tup [.int p.1,.int p.2]):=by
 intro kvs ws ps r
 unfold KT at r
 induction r generalizing ps with
 | nil=>intro e i p hp;cases ps with
   | nil=>simp at hp
   | cons _ _=>cases e
 | @cons p q as bs h t ih=>
   intro e i u hu
   cases ps with
   | nil=>cases e
   | cons n ps=>
     rw [List.map_cons,List.map_cons] at e
     injection e with e1 e2
     cases i with
     | zero=>
       have hu:n=u:=by simpa using hu
       subst hu
       have h2:=h.2.1
       rw [e1] at h2
       exact ⟨q,rfl,h2⟩
     | succ i=>
       obtain ⟨x,x1,x2⟩:=ih e2 i u (by simpa using hu)
       exact ⟨x,by simpa using x1,x2⟩
section
variable {X:Cx}
theorem call_sortT (hc:X.calm=true) (hu:X.A.units + 40 < cLine):CallR X (.builtin "sorted") (fun xs H Q=>∃(a:Addr) (kvs:List (List Key×V)) (ps:List (Int×Int)) (B:Int),xs=[.ref a]∧H a=some (.dT kvs)∧kvs.map (·.1)=ps.map (fun q=>kP q.1 q.2)∧(∀ q∈ps,0≤q.2∧q.2 < B)∧
 ∀(l:Addr) (zs:List V) (qs:List (Int×Int)),H l=none→qs.Perm ps→qs.Pairwise (fun x y=>x.1 * B + x.2≤y.1 * B + y.2)→zs.length=qs.length→(∀ (i:Nat) (q:Int×Int),qs[i]?=some q→∃b,zs[i]?=some (.ref b)∧H b=some (.tup [.int q.1,.int q.2]))→Q (.ref l) (upd H l (.lst zs))):=by
 intro pins s σ H xs us Q I r h
 obtain ⟨a,kvs,ps,B,rfl,ha,hk,hB,q⟩:=h
 obtain ⟨u,rfl,r1⟩:=vals1 r
 cases (show u=Value.ref a from r1)
 obtain ⟨z,hd,ws,rel,o,es,ep,h1,h2,h3,h4,h5⟩:=(show ObjOk X.prog X.w H s.heap a (.dT kvs) from I.hok a _ ha)
 have at0:=KT.at_ (H:=H) rel hk
 obtain ⟨m,hn,_⟩:=id I.loc
 have F0:Fr X.base X.env.locals s.heap m:=⟨hn,I.bk,Nat.le_trans I.ok.bsz I.ok.above⟩
 have hl:ws.length=ps.length:=by rw [← Paired.length rel,← List.length_map (·.1),hk,List.length_map]
 have hes:es.size=ws.length:=size_of_entries h4
 refine kdu_sorted (raw_src (es:=es) (ep:=ep) hd) (I.ok.hd hc) F0 (allN_news (base:=X.base)) ⟨o,h1,h2,h3⟩ (by rw [hes,← Paired.length rel];exact z) fun D h' tk vs F' N' hD hl' hv=> ?_
 have hvs:vs=ws.map fun x=>Value.ref x.2.1:=by
  apply List.ext_getElem
  · rw [hl',hes,List.length_map]
  · intro i i1 i2
    obtain ⟨e,e1,e2⟩:=hv i _ (List.getElem?_eq_getElem i1)
    rw [e2,List.getElem_map]
    rw [entry_at h4,List.getElem?_eq_getElem (by rw [List.length_map] at i2;exact i2)] at e1
    cases e1
    rfl
 have hil:vs.length=ps.length:=by rw [hl',hes,hl]
 have rv:Vals (ws.map fun x=>V.ref x.2.1) vs:=by rw [hvs];exact vals_refs (f:=fun x:List Key×Addr×Value=>x.2.1) ws
 have ol:h'.get? D=some (seqObj "list" vs.toArray 0):=(N' _ List.mem_cons_self).1
 have keep: ∀b o,s.heap.get? b=some o→b≠X.env.locals→(midH h' D vs).get? b=some o:=fun b o e hb=>by
  have:h'.get? b=some o∧b≠D:=by
   cases q:X.base.get? b with
   | some o2=>
     have e2:=I.bk b o2 q
     rw [e] at e2
     cases e2
     exact ⟨F'.keep b o q,fun z=>by have:=(N' _ List.mem_cons_self).2.2;dsimp only at this;rw [← z,q] at this;cases this⟩
   | none=>
     have mm:=allN_mem e hb q
     exact ⟨(N' _ (List.mem_cons_of_mem _ mm)).1,Nat.ne_of_lt (hD _ mm)⟩
  unfold midH
  refine Heap.get?_push_of_some _ (Heap.get?_push_of_some _ ?_)
  rw [Heap.get?_update_ne _ _ _ _ this.2]
  exact this.1
 have tup0: ∀(i:Nat),i < vs.length→∃a o n t1 t2,vs.getD i Value.none= .ref a∧(ws.map fun x=>V.ref x.2.1).getD i V.non= .ref a∧H a=some (.tup [.int (ps.getD i (0,0)).1,.int (ps.getD i (0,0)).2])∧(midH h' D vs).get? a=some o∧o.cls= .type "tuple"∧o.data= .seq #[.int (ps.getD i (0,0)).1 t1,.int (ps.getD i (0,0)).2 t2] n:=fun i hi=>by
  have e1:ps[i]?=some ps[i]:=List.getElem?_eq_getElem (by lia)
  obtain ⟨x,hx,hH⟩:=at0 i _ e1
  obtain ⟨_,ts,rt,ot,ho,ct,nt,dt⟩:=(show ObjOk X.prog X.w H s.heap x.2.1 (.tup [.int ps[i].1,.int ps[i].2]) from I.hok _ _ hH)
  obtain ⟨u1,u2,rfl,q1,q2⟩:=vals2 rt
  obtain ⟨t1,rfl⟩:=(show ∃t,u1=Value.int ps[i].1 t from q1)
  obtain ⟨t2,rfl⟩:=(show ∃t,u2=Value.int ps[i].2 t from q2)
  have ep:ps.getD i (0,0)=ps[i]:=by simp [show i < ps.length by lia]
  refine ⟨x.2.1,ot,nt,t1,t2,?_,?_,by rw [ep];exact hH,keep _ _ ho (fun zz=>by rw [zz,I.free] at hH;cases hH),ct,?_⟩
  · rw [hvs,List.getD_eq_getElem?_getD,List.getElem?_map,hx];rfl
  · rw [List.getD_eq_getElem?_getD,List.getElem?_map,hx];rfl
  · rw [ep];exact dt
 have zv:vs.length≤sizeLine:=by rw [hl',hes,← Paired.length rel];exact z
 have fin: ∀π:List Nat,π.Perm (List.range ps.length)→(∀ i j,i≤j→j < π.length→keyP B ps (π.getD i 0)≤keyP B ps (π.getD j 0))→∃v H',Inv X pins σ H' {s with heap:=sortedHeap h' D vs (π.map fun i=>vs.getD i Value.none).toArray,toks:=tk}∧RelV v (.ref D)∧Q v H':=fun π hp hs=>by
  obtain ⟨c,F2,N2⟩:=sort_news (out:=π.map fun i=>vs.getD i Value.none) F' N' hD
  have pin: ∀i∈π,i < ps.length:=fun i hi=>List.mem_range.mp (hp.mem_iff.mp hi)
  have J:=I.newAt hn F2 N2 hD (vals_at rv π fun i hi=>by rw [List.length_map,hl];exact pin i hi) (by rw [List.length_map,hp.length_eq,List.length_range,← hil];exact zv)
  refine ⟨.ref D,_,J.2.tok tk,rfl,q D _ (π.map fun i=>ps.getD i (0,0)) J.1 ?_ ?_ ?_ ?_⟩
  · have:=hp.map fun i=>ps.getD i (0,0)
    rwa [range_getD] at this
  · rw [List.pairwise_iff_getElem]
    intro i j hi hj hij
    rw [List.length_map] at hi hj
    have z:=hs i j (by lia) hj
    unfold keyP at z
    simp only [List.getElem_map]
    rw [show π.getD i 0=π[i] by simp [hi],show π.getD j 0=π[j] by simp [hj]] at z
    exact z
  · rw [List.length_map,List.length_map]
  · intro i p hp2
    rw [List.getElem?_map] at hp2
    cases e:π[i]? with
    | none=>rw [e] at hp2;cases hp2
    | some j=>
      rw [e] at hp2
      cases hp2
      obtain ⟨a,_,_,_,_,_,e2,e3,_⟩:=tup0 j (by rw [hil];exact pin j (List.mem_of_getElem? e))
      exact ⟨a,by rw [List.getElem?_map,e];exact congrArg some e2,e3⟩
 by_cases h2:vs.length < 2
 · refine wpAny_call_entry slot_list_sort ⟨_,ol,rfl⟩ entry_list_sort (sort_short ol h2 ⟨_,rfl,?_⟩) (args_list_sort _)
   have:=fin (List.range ps.length) (List.Perm.refl _) fun i j hij hj=>by
    rw [List.length_range] at hj
    have:i=j:=by lia
    rw [this]
    exact Int.le_refl _
   rw [show (List.range ps.length).map (fun i=>vs.getD i Value.none)=vs by rw [← hil];exact range_getD vs Value.none] at this
   exact this
 have h2:2≤vs.length:=by lia
 have same: ∀i j,i < vs.length→j < vs.length→vs.getD i Value.none=vs.getD j Value.none→ps.getD i (0,0)=ps.getD j (0,0):=fun i j hi hj e=>by
  obtain ⟨a,o,n,t1,t2,e1,_,a1,_⟩:=tup0 i hi
  obtain ⟨a',o',n',t1',t2',e1',_,a1',_⟩:=tup0 j hj
  rw [e1,e1'] at e
  cases e
  rw [a1] at a1'
  injection a1' with a1'
  injection a1' with a1'
  injection a1' with b1 b2
  injection b2 with b2 b3
  injection b1 with b1
  injection b2 with b2
  exact Prod.ext b1 b2
 obtain ⟨key,hkey⟩: ∃key:Keyed→Int,∀i,i < vs.length→∀v,key (vs.getD i Value.none,v)=keyP B ps i:=by
  classical
  refine ⟨fun kd=>if hh: ∃i,i < vs.length∧vs.getD i Value.none=kd.1 then keyP B ps hh.choose else 0,fun i hi v=> ?_⟩
  have hh: ∃j,j < vs.length∧vs.getD j Value.none=vs.getD i Value.none:=⟨i,hi,rfl⟩
  show (if hh: ∃j,j < vs.length∧vs.getD j Value.none=vs.getD i Value.none then keyP B ps hh.choose else 0)=_
  rw [dif_pos hh]
  unfold keyP
  rw [same _ _ hh.choose_spec.1 hi hh.choose_spec.2]
 refine wpAny_call_entry slot_list_sort ⟨_,ol,rfl⟩ entry_list_sort (sort_any (κ:=tuples' true) (key:=key) (ok:=fun kd=>∃i,i < vs.length∧kd=(vs.getD i Value.none,vs.getD i Value.none)) ol h2 zv (fun R hR=> ?_) (fun x y st R ⟨i,hi,ex⟩ ⟨j,hj,ey⟩ hk hR=> ?_) (fun v hv=> ?_) fun out ho=>⟨_,rfl,?_⟩) (args_list_sort _)
 · have tups: ∀(l:List Value),(∀ v∈l,∃a o n t1 t2 x y,v= .ref a∧(midH h' D vs).get? a=some o∧o.cls= .type "tuple"∧o.data= .seq #[.int x t1,.int y t2] n)→∃fs,fs.length=l.length∧KatTups (midH h' D vs) l fs∧∀f∈fs,∃x t,f=Value.int x t:=fun l=>by
    induction l with
    | nil=>exact fun q_=>⟨[],rfl,KatTups.nil,fun q_ z=>nomatch z⟩
    | cons v l ih=>
      intro hv
      obtain ⟨fs,f1,f2,f3⟩:=ih fun v hm=>hv v (List.mem_cons_of_mem _ hm)
      obtain ⟨a,o,n,t1,t2,x,y,rfl,a1,a2,a3⟩:=hv v List.mem_cons_self
      exact ⟨.int x t1::fs,by rw [List.length_cons,List.length_cons,f1],KatTups.cons a1 a2 a3 rfl f2,fun f hf=>(List.mem_cons.mp hf).elim (fun z=>⟨x,t1,z⟩) (f3 f)⟩
   obtain ⟨fs,f1,f2,f3⟩:=tups vs fun v hv=>by
    obtain ⟨i,hi,e⟩:=List.getElem_of_mem hv
    obtain ⟨a,o,n,t1,t2,e1,_,_,a1,a2,a3⟩:=tup0 i hi
    have e2:vs.getD i Value.none=v:=by simp [hi,e]
    exact ⟨a,o,n,t1,t2,_,_,e2▸e1,a1,a2,a3⟩
   refine kat_kind (T:= .type "int") f2 (by lia) (fun v hv=> ?_) (by decide) ?_
   · obtain ⟨x,t,rfl⟩:=f3 v hv
     exact Looks.of_pure rfl
   rw [show (Value.type "int" != Value.type "tuple")=true by decide]
   exact hR
 · subst ex ey
   rw [← lt_eq,lt'_eq]
   obtain ⟨a,o,n,t1,t2,e1,_,_,a1,_,a3⟩:=tup0 i hi
   obtain ⟨a',o',n',t1',t2',e1',_,_,a1',_,a3'⟩:=tup0 j hj
   refine wpS_bind (wpS_get (wpS_bind (wpS_lift (wpAny_attempt ?_))))
   rw [hk]
   dsimp only
   rw [e1,e1']
   refine pair_lt a1 a3 a1' a3' (by show X.A.units + _ + _ < _;lia) ⟨rfl,wpS_pure ?_⟩
   have bi:=hB (ps.getD i (0,0)) (by rw [List.getD_eq_getElem?_getD,List.getElem?_eq_getElem (by lia)];exact List.getElem_mem _)
   have bj:=hB (ps.getD j (0,0)) (by rw [List.getD_eq_getElem?_getD,List.getElem?_eq_getElem (by lia)];exact List.getElem_mem _)
   rw [hkey i hi,hkey j hj] at hR
   rw [show decide ((ps.getD i (0,0)).1 < (ps.getD j (0,0)).1∨(ps.getD i (0,0)).1=(ps.getD j (0,0)).1∧(ps.getD i (0,0)).2 < (ps.getD j (0,0)).2)=decide (keyP B ps i < keyP B ps j) from decide_eq_decide.mpr (key_lex bi.1 bi.2 bj.1 bj.2)]
   exact hR
 · obtain ⟨i,hi,e⟩:=List.getElem_of_mem hv
   exact ⟨i,hi,by rw [show vs.getD i Value.none=v by simp [hi,e]]⟩
 · obtain ⟨l,lp,lu,rfl⟩:=ho
   obtain ⟨π,hp,rfl⟩:=perm_pre (f:=fun i=>(vs.getD i Value.none,vs.getD i Value.none)) lp (List.range vs.length) (by
    conv=>lhs;rw [← range_getD vs Value.none]
    rw [List.map_map];rfl)
   have pin: ∀i∈π,i < vs.length:=fun i hi=>List.mem_range.mp (hp.mem_iff.mp hi)
   have:=fin π (by rw [← hil];exact hp) fun i j hij hj=>by
    rw [show π.getD i 0=π[i]'(by lia) by simp [show i < π.length by lia],show π.getD j 0=π[j] by simp [hj]]
    rcases Nat.lt_or_eq_of_le hij with q | q
    · have z:=List.pairwise_iff_getElem.mp lu i j (by rw [List.length_map];lia) (by rw [List.length_map];exact hj) q
      rw [List.getElem_map,List.getElem_map,hkey _ (pin _ (List.getElem_mem _)),hkey _ (pin _ (List.getElem_mem _))] at z
      exact z
    · subst q;exact Int.le_refl _
   rw [List.map_map]
   exact this
end
section
variable {He:Hp} {K:PySem.W.Frag} {ι:Type} {Y:ι→Cx} {e:Expr} {pos p:Pos}
theorem KvR.keyT {R:Hp}: ∀{l:List (List Key×V)} {m:List (List Key×PyData)},KvR K R l m→l.map (·.1)=m.map (·.1):=by
 intro l m h
 induction h with
 | nil=>rfl
 | cons h t ih=>rw [List.map_cons,List.map_cons,ih,h.1]
theorem rp_prs {R:Hp}: ∀{zs:List V} {qs:List (Int×Int)},zs.length=qs.length→(∀ (i:Nat) (q:Int×Int),qs[i]?=some q→∃b,zs[i]?=some (.ref b)∧R b=some (.tup [.int q.1,.int q.2]))→RpAll K R zs (qs.map pr2)
 | [],[],_,_=> .nil
 | [],_::_,h,_=>by cases h
 | _::_,[],h,_=>by cases h
 | z::zs,q::qs,h,k=>by
   obtain ⟨b,e1,e2⟩:=k 0 q rfl
   have e1:z= .ref b:=by simpa using e1
   subst e1
   exact .cons (.tup e2 (.cons (.int _) (.cons (.int _) .nil))) (rp_prs (by simpa using h) fun i q hq=>by simpa using k (i + 1) q (by simpa using hq))
theorem Wd.tupR {R H:Hp} {b:Addr} {xs:List V} (W:Wd R H) (h:H b=some (.tup xs)):R b=some (.tup xs):=by
 cases e2:R b with
 | none=>exact (W.ls b _ h e2).elim
 | some u=>rw [← W.rh b u e2];exact h
noncomputable def xSortT (i:Nat):Dq:=fun env P=>∃kvs,env[i]?=some (.dt kvs)∧∃(ps:List (Int×Int)) (B:Int),kvs.map (·.1)=ps.map (fun q=>kP q.1 q.2)∧(∀ q∈ps,0≤q.2∧q.2 < B)∧∀qs:List (Int×Int),qs.Perm ps→qs.Pairwise (fun x y=>x.1 * B + x.2≤y.1 * B + y.2)→P (qs.map pr2)
theorem do_sortT (i:Nat) {x:Str} {p2:Pos} (hm: ∀j,(Y j).mg "sorted"=none) (hu: ∀i,(Y i).A.units + 40 < cLine) (hv:autoParam (∀ j,PE (Y j) (.Name x p2) (tVar i)) u9._auto_1) (hc:autoParam (∀ i,(Y i).calm=true) u4._auto_1) (hg:autoParam (∀ i,Gl (Y i) "sorted") u4._auto_1)
 (hs:autoParam (∀ i,starEach [.Name x p2] (Y i).env=[(false,eval (.Name x p2) (Y i).env)]) u4._auto_1):DO He K Y (.Call (.Name "sorted" p) [.Name x p2] [] pos) (xSortT i):=by
 refine ⟨_,fun j=>pe_callB (call_sortT (hc j) (hu j)) (hg j) (hm j) bt_sorted (pa_cons (hv j) pa_nil (hs j)) (by decide) (by decide) (hs j) rfl,fun P Q F p k=> ?_⟩
 obtain ⟨kvs,hx,ps,B,hk,hB,p⟩:=p
 obtain ⟨a,ys,h1,h2,h3,h4,h5⟩:=F.dtAt hx
 refine ⟨_,h1,a,ys,ps,B,rfl,h2,by rw [h5.keyT];exact hk,hB,fun l zs qs hl hp ho hz hq=> ?_⟩
 refine k _ l _ _ _ (p qs hp ho) (Ext.newO F.wd hl trivial) hl upd_same (F.wd.rh.free hl) (rp_prs hz fun i q e=> ?_)
 obtain ⟨b,b1,b2⟩:=hq i q e
 refine ⟨b,b1,?_⟩
 exact F.wd.tupR b2
end
end L2
set_option Elab.async false
set_option linter.all false
set_option maxRecDepth 100000
namespace L2
open PySem PySem.Spec PyProof.Rows
section
variable {He:Hp} {K:PySem.W.Frag} {H0 R H:Hp} {σ:St} {env:List Dt}
end
section
variable {He:Hp} {K:PySem.W.Frag} {ι:Type} {Y:ι→Cx} {e a b c:Expr} {es:List Expr} {pos:Pos}
end
section
variable {He:Hp} {K:PySem.W.Frag} {ι:Type} {Y:ι→Cx} {e:Expr} {es:List Expr} {pos p:Pos} {prog:Program} {w:World} {mg:Str→Option Value} {base:Heap} {x:Str} {k:Nat} {ps:List Str} {P:List PyData→(Dt→Prop)→Prop} {t:Dq}
theorem SlotR.old {H0 H1 R H:Hp} {v:Option V} {d:Dt} (h:SlotR K H1 R H v d) (s:Same H0 H1):SlotR K H0 R H v d:=by
 cases d with
 | un=>cases v <;> trivial
 | d y=>cases v <;> exact h
 | o xs=>cases v with
   | none=>exact h
   | some v=>obtain ⟨a,ys,h1,h2,h3,h4,h5⟩:=h;exact ⟨a,ys,h1,h2,h3,s.free h4,h5⟩
 | dk xs=>cases v with
   | none=>exact h
   | some v=>obtain ⟨a,ys,h1,h2,h3,h4,h5⟩:=h;exact ⟨a,ys,h1,h2,h3,s.free h4,h5⟩
 | dt xs=>cases v with
   | none=>exact h
   | some v=>obtain ⟨a,ys,h1,h2,h3,h4,h5⟩:=h;exact ⟨a,ys,h1,h2,h3,s.free h4,h5⟩
 | oo xs=>cases v with
   | none=>exact h
   | some v=>obtain ⟨a,ys,h1,h2,h3,h4,h5,h6⟩:=h;exact ⟨a,ys,h1,h2,h3,s.free h4,Paired.mapP h5 fun _ _ ⟨b,zs,k1,k2,k3,k4,k5⟩=>⟨b,zs,k1,k2,k3,s.free k4,k5⟩,h6⟩
noncomputable def sCallV (i:Nat) (P:List PyData→(Dt→Prop)→Prop) (t:Dq):Ds:=fun D env=>t env fun ds=>P ds fun dt=>D.nx (env.set i dt)
theorem ds_callV (i:Nat) {y:Str} {pos':Pos} {cp:Pos} (hN: ∀j,(Y j).N.Nodup) (G:Fn prog w K mg base x k ps (spG K P)) (hr: ∀i,Room k (Y i).A) (ha:DA He K Y (e::es) t) (hi:autoParam (∀ j,(Y j).N[i]?=some y) u4._auto_1) (hx:autoParam (∀ j,Loc (Y j).env.scope y) u13._auto_1)
 (hX:autoParam (∀ i,(Y i).prog=prog∧(Y i).w=w∧(Y i).K=K∧(Y i).mg=mg∧(Y i).base=base) u12._auto_1) (hg:autoParam (∀ i,Gl (Y i) x) u4._auto_1)
 (hdb:autoParam ((x == ("__debug__":Str))=false) u2._auto_1) (he:autoParam (∀ i,starEach (e::es) (Y i).env=(false,eval e (Y i).env)::starEach es (Y i).env) u4._auto_1) (hpl:autoParam (∀ i,(backTo cp (starEach es (Y i).env)).any (·.1)=false) u4._auto_1)
 (hs:autoParam (∀ j,swapsWith (.Call (.Name x p) (e::es) [] cp) (some (.Name y pos')) pos.line (Y j).env=pure false) u4._auto_1) (hf:autoParam (∀ j,(Y j).fn y=true∨(Y j).env.scope.names.lookup y=some .local) u14._auto_1):
 DS He K Y (.Assign [.Name y pos'] (.Call (.Name x p) (e::es) [] cp) pos) (sCallV i P t):=by
 obtain ⟨te,h1,h2⟩:=ha
 refine ⟨tAsg (tFnG K P te) (gName i),fun j=>ps_set (hN j) (hi j) (hx j) ?_ (hs j) (hf j),fun D E F s c pp=>h2 _ _ F pp fun ds vs R1 H1 q1 e1 r1=>⟨R1,ds,_,e1.wd,r1,q1,fun dt v R' H' q ex sl=> ?_⟩⟩
 · obtain ⟨a1,a2,a3,a4,a5⟩:=hX j
   subst a1 a2 a3 a4 a5
   exact pe_fnG G (hr j) (h1 j) rfl (hg j) hdb (he j) (hpl j)
 · have e2:=e1.trans ex
   refine c.nx _ _ _ _ q (s.trans e2.rr) (F.setN' e2 i ?_ fun b hb=> ?_)
   · exact sl.old (F.ext.hh.trans e1.hh)
   · obtain ⟨_,_,_,z⟩:=sl.hasAt hb
     exact e1.hh.free z
end
end L2
set_option Elab.async false
set_option linter.all false
set_option maxRecDepth 100000
namespace L2
open PySem PySem.Spec PySem.W PySem.Calls PyProof.Rows
section
variable {prog:Program} {w:World} {A:Around} {E:Value→Shared→Prop} {s:Shared}
end
section
variable {X:Cx} {pos:Pos}
noncomputable def rInsert:V→List V→Hp→VK→Prop:=fun x vs H Q=>∃l xs i y,x= .ref l∧vs=[.int i,y]∧H l=some (.lst xs)∧0≤i∧i≤xs.length∧i < 2 ^ 63∧xs.length < sizeLine∧Q .non (upd H l (.lst (xs.take i.toNat++y::xs.drop i.toNat)))
theorem mt_insert:MtM X "list.insert" rInsert:=by
 intro pins s σ H x vs v us Q I rx rv h
 obtain ⟨l,xs,i,y,rfl,rfl,hH,h0,hi,hb,hz,q⟩:=h
 cases rx
 obtain ⟨u1,u2,rfl,q1,q2⟩:=vals2 rv
 obtain ⟨t,rfl⟩:=(show ∃t,u1=Value.int i t from q1)
 obtain ⟨z,its,n,r,hl,e⟩:=I.lstM hH
 refine call_meets PySem.F.slot_list_insert ⟨_,e,rfl⟩ PySem.F.entry_list_insert (PySem.F.args_list_insert_3 _ _ _) (PySem.AutoSeq1.list_insert_list_int_val_1 l its.toArray n i t u2 (by rw [fitsIndex_both (by lia) hb];decide) (by rw [List.size_toArray];lia)) ⟨e,?_⟩
 refine ⟨.non,_,I.lset (its':=its.take i.toNat++u2::its.drop i.toNat) hH e ?_ ((r.take i.toNat).append (.cons q2 (r.drop i.toNat))) ?_,rfl,q⟩
 · have e1:(if i < 0 then (i + ((its.toArray.size:Nat):Int)).toNat else min i.toNat its.toArray.size)=i.toNat:=by
    rw [if_neg (by lia),List.size_toArray,← hl];lia
   show (its.toArray.extract 0 (if i < 0 then (i + ((its.toArray.size:Nat):Int)).toNat else min i.toNat its.toArray.size)).push u2++its.toArray.extract (if i < 0 then (i + ((its.toArray.size:Nat):Int)).toNat else min i.toNat its.toArray.size)=_
   rw [e1]
   apply Array.toList_inj.mp
   simp
   exact List.take_of_length_le (by simp)
 · rw [List.length_append,List.length_cons,List.length_take,List.length_drop]
   lia
end
section
variable {He:Hp} {K:PySem.W.Frag} {ι:Type} {Y:ι→Cx} {e a b:Expr} {pos p:Pos}
noncomputable def sIns (i:Nat) (ta tb:De):Ds:=fun D env=>∃xs,env[i]?=some (.o xs)∧ta env fun u=>∃n:Nat,u= .int n∧tb env fun d=>n≤xs.length∧xs.length < 100000∧D.nx (env.set i (.o (xs.take n++d::xs.drop n)))
theorem ds_ins (i:Nat) {x:Str} {ta tb:De} {p2 apos cpos:Pos} (ha:DE He K Y a ta) (hb:DE He K Y b tb) (hv:autoParam (∀ j,PE (Y j) (.Name x p2) (tVar i)) u9._auto_1) (hK:autoParam (∀ i,(Y i).K=K) u4._auto_1)
 (hbase:autoParam (∀ j,attributeBase (.Name x p2) "insert" (Y j).env (eval (.Name x p2) (Y j).env)=eval (.Name x p2) (Y j).env) u4._auto_1)
 (hfew:autoParam (∀ j,((backTo cpos (starEach [a,b] (Y j).env)).all (fun x=> !x.1) && (backToKw cpos (keywordEach [] (Y j).env)).all (fun x=>x.1.isSome)
   && decide (([a,b]:List Expr).length + ([]:List Keyword).length + (if ([]:List Keyword).isEmpty then 0 else 1) < 30))=true) u4._auto_1)
 (hline:autoParam ((apos.endLine == cpos.line)=true) u5._auto_1) (hs:autoParam (∀ j,starEach [a,b] (Y j).env=(false,eval a (Y j).env)::starEach [b] (Y j).env) u4._auto_1) (hs2:autoParam (∀ j,starEach [b] (Y j).env=(false,eval b (Y j).env)::starEach [] (Y j).env) u4._auto_1) (hplain:autoParam (∀ j,(backTo cpos (starEach [b] (Y j).env)).any (·.1)=false) u4._auto_1)
 (hsw:autoParam (∀ j,swapsWith (.Call (.Attribute (.Name x p2) "insert" apos) [a,b] [] cpos) none pos.line (Y j).env=pure false) u4._auto_1):
 DS He K Y (.Expr (.Call (.Attribute (.Name x p2) "insert" apos) [a,b] [] cpos) pos) (sIns i ta tb):=by
 obtain ⟨te,a1,a2⟩:=ha
 obtain ⟨tf,b1,b2⟩:=hb
 refine ⟨_,fun j=>ps_expr (pe_bmK K (hK j) PySem.F.plainAttrs_list PySem.F.slot_list_insert PySem.F.type_list_insert mt_insert (hv j) (pa_cons (a1 j) (pa_cons (b1 j) pa_nil (hs2 j)) (hs j)) (hbase j) (hfew j) hline (hs j) (hplain j)) (hsw j),fun D E F s c p=> ?_⟩
 obtain ⟨xs,ex,p⟩:=p
 obtain ⟨q,ys,h1,h2,h3,h4,h5⟩:=F.lstAt ex
 refine ⟨_,h1,.inl ⟨rfl,_,SqL.of h2⟩,a2 _ _ F p fun d v R1 H1 ⟨n,hn,p1⟩ e1 r1=>b2 _ _ (F.next e1) p1 fun d2 v2 R2 H2 ⟨hi,hz,p2⟩ e2 r2=> ?_⟩
 subst hn
 have ee:=e1.trans e2
 have r5:=RpAll.same ee.rr h5
 have hl:=h5.len
 refine ⟨q,ys,n,v2,rfl,by rw [r1.int_inv],ee.hh _ _ h2,by lia,by lia,by lia,szlt' (by lia),?_⟩
 rw [Int.toNat_natCast]
 exact c.nx _ _ _ _ p2 (s.trans ee.rr) ((F.next ee).lstSet ex h1 (ee.nn _ _ h2 h3) h4 (RpAll.append (r5.take n) (.cons r2 (r5.drop n))))
end
end L2
set_option Elab.async false
set_option linter.all false
set_option maxRecDepth 100000
namespace L2
open PySem PySem.Spec PySem.W PySem.Calls PyProof.Rows
theorem strs_of: ∀{ws:List Str} {its:List Value},Vals (ws.map V.str) its→∃l:List (Str×Tok),its=strValues l∧l.map (·.1)=ws
 | [],_,r=>by rw [List.map_nil] at r;cases r;exact ⟨[],rfl,rfl⟩
 | x::ws,_,r=>by
   rw [List.map_cons] at r
   cases r with
   | cons h t=>
     obtain ⟨tk,rfl⟩:=h
     obtain ⟨l,rfl,e⟩:=strs_of t
     exact ⟨(x,tk)::l,rfl,by rw [List.map_cons,e]⟩
theorem vals_strs: ∀(l:List (Str×Tok)),Vals ((l.map (·.1)).map V.str) (strValues l)
 | []=> .nil
 | p::l=> .cons ⟨p.2,rfl⟩ (vals_strs l)
section
variable {X:Cx}
noncomputable def rAddS:R2:=fun x y H Q=>∃a b,x= .str a∧y= .str b∧a.length + b.length≤100000∧Q (.str (a++b)) H
theorem op_addS:OpR X (binaryOp .Add) rAddS:=by
 intro pins s σ H x y v u Q I rx ry h
 obtain ⟨a,b,rfl,rfl,hz,q⟩:=h
 obtain ⟨t,rfl⟩:=rx
 obtain ⟨t',rfl⟩:=ry
 exact add_str (fun t2 k=>⟨.str (a++b),H,I.tok k,⟨t2,rfl⟩,q⟩) (by rw [sizeLine_eq];lia)
theorem call_strI:CallR X (.type "str") (fun xs H Q=>∃i:Int,xs=[.int i]∧i.natAbs.log2 < 1920∧Q (.str (toString i)) H):=by
 intro pins s σ H xs us Q I r h
 obtain ⟨i,rfl,hi,q⟩:=h
 obtain ⟨u,rfl,t,rfl⟩:=vals1 r
 exact PySem.P.str_of_int hi ⟨.str _,H,I.tok _,⟨_,rfl⟩,q⟩
noncomputable def rSplit:V→List V→Hp→VK→Prop:=fun x vs H Q=>∃a b,x= .str a∧vs=[.str b]∧(b.length == 0)=false∧a.length≤100000∧(Txt.split a b).length≤sizeLine∧∀p,H p=none→Q (.ref p) (upd H p (.lst ((Txt.split a b).map V.str)))
theorem mt_split:MtR X "str.split" rSplit:=by
 intro pins s σ H x vs v us Q I rx rv h
 obtain ⟨a,b,rfl,rfl,hb,ha,hz,q⟩:=h
 obtain ⟨t,rfl⟩:=rx
 obtain ⟨u,rfl,t2,rfl⟩:=Vals.one rv
 obtain ⟨m,hn,_⟩:=id I.loc
 have F0:Fr X.base X.env.locals s.heap m:=⟨hn,I.bk,Nat.le_trans I.ok.bsz I.ok.above⟩
 refine KSpl.split1 F0 (allN_news (base:=X.base)) hb (fun D l h' k e q_ F' N' hD=> ?_) (by rw [sizeLine_eq];lia)
 have J:=I.newAt hn F' N' hD (vals_strs l) (by rw [List.length_map,e];exact hz)
 rw [e] at J
 exact ⟨.ref D,_,J.2.tok k,rfl,q D J.1⟩
noncomputable def rJoin (K:PySem.W.Frag):V→List V→Hp→VK→Prop:=fun x vs H Q=>∃a p ws,x= .str a∧vs=[.ref p]∧SqL K H p (ws.map V.str)∧JoinOk a ws=true∧Q (.str (Txt.join a ws)) H
theorem mt_join (K:PySem.W.Frag) (hK:X.K=K):MtR X "str.join" (rJoin K):=by
 subst hK
 intro pins s σ H x vs v us Q I rx rv h
 obtain ⟨a,p,ws,rfl,rfl,hp,hj,q⟩:=h
 obtain ⟨t,rfl⟩:=rx
 obtain ⟨u,rfl,r1⟩:=Vals.one rv
 cases (show u=Value.ref p from r1)
 obtain ⟨its,r,pl,hz⟩:=I.list hp
 obtain ⟨l,rfl,e⟩:=strs_of r
 exact SC.join pl.isList e hj fun t' k=>⟨.str _,H,I.tok k,⟨t',rfl⟩,q⟩
noncomputable def rEnds:V→List V→Hp→VK→Prop:=fun x vs H Q=>∃a b,x= .str a∧vs=[.str b]∧Q (.bl (Txt.endswith a b)) H
theorem mt_ends:MtR X "str.endswith" rEnds:=by
 intro pins s σ H x vs v us Q I rx rv h
 obtain ⟨a,b,rfl,rfl,q⟩:=h
 obtain ⟨t,rfl⟩:=rx
 obtain ⟨u,rfl,t2,rfl⟩:=Vals.one rv
 exact SC.endswith ⟨.bl _,H,I,rfl,q⟩
noncomputable def rSlS:V→Option Int→Option Int→Hp→VK→Prop:=fun x lo hi H Q=>∃a,x= .str a∧a.length≤100000∧Q (.str (Txt.slice a lo hi)) H
theorem part_of {v:Value} {o:Option Int} (h:IsPart v o): ∃l:Option (Int×Tok),v=partValue l∧l.map (·.1)=o:=by
 cases h with
 | none=>exact ⟨none,rfl,rfl⟩
 | int i t=>exact ⟨some (i,t),rfl,rfl⟩
theorem sl_str:SlR X rSlS:=by
 intro pins s σ H x v vl vu lo hi sl Q I rx hs pl pu h
 obtain ⟨a,rfl,ha,q⟩:=h
 obtain ⟨t,rfl⟩:=rx
 obtain ⟨l,rfl,rfl⟩:=part_of pl
 obtain ⟨u,rfl,rfl⟩:=part_of pu
 refine ⟨"str",_,PySem.F.slot_str_getitem.lookup,typeIs_str _ _ _,wpAny_getItem_str_slice (l:=l) (u:=u) (st:=none) hs rfl (post_val_or_str ⟨Nat.le_trans (Txt.slice_le a _ _) (by rw [sizeLine_eq];lia),fun t' k=>⟨.str _,H,I.tok k,⟨t',rfl⟩,q⟩⟩)⟩
end
section
variable {X:Cx} {e:Expr} {es:List Expr} {pos p2:Pos}
noncomputable abbrev TJ:=Str→St→Hp→VK→Prop
noncomputable def PJ (X:Cx) (es:List Expr) (t:TJ):Prop:=∀(pins:List (Addr×Obj)) (s:Shared) (σ:St) (H:Hp) (out:Str) (Q:VK),Inv X pins σ H s→t out σ H Q→
 wpAny (model X.prog X.w) X.A (joinParts out (evalEach es X.env)) (EP X pins σ Q) X.xe s
noncomputable def tJnil:TJ:=fun out q_ H Q=>out.length≤100000∧Q (.str out) H
theorem pj_nil:PJ X [] tJnil:=by
 intro pins s σ H out Q I ⟨hz,q⟩
 exact joinParts_nil ⟨.str out,H,I.tok _,⟨_,rfl⟩,q⟩ (by rw [sizeLine_eq];lia)
noncomputable def tJstr (c:Str) (t:TJ):TJ:=fun out σ H Q=>(out++c).length≤100000∧t (out++c) σ H Q
theorem pj_str {c:Str} {kd} {t:TJ} (h:PJ X es t) (hs:autoParam (evalEach (.Constant (.str c) kd p2::es) X.env=eval (.Constant (.str c) kd p2) X.env::evalEach es X.env) u5._auto_1):PJ X (.Constant (.str c) kd p2::es) (tJstr c t):=by
 intro pins s σ H out Q I ⟨hz,q⟩
 rw [hs]
 refine joinParts_cons ?_
 refine thn (pe_str (X:=X) pins s σ H (fun v H'=>v= .str c∧H'=H) I ⟨rfl,rfl⟩) fun v s1 ⟨x,H1,I1,r1,q1,q2⟩=> ?_
 subst q1 q2
 obtain ⟨tk,rfl⟩:=r1
 exact ⟨by rw [sizeLine_eq];lia,h pins s1 σ _ _ Q I1 q⟩
noncomputable def tJint (te:TE) (t:TJ):TJ:=fun out σ H Q=>te σ H fun x H1=>∃i:Int,x= .int i∧i.natAbs.log2 < 1920∧(out++toString i).length≤100000∧t (out++toString i) σ H1 Q
theorem pj_int {te:TE} {t:TJ} (he:PE X e te) (h:PJ X es t) (hs:autoParam (evalEach (.FormattedValue e (-1) none p2::es) X.env=eval (.FormattedValue e (-1) none p2) X.env::evalEach es X.env) u5._auto_1):PJ X (.FormattedValue e (-1) none p2::es) (tJint te t):=by
 intro pins s σ H out Q I q
 rw [hs]
 refine joinParts_cons (FormattedValue_plain ?_)
 refine thn (he pins s σ H _ I q) fun v s1 ⟨x,H1,I1,r1,i,e1,hi,hz,q1⟩=> ?_
 subst e1
 obtain ⟨tk,rfl⟩:=r1
 exact formatField_int_small hi ⟨by rw [sizeLine_eq];lia,h pins _ σ _ _ Q (I1.tok _) q1⟩
noncomputable def tFs (t:TJ):TE:=fun σ H Q=>t Str.empty σ H Q
theorem pe_fs {v1 v2:Expr} {t:TJ} (h:PJ X (v1::v2::es) t) (hs:autoParam (evalEach (v1::v2::es) X.env=eval v1 X.env::eval v2 X.env::evalEach es X.env) u5._auto_1):PE X (.JoinedStr (v1::v2::es) pos) (tFs t):=by
 intro pins s σ H Q I q
 refine JoinedStr_many ?_
 rw [← hs]
 exact h pins s σ H _ Q I q
end
section
variable {He:Hp} {K:PySem.W.Frag} {ι:Type} {Y:ι→Cx} {e a b:Expr} {es:List Expr} {pos p p2 apos cpos:Pos} {lo hi:Option Expr}
theorem Rp.str_inv' {R:Hp} {v:V} {s:Str} (r:Rp K R v (.str s)):v= .str s:=by
 generalize hd:PyData.str s=d at r
 cases r with
 | str _=>cases hd;rfl
 | scr _=>unfold scrD at hd;cases hd
 | any=>unfold anyD at hd;cases hd
 | xc _=>unfold excD at hd;cases hd
 | _=>cases hd
theorem RpAll.strs_inv {R:Hp}: ∀{vs:List V} {ws:List Str},RpAll K R vs (ws.map PyData.str)→vs=ws.map V.str
 | vs,[],r=>by rw [List.map_nil] at r;cases r;rfl
 | vs,w::ws,r=>by
   rw [List.map_cons] at r
   cases r with
   | cons h t=>rw [h.str_inv',RpAll.strs_inv t];rfl
theorem RpAll.strs {R:Hp}: ∀ws:List Str,RpAll K R (ws.map V.str) (ws.map PyData.str)
 | []=> .nil
 | w::ws=> .cons (.str w) (RpAll.strs ws)
noncomputable def rdAddS:PyData→PyData→(PyData→Prop)→Prop:=fun x y P=>∃a b,x= .str a∧y= .str b∧a.length + b.length≤100000∧P (.str (a++b))
theorem od_addS:OD K Y (binaryOp .Add) rdAddS:=by
 refine ⟨_,fun q_=>op_addS,fun P Q r1 r2 p k=> ?_⟩
 obtain ⟨a,b,rfl,rfl,hz,p⟩:=p
 exact ⟨a,b,r1.str_inv',r2.str_inv',hz,k _ _ p (scStr _)⟩
theorem str_beq (a b:Str):(a.cps.toList == b.cps.toList)=decide (a=b):=by
 rw [Bool.eq_iff_iff,beq_iff_eq,decide_eq_true_iff]
 refine ⟨fun h=> ?_,fun h=>by rw [h]⟩
 obtain ⟨⟨a⟩⟩:=a
 obtain ⟨⟨b⟩⟩:=b
 exact congrArg (fun l=>(⟨⟨l⟩⟩:Str)) h
noncomputable def rdEqS (n:Bool):PyData→PyData→(PyData→Prop)→Prop:=fun x y P=>∃a b,x= .str a∧y= .str b∧P (.bool (xor n (decide (a=b))))
noncomputable def rEqS (n:Bool):R2:=fun x y H Q=>∃a b,x= .str a∧y= .str b∧Q (.bl (xor n (decide (a=b)))) H
theorem op_eqS {X:Cx}:OpR X (compareOp .Eq) (rEqS false):=by
 intro pins s σ H x y v u Q I rx ry h
 obtain ⟨a,b,rfl,rfl,q⟩:=h
 obtain ⟨t,rfl⟩:=rx
 obtain ⟨t',rfl⟩:=ry
 exact PySem.P.eq_str ⟨.bl _,H,I,rfl,by rw [str_beq];rw [Bool.false_xor] at q;exact q⟩
theorem op_neS {X:Cx}:OpR X (compareOp .NotEq) (rEqS true):=by
 intro pins s σ H x y v u Q I rx ry h
 obtain ⟨a,b,rfl,rfl,q⟩:=h
 obtain ⟨t,rfl⟩:=rx
 obtain ⟨t',rfl⟩:=ry
 refine PySem.P.ne_str ⟨.bl _,H,I,rfl,?_⟩
 have:(a.cps.toList != b.cps.toList)=xor true (decide (a=b)):=by rw [← str_beq,Bool.true_xor];rfl
 rw [this];exact q
theorem od_eqS:OD K Y (compareOp .Eq) (rdEqS false):=by
 refine ⟨_,fun q_=>op_eqS,fun P Q r1 r2 p k=> ?_⟩
 obtain ⟨a,b,rfl,rfl,p⟩:=p
 exact ⟨a,b,r1.str_inv',r2.str_inv',k _ _ p (scBl _)⟩
theorem od_neS:OD K Y (compareOp .NotEq) (rdEqS true):=by
 refine ⟨_,fun q_=>op_neS,fun P Q r1 r2 p k=> ?_⟩
 obtain ⟨a,b,rfl,rfl,p⟩:=p
 exact ⟨a,b,r1.str_inv',r2.str_inv',k _ _ p (scBl _)⟩
theorem bt_str':bootBuiltins "str"=some (.type "str"):=by decide +kernel
noncomputable def xStr1 (t:De):De:=fun env P=>t env fun d=>∃i:Int,d= .int i∧i.natAbs.log2 < 1920∧P (.str (toString i))
theorem de_str1 {t:De} (h:DB He K Y a t) (hm: ∀i,(Y i).mg "str"=none) (hg:autoParam (∀ i,Gl (Y i) "str") u4._auto_1) (hs:autoParam (∀ i,starEach [a] (Y i).env=[(false,eval a (Y i).env)]) u4._auto_1):
 DE He K Y (.Call (.Name "str" p) [a] [] pos) (xStr1 t):=by
 obtain ⟨te,h1,h2⟩:=h
 refine ⟨_,fun i=>pe_callTy call_strI (hg i) (hm i) bt_str' (pa_cons (h1 i) pa_nil (hs i)) (by decide) (by decide) (hs i),fun P Q F p k=>h2 _ _ F p fun d v R1 H1 ⟨i,hi,hl,q1⟩ e1 r1=> ?_⟩
 subst hi
 exact ⟨i,by rw [r1.int_inv],hl,k _ _ R1 H1 q1 e1 (.str _)⟩
noncomputable def xSplit (t u:De):Dq:=fun env P=>t env fun x=>∃a,x= .str a∧u env fun y=>∃b,y= .str b∧(b.length == 0)=false∧a.length≤100000∧(Txt.split a b).length≤sizeLine∧P ((Txt.split a b).map PyData.str)
theorem do_split {t u:De} (ho:DB He K Y a t) (h:DB He K Y e u) (hK:autoParam (∀ i,(Y i).K=K) u4._auto_1)
 (hbase:autoParam (∀ j,attributeBase a "split" (Y j).env (eval a (Y j).env)=eval a (Y j).env) u4._auto_1)
 (hfew:autoParam (∀ j,((backTo cpos (starEach [e] (Y j).env)).all (fun x=> !x.1) && (backToKw cpos (keywordEach [] (Y j).env)).all (fun x=>x.1.isSome)
   && decide (([e]:List Expr).length + ([]:List Keyword).length + (if ([]:List Keyword).isEmpty then 0 else 1) < 30))=true) u4._auto_1)
 (hline:autoParam ((apos.endLine == cpos.line)=true) u5._auto_1) (hs:autoParam (∀ j,starEach [e] (Y j).env=(false,eval e (Y j).env)::starEach [] (Y j).env) u4._auto_1) (hplain:autoParam (∀ j,(backTo cpos (starEach [] (Y j).env)).any (·.1)=false) u4._auto_1):
 DO He K Y (.Call (.Attribute a "split" apos) [e] [] cpos) (xSplit t u):=by
 obtain ⟨te,h1,h2⟩:=ho
 obtain ⟨tf,b1,b2⟩:=h
 refine ⟨_,fun j=>pe_bmK K (hK j) PySem.F.plainAttrs_str PySem.F.slot_str_split PySem.F.type_str_split mt_split (h1 j) (pa_cons (b1 j) pa_nil (hs j)) (hbase j) (hfew j) hline (hs j) (hplain j),fun P Q F p k=> ?_⟩
 refine h2 _ _ F p fun d v R1 H1 ⟨x,hx,p1⟩ e1 r1=> ?_
 subst hx
 rw [r1.str_inv']
 refine ⟨rfl,b2 _ _ (F.next e1) p1 fun d2 v2 R2 H2 ⟨y,hy,hb,hl,hz,p2⟩ e2 r2=> ?_⟩
 subst hy
 have ee:=e1.trans e2
 refine ⟨x,y,rfl,by rw [r2.str_inv'],hb,hl,hz,fun q hq=> ?_⟩
 exact k _ q _ R2 _ p2 (ee.trans (Ext.newO ee.wd hq trivial)) (ee.hh.free hq) upd_same (ee.wd.rh.free hq) (RpAll.strs _)
noncomputable def xEnds (t u:De):De:=fun env P=>t env fun x=>∃a,x= .str a∧u env fun y=>∃b,y= .str b∧P (.bool (Txt.endswith a b))
theorem de_ends {t u:De} (ho:DB He K Y a t) (h:DB He K Y e u) (hK:autoParam (∀ i,(Y i).K=K) u4._auto_1)
 (hbase:autoParam (∀ j,attributeBase a "endswith" (Y j).env (eval a (Y j).env)=eval a (Y j).env) u4._auto_1)
 (hfew:autoParam (∀ j,((backTo cpos (starEach [e] (Y j).env)).all (fun x=> !x.1) && (backToKw cpos (keywordEach [] (Y j).env)).all (fun x=>x.1.isSome)
   && decide (([e]:List Expr).length + ([]:List Keyword).length + (if ([]:List Keyword).isEmpty then 0 else 1) < 30))=true) u4._auto_1)
 (hline:autoParam ((apos.endLine == cpos.line)=true) u5._auto_1) (hs:autoParam (∀ j,starEach [e] (Y j).env=(false,eval e (Y j).env)::starEach [] (Y j).env) u4._auto_1) (hplain:autoParam (∀ j,(backTo cpos (starEach [] (Y j).env)).any (·.1)=false) u4._auto_1):
 DE He K Y (.Call (.Attribute a "endswith" apos) [e] [] cpos) (xEnds t u):=by
 obtain ⟨te,h1,h2⟩:=ho
 obtain ⟨tf,b1,b2⟩:=h
 refine ⟨_,fun j=>pe_bmK K (hK j) PySem.F.plainAttrs_str PySem.F.slot_str_endswith PySem.F.type_str_endswith mt_ends (h1 j) (pa_cons (b1 j) pa_nil (hs j)) (hbase j) (hfew j) hline (hs j) (hplain j),fun P Q F p k=> ?_⟩
 refine h2 _ _ F p fun d v R1 H1 ⟨x,hx,p1⟩ e1 r1=> ?_
 subst hx
 rw [r1.str_inv']
 refine ⟨rfl,b2 _ _ (F.next e1) p1 fun d2 v2 R2 H2 ⟨y,hy,p2⟩ e2 r2=> ?_⟩
 subst hy
 exact ⟨x,y,rfl,by rw [r2.str_inv'],k _ _ R2 H2 p2 (e1.trans e2) (.bl _)⟩
noncomputable def xJoin (t:De) (u:Dq):De:=fun env P=>t env fun x=>∃a,x= .str a∧u env fun xs=>∃ws:List Str,xs=ws.map PyData.str∧JoinOk a ws=true∧P (.str (Txt.join a ws))
theorem de_join {t:De} {u:Dq} (ho:DB He K Y a t) (h:DL He K Y e u) (hK:autoParam (∀ i,(Y i).K=K) u4._auto_1)
 (hbase:autoParam (∀ j,attributeBase a "join" (Y j).env (eval a (Y j).env)=eval a (Y j).env) u4._auto_1)
 (hfew:autoParam (∀ j,((backTo cpos (starEach [e] (Y j).env)).all (fun x=> !x.1) && (backToKw cpos (keywordEach [] (Y j).env)).all (fun x=>x.1.isSome)
   && decide (([e]:List Expr).length + ([]:List Keyword).length + (if ([]:List Keyword).isEmpty then 0 else 1) < 30))=true) u4._auto_1)
 (hline:autoParam ((apos.endLine == cpos.line)=true) u5._auto_1) (hs:autoParam (∀ j,starEach [e] (Y j).env=(false,eval e (Y j).env)::starEach [] (Y j).env) u4._auto_1) (hplain:autoParam (∀ j,(backTo cpos (starEach [] (Y j).env)).any (·.1)=false) u4._auto_1):
 DE He K Y (.Call (.Attribute a "join" apos) [e] [] cpos) (xJoin t u):=by
 obtain ⟨te,h1,h2⟩:=ho
 obtain ⟨tf,b1,b2⟩:=h
 refine ⟨_,fun j=>pe_bmK K (hK j) PySem.F.plainAttrs_str PySem.F.slot_str_join PySem.F.type_str_join (mt_join K (hK j)) (h1 j) (pa_cons (b1 j) pa_nil (hs j)) (hbase j) (hfew j) hline (hs j) (hplain j),fun P Q F p k=> ?_⟩
 refine h2 _ _ F p fun d v R1 H1 ⟨x,hx,p1⟩ e1 r1=> ?_
 subst hx
 rw [r1.str_inv']
 refine ⟨rfl,b2 _ _ (F.next e1) p1 fun ds q ys R2 H2 ⟨ws,hw,hj,p2⟩ e2 hq r2=> ?_⟩
 subst hw
 exact ⟨x,q,ws,rfl,rfl,by rw [← r2.strs_inv];exact SqL.of hq,hj,k _ _ R2 H2 p2 (e1.trans e2) (.str _)⟩
noncomputable def xSliceS (t:De) (tl th:Dp):De:=fun env P=>t env fun d=>tl env fun l=>th env fun h=>∃a,d= .str a∧a.length≤100000∧P (.str (Txt.slice a l h))
theorem de_sliceS {t:De} {tl th:Dp} (h:DB He K Y e t) (hl:DP He K Y lo tl) (hh:DP He K Y hi th):DE He K Y (.Subscript e (.Slice lo hi none p2) pos) (xSliceS t tl th):=by
 obtain ⟨te,h1,h2⟩:=h
 obtain ⟨tl',l1,l2⟩:=hl
 obtain ⟨th',u1,u2⟩:=hh
 refine ⟨_,fun i=>pe_slice sl_str (h1 i) (l1 i) (u1 i),fun P Q F p k=> ?_⟩
 refine h2 _ _ F p fun d v R1 H1 q1 e1 r1=> ?_
 refine l2 _ _ (F.next e1) q1 fun ol R2 H2 q2 e2=> ?_
 refine u2 _ _ (F.next (e1.trans e2)) q2 fun oh R3 H3 ⟨x,hx,hz,q3⟩ e3=> ?_
 subst hx
 exact ⟨x,r1.str_inv',hz,k _ _ R3 H3 q3 (e1.trans (e2.trans e3)) (.str _)⟩
noncomputable abbrev Dj:=Str→List Dt→(Str→Prop)→Prop
noncomputable def DJ (He:Hp) (K:PySem.W.Frag) {ι:Type} (Y:ι→Cx) (es:List Expr) (t:Dj):Prop:=∃te:TJ,(∀ i,PJ (Y i) es te)∧∀{H0 R H:Hp} {σ:St} {env:List Dt} (out:Str) (P:Str→Prop) (Q:VK),Fra He K H0 R H σ env→t out env P→
 (∀ d R' H',P d→Ext R H R' H'→Q (.str d) H')→te out σ H Q
noncomputable def jNil:Dj:=fun out q_ P=>out.length≤100000∧P out
noncomputable def jStr (c:Str) (t:Dj):Dj:=fun out env P=>(out++c).length≤100000∧t (out++c) env P
noncomputable def jInt (u:De) (t:Dj):Dj:=fun out env P=>u env fun d=>∃i:Int,d= .int i∧i.natAbs.log2 < 1920∧(out++toString i).length≤100000∧t (out++toString i) env P
theorem dj_nil:DJ He K Y [] jNil:=⟨_,fun q_=>pj_nil,fun out P Q F p k=>⟨p.1,k _ _ _ p.2 (.refl F.wd)⟩⟩
theorem dj_str {c:Str} {kd} {t:Dj} (h:DJ He K Y es t) (hs:autoParam (∀ i,evalEach (.Constant (.str c) kd p2::es) (Y i).env=eval (.Constant (.str c) kd p2) (Y i).env::evalEach es (Y i).env) u4._auto_1):DJ He K Y (.Constant (.str c) kd p2::es) (jStr c t):=by
 obtain ⟨te,h1,h2⟩:=h
 exact ⟨_,fun i=>pj_str (h1 i) (hs i),fun out P Q F p k=>⟨p.1,h2 _ _ _ F p.2 k⟩⟩
theorem dj_int {u:De} {t:Dj} (he:DB He K Y e u) (h:DJ He K Y es t) (hs:autoParam (∀ i,evalEach (.FormattedValue e (-1) none p2::es) (Y i).env=eval (.FormattedValue e (-1) none p2) (Y i).env::evalEach es (Y i).env) u4._auto_1):DJ He K Y (.FormattedValue e (-1) none p2::es) (jInt u t):=by
 obtain ⟨tu,a1,a2⟩:=he
 obtain ⟨te,h1,h2⟩:=h
 refine ⟨_,fun i=>pj_int (a1 i) (h1 i) (hs i),fun out P Q F p k=>a2 _ _ F p fun d v R1 H1 ⟨i,hi,hl,hz,q⟩ e1 r1=> ?_⟩
 subst hi
 exact ⟨i,r1.int_inv,hl,hz,h2 _ _ _ (F.next e1) q fun d R' H' pd ex=>k d R' H' pd (e1.trans ex)⟩
noncomputable def xFs (t:Dj):De:=fun env P=>t Str.empty env fun s=>P (.str s)
theorem de_fs {v1 v2:Expr} {t:Dj} (h:DJ He K Y (v1::v2::es) t) (hs:autoParam (∀ i,evalEach (v1::v2::es) (Y i).env=eval v1 (Y i).env::eval v2 (Y i).env::evalEach es (Y i).env) u4._auto_1):DE He K Y (.JoinedStr (v1::v2::es) pos) (xFs t):=by
 obtain ⟨te,h1,h2⟩:=h
 exact ⟨_,fun i=>pe_fs (h1 i) (hs i),fun P Q F p k=>h2 _ _ _ F p fun d R' H' pd ex=>k _ _ R' H' pd ex (.str _)⟩
end
end L2
set_option Elab.async false
set_option linter.all false
set_option maxRecDepth 100000
namespace L2
open PySem PySem.Spec PySem.W PySem.Calls PyProof.Rows
section
variable {X:Cx}
theorem call_intS:CallR X (.type "int") (fun xs H Q=>∃(z:Str) (n:Int),xs=[.str z]∧PySem.intText? z=some n∧z.length≤640∧Q (.int n) H):=by
 intro pins s σ H xs us Q I r h
 obtain ⟨z,n,rfl,hn,hl,q⟩:=h
 obtain ⟨u,rfl,t,rfl⟩:=vals1 r
 exact KIN.call_text hn hl ⟨.int n,H,I.tok _,⟨_,rfl⟩,q⟩
theorem two_of {a b:Int} {its:List Value} (r:Vals [V.int a,V.int b] its): ∃t u,its=[.int a t,.int b u]:=by
 cases r with
 | cons h1 r=>
   cases r with
   | cons h2 r=>
     cases r
     obtain ⟨t,rfl⟩:=h1
     obtain ⟨u,rfl⟩:=h2
     exact ⟨t,u,rfl⟩
theorem two_items (a b:Int) (t u:Tok):intItems #[(a,t),(b,u)]= #[Value.int a t,Value.int b u]:=by simp [intItems]
theorem two_min (bt:Nat→Nat→Bool):argBest bt 1=if bt 1 0 then 1 else 0:=rfl
theorem call_minL (K:PySem.W.Frag) (hK:X.K=K) (hc:X.calm=true):CallR X (.builtin "min") (fun xs H Q=>∃(p:Addr) (a b:Int),xs=[.ref p]∧SqL K H p [.int a,.int b]∧Q (.int (if b < a then b else a)) H):=by
 subst hK
 intro pins s σ H xs us Q I r h
 obtain ⟨p,a,b,rfl,hp,q⟩:=h
 obtain ⟨u,rfl,r1⟩:=vals1 r
 cases (show u=Value.ref p from r1)
 obtain ⟨its,rv,pl,hz⟩:=I.list hp
 obtain ⟨t,u,rfl⟩:=two_of rv
 refine min_intList (xs:= #[(a,t),(b,u)]) (I.ok.hd hc) (by rw [two_items];exact pl.isList) (by show 0 < 2;lia) fun v h' tk hv kp=> ?_
 refine ⟨.int (if b < a then b else a),H,I.kept kp,?_,q⟩
 have hv:(#[Value.int a t,Value.int b u]:Array Value)[argBest (fun i j=>decide (numAt #[(a,t),(b,u)] i < numAt #[(a,t),(b,u)] j)) 1]?=some v:=by rw [← two_items];exact hv
 rw [two_min] at hv
 have e1:numAt #[(a,t),(b,u)] 1=b:=rfl
 have e0:numAt #[(a,t),(b,u)] 0=a:=rfl
 rw [e1,e0] at hv
 by_cases z:b < a
 · rw [if_pos (decide_eq_true z)] at hv
   rw [if_pos z]
   cases hv
   exact ⟨u,rfl⟩
 · rw [if_neg (by simp [z])] at hv
   rw [if_neg z]
   cases hv
   exact ⟨t,rfl⟩
theorem call_maxL (K:PySem.W.Frag) (hK:X.K=K) (hc:X.calm=true):CallR X (.builtin "max") (fun xs H Q=>∃(p:Addr) (a b:Int),xs=[.ref p]∧SqL K H p [.int a,.int b]∧Q (.int (if a < b then b else a)) H):=by
 subst hK
 intro pins s σ H xs us Q I r h
 obtain ⟨p,a,b,rfl,hp,q⟩:=h
 obtain ⟨u,rfl,r1⟩:=vals1 r
 cases (show u=Value.ref p from r1)
 obtain ⟨its,rv,pl,hz⟩:=I.list hp
 obtain ⟨t,u,rfl⟩:=two_of rv
 refine max_intList (xs:= #[(a,t),(b,u)]) (I.ok.hd hc) (by rw [two_items];exact pl.isList) (by show 0 < 2;lia) fun v h' tk hv kp=> ?_
 refine ⟨.int (if a < b then b else a),H,I.kept kp,?_,q⟩
 have hv:(#[Value.int a t,Value.int b u]:Array Value)[argBest (fun i j=>decide (numAt #[(a,t),(b,u)] i > numAt #[(a,t),(b,u)] j)) 1]?=some v:=by rw [← two_items];exact hv
 rw [two_min] at hv
 have e1:numAt #[(a,t),(b,u)] 1=b:=rfl
 have e0:numAt #[(a,t),(b,u)] 0=a:=rfl
 rw [e1,e0] at hv
 by_cases z:a < b
 · rw [if_pos (decide_eq_true z)] at hv
   rw [if_pos z]
   cases hv
   exact ⟨u,rfl⟩
 · rw [if_neg (by simp [z])] at hv
   rw [if_neg z]
   cases hv
   exact ⟨t,rfl⟩
theorem refs_of: ∀{cs:List Addr} {its:List Value},Vals (cs.map V.ref) its→its=cs.map Value.ref
 | [],_,r=>by rw [List.map_nil] at r;cases r;rfl
 | c::cs,_,r=>by
   rw [List.map_cons] at r
   cases r with
   | cons h t=>rw [refs_of t,show _=Value.ref c from h];rfl
theorem call_isXs (K:PySem.W.Frag) (hK:X.K=K):CallR X (.builtin "isinstance") (fun xs H Q=>∃(a tp D:Addr) (cs:List Addr) (b:Bool),xs=[.ref a,.ref tp]∧H a=some (.ext (xPhi a D))∧H tp=some (.tup (cs.map V.ref))∧ExcK K D∧kitAny K (.ref D) (cs.map Value.ref)=some b∧Q (.bl b) H):=by
 subst hK
 intro pins s σ H xs us Q I r h
 obtain ⟨a,tp,D,cs,b,rfl,hH,ht,Z,e,q⟩:=h
 obtain ⟨u,w',rfl,r1,r2⟩:=vals2 r
 cases (show u=Value.ref a from r1)
 cases (show w'=Value.ref tp from r2)
 obtain ⟨hp,_,_⟩:=(show ObjOk X.prog X.w H s.heap a (.ext (xPhi a D)) from I.hok a _ hH)
 obtain ⟨its,rv,it,hz⟩:=I.tuple (SqT.of ht)
 have:=refs_of rv
 subst this
 obtain ⟨⟨oc,od,dt,sl⟩,e1,e2,n,e3⟩:=it
 cases (show oc=_ from e2)
 cases (show dt=_ from e3)
 exact kia_tup (kitx_exc Z) I.kIn hp e1 e (fun z=>nomatch z) fun tk=>⟨.bl b,H,I.tok tk,rfl,q⟩
noncomputable def Its (z:Str):It:=⟨fun i q_=>∃c,z.cps[i]?=some c,fun i H x H'=>H'=H∧∃c,z.cps[i]?=some c∧x= .str ⟨#[c]⟩,fun i q_=>z.cps[i]?=none⟩
theorem turn_str {P:Program} {w:World} {K:PySem.W.Frag} {tg:Expr} (z:Str) (t:Tok) (it:Addr):Turn P w K tg (Its z) [it] it (fun i h=>h.IsStrIter it (strIterType z) z t i) where
 mem:=by simp
 obj:=fun i h st b hb=>by
  have e:b=it:=by simpa using hb
  subst e
  obtain ⟨o,e,c,d⟩:=st
  exact ⟨o,e,fun v z=>by rw [d] at z;cases z⟩
 keep:=fun i h h' st k=>by
  obtain ⟨o,e,c,d⟩:=st
  exact ⟨o,k it (by simp) o e,c,d⟩
 item:=by
  intro X hP hw hK hc i pins s σ H E I hf st hg
  subst hP hw hK
  obtain ⟨c,hg⟩:=hg
  obtain ⟨f0,f1,f2,f3,f4,f5⟩:=hf it (by simp)
  have fin: ∀(ty:String),(["enumerate","zip","dict_itemiterator","dict_reverseitemiterator","odict_iterator","itertools.zip_longest","itertools.pairwise"].contains ty=false)→strIterType z=ty→∀h':Heap,h'.IsStrIter it ty z t (i + 1)→Heap.SameBut it s.heap h'→∃u,some (Value.str ⟨#[c]⟩ s.toks)=some u∧
   wpAny (model X.prog X.w) X.A (letOwnedTupleGo tg (.ref it) u) (fun q_ s2=>∃x H',Inv X pins σ H' s2∧RelV x u∧(Its z).yld i H x H'∧s2.heap.IsStrIter it ty z t (i + 1)∧∀b∈[it],H' b=none) E {heap:=h',gens:=s.gens,drawn:=s.drawn,toks:=s.toks + 1,os:=s.os}:=fun ty hty q_ h' st' sb=>by
   have I1:Inv X pins σ H {s with heap:=h',toks:=s.toks + 1}:=I.turned (fun b o hb e=>(sb.2 b hb).trans e) f0 f1 f3 f4 f5
   obtain ⟨o,e,c2,d⟩:=id st'
   exact ⟨_,rfl,go_of (s:={s with heap:=h',toks:=s.toks + 1}) e c2 d hty ⟨.str ⟨#[c]⟩,H,I1,⟨_,rfl⟩,⟨rfl,c,hg,rfl⟩,st',fun b hb=>(hf b hb).1⟩⟩
  by_cases a:(z.cps.all fun x=>decide (x < 128))=true
  · have e:strIterType z="str_ascii_iterator":=if_pos a
    rw [e] at st ⊢
    exact wpAny_pyNext_ascii_item st hg fun h' st' sb=>fin _ (by decide) e h' st' sb
  · have e:strIterType z="str_iterator":=if_neg a
    rw [e] at st ⊢
    exact wpAny_pyNext_wide_item st hg fun h' st' sb=>fin _ (by decide) e h' st' sb
 done:=by
  intro X hP hw hK hc i pins s σ H E I hf st hg
  subst hP hw hK
  obtain ⟨f0,f1,f2,f3,f4,f5⟩:=hf it (by simp)
  by_cases a:(z.cps.all fun x=>decide (x < 128))=true
  · have e:strIterType z="str_ascii_iterator":=if_pos a
    rw [e] at st
    exact wpAny_pyNext_ascii_end (I.ok.hd hc) st hg fun h' eb=>⟨rfl,I.turned (t':=s.toks) (fun b o hb e=>eb b o hb e) f0 f1 f3 f4 f5⟩
  · have e:strIterType z="str_iterator":=if_neg a
    rw [e] at st
    exact wpAny_pyNext_wide_end (I.ok.hd hc) st hg fun h' eb=>⟨rfl,I.turned (t':=s.toks) (fun b o hb e=>eb b o hb e) f0 f1 f3 f4 f5⟩
 self:=fun A i s Q E st h=>by
  by_cases a:(z.cps.all fun x=>decide (x < 128))=true
  · have e:strIterType z="str_ascii_iterator":=if_pos a
    rw [e] at st
    exact wpAny_pyIter_striter_ascii st h
  · have e:strIterType z="str_iterator":=if_neg a
    rw [e] at st
    exact wpAny_pyIter_striter_wide st h
noncomputable def iStr (tl:TE):TI:=fun σ H R=>tl σ H fun x H1=>∃z,x= .str z∧R (Its z) H1
theorem pi_str {l tg:Expr} {tl:TE} (hl:PE X l tl):PI X tg l (iStr tl):=by
 intro pins s σ H R I h
 refine thn (hl pins s σ H _ I h) fun v s1 ⟨x,H1,I1,r1,z,e,q⟩=> ?_
 subst e
 obtain ⟨t,rfl⟩:=r1
 refine wpAny_pyIter_strU ?_
 refine ⟨s1.heap.objs.size,[s1.heap.objs.size],_,_,H1,rfl,I1.kept (t':=s1.toks) fun b o e=>Heap.get?_push_of_some _ e,turn_str z t _,⟨_,Heap.get?_push_size _ rfl,rfl,rfl⟩,fun b hb=> ?_,q⟩
 have e:b=s1.heap.objs.size:=by simpa using hb
 subst e
 exact I1.fpOk (Nat.le_refl _) (I1.hok.fresh (Nat.le_refl _))
end
section
variable {He:Hp} {K:PySem.W.Frag} {ι:Type} {Y:ι→Cx} {e a b tg:Expr} {es:List Expr} {pos p p2:Pos}
noncomputable def xIxS (t ti:De):De:=fun env P=>t env fun x=>∃z,x= .str z∧ti env fun i=>∃k c,i= .int k∧z.length≤100000∧atI z.cps.toList k=some c∧P (.str ⟨#[c]⟩)
theorem de_ixS {t ti:De} (ha:DB He K Y a t) (hb:DB He K Y b ti) (hs:autoParam (PlainIx b) u11._auto_1):DE He K Y (.Subscript a b pos) (xIxS t ti):=by
 obtain ⟨te,h1,h2⟩:=ha
 obtain ⟨te',h3,h4⟩:=hb
 refine ⟨_,fun i=>pe_ix ix_str (h1 i) (h3 i) hs,fun P Q F p k=>h2 _ _ F p fun d v R1 H1 ⟨z,hz,q1⟩ e1 r1=> ?_⟩
 subst hz
 refine h4 _ _ (F.next e1) q1 fun d2 v2 R2 H2 ⟨j,c,hj,hl,hc,q2⟩ e2 r2=> ?_
 subst hj
 have ev:=r2.int_inv
 subst ev
 exact ⟨z,j,c,r1.str_inv',rfl,szl hl,hc,k _ _ R2 H2 q2 (e1.trans e2) (.str _)⟩
noncomputable def xLenS (t:De):De:=fun env P=>t env fun x=>∃z,x= .str z∧z.length≤100000∧P (.int (z.length:Int))
theorem de_lenS {t:De} (h:DB He K Y a t) (hm: ∀i,(Y i).mg "len"=none) (hg:autoParam (∀ i,Gl (Y i) "len") u4._auto_1) (hs:autoParam (∀ i,starEach [a] (Y i).env=[(false,eval a (Y i).env)]) u4._auto_1):
 DE He K Y (.Call (.Name "len" p) [a] [] pos) (xLenS t):=by
 obtain ⟨te,h1,h2⟩:=h
 refine ⟨_,fun i=>pe_callB call_len_str (hg i) (hm i) boot_len (pa_cons (h1 i) pa_nil (hs i)) (by decide) (by decide) (hs i),fun P Q F p k=>h2 _ _ F p fun d v R1 H1 ⟨z,hz,hl,q1⟩ e1 r1=> ?_⟩
 subst hz
 exact ⟨z,by rw [r1.str_inv'],szl hl,k _ _ R1 H1 q1 e1 (.int _)⟩
noncomputable def xIntS (t:De):De:=fun env P=>t env fun x=>∃z n,x= .str z∧PySem.intText? z=some n∧z.length≤640∧P (.int n)
theorem de_intS {t:De} (h:DB He K Y a t) (hm: ∀i,(Y i).mg "int"=none) (hg:autoParam (∀ i,Gl (Y i) "int") u4._auto_1) (hs:autoParam (∀ i,starEach [a] (Y i).env=[(false,eval a (Y i).env)]) u4._auto_1):
 DE He K Y (.Call (.Name "int" p) [a] [] pos) (xIntS t):=by
 obtain ⟨te,h1,h2⟩:=h
 refine ⟨_,fun i=>pe_callTy call_intS (hg i) (hm i) bt_int' (pa_cons (h1 i) pa_nil (hs i)) (by decide) (by decide) (hs i),fun P Q F p k=>h2 _ _ F p fun d v R1 H1 ⟨z,n,hz,hn,hl,q1⟩ e1 r1=> ?_⟩
 subst hz
 exact ⟨z,n,by rw [r1.str_inv'],hn,hl,k _ _ R1 H1 q1 e1 (.int _)⟩
noncomputable def inS (x y:Str):Bool:= !(Builtin.Str.occurrences y x 0 y.length 1).isEmpty
noncomputable def rdInS (n:Bool):PyData→PyData→(PyData→Prop)→Prop:=fun x y P=>∃a b,x= .str a∧y= .str b∧P (.bool (xor n (inS a b)))
theorem od_ninS:OD K Y (compareOp .NotIn) (rdInS true):=by
 refine ⟨_,fun q_=>op_notin_str,fun P Q r1 r2 p k=> ?_⟩
 obtain ⟨a,b,rfl,rfl,p⟩:=p
 rw [Bool.true_xor] at p
 exact ⟨a,b,r1.str_inv',r2.str_inv',k _ _ p (scBl _)⟩
noncomputable def sgD (z:Str):List PyData:=z.cps.toList.map fun c=>PyData.str ⟨#[c]⟩
theorem sg_at {z:Str} {i:Nat} {d:PyData} (h:(sgD z)[i]?=some d): ∃c,z.cps[i]?=some c∧d= .str ⟨#[c]⟩:=by
 unfold sgD at h
 rw [List.getElem?_map] at h
 obtain ⟨c,hc,rfl⟩:=Option.map_eq_some_iff.mp h
 exact ⟨c,by simpa using hc,rfl⟩
theorem sg_len (z:Str):(sgD z).length=z.length:=by unfold sgD;rw [List.length_map];exact Array.length_toList
theorem yld_str (R:Hp) (z:Str):Yld K (Its z) R (sgD z):=by
 refine ⟨fun R1 H1 i s w hi=> ?_,fun R1 H1 i d x H2 s w hd y=> ?_,fun R1 H1 s w=> ?_⟩
 · obtain ⟨c,hc,_⟩:=sg_at (z:=z) (i:=i) (List.getElem?_eq_getElem hi)
   exact ⟨c,hc⟩
 · obtain ⟨c,hc,rfl⟩:=sg_at hd
   obtain ⟨e,c',hc',y⟩:=y
   rw [hc] at hc';cases hc'
   subst e y
   exact ⟨R1,.refl w,.str _⟩
 · rw [sg_len]
   exact Array.getElem?_eq_none (Nat.le_refl _)
noncomputable def xStrI (t:De):Dq:=fun env P=>t env fun d=>∃z,d= .str z∧z.length≤100000∧P (sgD z)
theorem di_str {t:De} (h:DB He K Y e t):DI He K Y tg e (xStrI t):=by
 obtain ⟨te,h1,h2⟩:=h
 refine ⟨_,fun i=>pi_str (h1 i),fun P Q F p k=>h2 _ _ F p fun d v R' H' ⟨z,hz,hl,pl⟩ ex r=> ?_⟩
 subst hz
 exact ⟨z,r.str_inv',k _ _ R' H' pl ex (by rw [sg_len];exact szl hl) (yld_str R' z)⟩
theorem RpAll.two_inv {R:Hp} {ys:List V} {x y:Int} (r:RpAll K R ys [.int x,.int y]):ys=[.int x,.int y]:=RpAll.ints_inv (ns:=[x,y]) r
noncomputable def xMinL (t:Dq):De:=fun env P=>t env fun l=>∃x y:Int,l=[.int x,.int y]∧P (.int (if y < x then y else x))
noncomputable def xMaxL (t:Dq):De:=fun env P=>t env fun l=>∃x y:Int,l=[.int x,.int y]∧P (.int (if x < y then y else x))
theorem bt_min':bootBuiltins "min"=some (.builtin "min"):=by decide +kernel
theorem bt_max':bootBuiltins "max"=some (.builtin "max"):=by decide +kernel
theorem de_minL {t:Dq} (h:DL He K Y a t) (hm: ∀i,(Y i).mg "min"=none) (hc:autoParam (∀ i,(Y i).calm=true) u4._auto_1) (hg:autoParam (∀ i,Gl (Y i) "min") u4._auto_1) (hK:autoParam (∀ i,(Y i).K=K) u4._auto_1) (hs:autoParam (∀ i,starEach [a] (Y i).env=[(false,eval a (Y i).env)]) u4._auto_1):
 DE He K Y (.Call (.Name "min" p) [a] [] pos) (xMinL t):=by
 obtain ⟨te,h1,h2⟩:=h
 refine ⟨_,fun i=>pe_callB (call_minL K (hK i) (hc i)) (hg i) (hm i) bt_min' (pa_cons (h1 i) pa_nil (hs i)) (by decide) (by decide) (hs i),fun P Q F p k=>h2 _ _ F p fun l x ys R1 H1 ⟨u,w,hb,q1⟩ e1 s1 r1=> ?_⟩
 subst hb
 rw [r1.two_inv] at s1
 exact ⟨x,u,w,rfl,SqL.of s1,k _ _ R1 H1 q1 e1 (.int _)⟩
theorem de_maxL {t:Dq} (h:DL He K Y a t) (hm: ∀i,(Y i).mg "max"=none) (hc:autoParam (∀ i,(Y i).calm=true) u4._auto_1) (hg:autoParam (∀ i,Gl (Y i) "max") u4._auto_1) (hK:autoParam (∀ i,(Y i).K=K) u4._auto_1) (hs:autoParam (∀ i,starEach [a] (Y i).env=[(false,eval a (Y i).env)]) u4._auto_1):
 DE He K Y (.Call (.Name "max" p) [a] [] pos) (xMaxL t):=by
 obtain ⟨te,h1,h2⟩:=h
 refine ⟨_,fun i=>pe_callB (call_maxL K (hK i) (hc i)) (hg i) (hm i) bt_max' (pa_cons (h1 i) pa_nil (hs i)) (by decide) (by decide) (hs i),fun P Q F p k=>h2 _ _ F p fun l x ys R1 H1 ⟨u,w,hb,q1⟩ e1 s1 r1=> ?_⟩
 subst hb
 rw [r1.two_inv] at s1
 exact ⟨x,u,w,rfl,SqL.of s1,k _ _ R1 H1 q1 e1 (.int _)⟩
noncomputable def sPut2 (i:Nat) (ti tj te:De):Ds:=fun D env=>te env fun d=>∃u w xs,d= .tuple [u,w]∧env[i]?=some (.o xs)∧ti env fun ix=>∃k m,ix= .int k∧ixN xs.length k=some m∧(env.set i (.o (xs.set m u)))[i]?=some (.o (xs.set m u))∧tj (env.set i (.o (xs.set m u))) fun jx=>∃k2 m2,jx= .int k2∧ixN (xs.set m u).length k2=some m2∧D.nx ((env.set i (.o (xs.set m u))).set i (.o ((xs.set m u).set m2 w)))
theorem ds_put2 (i:Nat) {x:Str} {ti tj te:De} {q2 sp sp2:Pos} {kt:Nat} {pt:Pos} (hi:DE He K Y a ti) (hj:DE He K Y b tj) (he:DE He K Y e te) (hv:autoParam (∀ j,PE (Y j) (.Name x p2) (tVar i)) u9._auto_1) (hv2:autoParam (∀ j,PE (Y j) (.Name x q2) (tVar i)) u9._auto_1)
 (ha:autoParam (∀ j v,assign (.Subscript (.Name x p2) a sp) (Y j).env v=(do
   let ov ← holding [v] (eval (.Name x p2) (Y j).env)
   let iv ← holding [v,ov] (eval a (Y j).env)
   standAt sp
   holding [v,ov,iv] (setItem ov iv v)
   release [v,ov,iv] [])) u11._auto_1)
 (hb:autoParam (∀ j v,assign (.Subscript (.Name x q2) b sp2) (Y j).env v=(do
   let ov ← holding [v] (eval (.Name x q2) (Y j).env)
   let iv ← holding [v,ov] (eval b (Y j).env)
   standAt sp2
   holding [v,ov,iv] (setItem ov iv v)
   release [v,ov,iv] [])) u11._auto_1)
 (hc:autoParam (∀ j,(Y j).calm=true) u4._auto_1) (hK:autoParam (∀ i,(Y i).K=K) u4._auto_1)
 (ha1:autoParam (∀ k,(assignEach [.Subscript (.Name x p2) a sp,.Subscript (.Name x q2) b sp2] (Y k).env).map (·.2)=assign (.Subscript (.Name x p2) a sp) (Y k).env::(assignEach [.Subscript (.Name x q2) b sp2] (Y k).env).map (·.2)) u4._auto_1)
 (ha2:autoParam (∀ k,(assignEach [.Subscript (.Name x q2) b sp2] (Y k).env).map (·.2)=assign (.Subscript (.Name x q2) b sp2) (Y k).env::(assignEach [] (Y k).env).map (·.2)) u4._auto_1)
 (hn:autoParam (∀ k,(assignEach [.Subscript (.Name x p2) a sp,.Subscript (.Name x q2) b sp2] (Y k).env).length=2) u4._auto_1) (hst:autoParam (∀ k,(assignEach [.Subscript (.Name x p2) a sp,.Subscript (.Name x q2) b sp2] (Y k).env).findIdx? (·.1)=none) u4._auto_1)
 (hs:autoParam (∀ j,swapsWithSole [.Tuple [.Subscript (.Name x p2) a sp,.Subscript (.Name x q2) b sp2] kt pt] e pos.line (Y j).env=pure false) u4._auto_1) (hw:autoParam (∀ j,swappedStores [.Tuple [.Subscript (.Name x p2) a sp,.Subscript (.Name x q2) b sp2] kt pt] e (Y j).env=pure none) u4._auto_1)
 (h1:autoParam (∀ j,(assignEach [.Tuple [.Subscript (.Name x p2) a sp,.Subscript (.Name x q2) b sp2] kt pt] (Y j).env).map (·.2)=[assign (.Tuple [.Subscript (.Name x p2) a sp,.Subscript (.Name x q2) b sp2] kt pt) (Y j).env]) u4._auto_1):
 DS He K Y (.Assign [.Tuple [.Subscript (.Name x p2) a sp,.Subscript (.Name x q2) b sp2] kt pt] e pos) (sPut2 i ti tj te):=by
 obtain ⟨t1,i1,i2⟩:=hi
 obtain ⟨t3,j1,j2⟩:=hj
 obtain ⟨t2,e1,e2⟩:=he
 refine ⟨_,fun m=>ps_asg (e1 m) (pg_tupK K (hK m) (hc m) (pgs_cons (pg_sub (hv m) (i1 m) set_list (ha m)) (pgs_cons (pg_sub (hv2 m) (j1 m) set_list (hb m)) pgs_nil (ha2 m)) (ha1 m)) (hn m) (hst m)) (hs m) (hw m) (h1 m),fun D E F s c p=>e2 _ _ F p fun d v R1 H1 q1 x1 r1=> ?_⟩
 have F1:=F.next x1
 obtain ⟨u,w,xs,rfl,ex,q1⟩:=q1
 obtain ⟨ta,tx,rfl,g1,g2⟩:=r1.tup_inv
 cases g2 with
 | cons ru g3=>
   cases g3 with
   | cons rw' g4=>
     cases g4
     refine ⟨ta,_,rfl,SqT.of (F1.wd.rh _ _ g1),rfl,_,_,rfl,?_⟩
     obtain ⟨la,ys,l1,l2,l3,l4,l5⟩:=F1.lstAt ex
     refine ⟨_,l1,i2 _ _ F1 q1 fun ix w1 R2 H2 ⟨k,m,hk,hm,ex2,q⟩ x2 r2=> ?_⟩
     subst hk
     have ev:=r2.int_inv
     subst ev
     refine ⟨la,ys,k,m,rfl,rfl,x2.hh _ _ l2,by rw [l5.len];exact hm,?_⟩
     have F2:=(F1.next x2).lstSet ex l1 (x2.nn _ _ l2 l3) l4 (RpAll.setAt (Rp.same x2.rr ru) m (RpAll.same x2.rr l5))
     refine ⟨_,_,rfl,?_⟩
     obtain ⟨lb,zs,b1,b2,b3,b4,b5⟩:=F2.lstAt ex2
     refine ⟨_,b1,j2 _ _ F2 q fun jx w2 R3 H3 ⟨k2,m2,hk2,hm2,q3⟩ x3 r3=> ?_⟩
     subst hk2
     have ev:=r3.int_inv
     subst ev
     refine ⟨lb,zs,k2,m2,rfl,rfl,x3.hh _ _ b2,by rw [b5.len];exact hm2,rfl,?_⟩
     exact c.nx _ _ _ _ q3 (s.trans (x1.trans x2).rr |>.trans x3.rr) ((F2.next x3).lstSet ex2 b1 (x3.nn _ _ b2 b3) b4 (RpAll.setAt (Rp.same x3.rr (Rp.same x2.rr rw')) m2 (RpAll.same x3.rr b5)))
noncomputable def xIsXs (K:PySem.W.Frag) (cs:List Addr) (t:De):De:=fun env P=>t env fun d=>∃D b,d=excD D∧ExcK K D∧kitAny K (.ref D) (cs.map Value.ref)=some b∧P (.bool b)
inductive NmC {ι:Type} (Y:ι→Cx):List Expr→List Addr→Prop
 | nil:NmC Y [] []
 | cons {x:Str} {C:Addr} {es:List Expr} {cs:List Addr} {p:Pos} (hm: ∀i,(Y i).mg x=some (.ref C)) (hg: ∀i,Gl (Y i) x) (hd:(x == ("__debug__":Str))=false) (hs: ∀i,starEach (.Name x p::es) (Y i).env=(false,eval (.Name x p) (Y i).env)::starEach es (Y i).env) (h:NmC Y es cs):NmC Y (.Name x p::es) (C::cs)
theorem NmC.pa {es:List Expr} {cs:List Addr} (h:NmC Y es cs) (i:ι):PA (Y i) es (fun q_ H Q=>Q (cs.map V.ref) H):=by
 induction h with
 | nil=>
   intro pos pins s σ H Q I q
   exact pa_nil pos pins s σ H Q I q
 | cons hm hg hd hs h ih=>
   intro pos pins s σ H Q I q
   exact pa_cons (pe_glob (v:= .ref _) (hg i) (hm i) rfl hd) ih (hs i) pos pins s σ H Q I q
theorem de_isXs {t:De} {cs:List Addr} {kt:Nat} {pt:Pos} (h:DB He K Y a t) (hn:NmC Y es cs) (hz:cs.length≤100000) (hm: ∀i,(Y i).mg "isinstance"=none) (hg:autoParam (∀ i,Gl (Y i) "isinstance") u4._auto_1)
 (hK:autoParam (∀ i,(Y i).K=K) u4._auto_1) (hs:autoParam (∀ i,starEach [a,.Tuple es kt pt] (Y i).env=(false,eval a (Y i).env)::starEach [.Tuple es kt pt] (Y i).env) u4._auto_1) (hs2:autoParam (∀ i,starEach [.Tuple es kt pt] (Y i).env=[(false,eval (.Tuple es kt pt) (Y i).env)]) u4._auto_1)
 (hpl:autoParam (∀ i,(backTo pos (starEach [.Tuple es kt pt] (Y i).env)).any (·.1)=false) u4._auto_1):
 DE He K Y (.Call (.Name "isinstance" p) [a,.Tuple es kt pt] [] pos) (xIsXs K cs t):=by
 obtain ⟨te,h1,h2⟩:=h
 refine ⟨_,fun i=>pe_callB (call_isXs K (hK i)) (hg i) (hm i) bt_isi' (pa_cons (h1 i) (pa_cons (pe_tup (hn.pa i)) pa_nil (hs2 i)) (hs i)) (by decide) (by decide) (hs i) (hpl i),fun P Q F p k=>h2 _ _ F p fun d v R1 H1 q1 e1 r1=> ?_⟩
 obtain ⟨D,b,rfl,Z,hb,q1⟩:=q1
 obtain ⟨a',rfl,hH⟩:=r1.xc_inv
 refine ⟨szl (by rw [List.length_map];exact hz),fun tp hp=> ?_⟩
 have e2:=Ext.new (o:= .tup (cs.map V.ref)) e1.wd hp
 have ne:a'≠tp:=fun z=>by rw [z,hp] at hH;cases hH
 exact ⟨a',tp,D,cs,b,rfl,by rw [upd_ne ne];exact hH,upd_same,Z,hb,k _ _ _ _ q1 (e1.trans e2) (.bl b)⟩
end
end L2
set_option maxHeartbeats 4000000
open PySem L2
local macro_rules | `(tactic| simp only [rD,$ls,*] $[$l]?)=> `(tactic| simp only [xIxS,xLenS,xIntS,rdInS,xStrI,xMinL,xMaxL,sPut2,xIsXs,rdEqS,Bool.false_xor,Bool.true_xor,xSplit,xEnds,xJoin,xSliceS,xFs,jNil,jStr,jInt,rdAddS,xStr1,PyData.str.injEq,sNewT,sPutT,xInT,xSortT,sIns,Dt.dt.injEq,sCallV,Dt.dk.injEq,Dt.oo.injEq,sExp,sRaise,xCallE,xIsX,sNext,sSeq,sSet,sSetO,sRet,sRetO,sRetV,sIf,sFrz,sApp,xVar,xC,xVarB,xVarQ,xVarL,xSeq,xLst,x2,xB,xNot,xAnd,xOr,xAndV,xNeg,xChain,xIx,xNil,xCons,xTup,xDisp,xLen,xTuple,xIsi,xCat,xCall,xCallO,xCallB,xRange1,xAny,xPn,xPs,xSlice,gN,gN2,rdI0,rdI,rdEq,rdNe,rdIn,reduceCtorEq,false_or,or_false,false_and,exists_false,exists_const,frz_d,frz_o,seqS,seq_l,seq_t,seq_scr,startD,capD,List.map_cons,List.map_nil,List.length_cons,List.length_nil,List.getElem?_cons_zero,List.getElem?_cons_succ,List.set_cons_zero,List.set_cons_succ,List.replicate_succ,List.replicate_zero,List.cons_append,List.nil_append,Option.some.injEq,Dt.d.injEq,Dt.o.injEq,PyData.int.injEq,PyData.bool.injEq,PyData.tuple.injEq,PyData.list.injEq,exists_eq_left,exists_eq_left',exists_eq_right,exists_and_left,true_and,and_true,ne_eq,not_false_eq_true,Option.getD_some,Option.getD_none,Nat.reduceAdd,Nat.reduceSub,Nat.reduceLeDiff,Nat.zero_le,Nat.le_refl,$ls,*] $[$l]?)
local macro_rules | `(tactic| simp only [rD] $[$l]?)=> `(tactic| simp only [xIxS,xLenS,xIntS,rdInS,xStrI,xMinL,xMaxL,sPut2,xIsXs,rdEqS,Bool.false_xor,Bool.true_xor,xSplit,xEnds,xJoin,xSliceS,xFs,jNil,jStr,jInt,rdAddS,xStr1,PyData.str.injEq,sNewT,sPutT,xInT,xSortT,sIns,Dt.dt.injEq,sCallV,Dt.dk.injEq,Dt.oo.injEq,sExp,sRaise,xCallE,xIsX,sNext,sSeq,sSet,sSetO,sRet,sRetO,sRetV,sIf,sFrz,sApp,xVar,xC,xVarB,xVarQ,xVarL,xSeq,xLst,x2,xB,xNot,xAnd,xOr,xAndV,xNeg,xChain,xIx,xNil,xCons,xTup,xDisp,xLen,xTuple,xIsi,xCat,xCall,xCallO,xCallB,xRange1,xAny,xPn,xPs,xSlice,gN,gN2,rdI0,rdI,rdEq,rdNe,rdIn,reduceCtorEq,false_or,or_false,false_and,exists_false,exists_const,frz_d,frz_o,seqS,seq_l,seq_t,seq_scr,startD,capD,List.map_cons,List.map_nil,List.length_cons,List.length_nil,List.getElem?_cons_zero,List.getElem?_cons_succ,List.set_cons_zero,List.set_cons_succ,List.replicate_succ,List.replicate_zero,List.cons_append,List.nil_append,Option.some.injEq,Dt.d.injEq,Dt.o.injEq,PyData.int.injEq,PyData.bool.injEq,PyData.tuple.injEq,PyData.list.injEq,exists_eq_left,exists_eq_left',exists_eq_right,exists_and_left,true_and,and_true,ne_eq,not_false_eq_true,Option.getD_some,Option.getD_none,Nat.reduceAdd,Nat.reduceSub,Nat.reduceLeDiff,Nat.zero_le,Nat.le_refl] $[$l]?)
namespace Me
open PySem L2
def top (i:Nat):Stmt:=PySem.Challenge.pw_fewpoints_k17_read.main.body.getD i (.Pass ⟨0,0,0,0⟩)
noncomputable abbrev s_made:Stmt:=top 9
noncomputable abbrev s_refuse_too_many:Stmt:=top 10
noncomputable abbrev s_led_on:Stmt:=top 11
noncomputable abbrev sPoint:Stmt:=top 12
noncomputable abbrev s_points_under:Stmt:=top 13
noncomputable abbrev s_points_over:Stmt:=top 14
noncomputable abbrev s_written:Stmt:=top 16
noncomputable abbrev s_nearest_ties:Stmt:=top 17
noncomputable abbrev s_read:Stmt:=top 18
noncomputable abbrev s_many_of:Stmt:=top 19
noncomputable abbrev s_pair_of:Stmt:=top 20
noncomputable abbrev s_number_of:Stmt:=top 21
noncomputable abbrev sStir:Stmt:=top 23
noncomputable abbrev sCell:Stmt:=top 24
noncomputable abbrev sWhole:Stmt:=top 25
noncomputable abbrev sDraw:Stmt:=top 26
noncomputable abbrev sClosed:Stmt:=top 27
noncomputable abbrev sRaw:Stmt:=top 28
noncomputable abbrev sDig:Stmt:=top 29
noncomputable abbrev sMix:Stmt:=top 30
noncomputable abbrev sSpace:Stmt:=top 31
noncomputable abbrev s__law_ties:Stmt:=top 32
noncomputable abbrev s__law_same:Stmt:=top 33
noncomputable abbrev s__law_text:Stmt:=top 34
noncomputable abbrev s__law_changed:Stmt:=top 35
noncomputable abbrev s__law_paired:Stmt:=top 36
noncomputable abbrev s__law_odd:Stmt:=top 37
noncomputable abbrev s__law_mark:Stmt:=top 38
noncomputable abbrev s__law_due:Stmt:=top 39
noncomputable abbrev s__law_told:Stmt:=top 40
noncomputable abbrev sLaw:Stmt:=top 41
noncomputable abbrev Rel:=Nat→Nat→Bool
noncomputable def stp (t:Rel) (k a b:Nat):Rel:=if (t a k && t k b)=true then (fun x y=>if x=a∧y=b then true else t x y) else t
noncomputable def w3 (t:Rel) (k a:Nat):Nat→Rel
 | 0=>t
 | n + 1=>stp (w3 t k a n) k a n
noncomputable def w2 (m:Nat) (t:Rel) (k:Nat):Nat→Rel
 | 0=>t
 | n + 1=>w3 (w2 m t k n) k n m
noncomputable def w1 (m:Nat) (t:Rel):Nat→Rel
 | 0=>t
 | n + 1=>w2 m (w1 m t n) n m
theorem w3_eq (t:Rel) (k a:Nat): ∀(n x y:Nat),w3 t k a n x y=(t x y || (decide (x=a) && decide (y < n) && t a k && t k y))
 | 0,x,y=>by simp [w3]
 | n + 1,x,y=>by
   have ih:=w3_eq t k a n
   have e1:w3 t k a n a k=t a k:=by
    rw [ih];cases t a k <;> simp
   have e2:w3 t k a n k n=t k n:=by
    rw [ih];simp
   show stp (w3 t k a n) k a n x y=_
   unfold stp
   rw [e1,e2]
   by_cases hc:(t a k && t k n)=true
   · rw [if_pos hc]
     have hc:=Bool.and_eq_true_iff.mp hc
     by_cases hxy:x=a∧y=n
     · rw [if_pos hxy]
       obtain ⟨rfl,rfl⟩:=hxy
       simp [hc.1,hc.2]
     · rw [if_neg hxy,ih]
       by_cases hx:x=a
       · subst hx
         have hy: ¬y=n:=fun z=>hxy ⟨rfl,z⟩
         have:decide (y < n)=decide (y < n + 1):=by simp;lia
         rw [this]
       · simp [hx]
   · rw [if_neg hc,ih]
     by_cases hx:x=a
     · subst hx
       by_cases hy:y=n
       · subst hy
         have:(t x k && t k y)=false:=by simpa using hc
         simp only [Nat.lt_irrefl,decide_false,Bool.and_false,Bool.false_and,decide_true,Bool.true_and,Nat.lt_succ_self,this,Bool.or_false]
       · have:decide (y < n)=decide (y < n + 1):=by simp;lia
         rw [this]
     · simp [hx]
theorem w2_eq (m:Nat) (t:Rel) (k:Nat): ∀(n x y:Nat),w2 m t k n x y=(t x y || (decide (x < n) && decide (y < m) && t x k && t k y))
 | 0,x,y=>by simp [w2]
 | n + 1,x,y=>by
   have ih:=w2_eq m t k n
   show w3 (w2 m t k n) k n m x y=_
   rw [w3_eq]
   have e1:w2 m t k n n k=t n k:=by rw [ih];simp
   have e2:w2 m t k n k y=t k y:=by rw [ih];cases t k y <;> simp
   rw [e1,e2,ih]
   by_cases hx:x=n
   · subst hx
     simp
   · have:decide (x < n)=decide (x < n + 1):=by simp;lia
     rw [this]
     simp [hx]
theorem w1_step (m:Nat) (t:Rel) (n x y:Nat) (hx:x < m) (hy:y < m):w1 m t (n + 1) x y=(w1 m t n x y || (w1 m t n x n && w1 m t n n y)):=by
 show w2 m (w1 m t n) n m x y=_
 rw [w2_eq]
 simp [hx,hy]
theorem w1_sub (m:Nat) (t:Rel): ∀(n x y:Nat),t x y=true→w1 m t n x y=true
 | 0,x,y,h=>h
 | n + 1,x,y,h=>by
   show w2 m (w1 m t n) n m x y=true
   rw [w2_eq,w1_sub m t n x y h];rfl
theorem w1_trans (m:Nat) (t:Rel): ∀(n:Nat),n≤m→∀c a b,c < n→a < m→b < m→w1 m t n a c=true→w1 m t n c b=true→w1 m t n a b=true
 | 0,_,c,_,_,h,_,_,_,_=>absurd h (Nat.not_lt_zero _)
 | n + 1,hn,c,a,b,hc,ha,hb,h1,h2=>by
   have ih:=w1_trans m t n (by lia)
   have hcm:c < m:=by lia
   have hnm:n < m:=by lia
   rw [w1_step m t n a c ha hcm] at h1
   rw [w1_step m t n c b hcm hb] at h2
   rw [w1_step m t n a b ha hb]
   simp only [Bool.or_eq_true,Bool.and_eq_true] at h1 h2 ⊢
   by_cases e:c=n
   · subst e
     have k1:w1 m t c a c=true:=h1.elim id fun z=>z.1
     have k2:w1 m t c c b=true:=h2.elim id fun z=>z.2
     exact .inr ⟨k1,k2⟩
   · have hc':c < n:=by lia
     rcases h1 with h1 | ⟨h1,h1'⟩ <;> rcases h2 with h2 | ⟨h2,h2'⟩
     · exact .inl (ih c a b hc' ha hb h1 h2)
     · exact .inr ⟨ih c a n hc' ha hnm h1 h2,h2'⟩
     · exact .inr ⟨h1,ih c n b hc' hnm hb h1' h2⟩
     · exact .inr ⟨h1,h2'⟩
theorem w1_min (m:Nat) (t:Rel) (S:Nat→Nat→Prop) (h0: ∀x y,x < m→y < m→t x y=true→S x y) (hS: ∀a b c,a < m→b < m→c < m→S a b→S b c→S a c): ∀(n x y:Nat),n≤m→x < m→y < m→w1 m t n x y=true→S x y
 | 0,x,y,_,hx,hy,h=>h0 x y hx hy h
 | n + 1,x,y,hn,hx,hy,h=>by
   rw [w1_step m t n x y hx hy] at h
   simp only [Bool.or_eq_true,Bool.and_eq_true] at h
   rcases h with h | ⟨h1,h2⟩
   · exact w1_min m t S h0 hS n x y (by lia) hx hy h
   · exact hS x n y hx (by lia) hy (w1_min m t S h0 hS n x n (by lia) hx (by lia) h1) (w1_min m t S h0 hS n n y (by lia) (by lia) hy h2)
noncomputable def rowOf (m:Nat) (t:Rel) (a:Nat):List (Int×Int):=((List.range m).filter (t a)).map fun (b:Nat)=>((a:Int),(b:Int))
noncomputable def pairsOf (m:Nat) (t:Rel):List (Int×Int):=(List.range m).flatMap (rowOf m t)
noncomputable def t0 (ps:List (Int×Int)):Rel:=fun a b=>decide (((a:Int),(b:Int))∈ps∧a≠b)
noncomputable def clo (m:Nat) (ps:List (Int×Int)):List (Int×Int):=pairsOf m (w1 m (t0 ps) m)
theorem mem_pairsOf {m:Nat} {t:Rel} {q:Int×Int}:q∈pairsOf m t↔∃a b:Nat,a < m∧b < m∧t a b=true∧q=((a:Int),(b:Int)):=by
 unfold pairsOf rowOf
 rw [List.mem_flatMap]
 constructor
 · rintro ⟨a,ha,h⟩
   obtain ⟨b,hb,rfl⟩:=List.mem_map.mp h
   obtain ⟨h1,h2⟩:=List.mem_filter.mp hb
   exact ⟨a,b,List.mem_range.mp ha,List.mem_range.mp h1,h2,rfl⟩
 · rintro ⟨a,b,ha,hb,h,rfl⟩
   exact ⟨a,List.mem_range.mpr ha,List.mem_map.mpr ⟨b,List.mem_filter.mpr ⟨List.mem_range.mpr hb,h⟩,rfl⟩⟩
theorem mem_pairsOf' {m:Nat} {t:Rel} {a b:Nat}:((a:Int),(b:Int))∈pairsOf m t↔a < m∧b < m∧t a b=true:=by
 rw [mem_pairsOf]
 constructor
 · rintro ⟨x,y,h1,h2,h3,e⟩
   have e1:a=x:=Int.ofNat.inj (congrArg Prod.fst e)
   have e2:b=y:=Int.ofNat.inj (congrArg Prod.snd e)
   subst e1 e2
   exact ⟨h1,h2,h3⟩
 · rintro ⟨h1,h2,h3⟩
   exact ⟨a,b,h1,h2,h3,rfl⟩
theorem rowOf_len (m:Nat) (t:Rel) (a:Nat):(rowOf m t a).length≤m:=by
 unfold rowOf
 rw [List.length_map]
 exact Nat.le_trans (List.length_filter_le _ _) (by rw [List.length_range];exact Nat.le_refl _)
theorem pairsTo_len (m:Nat) (t:Rel): ∀n,((List.range n).flatMap (rowOf m t)).length≤n * m
 | 0=>by simp
 | n + 1=>by
   rw [List.range_succ,List.flatMap_append,List.length_append]
   have h1:=pairsTo_len m t n
   have h2:=rowOf_len m t n
   simp only [List.flatMap_cons,List.flatMap_nil,List.append_nil]
   rw [Nat.succ_mul]
   lia
theorem pairsOf_len (m:Nat) (t:Rel):(pairsOf m t).length≤m * m:=pairsTo_len m t m
noncomputable def IsSp (m:Nat) (ts:List (Int×Int)):Prop:=∃t:Rel,ts=pairsOf m t∧(∀ a,a < m→t a a=false)∧∀a b c,a < m→b < m→c < m→t a b=true→t b c=true→t a c=true
theorem IsSp.len {m:Nat} {ts:List (Int×Int)} (h:IsSp m ts):ts.length≤m * m:=by
 obtain ⟨t,rfl,_⟩:=h
 exact pairsOf_len m t
noncomputable def Up (os:List Int) (q:Int×Int):Prop:=∃j i:Nat,j < i∧os[j]?=some q.1∧os[i]?=some q.2
theorem nodup_at {os:List Int} (nd:os.Nodup) {i j:Nat} {x:Int} (h:os[i]?=some x) (h':os[j]?=some x):i=j:=by
 obtain ⟨hi,ei⟩:=List.getElem?_eq_some_iff.mp h
 obtain ⟨hj,ej⟩:=List.getElem?_eq_some_iff.mp h'
 have pw:=List.pairwise_iff_getElem.mp nd
 rcases Nat.lt_trichotomy i j with z | z | z
 · exact absurd (ei.trans ej.symm) (pw i j hi hj z)
 · exact z
 · exact absurd (ej.trans ei.symm) (pw j i hj hi z)
theorem clo_sp {m:Nat} {ps:List (Int×Int)} {os:List Int} (nd:os.Nodup) (hu: ∀q∈ps,Up os q):IsSp m (clo m ps):=by
 have S: ∀x y:Nat,x < m→y < m→w1 m (t0 ps) m x y=true→Up os ((x:Int),(y:Int)):=by
  intro x y hx hy h
  refine w1_min m (t0 ps) (fun x y=>Up os ((x:Int),(y:Int))) (fun x y q_ q_ h=> ?_) (fun a b c q_ q_ q_ h1 h2=> ?_) m x y (Nat.le_refl _) hx hy h
  · exact hu _ (of_decide_eq_true h).1
  · obtain ⟨i1,i2,l1,g1,g2⟩:=h1
    obtain ⟨i3,i4,l2,g3,g4⟩:=h2
    have:i2=i3:=nodup_at nd g2 g3
    exact ⟨i1,i4,by lia,g1,g4⟩
 refine ⟨w1 m (t0 ps) m,rfl,fun a ha=> ?_,fun a b c ha hb hc h1 h2=>w1_trans m (t0 ps) m (Nat.le_refl _) b a c hb ha hc h1 h2⟩
 cases e:w1 m (t0 ps) m a a with
 | false=>rfl
 | true=>
   obtain ⟨j,i,l,g1,g2⟩:=S a a ha ha e
   have:=nodup_at nd g1 g2
   lia
noncomputable def pD (p:Int×Int):PyData:= .tuple [.int p.1,.int p.2]
noncomputable def spD (n:Int) (ps:List (Int×Int)):PyData:= .tuple [.int n,.tuple (ps.map pD)]
theorem imm_pairs: ∀ps:List (Int×Int),immAll (ps.map pD)=true
 | []=>rfl
 | p::r=>by
   show (immD (pD p) && immAll (r.map pD))=true
   rw [imm_pairs r];rfl
theorem lay_pairs: ∀ps:List (Int×Int),PyData.canLayAll0 (ps.map pD)=true
 | []=>rfl
 | p::r=>by
   show (PyData.canLay0 (pD p) && PyData.canLayAll0 (r.map pD))=true
   rw [lay_pairs r];rfl
theorem depth_pD (p:Int×Int):(pD p).depth≤3:=by simp [pD,PyData.depth,PyData.depthAll]
theorem eqv_pD (p q:Int×Int):PyData.eqv (pD p) (pD q)=decide (p=q):=by
 obtain ⟨a,b⟩:=p
 obtain ⟨c,d⟩:=q
 simp only [pD,PyData.eqv,PyData.eqvAll]
 by_cases h1:a=c <;> by_cases h2:b=d <;> simp [h1,h2]
theorem any_pD (p:Int×Int): ∀ps:List (Int×Int),((ps.map pD).any fun d=>PyData.eqv d (pD p))=decide (p∈ps)
 | []=>by simp
 | q::r=>by
   rw [List.map_cons,List.any_cons,any_pD p r,eqv_pD]
   by_cases h:q=p
   · subst h;simp
   · have h': ¬p=q:=fun e=>h e.symm
     simp [h,h']
theorem mkPair {K:PySem.W.Frag} {H:Hp} {a:Addr} {x y:Int} (h:H a=some (.tup [.int x,.int y])):Rp K H (.ref a) (pD (x,y)):= .tup h (.cons (.int x) (.cons (.int y) .nil))
noncomputable def inR (n:Int) (q:Int×Int):Prop:=0≤q.1∧q.1 < n∧0≤q.2∧q.2 < n
theorem IsSp.inR {m:Nat} {ts:List (Int×Int)} (h:IsSp m ts): ∀q∈ts,Me.inR m q:=by
 obtain ⟨t,rfl,_⟩:=h
 intro q hq
 obtain ⟨a,b,ha,hb,_,rfl⟩:=mem_pairsOf.mp hq
 exact ⟨by show (0:Int)≤a;lia,by show (a:Int) < m;lia,by show (0:Int)≤b;lia,by show (b:Int) < m;lia⟩
theorem modB (v m:Int) (h:0 < m) (hm:m < 2 ^ 64): -(2 ^ 64) < v % m∧v % m < 2 ^ 64:=by
 have h1:=Int.emod_nonneg v (Int.ne_of_gt h)
 have h2:=Int.emod_lt_of_pos v h
 lia
theorem szle {n:Nat} (h:n≤100000):n≤sizeLine:=Nat.le_trans h (by decide)
theorem szlt {n:Nat} (h:n≤100000):n < sizeLine:=Nat.lt_of_le_of_lt h (by decide)
theorem for_range0 {n:Nat} {g:TG} {tb:TS} {D:Ends} {σ:St} {H:Hp} (Pv:Nat→St→Hp→Prop) (h0:Pv 0 σ H)
 (hs: ∀i σ H,i < n→Pv i σ H→g (.int (i:Int)) σ H fun σ2 H2=>tb {D with nx:=Pv (i + 1),ct:=Pv (i + 1),bk:=D.nx} σ2 H2) (hd: ∀σ H,Pv n σ H→D.nx σ H):
 ∃W:Nat→Nat→St→Hp→Prop,(∃ m,W 0 m σ H)∧∀i m σ H,W i m σ H→
  ((Itr 0 n).stop i H∧D.nx σ H)∨((Itr 0 n).go i H∧∃N:St→Hp→Prop,(∀ σ' H',N σ' H'→∃m',m' < m∧W (i + 1) m' σ' H')∧∀x H',(Itr 0 n).yld i H x H'→g x σ H' fun σ2 H2=>tb {D with nx:=N,ct:=N,bk:=D.nx} σ2 H2):=
 for_range (lo:=0) Pv h0 (fun i σ H hi p=>by rw [Int.zero_add];exact hs i σ H hi p) hd
theorem lc_range0 {n:Nat} {g:TG} {tc:TT} {te:TE} {Q:VK} {D:Addr} {σ:St} {H:Hp} (Pv:Nat→St→List V→Hp→Prop) (h0:Pv 0 σ [] H)
 (hs: ∀i σ acc H,i < n→Pv i σ acc H→g (.int (i:Int)) σ H fun σ2 H2=>tc σ2 H2 fun b H3=>if b=true then te σ2 H3 fun y H4=>H4 D=some (.lst acc)∧acc.length < sizeLine∧Pv (i + 1) σ2 (acc++[y]) (upd H4 D (.lst (acc++[y]))) else Pv (i + 1) σ2 acc H3)
 (hd: ∀σ acc H,Pv n σ acc H→Q (.ref D) H):
 ∃W:Nat→Nat→St→List V→Hp→Prop,(∃ m,W 0 m σ [] H)∧lcTurn (Itr 0 n) g tc te Q D W:=
 lc_range (lo:=0) Pv h0 (fun i σ acc H hi p=>by rw [Int.zero_add];exact hs i σ acc H hi p) hd
theorem bt_int:bootBuiltins "int"=some (.type "int"):=by decide +kernel
theorem bt_bool:bootBuiltins "bool"=some (.type "bool"):=by decide +kernel
theorem bt_list:bootBuiltins "list"=some (.type "list"):=by decide +kernel
theorem bt_tuple:bootBuiltins "tuple"=some (.type "tuple"):=by decide +kernel
theorem bt_len:bootBuiltins "len"=some (.builtin "len"):=by decide +kernel
theorem bt_isi:bootBuiltins "isinstance"=some (.builtin "isinstance"):=by decide +kernel
theorem ixN_nat {n j:Nat} (h:j < n):ixN n (j:Int)=some j:=by
 unfold ixN
 rw [if_pos (by lia),if_pos (by lia)];simp
structure Txt (K:PySem.W.Frag) (mg:Str→Option Value):Prop where
 range:mg "range"=none
 len:mg "len"=none
 list:mg "list"=none
 tuple:mg "tuple"=none
 isi:mg "isinstance"=none
 int:mg "int"=none
 bool:mg "bool"=none
 zip:mg "zip"=none
 all:mg "all"=none
 any:mg "any"=none
 sum:mg "sum"=none
 sorted:mg "sorted"=none
 min:mg "min"=none
 max:mg "max"=none
 str:mg "str"=none
 enumerate:mg "enumerate"=none
 set:mg "set"=none
 reversed:mg "reversed"=none
 ve:mg "ValueError"=none
 kii:PySem.W.kitOne K (.type "int") (.type "int")=some true
 kib:PySem.W.kitOne K (.type "int") (.type "bool")=some false
 kbb:PySem.W.kitOne K (.type "bool") (.type "bool")=some true
 ktt:PySem.W.kitOne K (.type "tuple") (.type "tuple")=some true
 kll:PySem.W.kitOne K (.type "list") (.type "list")=some true
 klt:PySem.W.kitOne K (.type "list") (.type "tuple")=some false
 ktl:PySem.W.kitOne K (.type "tuple") (.type "list")=some false
 klb:PySem.W.kitOne K (.type "list") (.type "bool")=some false
 kbt:PySem.W.kitOne K (.type "bool") (.type "tuple")=some false
 kit:PySem.W.kitOne K (.type "int") (.type "tuple")=some false
 kss:PySem.W.kitOne K (.type "str") (.type "str")=some true
 knb:PySem.W.kitOne K (.type "NoneType") (.type "bool")=some false
 kni:PySem.W.kitOne K (.type "NoneType") (.type "int")=some false
 kbi:PySem.W.kitOne K (.type "bool") (.type "int")=some true
noncomputable def spStir:Sp:=fun vs H Q q_=>∃c:Int,vs=[.int c]∧∀(r:Int) H',Same H H'→Q (.int r) H'
noncomputable def spCell (K:PySem.W.Frag):Sp:=fun vs H Q q_=>∃(a:Addr) (ns:List Int) (k:Nat),vs=[.ref a,.int (k:Int)]∧SqL K H a (ns.map V.int)∧∀(r:Int) H',Same H H'→Q (.int r) H'
noncomputable def spWhole:Sp:=fun vs H Q q_=>∃i:Int,vs=[.int i]∧Q (.bl true) H
noncomputable def spDraw:Sp:=fun vs H Q q_=>∃c k b:Int,vs=[.int c,.int k,.int b]∧0 < b∧∀r:Int,0≤r→r < b→Q (.int r) H
noncomputable def spClosed (K:PySem.W.Frag):Sp:=fun vs H Q q_=>∃(m:Nat) (p:Addr) (xs:List V) (ps:List (Int×Int)),vs=[.int (m:Int),.ref p]∧m≤16∧H p=some (.lst xs)∧RpAll K H xs (ps.map pD)∧
 ∀(v:V) (H':Hp),Same H H'→Rp K H' v (.tuple ((clo m ps).map pD))→Q v H'
noncomputable def RetSpace (K:PySem.W.Frag) (H:Hp) (t:Int) (Q:VK):Prop:=∀(v:V) (H':Hp) (m:Nat) (ts:List (Int×Int)),Same H H'→1≤m→(m:Int)≤t→IsSp m ts→Rp K H' v (spD m ts)→Q v H'
noncomputable def spDig (K:PySem.W.Frag):Sp:=fun vs H Q q_=>∃c t:Int,vs=[.int c,.int t]∧1≤t∧t≤16∧RetSpace K H t Q
noncomputable def spSpace (K:PySem.W.Frag):Sp:=fun vs H Q q_=>∃(a:Addr) (ns:List Int) (k:Nat) (t:Int),vs=[.ref a,.int (k:Int),.int t]∧SqL K H a (ns.map V.int)∧1≤t∧t≤16∧RetSpace K H t Q
section
variable {P:Program} {w:World} {K:PySem.W.Frag} {mg:Str→Option Value} {base:Heap}
theorem scStir:FnScope ["cell","found","factor","mixed"] ["cell"] (defScope sStir):=⟨rfl,rfl,rfl,by decide +kernel,rfl,by decide +kernel,by decide +kernel⟩
theorem ok_stir {f:Addr} {fd:FuncData} (F:Fun K "_law_stir" "_law_stir" sStir f fd):FnOk P w K mg base CX0 1 f fd ["cell"] spStir:=by
 refine F.ok scStir (fun vs H Q E h=> ?_) (fun cdv A outer s H vs Q E hr h=> ?_)
 · obtain ⟨c,rfl,_⟩:=h;rfl
 · obtain ⟨c,rfl,k⟩:=h
   refine ⟨_,pss_cons (ps_set (i:=1) scStir.nd rfl (Or.inl rfl) pe_int)
    (pss_cons (ps_for PassesOwn.never rfl (pi_list (pe_lst (pa_cons pe_int (pa_cons pe_int (pa_cons pe_int (pa_cons pe_int pa_nil)))))) (pg_name (i:=2) scStir.nd rfl (Or.inl rfl))
      (pss_cons (ps_set (i:=3) scStir.nd rfl (Or.inl rfl) (pe_op op_mod (pe_op op_add (pe_op op_mul (pv 0) (pv 2)) pe_int) pe_int))
      (pss_cons (ps_set (i:=3) scStir.nd rfl (Or.inl rfl) (pe_op op_mod (pe_op op_mul (pe_op op_mod (pe_op op_mul (pv 3) (pv 3)) pe_int) pe_int) pe_int))
      (pss_one (ps_set (i:=1) scStir.nd rfl (Or.inl rfl) (pe_op op_add (pe_op op_mul (pv 1) (pe_op op_pow pe_int pe_int)) (pe_op op_fdiv (pv 3) pe_int)))))))
    (pss_one (ps_ret (pv 1)))),?_⟩
   refine ⟨szle (by show 4≤100000;decide),fun p hp=>⟨p,rfl,⟨_,SqL.of upd_same⟩,for_list (K:=K) (a:=p) (xs:=[.int 48271,.int 69621,.int 39373,.int 44488])
    (fun i σ H2=>∃(r:Int) (f m:Option V),σ=[some (.int c),some (.int r),f,m]∧H2=upd H p (.lst [.int 48271,.int 69621,.int 39373,.int 44488]))
    ⟨0,none,none,rfl,rfl⟩ (fun i σ H2 _ ⟨_,_,_,_,e⟩=>by rw [e];exact SqL.of upd_same) ?_ ?_⟩⟩
   · rintro i y σ H2 hi ⟨r,f,m,rfl,rfl⟩
     obtain ⟨z,rfl,hz1,hz2⟩: ∃z:Int,y= .int z∧0 < z∧z < 2 ^ 32:=by
      have hm:=List.mem_of_getElem? hi
      simp only [List.mem_cons,List.not_mem_nil,or_false] at hm
      rcases hm with rfl | rfl | rfl | rfl <;> exact ⟨_,rfl,by decide,by decide⟩
     refine ⟨_,rfl,_,rfl,_,_,rfl,rfl,.inr ⟨by lia,by lia⟩,_,_,rfl,rfl,_,_,rfl,rfl,(by show (0:Int) < 2147483647;decide),?_⟩
     refine ⟨_,rfl,_,rfl,_,_,rfl,rfl,.inl (modB _ _ (by decide) (by decide)),_,_,rfl,rfl,(by show (0:Int) < 2147483647;decide),_,_,rfl,rfl,.inr ⟨by decide,by decide⟩,_,_,rfl,rfl,(by show (0:Int) < 2147483399;decide),?_⟩
     refine ⟨_,rfl,_,_,rfl,rfl,⟨by decide,by decide,by decide⟩,_,_,rfl,rfl,.inr ⟨by decide,by decide⟩,_,rfl,_,_,rfl,rfl,⟨by decide,by decide⟩,_,_,rfl,rfl,?_⟩
     exact ⟨_,_,_,rfl,rfl⟩
   · rintro σ H2 ⟨r,f,m,rfl,rfl⟩
     exact ⟨_,rfl,k r _ (Same.new hp)⟩
theorem scCell:FnScope ["script","k"] ["script","k"] (defScope sCell):=⟨rfl,rfl,rfl,by decide +kernel,rfl,by decide +kernel,by decide +kernel⟩
theorem ok_cell {f:Addr} {fd:FuncData} (F:Fun K "_law_cell" "_law_cell" sCell f fd) (T:Txt K mg) (GS:Fn P w K mg base "_law_stir" 1 ["cell"] spStir):FnOk P w K mg base CX0 2 f fd ["script","k"] (spCell K):=by
 refine F.ok scCell (fun vs H Q E h=> ?_) (fun cdv A outer s H vs Q E hr h=> ?_)
 · obtain ⟨a,ns,k,rfl,_⟩:=h;rfl
 · obtain ⟨a,ns,j,rfl,hS,k⟩:=h
   refine ⟨_,pss_cons (ps_if (pt_cmpR op_lt (pv 1) (pe_callB call_len_seq (by rfl) T.len bt_len (pa_cons (pv 0) pa_nil)) (nomark _)) (pss_one (ps_ret (pe_fn GS hr (pa_cons (pe_ix ix_list (pv 0) (pv 1) (fun q_ q_=>rfl)) pa_nil)))) pss_nil)
    (pss_one (ps_ret (pe_fn GS hr (pa_cons pe_int pa_nil)))),?_⟩
   refine ⟨_,rfl,_,rfl,a,_,rfl,.inl hS,_,_,rfl,rfl,_,rfl,?_⟩
   refine ite2 (fun e=> ?_) (fun e=> ?_)
   · have hj:j < ns.length:=by
      have:=of_decide_eq_true e
      rw [List.length_map] at this
      lia
     refine ⟨_,rfl,_,rfl,a,_,_,_,rfl,rfl,hS,atI_nat (j:=j) (v:= .int ns[j]) (by simp [hj]),?_⟩
     exact ⟨_,rfl,k⟩
   · exact ⟨0,rfl,k⟩
theorem scRaw:FnScope ["script","k"] ["script","k"] (defScope sRaw):=⟨rfl,rfl,rfl,by decide +kernel,rfl,by decide +kernel,by decide +kernel⟩
theorem ok_raw {f:Addr} {fd:FuncData} (F:Fun K "_law_raw" "_law_raw" sRaw f fd) (T:Txt K mg):FnOk P w K mg base CX0 1 f fd ["script","k"] (spCell K):=by
 refine F.ok scRaw (fun vs H Q E h=> ?_) (fun cdv A outer s H vs Q E hr h=> ?_)
 · obtain ⟨a,ns,k,rfl,_⟩:=h;rfl
 · obtain ⟨a,ns,j,rfl,hS,k⟩:=h
   refine ⟨_,pss_cons (ps_if (pt_cmpR op_lt (pv 1) (pe_callB call_len_seq (by rfl) T.len bt_len (pa_cons (pv 0) pa_nil)) (nomark _)) (pss_one (ps_ret (pe_ix ix_list (pv 0) (pv 1) (fun q_ q_=>rfl)))) pss_nil)
    (pss_one (ps_ret pe_int)),?_⟩
   refine ⟨_,rfl,_,rfl,a,_,rfl,.inl hS,_,_,rfl,rfl,_,rfl,?_⟩
   refine ite2 (fun e=> ?_) (fun e=> ?_)
   · have hj:j < ns.length:=by
      have:=of_decide_eq_true e
      rw [List.length_map] at this
      lia
     exact ⟨_,rfl,_,rfl,a,_,_,_,rfl,rfl,hS,atI_nat (j:=j) (v:= .int ns[j]) (by simp [hj]),k _ _ (Same.refl _)⟩
   · exact k _ _ (Same.refl _)
theorem scWhole:FnScope ["found"] ["found"] (defScope sWhole):=⟨rfl,rfl,rfl,by decide +kernel,rfl,by decide +kernel,by decide +kernel⟩
theorem ok_whole {f:Addr} {fd:FuncData} (F:Fun K "_law_whole" "_law_whole" sWhole f fd) (T:Txt K mg):FnOk P w K mg base CX0 1 f fd ["found"] spWhole:=by
 refine F.ok scWhole (fun vs H Q E h=> ?_) (fun cdv A outer s H vs Q E hr h=> ?_)
 · obtain ⟨i,rfl,_⟩:=h;rfl
 · obtain ⟨i,rfl,k⟩:=h
   refine ⟨_,pss_one (ps_ret (pe_and (pe_callB call_isinst (by rfl) T.isi bt_isi (pa_cons (pv 0) (pa_cons (pe_bltn (v:= .ty "int") (by rfl) T.int bt_int rfl) pa_nil)))
    (pe_one (pe_not (pe_callB call_isinst (by rfl) T.isi bt_isi (pa_cons (pv 0) (pa_cons (pe_bltn (v:= .ty "bool") (by rfl) T.bool bt_bool rfl) pa_nil))))))),?_⟩
   refine ⟨_,rfl,_,_,_,_,rfl,TyOf.int i,T.kii,_,rfl,?_⟩
   exact ⟨_,rfl,_,_,_,_,rfl,TyOf.int i,T.kib,_,rfl,k⟩
theorem scDraw:FnScope ["cell","k","bound","stir"] ["cell","k","bound"] (defScope sDraw):=⟨rfl,rfl,rfl,by decide +kernel,rfl,by decide +kernel,by decide +kernel⟩
theorem ok_draw {f:Addr} {fd:FuncData} (F:Fun K "_law_draw" "_law_draw" sDraw f fd):FnOk P w K mg base CX0 1 f fd ["cell","k","bound"] spDraw:=by
 refine F.ok scDraw (fun vs H Q E h=> ?_) (fun cdv A outer s H vs Q E hr h=> ?_)
 · obtain ⟨c,k,b,rfl,_⟩:=h;rfl
 · obtain ⟨c,j,b,rfl,hb,k⟩:=h
   refine ⟨_,pss_cons (ps_set (i:=3) scDraw.nd rfl (Or.inl rfl) (pe_op op_mod (pe_op op_add (pe_op op_add (pe_op op_mod (pv 0) pe_int) pe_int) (pe_op op_mul (pv 1) pe_int)) pe_int))
    (pss_cons (ps_set (i:=3) scDraw.nd rfl (Or.inl rfl) (pe_op op_mod (pe_op op_mul (pe_op op_mod (pe_op op_mul (pv 3) (pv 3)) pe_int) pe_int) pe_int))
    (pss_cons (ps_set (i:=3) scDraw.nd rfl (Or.inl rfl) (pe_op op_mod (pe_op op_mul (pe_op op_mod (pe_op op_mul (pv 3) (pv 3)) pe_int) pe_int) pe_int))
    (pss_one (ps_ret (pe_op op_mod (pe_op op_fdiv (pv 3) pe_int) (pv 2)))))),?_⟩
   refine ⟨_,rfl,_,_,rfl,rfl,(by show (0:Int) < 2147483629;decide),_,_,rfl,rfl,_,rfl,_,_,rfl,rfl,.inr ⟨by decide,by decide⟩,_,_,rfl,rfl,_,_,rfl,rfl,(by show (0:Int) < 2147483647;decide),?_⟩
   refine ⟨_,rfl,_,rfl,_,_,rfl,rfl,.inl (modB _ _ (by decide) (by decide)),_,_,rfl,rfl,(by show (0:Int) < 2147483647;decide),_,_,rfl,rfl,.inr ⟨by decide,by decide⟩,_,_,rfl,rfl,(by show (0:Int) < 2147483629;decide),?_⟩
   refine ⟨_,rfl,_,rfl,_,_,rfl,rfl,.inl (modB _ _ (by decide) (by decide)),_,_,rfl,rfl,(by show (0:Int) < 2147483629;decide),_,_,rfl,rfl,.inr ⟨by decide,by decide⟩,_,_,rfl,rfl,(by show (0:Int) < 2147483399;decide),?_⟩
   refine ⟨_,rfl,_,_,rfl,rfl,⟨by decide,by decide⟩,_,rfl,_,_,rfl,rfl,hb,?_⟩
   exact k _ (Int.emod_nonneg _ (Int.ne_of_gt hb)) (Int.emod_lt_of_pos _ hb)
end
noncomputable def rowV (m:Nat) (t:Rel) (i:Nat):List V:=(List.range m).map fun (j:Nat)=>V.bl (t i j)
theorem rowV_len (m:Nat) (t:Rel) (i:Nat):(rowV m t i).length=m:=by unfold rowV;simp
noncomputable def setR (t:Rel) (a b:Nat):Rel:=fun x y=>if x=a∧y=b then true else t x y
theorem rowV_set {m:Nat} {t:Rel} {a b:Nat}:(rowV m t a).set b (V.bl true)=rowV m (setR t a b) a:=by
 refine List.ext_getElem? fun i=> ?_
 unfold rowV
 rw [List.getElem?_set]
 by_cases hi:b=i
 · subst hi
   rw [if_pos rfl]
   by_cases hb:b < m
   · simp [hb,setR]
   · simp [hb]
 · rw [if_neg hi]
   by_cases hm:i < m
   · have: ¬i=b:=fun z=>hi z.symm
     simp [hm,setR,this]
   · simp [hm]
theorem rowV_other {m:Nat} {t:Rel} {a b i:Nat} (h:i≠a):rowV m (setR t a b) i=rowV m t i:=by
 unfold rowV setR
 exact List.map_congr_left fun j q_=>by simp [h]
structure Tb (H0 H:Hp) (D:Addr) (rs:List Addr) (m:Nat) (t:Rel):Prop where
 same:Same H0 H
 out:H0 D=none
 tab:H D=some (.lst (rs.map V.ref))
 nD: ∀r∈rs,r≠D
 nd:rs.Nodup
 row: ∀(i:Nat) (r:Addr),rs[i]?=some r→H0 r=none∧H r=some (.lst (rowV m t i))
theorem Tb.mono {H0 H H':Hp} {D:Addr} {rs:List Addr} {m:Nat} {t:Rel} (b:Tb H0 H D rs m t) (s:Same H H'):Tb H0 H' D rs m t:=
 ⟨b.same.trans s,b.out,s _ _ b.tab,b.nD,b.nd,fun i r hr=>let ⟨h1,h2⟩:=b.row i r hr;⟨h1,s _ _ h2⟩⟩
theorem Tb.put {H0 H:Hp} {D:Addr} {rs:List Addr} {m:Nat} {t:Rel} {l:Addr} {o:HO} (b:Tb H0 H D rs m t) (h0:H0 l=none) (h1:D≠l) (h2: ∀r∈rs,r≠l):Tb H0 (upd H l o) D rs m t:=
 ⟨b.same.put h0,b.out,by rw [upd_ne h1];exact b.tab,b.nD,b.nd,fun i r hr=>let ⟨h3,h4⟩:=b.row i r hr;⟨h3,by rw [upd_ne (h2 r (List.mem_of_getElem? hr))];exact h4⟩⟩
theorem nodup_atA {os:List Addr} (nd:os.Nodup) {i j:Nat} {x:Addr} (h:os[i]?=some x) (h':os[j]?=some x):i=j:=by
 obtain ⟨hi,ei⟩:=List.getElem?_eq_some_iff.mp h
 obtain ⟨hj,ej⟩:=List.getElem?_eq_some_iff.mp h'
 have pw:=List.pairwise_iff_getElem.mp nd
 rcases Nat.lt_trichotomy i j with z | z | z
 · exact absurd (ei.trans ej.symm) (pw i j hi hj z)
 · exact z
 · exact absurd (ej.trans ei.symm) (pw j i hj hi z)
theorem Tb.set {H0 H:Hp} {D:Addr} {rs:List Addr} {m:Nat} {t:Rel} {r:Addr} {a b:Nat} (x:Tb H0 H D rs m t) (hr:rs[a]?=some r):Tb H0 (upd H r (.lst ((rowV m t a).set b (V.bl true)))) D rs m (setR t a b):=by
 have hm:=List.mem_of_getElem? hr
 refine ⟨x.same.put (x.row a r hr).1,x.out,by rw [upd_ne (x.nD r hm).symm];exact x.tab,x.nD,x.nd,fun i q hq=>⟨(x.row i q hq).1,?_⟩⟩
 by_cases e:q=r
 · subst e
   have:=nodup_atA x.nd hq hr
   subst this
   rw [upd_same,rowV_set]
 · have ne:i≠a:=fun z=>by subst z;rw [hr] at hq;cases hq;exact e rfl
   rw [upd_ne e,rowV_other ne]
   exact (x.row i q hq).2
theorem Tb.at {H0 H:Hp} {D:Addr} {rs:List Addr} {m:Nat} {t:Rel} (x:Tb H0 H D rs m t) (hm:rs.length=m) {a:Nat} (ha:a < m): ∃r,rs[a]?=some r∧atI (rs.map V.ref) (a:Int)=some (.ref r)∧H r=some (.lst (rowV m t a))∧∀b:Nat,b < m→atI (rowV m t a) (b:Int)=some (.bl (t a b)):=by
 have ha':a < rs.length:=by lia
 refine ⟨rs[a],by simp [ha'],atI_nat (by simp [ha']),(x.row a rs[a] (by simp [ha'])).2,fun b hb=>atI_nat ?_⟩
 unfold rowV
 simp [hb]
theorem stp_set {t:Rel} {k a b:Nat} (h1:t a k=true) (h2:t k b=true):stp t k a b=setR t a b:=by
 unfold stp setR
 rw [h1,h2]
 rfl
theorem stp_not1 {t:Rel} {k a b:Nat} (h1: ¬t a k=true):stp t k a b=t:=by
 unfold stp
 rw [Bool.eq_false_iff.mpr h1]
 rfl
theorem stp_not2 {t:Rel} {k a b:Nat} (h1: ¬t k b=true):stp t k a b=t:=by
 unfold stp
 rw [Bool.eq_false_iff.mpr h1,Bool.and_false]
 rfl
theorem part_snoc {t:Rel} {a j:Nat}:(((List.range (j + 1)).filter (t a)).map fun (b:Nat)=>((a:Int),(b:Int)))=(((List.range j).filter (t a)).map fun (b:Nat)=>((a:Int),(b:Int)))++(if t a j=true then [((a:Int),(j:Int))] else []):=by
 rw [List.range_succ,List.filter_append,List.map_append]
 congr 1
 by_cases h:t a j=true
 · rw [if_pos h,List.filter_cons_of_pos h];rfl
 · rw [if_neg h,List.filter_cons_of_neg h];rfl
section
variable {P:Program} {w:World} {K:PySem.W.Frag} {mg:Str→Option Value} {base:Heap}
theorem nd1:(["a","many","pairs"]:List Str).Nodup:=by decide +kernel
theorem nd2:(["b","a","pairs"]:List Str).Nodup:=by decide +kernel
theorem nd3:(["b","a","table"]:List Str).Nodup:=by decide +kernel
theorem scClosed:FnScope ["many","pairs","table","k","a","b","found"] ["many","pairs"] (defScope sClosed):=⟨rfl,rfl,rfl,by decide +kernel,rfl,by decide +kernel,by decide +kernel⟩
noncomputable abbrev Cl1 (H:Hp) (D p:Addr) (m:Nat) (ps:List (Int×Int)) (i:Nat) (σ:St) (acc:List V) (H1:Hp):Prop:=∃(rs:List Addr) (va:Option V),σ=[va,some (.int m),some (.ref p)]∧acc=rs.map V.ref∧Tb H H1 D rs m (t0 ps)∧rs.length=i
noncomputable abbrev Cl2 (H1:Hp) (D2 p:Addr) (ps:List (Int×Int)) (i j:Nat) (σ2:St) (acc2:List V) (H2:Hp):Prop:=∃(vb:Option V),σ2=[vb,some (.int i),some (.ref p)]∧acc2=((List.range j).map fun (y:Nat)=>V.bl (t0 ps i y))∧Same H1 H2∧H2 D2=some (.lst acc2)
noncomputable abbrev Cl3 (H:Hp) (D p:Addr) (m:Nat) (rs:List Addr) (ps:List (Int×Int)) (i:Nat) (σ:St) (H2:Hp):Prop:=∃vk va vb,σ=[some (.int m),some (.ref p),some (.ref D),vk,va,vb,none]∧Tb H H2 D rs m (w1 m (t0 ps) i)
noncomputable abbrev Cl4 (H:Hp) (D p:Addr) (m:Nat) (rs:List Addr) (ps:List (Int×Int)) (kk:Nat) (i:Nat) (σ:St) (H3:Hp):Prop:=∃va vb,σ=[some (.int m),some (.ref p),some (.ref D),some (.int kk),va,vb,none]∧Tb H H3 D rs m (w2 m (w1 m (t0 ps) kk) kk i)
noncomputable abbrev Cl5 (H:Hp) (D p:Addr) (m:Nat) (rs:List Addr) (ps:List (Int×Int)) (kk aa:Nat) (i:Nat) (σ:St) (H4:Hp):Prop:=∃vb,σ=[some (.int m),some (.ref p),some (.ref D),some (.int kk),some (.int aa),vb,none]∧Tb H H4 D rs m (w3 (w2 m (w1 m (t0 ps) kk) kk aa) kk aa i)
noncomputable abbrev Cl6 (K:PySem.W.Frag) (H:Hp) (D p fl:Addr) (m:Nat) (rs:List Addr) (vk vb:Option V) (cl:Nat→Nat→Bool) (i:Nat) (σ:St) (H3:Hp):Prop:=∃(va:Option V) (ws:List V),σ=[some (.int m),some (.ref p),some (.ref D),vk,va,vb,some (.ref fl)]∧Tb H H3 D rs m cl∧H3 fl=some (.lst ws)∧RpAll K H3 ws (((List.range i).flatMap (rowOf m cl)).map pD)
set_option maxHeartbeats 16000000 in
theorem ok_closed {f:Addr} {fd:FuncData} (F:Fun K "_law_closed" "_law_closed" sClosed f fd) (T:Txt K mg):FnOk P w K mg base CX0 1 f fd ["many","pairs"] (spClosed K):=by
 refine F.ok scClosed (fun vs H Q E h=> ?_) (fun cdv A outer s H vs Q E hr h=> ?_)
 · obtain ⟨m,p,xs,ps,rfl,_⟩:=h;rfl
 · obtain ⟨m,p,xs,ps,rfl,hm,hp,hps,k⟩:=h
   refine ⟨_,pss_cons (ps_set (i:=2) scClosed.nd rfl (Or.inr rfl) (pe_lcomp (N':=["a","many","pairs"]) rfl (.own (.cap 0 rfl rfl rfl (.cap 1 rfl rfl rfl .nil))) (pi_range1 (by rfl) T.range (pa_cons (pv 0) pa_nil))
    (fun s H fp=>pg_name (i:=0) nd1 rfl (Or.inr rfl)) (fun s H fp=>pif_nil)
    (fun s H fp=>pe_lcomp (N':=["b","a","pairs"]) rfl (.own (.cap 0 rfl rfl rfl (.cap 2 rfl rfl rfl .nil))) (pi_range1 (by rfl) T.range (pa_cons (pv 1) pa_nil))
      (fun s H fp=>pg_name (i:=0) nd2 rfl (Or.inl rfl)) (fun s H fp=>pif_nil)
      (fun s H fp=>pe_and (pe_cmpR (op_inK K (room_u hr (by decide))) (pe_tup (pa_cons (pv 1) (pa_cons (pv 0) pa_nil))) (pv 2) rfl) (pe_one (pe_cmpR op_ne (pv 1) (pv 0) (nomark _)))))))
    (pss_cons (ps_for PassesOwn.never rfl (pi_range1 (by rfl) T.range (pa_cons (pv 0) pa_nil)) (pg_name (i:=3) scClosed.nd rfl (Or.inl rfl))
      (pss_one (ps_for PassesOwn.never rfl (pi_range1 (by rfl) T.range (pa_cons (pv 0) pa_nil)) (pg_name (i:=4) scClosed.nd rfl (Or.inr rfl))
        (pss_one (ps_for PassesOwn.never rfl (pi_range1 (by rfl) T.range (pa_cons (pv 0) pa_nil)) (pg_name (i:=5) scClosed.nd rfl (Or.inl rfl))
          (pss_one (ps_if (pw_and (pt_val (pe_ix ix_list (pe_ix ix_list (pv 2) (pv 4) (fun q_ q_=>rfl)) (pv 3) (fun q_ q_=>rfl))) (pw_and1 (pt_val (pe_ix ix_list (pe_ix ix_list (pv 2) (pv 3) (fun q_ q_=>rfl)) (pv 5) (fun q_ q_=>rfl))))).pt
            (pss_one (ps_asg pe_bl (pg_sub (pe_ix ix_list (pv 2) (pv 4) (fun q_ q_=>rfl)) (pv 5) set_list))) pss_nil)))))))
    (pss_cons (ps_set (i:=6) scClosed.nd rfl (Or.inl rfl) (pe_lst pa_nil))
    (pss_cons (ps_for PassesOwn.never rfl (pi_range1 (by rfl) T.range (pa_cons (pv 0) pa_nil)) (pg_name (i:=4) scClosed.nd rfl (Or.inr rfl))
      (pss_one (ps_expr (pe_bm PySem.F.plainAttrs_list PySem.F.slot_list_extend PySem.F.type_list_extend mt_extend (pv 6)
        (pa_cons (pe_lcomp (N':=["b","a","table"]) rfl (.own (.cap 4 rfl rfl rfl (.cap 2 rfl rfl rfl .nil))) (pi_range1 (by rfl) T.range (pa_cons (pv 0) pa_nil))
          (fun s H fp=>pg_name (i:=0) nd3 rfl (Or.inl rfl)) (fun s H fp=>pif_one (pt_val (pe_ix (ix_listK K) (pe_ix (ix_listK K) (pv 2) (pv 1) (fun q_ q_=>rfl)) (pv 0) (fun q_ q_=>rfl))))
          (fun s H fp=>pe_tup (pa_cons (pv 1) (pa_cons (pv 0) pa_nil)))) pa_nil)))))
    (pss_one (ps_ret (pe_callTy call_tuple_of (by rfl) T.tuple bt_tuple (pa_cons (pv 6) pa_nil))))))),?_⟩
   try dsimp only [cxOf]
   refine ⟨_,rfl,(m:Int),rfl,by lia,by lia,fun D hD=> ?_⟩
   refine lc_range0 (n:=m) (Cl1 H D p m ps) ⟨[],none,rfl,rfl,⟨Same.new hD,hD,upd_same,(fun r hr=>nomatch hr),List.nodup_nil,(fun i r hr=>by simp at hr)⟩,rfl⟩ ?_ ?_
   · rintro i σ acc H1 hi ⟨rs,va,rfl,rfl,t,hl⟩
     refine ⟨_,rfl,(m:Int),rfl,by lia,by lia,fun D2 hD2=> ?_⟩
     refine lc_range0 (n:=m) (Cl2 H1 D2 p ps i) ⟨none,rfl,rfl,Same.new hD2,upd_same⟩ ?_ ?_
     · rintro j σ2 acc2 H2 hj ⟨vb,rfl,rfl,s2,h2⟩
       refine ⟨_,rfl,_,rfl,szle (by show 2≤100000;decide),fun q hq=> ?_⟩
       have s3:Same H (upd H2 q (.tup [.int (i:Int),.int (j:Int)])):=t.same.trans (s2.trans (Same.new hq))
       have fin: ∀c:Bool,c=t0 ps i j→(upd H2 q (.tup [.int (i:Int),.int (j:Int)])) D2=some (.lst ((List.range j).map fun (y:Nat)=>V.bl (t0 ps i y)))∧((List.range j).map fun (y:Nat)=>V.bl (t0 ps i y)).length < sizeLine∧Cl2 H1 D2 p ps i (j + 1) [some (V.int j),some (V.int i),some (V.ref p)] (((List.range j).map fun (y:Nat)=>V.bl (t0 ps i y))++[V.bl c]) (upd (upd H2 q (.tup [.int (i:Int),.int (j:Int)])) D2 (.lst (((List.range j).map fun (y:Nat)=>V.bl (t0 ps i y))++[V.bl c]))):=fun c hc=>
        ⟨by rw [upd_ne (ne_of_none h2 hq)];exact h2,szlt (by rw [List.length_map,List.length_range];lia),_,rfl,by rw [hc,List.range_succ,List.map_append];rfl,(s2.trans (Same.new hq)).put hD2,upd_same⟩
       refine ⟨_,rfl,p,xs,ps.map pD,pD ((i:Int),(j:Int)),rfl,.inl (SqL.of (s3 _ _ hp)),RpAll.same s3 hps,mkPair upd_same,lay_pairs ps,rfl,Nat.le_trans (depth_pD ((i:Int),(j:Int))) (by decide),_,rfl,?_⟩
       rw [any_pD]
       refine ite2 (fun e=> ?_) (fun e=>fin false ?_)
       · refine ⟨_,rfl,_,rfl,rfl,fin _ ?_⟩
         have e:=of_decide_eq_true e
         unfold t0
         by_cases hij:i=j
         · subst hij;simp
         · have h1: ¬(V.int (i:Int)=V.int (j:Int)):=fun z=>hij (Int.ofNat.inj (V.int.inj z))
           rw [decide_eq_false h1,decide_eq_true (show ((i:Int),(j:Int))∈ps∧i≠j from ⟨e,hij⟩)]
           rfl
       · unfold t0
         rw [decide_eq_false]
         intro z
         exact e (decide_eq_true z.1)
     · rintro σ2 acc2 H2 ⟨vb,rfl,rfl,s2,h2⟩
       have hDD:D≠D2:=ne_of_none t.tab hD2
       have t2:=t.mono s2
       have nw: ∀r∈rs,r≠D2:=fun r hr=>by
        obtain ⟨z,hz⟩:=List.mem_iff_getElem?.mp hr
        exact ne_of_none (t.row z r hz).2 hD2
       refine ⟨t2.tab,szlt (by rw [List.length_map];lia),rs++[D2],_,rfl,by simp,⟨t2.same.put hD,hD,by rw [upd_same];simp,fun r hr=> ?_,?_,fun z r hr=> ?_⟩,by simp [hl]⟩
       · rcases List.mem_append.mp hr with z | z
         · exact t.nD r z
         · rw [List.mem_singleton.mp z];exact hDD.symm
       · refine List.nodup_append.mpr ⟨t.nd,by simp,fun a ha b hb=> ?_⟩
         rw [List.mem_singleton.mp hb]
         exact nw a ha
       · by_cases hz:z < rs.length
         · rw [List.getElem?_append_left hz] at hr
           obtain ⟨h3,h4⟩:=t2.row z r hr
           exact ⟨h3,by rw [upd_ne (t.nD r (List.mem_of_getElem? hr))];exact h4⟩
         · rw [List.getElem?_append_right (by lia)] at hr
           have hz0:z - rs.length=0:=by
            have:=(List.getElem?_eq_some_iff.mp hr).1
            simp at this;lia
           rw [hz0] at hr
           have hr:D2=r:=by simpa using hr
           subst hr
           have:z=i:=by lia
           subst this
           exact ⟨t.same.free hD2,by rw [upd_ne hDD.symm];exact h2⟩
   rintro σ acc H1 ⟨rs,va,rfl,rfl,t,hl⟩
   refine ⟨_,rfl,(m:Int),rfl,by lia,by lia,for_range0 (n:=m) (Cl3 H D p m rs ps) ⟨none,none,none,rfl,t⟩ ?_ ?_⟩
   · rintro kk σ H2 hk ⟨vk,va,vb,rfl,t2⟩
     refine ⟨_,rfl,(m:Int),rfl,by lia,by lia,for_range0 (n:=m) (Cl4 H D p m rs ps kk) ⟨va,vb,rfl,t2⟩ ?_ ?_⟩
     · rintro aa σ H3 ha ⟨va,vb,rfl,t3⟩
       refine ⟨_,rfl,(m:Int),rfl,by lia,by lia,for_range0 (n:=m) (Cl5 H D p m rs ps kk aa) ⟨vb,rfl,t3⟩ ?_ ?_⟩
       · rintro bb σ H4 hb ⟨vb,rfl,t4⟩
         obtain ⟨ra,hra,ea,ha4,ga⟩:=t4.at hl ha
         obtain ⟨rk,hrk,ek,hk4,gk⟩:=t4.at hl hk
         have e1:=ga kk hk
         have e2:=gk bb hb
         refine ⟨_,rfl,_,rfl,D,_,_,_,rfl,rfl,SqL.of t4.tab,ea,_,rfl,ra,_,_,_,rfl,rfl,SqL.of ha4,e1,_,rfl,?_⟩
         refine ite2 (fun c1=> ?_) (fun c1=>⟨_,rfl,?_⟩)
         · refine ⟨_,rfl,_,rfl,D,_,_,_,rfl,rfl,SqL.of t4.tab,ek,_,rfl,rk,_,_,_,rfl,rfl,SqL.of hk4,e2,_,rfl,?_⟩
           refine ite2 (fun c2=> ?_) (fun c2=>⟨_,rfl,?_⟩)
           · refine ⟨_,rfl,_,rfl,D,_,_,_,rfl,rfl,SqL.of t4.tab,ea,_,rfl,ra,_,_,bb,rfl,rfl,ha4,ixN_nat (by rw [rowV_len];lia),?_⟩
             refine ⟨_,rfl,?_⟩
             show Tb H _ D rs m (stp _ kk aa bb)
             rw [stp_set c1 c2]
             exact t4.set hra
           · show Tb H H4 D rs m (stp _ kk aa bb)
             rw [stp_not2 c2]
             exact t4
         · show Tb H H4 D rs m (stp _ kk aa bb)
           rw [stp_not1 c1]
           exact t4
       · rintro σ H4 ⟨vb,rfl,t4⟩
         exact ⟨_,_,rfl,t4⟩
     · rintro σ H3 ⟨va,vb,rfl,t3⟩
       exact ⟨_,_,_,rfl,t3⟩
   rintro σ H2 ⟨vk,va,vb,rfl,t2⟩
   generalize hcl:w1 m (t0 ps) m=cl at t2
   refine ⟨szle (by show 0≤100000;decide),fun fl hf=> ?_⟩
   have t3:Tb H (upd H2 fl (.lst [])) D rs m cl:=t2.mono (Same.new hf)
   have nfD:D≠fl:=ne_of_none t2.tab hf
   have nfr: ∀r∈rs,r≠fl:=fun r hr=>by
    obtain ⟨z,hz⟩:=List.mem_iff_getElem?.mp hr
    exact ne_of_none (t2.row z r hz).2 hf
   have hf0:H fl=none:=t2.same.free hf
   refine ⟨_,rfl,(m:Int),rfl,by lia,by lia,for_range0 (n:=m) (Cl6 K H D p fl m rs vk vb cl)
    ⟨va,[],rfl,t3,upd_same,.nil⟩ ?_ ?_⟩
   · rintro aa σ H3 ha ⟨va,ws,rfl,t4,h4,r4⟩
     refine ⟨_,rfl,.inl ⟨rfl,_,SqL.of h4⟩,_,rfl,(m:Int),rfl,by lia,by lia,fun D2 hD2=> ?_⟩
     have l4:=pairsTo_len m cl aa
     have hmm:aa * m≤16 * 16:=Nat.mul_le_mul (by lia) hm
     refine lc_range0 (n:=m) (fun j σ2 acc H5=>∃(vb:Option V),σ2=[vb,some (.int aa),some (.ref D)]∧Same H3 H5∧H5 D2=some (.lst acc)∧RpAll K H5 acc ((((List.range j).filter (cl aa)).map fun (b:Nat)=>((aa:Int),(b:Int))).map pD)∧acc.length≤j)
      ⟨none,rfl,Same.new hD2,upd_same,.nil,Nat.zero_le _⟩ ?_ ?_
     · rintro j σ2 acc H5 hj ⟨vb2,rfl,s5,h5,r5,l5⟩
       have t5:=t4.mono s5
       obtain ⟨ra,hra,ea,ha4,ga⟩:=t5.at hl ha
       refine ⟨_,rfl,_,rfl,D,_,_,_,rfl,rfl,SqL.of t5.tab,ea,_,rfl,ra,_,_,_,rfl,rfl,SqL.of ha4,ga j hj,_,rfl,?_⟩
       refine ite2 (fun c=> ?_) (fun c=>⟨_,rfl,s5,h5,?_,by lia⟩)
       · refine ⟨_,rfl,_,rfl,szle (by show 2≤100000;decide),fun q hq=> ?_⟩
         refine ⟨by rw [upd_ne (ne_of_none h5 hq)];exact h5,szlt (by lia),_,rfl,(s5.trans (Same.new hq)).put hD2,upd_same,?_,?_⟩
         · rw [part_snoc,if_pos c,List.map_append]
           have hl5:(upd H5 q (HO.tup [V.int aa,V.int j])) D2=some (.lst acc):=by rw [upd_ne (ne_of_none h5 hq)];exact h5
           exact RpAll.append (RpAll.keep ((TK.new hq).trans (TK.lst hl5)) r5 (imm_pairs _)) (.one (mkPair (by rw [upd_ne (ne_of_none h5 hq).symm];exact upd_same)))
         · rw [List.length_append,List.length_singleton];lia
       · rw [part_snoc,if_neg c,List.append_nil]
         exact r5
     · rintro σ2 acc H5 ⟨vb2,rfl,s5,h5,r5,l5⟩
       have wl:ws.length=((List.range aa).flatMap (rowOf m cl)).length:=by rw [r4.len,List.length_map]
       have h6:=s5 _ _ h4
       refine ⟨fl,D2,ws,acc,rfl,rfl,h6,h5,szle (by lia),_,ws++acc,rfl,(t4.mono s5).put hf0 nfD nfr,upd_same,?_⟩
       rw [List.range_succ,List.flatMap_append,List.map_append]
       simp only [List.flatMap_cons,List.flatMap_nil,List.append_nil]
       exact RpAll.append (RpAll.keep (s5.tk.trans (TK.lst h6)) r4 (imm_pairs _)) (RpAll.keep (TK.lst h6) r5 (imm_pairs _))
   · rintro σ H3 ⟨va,ws,rfl,t4,h4,r4⟩
     refine ⟨_,rfl,fl,ws,rfl,.inl ⟨SqL.of h4,fun l hl=> ?_⟩⟩
     refine k _ _ (t4.same.trans (Same.new hl)) (.tup upd_same (RpAll.keep (TK.new hl) ?_ (imm_pairs _)))
     show RpAll K H3 ws ((pairsOf m (w1 m (t0 ps) m)).map pD)
     rw [hcl]
     exact r4
end
theorem mod_many (c t:Int) (h1:1≤t) (h2:t≤16): ∃m:Nat,1 + c % t=(m:Int)∧1≤m∧(m:Int)≤t:=by
 have a:=Int.emod_nonneg c (show t≠0 by lia)
 have b:=Int.emod_lt_of_pos c (show 0 < t by lia)
 exact ⟨(1 + c % t).toNat,by lia,by lia,by lia⟩
theorem up_snoc {os:List Int} {ps:List (Int×Int)} {i j:Nat} (h: ∀q∈ps,Up os q) (hji:j < i) (hj:j < os.length) (hi:i < os.length): ∀q∈ps++[(os[j],os[i])],Up os q:=fun q hq=>by
 rcases List.mem_append.mp hq with z | z
 · exact h q z
 · rw [List.mem_singleton.mp z]
   exact ⟨j,i,hji,by simp [hj],by simp [hi]⟩
theorem erase_perm: ∀(l:List Int) (k:Nat) (h:k < l.length),(l[k]::l.eraseIdx k).Perm l
 | [],_,h=>absurd h (Nat.not_lt_zero _)
 | a::l,0,_=>List.Perm.refl _
 | a::l,k + 1,h=>by
   have h':k < l.length:=Nat.lt_of_succ_lt_succ h
   show (l[k]::a::l.eraseIdx k).Perm (a::l)
   exact (List.Perm.swap _ _ _).trans ((erase_perm l k h').cons a)
structure Two (H0 H:Hp) (fr od:Addr) (m:Nat) (fs os:List Int):Prop where
 same:Same H0 H
 f0:H0 fr=none
 o0:H0 od=none
 ne:fr≠od
 hf:H fr=some (.lst (fs.map V.int))
 ho:H od=some (.lst (os.map V.int))
 rf: ∀x∈fs,0≤x∧x < (m:Int)
 ro: ∀x∈os,0≤x∧x < (m:Int)
 nd:(fs++os).Nodup
theorem nd_range (m:Nat):(((List.range m).map fun (i:Nat)=>(i:Int))++[]).Nodup:=by
 rw [List.append_nil]
 refine List.Pairwise.map _ (fun a b h=> ?_) List.nodup_range
 intro z
 exact h (Int.ofNat.inj z)
theorem rangeV_ints (n:Nat):rangeV 0 n=((List.range n).map fun (i:Nat)=>(i:Int)).map V.int:=by
 unfold rangeV
 rw [List.map_map]
 refine List.map_congr_left fun i q_=> ?_
 show V.int (0 + (i:Int))=V.int (i:Int)
 rw [Int.zero_add]
theorem Two.pop {H0 H H':Hp} {fr od:Addr} {m:Nat} {fs os:List Int} (t:Two H0 H fr od m fs os) {k:Nat} (hk:k < fs.length):
 Two H0 (upd (upd H fr (.lst ((fs.map V.int).eraseIdx k))) od (.lst (os.map V.int++[V.int fs[k]]))) fr od m (fs.eraseIdx k) (os++[fs[k]]):=by
 refine ⟨(t.same.put t.f0).put t.o0,t.f0,t.o0,t.ne,?_,?_,fun x hx=>t.rf x (List.mem_of_mem_eraseIdx hx),fun x hx=> ?_,?_⟩
 · rw [upd_ne t.ne,upd_same,map_erase]
 · rw [upd_same];simp
 · rcases List.mem_append.mp hx with z | z
   · exact t.ro x z
   · rw [List.mem_singleton.mp z];exact t.rf _ (List.getElem_mem hk)
 · have pm:(fs.eraseIdx k++(os++[fs[k]])).Perm (fs++os):=by
    rw [← List.append_assoc]
    exact (List.perm_append_singleton _ _).trans ((erase_perm fs k hk).append_right os)
   exact pm.nodup_iff.mpr t.nd
noncomputable abbrev Kdg (H:Hp) (t:Int) (m:Nat) (fr od:Addr) (i:Nat) (σ:St) (H3:Hp):Prop:=∃(cc:Int) (vk:Option V) (fs os:List Int),σ=[some (.int cc),some (.int t),some (.int m),some (.ref fr),some (.ref od),vk,none,none,none]∧Two H H3 fr od m fs os∧fs.length + i=m∧os.length=i
noncomputable abbrev Idg (K:PySem.W.Frag) (H:Hp) (t:Int) (m:Nat) (fr od:Addr) (vk:Option V) (pr:Addr) (os:List Int) (i:Nat) (σ:St) (H4:Hp):Prop:=∃(cc:Int) (vi vj:Option V) (ps:List (Int×Int)) (ws:List V),σ=[some (.int cc),some (.int t),some (.int m),some (.ref fr),some (.ref od),vk,some (.ref pr),vi,vj]∧Same H H4∧H4 od=some (.lst (os.map V.int))∧H4 pr=some (.lst ws)∧RpAll K H4 ws (ps.map pD)∧ps.length≤16 * i∧∀q∈ps,Up os q
noncomputable abbrev Jdg (K:PySem.W.Frag) (H:Hp) (t:Int) (m:Nat) (fr od:Addr) (vk:Option V) (pr:Addr) (os:List Int) (i:Nat) (j:Nat) (σ:St) (H5:Hp):Prop:=∃(cc:Int) (vj:Option V) (ps:List (Int×Int)) (ws:List V),σ=[some (.int cc),some (.int t),some (.int m),some (.ref fr),some (.ref od),vk,some (.ref pr),some (.int i),vj]∧Same H H5∧H5 od=some (.lst (os.map V.int))∧H5 pr=some (.lst ws)∧RpAll K H5 ws (ps.map pD)∧ps.length≤16 * i + j∧∀q∈ps,Up os q
noncomputable abbrev Kmx (H:Hp) (c t:Int) (m:Nat) (fr od:Addr) (i:Nat) (σ:St) (H3:Hp):Prop:=∃(vk:Option V) (fs os:List Int),σ=[some (.int c),some (.int t),some (.int m),some (.ref fr),some (.ref od),vk,none,none,none,none,none,none]∧Two H H3 fr od m fs os∧fs.length + i=m∧os.length=i
noncomputable abbrev Imx (K:PySem.W.Frag) (H:Hp) (c t:Int) (m:Nat) (fr od:Addr) (vk:Option V) (ra rb:Int) (pr:Addr) (os:List Int) (i:Nat) (σ:St) (H4:Hp):Prop:=∃(vi vj vd:Option V) (ps:List (Int×Int)) (ws:List V),σ=[some (.int c),some (.int t),some (.int m),some (.ref fr),some (.ref od),vk,some (.int ra),some (.int rb),some (.ref pr),vi,vj,vd]∧Same H H4∧H4 od=some (.lst (os.map V.int))∧H4 pr=some (.lst ws)∧RpAll K H4 ws (ps.map pD)∧ps.length≤16 * i∧∀q∈ps,Up os q
noncomputable abbrev Jmx (K:PySem.W.Frag) (H:Hp) (c t:Int) (m:Nat) (fr od:Addr) (vk:Option V) (ra rb:Int) (pr:Addr) (os:List Int) (i:Nat) (j:Nat) (σ:St) (H5:Hp):Prop:=∃(vj vd:Option V) (ps:List (Int×Int)) (ws:List V),σ=[some (.int c),some (.int t),some (.int m),some (.ref fr),some (.ref od),vk,some (.int ra),some (.int rb),some (.ref pr),some (.int i),vj,vd]∧Same H H5∧H5 od=some (.lst (os.map V.int))∧H5 pr=some (.lst ws)∧RpAll K H5 ws (ps.map pD)∧ps.length≤16 * i + j∧∀q∈ps,Up os q
section
variable {P:Program} {w:World} {K:PySem.W.Frag} {mg:Str→Option Value} {base:Heap}
theorem scDig:FnScope ["cell","most","many","free","order","k","pairs","i","j"] ["cell","most"] (defScope sDig):=⟨rfl,rfl,rfl,by decide +kernel,rfl,by decide +kernel,by decide +kernel⟩
set_option maxHeartbeats 16000000 in
theorem ok_dig {f:Addr} {fd:FuncData} (F:Fun K "_law_by_digits" "_law_by_digits" sDig f fd) (T:Txt K mg) (GC:Fn P w K mg base "_law_closed" 1 ["many","pairs"] (spClosed K)):FnOk P w K mg base CX0 2 f fd ["cell","most"] (spDig K):=by
 refine F.ok scDig (fun vs H Q E h=> ?_) (fun cdv A outer s H vs Q E hr h=> ?_)
 · obtain ⟨c,t,rfl,_⟩:=h;rfl
 · obtain ⟨c,t,rfl,ht1,ht2,k⟩:=h
   refine ⟨_,pss_cons (ps_set (i:=2) scDig.nd rfl (Or.inl rfl) (pe_op op_add pe_int (pe_op op_mod (pv 0) (pv 1))))
    (pss_cons (ps_set (i:=0) scDig.nd rfl (Or.inl rfl) (pe_op op_fdiv (pv 0) (pv 1)))
    (pss_cons (ps_set (i:=3) scDig.nd rfl (Or.inl rfl) (pe_callTy (call_list_rng rfl) (by rfl) T.list bt_list (pa_cons (pe_range1 (by rfl) T.range (pa_cons (pv 2) pa_nil)) pa_nil)))
    (pss_cons (ps_set (i:=4) scDig.nd rfl (Or.inl rfl) (pe_lst pa_nil))
    (pss_cons (ps_for PassesOwn.never rfl (pi_range1 (by rfl) T.range (pa_cons (pv 2) pa_nil)) (pg_name (i:=5) scDig.nd rfl (Or.inl rfl))
      (pss_cons (ps_expr (pe_bm PySem.F.plainAttrs_list PySem.F.slot_list_append PySem.F.type_list_append mt_append (pv 4)
        (pa_cons (pe_bm PySem.F.plainAttrs_list PySem.F.slot_list_pop PySem.F.type_list_pop mt_popAt (pv 3) (pa_cons (pe_op op_mod (pv 0) (pe_callB call_len_seq (by rfl) T.len bt_len (pa_cons (pv 3) pa_nil))) pa_nil)) pa_nil)))
      (pss_one (ps_set (i:=0) scDig.nd rfl (Or.inl rfl) (pe_op op_fdiv (pv 0) (pe_op op_sub (pv 2) (pv 5)))))))
    (pss_cons (ps_set (i:=6) scDig.nd rfl (Or.inl rfl) (pe_lst pa_nil))
    (pss_cons (ps_for PassesOwn.never rfl (pi_range1 (by rfl) T.range (pa_cons (pv 2) pa_nil)) (pg_name (i:=7) scDig.nd rfl (Or.inl rfl))
      (pss_one (ps_for PassesOwn.never rfl (pi_range1 (by rfl) T.range (pa_cons (pv 7) pa_nil)) (pg_name (i:=8) scDig.nd rfl (Or.inl rfl))
        (pss_cons (ps_if (pt_cmpR op_eq (pe_op op_mod (pv 0) pe_int) pe_int (nomark _))
          (pss_one (ps_expr (pe_bm PySem.F.plainAttrs_list PySem.F.slot_list_append PySem.F.type_list_append mt_append (pv 6)
            (pa_cons (pe_tup (pa_cons (pe_ix ix_list (pv 4) (pv 8) (fun q_ q_=>rfl)) (pa_cons (pe_ix ix_list (pv 4) (pv 7) (fun q_ q_=>rfl)) pa_nil))) pa_nil)))) pss_nil)
        (pss_one (ps_set (i:=0) scDig.nd rfl (Or.inl rfl) (pe_op op_fdiv (pv 0) pe_int)))))))
    (pss_one (ps_ret (pe_tup (pa_cons (pv 2) (pa_cons (pe_fn GC hr (pa_cons (pv 2) (pa_cons (pv 6) pa_nil))) pa_nil))))))))))),?_⟩
   try dsimp only [cxOf]
   obtain ⟨m,em,hm1,hm2⟩:=mod_many c t ht1 ht2
   refine ⟨_,rfl,_,rfl,_,_,rfl,rfl,(by show (0:Int) < t;lia),_,_,rfl,rfl,?_⟩
   dsimp only
   rw [em]
   refine ⟨_,rfl,_,rfl,_,_,rfl,rfl,⟨by lia,by lia⟩,?_⟩
   refine ⟨_,rfl,(m:Int),rfl,fun p hp=>⟨p,0,(m:Int),rfl,upd_same,⟨by lia,by lia,by lia,by lia⟩,szle (by lia),fun fr hfr=> ?_⟩⟩
   refine ⟨szle (by show 0≤100000;decide),fun od hod=> ?_⟩
   have efr:rangeV 0 ((m:Int) - 0).toNat=((List.range m).map fun (i:Nat)=>(i:Int)).map V.int:=by
    rw [Int.sub_zero,Int.toNat_natCast];exact rangeV_ints m
   rw [efr] at hod
   dsimp only
   rw [efr]
   have s0:Same H (upd (upd (upd H p (.rng 0 m)) fr (.lst (((List.range m).map fun (i:Nat)=>(i:Int)).map V.int))) od (.lst [])):=((Same.new hp).trans (Same.new hfr)).trans (Same.new hod)
   have fr0:H fr=none:=(Same.new hp).free hfr
   have od0:H od=none:=((Same.new hp).trans (Same.new hfr)).free hod
   have nfo:fr≠od:=ne_of_none (upd_same (H:=upd H p (.rng 0 m))) hod
   have t0:Two H (upd (upd (upd H p (.rng 0 m)) fr (.lst (((List.range m).map fun (i:Nat)=>(i:Int)).map V.int))) od (.lst [])) fr od m ((List.range m).map fun (i:Nat)=>(i:Int)) []:=
    ⟨s0,fr0,od0,nfo,by rw [upd_ne nfo,upd_same],upd_same,fun x hx=>by
      obtain ⟨i,hi,rfl⟩:=List.mem_map.mp hx
      have:=List.mem_range.mp hi
      exact ⟨by lia,by lia⟩,(fun x hx=>nomatch hx),nd_range m⟩
   refine ⟨_,rfl,(m:Int),rfl,by lia,by lia,for_range0 (n:=m) (Kdg H t m fr od)
    ⟨_,none,_,[],rfl,t0,by simp,rfl⟩ ?_ ?_⟩
   · rintro i σ H3 hi ⟨cc,vk,fs,os,rfl,t3,l1,l2⟩
     have hpos:(0:Int) < (fs.length:Int):=by lia
     have a1:=Int.emod_nonneg cc (show (fs.length:Int)≠0 by lia)
     have a2:=Int.emod_lt_of_pos cc hpos
     obtain ⟨kk,ek⟩:=Int.eq_ofNat_of_zero_le a1
     have hkk:kk < fs.length:=by lia
     refine ⟨_,rfl,.inl ⟨rfl,_,SqL.of t3.ho⟩,_,rfl,.inl ⟨rfl,_,SqL.of t3.hf⟩,_,rfl,_,rfl,fr,_,rfl,.inl (SqL.of t3.hf),_,_,rfl,rfl,(by show (0:Int) < (((fs.map V.int).length:Nat):Int);rw [List.length_map];exact hpos),?_⟩
     dsimp only
     rw [List.length_map,ek]
     refine ⟨fr,_,(kk:Int),kk,.int fs[kk],rfl,rfl,t3.hf,by lia,by lia,by rw [List.length_map];exact PySem.seqIndex_of (by lia) (by lia),by simp [hkk],od,_,_,rfl,rfl,(by rw [upd_ne t3.ne.symm];exact t3.ho),szlt (by rw [List.length_map];lia),?_⟩
     refine ⟨_,rfl,_,rfl,_,rfl,_,_,rfl,rfl,_,_,rfl,rfl,⟨by lia,by lia⟩,?_⟩
     exact ⟨_,_,_,_,rfl,Two.pop (H':=H) t3 hkk,by rw [List.length_eraseIdx_of_lt hkk];lia,by simp [l2]⟩
   rintro σ H3 ⟨cc,vk,fs,os,rfl,t3,l1,l2⟩
   refine ⟨szle (by show 0≤100000;decide),fun pr hpr=> ?_⟩
   have pr0:H pr=none:=t3.same.free hpr
   have npo:od≠pr:=ne_of_none t3.ho hpr
   refine ⟨_,rfl,(m:Int),rfl,by lia,by lia,for_range0 (n:=m) (Idg K H t m fr od vk pr os)
    ⟨cc,none,none,[],[],rfl,t3.same.trans (Same.new hpr),by rw [upd_ne npo];exact t3.ho,upd_same,.nil,Nat.zero_le _,fun q hq=>nomatch hq⟩ ?_ ?_⟩
   · rintro i σ H4 hi ⟨cc,vi,vj,ps,ws,rfl,s4,o4,p4,r4,l4,u4⟩
     refine ⟨_,rfl,(i:Int),rfl,by lia,by lia,for_range0 (n:=i) (Jdg K H t m fr od vk pr os i)
      ⟨cc,vj,ps,ws,rfl,s4,o4,p4,r4,l4,u4⟩ ?_ ?_⟩
     · rintro j σ H5 hj ⟨cc,vj,ps,ws,rfl,s5,o5,p5,r5,l5,u5⟩
       refine ⟨_,rfl,_,_,rfl,rfl,(by show (0:Int) < 2;decide),rfl,_,rfl,?_⟩
       refine ite2 (fun q_=> ?_) (fun q_=> ?_)
       · have hjo:j < os.length:=by lia
         have hio:i < os.length:=by lia
         refine ⟨_,rfl,.inl ⟨rfl,_,SqL.of p5⟩,_,rfl,_,rfl,od,_,_,_,rfl,rfl,SqL.of o5,atI_nat (j:=j) (v:= .int os[j]) (by simp [hjo]),_,rfl,_,rfl,od,_,_,_,rfl,rfl,SqL.of o5,atI_nat (j:=i) (v:= .int os[i]) (by simp [hio]),szle (by show 2≤100000;decide),fun q hq=> ?_⟩
         have wl:ws.length=ps.length:=by rw [r5.len,List.length_map]
         have p6:(upd H5 q (.tup [.int os[j],.int os[i]])) pr=some (.lst ws):=by rw [upd_ne (ne_of_none p5 hq)];exact p5
         refine ⟨pr,ws,_,rfl,rfl,p6,szlt (by lia),?_⟩
         refine ⟨_,rfl,_,_,rfl,rfl,⟨by decide,by decide⟩,?_⟩
         refine ⟨_,_,ps++[(os[j],os[i])],_,rfl,(s5.trans (Same.new hq)).put pr0,by rw [upd_ne npo,upd_ne (ne_of_none o5 hq)];exact o5,upd_same,?_,?_,?_⟩
         · rw [List.map_append]
           exact RpAll.append (RpAll.keep ((TK.new hq).trans (TK.lst p6)) r5 (imm_pairs ps)) (.one (mkPair (by rw [upd_ne (ne_of_none p5 hq).symm];exact upd_same)))
         · rw [List.length_append,List.length_singleton];lia
         · exact up_snoc u5 hj hjo hio
       · refine ⟨_,rfl,_,_,rfl,rfl,⟨by decide,by decide⟩,?_⟩
         exact ⟨_,_,ps,ws,rfl,s5,o5,p5,r5,by lia,u5⟩
     · rintro σ H5 ⟨cc,vj,ps,ws,rfl,s5,o5,p5,r5,l5,u5⟩
       exact ⟨_,_,_,ps,ws,rfl,s5,o5,p5,r5,by lia,u5⟩
   rintro σ H4 ⟨cc,vi,vj,ps,ws,rfl,s4,o4,p4,r4,l4,u4⟩
   refine ⟨_,rfl,_,rfl,_,rfl,m,pr,ws,ps,rfl,by lia,p4,r4,fun v H5 s5 r5=>⟨szle (by show 2≤100000;decide),fun q hq=> ?_⟩⟩
   exact k _ _ m (clo m ps) ((s4.trans s5).trans (Same.new hq)) hm1 hm2 (clo_sp (List.nodup_append.mp t3.nd).2.1 u4) (.tup upd_same (.cons (.int _) (.one (Rp.same (Same.new hq) r5))))
theorem scMix:FnScope ["cell","most","many","free","order","k","share","half","pairs","i","j","drawn"] ["cell","most"] (defScope sMix):=⟨rfl,rfl,rfl,by decide +kernel,rfl,by decide +kernel,by decide +kernel⟩
set_option maxHeartbeats 16000000 in
theorem ok_mix {f:Addr} {fd:FuncData} (F:Fun K "_law_mixed" "_law_mixed" sMix f fd) (T:Txt K mg) (GC:Fn P w K mg base "_law_closed" 1 ["many","pairs"] (spClosed K)) (GD:Fn P w K mg base "_law_draw" 1 ["cell","k","bound"] spDraw):FnOk P w K mg base CX0 2 f fd ["cell","most"] (spDig K):=by
 refine F.ok scMix (fun vs H Q E h=> ?_) (fun cdv A outer s H vs Q E hr h=> ?_)
 · obtain ⟨c,t,rfl,_⟩:=h;rfl
 · obtain ⟨c,t,rfl,ht1,ht2,k⟩:=h
   refine ⟨_,pss_cons (ps_set (i:=2) scMix.nd rfl (Or.inl rfl) (pe_op op_add pe_int (pe_op op_mod (pv 0) (pv 1))))
    (pss_cons (ps_set (i:=3) scMix.nd rfl (Or.inl rfl) (pe_callTy (call_list_rng rfl) (by rfl) T.list bt_list (pa_cons (pe_range1 (by rfl) T.range (pa_cons (pv 2) pa_nil)) pa_nil)))
    (pss_cons (ps_set (i:=4) scMix.nd rfl (Or.inl rfl) (pe_lst pa_nil))
    (pss_cons (ps_for PassesOwn.never rfl (pi_range1 (by rfl) T.range (pa_cons (pv 2) pa_nil)) (pg_name (i:=5) scMix.nd rfl (Or.inl rfl))
      (pss_one (ps_expr (pe_bm PySem.F.plainAttrs_list PySem.F.slot_list_append PySem.F.type_list_append mt_append (pv 4)
        (pa_cons (pe_bm PySem.F.plainAttrs_list PySem.F.slot_list_pop PySem.F.type_list_pop mt_popAt (pv 3)
          (pa_cons (pe_fn GD hr (pa_cons (pe_op op_fdiv (pv 0) pe_int) (pa_cons (pv 5) (pa_cons (pe_callB call_len_seq (by rfl) T.len bt_len (pa_cons (pv 3) pa_nil)) pa_nil)))) pa_nil)) pa_nil)))))
    (pss_cons (ps_set (i:=6) scMix.nd rfl (Or.inl rfl) (pe_op op_add pe_int (pe_fn GD hr (pa_cons (pe_op op_fdiv (pv 0) pe_int) (pa_cons pe_int (pa_cons pe_int pa_nil))))))
    (pss_cons (ps_set (i:=7) scMix.nd rfl (Or.inl rfl) (pe_op op_fdiv (pe_op op_mul (pv 2) (pe_fn GD hr (pa_cons (pe_op op_fdiv (pv 0) pe_int) (pa_cons pe_int (pa_cons pe_int pa_nil))))) pe_int))
    (pss_cons (ps_set (i:=8) scMix.nd rfl (Or.inl rfl) (pe_lst pa_nil))
    (pss_cons (ps_for PassesOwn.never rfl (pi_range1 (by rfl) T.range (pa_cons (pv 2) pa_nil)) (pg_name (i:=9) scMix.nd rfl (Or.inl rfl))
      (pss_one (ps_for PassesOwn.never rfl (pi_range1 (by rfl) T.range (pa_cons (pv 9) pa_nil)) (pg_name (i:=10) scMix.nd rfl (Or.inl rfl))
        (pss_cons (ps_set (i:=11) scMix.nd rfl (Or.inl rfl) (pe_fn GD hr (pa_cons (pe_op op_fdiv (pv 0) pe_int) (pa_cons (pe_op op_add (pe_op op_add pe_int (pe_op op_mul pe_int (pv 9))) (pv 10))
          (pa_cons (pe_ix ix_list (pe_lst (pa_cons (pv 6) (pa_cons pe_int pa_nil))) (pe_callTy call_int1 (by rfl) T.int bt_int (pa_cons (pe_cmpR op_gt (pv 7) pe_int (nomark _)) pa_nil)) (fun q_ q_=>rfl)) pa_nil)))))
        (pss_one (ps_if (pw_or (pw_and (pt_cmpR op_eq (pv 7) pe_int (nomark _)) (pw_and1 (pt_cmpR op_eq (pv 11) pe_int (nomark _)))).pt
          (pw_or1 (pw_and (pt_chain op_lt op_le (pv 10) (pv 7) (pv 9)) (pw_and1 (pt_cmpR op_gt (pv 11) pe_int (nomark _)))).pt)).pt
          (pss_one (ps_expr (pe_bm PySem.F.plainAttrs_list PySem.F.slot_list_append PySem.F.type_list_append mt_append (pv 8)
            (pa_cons (pe_tup (pa_cons (pe_ix ix_list (pv 4) (pv 10) (fun q_ q_=>rfl)) (pa_cons (pe_ix ix_list (pv 4) (pv 9) (fun q_ q_=>rfl)) pa_nil))) pa_nil)))) pss_nil))))))
    (pss_one (ps_ret (pe_tup (pa_cons (pv 2) (pa_cons (pe_fn GC hr (pa_cons (pv 2) (pa_cons (pv 8) pa_nil))) pa_nil)))))))))))),?_⟩
   try dsimp only [cxOf]
   obtain ⟨m,em,hm1,hm2⟩:=mod_many c t ht1 ht2
   refine ⟨_,rfl,_,rfl,_,_,rfl,rfl,(by show (0:Int) < t;lia),_,_,rfl,rfl,?_⟩
   dsimp only
   rw [em]
   refine ⟨_,rfl,(m:Int),rfl,fun p hp=>⟨p,0,(m:Int),rfl,upd_same,⟨by lia,by lia,by lia,by lia⟩,szle (by lia),fun fr hfr=> ?_⟩⟩
   refine ⟨szle (by show 0≤100000;decide),fun od hod=> ?_⟩
   have efr:rangeV 0 ((m:Int) - 0).toNat=((List.range m).map fun (i:Nat)=>(i:Int)).map V.int:=by
    rw [Int.sub_zero,Int.toNat_natCast];exact rangeV_ints m
   rw [efr] at hod
   dsimp only
   rw [efr]
   have s0:Same H (upd (upd (upd H p (.rng 0 m)) fr (.lst (((List.range m).map fun (i:Nat)=>(i:Int)).map V.int))) od (.lst [])):=((Same.new hp).trans (Same.new hfr)).trans (Same.new hod)
   have fr0:H fr=none:=(Same.new hp).free hfr
   have od0:H od=none:=((Same.new hp).trans (Same.new hfr)).free hod
   have nfo:fr≠od:=ne_of_none (upd_same (H:=upd H p (.rng 0 m))) hod
   have t0:Two H (upd (upd (upd H p (.rng 0 m)) fr (.lst (((List.range m).map fun (i:Nat)=>(i:Int)).map V.int))) od (.lst [])) fr od m ((List.range m).map fun (i:Nat)=>(i:Int)) []:=
    ⟨s0,fr0,od0,nfo,by rw [upd_ne nfo,upd_same],upd_same,fun x hx=>by
      obtain ⟨i,hi,rfl⟩:=List.mem_map.mp hx
      have:=List.mem_range.mp hi
      exact ⟨by lia,by lia⟩,(fun x hx=>nomatch hx),nd_range m⟩
   refine ⟨_,rfl,(m:Int),rfl,by lia,by lia,for_range0 (n:=m) (Kmx H c t m fr od)
    ⟨none,_,[],rfl,t0,by simp,rfl⟩ ?_ ?_⟩
   · rintro i σ H3 hi ⟨vk,fs,os,rfl,t3,l1,l2⟩
     refine ⟨_,rfl,.inl ⟨rfl,_,SqL.of t3.ho⟩,_,rfl,.inl ⟨rfl,_,SqL.of t3.hf⟩,_,rfl,_,_,rfl,rfl,⟨by decide,by decide⟩,_,rfl,_,rfl,fr,_,rfl,.inl (SqL.of t3.hf),_,_,_,rfl,(by show (0:Int) < (((fs.map V.int).length:Nat):Int);rw [List.length_map];lia),fun r a1 a2=> ?_⟩
     rw [List.length_map] at a2
     obtain ⟨kk,rfl⟩:=Int.eq_ofNat_of_zero_le a1
     have hkk:kk < fs.length:=by lia
     refine ⟨fr,_,(kk:Int),kk,.int fs[kk],rfl,rfl,t3.hf,by lia,by lia,by rw [List.length_map];exact PySem.seqIndex_of (by lia) (by lia),by simp [hkk],od,_,_,rfl,rfl,(by rw [upd_ne t3.ne.symm];exact t3.ho),szlt (by rw [List.length_map];lia),?_⟩
     exact ⟨_,_,_,rfl,Two.pop (H':=H) t3 hkk,by rw [List.length_eraseIdx_of_lt hkk];lia,by simp [l2]⟩
   rintro σ H3 ⟨vk,fs,os,rfl,t3,l1,l2⟩
   refine ⟨_,rfl,_,_,rfl,rfl,⟨by decide,by decide⟩,_,_,_,rfl,(by decide),fun r1 b1 b2=> ?_⟩
   refine ⟨_,_,rfl,rfl,?_⟩
   refine ⟨_,rfl,_,rfl,_,_,rfl,rfl,⟨by decide,by decide⟩,_,_,_,rfl,(by decide),fun r2 b3 b4=> ?_⟩
   refine ⟨_,_,rfl,rfl,.inl ⟨by lia,by lia⟩,_,_,rfl,rfl,⟨by decide,by decide⟩,?_⟩
   refine ⟨szle (by show 0≤100000;decide),fun pr hpr=> ?_⟩
   have pr0:H pr=none:=t3.same.free hpr
   have npo:od≠pr:=ne_of_none t3.ho hpr
   refine ⟨_,rfl,(m:Int),rfl,by lia,by lia,for_range0 (n:=m) (Imx K H c t m fr od vk (2 + r1) ((m:Int) * r2 / 2) pr os)
    ⟨none,none,none,[],[],rfl,t3.same.trans (Same.new hpr),by rw [upd_ne npo];exact t3.ho,upd_same,.nil,Nat.zero_le _,fun q hq=>nomatch hq⟩ ?_ ?_⟩
   · rintro i σ H4 hi ⟨vi,vj,vd,ps,ws,rfl,s4,o4,p4,r4,l4,u4⟩
     refine ⟨_,rfl,(i:Int),rfl,by lia,by lia,for_range0 (n:=i) (Jmx K H c t m fr od vk (2 + r1) ((m:Int) * r2 / 2) pr os i)
      ⟨vj,vd,ps,ws,rfl,s4,o4,p4,r4,l4,u4⟩ ?_ ?_⟩
     · rintro j σ H5' hj ⟨vj,vd,ps,ws,rfl,s5',o5',p5',r5',l5,u5⟩
       refine ⟨_,rfl,_,_,rfl,rfl,⟨by decide,by decide⟩,_,rfl,_,_,rfl,rfl,.inl ⟨by decide,by decide⟩,_,_,rfl,rfl,_,rfl,_,_,rfl,rfl,_,rfl,szle (by show 2≤100000;decide),fun q0 hq0=> ?_⟩
       have s5:Same H (upd H5' q0 (.lst [.int (2 + r1),.int 3])):=s5'.trans (Same.new hq0)
       have o5:(upd H5' q0 (.lst [.int (2 + r1),.int 3])) od=some (.lst (os.map V.int)):=Same.new hq0 _ _ o5'
       have p5:(upd H5' q0 (.lst [.int (2 + r1),.int 3])) pr=some (.lst ws):=Same.new hq0 _ _ p5'
       have r5:RpAll K (upd H5' q0 (.lst [.int (2 + r1),.int 3])) ws (ps.map pD):=RpAll.same (Same.new hq0) r5'
       generalize hH5:upd H5' q0 (.lst [.int (2 + r1),.int 3])=H5 at s5 o5 p5 r5 ⊢
       have hq1:H5 q0=some (.lst [.int (2 + r1),.int 3]):=by rw [← hH5];exact upd_same
       refine ⟨_,rfl,_,_,rfl,rfl,.inr ⟨_,rfl,?_⟩⟩
       obtain ⟨bd,hbd,hat⟩: ∃bd:Int,0 < bd∧atI [V.int (2 + r1),V.int 3] (if decide (0 < (m:Int) * r2 / 2)=true then 1 else 0)=some (.int bd):=by
        by_cases hh:0 < (m:Int) * r2 / 2
        · exact ⟨3,by decide,by rw [decide_eq_true hh];rfl⟩
        · exact ⟨2 + r1,by lia,by rw [decide_eq_false hh];rfl⟩
       refine ⟨q0,_,_,_,rfl,rfl,SqL.of hq1,hat,_,_,_,rfl,hbd,fun r d1 d2=> ?_⟩
       have hjo:j < os.length:=by lia
       have hio:i < os.length:=by lia
       have wl:ws.length=ps.length:=by rw [r5.len,List.length_map]
       have goA:Jmx K H c t m fr od vk (2 + r1) ((m:Int) * r2 / 2) pr os i (j + 1) [some (V.int c),some (.int t),some (.int m),some (.ref fr),some (.ref od),vk,some (.int (2 + r1)),some (.int ((m:Int) * r2 / 2)),some (.ref pr),some (.int i),some (.int j),some (.int r)] H5:=⟨_,_,ps,ws,rfl,s5,o5,p5,r5,by lia,u5⟩
       have goB: ∀(q:Addr),H5 q=none→rAppend (.ref pr) [.ref q] (upd H5 q (.tup [.int os[j],.int os[i]])) (fun q_ H6=>Jmx K H c t m fr od vk (2 + r1) ((m:Int) * r2 / 2) pr os i (j + 1) [some (V.int c),some (.int t),some (.int m),some (.ref fr),some (.ref od),vk,some (.int (2 + r1)),some (.int ((m:Int) * r2 / 2)),some (.ref pr),some (.int i),some (.int j),some (.int r)] H6):=fun q hq=>by
        have p6:(upd H5 q (.tup [.int os[j],.int os[i]])) pr=some (.lst ws):=by rw [upd_ne (ne_of_none p5 hq)];exact p5
        refine ⟨pr,ws,_,rfl,rfl,p6,szlt (by lia),_,_,ps++[(os[j],os[i])],_,rfl,(s5.trans (Same.new hq)).put pr0,by rw [upd_ne npo,upd_ne (ne_of_none o5 hq)];exact o5,upd_same,?_,?_,?_⟩
        · rw [List.map_append]
          exact RpAll.append (RpAll.keep ((TK.new hq).trans (TK.lst p6)) r5 (imm_pairs ps)) (.one (mkPair (by rw [upd_ne (ne_of_none p5 hq).symm];exact upd_same)))
        · rw [List.length_append,List.length_singleton];lia
        · exact up_snoc u5 hj hjo hio
       have goC: ∀D':Ends,D'.nx=Jmx K H c t m fr od vk (2 + r1) ((m:Int) * r2 / 2) pr os i (j + 1)→tDrop (tBM K "list" rAppend (tVar 8) (tCons (tTup (tCons (tOp (rIxL K) (tVar 4) (tVar 10)) (tCons (tOp (rIxL K) (tVar 4) (tVar 9)) tNil))) tNil)) D' [some (V.int c),some (.int t),some (.int m),some (.ref fr),some (.ref od),vk,some (.int (2 + r1)),some (.int ((m:Int) * r2 / 2)),some (.ref pr),some (.int i),some (.int j),some (.int r)] H5:=fun D' hD=>by
        refine ⟨_,rfl,.inl ⟨rfl,_,SqL.of p5⟩,_,rfl,_,rfl,od,_,_,_,rfl,rfl,SqL.of o5,atI_nat (j:=j) (v:= .int os[j]) (by simp [hjo]),_,rfl,_,rfl,od,_,_,_,rfl,rfl,SqL.of o5,atI_nat (j:=i) (v:= .int os[i]) (by simp [hio]),szle (by show 2≤100000;decide),fun q hq=> ?_⟩
        rw [hD]
        exact goB q hq
       refine ⟨_,rfl,rfl,_,rfl,ite2 (fun q_=>⟨_,rfl,rfl,_,rfl,ite2 (fun q_=>goC _ rfl) (fun q_=> ?_)⟩) (fun q_=> ?_)⟩
       all_goals
        exact ⟨_,rfl,_,rfl,_,_,rfl,rfl,_,rfl,ite2 (fun q_=>⟨_,rfl,_,_,rfl,rfl,_,rfl,ite2 (fun q_=>⟨_,rfl,_,_,rfl,rfl,_,rfl,ite2 (fun q_=>goC _ rfl) (fun q_=>goA)⟩) (fun q_=>goA)⟩) (fun q_=>⟨_,rfl,(goA)⟩)⟩
     · rintro σ H5 ⟨vj,vd,ps,ws,rfl,s5,o5,p5,r5,l5,u5⟩
       exact ⟨_,_,_,ps,ws,rfl,s5,o5,p5,r5,by lia,u5⟩
   rintro σ H4 ⟨vi,vj,vd,ps,ws,rfl,s4,o4,p4,r4,l4,u4⟩
   refine ⟨_,rfl,_,rfl,_,rfl,m,pr,ws,ps,rfl,by lia,p4,r4,fun v H5 s5 r5=>⟨szle (by show 2≤100000;decide),fun q hq=> ?_⟩⟩
   exact k _ _ m (clo m ps) ((s4.trans s5).trans (Same.new hq)) hm1 hm2 (clo_sp (List.nodup_append.mp t3.nd).2.1 u4) (.tup upd_same (.cons (.int _) (.one (Rp.same (Same.new hq) r5))))
theorem scSpace:FnScope ["script","at","most","cell"] ["script","at","most"] (defScope sSpace):=⟨rfl,rfl,rfl,by decide +kernel,rfl,by decide +kernel,by decide +kernel⟩
theorem ok_space {f:Addr} {fd:FuncData} (F:Fun K "_law_space" "_law_space" sSpace f fd) (GR:Fn P w K mg base "_law_raw" 1 ["script","k"] (spCell K)) (GS:Fn P w K mg base "_law_stir" 1 ["cell"] spStir)
 (GB:Fn P w K mg base "_law_by_digits" 2 ["cell","most"] (spDig K)) (GM:Fn P w K mg base "_law_mixed" 2 ["cell","most"] (spDig K)):FnOk P w K mg base CX0 3 f fd ["script","at","most"] (spSpace K):=by
 refine F.ok scSpace (fun vs H Q E h=> ?_) (fun cdv A outer s H vs Q E hr h=> ?_)
 · obtain ⟨a,ns,k,t,rfl,_⟩:=h;rfl
 · obtain ⟨a,ns,j,t,rfl,hS,ht1,ht2,k⟩:=h
   have hr1:=hr.mono (show 1≤2 by decide)
   refine ⟨_,pss_cons (ps_set (i:=3) scSpace.nd rfl (Or.inl rfl) (pe_fn GR hr1 (pa_cons (pv 0) (pa_cons (pv 1) pa_nil))))
    (pss_cons (ps_if (pt_cmpR op_eq (pe_op op_mod (pv 3) pe_int) pe_int (nomark _)) (pss_one (ps_ret (pe_fn GB hr (pa_cons (pe_op op_fdiv (pv 3) pe_int) (pa_cons (pv 2) pa_nil))))) pss_nil)
    (pss_one (ps_ret (pe_fn GM hr (pa_cons (pe_fn GS hr1 (pa_cons (pv 3) pa_nil)) (pa_cons (pv 2) pa_nil)))))),?_⟩
   try dsimp only [cxOf]
   refine ⟨_,rfl,_,rfl,a,ns,j,rfl,hS,fun r H1 s1=> ?_⟩
   refine ⟨_,rfl,_,_,rfl,rfl,(by show (0:Int) < 2;decide),rfl,_,rfl,?_⟩
   refine ite2 (fun q_=> ?_) (fun q_=> ?_)
   · exact ⟨_,rfl,_,_,rfl,rfl,⟨by decide,by decide⟩,_,rfl,_,t,rfl,ht1,ht2,fun v H' m ts s2=>k v H' m ts (s1.trans s2)⟩
   · exact ⟨_,rfl,_,rfl,fun r2 H2 s2=>⟨_,rfl,_,t,rfl,ht1,ht2,fun v H' m ts s3=>k v H' m ts ((s1.trans s2).trans s3)⟩⟩
end
structure XT (K:PySem.W.Frag) (mg:Str→Option Value) (c0 c1 c2 c3 c4 c5:Addr):Prop where
 x0:XC K mg "SpaceError" c0
 x1:XC K mg "TooMany" c1
 x2:XC K mg "NoPoint" c2
 x3:XC K mg "Round" c3
 x4:XC K mg "NotRead" c4
 x5:XC K mg "NoFold" c5
 u1:xSub K c1 c0=true
 v1:PySem.W.kitOne K (.ref c1) (.type "ValueError")=some true
 u2:xSub K c2 c0=true
 v2:PySem.W.kitOne K (.ref c2) (.type "ValueError")=some true
 u3:xSub K c3 c0=true
 v3:PySem.W.kitOne K (.ref c3) (.type "ValueError")=some true
 u4:xSub K c4 c0=true
 v4:PySem.W.kitOne K (.ref c4) (.type "ValueError")=some true
 u5:xSub K c5 c0=true
 v5:PySem.W.kitOne K (.ref c5) (.type "ValueError")=some true
 w1_1:PySem.W.kitOne K (.ref c1) (.ref c1)=some true
 w1_2:PySem.W.kitOne K (.ref c1) (.ref c2)=some false
 w1_3:PySem.W.kitOne K (.ref c1) (.ref c3)=some false
 w1_4:PySem.W.kitOne K (.ref c1) (.ref c4)=some false
 w1_5:PySem.W.kitOne K (.ref c1) (.ref c5)=some false
 w2_1:PySem.W.kitOne K (.ref c2) (.ref c1)=some false
 w2_2:PySem.W.kitOne K (.ref c2) (.ref c2)=some true
 w2_3:PySem.W.kitOne K (.ref c2) (.ref c3)=some false
 w2_4:PySem.W.kitOne K (.ref c2) (.ref c4)=some false
 w2_5:PySem.W.kitOne K (.ref c2) (.ref c5)=some false
 w3_1:PySem.W.kitOne K (.ref c3) (.ref c1)=some false
 w3_2:PySem.W.kitOne K (.ref c3) (.ref c2)=some false
 w3_3:PySem.W.kitOne K (.ref c3) (.ref c3)=some true
 w3_4:PySem.W.kitOne K (.ref c3) (.ref c4)=some false
 w3_5:PySem.W.kitOne K (.ref c3) (.ref c5)=some false
 w4_1:PySem.W.kitOne K (.ref c4) (.ref c1)=some false
 w4_2:PySem.W.kitOne K (.ref c4) (.ref c2)=some false
 w4_3:PySem.W.kitOne K (.ref c4) (.ref c3)=some false
 w4_4:PySem.W.kitOne K (.ref c4) (.ref c4)=some true
 w4_5:PySem.W.kitOne K (.ref c4) (.ref c5)=some false
 w5_1:PySem.W.kitOne K (.ref c5) (.ref c1)=some false
 w5_2:PySem.W.kitOne K (.ref c5) (.ref c2)=some false
 w5_3:PySem.W.kitOne K (.ref c5) (.ref c3)=some false
 w5_4:PySem.W.kitOne K (.ref c5) (.ref c4)=some false
 w5_5:PySem.W.kitOne K (.ref c5) (.ref c5)=some true
 g_MOST_POINTS: ∃t,mg "MOST_POINTS"=some (.int 16 t)
noncomputable def spPoint:Sp:=fun vs H Q q_=>∃n x:Int,vs=[.int n,.int x]∧∀b:Bool,(b=true↔0≤x∧x < n)→Q (.bl b) H
noncomputable def gt (xs:List Int) (i:Int):Int:=xs.getD i.toNat 0
section
variable {P:Program} {w:World} {K:PySem.W.Frag} {mg:Str→Option Value} {base:Heap}
theorem scPoint:FnScope ["many","number"] ["many","number"] (defScope sPoint):=⟨rfl,rfl,rfl,by decide +kernel,rfl,by decide +kernel,by decide +kernel⟩
theorem ok_point {f:Addr} {fd:FuncData} (F:Fun K "is_point" "is_point" sPoint f fd):FnOk P w K mg base CX0 1 f fd ["many","number"] spPoint:=by
 refine F.ok scPoint (fun vs H Q E h=> ?_) (fun cdv A outer s H vs Q E hr h=> ?_)
 · obtain ⟨n,x,rfl,_⟩:=h;rfl
 · obtain ⟨n,x,rfl,k⟩:=h
   refine ⟨_,pss_one (ps_ret (pe_chain op_le op_lt pe_int (pv 1) (pv 0))),?_⟩
   refine ⟨_,rfl,_,_,rfl,rfl,_,rfl,?_⟩
   refine ite2 (fun e=> ?_) (fun e=> ?_)
   · refine ⟨_,rfl,_,_,rfl,rfl,k _ ⟨fun h=>⟨of_decide_eq_true e,of_decide_eq_true h⟩,fun h=>decide_eq_true h.2⟩⟩
   · exact k _ ⟨fun h=>absurd h Bool.false_ne_true,fun h=>absurd (decide_eq_true h.1) e⟩
end
theorem scr_inv {K:PySem.W.Frag} {H:Hp} {v:V} {ns:List Int} (h:Rp K H v (scrD ns)): ∃a,v= .ref a∧SqL K H a (ns.map V.int):=by
 generalize e:scrD ns=d at h
 cases h with
 | @scr a ms h1=>
   have e:ns=ms:=by
    have e:ns.map (fun n=>(PyData.int n,PyData.none))=ms.map fun n=>(PyData.int n,PyData.none):=by
     unfold scrD at e;exact PyData.dict.inj e
    have:=congrArg (List.map fun p:PyData×PyData=>match p.1 with | .int i=>i | _=>0) e
    rw [List.map_map,List.map_map] at this
    simpa [Function.comp_def] using this
   subst e
   exact ⟨a,rfl,h1⟩
 | any=>
   have e:ns.map (fun n=>(PyData.int n,PyData.none))=[(.bool true,.none)]:=PyData.dict.inj e
   have:=anyK_scr ns
   rw [e] at this
   cases this
 | xc _=>
   have e:ns.map (fun n=>(PyData.int n,PyData.none))=[(.bool false,.int _)]:=PyData.dict.inj e
   have:=excK_scr ns
   rw [e] at this
   cases this
 | _=>cases e
noncomputable def Pstir (ds:List PyData) (RS:Dt→Prop):Prop:=∃c:Int,ds=[.int c]∧∀r:Int,RS (.d (.int r))
noncomputable def Pcell (ds:List PyData) (RS:Dt→Prop):Prop:=∃(ns:List Int) (k:Nat),ds=[scrD ns,.int (k:Int)]∧∀r:Int,RS (.d (.int r))
noncomputable def Pwhole (ds:List PyData) (RS:Dt→Prop):Prop:=∃i:Int,ds=[.int i]∧RS (.d (.bool true))
noncomputable def Pdraw (ds:List PyData) (RS:Dt→Prop):Prop:=∃c k b:Int,ds=[.int c,.int k,.int b]∧0 < b∧∀r:Int,0≤r→r < b→RS (.d (.int r))
noncomputable def Pspace (ds:List PyData) (RS:Dt→Prop):Prop:=∃(ns:List Int) (k:Nat) (t:Int),ds=[scrD ns,.int (k:Int),.int t]∧1≤t∧t≤16∧∀(m:Nat) (ts:List (Int×Int)),1≤m→(m:Int)≤t→IsSp m ts→RS (.d (spD m ts))
section
variable {K:PySem.W.Frag} {vs:List V} {H:Hp} {Q:VK} {E:XK}
theorem cv_stir (h:spG K Pstir vs H Q E):spStir vs H Q E:=by
 obtain ⟨ds,RS,r,⟨c,rfl,hR⟩,k⟩:=h
 cases r with
 | cons r1 r2=>
   cases r2
   exact ⟨c,by rw [r1.int_inv],fun i H' s=>k _ _ H' H' (hR i) (.of_same s) (Rp.int i)⟩
theorem cv_cell (h:spG K Pcell vs H Q E):spCell K vs H Q E:=by
 obtain ⟨ds,RS,r,⟨ns,j,rfl,hR⟩,k⟩:=h
 cases r with
 | cons r1 r2=>
   cases r2 with
   | cons r2 r3=>
     cases r3
     obtain ⟨a,rfl,hs⟩:=scr_inv r1
     exact ⟨a,ns,j,by rw [r2.int_inv],hs,fun i H' s=>k _ _ H' H' (hR i) (.of_same s) (Rp.int i)⟩
theorem cv_whole (h:spG K Pwhole vs H Q E):spWhole vs H Q E:=by
 obtain ⟨ds,RS,r,⟨c,rfl,hR⟩,k⟩:=h
 cases r with
 | cons r1 r2=>
   cases r2
   exact ⟨c,by rw [r1.int_inv],k _ _ H H hR (.of_same (Same.refl H)) (Rp.bl true)⟩
theorem cv_draw (h:spG K Pdraw vs H Q E):spDraw vs H Q E:=by
 obtain ⟨ds,RS,r,⟨c,j,b,rfl,hb,hR⟩,k⟩:=h
 cases r with
 | cons r1 r2=>
   cases r2 with
   | cons r2 r3=>
     cases r3 with
     | cons r3 r4=>
       cases r4
       exact ⟨c,j,b,by rw [r1.int_inv,r2.int_inv,r3.int_inv],hb,fun i h1 h2=>k _ _ H H (hR i h1 h2) (.of_same (Same.refl H)) (Rp.int i)⟩
theorem cv_space (h:spG K Pspace vs H Q E):spSpace K vs H Q E:=by
 obtain ⟨ds,RS,r,⟨ns,j,t,rfl,h1,h2,hR⟩,k⟩:=h
 cases r with
 | cons r1 r2=>
   cases r2 with
   | cons r2 r3=>
     cases r3 with
     | cons r3 r4=>
       cases r4
       obtain ⟨a,rfl,hs⟩:=scr_inv r1
       exact ⟨a,ns,j,t,by rw [r2.int_inv,r3.int_inv],hs,h1,h2,fun v H' m ts s b1 b2 b3 rv=>k _ _ H' H' (hR m ts b1 b2 b3) (.of_same s) rv⟩
end
noncomputable def Pclosed (ds:List PyData) (RS:Dt→Prop):Prop:=∃(m:Nat) (ps:List (Int×Int)),ds=[.int (m:Int),.list (ps.map pD)]∧m≤16∧RS (.d (.tuple ((clo m ps).map pD)))
theorem cv_closed {K:PySem.W.Frag} {vs:List V} {H:Hp} {Q:VK} {E:XK} (h:spG K Pclosed vs H Q E):spClosed K vs H Q E:=by
 obtain ⟨ds,RS,r,⟨m,ps,rfl,hm,hR⟩,k⟩:=h
 cases r with
 | cons r1 r2=>
   cases r2 with
   | cons r2 r3=>
     cases r3
     obtain ⟨a,ys,rfl,h1,h2⟩:=r2.lst_inv
     exact ⟨m,a,ys,ps,by rw [r1.int_inv],hm,h1,h2,fun v H' s rv=>k _ _ H' H' hR (.of_same s) rv⟩
theorem fn_cv {P:Program} {w:World} {K:PySem.W.Frag} {mg:Str→Option Value} {base:Heap} {x:Str} {lvl:Nat} {ps:List Str} {sp sp':Sp} (G:Fn P w K mg base x lvl ps sp) (h: ∀vs H Q E,sp' vs H Q E→sp vs H Q E):Fn P w K mg base x lvl ps sp':=by
 obtain ⟨f,fd,F,a⟩:=G
 exact ⟨f,fd,F.imp h,a⟩
theorem okI (i:Int):okD (.int i):=rfl
theorem shI (i:Int):shal (.int i):=by unfold shal;simp [PyData.depth]
theorem okP (p:Int×Int):okD (pD p):=rfl
theorem shP (p:Int×Int):shal (pD p):=Nat.le_trans (depth_pD p) (by decide)
theorem eqv_int (i j:Int):PyData.eqv (.int i) (.int j)=decide (i=j):=by
 show (i == j)=_
 by_cases h:i=j <;> simp [h]
theorem at0 {α:Type} (a:α) (l:List α):atI (a::l) 0=some a:=atI_nat (j:=0) rfl
theorem at1 {α:Type} (a b:α) (l:List α):atI (a::b::l) 1=some b:=atI_nat (j:=1) rfl
noncomputable def Ppoint (ds:List PyData) (RS:Dt→Prop):Prop:=∃n x:Int,ds=[.int n,.int x]∧RS (.d (.bool (decide (0≤x∧x < n))))
theorem cv_point {K:PySem.W.Frag} {vs:List V} {H:Hp} {Q:VK} {E:XK} (h:spG K Ppoint vs H Q E):spPoint vs H Q E:=by
 obtain ⟨ds,RS,r,⟨n,x,rfl,hR⟩,k⟩:=h
 cases r with
 | cons r1 r2=>
   cases r2 with
   | cons r2 r3=>
     cases r3
     refine ⟨n,x,by rw [r1.int_inv,r2.int_inv],fun b hb=> ?_⟩
     have:b=decide (0≤x∧x < n):=by rw [Bool.eq_iff_iff,hb,decide_eq_true_iff]
     subst this
     exact k _ _ H H hR (.of_same (Same.refl H)) (Rp.bl _)
theorem seq_sp (n:Int) (ps:List (Int×Int)):seqD (spD n ps)=some [.int n,.tuple (ps.map pD)]:=rfl
theorem pD_inj: ∀a b:Int×Int,pD a=pD b→a=b:=pair_inj
noncomputable def pu (ps:List (Int×Int)) (p:Int):List Int:=(ps.filter fun q=>decide (q.2=p)).map (·.1)
noncomputable def po (ps:List (Int×Int)) (p:Int):List Int:=(ps.filter fun q=>decide (q.1=p)).map (·.2)
noncomputable def Ppu (ds:List PyData) (RS:Dt→Prop):Prop:=∃(n:Int) (ps:List (Int×Int)) (p:Int),ds=[spD n ps,.int p]∧RS (.o ((pu ps p).map PyData.int))
noncomputable def Ppo (ds:List PyData) (RS:Dt→Prop):Prop:=∃(n:Int) (ps:List (Int×Int)) (p:Int),ds=[spD n ps,.int p]∧RS (.o ((po ps p).map PyData.int))
noncomputable def rngI (n:Nat):List Int:=(List.range n).map fun (i:Nat)=>(i:Int)
theorem rngI_len (n:Nat):(rngI n).length=n:=by unfold rngI;simp
theorem ints_rng (n:Nat):intsD 0 n=(rngI n).map PyData.int:=by rw [ints0];unfold rngI;rw [List.map_map];rfl
noncomputable def PrefE (K:PySem.W.Frag) (ds:List PyData) (RS:Dt→Prop) (W:Addr→Prop):Prop:=∃m:Int,ds=[.int m]∧(1≤m∧m≤16→RS (.d .none))∧(¬ (1≤m∧m≤16)→∀c,clsA K "TooMany" c→W c)
noncomputable def Srt (qs:List (Int×Int)):Prop:=qs.Pairwise fun x y=>x.1 * 100 + x.2≤y.1 * 100 + y.2
noncomputable def InB (ps:List (Int×Int)):Prop:=∀q∈ps,(0≤q.1∧q.1 < 100)∧0≤q.2∧q.2 < 100
noncomputable def Pties (ds:List PyData) (RS:Dt→Prop):Prop:=∃ps:List (Int×Int),ds=[.tuple (ps.map pD)]∧RS (.d (.bool true))
noncomputable def Psame (ds:List PyData) (RS:Dt→Prop):Prop:=∃(n:Int) (ps:List (Int×Int)),ds=[spD n ps,spD n ps]∧RS (.d (.bool true))
theorem srt_one {ps qs rs:List (Int×Int)} (h:InB ps) (h1:qs.Perm ps) (h2:Srt qs) (h3:rs.Perm ps) (h4:Srt rs):qs=rs:=by
 refine List.Perm.eq_of_pairwise (le:=fun (x y:Int×Int)=>x.1 * 100 + x.2≤y.1 * 100 + y.2) (fun a b ha hb l1 l2=> ?_) h2 h4 (h1.trans h3.symm)
 have ia:=h a (h1.mem_iff.mp ha)
 have ib:=h b (h3.mem_iff.mp hb)
 have e1:a.1=b.1:=by lia
 have e2:a.2=b.2:=by lia
 exact Prod.ext e1 e2
section
variable {K:PySem.W.Frag} {ds:List PyData} {RS RS':Dt→Prop} {W:Addr→Prop}
end
noncomputable def Plaw (ds:List PyData) (RS:Dt→Prop):Prop:=∃ns:List Int,ds=[scrD ns]∧ns.length≤63∧RS (.d (.bool true))
theorem imm_sp (n:Int) (ps:List (Int×Int)):immD (spD n ps)=true:=by
 show (immAll (ps.map pD) && true)=true
 rw [imm_pairs];rfl
theorem ok_sp (n:Int) (ps:List (Int×Int)):okD (spD n ps):=by
 show (PyData.canLayAll0 (ps.map pD) && true)=true
 rw [lay_pairs];rfl
theorem depth_pairs: ∀ps:List (Int×Int),PyData.depthAll (ps.map pD)≤1
 | []=>Nat.zero_le _
 | p::r=>by
   show max (PyData.depth (pD p)) (PyData.depthAll (r.map pD))≤1
   have h1:=depth_pairs r
   have h2:PyData.depth (pD p)=1:=rfl
   lia
theorem sh_sp (n:Int) (ps:List (Int×Int)):shal (spD n ps):=by
 show max 0 (max (PyData.depthAll (ps.map pD) + 1) 0) + 1≤9
 have:=depth_pairs ps
 lia
theorem eqv_pairs: ∀ps qs:List (Int×Int),PyData.eqvAll (ps.map pD) (qs.map pD)=decide (ps=qs)
 | [],[]=>rfl
 | [],_::_=>rfl
 | _::_,[]=>rfl
 | x::xs,y::ys=>by
   show (PyData.eqv (pD x) (pD y) && PyData.eqvAll (xs.map pD) (ys.map pD))=_
   rw [eqv_pD,eqv_pairs xs ys]
   by_cases h1:x=y <;> by_cases h2:xs=ys <;> simp [h1,h2]
theorem eqv_sp (n m:Int) (ps qs:List (Int×Int)):PyData.eqv (spD n ps) (spD m qs)=decide (n=m∧ps=qs):=by
 show (PyData.eqv (.int n) (.int m) && (PyData.eqvAll (ps.map pD) (qs.map pD) && true))=_
 rw [eqv_int,eqv_pairs]
 by_cases h1:n=m <;> by_cases h2:ps=qs <;> simp [h1,h2]
noncomputable def Rep (m:Nat) (t:Rel) (kvs:List (List Key×PyData)):Prop:=∃qs:List (Int×Int),qs.Nodup∧kvs.map (·.1)=qs.map (fun q=>kP q.1 q.2)∧∀q,q∈qs↔q∈pairsOf m t
theorem kP_inj {p q:Int×Int} (h:kP p.1 p.2=kP q.1 q.2):p=q:=by
 injection h with h1 h2
 injection h2 with h2 _
 injection h1 with h1
 injection h2 with h2
 exact Prod.ext h1 h2
theorem mem_kP {qs:List (Int×Int)} {a b:Int}:kP a b∈qs.map (fun q=>kP q.1 q.2)↔(a,b)∈qs:=by
 rw [List.mem_map]
 constructor
 · rintro ⟨q,hq,e⟩
   have:=kP_inj (p:=q) (q:=(a,b)) e
   rw [← this];exact hq
 · exact fun h=>⟨_,h,rfl⟩
theorem getTD_some {k:List Key}: ∀{kvs:List (List Key×PyData)},(getTD kvs k).isSome=true↔k∈kvs.map (·.1)
 | []=>by simp [getTD]
 | p::l=>by
   have ih:=getTD_some (k:=k) (kvs:=l)
   unfold getTD at ih ⊢
   rw [List.map_cons,List.mem_cons]
   by_cases e:p.1=k
   · rw [List.find?_cons_of_pos (by simpa using e)]
     exact ⟨fun q_=> .inl e.symm,fun q_=>rfl⟩
   · rw [List.find?_cons_of_neg (by simpa using e),ih]
     exact ⟨.inr,fun z=>z.elim (fun z=>absurd z.symm e) id⟩
theorem any_keys {k:List Key} (kvs:List (List Key×PyData)):(kvs.any fun kv=>decide (kv.1=k))=true↔k∈kvs.map (·.1):=by
 rw [List.any_eq_true,List.mem_map]
 constructor
 · rintro ⟨x,hx,h⟩;exact ⟨x,hx,of_decide_eq_true h⟩
 · rintro ⟨x,hx,h⟩;exact ⟨x,hx,decide_eq_true h⟩
theorem putTD_old {k:List Key} {v:PyData} {kvs:List (List Key×PyData)} (h:k∈kvs.map (·.1)):(putTD kvs k v).map (·.1)=kvs.map (·.1):=by
 unfold putTD
 rw [if_pos ((any_keys kvs).mpr h),List.map_map]
 refine List.map_congr_left fun x q_=> ?_
 show (if x.1=k then (x.1,v) else x).1=x.1
 split <;> rfl
theorem putTD_new {k:List Key} {v:PyData} {kvs:List (List Key×PyData)} (h:k ∉ kvs.map (·.1)):(putTD kvs k v).map (·.1)=kvs.map (·.1)++[k]:=by
 unfold putTD
 rw [if_neg (fun z=>h ((any_keys kvs).mp z)),List.map_append]
 rfl
theorem Rep.nil {m:Nat} {t:Rel} (h: ∀x y,x < m→y < m→t x y=false):Rep m t []:=by
 refine ⟨[],List.nodup_nil,rfl,fun q=>⟨(fun z=>nomatch z),fun z=> ?_⟩⟩
 obtain ⟨a,b,ha,hb,e,_⟩:=mem_pairsOf.mp z
 rw [h a b ha hb] at e;cases e
theorem Rep.get {m:Nat} {t:Rel} {kvs:List (List Key×PyData)} {a b:Nat} (h:Rep m t kvs) (ha:a < m) (hb:b < m):(getTD kvs (kP a b)).isSome=t a b:=by
 obtain ⟨qs,_,h2,h3⟩:=h
 rw [Bool.eq_iff_iff,getTD_some,h2,mem_kP,h3,mem_pairsOf']
 exact ⟨fun z=>z.2.2,fun z=>⟨ha,hb,z⟩⟩
theorem Rep.to {m:Nat} {t t':Rel} {kvs:List (List Key×PyData)} (h:Rep m t kvs) (e: ∀x y,x < m→y < m→t' x y=t x y):Rep m t' kvs:=by
 obtain ⟨qs,h1,h2,h3⟩:=h
 refine ⟨qs,h1,h2,fun q=>(h3 q).trans ?_⟩
 rw [mem_pairsOf,mem_pairsOf]
 constructor
 · rintro ⟨a,b,ha,hb,z,r⟩;exact ⟨a,b,ha,hb,by rw [e a b ha hb];exact z,r⟩
 · rintro ⟨a,b,ha,hb,z,r⟩;exact ⟨a,b,ha,hb,by rw [← e a b ha hb];exact z,r⟩
theorem Rep.put {m:Nat} {t t':Rel} {kvs:List (List Key×PyData)} {a b:Nat} {v:PyData} (h:Rep m t kvs) (ha:a < m) (hb:b < m) (e: ∀x y,x < m→y < m→t' x y=(t x y || decide (x=a∧y=b))):Rep m t' (putTD kvs (kP a b) v):=by
 obtain ⟨qs,h1,h2,h3⟩:=h
 by_cases hm:((a:Int),(b:Int))∈qs
 · have ht:t a b=true:=(mem_pairsOf'.mp ((h3 _).mp hm)).2.2
   refine Rep.to (t:=t) ⟨qs,h1,by rw [putTD_old (by rw [h2];exact mem_kP.mpr hm),h2],h3⟩ fun x y hx hy=> ?_
   rw [e x y hx hy]
   by_cases z:x=a∧y=b
   · rw [z.1,z.2,ht];rfl
   · simp [z]
 · refine ⟨qs++[((a:Int),(b:Int))],?_,?_,fun q=> ?_⟩
   · rw [List.nodup_append]
     exact ⟨h1,by simp,fun x hx y hy z=>hm (by rw [← List.mem_singleton.mp hy,← z];exact hx)⟩
   · rw [putTD_new (by rw [h2];exact fun z=>hm (mem_kP.mp z)),h2,List.map_append];rfl
   · rw [List.mem_append,List.mem_singleton,h3,mem_pairsOf,mem_pairsOf]
     constructor
     · rintro (⟨x,y,hx,hy,z,rfl⟩ | rfl)
       · exact ⟨x,y,hx,hy,by rw [e x y hx hy,z];rfl,rfl⟩
       · exact ⟨a,b,ha,hb,by rw [e a b ha hb];simp,rfl⟩
     · rintro ⟨x,y,hx,hy,z,rfl⟩
       rw [e x y hx hy,Bool.or_eq_true] at z
       rcases z with z | z
       · exact .inl ⟨x,y,hx,hy,z,rfl⟩
       · obtain ⟨rfl,rfl⟩:=of_decide_eq_true z
         exact .inr rfl
theorem row_lt (m:Nat) (t:Rel) (a:Nat):(rowOf m t a).Pairwise fun x y=>x.1 * 100 + x.2 < y.1 * 100 + y.2:=by
 unfold rowOf
 rw [List.pairwise_map]
 refine List.Pairwise.imp (fun {x y} h=> ?_) (List.Pairwise.filter _ List.pairwise_lt_range)
 dsimp only
 lia
theorem flat_lt {m:Nat} (hm:m≤16) (t:Rel): ∀n,((List.range n).flatMap (rowOf m t)).Pairwise fun x y=>x.1 * 100 + x.2 < y.1 * 100 + y.2
 | 0=>by simp
 | n + 1=>by
   rw [List.range_succ,List.flatMap_append,List.pairwise_append]
   refine ⟨flat_lt hm t n,by simp only [List.flatMap_cons,List.flatMap_nil,List.append_nil];exact row_lt m t n,fun x hx y hy=> ?_⟩
   simp only [List.flatMap_cons,List.flatMap_nil,List.append_nil] at hy
   obtain ⟨a,ha,hx⟩:=List.mem_flatMap.mp hx
   obtain ⟨b,hb,rfl⟩:=List.mem_map.mp hx
   obtain ⟨c,hc,rfl⟩:=List.mem_map.mp hy
   have ha:=List.mem_range.mp ha
   have hb:=List.mem_range.mp (List.mem_filter.mp hb).1
   dsimp only
   lia
theorem pairs_lt {m:Nat} (hm:m≤16) (t:Rel):(pairsOf m t).Pairwise fun x y=>x.1 * 100 + x.2 < y.1 * 100 + y.2:=flat_lt hm t m
theorem pairs_nd {m:Nat} (hm:m≤16) (t:Rel):(pairsOf m t).Nodup:=(pairs_lt hm t).imp fun {x y} h z=>by rw [z] at h;lia
theorem pairs_srt {m:Nat} (hm:m≤16) (t:Rel):Srt (pairsOf m t):=(pairs_lt hm t).imp fun {x y} h=>by lia
theorem pairs_inB {m:Nat} (hm:m≤16) (t:Rel):InB (pairsOf m t):=fun q hq=>by
 obtain ⟨a,b,ha,hb,_,rfl⟩:=mem_pairsOf.mp hq
 refine ⟨⟨?_,?_⟩,?_,?_⟩ <;> (dsimp only;lia)
theorem Rep.perm {m:Nat} {t:Rel} {kvs:List (List Key×PyData)} (hm:m≤16) (h:Rep m t kvs): ∃qs:List (Int×Int),kvs.map (·.1)=qs.map (fun q=>kP q.1 q.2)∧qs.Perm (pairsOf m t):=by
 obtain ⟨qs,h1,h2,h3⟩:=h
 exact ⟨qs,h2,(List.perm_ext_iff_of_nodup h1 (pairs_nd hm t)).mpr h3⟩
theorem Rep.len {m:Nat} {t:Rel} {kvs:List (List Key×PyData)} (hm:m≤16) (h:Rep m t kvs):kvs.length < 100000:=by
 obtain ⟨qs,h1,h2⟩:=h.perm hm
 have e:kvs.length=qs.length:=by rw [← List.length_map (·.1),h1,List.length_map]
 have:=pairsOf_len m t
 have mm:m * m≤16 * 16:=Nat.mul_le_mul hm hm
 rw [e,h2.length_eq]
 lia
theorem stp_eq (t:Rel) (k a b x y:Nat) (h:(t a k && t k b)=true):stp t k a b x y=(t x y || decide (x=a∧y=b)):=by
 unfold stp
 rw [if_pos h]
 by_cases z:x=a∧y=b <;> simp [z]
theorem stp_no (t:Rel) (k a b:Nat) (h: ¬(t a k && t k b)=true):stp t k a b=t:=by
 unfold stp
 rw [if_neg h]
theorem t0_snoc {ps:List (Int×Int)} {k:Nat} {a b:Nat} (h:ps[k]?=some ((a:Int),(b:Int))) (x y:Nat):t0 (ps.take (k + 1)) x y=(t0 (ps.take k) x y || (decide (x=a∧y=b) && decide (a≠b))):=by
 unfold t0
 rw [List.take_succ,h,Bool.eq_iff_iff,Bool.or_eq_true,Bool.and_eq_true,decide_eq_true_iff,decide_eq_true_iff,decide_eq_true_iff,decide_eq_true_iff,List.mem_append]
 constructor
 · rintro ⟨h1 | h1,h2⟩
   · exact .inl ⟨h1,h2⟩
   · have h1:((x:Int),(y:Int))=((a:Int),(b:Int)):=by simpa using h1
     injection h1 with e1 e2
     have e1:x=a:=by lia
     have e2:y=b:=by lia
     subst e1 e2
     exact .inr ⟨⟨rfl,rfl⟩,h2⟩
 · rintro (⟨h1,h2⟩ | ⟨⟨rfl,rfl⟩,h2⟩)
   · exact ⟨.inl h1,h2⟩
   · exact ⟨.inr (by simp),h2⟩
noncomputable def okM (m:Int):Prop:=1≤m∧m≤16
noncomputable def allR (m:Int) (ps:List (Int×Int)):Prop:=∀q∈ps,inR m q
noncomputable def rnd (m:Nat) (ps:List (Int×Int)):Prop:=∃a,a < m∧w1 m (t0 ps) m a a=true
noncomputable def Pled (ds:List PyData) (RS:Dt→Prop):Prop:=∃(m:Nat) (ps:List (Int×Int)),ds=[.int (m:Int),.list (ps.map pD)]∧m≤16∧allR m ps∧∀kvs,Rep m (w1 m (t0 ps) m) kvs→RS (.dt kvs)
noncomputable def PmadeE (K:PySem.W.Frag) (ds:List PyData) (RS:Dt→Prop) (W:Addr→Prop):Prop:=∃(m:Int) (ps:List (Int×Int)),ds=[.int m,.list (ps.map pD)]∧(¬ okM m→∀c,clsA K "TooMany" c→W c)∧(okM m→¬allR m ps→∀c,clsA K "NoPoint" c→W c)∧
 (okM m→allR m ps→rnd m.toNat ps→∀c,clsA K "Round" c→W c)∧(okM m→allR m ps→¬rnd m.toNat ps→RS (.d (spD m (clo m.toNat ps))))
noncomputable def dueG (m:Int) (ps:List (Int×Int)):Prop:=okM m∧allR m ps∧¬rnd m.toNat ps
noncomputable def cL (s:Str):List Nat:=s.cps.toList
noncomputable def mkS (l:List Nat):Str:=⟨l.toArray⟩
theorem cL_mk (l:List Nat):cL (mkS l)=l:=rfl
theorem cL_ext {a b:Str} (h:cL a=cL b):a=b:=by
 obtain ⟨⟨a⟩⟩:=a
 obtain ⟨⟨b⟩⟩:=b
 exact congrArg (fun l=>(⟨⟨l⟩⟩:Str)) h
theorem cL_app (a b:Str):cL (a++b)=cL a++cL b:=by unfold cL;rw [PySem.Str.cps_append,Array.toList_append]
theorem len_cL (s:Str):s.length=(cL s).length:=Array.length_toList.symm
noncomputable abbrev nS (i:Int):Str:=Str.ofString (toString i)
theorem nums_ok: ∀i:Fin 17,(60 ∉ cL (nS (i.val:Int))∧32 ∉ cL (nS (i.val:Int))∧58 ∉ cL (nS (i.val:Int)))∧(cL (nS (i.val:Int))).length≤2:=by decide +kernel
theorem nums_inj: ∀i j:Fin 17,nS (i.val:Int)=nS (j.val:Int)→i=j:=by decide +kernel
theorem nS_inj {i j:Nat} (hi:i≤16) (hj:j≤16) (h:nS (i:Int)=nS (j:Int)):i=j:=congrArg Fin.val (nums_inj ⟨i,by lia⟩ ⟨j,by lia⟩ h)
theorem nS_ok {i:Int} (h0:0≤i) (h1:i≤16):(60 ∉ cL (nS i)∧32 ∉ cL (nS i)∧58 ∉ cL (nS i))∧(cL (nS i)).length≤2:=by
 obtain ⟨j,rfl⟩:=Int.eq_ofNat_of_zero_le h0
 exact nums_ok ⟨j,by lia⟩
theorem log_ok {i:Int} (h0:0≤i) (h1:i≤16):i.natAbs.log2 < 1920:=by
 obtain ⟨j,rfl⟩:=Int.eq_ofNat_of_zero_le h0
 have: ∀k:Fin 17,(k.val:Int).natAbs.log2 < 1920:=by decide +kernel
 exact this ⟨j,by lia⟩
noncomputable def jl (c:Nat):List (List Nat)→List Nat
 | []=>[]
 | [x]=>x
 | x::y::r=>x++c::jl c (y::r)
theorem cut_one {c:Nat}: ∀{x y r1 r2:List Nat},c ∉ x→c ∉ y→x++c::r1=y++c::r2→x=y∧r1=r2
 | [],[],_,_,_,_,e=>⟨rfl,(List.cons.inj e).2⟩
 | [],b::y,_,_,_,hy,e=>absurd (by rw [(List.cons.inj e).1];exact List.mem_cons_self) hy
 | a::x,[],_,_,hx,_,e=>absurd (by rw [← (List.cons.inj e).1];exact List.mem_cons_self) hx
 | a::x,b::y,_,_,hx,hy,e=>by
   obtain ⟨e1,e2⟩:=List.cons.inj e
   obtain ⟨h1,h2⟩:=cut_one (fun z=>hx (List.mem_cons_of_mem _ z)) (fun z=>hy (List.mem_cons_of_mem _ z)) e2
   exact ⟨by rw [e1,h1],h2⟩
theorem jl_inj {c:Nat}: ∀{us vs:List (List Nat)},us≠[]→vs≠[]→(∀ x∈us,c ∉ x)→(∀ x∈vs,c ∉ x)→jl c us=jl c vs→us=vs
 | [],_,h,_,_,_,_=>absurd rfl h
 | _,[],_,h,_,_,_=>absurd rfl h
 | [x],[y],_,_,_,_,e=>congrArg (fun z=>[z]) e
 | [x],y::z::r,_,_,hu,_,e=>absurd (show c∈x by rw [show x=y++c::jl c (z::r) from e];simp) (hu x List.mem_cons_self)
 | x::z::r,[y],_,_,_,hv,e=>absurd (show c∈y by rw [← show x++c::jl c (z::r)=y from e];simp) (hv y List.mem_cons_self)
 | x::x2::r,y::y2::r2,_,_,hu,hv,e=>by
   obtain ⟨h1,h2⟩:=cut_one (hu x List.mem_cons_self) (hv y List.mem_cons_self) (show x++c::jl c (x2::r)=y++c::jl c (y2::r2) from e)
   rw [h1,jl_inj (by simp) (by simp) (fun z hz=>hu z (List.mem_cons_of_mem _ hz)) (fun z hz=>hv z (List.mem_cons_of_mem _ hz)) h2]
theorem join_cL (c:Nat): ∀ws:List Str,cL (Str.join ⟨#[c]⟩ ws)=jl c (ws.map cL)
 | []=>rfl
 | [x]=>rfl
 | x::y::r=>by
   have ih:=join_cL c (y::r)
   show cL (x++⟨#[c]⟩++Str.join ⟨#[c]⟩ (y::r))=_
   rw [cL_app,cL_app,ih,List.append_assoc]
   rfl
theorem split_ne (x y:Str):Txt.split x y≠[]:=by
 unfold Txt.split
 split
 · simp
 · split
   · simp
   · rw [StrLaws.partsBetween_eq]
     obtain ⟨p,r,e⟩:=StrLaws.partsFrom_ne x y.length 0 (Builtin.Str.occurrences x y 0 x.length (x.length + 1))
     rw [e];simp
theorem split_is {c:Nat} {x:Str} {ws:List Str} (hw:ws≠[]) (hf: ∀w∈ws,c ∉ cL w) (e:cL x=jl c (ws.map cL)):Txt.split x ⟨#[c]⟩=ws:=by
 have h1:=StrLaws.join_split x ⟨#[c]⟩
 have h2:jl c ((Txt.split x ⟨#[c]⟩).map cL)=jl c (ws.map cL):=by rw [← join_cL,h1,e]
 have h3:=jl_inj (by simpa using split_ne x ⟨#[c]⟩) (by simpa using hw) (fun z hz=>by
  obtain ⟨w,hw,rfl⟩:=List.mem_map.mp hz
  exact StrLaws.split_free x c w hw) (fun z hz=>by
  obtain ⟨w,hw,rfl⟩:=List.mem_map.mp hz
  exact hf w hw) h2
 exact (List.map_inj_right fun q_ q_=>cL_ext).mp h3
theorem split_cL (x:Str) (c:Nat):cL x=jl c ((Txt.split x ⟨#[c]⟩).map cL):=by rw [← join_cL,StrLaws.join_split]
noncomputable def wL (q:Int×Int):List Nat:=cL (nS q.1)++60::cL (nS q.2)
noncomputable def hL (n:Int):List Nat:=cL (nS n)++[58]
noncomputable def tL (n:Int) (qs:List (Int×Int)):List Nat:=hL n++qs.flatMap fun q=>32::wL q
noncomputable abbrev tS (n:Int) (qs:List (Int×Int)):Str:=mkS (tL n qs)
noncomputable def InN (q:Int×Int):Prop:=(0≤q.1∧q.1≤16)∧0≤q.2∧q.2≤16
theorem jl_words: ∀(h:List Nat) (ws:List (List Nat)),jl 32 (h::ws)=h++ws.flatMap fun w=>32::w
 | h,[]=>by simp [jl]
 | h,w::ws=>by
   show h++32::jl 32 (w::ws)=_
   rw [jl_words w ws]
   simp
theorem tL_jl (n:Int) (qs:List (Int×Int)):tL n qs=jl 32 (hL n::qs.map wL):=by
 rw [jl_words,List.flatMap_map]
 rfl
theorem wL_free {q:Int×Int} (h:InN q):32 ∉ wL q:=fun z=>by
 rcases List.mem_append.mp z with z | z
 · exact (nS_ok h.1.1 h.1.2).1.2.1 z
 · rcases List.mem_cons.mp z with z | z
   · cases z
   · exact (nS_ok h.2.1 h.2.2).1.2.1 z
theorem hL_free {n:Int} (h0:0≤n) (h1:n≤16):32 ∉ hL n:=fun z=>by
 rcases List.mem_append.mp z with z | z
 · exact (nS_ok h0 h1).1.2.1 z
 · have:=List.mem_singleton.mp z;cases this
theorem split_text {n:Int} {qs:List (Int×Int)} (h0:0≤n) (h1:n≤16) (hq: ∀q∈qs,InN q):Txt.split (tS n qs) ⟨#[32]⟩=mkS (hL n)::qs.map fun q=>mkS (wL q):=by
 refine split_is (by simp) (fun w hw=> ?_) ?_
 · rcases List.mem_cons.mp hw with rfl | hw
   · exact hL_free h0 h1
   · obtain ⟨q,hq2,rfl⟩:=List.mem_map.mp hw
     exact wL_free (hq q hq2)
 · rw [cL_mk,tL_jl,List.map_cons,List.map_map]
   rfl
theorem split_word {q:Int×Int} (h:InN q):Txt.split (mkS (wL q)) ⟨#[60]⟩=[nS q.1,nS q.2]:=by
 refine split_is (by simp) (fun w hw=> ?_) rfl
 rcases List.mem_cons.mp hw with rfl | hw
 · exact (nS_ok h.1.1 h.1.2).1.1
 · have:=List.mem_singleton.mp hw
   subst this
   exact (nS_ok h.2.1 h.2.2).1.1
theorem wL_len {q:Int×Int} (h:InN q):(wL q).length≤5:=by
 have a:=(nS_ok h.1.1 h.1.2).2
 have b:=(nS_ok h.2.1 h.2.2).2
 unfold wL
 rw [List.length_append,List.length_cons]
 lia
theorem hL_len {n:Int} (h0:0≤n) (h1:n≤16):(hL n).length≤3:=by
 have a:=(nS_ok h0 h1).2
 unfold hL
 rw [List.length_append,List.length_singleton]
 lia
theorem fl_len: ∀{qs:List (Int×Int)},(∀ q∈qs,InN q)→(qs.flatMap fun q=>32::wL q).length≤qs.length * 6
 | [],_=>by simp
 | q::qs,h=>by
   have ih:=fl_len (qs:=qs) fun q hq=>h q (List.mem_cons_of_mem _ hq)
   have a:=wL_len (h q List.mem_cons_self)
   rw [List.flatMap_cons,List.length_append,List.length_cons,List.length_cons]
   lia
theorem tS_len {n:Int} {qs:List (Int×Int)} (h0:0≤n) (h1:n≤16) (hq: ∀q∈qs,InN q) (hl:qs.length≤1000):(tS n qs).length≤6010:=by
 have a:=hL_len h0 h1
 have b:=fl_len hq
 rw [len_cL,cL_mk]
 unfold tL
 rw [List.length_append]
 lia
theorem ends_colon (x:List Nat):Txt.endswith (mkS (x++[58])) ⟨#[58]⟩=true:=by
 unfold Txt.endswith
 have e:(mkS (x++[58])).length=x.length + 1:=by rw [len_cL,cL_mk];simp
 have e1:(⟨#[58]⟩:Str).length=1:=rfl
 rw [e,e1,StrLaws.subAt_eq]
 simp [mkS,e1]
theorem ends_inv {w:Str} (h:Txt.endswith w ⟨#[58]⟩=true): ∃x,cL w=x++[58]:=by
 unfold Txt.endswith at h
 have e1:(⟨#[58]⟩:Str).length=1:=rfl
 rw [e1,StrLaws.subAt_eq,Bool.and_eq_true,e1] at h
 have h1:=of_decide_eq_true h.1
 have h2:List.take 1 (List.drop (w.length - 1) (cL w))=[58]:=eq_of_beq h.2
 have l:=len_cL w
 refine ⟨(cL w).take (w.length - 1),?_⟩
 conv=>lhs;rw [← List.take_append_drop (w.length - 1) (cL w)]
 have:(cL w).drop (w.length - 1)=[58]:=by
  rw [← h2]
  exact (List.take_of_length_le (by rw [List.length_drop];lia)).symm
 rw [this]
theorem slice_last {x:List Nat} {c:Nat}:Txt.slice (mkS (x++[c])) none (some (-1))=mkS x:=by
 have e:(mkS (x++[c])).length=x.length + 1:=by rw [len_cL,cL_mk];simp
 refine (StrLaws.sliceText_to_neg (x:=mkS (x++[c])) (j:= -1) (by lia) (by lia)).trans ?_
 have:(-1 + ((mkS (x++[c])).length:Int) - 0).toNat=x.length:=by rw [e];lia
 rw [this]
 show mkS _=mkS _
 congr 1
 rw [List.drop_zero]
 show (x++[c]).take x.length=x
 simp
noncomputable def btw (ps:List (Int×Int)) (a b:Int):Bool:=(po ps a).any fun p=>decide (p∈pu ps b)
noncomputable def nearF (ps:List (Int×Int)):List (Int×Int):=ps.filter fun q=> !btw ps q.1 q.2
theorem memPo {ps:List (Int×Int)} {p a:Int}:a∈po ps p↔(p,a)∈ps:=by
 unfold po
 rw [List.mem_map]
 constructor
 · rintro ⟨q,hq,rfl⟩
   obtain ⟨h1,h2⟩:=List.mem_filter.mp hq
   have:=of_decide_eq_true h2
   rw [← this];exact h1
 · exact fun h=>⟨_,List.mem_filter.mpr ⟨h,decide_eq_true rfl⟩,rfl⟩
theorem memPu {ps:List (Int×Int)} {p a:Int}:a∈pu ps p↔(a,p)∈ps:=by
 unfold pu
 rw [List.mem_map]
 constructor
 · rintro ⟨q,hq,rfl⟩
   obtain ⟨h1,h2⟩:=List.mem_filter.mp hq
   have:=of_decide_eq_true h2
   rw [← this];exact h1
 · exact fun h=>⟨_,List.mem_filter.mpr ⟨h,decide_eq_true rfl⟩,rfl⟩
theorem btw_iff {ps:List (Int×Int)} {a b:Int}:btw ps a b=true↔∃p,(a,p)∈ps∧(p,b)∈ps:=by
 unfold btw
 rw [List.any_eq_true]
 constructor
 · rintro ⟨p,hp,h⟩;exact ⟨p,memPo.mp hp,memPu.mp (of_decide_eq_true h)⟩
 · rintro ⟨p,h1,h2⟩;exact ⟨p,memPo.mpr h1,decide_eq_true (memPu.mpr h2)⟩
theorem flt_lt {α:Type} {p q:α→Bool} {c:α}: ∀{l:List α},(∀ x∈l,p x=true→q x=true)→c∈l→q c=true→p c=false→(l.filter p).length < (l.filter q).length
 | [],_,h,_,_=>nomatch h
 | x::l,hs,hc,h1,h2=>by
   have le: ∀{l:List α},(∀ x∈l,p x=true→q x=true)→(l.filter p).length≤(l.filter q).length:=fun {l}=>by
    induction l with
    | nil=>exact fun q_=>Nat.le_refl _
    | cons y l ih=>
      intro h
      have i:=ih fun x hx=>h x (List.mem_cons_of_mem _ hx)
      have hy:=h y List.mem_cons_self
      rw [List.filter_cons,List.filter_cons]
      by_cases z:p y=true
      · rw [if_pos z,if_pos (hy z),List.length_cons,List.length_cons];lia
      · rw [if_neg z]
        split
        · rw [List.length_cons];lia
        · exact i
   rw [List.filter_cons,List.filter_cons]
   rcases List.mem_cons.mp hc with e | hc
   · rw [← e,if_pos h1,if_neg (by rw [h2];exact Bool.false_ne_true),List.length_cons]
     have:=le fun x hx=>hs x (List.mem_cons_of_mem _ hx)
     lia
   · have i:=flt_lt (fun x hx=>hs x (List.mem_cons_of_mem _ hx)) hc h1 h2
     by_cases z:p x=true
     · rw [if_pos z,if_pos (hs x List.mem_cons_self z),List.length_cons,List.length_cons];lia
     · rw [if_neg z]
       split
       · rw [List.length_cons];lia
       · exact i
theorem pairsOf_cong {m:Nat} {t u:Rel} (h: ∀a b,a < m→b < m→t a b=u a b):pairsOf m t=pairsOf m u:=by
 unfold pairsOf rowOf
 have: ∀a,a < m→(List.range m).filter (t a)=(List.range m).filter (u a):=fun a ha=>List.filter_congr fun b hb=>h a b ha (List.mem_range.mp hb)
 rw [List.flatMap_def,List.flatMap_def]
 congr 1
 refine List.map_congr_left fun a ha=> ?_
 rw [this a (List.mem_range.mp ha)]
theorem clo_near {n:Nat} {ps:List (Int×Int)} (h:IsSp n ps):clo n (nearF ps)=ps:=by
 obtain ⟨t,e,irr,tr⟩:=h
 have mem: ∀{a b:Nat},a < n→b < n→(((a:Int),(b:Int))∈ps↔t a b=true):=fun {a b} ha hb=>by
  rw [e,mem_pairsOf']
  exact ⟨fun z=>z.2.2,fun z=>⟨ha,hb,z⟩⟩
 unfold clo
 conv=>rhs;rw [e]
 have up: ∀k a b,a < n→b < n→((List.range n).filter fun c=>t a c && t c b).length≤k→t a b=true→w1 n (t0 (nearF ps)) n a b=true:=by
  intro k
  induction k with
  | zero=>
    intro a b ha hb hk hab
    refine w1_sub n _ n a b (decide_eq_true ⟨List.mem_filter.mpr ⟨(mem ha hb).mpr hab,?_⟩,fun z=>by rw [z,irr b hb] at hab;cases hab⟩)
    rw [Bool.not_eq_true']
    refine Bool.eq_false_iff.mpr fun z=> ?_
    obtain ⟨p,h1,h2⟩:=btw_iff.mp z
    have h1':=h1
    rw [e] at h1'
    obtain ⟨x,y,hx,hy,_,q⟩:=mem_pairsOf.mp h1'
    have q2:p=(y:Int):=congrArg Prod.snd q
    subst q2
    have m:y∈(List.range n).filter fun c=>t a c && t c b:=List.mem_filter.mpr ⟨List.mem_range.mpr hy,by rw [(mem ha hy).mp h1,(mem hy hb).mp h2];rfl⟩
    have:=List.length_pos_of_mem m
    lia
  | succ k ih=>
    intro a b ha hb hk hab
    by_cases hc: ∃c,c < n∧t a c=true∧t c b=true
    · obtain ⟨c,hc,h1,h2⟩:=hc
      have l1:((List.range n).filter fun x=>t a x && t x c).length < ((List.range n).filter fun x=>t a x && t x b).length:=flt_lt (c:=c) (fun x hx z=>by
       have z:=Bool.and_eq_true_iff.mp z
       rw [z.1,tr x c b (List.mem_range.mp hx) hc hb z.2 h2];rfl) (List.mem_range.mpr hc) (by rw [h1,h2];rfl) (by rw [irr c hc,Bool.and_false])
      have l2:((List.range n).filter fun x=>t c x && t x b).length < ((List.range n).filter fun x=>t a x && t x b).length:=flt_lt (c:=c) (fun x hx z=>by
       have z:=Bool.and_eq_true_iff.mp z
       rw [z.2,tr a c x ha hc (List.mem_range.mp hx) h1 z.1];rfl) (List.mem_range.mpr hc) (by rw [h1,h2];rfl) (by rw [irr c hc,Bool.false_and])
      exact w1_trans n _ n (Nat.le_refl _) c a b hc ha hb (ih a c ha hc (by lia) h1) (ih c b hc hb (by lia) h2)
    · refine ih a b ha hb ?_ hab
      have:((List.range n).filter fun c=>t a c && t c b)=[]:=List.filter_eq_nil_iff.mpr fun c hc2 z=>hc (by
       have z:=Bool.and_eq_true_iff.mp z
       exact ⟨c,List.mem_range.mp hc2,z.1,z.2⟩)
      rw [this];exact Nat.zero_le _
 refine pairsOf_cong fun a b ha hb=> ?_
 rw [Bool.eq_iff_iff]
 refine ⟨fun z=> ?_,fun z=>up _ a b ha hb (Nat.le_refl _) z⟩
 refine w1_min n _ (fun a b=>t a b=true) (fun x y hx hy z=> ?_) tr n a b (Nat.le_refl _) ha hb z
 exact (mem hx hy).mp (List.mem_filter.mp (of_decide_eq_true z).1).1
theorem near_inR {n:Nat} {ps:List (Int×Int)} (h: ∀q∈ps,inR n q): ∀q∈nearF ps,inR n q:=fun q hq=>h q (List.mem_filter.mp hq).1
theorem inR_N {n:Nat} (hn:n≤16) {q:Int×Int} (h:inR n q):InN q:=by
 obtain ⟨h1,h2,h3,h4⟩:=h
 exact ⟨⟨h1,by lia⟩,h3,by lia⟩
noncomputable def Pnear (ds:List PyData) (RS:Dt→Prop):Prop:=∃(n:Nat) (ps:List (Int×Int)),ds=[spD n ps]∧n≤16∧(∀ q∈ps,inR n q)∧RS (.o ((nearF ps).map pD))
noncomputable def Pwrit (ds:List PyData) (RS:Dt→Prop):Prop:=∃(n:Nat) (ps:List (Int×Int)),ds=[spD n ps]∧n≤16∧ps.length≤1000∧(∀ q∈ps,inR n q)∧RS (.d (.str (tS n (nearF ps))))
noncomputable def PnumE (K:PySem.W.Frag) (ds:List PyData) (RS:Dt→Prop) (W:Addr→Prop):Prop:=∃w:Str,ds=[.str w]∧(∀ i:Nat,i≤16→w=nS i→RS (.d (.int (i:Int))))∧((∀ i:Nat,i≤16→w≠nS i)→∀c,clsA K "NotRead" c→W c)
noncomputable def PmanyE (K:PySem.W.Frag) (ds:List PyData) (RS:Dt→Prop) (W:Addr→Prop):Prop:=∃w:Str,ds=[.str w]∧w.length≤100000∧(∀ i:Nat,i≤16→w=mkS (hL i)→RS (.d (.int (i:Int))))∧((∀ i:Nat,i≤16→w≠mkS (hL i))→∀c,clsA K "NotRead" c→W c)
noncomputable def PpairE (K:PySem.W.Frag) (ds:List PyData) (RS:Dt→Prop) (W:Addr→Prop):Prop:=∃w:Str,ds=[.str w]∧w.length≤100000∧(∀ a b:Nat,a≤16→b≤16→w=mkS (wL (a,b))→RS (.d (pD (a,b))))∧((∀ a b:Nat,a≤16→b≤16→w≠mkS (wL (a,b)))→∀c,clsA K "NotRead" c→W c)
theorem jl_len (c:Nat): ∀us:List (List Nat),us.length≤(jl c us).length + 1
 | []=>Nat.zero_le _
 | [x]=>by simp
 | x::y::r=>by
   have ih:=jl_len c (y::r)
   show (x::y::r).length≤(x++c::jl c (y::r)).length + 1
   rw [List.length_append,List.length_cons,List.length_cons]
   rw [List.length_cons] at ih
   rw [List.length_cons]
   lia
theorem split_len (x:Str) (c:Nat):(Txt.split x ⟨#[c]⟩).length≤x.length + 1:=by
 have:=jl_len c ((Txt.split x ⟨#[c]⟩).map cL)
 rw [← split_cL,List.length_map,← len_cL] at this
 exact this
theorem split_sz {x:Str} {c:Nat} (h:x.length≤100000):(Txt.split x ⟨#[c]⟩).length≤sizeLine:=Nat.le_trans (split_len x c) (Nat.succ_le_of_lt (szlt' h))
theorem at_rngF {n:Nat} {f:Int→PyData} {k:Int} (h0:0≤k) (h1:k < n):atI ((rngI n).map f) k=some (f k):=by
 obtain ⟨j,rfl⟩:=Int.eq_ofNat_of_zero_le h0
 refine atI_nat (j:=j) ?_
 unfold rngI
 rw [List.getElem?_map,List.getElem?_map,List.getElem?_range (by lia)]
 rfl
theorem any_ints' (l:List Int) (x:Int):((l.map PyData.int).any fun d=>d.eqv (PyData.int x))=decide (x∈l):=by
 induction l with
 | nil=>simp
 | cons y l ih=>
   rw [List.map_cons,List.any_cons,ih,eqv_int]
   by_cases h:y=x
   · simp [h]
   · have: ¬x=y:=fun z=>h z.symm
     simp [h,this]
theorem sp_is:Str.ofString " "=⟨#[32]⟩:=by decide +kernel
theorem lt_is:Str.ofString "<"=⟨#[60]⟩:=by decide +kernel
theorem co_is:Str.ofString ":"=⟨#[58]⟩:=by decide +kernel
theorem em_is:Str.ofString ""=Str.empty:=by decide +kernel
theorem hS_eq (n:Int):nS n++Str.ofString ":"=mkS (hL n):=cL_ext (by rw [cL_app,co_is];rfl)
theorem pS_eq (a b:Int):Str.ofString " "++nS a++Str.ofString "<"++nS b=mkS (32::wL (a,b)):=cL_ext (by rw [cL_app,cL_app,cL_app,sp_is,lt_is];show ([32]++cL (nS a)++[60])++cL (nS b)=32::(cL (nS a)++60::cL (nS b));simp)
theorem hS_len {n:Int} (h0:0≤n) (h1:n≤16):(nS n).length≤100000∧(mkS (hL n)).length≤100000:=by
 have a:=(nS_ok h0 h1).2
 have b:=hL_len h0 h1
 rw [len_cL,len_cL,cL_mk]
 lia
theorem pS_len {a b:Int} (h:InN (a,b)):(Str.ofString " ").length≤100000∧(Str.ofString " "++nS a).length≤100000∧(Str.ofString " "++nS a++Str.ofString "<").length≤100000∧(mkS (32::wL (a,b))).length≤100000:=by
 have c:=wL_len h
 have d:=(nS_ok h.1.1 h.1.2).2
 have e:(cL (Str.ofString " ")).length=1:=by rw [sp_is];rfl
 have f:(cL (Str.ofString "<")).length=1:=by rw [lt_is];rfl
 simp only [len_cL,cL_app,List.length_append,cL_mk,List.length_cons,e,f]
 dsimp only at d
 lia
theorem join_nil: ∀ws:List Str,cL (Txt.join (Str.ofString "") ws)=(ws.map cL).flatten:=by
 intro ws
 show cL (Builtin.Str.glued (Str.ofString "") ws)=_
 rw [StrLaws.glued_eq_join,em_is]
 induction ws with
 | nil=>rfl
 | cons x ws ih=>
   cases ws with
   | nil=>show cL x=([cL x]:List (List Nat)).flatten;simp
   | cons y r=>
     show cL (x++Str.empty++Str.join Str.empty (y::r))=_
     rw [cL_app,cL_app,ih]
     show cL x++[]++_=_
     simp
theorem join_ok {ws:List Str} (h: ∀w∈ws,w.length≤6) (hl:ws.length≤1000):JoinOk (Str.ofString "") ws=true:=by
 unfold JoinOk
 rw [StrLaws.joinFits (B:=6) h (by rw [em_is];show ws.length * 6 + ws.length * 0≤_;lia)]
 rfl
theorem text_eq (n:Int) (qs:List (Int×Int)):mkS (hL n)++Txt.join (Str.ofString "") (qs.map fun q=>mkS (32::wL q))=tS n qs:=cL_ext (by
 rw [cL_app,join_nil,cL_mk,List.map_map]
 show hL n++(qs.map fun q=>32::wL q).flatten=hL n++qs.flatMap fun q=>32::wL q
 rw [List.flatMap_def])
theorem hL_inj {i j:Nat} (hi:i≤16) (hj:j≤16) (h:mkS (hL i)=mkS (hL j)):i=j:=by
 have h:=congrArg cL h
 rw [cL_mk,cL_mk] at h
 exact nS_inj hi hj (cL_ext (List.append_cancel_right h))
theorem wL_inj {a b c d:Nat} (ha:a≤16) (hb:b≤16) (hc:c≤16) (hd:d≤16) (h:mkS (wL (a,b))=mkS (wL (c,d))):a=c∧b=d:=by
 have h:=congrArg cL h
 rw [cL_mk,cL_mk] at h
 obtain ⟨h1,h2⟩:=cut_one (nS_ok (by lia) (by lia:(a:Int)≤16)).1.1 (nS_ok (by lia) (by lia:(c:Int)≤16)).1.1 h
 exact ⟨nS_inj ha hc (cL_ext h1),nS_inj hb hd (cL_ext h2)⟩
theorem sp_due {n:Nat} {ps:List (Int×Int)} (h1:1≤n) (h2:n≤16) (h:IsSp n ps):dueG n (nearF ps)∧clo n (nearF ps)=ps:=by
 have e:=clo_near h
 refine ⟨⟨⟨by lia,by lia⟩,near_inR h.inR,?_⟩,e⟩
 rw [Int.toNat_natCast]
 rintro ⟨a,ha,z⟩
 have m:((a:Int),(a:Int))∈clo n (nearF ps):=mem_pairsOf'.mpr ⟨ha,ha,z⟩
 rw [e] at m
 obtain ⟨t,rfl,irr,_⟩:=h
 have:=(mem_pairsOf'.mp m).2.2
 rw [irr a ha] at this
 cases this
theorem cut_one_on {a:PyData} {l:List PyData}:cutD (a::l) (some 1) none=l:=by
 have e1:HT.sIx (a::l).length 0 (some 1)=1:=by
  unfold HT.sIx
  rw [List.length_cons]
  simp
 have e2:HT.sIx (a::l).length (a::l).length none=l.length + 1:=by
  unfold HT.sIx
  rw [List.length_cons]
 unfold cutD
 rw [e1,e2]
 simp
theorem wL_injN {x y:Int×Int} (hx:InN x) (hy:InN y) (h:PyData.str (mkS (wL x))=PyData.str (mkS (wL y))):x=y:=by
 obtain ⟨a,ea⟩:=Int.eq_ofNat_of_zero_le hx.1.1
 obtain ⟨b,eb⟩:=Int.eq_ofNat_of_zero_le hx.2.1
 obtain ⟨c,ec⟩:=Int.eq_ofNat_of_zero_le hy.1.1
 obtain ⟨d,ed⟩:=Int.eq_ofNat_of_zero_le hy.2.1
 have e1:x=((a:Int),(b:Int)):=Prod.ext ea eb
 have e2:y=((c:Int),(d:Int)):=Prod.ext ec ed
 have k1:=hx.1.2
 have k2:=hx.2.2
 have k3:=hy.1.2
 have k4:=hy.2.2
 rw [e1,e2] at h
 injection h with h
 obtain ⟨rfl,rfl⟩:=wL_inj (by lia) (by lia) (by lia) (by lia) h
 rw [e1,e2]
theorem text_snoc (n:Int) (qs:List (Int×Int)) (q:Int×Int):tS n qs++Str.ofString " "++nS q.1++Str.ofString "<"++nS q.2=tS n (qs++[q]):=cL_ext (by
 rw [cL_app,cL_app,cL_app,cL_app,sp_is,lt_is,cL_mk,cL_mk]
 unfold tL
 rw [List.flatMap_append]
 show (hL n++qs.flatMap (fun q=>32::wL q))++[32]++cL (nS q.1)++[60]++cL (nS q.2)=hL n++(qs.flatMap (fun q=>32::wL q)++[q].flatMap fun q=>32::(cL (nS q.1)++60::cL (nS q.2)))
 simp)
section
variable {P:Program} {w:World} {K:PySem.W.Frag} {mg:Str→Option Value} {base:Heap}
theorem scRfE:FnScope ["many"] ["many"] (defScope s_refuse_too_many):=⟨rfl,rfl,rfl,by decide +kernel,rfl,by decide +kernel,by decide +kernel⟩
theorem ok_RfE {f:Addr} {fd:FuncData} {c0 c1 c2 c3 c4 c5:Addr} (F:Fun K "refuse_too_many" "refuse_too_many" s_refuse_too_many f fd) (T:Txt K mg) (Z:XT K mg c0 c1 c2 c3 c4 c5):
 FnOk P w K mg base (CXE P w) 1 f fd ["many"] (spE K (PrefE K)):=by
 refine F.okE' scRfE (fun ds RS W h=> ?_) fun W=>⟨_,fun cdv A outer s H E hW hr=>(dss_one (ds_if (dt_not (dt_chain od_le od_le (de_int).bw (db_var 0) (de_gint (fun q_=>Z.g_MOST_POINTS)).bw)) (dss_one (ds_raise Z.x1.own Z.x1.m hW)) dss_nil)),fun ds RS h=> ?_⟩
 · obtain ⟨m,rfl,_⟩:=h;rfl
 · obtain ⟨m,rfl,hR,hX⟩:=h
   simp only [rD]
   by_cases h1:(1:Int)≤m
   · rw [if_pos (decide_eq_true h1)]
     by_cases h2:m≤16
     · exact iteN (by rw [decide_eq_true h2];rfl) (hR ⟨h1,h2⟩)
     · rw [decide_eq_false h2]
       exact hX (fun z=>h2 z.2) _ Z.x1.a
   · rw [if_neg (by rw [decide_eq_false h1];exact Bool.false_ne_true)]
     exact hX (fun z=>h1 z.1) _ Z.x1.a
end
section
variable {P:Program} {w:World} {K:PySem.W.Frag} {mg:Str→Option Value} {base:Heap}
theorem scLd:FnScope ["many","pairs","led","a","b","middle"] ["many","pairs"] (defScope s_led_on):=⟨rfl,rfl,rfl,by decide +kernel,rfl,by decide +kernel,by decide +kernel⟩
theorem ok_Ld {f:Addr} {fd:FuncData} (F:Fun K "led_on" "led_on" s_led_on f fd) (T:Txt K mg):
 FnOk P w K mg base CX0 1 f fd ["many","pairs"] (spG K Pled):=by
 refine F.okG scLd (fun ds RS h=> ?_) (fun cdv A outer s H E hr=>(dss_cons (ds_newT 2 (fun q_=>scLd.nd))
  (dss_cons (ds_for (fun q_=>PassesOwn.never) (di_seq (de_var 1)) (dg_tup2 3 4 (fun q_=>scLd.nd)) (dss_one (ds_if (dt_cmp (od_ne (fun q_=>room_u hr (by decide))) (db_var 3) (db_var 4)) (dss_one (ds_putT 2 (fun q_=>room_u hr (by decide)) (de_tup (da_cons (de_var 3) (da_cons (de_var 4) da_nil))) (de_bl))) dss_nil)))
  (dss_cons (ds_for (fun q_=>PassesOwn.never) (di_range1 (db_var 0) (fun q_=>T.range)) (dg_name 5 (fun q_=>scLd.nd)) (dss_one (ds_for (fun q_=>PassesOwn.never) (di_range1 (db_var 0) (fun q_=>T.range)) (dg_name 3 (fun q_=>scLd.nd)) (dss_one (ds_for (fun q_=>PassesOwn.never) (di_range1 (db_var 0) (fun q_=>T.range)) (dg_name 4 (fun q_=>scLd.nd)) (dss_one (ds_if ((dw_and (dt_inT 2 (fun q_=>room_u hr (by decide)) (de_tup (da_cons (de_var 3) (da_cons (de_var 5) da_nil)))) (dw_and1 (dt_inT 2 (fun q_=>room_u hr (by decide)) (de_tup (da_cons (de_var 5) (da_cons (de_var 4) da_nil)))))).t) (dss_one (ds_putT 2 (fun q_=>room_u hr (by decide)) (de_tup (da_cons (de_var 3) (da_cons (de_var 4) da_nil))) (de_bl))) dss_nil)))))))
  (dss_one (ds_retV 2)))))) (fun ds RS h=> ?_)
 · obtain ⟨m,ps,rfl,_⟩:=h;rfl
 · obtain ⟨m,ps,rfl,hm,ha,hR⟩:=h
   refine seq_d (fun env=>env=[.d (.int (m:Int)),.d (.list (ps.map pD)),.dt [],.un,.un,.un]) (fun N hN=> ?_) ?_
   · simp only [rD]
     exact hN _ rfl
   rintro env rfl
   refine seq_d (fun env=>∃kvs,Rep m (t0 ps) kvs∧∃v3 v4,env=[.d (.int (m:Int)),.d (.list (ps.map pD)),.dt kvs,v3,v4,.un]) (fun N hN=> ?_) ?_
   · refine ⟨_,rfl,_,rfl,fun k env=>∃kvs,Rep m (t0 (ps.take k)) kvs∧∃v3 v4,env=[.d (.int (m:Int)),.d (.list (ps.map pD)),.dt kvs,v3,v4,.un],⟨[],Rep.nil (fun x y q_ q_=>by simp [t0]),_,_,rfl⟩,?_,?_⟩
     · rintro k y env hy ⟨kvs,hk,v3,v4,rfl⟩
       rw [List.getElem?_map] at hy
       obtain ⟨q,hq,rfl⟩:=Option.map_eq_some_iff.mp hy
       obtain ⟨h1,h2,h3,h4⟩:=ha q (List.mem_of_getElem? hq)
       obtain ⟨x,y⟩:=q
       obtain ⟨a,rfl⟩:=Int.eq_ofNat_of_zero_le h1
       obtain ⟨b,rfl⟩:=Int.eq_ofNat_of_zero_le h3
       dsimp only at h2 h4
       have am:a < m:=by lia
       have bm:b < m:=by lia
       have ts:=t0_snoc hq
       simp only [rD]
       refine ⟨_,_,rfl,okI _,okI _,.inl (shI _),?_⟩
       rw [eqv_int]
       by_cases e:a=b
       · rw [if_neg (by simp [e])]
         exact ⟨kvs,hk.to (fun x y q_ q_=>by rw [ts x y];simp [e]),_,_,rfl⟩
       · rw [if_pos (by simp;lia)]
         exact ⟨hk.len hm,_,_,rfl,_,hk.put am bm (fun x y q_ q_=>by rw [ts x y];simp [e]),_,_,rfl⟩
     · rintro env ⟨kvs,hk,v3,v4,rfl⟩
       rw [List.length_map,List.take_length] at hk
       exact hN _ ⟨kvs,hk,_,_,rfl⟩
   rintro env ⟨kvs,hk,v3,v4,rfl⟩
   refine seq_d (fun env=>∃kvs,Rep m (w1 m (t0 ps) m) kvs∧∃v3 v4 v5,env=[.d (.int (m:Int)),.d (.list (ps.map pD)),.dt kvs,v3,v4,v5]) (fun N hN=> ?_) ?_
   · refine ⟨_,_,rfl,rfl,_,rfl,by lia,by lia,fun k env=>∃kvs,Rep m (w1 m (t0 ps) k) kvs∧∃v3 v4 v5,env=[.d (.int (m:Int)),.d (.list (ps.map pD)),.dt kvs,v3,v4,v5],⟨kvs,hk,_,_,_,rfl⟩,?_,?_⟩
     · rintro k y env hy ⟨kvs,hk,v3,v4,v5,rfl⟩
       obtain ⟨km,rfl⟩:=ints_get hy
       rw [Int.zero_add]
       have km:k < m:=km
       refine ⟨_,_,rfl,rfl,_,rfl,by lia,by lia,fun a env=>∃kvs,Rep m (w2 m (w1 m (t0 ps) k) k a) kvs∧∃v3 v4,env=[.d (.int (m:Int)),.d (.list (ps.map pD)),.dt kvs,v3,v4,.d (.int (k:Int))],⟨kvs,hk,_,_,rfl⟩,?_,?_⟩
       · rintro a y env hy ⟨kvs,hk,v3,v4,rfl⟩
         obtain ⟨am,rfl⟩:=ints_get hy
         rw [Int.zero_add]
         have am:a < m:=am
         refine ⟨_,_,rfl,rfl,_,rfl,by lia,by lia,fun b env=>∃kvs,Rep m (w3 (w2 m (w1 m (t0 ps) k) k a) k a b) kvs∧∃v4,env=[.d (.int (m:Int)),.d (.list (ps.map pD)),.dt kvs,.d (.int (a:Int)),v4,.d (.int (k:Int))],⟨kvs,hk,_,rfl⟩,?_,?_⟩
         · rintro b y env hy ⟨kvs,hk,v4,rfl⟩
           obtain ⟨bm,rfl⟩:=ints_get hy
           rw [Int.zero_add]
           have bm:b < m:=bm
           simp only [rD]
           refine ⟨_,_,rfl,?_⟩
           rw [hk.get am km]
           generalize hu:w3 (w2 m (w1 m (t0 ps) k) k a) k a b=u at hk
           have step: ∀kvs',Rep m (stp u k a b) kvs'→Rep m (w3 (w2 m (w1 m (t0 ps) k) k a) k a (b + 1)) kvs':=fun kvs' z=>by
            show Rep m (stp (w3 (w2 m (w1 m (t0 ps) k) k a) k a b) k a b) kvs'
            rw [hu];exact z
           cases e1:u a k with
           | false=>
             rw [if_neg Bool.false_ne_true,if_neg (fun z=>z)]
             exact ⟨kvs,step _ (by rw [stp_no u k a b (by rw [e1];exact Bool.false_ne_true)];exact hk),_,rfl⟩
           | true=>
             rw [if_pos rfl]
             refine ⟨_,_,rfl,?_⟩
             rw [hk.get km bm]
             cases e2:u k b with
             | false=>
               rw [if_neg Bool.false_ne_true]
               exact ⟨kvs,step _ (by rw [stp_no u k a b (by rw [e1,e2];exact Bool.false_ne_true)];exact hk),_,rfl⟩
             | true=>
               rw [if_pos rfl]
               exact ⟨hk.len hm,_,_,rfl,_,step _ (hk.put am bm fun x y q_ q_=>stp_eq u k a b x y (by rw [e1,e2];rfl)),_,rfl⟩
         · rintro env ⟨kvs,hk,v4,rfl⟩
           rw [ints_rng,List.length_map,rngI_len,Int.toNat_natCast] at hk
           exact ⟨kvs,hk,_,_,rfl⟩
       · rintro env ⟨kvs,hk,v3,v4,rfl⟩
         rw [ints_rng,List.length_map,rngI_len,Int.toNat_natCast] at hk
         exact ⟨kvs,hk,_,_,_,rfl⟩
     · rintro env ⟨kvs,hk,v3,v4,v5,rfl⟩
       rw [ints_rng,List.length_map,rngI_len,Int.toNat_natCast] at hk
       exact hN _ ⟨kvs,hk,_,_,_,rfl⟩
   rintro env ⟨kvs,hk,v3,v4,v5,rfl⟩
   simp only [rD]
   exact hR _ hk
end
section
variable {P:Program} {w:World} {K:PySem.W.Frag} {mg:Str→Option Value} {base:Heap}
theorem scMdE:FnScope ["many","pairs","a","b","led","point"] ["many","pairs"] (defScope s_made):=⟨rfl,rfl,rfl,by decide +kernel,rfl,by decide +kernel,by decide +kernel⟩
theorem ok_MdE {f:Addr} {fd:FuncData} {c0 c1 c2 c3 c4 c5:Addr} (F:Fun K "made" "made" s_made f fd) (T:Txt K mg) (Z:XT K mg c0 c1 c2 c3 c4 c5) (GRfE:FnE P w K mg base "refuse_too_many" 1 ["many"] (PrefE K)) (GDPt:Fn P w K mg base "is_point" 1 ["many","number"] (spG K Ppoint)) (GLd:Fn P w K mg base "led_on" 1 ["many","pairs"] (spG K Pled)):
 FnOk P w K mg base (CXE P w) 2 f fd ["many","pairs"] (spE K (PmadeE K)):=by
 refine F.okE' scMdE (fun ds RS W h=> ?_) fun W=>⟨_,fun cdv A outer s H E hW hr=>(dss_cons (ds_expr (de_callE GRfE (fun q_=>hr.mono (by decide)) hW (fun q_=>passE) (da_cons (de_var 0) da_nil)))
  (dss_cons (ds_for (fun q_=>PassesOwn.leaving) (di_seq (de_var 1)) (dg_tup2 2 3 (fun q_=>scMdE.nd)) (dss_one (ds_if (dt_not ((dw_and (dt_val (de_call GDPt (fun q_=>hr.mono (by decide)) (da_cons (de_var 0) (da_cons (de_var 2) da_nil))).bw) (dw_and1 (dt_val (de_call GDPt (fun q_=>hr.mono (by decide)) (da_cons (de_var 0) (da_cons (de_var 3) da_nil))).bw))).t)) (dss_one (ds_raise Z.x2.own Z.x2.m hW)) dss_nil)))
  (dss_cons (ds_callV 4 (fun q_=>scMdE.nd) GLd (fun q_=>hr.mono (by decide)) (da_cons (de_var 0) (da_cons (de_var 1) da_nil)))
  (dss_cons (ds_for (fun q_=>PassesOwn.leaving) (di_range1 (db_var 0) (fun q_=>T.range)) (dg_name 5 (fun q_=>scMdE.nd)) (dss_one (ds_if (dt_inT 4 (fun q_=>room_u hr (by decide)) (de_tup (da_cons (de_var 5) (da_cons (de_var 5) da_nil)))) (dss_one (ds_raise Z.x3.own Z.x3.m hW)) dss_nil)))
  (dss_one (ds_ret (de_tup (da_cons (de_var 0) (da_cons (de_tuple (do_sortT 4 (fun q_=>T.sorted) (fun q_=>room_u hr (by decide))) (fun q_=>T.tuple)) da_nil))))))))),fun ds RS h=> ?_⟩
 · obtain ⟨m,ps,rfl,_⟩:=h;rfl
 · obtain ⟨m,ps,rfl,hT,hP,hC,hR⟩:=h
   by_cases hm:okM m
   case neg=>
    refine seq_d (fun env=>False) (fun N hN=> ?_) (fun q_ z=>z.elim)
    simp only [rD]
    exact ⟨_,rfl,fun z=>absurd z hm,fun q_ c hc=>hT hm c hc⟩
   obtain ⟨M,rfl⟩:=Int.eq_ofNat_of_zero_le (show 0≤m by have:=hm.1;lia)
   have hM:M≤16:=by have:=hm.2;lia
   have hP:=hP hm
   have hC:=hC hm
   have hR:=hR hm
   rw [Int.toNat_natCast] at hC hR
   refine seq_d (fun env=>env=[.d (.int (M:Int)),.d (.list (ps.map pD)),.un,.un,.un,.un]) (fun N hN=> ?_) ?_
   · simp only [rD]
     exact ⟨_,rfl,fun q_=>⟨_,rfl,hN _ rfl⟩,fun z=>absurd hm z⟩
   rintro env rfl
   refine seq_d (fun env=>allR M ps∧∃v2 v3,env=[.d (.int (M:Int)),.d (.list (ps.map pD)),v2,v3,.un,.un]) (fun N hN=> ?_) ?_
   · refine ⟨_,rfl,_,rfl,fun k env=>(∀ q∈ps.take k,inR M q)∧∃v2 v3,env=[.d (.int (M:Int)),.d (.list (ps.map pD)),v2,v3,.un,.un],⟨fun q hq=>(by simp at hq),_,_,rfl⟩,?_,?_⟩
     · rintro k y env hy ⟨hk,v2,v3,rfl⟩
       rw [List.getElem?_map] at hy
       obtain ⟨q,hq,rfl⟩:=Option.map_eq_some_iff.mp hy
       have hqm:=List.mem_of_getElem? hq
       simp only [rD]
       refine ⟨_,_,rfl,_,_,rfl,_,rfl,_,rfl,?_⟩
       by_cases e1:0≤q.1∧q.1 < (M:Int)
       · rw [decide_eq_true e1,if_pos rfl]
         refine ⟨_,_,rfl,_,rfl,_,rfl,?_⟩
         by_cases e2:0≤q.2∧q.2 < (M:Int)
         · rw [decide_eq_true e2]
           refine iteN rfl ⟨fun r hr=> ?_,_,_,rfl⟩
           rw [List.take_succ,hq] at hr
           rcases List.mem_append.mp hr with hr | hr
           · exact hk r hr
           · have:r=q:=by simpa using hr
             subst this
             exact ⟨e1.1,e1.2,e2.1,e2.2⟩
         · rw [decide_eq_false e2]
           exact hP (fun z=>e2 ⟨(z q hqm).2.2.1,(z q hqm).2.2.2⟩) _ Z.x2.a
       · rw [decide_eq_false e1]
         exact hP (fun z=>e1 ⟨(z q hqm).1,(z q hqm).2.1⟩) _ Z.x2.a
     · rintro env ⟨hk,v2,v3,rfl⟩
       rw [List.length_map,List.take_length] at hk
       exact hN _ ⟨hk,_,_,rfl⟩
   rintro env ⟨ha,v2,v3,rfl⟩
   have hC:=hC ha
   have hR:=hR ha
   refine seq_d (fun env=>∃kvs,Rep M (w1 M (t0 ps) M) kvs∧env=[.d (.int (M:Int)),.d (.list (ps.map pD)),v2,v3,.dt kvs,.un]) (fun N hN=> ?_) ?_
   · simp only [rD]
     exact ⟨M,ps,rfl,hM,ha,fun kvs hk=>hN _ ⟨kvs,hk,rfl⟩⟩
   rintro env ⟨kvs,hk,rfl⟩
   refine seq_d (fun env=>¬rnd M ps∧∃v5,env=[.d (.int (M:Int)),.d (.list (ps.map pD)),v2,v3,.dt kvs,v5]) (fun N hN=> ?_) ?_
   · refine ⟨_,_,rfl,rfl,_,rfl,by lia,by lia,fun k env=>(∀ a,a < k→w1 M (t0 ps) M a a=false)∧∃v5,env=[.d (.int (M:Int)),.d (.list (ps.map pD)),v2,v3,.dt kvs,v5],⟨fun a z=>absurd z (Nat.not_lt_zero _),_,rfl⟩,?_,?_⟩
     · rintro k y env hy ⟨hb,v5,rfl⟩
       obtain ⟨km,rfl⟩:=ints_get hy
       rw [Int.zero_add]
       have km:k < M:=km
       simp only [rD]
       refine ⟨_,_,rfl,?_⟩
       rw [hk.get km km]
       cases e:w1 M (t0 ps) M k k with
       | true=>
         rw [if_pos rfl]
         exact hC ⟨k,km,e⟩ _ Z.x3.a
       | false=>
         rw [if_neg Bool.false_ne_true]
         refine ⟨fun a z=> ?_,_,rfl⟩
         by_cases q:a=k
         · rw [q];exact e
         · exact hb a (by lia)
     · rintro env ⟨hb,v5,rfl⟩
       rw [ints_rng,List.length_map,rngI_len,Int.toNat_natCast] at hb
       refine hN _ ⟨fun ⟨a,z1,z2⟩=> ?_,_,rfl⟩
       rw [hb a z1] at z2
       cases z2
   rintro env ⟨nr,v5,rfl⟩
   simp only [rD]
   obtain ⟨qs,q1,q2⟩:=hk.perm hM
   refine ⟨qs,q1,100,fun q hq=>(pairs_inB hM _ q (q2.mem_iff.mp hq)).2,fun rs r1 r2=> ?_⟩
   have e:rs=clo M ps:=srt_one (pairs_inB hM _) (r1.trans q2) r2 (List.Perm.refl _) (pairs_srt hM _)
   subst e
   exact hR nr
end
section
variable {P:Program} {w:World} {K:PySem.W.Frag} {mg:Str→Option Value} {base:Heap}
theorem scPu:FnScope ["space","point"] ["space","point"] (defScope s_points_under):=⟨rfl,rfl,rfl,by decide +kernel,rfl,by decide +kernel,by decide +kernel⟩
theorem ok_Pu {f:Addr} {fd:FuncData} (F:Fun K "points_under" "points_under" s_points_under f fd) (T:Txt K mg):
 FnOk P w K mg base CX0 1 f fd ["space","point"] (spG K Ppu):=by
 refine F.okG scPu (fun ds RS h=> ?_) (fun cdv A outer s H E hr=>(dss_one (ds_retO (do_lc (N':=["a","b","point"]) (fun q_=>(.own (.own (.cap 1 rfl rfl rfl .nil)))) (di_seq (de_ix (dq_var 0) (de_int).bw)) (dg_tup2 0 1 (fun q_=>(by decide +kernel:(["a","b","point"]:List Str).Nodup))) (dif_one (dt_cmp (od_eq (fun q_=>room_u hr (by decide))) (db_var 1) (db_var 2))) (de_var 0))))) (fun ds RS h=> ?_)
 · obtain ⟨n,ps,p,rfl,_⟩:=h;rfl
 · obtain ⟨n,ps,p,rfl,hR⟩:=h
   simp only [rD,xLC,seq_sp,at1]
   refine ⟨Gf ps pD (fun q=>decide (q.2=p)) (fun q=> .int q.1),fun y hy=> ?_,fun o ho=> ?_⟩
   · obtain ⟨q,hq,rfl⟩:=List.mem_map.mp hy
     refine ⟨_,_,rfl,okI _,okI _,.inl (shI _),?_⟩
     rw [eqv_int]
     exact ite2 (fun e=>Gf.keep hq e rfl) (fun e=>Gf.skip hq (by simpa using e))
   · rw [Gf.out pD_inj ho]
     unfold pu at hR
     rw [List.map_map] at hR
     exact hR
end
section
variable {P:Program} {w:World} {K:PySem.W.Frag} {mg:Str→Option Value} {base:Heap}
theorem scPo:FnScope ["space","point"] ["space","point"] (defScope s_points_over):=⟨rfl,rfl,rfl,by decide +kernel,rfl,by decide +kernel,by decide +kernel⟩
theorem ok_Po {f:Addr} {fd:FuncData} (F:Fun K "points_over" "points_over" s_points_over f fd) (T:Txt K mg):
 FnOk P w K mg base CX0 1 f fd ["space","point"] (spG K Ppo):=by
 refine F.okG scPo (fun ds RS h=> ?_) (fun cdv A outer s H E hr=>(dss_one (ds_retO (do_lc (N':=["a","b","point"]) (fun q_=>(.own (.own (.cap 1 rfl rfl rfl .nil)))) (di_seq (de_ix (dq_var 0) (de_int).bw)) (dg_tup2 0 1 (fun q_=>(by decide +kernel:(["a","b","point"]:List Str).Nodup))) (dif_one (dt_cmp (od_eq (fun q_=>room_u hr (by decide))) (db_var 0) (db_var 2))) (de_var 1))))) (fun ds RS h=> ?_)
 · obtain ⟨n,ps,p,rfl,_⟩:=h;rfl
 · obtain ⟨n,ps,p,rfl,hR⟩:=h
   simp only [rD,xLC,seq_sp,at1]
   refine ⟨Gf ps pD (fun q=>decide (q.1=p)) (fun q=> .int q.2),fun y hy=> ?_,fun o ho=> ?_⟩
   · obtain ⟨q,hq,rfl⟩:=List.mem_map.mp hy
     refine ⟨_,_,rfl,okI _,okI _,.inl (shI _),?_⟩
     rw [eqv_int]
     exact ite2 (fun e=>Gf.keep hq e rfl) (fun e=>Gf.skip hq (by simpa using e))
   · rw [Gf.out pD_inj ho]
     unfold po at hR
     rw [List.map_map] at hR
     exact hR
end
section
variable {P:Program} {w:World} {K:PySem.W.Frag} {mg:Str→Option Value} {base:Heap}
theorem scNr:FnScope ["space","lower","higher"] ["space"] (defScope s_nearest_ties):=⟨rfl,rfl,rfl,by decide +kernel,rfl,by decide +kernel,by decide +kernel⟩
theorem ok_Nr {f:Addr} {fd:FuncData} (F:Fun K "nearest_ties" "nearest_ties" s_nearest_ties f fd) (T:Txt K mg) (GPu:Fn P w K mg base "points_under" 1 ["space","point"] (spG K Ppu)) (GPo:Fn P w K mg base "points_over" 1 ["space","point"] (spG K Ppo)):
 FnOk P w K mg base CX0 2 f fd ["space"] (spG K Pnear):=by
 refine F.okG scNr (fun ds RS h=> ?_) (fun cdv A outer s H E hr=>(dss_cons (ds_set 1 (fun q_=>scNr.nd) ((do_lc (N':=["point","space"]) (fun q_=>(.own (.cap 0 rfl rfl rfl .nil))) (di_range1 (de_ix (dq_var 0) (de_int).bw).bw (fun q_=>T.range)) (dg_name 0 (fun q_=>(by decide +kernel:(["point","space"]:List Str).Nodup))) dif_nil ((do_call GPu (fun q_=>hr.mono (by decide)) (da_cons (de_var 1) (da_cons (de_var 0) da_nil))).ew)).ew))
  (dss_cons (ds_set 2 (fun q_=>scNr.nd) ((do_lc (N':=["point","space"]) (fun q_=>(.own (.cap 0 rfl rfl rfl .nil))) (di_range1 (de_ix (dq_var 0) (de_int).bw).bw (fun q_=>T.range)) (dg_name 0 (fun q_=>(by decide +kernel:(["point","space"]:List Str).Nodup))) dif_nil ((do_call GPo (fun q_=>hr.mono (by decide)) (da_cons (de_var 1) (da_cons (de_var 0) da_nil))).ew)).ew))
  (dss_one (ds_retO (do_lc (N':=["a","b","lower","higher"]) (fun q_=>(.own (.own (.cap 1 rfl rfl rfl (.cap 2 rfl rfl rfl .nil))))) (di_seq (de_ix (dq_var 0) (de_int).bw)) (dg_tup2 0 1 (fun q_=>(by decide +kernel:(["a","b","lower","higher"]:List Str).Nodup))) (dif_one (dt_not (dt_val (de_any (do_lc (N':=["point","lower","b"]) (fun q_=>(.own (.cap 2 rfl rfl rfl (.cap 1 rfl rfl rfl .nil)))) (di_seq (de_ix (dq_var 3) (db_var 0))) (dg_name 0 (fun q_=>(by decide +kernel:(["point","lower","b"]:List Str).Nodup))) dif_nil (de_cmp (od_in (fun q_=>room_u hr (by decide))) (db_var 0) (de_ix (dq_var 1) (db_var 2)).bw)).l (fun q_=>T.any)).bw))) (de_tup (da_cons (de_var 0) (da_cons (de_var 1) da_nil))))))))) (fun ds RS h=> ?_)
 · obtain ⟨n,ps,rfl,_⟩:=h;rfl
 · obtain ⟨n,ps,rfl,hn,hin,hR⟩:=h
   refine seq_d (fun env=>env=[.d (spD n ps),.d (.list ((rngI n).map fun p=> .list ((pu ps p).map PyData.int))),.un]) (fun N hN=> ?_) ?_
   · simp only [rD,xLC,seq_sp,at0]
     refine ⟨by lia,by lia,?_⟩
     rw [Int.toNat_natCast,ints_rng]
     refine ⟨Gf (rngI n) PyData.int (fun q_=>true) (fun p=> .list ((pu ps p).map PyData.int)),fun y hy=> ?_,fun o ho=> ?_⟩
     · obtain ⟨p,hp,rfl⟩:=List.mem_map.mp hy
       exact ⟨n,ps,p,rfl,_,rfl,Gf.keep hp rfl rfl⟩
     · rw [Gf.all int_inj ho]
       exact hN _ rfl
   rintro env rfl
   refine seq_d (fun env=>env=[.d (spD n ps),.d (.list ((rngI n).map fun p=> .list ((pu ps p).map PyData.int))),.d (.list ((rngI n).map fun p=> .list ((po ps p).map PyData.int)))]) (fun N hN=> ?_) ?_
   · simp only [rD,xLC,seq_sp,at0]
     refine ⟨by lia,by lia,?_⟩
     rw [Int.toNat_natCast,ints_rng]
     refine ⟨Gf (rngI n) PyData.int (fun q_=>true) (fun p=> .list ((po ps p).map PyData.int)),fun y hy=> ?_,fun o ho=> ?_⟩
     · obtain ⟨p,hp,rfl⟩:=List.mem_map.mp hy
       exact ⟨n,ps,p,rfl,_,rfl,Gf.keep hp rfl rfl⟩
     · rw [Gf.all int_inj ho]
       exact hN _ rfl
   rintro env rfl
   simp only [rD,xLC,seq_sp,at0,at1]
   refine ⟨Gf ps pD (fun q=> !btw ps q.1 q.2) pD,fun y hy=> ?_,fun o ho=> ?_⟩
   · obtain ⟨q,hq,rfl⟩:=List.mem_map.mp hy
     obtain ⟨h1,h2,h3,h4⟩:=hin q hq
     refine ⟨_,_,rfl,q.1,rfl,_,at_rngF h1 h2,_,rfl,Gf (po ps q.1) PyData.int (fun q_=>true) (fun p=> .bool (decide (p∈pu ps q.2))),fun y hy=> ?_,fun o ho=> ?_⟩
     · obtain ⟨p,hp,rfl⟩:=List.mem_map.mp hy
       exact ⟨q.2,rfl,_,at_rngF h3 h4,_,rfl,layAll_ints _,okI _,shI _,Gf.keep hp rfl (by rw [any_ints'])⟩
     · rw [Gf.all int_inj ho]
       refine ⟨(po ps q.1).map (fun p=>decide (p∈pu ps q.2)),by rw [List.map_map];rfl,?_⟩
       rw [any_map]
       exact ite2 (fun e=>Gf.keep hq e rfl) (fun e=>Gf.skip hq (by simpa [btw] using e))
   · rw [Gf.out pD_inj ho]
     exact hR
end
section
variable {P:Program} {w:World} {K:PySem.W.Frag} {mg:Str→Option Value} {base:Heap}
theorem scWr:FnScope ["space","many"] ["space"] (defScope s_written):=⟨rfl,rfl,rfl,by decide +kernel,rfl,by decide +kernel,by decide +kernel⟩
theorem ok_Wr {f:Addr} {fd:FuncData} (F:Fun K "written" "written" s_written f fd) (T:Txt K mg) (GNr:Fn P w K mg base "nearest_ties" 2 ["space"] (spG K Pnear)):
 FnOk P w K mg base CX0 3 f fd ["space"] (spG K Pwrit):=by
 refine F.okG scWr (fun ds RS h=> ?_) (fun cdv A outer s H E hr=>(dss_cons (ds_set 1 (fun q_=>scWr.nd) (de_ix (dq_var 0) (de_int).bw))
  (dss_one (ds_ret (de_bin od_addS (de_fs (dj_int (db_var 1) (dj_str dj_nil))).bw (de_join (de_str).bw (do_lc (N':=["a","b"]) (fun q_=>(.own (.own .nil))) (di_seq ((do_call GNr (fun q_=>hr.mono (by decide)) (da_cons (de_var 0) da_nil)).ew)) (dg_tup2 0 1 (fun q_=>(by decide +kernel:(["a","b"]:List Str).Nodup))) dif_nil (de_fs (dj_str (dj_int (db_var 0) (dj_str (dj_int (db_var 1) dj_nil)))))).l).bw))))) (fun ds RS h=> ?_)
 · obtain ⟨n,ps,rfl,_⟩:=h;rfl
 · obtain ⟨n,ps,rfl,hn,hl,hin,hR⟩:=h
   refine seq_d (fun env=>env=[.d (spD n ps),.d (.int (n:Int))]) (fun N hN=> ?_) ?_
   · simp only [rD,seq_sp,at0]
     exact hN _ rfl
   rintro env rfl
   simp only [rD,xLC,seq_sp,at0,at1,PySem.Str.empty_append,hS_eq]
   have hh:=hS_len (n:=(n:Int)) (by lia) (by lia)
   have inN: ∀q∈nearF ps,InN q:=fun q hq=>inR_N hn (near_inR hin q hq)
   have nl:(nearF ps).length≤1000:=Nat.le_trans (List.length_filter_le _ _) hl
   refine ⟨log_ok (by lia) (by lia),hh.1,hh.2,hh.2,n,ps,rfl,hn,hin,_,rfl,?_⟩
   refine ⟨Gf (nearF ps) pD (fun q_=>true) (fun q=> .str (mkS (32::wL q))),fun y hy=> ?_,fun o ho=> ?_⟩
   · obtain ⟨q,hq,rfl⟩:=List.mem_map.mp hy
     have iq:=inN q hq
     have pl:=pS_len (a:=q.1) (b:=q.2) iq
     refine ⟨_,_,rfl,?_⟩
     show _∧_
     refine ⟨pl.1,q.1,rfl,log_ok iq.1.1 iq.1.2,pl.2.1,pl.2.2.1,q.2,rfl,log_ok iq.2.1 iq.2.2,?_,?_,Gf.keep hq rfl ?_⟩
     · rw [pS_eq];exact pl.2.2.2
     · rw [pS_eq];exact pl.2.2.2
     · rw [pS_eq]
   · rw [Gf.all pD_inj ho]
     refine ⟨(nearF ps).map fun q=>mkS (32::wL q),by rw [List.map_map];rfl,join_ok (fun w hw=> ?_) (by rw [List.length_map];exact nl),?_,?_⟩
     · obtain ⟨q,hq,rfl⟩:=List.mem_map.mp hw
       have:=wL_len (inN q hq)
       rw [len_cL,cL_mk,List.length_cons];lia
     · have:=tS_len (n:=(n:Int)) (by lia) (by lia) inN nl
       rw [← text_eq,len_cL,cL_app,List.length_append,← len_cL,← len_cL] at this
       lia
     · rw [text_eq];exact hR
end
section
variable {P:Program} {w:World} {K:PySem.W.Frag} {mg:Str→Option Value} {base:Heap}
theorem scNuE:FnScope ["word","number"] ["word"] (defScope s_number_of):=⟨rfl,rfl,rfl,by decide +kernel,rfl,by decide +kernel,by decide +kernel⟩
theorem ok_NuE {f:Addr} {fd:FuncData} {c0 c1 c2 c3 c4 c5:Addr} (F:Fun K "number_of" "number_of" s_number_of f fd) (T:Txt K mg) (Z:XT K mg c0 c1 c2 c3 c4 c5):
 FnOk P w K mg base (CXE P w) 1 f fd ["word"] (spE K (PnumE K)):=by
 refine F.okE' scNuE (fun ds RS W h=> ?_) fun W=>⟨_,fun cdv A outer s H E hW hr=>(dss_cons (ds_for (fun q_=>PassesOwn.leaving) (di_range1 (de_bin od_add (de_gint (fun q_=>Z.g_MOST_POINTS)).bw (de_int).bw).bw (fun q_=>T.range)) (dg_name 1 (fun q_=>scNuE.nd)) (dss_one (ds_if (dt_cmp od_eqS (de_str1 (db_var 1) (fun q_=>T.str)).bw (db_var 0)) (dss_one (ds_retV 1)) dss_nil)))
  (dss_one (ds_raise Z.x4.own Z.x4.m hW))),fun ds RS h=> ?_⟩
 · obtain ⟨w,rfl,_⟩:=h;rfl
 · obtain ⟨w,rfl,hR,hX⟩:=h
   refine seq_d (fun env=>(∀ i:Nat,i≤16→w≠nS i)∧∃v1,env=[.d (.str w),v1]) (fun N hN=> ?_) ?_
   · refine ⟨_,_,rfl,rfl,_,rfl,by decide,by decide,fun k env=>(∀ i:Nat,i < k→w≠nS i)∧∃v1,env=[.d (.str w),v1],⟨fun i z=>absurd z (Nat.not_lt_zero _),_,rfl⟩,?_,?_⟩
     · rintro k y env hy ⟨no,v1,rfl⟩
       obtain ⟨hk,rfl⟩:=ints_get hy
       rw [Int.zero_add]
       have hk:k < 17:=hk
       simp only [rD]
       refine ⟨log_ok (by lia) (by lia),?_⟩
       by_cases e:nS (k:Int)=w
       · rw [if_pos (decide_eq_true e)]
         exact hR k (by lia) e.symm
       · rw [if_neg (fun z=>e (of_decide_eq_true z))]
         refine ⟨fun i hi=> ?_,_,rfl⟩
         by_cases q:i=k
         · subst q;exact fun z=>e z.symm
         · exact no i (by lia)
     · rintro env ⟨no,v1,rfl⟩
       have no: ∀i:Nat,i < 17→w≠nS i:=no
       exact hN _ ⟨fun i hi=>no i (by lia),_,rfl⟩
   rintro env ⟨no,v1,rfl⟩
   simp only [rD]
   exact hX no _ Z.x4.a
end
section
variable {P:Program} {w:World} {K:PySem.W.Frag} {mg:Str→Option Value} {base:Heap}
theorem scMnE:FnScope ["word"] ["word"] (defScope s_many_of):=⟨rfl,rfl,rfl,by decide +kernel,rfl,by decide +kernel,by decide +kernel⟩
theorem ok_MnE {f:Addr} {fd:FuncData} {c0 c1 c2 c3 c4 c5:Addr} (F:Fun K "many_of" "many_of" s_many_of f fd) (T:Txt K mg) (Z:XT K mg c0 c1 c2 c3 c4 c5) (GNuE:FnE P w K mg base "number_of" 1 ["word"] (PnumE K)):
 FnOk P w K mg base (CXE P w) 2 f fd ["word"] (spE K (PmanyE K)):=by
 refine F.okE' scMnE (fun ds RS W h=> ?_) fun W=>⟨_,fun cdv A outer s H E hW hr=>(dss_cons (ds_if (dt_not (dt_val (de_ends (db_var 0) (de_str).bw).bw)) (dss_one (ds_raise Z.x4.own Z.x4.m hW)) dss_nil)
  (dss_one (ds_ret (de_callE GNuE (fun q_=>hr.mono (by decide)) hW (fun q_=>passE) (da_cons (de_sliceS (db_var 0) dp_none (dp_some (de_neg (de_int)).bw)) da_nil))))),fun ds RS h=> ?_⟩
 · obtain ⟨w,rfl,_⟩:=h;rfl
 · obtain ⟨w,rfl,hl,hR,hX⟩:=h
   simp only [rD,co_is]
   cases e:Txt.endswith w ⟨#[58]⟩ with
   | false=>exact hX (fun i hi z=>by rw [z,hL,ends_colon] at e;cases e) _ Z.x4.a
   | true=>
     obtain ⟨x,hx⟩:=ends_inv e
     have ew:w=mkS (x++[58]):=cL_ext hx
     subst ew
     rw [slice_last]
     refine iteN rfl ⟨hl,mkS x,rfl,fun i hi z=>⟨_,rfl,hR i hi ?_⟩,fun no c hc=>hX (fun i hi z=>no i hi ?_) c hc⟩
     · have z:=congrArg cL z
       rw [cL_mk] at z
       rw [z];rfl
     · have z:=congrArg cL z
       rw [cL_mk,cL_mk] at z
       exact cL_ext (List.append_cancel_right z)
end
section
variable {P:Program} {w:World} {K:PySem.W.Frag} {mg:Str→Option Value} {base:Heap}
theorem scPrE:FnScope ["word","parts"] ["word"] (defScope s_pair_of):=⟨rfl,rfl,rfl,by decide +kernel,rfl,by decide +kernel,by decide +kernel⟩
theorem ok_PrE {f:Addr} {fd:FuncData} {c0 c1 c2 c3 c4 c5:Addr} (F:Fun K "pair_of" "pair_of" s_pair_of f fd) (T:Txt K mg) (Z:XT K mg c0 c1 c2 c3 c4 c5) (GNuE:FnE P w K mg base "number_of" 1 ["word"] (PnumE K)):
 FnOk P w K mg base (CXE P w) 2 f fd ["word"] (spE K (PpairE K)):=by
 refine F.okE' scPrE (fun ds RS W h=> ?_) fun W=>⟨_,fun cdv A outer s H E hW hr=>(dss_cons (ds_set 1 (fun q_=>scPrE.nd) ((do_split (db_var 0) (de_str).bw).ew))
  (dss_cons (ds_if (dt_cmp (od_ne (fun q_=>room_u hr (by decide))) (de_len (dq_var 1) (fun q_=>T.len)).bw (de_int).bw) (dss_one (ds_raise Z.x4.own Z.x4.m hW)) dss_nil)
  (dss_one (ds_ret (de_tup (da_cons (de_callE GNuE (fun q_=>hr.mono (by decide)) hW (fun q_=>passE) (da_cons (de_ix (dq_var 1) (de_int).bw) da_nil)) (da_cons (de_callE GNuE (fun q_=>hr.mono (by decide)) hW (fun q_=>passE) (da_cons (de_ix (dq_var 1) (de_int).bw) da_nil)) da_nil))))))),fun ds RS h=> ?_⟩
 · obtain ⟨w,rfl,_⟩:=h;rfl
 · obtain ⟨w,rfl,hl,hR,hX⟩:=h
   simp only [rD,lt_is]
   have sj:=split_cL w 60
   refine ⟨rfl,hl,split_sz hl,okI _,okI _,.inl (shI _),?_⟩
   have two: ∀a b:Nat,a≤16→b≤16→w=mkS (wL (a,b))→Txt.split w ⟨#[60]⟩=[nS a,nS b]:=fun a b ha hb z=>by
    rw [z]
    exact split_word (q:=((a:Int),(b:Int))) ⟨⟨by dsimp only;lia,by dsimp only;lia⟩,by dsimp only;lia,by dsimp only;lia⟩
   rw [eqv_int,List.length_map]
   generalize Txt.split w ⟨#[60]⟩=parts at sj two
   by_cases l:parts.length=2
   · match parts,l with
     | [x,y],_=>
       refine iteN rfl ⟨_,at0 _ _,x,rfl,fun a ha ex=>⟨_,rfl,_,at1 _ _ _,y,rfl,fun b hb ey=>⟨_,rfl,hR a b ha hb (cL_ext ?_)⟩,fun no c hc=>hX (fun a2 b2 ha2 hb2 z=> ?_) c hc⟩,fun no c hc=>hX (fun a2 b2 ha2 hb2 z=> ?_) c hc⟩
       · rw [sj,ex,ey];rfl
       · have:=two a2 b2 ha2 hb2 z
         injection this with _ e2
         injection e2 with e2 _
         exact no b2 hb2 e2
       · have:=two a2 b2 ha2 hb2 z
         injection this with e2 _
         exact no a2 ha2 e2
   · rw [decide_eq_false (by lia)]
     exact hX (fun a b ha hb z=>l (by rw [two a b ha hb z];rfl)) _ Z.x4.a
end
section
variable {P:Program} {w:World} {K:PySem.W.Frag} {mg:Str→Option Value} {base:Heap}
theorem scTx:FnScope ["space","text","a","b","between"] ["space"] (defScope s__law_text):=⟨rfl,rfl,rfl,by decide +kernel,rfl,by decide +kernel,by decide +kernel⟩
theorem ok_Tx {f:Addr} {fd:FuncData} (F:Fun K "_law_text" "_law_text" s__law_text f fd) (T:Txt K mg):
 FnOk P w K mg base CX0 1 f fd ["space"] (spG K Pwrit):=by
 refine F.okG scTx (fun ds RS h=> ?_) (fun cdv A outer s H E hr=>(dss_cons (ds_set 1 (fun q_=>scTx.nd) (de_bin od_addS (de_str1 (de_ix (dq_var 0) (de_int).bw).bw (fun q_=>T.str)).bw (de_str).bw))
  (dss_cons (ds_for (fun q_=>PassesOwn.never) (di_seq (de_ix (dq_var 0) (de_int).bw)) (dg_tup2 2 3 (fun q_=>scTx.nd)) (dss_cons (ds_setlc 4 (fun q_=>scTx.nd) (N':=["point","a","space","b"]) (fun q_=>(.own (.cap 2 rfl rfl rfl (.cap 0 rfl rfl rfl (.cap 3 rfl rfl rfl .nil))))) (di_range1 (de_ix (dq_var 0) (de_int).bw).bw (fun q_=>T.range)) (dg_name 0 (fun q_=>(by decide +kernel:(["point","a","space","b"]:List Str).Nodup))) (dif_one ((dw_and (dt_cmp (od_in (fun q_=>room_u hr (by decide))) (de_tup (da_cons (de_var 1) (da_cons (de_var 0) da_nil))).bw (de_ix (dq_var 2) (de_int).bw).bw) (dw_and1 (dt_cmp (od_in (fun q_=>room_u hr (by decide))) (de_tup (da_cons (de_var 0) (da_cons (de_var 3) da_nil))).bw (de_ix (dq_var 2) (de_int).bw).bw))).t)) (de_var 0))
  (DSs.frz 4 (dss_one (ds_if (dt_cmp (od_eq (fun q_=>room_u hr (by decide))) (db_var 4) (do_lst da_nil).bw) (dss_one (ds_set 1 (fun q_=>scTx.nd) (de_bin od_addS (de_bin od_addS (de_bin od_addS (de_bin od_addS (db_var 1) (de_str).bw).bw (de_str1 (db_var 2) (fun q_=>T.str)).bw).bw (de_str).bw).bw (de_str1 (db_var 3) (fun q_=>T.str)).bw))) dss_nil)))))
  (dss_one (ds_retV 1))))) (fun ds RS h=> ?_)
 · obtain ⟨n,ps,rfl,_⟩:=h;rfl
 · obtain ⟨n,ps,rfl,hn,hl,hin,hR⟩:=h
   have hh:=hS_len (n:=(n:Int)) (by lia) (by lia)
   refine seq_d (fun env=>env=[.d (spD n ps),.d (.str (mkS (hL n))),.un,.un,.un]) (fun N hN=> ?_) ?_
   · simp only [rD,seq_sp,at0,hS_eq]
     refine ⟨log_ok (by lia) (by lia),?_,hN _ rfl⟩
     have:=hh.2
     rw [← hS_eq,len_cL,cL_app,List.length_append,← len_cL,← len_cL] at this
     exact this
   rintro env rfl
   refine seq_d (fun env=>∃v2 v3 v4,env=[.d (spD n ps),.d (.str (tS n (nearF ps))),v2,v3,v4]) (fun N hN=> ?_) ?_
   · refine ⟨_,_,rfl,rfl,_,_,rfl,at1 _ _ _,_,rfl,fun k env=>∃v2 v3 v4,env=[.d (spD n ps),.d (.str (tS n ((ps.take k).filter fun q=> !btw ps q.1 q.2))),v2,v3,v4],⟨_,_,_,by rw [List.take_zero,List.filter_nil];unfold tS tL;rw [List.flatMap_nil,List.append_nil]⟩,?_,?_⟩
     · rintro k y env hy ⟨v2,v3,v4,rfl⟩
       rw [List.getElem?_map] at hy
       obtain ⟨q,hq,rfl⟩:=Option.map_eq_some_iff.mp hy
       simp only [rD,xLC,seq_sp,at0,at1]
       have hqm:=List.mem_of_getElem? hq
       have iq:=inR_N hn (hin q hqm)
       have es:(ps.take (k + 1)).filter (fun q=> !btw ps q.1 q.2)=(ps.take k).filter (fun q=> !btw ps q.1 q.2)++[q].filter (fun q=> !btw ps q.1 q.2):=by rw [List.take_succ,hq,List.filter_append];rfl
       rw [es]
       have inC: ∀r∈(ps.take k).filter (fun q=> !btw ps q.1 q.2),InN r:=fun r hr=>inR_N hn (hin r (List.mem_of_mem_take (List.mem_filter.mp hr).1))
       have cl:((ps.take k).filter fun q=> !btw ps q.1 q.2).length≤1000:=Nat.le_trans (List.length_filter_le _ _) (Nat.le_trans (by rw [List.length_take];exact Nat.min_le_right _ _) hl)
       generalize (ps.take k).filter (fun q=> !btw ps q.1 q.2)=cur at inC cl
       have tl:=tS_len (n:=(n:Int)) (by lia) (by lia) inC cl
       have l1:(Str.ofString " ").length=1:=by rw [sp_is];rfl
       have l2:(Str.ofString "<").length=1:=by rw [lt_is];rfl
       have l3:=(nS_ok iq.1.1 iq.1.2).2
       have l4:=(nS_ok iq.2.1 iq.2.2).2
       rw [← len_cL] at l3 l4
       have l3:(Str.ofString (toString q.1)).length≤2:=l3
       have l4:(Str.ofString (toString q.2)).length≤2:=l4
       refine ⟨_,_,rfl,by lia,by lia,?_⟩
       rw [Int.toNat_natCast,ints_rng]
       refine ⟨Gf (rngI n) PyData.int (fun p=>decide ((q.1,p)∈ps) && decide ((p,q.2)∈ps)) PyData.int,fun y hy=> ?_,fun o ho=> ?_⟩
       · obtain ⟨p,hp,rfl⟩:=List.mem_map.mp hy
         refine ⟨lay_pairs ps,okP (q.1,p),shP (q.1,p),?_⟩
         rw [show ((ps.map pD).any fun d=>d.eqv (PyData.tuple [.int q.1,.int p]))=decide ((q.1,p)∈ps) from any_pD (q.1,p) ps]
         by_cases e1:(q.1,p)∈ps
         · rw [if_pos (decide_eq_true e1)]
           refine ⟨lay_pairs ps,okP (p,q.2),shP (p,q.2),?_⟩
           rw [show ((ps.map pD).any fun d=>d.eqv (PyData.tuple [.int p,.int q.2]))=decide ((p,q.2)∈ps) from any_pD (p,q.2) ps]
           by_cases e2:(p,q.2)∈ps
           · rw [if_pos (decide_eq_true e2)]
             exact Gf.keep hp (by simp [e1,e2]) rfl
           · rw [if_neg (by simp [e2])]
             exact Gf.skip hp (by simp [e2])
         · rw [if_neg (by simp [e1]),if_neg (fun z=>z)]
           exact Gf.skip hp (by simp [e1])
       · rw [Gf.out int_inj ho]
         refine ⟨layAll_ints _,rfl,.inr (by show 1≤9;decide),?_⟩
         by_cases b:btw ps q.1 q.2=true
         · obtain ⟨p,h1,h2⟩:=btw_iff.mp b
           have hp:p∈rngI n:=by
            obtain ⟨_,_,z1,z2⟩:=hin _ h1
            dsimp only at z1 z2
            obtain ⟨j,rfl⟩:=Int.eq_ofNat_of_zero_le z1
            exact List.mem_map.mpr ⟨j,List.mem_range.mpr (by lia),rfl⟩
           have hm:p∈(rngI n).filter fun p=>decide ((q.1,p)∈ps) && decide ((p,q.2)∈ps):=List.mem_filter.mpr ⟨hp,by simp [h1,h2]⟩
           generalize ((rngI n).filter fun p=>decide ((q.1,p)∈ps) && decide ((p,q.2)∈ps))=mid at hm
           cases mid with
           | nil=>cases hm
           | cons z mid=>
             rw [List.filter_cons_of_neg (by rw [b];exact Bool.false_ne_true),List.filter_nil,List.append_nil]
             exact iteN rfl ⟨_,_,_,rfl⟩
         · have e:((rngI n).filter fun p=>decide ((q.1,p)∈ps) && decide ((p,q.2)∈ps))=[]:=List.filter_eq_nil_iff.mpr fun p q_ z=>b (btw_iff.mpr ⟨p,by simpa using z⟩)
           rw [e,List.filter_cons_of_pos (by rw [Bool.eq_false_iff.mpr b];rfl),List.filter_nil,← text_snoc]
           refine ite2 (fun q_=> ?_) (fun z=>absurd rfl z)
           simp only [PySem.Str.length_append]
           refine ⟨by lia,q.1,rfl,log_ok iq.1.1 iq.1.2,by lia,by lia,q.2,rfl,log_ok iq.2.1 iq.2.2,by lia,_,_,_,rfl⟩
     · rintro env ⟨v2,v3,v4,rfl⟩
       rw [List.length_map,List.take_length]
       exact hN _ ⟨_,_,_,rfl⟩
   rintro env ⟨v2,v3,v4,rfl⟩
   simp only [rD]
   exact hR
end
section
variable {P:Program} {w:World} {K:PySem.W.Frag} {mg:Str→Option Value} {base:Heap}
theorem scTi:FnScope ["found","pair"] ["found"] (defScope s__law_ties):=⟨rfl,rfl,rfl,by decide +kernel,rfl,by decide +kernel,by decide +kernel⟩
theorem ok_Ti {f:Addr} {fd:FuncData} (F:Fun K "_law_ties" "_law_ties" s__law_ties f fd) (T:Txt K mg) (GDWh:Fn P w K mg base "_law_whole" 1 ["found"] (spG K Pwhole)):
 FnOk P w K mg base CX0 2 f fd ["found"] (spG K Pties):=by
 refine F.okG scTi (fun ds RS h=> ?_) (fun cdv A outer s H E hr=>(dss_cons (ds_if (dt_not (dt_val (de_isi (db_var 0) bt_tuple (fun q_=>T.tuple) (fun q_=>T.isi)).bw)) (dss_one (ds_ret (de_bl))) dss_nil)
  (dss_cons (ds_for (fun q_=>PassesOwn.never) (di_seq (de_var 0)) (dg_name 1 (fun q_=>scTi.nd)) (dss_one (ds_if ((dw_or (dt_not (dt_val (de_isi (db_var 1) bt_tuple (fun q_=>T.tuple) (fun q_=>T.isi)).bw)) (dw_or (dt_cmp (od_ne (fun q_=>room_u hr (by decide))) (de_len (dq_var 1) (fun q_=>T.len)).bw (de_int).bw) (dw_or (dt_not (dt_val (de_call GDWh (fun q_=>hr.mono (by decide)) (da_cons (de_ix (dq_var 1) (de_int).bw) da_nil)).bw)) (dw_or1 (dt_not (dt_val (de_call GDWh (fun q_=>hr.mono (by decide)) (da_cons (de_ix (dq_var 1) (de_int).bw) da_nil)).bw)))))).t) (dss_one (ds_ret (de_bl))) dss_nil)))
  (dss_one (ds_ret (de_bl)))))) (fun ds RS h=> ?_)
 · obtain ⟨ps,rfl,_⟩:=h;rfl
 · obtain ⟨ps,rfl,hR⟩:=h
   refine seq_d (fun env=>env=[.d (.tuple (ps.map pD)),.un]) (fun N hN=> ?_) ?_
   · simp only [rD]
     exact ⟨rfl,_,T.ktt,iteN rfl (hN _ rfl)⟩
   rintro env rfl
   refine ⟨_,rfl,_,rfl,fun k env=>∃v,env=[.d (.tuple (ps.map pD)),v],⟨_,rfl⟩,?_,?_⟩
   · rintro k y env hy ⟨v,rfl⟩
     rw [List.getElem?_map] at hy
     obtain ⟨q,hq,rfl⟩:=Option.map_eq_some_iff.mp hy
     simp only [rD]
     exact ⟨rfl,_,T.ktt,iteN rfl ⟨_,rfl,okI _,okI _,.inl (shI _),iteN rfl ⟨_,rfl,_,at0 _ _,q.1,rfl,_,rfl,_,rfl,iteN rfl ⟨_,rfl,_,at1 _ _ _,q.2,rfl,_,rfl,_,rfl,iteN rfl ⟨_,rfl⟩⟩⟩⟩⟩
   · rintro env ⟨v,rfl⟩
     exact hR
end
section
variable {P:Program} {w:World} {K:PySem.W.Frag} {mg:Str→Option Value} {base:Heap}
theorem scSa:FnScope ["found","due"] ["found","due"] (defScope s__law_same):=⟨rfl,rfl,rfl,by decide +kernel,rfl,by decide +kernel,by decide +kernel⟩
theorem ok_Sa {f:Addr} {fd:FuncData} (F:Fun K "_law_same" "_law_same" s__law_same f fd) (T:Txt K mg) (GDWh:Fn P w K mg base "_law_whole" 1 ["found"] (spG K Pwhole)) (GTi:Fn P w K mg base "_law_ties" 2 ["found"] (spG K Pties)):
 FnOk P w K mg base CX0 3 f fd ["found","due"] (spG K Psame):=by
 refine F.okG scSa (fun ds RS h=> ?_) (fun cdv A outer s H E hr=>(dss_cons (ds_if ((dw_or (dt_not (dt_val (de_isi (db_var 0) bt_tuple (fun q_=>T.tuple) (fun q_=>T.isi)).bw)) (dw_or (dt_cmp (od_ne (fun q_=>room_u hr (by decide))) (de_len (dq_var 0) (fun q_=>T.len)).bw (de_int).bw) (dw_or1 (dt_not (dt_val (de_call GDWh (fun q_=>hr.mono (by decide)) (da_cons (de_ix (dq_var 0) (de_int).bw) da_nil)).bw))))).t) (dss_one (ds_ret (de_bl))) dss_nil)
  (dss_one (ds_ret (de_and (de_call GTi (fun q_=>hr.mono (by decide)) (da_cons (de_ix (dq_var 0) (de_int).bw) da_nil)) (de_one (de_cmp (od_eq (fun q_=>room_u hr (by decide))) (db_var 0) (db_var 1)))))))) (fun ds RS h=> ?_)
 · obtain ⟨n,ps,rfl,_⟩:=h;rfl
 · obtain ⟨n,ps,rfl,hR⟩:=h
   simp only [rD,seq_sp,at0,at1]
   have e:PyData.eqv (spD n ps) (spD n ps)=true:=by rw [eqv_sp];simp
   exact ⟨rfl,_,T.ktt,iteN rfl ⟨okI _,okI _,.inl (shI _),iteN rfl ⟨n,rfl,_,rfl,_,rfl,iteN rfl ⟨ps,rfl,_,rfl,_,rfl,ite2 (fun q_=>⟨ok_sp _ _,ok_sp _ _,.inl (sh_sp _ _),by rw [e];exact hR⟩) (fun z=>absurd rfl z)⟩⟩⟩⟩
end
noncomputable def WrT (x:Str) (n:Nat) (ps:List (Int×Int)):Prop:=(1≤n∧n≤16)∧IsSp n ps∧x=tS n (nearF ps)
noncomputable abbrev wSs (qs:List (Int×Int)):List Str:=qs.map fun q=>mkS (wL q)
theorem WrT.inR {x:Str} {n:Nat} {ps:List (Int×Int)} (h:WrT x n ps): ∀q∈nearF ps,inR n q:=near_inR h.2.1.inR
theorem WrT.inN {x:Str} {n:Nat} {ps:List (Int×Int)} (h:WrT x n ps): ∀q∈nearF ps,InN q:=fun q hq=>inR_N h.1.2 (h.inR q hq)
theorem WrT.sp32 {x:Str} {n:Nat} {ps:List (Int×Int)} (h:WrT x n ps):Txt.split x ⟨#[32]⟩=mkS (hL n)::wSs (nearF ps):=by
 have n2:=h.1.2
 rw [h.2.2]
 exact split_text (by lia) (by lia) h.inN
theorem wSs_inj: ∀{us vs:List (Int×Int)},(∀ q∈us,InN q)→(∀ q∈vs,InN q)→wSs us=wSs vs→us=vs
 | [],[],_,_,_=>rfl
 | [],_::_,_,_,e=>(nomatch e)
 | _::_,[],_,_,e=>(nomatch e)
 | u::us,v::vs,hu,hv,e=>by
   obtain ⟨e1,e2⟩:=List.cons.inj e
   rw [wL_injN (hu u List.mem_cons_self) (hv v List.mem_cons_self) (congrArg PyData.str e1),wSs_inj (fun q hq=>hu q (List.mem_cons_of_mem _ hq)) (fun q hq=>hv q (List.mem_cons_of_mem _ hq)) e2]
theorem WrT.same {x:Str} {n i:Nat} {ps qs:List (Int×Int)} (h:WrT x n ps) (hi:i≤16) (hq: ∀q∈qs,InN q) (e:Txt.split x ⟨#[32]⟩=mkS (hL i)::wSs qs):n=i∧nearF ps=qs:=by
 have e2:=h.sp32.symm.trans e
 obtain ⟨e3,e4⟩:=List.cons.inj e2
 exact ⟨hL_inj h.1.2 hi e3,wSs_inj h.inN hq e4⟩
theorem WrT.uniq {x:Str} {n m:Nat} {ps qs:List (Int×Int)} (h:WrT x n ps) (h':WrT x m qs):n=m∧ps=qs:=by
 obtain ⟨rfl,e⟩:=h.same h'.1.2 h'.inN h'.sp32
 refine ⟨rfl,?_⟩
 rw [← clo_near h.2.1,← clo_near h'.2.1,e]
theorem sp_clo {m:Nat} {ps:List (Int×Int)} (h: ¬rnd m ps):IsSp m (clo m ps):=
 ⟨w1 m (t0 ps) m,rfl,fun a ha=>Bool.eq_false_iff.mpr fun z=>h ⟨a,ha,z⟩,fun a b c ha hb hc h1 h2=>w1_trans m _ m (Nat.le_refl _) b a c hb ha hc h1 h2⟩
theorem WrT.due {x:Str} {n i:Nat} {ps qs:List (Int×Int)} (h:WrT x n ps) (hi:i≤16) (hq: ∀q∈qs,InN q) (e:Txt.split x ⟨#[32]⟩=mkS (hL i)::wSs qs):dueG i qs∧x=tS i (nearF (clo i qs)):=by
 obtain ⟨rfl,e2⟩:=h.same hi hq e
 obtain ⟨d,c⟩:=sp_due h.1.1 h.1.2 h.2.1
 rw [e2] at d c
 exact ⟨d,by rw [c];exact h.2.2⟩
theorem WrT.mk {i:Nat} {qs:List (Int×Int)} (d:dueG i qs):WrT (tS i (nearF (clo i qs))) i (clo i qs):=by
 obtain ⟨⟨h1,h2⟩,h3,h4⟩:=d
 rw [Int.toNat_natCast] at h4
 exact ⟨⟨by lia,by lia⟩,sp_clo h4,rfl⟩
noncomputable def Gp (y:PyData) (z:Option PyData):Prop:=∃q,InN q∧y= .str (mkS (wL q))∧z=some (pD q)
theorem Gp_out: ∀{ws:List Str} {o:List PyData},LcR Gp (ws.map PyData.str) o→∃qs:List (Int×Int),(∀ q∈qs,InN q)∧ws=wSs qs∧o=qs.map pD
 | [],_,.nil=>⟨[],(fun q_ z=>nomatch z),rfl,rfl⟩
 | w::ws,_,.skip a b=>by
   obtain ⟨q,_,_,z⟩:=a
   cases z
 | w::ws,_,.keep a b=>by
   obtain ⟨q,h1,h2,h3⟩:=a
   obtain ⟨qs,i1,i2,i3⟩:=Gp_out b
   cases h3
   injection h2 with h2
   refine ⟨q::qs,fun r hr=> ?_,by rw [h2,i2];rfl,by rw [i3];rfl⟩
   rcases List.mem_cons.mp hr with rfl | hr
   · exact h1
   · exact i1 r hr
theorem inN_of {a b:Nat} (ha:a≤16) (hb:b≤16):InN ((a:Int),(b:Int)):=⟨⟨by dsimp only;lia,by dsimp only;lia⟩,by dsimp only;lia,by dsimp only;lia⟩
theorem inN_nat {q:Int×Int} (h:InN q): ∃a b:Nat,a≤16∧b≤16∧q=((a:Int),(b:Int)):=by
 obtain ⟨a,ea⟩:=Int.eq_ofNat_of_zero_le h.1.1
 obtain ⟨b,eb⟩:=Int.eq_ofNat_of_zero_le h.2.1
 have h1:=h.1.2
 have h2:=h.2.2
 exact ⟨a,b,by lia,by lia,Prod.ext ea eb⟩
theorem rest_free {qs:List (Int×Int)} (h: ∀q∈qs,InN q):58 ∉ qs.flatMap fun q=>32::wL q:=fun z=>by
 obtain ⟨q,hq,z⟩:=List.mem_flatMap.mp z
 rcases List.mem_cons.mp z with z | z
 · cases z
 rcases List.mem_append.mp z with z | z
 · exact (nS_ok (h q hq).1.1 (h q hq).1.2).1.2.2 z
 · rcases List.mem_cons.mp z with z | z
   · cases z
   · exact (nS_ok (h q hq).2.1 (h q hq).2.2).1.2.2 z
theorem WrT.sp58 {x:Str} {n:Nat} {ps:List (Int×Int)} (h:WrT x n ps):Txt.split x ⟨#[58]⟩=[nS n,mkS ((nearF ps).flatMap fun q=>32::wL q)]:=by
 have n2:=h.1.2
 rw [h.2.2]
 refine split_is (by simp) (fun w hw=> ?_) ?_
 · rcases List.mem_cons.mp hw with rfl | hw
   · exact (nS_ok (by lia) (by lia)).1.2.2
   · have:=List.mem_singleton.mp hw
     subst this
     exact rest_free h.inN
 · show (cL (nS n)++[58])++(nearF ps).flatMap (fun q=>32::wL q)=cL (nS n)++58::(nearF ps).flatMap fun q=>32::wL q
   simp
theorem rest_sp {qs:List (Int×Int)} (h: ∀q∈qs,InN q):Txt.split (mkS (qs.flatMap fun q=>32::wL q)) ⟨#[32]⟩=mkS []::wSs qs:=by
 refine split_is (by simp) (fun w hw=> ?_) ?_
 · rcases List.mem_cons.mp hw with rfl | hw
   · exact fun z=>nomatch z
   · obtain ⟨q,hq,rfl⟩:=List.mem_map.mp hw
     exact wL_free (h q hq)
 · rw [cL_mk,List.map_cons,jl_words,List.map_map,List.flatMap_map]
   rfl
noncomputable def mkF (w:Str):Int:=match (List.range 100).find? (fun i:Nat=>decide (nS (i:Int)=w)) with
 | some i=>i
 | none=> -1
theorem nums99: ∀i:Fin 100,((cL (nS (i.val:Int))).all fun c=>decide (48≤c) && decide (c≤57))=true∧((cL (nS (i.val:Int))).length=1∨((cL (nS (i.val:Int))).length=2∧(cL (nS (i.val:Int))).head?≠some 48)):=by decide +kernel
theorem dig1: ∀d:Fin 10,cL (nS (d.val:Int))=[48 + d.val]:=by decide +kernel
theorem dig2: ∀(a:Fin 9) (b:Fin 10),cL (nS (((a.val + 1) * 10 + b.val:Nat):Int))=[49 + a.val,48 + b.val]:=by decide +kernel
theorem mkF_some {w:Str} (h:0≤mkF w): ∃i:Nat,i≤99∧w=nS (i:Int)∧mkF w=i:=by
 unfold mkF at h ⊢
 cases e:(List.range 100).find? (fun i:Nat=>decide (nS (i:Int)=w)) with
 | none=>rw [e] at h;exact absurd h (by decide)
 | some i=>
   have h1:=List.find?_some e
   have h2:=List.mem_range.mp (List.mem_of_find?_eq_some e)
   exact ⟨i,by lia,(of_decide_eq_true h1).symm,rfl⟩
theorem mkF_none {w:Str} (h: ∀i:Nat,i≤99→w≠nS (i:Int)):mkF w= -1:=by
 unfold mkF
 have:(List.range 100).find? (fun i:Nat=>decide (nS (i:Int)=w))=none:=List.find?_eq_none.mpr fun i hi z=>h i (by have:=List.mem_range.mp hi;lia) (of_decide_eq_true z).symm
 rw [this]
theorem back99: ∀i:Fin 100,PySem.intText? (nS (i.val:Int))=some (i.val:Int):=fun i=>PySem.W.KIN.num_reads (by lia) (by have:=i.isLt;lia)
theorem nS_inj99 {i j:Nat} (hi:i≤99) (hj:j≤99) (h:nS (i:Int)=nS (j:Int)):i=j:=by
 have a:=back99 ⟨i,by lia⟩
 have b:=back99 ⟨j,by lia⟩
 dsimp only at a b
 rw [h,b] at a
 injection a with a
 lia
theorem mkF_nS {i:Nat} (h:i≤99):mkF (nS (i:Int))=i:=by
 unfold mkF
 cases e:(List.range 100).find? (fun j:Nat=>decide (nS (j:Int)=nS (i:Int))) with
 | none=>exact absurd (decide_eq_true rfl) (List.find?_eq_none.mp e i (List.mem_range.mpr (by lia)))
 | some j=>
   have h1:=List.find?_some e
   have h1:=of_decide_eq_true h1
   have h2:=List.mem_range.mp (List.mem_of_find?_eq_some e)
   rw [nS_inj99 (by lia) h h1]
theorem mkF_no {w:Str} (h: ∀i:Nat,i≤99→cL w≠cL (nS (i:Int))):mkF w= -1:=mkF_none fun i hi z=>h i hi (by rw [z])
theorem mk_len {w:Str} (h:(cL w).length=0∨2 < (cL w).length):mkF w= -1:=mkF_no fun i hi z=>by
 have:=(nums99 ⟨i,by lia⟩).2
 dsimp only at this
 rw [← z] at this
 lia
theorem mk_zero {c:Nat}:mkF (mkS [48,c])= -1:=mkF_no fun i hi z=>by
 have:=(nums99 ⟨i,by lia⟩).2
 dsimp only at this
 rw [← z,cL_mk] at this
 rcases this with z | ⟨_,z⟩
 · cases z
 · exact z rfl
theorem mk_sign {w:Str} {c:Nat} (hc:c∈cL w) (h: ¬(48≤c∧c≤57)):mkF w= -1:=mkF_no fun i hi z=>by
 have:=(nums99 ⟨i,by lia⟩).1
 dsimp only at this
 rw [← z] at this
 have:=List.all_eq_true.mp this c hc
 exact h (by simpa using this)
theorem mk_one {c:Nat} (h:48≤c∧c≤57): ∃i:Nat,i≤99∧mkS [c]=nS (i:Int):=⟨c - 48,by lia,cL_ext (by
 have:=dig1 ⟨c - 48,by lia⟩
 dsimp only at this
 rw [this,cL_mk]
 congr 1
 lia)⟩
theorem mk_two {c d:Nat} (h:48≤c∧c≤57) (h0:c≠48) (h2:48≤d∧d≤57): ∃i:Nat,i≤99∧mkS [c,d]=nS (i:Int):=⟨(c - 49 + 1) * 10 + (d - 48),by lia,cL_ext (by
 have:=dig2 ⟨c - 49,by lia⟩ ⟨d - 48,by lia⟩
 dsimp only at this
 rw [this,cL_mk]
 have e1:49 + (c - 49)=c:=by lia
 have e2:48 + (d - 48)=d:=by lia
 rw [e1,e2])⟩
theorem mk_int {w:Str} (h: ∃i:Nat,i≤99∧w=nS (i:Int)):PySem.intText? w=some (mkF w):=by
 obtain ⟨i,hi,rfl⟩:=h
 rw [mkF_nS hi]
 exact back99 ⟨i,by lia⟩
theorem dg_is:Str.ofString "0123456789"=⟨#[48,49,50,51,52,53,54,55,56,57]⟩:=by decide +kernel
theorem ze_is:Str.ofString "0"=⟨#[48]⟩:=by decide +kernel
theorem in_dig (c:Nat):inS ⟨#[c]⟩ (Str.ofString "0123456789")=decide (48≤c∧c≤57):=by
 unfold inS
 rw [StrLaws.found_one,dg_is,Bool.eq_iff_iff,decide_eq_true_iff,decide_eq_true_iff]
 show c∈[48,49,50,51,52,53,54,55,56,57]↔_
 simp only [List.mem_cons,List.not_mem_nil,or_false]
 omega
noncomputable def PreadE (K:PySem.W.Frag) (ds:List PyData) (RS:Dt→Prop) (W:Addr→Prop):Prop:=∃x:Str,ds=[.str x]∧x.length≤40000∧(∀ n ps,WrT x n ps→RS (.d (spD n ps)))∧((∀ n ps,¬WrT x n ps)→∀c,clsA K "NotRead" c→W c)
noncomputable def Ptold7 (ds:List PyData) (RS:Dt→Prop):Prop:=∃x:Str,ds=[.str x]∧x.length≤40000∧(∀ n ps,WrT x n ps→RS (.d (spD n ps)))∧((∀ n ps,¬WrT x n ps)→RS (.o [.bool true,.bool true,.bool false]))
noncomputable def Pdue7 (ds:List PyData) (RS:Dt→Prop):Prop:=∃x:Str,ds=[.str x]∧x.length≤40000∧(∀ n ps,WrT x n ps→RS (.d (spD n ps)))∧((∀ n ps,¬WrT x n ps)→RS (.d .none))
noncomputable def Pmark (ds:List PyData) (RS:Dt→Prop):Prop:=∃w:Str,ds=[.str w]∧w.length≤100000∧RS (.d (.int (mkF w)))
noncomputable def Pchg (ds:List PyData) (RS:Dt→Prop):Prop:=∃(x:Str) (c:Int),ds=[.str x,.int c]∧x.length≤20000∧∀y:Str,y.length≤2 * x.length + 1→RS (.d (.str y))
noncomputable def Ppad (ds:List PyData) (RS:Dt→Prop):Prop:=∃(n:Int) (qs:List (Int×Int)) (c:Int),ds=[.str (tS n qs),.int c]∧(0≤n∧n≤16)∧(∀ q∈qs,InN q)∧qs.length≤1000∧∀y:Str,y.length≤10000→RS (.d (.str y))
noncomputable def Podd (ds:List PyData) (RS:Dt→Prop):Prop:=∃c:Int,ds=[.int c]∧∀y:Str,y.length≤100→RS (.d (.str y))
theorem part_le {x:Str} {c:Nat} {w:Str} (h:w∈Txt.split x ⟨#[c]⟩):w.length≤x.length:=by
 have e:=split_cL x c
 have: ∀{us:List (List Nat)} {u:List Nat},u∈us→u.length≤(jl c us).length:=fun {us}=>by
  induction us with
  | nil=>exact fun z=>nomatch z
  | cons a us ih=>
    intro u hu
    cases us with
    | nil=>have:=List.mem_singleton.mp hu;subst this;exact Nat.le_refl _
    | cons b us=>
      show u.length≤(a++c::jl c (b::us)).length
      rw [List.length_append,List.length_cons]
      rcases List.mem_cons.mp hu with rfl | hu
      · lia
      · have:=ih hu;lia
 have:=this (List.mem_map_of_mem (f:=cL) h)
 rw [← e,← len_cL,← len_cL] at this
 exact this
theorem at_some {α:Type} {l:List α} {i:Int} (h0:0≤i) (h1:i < l.length): ∃c,atI l i=some c:=by
 obtain ⟨j,rfl⟩:=Int.eq_ofNat_of_zero_le h0
 exact ⟨l[j]'(by lia),atI_nat (j:=j) (by simp [show j < l.length by lia])⟩
noncomputable def sgL:List Nat:=[48,49,50,51,52,53,54,55,56,57,32,58,60,62,45,43,95,46,9,97,10]
theorem sg_is:(Str.ofString "0123456789 :<>-+_.\ta\n").cps.toList=sgL:=by decide +kernel
theorem at_strs {ws:List Str} {B:Nat} (h:(ws.all fun w=>decide (w.length≤B))=true) {i:Int} (h0:0≤i) (h1:i < ws.length): ∃y:Str,y.length≤B∧atI (ws.map PyData.str) i=some (.str y):=by
 obtain ⟨j,rfl⟩:=Int.eq_ofNat_of_zero_le h0
 have hj:j < ws.length:=by lia
 exact ⟨ws[j],of_decide_eq_true (List.all_eq_true.mp h _ (List.getElem_mem hj)),atI_nat (j:=j) (by simp [hj])⟩
noncomputable def oddL:List Str:=["",":"," ","1","0:","17:","1: "," 1:","01:","2: 1<0","2: 0<1 1<0","2: 0<0","3: 0<1 0<2 1<2","2:0<1","2: 0<1<1","16:"]
theorem jl_le (c:Nat) {B:Nat}: ∀{us:List (List Nat)},(∀ u∈us,u.length≤B)→(jl c us).length≤us.length * (B + 1)
 | [],_=>Nat.zero_le _
 | [x],h=>by
   have:=h x List.mem_cons_self
   show x.length≤1 * (B + 1)
   lia
 | x::y::r,h=>by
   have ih:=jl_le c (us:=y::r) fun u hu=>h u (List.mem_cons_of_mem _ hu)
   have:=h x List.mem_cons_self
   show (x++c::jl c (y::r)).length≤(r.length + 1 + 1) * (B + 1)
   rw [List.length_append,List.length_cons]
   rw [List.length_cons] at ih
   rw [Nat.succ_mul]
   lia
theorem ix_one {n:Nat} (h:1 < n):ixN n 1=some 1:=by
 unfold ixN
 simp
 lia
theorem ix_last {n:Nat} (h:0 < n):ixN n (-1)=some (n - 1):=by
 unfold ixN
 simp
 lia
theorem str_injD: ∀a b:Str,PyData.str a=PyData.str b→a=b:=fun q_ q_ h=>PyData.str.inj h
theorem imm_tup (ps:List (Int×Int)):immD (.tuple (ps.map pD))=true:=by
 have:=imm_sp 0 ps
 show immAll (ps.map pD)=true
 simpa [spD,immD,immAll] using this
theorem kit_no {K:PySem.W.Frag} {t:Value}: ∀{its:List Value},(∀ y∈its,PySem.W.kitOne K t y=some false)→PySem.W.kitAny K t its=some false
 | [],_=>rfl
 | y::its,h=>by
   have a:=h y List.mem_cons_self
   have b:=kit_no (its:=its) fun z hz=>h z (List.mem_cons_of_mem _ hz)
   unfold PySem.W.kitAny
   simp [a,b]
noncomputable def endL:List Str:=["\n"," ","\t","\n\n"]
section
variable {P:Program} {w:World} {K:PySem.W.Frag} {mg:Str→Option Value} {base:Heap}
theorem scRdE:FnScope ["text","words","many","pairs","space"] ["text"] (defScope s_read):=⟨rfl,rfl,rfl,by decide +kernel,rfl,by decide +kernel,by decide +kernel⟩
theorem ok_RdE {f:Addr} {fd:FuncData} {c0 c1 c2 c3 c4 c5:Addr} (F:Fun K "read" "read" s_read f fd) (T:Txt K mg) (Z:XT K mg c0 c1 c2 c3 c4 c5) (GMnE:FnE P w K mg base "many_of" 2 ["word"] (PmanyE K)) (GPrE:FnE P w K mg base "pair_of" 2 ["word"] (PpairE K)) (GMdE:FnE P w K mg base "made" 2 ["many","pairs"] (PmadeE K)) (GWr:Fn P w K mg base "written" 3 ["space"] (spG K Pwrit)):
 FnOk P w K mg base (CXE P w) 4 f fd ["text"] (spE K (PreadE K)):=by
 refine F.okE' scRdE (fun ds RS W h=> ?_) fun W=>⟨_,fun cdv A outer s H E hW hr=>(dss_cons (ds_set 1 (fun q_=>scRdE.nd) ((do_split (db_var 0) (de_str).bw).ew))
  (dss_cons (ds_set 2 (fun q_=>scRdE.nd) (de_callE GMnE (fun q_=>hr.mono (by decide)) hW (fun q_=>passE) (da_cons (de_ix (dq_var 1) (de_int).bw) da_nil)))
  (dss_cons (ds_setlcE 3 hW scRdE.nd (N':=["word"]) (.own .nil) (di_seq ((do_slice (dl_var 1) (dp_some (de_int).bw) dp_none).ew)) (dg_name 0 (fun q_=>(by decide +kernel:(["word"]:List Str).Nodup))) dif_nil (de_callE GPrE (fun q_=>hr.mono (by decide)) wishE_mk (fun p=>pass_comp p.2) (da_cons (de_var 0) da_nil)))
  (DSs.frz 3 (dss_cons (ds_tryR Z.x0.own Z.x0.m Z.x4.own Z.x4.m hW (dss_one (ds_set 4 (fun q_=>scRdE.nd) (de_callE GMdE (fun q_=>hr.mono (by decide)) wishE_mk (fun q_=>pass_try rfl) (da_cons (de_var 2) (da_cons (de_var 3) da_nil))))))
  (dss_cons (ds_if (dt_cmp od_neS (de_call GWr (fun q_=>hr.mono (by decide)) (da_cons (de_var 4) da_nil)).bw (db_var 0)) (dss_one (ds_raise Z.x4.own Z.x4.m hW)) dss_nil)
  (dss_one (ds_retV 4)))))))),fun ds RS h=> ?_⟩
 · obtain ⟨x,rfl,_⟩:=h;rfl
 · obtain ⟨x,rfl,hl,hR,hX⟩:=h
   obtain ⟨w0,wr,ew⟩: ∃w0 wr,Txt.split x ⟨#[32]⟩=w0::wr:=List.exists_cons_of_ne_nil (split_ne _ _)
   have lw: ∀w∈w0::wr,w.length≤100000:=fun w hw=>Nat.le_trans (part_le (by rw [ew];exact hw)) (by lia)
   refine seq_d (fun env=>env=[.d (.str x),.d (.list (.str w0::wr.map PyData.str)),.un,.un,.un]) (fun N hN=> ?_) ?_
   · simp only [rD,sp_is]
     refine ⟨rfl,by lia,split_sz (by lia),?_⟩
     rw [ew]
     exact hN _ rfl
   rintro env rfl
   refine seq_d (fun env=>∃i:Nat,i≤16∧w0=mkS (hL i)∧env=[.d (.str x),.d (.list (.str w0::wr.map PyData.str)),.d (.int (i:Int)),.un,.un]) (fun N hN=> ?_) ?_
   · simp only [rD]
     refine ⟨_,at0 _ _,w0,rfl,lw w0 List.mem_cons_self,fun i hi e=>⟨_,rfl,hN _ ⟨i,hi,e,rfl⟩⟩,fun no c hc=>hX (fun n ps z=>no n z.1.2 ?_) c hc⟩
     exact (List.cons.inj (ew.symm.trans z.sp32)).1
   rintro env ⟨i,hi,e0,rfl⟩
   refine seq_d (fun env=>∃qs:List (Int×Int),(∀ q∈qs,InN q)∧wr=wSs qs∧env=[.d (.str x),.d (.list (.str w0::wr.map PyData.str)),.d (.int (i:Int)),.o (qs.map pD),.un]) (fun N hN=> ?_) ?_
   · simp only [rD,xLC]
     rw [cut_one_on]
     refine ⟨Gp,fun y hy=> ?_,fun o ho=> ?_⟩
     · obtain ⟨w,hw,rfl⟩:=List.mem_map.mp hy
       refine ⟨w,rfl,lw w (List.mem_cons_of_mem _ hw),fun a b ha hb e=>⟨_,rfl,(a,b),inN_of ha hb,by rw [e],rfl⟩,fun no c hc=>hX (fun n ps z=> ?_) c hc⟩
       have:=(List.cons.inj (ew.symm.trans z.sp32)).2
       rw [this] at hw
       obtain ⟨q,hq,rfl⟩:=List.mem_map.mp hw
       obtain ⟨a,b,ha,hb,rfl⟩:=inN_nat (z.inN q hq)
       exact no a b ha hb rfl
     · obtain ⟨qs,h1,h2,rfl⟩:=Gp_out ho
       exact hN _ ⟨qs,h1,h2,rfl⟩
   rintro env ⟨qs,hq,rfl,rfl⟩
   refine ⟨_,rfl,?_⟩
   rw [e0] at ew
   have bad: ¬dueG i qs→∀n ps,¬WrT x n ps:=fun h n ps z=>h (z.due hi hq ew).1
   refine seq_d (fun env=>dueG i qs∧env=[.d (.str x),.d (.list (.str w0::(wSs qs).map PyData.str)),.d (.int (i:Int)),.d (.list (qs.map pD)),.d (spD i (clo i qs))]) (fun N hN=> ?_) ?_
   · simp only [rD]
     refine ⟨i,qs,rfl,fun h c hc=> ?_,fun h h2 c hc=> ?_,fun h h2 h3 c hc=> ?_,fun h h2 h3=>⟨_,rfl,hN _ ⟨⟨h,h2,h3⟩,rfl⟩⟩⟩
     · cases Z.x1.is hc
       exact ⟨xSub_under Z.x1.ok Z.u1,hX (bad fun z=>h z.1) _ Z.x4.a⟩
     · cases Z.x2.is hc
       exact ⟨xSub_under Z.x2.ok Z.u2,hX (bad fun z=>h2 z.2.1) _ Z.x4.a⟩
     · cases Z.x3.is hc
       exact ⟨xSub_under Z.x3.ok Z.u3,hX (bad fun z=>z.2.2 h3) _ Z.x4.a⟩
   rintro env ⟨dg,rfl⟩
   have wt:=WrT.mk dg
   have hin:=wt.2.1.inR
   have pl:(clo i qs).length≤1000:=Nat.le_trans wt.2.1.len (Nat.le_trans (Nat.mul_le_mul hi hi) (by decide))
   simp only [rD]
   refine ⟨i,clo i qs,rfl,hi,pl,hin,_,rfl,_,rfl,?_⟩
   by_cases e:tS i (nearF (clo i qs))=x
   · exact iteN (by rw [decide_eq_true e];rfl) (hR i (clo i qs) (by rw [← e];exact wt))
   · rw [decide_eq_false e]
     exact hX (fun n ps z=>e (z.due hi hq ew).2.symm) _ Z.x4.a
end
section
variable {P:Program} {w:World} {K:PySem.W.Frag} {mg:Str→Option Value} {base:Heap}
theorem scMk:FnScope ["word","sign"] ["word"] (defScope s__law_mark):=⟨rfl,rfl,rfl,by decide +kernel,rfl,by decide +kernel,by decide +kernel⟩
theorem ok_Mk {f:Addr} {fd:FuncData} (F:Fun K "_law_mark" "_law_mark" s__law_mark f fd) (T:Txt K mg):
 FnOk P w K mg base CX0 1 f fd ["word"] (spG K Pmark):=by
 refine F.okG scMk (fun ds RS h=> ?_) (fun cdv A outer s H E hr=>(dss_cons (ds_if ((dw_or (dt_cmp (od_eq (fun q_=>room_u hr (by decide))) (de_lenS (db_var 0) (fun q_=>T.len)).bw (de_int).bw) (dw_or (dt_cmp od_gt (de_lenS (db_var 0) (fun q_=>T.len)).bw (de_int).bw) (dw_or1 ((dw_and (dt_cmp od_eqS (de_ixS (db_var 0) (de_int).bw).bw (de_str).bw) (dw_and1 (dt_cmp od_gt (de_lenS (db_var 0) (fun q_=>T.len)).bw (de_int).bw))).t)))).t) (dss_one (ds_ret (de_neg (de_int)))) dss_nil)
  (dss_cons (ds_for (fun q_=>PassesOwn.never) (di_str (db_var 0)) (dg_name 1 (fun q_=>scMk.nd)) (dss_one (ds_if (dt_cmp od_ninS (db_var 1) (de_str).bw) (dss_one (ds_ret (de_neg (de_int)))) dss_nil)))
  (dss_one (ds_ret (de_intS (db_var 0) (fun q_=>T.int))))))) (fun ds RS h=> ?_)
 · obtain ⟨w,rfl,_⟩:=h;rfl
 · obtain ⟨w,rfl,hl,hR⟩:=h
   obtain ⟨⟨l⟩⟩:=w
   have el:(⟨⟨l⟩⟩:Str).length=l.length:=rfl
   refine seq_d (fun env=>((∃ c,l=[c])∨∃c d,l=[c,d]∧c≠48)∧env=[.d (.str ⟨⟨l⟩⟩),.un]) (fun N hN=> ?_) ?_
   · simp only [rD]
     refine ⟨hl,okI _,okI _,.inl (shI _),?_⟩
     rw [eqv_int,el]
     match l,hl,hR,hN,el with
     | [],hl,hR,hN,el=>
       refine ite2 (fun q_=> ?_) (fun z=>absurd rfl z)
       rw [mk_len (w:=⟨⟨[]⟩⟩) (.inl rfl)] at hR
       exact hR
     | [c],hl,hR,hN,el=>
       have fin:=hN _ ⟨.inl ⟨c,rfl⟩,rfl⟩
       exact iteN rfl ⟨hl,iteN rfl ⟨hl,c,rfl,ite2 (fun q_=>⟨hl,iteN rfl fin⟩) (fun q_=>ite2 (fun z=>z.elim) fun q_=>fin)⟩⟩
     | [c,d],hl,hR,hN,el=>
       refine iteN rfl ⟨hl,iteN rfl ⟨hl,c,rfl,?_⟩⟩
       rw [ze_is]
       by_cases e:c=48
       · subst e
         refine ite2 (fun q_=>⟨hl,ite2 (fun q_=> ?_) (fun z=>absurd rfl z)⟩) (fun z=>absurd (decide_eq_true rfl) z)
         rw [show mkF ⟨⟨[48,d]⟩⟩= -1 from mk_zero] at hR
         exact hR
       · have ne: ¬((⟨#[c]⟩:Str)=⟨#[48]⟩):=fun z=>e (by
          have:=congrArg cL z
          exact (List.cons.inj this).1)
         rw [decide_eq_false ne]
         exact iteN rfl (ite2 (fun z=>z.elim) fun q_=>hN _ ⟨.inr ⟨c,d,rfl,e⟩,rfl⟩)
     | c::d::f::r,hl,hR,hN,el=>
       have l3:2 < (c::d::f::r).length:=by rw [List.length_cons,List.length_cons,List.length_cons];lia
       rw [mk_len (w:=⟨⟨c::d::f::r⟩⟩) (.inr l3)] at hR
       refine iteN (decide_eq_false (by lia)) ⟨hl,ite2 (fun q_=>hR) (fun z=>absurd (decide_eq_true (by lia)) z)⟩
   rintro env ⟨hc,rfl⟩
   refine seq_d (fun env=>(∀ c∈l,48≤c∧c≤57)∧∃v1,env=[.d (.str ⟨⟨l⟩⟩),v1]) (fun N hN=> ?_) ?_
   · refine ⟨_,_,rfl,rfl,_,rfl,hl,fun k env=>(∀ c∈l.take k,48≤c∧c≤57)∧∃v1,env=[.d (.str ⟨⟨l⟩⟩),v1],⟨fun c z=>(by rw [List.take_zero] at z;cases z),_,rfl⟩,?_,?_⟩
     · rintro k y env hy ⟨ok,v1,rfl⟩
       obtain ⟨c,hc,rfl⟩:=sg_at hy
       have hc:l[k]?=some c:=by simpa using hc
       simp only [rD,in_dig]
       by_cases e:48≤c∧c≤57
       · rw [decide_eq_true e]
         refine iteN rfl ⟨fun d hd=> ?_,_,rfl⟩
         rw [List.take_succ,hc] at hd
         rcases List.mem_append.mp hd with z | z
         · exact ok d z
         · have:d=c:=by simpa using z
           subst this
           exact e
       · rw [decide_eq_false e]
         refine ite2 (fun q_=> ?_) (fun z=>absurd rfl z)
         rw [mk_sign (w:=⟨⟨l⟩⟩) (List.mem_of_getElem? hc) e] at hR
         exact hR
     · rintro env ⟨ok,v1,rfl⟩
       rw [sg_len,el,List.take_length] at ok
       exact hN _ ⟨ok,_,rfl⟩
   rintro env ⟨ok,v1,rfl⟩
   simp only [rD]
   refine ⟨_,mk_int ?_,?_,hR⟩
   · rcases hc with ⟨c,rfl⟩ | ⟨c,d,rfl,h0⟩
     · exact mk_one (ok c (by simp))
     · exact mk_two (ok c (by simp)) h0 (ok d (by simp))
   · rw [el]
     rcases hc with ⟨c,rfl⟩ | ⟨c,d,rfl,h0⟩ <;> (simp only [List.length_cons,List.length_nil];lia)
end
section
variable {P:Program} {w:World} {K:PySem.W.Frag} {mg:Str→Option Value} {base:Heap}
theorem scCg:FnScope ["text","cell","at","sign","mode"] ["text","cell"] (defScope s__law_changed):=⟨rfl,rfl,rfl,by decide +kernel,rfl,by decide +kernel,by decide +kernel⟩
theorem ok_Cg {f:Addr} {fd:FuncData} (F:Fun K "_law_changed" "_law_changed" s__law_changed f fd) (T:Txt K mg):
 FnOk P w K mg base CX0 1 f fd ["text","cell"] (spG K Pchg):=by
 refine F.okG scCg (fun ds RS h=> ?_) (fun cdv A outer s H E hr=>(dss_cons (ds_set 2 (fun q_=>scCg.nd) (de_bin od_mod (db_var 1) (de_bin od_add (de_lenS (db_var 0) (fun q_=>T.len)).bw (de_int).bw).bw))
  (dss_cons (ds_set 3 (fun q_=>scCg.nd) (de_ixS (de_str).bw (de_bin od_mod (de_bin od_fdiv (db_var 1) (de_int).bw).bw (de_int).bw).bw))
  (dss_cons (ds_set 4 (fun q_=>scCg.nd) (de_bin od_mod (de_bin od_fdiv (db_var 1) (de_int).bw).bw (de_int).bw))
  (dss_cons (ds_if (dt_cmp (od_eq (fun q_=>room_u hr (by decide))) (db_var 4) (de_int).bw) (dss_one (ds_ret (de_bin od_addS (de_sliceS (db_var 0) dp_none (dp_some (db_var 2))).bw (de_sliceS (db_var 0) (dp_some (de_bin od_add (db_var 2) (de_int).bw).bw) dp_none).bw))) dss_nil)
  (dss_cons (ds_if (dt_cmp (od_eq (fun q_=>room_u hr (by decide))) (db_var 4) (de_int).bw) (dss_one (ds_ret (de_bin od_addS (de_bin od_addS (de_sliceS (db_var 0) dp_none (dp_some (db_var 2))).bw (db_var 3)).bw (de_sliceS (db_var 0) (dp_some (db_var 2)) dp_none).bw))) dss_nil)
  (dss_one (ds_ret (de_bin od_addS (de_bin od_addS (de_sliceS (db_var 0) dp_none (dp_some (db_var 2))).bw (db_var 3)).bw (de_sliceS (db_var 0) (dp_some (de_bin od_add (db_var 2) (de_int).bw).bw) dp_none).bw))))))))) (fun ds RS h=> ?_)
 · obtain ⟨x,c,rfl,_⟩:=h;rfl
 · obtain ⟨x,c,rfl,hl,hR⟩:=h
   have sl:=fun a b=>Txt.slice_le x a b
   refine seq_d (fun env=>∃at_:Int,env=[.d (.str x),.d (.int c),.d (.int at_),.un,.un]) (fun N hN=> ?_) ?_
   · simp only [rD]
     exact ⟨by lia,by lia,hN _ ⟨_,rfl⟩⟩
   rintro env ⟨at_,rfl⟩
   refine seq_d (fun env=>∃g:Nat,env=[.d (.str x),.d (.int c),.d (.int at_),.d (.str ⟨#[g]⟩),.un]) (fun N hN=> ?_) ?_
   · simp only [rD,sg_is]
     obtain ⟨g,hg⟩:=at_some (l:=sgL) (i:=c / 4096 % 21) (by lia) (by show c / 4096 % 21 < 21;lia)
     exact ⟨⟨by decide,by decide⟩,by decide,by decide,g,hg,hN _ ⟨g,rfl⟩⟩
   rintro env ⟨g,rfl⟩
   refine seq_d (fun env=>∃md:Int,env=[.d (.str x),.d (.int c),.d (.int at_),.d (.str ⟨#[g]⟩),.d (.int md)]) (fun N hN=> ?_) ?_
   · simp only [rD]
     exact ⟨⟨by decide,by decide⟩,by decide,hN _ ⟨_,rfl⟩⟩
   rintro env ⟨md,rfl⟩
   have l1:(⟨#[g]⟩:Str).length=1:=rfl
   have s1:=sl none (some at_)
   have s2:=sl (some (at_ + 1)) none
   have s3:=sl (some at_) none
   simp only [rD,PySem.Str.length_append]
   refine ⟨okI _,okI _,.inl (shI _),ite2 (fun q_=> ?_) (fun q_=> ?_)⟩
   · refine ⟨by lia,by lia,by lia,hR _ ?_⟩
     rw [PySem.Str.length_append];lia
   refine ⟨okI _,okI _,.inl (shI _),ite2 (fun q_=> ?_) (fun q_=> ?_)⟩
   · refine ⟨by lia,by lia,by lia,by lia,hR _ ?_⟩
     rw [PySem.Str.length_append,PySem.Str.length_append];lia
   · refine ⟨by lia,by lia,by lia,by lia,hR _ ?_⟩
     rw [PySem.Str.length_append,PySem.Str.length_append];lia
end
section
variable {P:Program} {w:World} {K:PySem.W.Frag} {mg:Str→Option Value} {base:Heap}
theorem scOd:FnScope ["cell","some"] ["cell"] (defScope s__law_odd):=⟨rfl,rfl,rfl,by decide +kernel,rfl,by decide +kernel,by decide +kernel⟩
theorem ok_Od {f:Addr} {fd:FuncData} (F:Fun K "_law_odd" "_law_odd" s__law_odd f fd) (T:Txt K mg):
 FnOk P w K mg base CX0 1 f fd ["cell"] (spG K Podd):=by
 refine F.okG scOd (fun ds RS h=> ?_) (fun cdv A outer s H E hr=>(dss_cons (ds_set 1 (fun q_=>scOd.nd) ((do_lst (da_cons (de_str) (da_cons (de_str) (da_cons (de_str) (da_cons (de_str) (da_cons (de_str) (da_cons (de_str) (da_cons (de_str) (da_cons (de_str) (da_cons (de_str) (da_cons (de_str) (da_cons (de_str) (da_cons (de_str) da_nil))))))))))))).ew))
  (dss_one (ds_ret (de_ix (do_cat (dl_var 1) (do_lst (da_cons (de_str) (da_cons (de_str) (da_cons (de_str) (da_cons (de_str) da_nil))))).l).q (de_bin od_mod (db_var 0) (de_int).bw).bw))))) (fun ds RS h=> ?_)
 · obtain ⟨c,rfl,_⟩:=h;rfl
 · obtain ⟨c,rfl,hR⟩:=h
   simp only [rD]
   refine ⟨by decide,?_⟩
   obtain ⟨y,hy,e⟩:=at_strs (ws:=oddL) (B:=100) (by decide) (i:=c % 16) (by lia) (by show c % 16 < 16;lia)
   exact ⟨_,e,hR y hy⟩
end
section
variable {P:Program} {w:World} {K:PySem.W.Frag} {mg:Str→Option Value} {base:Heap}
theorem scPa:FnScope ["text","cell","words","at"] ["text","cell"] (defScope s__law_paired):=⟨rfl,rfl,rfl,by decide +kernel,rfl,by decide +kernel,by decide +kernel⟩
theorem ok_Pa {f:Addr} {fd:FuncData} (F:Fun K "_law_paired" "_law_paired" s__law_paired f fd) (T:Txt K mg):
 FnOk P w K mg base CX0 1 f fd ["text","cell"] (spG K Ppad):=by
 refine F.okG scPa (fun ds RS h=> ?_) (fun cdv A outer s H E hr=>(dss_cons (ds_setO 2 (fun q_=>scPa.nd) (do_split (db_var 0) (de_str).bw))
  (dss_cons (ds_set 3 (fun q_=>scPa.nd) (de_bin od_add (de_int).bw (de_bin od_mod (db_var 1) (de_len (dq_var 2) (fun q_=>T.len)).bw).bw))
  (dss_cons (ds_if (dt_cmp (od_eq (fun q_=>room_u hr (by decide))) (de_bin od_mod (de_bin od_fdiv (db_var 1) (de_int).bw).bw (de_int).bw).bw (de_int).bw) (dss_one (ds_ins 2 (de_var 3) (de_bin od_addS (de_bin od_addS (de_str1 (de_bin od_mod (de_bin od_fdiv (db_var 1) (de_int).bw).bw (de_int).bw).bw (fun q_=>T.str)).bw (de_str).bw).bw (de_str1 (de_bin od_mod (de_bin od_fdiv (db_var 1) (de_int).bw).bw (de_int).bw).bw (fun q_=>T.str)).bw))) (dss_one (ds_if (dt_cmp od_gt (de_len (dq_var 2) (fun q_=>T.len)).bw (de_int).bw) (dss_one (ds_put2 2 (de_int) (de_neg (de_int)) (de_tup (da_cons (de_ix (dq_var 2) (de_neg (de_int)).bw) (da_cons (de_ix (dq_var 2) (de_int).bw) da_nil))))) dss_nil)))
  (dss_one (ds_ret (de_join (de_str).bw (dl_var 2)))))))) (fun ds RS h=> ?_)
 · obtain ⟨n,qs,c,rfl,_⟩:=h;rfl
 · obtain ⟨n,qs,c,rfl,⟨n0,n1⟩,hq,hl,hR⟩:=h
   have tl:=tS_len n0 n1 hq hl
   have st:=split_text n0 n1 hq
   refine seq_d (fun env=>∃ws:List Str,(∀ w∈ws,w.length≤5)∧ws.length≤1001∧1≤ws.length∧env=[.d (.str (tS n qs)),.d (.int c),.o (ws.map PyData.str),.un]) (fun N hN=> ?_) ?_
   · simp only [rD,sp_is]
     refine ⟨rfl,by lia,split_sz (by lia),hN _ ⟨_,fun w hw=> ?_,?_,?_,rfl⟩⟩
     · rw [st] at hw
       rcases List.mem_cons.mp hw with rfl | hw
       · have:=hL_len n0 n1
         rw [len_cL,cL_mk];lia
       · obtain ⟨q,hq2,rfl⟩:=List.mem_map.mp hw
         have:=wL_len (hq q hq2)
         rw [len_cL,cL_mk];exact this
     · rw [st,List.length_cons,List.length_map];lia
     · rw [st,List.length_cons];lia
   rintro env ⟨ws,h5,hn,h1,rfl⟩
   refine seq_d (fun env=>∃at_:Int,(1≤at_∧at_≤ws.length)∧env=[.d (.str (tS n qs)),.d (.int c),.o (ws.map PyData.str),.d (.int at_)]) (fun N hN=> ?_) ?_
   · simp only [rD,List.length_map]
     exact ⟨by lia,hN _ ⟨_,by have:=Int.emod_nonneg c (show (ws.length:Int)≠0 by lia);have:=Int.emod_lt_of_pos c (show (0:Int) < ws.length by lia);lia,rfl⟩⟩
   rintro env ⟨at_,⟨a1,a2⟩,rfl⟩
   refine seq_d (fun env=>∃ws:List Str,(∀ w∈ws,w.length≤5)∧ws.length≤1002∧env=[.d (.str (tS n qs)),.d (.int c),.o (ws.map PyData.str),.d (.int at_)]) (fun N hN=> ?_) ?_
   · simp only [rD,List.length_map]
     refine ⟨⟨by decide,by decide⟩,by decide,okI _,okI _,.inl (shI _),ite2 (fun q_=> ?_) (fun q_=>ite2 (fun z=> ?_) (fun q_=> ?_))⟩
     · obtain ⟨j,rfl⟩:=Int.eq_ofNat_of_zero_le (show 0≤at_ by lia)
       have wl:=wL_len (q:=(c / 128 % 13,c / 2048 % 13)) ⟨⟨by dsimp only;lia,by dsimp only;lia⟩,by dsimp only;lia,by dsimp only;lia⟩
       have ew:Str.ofString (toString (c / 128 % 13))++Str.ofString "<"++Str.ofString (toString (c / 2048 % 13))=mkS (wL (c / 128 % 13,c / 2048 % 13)):=cL_ext (by
        rw [cL_app,cL_app,lt_is]
        show (cL (nS (c / 128 % 13))++[60])++cL (nS (c / 2048 % 13))=cL (nS (c / 128 % 13))++60::cL (nS (c / 2048 % 13))
        simp)
       have el:=congrArg PySem.Str.length ew
       rw [len_cL (mkS _),cL_mk,PySem.Str.length_append,PySem.Str.length_append] at el
       refine ⟨j,rfl,⟨by decide,by decide⟩,by decide,log_ok (by lia) (by lia),by lia,⟨by decide,by decide⟩,by decide,log_ok (by lia) (by lia),?_,by lia,by lia,?_⟩
       · rw [PySem.Str.length_append];lia
       rw [ew]
       refine hN _ ⟨ws.take j++mkS (wL (c / 128 % 13,c / 2048 % 13))::ws.drop j,fun w hw=> ?_,?_,by rw [List.map_append,List.map_cons,List.map_take,List.map_drop]⟩
       · rcases List.mem_append.mp hw with z | z
         · exact h5 w (List.mem_of_mem_take z)
         · rcases List.mem_cons.mp z with rfl | z
           · rw [len_cL,cL_mk];exact wl
           · exact h5 w (List.mem_of_mem_drop z)
       · rw [List.length_append,List.length_cons,List.length_take,List.length_drop];lia
     · have z:2 < ws.length:=by have:=of_decide_eq_true z;lia
       have i1:ixN ws.length 1=some 1:=ix_one (by lia)
       have i2:ixN ws.length (-1)=some (ws.length - 1):=ix_last (by lia)
       refine ⟨.str (ws[ws.length - 1]'(by lia)),?_,.str (ws[1]'(by lia)),?_,_,_,rfl,1,i1,ws.length - 1,by rw [List.length_set,List.length_map];exact i2,?_⟩
       · unfold atI
         rw [List.length_map,i2]
         simp [show ws.length - 1 < ws.length by lia]
       · unfold atI
         rw [List.length_map,i1]
         simp [show 1 < ws.length by lia]
       · refine hN _ ⟨(ws.set 1 (ws[ws.length - 1]'(by lia))).set (ws.length - 1) (ws[1]'(by lia)),fun w hw=> ?_,by rw [List.length_set,List.length_set];lia,by rw [← List.map_set,← List.map_set]⟩
         rcases List.mem_or_eq_of_mem_set hw with z | rfl
         · rcases List.mem_or_eq_of_mem_set z with z | rfl
           · exact h5 w z
           · exact h5 _ (List.getElem_mem _)
         · exact h5 _ (List.getElem_mem _)
     · exact hN _ ⟨ws,h5,by lia,rfl⟩
   rintro env ⟨ws,h5,hn,rfl⟩
   simp only [rD]
   refine ⟨ws,rfl,?_,hR _ ?_⟩
   · unfold JoinOk
     rw [StrLaws.joinFits (B:=5) h5 (by rw [sp_is];show ws.length * 5 + ws.length * 1≤_;lia)]
     rfl
   · show (Builtin.Str.glued (Str.ofString " ") ws).length≤_
     rw [StrLaws.glued_eq_join,sp_is,len_cL,join_cL]
     have:=jl_le 32 (B:=5) (us:=ws.map cL) fun u hu=>by
      obtain ⟨w,hw,rfl⟩:=List.mem_map.mp hu
      rw [← len_cL]
      exact h5 w hw
     rw [List.length_map] at this
     lia
end
section
variable {P:Program} {w:World} {K:PySem.W.Frag} {mg:Str→Option Value} {base:Heap}
theorem scDu:FnScope ["text","head","many","words","pairs","word","ends","space"] ["text"] (defScope s__law_due):=⟨rfl,rfl,rfl,by decide +kernel,rfl,by decide +kernel,by decide +kernel⟩
theorem ok_Du {f:Addr} {fd:FuncData} (F:Fun K "_law_due" "_law_due" s__law_due f fd) (T:Txt K mg) (GMk:Fn P w K mg base "_law_mark" 1 ["word"] (spG K Pmark)) (GDCd:Fn P w K mg base "_law_closed" 1 ["many","pairs"] (spG K Pclosed)) (GTx:Fn P w K mg base "_law_text" 1 ["space"] (spG K Pwrit)):
 FnOk P w K mg base CX0 2 f fd ["text"] (spG K Pdue7):=by
 refine F.okG scDu (fun ds RS h=> ?_) (fun cdv A outer s H E hr=>(dss_cons (ds_set 1 (fun q_=>scDu.nd) ((do_split (db_var 0) (de_str).bw).ew))
  (dss_cons (ds_if ((dw_or (dt_cmp (od_ne (fun q_=>room_u hr (by decide))) (de_len (dq_var 1) (fun q_=>T.len)).bw (de_int).bw) (dw_or1 (dt_not (dt_chain od_le od_le (de_int).bw (de_call GMk (fun q_=>hr.mono (by decide)) (da_cons (de_ix (dq_var 1) (de_int).bw) da_nil)).bw (de_int).bw)))).t) (dss_one (ds_ret (de_non))) dss_nil)
  (dss_cons (ds_set 2 (fun q_=>scDu.nd) (de_call GMk (fun q_=>hr.mono (by decide)) (da_cons (de_ix (dq_var 1) (de_int).bw) da_nil)))
  (dss_cons (ds_set 3 (fun q_=>scDu.nd) ((do_split (de_ix (dq_var 1) (de_int).bw).bw (de_str).bw).ew))
  (dss_cons (ds_setO 4 (fun q_=>scDu.nd) (do_lst da_nil))
  (dss_cons (ds_for (fun q_=>PassesOwn.never) (di_seq ((do_slice (dl_var 3) (dp_some (de_int).bw) dp_none).ew)) (dg_name 5 (fun q_=>scDu.nd)) (dss_cons (ds_setlc 6 (fun q_=>scDu.nd) (N':=["end"]) (fun q_=>(.own .nil)) (di_seq ((do_split (db_var 5) (de_str).bw).ew)) (dg_name 0 (fun q_=>(by decide +kernel:(["end"]:List Str).Nodup))) dif_nil (de_call GMk (fun q_=>hr.mono (by decide)) (da_cons (de_var 0) da_nil)))
  (DSs.frz 6 (dss_cons (ds_if ((dw_or (dt_cmp (od_ne (fun q_=>room_u hr (by decide))) (de_len (dq_var 6) (fun q_=>T.len)).bw (de_int).bw) (dw_or (dt_cmp od_lt (de_minL (dl_var 6) (fun q_=>T.min)).bw (de_int).bw) (dw_or1 (dt_cmp od_ge (de_maxL (dl_var 6) (fun q_=>T.max)).bw (db_var 2))))).t) (dss_one (ds_ret (de_non))) dss_nil)
  (dss_one (ds_app 4 (de_tup (da_cons (de_ix (dq_var 6) (de_int).bw) (da_cons (de_ix (dq_var 6) (de_int).bw) da_nil)))))))))
  (dss_cons (ds_set 7 (fun q_=>scDu.nd) (de_tup (da_cons (de_var 2) (da_cons (de_callB GDCd (fun q_=>hr.mono (by decide)) (dab_cons (db_var 2) (dab_cons (db_var 4) dab_nil))) da_nil))))
  (dss_cons (ds_if ((dw_or (dt_cmp od_gt (de_len (do_lc (N':=["a","b"]) (fun q_=>(.own (.own .nil))) (di_seq (de_ix (dq_var 7) (de_int).bw)) (dg_tup2 0 1 (fun q_=>(by decide +kernel:(["a","b"]:List Str).Nodup))) (dif_one (dt_cmp (od_eq (fun q_=>room_u hr (by decide))) (db_var 0) (db_var 1))) (de_int)).q (fun q_=>T.len)).bw (de_int).bw) (dw_or1 (dt_cmp od_neS (de_call GTx (fun q_=>hr.mono (by decide)) (da_cons (de_var 7) da_nil)).bw (db_var 0)))).t) (dss_one (ds_ret (de_non))) dss_nil)
  (dss_one (ds_retV 7))))))))))) (fun ds RS h=> ?_)
 · obtain ⟨x,rfl,_⟩:=h;rfl
 · obtain ⟨x,rfl,hl,hR,hX⟩:=h
   have sj:=split_cL x 58
   have s58: ∀n ps,WrT x n ps→Txt.split x ⟨#[58]⟩=[nS n,mkS ((nearF ps).flatMap fun q=>32::wL q)]:=fun n ps z=>z.sp58
   have pl: ∀w∈Txt.split x ⟨#[58]⟩,w.length≤x.length:=fun w hw=>part_le hw
   refine seq_d (fun env=>env=[.d (.str x),.d (.list ((Txt.split x ⟨#[58]⟩).map PyData.str)),.un,.un,.un,.un,.un,.un]) (fun N hN=> ?_) ?_
   · simp only [rD,co_is]
     exact ⟨rfl,by lia,split_sz (by lia),hN _ rfl⟩
   rintro env rfl
   generalize Txt.split x ⟨#[58]⟩=hs at sj s58 pl
   refine seq_d (fun env=>∃(M:Nat) (h1:Str),(1≤M∧M≤16)∧hs=[nS M,h1]∧env=[.d (.str x),.d (.list [.str (nS M),.str h1]),.un,.un,.un,.un,.un,.un]) (fun N hN=> ?_) ?_
   · simp only [rD,List.length_map]
     refine ⟨okI _,okI _,.inl (shI _),?_⟩
     rw [eqv_int]
     by_cases l:hs.length=2
     · match hs,l with
       | [p,q],_=>
         refine iteN rfl ⟨_,at0 _ _,p,rfl,Nat.le_trans (pl p List.mem_cons_self) (by lia),_,rfl,_,rfl,?_⟩
         have bad:(∀ M:Nat,1≤M→M≤16→p≠nS M)→RS (.d .none):=fun no=>hX fun n ps z=>no n z.1.1 z.1.2 (List.cons.inj (s58 n ps z)).1
         by_cases e1:1≤mkF p
         · rw [if_pos (decide_eq_true e1)]
           refine ⟨_,rfl,?_⟩
           obtain ⟨i,hi,ep,ei⟩:=mkF_some (w:=p) (by lia)
           by_cases e2:mkF p≤16
           · exact iteN (by rw [decide_eq_true e2];rfl) (hN _ ⟨i,q,by lia,by rw [ep],by rw [ep];rfl⟩)
           · rw [decide_eq_false e2]
             refine ite2 (fun q_=>bad fun M m1 m2 e=> ?_) (fun z=>absurd rfl z)
             rw [e,mkF_nS (by lia)] at e2
             lia
         · rw [if_neg (fun z=>e1 (of_decide_eq_true z))]
           refine ite2 (fun q_=>bad fun M m1 m2 e=> ?_) (fun z=>absurd rfl z)
           rw [e,mkF_nS (by lia)] at e1
           lia
     · rw [decide_eq_false (by lia)]
       refine ite2 (fun q_=> ?_) (fun z=>absurd rfl z)
       exact hX fun n ps z=>l (by rw [s58 n ps z];rfl)
   rintro env ⟨M,h1,⟨M1,M2⟩,rfl,rfl⟩
   refine seq_d (fun env=>env=[.d (.str x),.d (.list [.str (nS M),.str h1]),.d (.int (M:Int)),.un,.un,.un,.un,.un]) (fun N hN=> ?_) ?_
   · simp only [rD]
     refine ⟨_,at0 _ _,nS M,rfl,(hS_len (by lia) (by lia)).1,_,rfl,?_⟩
     rw [mkF_nS (by lia)]
     exact hN _ rfl
   rintro env rfl
   have hl1:h1.length≤40000:=Nat.le_trans (pl h1 (by simp)) hl
   have s32: ∀n ps,WrT x n ps→n=M∧Txt.split h1 ⟨#[32]⟩=mkS []::wSs (nearF ps):=fun n ps z=>by
    have e:=s58 n ps z
    injection e with e1 e2
    injection e2 with e2 _
    have n2:=z.1.2
    exact ⟨(nS_inj99 (by lia) (by lia) e1).symm,by rw [e2];exact rest_sp z.inN⟩
   obtain ⟨w0,wr,ew⟩: ∃w0 wr,Txt.split h1 ⟨#[32]⟩=w0::wr:=List.exists_cons_of_ne_nil (split_ne _ _)
   have lw: ∀w∈wr,w.length≤40000:=fun w hw=>Nat.le_trans (part_le (by rw [ew];exact List.mem_cons_of_mem _ hw)) hl1
   have lwr:wr.length≤40000:=by
    have:=split_len h1 32
    rw [ew,List.length_cons] at this
    lia
   have s32: ∀n ps,WrT x n ps→n=M∧wr=wSs (nearF ps):=fun n ps z=>⟨(s32 n ps z).1,(List.cons.inj (ew.symm.trans (s32 n ps z).2)).2⟩
   refine seq_d (fun env=>env=[.d (.str x),.d (.list [.str (nS M),.str h1]),.d (.int (M:Int)),.d (.list (.str w0::wr.map PyData.str)),.un,.un,.un,.un]) (fun N hN=> ?_) ?_
   · simp only [rD,sp_is]
     refine ⟨_,at1 _ _ _,h1,rfl,rfl,by lia,split_sz (by lia),?_⟩
     rw [ew]
     exact hN _ rfl
   rintro env rfl
   refine seq_d (fun env=>env=[.d (.str x),.d (.list [.str (nS M),.str h1]),.d (.int (M:Int)),.d (.list (.str w0::wr.map PyData.str)),.o [],.un,.un,.un]) (fun N hN=> ?_) ?_
   · simp only [rD]
     exact hN _ rfl
   rintro env rfl
   refine seq_d (fun env=>∃(qs:List (Int×Int)) (v5 v6:Dt),(∀ q∈qs,inR M q)∧wr=wSs qs∧env=[.d (.str x),.d (.list [.str (nS M),.str h1]),.d (.int (M:Int)),.d (.list (.str w0::wr.map PyData.str)),.o (qs.map pD),v5,v6,.un]) (fun N hN=> ?_) ?_
   · dsimp only [sFor,xSeq,xLst,xSlice,xVarL,xPs,xPn]
     refine ⟨_,.inr rfl,1,rfl,_,rfl,?_⟩
     rw [cut_one_on]
     refine ⟨fun k env=>∃(qs:List (Int×Int)) (v5 v6:Dt),(∀ q∈qs,inR M q)∧wr.take k=wSs qs∧env=[.d (.str x),.d (.list [.str (nS M),.str h1]),.d (.int (M:Int)),.d (.list (.str w0::wr.map PyData.str)),.o (qs.map pD),v5,v6,.un],⟨[],_,_,(fun q_ z=>nomatch z),by rw [List.take_zero];rfl,rfl⟩,?_,?_⟩
     · rintro k y env hy ⟨qs,v5,v6,hq,ek,rfl⟩
       rw [List.getElem?_map] at hy
       obtain ⟨w,hw,rfl⟩:=Option.map_eq_some_iff.mp hy
       have wm:=List.mem_of_getElem? hw
       have wl:=lw w wm
       have wj:=split_cL w 60
       have pw: ∀p∈Txt.split w ⟨#[60]⟩,p.length≤w.length:=fun p hp=>part_le hp
       have lk:qs.length≤40000:=by
        have:=congrArg List.length ek
        rw [List.length_take,List.length_map] at this
        lia
       have bad:(∀ q,inR M q→w≠mkS (wL q))→RS (.d .none):=fun no=>hX fun n ps z=>by
        obtain ⟨rfl,e⟩:=s32 n ps z
        rw [e] at wm
        obtain ⟨q,hq,e2⟩:=List.mem_map.mp wm
        exact no q (z.inR q hq) e2.symm
       have word: ∀q,inR M q→w=mkS (wL q)→Txt.split w ⟨#[60]⟩=[nS q.1,nS q.2]:=fun q h e=>by rw [e];exact split_word (inR_N M2 h)
       have good: ∀q,w=mkS (wL q)→wr.take (k + 1)=wSs (qs++[q]):=fun q e=>by
        rw [List.take_succ,hw,ek,e]
        simp [wSs]
       simp only [rD,xLC,lt_is]
       have sz:=split_sz (x:=w) (c:=60) (by lia)
       generalize Txt.split w ⟨#[60]⟩=parts at wj word sz pw
       refine ⟨rfl,by lia,sz,Gf parts PyData.str (fun q_=>true) (fun p=> .int (mkF p)),fun y hy=> ?_,fun o ho=> ?_⟩
       · obtain ⟨p,hp,rfl⟩:=List.mem_map.mp hy
         exact ⟨p,rfl,Nat.le_trans (pw p hp) (by lia),_,rfl,Gf.keep hp rfl rfl⟩
       · rw [Gf.all str_injD ho]
         refine ⟨okI _,okI _,.inl (shI _),?_⟩
         rw [eqv_int,List.length_map]
         by_cases l:parts.length=2
         · match parts,l with
           | [p1,p2],_=>
             have ewj:mkF p1≥0→mkF p2≥0→mkF p1 < M→mkF p2 < M→inR M (mkF p1,mkF p2)∧w=mkS (wL (mkF p1,mkF p2)):=fun a1 a2 a3 a4=>by
              obtain ⟨i,hi,e1,e2⟩:=mkF_some a1
              obtain ⟨j,hj,e3,e4⟩:=mkF_some a2
              refine ⟨⟨a1,a3,a2,a4⟩,cL_ext ?_⟩
              rw [wj,e2,e4,e1,e3]
              rfl
             have nos: ∀q,inR M q→w=mkS (wL q)→(0≤mkF p1∧mkF p1 < M)∧0≤mkF p2∧mkF p2 < M:=fun q h e=>by
              have:=word q h e
              obtain ⟨e1,e2⟩:=List.cons.inj this
              obtain ⟨e2,_⟩:=List.cons.inj e2
              obtain ⟨b1,b2,b3,b4⟩:=h
              obtain ⟨i,hi⟩:=Int.eq_ofNat_of_zero_le b1
              obtain ⟨j,hj⟩:=Int.eq_ofNat_of_zero_le b3
              rw [hi] at e1 b2
              rw [hj] at e2 b4
              rw [e1,e2,mkF_nS (by lia),mkF_nS (by lia)]
              lia
             refine iteN rfl ⟨mkF p1,mkF p2,rfl,?_⟩
             by_cases c1:(if mkF p2 < mkF p1 then mkF p2 else mkF p1) < 0
             · rw [if_pos (decide_eq_true c1)]
               refine ite2 (fun q_=>bad fun q h e=> ?_) (fun z=>absurd trivial z)
               have:=nos q h e
               split at c1 <;> lia
             rw [if_neg (fun z=>c1 (of_decide_eq_true z))]
             refine ⟨mkF p1,mkF p2,rfl,?_⟩
             by_cases c2:(M:Int)≤if mkF p1 < mkF p2 then mkF p2 else mkF p1
             · rw [if_pos (decide_eq_true c2)]
               refine bad fun q h e=> ?_
               have:=nos q h e
               split at c2 <;> lia
             rw [if_neg (fun z=>c2 (of_decide_eq_true z))]
             have nn:(0≤mkF p1∧mkF p1 < M)∧0≤mkF p2∧mkF p2 < M:=by split at c1 <;> split at c2 <;> lia
             obtain ⟨i1,i2⟩:=ewj nn.1.1 nn.2.1 nn.1.2 nn.2.2
             refine ⟨_,at0 _ _,_,at1 _ _ _,by rw [List.length_map];lia,qs++[(mkF p1,mkF p2)],fun q h=> ?_,good _ i2,_,_,by rw [List.map_append];rfl⟩
             rcases List.mem_append.mp h with z | z
             · exact hq q z
             · rw [List.mem_singleton.mp z];exact i1
         · rw [decide_eq_false (by lia)]
           exact ite2 (fun q_=>bad fun q h e=>l (by rw [word q h e];rfl)) (fun z=>absurd rfl z)
     · rintro env ⟨qs,v5,v6,hq,ek,rfl⟩
       rw [List.length_map,List.take_length] at ek
       exact hN _ ⟨qs,_,_,hq,ek,rfl⟩
   rintro env ⟨qs,v5,v6,hq,rfl,rfl⟩
   have hqN: ∀q∈qs,InN q:=fun q h=>inR_N M2 (hq q h)
   refine seq_d (fun env=>env=[.d (.str x),.d (.list [.str (nS M),.str h1]),.d (.int (M:Int)),.d (.list (.str w0::(wSs qs).map PyData.str)),.o (qs.map pD),v5,v6,.d (spD M (clo M qs))]) (fun N hN=> ?_) ?_
   · simp only [rD]
     exact ⟨M,qs,rfl,M2,_,rfl,imm_tup _,hN _ rfl⟩
   rintro env rfl
   have bad2: ∀n ps,WrT x n ps→dueG M qs∧x=tS M (nearF (clo M qs)):=fun n ps z=>by
    obtain ⟨rfl,e⟩:=s32 n ps z
    refine z.due M2 hqN ?_
    rw [e]
    exact z.sp32
   have dm:okM M:=⟨by lia,by lia⟩
   simp only [rD,xLC,seq_sp,at1]
   refine ⟨Gf (clo M qs) pD (fun q=>decide (q.1=q.2)) (fun q_=> .int 1),fun y hy=> ?_,fun o ho=> ?_⟩
   · obtain ⟨q,hq,rfl⟩:=List.mem_map.mp hy
     refine ⟨_,_,rfl,okI _,okI _,.inl (shI _),?_⟩
     rw [eqv_int]
     by_cases e:q.1=q.2
     · rw [if_pos (decide_eq_true e)]
       exact Gf.keep hq (decide_eq_true e) rfl
     · rw [if_neg (by simp [e])]
       exact Gf.skip hq (decide_eq_false e)
   · rw [Gf.out pD_inj ho]
     by_cases r:rnd M qs
     · refine ite2 (fun q_=>ite2 (fun q_=>hX fun n ps z=>(bad2 n ps z).1.2.2 r) (fun z=>absurd trivial z)) (fun z=>absurd ?_ z)
       obtain ⟨a,a1,a2⟩:=r
       have hm:((a:Int),(a:Int))∈(clo M qs).filter fun q=>decide (q.1=q.2):=List.mem_filter.mpr ⟨mem_pairsOf'.mpr ⟨a1,a1,a2⟩,decide_eq_true rfl⟩
       have:=List.length_pos_of_mem hm
       rw [List.length_map]
       exact decide_eq_true (by lia)
     · have e:(clo M qs).filter (fun q=>decide (q.1=q.2))=[]:=List.filter_eq_nil_iff.mpr fun q hq z=>r (by
        obtain ⟨a,b,ha,hb,z2,rfl⟩:=mem_pairsOf.mp hq
        have z:=of_decide_eq_true z
        dsimp only at z
        have:a=b:=by lia
        subst this
        exact ⟨a,ha,z2⟩)
       rw [e]
       have wt:=WrT.mk (i:=M) (qs:=qs) ⟨dm,hq,r⟩
       have pl2:(clo M qs).length≤1000:=Nat.le_trans wt.2.1.len (Nat.le_trans (Nat.mul_le_mul M2 M2) (by decide))
       refine iteN rfl ⟨M,clo M qs,rfl,M2,pl2,wt.2.1.inR,_,rfl,_,rfl,?_⟩
       by_cases e2:tS M (nearF (clo M qs))=x
       · exact iteN (by rw [decide_eq_true e2];rfl) (hR M _ (by rw [← e2];exact wt))
       · rw [decide_eq_false e2]
         exact ite2 (fun q_=>hX fun n ps z=>e2 (bad2 n ps z).2.symm) (fun z=>absurd rfl z)
end
section
variable {P:Program} {w:World} {K:PySem.W.Frag} {mg:Str→Option Value} {base:Heap}
theorem scTd:FnScope ["text","e","others"] ["text"] (defScope s__law_told):=⟨rfl,rfl,rfl,by decide +kernel,rfl,by decide +kernel,by decide +kernel⟩
theorem ok_Td {f:Addr} {fd:FuncData} {c0 c1 c2 c3 c4 c5:Addr} (F:Fun K "_law_told" "_law_told" s__law_told f fd) (T:Txt K mg) (Z:XT K mg c0 c1 c2 c3 c4 c5) (GRdE:FnE P w K mg base "read" 4 ["text"] (PreadE K)):
 FnOk P w K mg base CX0 5 f fd ["text"] (spG K (Ptold7)):=by
 refine F.okT' (Pb:=fun W ds RS=>PreadE K ds RS W) (ie:=1) scTd (fun ds RS h=> ?_) rfl rfl rfl Z.x0.m Z.x0.own (fun q_ q_ q_ q_ q_ q_ q_=>rfl) (fun W=>⟨_,fun cdv A outer s H E hr=>(dss_one (ds_ret (de_callE GRdE (fun q_=>hr.mono (by decide)) wishE_mk (fun q_=>pass_try rfl) (da_cons (de_var 0) da_nil)))),fun ds RS h=> ?_⟩) (fun cdv A outer s H E a hr=>(dss_cons (ds_set 2 (fun q_=>scTd.nd) (de_isXs (db_var 1) (.cons (fun q_=>Z.x5.m) (fun q_=>rfl) (by decide) (fun q_=>rfl) (.cons (fun q_=>Z.x2.m) (fun q_=>rfl) (by decide) (fun q_=>rfl) (.cons (fun q_=>Z.x3.m) (fun q_=>rfl) (by decide) (fun q_=>rfl) (.cons (fun q_=>Z.x1.m) (fun q_=>rfl) (by decide) (fun q_=>rfl) .nil)))) (show 4≤100000 by decide) (fun q_=>T.isi)))
  (dss_one (ds_retO (do_lst (da_cons (de_isX (db_var 1) (fun q_=>Z.x4.m) (fun q_=>T.isi)) (da_cons (de_isXT (db_var 1) bt_ve (fun q_=>T.ve) (fun q_=>T.isi)) (da_cons (de_var 2) da_nil)))))))) (fun ds RS h=> ?_)
 · obtain ⟨x,rfl,_⟩:=h;rfl
 · obtain ⟨x,rfl,hl,hR,hX⟩:=h
   simp only [rD]
   exact ⟨x,rfl,hl,fun n ps z=>⟨_,rfl,hR n ps z⟩,hX⟩
 · obtain ⟨x,rfl,hl,hR,hX⟩:=h
   by_cases e: ∃n ps,WrT x n ps
   · obtain ⟨n,ps,wt⟩:=e
     exact ⟨fun q_=>False,⟨x,rfl,hl,hR,fun z=>absurd wt (z n ps)⟩,fun D z=>z.elim⟩
   refine ⟨clsA K "NotRead",⟨x,rfl,hl,hR,fun q_ c hc=>hc⟩,fun D hD=> ?_⟩
   cases Z.x4.is hD
   refine ⟨xSub_under Z.x4.ok Z.u4,?_⟩
   simp only [rD]
   exact ⟨_,rfl,Z.x4.exc,_,kit_no fun y hy=>(by
    rcases List.mem_cons.mp hy with rfl | hy
    · exact Z.w4_5
    rcases List.mem_cons.mp hy with rfl | hy
    · exact Z.w4_2
    rcases List.mem_cons.mp hy with rfl | hy
    · exact Z.w4_3
    rcases List.mem_cons.mp hy with rfl | hy
    · exact Z.w4_1
    · cases hy),_,rfl,Z.x4.exc,_,Z.w4_4,_,rfl,Z.x4.exc,_,Z.v4,hX fun n ps z=>e ⟨n,ps,z⟩⟩
end
section
variable {P:Program} {w:World} {K:PySem.W.Frag} {mg:Str→Option Value} {base:Heap}
theorem scLaw:FnScope ["script","text","mode","due","told"] ["script"] (defScope sLaw):=⟨rfl,rfl,rfl,by decide +kernel,rfl,by decide +kernel,by decide +kernel⟩
theorem ok_Law {f:Addr} {fd:FuncData} (F:Fun K "law" "law" sLaw f fd) (T:Txt K mg) (GDSp:Fn P w K mg base "_law_space" 3 ["script","at","most"] (spG K Pspace)) (GTx:Fn P w K mg base "_law_text" 1 ["space"] (spG K Pwrit)) (GDCl:Fn P w K mg base "_law_cell" 2 ["script","k"] (spG K Pcell)) (GCg:Fn P w K mg base "_law_changed" 1 ["text","cell"] (spG K Pchg)) (GPa:Fn P w K mg base "_law_paired" 1 ["text","cell"] (spG K Ppad)) (GOd:Fn P w K mg base "_law_odd" 1 ["cell"] (spG K Podd)) (GDu:Fn P w K mg base "_law_due" 2 ["text"] (spG K Pdue7)) (GTd:Fn P w K mg base "_law_told" 5 ["text"] (spG K (Ptold7))) (GSa:Fn P w K mg base "_law_same" 3 ["found","due"] (spG K Psame)):
 FnOk P w K mg base CX0 8 f fd ["script"] (spG K Plaw):=by
 refine F.okG scLaw (fun ds RS h=> ?_) (fun cdv A outer s H E hr=>(dss_cons (ds_set 1 (fun q_=>scLaw.nd) (de_call GTx (fun q_=>hr.mono (by decide)) (da_cons (de_call GDSp (fun q_=>hr.mono (by decide)) (da_cons (de_var 0) (da_cons (de_int) (da_cons (de_int) da_nil)))) da_nil)))
  (dss_cons (ds_set 2 (fun q_=>scLaw.nd) (de_bin od_mod (de_call GDCl (fun q_=>hr.mono (by decide)) (da_cons (de_var 0) (da_cons (de_int) da_nil))).bw (de_int).bw))
  (dss_cons (ds_if (dt_cmp (od_in (fun q_=>room_u hr (by decide))) (db_var 2) (de_tup (da_cons (de_int) (da_cons (de_int) (da_cons (de_int) da_nil)))).bw) (dss_one (ds_set 1 (fun q_=>scLaw.nd) (de_call GCg (fun q_=>hr.mono (by decide)) (da_cons (de_var 1) (da_cons (de_call GDCl (fun q_=>hr.mono (by decide)) (da_cons (de_var 0) (da_cons (de_int) da_nil))) da_nil))))) dss_nil)
  (dss_cons (ds_if (dt_cmp (od_eq (fun q_=>room_u hr (by decide))) (db_var 2) (de_int).bw) (dss_one (ds_set 1 (fun q_=>scLaw.nd) (de_call GCg (fun q_=>hr.mono (by decide)) (da_cons (de_var 1) (da_cons (de_call GDCl (fun q_=>hr.mono (by decide)) (da_cons (de_var 0) (da_cons (de_int) da_nil))) da_nil))))) dss_nil)
  (dss_cons (ds_if (dt_cmp (od_in (fun q_=>room_u hr (by decide))) (db_var 2) (de_tup (da_cons (de_int) (da_cons (de_int) (da_cons (de_int) da_nil)))).bw) (dss_one (ds_set 1 (fun q_=>scLaw.nd) (de_call GPa (fun q_=>hr.mono (by decide)) (da_cons (de_var 1) (da_cons (de_call GDCl (fun q_=>hr.mono (by decide)) (da_cons (de_var 0) (da_cons (de_int) da_nil))) da_nil))))) dss_nil)
  (dss_cons (ds_if (dt_cmp (od_eq (fun q_=>room_u hr (by decide))) (db_var 2) (de_int).bw) (dss_one (ds_set 1 (fun q_=>scLaw.nd) (de_call GOd (fun q_=>hr.mono (by decide)) (da_cons (de_call GDCl (fun q_=>hr.mono (by decide)) (da_cons (de_var 0) (da_cons (de_int) da_nil))) da_nil)))) dss_nil)
  (dss_cons (ds_if (dt_cmp (od_eq (fun q_=>room_u hr (by decide))) (db_var 2) (de_int).bw) (dss_one (ds_set 1 (fun q_=>scLaw.nd) (de_bin od_addS (db_var 1) (de_ix (do_lst (da_cons (de_str) (da_cons (de_str) (da_cons (de_str) (da_cons (de_str) da_nil))))).q (de_bin od_mod (de_call GDCl (fun q_=>hr.mono (by decide)) (da_cons (de_var 0) (da_cons (de_int) da_nil))).bw (de_int).bw).bw).bw))) dss_nil)
  (dss_cons (ds_set 3 (fun q_=>scLaw.nd) (de_call GDu (fun q_=>hr.mono (by decide)) (da_cons (de_var 1) da_nil)))
  (dss_cons (ds_set 4 (fun q_=>scLaw.nd) (de_call GTd (fun q_=>hr.mono (by decide)) (da_cons (de_var 1) da_nil)))
  (dss_cons (ds_if (dt_cmp od_is (db_var 3) (de_non).bw) (dss_one (ds_ret (de_cmp (od_eq (fun q_=>room_u hr (by decide))) (db_var 4) (do_lst (da_cons (de_bl) (da_cons (de_bl) (da_cons (de_bl) da_nil)))).bw))) dss_nil)
  (dss_one (ds_ret (de_call GSa (fun q_=>hr.mono (by decide)) (da_cons (de_var 4) (da_cons (de_var 3) da_nil)))))))))))))))) (fun ds RS h=> ?_)
 · obtain ⟨ns,rfl,_⟩:=h;rfl
 · obtain ⟨ns,rfl,hn,hR⟩:=h
   refine seq_d (fun env=>∃(n:Nat) (ps:List (Int×Int)),(1≤n∧n≤16)∧IsSp n ps∧env=[.d (scrD ns),.d (.str (tS n (nearF ps))),.un,.un,.un]) (fun N hN=> ?_) ?_
   · simp only [rD]
     refine ⟨ns,0,12,rfl,by decide,by decide,fun n ps h1 h2 h3=>⟨_,rfl,n,ps,rfl,by lia,?_,h3.inR,_,rfl,hN _ ⟨n,ps,⟨h1,by lia⟩,h3,rfl⟩⟩⟩
     exact Nat.le_trans h3.len (Nat.le_trans (Nat.mul_le_mul (show n≤16 by lia) (show n≤16 by lia)) (by decide))
   rintro env ⟨n,ps,⟨n1,hn2⟩,sp,rfl⟩
   have hin:=sp.inR
   have nl:(nearF ps).length≤1000:=Nat.le_trans (List.length_filter_le _ _) (Nat.le_trans sp.len (Nat.le_trans (Nat.mul_le_mul hn2 hn2) (by decide)))
   have inN: ∀q∈nearF ps,InN q:=fun q hq=>inR_N hn2 (near_inR hin q hq)
   have tl:=tS_len (n:=(n:Int)) (by lia) (by lia) inN nl
   refine seq_d (fun env=>∃md:Int,env=[.d (scrD ns),.d (.str (tS n (nearF ps))),.d (.int md),.un,.un]) (fun N hN=> ?_) ?_
   · simp only [rD]
     exact ⟨ns,1,rfl,fun c=>⟨_,rfl,c,rfl,by decide,hN _ ⟨_,rfl⟩⟩⟩
   rintro env ⟨md,rfl⟩
   refine seq_d (fun env=>∃y:Str,(y.length≤12100∧(¬ (1≤md∧md≤3)→y=tS n (nearF ps)))∧env=[.d (scrD ns),.d (.str y),.d (.int md),.un,.un]) (fun N hN=> ?_) ?_
   · simp only [rD]
     refine ⟨rfl,okI _,shI _,ite2 (fun z=> ?_) (fun z=>hN _ ⟨_,⟨by lia,fun q_=>rfl⟩,rfl⟩)⟩
     have z:=(any_ints' [1,2,3] md).symm.trans z
     have z:=of_decide_eq_true z
     have zz:1≤md∧md≤3:=by simp at z;lia
     exact ⟨ns,2,rfl,fun c=>⟨_,rfl,_,c,rfl,by lia,fun y hy=>⟨_,rfl,hN _ ⟨y,⟨by lia,fun q=>absurd zz q⟩,rfl⟩⟩⟩⟩
   rintro env ⟨y,⟨yl,ye⟩,rfl⟩
   refine seq_d (fun env=>∃y:Str,(y.length≤24300∧(¬ (1≤md∧md≤3)→y=tS n (nearF ps)))∧env=[.d (scrD ns),.d (.str y),.d (.int md),.un,.un]) (fun N hN=> ?_) ?_
   · simp only [rD]
     refine ⟨okI _,okI _,.inl (shI _),ite2 (fun z=> ?_) (fun z=>hN _ ⟨_,⟨by lia,ye⟩,rfl⟩)⟩
     rw [eqv_int] at z
     have z:=of_decide_eq_true z
     exact ⟨ns,3,rfl,fun c=>⟨_,rfl,_,c,rfl,by lia,fun y hy=>⟨_,rfl,hN _ ⟨y,⟨by lia,fun q=>absurd (by lia) q⟩,rfl⟩⟩⟩⟩
   clear yl ye y
   rintro env ⟨y,⟨yl,ye⟩,rfl⟩
   refine seq_d (fun env=>∃y:Str,y.length≤24300∧env=[.d (scrD ns),.d (.str y),.d (.int md),.un,.un]) (fun N hN=> ?_) ?_
   · simp only [rD]
     refine ⟨rfl,okI _,shI _,ite2 (fun z=> ?_) (fun z=>hN _ ⟨_,yl,rfl⟩)⟩
     have z:=(any_ints' [4,5,6] md).symm.trans z
     have z:=of_decide_eq_true z
     have zz: ¬(1≤md∧md≤3):=by simp at z;lia
     rw [ye zz]
     exact ⟨ns,2,rfl,fun c=>⟨_,rfl,n,nearF ps,c,rfl,⟨by lia,by lia⟩,inN,nl,fun y hy=>⟨_,rfl,hN _ ⟨y,by lia,rfl⟩⟩⟩⟩
   clear yl ye y
   rintro env ⟨y,yl,rfl⟩
   refine seq_d (fun env=>∃y:Str,y.length≤24300∧env=[.d (scrD ns),.d (.str y),.d (.int md),.un,.un]) (fun N hN=> ?_) ?_
   · simp only [rD]
     refine ⟨okI _,okI _,.inl (shI _),ite2 (fun z=> ?_) (fun z=>hN _ ⟨_,yl,rfl⟩)⟩
     exact ⟨ns,2,rfl,fun c=>⟨_,rfl,c,rfl,fun y hy=>⟨_,rfl,hN _ ⟨y,by lia,rfl⟩⟩⟩⟩
   clear yl y
   rintro env ⟨y,yl,rfl⟩
   refine seq_d (fun env=>∃y:Str,y.length≤24310∧env=[.d (scrD ns),.d (.str y),.d (.int md),.un,.un]) (fun N hN=> ?_) ?_
   · simp only [rD]
     refine ⟨okI _,okI _,.inl (shI _),ite2 (fun z=> ?_) (fun z=>hN _ ⟨_,by lia,rfl⟩)⟩
     refine ⟨ns,2,rfl,fun c=>⟨_,rfl,c,rfl,by decide,?_⟩⟩
     obtain ⟨u,hu,e⟩:=at_strs (ws:=endL) (B:=2) (by decide) (i:=c % 4) (by lia) (by show c % 4 < 4;lia)
     exact ⟨_,e,u,rfl,by lia,hN _ ⟨_,by rw [PySem.Str.length_append];lia,rfl⟩⟩
   clear yl y
   rintro env ⟨x,xl,rfl⟩
   by_cases w: ∃n ps,WrT x n ps
   · obtain ⟨m,qs,wt⟩:=w
     refine seq_d (fun env=>env=[.d (scrD ns),.d (.str x),.d (.int md),.d (spD m qs),.un]) (fun N hN=> ?_) ?_
     · simp only [rD]
       refine ⟨x,rfl,by lia,fun n ps z=>⟨_,rfl,hN _ ?_⟩,fun z=>absurd wt (z m qs)⟩
       obtain ⟨rfl,rfl⟩:=wt.uniq z
       rfl
     rintro env rfl
     refine seq_d (fun env=>env=[.d (scrD ns),.d (.str x),.d (.int md),.d (spD m qs),.d (spD m qs)]) (fun N hN=> ?_) ?_
     · simp only [rD]
       refine ⟨x,rfl,by lia,fun n ps z=>⟨_,rfl,hN _ ?_⟩,fun z=>absurd wt (z m qs)⟩
       obtain ⟨rfl,rfl⟩:=wt.uniq z
       rfl
     rintro env rfl
     simp only [rD]
     exact iteN rfl ⟨m,qs,rfl,_,rfl,hR⟩
   · refine seq_d (fun env=>env=[.d (scrD ns),.d (.str x),.d (.int md),.d .none,.un]) (fun N hN=> ?_) ?_
     · simp only [rD]
       exact ⟨x,rfl,by lia,fun n ps z=>absurd ⟨n,ps,z⟩ w,fun q_=>⟨_,rfl,hN _ rfl⟩⟩
     rintro env rfl
     refine seq_d (fun env=>env=[.d (scrD ns),.d (.str x),.d (.int md),.d .none,.d (.list [.bool true,.bool true,.bool false])]) (fun N hN=> ?_) ?_
     · simp only [rD]
       exact ⟨x,rfl,by lia,fun n ps z=>absurd ⟨n,ps,z⟩ w,fun q_=>⟨_,rfl,hN _ rfl⟩⟩
     rintro env rfl
     simp only [rD]
     exact ite2 (fun q_=>⟨rfl,rfl,.inl (by show 1≤9;decide),hR⟩) (fun z=>absurd rfl z)
end
inductive HasFn (K:PySem.W.Frag) (x:Str) (st:Stmt):Prop
 | mk {f:Addr} {od an:Option Addr} {sl:Array (Option Value)} {oc kV dc pm cd ct:Value} (a:PySem.W.nsIn K mainGlobals x=some (some (.ref f)))
   (l:K.lookup f=some ⟨oc,od,.func (PySem.W.fnOf x x (defArgs st) (defBody st) (defScope st) .none kV dc pm an cd ct),sl⟩) (c:PySem.W.codeIn K cd x=true) (k:PySem.W.keepIn K (.ref f)=true):HasFn K x st
section
variable {P:Program} {w:World} {K:PySem.W.Frag} {mg:Str→Option Value} {base h:Heap} {x:Str} {st:Stmt} {k:Nat} {ps:List Str}
noncomputable abbrev Bd (x:Str) (st:Stmt) (ps:List Str):Prop:=∀(kV doc pm:Value) (an:Option Addr) (cdv ct:Value) (us:List Value),us.length=ps.length→bindArgs (PySem.W.fnOf x x (defArgs st) (defBody st) (defScope st) .none kV doc pm an cdv ct) ⟨us,[]⟩=pure (ps.zip us)
theorem bd1 {p:Str} (h: ∀(kV doc pm:Value) (an:Option Addr) (cdv ct u:Value),bindArgs (PySem.W.fnOf x x (defArgs st) (defBody st) (defScope st) .none kV doc pm an cdv ct) ⟨[u],[]⟩=pure [(p,u)]):Bd x st [p]:=by
 intro kV doc pm an cdv ct us hl
 obtain ⟨u,rfl⟩:=List.length_eq_one_iff.mp hl
 exact h kV doc pm an cdv ct u
theorem bd2 {p q:Str} (h: ∀(kV doc pm:Value) (an:Option Addr) (cdv ct u v:Value),bindArgs (PySem.W.fnOf x x (defArgs st) (defBody st) (defScope st) .none kV doc pm an cdv ct) ⟨[u,v],[]⟩=pure [(p,u),(q,v)]):Bd x st [p,q]:=by
 intro kV doc pm an cdv ct us hl
 cases us with
 | nil=>cases hl
 | cons u us=>
   obtain ⟨v,rfl⟩:=List.length_eq_one_iff.mp (Nat.succ.inj hl)
   exact h kV doc pm an cdv ct u v
theorem bd3 {p q r:Str} (h: ∀(kV doc pm:Value) (an:Option Addr) (cdv ct u v w:Value),bindArgs (PySem.W.fnOf x x (defArgs st) (defBody st) (defScope st) .none kV doc pm an cdv ct) ⟨[u,v,w],[]⟩=pure [(p,u),(q,v),(r,w)]):Bd x st [p,q,r]:=by
 intro kV doc pm an cdv ct us hl
 cases us with
 | nil=>cases hl
 | cons u us=>
   cases us with
   | nil=>cases hl
   | cons v us=>
     obtain ⟨w,rfl⟩:=List.length_eq_one_iff.mp (Nat.succ.inj (Nat.succ.inj hl))
     exact h kV doc pm an cdv ct u v w
theorem HasFn.fn {sp:Sp} (H:HasFn K x st) (X:K.In h) (G:h.Ns mainGlobals mg) (hb:Bd x st ps) (ok: ∀{f:Addr} {fd:FuncData},Fun K x x st f fd→FnOk P w K mg base CX0 k f fd ps sp):Fn P w K mg base x k ps sp:=by
 obtain ⟨a,l,c,kk⟩:=H
 have F:Fun K x x st _ _:=fun_mk l c kk
 exact ⟨_,_,ok F,PySem.W.mg_of X G a,kk,F.binds hb⟩
theorem HasFn.fnE {sp:List PyData→(Dt→Prop)→(Addr→Prop)→Prop} (H:HasFn K x st) (X:K.In h) (G:h.Ns mainGlobals mg) (hb:Bd x st ps) (ok: ∀{f:Addr} {fd:FuncData},Fun K x x st f fd→FnOk P w K mg base (CXE P w) k f fd ps (spE K sp)):FnE P w K mg base x k ps sp:=by
 obtain ⟨a,l,c,kk⟩:=H
 have F:Fun K x x st _ _:=fun_mk l c kk
 exact ⟨_,_,ok F,PySem.W.mg_of X G a,kk,F.binds hb⟩
end
set_option maxHeartbeats 8000000 in
theorem all_mk {l:PySem.W.OpenLaw} {w:World} {K:PySem.W.Frag} {h:Heap} {mg:Str→Option Value} {fa:Addr} (X:K.In h) (G:h.Ns mainGlobals mg) (hfa:mg "law"=some (.ref fa))
 {f31:Addr} {od31 an31:Option Addr} {sl31:Array (Option Value)} {oc31 kV31 dc31 pm31 cd31 ct31:Value} {x0:Addr} {x1:Addr} {x2:Addr} {x3:Addr} {x4:Addr} {x5:Addr} {tk0:Tok}
 (h1:HasFn K "_law_stir" sStir)
 (h2:HasFn K "_law_cell" sCell)
 (h3:HasFn K "_law_raw" sRaw)
 (h4:HasFn K "_law_whole" sWhole)
 (h5:HasFn K "_law_draw" sDraw)
 (h6:HasFn K "_law_closed" sClosed)
 (h7:HasFn K "_law_by_digits" sDig)
 (h8:HasFn K "_law_mixed" sMix)
 (h9:HasFn K "_law_space" sSpace)
 (h10:HasFn K "is_point" sPoint)
 (h11:HasFn K "refuse_too_many" s_refuse_too_many)
 (h12:HasFn K "led_on" s_led_on)
 (h13:HasFn K "made" s_made)
 (h14:HasFn K "points_under" s_points_under)
 (h15:HasFn K "points_over" s_points_over)
 (h16:HasFn K "nearest_ties" s_nearest_ties)
 (h17:HasFn K "written" s_written)
 (h18:HasFn K "number_of" s_number_of)
 (h19:HasFn K "many_of" s_many_of)
 (h20:HasFn K "pair_of" s_pair_of)
 (h21:HasFn K "_law_text" s__law_text)
 (h22:HasFn K "_law_ties" s__law_ties)
 (h23:HasFn K "_law_same" s__law_same)
 (h24:HasFn K "read" s_read)
 (h25:HasFn K "_law_mark" s__law_mark)
 (h26:HasFn K "_law_changed" s__law_changed)
 (h27:HasFn K "_law_odd" s__law_odd)
 (h28:HasFn K "_law_paired" s__law_paired)
 (h29:HasFn K "_law_due" s__law_due)
 (h30:HasFn K "_law_told" s__law_told)
 (a31:PySem.W.nsIn K mainGlobals "law"=some (some (.ref f31))) (l31:K.lookup f31=some ⟨oc31,od31,.func (PySem.W.fnOf "law" "law" (defArgs sLaw) (defBody sLaw) (defScope sLaw) .none kV31 dc31 pm31 an31 cd31 ct31),sl31⟩) (c31:PySem.W.codeIn K cd31 "law"=true) (k31:PySem.W.keepIn K (.ref f31)=true)
 (z0:PySem.W.nsIn K mainGlobals "range"=some none)
 (z1:PySem.W.nsIn K mainGlobals "len"=some none)
 (z2:PySem.W.nsIn K mainGlobals "list"=some none)
 (z3:PySem.W.nsIn K mainGlobals "tuple"=some none)
 (z4:PySem.W.nsIn K mainGlobals "isinstance"=some none)
 (z5:PySem.W.nsIn K mainGlobals "int"=some none)
 (z6:PySem.W.nsIn K mainGlobals "bool"=some none)
 (z7:PySem.W.nsIn K mainGlobals "zip"=some none)
 (z8:PySem.W.nsIn K mainGlobals "all"=some none)
 (z9:PySem.W.nsIn K mainGlobals "any"=some none)
 (z10:PySem.W.nsIn K mainGlobals "sum"=some none)
 (z11:PySem.W.nsIn K mainGlobals "sorted"=some none)
 (z12:PySem.W.nsIn K mainGlobals "min"=some none)
 (z13:PySem.W.nsIn K mainGlobals "max"=some none)
 (z14:PySem.W.nsIn K mainGlobals "str"=some none)
 (z15:PySem.W.nsIn K mainGlobals "enumerate"=some none)
 (z16:PySem.W.nsIn K mainGlobals "set"=some none)
 (z17:PySem.W.nsIn K mainGlobals "reversed"=some none)
 (z18:PySem.W.nsIn K mainGlobals "ValueError"=some none)
 (y0:PySem.W.kitOne K (.type "int") (.type "int")=some true)
 (y1:PySem.W.kitOne K (.type "int") (.type "bool")=some false)
 (y2:PySem.W.kitOne K (.type "bool") (.type "bool")=some true)
 (y3:PySem.W.kitOne K (.type "tuple") (.type "tuple")=some true)
 (y4:PySem.W.kitOne K (.type "list") (.type "list")=some true)
 (y5:PySem.W.kitOne K (.type "list") (.type "tuple")=some false)
 (y6:PySem.W.kitOne K (.type "tuple") (.type "list")=some false)
 (y7:PySem.W.kitOne K (.type "list") (.type "bool")=some false)
 (y8:PySem.W.kitOne K (.type "bool") (.type "tuple")=some false)
 (y9:PySem.W.kitOne K (.type "int") (.type "tuple")=some false)
 (y10:PySem.W.kitOne K (.type "str") (.type "str")=some true)
 (y11:PySem.W.kitOne K (.type "NoneType") (.type "bool")=some false)
 (y12:PySem.W.kitOne K (.type "NoneType") (.type "int")=some false)
 (y13:PySem.W.kitOne K (.type "bool") (.type "int")=some true)
 (ax0:PySem.W.nsIn K mainGlobals "SpaceError"=some (some (.ref x0))) (bx0:xOk K x0=true)
 (ax1:PySem.W.nsIn K mainGlobals "TooMany"=some (some (.ref x1))) (bx1:xOk K x1=true)
 (ax2:PySem.W.nsIn K mainGlobals "NoPoint"=some (some (.ref x2))) (bx2:xOk K x2=true)
 (ax3:PySem.W.nsIn K mainGlobals "Round"=some (some (.ref x3))) (bx3:xOk K x3=true)
 (ax4:PySem.W.nsIn K mainGlobals "NotRead"=some (some (.ref x4))) (bx4:xOk K x4=true)
 (ax5:PySem.W.nsIn K mainGlobals "NoFold"=some (some (.ref x5))) (bx5:xOk K x5=true)
 (ux1:xSub K x1 x0=true) (vx1:PySem.W.kitOne K (.ref x1) (.type "ValueError")=some true)
 (ux2:xSub K x2 x0=true) (vx2:PySem.W.kitOne K (.ref x2) (.type "ValueError")=some true)
 (ux3:xSub K x3 x0=true) (vx3:PySem.W.kitOne K (.ref x3) (.type "ValueError")=some true)
 (ux4:xSub K x4 x0=true) (vx4:PySem.W.kitOne K (.ref x4) (.type "ValueError")=some true)
 (ux5:xSub K x5 x0=true) (vx5:PySem.W.kitOne K (.ref x5) (.type "ValueError")=some true)
 (wx1_1:PySem.W.kitOne K (.ref x1) (.ref x1)=some true)
 (wx1_2:PySem.W.kitOne K (.ref x1) (.ref x2)=some false)
 (wx1_3:PySem.W.kitOne K (.ref x1) (.ref x3)=some false)
 (wx1_4:PySem.W.kitOne K (.ref x1) (.ref x4)=some false)
 (wx1_5:PySem.W.kitOne K (.ref x1) (.ref x5)=some false)
 (wx2_1:PySem.W.kitOne K (.ref x2) (.ref x1)=some false)
 (wx2_2:PySem.W.kitOne K (.ref x2) (.ref x2)=some true)
 (wx2_3:PySem.W.kitOne K (.ref x2) (.ref x3)=some false)
 (wx2_4:PySem.W.kitOne K (.ref x2) (.ref x4)=some false)
 (wx2_5:PySem.W.kitOne K (.ref x2) (.ref x5)=some false)
 (wx3_1:PySem.W.kitOne K (.ref x3) (.ref x1)=some false)
 (wx3_2:PySem.W.kitOne K (.ref x3) (.ref x2)=some false)
 (wx3_3:PySem.W.kitOne K (.ref x3) (.ref x3)=some true)
 (wx3_4:PySem.W.kitOne K (.ref x3) (.ref x4)=some false)
 (wx3_5:PySem.W.kitOne K (.ref x3) (.ref x5)=some false)
 (wx4_1:PySem.W.kitOne K (.ref x4) (.ref x1)=some false)
 (wx4_2:PySem.W.kitOne K (.ref x4) (.ref x2)=some false)
 (wx4_3:PySem.W.kitOne K (.ref x4) (.ref x3)=some false)
 (wx4_4:PySem.W.kitOne K (.ref x4) (.ref x4)=some true)
 (wx4_5:PySem.W.kitOne K (.ref x4) (.ref x5)=some false)
 (wx5_1:PySem.W.kitOne K (.ref x5) (.ref x1)=some false)
 (wx5_2:PySem.W.kitOne K (.ref x5) (.ref x2)=some false)
 (wx5_3:PySem.W.kitOne K (.ref x5) (.ref x3)=some false)
 (wx5_4:PySem.W.kitOne K (.ref x5) (.ref x4)=some false)
 (wx5_5:PySem.W.kitOne K (.ref x5) (.ref x5)=some true)
 (ag0:PySem.W.nsIn K mainGlobals "MOST_POINTS"=some (some (.int 16 tk0))):
 ∃fd:FuncData,(∀ (s:Shared) (v:Value),BindsTo s fd ⟨[v],[]⟩ [("script",v)])∧∀base:Heap,K.In base→base.Ns mainGlobals mg→FnOk l.prog w K mg base CX0 8 fa fd ["script"] (spG K Plaw):=by
 have e:=hfa.symm.trans (PySem.W.mg_of X G a31)
 cases e
 have T:Txt K mg:=⟨PySem.W.mg_none_of X G z0,PySem.W.mg_none_of X G z1,PySem.W.mg_none_of X G z2,PySem.W.mg_none_of X G z3,PySem.W.mg_none_of X G z4,PySem.W.mg_none_of X G z5,PySem.W.mg_none_of X G z6,PySem.W.mg_none_of X G z7,PySem.W.mg_none_of X G z8,PySem.W.mg_none_of X G z9,PySem.W.mg_none_of X G z10,PySem.W.mg_none_of X G z11,PySem.W.mg_none_of X G z12,PySem.W.mg_none_of X G z13,PySem.W.mg_none_of X G z14,PySem.W.mg_none_of X G z15,PySem.W.mg_none_of X G z16,PySem.W.mg_none_of X G z17,PySem.W.mg_none_of X G z18,y0,y1,y2,y3,y4,y5,y6,y7,y8,y9,y10,y11,y12,y13⟩
 have Z:XT K mg x0 x1 x2 x3 x4 x5:=⟨⟨ax0,PySem.W.mg_of X G ax0,bx0⟩,⟨ax1,PySem.W.mg_of X G ax1,bx1⟩,⟨ax2,PySem.W.mg_of X G ax2,bx2⟩,⟨ax3,PySem.W.mg_of X G ax3,bx3⟩,⟨ax4,PySem.W.mg_of X G ax4,bx4⟩,⟨ax5,PySem.W.mg_of X G ax5,bx5⟩,ux1,vx1,ux2,vx2,ux3,vx3,ux4,vx4,ux5,vx5,wx1_1,wx1_2,wx1_3,wx1_4,wx1_5,wx2_1,wx2_2,wx2_3,wx2_4,wx2_5,wx3_1,wx3_2,wx3_3,wx3_4,wx3_5,wx4_1,wx4_2,wx4_3,wx4_4,wx4_5,wx5_1,wx5_2,wx5_3,wx5_4,wx5_5,⟨_,PySem.W.mg_of X G ag0⟩⟩
 have F31:=fun_mk (st:=sLaw) l31 c31 k31
 refine ⟨PySem.W.fnOf "law" "law" (defArgs sLaw) (defBody sLaw) (defScope sLaw) .none kV31 dc31 pm31 an31 cd31 ct31,fun s v=> .of_eq rfl,fun base q_ q_=> ?_⟩
 have GSt:Fn l.prog w K mg base "_law_stir" 1 ["cell"] (spStir):=h1.fn X G (bd1 fun q_ q_ q_ q_ q_ q_ q_=>rfl) fun F=>ok_stir F
 have GDSt:Fn l.prog w K mg base "_law_stir" 1 ["cell"] (spG K Pstir):=fn_cv GSt fun q_ q_ q_ q_=>cv_stir
 have GCl:Fn l.prog w K mg base "_law_cell" 2 ["script","k"] (spCell K):=h2.fn X G (bd2 fun q_ q_ q_ q_ q_ q_ q_ q_=>rfl) fun F=>ok_cell F T GSt
 have GDCl:Fn l.prog w K mg base "_law_cell" 2 ["script","k"] (spG K Pcell):=fn_cv GCl fun q_ q_ q_ q_=>cv_cell
 have GRw:Fn l.prog w K mg base "_law_raw" 1 ["script","k"] (spCell K):=h3.fn X G (bd2 fun q_ q_ q_ q_ q_ q_ q_ q_=>rfl) fun F=>ok_raw F T
 have GDRw:Fn l.prog w K mg base "_law_raw" 1 ["script","k"] (spG K Pcell):=fn_cv GRw fun q_ q_ q_ q_=>cv_cell
 have GWh:Fn l.prog w K mg base "_law_whole" 1 ["found"] (spWhole):=h4.fn X G (bd1 fun q_ q_ q_ q_ q_ q_ q_=>rfl) fun F=>ok_whole F T
 have GDWh:Fn l.prog w K mg base "_law_whole" 1 ["found"] (spG K Pwhole):=fn_cv GWh fun q_ q_ q_ q_=>cv_whole
 have GDr:Fn l.prog w K mg base "_law_draw" 1 ["cell","k","bound"] (spDraw):=h5.fn X G (bd3 fun q_ q_ q_ q_ q_ q_ q_ q_ q_=>rfl) fun F=>ok_draw F
 have GDDr:Fn l.prog w K mg base "_law_draw" 1 ["cell","k","bound"] (spG K Pdraw):=fn_cv GDr fun q_ q_ q_ q_=>cv_draw
 have GCd:Fn l.prog w K mg base "_law_closed" 1 ["many","pairs"] (spClosed K):=h6.fn X G (bd2 fun q_ q_ q_ q_ q_ q_ q_ q_=>rfl) fun F=>ok_closed F T
 have GDCd:Fn l.prog w K mg base "_law_closed" 1 ["many","pairs"] (spG K Pclosed):=fn_cv GCd fun q_ q_ q_ q_=>cv_closed
 have GDg:Fn l.prog w K mg base "_law_by_digits" 2 ["cell","most"] (spDig K):=h7.fn X G (bd2 fun q_ q_ q_ q_ q_ q_ q_ q_=>rfl) fun F=>ok_dig F T GCd
 have GMx:Fn l.prog w K mg base "_law_mixed" 2 ["cell","most"] (spDig K):=h8.fn X G (bd2 fun q_ q_ q_ q_ q_ q_ q_ q_=>rfl) fun F=>ok_mix F T GCd GDr
 have GSp:Fn l.prog w K mg base "_law_space" 3 ["script","at","most"] (spSpace K):=h9.fn X G (bd3 fun q_ q_ q_ q_ q_ q_ q_ q_ q_=>rfl) fun F=>ok_space F GRw GSt GDg GMx
 have GDSp:Fn l.prog w K mg base "_law_space" 3 ["script","at","most"] (spG K Pspace):=fn_cv GSp fun q_ q_ q_ q_=>cv_space
 have GPt:Fn l.prog w K mg base "is_point" 1 ["many","number"] (spPoint):=h10.fn X G (bd2 fun q_ q_ q_ q_ q_ q_ q_ q_=>rfl) fun F=>ok_point F
 have GDPt:Fn l.prog w K mg base "is_point" 1 ["many","number"] (spG K Ppoint):=fn_cv GPt fun q_ q_ q_ q_=>cv_point
 have GRfE:FnE l.prog w K mg base "refuse_too_many" 1 ["many"] (PrefE K):=h11.fnE X G (bd1 fun q_ q_ q_ q_ q_ q_ q_=>rfl) fun F=>ok_RfE F T Z
 have GLd:Fn l.prog w K mg base "led_on" 1 ["many","pairs"] (spG K Pled):=h12.fn X G (bd2 fun q_ q_ q_ q_ q_ q_ q_ q_=>rfl) fun F=>ok_Ld F T
 have GMdE:FnE l.prog w K mg base "made" 2 ["many","pairs"] (PmadeE K):=h13.fnE X G (bd2 fun q_ q_ q_ q_ q_ q_ q_ q_=>rfl) fun F=>ok_MdE F T Z GRfE GDPt GLd
 have GPu:Fn l.prog w K mg base "points_under" 1 ["space","point"] (spG K Ppu):=h14.fn X G (bd2 fun q_ q_ q_ q_ q_ q_ q_ q_=>rfl) fun F=>ok_Pu F T
 have GPo:Fn l.prog w K mg base "points_over" 1 ["space","point"] (spG K Ppo):=h15.fn X G (bd2 fun q_ q_ q_ q_ q_ q_ q_ q_=>rfl) fun F=>ok_Po F T
 have GNr:Fn l.prog w K mg base "nearest_ties" 2 ["space"] (spG K Pnear):=h16.fn X G (bd1 fun q_ q_ q_ q_ q_ q_ q_=>rfl) fun F=>ok_Nr F T GPu GPo
 have GWr:Fn l.prog w K mg base "written" 3 ["space"] (spG K Pwrit):=h17.fn X G (bd1 fun q_ q_ q_ q_ q_ q_ q_=>rfl) fun F=>ok_Wr F T GNr
 have GNuE:FnE l.prog w K mg base "number_of" 1 ["word"] (PnumE K):=h18.fnE X G (bd1 fun q_ q_ q_ q_ q_ q_ q_=>rfl) fun F=>ok_NuE F T Z
 have GMnE:FnE l.prog w K mg base "many_of" 2 ["word"] (PmanyE K):=h19.fnE X G (bd1 fun q_ q_ q_ q_ q_ q_ q_=>rfl) fun F=>ok_MnE F T Z GNuE
 have GPrE:FnE l.prog w K mg base "pair_of" 2 ["word"] (PpairE K):=h20.fnE X G (bd1 fun q_ q_ q_ q_ q_ q_ q_=>rfl) fun F=>ok_PrE F T Z GNuE
 have GTx:Fn l.prog w K mg base "_law_text" 1 ["space"] (spG K Pwrit):=h21.fn X G (bd1 fun q_ q_ q_ q_ q_ q_ q_=>rfl) fun F=>ok_Tx F T
 have GTi:Fn l.prog w K mg base "_law_ties" 2 ["found"] (spG K Pties):=h22.fn X G (bd1 fun q_ q_ q_ q_ q_ q_ q_=>rfl) fun F=>ok_Ti F T GDWh
 have GSa:Fn l.prog w K mg base "_law_same" 3 ["found","due"] (spG K Psame):=h23.fn X G (bd2 fun q_ q_ q_ q_ q_ q_ q_ q_=>rfl) fun F=>ok_Sa F T GDWh GTi
 have GRdE:FnE l.prog w K mg base "read" 4 ["text"] (PreadE K):=h24.fnE X G (bd1 fun q_ q_ q_ q_ q_ q_ q_=>rfl) fun F=>ok_RdE F T Z GMnE GPrE GMdE GWr
 have GMk:Fn l.prog w K mg base "_law_mark" 1 ["word"] (spG K Pmark):=h25.fn X G (bd1 fun q_ q_ q_ q_ q_ q_ q_=>rfl) fun F=>ok_Mk F T
 have GCg:Fn l.prog w K mg base "_law_changed" 1 ["text","cell"] (spG K Pchg):=h26.fn X G (bd2 fun q_ q_ q_ q_ q_ q_ q_ q_=>rfl) fun F=>ok_Cg F T
 have GOd:Fn l.prog w K mg base "_law_odd" 1 ["cell"] (spG K Podd):=h27.fn X G (bd1 fun q_ q_ q_ q_ q_ q_ q_=>rfl) fun F=>ok_Od F T
 have GPa:Fn l.prog w K mg base "_law_paired" 1 ["text","cell"] (spG K Ppad):=h28.fn X G (bd2 fun q_ q_ q_ q_ q_ q_ q_ q_=>rfl) fun F=>ok_Pa F T
 have GDu:Fn l.prog w K mg base "_law_due" 2 ["text"] (spG K Pdue7):=h29.fn X G (bd1 fun q_ q_ q_ q_ q_ q_ q_=>rfl) fun F=>ok_Du F T GMk GDCd GTx
 have GTd:Fn l.prog w K mg base "_law_told" 5 ["text"] (spG K (Ptold7)):=h30.fn X G (bd1 fun q_ q_ q_ q_ q_ q_ q_=>rfl) fun F=>ok_Td F T Z GRdE
 exact ok_Law F31 T GDSp GTx GDCl GCg GPa GOd GDu GTd GSa
theorem walk {l:PySem.W.OpenLaw} {q:Program} {loose:List Str} {XP:(Str→Option Value)→Heap→Prop} {YP:World→Heap→Prop} {d:DefRec} {K:Params→PySem.W.Frag} (hn:l.most=some 63) (hdf:d.params.defaults=[])
 (hY: ∀(w:World) (h:Heap),YP w h→(K w.params).In h)
 (F: ∀(w:World) (mg:Str→Option Value) (fa:Addr) (h:Heap),(K w.params).In h→h.Ns mainGlobals mg→mg d.name=some (.ref fa)→
   ∃fd:FuncData,(∀ (s:Shared) (u:Value),BindsTo s fd ⟨[u],[]⟩ [("script",u)])∧∀base:Heap,(K w.params).In base→base.Ns mainGlobals mg→FnOk l.prog w (K w.params) mg base CX0 8 fa fd ["script"] (spG (K w.params) Plaw)):
 PySem.W.WalkO q loose XP YP l.row.toRowW d [] (fun f vs=>PySem.call f vs):=
 L2.walk_of (n:=63) (k:=8) (x:="script") (CX:=fun q_=>CX0) (sp:=fun w=>spG (K w.params) Plaw) hn (by decide) hdf ⟨rfl,by decide,by decide⟩ hY F
  (fun q_ q_ a ns hl q_ hS=>⟨[scrD ns],fun dt=>dt= .d (.bool true),.cons (.scr hS) .nil,⟨ns,rfl,hl,rfl⟩,fun dt v R' H' e q_ sl=>by subst e;exact Rp.bl_inv sl⟩) fun q_ q_ q_ q_ q_ z=>z
end Me
open PySem PySem.W PyProof.Rows
namespace Me
def zt0:=top 0
def zt1:=top 1
def zt2:=top 2
def zt3:=top 3
def zt4:=top 4
def zt5:=top 5
def zt6:=top 6
def zt7:=top 7
def zt8:=top 8
def zt9:=top 9
def zt10:=top 10
def zt11:=top 11
def zt12:=top 12
def zt13:=top 13
def zt14:=top 14
def zt15:=top 15
def zt16:=top 16
def zt17:=top 17
def zt18:=top 18
def zt19:=top 19
def zt20:=top 20
def zt21:=top 21
def zt22:=top 22
def zt23:=top 23
def zt24:=top 24
def zt25:=top 25
def zt26:=top 26
def zt27:=top 27
def zt28:=top 28
def zt29:=top 29
def zt30:=top 30
def zt31:=top 31
def zt32:=top 32
def zt33:=top 33
def zt34:=top 34
def zt35:=top 35
def zt36:=top 36
def zt37:=top 37
def zt38:=top 38
def zt39:=top 39
def zt40:=top 40
def zt41:=top 41
def pN:Program:={PySem.Challenge.pw_fewpoints_k17_read with main:={PySem.Challenge.pw_fewpoints_k17_read.main with body:=[zt0,zt1,zt2,zt3,zt4,zt5,zt6,zt7,zt8,zt9,zt10,zt11,zt12,zt13,zt14,zt15,zt16,zt17,zt18,zt19,zt20,zt21,zt22,zt23,zt24,zt25,zt26,zt27,zt28,zt29,zt30,zt31,zt32,zt33,zt34,zt35,zt36,zt37,zt38,zt39,zt40,zt41]}}
def rN:PySem.W.OpenLaw:={PySem.Challenge.rw_fewpoints_k17_read with prog:=pN}
end Me
namespace PySem.W.Fast
def tw16364333865414924052:=0
def tw90023024540392276:=0
def tw1838581094173641019:=0
def tw12245953545252062816:=0
def tw8613780149857090550:=0
def tw10498995019835462550:=0
def tw13401627887511333110:=0
def tw15092383599339869325:=0
def tw5315063764693592775:=0
def tw2178706234428190814:=0
def tw4825728995107818636:=0
def tw13992904327005122187:=0
def tw10997615763538238160:=0
def tw13033418692758702582:=0
end PySem.W.Fast
set_option maxRecDepth 100000 in
set_option maxHeartbeats 0 in
theorem Me.held:Me.rN.Holds:=by
 w_on;o_law;k_head;(case hw=>w_witness2)
 k_fill
 refine Me.walk (l:=Me.rN) rfl rfl (fun w h Y=>PySem.W.kIn_of Y) ?F
 case F=>
  intro w mg fa h KX G hmg
  refine' Me.all_mk KX G hmg ?h1 ?h2 ?h3 ?h4 ?h5 ?h6 ?h7 ?h8 ?h9 ?h10 ?h11 ?h12 ?h13 ?h14 ?h15 ?h16 ?h17 ?h18 ?h19 ?h20 ?h21 ?h22 ?h23 ?h24 ?h25 ?h26 ?h27 ?h28 ?h29 ?h30 ?a31 ?l31 ?c31 ?k31 ?z0 ?z1 ?z2 ?z3 ?z4 ?z5 ?z6 ?z7 ?z8 ?z9 ?z10 ?z11 ?z12 ?z13 ?z14 ?z15 ?z16 ?z17 ?z18 ?y0 ?y1 ?y2 ?y3 ?y4 ?y5 ?y6 ?y7 ?y8 ?y9 ?y10 ?y11 ?y12 ?y13 ?ax0 ?bx0 ?ax1 ?bx1 ?ax2 ?bx2 ?ax3 ?bx3 ?ax4 ?bx4 ?ax5 ?bx5 ?ux1 ?vx1 ?ux2 ?vx2 ?ux3 ?vx3 ?ux4 ?vx4 ?ux5 ?vx5 ?wx1_1 ?wx1_2 ?wx1_3 ?wx1_4 ?wx1_5 ?wx2_1 ?wx2_2 ?wx2_3 ?wx2_4 ?wx2_5 ?wx3_1 ?wx3_2 ?wx3_3 ?wx3_4 ?wx3_5 ?wx4_1 ?wx4_2 ?wx4_3 ?wx4_4 ?wx4_5 ?wx5_1 ?wx5_2 ?wx5_3 ?wx5_4 ?wx5_5 ?ag0
  (case h1=>refine' Me.HasFn.mk ?a ?l ?c ?k;(case a=>k_is);(case l=>k_is);(case c=>k_is);(case k=>k_is))
  (case h2=>refine' Me.HasFn.mk ?a ?l ?c ?k;(case a=>k_is);(case l=>k_is);(case c=>k_is);(case k=>k_is))
  (case h3=>refine' Me.HasFn.mk ?a ?l ?c ?k;(case a=>k_is);(case l=>k_is);(case c=>k_is);(case k=>k_is))
  (case h4=>refine' Me.HasFn.mk ?a ?l ?c ?k;(case a=>k_is);(case l=>k_is);(case c=>k_is);(case k=>k_is))
  (case h5=>refine' Me.HasFn.mk ?a ?l ?c ?k;(case a=>k_is);(case l=>k_is);(case c=>k_is);(case k=>k_is))
  (case h6=>refine' Me.HasFn.mk ?a ?l ?c ?k;(case a=>k_is);(case l=>k_is);(case c=>k_is);(case k=>k_is))
  (case h7=>refine' Me.HasFn.mk ?a ?l ?c ?k;(case a=>k_is);(case l=>k_is);(case c=>k_is);(case k=>k_is))
  (case h8=>refine' Me.HasFn.mk ?a ?l ?c ?k;(case a=>k_is);(case l=>k_is);(case c=>k_is);(case k=>k_is))
  (case h9=>refine' Me.HasFn.mk ?a ?l ?c ?k;(case a=>k_is);(case l=>k_is);(case c=>k_is);(case k=>k_is))
  (case h10=>refine' Me.HasFn.mk ?a ?l ?c ?k;(case a=>k_is);(case l=>k_is);(case c=>k_is);(case k=>k_is))
  (case h11=>refine' Me.HasFn.mk ?a ?l ?c ?k;(case a=>k_is);(case l=>k_is);(case c=>k_is);(case k=>k_is))
  (case h12=>refine' Me.HasFn.mk ?a ?l ?c ?k;(case a=>k_is);(case l=>k_is);(case c=>k_is);(case k=>k_is))
  (case h13=>refine' Me.HasFn.mk ?a ?l ?c ?k;(case a=>k_is);(case l=>k_is);(case c=>k_is);(case k=>k_is))
  (case h14=>refine' Me.HasFn.mk ?a ?l ?c ?k;(case a=>k_is);(case l=>k_is);(case c=>k_is);(case k=>k_is))
  (case h15=>refine' Me.HasFn.mk ?a ?l ?c ?k;(case a=>k_is);(case l=>k_is);(case c=>k_is);(case k=>k_is))
  (case h16=>refine' Me.HasFn.mk ?a ?l ?c ?k;(case a=>k_is);(case l=>k_is);(case c=>k_is);(case k=>k_is))
  (case h17=>refine' Me.HasFn.mk ?a ?l ?c ?k;(case a=>k_is);(case l=>k_is);(case c=>k_is);(case k=>k_is))
  (case h18=>refine' Me.HasFn.mk ?a ?l ?c ?k;(case a=>k_is);(case l=>k_is);(case c=>k_is);(case k=>k_is))
  (case h19=>refine' Me.HasFn.mk ?a ?l ?c ?k;(case a=>k_is);(case l=>k_is);(case c=>k_is);(case k=>k_is))
  (case h20=>refine' Me.HasFn.mk ?a ?l ?c ?k;(case a=>k_is);(case l=>k_is);(case c=>k_is);(case k=>k_is))
  (case h21=>refine' Me.HasFn.mk ?a ?l ?c ?k;(case a=>k_is);(case l=>k_is);(case c=>k_is);(case k=>k_is))
  (case h22=>refine' Me.HasFn.mk ?a ?l ?c ?k;(case a=>k_is);(case l=>k_is);(case c=>k_is);(case k=>k_is))
  (case h23=>refine' Me.HasFn.mk ?a ?l ?c ?k;(case a=>k_is);(case l=>k_is);(case c=>k_is);(case k=>k_is))
  (case h24=>refine' Me.HasFn.mk ?a ?l ?c ?k;(case a=>k_is);(case l=>k_is);(case c=>k_is);(case k=>k_is))
  (case h25=>refine' Me.HasFn.mk ?a ?l ?c ?k;(case a=>k_is);(case l=>k_is);(case c=>k_is);(case k=>k_is))
  (case h26=>refine' Me.HasFn.mk ?a ?l ?c ?k;(case a=>k_is);(case l=>k_is);(case c=>k_is);(case k=>k_is))
  (case h27=>refine' Me.HasFn.mk ?a ?l ?c ?k;(case a=>k_is);(case l=>k_is);(case c=>k_is);(case k=>k_is))
  (case h28=>refine' Me.HasFn.mk ?a ?l ?c ?k;(case a=>k_is);(case l=>k_is);(case c=>k_is);(case k=>k_is))
  (case h29=>refine' Me.HasFn.mk ?a ?l ?c ?k;(case a=>k_is);(case l=>k_is);(case c=>k_is);(case k=>k_is))
  (case h30=>refine' Me.HasFn.mk ?a ?l ?c ?k;(case a=>k_is);(case l=>k_is);(case c=>k_is);(case k=>k_is))
  (case a31=>k_is)
  (case l31=>k_is)
  (case c31=>k_is)
  (case k31=>k_is)
  (case z0=>k_is)
  (case z1=>k_is)
  (case z2=>k_is)
  (case z3=>k_is)
  (case z4=>k_is)
  (case z5=>k_is)
  (case z6=>k_is)
  (case z7=>k_is)
  (case z8=>k_is)
  (case z9=>k_is)
  (case z10=>k_is)
  (case z11=>k_is)
  (case z12=>k_is)
  (case z13=>k_is)
  (case z14=>k_is)
  (case z15=>k_is)
  (case z16=>k_is)
  (case z17=>k_is)
  (case z18=>k_is)
  (case y0=>kit_is)
  (case y1=>kit_is)
  (case y2=>kit_is)
  (case y3=>kit_is)
  (case y4=>kit_is)
  (case y5=>kit_is)
  (case y6=>kit_is)
  (case y7=>kit_is)
  (case y8=>kit_is)
  (case y9=>kit_is)
  (case y10=>kit_is)
  (case y11=>kit_is)
  (case y12=>kit_is)
  (case y13=>kit_is)
  (case ax0=>k_is)
  (case bx0=>kernel_rfl)
  (case ax1=>k_is)
  (case bx1=>kernel_rfl)
  (case ax2=>k_is)
  (case bx2=>kernel_rfl)
  (case ax3=>k_is)
  (case bx3=>kernel_rfl)
  (case ax4=>k_is)
  (case bx4=>kernel_rfl)
  (case ax5=>k_is)
  (case bx5=>kernel_rfl)
  (case ux1=>kernel_rfl)
  (case vx1=>kit_is)
  (case ux2=>kernel_rfl)
  (case vx2=>kit_is)
  (case ux3=>kernel_rfl)
  (case vx3=>kit_is)
  (case ux4=>kernel_rfl)
  (case vx4=>kit_is)
  (case ux5=>kernel_rfl)
  (case vx5=>kit_is)
  (case wx1_1=>kit_is)
  (case wx1_2=>kit_is)
  (case wx1_3=>kit_is)
  (case wx1_4=>kit_is)
  (case wx1_5=>kit_is)
  (case wx2_1=>kit_is)
  (case wx2_2=>kit_is)
  (case wx2_3=>kit_is)
  (case wx2_4=>kit_is)
  (case wx2_5=>kit_is)
  (case wx3_1=>kit_is)
  (case wx3_2=>kit_is)
  (case wx3_3=>kit_is)
  (case wx3_4=>kit_is)
  (case wx3_5=>kit_is)
  (case wx4_1=>kit_is)
  (case wx4_2=>kit_is)
  (case wx4_3=>kit_is)
  (case wx4_4=>kit_is)
  (case wx4_5=>kit_is)
  (case wx5_1=>kit_is)
  (case wx5_2=>kit_is)
  (case wx5_3=>kit_is)
  (case wx5_4=>kit_is)
  (case wx5_5=>kit_is)
  (case ag0=>k_is)
theorem PySem.Challenge.cw_fewpoints_k17_read_holds : PySem.Challenge.rw_fewpoints_k17_read.Holds :=
 Me.held
