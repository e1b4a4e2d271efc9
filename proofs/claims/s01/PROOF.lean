import PyProof.Rows.All
import Wide.All
import OpenK.AllK
import Wide.FinOn
import PyProof.EqAt
import PyProof.EqKinds
import PyProof.TupleCall
import KE.BitLaws
import PyProof.ExcArgs
import KE.KMinKey
import Open.SpecLaws
import KE.OsHead
import KE.OsGo
import PySem.Challenge.RW_treecuts_s01_answers
set_option Elab.async false
set_option linter.all false
set_option maxRecDepth 100000
set_option maxHeartbeats 2000000
namespace L2
open PySem PySem.Spec PyProof.Rows
noncomputable abbrev Key:=Sum Int Str
noncomputable def keyIs:Key → Value → Bool
  | .inl k,v => Value.isInt k v
  | .inr x,v => Value.isStrOf x v
noncomputable def keyH (w:World):Key → Int
  | .inl k => hashInt k
  | .inr x => hashStr w x
theorem keyIs_shape:∀ {k:Key} {v:Value},keyIs k v = true → (∃ i t,k = Sum.inl i ∧ v = Value.int i t) ∨ (∃ x t,k = Sum.inr x ∧ v = Value.str x t)
  | .inl i,v,h => by
    obtain ⟨t,e⟩:=Value.isInt_shape (k:=i) (v:=v) h
    exact .inl ⟨i,t,rfl,e⟩
  | .inr x,v,h => by
    obtain ⟨t,e⟩:=Value.isStrOf_shape (x:=x) (v:=v) h
    exact .inr ⟨x,t,rfl,e⟩
theorem key_ll (a b:Int):decide ((Sum.inl a:Key) = Sum.inl b) = (a == b):=by
  by_cases e:a = b
  · subst e; simp
  · have h:¬ (Sum.inl a:Key) = Sum.inl b:=fun q => e (Sum.inl.inj q)
    rw [decide_eq_false h]
    exact (beq_eq_false_iff_ne.mpr e).symm
theorem key_rr (a b:Str):decide ((Sum.inr a:Key) = Sum.inr b) = decide (a = b):=by
  by_cases e:a = b
  · subst e; simp
  · have h:¬ (Sum.inr a:Key) = Sum.inr b:=fun q => e (Sum.inr.inj q)
    rw [decide_eq_false h,decide_eq_false e]
theorem key_lr (a:Int) (b:Str):decide ((Sum.inl a:Key) = Sum.inr b) = false:=decide_eq_false (fun q => nomatch q)
theorem key_rl (a:Str) (b:Int):decide ((Sum.inr a:Key) = Sum.inl b) = false:=decide_eq_false (fun q => nomatch q)
noncomputable def mixKind (prog:Program) (w:World):PySem.KeyKind prog w Key where
  is:=keyIs
  hash:=keyH w
  inj:=fun v a b ha hb => by
    rcases keyIs_shape ha with ⟨i,t,rfl,rfl⟩ | ⟨x,t,rfl,rfl⟩
    · rcases keyIs_shape hb with ⟨j,u,rfl,e⟩ | ⟨y,u,rfl,e⟩
      · injection e with e1 _; rw [e1]
      · exact nomatch e
    · rcases keyIs_shape hb with ⟨j,u,rfl,e⟩ | ⟨y,u,rfl,e⟩
      · exact nomatch e
      · injection e with e1 _; rw [e1]
  byValue:=fun k v h => by
    rcases keyIs_shape h with ⟨i,t,rfl,rfl⟩ | ⟨x,t,rfl,rfl⟩ <;> rfl
  pyHash:=fun hv h => by
    rcases keyIs_shape hv with ⟨i,t,rfl,rfl⟩ | ⟨x,t,rfl,rfl⟩
    · exact wpAny_pyHash_int h
    · exact wpAny_pyHash_str h
  eqBool:=fun hu hv h => by
    rcases keyIs_shape hu with ⟨i,t,rfl,rfl⟩ | ⟨x,t,rfl,rfl⟩
    · rcases keyIs_shape hv with ⟨j,u,rfl,rfl⟩ | ⟨y,u,rfl,rfl⟩
      · rw [key_ll] at h; exact wpAny_eqBool_int h
      · rw [key_lr] at h; exact SeqAt.EqAt.int_str i t y u _ _ _ _ h
    · rcases keyIs_shape hv with ⟨j,u,rfl,rfl⟩ | ⟨y,u,rfl,rfl⟩
      · rw [key_rl] at h; exact SeqAt.EqAt.str_int x t j u _ _ _ _ h
      · rw [key_rr] at h; exact wpAny_eqBool_str h
  «strs»:=fun k x t v h => by
    rcases keyIs_shape h with ⟨i,u,rfl,e⟩ | ⟨y,u,rfl,e⟩
    · exact nomatch e
    · injection e with e1 _
      subst e1
      cases v <;> rfl
end L2
namespace L2
open PySem PySem.Spec PyProof.Rows
inductive V where
  | non | bl (b:Bool) | int (i:Int) | str (x:Str) | byt (b:Array UInt8) | flt (b:UInt64) | ref (a:Addr) | ty (n:String)
  deriving DecidableEq
noncomputable def RelV:V → Value → Prop
  | .non,u => u = Value.none
  | .bl b,u => u = Value.bool b
  | .int i,u => ∃ t,u = Value.int i t
  | .str x,u => ∃ t,u = Value.str x t
  | .byt b,u => ∃ t,u = Value.bytes b t
  | .flt b,u => ∃ t,u = Value.float b t
  | .ref a,u => u = Value.ref a
  | .ty n,u => u = Value.type n
noncomputable abbrev Vals:List V → List Value → Prop:=Paired RelV
theorem Vals.length {xs:List V} {us:List Value} (r:Vals xs us):xs.length = us.length:=Paired.length r
theorem Vals.get:∀ {xs:List V} {us:List Value} {i:Nat} {x:V},Vals xs us → xs[i]? = some x → ∃ u,us[i]? = some u ∧ RelV x u
  | _,_,_,_,.nil,e => by simp at e
  | _,_,0,_,.cons r _,e => by simp at e; subst e; exact ⟨_,rfl,r⟩
  | _,_,i + 1,x,.cons _ t,e => by
    obtain ⟨u,h1,h2⟩:=Vals.get (i:=i) (x:=x) t (by simpa using e)
    exact ⟨u,by simpa using h1,h2⟩
theorem Vals.set {x:V} {u:Value} (r:RelV x u):∀ {xs:List V} {us:List Value} (i:Nat),Vals xs us → Vals (xs.set i x) (us.set i u)
  | _,_,_,.nil => .nil
  | _,_,0,.cons _ t => .cons r t
  | _,_,i + 1,.cons q t => .cons q (Vals.set r i t)
theorem Vals.append:∀ {xs ys:List V} {us ws:List Value},Vals xs us → Vals ys ws → Vals (xs ++ ys) (us ++ ws)
  | _,_,_,_,.nil,s => s
  | _,_,_,_,.cons r t,s => .cons r (Vals.append t s)
theorem Vals.take:∀ {xs:List V} {us:List Value} (n:Nat),Vals xs us → Vals (xs.take n) (us.take n)
  | _,_,0,_ => .nil
  | _,_,_ + 1,.nil => .nil
  | _,_,n + 1,.cons r t => .cons r (Vals.take n t)
theorem Vals.drop:∀ {xs:List V} {us:List Value} (n:Nat),Vals xs us → Vals (xs.drop n) (us.drop n)
  | _,_,0,r => r
  | _,_,_ + 1,.nil => .nil
  | _,_,n + 1,.cons _ t => Vals.drop n t
noncomputable def RelO:Option V → Option Value → Prop
  | some v,some u => RelV v u
  | none,none => True
  | _,_ => False
noncomputable def KV {κ:Type}:List (κ × V) → List (κ × Value) → Prop:=Paired fun (p:κ × V) (q:κ × Value) => p.1 = q.1 ∧ RelV p.2 q.2
noncomputable def kV:Key → V
  | .inl i => .int i
  | .inr x => .str x
inductive HO where
  | lst (xs:List V)
  | tup (xs:List V)
  | dK (kvs:List (Key × V)) | dT (kvs:List (List Key × V))
  | set (S:Int → Bool) (n:Nat)
  | ins (C dx:Addr) (fs:List (Str × V))
  | own (x:Addr)
  | xd (fs:List (Str × V))
  | met (f x:Addr)
  | rng (lo hi:Int)
  | frz (o:Obj) (u:HO)
  | tbl (ps:Array Value)
  | ext (φ:Heap → Prop)
noncomputable abbrev Hp:=Addr → Option HO
noncomputable def upd (H:Hp) (a:Addr) (o:HO):Hp:=fun b => if b = a then some o else H b
theorem upd_same {H:Hp} {a:Addr} {o:HO}:upd H a o a = some o:=by unfold upd; rw [if_pos rfl]
theorem upd_ne {H:Hp} {a b:Addr} {o:HO} (h:b ≠ a):upd H a o b = H b:=by unfold upd; rw [if_neg h]
theorem upd_upd {H:Hp} {a:Addr} {o u:HO}:upd (upd H a o) a u = upd H a u:=by
  funext b; unfold upd; split <;> rfl
theorem ne_of {H:Hp} {a b:Addr} {o u:HO} (h:H a = some o) (h':H b = some u) (d:o ≠ u):a ≠ b:=by
  intro e; subst e; rw [h] at h'; exact d (Option.some.inj h')
theorem ne_of_none {H:Hp} {a b:Addr} {o:HO} (h:H a = some o) (h':H b = none):a ≠ b:=by
  intro e; subst e; rw [h] at h'; cases h'
section
variable (P:Program) (w:World)
noncomputable def ObjOk (H:Hp) (h:Heap) (a:Addr):HO → Prop
  | .lst xs => xs.length ≤ sizeLine ∧ ∃ (its:List Value) (n:Nat),Vals xs its ∧ h.get? a = some { cls:=.type "list",data:=.seq its.toArray n }
  | .tup xs => xs.length ≤ sizeLine ∧ ∃ its:List Value,Vals xs its ∧ IsTup h a its.toArray
  | .dK kvs => kvs.length ≤ sizeLine ∧ (a == sysModules) = false ∧ ∃ vs,KV kvs vs ∧ h.DictOf (mixKind P w) a vs
  | .dT kvs => kvs.length ≤ sizeLine ∧ (a == sysModules) = false ∧ ∃ xs:List (List Key × Addr × Value),
      Paired (fun (p:List Key × V) (q:List Key × Addr × Value) => p.1 = q.1 ∧ H q.2.1 = some (.tup (p.1.map kV)) ∧ RelV p.2 q.2.2) kvs xs ∧
      ∃ o es ep,h.get? a = some o ∧ o.ExactDict ∧ o.data = .dict es ep ∧ es.toList = xs.map (entryOfKey (tupleKind (mixKind P w))) ∧ (xs.map (·.1)).Nodup
  | .set S n => h.SetOf (intKind P w) a S n
  | .ins C dx fs => H dx = some (.own a) ∧ fs.length ≤ 1000 ∧ dx ≠ a ∧ h.get? a = some (PySem.W.instObj C dx) ∧
      ∃ mA,h.Ns1 dx mA ∧ (∀ f,RelO (fs.lookup f) (mA f)) ∧ PySem.Within mA (fs.map (·.1))
  | .own _ => ∃ o,h.get? a = some o
  | .xd fs => ∃ mA,h.Ns1 a mA ∧ ∀ f,RelO (fs.lookup f) (mA f)
  | .rng lo hi => ∃ t u v,h.get? a = some { cls:=.type "range",data:=.fields #[.int lo t,.int hi u,.int 1 v] }
  | .frz o u => h.get? a = some o ∧ ObjOk H h a u
  | .tbl ps => h.get? a = some { cls:=.none,data:=.fields ps }
  | .met f x => h.get? a = some (PySem.W.methodObj (.ref f) (.ref x))
  | .ext φ => φ h ∧ (∃ o,h.get? a = some o) ∧ ∀ h1 h2:Heap,φ h1 → (∀ o,h1.get? a = some o → h2.get? a = some o) → φ h2
noncomputable def HOk (H:Hp) (h:Heap):Prop:=∀ a o,H a = some o → ObjOk P w H h a o
end
section
variable {P:Program} {w:World} {H H':Hp} {h h':Heap} {a:Addr} {o:HO}
theorem ObjOk.lt (x:ObjOk P w H h a o):a < h.objs.size:=by
  cases o with
  | lst xs => obtain ⟨_,_,_,_,e⟩:=x; exact Heap.lt_size e
  | tup xs => obtain ⟨_,_,_,p⟩:=x; exact p.lt
  | dK kvs => obtain ⟨_,_,_,_,o,_,_,e,_⟩:=x; exact Heap.lt_size e
  | dT kvs => obtain ⟨_,_,_,_,o,_,_,e,_⟩:=x; exact Heap.lt_size e
  | set S n => obtain ⟨o,_,_,_,e,_⟩:=x; exact Heap.lt_size e
  | ins C dx fs => obtain ⟨_,_,_,e,_⟩:=x; exact Heap.lt_size e
  | own y => obtain ⟨_,e⟩:=x; exact Heap.lt_size e
  | xd fs => obtain ⟨_,⟨_,_,_,e,_⟩,_⟩:=x; exact Heap.lt_size e
  | rng lo hi => obtain ⟨_,_,_,e⟩:=x; exact Heap.lt_size e
  | frz ob u => obtain ⟨e,_⟩:=x; exact Heap.lt_size e
  | tbl ps => exact Heap.lt_size (show h.get? a = some _ from x)
  | met f y => exact Heap.lt_size (show h.get? a = some _ from x)
  | ext φ => obtain ⟨_,⟨_,e⟩,_⟩:=x; exact Heap.lt_size e
theorem Paired.mapP {α β:Type} {F G:α → β → Prop}:∀ {l₁:List α} {l₂:List β},Paired F l₁ l₂ → (∀ a b,F a b → G a b) → Paired G l₁ l₂
  | _,_,.nil,_ => .nil
  | _,_,.cons r t,f => .cons (f _ _ r) (Paired.mapP t f)
theorem ObjOk.stay (x:ObjOk P w H h a o) (k:∀ b u,(b = a ∨ H b = some (.own a)) → h.get? b = some u → h'.get? b = some u)
    (ho:∀ b,H b = some (.own a) → H' b = some (.own a)) (ht:∀ b xs,H b = some (.tup xs) → H' b = some (.tup xs)):ObjOk P w H' h' a o:=by
  induction o with
  | lst xs => obtain ⟨z,its,n,r,e⟩:=x; exact ⟨z,its,n,r,k _ _ (.inl rfl) e⟩
  | tup xs => obtain ⟨z,its,r,ob,e,c⟩:=x; exact ⟨z,its,r,ob,k _ _ (.inl rfl) e,c⟩
  | dK kvs => obtain ⟨z,y,vs,r,ob,es,ep,e,c⟩:=x; exact ⟨z,y,vs,r,ob,es,ep,k _ _ (.inl rfl) e,c⟩
  | dT kvs =>
    obtain ⟨z,y,xs,r,ob,es,ep,e,c⟩:=x
    exact ⟨z,y,xs,Paired.mapP r fun p q z => ⟨z.1,ht _ _ z.2.1,z.2.2⟩,ob,es,ep,k _ _ (.inl rfl) e,c⟩
  | set S n => obtain ⟨ob,es,ep,t,e,c⟩:=x; exact ⟨ob,es,ep,t,k _ _ (.inl rfl) e,c⟩
  | ins C dx fs =>
    obtain ⟨d,z,ne,e,mA,⟨od,es,ep,e2,c⟩,r⟩:=x
    exact ⟨ho _ d,z,ne,k _ _ (.inl rfl) e,mA,⟨od,es,ep,k _ _ (.inr d) e2,c⟩,r⟩
  | own y => obtain ⟨ob,e⟩:=x; exact ⟨ob,k _ _ (.inl rfl) e⟩
  | xd fs => obtain ⟨mA,⟨od,es,ep,e,c⟩,r⟩:=x; exact ⟨mA,⟨od,es,ep,k _ _ (.inl rfl) e,c⟩,r⟩
  | rng lo hi => obtain ⟨t,u,v,e⟩:=x; exact ⟨t,u,v,k _ _ (.inl rfl) e⟩
  | frz ob u ih => obtain ⟨e,q⟩:=x; exact ⟨k _ _ (.inl rfl) e,ih q⟩
  | tbl ps =>
    have e:h.get? a = some { cls:=.none,data:=.fields ps }:=x
    show h'.get? a = some { cls:=.none,data:=.fields ps }
    exact k a _ (.inl rfl) e
  | met f y =>
    have e:h.get? a = some (PySem.W.methodObj (.ref f) (.ref y)):=x
    show h'.get? a = some (PySem.W.methodObj (.ref f) (.ref y))
    exact k a _ (.inl rfl) e
  | ext φ => obtain ⟨p,⟨o,e⟩,st⟩:=x; exact ⟨st _ _ p fun o q => k _ _ (.inl rfl) q,⟨o,k _ _ (.inl rfl) e⟩,st⟩
theorem HOk.lt (x:HOk P w H h) (e:H a = some o):a < h.objs.size:=(x a o e).lt
theorem HOk.fresh (x:HOk P w H h) (e:h.objs.size ≤ a):H a = none:=by
  cases q:H a with
  | none => rfl
  | some u => exact absurd (Nat.lt_of_lt_of_le (x.lt q) e) (Nat.lt_irrefl _)
theorem HOk.kept (x:HOk P w H h) (k:∀ b u,h.get? b = some u → h'.get? b = some u):HOk P w H h':=fun a o e =>
  (x a o e).stay (fun b u _ q => k b u q) (fun _ q => q) fun _ _ q => q
theorem HOk.laid (x:HOk P w H h) (k:∀ b u,h.get? b = some u → h'.get? b = some u) (hp:h.objs.size ≤ a) (new:ObjOk P w (upd H a o) h' a o):HOk P w (upd H a o) h':=fun b u e => by
  have hn:=x.fresh hp
  by_cases hb:b = a
  · subst hb; rw [upd_same] at e; cases e; exact new
  · rw [upd_ne hb] at e
    exact (x b u e).stay (fun c v _ q => k c v q) (fun c q => by rw [upd_ne (ne_of_none q hn)]; exact q) fun c xs q => by rw [upd_ne (ne_of_none q hn)]; exact q
end
noncomputable def Rd (H:Hp) (a:Addr) (u:HO):Prop:=H a = some u ∨ ∃ o,H a = some (.frz o u)
theorem Rd.ok {P:Program} {w:World} {H:Hp} {h:Heap} {a:Addr} {u:HO} (r:Rd H a u) (x:HOk P w H h):ObjOk P w H h a u:=by
  rcases r with r | ⟨o,r⟩
  · exact x a u r
  · obtain ⟨_,q⟩:=x a _ r
    exact q
noncomputable def Mut:Option HO → Prop
  | some (.lst _) => True
  | some (.dK _) => True
  | some (.dT _) => True
  | some (.set _ _) => True
  | some (.ins _ _ _) => True
  | some (.ext _) => True
  | _ => False
section
variable {P:Program} {w:World} {H:Hp} {h h':Heap} {x e:Addr} {o':HO}
theorem HOk.write (ok:HOk P w H h) (mu:Mut (H x)) (he:e = x ∨ H e = some (.own x)) (k:∀ b u,b ≠ e → h.get? b = some u → h'.get? b = some u) (heo:∃ u,h'.get? e = some u)
    (new:ObjOk P w (upd H x o') h' x o'):HOk P w (upd H x o') h':=fun b u q => by
  have nown:∀ c y,H c = some (.own y) → c ≠ x:=fun c y r z => by subst z; rw [r] at mu; exact mu
  have ntup:∀ c xs,H c = some (.tup xs) → c ≠ x:=fun c xs r z => by subst z; rw [r] at mu; exact mu
  by_cases hb:b = x
  · subst hb; rw [upd_same] at q; cases q; exact new
  · rw [upd_ne hb] at q
    by_cases hbe:b = e
    · have q':H b = some (.own x):=by
        rcases he with z | z
        · exact absurd (hbe.trans z) hb
        · rw [hbe]; exact z
      rw [q] at q'; cases q'
      obtain ⟨v,hv⟩:=heo
      exact ⟨v,by rw [hbe]; exact hv⟩
    · refine (ok b u q).stay (fun c v hc r => k c v ?_ r) (fun c r => by rw [upd_ne (nown c b r)]; exact r) fun c xs r => by rw [upd_ne (ntup c xs r)]; exact r
      rcases hc with rfl | hc
      · exact hbe
      · rintro rfl
        rcases he with z | z
        · exact nown c b hc z
        · rw [hc] at z; cases z; exact hb rfl
end
structure Un (fs ex:List Addr) (H H':Hp) (h h':Heap):Prop where
  keep:∀ b o,h.get? b = some o → H b = none → b ∉ fs → b ∉ ex → h'.get? b = some o
  slot:∀ b o,h.get? b = some o → H b = none → b ∈ fs → b ∉ ex → ∃ sl,h'.get? b = some { o with slots:=sl }
  free:∀ b o,h.get? b = some o → H b = none → b ∉ ex → H' b = none
  there:∀ b o,h.get? b = some o → b ∉ ex → ∃ o',h'.get? b = some o'
  tups:∀ b xs,H b = some (.tup xs) → H' b = some (.tup xs)
  frzs:∀ b o u,H b = some (.frz o u) → H' b = some (.frz o u)
  tbls:∀ b ps,H b = some (.tbl ps) → ∃ more,H' b = some (.tbl (ps ++ more))
section
variable {fs fs' ex ex':List Addr} {H H1 H2:Hp} {h h1 h2 h':Heap} {a x e:Addr} {o:HO}
theorem Un.any (u:Un fs ex H H1 h h1) {b:Addr} {ob:Obj} (q:h.get? b = some ob) (n:H b = none) (hx:b ∉ ex):∃ sl,h1.get? b = some { ob with slots:=sl }:=by
  by_cases hb:b ∈ fs
  · exact u.slot b ob q n hb hx
  · exact ⟨ob.slots,u.keep b ob q n hb hx⟩
theorem Un.kept (k:∀ b u,h.get? b = some u → h'.get? b = some u):Un fs ex H H h h' :=
  ⟨fun b ob q _ _ _ => k b ob q,fun b ob q _ _ _ => ⟨ob.slots,k b ob q⟩,fun _ _ _ n _ => n,fun b ob q _ => ⟨ob,k b ob q⟩,fun _ _ q => q,fun _ _ _ q => q,fun _ ps q => ⟨#[],by rw [q]; simp⟩⟩
theorem Un.refl:Un fs ex H H h h:=Un.kept fun _ _ q => q
theorem Un.laid (k:∀ b u,h.get? b = some u → h'.get? b = some u) (hp:h.objs.size ≤ a) (hn:H a = none):Un fs ex H (upd H a o) h h' where
  keep:=fun b u q _ _ _ => k b u q
  slot:=fun b u q _ _ _ => ⟨u.slots,k b u q⟩
  free:=fun b u q n _ => by rw [upd_ne (Nat.ne_of_lt (Nat.lt_of_lt_of_le (Heap.lt_size q) hp))]; exact n
  there:=fun b u q _ => ⟨u,k b u q⟩
  tups:=fun b xs q => by rw [upd_ne (ne_of_none q hn)]; exact q
  frzs:=fun b u xs q => by rw [upd_ne (ne_of_none q hn)]; exact q
  tbls:=fun b ps q => ⟨#[],by rw [upd_ne (ne_of_none q hn),q]; simp⟩
theorem Un.write (mu:Mut (H x)) (he:e = x ∨ H e = some (.own x)) (k:∀ b u,b ≠ e → h.get? b = some u → h'.get? b = some u) (heo:∃ u,h'.get? e = some u):Un fs ex H (upd H x o) h h':=by
  have hx:∀ b,H b = none → b ≠ x:=fun b n z => by subst z; rw [n] at mu; exact mu
  have hb:∀ b,H b = none → b ≠ e:=fun b n z => by
    subst z
    rcases he with r | r
    · exact hx b n r
    · rw [n] at r; cases r
  have hm:∀ b u,H b = some u → ¬ Mut (some u) → b ≠ x:=fun b u q nm z => by subst z; rw [q] at mu; exact nm mu
  refine ⟨fun b u q n _ _ => k b u (hb b n) q,fun b u q n _ _ => ⟨u.slots,k b u (hb b n) q⟩,fun b u q n _ => by rw [upd_ne (hx b n)]; exact n,fun b u q _ => ?_,
    fun b xs q => by rw [upd_ne (hm b _ q fun z => z)]; exact q,fun b u xs q => by rw [upd_ne (hm b _ q fun z => z)]; exact q,fun b ps q => ⟨#[],by rw [upd_ne (hm b _ q fun z => z),q]; simp⟩⟩
  by_cases hbe:b = e
  · subst hbe; exact heo
  · exact ⟨u,k b u hbe q⟩
end
noncomputable def trk (h:Heap) (H:Hp):List Addr:=(List.range h.objs.size).filter fun a => (H a).isSome
noncomputable def hidT (h:Heap) (H:Hp):Heap:=PySem.W.hideAll h (trk h H)
theorem hidT_size (h:Heap) (H:Hp):(hidT h H).objs.size = h.objs.size:=PySem.W.hideAll_size _ _
theorem hidT_get {h:Heap} {H:Hp} {b:Addr} {o:Obj} (e:h.get? b = some o) (n:H b = none):(hidT h H).get? b = some o :=
  PySem.W.hideAll_get _ e fun hm => by
    have q:(H b).isSome = true:=(List.mem_filter.mp hm).2
    rw [n] at q; simp at q
theorem of_hidT {h:Heap} {H:Hp} {b:Addr} {o:Obj} (e:(hidT h H).get? b = some o):h.get? b = some o ∧ H b = none:=by
  have e':h.get? b = some o:=PySem.W.of_hideAll (trk h H) e
  refine ⟨e',?_⟩
  cases q:H b with
  | none => rfl
  | some x =>
    have hm:b ∈ trk h H:=List.mem_filter.mpr ⟨List.mem_range.mpr (Heap.lt_size e'),by simp [q]⟩
    have z:(hidT h H).get? b = none:=PySem.W.hideAll_none (trk h H) hm
    rw [z] at e; cases e
end L2
namespace L2
open PySem PySem.Spec PyProof.Rows
structure Mod (K:PySem.W.Frag) (mg:Str → Option Value) (base:Heap):Prop where
  kin:K.In base
  glob:base.Ns mainGlobals mg
  blt:∃ mb,base.Ns builtinsNs mb ∧ ∀ x:Str,x ≠ "__name__" → mb x = bootBuiltins x
  nolimit:base.NoLimit
structure Cx where
  prog:Program
  w:World
  K:PySem.W.Frag
  mg:Str → Option Value
  base:Heap
  A:Around
  N:List Str
  s_0:Shared
  H_0:Hp
  env:Env
  outer:List Env
  stack:List Env
  ex:List Addr
  fn:Str → Bool
  calm:Bool
  pn:List (Addr × Obj)
  xe:Value → Shared → Prop
noncomputable def frs (l:List Env):List Addr:=l.filterMap (·.frame)
noncomputable abbrev Cx.fs (X:Cx):List Addr:=frs X.outer
noncomputable def Vis (sc:Scope) (x:Str):Prop:=sc.names.lookup x = some .local ∨ sc.names.lookup x = some .cell ∨ sc.names.lookup x = some .free
noncomputable def Loc (sc:Scope) (x:Str):Prop:=sc.names.lookup x = some .local ∨ sc.names.lookup x = some .cell
noncomputable def Look (env:Env) (h:Heap) (m:Str → Option Value) (x:Str) (u:Value):Prop :=
  (env.kindOf x = some .local ∧ m x = some u) ∨ ((env.kindOf x = some .cell ∨ env.kindOf x = some .free) ∧ ∃ c,env.cells.lookup x = some c ∧ h.IsCell c (some u))
structure Cx.Ok (X:Cx):Prop where
  mod:Mod X.K X.mg X.base
  kind:X.env.scope.kind = .function
  glob:X.env.globals = mainGlobals
  blt:X.env.builtins = builtinsNs
  above:X.s_0.heap.objs.size ≤ X.env.locals
  inj:∀ x y c,X.env.cells.lookup x = some c → X.env.cells.lookup y = some c → x = y
  has:∀ x,(X.env.kindOf x = some .cell ∨ X.env.kindOf x = some .free) → ∃ c,X.env.cells.lookup x = some c
  cab:∀ x c,X.fn x = true → X.env.cells.lookup x = some c → X.s_0.heap.objs.size ≤ c
  hd:X.calm = true → X.A.handled = none
  frames:X.A.frames = some X.stack
  stk:X.stack = X.outer ∨ (X.stack = X.env :: X.outer ∧ X.env.frame = some X.env.locals)
  exf:∀ b ∈ X.ex,b ≠ X.env.locals ∧ ∀ x c,X.env.cells.lookup x = some c → c ≠ b
  bs:∀ b o,X.base.get? b = some o → X.s_0.heap.get? b = some o ∧ X.H_0 b = none
  bsz:X.base.objs.size ≤ X.s_0.heap.objs.size
  noex:∀ b o,X.base.get? b = some o → b ∉ X.ex
  exfs:∀ b ∈ X.ex,b ∉ X.fs
  funs:X.s_0.heap.FunFrames X.base X.outer
  frf:∀ b ∈ X.fs,X.H_0 b = none
structure Inv (X:Cx) (pins:List (Addr × Obj)) (σ:List (Option V)) (H:Hp) (s:Shared):Prop where
  ok:X.Ok
  os:s.os = X.s_0.os
  bare:AllBare s.gens
  base:Un X.fs X.ex X.H_0 H X.s_0.heap s.heap
  loc:∃ m,s.heap.Ns X.env.locals m ∧ ∀ (i:Nat) (x:Str) (v:V),X.N[i]? = some x → σ[i]? = some (some v) → Vis X.env.scope x → ∃ u,RelV v u ∧ Look X.env s.heap m x u
  cell:∀ x c,X.env.cells.lookup x = some c → ∃ v,s.heap.IsCell c v
  free:H X.env.locals = none
  freeC:∀ x c,X.env.cells.lookup x = some c → H c = none
  pin:∀ p ∈ X.pn ++ pins,s.heap.get? p.1 = some p.2 ∧ H p.1 = none ∧ p.1 ≠ X.env.locals ∧ p.1 ∉ X.fs ∧ ∀ v,p.2.data ≠ .cell v
  hok:HOk X.prog X.w H s.heap
  len:σ.length = X.N.length
section
variable {X:Cx} {pins:List (Addr × Obj)} {σ:List (Option V)} {H H':Hp} {s:Shared} {h':Heap}
theorem Cx.Ok.nofr (ok:X.Ok) {b:Addr} {o:Obj} (e:X.base.get? b = some o):b ∉ X.fs:=fun hb => by
  have:=(ok.funs.mem hb).1
  rw [e] at this; cases this
theorem Inv.bs (I:Inv X pins σ H s):∀ b o,X.base.get? b = some o → s.heap.get? b = some o ∧ H b = none:=fun b o e =>
  ⟨I.base.keep b o (I.ok.bs b o e).1 (I.ok.bs b o e).2 (I.ok.nofr e) (I.ok.noex b o e),I.base.free b o (I.ok.bs b o e).1 (I.ok.bs b o e).2 (I.ok.noex b o e)⟩
theorem Inv.bk (I:Inv X pins σ H s):∀ b o,X.base.get? b = some o → s.heap.get? b = some o:=fun b o e => (I.bs b o e).1
theorem Inv.mod (I:Inv X pins σ H s):Mod X.K X.mg X.base:=I.ok.mod
theorem Inv.kIn (I:Inv X pins σ H s):X.K.In s.heap:=I.ok.mod.kin.keeps I.bk
theorem Inv.lt (I:Inv X pins σ H s):X.env.locals < s.heap.objs.size:=let ⟨_,hn,_⟩:=I.loc; hn.lt
theorem Inv.sz (I:Inv X pins σ H s):X.s_0.heap.objs.size ≤ s.heap.objs.size:=Nat.le_trans I.ok.above (Nat.le_of_lt I.lt)
theorem Inv.nofs (I:Inv X pins σ H s) {a:Addr} (h:s.heap.objs.size ≤ a):a ∉ X.fs:=fun hb => by
  obtain ⟨_,o,ho,_⟩:=I.ok.funs.mem hb
  exact absurd (Nat.lt_of_lt_of_le (Heap.lt_size ho) (Nat.le_trans I.sz h)) (Nat.lt_irrefl _)
theorem Inv.cne (I:Inv X pins σ H s):∀ x c,X.env.cells.lookup x = some c → c ≠ X.env.locals:=fun x c e z => by
  obtain ⟨v,o,ho,hd⟩:=I.cell x c e
  obtain ⟨m,⟨o',es,ep,ho',hd',_⟩,_⟩:=I.loc
  rw [z,ho'] at ho; cases ho; rw [hd'] at hd; cases hd
theorem Inv.funs (I:Inv X pins σ H s):s.heap.FunFrames X.base X.outer:=by
  have all:∀ (l:List Env),(∀ b ∈ frs l,b ∈ X.fs) → X.s_0.heap.FunFrames X.base l → s.heap.FunFrames X.base l:=by
    intro l
    induction l with
    | nil => intro _ _; trivial
    | cons env r ih =>
      intro hs hl
      obtain ⟨hk,⟨L,o,hf,hn,ho,hd⟩,hr⟩:=hl
      have hL:L ∈ X.fs:=hs L (by unfold frs; rw [List.filterMap_cons,hf]; exact List.mem_cons_self)
      obtain ⟨sl,e⟩:=I.base.slot L o ho (I.ok.frf L hL) hL fun z => I.ok.exfs L z hL
      exact ⟨hk,⟨L,_,hf,hn,e,hd⟩,ih (fun b hb => hs b (by unfold frs; rw [List.filterMap_cons,hf]; exact List.mem_cons_of_mem _ hb)) hr⟩
  exact all X.outer (fun _ hb => hb) I.ok.funs
theorem Inv.stack (I:Inv X pins σ H s):s.heap.FunFrames X.base X.stack:=by
  rcases I.ok.stk with e | ⟨e,hf⟩
  · rw [e]; exact I.funs
  · rw [e]
    obtain ⟨m,hn,_⟩:=I.loc
    refine .cons (by rw [I.ok.kind]; decide) hf hn ?_ I.funs
    exact Heap.get?_none_of_le (Nat.le_trans I.ok.bsz I.ok.above)
theorem Inv.stkSub (I:Inv X pins σ H s):∀ b ∈ frs X.stack,b ∈ X.env.locals :: X.fs:=fun b hb => by
  rcases I.ok.stk with e | ⟨e,hf⟩
  · rw [e] at hb; exact List.mem_cons_of_mem _ hb
  · rw [e] at hb
    unfold frs at hb
    rw [List.filterMap_cons,hf] at hb
    exact hb
theorem Inv.stkFree (I:Inv X pins σ H s):∀ b ∈ frs X.stack,H b = none:=fun b hb => by
  rcases List.mem_cons.mp (I.stkSub b hb) with e | hb
  · rw [e]; exact I.free
  · obtain ⟨_,o,ho,_⟩:=I.ok.funs.mem hb
    exact I.base.free b o ho (I.ok.frf b hb) fun z => I.ok.exfs b z hb
theorem Inv.step {g':Array GenState} {t':Nat} {d':Drawn} {ch:List Addr} (I:Inv X pins σ H s)
    (hch:∀ b ∈ ch,(b ∈ X.ex ∨ X.s_0.heap.objs.size ≤ b) ∧ b ≠ X.env.locals ∧ (∀ x c,X.env.cells.lookup x = some c → c ≠ b) ∧ ∀ p ∈ X.pn ++ pins,p.1 ≠ b)
    (keep:∀ b o,b ≠ X.env.locals → b ∉ X.fs → b ∉ ch → s.heap.get? b = some o → H b = none → h'.get? b = some o)
    (slot:∀ b o,b ≠ X.env.locals → b ∈ X.fs → b ∉ ch → s.heap.get? b = some o → H b = none → ∃ sl,h'.get? b = some { o with slots:=sl }) (free:∀ b o,b ∉ ch → s.heap.get? b = some o → H b = none → H' b = none)
    (there:∀ b o,b ∉ ch → s.heap.get? b = some o → ∃ o',h'.get? b = some o')
    (tups:∀ b xs,H b = some (.tup xs) → H' b = some (.tup xs)) (frzs:∀ b o u,H b = some (.frz o u) → H' b = some (.frz o u)) (tbls:∀ b ps,H b = some (.tbl ps) → ∃ more,H' b = some (.tbl (ps ++ more)))
    (ns:∀ m,s.heap.Ns X.env.locals m → h'.Ns X.env.locals m) (hok:HOk X.prog X.w H' h') (hg:AllBare g') :
    Inv X pins σ H' { s with heap:=h',gens:=g',drawn:=d',toks:=t' }:=by
  have neL:∀ b o,X.s_0.heap.get? b = some o → b ≠ X.env.locals:=fun b o e => Nat.ne_of_lt (Nat.lt_of_lt_of_le (Heap.lt_size e) I.ok.above)
  have neC:∀ b o,X.s_0.heap.get? b = some o → b ∉ X.ex → b ∉ ch:=fun b o e hx hb => by
    rcases (hch b hb).1 with z | z
    · exact hx z
    · exact absurd (Nat.lt_of_lt_of_le (Heap.lt_size e) z) (Nat.lt_irrefl _)
  have cellK:∀ x c,X.env.cells.lookup x = some c → ∀ v,s.heap.IsCell c v → h'.IsCell c v:=fun x c e v ⟨o,ho,hd⟩ => by
    have nch:c ∉ ch:=fun z => (hch c z).2.2.1 x c e rfl
    by_cases hc:c ∈ X.fs
    · obtain ⟨sl,q⟩:=slot c o (I.cne x c e) hc nch ho (I.freeC x c e)
      exact ⟨_,q,hd⟩
    · exact ⟨o,keep c o (I.cne x c e) hc nch ho (I.freeC x c e),hd⟩
  refine ⟨I.ok,I.os,hg,⟨fun b o e n hb hx => ?_,fun b o e n hb hx => ?_,fun b o e n hx => ?_,fun b o e hx => ?_,fun b xs e => tups b xs (I.base.tups b xs e),fun b o xs e => frzs b o xs (I.base.frzs b o xs e),fun b ps e => ?_⟩,?_,fun x c e => ?_,?_,fun x c e => ?_,fun p hp => ?_,hok,I.len⟩
  · exact keep b o (neL b o e) hb (neC b o e hx) (I.base.keep b o e n hb hx) (I.base.free b o e n hx)
  · obtain ⟨sl,e1⟩:=I.base.slot b o e n hb hx
    obtain ⟨sl',e2⟩:=slot b _ (neL b o e) hb (neC b o e hx) e1 (I.base.free b o e n hx)
    exact ⟨sl',e2⟩
  · obtain ⟨o',e1⟩:=I.base.there b o e hx
    exact free b o' (neC b o e hx) e1 (I.base.free b o e n hx)
  · obtain ⟨o',e1⟩:=I.base.there b o e hx
    exact there b o' (neC b o e hx) e1
  · obtain ⟨m1,e1⟩:=I.base.tbls b ps e
    obtain ⟨m2,e2⟩:=tbls b _ e1
    exact ⟨m1 ++ m2,by rw [e2,Array.append_assoc]⟩
  · obtain ⟨m,hn,hl⟩:=I.loc
    refine ⟨m,ns m hn,fun i x v e1 e2 e3 => ?_⟩
    obtain ⟨u,r,l⟩:=hl i x v e1 e2 e3
    refine ⟨u,r,?_⟩
    rcases l with l | ⟨k,c,e,z⟩
    · exact .inl l
    · exact .inr ⟨k,c,e,cellK x c e _ z⟩
  · obtain ⟨v,z⟩:=I.cell x c e
    exact ⟨v,cellK x c e v z⟩
  · obtain ⟨m,⟨o,_,_,ho,_⟩,_⟩:=I.loc
    exact free _ o (fun z => (hch _ z).2.1 rfl) ho I.free
  · obtain ⟨v,o,ho,hd⟩:=I.cell x c e
    exact free c o (fun z => (hch c z).2.2.1 x c e rfl) ho (I.freeC x c e)
  · obtain ⟨e,n,ne,nf,d⟩:=I.pin p hp
    have nch:p.1 ∉ ch:=fun z => (hch p.1 z).2.2.2 p hp rfl
    exact ⟨keep p.1 p.2 ne nf nch e n,free p.1 p.2 nch e n,ne,nf,d⟩
theorem Inv.un {t':Nat} (I:Inv X pins σ H s) (u:Un X.fs [] H H' s.heap h') (hok:HOk X.prog X.w H' h'):Inv X pins σ H' { s with heap:=h',toks:=t' }:=by
  obtain ⟨m,⟨o,es,ep,ho,r⟩,_⟩:=id I.loc
  obtain ⟨sl,hL⟩:=u.any ho I.free (by simp)
  exact I.step (g':=s.gens) (d':=s.drawn) (ch:=[]) (fun _ z => nomatch z) (fun b o _ hb _ e n => u.keep b o e n hb (by simp)) (fun b o _ hb _ e n => u.slot b o e n hb (by simp)) (fun b o _ e n => u.free b o e n (by simp)) (fun b o _ e => u.there b o e (by simp)) u.tups u.frzs u.tbls (fun m' hm => by
    obtain ⟨o',es',ep',ho',r'⟩:=hm
    rw [ho] at ho'; cases ho'
    exact ⟨_,es',ep',hL,r'⟩) hok I.bare
theorem Inv.call {g':Array GenState} {t':Nat} {d':Drawn} {ch:List Addr} (I:Inv X pins σ H s) (u:Un (frs X.stack) ch H H' s.heap h') (hok:HOk X.prog X.w H' h') (hg:AllBare g')
    (hch:∀ b ∈ ch,(b ∈ X.ex ∨ X.s_0.heap.objs.size ≤ b) ∧ b ≠ X.env.locals ∧ (∀ x c,X.env.cells.lookup x = some c → c ≠ b) ∧ ∀ p ∈ X.pn ++ pins,p.1 ≠ b) :
    Inv X pins σ H' { s with heap:=h',gens:=g',drawn:=d',toks:=t' }:=by
  obtain ⟨m,⟨o,es,ep,ho,r⟩,_⟩:=id I.loc
  obtain ⟨sl,hL⟩:=u.any ho I.free fun z => (hch _ z).2.1 rfl
  exact I.step (ch:=ch) hch (fun b o hL hb hc e n => u.keep b o e n (fun z => (List.mem_cons.mp (I.stkSub b z)).elim hL hb) hc) (fun b o _ _ hc e n => u.any e n hc) (fun b o hc e n => u.free b o e n hc) (fun b o hc e => u.there b o e hc) u.tups u.frzs u.tbls (fun m' hm => by
    obtain ⟨o',es',ep',ho',r'⟩:=hm
    rw [ho] at ho'; cases ho'
    exact ⟨_,es',ep',hL,r'⟩) hok hg
theorem Inv.turned {t':Nat} {it:Addr} (I:Inv X pins σ H s) (k:∀ b o,b ≠ it → s.heap.get? b = some o → h'.get? b = some o) (hn:H it = none) (hL:it ≠ X.env.locals)
    (h1:it ∈ X.ex ∨ X.s_0.heap.objs.size ≤ it) (h2:∀ x c,X.env.cells.lookup x = some c → c ≠ it) (h3:∀ p ∈ X.pn ++ pins,p.1 ≠ it):Inv X pins σ H { s with heap:=h',toks:=t' }:=by
  have nit:∀ b u,H b = some u → b ≠ it:=fun b u e z => by rw [z,hn] at e; cases e
  refine I.step (g':=s.gens) (d':=s.drawn) (ch:=[it]) (fun b hb => ?_) (fun b o _ _ hc e _ => k b o (fun z => hc (by simp [z])) e) (fun b o _ _ hc e _ => ⟨o.slots,k b o (fun z => hc (by simp [z])) e⟩) (fun _ _ _ _ n => n)
    (fun b o hc e => ⟨o,k b o (fun z => hc (by simp [z])) e⟩) (fun _ _ e => e) (fun _ _ _ e => e) (fun b ps e => ⟨#[],by rw [e]; simp⟩) (fun m hm => ?_) (fun b u e => ?_) I.bare
  · have e:b = it:=by simpa using hb
    subst e
    exact ⟨h1,hL,h2,h3⟩
  · obtain ⟨o,es,ep,ho,r⟩:=hm
    exact ⟨o,es,ep,k _ o (Ne.symm hL) ho,r⟩
  · refine (I.hok b u e).stay (fun c v hc q => k c v ?_ q) (fun _ q => q) fun _ _ q => q
    rcases hc with z | z
    · rw [z]; exact nit b u e
    · exact nit c _ z
theorem Inv.tok (I:Inv X pins σ H s) (t:Nat):Inv X pins σ H { s with toks:=t }:=I.un (h':=s.heap) (t':=t) Un.refl I.hok
theorem Inv.kept {t':Nat} (I:Inv X pins σ H s) (k:∀ b u,s.heap.get? b = some u → h'.get? b = some u):Inv X pins σ H { s with heap:=h',toks:=t' }:=I.un (Un.kept k) (I.hok.kept k)
theorem Inv.laid {a:Addr} {o:HO} {t':Nat} (I:Inv X pins σ H s) (k:∀ b u,s.heap.get? b = some u → h'.get? b = some u) (hp:s.heap.objs.size ≤ a) (new:ObjOk X.prog X.w (upd H a o) h' a o) :
    Inv X pins σ (upd H a o) { s with heap:=h',toks:=t' }:=I.un (Un.laid k hp (I.hok.fresh hp)) (I.hok.laid k hp new)
theorem Inv.write {x e:Addr} {o:HO} {t':Nat} (I:Inv X pins σ H s) (mu:Mut (H x)) (he:e = x ∨ H e = some (.own x)) (k:∀ b u,b ≠ e → s.heap.get? b = some u → h'.get? b = some u) (heo:∃ u,h'.get? e = some u)
    (new:ObjOk X.prog X.w (upd H x o) h' x o):Inv X pins σ (upd H x o) { s with heap:=h',toks:=t' }:=I.un (Un.write mu he k heo) (I.hok.write mu he k heo new)
theorem Inv.weak {σ':List (Option V)} (I:Inv X pins σ H s) (hl:σ'.length = σ.length) (w:∀ (i:Nat) v,σ'[i]? = some (some v) → σ[i]? = some (some v)):Inv X pins σ' H s :=
  ⟨I.ok,I.os,I.bare,I.base,let ⟨m,hn,hl'⟩:=I.loc; ⟨m,hn,fun i x v e1 e2 e3 => hl' i x v e1 (w i v e2) e3⟩,I.cell,I.free,I.freeC,I.pin,I.hok,hl.trans I.len⟩
theorem Inv.pins_of {pins':List (Addr × Obj)} (I:Inv X pins σ H s) (h:∀ p ∈ pins',s.heap.get? p.1 = some p.2 ∧ H p.1 = none ∧ p.1 ≠ X.env.locals ∧ p.1 ∉ X.fs ∧ ∀ v,p.2.data ≠ .cell v):Inv X pins' σ H s :=
  ⟨I.ok,I.os,I.bare,I.base,I.loc,I.cell,I.free,I.freeC,fun p hp => (List.mem_append.mp hp).elim (fun z => I.pin p (List.mem_append_left _ z)) (h p),I.hok,I.len⟩
theorem nodup_ix {N:List Str} (hN:N.Nodup) {i j:Nat} {x:Str} (a:N[i]? = some x) (b:N[j]? = some x):i = j:=by
  obtain ⟨h1,e1⟩:=List.getElem?_eq_some_iff.mp a
  obtain ⟨h2,e2⟩:=List.getElem?_eq_some_iff.mp b
  exact (List.getElem_inj hN).mp (e1.trans e2.symm)
theorem store_ok2 {M:Model} {A:Around} {E:Value → Shared → Prop} {i:Nat} {x:Str} {v:V} {u:Value} {Q:Unit → Shared → Prop} (I:Inv X pins σ H s) (hN:X.N.Nodup) (hi:X.N[i]? = some x) (hx:Loc X.env.scope x) (r:RelV v u)
    (h:∀ s',Inv X pins (σ.set i (some v)) H s' → (∃ a,Heap.SameBut a s.heap s'.heap ∧ (a = X.env.locals ∨ X.env.cells.lookup x = some a)) → Q () s') (hf:X.fn x = true ∨ X.env.scope.names.lookup x = some .local:=by first | exact .inl rfl | exact .inr rfl | assumption):wpAny M A (storeName X.env x u) Q E s:=by
  obtain ⟨m,hn,hl⟩:=id I.loc
  have hcls:(X.env.scope.kind == .class || (X.env.scope.kind == .module && X.env.locals != X.env.globals)) = false:=by rw [I.ok.kind]; rfl
  have hiσ:i < σ.length:=by rw [I.len]; exact (List.getElem?_eq_some_iff.mp hi).1
  have cne:=I.cne
  have tracked:∀ {a:Addr} {h':Heap},(∃ o,s.heap.get? a = some o ∧ H a = none) → Heap.SameBut a s.heap h' → HOk X.prog X.w H h':=fun {a h'} ha hs b ob e => by
    obtain ⟨_,_,hfree⟩:=ha
    refine (I.hok b ob e).stay (fun c w' hc q => (hs.2 c ?_).trans q) (fun _ q => q) fun _ _ q => q
    rintro rfl
    rcases hc with rfl | hc
    · rw [hfree] at e; cases e
    · rw [hfree] at hc; cases hc
  rcases hx with hk | hk
  · refine wpAny_storeName_local hk hn (fun h' hn' hs => ?_) hcls
    obtain ⟨oL,_,_,hoL,_⟩:=id hn
    refine h _ ⟨I.ok,I.os,I.bare,⟨fun b o e n hb hx => ?_,fun b o e n hb hx => ?_,I.base.free,fun b o e hx => ?_,I.base.tups,I.base.frzs,I.base.tbls⟩,⟨_,hn',fun j y v' e1 e2 e3 => ?_⟩,fun y c e => ?_,I.free,I.freeC,fun p hp => ?_,tracked ⟨oL,hoL,I.free⟩ hs,by simpa using I.len⟩ ⟨_,hs,.inl rfl⟩
    · exact (hs.2 b (Nat.ne_of_lt (Nat.lt_of_lt_of_le (Heap.lt_size e) I.ok.above))).trans (I.base.keep b o e n hb hx)
    · obtain ⟨sl,e1⟩:=I.base.slot b o e n hb hx
      exact ⟨sl,(hs.2 b (Nat.ne_of_lt (Nat.lt_of_lt_of_le (Heap.lt_size e) I.ok.above))).trans e1⟩
    · obtain ⟨o',e1⟩:=I.base.there b o e hx
      exact ⟨o',(hs.2 b (Nat.ne_of_lt (Nat.lt_of_lt_of_le (Heap.lt_size e) I.ok.above))).trans e1⟩
    · by_cases hj:j = i
      · subst hj
        rw [hi] at e1; cases e1
        rw [List.getElem?_set_self hiσ] at e2
        cases e2
        exact ⟨u,r,.inl ⟨hk,by simp⟩⟩
      · rw [List.getElem?_set_ne (Ne.symm hj)] at e2
        obtain ⟨u',r',q⟩:=hl j y v' e1 e2 e3
        refine ⟨u',r',?_⟩
        rcases q with ⟨k,e⟩ | ⟨k,c,e,z⟩
        · refine .inl ⟨k,?_⟩
          have:y ≠ x:=fun e => hj (nodup_ix hN e1 (e ▸ hi))
          simp [this,e]
        · exact .inr ⟨k,c,e,z.sameBut hs (cne y c e)⟩
    · obtain ⟨w',z⟩:=I.cell y c e
      exact ⟨w',z.sameBut hs (cne y c e)⟩
    · obtain ⟨e,n,ne,nf,d⟩:=I.pin p hp
      exact ⟨(hs.2 p.1 ne).trans e,n,ne,nf,d⟩
  · have hfn:X.fn x = true:=by
      rcases hf with z | z
      · exact z
      · rw [z] at hk; cases hk
    obtain ⟨c,hc⟩:=I.ok.has x (.inl hk)
    obtain ⟨w',z⟩:=I.cell x c hc
    refine wpAny_storeName_cell I.ok.kind hk hc z (fun h' hc' hs => ?_)
    obtain ⟨oc,hoc,hocd⟩:=id z
    refine h { s with heap:=h' } ⟨I.ok,I.os,I.bare,⟨fun b o e n hb hx => ?_,fun b o e n hb hx => ?_,I.base.free,fun b o e hx => ?_,I.base.tups,I.base.frzs,I.base.tbls⟩,⟨m,hn.sameBut hs (Ne.symm (cne x c hc)),fun j y v' e1 e2 e3 => ?_⟩,fun y c' e => ?_,I.free,I.freeC,fun p hp => ?_,tracked ⟨oc,hoc,I.freeC x c hc⟩ hs,by simpa using I.len⟩ ⟨c,hs,.inr hc⟩
    · exact (hs.2 b (Nat.ne_of_lt (Nat.lt_of_lt_of_le (Heap.lt_size e) (I.ok.cab x c hfn hc)))).trans (I.base.keep b o e n hb hx)
    · obtain ⟨sl,e1⟩:=I.base.slot b o e n hb hx
      exact ⟨sl,(hs.2 b (Nat.ne_of_lt (Nat.lt_of_lt_of_le (Heap.lt_size e) (I.ok.cab x c hfn hc)))).trans e1⟩
    · obtain ⟨o',e1⟩:=I.base.there b o e hx
      exact ⟨o',(hs.2 b (Nat.ne_of_lt (Nat.lt_of_lt_of_le (Heap.lt_size e) (I.ok.cab x c hfn hc)))).trans e1⟩
    · by_cases hj:j = i
      · subst hj
        rw [hi] at e1; cases e1
        rw [List.getElem?_set_self hiσ] at e2
        cases e2
        exact ⟨u,r,.inr ⟨.inl hk,c,hc,hc'⟩⟩
      · rw [List.getElem?_set_ne (Ne.symm hj)] at e2
        obtain ⟨u',r',q⟩:=hl j y v' e1 e2 e3
        refine ⟨u',r',?_⟩
        rcases q with q | ⟨k,c',e,z'⟩
        · exact .inl q
        · refine .inr ⟨k,c',e,z'.sameBut hs ?_⟩
          rintro rfl
          exact hj (nodup_ix hN e1 (I.ok.inj _ _ _ e hc ▸ hi))
    · by_cases hcc:c' = c
      · subst hcc; exact ⟨_,hc'⟩
      · obtain ⟨w2,z2⟩:=I.cell y c' e
        exact ⟨w2,z2.sameBut hs hcc⟩
    · obtain ⟨e,n,ne,nf,d⟩:=I.pin p hp
      refine ⟨(hs.2 p.1 ?_).trans e,n,ne,nf,d⟩
      intro q
      rw [q,hoc] at e
      have q':oc = p.2:=Option.some.inj e
      exact d w' (by rw [← q']; exact hocd)
theorem store_ok {M:Model} {A:Around} {E:Value → Shared → Prop} {i:Nat} {x:Str} {v:V} {u:Value} {Q:Unit → Shared → Prop} (I:Inv X pins σ H s) (hN:X.N.Nodup) (hi:X.N[i]? = some x) (hx:Loc X.env.scope x) (r:RelV v u)
    (h:∀ s',Inv X pins (σ.set i (some v)) H s' → Q () s') (hf:X.fn x = true ∨ X.env.scope.names.lookup x = some .local:=by first | exact .inl rfl | exact .inr rfl | assumption):wpAny M A (storeName X.env x u) Q E s :=
  store_ok2 I hN hi hx r (fun s' I' _ => h s' I') hf
theorem Inv.call' {s':Shared} {ch:List Addr} (I:Inv X pins σ H s) (ho:s'.os = s.os) (u:Un (frs X.stack) ch H H' s.heap s'.heap) (hok:HOk X.prog X.w H' s'.heap) (hg:AllBare s'.gens)
    (hch:∀ b ∈ ch,(b ∈ X.ex ∨ X.s_0.heap.objs.size ≤ b) ∧ b ≠ X.env.locals ∧ (∀ x c,X.env.cells.lookup x = some c → c ≠ b) ∧ ∀ p ∈ X.pn ++ pins,p.1 ≠ b):Inv X pins σ H' s':=by
  obtain ⟨h',g',d',t',o'⟩:=s'
  have e:o' = s.os:=ho
  subst e
  exact I.call (g':=g') (t':=t') (d':=d') u hok hg hch
end
noncomputable abbrev XK:=Value → Option Addr → Hp → Prop
noncomputable abbrev St:=List (Option V)
noncomputable abbrev VK:=V → Hp → Prop
noncomputable abbrev TE:=St → Hp → VK → Prop
noncomputable abbrev TT:=St → Hp → (Bool → Hp → Prop) → Prop
noncomputable abbrev TA:=St → Hp → (List V → Hp → Prop) → Prop
structure Ends where
  nx:St → Hp → Prop
  rt:VK
  bk:St → Hp → Prop:=fun _ _ => False
  ct:St → Hp → Prop:=fun _ _ => False
noncomputable abbrev TS:=Ends → St → Hp → Prop
noncomputable def EP (X:Cx) (pins:List (Addr × Obj)) (σ:St) (Q:VK) (u:Value) (s':Shared):Prop:=∃ v H',Inv X pins σ H' s' ∧ RelV v u ∧ Q v H'
noncomputable def TP (X:Cx) (pins:List (Addr × Obj)) (σ:St) (Q:Bool → Hp → Prop) (b:Bool) (s':Shared):Prop:=∃ H',Inv X pins σ H' s' ∧ Q b H'
noncomputable def AP (X:Cx) (pins:List (Addr × Obj)) (σ:St) (Q:List V → Hp → Prop) (us:List Value) (s':Shared):Prop:=∃ vs H',Inv X pins σ H' s' ∧ Vals vs us ∧ Q vs H'
noncomputable def SP (X:Cx) (pins:List (Addr × Obj)) (D:Ends) (f:Flow) (s':Shared):Prop :=
  match f with
  | .next => ∃ σ' H',Inv X pins σ' H' s' ∧ D.nx σ' H'
  | .brk => ∃ σ' H',Inv X pins σ' H' s' ∧ D.bk σ' H'
  | .cont => ∃ σ' H',Inv X pins σ' H' s' ∧ D.ct σ' H'
  | .ret u => ∃ v σ' H',Inv X pins σ' H' s' ∧ RelV v u ∧ D.rt v H'
noncomputable def PE (X:Cx) (e:Expr) (t:TE):Prop :=
  ∀ (pins:List (Addr × Obj)) (s:Shared) (σ:St) (H:Hp) (Q:VK),Inv X pins σ H s → t σ H Q → wpAny (model X.prog X.w) X.A (eval e X.env) (EP X pins σ Q) X.xe s
noncomputable def PT (X:Cx) (e:Expr) (t:TT):Prop :=
  ∀ (pins:List (Addr × Obj)) (s:Shared) (σ:St) (H:Hp) (Q:Bool → Hp → Prop),Inv X pins σ H s → t σ H Q → wpAny (model X.prog X.w) X.A (isTrue e X.env (eval e X.env)) (TP X pins σ Q) X.xe s
noncomputable def PW (X:Cx) (e:Expr) (t:TT):Prop :=
  ∀ (whole:Sem Value) (pins:List (Addr × Obj)) (s:Shared) (σ:St) (H:Hp) (Q:Bool → Hp → Prop),Inv X pins σ H s → t σ H Q → wpAny (model X.prog X.w) X.A (isTrue e X.env whole) (TP X pins σ Q) X.xe s
theorem PW.pt {X:Cx} {e:Expr} {t:TT} (h:PW X e t):PT X e t:=h _
noncomputable def PA (X:Cx) (es:List Expr) (t:TA):Prop :=
  ∀ (pos:Pos) (pins:List (Addr × Obj)) (s:Shared) (σ:St) (H:Hp) (Q:List V → Hp → Prop),Inv X pins σ H s → t σ H Q → wpAny (model X.prog X.w) X.A (spliced (backTo pos (starEach es X.env))) (AP X pins σ Q) X.xe s
noncomputable def PS (X:Cx) (st:Stmt) (t:TS):Prop :=
  ∀ (pins:List (Addr × Obj)) (s:Shared) (σ:St) (H:Hp) (D:Ends),Inv X pins σ H s → t D σ H → wpAny (model X.prog X.w) X.A (exec st X.env) (SP X pins D) X.xe s
noncomputable def PSs (X:Cx) (st:List Stmt) (t:TS):Prop :=
  ∀ (pins:List (Addr × Obj)) (s:Shared) (σ:St) (H:Hp) (D:Ends),Inv X pins σ H s → t D σ H → wpAny (model X.prog X.w) X.A (execs st X.env) (SP X pins D) X.xe s
theorem thn {α:Type} {t:Sem α} {Q Q':α → Shared → Prop} {M:Model} {A:Around} {E:Value → Shared → Prop} {s:Shared} (h:wpAny M A t Q E s) (hQ:∀ a s,Q a s → Q' a s):wpAny M A t Q' E s:=wpAny_mono h hQ fun _ _ x => x
end L2
namespace L2
open PySem PySem.Spec PyProof.Rows
section
variable {X:Cx}
noncomputable def tVar (i:Nat):TE:=fun σ H Q => ∃ v,σ[i]? = some (some v) ∧ Q v H
noncomputable def tC (v:V):TE:=fun _ H Q => Q v H
theorem pe_var {i:Nat} {x:Str} {pos:Pos} (hN:X.N[i]? = some x) (hv:Vis X.env.scope x) (hd:(x == ("__debug__":Str)) = false:=by decide) (hcd:(x == ("__classdict__":Str)) = false:=by decide):PE X (.Name x pos) (tVar i):=by
  intro pins s σ H Q I h
  obtain ⟨v,e,h⟩:=h
  obtain ⟨m,hn,hl⟩:=I.loc
  obtain ⟨u,r,l⟩:=hl i x v hN e hv
  have fin:EP X pins σ Q u s:=⟨v,H,I,r,h⟩
  rcases l with ⟨hk,hm⟩ | ⟨hk,c,hc,hcell⟩
  · exact wpAny_Name (wpAny_loadName_local I.ok.kind hk hn hm fin) hd
  · rcases hk with hk | hk
    · exact wpAny_Name (wpAny_loadName_cell I.ok.kind hk hc hcell fin) hd
    · exact wpAny_Name (wpAny_loadName_free I.ok.kind hk hc hcell fin hcd) hd
theorem pe_int {i j pos}:PE X (.Constant (.int i) j pos) (tC (.int i)):=fun _ _ _ H _ I h => wpAny_Constant_int ⟨.int i,H,I.tok _,⟨_,rfl⟩,h⟩
theorem pe_bl {b j pos}:PE X (.Constant (.bool b) j pos) (tC (.bl b)):=fun _ _ _ H _ I h => Constant_bool ⟨.bl b,H,I,rfl,h⟩
theorem pe_non {j pos}:PE X (.Constant .none j pos) (tC .non):=fun _ _ _ H _ I h => Constant_none ⟨.non,H,I,rfl,h⟩
noncomputable def Gl (X:Cx) (x:Str):Prop:=X.env.kindOf x = some .globalImplicit
theorem ld_glob {E:Value → Shared → Prop} {pins:List (Addr × Obj)} {s:Shared} {σ:St} {H:Hp} {x:Str} {u:Value} {pos:Pos} {Q:Value → Shared → Prop} (I:Inv X pins σ H s) (hg:Gl X x) (hm:X.mg x = some u) (h:Q u s)
    (hd:(x == ("__debug__":Str)) = false:=by decide):wpAny (model X.prog X.w) X.A (eval (.Name x pos) X.env) Q E s :=
  Calls.Name_function_global I.ok.kind hg (Calls.loadGlobal_global (by rw [I.ok.glob]; exact I.mod.glob.keeps I.bk) hm h) hd
theorem ld_blt {E:Value → Shared → Prop} {pins:List (Addr × Obj)} {s:Shared} {σ:St} {H:Hp} {x:Str} {u:Value} {pos:Pos} {Q:Value → Shared → Prop} (I:Inv X pins σ H s) (hg:Gl X x) (hm:X.mg x = none) (hv:bootBuiltins x = some u) (h:Q u s)
    (hn:x ≠ "__name__":=by decide) (hd:(x == ("__debug__":Str)) = false:=by decide):wpAny (model X.prog X.w) X.A (eval (.Name x pos) X.env) Q E s:=by
  obtain ⟨mb,h1,h2⟩:=I.mod.blt
  exact Calls.Name_function_global I.ok.kind hg (Calls.loadGlobal_builtin (by rw [I.ok.glob]; exact I.mod.glob.keeps I.bk) hm (by rw [I.ok.blt]; exact h1.keeps I.bk) ((h2 x hn).trans hv) h) hd
theorem pe_glob {x:Str} {v:V} {u:Value} {pos:Pos} (hg:Gl X x) (hm:X.mg x = some u) (r:RelV v u) (hd:(x == ("__debug__":Str)) = false:=by decide):PE X (.Name x pos) (tC v) :=
  fun _ _ _ H _ I h => ld_glob I hg hm ⟨v,H,I,r,h⟩ hd
variable {a b:Expr} {ta tb:TE} {pos:Pos}
noncomputable def PC (X:Cx) (op:CmpOp) (a b:Expr) (t:TE):Prop :=
  ∀ (pins:List (Addr × Obj)) (s:Shared) (σ:St) (H:Hp) (Q:VK),Inv X pins σ H s → t σ H Q →
    wpAny (model X.prog X.w) X.A (eval a X.env) (fun v s₁ => wpAny (model X.prog X.w) X.A (eval b X.env) (fun u s₂ => wpAny (model X.prog X.w) X.A (compareOp op v u) (EP X pins σ Q) X.xe s₂) X.xe s₁) X.xe s
theorem nobehind (b:Expr) {op:CmpOp} (h:op ≠ .In) (h2:op ≠ .NotIn):behindInMarks op b = false:=by
  have e1:(op == CmpOp.In) = false:=by cases op <;> first | rfl | exact absurd rfl h
  have e2:(op == CmpOp.NotIn) = false:=by cases op <;> first | rfl | exact absurd rfl h2
  cases b <;> simp [behindInMarks,e1,e2]
noncomputable def tIsN (ta:TE):TE:=fun σ H Q => ta σ H fun x H1 => Q (.bl (decide (x = .non))) H1
noncomputable def tNotN (ta:TE):TE:=fun σ H Q => ta σ H fun x H1 => Q (.bl (!decide (x = .non))) H1
theorem RelV.none_iff {x:V} {v:Value} (r:RelV x v):(v == Value.none) = decide (x = .non):=by
  cases x with
  | non => cases r; rfl
  | bl _ => cases r; rfl
  | int _ => obtain ⟨t,rfl⟩:=r; rfl
  | str _ => obtain ⟨t,rfl⟩:=r; rfl
  | byt _ => obtain ⟨t,rfl⟩:=r; rfl
  | flt _ => obtain ⟨t,rfl⟩:=r; rfl
  | ref _ => cases r; rfl
  | ty _ => cases r; rfl
theorem pc_isN {j pos'} (ha:PE X a ta):PC X .Is a (.Constant .none j pos') (tIsN ta):=by
  intro pins s σ H Q I h
  refine thn (ha pins s σ H _ I h) fun v s1 ⟨x,H1,I1,r1,q1⟩ => ?_
  exact Constant_none (is_none_gen ⟨.bl _,H1,I1,by rw [r1.none_iff]; rfl,q1⟩)
theorem pc_notN {j pos'} (ha:PE X a ta):PC X .IsNot a (.Constant .none j pos') (tNotN ta):=by
  intro pins s σ H Q I h
  refine thn (ha pins s σ H _ I h) fun v s1 ⟨x,H1,I1,r1,q1⟩ => ?_
  exact Constant_none (isnot_none_gen ⟨.bl _,H1,I1,by rw [r1.none_iff]; rfl,q1⟩)
noncomputable def tB (t:TE):TT:=fun σ H Q => t σ H fun x H1 => ∃ c,x = .bl c ∧ Q c H1
theorem pt_cmp {op:CmpOp} {t:TE} (h:PC X op a b t) (h1:behindInMarks op b = false:=by first | exact nobehind _ (by decide) (by decide) | rfl):PT X (.Compare a [op] [b] pos) (tB t):=by
  intro pins s σ H Q I hw
  refine wpAny_isTrue_Compare1 (thn (h pins s σ H _ I hw) fun v s1 h1 => thn h1 fun u s2 h2 => thn h2 fun c s3 ⟨x,H1,I1,r1,q1⟩ => ?_) h1
  obtain ⟨d,rfl,q⟩:=q1
  cases r1
  exact wpAny_truthy_bool ⟨H1,I1,q⟩
theorem pt_val {e:Expr} {t:TE} (h:PE X e t) (he:∀ whole,isTrue e X.env whole = (do let v ← whole; standAt e.pos; holding [v] (truthy v)):=by intro _; rfl):PT X e (tB t):=by
  intro pins s σ H Q I hw
  refine isTrue_plain (thn (h pins s σ H _ I hw) fun v s1 ⟨x,H1,I1,r1,q1⟩ => ?_) (he _)
  obtain ⟨d,rfl,q⟩:=q1
  cases r1
  exact wpAny_truthy_bool ⟨H1,I1,q⟩
variable {tA tB':TT} {rest:List Expr}
noncomputable def tAnd (t u:TT):TT:=fun σ H Q => t σ H fun c H1 => if c = true then u σ H1 Q else Q false H1
noncomputable def tOr (t u:TT):TT:=fun σ H Q => t σ H fun c H1 => if c = true then Q true H1 else u σ H1 Q
noncomputable def tNot (t:TT):TT:=fun σ H Q => t σ H fun c H1 => Q (!c) H1
theorem pw_and1 (ha:PT X a tA):PW X (.BoolOp .And [a] pos) tA:=by
  intro wh pins s σ H Q I h
  refine isTrue_and (thn (ha pins s σ H Q I h) fun c s1 e => ?_)
  cases c with
  | true => exact isTrue_and_nil e
  | false => exact e
theorem pw_or1 (ha:PT X a tA):PW X (.BoolOp .Or [a] pos) tA:=by
  intro wh pins s σ H Q I h
  refine isTrue_or (thn (ha pins s σ H Q I h) fun c s1 e => ?_)
  cases c with
  | false => exact isTrue_or_nil e
  | true => exact e
theorem pw_and (ha:PT X a tA) (hb:PW X (.BoolOp .And (b :: rest) pos) tB'):PW X (.BoolOp .And (a :: b :: rest) pos) (tAnd tA tB'):=by
  intro wh pins s σ H Q I h
  refine isTrue_and (thn (ha pins s σ H _ I h) fun c s1 ⟨H1,I1,q1⟩ => ?_)
  cases c with
  | true => exact hb wh pins s1 σ H1 Q I1 q1
  | false => exact ⟨H1,I1,q1⟩
theorem pw_or (ha:PT X a tA) (hb:PW X (.BoolOp .Or (b :: rest) pos) tB'):PW X (.BoolOp .Or (a :: b :: rest) pos) (tOr tA tB'):=by
  intro wh pins s σ H Q I h
  refine isTrue_or (thn (ha pins s σ H _ I h) fun c s1 ⟨H1,I1,q1⟩ => ?_)
  cases c with
  | true => exact ⟨H1,I1,q1⟩
  | false => exact hb wh pins s1 σ H1 Q I1 q1
theorem pt_not (ha:PT X a tA):PT X (.UnaryOp .Not a pos) (tNot tA):=by
  intro pins s σ H Q I h
  exact isTrue_not (ha pins s σ H (fun c H1 => Q (!c) H1) I h)
noncomputable def tAndV (ta tb:TE):TE:=fun σ H Q => ta σ H fun x H1 => ∃ c,x = .bl c ∧ if c = true then tb σ H1 Q else Q (.bl false) H1
noncomputable def tOrV (ta tb:TE):TE:=fun σ H Q => ta σ H fun x H1 => ∃ c,x = .bl c ∧ if c = true then Q (.bl true) H1 else tb σ H1 Q
theorem pe_one {op} {t:TE} (h:PE X a t):PE X (.BoolOp op [a] pos) t:=fun pins s σ H Q I hw => BoolOp_one (h pins s σ H Q I hw)
theorem pe_and (ha:PE X a ta) (hb:PE X (.BoolOp .And (b :: rest) pos) tb):PE X (.BoolOp .And (a :: b :: rest) pos) (tAndV ta tb):=by
  intro pins s σ H Q I h
  refine BoolOp_and (thn (ha pins s σ H _ I h) fun v s1 ⟨x,H1,I1,r1,q1⟩ => ?_)
  obtain ⟨c,rfl,q1⟩:=q1
  cases r1
  refine wpAny_truthy_bool ?_
  cases c with
  | true => exact hb pins s1 σ H1 Q I1 q1
  | false => exact ⟨.bl false,H1,I1,rfl,q1⟩
theorem pe_or (ha:PE X a ta) (hb:PE X (.BoolOp .Or (b :: rest) pos) tb):PE X (.BoolOp .Or (a :: b :: rest) pos) (tOrV ta tb):=by
  intro pins s σ H Q I h
  refine BoolOp_or (thn (ha pins s σ H _ I h) fun v s1 ⟨x,H1,I1,r1,q1⟩ => ?_)
  obtain ⟨c,rfl,q1⟩:=q1
  cases r1
  refine wpAny_truthy_bool ?_
  cases c with
  | false => exact hb pins s1 σ H1 Q I1 q1
  | true => exact ⟨.bl true,H1,I1,rfl,q1⟩
noncomputable def tIf (t:TT) (ta tb:TE):TE:=fun σ H Q => t σ H fun c H1 => if c = true then ta σ H1 Q else tb σ H1 Q
theorem pe_ifExp {c:Expr} (hc:PT X c tA) (ha:PE X a ta) (hb:PE X b tb):PE X (.IfExp c a b pos) (tIf tA ta tb):=by
  intro pins s σ H Q I h
  refine wpAny_IfExp (thn (hc pins s σ H _ I h) fun d s1 ⟨H1,I1,q1⟩ => ?_)
  cases d with
  | true => exact ha pins s1 σ H1 Q I1 q1
  | false => exact hb pins s1 σ H1 Q I1 q1
end
end L2
namespace L2
open PySem PySem.Spec PyProof.Rows
noncomputable def SqL (K:PySem.W.Frag) (H:Hp) (a:Addr) (xs:List V):Prop :=
  Rd H a (.lst xs) ∨
    ∃ (o:Obj) (its:Array Value) (n:Nat),K.lookup a = some o ∧ o.cls = .type "list" ∧ o.dict = none ∧ o.data = .seq its n ∧ its.size ≤ sizeLine ∧ Vals xs its.toList
noncomputable def SqT (K:PySem.W.Frag) (H:Hp) (a:Addr) (xs:List V):Prop :=
  Rd H a (.tup xs) ∨
    ∃ (o:Obj) (its:Array Value) (n:Nat),K.lookup a = some o ∧ o.cls = .type "tuple" ∧ o.data = .seq its n ∧ its.size ≤ sizeLine ∧ Vals xs its.toList
noncomputable def absV:Value → Option V
  | .none => some .non
  | .bool b => some (.bl b)
  | .int i _ => some (.int i)
  | .str x _ => some (.str x)
  | .bytes b _ => some (.byt b)
  | .float b _ => some (.flt b)
  | .ref a => some (.ref a)
  | .type n => some (.ty n)
  | _ => none
theorem RelV.abs {x:V} {u:Value} (r:RelV x u):absV u = some x:=by
  cases x with
  | non => cases r; rfl
  | bl _ => cases r; rfl
  | int _ => obtain ⟨t,rfl⟩:=r; rfl
  | str _ => obtain ⟨t,rfl⟩:=r; rfl
  | byt _ => obtain ⟨t,rfl⟩:=r; rfl
  | flt _ => obtain ⟨t,rfl⟩:=r; rfl
  | ref _ => cases r; rfl
  | ty _ => cases r; rfl
theorem RelV.inj {x y:V} {u:Value} (r:RelV x u) (q:RelV y u):x = y:=Option.some.inj (r.abs.symm.trans q.abs)
theorem Vals.inj:∀ {xs ys:List V} {us:List Value},Vals xs us → Vals ys us → xs = ys
  | _,_,_,.nil,.nil => rfl
  | _,_,_,.cons r t,.cons r' t' => by rw [r.inj r',Vals.inj t t']
section
variable {X:Cx} {pins:List (Addr × Obj)} {σ:St} {H:Hp} {s:Shared} {a:Addr} {xs ys:List V}
theorem SqL.of {K:PySem.W.Frag} (h:H a = some (.lst xs)):SqL K H a xs:=.inl (.inl h)
theorem SqT.of {K:PySem.W.Frag} (h:H a = some (.tup xs)):SqT K H a xs:=.inl (.inl h)
theorem Inv.list (I:Inv X pins σ H s) (h:SqL X.K H a xs):∃ its:List Value,Vals xs its ∧ PlainL s.heap a its.toArray ∧ xs.length ≤ sizeLine:=by
  rcases h with h | ⟨o,its,n,hk,hc,hd,hs,hz,r⟩
  · obtain ⟨z,its,n,r,e⟩:=h.ok I.hok
    exact ⟨its,r,⟨_,n,e,rfl,rfl,rfl⟩,z⟩
  · refine ⟨its.toList,r,⟨o,n,I.kIn a o hk,hc,hd,by simpa using hs⟩,?_⟩
    have e:=r.length
    simp only [Array.length_toList] at e
    omega
theorem Inv.tuple (I:Inv X pins σ H s) (h:SqT X.K H a xs):∃ its:List Value,Vals xs its ∧ IsTup s.heap a its.toArray ∧ xs.length ≤ sizeLine:=by
  rcases h with h | ⟨o,its,n,hk,hc,hs,hz,r⟩
  · obtain ⟨z,its,r,p⟩:=h.ok I.hok
    exact ⟨its,r,p,z⟩
  · refine ⟨its.toList,r,⟨o,I.kIn a o hk,hc,n,by simpa using hs⟩,?_⟩
    have e:=r.length
    simp only [Array.length_toList] at e
    omega
theorem Inv.list_inj (I:Inv X pins σ H s) (h:SqL X.K H a xs) (h':SqL X.K H a ys):xs = ys:=by
  obtain ⟨its,r,⟨o,n,e,_,_,d⟩,_⟩:=I.list h
  obtain ⟨its',r',⟨o',n',e',_,_,d'⟩,_⟩:=I.list h'
  rw [e] at e'; cases e'
  rw [d] at d'
  injection d' with d1 _
  have:its = its':=by simpa using congrArg Array.toList d1
  subst this
  exact r.inj r'
end
noncomputable abbrev Cx.wish (X:Cx) (E:Value → Shared → Prop):Cx:={ X with xe:=E }
noncomputable abbrev Cx.nox (X:Cx):Cx:=X.wish fun _ _ => False
theorem Cx.Ok.wish {X:Cx} (ok:X.Ok) (E:Value → Shared → Prop):(X.wish E).Ok :=
  ⟨ok.mod,ok.kind,ok.glob,ok.blt,ok.above,ok.inj,ok.has,ok.cab,ok.hd,ok.frames,ok.stk,ok.exf,ok.bs,ok.bsz,ok.noex,ok.exfs,ok.funs,ok.frf⟩
theorem Cx.Ok.unwish {X:Cx} {E:Value → Shared → Prop} (ok:(X.wish E).Ok):X.Ok :=
  ⟨ok.mod,ok.kind,ok.glob,ok.blt,ok.above,ok.inj,ok.has,ok.cab,ok.hd,ok.frames,ok.stk,ok.exf,ok.bs,ok.bsz,ok.noex,ok.exfs,ok.funs,ok.frf⟩
section
variable {X:Cx} {pins:List (Addr × Obj)} {σ:St} {H:Hp} {s:Shared} {E:Value → Shared → Prop}
theorem Inv.wish (I:Inv X pins σ H s) (E:Value → Shared → Prop):Inv (X.wish E) pins σ H s:=⟨I.ok.wish E,I.os,I.bare,I.base,I.loc,I.cell,I.free,I.freeC,I.pin,I.hok,I.len⟩
theorem Inv.unwish (I:Inv (X.wish E) pins σ H s):Inv X pins σ H s:=⟨I.ok.unwish,I.os,I.bare,I.base,I.loc,I.cell,I.free,I.freeC,I.pin,I.hok,I.len⟩
theorem SP.unwish {D:Ends} {f:Flow} {s':Shared} (h:SP (X.wish E) pins D f s'):SP X pins D f s':=by
  cases f with
  | next => obtain ⟨σ',H',I,q⟩:=h; exact ⟨σ',H',I.unwish,q⟩
  | brk => obtain ⟨σ',H',I,q⟩:=h; exact ⟨σ',H',I.unwish,q⟩
  | cont => obtain ⟨σ',H',I,q⟩:=h; exact ⟨σ',H',I.unwish,q⟩
  | ret u => obtain ⟨v,σ',H',I,r,q⟩:=h; exact ⟨v,σ',H',I.unwish,r,q⟩
theorem PSs.nox {st:List Stmt} {t:TS} (h:PSs X.nox st t):PSs X st t:=fun pins s σ H D I hw =>
  wpAny_mono (h pins s σ H D (I.wish _) hw) (fun _ _ q => q.unwish) fun _ _ z => False.elim z
end
section
variable {X:Cx} {st:Stmt} {rest:List Stmt} {t u:TS} {e:Expr} {te:TE} {pos:Pos}
noncomputable def tNext:TS:=fun D σ H => D.nx σ H
noncomputable def tSeq (t u:TS):TS:=fun D σ H => t { D with nx:=u D } σ H
theorem pss_nil:PSs X [] tNext:=fun _ _ σ H _ I h => wpAny_execs_nil ⟨σ,H,I,h⟩
theorem pss_cons (h1:PS X st t) (h2:PSs X rest u):PSs X (st :: rest) (tSeq t u):=by
  intro pins s σ H D I h
  refine wpAny_execs_cons (thn (h1 pins s σ H { D with nx:=u D } I h) fun f s1 q => ?_)
  cases f with
  | next =>
    obtain ⟨σ',H',I',q⟩:=q
    exact h2 pins s1 σ' H' D I' q
  | ret v => exact q
  | brk => exact q
  | cont => exact q
theorem pss_one (h1:PS X st t):PSs X [st] t:=by
  intro pins s σ H D I h
  refine wpAny_execs_cons (thn (h1 pins s σ H D I h) fun f s1 q => ?_)
  cases f with
  | next => exact wpAny_execs_nil q
  | ret v => exact q
  | brk => exact q
  | cont => exact q
theorem Inv.quiet {pins:List (Addr × Obj)} {σ:St} {H:Hp} {s:Shared} (I:Inv X pins σ H s):interactive X.env = false:=by simp [interactive,I.ok.kind]
noncomputable def tDrop (te:TE):TS:=fun D σ H => te σ H fun _ H1 => D.nx σ H1
theorem ps_expr (he:PE X e te) (hs:swapsWith e none pos.line X.env = pure false:=by rfl):PS X (.Expr e pos) (tDrop te):=by
  intro pins s σ H D I h
  exact wpAny_Expr_any (thn (he pins s σ H _ I h) fun v s1 ⟨x,H1,I1,r1,q1⟩ => ⟨σ,H1,I1,q1⟩) I.quiet hs
noncomputable def tRet (te:TE):TS:=fun D σ H => te σ H D.rt
theorem ps_ret (he:PE X e te):PS X (.Return (some e) pos) (tRet te):=by
  intro pins s σ H D I h
  exact wpAny_Return_some (thn (he pins s σ H _ I h) fun v s1 ⟨x,H1,I1,r1,q1⟩ => ⟨x,σ,H1,I1,r1,q1⟩)
noncomputable def tIfS (c:TT) (t u:TS):TS:=fun D σ H => c σ H fun b H1 => if b = true then t D σ H1 else u D σ H1
theorem ps_if {c:Expr} {a b:List Stmt} {tc:TT} (hc:PT X c tc) (ha:PSs X a t) (hb:PSs X b u):PS X (.If c a b pos) (tIfS tc t u):=by
  intro pins s σ H D I h
  refine wpAny_If (thn (hc pins s σ H _ I h) fun d s1 ⟨H1,I1,q1⟩ => ?_)
  cases d with
  | true => exact ha pins s1 σ H1 D I1 q1
  | false => exact hb pins s1 σ H1 D I1 q1
end
noncomputable abbrev TG:=V → St → Hp → (St → Hp → Prop) → Prop
noncomputable abbrev TGs:=List V → St → Hp → (St → Hp → Prop) → Prop
noncomputable def PG (X:Cx) (target:Expr) (t:TG):Prop :=
  ∀ (pins:List (Addr × Obj)) (s:Shared) (σ:St) (H:Hp) (v:V) (u:Value) (Q:St → Hp → Prop),Inv X pins σ H s → RelV v u → t v σ H Q →
    wpAny (model X.prog X.w) X.A (assign target X.env u) (fun _ s' => ∃ σ' H',Inv X pins σ' H' s' ∧ Q σ' H') X.xe s
noncomputable def PGs (X:Cx) (ts:List Expr) (t:TGs):Prop :=
  ∀ (pins:List (Addr × Obj)) (s:Shared) (σ:St) (H:Hp) (vs:List V) (us:List Value) (Q:St → Hp → Prop),Inv X pins σ H s → Vals vs us → t vs σ H Q →
    wpAny (model X.prog X.w) X.A (assignInOrder ((assignEach ts X.env).map (·.2)) us) (fun _ s' => ∃ σ' H',Inv X pins σ' H' s' ∧ Q σ' H') X.xe s
noncomputable abbrev TSet:=V → V → V → Hp → (Hp → Prop) → Prop
noncomputable def PSet (X:Cx) (t:TSet):Prop :=
  ∀ (pins:List (Addr × Obj)) (s:Shared) (σ:St) (H:Hp) (o i v:V) (ov iv u:Value) (Q:Hp → Prop),Inv X pins σ H s → RelV o ov → RelV i iv → RelV v u → t o i v H Q →
    wpAny (model X.prog X.w) X.A (setItem ov iv u) (fun _ s' => ∃ H',Inv X pins σ H' s' ∧ Q H') X.xe s
noncomputable abbrev TIp:=V → V → Hp → VK → Prop
noncomputable def PIp (X:Cx) (op:Operator) (t:TIp):Prop :=
  ∀ (pins:List (Addr × Obj)) (s:Shared) (σ:St) (H:Hp) (x y:V) (v u:Value) (Q:VK),Inv X pins σ H s → RelV x v → RelV y u → t x y H Q →
    wpAny (model X.prog X.w) X.A (inplaceOp op v u) (EP X pins σ Q) X.xe s
section
variable {X:Cx} {pos:Pos}
noncomputable def gName (i:Nat):TG:=fun v σ H Q => Q (σ.set i (some v)) H
theorem pg_name {i:Nat} {x:Str} (hN:X.N.Nodup) (hi:X.N[i]? = some x) (hx:Loc X.env.scope x) (hf:X.fn x = true ∨ X.env.scope.names.lookup x = some .local:=by first | exact .inl rfl | exact .inr rfl | assumption):PG X (.Name x pos) (gName i):=by
  intro pins s σ H v u Q I r h
  exact wpAny_assign_Name (store_ok I hN hi hx r (fun s' I' => ⟨_,H,I',h⟩) hf)
noncomputable def gNil:TGs:=fun vs σ H Q => vs = [] ∧ Q σ H
noncomputable def gCons (t:TG) (u:TGs):TGs:=fun vs σ H Q => ∃ v r,vs = v :: r ∧ t v σ H fun σ' H' => u r σ' H' Q
theorem pgs_nil:PGs X [] gNil:=by
  intro pins s σ H vs us Q I r h
  obtain ⟨e,h⟩:=h
  subst e
  cases r
  exact assignInOrder_nil ⟨σ,H,I,h⟩
theorem pgs_cons {e:Expr} {es:List Expr} {t:TG} {u:TGs} (h1:PG X e t) (h2:PGs X es u)
    (hs:(assignEach (e :: es) X.env).map (·.2) = assign e X.env :: (assignEach es X.env).map (·.2):=by rfl):PGs X (e :: es) (gCons t u):=by
  intro pins s σ H vs us Q I r h
  obtain ⟨v,vr,e1,h⟩:=h
  subst e1
  cases r with
  | cons r rr =>
    rw [hs]
    refine assignInOrder_cons (thn (h1 pins s σ H _ _ _ I r h) fun _ s1 ⟨σ1,H1,I1,q1⟩ => ?_)
    exact h2 pins s1 σ1 H1 _ _ Q I1 rr q1
noncomputable def gTup (K:PySem.W.Frag) (n:Nat) (t:TGs):TG:=fun v σ H Q => ∃ a xs,v = .ref a ∧ SqT K H a xs ∧ xs.length = n ∧ t xs σ H Q
theorem pg_tup {es:List Expr} {k:Nat} {t:TGs} {n:Nat} (hc:X.calm = true) (h:PGs X es t)
    (hn:(assignEach es X.env).length = n:=by rfl) (hst:(assignEach es X.env).findIdx? (·.1) = none:=by rfl):PG X (.Tuple es k pos) (gTup X.K n t):=by
  intro pins s σ H v u Q I r hw
  obtain ⟨a,xs,e1,hq,hl,hw⟩:=hw
  subst e1
  cases r
  obtain ⟨its,rv,ht,hz⟩:=I.tuple hq
  refine assign_Tuple_tuple (I.ok.hd hc) ht (by simp [hn,← hl,rv.length]) hst fun h' hx => ?_
  have I1:Inv X pins σ H { s with heap:=h' }:=I.kept (t':=s.toks) fun b o e => hx b o (Nat.ne_of_lt (Heap.lt_size e)) e
  exact h pins _ σ H xs _ Q I1 (by simpa using rv) hw
noncomputable def gSub (to ti:TE) (t:TSet):TG:=fun v σ H Q => to σ H fun o H1 => ti σ H1 fun i H2 => t o i v H2 fun H3 => Q σ H3
theorem pg_sub {o i:Expr} {to ti:TE} {t:TSet} (ho:PE X o to) (hi:PE X i ti) (hs:PSet X t)
    (ha:∀ v,assign (.Subscript o i pos) X.env v = (do
      let ov ← holding [v] (eval o X.env)
      let iv ← holding [v,ov] (eval i X.env)
      standAt pos
      holding [v,ov,iv] (setItem ov iv v)
      release [v,ov,iv] []):=by intro _; rfl):PG X (.Subscript o i pos) (gSub to ti t):=by
  intro pins s σ H v u Q I r h
  rw [ha]
  refine wpAny_bind (wpAny_holding (thn (ho pins s σ H _ I h) fun ov s1 ⟨x,H1,I1,r1,q1⟩ => ?_))
  refine wpAny_bind (wpAny_holding (thn (hi pins s1 σ H1 _ I1 q1) fun iv s2 ⟨y,H2,I2,r2,q2⟩ => ?_))
  refine wpAny_bind (wpAny_standAt (wpAny_bind (wpAny_holding (thn (hs pins s2 σ H2 x y v ov iv u _ I2 r1 r2 r q2) fun _ s3 ⟨H3,I3,q3⟩ => ?_))))
  exact wpAny_release ⟨σ,H3,I3,q3⟩
noncomputable def tAsg (te:TE) (g:TG):TS:=fun D σ H => te σ H fun x H1 => g x σ H1 D.nx
theorem ps_asg {tg e:Expr} {te:TE} {g:TG} (he:PE X e te) (hg:PG X tg g) (hs:swapsWithSole [tg] e pos.line X.env = pure false:=by rfl) (hw:swappedStores [tg] e X.env = pure none:=by rfl)
    (h1:(assignEach [tg] X.env).map (·.2) = [assign tg X.env]:=by rfl):PS X (.Assign [tg] e pos) (tAsg te g):=by
  intro pins s σ H D I h
  refine wpAny_Assign_stores (thn (he pins s σ H _ I h) fun v s1 ⟨x,H1,I1,r1,q1⟩ => ?_) hs hw
  rw [h1]
  exact thn (hg pins s1 σ H1 x v _ I1 r1 q1) fun _ s2 q => q
theorem ps_set {i:Nat} {x:Str} {e:Expr} {te:TE} {pos':Pos} (hN:X.N.Nodup) (hi:X.N[i]? = some x) (hx:Loc X.env.scope x) (he:PE X e te) (hs:swapsWith e (some (.Name x pos')) pos.line X.env = pure false:=by rfl) (hf:X.fn x = true ∨ X.env.scope.names.lookup x = some .local:=by first | exact .inl rfl | exact .inr rfl | assumption) :
    PS X (.Assign [.Name x pos'] e pos) (tAsg te (gName i)):=by
  intro pins s σ H D I h
  refine wpAny_Assign_Name (thn (he pins s σ H _ I h) fun v s1 ⟨y,H1,I1,r1,q1⟩ => ?_) hs
  exact store_ok I1 hN hi hx r1 (fun s2 I2 => ⟨_,H1,I2,q1⟩) hf
noncomputable def tAug (i:Nat) (te:TE) (ti:TIp):TS:=fun D σ H => ∃ x,σ[i]? = some (some x) ∧ te σ H fun y H1 => ti x y H1 fun z H2 => D.nx (σ.set i (some z)) H2
theorem ps_aug {i:Nat} {x:Str} {e:Expr} {te:TE} {op:Operator} {ti:TIp} {pos':Pos} (hN:X.N.Nodup) (hi:X.N[i]? = some x) (hx:Loc X.env.scope x) (he:PE X e te) (ho:PIp X op ti) (hf:X.fn x = true ∨ X.env.scope.names.lookup x = some .local:=by first | exact .inl rfl | exact .inr rfl | assumption) :
    PS X (.AugAssign (.Name x pos') op e pos) (tAug i te ti):=by
  intro pins s σ H D I h
  obtain ⟨v,e1,h⟩:=h
  obtain ⟨m,hn,hl⟩:=I.loc
  have vis:Vis X.env.scope x:=by rcases hx with k | k; exact .inl k; exact .inr (.inl k)
  obtain ⟨u,r,l⟩:=hl i x v hi e1 vis
  refine wpAny_AugAssign_Name ?_
  have go:wpAny (model X.prog X.w) X.A (eval e X.env) (fun w s₂ => wpAny (model X.prog X.w) X.A (inplaceOp op u w) (fun r s₃ => wpAny (model X.prog X.w) X.A (storeName X.env x r) (fun _ => SP X pins D .next) X.xe s₃) X.xe s₂) X.xe s:=by
    refine thn (he pins s σ H _ I h) fun w s1 ⟨y,H1,I1,r1,q1⟩ => ?_
    refine thn (ho pins s1 σ H1 v y u w _ I1 r r1 q1) fun z s2 ⟨zv,H2,I2,r2,q2⟩ => ?_
    exact store_ok I2 hN hi hx r2 (fun s3 I3 => ⟨_,H2,I3,q2⟩) hf
  rcases l with ⟨hk,hm⟩ | ⟨hk,c,hc,hcell⟩
  · exact wpAny_loadName_local I.ok.kind hk hn hm go
  · rcases hk with hk | hk
    · exact wpAny_loadName_cell I.ok.kind hk hc hcell go
    · rcases hx with k | k
      · have:X.env.scope.names.lookup x = some .free:=hk
        rw [k] at this; cases this
      · have:X.env.scope.names.lookup x = some .free:=hk
        rw [k] at this; cases this
noncomputable def tAugS (to ti te:TE) (tget:V → V → Hp → VK → Prop) (tip:TIp) (tset:TSet):TS:=fun D σ H => to σ H fun o H1 => ti σ H1 fun i H2 => tget o i H2 fun x H3 => te σ H3 fun y H4 => tip x y H4 fun z H5 => tset o i z H5 fun H6 => D.nx σ H6
noncomputable def PGet (X:Cx) (t:V → V → Hp → VK → Prop):Prop :=
  ∀ (pins:List (Addr × Obj)) (s:Shared) (σ:St) (H:Hp) (o i:V) (ov iv:Value) (Q:VK),Inv X pins σ H s → RelV o ov → RelV i iv → t o i H Q →
    wpAny (model X.prog X.w) X.A (getItem ov iv) (EP X pins σ Q) X.xe s
theorem ps_augS {o i e:Expr} {to ti te:TE} {tget:V → V → Hp → VK → Prop} {tip:TIp} {tset:TSet} {op:Operator} {tpos:Pos} (ho:PE X o to) (hi:PE X i ti) (hg:PGet X tget) (he:PE X e te) (hp:PIp X op tip) (hs:PSet X tset)
    (ha:∀ ov iv new,augStore i ov iv new = (do holding [new,ov,iv] (setItem ov iv new); release [new,ov,iv] []; pure .next):=by intros; rfl):PS X (.AugAssign (.Subscript o i tpos) op e pos) (tAugS to ti te tget tip tset):=by
  intro pins s σ H D I h
  refine wpAny_AugAssign_SubscriptAny (thn (ho pins s σ H _ I h) fun ov s1 ⟨x1,H1,I1,r1,q1⟩ => ?_) ha
  refine thn (hi pins s1 σ H1 _ I1 q1) fun iv s2 ⟨x2,H2,I2,r2,q2⟩ => ?_
  refine thn (hg pins s2 σ H2 x1 x2 ov iv _ I2 r1 r2 q2) fun old s3 ⟨x3,H3,I3,r3,q3⟩ => ?_
  refine thn (he pins s3 σ H3 _ I3 q3) fun v s4 ⟨x4,H4,I4,r4,q4⟩ => ?_
  refine thn (hp pins s4 σ H4 x3 x4 old v _ I4 r3 r4 q4) fun new s5 ⟨x5,H5,I5,r5,q5⟩ => ?_
  exact thn (hs pins s5 σ H5 x1 x2 x5 ov iv new _ I5 r1 r2 r5 q5) fun _ s6 ⟨H6,I6,q6⟩ => ⟨σ,H6,I6,q6⟩
noncomputable def ipI (f:Int → Int → Int):TIp:=fun x y H Q => ∃ i j,x = .int i ∧ y = .int j ∧ Q (.int (f i j)) H
theorem ip_add:PIp X .Add (ipI fun i j => i + j):=by
  intro pins s σ H x y v u Q I r1 r2 h
  obtain ⟨i,j,e1,e2,q⟩:=h
  subst e1; subst e2
  obtain ⟨t,rfl⟩:=r1
  obtain ⟨t',rfl⟩:=r2
  exact iadd_int ⟨.int _,H,I.tok _,⟨_,rfl⟩,q⟩
end
section
variable {X:Cx} {pos:Pos}
noncomputable def tWhile (c:TT) (tb:TS):TS:=fun D σ H => ∃ W:Nat → St → Hp → Prop,(∃ m,W m σ H) ∧ ∀ m σ H,W m σ H →
  c σ H fun b H1 => if b = true then ∃ N:St → Hp → Prop,(∀ σ' H',N σ' H' → ∃ m',m' < m ∧ W m' σ' H') ∧ tb { D with nx:=N,ct:=N,bk:=D.nx } σ H1 else D.nx σ H1
theorem ps_while {c:Expr} {body:List Stmt} {tc:TT} {tb:TS} (hp:PassesOwn (model X.prog X.w) X.A X.env X.xe) (hc:PT X c tc) (hb:PSs X body tb):PS X (.While c body [] pos) (tWhile tc tb):=by
  intro pins s σ H D I h
  obtain ⟨W,⟨m0,w0⟩,turn⟩:=h
  refine wpAny_While (codeAny_whileLoop (fun n s' => ∃ σ' H',Inv X pins σ' H' s' ∧ W n σ' H') ?_ m0 ⟨σ,H,I,w0⟩)
  rintro n s1 ⟨σ1,H1,I1,w1⟩
  refine wpAny_passesOwn hp (thn (hc pins s1 σ1 H1 _ I1 (turn n σ1 H1 w1)) fun b s2 ⟨H2,I2,q2⟩ => ?_)
  cases b with
  | true =>
    obtain ⟨N,hN,q2⟩:=q2
    rw [if_pos rfl]
    refine wpAny_passesOwn hp (thn (hb pins s2 σ1 H2 _ I2 q2) fun f s3 q3 => ?_)
    cases f with
    | next =>
      obtain ⟨σ3,H3,I3,n3⟩:=q3
      obtain ⟨m',hm,w3⟩:=hN σ3 H3 n3
      exact ⟨m',hm,σ3,H3,I3,w3⟩
    | cont =>
      obtain ⟨σ3,H3,I3,n3⟩:=q3
      obtain ⟨m',hm,w3⟩:=hN σ3 H3 n3
      exact ⟨m',hm,σ3,H3,I3,w3⟩
    | brk => exact q3
    | ret v => exact q3
  | false =>
    rw [if_neg Bool.false_ne_true]
    exact wpAny_execs_nil ⟨σ1,H2,I2,q2⟩
end
structure It where
  go:Nat → Hp → Prop
  yld:Nat → Hp → V → Hp → Prop
  stop:Nat → Hp → Prop
noncomputable def FpOk (X:Cx) (pins:List (Addr × Obj)) (H:Hp) (b:Addr):Prop :=
  H b = none ∧ b ≠ X.env.locals ∧ b ∉ X.fs ∧ (b ∈ X.ex ∨ X.s_0.heap.objs.size ≤ b) ∧ (∀ x c,X.env.cells.lookup x = some c → c ≠ b) ∧ ∀ p ∈ X.pn ++ pins,p.1 ≠ b
theorem Inv.fpOk {X:Cx} {pins:List (Addr × Obj)} {σ:St} {H H':Hp} {s:Shared} {b:Addr} (I:Inv X pins σ H s) (hb:s.heap.objs.size ≤ b) (hn:H' b = none):FpOk X pins H' b:=by
  refine ⟨hn,Nat.ne_of_gt (Nat.lt_of_lt_of_le I.lt hb),I.nofs hb,.inr (Nat.le_trans I.sz hb),fun x c e z => ?_,fun p hp z => ?_⟩
  · obtain ⟨v,q⟩:=I.cell x c e
    exact absurd (Nat.lt_of_lt_of_le q.lt (by rw [z]; exact hb)) (Nat.lt_irrefl _)
  · exact absurd (Nat.lt_of_lt_of_le (Heap.lt_size (I.pin p hp).1) (by rw [z]; exact hb)) (Nat.lt_irrefl _)
structure Turn (P:Program) (w:World) (K:PySem.W.Frag) (tg:Expr) (J:It) (fp:List Addr) (it:Addr) (tn:Nat → Heap → Prop):Prop where
  mem:it ∈ fp
  obj:∀ i h,tn i h → ∀ b ∈ fp,∃ o,h.get? b = some o ∧ ∀ v,o.data ≠ .cell v
  keep:∀ i h h',tn i h → (∀ b ∈ fp,∀ o,h.get? b = some o → h'.get? b = some o) → tn i h'
  item:∀ (X:Cx),X.prog = P → X.w = w → X.K = K → X.calm = true → ∀ (i:Nat) (pins:List (Addr × Obj)) (s:Shared) (σ:St) (H:Hp) (E:Value → Shared → Prop),Inv X pins σ H s → (∀ b ∈ fp,FpOk X pins H b) → tn i s.heap → J.go i H →
    wpAny (model P w) X.A (pyNext (.ref it)) (fun r s1 => ∃ u,r = some u ∧
      wpAny (model P w) X.A (letOwnedTupleGo tg (.ref it) u) (fun _ s2 => ∃ x H',Inv X pins σ H' s2 ∧ RelV x u ∧ J.yld i H x H' ∧ tn (i + 1) s2.heap ∧ ∀ b ∈ fp,H' b = none) E s1) E s
  done:∀ (X:Cx),X.prog = P → X.w = w → X.K = K → X.calm = true → ∀ (i:Nat) (pins:List (Addr × Obj)) (s:Shared) (σ:St) (H:Hp) (E:Value → Shared → Prop),Inv X pins σ H s → (∀ b ∈ fp,FpOk X pins H b) → tn i s.heap → J.stop i H →
    wpAny (model P w) X.A (pyNext (.ref it)) (fun r s1 => r = none ∧ Inv X pins σ H s1) E s
  self:∀ (A:Around) (i:Nat) (s:Shared) (Q:Value → Shared → Prop) (E:Value → Shared → Prop),tn i s.heap → Q (.ref it) s → wpAny (model P w) A (pyIter (.ref it)) Q E s
noncomputable abbrev TI:=St → Hp → (It → Hp → Prop) → Prop
noncomputable def PIE (X:Cx) (pins:List (Addr × Obj)) (σ:St) (tg:Expr) (R:It → Hp → Prop) (itv:Value) (s2:Shared):Prop :=
  ∃ (it:Addr) (fp:List Addr) (tn:Nat → Heap → Prop) (J:It) (H':Hp),itv = .ref it ∧ Inv X pins σ H' s2 ∧ Turn X.prog X.w X.K tg J fp it tn ∧ tn 0 s2.heap ∧ (∀ b ∈ fp,FpOk X pins H' b) ∧ R J H'
noncomputable def PI (X:Cx) (tg iter:Expr) (wi:TI):Prop :=
  ∀ (pins:List (Addr × Obj)) (s:Shared) (σ:St) (H:Hp) (R:It → Hp → Prop),Inv X pins σ H s → wi σ H R →
    wpAny (model X.prog X.w) X.A (eval iter X.env) (fun v s1 => wpAny (model X.prog X.w) X.A (pyIter v) (PIE X pins σ tg R) X.xe s1) X.xe s
theorem go_of {M:Model} {A:Around} {E:Value → Shared → Prop} {s:Shared} {tg:Expr} {it:Addr} {u:Value} {o:Obj} {n:String} {vs:Array Value} {Q:Unit → Shared → Prop} (ho:s.heap.get? it = some o) (hc:o.cls = .type n) (hd:o.data = .fields vs)
    (hn:["enumerate","zip","dict_itemiterator","dict_reverseitemiterator","odict_iterator","itertools.zip_longest","itertools.pairwise"].contains n = false) (hQ:Q () s):wpAny M A (letOwnedTupleGo tg (.ref it) u) Q E s:=by
  unfold letOwnedTupleGo
  cases tg <;> first
    | exact wpAny_pure hQ
    | (cases u <;> first
        | exact wpAny_pure hQ
        | (refine wpAny_bind (wpAny_load ho ?_)
           rw [hc,hd]
           show wpAny M A (if (["enumerate","zip","dict_itemiterator","dict_reverseitemiterator","odict_iterator","itertools.zip_longest","itertools.pairwise"].contains n && vs[0]? == some (rawInt _)) = true then _ else _) Q E s
           rw [if_neg (by intro h; rw [hn,Bool.false_and] at h; cases h)]
           exact wpAny_pure hQ))
noncomputable def Itl (K:PySem.W.Frag) (a:Addr):It :=
  ⟨fun i H => ∃ xs x,SqL K H a xs ∧ xs[i]? = some x,fun i H x H' => H' = H ∧ ∀ xs,SqL K H a xs → xs[i]? = some x,fun i H => ∃ xs,SqL K H a xs ∧ xs.length ≤ i⟩
noncomputable def Itr (lo:Int) (n:Nat):It:=⟨fun i _ => i < n,fun i H x H' => H' = H ∧ x = .int (lo + i),fun i _ => n ≤ i⟩
theorem turn_list {P:Program} {w:World} {K:PySem.W.Frag} {tg:Expr} (a it:Addr):Turn P w K tg (Itl K a) [it] it (fun i h => h.IsListIter it a i) where
  mem:=by simp
  obj:=fun i h st b hb => by
    have e:b = it:=by simpa using hb
    subst e
    obtain ⟨o,e,c,d⟩:=st
    exact ⟨o,e,fun v z => by rw [d] at z; cases z⟩
  keep:=fun i h h' st k => st.at fun o e => k it (by simp) o e
  item:=by
    intro X hP hw hK hc i pins s σ H E I hf st hg
    subst hP hw hK
    obtain ⟨xs,x,hq,hx⟩:=hg
    obtain ⟨its,rv,p,hz⟩:=I.list hq
    obtain ⟨u,hu,ru⟩:=rv.get hx
    obtain ⟨f0,f1,f2,f3,f4,f5⟩:=hf it (by simp)
    refine wpAny_pyNext_list_item st p.isList (x:=u) (by simpa using hu) fun h' st' sb => ?_
    have I1:Inv X pins σ H { s with heap:=h' }:=I.turned (t':=s.toks) (fun b o hb e => (sb.2 b hb).trans e) f0 f1 f3 f4 f5
    obtain ⟨o,e,c,d⟩:=id st'
    exact ⟨u,rfl,go_of (s:={ s with heap:=h' }) e c d (by decide) ⟨x,H,I1,ru,⟨rfl,fun ys hy => by rw [I.list_inj hy hq]; exact hx⟩,st',fun b hb => (hf b hb).1⟩⟩
  done:=by
    intro X hP hw hK hc i pins s σ H E I hf st hg
    subst hP hw hK
    obtain ⟨xs,hq,hx⟩:=hg
    obtain ⟨its,rv,p,hz⟩:=I.list hq
    obtain ⟨f0,f1,f2,f3,f4,f5⟩:=hf it (by simp)
    have hl:=rv.length
    exact wpAny_pyNext_list_end (I.ok.hd hc) st p.isList (by simp; omega) fun h' eb => ⟨rfl,I.turned (t':=s.toks) (fun b o hb e => eb b o hb e) f0 f1 f3 f4 f5⟩
  self:=fun _ _ _ _ _ st h => wpAny_pyIter_listiter st h
theorem turn_range {P:Program} {w:World} {K:PySem.W.Frag} {tg:Expr} (it:Addr) (lo:Int) (n:Nat):Turn P w K tg (Itr lo n) [it] it (fun i h => IsRangeIter h it (lo + (i:Nat) * 1) ((n:Int) - (i:Nat)) 1) where
  mem:=by simp
  obj:=fun i h st b hb => by
    have e:b = it:=by simpa using hb
    subst e
    exact ⟨_,st,fun v z => by
      have z':Data.fields _ = Data.cell v:=z
      cases z'⟩
  keep:=fun i h h' st k => k it (by simp) _ st
  item:=by
    intro X hP hw hK hc i pins s σ H E I hf st hg
    subst hP hw hK
    obtain ⟨f0,f1,f2,f3,f4,f5⟩:=hf it (by simp)
    have W:=Walks.range (prog:=X.prog) (w:=X.w) (I.ok.hd hc) it lo 1 n
    refine W.item i s _ _ hg st fun v h' tk hv st' kk => ?_
    obtain ⟨t,rfl⟩:=hv
    have I1:Inv X pins σ H { s with heap:=h',toks:=tk }:=I.turned (fun b o hb e => kk b o (by simpa using hb) e) f0 f1 f3 f4 f5
    refine ⟨_,rfl,go_of (s:={ s with heap:=h',toks:=tk }) (n:="range_iterator") st' rfl rfl (by decide) ⟨.int (lo + i),H,I1,⟨t,?_⟩,⟨rfl,rfl⟩,st',fun b hb => (hf b hb).1⟩⟩
    rw [Int.mul_one]
  done:=by
    intro X hP hw hK hc i pins s σ H E I hf st hg
    subst hP hw hK
    obtain ⟨f0,f1,f2,f3,f4,f5⟩:=hf it (by simp)
    exact wpAny_pyNext_range_end (I.ok.hd hc) st (by have:n ≤ i:=hg; omega) fun h' eb => ⟨rfl,I.turned (t':=s.toks) (fun b o hb e => eb b o hb e) f0 f1 f3 f4 f5⟩
  self:=fun _ _ _ _ _ st h => wpAny_pyIter_rangeiter st h
end L2
namespace L2
open PySem PySem.Spec PyProof.Rows
section
variable {X:Cx} {tg:Expr}
noncomputable def iList (K:PySem.W.Frag) (tl:TE):TI:=fun σ H R => tl σ H fun x H1 => ∃ a,x = .ref a ∧ (∃ xs,SqL K H1 a xs) ∧ R (Itl K a) H1
theorem pi_list {l:Expr} {tl:TE} (hl:PE X l tl):PI X tg l (iList X.K tl):=by
  intro pins s σ H R I h
  refine thn (hl pins s σ H _ I h) fun v s1 ⟨x,H1,I1,r1,q1⟩ => ?_
  obtain ⟨a,e,⟨xs,hq⟩,q⟩:=q1
  subst e
  cases r1
  obtain ⟨its,rv,p,hz⟩:=I1.list hq
  refine wpAny_pyIter_list p.isList ?_
  refine ⟨s1.heap.objs.size,[s1.heap.objs.size],_,_,H1,rfl,I1.kept (t':=s1.toks) fun b o e => Heap.get?_push_of_some _ e,turn_list a _,⟨_,Heap.get?_push_size _ rfl,rfl,rfl⟩,fun b hb => ?_,q⟩
  have e:b = s1.heap.objs.size:=by simpa using hb
  subst e
  exact I1.fpOk (Nat.le_refl _) (I1.hok.fresh (Nat.le_refl _))
theorem range_it {pins:List (Addr × Obj)} {σ:St} {H:Hp} {s:Shared} {R:It → Hp → Prop} {E:Value → Shared → Prop} {lo hi:Int} {t u v:Tok} {tk:Nat} (I:Inv X pins σ H s) (h1:-(2 ^ 62) ≤ lo) (h2:lo < 2 ^ 62) (h3:-(2 ^ 62) ≤ hi) (h4:hi < 2 ^ 62)
    (q:R (Itr lo (hi - lo).toNat) H):wpAny (model X.prog X.w) X.A (pyIter (.ref s.heap.objs.size)) (PIE X pins σ tg R) E { s with heap:=s.heap.push { cls:=.type "range",data:=.fields #[.int lo t,.int hi u,.int 1 v] },toks:=tk }:=by
  refine wpAny_pyIter_range (IsRange.new ..) (small_one h1 h2 h3 h4) ?_
  have I1:Inv X pins σ H { s with heap:=s.heap.push { cls:=.type "range",data:=.fields #[.int lo t,.int hi u,.int 1 v] },toks:=tk }:=I.kept fun b o e => Heap.get?_push_of_some _ e
  refine ⟨(s.heap.push { cls:=.type "range",data:=.fields #[.int lo t,.int hi u,.int 1 v] }).objs.size,[(s.heap.push { cls:=.type "range",data:=.fields #[.int lo t,.int hi u,.int 1 v] }).objs.size],_,_,H,rfl,
    I1.kept (t':=tk) fun b o e => Heap.get?_push_of_some _ e,turn_range _ lo (hi - lo).toNat,?_,fun b hb => ?_,q⟩
  · have e1:lo + ((0:Nat):Int) * 1 = lo:=by simp
    have e2:(((hi - lo).toNat:Nat):Int) - ((0:Nat):Int) = Builtin.Range.rangeSize lo hi 1:=by rw [rangeSize_one]; split <;> omega
    show IsRangeIter _ _ (lo + ((0:Nat):Int) * 1) ((((hi - lo).toNat:Nat):Int) - ((0:Nat):Int)) 1
    rw [e1,e2]
    exact Heap.get?_push_size _ rfl
  · have e:b = (s.heap.push { cls:=.type "range",data:=.fields #[.int lo t,.int hi u,.int 1 v] }).objs.size:=by simpa using hb
    subst e
    exact I1.fpOk (Nat.le_refl _) (I1.hok.fresh (Nat.le_refl _))
noncomputable def iRng1 (ta:TA):TI:=fun σ H R => ta σ H fun vs H1 => ∃ j:Int,vs = [.int j] ∧ -(2 ^ 62) ≤ j ∧ j < 2 ^ 62 ∧ R (Itr 0 j.toNat) H1
theorem pi_range1 {a:Expr} {ta:TA} {p pos:Pos} (hg:Gl X "range") (hm:X.mg "range" = none) (ha:PA X [a] ta) (hs:starEach [a] X.env = [(false,eval a X.env)]:=by rfl):PI X tg (.Call (.Name "range" p) [a] [] pos) (iRng1 ta):=by
  intro pins s σ H R I h
  refine Call_ (ld_blt I hg hm boot_range (PyProof.Rows.callWith_type1 (thn (ha pos pins s σ H _ I h) fun us s1 ⟨vs,H1,I1,r1,q1⟩ => ?_) hs rfl))
  obtain ⟨j,e,q1,q2,q⟩:=q1
  subst e
  cases r1 with
  | cons r rr =>
    cases rr
    obtain ⟨t,rfl⟩:=r
    exact call_range_1 (range_it I1 (by omega) (by omega) q1 q2 (by simpa using q))
noncomputable def tFor (wi:TI) (g:TG) (tb:TS):TS:=fun D σ H => wi σ H fun J H1 => ∃ W:Nat → Nat → St → Hp → Prop,(∃ m,W 0 m σ H1) ∧ ∀ i m σ H,W i m σ H →
  (J.stop i H ∧ D.nx σ H) ∨ (J.go i H ∧ ∃ N:St → Hp → Prop,(∀ σ' H',N σ' H' → ∃ m',m' < m ∧ W (i + 1) m' σ' H') ∧ ∀ x H',J.yld i H x H' → g x σ H' fun σ2 H2 => tb { D with nx:=N,ct:=N,bk:=D.nx } σ2 H2)
noncomputable def pinsAt (fp:List Addr) (h:Heap):List (Addr × Obj):=fp.filterMap fun b => (h.get? b).map fun o => (b,o)
theorem mem_pinsAt {fp:List Addr} {h:Heap} {b:Addr} {o:Obj} (hb:b ∈ fp) (e:h.get? b = some o):(b,o) ∈ pinsAt fp h:=List.mem_filterMap.mpr ⟨b,hb,by rw [e]; rfl⟩
theorem of_pinsAt {fp:List Addr} {h:Heap} {p:Addr × Obj} (hp:p ∈ pinsAt fp h):p.1 ∈ fp ∧ h.get? p.1 = some p.2:=by
  obtain ⟨b,hb,e⟩:=List.mem_filterMap.mp hp
  cases q:h.get? b with
  | none => rw [q] at e; cases e
  | some o =>
    rw [q] at e
    have e':(b,o) = p:=Option.some.inj e
    subst e'
    exact ⟨hb,q⟩
theorem Inv.pinned {pins:List (Addr × Obj)} {σ:St} {H:Hp} {s:Shared} {fp:List Addr} (I:Inv X pins σ H s) (hf:∀ b ∈ fp,FpOk X pins H b) (ho:∀ b ∈ fp,∃ o,s.heap.get? b = some o ∧ ∀ v,o.data ≠ .cell v):Inv X (pins ++ pinsAt fp s.heap) σ H s :=
  I.pins_of fun p hp => (List.mem_append.mp hp).elim (fun z => I.pin p (List.mem_append_right _ z)) fun z => by
    obtain ⟨hb,e⟩:=of_pinsAt z
    obtain ⟨f0,f1,f2,_⟩:=hf p.1 hb
    obtain ⟨o,e',d⟩:=ho p.1 hb
    rw [e] at e'; cases e'
    exact ⟨e,f0,f1,f2,d⟩
theorem Inv.unpinned {pins pl:List (Addr × Obj)} {σ:St} {H:Hp} {s:Shared} (I:Inv X (pins ++ pl) σ H s):Inv X pins σ H s:=I.pins_of fun p hp => I.pin p (List.mem_append_right _ (List.mem_append_left _ hp))
theorem ps_for {iter:Expr} {body:List Stmt} {wi:TI} {g:TG} {tb:TS} {pos:Pos} (hp:PassesOwn (model X.prog X.w) X.A X.env X.xe) (hc:X.calm = true) (hi:PI X tg iter wi) (hg:PG X tg g) (hb:PSs X body tb)
    (hs:∀ x,foldedSetIterable iter X.env x = pure x:=by intro _; rfl):PS X (.For tg iter body [] pos) (tFor wi g tb):=by
  intro pins s σ H D I h
  refine wpAny_For (thn (hi pins s σ H _ I h) fun v s1 h1 => thn h1 fun itv s2 h2 => ?_) hs
  obtain ⟨it,fp,tn,J,H2,e,I2,T,st2,f2,W,⟨m0,w0⟩,turn⟩:=h2
  subst e
  have stat:∀ {H':Hp},(∀ b ∈ fp,H' b = none) → ∀ b ∈ fp,FpOk X pins H' b:=fun hn b hb => ⟨hn b hb,(f2 b hb).2⟩
  refine codeAny_forLoop_any (fun n s' => ∃ i σ' H',Inv X pins σ' H' s' ∧ tn i s'.heap ∧ (∀ b ∈ fp,H' b = none) ∧ W i n σ' H') ?_ m0 ⟨0,σ,H2,I2,st2,fun b hb => (f2 b hb).1,w0⟩
  rintro n s3 ⟨i,σ3,H3,I3,st3,fr3,w3⟩
  rcases turn i n σ3 H3 w3 with ⟨stop,qn⟩ | ⟨go,N,hN,step⟩
  · refine wpAny_passesOwn hp (thn (T.done X rfl rfl rfl hc i pins s3 σ3 H3 X.xe I3 (stat fr3) st3 stop) fun r s4 ⟨hr,I4⟩ => ?_)
    subst hr
    exact wpAny_execs_nil ⟨σ3,H3,I4,qn⟩
  · refine wpAny_passesOwn hp (thn (T.item X rfl rfl rfl hc i pins s3 σ3 H3 X.xe I3 (stat fr3) st3 go) fun r s4 ⟨u,hr,h4⟩ => ?_)
    subst hr
    refine wpAny_passesOwn hp (thn h4 fun _ s5 ⟨x,H5,I5,r5,y5,st5,fr5⟩ => ?_)
    have I5':=I5.pinned (stat fr5) (T.obj _ _ st5)
    refine wpAny_passesOwn hp (thn (hg _ s5 σ3 H5 x u _ I5' r5 (step x H5 y5)) fun _ s6 ⟨σ6,H6,I6,q6⟩ => ?_)
    refine wpAny_passesOwn hp (thn (hb _ s6 σ6 H6 _ I6 q6) fun f s7 q7 => ?_)
    have again:∀ {σ7:St} {H7:Hp},Inv X (pins ++ pinsAt fp s5.heap) σ7 H7 s7 → N σ7 H7 → ∃ m,m < n ∧ ∃ i σ' H',Inv X pins σ' H' s7 ∧ tn i s7.heap ∧ (∀ b ∈ fp,H' b = none) ∧ W i m σ' H':=fun {σ7 H7} I7 n7 => by
      obtain ⟨m',hm,w7⟩:=hN σ7 H7 n7
      refine ⟨m',hm,i + 1,σ7,H7,I7.unpinned,T.keep _ _ _ st5 fun b hb o e => (I7.pin (b,o) (List.mem_append_right _ (List.mem_append_right _ (mem_pinsAt hb e)))).1,fun b hb => ?_,w7⟩
      obtain ⟨o,e,d⟩:=T.obj _ _ st5 b hb
      exact (I7.pin (b,o) (List.mem_append_right _ (List.mem_append_right _ (mem_pinsAt hb e)))).2.1
    cases f with
    | next => obtain ⟨σ7,H7,I7,n7⟩:=q7; exact again I7 n7
    | cont => obtain ⟨σ7,H7,I7,n7⟩:=q7; exact again I7 n7
    | brk => obtain ⟨σ7,H7,I7,q7⟩:=q7; exact ⟨σ7,H7,I7.unpinned,q7⟩
    | ret v => obtain ⟨x7,σ7,H7,I7,r7,q7⟩:=q7; exact ⟨x7,σ7,H7,I7.unpinned,r7,q7⟩
end
theorem for_list {K:PySem.W.Frag} {a:Addr} {xs:List V} {g:TG} {tb:TS} {D:Ends} {σ:St} {H:Hp} (Pv:Nat → St → Hp → Prop) (h0:Pv 0 σ H) (hl:∀ i σ H,i ≤ xs.length → Pv i σ H → SqL K H a xs)
    (hs:∀ i x σ H,xs[i]? = some x → Pv i σ H → g x σ H fun σ2 H2 => tb { D with nx:=Pv (i + 1),ct:=Pv (i + 1),bk:=D.nx } σ2 H2) (hd:∀ σ H,Pv xs.length σ H → D.nx σ H) :
    ∃ W:Nat → Nat → St → Hp → Prop,(∃ m,W 0 m σ H) ∧ ∀ i m σ H,W i m σ H →
      ((Itl K a).stop i H ∧ D.nx σ H) ∨ ((Itl K a).go i H ∧ ∃ N:St → Hp → Prop,(∀ σ' H',N σ' H' → ∃ m',m' < m ∧ W (i + 1) m' σ' H') ∧ ∀ x H',(Itl K a).yld i H x H' → g x σ H' fun σ2 H2 => tb { D with nx:=N,ct:=N,bk:=D.nx } σ2 H2):=by
  refine ⟨fun i m σ H => m = xs.length - i ∧ i ≤ xs.length ∧ Pv i σ H,⟨xs.length,by simp,Nat.zero_le _,h0⟩,?_⟩
  rintro i m σ H ⟨rfl,hi,p⟩
  have q:=hl i σ H hi p
  by_cases hlt:i < xs.length
  · refine .inr ⟨⟨xs,xs[i],q,by simp [hlt]⟩,Pv (i + 1),fun σ' H' p' => ⟨xs.length - (i + 1),by omega,rfl,hlt,p'⟩,fun x H' y => ?_⟩
    obtain ⟨e,y⟩:=y
    subst e
    exact hs i x σ _ (y xs q) p
  · have e:i = xs.length:=by omega
    subst e
    exact .inl ⟨⟨xs,q,Nat.le_refl _⟩,hd σ H p⟩
theorem for_range {lo:Int} {n:Nat} {g:TG} {tb:TS} {D:Ends} {σ:St} {H:Hp} (Pv:Nat → St → Hp → Prop) (h0:Pv 0 σ H)
    (hs:∀ i σ H,i < n → Pv i σ H → g (.int (lo + i)) σ H fun σ2 H2 => tb { D with nx:=Pv (i + 1),ct:=Pv (i + 1),bk:=D.nx } σ2 H2) (hd:∀ σ H,Pv n σ H → D.nx σ H) :
    ∃ W:Nat → Nat → St → Hp → Prop,(∃ m,W 0 m σ H) ∧ ∀ i m σ H,W i m σ H →
      ((Itr lo n).stop i H ∧ D.nx σ H) ∨ ((Itr lo n).go i H ∧ ∃ N:St → Hp → Prop,(∀ σ' H',N σ' H' → ∃ m',m' < m ∧ W (i + 1) m' σ' H') ∧ ∀ x H',(Itr lo n).yld i H x H' → g x σ H' fun σ2 H2 => tb { D with nx:=N,ct:=N,bk:=D.nx } σ2 H2):=by
  refine ⟨fun i m σ H => m = n - i ∧ i ≤ n ∧ Pv i σ H,⟨n,by simp,Nat.zero_le _,h0⟩,?_⟩
  rintro i m σ H ⟨rfl,hi,p⟩
  by_cases hlt:i < n
  · refine .inr ⟨hlt,Pv (i + 1),fun σ' H' p' => ⟨n - (i + 1),by omega,rfl,hlt,p'⟩,fun x H' y => ?_⟩
    obtain ⟨e,y⟩:=y
    subst e y
    exact hs i σ _ hlt p
  · have e:i = n:=by omega
    subst e
    exact .inl ⟨Nat.le_refl _,hd σ H p⟩
end L2
namespace L2
open PySem PySem.Spec PyProof.Rows
noncomputable abbrev R2:=V → V → Hp → VK → Prop
noncomputable def OpR (X:Cx) (f:Value → Value → Sem Value) (r:R2):Prop :=
  ∀ (pins:List (Addr × Obj)) (s:Shared) (σ:St) (H:Hp) (x y:V) (v u:Value) (Q:VK),Inv X pins σ H s → RelV x v → RelV y u → r x y H Q →
    wpAny (model X.prog X.w) X.A (f v u) (EP X pins σ Q) X.xe s
noncomputable def UnR (X:Cx) (f:Value → Sem Value) (r:V → Hp → VK → Prop):Prop :=
  ∀ (pins:List (Addr × Obj)) (s:Shared) (σ:St) (H:Hp) (x:V) (v:Value) (Q:VK),Inv X pins σ H s → RelV x v → r x H Q →
    wpAny (model X.prog X.w) X.A (f v) (EP X pins σ Q) X.xe s
noncomputable def CallR (X:Cx) (f:Value) (r:List V → Hp → VK → Prop):Prop :=
  ∀ (pins:List (Addr × Obj)) (s:Shared) (σ:St) (H:Hp) (xs:List V) (us:List Value) (Q:VK),Inv X pins σ H s → Vals xs us → r xs H Q →
    wpAny (model X.prog X.w) X.A (call f us) (EP X pins σ Q) X.xe s
noncomputable def tOp (r:R2) (ta tb:TE):TE:=fun σ H Q => ta σ H fun x H1 => tb σ H1 fun y H2 => r x y H2 Q
noncomputable def tUn (r:V → Hp → VK → Prop) (ta:TE):TE:=fun σ H Q => ta σ H fun x H1 => r x H1 Q
noncomputable def rI (C:Int → Int → Prop) (g:Int → Int → V):R2:=fun x y H Q => ∃ i j,x = .int i ∧ y = .int j ∧ C i j ∧ Q (g i j) H
noncomputable def rI0 (g:Int → Int → V):R2:=fun x y H Q => ∃ i j,x = .int i ∧ y = .int j ∧ Q (g i j) H
noncomputable def rU (g:Int → V):V → Hp → VK → Prop:=fun x H Q => ∃ i,x = .int i ∧ Q (g i) H
section
variable {X:Cx} {a b c:Expr} {ta tb tc:TE} {pos:Pos}
theorem binT (ha:PE X a ta) (hb:PE X b tb) {pins:List (Addr × Obj)} {s:Shared} {σ:St} {H:Hp} {R:V → V → Hp → Prop} (I:Inv X pins σ H s)
    (h:ta σ H fun x H1 => tb σ H1 fun y H2 => R x y H2) {Q:Value → Shared → Prop} {f:Value → Value → Sem Value}
    (hf:∀ v u s2 x y H2,Inv X pins σ H2 s2 → RelV x v → RelV y u → R x y H2 → wpAny (model X.prog X.w) X.A (f v u) Q X.xe s2) :
    wpAny (model X.prog X.w) X.A (eval a X.env) (fun v s₁ => wpAny (model X.prog X.w) X.A (eval b X.env) (fun u s₂ => wpAny (model X.prog X.w) X.A (f v u) Q X.xe s₂) X.xe s₁) X.xe s:=by
  refine thn (ha pins s σ H _ I h) fun v s1 ⟨x,H1,I1,r1,q1⟩ => ?_
  refine thn (hb pins s1 σ H1 _ I1 q1) fun u s2 ⟨y,H2,I2,r2,q2⟩ => ?_
  exact hf v u s2 x y H2 I2 r1 r2 q2
theorem pe_op {op:Operator} {r:R2} (ho:OpR X (binaryOp op) r) (ha:PE X a ta) (hb:PE X b tb):PE X (.BinOp a op b pos) (tOp r ta tb):=by
  intro pins s σ H Q I h
  exact wpAny_BinOp (binT ha hb I h fun v u s2 x y H2 I2 rx ry q => ho pins s2 σ H2 x y v u Q I2 rx ry q)
theorem pe_un {op:UnaryOp} {r:V → Hp → VK → Prop} (ho:UnR X (unaryOp op) r) (ha:PE X a ta):PE X (.UnaryOp op a pos) (tUn r ta):=by
  intro pins s σ H Q I h
  exact UnaryOp_ (thn (ha pins s σ H _ I h) fun v s1 ⟨x,H1,I1,r1,q1⟩ => ho pins s1 σ H1 x v Q I1 r1 q1)
theorem opI {f:Value → Value → Sem Value} {C:Int → Int → Prop} {g:Int → Int → Int}
    (rule:∀ (i j:Int) (t u:Tok) (s:Shared) (Q:Value → Shared → Prop) (E:Value → Shared → Prop),C i j → Q (.int (g i j) s.toks) { s with toks:=s.toks + 1 } → wpAny (model X.prog X.w) X.A (f (.int i t) (.int j u)) Q E s) :
    OpR X f (rI C fun i j => .int (g i j)):=by
  intro pins s σ H x y v u Q I rx ry h
  obtain ⟨i,j,rfl,rfl,hc,q⟩:=h
  obtain ⟨t,rfl⟩:=rx
  obtain ⟨t',rfl⟩:=ry
  exact rule i j t t' s _ _ hc ⟨.int (g i j),H,I.tok _,⟨_,rfl⟩,q⟩
theorem opI0 {f:Value → Value → Sem Value} {g:Int → Int → Int}
    (rule:∀ (i j:Int) (t u:Tok) (s:Shared) (Q:Value → Shared → Prop) (E:Value → Shared → Prop),Q (.int (g i j) s.toks) { s with toks:=s.toks + 1 } → wpAny (model X.prog X.w) X.A (f (.int i t) (.int j u)) Q E s) :
    OpR X f (rI0 fun i j => .int (g i j)):=by
  intro pins s σ H x y v u Q I rx ry h
  obtain ⟨i,j,rfl,rfl,q⟩:=h
  obtain ⟨t,rfl⟩:=rx
  obtain ⟨t',rfl⟩:=ry
  exact rule i j t t' s _ _ ⟨.int (g i j),H,I.tok _,⟨_,rfl⟩,q⟩
theorem opB0 {f:Value → Value → Sem Value} {g:Int → Int → Bool}
    (rule:∀ (i j:Int) (t u:Tok) (s:Shared) (Q:Value → Shared → Prop) (E:Value → Shared → Prop),Q (.bool (g i j)) s → wpAny (model X.prog X.w) X.A (f (.int i t) (.int j u)) Q E s) :
    OpR X f (rI0 fun i j => .bl (g i j)):=by
  intro pins s σ H x y v u Q I rx ry h
  obtain ⟨i,j,rfl,rfl,q⟩:=h
  obtain ⟨t,rfl⟩:=rx
  obtain ⟨t',rfl⟩:=ry
  exact rule i j t t' s _ _ ⟨.bl (g i j),H,I,rfl,q⟩
noncomputable def CMul (i j:Int):Prop:=(-(2 ^ 64) < i ∧ i < 2 ^ 64) ∨ (-(2 ^ 64) < j ∧ j < 2 ^ 64)
theorem CMul.ok {i j:Int} (h:CMul i j):IntMulOk i j:=by
  rcases h with ⟨h1,h2⟩ | ⟨h1,h2⟩
  · exact .of_left (intBits_le_64 h1 h2)
  · exact .of_right (intBits_le_64 h1 h2)
theorem op_add:OpR X (binaryOp .Add) (rI0 fun i j => .int (i + j)):=opI0 fun _ _ _ _ _ _ _ q => add_int q
theorem op_sub:OpR X (binaryOp .Sub) (rI0 fun i j => .int (i - j)):=opI0 fun _ _ _ _ _ _ _ q => sub_int q
theorem op_mul:OpR X (binaryOp .Mult) (rI CMul fun i j => .int (i * j)):=opI fun _ _ _ _ _ _ _ hc q => mul_int q hc.ok
theorem op_mod:OpR X (binaryOp .Mod) (rI (fun _ j => 0 < j) fun i j => .int (i % j)):=opI fun i j _ _ _ _ _ hc q => by
  have h1:(0:Int) < j:=hc
  exact mod_int' (by omega) (by rw [Int.fmod_eq_emod_of_nonneg i (by omega)]; exact q)
theorem unI {f:Value → Sem Value} {g:Int → Int}
    (rule:∀ (i:Int) (t:Tok) (s:Shared) (Q:Value → Shared → Prop) (E:Value → Shared → Prop),Q (.int (g i) s.toks) { s with toks:=s.toks + 1 } → wpAny (model X.prog X.w) X.A (f (.int i t)) Q E s) :
    UnR X f (rU fun i => .int (g i)):=by
  intro pins s σ H x v Q I rx h
  obtain ⟨i,rfl,q⟩:=h
  obtain ⟨t,rfl⟩:=rx
  exact rule i t s _ _ ⟨.int (g i),H,I.tok _,⟨_,rfl⟩,q⟩
theorem un_neg:UnR X (unaryOp .USub) (rU fun i => .int (-i)):=unI fun _ _ _ _ _ q => neg_int q
end
noncomputable def scal:V → V → Bool
  | .non,.non => true | .non,.int _ => true | .int _,.non => true | .non,.bl _ => true | .bl _,.non => true | .non,.str _ => true | .str _,.non => true
  | .int _,.int _ => true | .bl _,.bl _ => true | .str _,.str _ => true | .byt _,.byt _ => true
  | .int _,.str _ => true | .str _,.int _ => true | .bl _,.str _ => true | .str _,.bl _ => true
  | _,_ => false
noncomputable def rEq:R2:=fun x y H Q => scal x y = true ∧ Q (.bl (decide (x = y))) H
noncomputable def rNe:R2:=fun x y H Q => scal x y = true ∧ Q (.bl (!decide (x = y))) H
theorem dec_int {i j:Int}:decide (V.int i = V.int j) = (i == j):=by
  rw [Bool.eq_iff_iff]
  simp
theorem dec_bl {i j:Bool}:decide (V.bl i = V.bl j) = (i == j):=by
  rw [Bool.eq_iff_iff]
  simp
theorem dec_str {i j:Str}:decide (V.str i = V.str j) = (i == j):=by
  rw [Bool.eq_iff_iff]
  simp
theorem dec_byt {i j:Array UInt8}:decide (V.byt i = V.byt j) = (i.toList == j.toList):=by
  rw [Bool.eq_iff_iff]
  cases i
  cases j
  simp
section
variable {X:Cx} {a b c:Expr} {ta tb tc:TE} {pos:Pos}
theorem fin_bl {pins:List (Addr × Obj)} {σ:St} {H:Hp} {s:Shared} {Q:VK} {k k':Bool} (I:Inv X pins σ H s) (q:Q (.bl k) H) (e:k = k'):EP X pins σ Q (.bool k') s:=by
  subst e
  exact ⟨.bl k,H,I,rfl,q⟩
theorem op_eq:OpR X (compareOp .Eq) rEq:=by
  intro pins s σ H x y v u Q I rx ry h
  obtain ⟨hs,q⟩:=h
  cases x with
  | non =>
    cases rx
    cases y with
    | non => cases ry; exact PySem.EqNone.eq_none_none (fin_bl I q (by simp))
    | bl j => cases ry; exact PySem.EqNone.eq_none_bool (fin_bl I q (by simp))
    | int j => obtain ⟨t',rfl⟩:=ry; exact PySem.EqNone.eq_none_int (fin_bl I q (by simp))
    | str j => obtain ⟨t',rfl⟩:=ry; exact PySem.EqNone.eq_none_str (fin_bl I q (by simp))
    | _ => exact absurd (show false = true from hs) Bool.false_ne_true
  | bl i =>
    cases rx
    cases y with
    | non => cases ry; exact PySem.EqNone.eq_bool_none (fin_bl I q (by simp))
    | bl j => cases ry; exact eq_bool (fin_bl I q dec_bl)
    | str j => obtain ⟨t',rfl⟩:=ry; exact PySem.EqMixed.eq_bool_str (fin_bl I q (by simp))
    | _ => exact absurd (show false = true from hs) Bool.false_ne_true
  | int i =>
    obtain ⟨t,rfl⟩:=rx
    cases y with
    | non => cases ry; exact PySem.EqNone.eq_int_none (fin_bl I q (by simp))
    | int j => obtain ⟨t',rfl⟩:=ry; exact eq_int (fin_bl I q dec_int)
    | str j => obtain ⟨t',rfl⟩:=ry; exact PySem.EqMixed.eq_int_str (fin_bl I q (by simp))
    | _ => exact absurd (show false = true from hs) Bool.false_ne_true
  | str i =>
    obtain ⟨t,rfl⟩:=rx
    cases y with
    | non => cases ry; exact PySem.EqNone.eq_str_none (fin_bl I q (by simp))
    | bl j => cases ry; exact PySem.EqMixed.eq_str_bool (fin_bl I q (by simp))
    | int j => obtain ⟨t',rfl⟩:=ry; exact PySem.EqMixed.eq_str_int (fin_bl I q (by simp))
    | str j => obtain ⟨t',rfl⟩:=ry; exact eq_str (fin_bl I q dec_str)
    | _ => exact absurd (show false = true from hs) Bool.false_ne_true
  | byt i =>
    obtain ⟨t,rfl⟩:=rx
    cases y with
    | byt j => obtain ⟨t',rfl⟩:=ry; exact PySem.W.eq_bytes (fin_bl I q dec_byt)
    | _ => exact absurd (show false = true from hs) Bool.false_ne_true
  | _ => cases y <;> exact absurd (show false = true from hs) Bool.false_ne_true
theorem op_ne:OpR X (compareOp .NotEq) rNe:=by
  intro pins s σ H x y v u Q I rx ry h
  obtain ⟨hs,q⟩:=h
  cases x with
  | non =>
    cases rx
    cases y with
    | non => cases ry; exact PySem.EqNone.ne_none_none (fin_bl I q (by simp))
    | bl j => cases ry; exact PySem.EqNone.ne_none_bool (fin_bl I q (by simp))
    | int j => obtain ⟨t',rfl⟩:=ry; exact PySem.EqNone.ne_none_int (fin_bl I q (by simp))
    | str j => obtain ⟨t',rfl⟩:=ry; exact PySem.EqNone.ne_none_str (fin_bl I q (by simp))
    | _ => exact absurd (show false = true from hs) Bool.false_ne_true
  | bl i =>
    cases rx
    cases y with
    | non => cases ry; exact PySem.EqNone.ne_bool_none (fin_bl I q (by simp))
    | bl j => cases ry; exact ne_bool (fin_bl I q (congrArg not dec_bl))
    | str j => obtain ⟨t',rfl⟩:=ry; exact PySem.EqMixed.ne_bool_str (fin_bl I q (by simp))
    | _ => exact absurd (show false = true from hs) Bool.false_ne_true
  | int i =>
    obtain ⟨t,rfl⟩:=rx
    cases y with
    | non => cases ry; exact PySem.EqNone.ne_int_none (fin_bl I q (by simp))
    | int j => obtain ⟨t',rfl⟩:=ry; exact ne_int (fin_bl I q (congrArg not dec_int))
    | str j => obtain ⟨t',rfl⟩:=ry; exact PySem.EqMixed.ne_int_str (fin_bl I q (by simp))
    | _ => exact absurd (show false = true from hs) Bool.false_ne_true
  | str i =>
    obtain ⟨t,rfl⟩:=rx
    cases y with
    | non => cases ry; exact PySem.EqNone.ne_str_none (fin_bl I q (by simp))
    | bl j => cases ry; exact PySem.EqMixed.ne_str_bool (fin_bl I q (by simp))
    | int j => obtain ⟨t',rfl⟩:=ry; exact PySem.EqMixed.ne_str_int (fin_bl I q (by simp))
    | str j => obtain ⟨t',rfl⟩:=ry; exact ne_str (fin_bl I q (congrArg not dec_str))
    | _ => exact absurd (show false = true from hs) Bool.false_ne_true
  | byt i =>
    obtain ⟨t,rfl⟩:=rx
    cases y with
    | byt j => obtain ⟨t',rfl⟩:=ry; exact PySem.W.ne_bytes (fin_bl I q (congrArg not dec_byt))
    | _ => exact absurd (show false = true from hs) Bool.false_ne_true
  | _ => cases y <;> exact absurd (show false = true from hs) Bool.false_ne_true
theorem op_lt:OpR X (compareOp .Lt) (rI0 fun i j => .bl (decide (i < j))):=opB0 fun _ _ _ _ _ _ _ q => lt_int q
theorem op_gt:OpR X (compareOp .Gt) (rI0 fun i j => .bl (decide (j < i))):=opB0 fun _ _ _ _ _ _ _ q => gt_int q
theorem op_ge:OpR X (compareOp .GtE) (rI0 fun i j => .bl (decide (j ≤ i))):=opB0 fun _ _ _ _ _ _ _ q => ge_int q
theorem nomark (b:Expr) {op:CmpOp} (h:op ≠ .In:=by decide) (h2:op ≠ .NotIn:=by decide):behindInMarks op b = false:=by
  have e1:(op == CmpOp.In) = false:=by cases op <;> first | rfl | exact absurd rfl h
  have e2:(op == CmpOp.NotIn) = false:=by cases op <;> first | rfl | exact absurd rfl h2
  cases b <;> simp [behindInMarks,e1,e2]
theorem pe_cmpR {op:CmpOp} {r:R2} (ho:OpR X (compareOp op) r) (ha:PE X a ta) (hb:PE X b tb) (hm:behindInMarks op b = false):PE X (.Compare a [op] [b] pos) (tOp r ta tb):=by
  intro pins s σ H Q I h
  exact wpAny_Compare1 (binT ha hb I h fun v u s2 x y H2 I2 rx ry q => ho pins s2 σ H2 x y v u Q I2 rx ry q) hm
noncomputable def tTest (t:TE):TT:=fun σ H Q => t σ H fun x H' => ∃ k,x = .bl k ∧ Q k H'
theorem pt_cmpR {op:CmpOp} {r:R2} (ho:OpR X (compareOp op) r) (ha:PE X a ta) (hb:PE X b tb) (hm:behindInMarks op b = false):PT X (.Compare a [op] [b] pos) (tTest (tOp r ta tb)):=by
  intro pins s σ H Q I h
  refine wpAny_isTrue_Compare1 (thn (ha pins s σ H _ I h) fun v s1 ⟨x,H1,I1,r1,q1⟩ => thn (hb pins s1 σ H1 _ I1 q1) fun u s2 ⟨y,H2,I2,r2,q2⟩ =>
    thn (ho pins s2 σ H2 x y v u _ I2 r1 r2 q2) fun c s3 ⟨z,H3,I3,r3,k,e,q3⟩ => ?_) hm
  subst e
  cases r3
  exact wpAny_truthy_bool ⟨H3,I3,q3⟩
theorem line63:(sizeLine:Nat) < 2 ^ 63:=by rw [sizeLine_eq]; decide
theorem vals1 {x:V} {us:List Value} (r:Vals [x] us):∃ u,us = [u] ∧ RelV x u:=by
  cases r with
  | cons r1 r2 => cases r2; exact ⟨_,rfl,r1⟩
theorem vals2 {x y:V} {us:List Value} (r:Vals [x,y] us):∃ u w',us = [u,w'] ∧ RelV x u ∧ RelV y w':=by
  cases r with
  | cons r1 r2 =>
    cases r2 with
    | cons r3 r4 => cases r4; exact ⟨_,_,rfl,r1,r3⟩
theorem call_max2 (hc:X.calm = true):CallR X (.builtin "max") (fun xs H Q => ∃ i j,xs = [.int i,.int j] ∧ Q (.int (if j > i then j else i)) H):=by
  intro pins s σ H xs us Q I r h
  obtain ⟨i,j,rfl,q⟩:=h
  obtain ⟨u,w',rfl,⟨t,rfl⟩,⟨t',rfl⟩⟩:=vals2 r
  refine max_two_ints (I.ok.hd hc) fun h' tk k => ⟨_,H,I.kept k,?_,q⟩
  by_cases hj:j > i
  · rw [if_pos hj,if_pos hj]; exact ⟨_,rfl⟩
  · rw [if_neg hj,if_neg hj]; exact ⟨_,rfl⟩
theorem call_min2 (hc:X.calm = true):CallR X (.builtin "min") (fun xs H Q => ∃ i j,xs = [.int i,.int j] ∧ Q (.int (if j < i then j else i)) H):=by
  intro pins s σ H xs us Q I r h
  obtain ⟨i,j,rfl,q⟩:=h
  obtain ⟨u,w',rfl,⟨t,rfl⟩,⟨t',rfl⟩⟩:=vals2 r
  refine min_two_ints (I.ok.hd hc) fun h' tk k => ⟨_,H,I.kept k,?_,q⟩
  by_cases hj:j < i
  · rw [if_pos hj,if_pos hj]; exact ⟨_,rfl⟩
  · rw [if_neg hj,if_neg hj]; exact ⟨_,rfl⟩
end
end L2
namespace L2
open PySem PySem.Spec PyProof.Rows
structure ObjM (h:Heap) (x dx C:Addr) (mA:Str → Option Value):Prop where
  obj:h.get? x = some (PySem.W.instObj C dx)
  ns:h.Ns1 dx mA
  ne:dx ≠ x
theorem lookIn_ns {h:Heap} {dx:Addr} {mA:Str → Option Value} (n:h.Ns1 dx mA):∃ od,h.get? dx = some od ∧ ∀ name,PySem.W.lookIn name od = some (mA name):=by
  obtain ⟨o,es,ep,ho,hd,hk,_,hm⟩:=n
  refine ⟨o,ho,fun name => ?_⟩
  have e:=hm name
  unfold nsFind findBy at e
  rw [← Array.find?_toList] at e
  unfold PySem.W.lookIn
  rw [hd]
  dsimp only
  split
  · rename_i y q
    rw [q] at e
    exact congrArg some e
  · rename_i q
    rw [q] at e
    have a:es.toList.any (·.refKey) = false:=by
      rw [List.any_eq_false]
      intro y hy
      obtain ⟨z,t,hkey⟩:=hk y (Array.mem_toList_iff.mp hy)
      simp [DictEntry.refKey,hkey]
    have a':¬ es.toList.any (·.refKey) = true:=by rw [a]; exact Bool.false_ne_true
    rw [if_neg a']
    exact congrArg some e
theorem ObjM.look {h:Heap} {x dx C:Addr} {mA:Str → Option Value} (I:ObjM h x dx C mA):∃ od,PySem.W.InstAt h x (PySem.W.instObj C dx) C (some od) ∧ ∀ name,PySem.W.lookIn name od = some (mA name) :=
  let ⟨od,ho,hl⟩:=lookIn_ns I.ns
  ⟨od,⟨I.obj,rfl,rfl,ho⟩,hl⟩
section
variable {prog:Program} {w:World} {A:Around} {E:Value → Shared → Prop} {s:Shared} {K:PySem.W.Frag} {x dx C f:Addr} {mA:Str → Option Value} {name:Str} {v:Value}
theorem get_map {expr:Bool} {Q:Value → Shared → Prop} (X:K.In s.heap) (I:ObjM s.heap x dx C mA) (hg:PySem.W.plainGet K C name = true) (hh:PySem.W.hasDictIn K C = true)
    (ha:PySem.W.findIn K (.ref C) name = some none) (hv:mA name = some v) (hv':PySem.W.handedIn v = true) (h:Q v { s with toks:=s.toks + 1 }) :
    wpAny (model prog w) A (getAttr (.ref x) name expr) Q E s:=by
  obtain ⟨od,J,hl⟩:=I.look
  exact PySem.W.get_value X J (PySem.W.plainGet_of hg).1 (PySem.W.findObj_own hh ha rfl (by rw [hl,hv])) hv' h
theorem get_meth {pl:Sem Bool} {Q:Value × List Value → Shared → Prop} (X:K.In s.heap) (I:ObjM s.heap x dx C mA) (hg:PySem.W.plainGet K C name = true)
    (hf:PySem.W.findIn K (.ref C) name = some (some (.ref f))) (ht:PySem.W.isFn K (.ref f) = true) (hv:mA name = none) (h:Q (.ref f,[.ref x]) s) :
    wpAny (model prog w) A (getMethod (.ref x) name pl) Q E s:=by
  obtain ⟨od,J,hl⟩:=I.look
  exact PySem.W.method_fn X J (PySem.W.plainGet_of hg).1 (PySem.W.plainGet_of hg).2 hf (beq_iff_eq.mp ht) (by show (PySem.W.lookIn name od).map (·.isSome) = some false; rw [hl,hv]; rfl) h
theorem set_map {ns:List Str} {Q:Unit → Shared → Prop} (X:K.In s.heap) (I:ObjM s.heap x dx C mA)
    (hs:PySem.W.findIn K (.ref C) "__setattr__" = some (some (.builtin "object.__setattr__"))) (hp:PySem.W.plainOver K C = true) (ht:PySem.W.takerIn K C name = some none) (hh:PySem.W.hasDictIn K C = true)
    (hw:PySem.Within mA ns) (hsz:ns.length ≤ sizeLine)
    (h:∀ h',ObjM h' x dx C (fun y => if y = name then some v else mA y) → Heap.SameBut dx s.heap h' → Q () { s with heap:=h',toks:=s.toks + 2 }) :
    wpAny (model prog w) A (setAttr (.ref x) name v) Q E s:=by
  obtain ⟨od,J,hl⟩:=I.look
  refine PySem.W.set_plain X J hs (PySem.W.osa_open (s:={ s with toks:=s.toks + 1 }) (r:=none) X J hp ht fun b => ?_)
  obtain ⟨cd,hc,hd'⟩:=PySem.W.any_some hh
  have hx:s.heap.get? x = some ⟨.ref C,some dx,.plain,#[]⟩:=I.obj
  refine wpAny_bind (wpAny_pure (wpAny_bind (wpAny_bind (wpAny_loadPart hx (wpAny_bind (PySem.W.Looks.here (s:={ s with toks:=s.toks + 1 }) (PySem.W.looks_clsIn X hc) ?_))))))
  rw [hd']
  refine wpAny_pure (a:=some dx) (wpAny_bind (wpAny_pure (wpAny_bind ?_)))
  refine wpAny_nsSet1 (s:={ s with toks:=s.toks + 1 }) I.ns fun h' hn2 hs2 => ?_
  obtain ⟨oD,esD,epD,hoD,hdD,hcD⟩:=hn2.count (PySem.Within.cons name v hw)
  refine wpAny_bind (wpAny_lookBehind hoD (by rw [hdD]; exact pastItsLine_dict (Nat.le_trans hcD (by rw [List.length_cons]; omega))) ?_)
  exact wpAny_pure (h _ ⟨(hs2.2 _ (Ne.symm I.ne)).trans I.obj,hn2,I.ne⟩ hs2)
theorem make_map {R:Result → Shared → Prop} {vs:List Value} {kw:List (Str × Value)} (X:K.In s.heap) (hm:PySem.W.makesIn K C = true)
    (hi:PySem.W.findIn K (.ref C) "__init__" = some (some (.ref f))) (hf:PySem.W.typeIn K (.ref f) = some (.type "function"))
    (h:codeAny (model prog w) (A.under (.builtin "type.__call__" ⟨.ref C :: vs,kw⟩)) (.call (.ref f) ⟨.ref (s.heap.objs.size + 1) :: vs,kw⟩) (PySem.W.InitBack (s.heap.objs.size + 1) R)
      { s with heap:=(s.heap.push PySem.W.emptyDict).push (PySem.W.instObj C s.heap.objs.size) }) :
    codeAny (model prog w) A (.call (.ref C) ⟨vs,kw⟩) R s:=by
  obtain ⟨hh,g,d,t,os⟩:=s
  exact PySem.W.make_core (PySem.W.makes_of X hm) (PySem.W.looks_findIn X hi) (fun self => PySem.W.bind_fn X self hf) (.inl rfl) h
end
noncomputable def putF (f:Str) (v:V):List (Str × V) → List (Str × V)
  | [] => [(f,v)]
  | (g,x) :: r => if g = f then (g,v) :: r else (g,x) :: putF f v r
theorem lookup_putF (f g:Str) (v:V):∀ fs:List (Str × V),(putF f v fs).lookup g = if g = f then some v else fs.lookup g
  | [] => by
    show List.lookup g [(f,v)] = _
    by_cases h:g = f
    · have hb:(g == f) = true:=beq_iff_eq.mpr h
      simp only [List.lookup,hb,if_pos h]
    · have hb:(g == f) = false:=beq_eq_false_iff_ne.mpr h
      simp only [List.lookup,hb,if_neg h]
  | (k,x) :: r => by
    have ih:=lookup_putF f g v r
    rw [show putF f v ((k,x) :: r) = (if k = f then (k,v) :: r else (k,x) :: putF f v r) from rfl]
    by_cases hk:k = f
    · rw [if_pos hk]
      by_cases h:g = k
      · have hb:(g == k) = true:=beq_iff_eq.mpr h
        simp only [List.lookup,hb,if_pos (h.trans hk)]
      · have hb:(g == k) = false:=beq_eq_false_iff_ne.mpr h
        simp only [List.lookup,hb,if_neg (fun e:g = f => h (e.trans hk.symm))]
    · rw [if_neg hk]
      by_cases h:g = k
      · have hb:(g == k) = true:=beq_iff_eq.mpr h
        simp only [List.lookup,hb,if_neg (fun e:g = f => hk (h.symm.trans e))]
      · have hb:(g == k) = false:=beq_eq_false_iff_ne.mpr h
        simp only [List.lookup,hb]
        exact ih
theorem keys_putF (f:Str) (v:V):∀ fs:List (Str × V),f ∈ (putF f v fs).map (·.1) ∧ ∀ g,g ∈ fs.map (·.1) → g ∈ (putF f v fs).map (·.1)
  | [] => ⟨by simp [putF],fun g h => by simp at h⟩
  | (k,x) :: r => by
    obtain ⟨i1,i2⟩:=keys_putF f v r
    rw [show putF f v ((k,x) :: r) = (if k = f then (k,v) :: r else (k,x) :: putF f v r) from rfl]
    by_cases hk:k = f
    · rw [if_pos hk]
      subst hk
      exact ⟨by simp,fun g h => by simpa using h⟩
    · rw [if_neg hk]
      refine ⟨?_,fun g h => ?_⟩
      · rw [List.map_cons]
        exact List.mem_cons_of_mem _ i1
      · rw [List.map_cons] at h ⊢
        rcases List.mem_cons.mp h with e | e
        · exact List.mem_cons.mpr (.inl e)
        · exact List.mem_cons_of_mem _ (i2 g e)
theorem length_putF (f:Str) (v:V):∀ fs:List (Str × V),(putF f v fs).length ≤ fs.length + 1
  | [] => by simp [putF]
  | (k,x) :: r => by
    have ih:=length_putF f v r
    rw [show putF f v ((k,x) :: r) = (if k = f then (k,v) :: r else (k,x) :: putF f v r) from rfl]
    by_cases hk:k = f
    · rw [if_pos hk,List.length_cons,List.length_cons]; omega
    · rw [if_neg hk,List.length_cons,List.length_cons]; omega
theorem RelO.some_of {v:V} {o:Option Value} (r:RelO (some v) o):∃ u,o = some u ∧ RelV v u:=by
  cases o with
  | none => exact (show False from r).elim
  | some u => exact ⟨u,rfl,r⟩
theorem RelO.none_of {o:Option Value} (r:RelO none o):o = none:=by
  cases o with
  | none => rfl
  | some u => exact (show False from r).elim
theorem handed_of {v:V} {u:Value} (r:RelV v u):PySem.W.handedIn u = true:=by
  cases v with
  | non => cases (show u = Value.none from r); rfl
  | bl b => cases (show u = Value.bool b from r); rfl
  | int i => obtain ⟨t,e⟩:=(show ∃ t,u = Value.int i t from r); cases e; rfl
  | str x => obtain ⟨t,e⟩:=(show ∃ t,u = Value.str x t from r); cases e; rfl
  | byt b => obtain ⟨t,e⟩:=(show ∃ t,u = Value.bytes b t from r); cases e; rfl
  | flt b => obtain ⟨t,e⟩:=(show ∃ t,u = Value.float b t from r); cases e; rfl
  | ref a => cases (show u = Value.ref a from r); rfl
  | ty n => cases (show u = Value.type n from r); rfl
section
variable {P:Program} {w:World} {H H':Hp} {h h':Heap} {a C dx:Addr} {fs fs':List (Str × V)}
theorem ins_get (hok:HOk P w H h) (e:H a = some (.ins C dx fs)):∃ mA,ObjM h a dx C mA ∧ (∀ f,RelO (fs.lookup f) (mA f)) ∧ PySem.Within mA (fs.map (·.1)) ∧ fs.length ≤ 1000 ∧ H dx = some (.own a):=by
  obtain ⟨d,z,ne,ob,mA,n,r,q⟩:=(show ObjOk P w H h a (.ins C dx fs) from hok a _ e)
  exact ⟨mA,⟨ob,n,ne⟩,r,q,z,d⟩
end
structure Cls (K:PySem.W.Frag) (C:Addr):Prop where
  pg:PySem.W.plainGet K C Str.empty = true
  hd:PySem.W.hasDictIn K C = true
  po:PySem.W.plainOver K C = true
  sa:PySem.W.findIn K (.ref C) "__setattr__" = some (some (.builtin "object.__setattr__"))
theorem Cls.get {K:PySem.W.Frag} {C:Addr} (c:Cls K C) (f:Str):PySem.W.plainGet K C f = true:=c.pg
noncomputable def NoAttr (K:PySem.W.Frag) (C:Addr) (f:Str):Prop:=PySem.W.findIn K (.ref C) f = some none
theorem NoAttr.taker {K:PySem.W.Frag} {C:Addr} {f:Str} (n:NoAttr K C f):PySem.W.takerIn K C f = some none:=by
  unfold PySem.W.takerIn
  rw [show PySem.W.findIn K (.ref C) f = some none from n]
  rfl
structure Meth (K:PySem.W.Frag) (C:Addr) (m:Str) (f:Addr):Prop where
  at_:PySem.W.findIn K (.ref C) m = some (some (.ref f))
  fn:PySem.W.isFn K (.ref f) = true
  kp:PySem.W.keepIn K (.ref f) = true
section
variable {X:Cx} {pins:List (Addr × Obj)} {σ:St} {H:Hp} {s:Shared} {a C dx:Addr} {fs:List (Str × V)} {f:Str} {v:V} {A:Around} {E:Value → Shared → Prop}
theorem getattr_ok {b:Bool} {Q:Value → Shared → Prop} (I:Inv X pins σ H s) (e:H a = some (.ins C dx fs)) (c:Cls X.K C) (n:NoAttr X.K C f) (l:fs.lookup f = some v)
    (h:∀ u s',Inv X pins σ H s' → RelV v u → Q u s'):wpAny (model X.prog X.w) A (getAttr (.ref a) f b) Q E s:=by
  obtain ⟨mA,O,r,_,_,_⟩:=ins_get I.hok e
  obtain ⟨u,hu,ru⟩:=RelO.some_of (v:=v) (o:=mA f) (by rw [← l]; exact r f)
  exact get_map I.kIn O (c.get f) c.hd n hu (handed_of ru) (h u _ (I.tok _) ru)
theorem getmeth_ok {m:Str} {g:Addr} {pl:Sem Bool} {Q:Value × List Value → Shared → Prop} (I:Inv X pins σ H s) (e:H a = some (.ins C dx fs)) (c:Cls X.K C) (k:Meth X.K C m g) (l:fs.lookup m = none)
    (h:Q (.ref g,[.ref a]) s):wpAny (model X.prog X.w) A (getMethod (.ref a) m pl) Q E s:=by
  obtain ⟨mA,O,r,_,_,_⟩:=ins_get I.hok e
  have hn:mA m = none:=RelO.none_of (by rw [← l]; exact r m)
  exact get_meth I.kIn O (c.get m) k.at_ k.fn hn h
theorem setattr_ok {y:V} {u:Value} {Q:Unit → Shared → Prop} (I:Inv X pins σ H s) (e:H a = some (.ins C dx fs)) (c:Cls X.K C) (n:NoAttr X.K C f) (hl:fs.length < 1000) (ry:RelV y u)
    (h:∀ s',Inv X pins σ (upd H a (.ins C dx (putF f y fs))) s' → Q () s'):wpAny (model X.prog X.w) A (setAttr (.ref a) f u) Q E s:=by
  obtain ⟨mA,O,r,wi,_,ho⟩:=ins_get I.hok e
  have hz:(fs.map (·.1)).length ≤ sizeLine:=by rw [List.length_map,sizeLine_eq]; omega
  refine set_map I.kIn O c.sa c.po n.taker c.hd wi hz fun h' O' sb => h _ ?_
  have hd:∃ o,h'.get? dx = some o:=let ⟨o,_,_,e',_⟩:=O'.ns; ⟨o,e'⟩
  refine I.write (x:=a) (e:=dx) (by rw [e]; exact True.intro) (.inr ho) (fun b q hb z => (sb.2 b hb).trans z) hd ?_
  refine ⟨by rw [upd_ne O.ne]; exact ho,?_,O.ne,O'.obj,_,O'.ns,fun g => ?_,fun g hg => ?_⟩
  · have:=length_putF f y fs; omega
  · show RelO ((putF f y fs).lookup g) (if g = f then some u else mA g)
    rw [lookup_putF]
    by_cases q:g = f
    · rw [if_pos q,if_pos q]; exact ry
    · rw [if_neg q,if_neg q]; exact r g
  · by_cases q:g = f
    · rw [q]; exact (keys_putF f y fs).1
    · refine (keys_putF f y fs).2 g (wi g fun z => hg ?_)
      show (if g = f then some u else mA g) = none
      rw [if_neg q]; exact z
theorem Inv.made (I:Inv X pins σ H s):Inv X pins σ (upd (upd H s.heap.objs.size (.own (s.heap.objs.size + 1))) (s.heap.objs.size + 1) (.ins C s.heap.objs.size []))
    { s with heap:=(s.heap.push PySem.W.emptyDict).push (PySem.W.instObj C s.heap.objs.size) }:=by
  have e1:(s.heap.push PySem.W.emptyDict).get? s.heap.objs.size = some PySem.W.emptyDict:=Heap.get?_push_size s.heap rfl
  have e2:((s.heap.push PySem.W.emptyDict).push (PySem.W.instObj C s.heap.objs.size)).get? (s.heap.objs.size + 1) = some (PySem.W.instObj C s.heap.objs.size):=by
    have:=Heap.get?_push_size (s.heap.push PySem.W.emptyDict) (o:=PySem.W.instObj C s.heap.objs.size) rfl
    rwa [Heap.size_push] at this
  have e3:(s.heap.push PySem.W.emptyDict).Ns s.heap.objs.size (fun _ => none):=⟨PySem.W.emptyDict,#[],_,e1,rfl,(fun e he => absurd he (by simp)),fun _ => rfl⟩
  have I1:=I.laid (a:=s.heap.objs.size) (o:=.own (s.heap.objs.size + 1)) (h':=s.heap.push PySem.W.emptyDict) (t':=s.toks) (fun b u q => Heap.get?_push_of_some _ q) (Nat.le_refl _) ⟨_,e1⟩
  refine I1.laid (a:=s.heap.objs.size + 1) (o:=.ins C s.heap.objs.size []) (t':=s.toks) (fun b u q => Heap.get?_push_of_some _ q) (Nat.le_of_eq (Heap.size_push _ _)) ?_
  have ne:s.heap.objs.size ≠ s.heap.objs.size + 1:=Nat.ne_of_lt (Nat.lt_succ_self _)
  refine ⟨by rw [upd_ne ne,upd_same],Nat.zero_le _,ne,e2,fun _ => none,(Heap.Ns1.of_empty e3).at fun o q => Heap.get?_push_of_some _ q,fun _ => True.intro,fun y hy => absurd rfl hy⟩
theorem attr_of {prog:Program} {w:World} {env:Env} {e:Expr} {f:Str} {pos:Pos} {s:Shared} {Q:Value → Shared → Prop} (hb:attributeBase e f env (eval e env) = eval e env)
    (h:wpAny (model prog w) A (eval e env) (fun o s₁ => wpAny (model prog w) A (getAttr o f true) Q E s₁) E s):wpAny (model prog w) A (eval (.Attribute e f pos) env) Q E s :=
  Attribute_any_ h (by rw [arm_eval_Attribute,hb])
end
noncomputable def tFld (K:PySem.W.Frag) (ta:TE) (f:Str):TE:=fun σ H Q => ta σ H fun x H1 => ∃ a C dx fs v,x = .ref a ∧ H1 a = some (.ins C dx fs) ∧ Cls K C ∧ NoAttr K C f ∧ fs.lookup f = some v ∧ Q v H1
noncomputable def sFld (K:PySem.W.Frag) (ta tv:TE) (f:Str):TS:=fun D σ H => tv σ H fun y H1 => ta σ H1 fun x H2 => ∃ a C dx fs,x = .ref a ∧ H2 a = some (.ins C dx fs) ∧ Cls K C ∧ NoAttr K C f ∧ fs.length < 1000 ∧
  D.nx σ (upd H2 a (.ins C dx (putF f y fs)))
noncomputable def InOp (X:Cx) (op:Operator) (rd:V → V → Hp → VK → Prop):Prop :=
  ∀ (pins:List (Addr × Obj)) (s:Shared) (σ:St) (H:Hp) (x y:V) (u v:Value) (Q:VK),Inv X pins σ H s → RelV x u → RelV y v → rd x y H Q → wpAny (model X.prog X.w) X.A (inplaceOp op u v) (EP X pins σ Q) X.xe s
noncomputable def sFldAug (K:PySem.W.Frag) (ta tv:TE) (rd:V → V → Hp → VK → Prop) (f:Str):TS:=fun D σ H => ta σ H fun x H1 => ∃ a C dx fs v,x = .ref a ∧ H1 a = some (.ins C dx fs) ∧ Cls K C ∧ NoAttr K C f ∧ fs.lookup f = some v ∧
  tv σ H1 fun y H2 => rd v y H2 fun z H3 => ∃ dx' fs',H3 a = some (.ins C dx' fs') ∧ fs'.length < 1000 ∧ D.nx σ (upd H3 a (.ins C dx' (putF f z fs')))
section
variable {X:Cx} {o e value:Expr} {f:Str} {pos pos' tpos:Pos} {ta tv:TE}
theorem pe_fld (he:PE X e ta) (hb:attributeBase e f X.env (eval e X.env) = eval e X.env):PE X (.Attribute e f pos) (tFld X.K ta f):=by
  intro pins s σ H Q I h
  refine attr_of hb (thn (he pins s σ H _ I h) fun u s1 ⟨x,H1,I1,rx,a,C,dx,fs,v,ex,ea,c,n,l,q⟩ => ?_)
  subst ex
  obtain rfl:u = Value.ref a:=rx
  exact getattr_ok I1 ea c n l fun u' s2 I2 ru => ⟨v,H1,I2,ru,q⟩
theorem ps_fld (ha:PE X o ta) (hv:PE X value tv) (hs:swapsWith value (some (.Attribute o f pos')) pos.line X.env = pure false):PS X (.Assign [.Attribute o f pos'] value pos) (sFld X.K ta tv f):=by
  intro pins s σ H D I h
  refine plainObj_wpAny_Assign_Attribute (thn (hv pins s σ H _ I h) fun u s1 ⟨y,H1,I1,ry,q⟩ => thn (ha pins s1 σ H1 _ I1 q) fun ov s2 ⟨x,H2,I2,rx,a,C,dx,fs,ex,ea,c,n,l,q2⟩ => ?_) hs
  subst ex
  obtain rfl:ov = Value.ref a:=rx
  exact setattr_ok I2 ea c n l ry fun s3 I3 => ⟨σ,_,I3,q2⟩
theorem ps_fldaug {op:Operator} {rd:V → V → Hp → VK → Prop} (ha:PE X o ta) (hv:PE X value tv) (hop:InOp X op rd):PS X (.AugAssign (.Attribute o f tpos) op value pos) (sFldAug X.K ta tv rd f):=by
  intro pins s σ H D I h
  refine wpAny_AugAssign_AttributeAny (thn (ha pins s σ H _ I h) fun ov s1 ⟨x,H1,I1,rx,a,C,dx,fs,v,ex,ea,c,n,l,q⟩ => ?_)
  subst ex
  obtain rfl:ov = Value.ref a:=rx
  refine getattr_ok I1 ea c n l fun u s2 I2 ru => thn (hv pins s2 σ H1 _ I2 q) fun w3 s3 ⟨y,H2,I3,ry,q3⟩ => thn (hop pins s3 σ H2 v y u w3 _ I3 ru ry q3) fun w4 s4 ⟨z,H3,I4,rz,dx',fs',ea',l',q4⟩ => ?_
  exact setattr_ok I4 ea' c n l' rz fun s5 I5 => ⟨σ,_,I5,q4⟩
noncomputable def rAdd:V → V → Hp → VK → Prop:=fun x y H Q => ∃ i j,x = .int i ∧ y = .int j ∧ Q (.int (i + j)) H
theorem in_add:InOp X .Add rAdd:=by
  rintro pins s σ H x y u v Q I rx ry ⟨i,j,rfl,rfl,q⟩
  obtain ⟨t,rfl⟩:=(show ∃ t,u = Value.int i t from rx)
  obtain ⟨t',rfl⟩:=(show ∃ t',v = Value.int j t' from ry)
  exact PyProof.Rows.iadd_int ⟨.int (i + j),H,I.tok _,⟨_,rfl⟩,q⟩
end
end L2
namespace L2
open PySem PySem.Spec PyProof.Rows
structure Room (k:Nat) (A:Around):Prop where
  hd:A.handled = none
  dp:A.depth + 3 * k + 5 < recursionLimit
  un:A.units + 16 * k + 200 < cLine
theorem Room.mono {j k:Nat} {A:Around} (r:Room k A) (h:j ≤ k):Room j A:=⟨r.hd,by have:=r.dp; omega,by have:=r.un; omega⟩
theorem Room.deeper {k:Nat} {A:Around} (r:Room (k + 1) A) (env:Env):Room k (A.deeper env) :=
  ⟨r.hd,by have:=r.dp; show A.depth + 1 + 3 * k + 5 < _; omega,by have:=r.un; show A.units + 3 + 16 * k + 200 < _; omega⟩
theorem make_depth {A:Around} {C:Addr} {us:List Value} {kw:List (Str × Value)}:(A.under (.builtin "type.__call__" ⟨.ref C :: us,kw⟩)).depth = A.depth + 1:=by
  first | rfl | simp [Around.under,Code.weight,Code.isCreation,Code.isGuard,Code.isCaller,Code.frames,Code.isFrame,guardIds]
theorem make_units {A:Around} {C:Addr} {us:List Value} {kw:List (Str × Value)}:(A.under (.builtin "type.__call__" ⟨.ref C :: us,kw⟩)).units = A.units + 1:=by
  first | rfl | simp [Around.under,Code.cUnits,Code.frames,Code.isFrame]
theorem Room.make {k:Nat} {A:Around} (r:Room (k + 1) A) (C:Addr) (us:List Value) (kw:List (Str × Value)):Room k (A.under (.builtin "type.__call__" ⟨.ref C :: us,kw⟩)) :=
  ⟨r.hd,by have:=r.dp; rw [make_depth]; omega,by have:=r.un; rw [make_units]; omega⟩
theorem Room.depth {k:Nat} {A:Around} (r:Room k A):A.depth < recursionLimit:=by have:=r.dp; omega
noncomputable def tNil:TA:=fun _ H Q => Q [] H
noncomputable def tCons (ta:TE) (tr:TA):TA:=fun σ H Q => ta σ H fun x H1 => tr σ H1 fun xs H2 => Q (x :: xs) H2
section
variable {X:Cx} {e:Expr} {es:List Expr} {te:TE} {t:TA} {pos:Pos}
theorem pa_nil:PA X [] tNil:=fun _ _ _ _ H Q I h => Calls.spliced_nil ⟨[],H,I,.nil,h⟩
theorem pa_cons (ha:PE X e te) (hr:PA X es t) (hs:starEach (e :: es) X.env = (false,eval e X.env) :: starEach es X.env:=by rfl):PA X (e :: es) (tCons te t):=by
  intro pos pins s σ H Q I h
  rw [hs]
  show wpAny _ _ (spliced ((false,eval e X.env) :: backTo pos (starEach es X.env))) _ _ s
  refine Calls.spliced_cons (thn (ha pins s σ H _ I h) fun u s1 ⟨x,H1,I1,r1,q1⟩ => ?_)
  exact thn (hr pos pins s1 σ H1 _ I1 q1) fun us s2 ⟨xs,H2,I2,r2,q2⟩ => ⟨x :: xs,H2,I2,.cons r1 r2,q2⟩
noncomputable def tTup (t:TA):TE:=fun σ H Q => t σ H fun xs H1 => xs.length ≤ sizeLine ∧ ∀ p,H1 p = none → Q (.ref p) (upd H1 p (.tup xs))
noncomputable def tLst (t:TA):TE:=fun σ H Q => t σ H fun xs H1 => xs.length ≤ sizeLine ∧ ∀ p,H1 p = none → Q (.ref p) (upd H1 p (.lst xs))
theorem pe_tup {x1} (h:PA X es t):PE X (.Tuple es x1 pos) (tTup t):=by
  intro pins s σ H Q I hq
  refine wpAny_Tuple_spliced (thn (h pos pins s σ H _ I hq) fun us s1 ⟨xs,H1,I1,r,z,q⟩ => ⟨by rw [← r.length]; exact z,?_⟩)
  have hf:H1 s1.heap.objs.size = none:=I1.hok.fresh (Nat.le_refl _)
  refine ⟨.ref s1.heap.objs.size,upd H1 s1.heap.objs.size (.tup xs),I1.laid (t':=s1.toks) (fun b u e => Heap.get?_push_of_some _ e) (Nat.le_refl _) ?_,rfl,q _ hf⟩
  exact ⟨z,us,r,⟨_,Heap.get?_push_size _ rfl,rfl,_,rfl⟩⟩
theorem pe_lst (h:PA X es t):PE X (.List es pos) (tLst t):=by
  intro pins s σ H Q I hq
  refine wpAny_List_spliced (thn (h pos pins s σ H _ I hq) fun us s1 ⟨xs,H1,I1,r,z,q⟩ => ⟨by rw [← r.length]; exact z,?_⟩)
  have hf:H1 s1.heap.objs.size = none:=I1.hok.fresh (Nat.le_refl _)
  refine ⟨.ref s1.heap.objs.size,upd H1 s1.heap.objs.size (.lst xs),I1.laid (t':=s1.toks) (fun b u e => Heap.get?_push_of_some _ e) (Nat.le_refl _) ?_,rfl,q _ hf⟩
  exact ⟨z,us,0,r,Heap.get?_push_size _ rfl⟩
end
noncomputable abbrev Sp:=List V → Hp → VK → XK → Prop
noncomputable abbrev CXT:=List Env → Hp → Shared → XK → Value → Shared → Prop
structure Env0 (P:Program) (w:World) (K:PySem.W.Frag) (mg:Str → Option Value) (base:Heap) (A:Around) (outer:List Env) (s:Shared) (H:Hp):Prop where
  frames:A.frames = some outer
  mod:Mod K mg base
  bs:∀ b o,base.get? b = some o → s.heap.get? b = some o ∧ H b = none
  bsz:base.objs.size ≤ s.heap.objs.size
  funs:s.heap.FunFrames base outer
  frf:∀ b ∈ frs outer,H b = none
  hok:HOk P w H s.heap
  bare:AllBare s.gens
noncomputable def CE (outer:List Env) (P:Program) (w:World) (H:Hp) (s:Shared) (Q:VK) (u:Value) (s':Shared):Prop :=
  ∃ v H',s'.os = s.os ∧ AllBare s'.gens ∧ Un (frs outer) [] H H' s.heap s'.heap ∧ HOk P w H' s'.heap ∧ RelV v u ∧ Q v H'
noncomputable def CR (CX:CXT) (outer:List Env) (P:Program) (w:World) (H:Hp) (s:Shared) (Q:VK) (E:XK) (r:Result) (s':Shared):Prop :=
  match r with
  | .ok (.ret u) => CE outer P w H s Q u s'
  | .ok _ => False
  | .error e => CX outer H s E e s'
structure FnOk (P:Program) (w:World) (K:PySem.W.Frag) (mg:Str → Option Value) (base:Heap) (CX:CXT) (k:Nat) (f:Addr) (fd:FuncData) (ps:List Str) (sp:Sp):Prop where
  len:∀ vs H Q E,sp vs H Q E → vs.length = ps.length
  run:∀ (A:Around) (outer:List Env) (s:Shared) (H:Hp) (args:Args) (us:List Value) (vs:List V) (Q:VK) (E:XK),Room k A → Env0 P w K mg base A outer s H → BindsTo s fd args (ps.zip us) → Vals vs us → sp vs H Q E →
    codeAny (model P w) A (.call (.ref f) args) (CR CX outer P w H s Q E) s
theorem FnOk.mono {P:Program} {w:World} {K:PySem.W.Frag} {mg:Str → Option Value} {base:Heap} {CX:CXT} {j k:Nat} {f:Addr} {fd:FuncData} {ps:List Str} {sp:Sp} (F:FnOk P w K mg base CX j f fd ps sp) (h:j ≤ k) :
    FnOk P w K mg base CX k f fd ps sp:=⟨F.len,fun A outer s H args us vs Q E hr => F.run A outer s H args us vs Q E (hr.mono h)⟩
theorem FnOk.imp {P:Program} {w:World} {K:PySem.W.Frag} {mg:Str → Option Value} {base:Heap} {CX:CXT} {k:Nat} {f:Addr} {fd:FuncData} {ps:List Str} {sp sp':Sp} (F:FnOk P w K mg base CX k f fd ps sp)
    (h:∀ vs H Q E,sp' vs H Q E → sp vs H Q E):FnOk P w K mg base CX k f fd ps sp' :=
  ⟨fun vs H Q E q => F.len vs H Q E (h _ _ _ _ q),fun A outer s H args us vs Q E hr he hb hv hs => F.run A outer s H args us vs Q E hr he hb hv (h _ _ _ _ hs)⟩
theorem Env0.make {P:Program} {w:World} {K:PySem.W.Frag} {mg:Str → Option Value} {base:Heap} {A:Around} {outer:List Env} {s:Shared} {H:Hp} (e:Env0 P w K mg base A outer s H) (C:Addr) (us:List Value) (kw:List (Str × Value)) :
    Env0 P w K mg base (A.under (.builtin "type.__call__" ⟨.ref C :: us,kw⟩)) outer s H:=⟨by first | exact e.frames | (simpa [Around.under,Code.envs,Code.isFrame,pushEnvs] using e.frames),e.mod,e.bs,e.bsz,e.funs,e.frf,e.hok,e.bare⟩
section
variable {X:Cx} {pins:List (Addr × Obj)} {σ:St} {H:Hp} {s s':Shared}
theorem Inv.env0 (I:Inv X pins σ H s):Env0 X.prog X.w X.K X.mg X.base X.A X.stack s H :=
  ⟨I.ok.frames,I.ok.mod,I.bs,Nat.le_trans I.ok.bsz I.sz,I.stack,I.stkFree,I.hok,I.bare⟩
theorem Inv.after {Q:VK} {u:Value} (I:Inv X pins σ H s) (h:CE X.stack X.prog X.w H s Q u s'):EP X pins σ Q u s':=by
  obtain ⟨v,H',os,bare,un,hok,r,q⟩:=h
  obtain ⟨hh,g,d,t,os'⟩:=s'
  obtain rfl:os' = s.os:=os
  exact ⟨v,H',I.call (h':=hh) (g':=g) (d':=d) (t':=t) (ch:=[]) un hok bare (fun b z => absurd z (by simp)),r,q⟩
end
noncomputable def tCall (sp:Sp) (dvs:List V) (E:XK) (t:TA):TE:=fun σ H Q => t σ H fun vs H1 => sp (vs ++ dvs) H1 Q E
noncomputable def tMeth (C:Addr) (m:Str) (sp:Sp) (dvs:List V) (E:XK) (ta:TE) (t:TA):TE:=fun σ H Q => ta σ H fun x H1 => ∃ a dx fs,x = .ref a ∧ H1 a = some (.ins C dx fs) ∧ fs.lookup m = none ∧
  t σ H1 fun vs H2 => sp (x :: (vs ++ dvs)) H2 Q E
noncomputable def tMake (C:Addr) (sp:Sp) (dvs:List V) (E:XK) (t:TA):TE:=fun σ H Q => t σ H fun vs H1 => ∀ x dx,H1 x = none → H1 dx = none → dx ≠ x →
  sp (.ref x :: (vs ++ dvs)) (upd (upd H1 dx (.own x)) x (.ins C dx [])) (fun v H2 => v = .non ∧ Q (.ref x) H2) E
noncomputable def Binds (K:PySem.W.Frag) (fd:FuncData) (ps:List Str) (ds:List Value):Prop :=
  ∀ (s:Shared) (us:List Value),K.In s.heap → (us ++ ds).length = ps.length → BindsTo s fd ⟨us,[]⟩ (ps.zip (us ++ ds))
theorem Binds.all {K:PySem.W.Frag} {fd:FuncData} {ps:List Str} (h:∀ us:List Value,us.length = ps.length → bindArgs fd ⟨us,[]⟩ = pure (ps.zip us)):Binds K fd ps []:=fun s us _ hl => by
  rw [List.append_nil] at hl ⊢
  exact .of_eq (h us hl)
noncomputable def Passes (CX:CXT) (X:Cx) (E:XK):Prop:=∀ (pins:List (Addr × Obj)) (σ:St) (H:Hp) (s:Shared) (e:Value) (s':Shared),Inv X pins σ H s → CX X.stack H s E e s' → X.xe e s'
section
variable {X:Cx} {CX:CXT} {k:Nat} {f C:Addr} {fd:FuncData} {ps:List Str} {sp:Sp} {dvs:List V} {ds:List Value} {E:XK} {x m:Str} {p pos apos:Pos} {e o:Expr} {es:List Expr} {ta:TE} {t:TA}
theorem run_fn {pins:List (Addr × Obj)} {σ:St} {H:Hp} {s:Shared} {Q:VK} {us:List Value} {vs:List V} (F:FnOk X.prog X.w X.K X.mg X.base CX k f fd ps sp) (hr:Room k X.A) (hb:Binds X.K fd ps ds) (hd:Vals dvs ds) (hx:Passes CX X E)
    (I:Inv X pins σ H s) (r:Vals vs us) (h:sp (vs ++ dvs) H Q E):wpAny (model X.prog X.w) X.A (call (.ref f) us) (EP X pins σ Q) X.xe s:=by
  have r2:Vals (vs ++ dvs) (us ++ ds):=r.append hd
  have hl:(us ++ ds).length = ps.length:=by rw [← r2.length]; exact F.len _ _ _ _ h
  refine wpAny_call (codeAny_mono (F.run X.A X.stack s H ⟨us,[]⟩ (us ++ ds) (vs ++ dvs) Q E hr I.env0 (hb s us I.kIn hl) r2 h) fun r s' hq => ?_)
  cases r with
  | error e => exact hx pins σ H s e s' I hq
  | ok fl =>
    cases fl with
    | ret u => exact I.after hq
    | next => exact False.elim hq
    | brk => exact False.elim hq
    | cont => exact False.elim hq
theorem pe_call (F:FnOk X.prog X.w X.K X.mg X.base CX k f fd ps sp) (hr:Room k X.A) (hg:Gl X x) (hm:X.mg x = some (.ref f)) (hk:PySem.W.keepIn X.K (.ref f) = true) (hb:Binds X.K fd ps ds) (hd:Vals dvs ds) (hx:Passes CX X E)
    (ha:PA X (e :: es) t) (hdb:(x == ("__debug__":Str)) = false:=by decide) (he:starEach (e :: es) X.env = (false,eval e X.env) :: starEach es X.env:=by rfl) (hpl:(backTo pos (starEach es X.env)).any (·.1) = false:=by rfl) :
    PE X (.Call (.Name x p) (e :: es) [] pos) (tCall sp dvs E t):=by
  intro pins s σ H Q I h
  refine wpAny_Call_Name_kw (ld_glob I hg hm ?_ hdb)
  refine PySem.W.callWith_K (h₀:=X.base) I.ok.mod.kin hk (thn (ha pos pins s σ H _ I h) fun us s1 ⟨vs,H1,I1,r,q⟩ => ⟨I1.kIn,?_⟩) he hpl
  exact run_fn F hr hb hd hx I1 r q
theorem pe_meth {pl:Sem Bool} (he:PE X o ta) (c:Cls X.K C) (hm:Meth X.K C m f) (F:FnOk X.prog X.w X.K X.mg X.base CX k f fd ps sp) (hr:Room k X.A) (hb:Binds X.K fd ps ds) (hd:Vals dvs ds) (hx:Passes CX X E) (ha:PA X (e :: es) t)
    (hst:starEach (e :: es) X.env = (false,eval e X.env) :: starEach es X.env:=by rfl) (hpl:(backTo pos (starEach es X.env)).any (·.1) = false:=by rfl)
    (ht:eval (.Call (.Attribute o m apos) (e :: es) [] pos) X.env = (do
      let ov ← eval o X.env
      standAt apos.atName
      let (f,first) ← holding [ov] (getMethod ov m pl)
      callWith pos f first (backTo pos (starEach (e :: es) X.env)) (backToKw pos (keywordEach [] X.env))):=by rfl) :
    PE X (.Call (.Attribute o m apos) (e :: es) [] pos) (tMeth C m sp dvs E ta t):=by
  intro pins s σ H Q I h
  refine PySem.W.methodCall_KW (pl:=pl) (thn (he pins s σ H _ I h) fun u s1 ⟨x,H1,I1,rx,a,dx,fs,ex,ea,l,q⟩ => ?_) ht
  subst ex
  obtain rfl:u = Value.ref a:=rx
  refine getmeth_ok I1 ea c hm l ?_
  refine PySem.W.callWith_K (first:=[.ref a]) (h₀:=X.base) I.ok.mod.kin hm.kp (thn (ha pos pins s1 σ H1 _ I1 q) fun us s2 ⟨vs,H2,I2,r,q2⟩ => ⟨I2.kIn,?_⟩) hst hpl
  exact run_fn (us:=.ref a :: us) (vs:=.ref a :: vs) F hr hb hd hx I2 (.cons rfl r) q2
theorem pe_meth0 {pl:Sem Bool} (he:PE X o ta) (c:Cls X.K C) (hm:Meth X.K C m f) (F:FnOk X.prog X.w X.K X.mg X.base CX k f fd ps sp) (hr:Room k X.A) (hb:Binds X.K fd ps ds) (hd:Vals dvs ds) (hx:Passes CX X E)
    (ht:eval (.Call (.Attribute o m apos) [] [] pos) X.env = (do
      let ov ← eval o X.env
      standAt apos.atName
      let (f,first) ← holding [ov] (getMethod ov m pl)
      callWith pos f first (backTo pos (starEach [] X.env)) (backToKw pos (keywordEach [] X.env))):=by rfl) :
    PE X (.Call (.Attribute o m apos) [] [] pos) (tMeth C m sp dvs E ta tNil):=by
  intro pins s σ H Q I h
  refine PySem.W.methodCall_KW (pl:=pl) (thn (he pins s σ H _ I h) fun u s1 ⟨x,H1,I1,rx,a,dx,fs,ex,ea,l,q⟩ => ?_) ht
  subst ex
  obtain rfl:u = Value.ref a:=rx
  refine getmeth_ok I1 ea c hm l ?_
  exact PySem.W.callWith_K0 (first:=[.ref a]) I1.kIn hm.kp (run_fn (us:=[.ref a]) (vs:=[.ref a]) F hr hb hd hx I1 (.cons rfl .nil) q)
structure Mk (K:PySem.W.Frag) (C f:Addr):Prop where
  makes:PySem.W.makesIn K C = true
  init:PySem.W.findIn K (.ref C) "__init__" = some (some (.ref f))
  fn:PySem.W.isFn K (.ref f) = true
  kp:PySem.W.keepIn K (.ref C) = true
theorem run_make {pins:List (Addr × Obj)} {σ:St} {H:Hp} {s:Shared} {Q:VK} {us:List Value} {vs:List V} (M:Mk X.K C f) (F:FnOk X.prog X.w X.K X.mg X.base CX k f fd ps sp) (hr:Room (k + 1) X.A) (hb:Binds X.K fd ps ds) (hd:Vals dvs ds)
    (hx:Passes CX X E) (I:Inv X pins σ H s) (r:Vals vs us)
    (h:∀ x dx,H x = none → H dx = none → dx ≠ x → sp (.ref x :: (vs ++ dvs)) (upd (upd H dx (.own x)) x (.ins C dx [])) (fun v H2 => v = .non ∧ Q (.ref x) H2) E) :
    wpAny (model X.prog X.w) X.A (call (.ref C) us) (EP X pins σ Q) X.xe s:=by
  have hq:=h (s.heap.objs.size + 1) s.heap.objs.size (I.hok.fresh (Nat.le_succ _)) (I.hok.fresh (Nat.le_refl _)) (Nat.ne_of_lt (Nat.lt_succ_self _))
  have I2:=Inv.made (C:=C) I
  have r2:Vals (V.ref (s.heap.objs.size + 1) :: (vs ++ dvs)) (Value.ref (s.heap.objs.size + 1) :: (us ++ ds)):=.cons rfl (r.append hd)
  have hl:(Value.ref (s.heap.objs.size + 1) :: us ++ ds).length = ps.length:=by
    have e:=r2.length
    rw [F.len _ _ _ _ hq] at e
    exact e.symm
  refine wpAny_call (make_map (f:=f) I.kIn M.makes M.init (beq_iff_eq.mp M.fn) (codeAny_mono (F.run _ X.stack _ _ ⟨Value.ref (s.heap.objs.size + 1) :: us,[]⟩ (Value.ref (s.heap.objs.size + 1) :: (us ++ ds)) _ _ E (hr.make C us [])
    (I2.env0.make C us []) (hb _ (Value.ref (s.heap.objs.size + 1) :: us) I2.kIn hl) r2 hq) fun r s' hq' => ?_))
  cases r with
  | error e => exact hx pins σ _ _ e s' I2 hq'
  | ok fl =>
    cases fl with
    | ret u =>
      obtain ⟨v,H',I3,rv,ev,q3⟩:=I2.after hq'
      subst ev
      exact ⟨rv,⟨V.ref (s.heap.objs.size + 1),H',I3,rfl,q3⟩⟩
    | next => exact False.elim hq'
    | brk => exact False.elim hq'
    | cont => exact False.elim hq'
theorem pe_make (M:Mk X.K C f) (F:FnOk X.prog X.w X.K X.mg X.base CX k f fd ps sp) (hr:Room (k + 1) X.A) (hg:Gl X x) (hm:X.mg x = some (.ref C)) (hb:Binds X.K fd ps ds) (hd:Vals dvs ds) (hx:Passes CX X E)
    (ha:PA X (e :: es) t) (hdb:(x == ("__debug__":Str)) = false:=by decide) (he:starEach (e :: es) X.env = (false,eval e X.env) :: starEach es X.env:=by rfl) (hpl:(backTo pos (starEach es X.env)).any (·.1) = false:=by rfl) :
    PE X (.Call (.Name x p) (e :: es) [] pos) (tMake C sp dvs E t):=by
  intro pins s σ H Q I h
  refine wpAny_Call_Name_kw (ld_glob I hg hm ?_ hdb)
  refine PySem.W.callWith_K (h₀:=X.base) I.ok.mod.kin M.kp (thn (ha pos pins s σ H _ I h) fun us s1 ⟨vs,H1,I1,r,q⟩ => ⟨I1.kIn,?_⟩) he hpl
  exact run_make M F hr hb hd hx I1 r q
theorem pe_make0 (M:Mk X.K C f) (F:FnOk X.prog X.w X.K X.mg X.base CX k f fd ps sp) (hr:Room (k + 1) X.A) (hg:Gl X x) (hm:X.mg x = some (.ref C)) (hb:Binds X.K fd ps ds) (hd:Vals dvs ds) (hx:Passes CX X E)
    (hdb:(x == ("__debug__":Str)) = false:=by decide):PE X (.Call (.Name x p) [] [] pos) (tMake C sp dvs E tNil):=by
  intro pins s σ H Q I h
  refine wpAny_Call_Name_kw (ld_glob I hg hm ?_ hdb)
  exact PySem.W.callWith_K0 I.kIn M.kp (run_make (us:=[]) M F hr hb hd hx I .nil h)
end
noncomputable def PK (X:Cx) (kws:List Keyword) (t:TA):Prop :=
  ∀ (pos:Pos) (pins:List (Addr × Obj)) (s:Shared) (σ:St) (H:Hp) (Q:List V → Hp → Prop),Inv X pins σ H s → t σ H Q → wpAny (model X.prog X.w) X.A (evalAll ((backToKw pos (keywordEach kws X.env)).map (·.2))) (AP X pins σ Q) X.xe s
section
variable {X:Cx} {CX:CXT} {k:Nat} {f C:Addr} {fd:FuncData} {ps ks:List Str} {sp:Sp} {E:XK} {x m:Str} {p pos apos kpos:Pos} {e o:Expr} {es:List Expr} {kws:List Keyword} {te ta:TE} {t tk:TA} {nm:Option Str}
theorem pk_nil:PK X [] tNil:=fun _ _ _ _ H Q I h => wpAny_evalAll_nil ⟨[],H,I,.nil,h⟩
theorem pk_cons (ha:PE X e te) (hr:PK X kws t):PK X (⟨nm,e,kpos⟩ :: kws) (tCons te t):=by
  intro pos pins s σ H Q I h
  show wpAny _ _ (evalAll ((do let v ← eval e X.env; standAt pos; pure v) :: (backToKw pos (keywordEach kws X.env)).map (·.2))) _ _ s
  refine wpAny_evalAll_cons (wpAny_bind (thn (ha pins s σ H _ I h) fun u s1 ⟨x,H1,I1,r1,q1⟩ => wpAny_bind (wpAny_standAt (wpAny_pure ?_))))
  exact thn (hr pos pins s1 σ H1 _ I1 q1) fun us s2 ⟨xs,H2,I2,r2,q2⟩ => ⟨x :: xs,H2,I2,.cons r1 r2,q2⟩
variable {g:List Value → List Value → List Value} {gV:List V → List V → List V}
end
structure FnScope (N P:List Str) (sc:Scope):Prop where
  kind:sc.kind = .function
  co:sc.isCoroutine = false
  gen:sc.isGenerator = false
  nd:N.Nodup
  pre:N.take P.length = P
  par:∀ x ∈ P,sc.names.lookup x = some .local ∨ sc.names.lookup x = some .cell
  nofree:∀ y ∈ sc.names,y.2 ≠ .free
theorem bindL_out {kindOf:Str → Option NameKind} {x:Str}:∀ {binds:List (Str × Value)} {m:Str → Option Value},(∀ v,(x,v) ∉ binds) → bindL kindOf binds m x = m x
  | [],_,_ => rfl
  | (n,v) :: r,m,h => by
    unfold bindL
    rw [bindL_out fun w hw => h w (List.mem_cons_of_mem _ hw)]
    split
    · have:x ≠ n:=by rintro rfl; exact h v List.mem_cons_self
      simp [this]
    · rfl
theorem bindC_out {kindOf:Str → Option NameKind} {x:Str}:∀ {binds:List (Str × Value)} {m:Str → Option Value},(∀ v,(x,v) ∉ binds) → bindC kindOf binds m x = m x
  | [],_,_ => rfl
  | (n,v) :: r,m,h => by
    unfold bindC
    rw [bindC_out fun w hw => h w (List.mem_cons_of_mem _ hw)]
    split
    · rfl
    · have:x ≠ n:=by rintro rfl; exact h v List.mem_cons_self
      simp [this]
theorem bindL_get {kindOf:Str → Option NameKind} {x:Str} {v:Value}:∀ {P:List Str} {vs:List Value} {i:Nat} {m:Str → Option Value},P.Nodup → P[i]? = some x → vs[i]? = some v → kindOf x = some .local →
    bindL kindOf (P.zip vs) m x = some v
  | [],_,_,_,_,h,_,_ => by simp at h
  | _ :: _,[],_,_,_,_,h,_ => by simp at h
  | p :: P,w :: vs,0,m,nd,h1,h2,hk => by
    simp at h1 h2; subst h1; subst h2
    show bindL kindOf ((p,w) :: P.zip vs) m p = _
    unfold bindL
    rw [bindL_out fun v hv => (List.nodup_cons.mp nd).1 (List.of_mem_zip hv).1,if_pos hk]
    simp
  | p :: P,w :: vs,i + 1,m,nd,h1,h2,hk => by
    show bindL kindOf ((p,w) :: P.zip vs) m x = _
    unfold bindL
    exact bindL_get (i:=i) (List.nodup_cons.mp nd).2 (by simpa using h1) (by simpa using h2) hk
theorem bindC_get {kindOf:Str → Option NameKind} {x:Str} {v:Value}:∀ {P:List Str} {vs:List Value} {i:Nat} {m:Str → Option Value},P.Nodup → P[i]? = some x → vs[i]? = some v → kindOf x ≠ some .local →
    bindC kindOf (P.zip vs) m x = some v
  | [],_,_,_,_,h,_,_ => by simp at h
  | _ :: _,[],_,_,_,_,h,_ => by simp at h
  | p :: P,w :: vs,0,m,nd,h1,h2,hk => by
    simp at h1 h2; subst h1; subst h2
    show bindC kindOf ((p,w) :: P.zip vs) m p = _
    unfold bindC
    rw [bindC_out fun v hv => (List.nodup_cons.mp nd).1 (List.of_mem_zip hv).1,if_neg hk]
    simp
  | p :: P,w :: vs,i + 1,m,nd,h1,h2,hk => by
    show bindC kindOf ((p,w) :: P.zip vs) m x = _
    unfold bindC
    exact bindC_get (i:=i) (List.nodup_cons.mp nd).2 (by simpa using h1) (by simpa using h2) hk
noncomputable def start (N:List Str) (vs:List V):St:=vs.map some ++ List.replicate (N.length - vs.length) none
noncomputable def cxOf (CX:CXT) (P:Program) (w:World) (K:PySem.W.Frag) (mg:Str → Option Value) (base:Heap) (N:List Str) (qual:Str) (scope:Scope) (f:Addr) (cd:Value) (A:Around) (outer:List Env) (s:Shared) (H:Hp) (E:XK):Cx where
  prog:=P
  w:=w
  K:=K
  mg:=mg
  base:=base
  A:=A.deeper (envOfC qual scope s.heap.objs.size f cd)
  N:=N
  s_0:=s
  H_0:=H
  env:=envOfC qual scope s.heap.objs.size f cd
  outer:=outer
  stack:=envOfC qual scope s.heap.objs.size f cd :: outer
  ex:=[]
  calm:=true
  fn:=fun _ => true
  pn:=[]
  xe:=fun e s' => wpAny (model P w) (A.deeper (envOfC qual scope s.heap.objs.size f cd)) (leaving (envOfC qual scope s.heap.objs.size f cd) e) (fun _ s'' => CX outer H s E e s'') (fun e' s'' => CX outer H s E e' s'') s'
theorem cell_has {sc:Scope} {n:Nat} {x:Str} (h:sc.names.lookup x = some .cell):∃ c,(cellsFrom n sc.names []).lookup x = some c:=by
  have q:=PySem.W.cellsFrom_some sc.names n [] (.inl h)
  exact Option.isSome_iff_exists.mp q
theorem inv_start {CX:CXT} {P:Program} {w:World} {K:PySem.W.Frag} {mg:Str → Option Value} {base:Heap} {N ps:List Str} {qual:Str} {scope:Scope} {f:Addr} {cd:Value} {A:Around} {outer:List Env} {s s1:Shared} {H:Hp} {E:XK} {us:List Value} {vs:List V}
    (S:FnScope N ps scope) (hd:A.handled = none) (e0:Env0 P w K mg base A outer s H) (hl:vs.length = ps.length) (r:Vals vs us)
    (x:InCallC s s.heap.objs.size (bindL (envOfC qual scope s.heap.objs.size f cd).kindOf (ps.zip us) fun _ => none) (cellsFrom (s.heap.objs.size + 1) scope.names []) (bindC (envOfC qual scope s.heap.objs.size f cd).kindOf (ps.zip us) fun _ => none) s1) :
    Inv (cxOf CX P w K mg base N qual scope f cd A outer s H E) [] (start N vs) H s1:=by
  have hpl:ps.length ≤ N.length:=by have:=congrArg List.length S.pre; rw [List.length_take] at this; omega
  obtain ⟨h1,tk,rfl,hk⟩:=x.done
  have noA:∀ b:Addr,b ∉ (cxOf CX P w K mg base N qual scope f cd A outer s H E).ex:=fun b z => absurd (show b ∈ ([]:List Addr) from z) (by simp)
  refine ⟨⟨e0.mod,S.kind,rfl,rfl,Nat.le_refl _,fun y z c h1 h2 => ?_,fun y hy => ?_,fun y c _ h => ?_,fun _ => hd,Around.frames_deeper e0.frames,.inr ⟨rfl,rfl⟩,fun b z => absurd z (noA b),e0.bs,e0.bsz,fun b _ _ => noA b,fun b z => absurd z (noA b),e0.funs,e0.frf⟩,
    rfl,e0.bare,Un.kept hk,⟨_,x.toInCall.ns,fun i y v h1 h2 h3 => ?_⟩,fun y c h => ⟨_,x.cell y c h⟩,e0.hok.fresh (Nat.le_refl _),fun y c h => ?_,fun p hp => absurd (show p ∈ ([]:List (Addr × Obj)) from hp) (by simp),e0.hok.kept hk,?_⟩
  · exact name_of_addr x.apart (PySem.mem_of_lookup h1) (PySem.mem_of_lookup h2)
  · have hy:scope.names.lookup y = some .cell ∨ scope.names.lookup y = some .free:=hy
    rcases hy with hy | hy
    · exact cell_has hy
    · exact absurd rfl (S.nofree _ (PySem.mem_of_lookup hy))
  · exact Nat.le_of_lt (x.above y c (PySem.mem_of_lookup h))
  · have hi:i < vs.length:=by
      unfold start at h2
      by_cases hi:i < vs.length
      · exact hi
      · rw [List.getElem?_append_right (by simpa using hi)] at h2
        rw [List.getElem?_replicate] at h2
        split at h2 <;> cases h2
    have ha:vs[i]? = some v:=by
      unfold start at h2
      rw [List.getElem?_append_left (by simpa using hi),List.getElem?_map] at h2
      cases e:vs[i]? with
      | none => rw [e] at h2; cases h2
      | some a => rw [e] at h2; cases h2; rfl
    obtain ⟨u,hu,rv⟩:=r.get ha
    have hp:ps[i]? = some y:=by
      rw [← S.pre,List.getElem?_take_of_lt (by omega)]; exact h1
    have ndP:ps.Nodup:=by rw [← S.pre]; exact S.nd.sublist (List.take_sublist _ _)
    refine ⟨u,rv,?_⟩
    rcases S.par y (List.mem_of_getElem? hp) with k | k
    · exact .inl ⟨k,bindL_get ndP hp hu k⟩
    · obtain ⟨c,e⟩:=cell_has (n:=s.heap.objs.size + 1) k
      refine .inr ⟨.inl k,c,e,?_⟩
      have q:=x.cell y c e
      rw [bindC_get ndP hp hu (by show scope.names.lookup y ≠ _; rw [k]; decide)] at q
      exact q
  · exact e0.hok.fresh (Nat.le_of_lt (x.above y c (PySem.mem_of_lookup h)))
  · unfold start
    show _ = N.length
    rw [List.length_append,List.length_map,List.length_replicate]
    omega
theorem fn_of {CX:CXT} {P:Program} {w:World} {K:PySem.W.Frag} {mg:Str → Option Value} {base:Heap} {k:Nat} {f:Addr} {name qual:Str} {params:Arguments} {body:List Stmt} {scope:Scope} {dV kV doc pm cdv ct oc:Value} {an od:Option Addr}
    {osl:Array (Option Value)} {N ps:List Str} {sp:Sp} (lk:K.lookup f = some ⟨oc,od,.func (PySem.W.fnOf name qual params body scope dV kV doc pm an cdv ct),osl⟩) (hcd:PySem.W.codeIn K cdv qual = true) (S:FnScope N ps scope)
    (len:∀ vs H Q E,sp vs H Q E → vs.length = ps.length)
    (hbody:∀ (A:Around) (outer:List Env) (s:Shared) (H:Hp) (vs:List V) (Q:VK) (E:XK),Room k (A.deeper (envOfC qual scope s.heap.objs.size f cdv)) → sp vs H Q E →
      ∃ t,PSs (cxOf CX P w K mg base N qual scope f cdv A outer s H E) body t ∧ t { nx:=fun _ H' => Q .non H',rt:=Q } (start N vs) H) :
    FnOk P w K mg base CX (k + 1) f (PySem.W.fnOf name qual params body scope dV kV doc pm an cdv ct) ps sp:=by
  refine ⟨len,fun A outer s H args us vs Q E hr e0 hb r hsp => ?_⟩
  have hl:=len _ _ _ _ hsp
  have KX:K.In s.heap:=e0.mod.kin.keeps fun b o e => (e0.bs b o e).1
  have lim:s.heap.NoLimit:=e0.mod.nolimit.keeps fun b o e => (e0.bs b o e).1
  have hkind:∀ y ∈ ps.zip us,scope.names.lookup y.1 = some .local ∨ (scope.names.lookup y.1 = some .cell ∧ ((cellsFrom (s.heap.objs.size + 1) scope.names []).lookup y.1).isSome = true):=fun ⟨n,v⟩ hy => by
    rcases S.par n (List.of_mem_zip hy).1 with q | q
    · exact .inl q
    · exact .inr ⟨q,PySem.W.cellsFrom_some _ _ _ (.inl q)⟩
  refine codeAny_call_function hr.depth (KX _ _ lk) rfl S.co S.gen rfl (PySem.W.codeRec_of KX hcd) (hb _ _ _ _ ?_)
  refine wpAny_newFunctionEnv_cells S.kind hkind fun env he s1 x => ?_
  subst he
  refine ⟨lim.keeps x.toInCall.keep,codeAny_func ?_⟩
  obtain ⟨t,ht,hq⟩:=hbody A outer s H vs Q E (hr.deeper _) hsp
  have I:Inv (cxOf CX P w K mg base N qual scope f cdv A outer s H E) [] (start N vs) H s1:=inv_start S hr.hd e0 hl r x
  refine wpAny_mono (ht [] s1 (start N vs) H _ I hq) (fun fl s' hs => ?_) fun e s' hs => hs
  have fin:∀ {σ':St} {H':Hp} {v:V} {u:Value},Inv (cxOf CX P w K mg base N qual scope f cdv A outer s H E) [] σ' H' s' → RelV v u → Q v H' → CE outer P w H s Q u s' :=
    fun {σ' H' v u} J rv q => ⟨v,H',J.os,J.bare,J.base,J.hok,rv,q⟩
  cases fl with
  | ret u =>
    obtain ⟨v,σ',H',J,rv,q⟩:=hs
    exact fin J rv q
  | next =>
    obtain ⟨σ',H',J,q⟩:=hs
    exact fin (v:=V.non) (u:=Value.none) J rfl q
  | brk =>
    obtain ⟨_,_,_,q⟩:=hs
    exact False.elim q
  | cont =>
    obtain ⟨_,_,_,q⟩:=hs
    exact False.elim q
end L2
namespace L2
open PySem PySem.Spec PyProof.Rows
section
variable {X:Cx} {x:Str} {p pos:Pos} {e:Expr} {es:List Expr} {t:TA} {id T:String} {r:List V → Hp → VK → Prop}
noncomputable def tCB (r:List V → Hp → VK → Prop) (t:TA):TE:=fun σ H Q => t σ H fun vs H1 => r vs H1 Q
theorem pe_callB (hc:CallR X (.builtin id) r) (hg:Gl X x) (hm:X.mg x = none) (hv:bootBuiltins x = some (.builtin id)) (ha:PA X (e :: es) t) (hn:x ≠ "__name__":=by decide) (hdb:(x == ("__debug__":Str)) = false:=by decide)
    (he:starEach (e :: es) X.env = (false,eval e X.env) :: starEach es X.env:=by rfl) (hpl:(backTo pos (starEach es X.env)).any (·.1) = false:=by rfl):PE X (.Call (.Name x p) (e :: es) [] pos) (tCB r t):=by
  intro pins s σ H Q I h
  refine wpAny_Call_Name_kw (ld_blt I hg hm hv ?_ hn hdb)
  exact PyProof.Rows.callWith_builtin1 (thn (ha pos pins s σ H _ I h) fun us s1 ⟨vs,H1,I1,r1,q1⟩ => hc pins s1 σ H1 vs us Q I1 r1 q1) he hpl
end
end L2
namespace HT
open PySem PyProof.Rows
section
variable {prog:Program} {w:World} {A:Around} {E:Value → Shared → Prop} {s:Shared}
noncomputable def sIx (n d:Nat):Option Int → Nat
  | none => d
  | some v => if v < 0 then (v + (n:Int)).toNat else min v.toNat n
end
end HT
namespace L2
open PySem PySem.Spec PyProof.Rows
noncomputable abbrev TO:=St → Hp → (Option Int → Hp → Prop) → Prop
noncomputable def PO (X:Cx) (e:Option Expr) (t:TO):Prop :=
  ∀ (pins:List (Addr × Obj)) (s:Shared) (σ:St) (H:Hp) (Q:Option Int → Hp → Prop),Inv X pins σ H s → t σ H Q →
    wpAny (model X.prog X.w) X.A (evalPart e X.env) (fun u s' => ∃ o H',Inv X pins σ H' s' ∧ IsPart u o ∧ Q o H') X.xe s
noncomputable def tNoPart:TO:=fun _ H Q => Q none H
noncomputable def tPart (t:TE):TO:=fun σ H Q => t σ H fun x H1 => ∃ i,x = .int i ∧ Q (some i) H1
section
variable {X:Cx} {e:Expr} {te:TE} {lo hi:Option Expr} {tl th:TO} {pos p2:Pos}
theorem po_none:PO X none tNoPart:=by
  intro pins s σ H Q I h
  rw [evalPart_none]
  exact wpAny_pure ⟨none,H,I,.none,h⟩
theorem po_some (h:PE X e te):PO X (some e) (tPart te):=by
  intro pins s σ H Q I hw
  rw [evalPart_some]
  refine thn (h pins s σ H _ I hw) fun u s1 ⟨x,H1,I1,r1,q1⟩ => ?_
  obtain ⟨i,rfl,q⟩:=q1
  obtain ⟨t,rfl⟩:=r1
  exact ⟨some i,H1,I1,.int i t,q⟩
noncomputable def SlR (X:Cx) (r:V → Option Int → Option Int → Hp → VK → Prop):Prop :=
  ∀ (pins:List (Addr × Obj)) (s:Shared) (σ:St) (H:Hp) (x:V) (v vl vu:Value) (lo hi:Option Int) (sl:Addr) (Q:VK),Inv X pins σ H s → RelV x v → s.heap.IsSliceOf sl vl vu .none → IsPart vl lo → IsPart vu hi → r x lo hi H Q →
    ∃ T id,typeLookup (.type T) "__getitem__" = pure (some (.builtin id)) ∧ s.TypeIs v T ∧ wpAny (model X.prog X.w) X.A (getItem v (.ref sl)) (EP X pins σ Q) X.xe s
noncomputable def tSl (r:V → Option Int → Option Int → Hp → VK → Prop) (te:TE) (tl th:TO):TE:=fun σ H Q => te σ H fun x H1 => tl σ H1 fun l H2 => th σ H2 fun u H3 => r x l u H3 Q
theorem pe_slice {r:V → Option Int → Option Int → Hp → VK → Prop} (hr:SlR X r) (he:PE X e te) (hl:PO X lo tl) (hu:PO X hi th):PE X (.Subscript e (.Slice lo hi none p2) pos) (tSl r te tl th):=by
  intro pins s σ H Q I h
  refine Subscript_ (thn (he pins s σ H _ I h) fun v s1 ⟨x,H1,I1,r1,q1⟩ => ?_)
  refine wpAny_Slice (thn (hl pins s1 σ H1 _ I1 q1) fun vl s2 ⟨l,H2,I2,pl,q2⟩ => thn (hu pins s2 σ H2 _ I2 q2) fun vu s3 ⟨u,H3,I3,pu,q3⟩ => ?_)
  rw [evalPart_none]
  refine wpAny_pure ?_
  have I4:Inv X pins σ H3 { s3 with heap:=s3.heap.push { cls:=.type "slice",data:=.fields #[vl,vu,.none] } }:=I3.kept (t':=s3.toks) fun b ob q => Heap.get?_push_of_some _ q
  obtain ⟨T,id,hT,ht,hg⟩:=hr pins { s3 with heap:=s3.heap.push { cls:=.type "slice",data:=.fields #[vl,vu,.none] } } σ H3 x v vl vu l u s3.heap.objs.size Q I4 r1 (Heap.IsSliceOf.new ..) pl pu q3
  show wpAny (model X.prog X.w) X.A (subscriptTail e (.Slice lo hi none p2) v (.ref s3.heap.objs.size)) (EP X pins σ Q) X.xe { s3 with heap:=s3.heap.push { cls:=.type "slice",data:=.fields #[vl,vu,.none] } }
  exact tail_any (ops:=[.ref s3.heap.objs.size,v]) ht hT hg (by with_unfolding_all rfl)
noncomputable def cutV (xs:List V) (lo hi:Option Int):List V:=(xs.drop (HT.sIx xs.length 0 lo)).take (HT.sIx xs.length xs.length hi - HT.sIx xs.length 0 lo)
theorem cutV_length (xs:List V) (lo hi:Option Int):(cutV xs lo hi).length ≤ xs.length:=by
  unfold cutV
  rw [List.length_take,List.length_drop]
  omega
end
end L2
namespace L2
open PySem PySem.Spec PyProof.Rows
noncomputable def ixN (n:Nat) (i:Int):Option Nat:=if 0 ≤ i then (if i < n then some i.toNat else none) else if -(n:Int) ≤ i then some (i + n).toNat else none
noncomputable def atI {α:Type} (xs:List α) (i:Int):Option α:=(ixN xs.length i).bind fun j => xs[j]?
theorem ixN_seq {n:Nat} {i:Int} {j:Nat} (h:ixN n i = some j):seqIndex? i n = some j ∧ j < n ∧ -(n:Int) ≤ i ∧ i < n:=by
  unfold ixN at h
  by_cases h0:0 ≤ i
  · rw [if_pos h0] at h
    by_cases h1:i < n
    · rw [if_pos h1] at h
      have e:i.toNat = j:=Option.some.inj h
      exact ⟨by rw [seqIndex_of h0 h1,e],by omega,by omega,h1⟩
    · rw [if_neg h1] at h; cases h
  · rw [if_neg h0] at h
    by_cases h1:-(n:Int) ≤ i
    · rw [if_pos h1] at h
      have e:(i + n).toNat = j:=Option.some.inj h
      exact ⟨by rw [seqIndex_neg (by omega) h1,e],by omega,h1,by omega⟩
    · rw [if_neg h1] at h; cases h
theorem atI_get {α:Type} {xs:List α} {i:Int} {v:α} (h:atI xs i = some v):∃ j,seqIndex? i xs.length = some j ∧ xs[j]? = some v ∧ j < xs.length ∧ -(xs.length:Int) ≤ i ∧ i < xs.length:=by
  unfold atI at h
  cases e:ixN xs.length i with
  | none => rw [e] at h; cases h
  | some j =>
    rw [e] at h
    obtain ⟨h1,h2,h3,h4⟩:=ixN_seq e
    exact ⟨j,h1,h,h2,h3,h4⟩
theorem atI_nat {α:Type} {xs:List α} {j:Nat} {v:α} (h:xs[j]? = some v):atI xs (j:Int) = some v:=by
  have hj:j < xs.length:=(List.getElem?_eq_some_iff.mp h).1
  have e:ixN xs.length (j:Int) = some j:=by
    unfold ixN
    rw [if_pos (by omega),if_pos (by omega)]; simp
  unfold atI; rw [e]; exact h
noncomputable def PlainIx (b:Expr):Prop:=∀ o i,subscripted b false o i = operate [o,i] (getItem o i)
noncomputable def IxR (X:Cx) (r:R2):Prop :=
  ∀ (value slice:Expr) (pins:List (Addr × Obj)) (s:Shared) (σ:St) (H:Hp) (x y:V) (v u:Value) (Q:VK),Inv X pins σ H s → RelV x v → RelV y u → r x y H Q →
    subscripted slice false v u = operate [v,u] (getItem v u) → wpAny (model X.prog X.w) X.A (subscriptTail value slice v u) (EP X pins σ Q) X.xe s
noncomputable def MtR (X:Cx) (id:String) (r:V → List V → Hp → VK → Prop):Prop :=
  ∀ (pins:List (Addr × Obj)) (s:Shared) (σ:St) (H:Hp) (x:V) (xs:List V) (v:Value) (us:List Value) (Q:VK),Inv X pins σ H s → RelV x v → Vals xs us → r x xs H Q →
    wpAny (model X.prog X.w) X.A (call (.builtin id) (v :: us)) (EP X pins σ Q) X.xe s
section
variable {X:Cx} {a b:Expr} {ta tb:TE} {pos:Pos}
theorem pe_ix {r:R2} (hr:IxR X r) (ha:PE X a ta) (hb:PE X b tb) (hs:PlainIx b):PE X (.Subscript a b pos) (tOp r ta tb):=by
  intro pins s σ H Q I h
  exact Subscript_ (binT ha hb I h fun v u s2 x y H2 I2 rx ry q => hr a b pins s2 σ H2 x y v u Q I2 rx ry q (hs _ _))
noncomputable def rIxL (K:PySem.W.Frag):R2:=fun x y H Q => ∃ p xs i v,x = .ref p ∧ y = .int i ∧ SqL K H p xs ∧ atI xs i = some v ∧ Q v H
noncomputable def rIxT (K:PySem.W.Frag):R2:=fun x y H Q => ∃ p xs i v,x = .ref p ∧ y = .int i ∧ SqT K H p xs ∧ atI xs i = some v ∧ Q v H
theorem ix_list:IxR X (rIxL X.K):=by
  intro value slice pins s σ H x y v u Q I rx ry h hs
  obtain ⟨p,xs,i,z,rfl,rfl,hq,he,q⟩:=h
  cases rx
  obtain ⟨t,rfl⟩:=ry
  obtain ⟨its,r,pl,hz⟩:=I.list hq
  obtain ⟨j,h1,h2,h3,h4,h5⟩:=atI_get he
  obtain ⟨w,ew,rw'⟩:=r.get h2
  have hl:=r.length
  have hn:=line63
  have fin:EP X pins σ Q w s:=⟨z,H,I,rw',q⟩
  by_cases h0:0 ≤ i
  · have hj:i.toNat = j:=by
      rw [seqIndex_of h0 h5] at h1
      exact Option.some.inj h1
    exact item_listR pl.isList h0 (by omega) (by rw [hj]; simpa using ew) fin hs
  · have hj:(i + (its.toArray.size:Int)).toNat = j:=by
      rw [seqIndex_neg (by omega) h4] at h1
      rw [List.size_toArray,← hl]
      exact Option.some.inj h1
    exact subscriptTail_builtinR (x:=w) pl.isList.typeIs slot_list_getitem.lookup
      (wpAny_getItem_list_neg (Q:=fun r s' => r = w ∧ EP X pins σ Q r s') pl.isList (by omega) (by rw [List.size_toArray] <;> omega) (by omega) (by rw [hj]; simpa using ew) ⟨rfl,fin⟩) hs
theorem ix_tup:IxR X (rIxT X.K):=by
  intro value slice pins s σ H x y v u Q I rx ry h hs
  obtain ⟨p,xs,i,z,rfl,rfl,hq,he,q⟩:=h
  cases rx
  obtain ⟨t,rfl⟩:=ry
  obtain ⟨its,r,pl,hz⟩:=I.tuple hq
  obtain ⟨j,h1,h2,h3,h4,h5⟩:=atI_get he
  obtain ⟨w,ew,rw'⟩:=r.get h2
  have hl:=r.length
  have hn:=line63
  have fin:EP X pins σ Q w s:=⟨z,H,I,rw',q⟩
  exact subscriptTail_builtinR (x:=w) pl.typeIs slot_tuple_getitem.lookup
    (getItem_tuple (j:=j) (Q:=fun r s' => r = w ∧ EP X pins σ Q r s') pl (by omega) (by omega) (by rw [List.size_toArray,← hl]; exact h1) (by simpa using ew) ⟨rfl,fin⟩) hs
theorem mapSeq_set (its:List Value) (n j:Nat) (u:Value):Obj.mapSeq (·.setIfInBounds j u) { cls:=.type "list",data:=.seq its.toArray n } = { cls:=.type "list",data:=.seq (its.set j u).toArray n }:=by
  simp [Obj.mapSeq]
theorem Inv.lst {pins:List (Addr × Obj)} {σ:St} {H:Hp} {s:Shared} {p:Addr} {xs:List V} (I:Inv X pins σ H s) (h:H p = some (.lst xs)) :
    ∃ (its:List Value) (n:Nat),Vals xs its ∧ s.heap.get? p = some { cls:=.type "list",data:=.seq its.toArray n } ∧ xs.length ≤ sizeLine:=by
  obtain ⟨z,its,n,r,e⟩:=I.hok p _ h
  exact ⟨its,n,r,e,z⟩
theorem Inv.lstUpd {pins:List (Addr × Obj)} {σ:St} {H:Hp} {s:Shared} {p:Addr} {xs ys:List V} {its its':List Value} {n n':Nat} {f:Obj → Obj} (I:Inv X pins σ H s) (h:H p = some (.lst xs))
    (ho:s.heap.get? p = some { cls:=.type "list",data:=.seq its.toArray n }) (hf:f { cls:=.type "list",data:=.seq its.toArray n } = { cls:=.type "list",data:=.seq its'.toArray n' }) (r:Vals ys its') (hz:ys.length ≤ sizeLine) (t:Nat) :
    Inv X pins σ (upd H p (.lst ys)) { s with heap:=s.heap.update p f,toks:=t }:=by
  have e:(s.heap.update p f).get? p = some { cls:=.type "list",data:=.seq its'.toArray n' }:=by
    rw [Heap.get?_update_self f ho (by rw [hf] <;> rfl),hf]
  refine I.write (x:=p) (e:=p) (by rw [h]; trivial) (.inl rfl) (fun b u hb q => (Heap.get?_update_other _ _ (Ne.symm hb)).trans q) ⟨_,e⟩ ?_
  exact ⟨hz,its',n',r,e⟩
noncomputable def rSetL:V → V → V → Hp → (Hp → Prop) → Prop:=fun o i v H Q => ∃ p xs k j,o = .ref p ∧ i = .int k ∧ H p = some (.lst xs) ∧ ixN xs.length k = some j ∧ Q (upd H p (.lst (xs.set j v)))
theorem set_list:PSet X rSetL:=by
  intro pins s σ H o i v ov iv u Q I ro ri rv h
  obtain ⟨p,xs,k,j,rfl,rfl,hp,hj,q⟩:=h
  cases ro
  obtain ⟨t,rfl⟩:=ri
  obtain ⟨its,n,r,ho,hz⟩:=I.lst hp
  obtain ⟨h1,h2,h3,h4⟩:=ixN_seq hj
  have hl:=r.length
  have hn:=line63
  have I':Inv X pins σ (upd H p (.lst (xs.set j v))) { s with heap:=s.heap.update p (Obj.mapSeq (·.setIfInBounds j u)) } :=
    I.lstUpd hp ho (mapSeq_set its n j u) (r.set rv j) (by rw [List.length_set]; exact hz) s.toks
  by_cases h0:0 ≤ k
  · have hk:k.toNat = j:=by
      rw [seqIndex_of h0 h4] at h1
      exact Option.some.inj h1
    exact PySem.W.ki_setAt ho h0 (by omega) (by rw [List.size_toArray,← hl]; exact h4) (by rw [hk]; exact ⟨_,I',q⟩)
  · have hk:(k + (its.toArray.size:Int)).toNat = j:=by
      rw [seqIndex_neg (by omega) h3] at h1
      rw [List.size_toArray,← hl]
      exact Option.some.inj h1
    exact PySem.W.ki_setBack ho (by omega) (by rw [List.size_toArray,← hl]; exact h3) (by omega) (by rw [hk]; exact ⟨_,I',q⟩)
theorem slice_bounds (lo hi:Option Int) (n:Nat):(sliceBounds lo hi none n).1 = ((HT.sIx n 0 lo:Nat):Int) ∧ (sliceBounds lo hi none n).2.1 = ((HT.sIx n n hi:Nat):Int) ∧ (sliceBounds lo hi none n).2.2 = 1:=by
  refine ⟨?_,?_,rfl⟩
  · cases lo with
    | none => simp [sliceBounds,HT.sIx]
    | some i =>
      simp only [sliceBounds,HT.sIx,Option.getD_none,show (1:Int) > 0 by decide,if_true]
      by_cases h:i < 0
      · simp only [h,if_true] <;> omega
      · simp only [h,if_false] <;> omega
  · cases hi with
    | none => simp [sliceBounds,HT.sIx]
    | some i =>
      simp only [sliceBounds,HT.sIx,Option.getD_none,show (1:Int) > 0 by decide,if_true]
      by_cases h:i < 0
      · simp only [h,if_true] <;> omega
      · simp only [h,if_false] <;> omega
theorem slicePick_cut (its:List Value) (lo hi:Option Int):slicePick its.toArray lo hi none = ((its.drop (HT.sIx its.length 0 lo)).take (HT.sIx its.length its.length hi - HT.sIx its.length 0 lo)).toArray:=by
  obtain ⟨h1,h2,h3⟩:=slice_bounds lo hi its.toArray.size
  unfold slicePick
  rw [h1,h2,h3]
  simp only [sliceRange_one,pick_run,List.size_toArray] <;> rfl
noncomputable def rSlL (K:PySem.W.Frag):V → Option Int → Option Int → Hp → VK → Prop:=fun x lo hi H Q => ∃ a xs,x = .ref a ∧ SqL K H a xs ∧ ∀ p,H p = none → Q (.ref p) (upd H p (.lst (cutV xs lo hi)))
theorem sl_list:SlR X (rSlL X.K):=by
  intro pins s σ H x v vl vu lo hi sl Q I rx hs pl pu h
  obtain ⟨a,xs,rfl,hx,q⟩:=h
  cases rx
  obtain ⟨its,r,ht,hz⟩:=I.list hx
  have hlen:=r.length
  refine ⟨"list",_,slot_list_getitem.lookup,ht.isList.typeIs,?_⟩
  refine wpAny_getItem_list_slice ht.isList hs pl pu .none (by simp) ?_ (by rw [List.size_toArray] <;> omega)
  rw [slicePick_cut,← hlen]
  refine ⟨.ref s.heap.objs.size,_,I.laid (t':=s.toks) (o:=.lst (cutV xs lo hi)) (fun b ob q => Heap.get?_push_of_some _ q) (Nat.le_refl _) ?_,rfl,q _ (I.hok.fresh (Nat.le_refl _))⟩
  exact ⟨Nat.le_trans (cutV_length xs lo hi) hz,_,0,(r.drop (HT.sIx xs.length 0 lo)).take (HT.sIx xs.length xs.length hi - HT.sIx xs.length 0 lo),Heap.get?_push_size _ rfl⟩
theorem call_len_seq:CallR X (.builtin "len") (fun xs H Q => ∃ p ys,xs = [.ref p] ∧ (SqL X.K H p ys ∨ SqT X.K H p ys) ∧ Q (.int ys.length) H):=by
  intro pins s σ H xs us Q I r h
  obtain ⟨p,ys,rfl,hq,q⟩:=h
  obtain ⟨u,rfl,rx⟩:=vals1 r
  cases rx
  have hn:=line63
  rcases hq with hq | hq
  · obtain ⟨its,r',pl,hz⟩:=I.list hq
    have hlen:=r'.length
    exact Calls.call_len_list pl.isList (by simp only [List.size_toArray] <;> omega) ⟨.int ys.length,H,I.tok _,⟨s.toks + 1,by rw [List.size_toArray,hlen]⟩,q⟩
  · obtain ⟨its,r',pl,hz⟩:=I.tuple hq
    have hlen:=r'.length
    exact len_tuple pl (by simp only [List.size_toArray] <;> omega) ⟨.int ys.length,H,I.tok _,⟨s.toks + 1,by rw [List.size_toArray,hlen]⟩,q⟩
noncomputable def tyV (K:PySem.W.Frag) (T:String) (x:V) (H:Hp):Prop:=match x with
  | .str _ => T = "str"
  | .int _ => T = "int"
  | .ref p => (T = "list" ∧ ∃ xs,SqL K H p xs) ∨ (T = "tuple" ∧ ∃ o,K.lookup p = some o ∧ o.cls = .type "tuple" ∧ o.dict = none) ∨
      (T = "dict" ∧ ((∃ kvs,H p = some (.dK kvs)) ∨ ∃ kvs,H p = some (.dT kvs))) ∨ (T = "set" ∧ ∃ S n,H p = some (.set S n))
  | _ => False
theorem tyV_is {pins:List (Addr × Obj)} {σ:St} {H:Hp} {s:Shared} {T:String} {x:V} {v:Value} (I:Inv X pins σ H s) (r:RelV x v) (ty:tyV X.K T x H) :
    s.TypeIs v T ∧ ∀ a,v = .ref a → ∃ ob,s.heap.get? a = some ob ∧ ob.dict = none:=by
  cases x with
  | str z =>
    obtain ⟨t,rfl⟩:=r
    cases (show T = "str" from ty)
    exact ⟨typeIs_str s z t,fun _ e => nomatch e⟩
  | int i =>
    obtain ⟨t,rfl⟩:=r
    cases (show T = "int" from ty)
    exact ⟨typeIs_int s i t,fun _ e => nomatch e⟩
  | ref p =>
    cases r
    rcases ty with ⟨rfl,xs,hq⟩ | ⟨rfl,o,hk,hc,hd⟩ | ⟨rfl,hk⟩ | ⟨rfl,S,n,hk⟩
    · obtain ⟨its,_,pl,_⟩:=I.list hq
      refine ⟨pl.isList.typeIs,fun a e => ?_⟩
      cases e
      obtain ⟨o,n,e,c,hd,_⟩:=pl
      exact ⟨o,e,hd⟩
    · refine ⟨⟨o,I.kIn p o hk,hc⟩,fun a e => ?_⟩
      cases e
      exact ⟨o,I.kIn _ o hk,hd⟩
    · have z:∃ o,s.heap.get? p = some o ∧ o.ExactDict:=by
        rcases hk with ⟨kvs,hk⟩ | ⟨kvs,hk⟩
        · obtain ⟨_,_,_,_,o,_,_,e,ex,_⟩:=I.hok p _ hk
          exact ⟨o,e,ex⟩
        · obtain ⟨_,_,_,_,o,_,_,e,ex,_⟩:=I.hok p _ hk
          exact ⟨o,e,ex⟩
      obtain ⟨o,e,ex⟩:=z
      refine ⟨⟨o,e,ex.1⟩,fun a e2 => ?_⟩
      cases e2
      exact ⟨o,e,ex.2.1⟩
    · obtain ⟨o,_,_,_,e,ex,_⟩:=I.hok p _ hk
      refine ⟨⟨o,e,ex.1⟩,fun a e2 => ?_⟩
      cases e2
      exact ⟨o,e,ex.2.1⟩
  | _ => exact False.elim ty
noncomputable def tBM0 (K:PySem.W.Frag) (T:String) (r:V → List V → Hp → VK → Prop) (to:TE):TE:=fun σ H Q => to σ H fun x H1 => tyV K T x H1 ∧ r x [] H1 Q
noncomputable def tBM (K:PySem.W.Frag) (T:String) (r:V → List V → Hp → VK → Prop) (to:TE) (t:TA):TE:=fun σ H Q => to σ H fun x H1 => tyV K T x H1 ∧ t σ H1 fun xs H2 => r x xs H2 Q
variable {o e:Expr} {es:List Expr} {to:TE} {t:TA} {name:Str} {apos cpos:Pos} {T id:String} {r:V → List V → Hp → VK → Prop}
theorem pe_bm0 (pa:PlainAttrs T) (slot:Slot T name id) (hty:typeOf (.builtin id) = pure (.type "method_descriptor")) (hm:MtR X id r) (ho:PE X o to)
    (hbase:attributeBase o name X.env (eval o X.env) = eval o X.env:=by rfl) (hline:(apos.endLine == cpos.line) = true:=by rfl):PE X (.Call (.Attribute o name apos) [] [] cpos) (tBM0 X.K T r to):=by
  intro pins s σ H Q I h
  refine wpAny_Call_method0_late hbase hline (thn (ho pins s σ H _ I h) fun v s1 ⟨x,H1,I1,r1,ty,q1⟩ => ?_)
  obtain ⟨h1,h2⟩:=tyV_is I1 r1 ty
  exact ⟨T,id,pa,slot,hty,h1,h2,Calls.callWith_builtin rfl (PySem.evalArgs_none (hm pins s1 σ H1 x [] v [] Q I1 r1 .nil q1))⟩
theorem pe_bm (pa:PlainAttrs T) (slot:Slot T name id) (hty:typeOf (.builtin id) = pure (.type "method_descriptor")) (hm:MtR X id r) (ho:PE X o to) (ha:PA X (e :: es) t)
    (hbase:attributeBase o name X.env (eval o X.env) = eval o X.env:=by rfl)
    (hfew:((backTo cpos (starEach (e :: es) X.env)).all (fun x => !x.1) && (backToKw cpos (keywordEach [] X.env)).all (fun x => x.1.isSome)
      && decide ((e :: es).length + ([]:List Keyword).length + (if ([]:List Keyword).isEmpty then 0 else 1) < 30)) = true:=by rfl)
    (hline:(apos.endLine == cpos.line) = true:=by rfl) (hs:starEach (e :: es) X.env = (false,eval e X.env) :: starEach es X.env:=by rfl) (hplain:(backTo cpos (starEach es X.env)).any (·.1) = false:=by rfl) :
    PE X (.Call (.Attribute o name apos) (e :: es) [] cpos) (tBM X.K T r to t):=by
  intro pins s σ H Q I h
  refine wpAny_Call_method_late hbase hfew hline rfl (thn (ho pins s σ H _ I h) fun v s1 ⟨x,H1,I1,r1,ty,q1⟩ => ?_)
  obtain ⟨h1,h2⟩:=tyV_is I1 r1 ty
  refine ⟨T,id,pa,slot,hty,h1,h2,?_⟩
  have hA:=ha cpos pins s1 σ H1 _ I1 q1
  rw [hs] at hA ⊢
  refine Calls.callWith_builtin (by show (false || (backTo cpos (starEach es X.env)).any (·.1)) = false; rw [hplain] <;> rfl) (Calls.evalArgs_plain ?_)
  exact thn hA fun us s2 ⟨vs,H2,I2,r2,q2⟩ => hm pins s2 σ H2 x vs v us Q I2 r1 r2 q2
end
end L2
namespace L2
open PySem PySem.Spec PyProof.Rows
noncomputable def MtM (X:Cx) (id:String) (r:V → List V → Hp → VK → Prop):Prop :=
  ∀ (pins:List (Addr × Obj)) (s:Shared) (σ:St) (H:Hp) (x:V) (xs:List V) (v:Value) (us:List Value) (Q:VK),Inv X pins σ H s → RelV x v → Vals xs us → r x xs H Q →
    wpAny (model X.prog X.w) X.A (call (.builtin id) (v :: us)) (EP X pins σ Q) X.xe s
theorem Vals.one:∀ {x:V} {us:List Value},Vals [x] us → ∃ u,us = [u] ∧ RelV x u
  | _,_,.cons r .nil => ⟨_,rfl,r⟩
theorem Vals.zero:∀ {us:List Value},Vals [] us → us = []
  | _,.nil => rfl
theorem Vals.dropLast {xs:List V} {us:List Value} (h:Vals xs us):Vals xs.dropLast us.dropLast:=by
  induction h with
  | nil => exact .nil
  | cons r t ih =>
    cases t with
    | nil => exact .nil
    | cons q t' => exact .cons r ih
theorem Vals.eraseIdx:∀ {xs:List V} {us:List Value} (i:Nat),Vals xs us → Vals (xs.eraseIdx i) (us.eraseIdx i)
  | _,_,_,.nil => .nil
  | _,_,0,.cons _ t => t
  | _,_,i + 1,.cons r t => .cons r (Vals.eraseIdx i t)
theorem Vals.reverse {xs:List V} {us:List Value} (h:Vals xs us):Vals xs.reverse us.reverse:=by
  induction h with
  | nil => exact .nil
  | cons r t ih => rw [List.reverse_cons,List.reverse_cons]; exact Vals.append ih (.cons r .nil)
theorem erase_last {α:Type} (l:List α):l.eraseIdx (l.length - 1) = l.dropLast:=by
  induction l with
  | nil => rfl
  | cons a r ih =>
    cases r with
    | nil => rfl
    | cons b r =>
      have e:(a :: b :: r).length - 1 = ((b :: r).length - 1) + 1:=by
        have h1:(a :: b :: r).length = r.length + 2:=rfl
        have h2:(b :: r).length = r.length + 1:=rfl
        omega
      rw [e,List.eraseIdx_cons_succ,ih]
      all_goals rfl
theorem len_erase {α:Type}:∀ (l:List α) (i:Nat),(l.eraseIdx i).length ≤ l.length
  | [],_ => Nat.le_refl _
  | _ :: _,0 => Nat.le_succ _
  | _ :: r,i + 1 => Nat.succ_le_succ (len_erase r i)
section
variable {X:Cx} {pins:List (Addr × Obj)} {σ:St} {H:Hp} {s:Shared} {l b:Addr} {xs ys zs:List V}
theorem Inv.lset {its its':List Value} {n:Nat} {f:Array Value → Array Value} {t':Nat} (I:Inv X pins σ H s) (hH:H l = some (.lst xs))
    (e:s.heap.get? l = some { cls:=.type "list",data:=.seq its.toArray n }) (hf:f its.toArray = its'.toArray) (hv:Vals ys its') (hz:ys.length ≤ sizeLine) :
    Inv X pins σ (upd H l (.lst ys)) { s with heap:=s.heap.update l (Obj.mapSeq f),toks:=t' }:=by
  have q:=PySem.IsL.update e f
  rw [hf] at q
  refine I.write (x:=l) (e:=l) (by rw [hH]; exact trivial) (.inl rfl) (fun b' u hb hu => (Heap.get?_update_other s.heap (Obj.mapSeq f) (Ne.symm hb)).trans hu) ⟨_,q⟩ ?_
  exact ⟨hz,its',_,hv,q⟩
theorem Inv.lnew {its:List Value} {t':Nat} (I:Inv X pins σ H s) (hv:Vals ys its) (hz:ys.length ≤ sizeLine) :
    Inv X pins σ (upd H s.heap.objs.size (.lst ys)) { s with heap:=s.heap.push { cls:=.type "list",data:=.seq its.toArray },toks:=t' } :=
  I.laid (fun _ _ q => Heap.get?_push_of_some _ q) (Nat.le_refl _) ⟨hz,its,0,hv,Heap.get?_push_size _ rfl⟩
theorem Inv.fresh (I:Inv X pins σ H s):H s.heap.objs.size = none:=I.hok.fresh (Nat.le_refl _)
theorem Inv.lstM (I:Inv X pins σ H s) (hH:H l = some (.lst xs)):xs.length ≤ sizeLine ∧ ∃ (its:List Value) (n:Nat),Vals xs its ∧ xs.length = its.length ∧ s.heap.get? l = some { cls:=.type "list",data:=.seq its.toArray n }:=by
  obtain ⟨z,its,n,r,e⟩:=I.hok l _ hH
  exact ⟨z,its,n,r,r.length,e⟩
theorem notLongL {n:Nat} (h:n ≤ sizeLine):Builtin.List.listTooLong n = false:=by
  unfold Builtin.List.listTooLong
  exact decide_eq_false (by omega)
end
section
variable {X:Cx}
noncomputable def rAppend:V → List V → Hp → VK → Prop:=fun x vs H Q => ∃ l xs y,x = .ref l ∧ vs = [y] ∧ H l = some (.lst xs) ∧ xs.length < sizeLine ∧ Q .non (upd H l (.lst (xs ++ [y])))
theorem mt_append:MtM X "list.append" rAppend:=by
  intro pins s σ H x vs v us Q I rx rv h
  obtain ⟨l,xs,y,rfl,rfl,hH,hz,q⟩:=h
  cases rx
  obtain ⟨u,rfl,ru⟩:=rv.one
  obtain ⟨z,its,n,r,hl,e⟩:=I.lstM hH
  refine call_meets F.slot_list_append ⟨_,e,rfl⟩ F.entry_list_append (F.args_list_append_2 _ _) (PySem.list_append l its.toArray n u (by rw [List.size_toArray]; omega)) ⟨e,?_⟩
  refine ⟨.non,_,I.lset (its':=its ++ [u]) hH e (by simp) (r.append (.cons ru .nil)) ?_,rfl,q⟩
  rw [List.length_append,List.length_singleton]
  omega
noncomputable def rExtend:V → List V → Hp → VK → Prop:=fun x vs H Q => ∃ l b xs zs,x = .ref l ∧ vs = [.ref b] ∧ H l = some (.lst xs) ∧ H b = some (.lst zs) ∧ xs.length + zs.length ≤ sizeLine ∧ Q .non (upd H l (.lst (xs ++ zs)))
theorem mt_extend:MtM X "list.extend" rExtend:=by
  intro pins s σ H x vs v us Q I rx rv h
  obtain ⟨l,b,xs,zs,rfl,rfl,hH,hB,hz,q⟩:=h
  cases rx
  obtain ⟨u,rfl,ru⟩:=rv.one
  cases ru
  obtain ⟨z,its,n,r,hl,e⟩:=I.lstM hH
  obtain ⟨z2,its2,n2,r2,hl2,e2⟩:=I.lstM hB
  have hsz:its.toArray.size + its2.toArray.size ≤ sizeLine:=by rw [List.size_toArray,List.size_toArray]; omega
  have hlong:¬ (!its.toArray.isEmpty && Builtin.List.listTooLong (its.toArray.size + its2.toArray.size)) = true:=by
    rw [notLongL hsz,Bool.and_false]
    exact Bool.false_ne_true
  refine call_meets F.slot_list_extend ⟨_,e,rfl⟩ F.entry_list_extend (F.args_list_extend_2 _ _)
    (AutoSeq1.list_extend_list_list_0 l its.toArray n b its2.toArray n2 hlong (by rw [List.size_toArray]; omega) (by omega)) ⟨e,e2,?_⟩
  refine ⟨.non,_,I.lset (its':=its ++ its2) hH e (by simp) (r.append r2) ?_,rfl,q⟩
  rw [List.length_append]
  omega
noncomputable def rPop:V → List V → Hp → VK → Prop:=fun x vs H Q => ∃ l xs y,x = .ref l ∧ vs = [] ∧ H l = some (.lst xs) ∧ xs[xs.length - 1]? = some y ∧ Q y (upd H l (.lst xs.dropLast))
theorem mt_pop:MtM X "list.pop" rPop:=by
  intro pins s σ H x vs v us Q I rx rv h
  obtain ⟨l,xs,y,rfl,rfl,hH,hy,q⟩:=h
  cases rx
  have hus:=rv.zero
  subst hus
  obtain ⟨z,its,n,r,hl,e⟩:=I.lstM hH
  obtain ⟨u,hu,ru⟩:=r.get hy
  have hy':its.toArray[its.toArray.size - 1]? = some u:=by
    show its.toArray[its.length - 1]? = some u
    rw [← Array.getElem?_toList,← hl]
    exact hu
  refine call_meets F.slot_list_pop ⟨_,e,rfl⟩ F.entry_list_pop (F.args_list_pop_1 _) (MeetsSeq.list_pop_last l its.toArray n u hy' (by rw [List.size_toArray]; omega)) ⟨e,?_⟩
  refine ⟨y,_,I.lset (its':=its.dropLast) hH e ?_ r.dropLast ?_,ru,q⟩
  · show its.toArray.eraseIdxIfInBounds (its.toArray.size - 1) = its.dropLast.toArray
    rw [List.size_toArray,List.eraseIdxIfInBounds_toArray,erase_last]
  · rw [List.length_dropLast]
    omega
noncomputable def rPopAt:V → List V → Hp → VK → Prop:=fun x vs H Q => ∃ l xs i k y,x = .ref l ∧ vs = [.int i] ∧ H l = some (.lst xs) ∧ -(2 ^ 63) ≤ i ∧ i < 2 ^ 63 ∧ seqIndex? i xs.length = some k ∧ xs[k]? = some y ∧ Q y (upd H l (.lst (xs.eraseIdx k)))
theorem mt_popAt:MtM X "list.pop" rPopAt:=by
  intro pins s σ H x vs v us Q I rx rv h
  obtain ⟨l,xs,i,k,y,rfl,rfl,hH,h1,h2,hk,hy,q⟩:=h
  cases rx
  obtain ⟨u,rfl,ru⟩:=rv.one
  obtain ⟨t,rfl⟩:=ru
  obtain ⟨z,its,n,r,hl,e⟩:=I.lstM hH
  obtain ⟨w,hw,rw'⟩:=r.get hy
  refine call_meets F.slot_list_pop ⟨_,e,rfl⟩ F.entry_list_pop (F.args_list_pop_2 _ _)
    (MeetsSeq.list_pop_at l its.toArray n i t k w (fitsIndex_both h1 h2) (by rw [List.size_toArray,← hl]; exact hk) (by rw [← Array.getElem?_toList]; exact hw) (by rw [List.size_toArray]; omega)) ⟨e,?_⟩
  refine ⟨y,_,I.lset (its':=its.eraseIdx k) hH e ?_ (r.eraseIdx k) ?_,rw',q⟩
  · show its.toArray.eraseIdxIfInBounds k = (its.eraseIdx k).toArray
    rw [List.eraseIdxIfInBounds_toArray]
  · have:=len_erase xs k
    omega
noncomputable def rReverse:V → List V → Hp → VK → Prop:=fun x vs H Q => ∃ l xs,x = .ref l ∧ vs = [] ∧ H l = some (.lst xs) ∧ Q .non (upd H l (.lst xs.reverse))
theorem mt_reverse:MtM X "list.reverse" rReverse:=by
  intro pins s σ H x vs v us Q I rx rv h
  obtain ⟨l,xs,rfl,rfl,hH,q⟩:=h
  cases rx
  have hus:=rv.zero
  subst hus
  obtain ⟨z,its,n,r,hl,e⟩:=I.lstM hH
  refine call_meets F.slot_list_reverse ⟨_,e,rfl⟩ F.entry_list_reverse (F.args_list_reverse_1 _) (AutoSeq1.list_reverse_list_0 l its.toArray n (by rw [List.size_toArray]; omega)) ⟨e,?_⟩
  refine ⟨.non,_,I.lset (its':=its.reverse) hH e (by simp) r.reverse ?_,rfl,q⟩
  rw [List.length_reverse]
  omega
noncomputable def rCat:R2:=fun x y H Q => ∃ l b xs zs,x = .ref l ∧ y = .ref b ∧ H l = some (.lst xs) ∧ H b = some (.lst zs) ∧ xs.length + zs.length ≤ sizeLine ∧ ∀ p,H p = none → Q (.ref p) (upd H p (.lst (xs ++ zs)))
theorem op_cat:OpR X (binaryOp .Add) rCat:=by
  intro pins s σ H x y v u Q I rx ry h
  obtain ⟨l,b,xs,zs,rfl,rfl,hH,hB,hz,q⟩:=h
  cases rx
  cases ry
  obtain ⟨z,its,n,r,hl,e⟩:=I.lstM hH
  obtain ⟨z2,its2,n2,r2,hl2,e2⟩:=I.lstM hB
  refine PySem.P.add_list e e2 ?_ (by rw [List.size_toArray,List.size_toArray]; omega)
  have ea:its.toArray ++ its2.toArray = (its ++ its2).toArray:=by simp
  rw [ea]
  exact ⟨.ref _,_,I.lnew (t':=s.toks) (r.append r2) (by rw [List.length_append]; omega),rfl,q _ I.fresh⟩
end
end L2
namespace L2
open PySem PySem.Spec PyProof.Rows
theorem Vals.ints:∀ {ns:List Int} {us:List Value},Vals (ns.map V.int) us → IntsAre us ns
  | [],us,h => by
    rw [List.map_nil] at h
    cases h
    exact IntsAre.nil
  | n :: ns,us,h => by
    rw [List.map_cons] at h
    cases h with
    | cons r t =>
      obtain ⟨k,rfl⟩:=r
      exact IntsAre.cons n k (Vals.ints t)
theorem Vals.ref1 {a:Addr} {us:List Value} (r:Vals [V.ref a] us):us = [Value.ref a]:=by
  cases r with
  | cons r t =>
    cases t
    cases r
    rfl
section
variable {prog:Program} {w:World} {A:Around} {E:Value → Shared → Prop} {s:Shared} {l:Addr} {its:List Value} {ns:List Int} {Q:Value → Shared → Prop}
theorem max_raw (hh:A.handled = none) (hl:s.heap.IsList l its.toArray) (hi:IntsAre its ns) (hne:0 < ns.length)
    (h:∀ h' tk M t',(∀ b o,s.heap.get? b = some o → h'.get? b = some o) → M ∈ ns → (∀ a,a ∈ ns → a ≤ M) → Q (.int M t') { s with heap:=h',toks:=tk }):wpAny (model prog w) A (call (.builtin "max") [.ref l]) Q E s:=by
  obtain ⟨xs,e⟩:=hi.allInts.items
  have hn:numsOf (intItems xs).toList = ns:=by rw [← e]; exact hi.numsOf
  rw [nums_intItems] at hn
  subst hn
  rw [e] at hl
  have hsz:0 < xs.size:=by simpa using hne
  refine PySem.max_intList hh hl hsz fun v h' tk hv hk => ?_
  obtain ⟨t,rfl⟩:=intItems_at hv
  obtain ⟨h1,h2⟩:=argBest_gt (numAt xs) (xs.size - 1)
  refine h h' tk _ t hk ?_ fun a ha => ?_
  · rw [numAt_eq]; exact PySem.getD_mem (by rw [List.length_map,Array.length_toList]; omega)
  · obtain ⟨j,hj,rfl⟩:=mem_getD ha
    rw [List.length_map,Array.length_toList] at hj
    rw [← numAt_eq]; exact h2 j (by omega)
end
section
variable {X:Cx}
noncomputable def rMax (K:PySem.W.Frag):List V → Hp → VK → Prop:=fun vs H Q => ∃ (a:Addr) (ns:List Int),vs = [V.ref a] ∧ SqL K H a (ns.map V.int) ∧ 0 < ns.length ∧ ∀ m,m ∈ ns → (∀ y,y ∈ ns → y ≤ m) → Q (.int m) H
theorem cr_max (hc:X.calm = true):CallR X (.builtin "max") (rMax X.K):=by
  intro pins s σ H vs us Q I r h
  obtain ⟨a,ns,rfl,hs,hne,q⟩:=h
  obtain ⟨its,rv,hl,_⟩:=I.list hs
  rw [Vals.ref1 r]
  exact max_raw (I.ok.hd hc) hl.isList rv.ints hne fun h' tk m t' hk h1 h2 => ⟨.int _,H,I.kept hk,⟨_,rfl⟩,q m h1 h2⟩
end
end L2
namespace L2
open PySem PySem.Spec PyProof.Rows
noncomputable abbrev CellAt (h:Heap) (c:Addr) (v:Option Value):Prop:=h.IsCell c v
noncomputable def relS (scope sc:Scope):Scope :=
  { scope with names:=scope.names.map fun (n,k) => if (k == .free && sc.kind == .function && sc.names.lookup n == some .cell) then (n,.cell) else (n,k) }
noncomputable def cloFrom (cells:List (Str × Addr)):List (Str × NameKind) → List (Str × Addr) → List (Str × Addr)
  | [],acc => acc
  | (n,k) :: r,acc => if k == .free then cloFrom cells r ((n,(cells.lookup n).getD 0) :: acc) else cloFrom cells r acc
theorem closure_loop (env:Env) (f:Str × NameKind → List (Str × Addr) → Sem (ForInStep (List (Str × Addr))))
    (hf:∀ n k c,f (n,k) c = if k == .free then (do let a ← cellOf env n; pure (.yield ((n,a) :: c))) else pure (.yield c)) :
    ∀ (names:List (Str × NameKind)) (acc:List (Str × Addr)),(∀ y ∈ names,y.2 = .free → ∃ c,env.cells.lookup y.1 = some c) → forIn names acc f = pure (cloFrom env.cells names acc)
  | [],acc,_ => by rw [List.forIn_nil]; rfl
  | (n,k) :: r,acc,h => by
    rw [List.forIn_cons,hf]
    have ih:=fun acc => closure_loop env f hf r acc fun y hy => h y (List.mem_cons_of_mem _ hy)
    unfold cloFrom
    by_cases hk:(k == NameKind.free) = true
    · rw [if_pos hk,if_pos hk]
      obtain ⟨c,hc⟩:=h (n,k) List.mem_cons_self (by simpa using hk)
      have e:cellOf env n = pure c:=by unfold cellOf; rw [hc]
      rw [e]
      have e2:(env.cells.lookup n).getD 0 = c:=by rw [hc]; rfl
      rw [e2]
      exact ih _
    · rw [if_neg hk,if_neg hk]
      exact ih _
theorem closure_ok {scope:Scope} {env:Env} (h:∀ y ∈ scope.names,y.2 = .free → ∃ c,env.cells.lookup y.1 = some c):closureFor scope env = pure (cloFrom env.cells scope.names []):=by
  simp only [closureFor]
  rw [closure_loop env _ (fun n k c => rfl) scope.names [] h]
  rfl
theorem mem_lookup {α:Type}:∀ {l:List (Str × α)} {n:Str} {c:α},(n,c) ∈ l → ∃ c',l.lookup n = some c'
  | (k,v) :: r,n,c,h => by
    rw [List.lookup_cons]
    cases hb:n == k with
    | true => exact ⟨_,rfl⟩
    | false =>
      rcases List.mem_cons.mp h with e | h
      · cases e; simp at hb
      · exact mem_lookup h
theorem cloFrom_mem {cells:List (Str × Addr)}:∀ {names:List (Str × NameKind)} {acc:List (Str × Addr)} {n:Str} {c:Addr},(n,c) ∈ cloFrom cells names acc → (n,c) ∈ acc ∨ ((n,.free) ∈ names ∧ c = (cells.lookup n).getD 0)
  | [],_,_,_,h => .inl h
  | (m,k) :: r,acc,n,c,h => by
    unfold cloFrom at h
    split at h
    · rename_i hk
      have hk:k = .free:=by simpa using hk
      rcases cloFrom_mem h with h | ⟨h1,h2⟩
      · rcases List.mem_cons.mp h with e | h
        · cases e; exact .inr ⟨hk ▸ List.mem_cons_self,rfl⟩
        · exact .inl h
      · exact .inr ⟨List.mem_cons_of_mem _ h1,h2⟩
    · rcases cloFrom_mem h with h | ⟨h1,h2⟩
      · exact .inl h
      · exact .inr ⟨List.mem_cons_of_mem _ h1,h2⟩
theorem cloFrom_acc {cells:List (Str × Addr)}:∀ {names:List (Str × NameKind)} {acc:List (Str × Addr)} {p:Str × Addr},p ∈ acc → p ∈ cloFrom cells names acc
  | [],_,_,h => h
  | (m,k) :: r,acc,p,h => by
    unfold cloFrom
    split
    · exact cloFrom_acc (List.mem_cons_of_mem _ h)
    · exact cloFrom_acc h
theorem cloFrom_has {cells:List (Str × Addr)}:∀ {names:List (Str × NameKind)} {acc:List (Str × Addr)} {n:Str},(n,.free) ∈ names → (n,(cells.lookup n).getD 0) ∈ cloFrom cells names acc
  | (m,k) :: r,acc,n,h => by
    unfold cloFrom
    rcases List.mem_cons.mp h with e | h
    · cases e
      exact cloFrom_acc List.mem_cons_self
    · split
      · exact cloFrom_has h
      · exact cloFrom_has h
theorem cells_mem:∀ {names:List (Str × NameKind)} {h:Heap} {acc:List (Str × Addr)} {x:Str} {c:Addr},(x,c) ∈ cellsFrom h.objs.size names acc →
    (x,c) ∈ acc ∨ ((x,.cell) ∈ names ∧ h.objs.size ≤ c ∧ CellAt (pushCells h names) c none)
  | [],_,_,_,_,h => .inl h
  | (n,k) :: r,h,acc,x,c,hm => by
    unfold cellsFrom at hm
    unfold pushCells
    split at hm
    · rename_i hk
      rw [if_pos hk]
      have hk:k = .cell:=by simpa using hk
      rw [← Heap.size_push h { cls:=.type "cell",data:=.cell none }] at hm
      rcases cells_mem hm with hm | ⟨h1,h2,h3⟩
      · rcases List.mem_cons.mp hm with e | hm
        · cases e
          exact .inr ⟨hk ▸ List.mem_cons_self,Nat.le_refl _,_,pushCells_keeps r _ _ _ (Heap.get?_push_size _ rfl),rfl⟩
        · exact .inl hm
      · rw [Heap.size_push] at h2
        exact .inr ⟨List.mem_cons_of_mem _ h1,Nat.le_of_succ_le h2,h3⟩
    · rename_i hk
      rw [if_neg hk]
      rcases cells_mem hm with hm | ⟨h1,h2,h3⟩
      · exact .inl hm
      · exact .inr ⟨List.mem_cons_of_mem _ h1,h2,h3⟩
theorem cells_acc:∀ {names:List (Str × NameKind)} {n:Nat} {acc:List (Str × Addr)} {p:Str × Addr},p ∈ acc → p ∈ cellsFrom n names acc
  | [],_,_,_,h => h
  | (m,k) :: r,n,acc,p,h => by
    unfold cellsFrom
    split
    · exact cells_acc (List.mem_cons_of_mem _ h)
    · exact cells_acc h
theorem cells_has:∀ {names:List (Str × NameKind)} {n:Nat} {acc:List (Str × Addr)} {x:Str},(x,.cell) ∈ names → ∃ c,(x,c) ∈ cellsFrom n names acc
  | (m,k) :: r,n,acc,x,h => by
    unfold cellsFrom
    rcases List.mem_cons.mp h with e | h
    · cases e
      exact ⟨n,cells_acc List.mem_cons_self⟩
    · split
      · exact cells_has h
      · exact cells_has h
theorem cells_inj:∀ {names:List (Str × NameKind)} {h:Heap} {acc:List (Str × Addr)} {x y:Str} {c:Addr},(∀ p ∈ acc,p.2 < h.objs.size) → (∀ x y c,(x,c) ∈ acc → (y,c) ∈ acc → x = y) →
    (x,c) ∈ cellsFrom h.objs.size names acc → (y,c) ∈ cellsFrom h.objs.size names acc → x = y
  | [],_,_,_,_,_,_,hi,h1,h2 => hi _ _ _ h1 h2
  | (n,k) :: r,h,acc,x,y,c,hl,hi,h1,h2 => by
    unfold cellsFrom at h1 h2
    split at h1
    · rename_i hk
      rw [if_pos hk] at h2
      rw [← Heap.size_push h { cls:=.type "cell",data:=.cell none }] at h1 h2
      refine cells_inj (h:=h.push _) (fun p hp => ?_) (fun x y c a b => ?_) h1 h2
      · rw [Heap.size_push]
        rcases List.mem_cons.mp hp with rfl | hp
        · exact Nat.lt_succ_self _
        · exact Nat.lt_succ_of_lt (hl p hp)
      · rcases List.mem_cons.mp a with e | a <;> rcases List.mem_cons.mp b with e' | b
        · cases e; cases e'; rfl
        · cases e; exact absurd (hl _ b) (Nat.lt_irrefl _)
        · cases e'; exact absurd (hl _ a) (Nat.lt_irrefl _)
        · exact hi _ _ _ a b
    · rename_i hk
      rw [if_neg hk] at h2
      exact cells_inj hl hi h1 h2
theorem newEnv_comp {M:Model} {A:Around} {E:Value → Shared → Prop} {s:Shared} {scope:Scope} {globals:Addr} {closure:List (Str × Addr)} {qual:Str} {func:Option Addr} {code:Value} {around:Env} {builtins:Addr} {Q:Env → Shared → Prop}
    (h:Q (newEnv scope s.heap.objs.size globals (cellsFrom (s.heap.objs.size + 1) scope.names closure) qual func code (some around) builtins)
      { s with heap:=pushCells (s.heap.push { cls:=.type "dict",data:=.dict #[] }) scope.names }) :
    wpAny M A (newFunctionEnv scope globals closure [] qual func code (some around) builtins) Q E s:=by
  simp only [newFunctionEnv,Option.isSome_some,if_true]
  refine wpAny_bind (wpAny_alloc ?_)
  refine wpAny_bind (wpAny_layCells _ (fun n k c => rfl) scope.names closure _ _ ?_)
  rw [show ({ s with heap:=s.heap.push { cls:=.type "dict",data:=.dict #[] } }:Shared).heap.objs.size = s.heap.objs.size + 1 from Heap.size_push ..]
  rw [List.forIn_nil]
  exact wpAny_bind (wpAny_pure (wpAny_pure h))
theorem lookup_relS {sc:Scope}:∀ {names:List (Str × NameKind)} {x:Str} {k:NameKind},
    (names.map fun (n,k) => if (k == NameKind.free && sc.kind == .function && sc.names.lookup n == some .cell) then (n,NameKind.cell) else (n,k)).lookup x = some k →
    ∃ k',names.lookup x = some k' ∧ (k = k' ∨ (k' = .free ∧ k = .cell))
  | [],_,_,h => by simp at h
  | (n,k₀) :: r,x,k,h => by
    have ih:=@lookup_relS sc r x k
    have h':List.lookup x ((if (k₀ == NameKind.free && sc.kind == .function && sc.names.lookup n == some .cell) = true then (n,NameKind.cell) else (n,k₀)) :: (r.map _)) = some k:=h
    cases hx:x == n with
    | true =>
      simp only [List.lookup_cons,hx]
      by_cases hc:(k₀ == NameKind.free && sc.kind == .function && sc.names.lookup n == some .cell) = true
      · rw [if_pos hc] at h'
        simp only [List.lookup_cons,hx] at h'
        cases h'
        simp only [Bool.and_eq_true,beq_iff_eq] at hc
        exact ⟨k₀,rfl,.inr ⟨hc.1.1,rfl⟩⟩
      · rw [if_neg hc] at h'
        simp only [List.lookup_cons,hx] at h'
        cases h'
        exact ⟨_,rfl,.inl rfl⟩
    | false =>
      simp only [List.lookup_cons,hx]
      by_cases hc:(k₀ == NameKind.free && sc.kind == .function && sc.names.lookup n == some .cell) = true
      · rw [if_pos hc] at h'
        simp only [List.lookup_cons,hx] at h'
        exact ih h'
      · rw [if_neg hc] at h'
        simp only [List.lookup_cons,hx] at h'
        exact ih h'
structure BlkOk (N:List Str) (sc scope:Scope) (own:List (Str × Nat)):Prop where
  kind:scope.kind = .function
  uniq:∀ y ∈ scope.names,scope.names.lookup y.1 = some y.2
  ix:∀ p ∈ own,N[p.2]? = some p.1
  free:∀ y ∈ scope.names,y.2 = .free → sc.names.lookup y.1 = some .cell ∨ sc.names.lookup y.1 = some .free
  own:∀ y ∈ scope.names,y.2 = .local ∨ y.2 = .cell → y.1 ∈ own.map (·.1) ∨ y.1 ∉ N
noncomputable def wipe (σ:St):List Nat → St
  | [] => σ
  | v :: vs => (wipe σ vs).set v none
theorem wipe_length (σ:St):∀ vs:List Nat,(wipe σ vs).length = σ.length
  | [] => rfl
  | v :: vs => by unfold wipe; rw [List.length_set,wipe_length σ vs]
theorem wipe_some {σ:St} {i:Nat} {x:V}:∀ {vs:List Nat},(wipe σ vs)[i]? = some (some x) → σ[i]? = some (some x) ∧ i ∉ vs
  | [],h => ⟨h,by simp⟩
  | v :: vs,h => by
    unfold wipe at h
    by_cases hi:v = i
    · subst hi
      by_cases hv:v < (wipe σ vs).length
      · rw [List.getElem?_set_self hv] at h; cases h
      · rw [List.getElem?_eq_none (by simpa using hv)] at h; cases h
    · rw [List.getElem?_set_ne hi] at h
      obtain ⟨h1,h2⟩:=wipe_some h
      exact ⟨h1,by simp only [List.mem_cons,not_or]; exact ⟨fun e => hi e.symm,h2⟩⟩
noncomputable abbrev Cx.blk (X:Cx) (s:Shared) (H:Hp) (scope:Scope) (cenv:Env) (fp:List Addr):Cx:={ X with s_0:=s,H_0:=H,env:=cenv,outer:=X.stack,ex:=fp,fn:=fun x => scope.names.lookup x == some .cell,pn:=[],xe:=fun _ _ => False }
section
variable {X:Cx} {pins:List (Addr × Obj)} {σ:St} {H:Hp} {s:Shared}
theorem block_start {scope:Scope} {own:List (Str × Nat)} {fp:List Addr} (I:Inv X pins σ H s) (ok:BlkOk X.N X.env.scope scope own) (hN:X.N.Nodup) (hfp:∀ b ∈ fp,FpOk X pins H b ∧ b < s.heap.objs.size) :
    Inv (X.blk s H scope (compEnvC scope (cellsFrom (s.heap.objs.size + 1) scope.names (cloFrom X.env.cells scope.names [])) s.heap.objs.size X.env) fp) [] (wipe σ (own.map (·.2))) H { s with heap:=pushCells (s.heap.push { cls:=.type "dict",data:=.dict #[] }) scope.names }:=by
  have hfree:∀ y ∈ scope.names,y.2 = .free → ∃ c,X.env.cells.lookup y.1 = some c:=fun y hy e => by
    rcases ok.free y hy e with k | k
    · exact I.ok.has _ (.inl k)
    · exact I.ok.has _ (.inr k)
  generalize hcenv:compEnvC scope (cellsFrom (s.heap.objs.size + 1) scope.names (cloFrom X.env.cells scope.names [])) s.heap.objs.size X.env = cenv
  have kp:∀ b o,s.heap.get? b = some o → (pushCells (s.heap.push { cls:=.type "dict",data:=.dict #[] }) scope.names).get? b = some o:=fun b o e => pushCells_keeps _ _ _ _ (Heap.get?_push_of_some _ e)
  have hL:cenv.locals = s.heap.objs.size:=by rw [← hcenv]; rfl
  have hcl:cenv.cells = cellsFrom (s.heap.objs.size + 1) scope.names (cloFrom X.env.cells scope.names []):=by rw [← hcenv]; rfl
  have hsc:cenv.scope = relS scope X.env.scope:=by rw [← hcenv]; rfl
  rw [← Heap.size_push s.heap { cls:=.type "dict",data:=.dict #[] }] at hcl
  have cm:∀ {y c},(y,c) ∈ cloFrom X.env.cells scope.names [] → X.env.cells.lookup y = some c ∧ c < s.heap.objs.size:=fun {y c} hm => by
    rcases cloFrom_mem hm with hm | ⟨h1,rfl⟩
    · cases hm
    · obtain ⟨c,hc⟩:=hfree _ h1 rfl
      rw [hc]
      obtain ⟨w,z⟩:=I.cell _ _ hc
      exact ⟨rfl,z.lt⟩
  have mem:∀ {y c},cenv.cells.lookup y = some c → (X.env.cells.lookup y = some c ∧ c < s.heap.objs.size) ∨ (s.heap.objs.size + 1 ≤ c ∧ CellAt (pushCells (s.heap.push { cls:=.type "dict",data:=.dict #[] }) scope.names) c none):=fun {y c} e => by
    rw [hcl] at e
    rcases cells_mem (PySem.mem_of_lookup e) with hm | ⟨_,h2,h3⟩
    · exact .inl (cm hm)
    · rw [Heap.size_push] at h2; exact .inr ⟨h2,h3⟩
  have look:∀ {y},scope.names.lookup y = some .free → ∃ c,cenv.cells.lookup y = some c ∧ X.env.cells.lookup y = some c:=fun {y} hl => by
    have hy:(y,NameKind.free) ∈ scope.names:=PySem.mem_of_lookup hl
    obtain ⟨c',e'⟩:=mem_lookup (cells_acc (names:=scope.names) (n:=(s.heap.push { cls:=.type "dict",data:=.dict #[] }).objs.size) (cloFrom_has (cells:=X.env.cells) (acc:=[]) hy))
    rw [← hcl] at e'
    refine ⟨c',e',?_⟩
    rw [hcl] at e'
    rcases cells_mem (PySem.mem_of_lookup e') with hm | ⟨h1,_,_⟩
    · exact (cm hm).1
    · have:=ok.uniq _ h1
      rw [hl] at this; cases this
  have okB:(X.blk s H scope cenv fp).Ok:=by
    refine ⟨I.ok.mod,by show cenv.scope.kind = _; rw [hsc]; exact ok.kind,by show cenv.globals = _; rw [← hcenv]; exact I.ok.glob,by show cenv.builtins = _; rw [← hcenv]; exact I.ok.blt,by show s.heap.objs.size ≤ cenv.locals; rw [hL]; exact Nat.le_refl _,
      fun y z c e1 e2 => ?_,fun y hy => ?_,fun y c z e => ?_,I.ok.hd,I.ok.frames,.inl rfl,fun b hb => ⟨?_,fun y c e z => ?_⟩,I.bs,Nat.le_trans I.ok.bsz I.sz,fun b o e hb => ?_,fun b hb z => ?_,I.stack,I.stkFree⟩
    · have e1:cenv.cells.lookup y = some c:=e1
      have e2:cenv.cells.lookup z = some c:=e2
      rw [hcl] at e1 e2
      refine cells_inj (fun p hp => ?_) (fun y z c a b => I.ok.inj y z c (cm a).1 (cm b).1) (PySem.mem_of_lookup e1) (PySem.mem_of_lookup e2)
      rw [Heap.size_push]
      exact Nat.lt_succ_of_lt (cm (y:=p.1) (c:=p.2) hp).2
    · show ∃ c,cenv.cells.lookup y = some c
      have key:∀ k,cenv.kindOf y = some k → (k = .cell ∨ k = .free) → ∃ c,cenv.cells.lookup y = some c:=fun k hk hk' => by
        unfold Env.kindOf at hk
        rw [hsc] at hk
        obtain ⟨k',e,r⟩:=lookup_relS hk
        have:k' = .cell ∨ k' = .free:=by
          rcases r with rfl | ⟨rfl,_⟩
          · exact hk'
          · exact .inr rfl
        rcases this with rfl | rfl
        · obtain ⟨c,hm⟩:=cells_has (n:=(s.heap.push { cls:=.type "dict",data:=.dict #[] }).objs.size) (acc:=cloFrom X.env.cells scope.names []) (PySem.mem_of_lookup e)
          obtain ⟨c',e'⟩:=mem_lookup hm
          exact ⟨c',by rw [hcl]; exact e'⟩
        · obtain ⟨c,h1,_⟩:=look e
          exact ⟨c,h1⟩
      rcases hy with hy | hy
      · exact key _ hy (.inl rfl)
      · exact key _ hy (.inr rfl)
    · have z:(scope.names.lookup y == some NameKind.cell) = true:=z
      have z:scope.names.lookup y = some .cell:=by simpa using z
      have e:cenv.cells.lookup y = some c:=e
      rw [hcl] at e
      rcases cells_mem (PySem.mem_of_lookup e) with hm | ⟨_,h2,_⟩
      · rcases cloFrom_mem hm with hm | ⟨h1,_⟩
        · cases hm
        · have q:=ok.uniq _ h1
          rw [z] at q; cases q
      · rw [Heap.size_push] at h2
        exact Nat.le_of_succ_le h2
    · show b ≠ cenv.locals
      rw [hL]; exact Nat.ne_of_lt (hfp b hb).2
    · have e:cenv.cells.lookup y = some c:=e
      rcases mem e with ⟨h1,_⟩ | ⟨h1,_⟩
      · exact (hfp b hb).1.2.2.2.2.1 y c h1 z
      · have h2:s.heap.objs.size + 1 ≤ b:=by rw [← z]; exact h1
        exact absurd (Nat.lt_of_lt_of_le (hfp b hb).2 (Nat.le_of_succ_le h2)) (Nat.lt_irrefl _)
    · rcases (hfp b hb).1.2.2.2.1 with z | z
      · exact I.ok.noex b o e z
      · exact absurd (Nat.lt_of_lt_of_le (Heap.lt_size e) (Nat.le_trans I.ok.bsz z)) (Nat.lt_irrefl _)
    · rcases List.mem_cons.mp (I.stkSub b z) with z | z
      · exact (hfp b hb).1.2.1 z
      · exact (hfp b hb).1.2.2.1 z
  refine ⟨okB,rfl,I.bare,Un.kept kp,⟨fun _ => none,?_,fun i y av e1 e2 e3 => ?_⟩,fun y c e => ?_,?_,fun y c e => ?_,fun p hp => ?_,I.hok.kept kp,by rw [wipe_length]; exact I.len⟩
  · show Heap.Ns _ cenv.locals _
    rw [hL]
    exact Heap.Ns.keeps (Heap.Ns.new ..) fun b o e => pushCells_keeps _ _ _ _ e
  · obtain ⟨e2,hne⟩:=wipe_some e2
    have hfr:scope.names.lookup y = some .free ∧ (cenv.kindOf y = some .cell ∨ cenv.kindOf y = some .free):=by
      have key:∀ k,cenv.scope.names.lookup y = some k → k = .local ∨ k = .cell ∨ k = .free → scope.names.lookup y = some .free ∧ (cenv.kindOf y = some .cell ∨ cenv.kindOf y = some .free):=fun k hk hk' => by
        have hk0:=hk
        rw [hsc] at hk
        obtain ⟨k',e,r⟩:=lookup_relS hk
        have no:¬ (k' = .local ∨ k' = .cell):=fun hh => by
          rcases ok.own _ (PySem.mem_of_lookup e) hh with e' | e'
          · obtain ⟨p,hp,hpy⟩:=List.mem_map.mp e'
            have e3:=ok.ix p hp
            have:p.1 = y:=hpy
            rw [this] at e3
            exact hne (List.mem_map.mpr ⟨p,hp,nodup_ix hN e3 e1⟩)
          · exact e' (List.mem_of_getElem? e1)
        rcases r with rfl | ⟨rfl,rfl⟩
        · rcases hk' with rfl | rfl | rfl
          · exact absurd (.inl rfl) no
          · exact absurd (.inr rfl) no
          · exact ⟨e,.inr hk0⟩
        · exact ⟨e,.inl hk0⟩
      have e3:Vis cenv.scope y:=e3
      rcases e3 with e3 | e3 | e3
      · exact key _ e3 (.inl rfl)
      · exact key _ e3 (.inr (.inl rfl))
      · exact key _ e3 (.inr (.inr rfl))
    obtain ⟨m,hn,hl⟩:=I.loc
    have hvis:Vis X.env.scope y:=(ok.free _ (PySem.mem_of_lookup hfr.1) rfl).elim (fun k => .inr (.inl k)) (fun k => .inr (.inr k))
    obtain ⟨w,r,q⟩:=hl i y av e1 e2 hvis
    refine ⟨w,r,.inr ⟨hfr.2,?_⟩⟩
    obtain ⟨c,h1,h2⟩:=look hfr.1
    rcases q with ⟨k,_⟩ | ⟨_,c',e',z⟩
    · have k:X.env.scope.names.lookup y = some .local:=k
      rcases ok.free _ (PySem.mem_of_lookup hfr.1) rfl with k' | k' <;> rw [show X.env.scope.names.lookup y = _ from k'] at k <;> cases k
    · rw [h2] at e'; cases e'
      exact ⟨c,h1,z.keeps kp⟩
  · have e:cenv.cells.lookup y = some c:=e
    rcases mem e with ⟨h1,_⟩ | ⟨_,z⟩
    · obtain ⟨w,z⟩:=I.cell y c h1
      exact ⟨w,z.keeps kp⟩
    · exact ⟨_,z⟩
  · show H cenv.locals = none
    rw [hL]; exact I.hok.fresh (Nat.le_refl _)
  · have e:cenv.cells.lookup y = some c:=e
    rcases mem e with ⟨h1,_⟩ | ⟨h1,_⟩
    · exact I.freeC y c h1
    · exact I.hok.fresh (Nat.le_of_succ_le h1)
  · exact absurd (show p ∈ ([]:List (Addr × Obj)) ++ [] from hp) (by simp)
theorem app_ok {E:Value → Shared → Prop} {D:Addr} {xs:List V} {y:V} {v:Value} {Q:Value → Shared → Prop} (I:Inv X pins σ H s) (hD:H D = some (.lst xs)) (hz:xs.length < sizeLine) (r:RelV y v)
    (h:∀ s',Inv X pins σ (upd H D (.lst (xs ++ [y]))) s' → Q .none s'):wpAny (model X.prog X.w) X.A (call (.builtin "list.append") [.ref D,v]) Q E s:=by
  obtain ⟨hz',its,n,ri,e⟩:=I.hok D _ hD
  have hl:=ri.length
  refine append_at (hsz:=by rw [List.size_toArray]; omega) e fun h' sb ho' => ?_
  refine h { s with heap:=h' } (I.write (t':=s.toks) (by rw [hD]; trivial) (.inl rfl) (fun b u hb q => (sb.2 b hb).trans q) ⟨_,ho'⟩ ⟨by rw [List.length_append]; exact hz,its ++ [v],n + 1,ri.append (.cons r .nil),?_⟩)
  rw [ho']
  simp
noncomputable def PTs (X:Cx) (ifs:List Expr) (t:TT):Prop :=
  ∀ (pins:List (Addr × Obj)) (s:Shared) (σ:St) (H:Hp) (Q:Bool → Hp → Prop),Inv X pins σ H s → t σ H Q →
    wpAny (model X.prog X.w) X.A (forIn ifs true fun c r => if r = true then do let ok ← isTrue c X.env (eval c X.env); pure (ForInStep.yield ok) else pure (ForInStep.yield r)) (TP X pins σ Q) X.xe s
noncomputable def tYes:TT:=fun _ H Q => Q true H
theorem pts_nil:PTs X [] tYes:=fun _ _ _ H _ I h => wpAny_tests_nil ⟨H,I,h⟩
theorem pts_one {c:Expr} {t:TT} (h:PT X c t):PTs X [c] t:=fun pins s σ H Q I hw => wpAny_tests_one (h pins s σ H Q I hw)
end
theorem thnF {α:Type} {t:Sem α} {Q Q':α → Shared → Prop} {M:Model} {A:Around} {E:Value → Shared → Prop} {s:Shared} (h:wpAny M A t Q (fun _ _ => False) s) (hQ:∀ a s,Q a s → Q' a s):wpAny M A t Q' E s:=wpAny_mono h hQ fun _ _ z => False.elim z
theorem compLoop_any {prog:Program} {w:World} {A:Around} {R:Result → Shared → Prop} {s:Shared} {elt target iter:Expr} {ifs:List Expr} {scope:Scope} {pos:Pos} {it acc:Value} {env:Env} (I:Nat → Shared → Prop)
    (turn:∀ n s,I n s → wpAny (model prog w) A (pyNext it) (fun r s₁ => match r with
      | none => R (.ok .next) s₁
      | some v => wpAny (model prog w) A (letOwnedTupleGo target it v) (fun _ s₁' => wpAny (model prog w) A (assign target env v) (fun _ s₂ =>
          wpAny (model prog w) A (forIn ifs true fun c r => if r = true then do let ok ← isTrue c env (eval c env); pure (ForInStep.yield ok) else pure (ForInStep.yield r)) (fun ok s₃ =>
            if ok = true then wpAny (model prog w) A (eval elt env) (fun x s₄ =>
              wpAny (model prog w) A (call (.builtin "list.append") [acc,x]) (fun _ s₅ => ∃ m,m < n ∧ I m s₅) (notedBy (model prog w) A env fun e s' => R (.error e) s') s₄) (notedBy (model prog w) A env fun e s' => R (.error e) s') s₃
            else ∃ m,m < n ∧ I m s₃) (notedBy (model prog w) A env fun e s' => R (.error e) s') s₂) (notedBy (model prog w) A env fun e s' => R (.error e) s') s₁') (notedBy (model prog w) A env fun e s' => R (.error e) s') s₁) (notedBy (model prog w) A env fun e s' => R (.error e) s') s)
    (n:Nat) (h:I n s) :
    codeAny (model prog w) A (.compLoop (.ListComp elt [⟨target,iter,ifs,0⟩] scope pos) 0 it acc env) R s:=by
  refine codeAny_loop rfl I (fun n s hI => ?_) n h
  show wpAny _ A ((compTurn (.ListComp elt [⟨target,iter,ifs,0⟩] scope pos) 0 it acc env).onRaise (fun x => do noteFrame x env; theTreesLotGoes x)) _ _ s
  refine wpAny_noted ?_
  rw [compTurn_list]
  refine wpAny_bind (wpAny_standAt (wpAny_bind (wpAny_mono (turn n s hI) (fun r s₁ h₁ => ?_) fun _ _ h' => h')))
  cases r with
  | none => exact wpAny_pure h₁
  | some v =>
    refine wpAny_bind (wpAny_mono h₁ (fun _ s₁' h₁' => ?_) fun _ _ h' => h')
    refine wpAny_bind (wpAny_mono h₁' (fun _ s₂ h₂ => wpAny_bind (wpAny_mono h₂ (fun ok s₃ h₃ => ?_) fun _ _ h' => h')) fun _ _ h' => h')
    cases ok with
    | false => exact wpAny_pure ⟨rfl,h₃⟩
    | true =>
      exact wpAny_bind (wpAny_bind (wpAny_mono h₃ (fun x s₄ h₄ => wpAny_bind (wpAny_mono h₄ (fun _ s₅ h₅ => wpAny_pure (wpAny_pure ⟨rfl,h₅⟩)) fun _ _ h' => h')) fun _ _ h' => h'))
section
variable {X:Cx}
noncomputable def tLc (wi:TI) (g:TG) (tt:TT) (te:TE) (vs:List Nat):TE:=fun σ H Q => wi σ H fun J H1 => ∀ D,H1 D = none → ∃ W:Nat → Nat → Hp → Prop,(∃ m,W 0 m (upd H1 D (.lst []))) ∧ ∀ i m H,W i m H →
  (J.stop i H ∧ Q (.ref D) H) ∨ (J.go i H ∧ ∃ Nx:Hp → Prop,(∀ H',Nx H' → ∃ m',m' < m ∧ W (i + 1) m' H') ∧ ∀ x H',J.yld i H x H' → g x (wipe σ vs) H' fun σ2 H2 => wipe σ2 vs = wipe σ vs ∧ tt σ2 H2 fun b H3 =>
    if b = true then te σ2 H3 fun y H4 => ∃ acc,H4 D = some (.lst acc) ∧ acc.length < sizeLine ∧ Nx (upd H4 D (.lst (acc ++ [y]))) else Nx H3)
theorem lc_core {pins:List (Addr × Obj)} {s:Shared} {σ:St} {H:Hp} {Q:VK} {elt tg iter:Expr} {ifs:List Expr} {scope:Scope} {own:List (Str × Nat)} {pos pos':Pos} {wi:TI} {g:TG} {tt:TT} {te:TE} {use:Option (Value → Sem Unit)} {Qf:Value → Shared → Prop}
    (hc:X.calm = true) (hN:X.N.Nodup) (I:Inv X pins σ H s) (hi:PI X tg iter wi) (ok:BlkOk X.N X.env.scope scope own)
    (hg:∀ (s:Shared) (H:Hp) (C:Addr) (cl:List (Str × Addr)) (fp:List Addr),PG (X.blk s H scope (compEnvC scope cl C X.env) fp) tg g) (ht:∀ (s:Shared) (H:Hp) (C:Addr) (cl:List (Str × Addr)) (fp:List Addr),PTs (X.blk s H scope (compEnvC scope cl C X.env) fp) ifs tt)
    (he:∀ (s:Shared) (H:Hp) (C:Addr) (cl:List (Str × Addr)) (fp:List Addr),PE (X.blk s H scope (compEnvC scope cl C X.env) fp) elt te) (hs:∀ x,foldedSetIterable iter X.env x = pure x)
    (h:tLc wi g tt te (own.map (·.2)) σ H Q)
    (hRR:∀ D C s' m H',Inv X pins σ H' s' → Q (.ref D) H' → s'.heap.Ns C m → FpOk X pins H' C → compPost (model X.prog X.w) X.A X.xe use Qf (.ref D) C (.ok .next) s') :
    wpAny (model X.prog X.w) X.A (comprehension (.ListComp elt [⟨tg,iter,ifs,0⟩] scope pos) scope X.env pos' (newList []) false (eval iter X.env) use) Qf X.xe s:=by
  have hfree:∀ y ∈ scope.names,y.2 = .free → ∃ c,X.env.cells.lookup y.1 = some c:=fun y hy e => by
    rcases ok.free y hy e with k | k
    · exact I.ok.has _ (.inl k)
    · exact I.ok.has _ (.inr k)
  refine wpAny_comprehension_free (use:=use) rfl hs (closure_ok hfree) ok.kind (fun y hy e => by rw [ok.uniq y hy,e])
    (thn (hi pins s σ H _ I h) fun xv s1 hx => thn hx fun itv s2 h2 => ?_)
  obtain ⟨it,fp,tn,J,H2,e,I2,T,st2,f2,q⟩:=h2
  subst e
  refine wpAny_newObj_type (newEnv_comp ?_) (by show 0 ≤ sizeLine; decide)
  generalize hD:s2.heap.objs.size = D
  have hDn:H2 D = none:=I2.hok.fresh (Nat.le_of_eq hD)
  obtain ⟨W,⟨m0,w0⟩,turn⟩:=q D hDn
  generalize hs3:({ s2 with heap:=s2.heap.push { cls:=.type "list",data:=.seq ([]:List Value).toArray } }:Shared) = s3
  have I3:Inv X pins σ (upd H2 D (.lst [])) s3:=by
    rw [← hs3]
    refine I2.laid (t':=s2.toks) (fun b o e => Heap.get?_push_of_some _ e) (Nat.le_of_eq hD) ⟨Nat.zero_le _,[],0,.nil,?_⟩
    rw [← hD]
    exact Heap.get?_push_size _ rfl
  have h3:s3.heap = s2.heap.push { cls:=.type "list",data:=.seq ([]:List Value).toArray }:=by rw [← hs3]
  have sz:∀ b ∈ fp,b < s2.heap.objs.size:=fun b hb => by
    obtain ⟨o,e,_⟩:=T.obj _ _ st2 b hb
    exact Heap.lt_size e
  have f3:∀ b ∈ fp,FpOk X pins (upd H2 D (.lst [])) b ∧ b < s3.heap.objs.size:=fun b hb => by
    have hlt:=sz b hb
    refine ⟨⟨?_,(f2 b hb).2⟩,by rw [h3,Heap.size_push]; exact Nat.lt_succ_of_lt hlt⟩
    rw [upd_ne (by rw [← hD]; exact Nat.ne_of_lt hlt)]
    exact (f2 b hb).1
  have st3:tn 0 s3.heap:=T.keep _ _ _ st2 fun b _ o e => by rw [h3]; exact Heap.get?_push_of_some _ e
  have I4:=block_start I3 ok hN f3
  have pg:=hg s3 (upd H2 D (.lst [])) s3.heap.objs.size (cellsFrom (s3.heap.objs.size + 1) scope.names (cloFrom X.env.cells scope.names [])) fp
  have pt:=ht s3 (upd H2 D (.lst [])) s3.heap.objs.size (cellsFrom (s3.heap.objs.size + 1) scope.names (cloFrom X.env.cells scope.names [])) fp
  have pe:=he s3 (upd H2 D (.lst [])) s3.heap.objs.size (cellsFrom (s3.heap.objs.size + 1) scope.names (cloFrom X.env.cells scope.names [])) fp
  show codeAny _ _ (.compStart (.ListComp elt [⟨tg,iter,ifs,0⟩] scope pos) 0 (.ref it) (.ref D) (compEnvC scope (cellsFrom (s3.heap.objs.size + 1) scope.names (cloFrom X.env.cells scope.names [])) s3.heap.objs.size X.env)) (compPost (model X.prog X.w) X.A X.xe use Qf (.ref D) s3.heap.objs.size) { s3 with heap:=pushCells (s3.heap.push { cls:=.type "dict",data:=.dict #[] }) scope.names }
  have nfp:∀ b ∈ fp,(upd H2 D (.lst [])) b = none:=fun b hb => (f3 b hb).1.1
  generalize hce:compEnvC scope (cellsFrom (s3.heap.objs.size + 1) scope.names (cloFrom X.env.cells scope.names [])) s3.heap.objs.size X.env = ce at I4 pg pt pe ⊢
  have cL:ce.locals = s3.heap.objs.size:=by subst hce; rfl
  generalize hH3:upd H2 D (.lst []) = H3 at I3 I4 pg pt pe w0 nfp f3
  generalize hs4:({ s3 with heap:=pushCells (s3.heap.push { cls:=.type "dict",data:=.dict #[] }) scope.names }:Shared) = s4 at I4 ⊢
  have st4:tn 0 s4.heap:=T.keep _ _ _ st3 fun b _ o e => by rw [← hs4]; exact pushCells_keeps _ _ _ _ (Heap.get?_push_of_some _ e)
  have stat:∀ {σ':St} {H':Hp} {s':Shared},Inv (X.blk s3 H3 scope ce fp) [] σ' H' s' → (∀ b ∈ fp,H' b = none) → ∀ b ∈ fp,FpOk (X.blk s3 H3 scope ce fp) [] H' b:=fun {σ' H' s'} I' hn b hb =>
    ⟨hn b hb,(I'.ok.exf b hb).1,I'.ok.exfs b hb,.inl hb,fun x c e => (I'.ok.exf b hb).2 x c e,fun p hp => absurd (show p ∈ ([]:List (Addr × Obj)) ++ [] from hp) (by simp)⟩
  have loop:codeAny (model X.prog X.w) X.A (.compLoop (.ListComp elt [⟨tg,iter,ifs,0⟩] scope pos) 0 (.ref it) (.ref D) ce) (compPost (model X.prog X.w) X.A X.xe use Qf (.ref D) s3.heap.objs.size) s4:=by
    refine compLoop_any (fun n s' => ∃ i H',Inv (X.blk s3 H3 scope ce fp) [] (wipe σ (own.map (·.2))) H' s' ∧ tn i s'.heap ∧ (∀ b ∈ fp,H' b = none) ∧ W i n H') ?_ m0 ⟨0,H3,I4,st4,nfp,w0⟩
    rintro n s5 ⟨i,H5,I5,st5,n5,w5⟩
    rcases turn i n H5 w5 with ⟨stop,qq⟩ | ⟨go,Nx,hNx,step⟩
    · have td:=T.done (X.blk s3 H3 scope ce fp) rfl rfl rfl hc i [] s5 _ H5 (fun _ _ => False) I5 (stat I5 n5) st5 stop
      refine thnF td fun r s6 ⟨hr,I6⟩ => ?_
      subst hr
      have I7:Inv X pins σ H5 s6:=I3.call' (ch:=fp) I6.os I6.base I6.hok I6.bare fun b hb => ⟨(f3 b hb).1.2.2.2.1,(f3 b hb).1.2.1,(f3 b hb).1.2.2.2.2.1,(f3 b hb).1.2.2.2.2.2⟩
      have nC:H5 s3.heap.objs.size = none:=by
        have z:H5 ce.locals = none:=I6.free
        rw [cL] at z
        exact z
      obtain ⟨m,hn,_⟩:=I6.loc
      have hn:s6.heap.Ns ce.locals m:=hn
      rw [cL] at hn
      exact hRR D s3.heap.objs.size s6 m H5 I7 qq hn (I3.fpOk (Nat.le_refl _) nC)
    · have ti:=T.item (X.blk s3 H3 scope ce fp) rfl rfl rfl hc i [] s5 _ H5 (fun _ _ => False) I5 (stat I5 n5) st5 go
      refine thnF ti fun r s6 ⟨u,hr,h6⟩ => ?_
      subst hr
      refine thnF h6 fun _ s7 ⟨x,H7,I7,r7,y7,st7,n7⟩ => ?_
      have I7':=I7.pinned (stat I7 n7) (T.obj _ _ st7)
      refine thnF (pg _ s7 _ H7 x u _ I7' r7 (step x H7 y7)) fun _ s8 ⟨σ8,H8,I8,hw8,q8⟩ => ?_
      refine thnF (pt _ s8 σ8 H8 _ I8 q8) fun b s9 ⟨H9,I9,q9⟩ => ?_
      have fin:∀ {s':Shared} {H':Hp},Inv (X.blk s3 H3 scope ce fp) ([] ++ pinsAt fp s7.heap) σ8 H' s' → Nx H' → ∃ m,m < n ∧ ∃ i H',Inv (X.blk s3 H3 scope ce fp) [] (wipe σ (own.map (·.2))) H' s' ∧ tn i s'.heap ∧ (∀ b ∈ fp,H' b = none) ∧ W i m H':=fun {s' H'} I' nx => by
        obtain ⟨m',hm,w'⟩:=hNx H' nx
        have pin':∀ b ∈ fp,∀ o,s7.heap.get? b = some o → s'.heap.get? b = some o ∧ H' b = none:=fun b hb o e =>
          let z:=I'.pin (b,o) (List.mem_append_right _ (List.mem_append_right _ (mem_pinsAt hb e)))
          ⟨z.1,z.2.1⟩
        have hl:(wipe σ (own.map (·.2))).length = σ8.length:=by rw [← hw8,wipe_length]
        refine ⟨m',hm,i + 1,H',(I'.unpinned (pins:=[])).weak hl (fun j v e => ?_),T.keep _ _ _ st7 fun b hb o e => (pin' b hb o e).1,fun b hb => ?_,w'⟩
        · rw [← hw8] at e
          exact (wipe_some e).1
        · obtain ⟨o,e,_⟩:=T.obj _ _ st7 b hb
          exact (pin' b hb o e).2
      cases b with
      | false =>
        simp only [Bool.false_eq_true,if_false] at q9 ⊢
        exact fin I9 q9
      | true =>
        simp only [if_true] at q9 ⊢
        refine thnF (pe _ s9 σ8 H9 _ I9 q9) fun z s10 ⟨yv,H10,I10,r10,acc,hD10,hz10,nx⟩ => ?_
        exact app_ok (X:=X.blk s3 H3 scope ce fp) I10 hD10 hz10 r10 fun s11 I11 => fin I11 nx
  exact codeAny_compStart_list loop (T.self X.A 0 _ _ _ st4 loop)
theorem pe_lc {elt tg iter:Expr} {ifs:List Expr} {scope:Scope} {own:List (Str × Nat)} {pos:Pos} {wi:TI} {g:TG} {tt:TT} {te:TE} (hc:X.calm = true) (hN:X.N.Nodup) (hi:PI X tg iter wi) (ok:BlkOk X.N X.env.scope scope own)
    (hg:∀ (s:Shared) (H:Hp) (C:Addr) (cl:List (Str × Addr)) (fp:List Addr),PG (X.blk s H scope (compEnvC scope cl C X.env) fp) tg g) (ht:∀ (s:Shared) (H:Hp) (C:Addr) (cl:List (Str × Addr)) (fp:List Addr),PTs (X.blk s H scope (compEnvC scope cl C X.env) fp) ifs tt)
    (he:∀ (s:Shared) (H:Hp) (C:Addr) (cl:List (Str × Addr)) (fp:List Addr),PE (X.blk s H scope (compEnvC scope cl C X.env) fp) elt te) (hs:∀ x,foldedSetIterable iter X.env x = pure x:=by intro _; rfl) :
    PE X (.ListComp elt [⟨tg,iter,ifs,0⟩] scope pos) (tLc wi g tt te (own.map (·.2))):=by
  intro pins s σ H Q I h
  rw [eval_ListComp]
  refine lc_core hc hN I hi ok hg ht he hs h fun D C s' m H' I' q hn f => ⟨m,hn,fun h'' sb => ?_⟩
  obtain ⟨f0,f1,f2,f3,f4,f5⟩:=f
  exact ⟨.ref D,H',I'.turned (t':=s'.toks) (fun b o hb e => (sb.2 b hb).trans e) f0 f1 f3 f4 f5,rfl,q⟩
theorem ps_setLc {i:Nat} {y:Str} {py:Pos} {elt tg iter:Expr} {ifs:List Expr} {scope:Scope} {own:List (Str × Nat)} {pos spos:Pos} {wi:TI} {g:TG} {tt:TT} {te:TE} (hc:X.calm = true) (hN:X.N.Nodup) (hy:X.N[i]? = some y) (hyl:X.env.scope.names.lookup y = some .local)
    (hsw:swapsWith (.ListComp elt [⟨tg,iter,ifs,0⟩] scope pos) (some (.Name y py)) spos.line X.env = pure true) (hi:PI X tg iter wi) (ok:BlkOk X.N X.env.scope scope own)
    (hg:∀ (s:Shared) (H:Hp) (C:Addr) (cl:List (Str × Addr)) (fp:List Addr),PG (X.blk s H scope (compEnvC scope cl C X.env) fp) tg g) (ht:∀ (s:Shared) (H:Hp) (C:Addr) (cl:List (Str × Addr)) (fp:List Addr),PTs (X.blk s H scope (compEnvC scope cl C X.env) fp) ifs tt)
    (he:∀ (s:Shared) (H:Hp) (C:Addr) (cl:List (Str × Addr)) (fp:List Addr),PE (X.blk s H scope (compEnvC scope cl C X.env) fp) elt te) (hs:∀ x,foldedSetIterable iter X.env x = pure x:=by intro _; rfl) :
    PS X (.Assign [.Name y py] (.ListComp elt [⟨tg,iter,ifs,0⟩] scope pos) spos) (tAsg (tLc wi g tt te (own.map (·.2))) (gName i)):=by
  intro pins s σ H D I h
  rw [exec_Assign_Name_used _ _ _ _ hsw]
  refine wpAny_bind (wpAny_standAt (wpAny_bind ?_))
  show wpAny _ X.A (do let _ ← comprehension (.ListComp elt [⟨tg,iter,ifs,0⟩] scope pos) scope X.env (firstIterPos [⟨tg,iter,ifs,0⟩] pos) (newList []) false (eval iter X.env) (some (assign (.Name y py) X.env))) _ _ s
  have h:tLc wi g tt te (own.map (·.2)) σ H (fun x H1 => gName i x σ H1 D.nx):=h
  refine wpAny_bind (thn (lc_core (Qf:=fun _ s' => SP X pins D .next s') hc hN I hi ok hg ht he hs h fun L C s' m H' I' q hn f => ?_) fun _ s' hq => wpAny_pure (wpAny_pure hq))
  show wpAny _ _ (assign (.Name y py) X.env (.ref L)) _ _ _
  refine wpAny_assign_Name (store_ok2 (v:=V.ref L) I' hN hy (.inl hyl) rfl (fun s2 I2 ⟨a,sb,ha⟩ => ?_) (.inr hyl))
  obtain ⟨f0,f1,f2,f3,f4,f5⟩:=f
  have haC:C ≠ a:=by
    rcases ha with z | z
    · rw [z]; exact f1
    · exact fun e => f4 y a z e.symm
  refine ⟨m,hn.sameBut sb haC,fun h3 sb3 => ?_⟩
  exact ⟨_,H',I2.turned (t':=s2.toks) (fun b o hb e => (sb3.2 b hb).trans e) f0 f1 f3 f4 f5,q⟩
end
theorem lc_list {K:PySem.W.Frag} {a:Addr} {xs:List V} {g:TG} {tt:TT} {te:TE} {vs:List Nat} {σ:St} {H1:Hp} {D:Addr} {Qd:Hp → Prop} (Pv:Nat → Hp → Prop) (h0:Pv 0 (upd H1 D (.lst []))) (hl:∀ i H,i ≤ xs.length → Pv i H → SqL K H a xs)
    (hs:∀ i x H,xs[i]? = some x → Pv i H → g x (wipe σ vs) H fun σ2 H2 => wipe σ2 vs = wipe σ vs ∧ tt σ2 H2 fun b H3 =>
      if b = true then te σ2 H3 fun y H4 => ∃ acc,H4 D = some (.lst acc) ∧ acc.length < sizeLine ∧ Pv (i + 1) (upd H4 D (.lst (acc ++ [y]))) else Pv (i + 1) H3) (hd:∀ H,Pv xs.length H → Qd H) :
    ∃ W:Nat → Nat → Hp → Prop,(∃ m,W 0 m (upd H1 D (.lst []))) ∧ ∀ i m H,W i m H →
      ((Itl K a).stop i H ∧ Qd H) ∨ ((Itl K a).go i H ∧ ∃ Nx:Hp → Prop,(∀ H',Nx H' → ∃ m',m' < m ∧ W (i + 1) m' H') ∧ ∀ x H',(Itl K a).yld i H x H' → g x (wipe σ vs) H' fun σ2 H2 => wipe σ2 vs = wipe σ vs ∧ tt σ2 H2 fun b H3 =>
        if b = true then te σ2 H3 fun y H4 => ∃ acc,H4 D = some (.lst acc) ∧ acc.length < sizeLine ∧ Nx (upd H4 D (.lst (acc ++ [y]))) else Nx H3):=by
  refine ⟨fun i m H => m = xs.length - i ∧ i ≤ xs.length ∧ Pv i H,⟨xs.length,by simp,Nat.zero_le _,h0⟩,?_⟩
  rintro i m H ⟨rfl,hi,p⟩
  have q:=hl i H hi p
  by_cases hlt:i < xs.length
  · refine .inr ⟨⟨xs,xs[i],q,by simp [hlt]⟩,Pv (i + 1),fun H' p' => ⟨xs.length - (i + 1),by omega,rfl,hlt,p'⟩,fun x H' y => ?_⟩
    obtain ⟨e,y⟩:=y
    subst e
    exact hs i x _ (y xs q) p
  · have e:i = xs.length:=by omega
    subst e
    exact .inl ⟨⟨xs,q,Nat.le_refl _⟩,hd H p⟩
end L2
namespace L2
open PySem PySem.Spec PyProof.Rows
end L2
namespace L2
open PySem PySem.Spec PyProof.Rows
noncomputable def NoSl (i:Expr):Prop:=∀ ov iv,subscripted i false ov iv = operate [ov,iv] (getItem ov iv)
theorem subD_of {prog:Program} {w:World} {A:Around} {E:Value → Shared → Prop} {s:Shared} {env:Env} {value slice:Expr} {pos:Pos} {T id:String} {Q:Value → Shared → Prop}
    (hl:typeLookup (.type T) "__getitem__" = pure (some (.builtin id))) (hs:NoSl slice)
    (h:wpAny (model prog w) A (eval value env) (fun o s₁ => wpAny (model prog w) A (eval slice env) (fun i s₂ => s₂.TypeIs o T ∧ wpAny (model prog w) A (getItem o i) Q E s₂) E s₁) E s) :
    wpAny (model prog w) A (eval (.Subscript value slice pos) env) Q E s:=by
  refine Subscript_ (wpAny_mono h (fun o s₁ h₁ => wpAny_mono h₁ (fun i s₂ h₂ => ?_) fun _ _ x => x) fun _ _ x => x)
  obtain ⟨hT,h₂⟩:=h₂
  unfold subscriptTail
  refine wpAny_bind ?_
  rw [getitemInPython_of_ne hT.not_modules]
  refine wpAny_bind (wpAny_specialOf hT hl ?_)
  have fin:wpAny (model prog w) A (subscripted slice false o i) (fun r s₃ => wpAny (model prog w) A (letTemporaryGo value o r >>= fun _ => pure r) Q E s₃) E s₂:=by
    rw [hs o i]
    exact wpAny_operating (wpAny_mono h₂ (fun r s₃ h₃ => wpAny_bind (wpAny_letTemporaryGo (wpAny_pure h₃))) fun _ _ x => x)
  first
    | exact wpAny_pure (wpAny_bind fin)
    | exact wpAny_bind (wpAny_pure (wpAny_bind fin))
    | exact wpAny_bind fin
end L2
namespace L2
open PySem PySem.Spec PyProof.Rows
end L2
namespace L2
open PySem PySem.Spec PyProof.Rows
theorem boot_reversed5:bootBuiltins "reversed" = some (.type "reversed"):=by decide +kernel
section
variable {X:Cx} {pins:List (Addr × Obj)} {σ:St} {H:Hp} {s:Shared} {h':Heap}
theorem Inv.turnedNew {t':Nat} {ch:List Addr} {T:Addr} {ob:HO} (I:Inv X pins σ H s) (k:∀ b o,b ∉ ch → s.heap.get? b = some o → h'.get? b = some o) (hf:∀ b ∈ ch,FpOk X pins H b) (hT:s.heap.objs.size ≤ T)
    (new:ObjOk X.prog X.w (upd H T ob) h' T ob):Inv X pins σ (upd H T ob) { s with heap:=h',toks:=t' }:=by
  have hn:H T = none:=I.hok.fresh hT
  have nit:∀ b u,H b = some u → b ∉ ch:=fun b u e z => by
    have q:=(hf b z).1
    rw [q] at e; cases e
  refine I.step (g':=s.gens) (d':=s.drawn) (ch:=ch) (fun b hb => ⟨(hf b hb).2.2.2.1,(hf b hb).2.1,(hf b hb).2.2.2.2.1,(hf b hb).2.2.2.2.2⟩) (fun b o _ _ hc e _ => k b o hc e) (fun b o _ _ hc e _ => ⟨o.slots,k b o hc e⟩)
    (fun b o _ e n => ?_) (fun b o hc e => ⟨o,k b o hc e⟩) (fun b xs e => ?_) (fun b o u e => ?_) (fun b ps e => ⟨#[],?_⟩) (fun m hm => ?_) (fun b u e => ?_) I.bare
  · rw [upd_ne (Nat.ne_of_lt (Nat.lt_of_lt_of_le (Heap.lt_size e) hT))]; exact n
  · rw [upd_ne (ne_of_none e hn)]; exact e
  · rw [upd_ne (ne_of_none e hn)]; exact e
  · rw [upd_ne (ne_of_none e hn),e]; simp
  · obtain ⟨o,es,ep,ho,r⟩:=hm
    exact ⟨o,es,ep,k _ o (fun z => (hf _ z).2.1 rfl) ho,r⟩
  · by_cases hb:b = T
    · subst hb
      rw [upd_same] at e
      cases e
      exact new
    · rw [upd_ne hb] at e
      refine (I.hok b u e).stay (fun c v hc q => k c v ?_ q) (fun c q => by rw [upd_ne (ne_of_none q hn)]; exact q) fun c xs q => by rw [upd_ne (ne_of_none q hn)]; exact q
      rcases hc with z | z
      · rw [z]; exact nit b u e
      · exact nit c _ z
end
section
variable {X:Cx}
theorem pi_one {tg:Expr} {pins:List (Addr × Obj)} {σ:St} {H:Hp} {s:Shared} {R:It → Hp → Prop} {J:It} {tn:Nat → Heap → Prop} {tk:Nat} (I:Inv X pins σ H s) (o:Obj)
    (T:Turn X.prog X.w X.K tg J [s.heap.objs.size] s.heap.objs.size tn) (st:tn 0 (s.heap.push o)) (q:R J H):PIE X pins σ tg R (.ref s.heap.objs.size) { s with heap:=s.heap.push o,toks:=tk }:=by
  refine ⟨s.heap.objs.size,[s.heap.objs.size],tn,J,H,rfl,I.kept fun b ob e => Heap.get?_push_of_some _ e,T,st,fun b hb => ?_,q⟩
  have e:b = s.heap.objs.size:=by simpa using hb
  subst e
  exact I.fpOk (Nat.le_refl _) (I.hok.fresh (Nat.le_refl _))
end
noncomputable def Itc (lo c:Int) (n:Nat):It:=⟨fun i _ => i < n,fun i H x H' => H' = H ∧ x = .int (lo + (i:Nat) * c),fun i _ => n ≤ i⟩
theorem turn_rangeC {P:Program} {w:World} {K:PySem.W.Frag} {tg:Expr} (it:Addr) (lo c:Int) (n:Nat):Turn P w K tg (Itc lo c n) [it] it (fun i h => IsRangeIter h it (lo + (i:Nat) * c) ((n:Int) - (i:Nat)) c) where
  mem:=by simp
  obj:=fun i h st b hb => by
    have e:b = it:=by simpa using hb
    subst e
    exact ⟨_,st,fun v z => nomatch z⟩
  keep:=fun i h h' st k => k it (by simp) _ st
  item:=by
    intro X hP hw hK hc i pins s σ H E I hf st hg
    subst hP hw hK
    obtain ⟨f0,f1,f2,f3,f4,f5⟩:=hf it (by simp)
    have W:=Walks.range (prog:=X.prog) (w:=X.w) (I.ok.hd hc) it lo c n
    refine W.item i s _ _ hg st fun v h' tk hv st' kk => ?_
    obtain ⟨t,rfl⟩:=hv
    have I1:Inv X pins σ H { s with heap:=h',toks:=tk }:=I.turned (fun b o hb e => kk b o (by simpa using hb) e) f0 f1 f3 f4 f5
    exact ⟨_,rfl,go_of (s:={ s with heap:=h',toks:=tk }) (n:="range_iterator") st' rfl rfl (by decide) ⟨.int (lo + (i:Nat) * c),H,I1,⟨t,rfl⟩,⟨rfl,rfl⟩,st',fun b hb => (hf b hb).1⟩⟩
  done:=by
    intro X hP hw hK hc i pins s σ H E I hf st hg
    subst hP hw hK
    obtain ⟨f0,f1,f2,f3,f4,f5⟩:=hf it (by simp)
    exact wpAny_pyNext_range_end (I.ok.hd hc) st (by have:n ≤ i:=hg; omega) fun h' eb => ⟨rfl,I.turned (t':=s.toks) (fun b o hb e => eb b o hb e) f0 f1 f3 f4 f5⟩
  self:=fun A i s Q E st h => wpAny_pyIter_rangeiter st h
noncomputable def RgC (i j c:Int) (n:Nat):Prop:=c ≠ 0 ∧ c.natAbs < 1073741824 ∧ Builtin.Range.small i j c = true ∧ Builtin.Range.rangeSize i j c = n
noncomputable def iRng3 (ta:TA):TI:=fun σ H R => ta σ H fun vs H1 => ∃ (i j c:Int) (n:Nat),vs = [.int i,.int j,.int c] ∧ RgC i j c n ∧ R (Itc i c n) H1
section
variable {X:Cx} {tg:Expr}
theorem pi_range3 {a b c:Expr} {ta:TA} {p pos:Pos} (hg:Gl X "range") (hm:X.mg "range" = none) (ha:PA X [a,b,c] ta)
    (hs:starEach [a,b,c] X.env = (false,eval a X.env) :: starEach [b,c] X.env:=by rfl) (hpl:(backTo pos (starEach [b,c] X.env)).any (·.1) = false:=by rfl) :
    PI X tg (.Call (.Name "range" p) [a,b,c] [] pos) (iRng3 ta):=by
  intro pins s σ H R I h
  refine Call_ (ld_blt I hg hm boot_range (PyProof.Rows.callWith_type1 (thn (ha pos pins s σ H _ I h) fun us s1 ⟨vs,H1,I1,r1,q1⟩ => ?_) hs hpl))
  obtain ⟨i,j,k,n,e,⟨c0,c1,c2,c3⟩,q⟩:=q1
  subst e
  cases r1 with
  | cons r rr =>
    cases rr with
    | cons r' rr =>
      cases rr with
      | cons r'' rr =>
        cases rr
        obtain ⟨t,rfl⟩:=r
        obtain ⟨t',rfl⟩:=r'
        obtain ⟨t'',rfl⟩:=r''
        refine call_range_3 c0 ?_ (.inl (PyProof.noPylong_small c1))
        refine wpAny_pyIter_range (IsRange.new ..) c2 ?_
        have I2:Inv X pins σ H1 { s1 with heap:=s1.heap.push { cls:=.type "range",data:=.fields #[.int i t,.int j t',.int k t''] } }:=I1.kept (t':=s1.toks) fun b o e => Heap.get?_push_of_some _ e
        refine pi_one (tk:=s1.toks) I2 _ (turn_rangeC _ i k n) ?_ q
        have e1:i + ((0:Nat):Int) * k = i:=by simp
        have e2:(n:Int) - ((0:Nat):Int) = Builtin.Range.rangeSize i j k:=by rw [c3]; simp
        show IsRangeIter _ _ (i + ((0:Nat):Int) * k) ((n:Int) - ((0:Nat):Int)) k
        rw [e1,e2]
        exact Heap.get?_push_size _ rfl
end
noncomputable def Itv (K:PySem.W.Frag) (a:Addr) (n:Nat):It :=
  ⟨fun i H => i < n ∧ ∃ (xs:List V) (x:V),SqL K H a xs ∧ xs[n - 1 - i]? = some x,fun i H x H' => H' = H ∧ ∀ xs,SqL K H a xs → xs[n - 1 - i]? = some x,fun i _ => n ≤ i⟩
theorem turn_rev {P:Program} {w:World} {K:PySem.W.Frag} {tg:Expr} (a it:Addr) (n:Nat):Turn P w K tg (Itv K a n) [it] it (fun i h => i ≤ n ∧ h.IsRevIter it a ((n:Int) - 1 - (i:Nat))) where
  mem:=by simp
  obj:=fun i h st b hb => by
    have e:b = it:=by simpa using hb
    subst e
    obtain ⟨_,o,e,c,d⟩:=st
    exact ⟨o,e,fun v z => by rw [d] at z; cases z⟩
  keep:=fun i h h' st k => ⟨st.1,st.2.at fun o e => k it (by simp) o e⟩
  item:=by
    intro X hP hw hK hc i pins s σ H E I hf st hg
    subst hP hw hK
    obtain ⟨hin,xs,x,hq,hx⟩:=hg
    obtain ⟨its,rv,p,hz⟩:=I.list hq
    obtain ⟨u,hu,ru⟩:=rv.get hx
    obtain ⟨f0,f1,f2,f3,f4,f5⟩:=hf it (by simp)
    obtain ⟨_,hit⟩:=st
    have e1:(n:Int) - 1 - ((i:Nat):Int) = ((n - 1 - i:Nat):Int):=by omega
    rw [e1] at hit
    refine wpAny_pyNext_rev_item hit p.isList (x:=u) (by simpa using hu) fun h' st' sb => ?_
    have e2:((n - 1 - i:Nat):Int) - 1 = (n:Int) - 1 - ((i + 1:Nat):Int):=by omega
    rw [e2] at st'
    have I1:Inv X pins σ H { s with heap:=h' }:=I.turned (t':=s.toks) (fun b o hb e => (sb.2 b hb).trans e) f0 f1 f3 f4 f5
    obtain ⟨o,e,c,d⟩:=id st'
    exact ⟨u,rfl,go_of (s:={ s with heap:=h' }) e c d (by decide) ⟨x,H,I1,ru,⟨rfl,fun ys hy => by rw [I.list_inj hy hq]; exact hx⟩,⟨hin,st'⟩,fun b hb => (hf b hb).1⟩⟩
  done:=by
    intro X hP hw hK hc i pins s σ H E I hf st hg
    subst hP hw hK
    obtain ⟨f0,f1,f2,f3,f4,f5⟩:=hf it (by simp)
    obtain ⟨hin,hit⟩:=st
    have hge:n ≤ i:=hg
    have e1:(n:Int) - 1 - ((i:Nat):Int) = -1:=by omega
    rw [e1] at hit
    exact wpAny_pyNext_rev_end (I.ok.hd hc) hit fun h' eb => ⟨rfl,I.turned (t':=s.toks) (fun b o hb e => eb b o hb e) f0 f1 f3 f4 f5⟩
  self:=fun A i s Q E st h => wpAny_pyIter_revIter st.2 h
noncomputable def iRev (K:PySem.W.Frag) (ta:TA):TI:=fun σ H R => ta σ H fun vs H1 => ∃ (a:Addr) (xs:List V),vs = [.ref a] ∧ SqL K H1 a xs ∧ R (Itv K a xs.length) H1
section
variable {X:Cx} {tg:Expr}
theorem pi_reversed {e:Expr} {ta:TA} {p pos:Pos} (hg:Gl X "reversed") (hm:X.mg "reversed" = none) (ha:PA X [e] ta) (hs:starEach [e] X.env = [(false,eval e X.env)]:=by rfl):PI X tg (.Call (.Name "reversed" p) [e] [] pos) (iRev X.K ta):=by
  intro pins s σ H R I h
  refine Call_ (ld_blt I hg hm boot_reversed5 (PyProof.Rows.callWith_type1 (thn (ha pos pins s σ H _ I h) fun us s1 ⟨vs,H1,I1,r1,q1⟩ => ?_) hs rfl))
  obtain ⟨a,xs,e,hq,q⟩:=q1
  subst e
  cases r1 with
  | cons r rr =>
    cases rr
    cases r
    obtain ⟨its,rv,p',hz⟩:=I1.list hq
    have hl:=rv.length
    have e1:((its.toArray.size:Nat):Int) - 1 = (xs.length:Int) - 1 - ((0:Nat):Int):=by simp only [List.size_toArray]; omega
    refine call_reversed_list p'.isList (wpAny_pyIter_revIter (l:=a) (i:=((its.toArray.size:Nat):Int) - 1) ⟨_,Heap.get?_push_size _ rfl,rfl,rfl⟩ ?_)
    refine pi_one (tk:=s1.toks) I1 _ (turn_rev a _ xs.length) ⟨Nat.zero_le _,?_⟩ q
    rw [← e1]
    exact ⟨_,Heap.get?_push_size _ rfl,rfl,rfl⟩
end
noncomputable def Ite (K:PySem.W.Frag) (a:Addr):It :=
  ⟨fun i H => ∃ (xs:List V) (x:V),SqL K H a xs ∧ xs[i]? = some x,fun i H v H' => ∃ T x,v = .ref T ∧ H T = none ∧ H' = upd H T (.tup [.int (i:Nat),x]) ∧ ∀ xs,SqL K H a xs → xs[i]? = some x,fun i H => ∃ xs:List V,SqL K H a xs ∧ xs.length ≤ i⟩
theorem turn_enum {P:Program} {w:World} {K:PySem.W.Frag} {elts:List Expr} {kk:Nat} {tpos:Pos} (a e it:Addr) :
    Turn P w K (.Tuple elts kk tpos) (Ite K a) [e,it] e (fun i h => (∃ old,IsEnum h e it ((i:Nat):Int) old) ∧ h.IsListIter it a i ∧ e ≠ it) where
  mem:=by simp
  obj:=fun i h st b hb => by
    obtain ⟨⟨old,he⟩,⟨o,ho,hc,hd⟩,_⟩:=st
    have e':b = e ∨ b = it:=by simpa using hb
    rcases e' with z | z
    · rw [z]; exact ⟨_,he,fun v q => nomatch q⟩
    · rw [z]; exact ⟨o,ho,fun v q => by rw [hd] at q; cases q⟩
  keep:=fun i h h' st k => let ⟨⟨old,he⟩,hi,hne⟩:=st; ⟨⟨old,k e (by simp) _ he⟩,hi.at fun o q => k it (by simp) o q,hne⟩
  item:=by
    intro X hP hw hK hc i pins s σ H E I hf st hg
    subst hP hw hK
    obtain ⟨⟨old,he⟩,hit,hne⟩:=st
    obtain ⟨xs,x,hq,hx⟩:=hg
    obtain ⟨its,rv,p,hz⟩:=I.list hq
    obtain ⟨u,hu,ru⟩:=rv.get hx
    have hel:e < s.heap.objs.size:=Heap.lt_size he
    have hil:it < s.heap.objs.size:=by obtain ⟨_,q,_⟩:=hit; exact Heap.lt_size q
    refine wpAny_pyNext_enum_item he hit p.isList (x:=u) (by simpa using hu) hne fun h' ho hit' hT hsz hk => ?_
    refine ⟨_,rfl,wpAny_letOwnedTupleGo_enum (s:={ s with heap:=h',toks:=s.toks + 1 }) ho fun h'' he' sb => ?_⟩
    have hT2:h''.get? s.heap.objs.size = some { cls:=.type "tuple",data:=.seq #[.int i s.toks,u] }:=(sb.2 _ (Nat.ne_of_gt hel)).trans hT
    have new:ObjOk X.prog X.w (upd H s.heap.objs.size (.tup [.int (i:Nat),x])) h'' s.heap.objs.size (.tup [.int (i:Nat),x]) :=
      ⟨by show 2 ≤ sizeLine; decide,[.int i s.toks,u],.cons ⟨_,rfl⟩ (.cons ru .nil),⟨_,hT2,rfl,_,rfl⟩⟩
    have I1:Inv X pins σ (upd H s.heap.objs.size (.tup [.int (i:Nat),x])) { s with heap:=h'',toks:=s.toks + 1 } :=
      I.turnedNew (ch:=[e,it]) (fun b ob hb q => (sb.2 b (fun z => hb (by simp [z]))).trans (hk b ob (fun z => hb (by simp [z])) (fun z => hb (by simp [z])) q)) hf (Nat.le_refl _) new
    refine ⟨.ref s.heap.objs.size,_,I1,rfl,⟨_,x,rfl,I.hok.fresh (Nat.le_refl _),rfl,fun ys hy => by rw [I.list_inj hy hq]; exact hx⟩,⟨⟨u,?_⟩,hit'.at fun o q => (sb.2 it (Ne.symm hne)).trans q,hne⟩,fun b hb => ?_⟩
    · have e1:((i + 1:Nat):Int) = (i:Int) + 1:=by omega
      rw [e1]; exact he'
    · have hb':b < s.heap.objs.size:=by
        have e':b = e ∨ b = it:=by simpa using hb
        rcases e' with z | z
        · rw [z]; exact hel
        · rw [z]; exact hil
      rw [upd_ne (Nat.ne_of_lt hb')]
      exact (hf b hb).1
  done:=by
    intro X hP hw hK hc i pins s σ H E I hf st hg
    subst hP hw hK
    obtain ⟨⟨old,he⟩,hit,hne⟩:=st
    obtain ⟨xs,hq,hx⟩:=hg
    obtain ⟨its,rv,p,hz⟩:=I.list hq
    obtain ⟨f0,f1,f2,f3,f4,f5⟩:=hf it (by simp)
    have hl:=rv.length
    exact wpAny_pyNext_enum_end (I.ok.hd hc) he hit p.isList (by simp; omega) fun h' eb => ⟨rfl,I.turned (t':=s.toks) (fun b o hb q => eb b o hb q) f0 f1 f3 f4 f5⟩
  self:=fun A i s Q E st h => let ⟨⟨_,he⟩,_⟩:=st; wpAny_pyIter_enum he h
noncomputable def iEnum (K:PySem.W.Frag) (ta:TA):TI:=fun σ H R => ta σ H fun vs H1 => ∃ a xs,vs = [.ref a] ∧ SqL K H1 a xs ∧ R (Ite K a) H1
theorem pi_enum {X:Cx} {e:Expr} {ta:TA} {p pos tpos:Pos} {elts:List Expr} {kk:Nat} (hg:Gl X "enumerate") (hm:X.mg "enumerate" = none) (ha:PA X [e] ta) (hs:starEach [e] X.env = [(false,eval e X.env)]:=by rfl) :
    PI X (.Tuple elts kk tpos) (.Call (.Name "enumerate" p) [e] [] pos) (iEnum X.K ta):=by
  intro pins s σ H R I h
  refine Call_ (ld_blt I hg hm boot_enumerate (PyProof.Rows.callWith_type1 (thn (ha pos pins s σ H _ I h) fun us s1 ⟨vs,H1,I1,r1,q1⟩ => ?_) hs rfl))
  obtain ⟨a,xs,ex,hq,q⟩:=q1
  subst ex
  cases r1 with
  | cons r rr =>
    cases rr
    cases r
    obtain ⟨its,rv,p',hz⟩:=I1.list hq
    refine call_enumerate_list p'.isList fun h' he hit hsz hk => wpAny_pyIter_enum he ?_
    have I2:Inv X pins σ H1 { s1 with heap:=h' }:=I1.kept (t':=s1.toks) hk
    refine ⟨s1.heap.objs.size + 1,[s1.heap.objs.size + 1,s1.heap.objs.size],_,_,H1,rfl,I2,turn_enum a (s1.heap.objs.size + 1) s1.heap.objs.size,⟨⟨.none,he⟩,hit,Nat.succ_ne_self _⟩,fun b hb => ?_,q⟩
    have e':b = s1.heap.objs.size + 1 ∨ b = s1.heap.objs.size:=by simpa using hb
    have hle:s1.heap.objs.size ≤ b:=by
      rcases e' with z | z
      · rw [z]; exact Nat.le_add_right _ _
      · rw [z]; exact Nat.le_refl _
    exact I1.fpOk hle (I1.hok.fresh hle)
end L2
section
namespace Bits
open PySem PyProof.Rows
end Bits
end
section
namespace TL
open PySem PySem.Builtin PySem.Builtin.Str PySem.StrLaws
end TL
end
namespace L2
open PySem PySem.Spec PyProof.Rows
end L2
namespace L2
open PySem PySem.Spec PyProof.Rows
end L2
namespace Att
open PySem PySem.W PySem.Calls PyProof.Rows
end Att
namespace L2
open PySem PySem.Spec PyProof.Rows
end L2
namespace L2
open PySem PySem.Spec PyProof.Rows
end L2
namespace L2
open PySem PySem.Spec PyProof.Rows
noncomputable def inClass (s:Stmt) (j:Nat):Stmt:=match s with
  | .ClassDef _ _ _ body _ _ _ _ _ _ _ => body.getD j (.Pass ⟨0,0,0,0⟩)
  | _ => .Pass ⟨0,0,0,0⟩
noncomputable def defArgs (s:Stmt):Arguments:=match s with
  | .FunctionDef _ a _ _ _ _ _ _ _ _ => a
  | _ => { posonlyargs:=[],args:=[],vararg:=none,kwonlyargs:=[],kw_defaults:=[],kwarg:=none,defaults:=[] }
noncomputable def defBody (s:Stmt):List Stmt:=match s with
  | .FunctionDef _ _ b _ _ _ _ _ _ _ => b
  | _ => []
noncomputable def defScope (s:Stmt):Scope:=match s with
  | .FunctionDef _ _ _ _ _ _ sc _ _ _ => sc
  | _ => { kind:=.function,names:=[],isGenerator:=false,isCoroutine:=false }
noncomputable abbrev CX0:CXT:=fun _ _ _ _ _ _ => False
noncomputable abbrev E0:XK:=fun _ _ _ => False
structure Fun (K:PySem.W.Frag) (x qual:Str) (st:Stmt) (f:Addr) (fd:FuncData):Prop where
  ex:∃ (oc:Value) (od:Option Addr) (kV doc pm:Value) (an:Option Addr) (cdv ct:Value) (osl:Array (Option Value)),
    fd = PySem.W.fnOf x qual (defArgs st) (defBody st) (defScope st) .none kV doc pm an cdv ct ∧ K.lookup f = some ⟨oc,od,.func fd,osl⟩ ∧ PySem.W.codeIn K cdv qual = true
  kp:PySem.W.keepIn K (.ref f) = true
section
variable {P:Program} {w:World} {K:PySem.W.Frag} {mg:Str → Option Value} {base:Heap}
theorem Fun.ok {x qual:Str} {st:Stmt} {f:Addr} {fd:FuncData} {N ps:List Str} {k:Nat} {sp:Sp} (F:Fun K x qual st f fd) (S:FnScope N ps (defScope st)) (len:∀ vs H Q E,sp vs H Q E → vs.length = ps.length)
    (hbody:∀ (cdv:Value) (A:Around) (outer:List Env) (s:Shared) (H:Hp) (vs:List V) (Q:VK) (E:XK),Room k (A.deeper (envOfC qual (defScope st) s.heap.objs.size f cdv)) → sp vs H Q E →
      ∃ t,PSs (cxOf CX0 P w K mg base N qual (defScope st) f cdv A outer s H E).nox (defBody st) t ∧ t { nx:=fun _ H' => Q .non H',rt:=Q } (start N vs) H):FnOk P w K mg base CX0 (k + 1) f fd ps sp:=by
  obtain ⟨oc,od,kV,doc,pm,an,cdv,ct,osl,rfl,lk,hcd⟩:=F.ex
  refine fn_of lk hcd S len fun A outer s H vs Q E hr hsp => ?_
  obtain ⟨t,h,q⟩:=hbody cdv A outer s H vs Q E hr hsp
  exact ⟨t,h.nox,q⟩
theorem fun_mk {x qual:Str} {st:Stmt} {f:Addr} {oc:Value} {od an:Option Addr} {osl:Array (Option Value)} {kV doc pm cdv ct:Value} (l:K.lookup f = some ⟨oc,od,.func (PySem.W.fnOf x qual (defArgs st) (defBody st) (defScope st) .none kV doc pm an cdv ct),osl⟩)
    (c:PySem.W.codeIn K cdv qual = true) (k:PySem.W.keepIn K (.ref f) = true):Fun K x qual st f (PySem.W.fnOf x qual (defArgs st) (defBody st) (defScope st) .none kV doc pm an cdv ct):=⟨⟨oc,od,kV,doc,pm,an,cdv,ct,osl,rfl,l,c⟩,k⟩
end
theorem small1000 {n:Nat} (h:n ≤ 1000):n < sizeLine:=Nat.lt_of_le_of_lt h (by decide)
section
variable {X:Cx}
theorem pv (i:Nat) {x:Str} {pos:Pos} (hN:X.N[i]? = some x:=by rfl) (hv:Vis X.env.scope x:=by first | exact Or.inl rfl | exact Or.inr (Or.inl rfl) | exact Or.inr (Or.inr rfl)) (hd:(x == ("__debug__":Str)) = false:=by decide)
    (hcd:(x == ("__classdict__":Str)) = false:=by decide):PE X (.Name x pos) (tVar i):=pe_var hN hv hd hcd
end
theorem iteF {A B:Prop} (h:B):if false = true then A else B:=by
  rw [if_neg Bool.false_ne_true]
  exact h
theorem iteT {A B:Prop} (h:A):if true = true then A else B:=by
  rw [if_pos rfl]
  exact h
theorem ite2 {c A B:Prop} [Decidable c] (h1:c → A) (h2:¬ c → B):if c then A else B:=by
  by_cases h:c
  · rw [if_pos h]
    exact h1 h
  · rw [if_neg h]
    exact h2 h
noncomputable def Same (H H':Hp):Prop:=∀ b o,H b = some o → H' b = some o
theorem Same.trans {H H1 H2:Hp} (a:Same H H1) (b:Same H1 H2):Same H H2:=fun c o h => b c o (a c o h)
theorem Same.free {H H':Hp} (e:Same H H') {l:Addr} (h:H' l = Option.none):H l = Option.none:=by
  cases q:H l with
  | none => rfl
  | some o =>
    rw [e l o q] at h
    cases h
theorem at_of {xs:List V} {z:Int} {j:Nat} {v:V} (e:z = (j:Int)) (h:xs[j]? = some v):atI xs z = some v:=by
  rw [e]
  exact atI_nat h
end L2
namespace L2
open PySem PySem.Spec PyProof.Rows
noncomputable def ExcO (h:Heap) (e:Addr) (C:Value) (dx:Option Addr) (tb:Value):Prop :=
  ∃ oe vs,h.get? e = some oe ∧ oe.cls = C ∧ oe.dict = dx ∧ oe.data = .fields vs ∧ vs[1]? = some tb
noncomputable def TbO (h:Heap) (T:Addr) (fl:Value):Prop:=∃ oT ts,h.get? T = some oT ∧ oT.data = .fields ts ∧ ts[3]? = some fl
structure Fly (h:Heap) (e T:Addr) (C:Value) (dx:Option Addr) (fl:Value):Prop where
  exc:ExcO h e C dx (.ref T)
  tb:TbO h T fl
  ne:T ≠ e
structure Alt (fs ch:List Addr) (h h':Heap):Prop where
  keep:∀ b o,h.get? b = some o → b ∉ fs → b ∉ ch → h'.get? b = some o
  slot:∀ b o,h.get? b = some o → b ∉ ch → ∃ sl,h'.get? b = some { o with slots:=sl }
  there:∀ b o,h.get? b = some o → ∃ o',h'.get? b = some o'
  size:h.objs.size ≤ h'.objs.size
theorem Alt.trans {fs ch:List Addr} {h h1 h2:Heap} (a:Alt fs ch h h1) (b:Alt fs ch h1 h2):Alt fs ch h h2 :=
  ⟨fun c o e n1 n2 => b.keep c o (a.keep c o e n1 n2) n1 n2,fun c o e n => by
    obtain ⟨s1,e1⟩:=a.slot c o e n
    obtain ⟨s2,e2⟩:=b.slot c _ e1 n
    exact ⟨s2,e2⟩,fun c o e => by
    obtain ⟨o1,e1⟩:=a.there c o e
    exact b.there c o1 e1,Nat.le_trans a.size b.size⟩
theorem Alt.mono {fs ch ch':List Addr} {h h1:Heap} (a:Alt fs ch h h1) (hs:∀ b ∈ ch,b ∈ ch'):Alt fs ch' h h1 :=
  ⟨fun c o e n1 n2 => a.keep c o e n1 fun z => n2 (hs c z),fun c o e n => a.slot c o e fun z => n (hs c z),a.there,a.size⟩
theorem Alt.update {fs:List Addr} {h:Heap} {a:Addr} {o:Obj} (f:Obj → Obj) (ho:h.get? a = some o) (hf:(f o).isFreed = false):Alt fs [a] h (h.update a f):=by
  have other:∀ b,b ∉ [a] → (h.update a f).get? b = h.get? b:=fun b hb => Heap.get?_update_other _ _ (fun q => hb (by simp [q]))
  refine ⟨fun b ob e _ hb => (other b hb).trans e,fun b ob e hb => ⟨ob.slots,(other b hb).trans e⟩,fun b ob e => ?_,by rw [Heap.size_after_update]; exact Nat.le_refl _⟩
  by_cases hb:b ∈ [a]
  · have e2:b = a:=by simpa using hb
    subst e2
    exact ⟨_,Heap.get?_update_self _ ho hf⟩
  · exact ⟨ob,(other b hb).trans e⟩
theorem Alt.push {fs ch:List Addr} {h:Heap} (o:Obj):Alt fs ch h (h.push o) :=
  ⟨fun _ _ e _ _ => Heap.get?_push_of_some _ e,fun _ ob e _ => ⟨ob.slots,Heap.get?_push_of_some _ e⟩,fun _ ob e => ⟨ob,Heap.get?_push_of_some _ e⟩,by rw [Heap.size_push]; omega⟩
theorem Alt.slots {fs ch:List Addr} {h h':Heap} (x:Heap.SlotsOnly fs h h'):Alt fs ch h h' :=
  ⟨fun b o e n _ => (x.2.1 b n).trans e,fun b o e _ => x.2.2 b o e,fun b o e => let ⟨sl,q⟩:=x.2.2 b o e; ⟨_,q⟩,by rw [x.1]; exact Nat.le_refl _⟩
section
variable {M:Model} {A:Around} {E:Value → Shared → Prop} {s:Shared}
theorem x_entry {base:Heap} {env:Env} {outer:List Env} {L e:Addr} {oe:Obj} {vs:Array Value} {head:Value} {hadNext:Bool} {Q:Unit → Shared → Prop}
    (hfr:A.frames = some (env :: outer)) (hl:s.heap.FunFrames base (env :: outer)) (hf:env.frame = some L)
    (he:s.heap.get? e = some oe) (hd:oe.data = .fields vs) (hsz:1 < vs.size)
    (h:∀ h' T,s.heap.objs.size ≤ T → Alt (frs (env :: outer)) [e] s.heap h' → Fly h' e T oe.cls oe.dict (rawInt L) → Q () { s with heap:=h' }) :
    wpAny M A (do let a ← frameOf env; let pl ← entryPlaceOf L hadNext; let b ← EntryCells.newEntry head a .none (rawInt L) .none pl; setField (.ref e) 1 b) Q E s:=by
  have hene:e ∉ (env :: outer).filterMap (·.frame):=fun hm => by
    obtain ⟨_,o,ho,hnf⟩:=hl.mem hm
    rw [he] at ho; injection ho with ho; subst ho; exact hnf vs hd
  refine wpAny_bind (wpAny_frameOf_fun hfr hl hf fun h₁ hs₁ => ?_)
  refine wpAny_bind (wpAny_entryPlaceOf fun pl hpl => ?_)
  unfold EntryCells.newEntry newFields
  refine wpAny_bind (wpAny_newObj_type ?_ (hpl.sizeOk5 _ _ _ _ _))
  have he₁:h₁.get? e = some oe:=(hs₁.2.1 e hene).trans he
  have he₂:=Heap.get?_push_of_some (h:=h₁) { cls:=.type "traceback",dict:=none,data:=.fields ([head,.ref L,.none,rawInt L,.none] ++ (if pl.isEmpty then List.replicate 6 Value.none else pl)).toArray } he₁
  refine wpAny_setField he₂ hd hsz ?_
  have hTe:h₁.objs.size ≠ e:=Nat.ne_of_gt (Heap.lt_size he₁)
  have hd₃:=Obj.data_mapFields hd (·.setIfInBounds 1 (Value.ref h₁.objs.size))
  have hfr₃:(Obj.mapFields (·.setIfInBounds 1 (Value.ref h₁.objs.size)) oe).isFreed = false:=Obj.isFreed_of_fields hd₃
  have he₃:=Heap.get?_update_self (Obj.mapFields (·.setIfInBounds 1 (Value.ref h₁.objs.size))) he₂ hfr₃
  have hT₃:=(Heap.get?_update_other (h₁.push { cls:=.type "traceback",dict:=none,data:=.fields ([head,.ref L,.none,rawInt L,.none] ++ (if pl.isEmpty then List.replicate 6 Value.none else pl)).toArray })
    (Obj.mapFields (·.setIfInBounds 1 (Value.ref h₁.objs.size))) (Ne.symm hTe)).trans (Heap.get?_push_size h₁ rfl)
  refine h _ h₁.objs.size (by rw [hs₁.1]; exact Nat.le_refl _) (((Alt.slots hs₁).trans (Alt.push _)).trans (Alt.update _ he₂ hfr₃)) ⟨⟨_,_,he₃,Obj.cls_mapFields _ _,?_,hd₃,by simp [hsz]⟩,⟨_,_,hT₃,rfl,?_⟩,hTe⟩
  · obtain ⟨c,d,dt,sl⟩:=oe
    cases dt <;> rfl
  · first | (simp; done) | (rcases hpl with rfl | ⟨_,_,_,_,_,_,_,rfl⟩ <;> simp)
theorem x_note0 {base:Heap} {env:Env} {outer:List Env} {L e:Addr} {C:Value} {dx:Option Addr} {Q:Unit → Shared → Prop}
    (hfr:A.frames = some (env :: outer)) (hl:s.heap.FunFrames base (env :: outer)) (hf:env.frame = some L) (x:ExcO s.heap e C dx .none)
    (h:∀ h' T,s.heap.objs.size ≤ T → Alt (frs (env :: outer)) [e] s.heap h' → Fly h' e T C dx (rawInt L) → Q () { s with heap:=h' }):wpAny M A (noteFrame (.ref e) env) Q E s:=by
  obtain ⟨oe,vs,he,rfl,rfl,hd,h1⟩:=x
  unfold noteFrame
  simp only [hf]
  refine wpAny_bind (wpAny_field he hd h1 ?_)
  rw [if_neg (by decide)]
  exact x_entry hfr hl hf he hd (Array.getElem?_eq_some_iff.mp h1).1 h
theorem x_noteN {base:Heap} {env:Env} {outer:List Env} {L e T:Addr} {C:Value} {dx:Option Addr} {Q:Unit → Shared → Prop}
    (hfr:A.frames = some (env :: outer)) (hl:s.heap.FunFrames base (env :: outer)) (hf:env.frame = some L) (x:Fly s.heap e T C dx .none)
    (h:∀ h' T',s.heap.objs.size ≤ T' → Alt (frs (env :: outer)) [e,T] s.heap h' → Fly h' e T' C dx (rawInt L) → Q () { s with heap:=h' }):wpAny M A (noteFrame (.ref e) env) Q E s:=by
  obtain ⟨⟨oe,vs,he,rfl,rfl,hd,h1⟩,⟨oT,ts,hT,hdT,h3⟩,hTe⟩:=x
  unfold noteFrame
  simp only [hf]
  refine wpAny_bind (wpAny_field he hd h1 ?_)
  rw [if_pos (show (Value.ref T != Value.none) = true from by simp)]
  refine wpAny_bind (wpAny_field hT hdT h3 ?_)
  rw [if_neg (show ¬ ((Value.none == rawInt L) = true) from by simp [rawInt])]
  refine wpAny_bind (wpAny_setField hT hdT (Array.getElem?_eq_some_iff.mp h3).1 ?_)
  have other:∀ b,b ≠ T → (s.heap.update T (Obj.mapFields (·.setIfInBounds 3 Value.none))).get? b = s.heap.get? b:=fun b hb => Heap.get?_update_other _ _ (Ne.symm hb)
  have noRecord:∀ b o,s.heap.get? b = some o → (∀ vs,o.data ≠ .fields vs) → b ≠ T:=fun b o hb hnf q => by
    rw [q,hT] at hb; injection hb with hb; subst hb; exact hnf ts hdT
  have al:Alt (frs (env :: outer)) [e,T] s.heap (s.heap.update T (Obj.mapFields (·.setIfInBounds 3 Value.none))) :=
    (Alt.update _ hT (Obj.isFreed_of_fields (Obj.data_mapFields hdT _))).mono (by simp)
  refine x_entry hfr (hl.of_keeps fun b o hb hnf => ⟨o,(other b (noRecord b o hb hnf)).trans hb,rfl⟩) hf ((other e (Ne.symm hTe)).trans he) hd (Array.getElem?_eq_some_iff.mp h1).1
    fun h' T' hz al' fl => h h' T' (by rw [Heap.size_after_update] at hz; exact hz) (al.trans (al'.mono (by simp))) fl
theorem x_land {e T:Addr} {C:Value} {dx:Option Addr} {fl:Value} {fs:List Addr} {Q:Unit → Shared → Prop} (x:Fly s.heap e T C dx fl)
    (h:∀ h',Alt fs [T] s.heap h' → Fly h' e T C dx .none → Q () { s with heap:=h' }):wpAny M A (setFlight (.ref e) none) Q E s:=by
  obtain ⟨⟨oe,vs,he,rfl,rfl,hd,h1⟩,⟨oT,ts,hT,hdT,h3⟩,hTe⟩:=x
  have hsz:3 < ts.size:=(Array.getElem?_eq_some_iff.mp h3).1
  unfold setFlight
  refine wpAny_bind (wpAny_field he hd h1 ?_)
  rw [if_pos (show (Value.ref T != Value.none) = true from by simp)]
  refine wpAny_setField hT hdT hsz (h _ (Alt.update _ hT (Obj.isFreed_of_fields (Obj.data_mapFields hdT _))) ⟨⟨oe,vs,?_,rfl,rfl,hd,h1⟩,⟨_,_,Heap.get?_update_self _ hT (Obj.isFreed_of_fields (Obj.data_mapFields hdT _)),Obj.data_mapFields hdT _,by simp [hsz]⟩,hTe⟩)
  rw [Heap.get?_update_other _ _ hTe]
  exact he
end
section
variable {X:Cx} {pins:List (Addr × Obj)} {σ:St} {H:Hp} {s:Shared} {h':Heap}
structure Loose (X:Cx) (pins:List (Addr × Obj)) (H:Hp) (b:Addr):Prop where
  yng:X.s_0.heap.objs.size ≤ b
  nL:b ≠ X.env.locals
  nC:∀ x c,X.env.cells.lookup x = some c → c ≠ b
  nP:∀ p ∈ X.pn ++ pins,p.1 ≠ b
  nH:H b = none
theorem Inv.loose (I:Inv X pins σ H s) {b:Addr} (hb:s.heap.objs.size ≤ b):Loose X pins H b:=by
  refine ⟨Nat.le_trans I.sz hb,Nat.ne_of_gt (Nat.lt_of_lt_of_le I.lt hb),fun x c e z => ?_,fun p hp z => ?_,I.hok.fresh hb⟩
  · obtain ⟨v,q⟩:=I.cell x c e
    exact absurd (Nat.lt_of_lt_of_le q.lt (by rw [z]; exact hb)) (Nat.lt_irrefl _)
  · exact absurd (Nat.lt_of_lt_of_le (Heap.lt_size (I.pin p hp).1) (by rw [z]; exact hb)) (Nat.lt_irrefl _)
theorem Inv.alt {ch:List Addr} (I:Inv X pins σ H s) (a:Alt (frs X.stack) ch s.heap h') (hch:∀ b ∈ ch,Loose X pins H b):Inv X pins σ H { s with heap:=h' }:=by
  have nch:∀ b u,H b = some u → b ∉ ch:=fun b u e z => by
    have q:=(hch b z).nH
    rw [e] at q
    cases q
  have nst:∀ b u,H b = some u → b ∉ frs X.stack:=fun b u e z => by
    have q:=I.stkFree b z
    rw [e] at q
    cases q
  refine I.call (g':=s.gens) (d':=s.drawn) (t':=s.toks) (ch:=ch) ⟨fun b o e n hb hx => a.keep b o e hb hx,fun b o e n hb hx => a.slot b o e hx,fun b o e n hx => n,fun b o e hx => a.there b o e,fun b xs e => e,fun b o u e => e,fun b ps e => ⟨#[],by rw [e]; simp⟩⟩ ?_ I.bare
    fun b hb => ⟨.inr (hch b hb).yng,(hch b hb).nL,(hch b hb).nC,(hch b hb).nP⟩
  intro b u e
  refine (I.hok b u e).stay (fun c v hc q => ?_) (fun _ q => q) fun _ _ q => q
  rcases hc with rfl | hc
  · exact a.keep c v q (nst c u e) (nch c u e)
  · exact a.keep c v q (nst c _ hc) (nch c _ hc)
end
noncomputable def InX (X:Cx) (E:XK) (e:Value) (s':Shared):Prop :=
  ∃ (pins:List (Addr × Obj)) (σ:St) (a C:Addr) (dx:Option Addr) (H':Hp),e = .ref a ∧ Inv X pins σ H' s' ∧ Loose X pins H' a ∧
    (ExcO s'.heap a (.ref C) dx .none ∨ ∃ T,Loose X pins H' T ∧ Fly s'.heap a T (.ref C) dx .none) ∧ E (.ref C) dx H'
noncomputable def CXE (P:Program) (w:World):CXT:=fun outer H s E e s' =>
  ∃ (a T C:Addr) (dx:Option Addr) (H':Hp),e = .ref a ∧ s'.os = s.os ∧ AllBare s'.gens ∧ Un (frs outer) [] H H' s.heap s'.heap ∧ HOk P w H' s'.heap ∧ Fly s'.heap a T (.ref C) dx .none ∧
    s.heap.objs.size ≤ a ∧ s.heap.objs.size ≤ T ∧ H' a = none ∧ H' T = none ∧ E (.ref C) dx H'
noncomputable def XOk (X:Cx) (E:XK):Prop:=∀ e s',InX X E e s' → X.xe e s'
theorem XOk.passes {X:Cx} {E:XK} (h:XOk X E):Passes (CXE X.prog X.w) X E:=by
  rintro pins σ H s e s' I ⟨a,T,C,dx,H',rfl,os,bare,un,hok,fl,za,zT,na,nT,q⟩
  have I':Inv X pins σ H' s':=I.call' (ch:=[]) os un hok bare fun b z => absurd z (by simp)
  have la:=I.loose za
  have lT:=I.loose zT
  exact h _ _ ⟨pins,σ,a,C,dx,H',rfl,I',⟨la.yng,la.nL,la.nC,la.nP,na⟩,.inr ⟨T,⟨lT.yng,lT.nL,lT.nC,lT.nP,nT⟩,fl⟩,q⟩
section
variable {X:Cx} {E:XK} {e:Value} {s':Shared}
theorem InX.note {L:Addr} {Q:Unit → Shared → Prop} {Ex:Value → Shared → Prop} (x:InX X E e s') (hst:X.stack = X.env :: X.outer) (hf:X.env.frame = some L) (hL:L = X.env.locals)
    (h:∀ (pins:List (Addr × Obj)) (σ:St) (a T C:Addr) (dx:Option Addr) (H':Hp) (h':Heap),e = .ref a → Inv X pins σ H' { s' with heap:=h' } → Loose X pins H' a → Loose X pins H' T → Fly h' a T (.ref C) dx (rawInt L) → E (.ref C) dx H' → Q () { s' with heap:=h' }) :
    wpAny (model X.prog X.w) X.A (noteFrame e X.env) Q Ex s':=by
  obtain ⟨pins,σ,a,C,dx,H',rfl,I,la,f,q⟩:=x
  have hfr:X.A.frames = some (X.env :: X.outer):=by rw [← hst]; exact I.ok.frames
  have hl:s'.heap.FunFrames X.base (X.env :: X.outer):=by rw [← hst]; exact I.stack
  rcases f with f | ⟨T,lT,f⟩
  · refine x_note0 hfr hl hf f fun h' T hz al fl => ?_
    have I':Inv X pins σ H' { s' with heap:=h' }:=I.alt (ch:=[a]) (by rw [hst]; exact al) (by intro b hb; rw [List.mem_singleton.mp hb]; exact la)
    exact h pins σ a T C dx H' h' rfl I' la (I.loose hz) fl q
  · refine x_noteN hfr hl hf f fun h' T' hz al fl => ?_
    have I':Inv X pins σ H' { s' with heap:=h' }:=I.alt (ch:=[a,T]) (by rw [hst]; exact al) (by
      intro b hb
      rcases List.mem_cons.mp hb with z | z
      · rw [z]; exact la
      · rw [List.mem_singleton.mp z]; exact lT)
    exact h pins σ a T' C dx H' h' rfl I' la (I.loose hz) fl q
theorem InX.leave {L:Addr} {Q:Unit → Shared → Prop} {Ex:Value → Shared → Prop} (x:InX X E e s') (hst:X.stack = X.env :: X.outer) (hf:X.env.frame = some L) (hL:L = X.env.locals)
    (h:∀ (pins:List (Addr × Obj)) (σ:St) (a T C:Addr) (dx:Option Addr) (H':Hp) (h':Heap),e = .ref a → Inv X pins σ H' { s' with heap:=h' } → Loose X pins H' a → Loose X pins H' T → Fly h' a T (.ref C) dx .none → E (.ref C) dx H' → Q () { s' with heap:=h' }) :
    wpAny (model X.prog X.w) X.A (leaving X.env e) Q Ex s':=by
  unfold leaving
  refine wpAny_bind (x.note hst hf hL fun pins σ a T C dx H' h' ee I la lT fl q => ?_)
  subst ee
  refine x_land (fs:=frs X.stack) fl fun h2 al fl2 => ?_
  have I2:=Inv.alt (s:={ s' with heap:=h' }) (ch:=[T]) I al (by intro b hb; rw [List.mem_singleton.mp hb]; exact lT)
  exact h pins σ a T C dx H' h2 rfl I2 la lT fl2 q
end
theorem xok_cx {P:Program} {w:World} {K:PySem.W.Frag} {mg:Str → Option Value} {base:Heap} {N:List Str} {qual:Str} {scope:Scope} {f:Addr} {cd:Value} {A:Around} {outer:List Env} {s:Shared} {H:Hp} {E:XK} :
    XOk (cxOf (CXE P w) P w K mg base N qual scope f cd A outer s H E) E:=by
  intro e s' x
  refine InX.leave (L:=s.heap.objs.size) x rfl rfl rfl fun pins σ a T C dx H' h' ee I la lT fl q => ?_
  exact ⟨a,T,C,dx,H',ee,I.os,I.bare,I.base,I.hok,fl,la.yng,lT.yng,la.nH,lT.nH,q⟩
theorem pown_cx {CX:CXT} {P:Program} {w:World} {K:PySem.W.Frag} {mg:Str → Option Value} {base:Heap} {N:List Str} {qual:Str} {scope:Scope} {f:Addr} {cd:Value} {A:Around} {outer:List Env} {s:Shared} {H:Hp} {E:XK} :
    PassesOwn (model P w) (cxOf CX P w K mg base N qual scope f cd A outer s H E).A (cxOf CX P w K mg base N qual scope f cd A outer s H E).env (cxOf CX P w K mg base N qual scope f cd A outer s H E).xe :=
  PassesOwn.leaving
theorem FnOk.calm {P:Program} {w:World} {K:PySem.W.Frag} {mg:Str → Option Value} {base:Heap} {CX:CXT} {k:Nat} {f:Addr} {fd:FuncData} {ps:List Str} {sp:Sp} (F:FnOk P w K mg base CX0 k f fd ps sp):FnOk P w K mg base CX k f fd ps sp :=
  ⟨F.len,fun A outer s H args us vs Q E hr he hb hv hs => codeAny_mono (F.run A outer s H args us vs Q E hr he hb hv hs) fun r s' q => by
    cases r with
    | error e => exact False.elim q
    | ok fl => cases fl <;> exact q⟩
section
variable {P:Program} {w:World} {K:PySem.W.Frag} {mg:Str → Option Value} {base:Heap}
theorem Fun.okX {x qual:Str} {st:Stmt} {f:Addr} {fd:FuncData} {N ps:List Str} {k:Nat} {sp:Sp} (F:Fun K x qual st f fd) (S:FnScope N ps (defScope st)) (len:∀ vs H Q E,sp vs H Q E → vs.length = ps.length)
    (hbody:∀ (X:Cx) (cdv:Value) (A:Around) (outer:List Env) (s:Shared) (H:Hp) (vs:List V) (Q:VK) (E:XK),X = cxOf (CXE P w) P w K mg base N qual (defScope st) f cdv A outer s H E → Room k X.A → XOk X E → PassesOwn (model P w) X.A X.env X.xe → sp vs H Q E →
      ∃ t,PSs X (defBody st) t ∧ t { nx:=fun _ H' => Q .non H',rt:=Q } (start N vs) H):FnOk P w K mg base (CXE P w) (k + 1) f fd ps sp:=by
  obtain ⟨oc,od,kV,doc,pm,an,cdv,ct,osl,rfl,lk,hcd⟩:=F.ex
  exact fn_of lk hcd S len fun A outer s H vs Q E hr hsp => hbody _ cdv A outer s H vs Q E rfl hr xok_cx pown_cx hsp
end
end L2
namespace L2
open PySem PySem.Spec PyProof.Rows
open Builtin Builtin.ObjectAttr
noncomputable def onlyExc:List Value → Bool
  | .ref _ :: r => onlyExc r
  | l => l == [.type "Exception",.type "BaseException",.type "object"]
theorem onlyExc_ind {P:List Value → Prop} (h0:P [.type "Exception",.type "BaseException",.type "object"]) (h1:∀ a r,P r → P (.ref a :: r)):∀ {l:List Value},onlyExc l = true → P l
  | [],e => by simp [onlyExc] at e
  | v :: r,e => by
    cases v with
    | ref a => exact h1 a r (onlyExc_ind h0 h1 (by simpa [onlyExc] using e))
    | type n => rw [show (Value.type n :: r) = _ from beq_iff_eq.mp (by simpa only [onlyExc] using e)]; exact h0
    | _ => have:=beq_iff_eq.mp (by simpa only [onlyExc] using e); cases this
theorem onlyExc_has {l:List Value} (e:onlyExc l = true):l.contains (.type "object") = true ∧ l.contains (.type "BaseException") = true ∧ l.contains (.type "Exception") = true ∧ l.contains (.type "AttributeError") = false ∧ l.contains (.type "NameError") = false ∧ l.contains (.type "tuple") = false :=
  onlyExc_ind (P:=fun l => l.contains (.type "object") = true ∧ l.contains (.type "BaseException") = true ∧ l.contains (.type "Exception") = true ∧ l.contains (.type "AttributeError") = false ∧ l.contains (.type "NameError") = false ∧ l.contains (.type "tuple") = false)
    ⟨by decide +kernel,by decide +kernel,by decide +kernel,by decide +kernel,by decide +kernel,by decide +kernel⟩ (fun a r h => by simpa only [List.contains_cons,show (Value.type "object" == Value.ref a) = false from rfl,show (Value.type "BaseException" == Value.ref a) = false from rfl,show (Value.type "Exception" == Value.ref a) = false from rfl,show (Value.type "AttributeError" == Value.ref a) = false from rfl,show (Value.type "NameError" == Value.ref a) = false from rfl,show (Value.type "tuple" == Value.ref a) = false from rfl,Bool.false_or] using h) e
theorem onlyExc_passes (self:Value) {l:List Value} (e:onlyExc l = true):refuseLoop self "__setattr__" l = pure () :=
  onlyExc_ind (P:=fun l => refuseLoop self "__setattr__" l = pure ()) (PySem.F.store_Exception.passes self) (fun a r h => by rw [refuseLoop_ref]; exact h) e
noncomputable def xclsIn (K:PySem.W.Frag) (C:Addr):Bool:=match K.lookup C with
  | some ⟨.type "type",_,.cls cd,sl⟩ => (match cd.mro,sl.toList with
    | .ref C' :: bm,[_,_,_,_,some (.builtin n),_] => C' == C && n == "Exception.__new__" && !cd.hasDel && onlyExc bm && cd.hasDict
    | _,_ => false)
  | _ => false
noncomputable def XObj (h:Heap) (C:Addr) (bm:List Value):Prop :=
  ∃ (nm q:Str) (N:Addr) (bs:List Value) (sn:List Str) (sub:List Value) (ab:Bool) (col:Option Bool) (dd:Option Addr) (k0 k1 k2 k3 k5:Option Value),
    h.get? C = some (excClassObj nm q C N bs bm true sn sub ab col dd k0 k1 k2 k3 k5 "Exception.__new__")
theorem xcls_of {K:PySem.W.Frag} {C:Addr} (e:xclsIn K C = true):∃ cd:ClassData,∃ bm,PySem.W.clsIn K C = some cd ∧ cd.mro = .ref C :: bm ∧ cd.hasDict = true ∧ onlyExc bm = true ∧ ∀ h:Heap,K.In h → XObj h C bm:=by
  unfold xclsIn at e
  split at e
  · rename_i dd cd sl ho
    split at e
    · rename_i C' bm k0 k1 k2 k3 n k5 hm hs
      simp only [Bool.and_eq_true,beq_iff_eq,Bool.not_eq_true'] at e
      obtain ⟨⟨⟨⟨rfl,rfl⟩,hdel⟩,ht⟩,hd⟩:=e
      refine ⟨cd,bm,by unfold PySem.W.clsIn; rw [ho],hm,hd,ht,fun h X => ?_⟩
      obtain ⟨nm,bs,mro,ns,qn,hd',sn,sub,ab,col,del⟩:=cd
      dsimp only at hm hdel hd
      subst hm hdel hd
      have hsl:sl = #[k0,k1,k2,k3,some (.builtin "Exception.__new__"),k5]:=by
        obtain ⟨l⟩:=sl
        simp only at hs
        rw [hs]
      subst hsl
      exact ⟨nm,qn,ns,bs,sn,sub,ab,col,dd,k0,k1,k2,k3,k5,X _ _ ho⟩
    · cases e
  · cases e
noncomputable abbrev newExcObj (C t:Addr):Obj:={ cls:=.ref C,data:=.fields #[.ref t,.none,.none,.none,.bool false,.none] }
noncomputable abbrev xArgs (rest:List Value):Obj:={ cls:=.type "tuple",data:=.seq rest.toArray }
section
variable {M:Model} {A:Around} {E:Value → Shared → Prop} {h:Heap} {g:Array GenState} {d:Drawn} {t:Nat} {os:OsState}
variable {nm q:Str} {C N:Addr} {bs bm:List Value} {hdct:Bool} {sn:List Str} {sub:List Value} {ab:Bool} {col:Option Bool} {dd:Option Addr} {k0 k1 k2 k3 k5:Option Value}
theorem x_check_new (ht:onlyExc bm = true) {rest:List Value} {Q:Unit → Shared → Prop} (hC:h.get? C = some (excClassObj nm q C N bs bm hdct sn sub ab col dd k0 k1 k2 k3 k5 "Exception.__new__"))
    (hq:Q () ⟨h,g,d,t,os⟩):wpAny M A (checkBuiltinCall "Exception.__new__" ⟨.ref C :: rest,[]⟩) Q E ⟨h,g,d,t,os⟩:=by
  have Fn:=PySem.F.excBase_Exception
  have hcont:(Value.ref C :: bm).contains (.type "Exception") = true:=by rw [List.contains_cons,(onlyExc_has ht).2.2.1,Bool.or_true]
  have hstar:=Fn.noStar
  simp only [checkBuiltinCall,Fn.newKind,Fn.newSplit,Fn.newRow]
  repeat (first | refine wpAny_loadPart_at hC ?_ | (refine wpAny_isSubtype_exc hC ?_; rw [hcont]) | refine wpAny_staticBase_exc hC ?_ | refine wpAny_madeBy_exc hC ?_ | simp only [bne_self_eq_false,Bool.false_eq_true,if_false] | wp_step)
  exact hq
end
section
variable {prog:Program} {w:World} {A:Around} {R:Result → Shared → Prop} {E:Value → Shared → Prop} {h:Heap} {g:Array GenState} {d:Drawn} {t:Nat} {os:OsState}
variable {nm q:Str} {C N fI:Addr} {bs bm:List Value} {hdct:Bool} {sn:List Str} {sub:List Value} {ab:Bool} {col:Option Bool} {dd:Option Addr} {k0 k1 k2 k3 k5:Option Value} {K:PySem.W.Frag}
theorem x_new (ht:onlyExc bm = true) {rest:List Value} (hC:h.get? C = some (excClassObj nm q C N bs bm hdct sn sub ab col dd k0 k1 k2 k3 k5 "Exception.__new__"))
    (hq:R (.ok (.ret (.ref (h.objs.size + 1)))) ⟨(h.push (xArgs rest)).push (newExcObj C h.objs.size),g,d,t,os⟩) (hrest:rest.length ≤ sizeLine:=by size_fits) :
    codeAny (model prog w) A (.builtin "Exception.__new__" ⟨.ref C :: rest,[]⟩) R ⟨h,g,d,t,os⟩:=by
  have Fn:=PySem.F.excBase_Exception
  have hends:=Fn.ends
  have hcB:(Value.ref C :: bm).contains (.type "Exception") = true:=by rw [List.contains_cons,(onlyExc_has ht).2.2.1,Bool.or_true]
  have hcA:(Value.ref C :: bm).contains (.type "AttributeError") = false:=by rw [List.contains_cons,(onlyExc_has ht).2.2.2.1]; rfl
  have hcN:(Value.ref C :: bm).contains (.type "NameError") = false:=by rw [List.contains_cons,(onlyExc_has ht).2.2.2.2.1]; rfl
  refine codeAny_builtinAt Fn.entry ?_
  unfold Builtin.«BaseException.__new__»
  refine PySem.wpAt_bind ?_
  show PySem.wpAt _ _ _ (stack >>= _) _ _ _
  refine PySem.wpAt_bind (PySem.wpAt_stack fun p below => PySem.wpAt_of_wpAny ?_)
  wp_walk
  refine PySem.wpAt_of_wpAny ?_
  rw [Fn.owner]
  repeat (first | with_reducible refine wpAny_madeHere_exc Fn.canon hC ?_ | with_reducible refine wpAny_loadPart_at hC ?_ | (with_reducible refine wpAny_isSubtype_exc hC ?_; first | rw [hcB] | rw [hcA] | rw [hcN]) | wp_step)
  show R _ _
  rw [Heap.size_push]
  exact hq
theorem x_type_call (KX:K.In h) (ht:onlyExc bm = true) {rest:List Value} {Q:Fin → Shared → Prop} (hC:h.get? C = some (excClassObj nm q C N bs bm hdct sn sub ab col dd k0 k1 k2 k3 k5 "Exception.__new__"))
    (hi:PySem.W.findIn K (.ref C) "__init__" = some (some (.ref fI))) (hf:PySem.W.typeIn K (.ref fI) = some (.type "function"))
    (hq:wpAny (model prog w) A (call (.ref fI) (.ref (h.objs.size + 1) :: rest)) (fun r s' => r = .none ∧ Q (.done (.ret (.ref (h.objs.size + 1)))) s') E ⟨(h.push (xArgs rest)).push (newExcObj C h.objs.size),g,d,t,os⟩)
    (hrest:rest.length ≤ sizeLine:=by size_fits):wpAny (model prog w) A (Builtin.«type.__call__» ⟨.ref C :: rest,[]⟩) Q E ⟨h,g,d,t,os⟩:=by
  have Fn:=PySem.F.excBase_Exception
  repeat (first | with_reducible refine wpAny_loadPart_at hC ?_ | with_reducible refine wpAny_madeBy_exc hC ?_ | wp_step)
  refine codeAny_call_builtin_code (Code.quiet_builtin _ Fn.quiet) (x_check_new ht hC ?_)
  refine x_new ht hC ?_ hrest
  show wpAny _ _ _ _ _ _
  have hC₁:=Heap.get?_push_of_some (newExcObj C h.objs.size) (Heap.get?_push_of_some (xArgs rest) hC)
  have hget:((h.push (xArgs rest)).push (newExcObj C h.objs.size)).get? (h.objs.size + 1) = some (newExcObj C h.objs.size):=by heap_get
  have hcC:(Value.ref C :: bm).contains (.ref C) = true:=by simp
  have KX₁:K.In ((h.push (xArgs rest)).push (newExcObj C h.objs.size)):=KX.keeps fun b o e => Heap.get?_push_of_some _ (Heap.get?_push_of_some _ e)
  unfold isInstance
  repeat (first | with_reducible refine wpAny_loadPart_at hget ?_ | (with_reducible refine wpAny_isSubtype_exc hC₁ ?_; rw [hcC]) | wp_step)
  show wpAny _ _ (typeLookup (.ref C) _) _ _ _
  refine PySem.W.Looks.at (PySem.W.looks_findIn KX₁ hi) ?_
  refine wpAny_holding (wpAny_bind (PySem.W.Looks.at (PySem.W.bind_fn KX₁ _ hf) ?_))
  refine wpAny_bind (wpAny_mono hq (fun r s' hr => ?_) fun _ _ x => x)
  obtain ⟨rfl,hQ⟩:=hr
  wp_walk
  exact hQ
theorem x_call (KX:K.In h) (ht:onlyExc bm = true) {rest:List Value} {Q:Value → Shared → Prop} (hC:h.get? C = some (excClassObj nm q C N bs bm hdct sn sub ab col dd k0 k1 k2 k3 k5 "Exception.__new__"))
    (hi:PySem.W.findIn K (.ref C) "__init__" = some (some (.ref fI))) (hf:PySem.W.typeIn K (.ref fI) = some (.type "function"))
    (hq:wpAny (model prog w) (A.under (.builtin "type.__call__" ⟨.ref C :: rest,[]⟩)) (call (.ref fI) (.ref (h.objs.size + 1) :: rest)) (fun r s' => r = .none ∧ Q (.ref (h.objs.size + 1)) s') E ⟨(h.push (xArgs rest)).push (newExcObj C h.objs.size),g,d,t,os⟩)
    (hrest:rest.length ≤ sizeLine:=by size_fits):wpAny (model prog w) A (call (.ref C) rest) Q E ⟨h,g,d,t,os⟩:=by
  have f1:=tc_lookup
  have f2:=tc_bind (.ref C)
  have hT:(⟨h,g,d,t,os⟩:Shared).TypeIs (.ref C) "type":=⟨_,hC,rfl⟩
  refine wpAny_call (codeAny_of_tree ?_)
  show wpAny _ _ (callAny (.ref C) _) _ _ _
  repeat (any_goals (first | assumption | with_reducible refine wpAny_loadPart_at hC ?_ | wp_step))
  refine ⟨rfl,?_⟩
  refine codeAny_call_builtin_at (Code.quiet_builtin _ (by decide +kernel)) entry_typeCall (wpAny_check_type_call_sub hC (x_type_call (hrest:=hrest) KX ht hC hi hf ?_))
  exact hq
end
end L2
namespace L2
open PySem PySem.Spec PyProof.Rows
open Builtin Builtin.ObjectAttr
section
variable {prog:Program} {w:World} {A:Around} {R:Result → Shared → Prop} {E:Value → Shared → Prop} {s:Shared} {K:PySem.W.Frag} {e C t:Addr} {name:Str} {v:Value}
theorem x_set {Q:Unit → Shared → Prop} (KX:K.In s.heap) (hx:xclsIn K C = true) (hs:PySem.W.findIn K (.ref C) "__setattr__" = some (some (.builtin "object.__setattr__"))) (ha:PySem.W.findIn K (.ref C) name = some none)
    (he:s.heap.get? e = some (newExcObj C t))
    (h:∀ h' tk,(∀ b o,b ≠ e → s.heap.get? b = some o → h'.get? b = some o) → h'.get? e = some { newExcObj C t with dict:=some s.heap.objs.size } → h'.Ns1 s.heap.objs.size (fun y => if y = name then some v else none) →
      Q () { s with heap:=h',toks:=tk }):wpAny (model prog w) A (setAttr (.ref e) name v) Q E s:=by
  have SF:=PySem.F.store_Exception
  obtain ⟨cd,bm,hc,hm,hd,ht,hO⟩:=xcls_of hx
  have I:PySem.W.InstAt s.heap e (newExcObj C t) C none:=⟨he,rfl,rfl,trivial⟩
  have hexc:onlyExc cd.mro = true:=by rw [hm]; simpa only [onlyExc] using ht
  have ne:cd.mro.isEmpty = false:=by rw [hm]; rfl
  have sub:PySem.W.Looks (model prog w) s.heap (isInstance (.ref e) (.type "object")) true:=I.type.andThen (PySem.W.looks_mroIn KX (by unfold PySem.W.mroIn; rw [hc,Option.bind_some,if_neg (by rw [ne]; decide),(onlyExc_has hexc).1]))
  have hmro:PySem.W.Looks (model prog w) s.heap (mroOf (.ref C)) cd.mro:=(PySem.W.looks_clsIn KX hc).andThen .now
  refine PySem.W.set_plain KX I hs ?_
  refine codeAny_call_builtin SF.slot.plain SF.entry (@PySem.W.check_slot (model prog w) _ _ { s with toks:=s.toks + 1 } "object.__setattr__" "object" "__setattr__" (.ref e) [.str name s.toks,v] [] _ SF.kind SF.split sub (SF.args (.ref e) (.str name s.toks) v) ?_)
  rw [PySem.W.osa_eq,refuse_eq]
  refine wpAny_bind (wpAny_bind (I.type.at (wpAny_bind (hmro.at ?_))))
  rw [onlyExc_passes _ hexc]
  refine wpAny_pure (wpAny_bind (I.type.at (wpAny_bind ((PySem.W.looks_findIn KX ha).at (wpAny_bind (PySem.W.Looks.at PySem.W.Looks.now ?_))))))
  refine wpAny_bind (wpAny_pure (wpAny_bind (wpAny_bind (wpAny_loadPart he (wpAny_bind ((PySem.W.looks_clsIn KX hc).at ?_))))))
  rw [hd]
  have he₁:(s.heap.push { cls:=.type "dict",data:=.dict #[] }).get? e = some (newExcObj C t):=Heap.get?_push_of_some _ he
  have hes:e ≠ s.heap.objs.size:=Nat.ne_of_lt (Heap.lt_size he)
  refine wpAny_bind (wpAny_alloc ?_)
  refine wpAny_bind (wpAny_update he₁ ?_)
  refine wpAny_pure ?_
  have hgd:((s.heap.push { cls:=.type "dict",data:=.dict #[] }).update e fun o => { o with dict:=some s.heap.objs.size }).get? s.heap.objs.size = some { cls:=.type "dict",data:=.dict #[] } :=
    (Heap.get?_update_ne _ _ _ _ hes.symm).trans (Heap.get?_push_at rfl rfl)
  have hnd:((s.heap.push { cls:=.type "dict",data:=.dict #[] }).update e fun o => { o with dict:=some s.heap.objs.size }).Ns s.heap.objs.size (fun _ => none) :=
    ⟨_,#[],_,hgd,rfl,fun e he => absurd he (by simp),fun _ => rfl⟩
  show wpAny _ _ (storeInDict s.heap.objs.size (.str name s.toks) name v) _ _ _
  unfold storeInDict newKeyGuard
  refine wpAny_bind (wpAny_pure (wpAny_bind (wpAny_nsSet1 (Heap.Ns1.of_empty hnd) fun h' hn' hsb => ?_)))
  obtain ⟨oD,esD,epD,hoD,hdD,hcD⟩:=hn'.count (Within.cons name v Within.nil)
  refine wpAny_bind (wpAny_lookBehind hoD (by rw [hdD]; exact pastItsLine_dict (Nat.le_trans hcD (by rw [List.length_cons,List.length_nil,sizeLine_eq]; omega))) ?_)
  refine wpAny_pure ?_
  refine h h' _ (fun b o hb q => ?_) ?_ hn'
  · exact (hsb.2 b (Nat.ne_of_lt (Heap.lt_size q))).trans ((Heap.get?_update_ne _ _ _ _ hb).trans (Heap.get?_push_of_some _ q))
  · exact (hsb.2 e hes).trans (Heap.get?_update_self _ he₁ rfl)
theorem x_gacheck {M:Model} {nameV:Value} {oe:Obj} {bm:List Value} {Q:Unit → Shared → Prop} (hR:XObj s.heap C bm) (ht:onlyExc bm = true) (he:s.heap.get? e = some oe) (hc:oe.cls = .ref C) (hq:Q () s) :
    wpAny M A (checkBuiltinCall "BaseException.__getattribute__" ⟨[.ref e,nameV],[]⟩) Q E s:=by
  obtain ⟨nm,q,N,bs,sn,sub,ab,col,dd,k0,k1,k2,k3,k5,hC⟩:=hR
  have hk:builtinKind "BaseException.__getattribute__" = some .slot:=by decide +kernel
  have hsplit:splitId "BaseException.__getattribute__" = some ("BaseException","__getattribute__"):=by decide +kernel
  have hcB:(Value.ref C :: bm).contains (.type "BaseException") = true:=by rw [List.contains_cons,(onlyExc_has ht).2.1,Bool.or_true]
  have ha:=F.args_bexc_ga (.ref e) nameV
  obtain ⟨hp,g,d,tk,os⟩:=s
  simp only [checkBuiltinCall,hk,hsplit]
  refine wpAny_bind ?_
  · unfold isInstance
    repeat (first | (with_reducible refine wpAny_loadPart_at he ?_; rw [hc]) | (with_reducible refine wpAny_isSubtype_exc hC ?_; rw [hcB]) | wp_step)
    exact hq
theorem x_get {expr:Bool} {Q:Value → Shared → Prop} {oe:Obj} {vs:Array Value} {dx:Addr} {bm:List Value} {mA:Str → Option Value} (KX:K.In s.heap) (hR:XObj s.heap C bm) (ht:onlyExc bm = true) (hg:PySem.W.findIn K (.ref C) "__getattribute__" = some (some (.builtin "BaseException.__getattribute__")))
    (hgr:PySem.W.findIn K (.ref C) "__getattr__" = some none) (hh:PySem.W.hasDictIn K C = true) (ha:PySem.W.findIn K (.ref C) name = some none)
    (he:s.heap.get? e = some oe) (hc:oe.cls = .ref C) (hd:oe.dict = some dx) (hv:oe.data = .fields vs) (hn:s.heap.Ns1 dx mA) (hm:mA name = some v) (hv':PySem.W.handedIn v = true) (h:Q v { s with toks:=s.toks + 1 }) :
    wpAny (model prog w) A (getAttr (.ref e) name expr) Q E s:=by
  obtain ⟨od,ho,hl⟩:=lookIn_ns hn
  have J:PySem.W.InstAt s.heap e oe C (some od):=⟨he,hc,by unfold PySem.W.notCls; rw [hv],by rw [hd]; exact ho⟩
  have f3:=F.excAttr_ValueError.ga.bind (.ref e)
  have hx0:(expr && onTheHeap (Value.builtin "BaseException.__getattribute__")) = false:=by cases expr <;> rfl
  have hx2:(Value.builtin "BaseException.__getattribute__" == Value.builtin "object.__getattribute__") = false:=by decide +kernel
  have hx1:(onTheHeap (Value.ref C) && Value.builtin "BaseException.__getattribute__" == Value.builtin "object.__getattribute__") = false:=by rw [hx2]; rfl
  have hO:PySem.W.handedIn v = true:=hv'
  obtain ⟨hp,g,d,tk,os⟩:=s
  have L0:=J.type (M:=model prog w)
  have L1:=PySem.W.looks_findIn (M:=model prog w) KX hg
  have L2:=PySem.W.looks_findIn (M:=model prog w) KX hgr
  have L3:=PySem.W.looks_find (M:=model prog w) KX J (PySem.W.findObj_own hh ha rfl (by rw [hl,hm]))
  unfold getAttr getAttrBy
  refine wpAny_bind (wpAny_mkText (wpAny_holding (wpAny_bind (L0.at (wpAny_bind (L1.at ?_))))))
  show wpAny _ _ (if onTheHeap (Value.ref C) && Value.builtin "BaseException.__getattribute__" == Value.builtin "object.__getattribute__" then _ else getAttrByItsOwn _ _ _ _ _ _) _ _ _
  rw [hx1]
  show wpAny _ _ (getAttrByItsOwn _ _ _ _ _ _) _ _ _
  unfold getAttrByItsOwn
  refine wpAny_bind ?_
  show wpAny _ _ (typeLookup (.ref C) "__getattr__") _ _ _
  refine L2.at ?_
  unfold callGetattribute
  rw [hx0]
  repeat (any_goals (first | assumption | wp_step))
  refine codeAny_call_builtin F.excAttr_ValueError.ga.plain F.entry_bexc_ga (x_gacheck hR ht he hc ?_)
  unfold Builtin.«object.__getattribute__»
  repeat (any_goals (first | assumption | with_reducible refine L0.at ?_ | with_reducible refine L3.at ?_ | wp_step))
  show wpAny _ _ (handedOut v) _ _ _
  rw [PySem.W.handedOut_of hv']
  exact wpAny_pure h
end
noncomputable def exo (e C:Addr) (dx:Option Addr):HO:=.ext fun h => ∃ t,h.get? e = some { newExcObj C t with dict:=dx }
structure XCls (K:PySem.W.Frag) (C:Addr) (f:Str):Prop where
  cls:xclsIn K C = true
  sa:PySem.W.findIn K (.ref C) "__setattr__" = some (some (.builtin "object.__setattr__"))
  na:PySem.W.findIn K (.ref C) f = some none
  ga:PySem.W.findIn K (.ref C) "__getattribute__" = some (some (.builtin "BaseException.__getattribute__"))
  gr:PySem.W.findIn K (.ref C) "__getattr__" = some none
  hd:PySem.W.hasDictIn K C = true
section
variable {X:Cx} {pins:List (Addr × Obj)} {σ:St} {H:Hp} {s:Shared}
theorem exo_ok {P:Program} {w:World} {h:Heap} {e C t:Addr} {dx:Option Addr} (he:h.get? e = some { newExcObj C t with dict:=dx }):ObjOk P w H h e (exo e C dx) :=
  ⟨⟨t,he⟩,⟨_,he⟩,fun h1 h2 ⟨t,q⟩ k => ⟨t,k _ q⟩⟩
theorem xset_ok {e C:Addr} {f:Str} {y:V} {u:Value} {A:Around} {E:Value → Shared → Prop} {Q:Unit → Shared → Prop} (I:Inv X pins σ H s) (T:XCls X.K C f) (q:H e = some (exo e C none)) (ry:RelV y u)
    (h:∀ s' dx,H dx = none → dx ≠ e → Inv X pins σ (upd (upd H e (exo e C (some dx))) dx (.xd [(f,y)])) s' → Q () s'):wpAny (model X.prog X.w) A (setAttr (.ref e) f u) Q E s:=by
  obtain ⟨⟨t,he⟩,_,_⟩:=(show ObjOk X.prog X.w H s.heap e (exo e C none) from I.hok e _ q)
  refine x_set I.kIn T.cls T.sa T.na he fun h' tk k he' hn => ?_
  have hes:e ≠ s.heap.objs.size:=Nat.ne_of_lt (Heap.lt_size he)
  have hfr:H s.heap.objs.size = none:=I.hok.fresh (Nat.le_refl _)
  have hu:(s.heap.update e fun o => { o with dict:=some s.heap.objs.size }).get? e = some { newExcObj C t with dict:=some s.heap.objs.size }:=Heap.get?_update_self _ he rfl
  have I1:Inv X pins σ (upd H e (exo e C (some s.heap.objs.size))) { s with heap:=s.heap.update e fun o => { o with dict:=some s.heap.objs.size } } :=
    I.write (x:=e) (e:=e) (t':=s.toks) (by rw [q]; exact True.intro) (.inl rfl) (fun b o hb z => by rw [Heap.get?_update_ne _ _ _ _ hb]; exact z) ⟨_,hu⟩ (exo_ok hu)
  have I2:Inv X pins σ (upd (upd H e (exo e C (some s.heap.objs.size))) s.heap.objs.size (.xd [(f,y)])) { s with heap:=h',toks:=tk }:=by
    refine Inv.laid (s:={ s with heap:=s.heap.update e fun o => { o with dict:=some s.heap.objs.size } }) (h':=h') (t':=tk) I1 (fun b o z => ?_) (by rw [Heap.size_after_update]; exact Nat.le_refl _) ⟨_,hn,fun g => ?_⟩
    · by_cases hb:b = e
      · subst hb
        have z':some o = _:=z.symm.trans hu
        cases z'
        exact he'
      · have z':(s.heap.update e fun o => { o with dict:=some s.heap.objs.size }).get? b = some o:=z
        rw [Heap.get?_update_ne _ _ _ _ hb] at z'
        exact k b o hb z'
    · show RelO (List.lookup g [(f,y)]) (if g = f then some u else none)
      by_cases hg:g = f
      · have hb:(g == f) = true:=beq_iff_eq.mpr hg
        simp only [List.lookup,hb,if_pos hg]
        exact ry
      · have hb:(g == f) = false:=beq_eq_false_iff_ne.mpr hg
        simp only [List.lookup,hb,if_neg hg]
        trivial
  exact h _ _ hfr hes.symm I2
noncomputable def sXset (K:PySem.W.Frag) (ta tv:TE) (f:Str):TS:=fun D σ H => tv σ H fun y H1 => ta σ H1 fun x H2 => ∃ e C,x = .ref e ∧ H2 e = some (exo e C none) ∧ XCls K C f ∧
  ∀ dx,H2 dx = none → dx ≠ e → D.nx σ (upd (upd H2 e (exo e C (some dx))) dx (.xd [(f,y)]))
theorem ps_xset {o value:Expr} {f:Str} {pos pos':Pos} {ta tv:TE} (ha:PE X o ta) (hv:PE X value tv) (hs:swapsWith value (some (.Attribute o f pos')) pos.line X.env = pure false):PS X (.Assign [.Attribute o f pos'] value pos) (sXset X.K ta tv f):=by
  intro pins s σ H D I h
  refine plainObj_wpAny_Assign_Attribute (thn (hv pins s σ H _ I h) fun u s1 ⟨y,H1,I1,ry,q⟩ => thn (ha pins s1 σ H1 _ I1 q) fun ov s2 ⟨x,H2,I2,rx,e,C,ex,ea,T,q2⟩ => ?_) hs
  subst ex
  obtain rfl:ov = Value.ref e:=rx
  exact xset_ok I2 T ea ry fun s3 dx n1 n2 I3 => ⟨σ,_,I3,q2 dx n1 n2⟩
structure ClsM (K:PySem.W.Frag) (C:Addr) (m:Str) (f:Addr):Prop where
  rd:PySem.W.readsIn K C (.type "type") = true
  ga:PySem.W.specialIn K (.ref C) "__getattribute__" = some (some (.builtin "type.__getattribute__"))
  at_:PySem.W.findCls K (.ref C) (.type "type") m = some (.val (.ref f))
  kp:PySem.W.keepIn K (.ref f) = true
theorem pe_clsM {CX:CXT} {k:Nat} {f C:Addr} {fd:FuncData} {ps:List Str} {sp:Sp} {dvs:List V} {ds:List Value} {E:XK} {x m:Str} {p pos apos:Pos} {e:Expr} {es:List Expr} {t:TA} {pl:Sem Bool} (M:ClsM X.K C m f) (hg:Gl X x) (hmg:X.mg x = some (.ref C))
    (F:FnOk X.prog X.w X.K X.mg X.base CX k f fd ps sp) (hr:Room k X.A) (hb:Binds X.K fd ps ds) (hd:Vals dvs ds) (hx:Passes CX X E) (ha:PA X (e :: es) t)
    (hdb:(x == ("__debug__":Str)) = false:=by decide) (hst:starEach (e :: es) X.env = (false,eval e X.env) :: starEach es X.env:=by rfl) (hpl:(backTo pos (starEach es X.env)).any (·.1) = false:=by rfl)
    (ht:eval (.Call (.Attribute (.Name x p) m apos) (e :: es) [] pos) X.env = (do
      let ov ← eval (.Name x p) X.env
      standAt apos.atName
      let (f,first) ← holding [ov] (getMethod ov m pl)
      callWith pos f first (backTo pos (starEach (e :: es) X.env)) (backToKw pos (keywordEach [] X.env))):=by rfl) :
    PE X (.Call (.Attribute (.Name x p) m apos) (e :: es) [] pos) (tCall sp dvs E t):=by
  intro pins s σ H Q I h
  refine PySem.W.methodCall_KW (pl:=pl) (ld_glob I hg hmg ?_ hdb) ht
  refine PySem.W.method_cls I.kIn M.ga (PySem.W.cls_value I.kIn M.rd M.at_ rfl ?_)
  refine PySem.W.callWith_K (first:=[]) (h₀:=X.base) I.ok.mod.kin M.kp (thn (ha pos pins _ σ H _ (I.tok _) h) fun us s2 ⟨vs,H2,I2,r,q2⟩ => ⟨I2.kIn,?_⟩) hst hpl
  exact run_fn (us:=us) (vs:=vs) F hr hb hd hx I2 r q2
end
end L2
namespace L2
open PySem PySem.Spec PyProof.Rows
noncomputable def del (H:Hp) (e:Addr):Hp:=fun b => if b = e then none else H b
theorem del_same {H:Hp} {e:Addr}:del H e e = none:=by unfold del; rw [if_pos rfl]
theorem del_ne {H:Hp} {b e:Addr} (h:b ≠ e):del H e b = H b:=by unfold del; rw [if_neg h]
noncomputable def exr (e C:Addr) (dx:Option Addr):HO:=.ext fun h => ∃ oe vs,h.get? e = some oe ∧ oe.cls = .ref C ∧ oe.dict = dx ∧ oe.data = .fields vs
section
variable {X:Cx} {pins:List (Addr × Obj)} {σ:St} {H:Hp} {s:Shared} {h':Heap}
theorem Inv.untrack {e:Addr} {φ:Heap → Prop} (I:Inv X pins σ H s) (q:H e = some (.ext φ)) (hz:X.s_0.heap.objs.size ≤ e):Inv X pins σ (del H e) s:=by
  have ne0:∀ b o,X.s_0.heap.get? b = some o → b ≠ e:=fun b o z => Nat.ne_of_lt (Nat.lt_of_lt_of_le (Heap.lt_size z) hz)
  have fr:∀ b,H b = none → del H e b = none:=fun b z => by
    unfold del
    split
    · rfl
    · exact z
  have ks:∀ b u,H b = some u → (∀ ψ,u ≠ .ext ψ) → del H e b = some u:=fun b u z n => by
    rw [del_ne]
    · exact z
    · rintro rfl
      rw [q] at z
      exact n φ (Option.some.inj z).symm
  refine ⟨I.ok,I.os,I.bare,⟨I.base.keep,I.base.slot,fun b o z n hx => fr b (I.base.free b o z n hx),I.base.there,fun b xs z => ks b _ (I.base.tups b xs z) (fun _ y => nomatch y),fun b o u z => ks b _ (I.base.frzs b o u z) (fun _ y => nomatch y),fun b ps z => ?_⟩,I.loc,I.cell,fr _ I.free,fun x c z => fr _ (I.freeC x c z),fun p hp => ?_,fun b u z => ?_,I.len⟩
  · obtain ⟨m,z'⟩:=I.base.tbls b ps z
    exact ⟨m,ks b _ z' (fun _ y => nomatch y)⟩
  · obtain ⟨z1,z2,z3⟩:=I.pin p hp
    exact ⟨z1,fr _ z2,z3⟩
  · have hb:b ≠ e:=fun y => by rw [y,del_same] at z; cases z
    rw [del_ne hb] at z
    exact (I.hok b u z).stay (fun c v _ y => y) (fun c y => ks c _ y (fun _ y => nomatch y)) fun c xs y => ks c _ y (fun _ y => nomatch y)
theorem Inv.track {e:Addr} {o:HO} (I:Inv X pins σ H s) (l:Loose X pins H e) (new:ObjOk X.prog X.w (upd H e o) s.heap e o):Inv X pins σ (upd H e o) s:=by
  have ne0:∀ b ob,X.s_0.heap.get? b = some ob → b ≠ e:=fun b ob z => Nat.ne_of_lt (Nat.lt_of_lt_of_le (Heap.lt_size z) l.yng)
  have ks:∀ b u,H b = some u → upd H e o b = some u:=fun b u z => by rw [upd_ne (ne_of_none z l.nH)]; exact z
  refine ⟨I.ok,I.os,I.bare,⟨I.base.keep,I.base.slot,fun b ob z n hx => by rw [upd_ne (ne0 b ob z)]; exact I.base.free b ob z n hx,I.base.there,fun b xs z => ks b _ (I.base.tups b xs z),fun b ob u z => ks b _ (I.base.frzs b ob u z),fun b ps z => ?_⟩,I.loc,I.cell,by rw [upd_ne (Ne.symm l.nL)]; exact I.free,fun x c z => by rw [upd_ne (l.nC x c z)]; exact I.freeC x c z,fun p hp => ?_,fun b u z => ?_,I.len⟩
  · obtain ⟨m,z'⟩:=I.base.tbls b ps z
    exact ⟨m,ks b _ z'⟩
  · obtain ⟨z1,z2,z3⟩:=I.pin p hp
    exact ⟨z1,by rw [upd_ne (l.nP p hp)]; exact z2,z3⟩
  · by_cases hb:b = e
    · subst hb
      rw [upd_same] at z
      cases z
      exact new
    · rw [upd_ne hb] at z
      exact (I.hok b u z).stay (fun c v _ y => y) (fun c y => ks c _ y) fun c xs y => ks c _ y
theorem Inv.renamed {m':Str → Option Value} {tk:Nat} (I:Inv X pins σ H s) (hn:h'.Ns X.env.locals m') (hs:Heap.SameBut X.env.locals s.heap h'):Inv X pins (List.replicate X.N.length none) H { s with heap:=h',toks:=tk }:=by
  obtain ⟨m,⟨oL,es,ep,hoL,hr⟩,_⟩:=id I.loc
  have neL:∀ b o,X.s_0.heap.get? b = some o → b ≠ X.env.locals:=fun b o e => Nat.ne_of_lt (Nat.lt_of_lt_of_le (Heap.lt_size e) I.ok.above)
  refine ⟨I.ok,I.os,I.bare,⟨fun b o e n hb hx => ?_,fun b o e n hb hx => ?_,I.base.free,fun b o e hx => ?_,I.base.tups,I.base.frzs,I.base.tbls⟩,⟨m',hn,fun j y v e1 e2 e3 => ?_⟩,fun y c e => ?_,I.free,I.freeC,fun p hp => ?_,fun b ob e => ?_,by simp⟩
  · exact (hs.2 b (neL b o e)).trans (I.base.keep b o e n hb hx)
  · obtain ⟨sl,e1⟩:=I.base.slot b o e n hb hx
    exact ⟨sl,(hs.2 b (neL b o e)).trans e1⟩
  · obtain ⟨o',e1⟩:=I.base.there b o e hx
    exact ⟨o',(hs.2 b (neL b o e)).trans e1⟩
  · rw [List.getElem?_replicate] at e2
    split at e2 <;> cases e2
  · obtain ⟨w',z⟩:=I.cell y c e
    exact ⟨w',z.sameBut hs (I.cne y c e)⟩
  · obtain ⟨e,n,ne,nf,d⟩:=I.pin p hp
    exact ⟨(hs.2 p.1 ne).trans e,n,ne,nf,d⟩
  · refine (I.hok b ob e).stay (fun c w' hc q => (hs.2 c ?_).trans q) (fun _ q => q) fun _ _ q => q
    rintro rfl
    rcases hc with z | z
    · rw [← z,I.free] at e; cases e
    · rw [I.free] at z; cases z
theorem Inv.forget (I:Inv X pins σ H s):Inv X pins (List.replicate X.N.length none) H s :=
  I.weak (by rw [List.length_replicate]; exact I.len.symm) fun i v e => by
    rw [List.getElem?_replicate] at e
    split at e <;> cases e
end
noncomputable def spXI (C:Addr) (f:Str) (y:V):Sp:=fun vs H Q _ => ∃ e,vs = [.ref e] ∧ H e = some (exo e C none) ∧ ∀ dx,H dx = none → dx ≠ e → Q .non (upd (upd H e (exo e C (some dx))) dx (.xd [(f,y)]))
structure XMk (K:PySem.W.Frag) (C fI:Addr):Prop where
  cls:xclsIn K C = true
  init:PySem.W.findIn K (.ref C) "__init__" = some (some (.ref fI))
  fn:PySem.W.isFn K (.ref fI) = true
  kp:PySem.W.keepIn K (.ref C) = true
section
variable {M:Model} {A:Around} {Ex:Value → Shared → Prop} {env:Env} {s:Shared} {C:Addr}
theorem x_raiseStmt {bm:List Value} {x:Sem Value} {Q:Flow → Shared → Prop} (ht:onlyExc bm = true) (hh:A.handled = none)
    (h:wpAny M A x (fun v s₁ => ∃ e t dx,v = .ref e ∧ XObj s₁.heap C bm ∧ s₁.heap.get? e = some { newExcObj C t with dict:=dx } ∧ Ex (.ref e) s₁) Ex s) :
    wpAny M A (raiseStmt env (some x) none) Q Ex s:=by
  have hcB:(Value.ref C :: bm).contains (.type "BaseException") = true:=by rw [List.contains_cons,(onlyExc_has ht).2.1,Bool.or_true]
  unfold raiseStmt
  refine wpAny_bind (wpAny_mono h (fun v s₁ h₁ => ?_) fun _ _ x => x)
  obtain ⟨e,t,dx,rfl,⟨nm,q,N,bs,sn,sub,ab,col,dd,k0,k1,k2,k3,k5,hC⟩,he,hE⟩:=h₁
  obtain ⟨hp,g,d,tk,os⟩:=s₁
  repeat (first | with_reducible refine wpAny_loadPart_at he ?_ | with_reducible refine wpAny_loadPart_at hC ?_ | (with_reducible refine wpAny_isSubtype_exc hC ?_; rw [hcB]) | wp_step)
  exact wpAny_raiseNew_none hh hE
end
section
variable {X:Cx}
theorem run_exc {CX:CXT} {k:Nat} {f C:Addr} {fd:FuncData} {ps:List Str} {sp:Sp} {E0':XK} {pins:List (Addr × Obj)} {σ:St} {H:Hp} {s:Shared} {Q:VK} {us:List Value} {vs:List V} (M:XMk X.K C f) (F:FnOk X.prog X.w X.K X.mg X.base CX k f fd ps sp) (hr:Room (k + 1) X.A)
    (hb:Binds X.K fd ps []) (hx:Passes CX X E0') (I:Inv X pins σ H s) (r:Vals vs us) (hz:us.length ≤ sizeLine)
    (h:∀ e,s.heap.objs.size ≤ e → H e = none → sp (.ref e :: vs) (upd H e (exo e C none)) (fun v H2 => v = .non ∧ Q (.ref e) H2) E0') :
    wpAny (model X.prog X.w) X.A (call (.ref C) us) (EP X pins σ Q) X.xe s:=by
  obtain ⟨cd,bm,hc,hm,hd,ht,hO⟩:=xcls_of M.cls
  obtain ⟨nm,q,N,bs,sn,sub,ab,col,dd,k0,k1,k2,k3,k5,hC⟩:=hO s.heap I.kIn
  have hq:=h (s.heap.objs.size + 1) (Nat.le_succ _) (I.hok.fresh (Nat.le_succ _))
  have hget:((s.heap.push (xArgs us)).push (newExcObj C s.heap.objs.size)).get? (s.heap.objs.size + 1) = some (newExcObj C s.heap.objs.size):=by
    have:=Heap.get?_push_size (s.heap.push (xArgs us)) (o:=newExcObj C s.heap.objs.size) rfl
    rwa [Heap.size_push] at this
  have I1:Inv X pins σ H { s with heap:=s.heap.push (xArgs us) }:=I.kept (t':=s.toks) fun b o e => Heap.get?_push_of_some _ e
  have I2:Inv X pins σ (upd H (s.heap.objs.size + 1) (exo (s.heap.objs.size + 1) C none)) { s with heap:=(s.heap.push (xArgs us)).push (newExcObj C s.heap.objs.size) } :=
    Inv.laid (s:={ s with heap:=s.heap.push (xArgs us) }) (t':=s.toks) I1 (fun b o e => Heap.get?_push_of_some _ e) (Nat.le_of_eq (Heap.size_push _ _)) (exo_ok hget)
  have r2:Vals (V.ref (s.heap.objs.size + 1) :: vs) (Value.ref (s.heap.objs.size + 1) :: us):=.cons rfl r
  have hl:(Value.ref (s.heap.objs.size + 1) :: us).length = ps.length:=by
    have e:=r2.length
    rw [F.len _ _ _ _ hq] at e
    exact e.symm
  have hb2:=hb _ (Value.ref (s.heap.objs.size + 1) :: us) I2.kIn (by rw [List.append_nil]; exact hl)
  rw [List.append_nil] at hb2
  obtain ⟨hh,g,d,tk,os⟩:=s
  refine x_call (hrest:=hz) I.kIn ht hC M.init (beq_iff_eq.mp M.fn) (wpAny_call (codeAny_mono (F.run _ X.stack _ _ ⟨Value.ref (hh.objs.size + 1) :: us,[]⟩ (Value.ref (hh.objs.size + 1) :: us) _ _ E0' (hr.make C us [])
    (I2.env0.make C us []) hb2 r2 hq) fun r s' hq' => ?_))
  cases r with
  | error e => exact hx pins σ _ _ e s' I2 hq'
  | ok fl =>
    cases fl with
    | ret u =>
      obtain ⟨v,H',I3,rv,ev,q3⟩:=I2.after hq'
      subst ev
      exact ⟨rv,⟨V.ref (hh.objs.size + 1),H',I3,rfl,q3⟩⟩
    | next => exact False.elim hq'
    | brk => exact False.elim hq'
    | cont => exact False.elim hq'
noncomputable def tRaise (C:Addr) (f:Str) (y:V) (E:XK):TS:=fun _ _ H => ∀ dx,H dx = none → E (.ref C) (some dx) (upd H dx (.xd [(f,y)]))
theorem ps_raise {CX:CXT} {k:Nat} {fI C:Addr} {fd:FuncData} {f:Str} {y:V} {E E0':XK} {x:Str} {np cpos pos:Pos} (M:XMk X.K C fI) (F:FnOk X.prog X.w X.K X.mg X.base CX k fI fd ["self"] (spXI C f y)) (hr:Room (k + 1) X.A) (hb:Binds X.K fd ["self"] [])
    (hx0:Passes CX X E0') (hx:XOk X E) (hc:X.calm = true) (hg:Gl X x) (hm:X.mg x = some (.ref C)) (hdb:(x == ("__debug__":Str)) = false:=by decide) :
    PS X (.Raise (some (.Call (.Name x np) [] [] cpos)) none pos) (tRaise C f y E):=by
  intro pins s σ H D I h
  obtain ⟨cd,bm,hc',hm',hd',ht,hO⟩:=xcls_of M.cls
  rw [arm_exec_Raise]
  have go:wpAny (model X.prog X.w) X.A (do let v ← eval (.Call (.Name x np) [] [] cpos) X.env; standAt pos; pure v) (fun v s₁ => ∃ e t dx,v = .ref e ∧ XObj s₁.heap C bm ∧ s₁.heap.get? e = some { newExcObj C t with dict:=dx } ∧ X.xe (.ref e) s₁) X.xe s:=by
    refine wpAny_bind (wpAny_Call_Name_kw (ld_glob I hg hm ?_ hdb))
    refine PySem.W.callWith_K0 I.kIn M.kp ?_
    refine thn (run_exc (us:=[]) (vs:=[]) (Q:=fun v H2 => ∃ e dx,v = .ref e ∧ s.heap.objs.size ≤ e ∧ H2 e = some (exo e C (some dx)) ∧ E (.ref C) (some dx) (del H2 e)) M F hr hb hx0 I .nil (Nat.zero_le _) fun e hz hn => ?_) fun v s1 ⟨v',H1,I1,rv,e,dx,ev,hz,he,q⟩ => ?_
    · refine ⟨e,rfl,upd_same,fun dx n1 n2 => ⟨rfl,e,dx,rfl,hz,by rw [upd_ne (Ne.symm n2),upd_same],?_⟩⟩
      have n3:H dx = none:=by rw [upd_ne n2] at n1; exact n1
      have e1:del (upd (upd (upd H e (exo e C none)) e (exo e C (some dx))) dx (.xd [(f,y)])) e = upd H dx (.xd [(f,y)]):=by
        funext b
        by_cases hb:b = e
        · subst hb
          rw [del_same,upd_ne (Ne.symm n2)]
          exact hn.symm
        · rw [del_ne hb]
          by_cases hbd:b = dx
          · subst hbd; rw [upd_same,upd_same]
          · rw [upd_ne hbd,upd_ne hbd,upd_ne hb,upd_ne hb]
      rw [e1]
      exact h dx n3
    · subst ev
      obtain rfl:v = Value.ref e:=rv
      obtain ⟨⟨t,hge⟩,_,_⟩:=(show ObjOk X.prog X.w H1 s1.heap e (exo e C (some dx)) from I1.hok e _ he)
      refine wpAny_bind (wpAny_standAt (wpAny_pure ⟨e,t,some dx,rfl,hO _ I1.kIn,hge,?_⟩))
      have I2:=I1.untrack he (Nat.le_trans I.sz hz)
      have l:=I.loose hz
      exact hx _ _ ⟨pins,σ,e,C,some dx,del H1 e,rfl,I2,⟨l.yng,l.nL,l.nC,l.nP,del_same⟩,.inl ⟨_,_,hge,rfl,rfl,rfl,rfl⟩,q⟩
  exact wpAny_bind (wpAny_standAt (x_raiseStmt (C:=C) ht (I.ok.hd hc) go))
end
end L2
namespace L2
open PySem PySem.Spec PyProof.Rows
noncomputable abbrev Cx.pinned (X:Cx) (pn':List (Addr × Obj)):Cx:={ X with pn:=pn' }
noncomputable abbrev Cx.caught (X:Cx) (pn':List (Addr × Obj)) (a:Addr):Cx:={ X with pn:=pn',A:=X.A.mark (some (.ref a)),calm:=false,xe:=fun _ _ => False }
section
variable {X:Cx} {pins:List (Addr × Obj)} {σ:St} {H:Hp} {s:Shared}
theorem Cx.Ok.pinned {pn':List (Addr × Obj)} (ok:X.Ok):(X.pinned pn').Ok:=⟨ok.mod,ok.kind,ok.glob,ok.blt,ok.above,ok.inj,ok.has,ok.cab,ok.hd,ok.frames,ok.stk,ok.exf,ok.bs,ok.bsz,ok.noex,ok.exfs,ok.funs,ok.frf⟩
theorem Cx.Ok.unpinned {pn':List (Addr × Obj)} (ok:(X.pinned pn').Ok):X.Ok:=⟨ok.mod,ok.kind,ok.glob,ok.blt,ok.above,ok.inj,ok.has,ok.cab,ok.hd,ok.frames,ok.stk,ok.exf,ok.bs,ok.bsz,ok.noex,ok.exfs,ok.funs,ok.frf⟩
theorem Cx.Ok.caught {pn':List (Addr × Obj)} {a:Addr} (ok:X.Ok):(X.caught pn' a).Ok:=⟨ok.mod,ok.kind,ok.glob,ok.blt,ok.above,ok.inj,ok.has,ok.cab,fun z => Bool.noConfusion z,ok.frames,ok.stk,ok.exf,ok.bs,ok.bsz,ok.noex,ok.exfs,ok.funs,ok.frf⟩
theorem Cx.Ok.uncaught {pn':List (Addr × Obj)} {a:Addr} (h:X.calm = true → X.A.handled = none) (ok:(X.caught pn' a).Ok):X.Ok:=⟨ok.mod,ok.kind,ok.glob,ok.blt,ok.above,ok.inj,ok.has,ok.cab,h,ok.frames,ok.stk,ok.exf,ok.bs,ok.bsz,ok.noex,ok.exfs,ok.funs,ok.frf⟩
theorem Inv.inCx (I:Inv X pins σ H s):Inv (X.pinned (X.pn ++ pins)) [] σ H s:=⟨I.ok.pinned,I.os,I.bare,I.base,I.loc,I.cell,I.free,I.freeC,fun p hp => I.pin p (by rw [List.append_nil] at hp; exact hp),I.hok,I.len⟩
theorem Inv.outCx {pins2:List (Addr × Obj)} (I:Inv (X.pinned (X.pn ++ pins)) pins2 σ H s):Inv X pins σ H s:=⟨I.ok.unpinned,I.os,I.bare,I.base,I.loc,I.cell,I.free,I.freeC,fun p hp => I.pin p (List.mem_append_left _ hp),I.hok,I.len⟩
theorem Inv.inCaught {a:Addr} (I:Inv X pins σ H s):Inv (X.caught (X.pn ++ pins) a) [] σ H s:=⟨I.ok.caught,I.os,I.bare,I.base,I.loc,I.cell,I.free,I.freeC,fun p hp => I.pin p (by rw [List.append_nil] at hp; exact hp),I.hok,I.len⟩
theorem Inv.outCaught {a:Addr} {pins2:List (Addr × Obj)} (ok:X.Ok) (I:Inv (X.caught (X.pn ++ pins) a) pins2 σ H s):Inv X pins σ H s:=⟨I.ok.uncaught ok.hd,I.os,I.bare,I.base,I.loc,I.cell,I.free,I.freeC,fun p hp => I.pin p (List.mem_append_left _ hp),I.hok,I.len⟩
end
theorem x_matches {M:Model} {A:Around} {Ex:Value → Shared → Prop} {K:PySem.W.Frag} {s:Shared} {e C R:Addr} {oe:Obj} {bm:List Value} {Q:Bool → Shared → Prop} (KX:K.In s.heap) (hR:XObj s.heap R bm) (ht:onlyExc bm = true)
    (hsub:PySem.W.subIn K (.ref C) (.ref R) = some true) (he:s.heap.get? e = some oe) (hcls:oe.cls = .ref C) (hq:Q true s):wpAny M A (excMatches (.ref e) (.ref R)) Q Ex s:=by
  obtain ⟨nm,q,N,bs,sn,sub,ab,col,dd,k0,k1,k2,k3,k5,hC⟩:=hR
  have hcB:(Value.ref R :: bm).contains (.type "BaseException") = true:=by rw [List.contains_cons,(onlyExc_has ht).2.1,Bool.or_true]
  have f:=tc_notTuple
  have L:PySem.W.Looks M s.heap (isSubtype (.ref C) (.ref R)) true:=PySem.W.looks_subIn KX hsub
  obtain ⟨hp,g,d,tk,os⟩:=s
  unfold excMatches
  repeat (first | (with_reducible refine wpAny_loadPart_at he ?_; rw [hcls]) | with_reducible refine wpAny_loadPart_at hC ?_ | with_reducible refine PySem.W.Looks.at L ?_ | (with_reducible refine wpAny_isSubtype_exc hC ?_; rw [hcB]) | wp_step)
  exact hq
section
variable {X:Cx}
noncomputable def tTry (K:PySem.W.Frag) (R:Addr) (i m:Nat) (tb ts:TS) (E:XK):TS:=fun D σ H => tb D σ H ∧ ∀ (C:Addr) (dx:Option Addr) (H':Hp),E (.ref C) dx H' → PySem.W.subIn K (.ref C) (.ref R) = some true ∧
  ∀ a,H' a = none → ts { nx:=fun _ _ => False,rt:=D.rt } ((List.replicate m none).set i (some (.ref a))) (upd H' a (exr a C dx))
theorem ps_try {body suite:List Stmt} {b0:Stmt} {x n:Str} {np hpos pos:Pos} {tb ts:TS} {R:Addr} {i:Nat} {E:XK} (hst:X.stack = X.env :: X.outer) (hf:X.env.frame = some X.env.locals) (hR:xclsIn X.K R = true)
    (hb:∀ pn',PSs ((X.pinned pn').wish (InX (X.pinned pn') E)) body tb) (hs:∀ pn' a,PSs (X.caught pn' a) (b0 :: suite) ts) (hg:Gl X x) (hm:X.mg x = some (.ref R))
    (hN:X.N.Nodup) (hi:X.N[i]? = some n) (hn:X.env.scope.names.lookup n = some .local) (hdb:(x == ("__debug__":Str)) = false:=by decide) :
    PS X (.Try body [.ExceptHandler (some (.Name x np)) (some n) (b0 :: suite) hpos] [] [] pos) (tTry X.K R i X.N.length tb ts E):=by
  intro pins s σ H D I ⟨h1,h2⟩
  have ok:=I.ok
  have hcls:(X.env.scope.kind == .class || (X.env.scope.kind == .module && X.env.locals != X.env.globals)) = false:=by rw [ok.kind]; rfl
  refine wpAny_Try_except (wpAny_mono (hb (X.pn ++ pins) [] s σ H D (I.inCx.wish _) h1) (fun f s1 q => ?_) fun e s1 q => ?_)
  · cases f with
    | next =>
      obtain ⟨σ',H',I',q⟩:=q
      exact wpAny_execs_nil ⟨σ',H',I'.unwish.outCx,q⟩
    | brk => obtain ⟨σ',H',I',q⟩:=q; exact ⟨σ',H',I'.unwish.outCx,q⟩
    | cont => obtain ⟨σ',H',I',q⟩:=q; exact ⟨σ',H',I'.unwish.outCx,q⟩
    | ret u => obtain ⟨v,σ',H',I',r,q⟩:=q; exact ⟨v,σ',H',I'.unwish.outCx,r,q⟩
  ·
    refine InX.note (X:=X.pinned (X.pn ++ pins)) (L:=X.env.locals) q hst hf rfl fun pins2 σ2 a T C dx H' h' ee I1 la lT fl qE => ?_
    subst ee
    refine x_land (fs:=frs X.stack) fl fun h3 al3 fl3 => ?_
    have I3:Inv (X.pinned (X.pn ++ pins)) pins2 σ2 H' { s1 with heap:=h3 }:=Inv.alt (s:={ s1 with heap:=h' }) (ch:=[T]) I1 al3 (by intro b hb; rw [List.mem_singleton.mp hb]; exact lT)
    obtain ⟨hsub,hts⟩:=h2 C dx H' qE
    obtain ⟨cd,bm,hc',hm',hd',ht,hO⟩:=xcls_of hR
    have I3c:Inv (X.caught (X.pn ++ pins) a) [] σ2 H' { s1 with heap:=h3 }:=I3.outCx.inCaught
    obtain ⟨oe,vs,he,hec,hed,hedt,_⟩:=id fl3.exc
    refine wpAny_handleBy_cons (codeAny_handlers_test (ld_glob (X:=X.caught (X.pn ++ pins) a) I3c hg hm ?_ hdb)) (by intro z; cases z)
    refine x_matches I3.kIn (hO _ I3.kIn) ht hsub he hec ?_
    refine codeAny_handlers_suite_as (x_land (fs:=frs X.stack) fl3 fun h4 al4 fl4 => ?_)
    have I4:Inv (X.pinned (X.pn ++ pins)) pins2 σ2 H' { s1 with heap:=h4 }:=Inv.alt (s:={ s1 with heap:=h3 }) (ch:=[T]) I3 al4 (by intro b hb; rw [List.mem_singleton.mp hb]; exact lT)
    obtain ⟨oe4,vs4,he4,hec4,hed4,hedt4,_⟩:=id fl4.exc
    have lX:Loose X pins H' a:=⟨la.yng,la.nL,la.nC,fun p hp => la.nP p (List.mem_append_left _ hp),la.nH⟩
    have I5:Inv X pins (List.replicate X.N.length none) (upd H' a (exr a C dx)) { s1 with heap:=h4 } :=
      (I4.outCx.forget).track lX ⟨⟨oe4,vs4,he4,hec4,hed4,hedt4⟩,⟨oe4,he4⟩,fun g1 g2 ⟨o,v,z1,z2⟩ k => ⟨o,v,k _ z1,z2⟩⟩
    refine store_ok (X:=X.caught (X.pn ++ pins) a) (v:=V.ref a) I5.inCaught hN hi (.inl hn) rfl (fun s6 I6 => ?_) (.inr hn)
    refine wpAny_mono (hs (X.pn ++ pins) a [] s6 _ _ _ I6 (hts a la.nH)) (fun f s7 q7 => ?_) fun _ _ z => False.elim z
    cases f with
    | next => obtain ⟨_,_,_,z⟩:=q7; exact z.elim
    | brk => obtain ⟨_,_,_,z⟩:=q7; exact z.elim
    | cont => obtain ⟨_,_,_,z⟩:=q7; exact z.elim
    | ret u =>
      obtain ⟨v,σ7,H7,I7,r7,q7⟩:=q7
      have I7':Inv X pins σ7 H7 s7:=I7.outCaught ok
      obtain ⟨m,hm7,_⟩:=id I7'.loc
      refine wpAny_nameGoes hn hm7 hcls fun h8 m8 hn8 hs8 => ?_
      exact ⟨v,_,H7,I7'.renamed hn8 hs8,r7,q7⟩
noncomputable def tXget (K:PySem.W.Frag) (ta:TE) (f:Str):TE:=fun σ H Q => ta σ H fun x H1 => ∃ a C dx fs v,x = .ref a ∧ H1 a = some (exr a C (some dx)) ∧ H1 dx = some (.xd fs) ∧ XCls K C f ∧ fs.lookup f = some v ∧ Q v H1
theorem pe_xget {e:Expr} {f:Str} {pos:Pos} {ta:TE} (he:PE X e ta) (hb:attributeBase e f X.env (eval e X.env) = eval e X.env):PE X (.Attribute e f pos) (tXget X.K ta f):=by
  intro pins s σ H Q I h
  refine attr_of hb (thn (he pins s σ H _ I h) fun u s1 ⟨x,H1,I1,rx,a,C,dx,fs,v,ex,ea,ed,T,l,q⟩ => ?_)
  subst ex
  obtain rfl:u = Value.ref a:=rx
  obtain ⟨⟨oe,vs,z1,z2,z3,z4⟩,_,_⟩:=(show ObjOk X.prog X.w H1 s1.heap a (exr a C (some dx)) from I1.hok a _ ea)
  obtain ⟨mA,hn,r⟩:=(show ObjOk X.prog X.w H1 s1.heap dx (.xd fs) from I1.hok dx _ ed)
  obtain ⟨u,hu,ru⟩:=RelO.some_of (v:=v) (o:=mA f) (by rw [← l]; exact r f)
  obtain ⟨_,bm,_,_,_,hb2,hX⟩:=xcls_of T.cls
  exact x_get I1.kIn (hX _ I1.kIn) hb2 T.ga T.gr T.hd T.na z1 z2 z3 z4 hn hu (handed_of ru) ⟨v,H1,I1.tok _,ru,q⟩
end
theorem xok_try {X:Cx} {pn':List (Addr × Obj)} {E:XK}:XOk ((X.pinned pn').wish (InX (X.pinned pn') E)) E:=by
  rintro e s' ⟨pins,σ,a,C,dx,H',rfl,I,l,f,q⟩
  refine ⟨pins,σ,a,C,dx,H',rfl,I.unwish,⟨l.yng,l.nL,l.nC,l.nP,l.nH⟩,?_,q⟩
  rcases f with f | ⟨T,lT,f⟩
  · exact .inl f
  · exact .inr ⟨T,⟨lT.yng,lT.nL,lT.nC,lT.nP,lT.nH⟩,f⟩
end L2
namespace L2
open PySem PySem.Spec PyProof.Rows
section
variable {prog:Program} {w:World} {A:Around} {R:Result → Shared → Prop} {I:Addr} {fp wr:List Addr} {n:Nat} {P:Nat → Value → Prop} {St:Nat → Heap → Prop} {kw:List (Str × Value)}
theorem d_min_loop (W:Walks prog w A.in1 I fp wr n P St) (bt:Nat → Nat → Bool) (hcmp:CmpOf prog w A.in1 .Lt P bt) (S:Addr) (hSf:S ∉ fp) :
    ∀ (k j:Nat) (s:Shared) (vb:Value) (c:Nat),n - (j + 1) = k → j + 1 ≤ n → St (j + 1) s.heap → P (argBest bt j) vb →
    s.heap.get? S = some { cls:=.type "list",dict:=none,data:=.seq #[vb,vb] c,slots:=#[] } →
    (∀ v h' tk,P (argBest bt (n - 1)) v → (∀ b o,b ∉ wr → b ≠ S → s.heap.get? b = some o → h'.get? b = some o) → R (.ok (.ret v)) { s with heap:=h',toks:=tk }) →
    codeAny (model prog w) A (.builtin "min.loop" ⟨[.ref I,.none,.ref S],kw⟩) R s:=by
  have hSw:S ∉ wr:=fun h => hSf (W.sub _ h)
  have hname:(toString "min" ++ toString ".loop":String) = "min.loop":=by decide
  intro k
  induction k with
  | zero =>
    intro j s vb c hk hj hst hPb hS hR
    have hin:j + 1 = n:=by omega
    refine codeAny_builtin PySem.F.entry_min_loop ?_
    rw [Around.under_plainId PySem.F.plain_min_loop _]
    show wpAny _ A.in1 (seqItems? (.ref S) >>= _) _ _ s
    refine wpAny_bind (wpAny_seqItems hS rfl ?_)
    show wpAny _ A.in1 (tryCatch (pyNext (.ref I)) _ >>= _) _ _ s
    refine wpAny_bind (wpAny_tryCatch (W.done s _ _ (hin ▸ hst) fun h' tk hk' => ?_))
    have hS':=hk' S _ hSw hS
    show wpAny _ A.in1 (updateSeq S (fun _ => #[]) >>= _) _ _ _
    refine wpAny_bind ?_
    refine wpAny_updateSeq hS' rfl (wpAny_bind (wpAny_letGo (wpAny_pure ?_)))
    refine hR vb _ tk (by rw [← hin]; exact hPb) fun b o hbw hbS e => (Heap.get?_update_other _ _ (Ne.symm hbS)).trans (hk' b o hbw e)
  | succ k ih =>
    intro j s vb c hk hj hst hPb hS hR
    have hlt:j + 1 < n:=by omega
    refine codeAny_builtin PySem.F.entry_min_loop ?_
    rw [Around.under_plainId PySem.F.plain_min_loop _]
    show wpAny _ A.in1 (seqItems? (.ref S) >>= _) _ _ s
    refine wpAny_bind (wpAny_seqItems hS rfl ?_)
    show wpAny _ A.in1 (tryCatch (pyNext (.ref I)) _ >>= _) _ _ s
    refine wpAny_bind (wpAny_tryCatch (W.item (j + 1) s _ _ hlt hst fun v h' tk hP hst' hk' => ?_))
    have hS':=hk' S _ hSw hS
    show wpAny _ A.in1 (tryCatch (holding [v,v] (richCompare .Lt v vb >>= _)) _ >>= _) _ _ _
    refine wpAny_bind (wpAny_tryCatch (wpAny_holding (wpAny_bind (hcmp (j + 1) (argBest bt j) v vb _ _ _ hP hPb ?_))))
    refine wpAny_bind (wpAny_holding (wpAny_truthy_bool ?_))
    refine wpAny_bind (wpAny_letGo (wpAny_pure ?_))
    cases hb:bt (j + 1) (argBest bt j) with
    | true =>
      simp only [if_true]
      refine wpAny_bind ?_
      refine wpAny_updateSeq hS' rfl (wpAny_bind (wpAny_letGo ?_))
      rw [hname]
      refine wpAny_pure ⟨plainId_quiet PySem.F.plain_min_loop _,ih (j + 1) _ v _ (by omega) hlt (W.frame _ _ _ hst' fun b hbf o e => ?_) (by simp only [argBest,hb,if_true]; exact hP) (Heap.get?_update_self _ hS' rfl)
        fun v' h'' tk'' hP' hk'' => ?_⟩
      · exact (Heap.get?_update_other _ _ (fun h:S = b => hSf (by rw [h]; exact hbf))).trans e
      · exact hR v' h'' tk'' hP' fun b o hbw hbS e => hk'' b o hbw hbS ((Heap.get?_update_other _ _ (Ne.symm hbS)).trans (hk' b o hbw e))
    | false =>
      simp only [Bool.false_eq_true,if_false]
      refine wpAny_bind (wpAny_letGo ?_)
      rw [hname]
      refine wpAny_pure ⟨plainId_quiet PySem.F.plain_min_loop _,ih (j + 1) _ vb c (by omega) hlt hst' (by simp only [argBest,hb,Bool.false_eq_true,if_false]; exact hPb) hS' fun v' h'' tk'' hP' hk'' => ?_⟩
      exact hR v' h'' tk'' hP' fun b o hbw hbS e => hk'' b o hbw hbS (hk' b o hbw e)
theorem d_min_first {d:Value} {x:Str} (W:Walks prog w A.in1 I fp wr n P St) (bt:Nat → Nat → Bool) (hcmp:CmpOf prog w A.in1 .Lt P bt) (S:Addr) (hSf:S ∉ fp) {s:Shared} {c:Nat} (hst:St 0 s.heap)
    (hS:s.heap.get? S = some { cls:=.type "list",dict:=none,data:=.seq #[] c,slots:=#[] })
    (h0:n = 0 → ∀ h' tk,(∀ b o,b ∉ wr → b ≠ S → s.heap.get? b = some o → h'.get? b = some o) → R (.ok (.ret d)) { s with heap:=h',toks:=tk })
    (hR:0 < n → ∀ v h' tk,P (argBest bt (n - 1)) v → (∀ b o,b ∉ wr → b ≠ S → s.heap.get? b = some o → h'.get? b = some o) → R (.ok (.ret v)) { s with heap:=h',toks:=tk }) :
    codeAny (model prog w) A (.builtin "min.loop" ⟨[.ref I,.none,.ref S],[(x,d)]⟩) R s:=by
  have hSw:S ∉ wr:=fun h => hSf (W.sub _ h)
  have hname:(toString "min" ++ toString ".loop":String) = "min.loop":=by decide
  refine codeAny_builtin PySem.F.entry_min_loop ?_
  rw [Around.under_plainId PySem.F.plain_min_loop _]
  show wpAny _ A.in1 (seqItems? (.ref S) >>= _) _ _ s
  refine wpAny_bind (wpAny_seqItems hS rfl ?_)
  show wpAny _ A.in1 (tryCatch (pyNext (.ref I)) _ >>= _) _ _ s
  by_cases hn:n = 0
  · refine wpAny_bind (wpAny_tryCatch (W.done s _ _ (hn ▸ hst) fun h' tk hk' => ?_))
    exact wpAny_bind (wpAny_rule (wpAny_pure (h0 hn h' tk fun b o hbw hbS e => hk' b o hbw e)))
  have hn':0 < n:=Nat.pos_of_ne_zero hn
  refine wpAny_bind (wpAny_tryCatch (W.item 0 s _ _ hn' hst fun v h' tk hP hst' hk' => ?_))
  have hS':=hk' S _ hSw hS
  show wpAny _ A.in1 (updateSeq S (fun _ => #[v,v]) >>= _) _ _ _
  refine wpAny_bind ?_
  refine wpAny_updateSeq hS' rfl ?_
  rw [hname]
  refine wpAny_pure ⟨plainId_quiet PySem.F.plain_min_loop _,d_min_loop W bt hcmp S hSf _ 0 _ v _ rfl hn' (W.frame _ _ _ hst' fun b hbf o e => ?_) hP (Heap.get?_update_self _ hS' rfl) fun v' h'' tk'' hP' hk'' => ?_⟩
  · exact (Heap.get?_update_other _ _ (fun h:S = b => hSf (by rw [h]; exact hbf))).trans e
  · exact hR hn' v' h'' tk'' hP' fun b o hbw hbS e => hk'' b o hbw hbS ((Heap.get?_update_other _ _ (Ne.symm hbS)).trans (hk' b o hbw e))
theorem d_min_args (a d:Value):argsOk "min" ⟨[a],[(Str.ofString "default",d)]⟩:=by unfold argsOk; kernel_rfl
theorem d_min {E:Value → Shared → Prop} {s:Shared} {l:Addr} {its:List Value} {ns:List Int} {d:Value} {Q:Value → Shared → Prop} (hh:A.handled = none) (hl:s.heap.IsList l its.toArray) (hi:IntsAre its ns)
    (h0:ns = [] → ∀ h' tk,(∀ b o,s.heap.get? b = some o → h'.get? b = some o) → Q d { s with heap:=h',toks:=tk })
    (h:∀ h' tk M t',(∀ b o,s.heap.get? b = some o → h'.get? b = some o) → M ∈ ns → (∀ a,a ∈ ns → M ≤ a) → Q (.int M t') { s with heap:=h',toks:=tk }):wpAny (model prog w) A (call (.builtin "min") [.ref l] [(Str.ofString "default",d)]) Q E s:=by
  obtain ⟨xs,e⟩:=hi.allInts.items
  have hn:numsOf (intItems xs).toList = ns:=by rw [← e]; exact hi.numsOf
  rw [nums_intItems] at hn
  subst hn
  rw [e] at hl
  have hname:(toString "min" ++ toString ".loop":String) = "min.loop":=by decide
  refine PyProof.Rows.kmk_tree PySem.F.kind_min PySem.F.plain_min PySem.F.entry_min (d_min_args _ _) ?_
  show wpAny _ A.in1 (Builtin.Builtins.bindParams "min" ["key","default"] 0 ⟨[],[(Str.ofString "default",d)]⟩ >>= _) _ _ s
  refine wpAny_bind (wpAny_of_eq (show Builtin.Builtins.bindParams "min" ["key","default"] 0 ⟨[],[(Str.ofString "default",d)]⟩ = pure [none,some d] from rfl) ?_)
  refine wpAny_bind (wpAny_pure ?_)
  refine wpAny_bind (iter_intList hl fun s₂ e2 st hfp hlI => ?_)
  subst e2
  have W:=Walks.list (prog:=prog) (w:=w) (A:=A.in1) hh s.heap.objs.size l hlI (intItems xs)
  refine wpAny_bind (wpAny_newObj_type ?_)
  rw [hname]
  have hSf:(s.heap.push { cls:=.type "list_iterator",data:=.fields #[.ref l,.int 0 0] }).objs.size ∉ [s.heap.objs.size,l]:=fun hm => Nat.lt_irrefl _ (hfp _ hm)
  refine wpAny_pure ⟨plainId_quiet PySem.F.plain_min_loop _,d_min_first W (fun i j => decide (numAt xs i < numAt xs j)) (CmpOf.ints_lt (numAt xs) (fun _ _ => intItems_at)) _ hSf (W.frame _ _ _ st fun b _ o e => Heap.get?_push_of_some _ e) (Heap.get?_push_size _ rfl) (fun hz h' tk hk => ?_) (fun hz v h' tk hP hk => ?_)⟩
  · have hk':=old_kept (l:=l) (s:=s) fun b o hb e => hk b o (by simpa using hb) (Nat.ne_of_lt (Heap.lt_size e)) (Heap.get?_push_of_some _ e)
    refine h0 ?_ h' tk hk'
    have:xs.size = 0:=by simpa [intItems] using hz
    have:xs = #[]:=Array.eq_empty_of_size_eq_zero this
    rw [this]
    rfl
  · have hk':=old_kept (l:=l) (s:=s) fun b o hb e => hk b o (by simpa using hb) (Nat.ne_of_lt (Heap.lt_size e)) (Heap.get?_push_of_some _ e)
    have hsz:0 < xs.size:=by simpa [intItems] using hz
    obtain ⟨t,rfl⟩:=intItems_at hP
    obtain ⟨h1,h2⟩:=argBest_lt (numAt xs) (xs.size - 1)
    have hs2:(intItems xs).size - 1 = xs.size - 1:=by simp [intItems]
    rw [hs2]
    refine h h' tk _ t hk' ?_ fun a ha => ?_
    · rw [numAt_eq]; exact PySem.getD_mem (by rw [List.length_map,Array.length_toList]; omega)
    · obtain ⟨j,hj,rfl⟩:=mem_getD ha
      rw [List.length_map,Array.length_toList] at hj
      rw [← numAt_eq]; exact h2 j (by omega)
end
section
variable {prog:Program} {w:World} {A:Around} {R:Result → Shared → Prop} {I:Addr} {fp wr:List Addr} {n:Nat} {P:Nat → Value → Prop} {St:Nat → Heap → Prop} {kw:List (Str × Value)}
theorem d_max_loop (W:Walks prog w A.in1 I fp wr n P St) (bt:Nat → Nat → Bool) (hcmp:CmpOf prog w A.in1 .Gt P bt) (S:Addr) (hSf:S ∉ fp) :
    ∀ (k j:Nat) (s:Shared) (vb:Value) (c:Nat),n - (j + 1) = k → j + 1 ≤ n → St (j + 1) s.heap → P (argBest bt j) vb →
    s.heap.get? S = some { cls:=.type "list",dict:=none,data:=.seq #[vb,vb] c,slots:=#[] } →
    (∀ v h' tk,P (argBest bt (n - 1)) v → (∀ b o,b ∉ wr → b ≠ S → s.heap.get? b = some o → h'.get? b = some o) → R (.ok (.ret v)) { s with heap:=h',toks:=tk }) →
    codeAny (model prog w) A (.builtin "max.loop" ⟨[.ref I,.none,.ref S],kw⟩) R s:=by
  have hSw:S ∉ wr:=fun h => hSf (W.sub _ h)
  have hname:(toString "max" ++ toString ".loop":String) = "max.loop":=by decide
  intro k
  induction k with
  | zero =>
    intro j s vb c hk hj hst hPb hS hR
    have hin:j + 1 = n:=by omega
    refine codeAny_builtin PySem.F.entry_max_loop ?_
    rw [Around.under_plainId PySem.F.plain_max_loop _]
    show wpAny _ A.in1 (seqItems? (.ref S) >>= _) _ _ s
    refine wpAny_bind (wpAny_seqItems hS rfl ?_)
    show wpAny _ A.in1 (tryCatch (pyNext (.ref I)) _ >>= _) _ _ s
    refine wpAny_bind (wpAny_tryCatch (W.done s _ _ (hin ▸ hst) fun h' tk hk' => ?_))
    have hS':=hk' S _ hSw hS
    show wpAny _ A.in1 (updateSeq S (fun _ => #[]) >>= _) _ _ _
    refine wpAny_bind ?_
    refine wpAny_updateSeq hS' rfl (wpAny_bind (wpAny_letGo (wpAny_pure ?_)))
    refine hR vb _ tk (by rw [← hin]; exact hPb) fun b o hbw hbS e => (Heap.get?_update_other _ _ (Ne.symm hbS)).trans (hk' b o hbw e)
  | succ k ih =>
    intro j s vb c hk hj hst hPb hS hR
    have hlt:j + 1 < n:=by omega
    refine codeAny_builtin PySem.F.entry_max_loop ?_
    rw [Around.under_plainId PySem.F.plain_max_loop _]
    show wpAny _ A.in1 (seqItems? (.ref S) >>= _) _ _ s
    refine wpAny_bind (wpAny_seqItems hS rfl ?_)
    show wpAny _ A.in1 (tryCatch (pyNext (.ref I)) _ >>= _) _ _ s
    refine wpAny_bind (wpAny_tryCatch (W.item (j + 1) s _ _ hlt hst fun v h' tk hP hst' hk' => ?_))
    have hS':=hk' S _ hSw hS
    show wpAny _ A.in1 (tryCatch (holding [v,v] (richCompare .Gt v vb >>= _)) _ >>= _) _ _ _
    refine wpAny_bind (wpAny_tryCatch (wpAny_holding (wpAny_bind (hcmp (j + 1) (argBest bt j) v vb _ _ _ hP hPb ?_))))
    refine wpAny_bind (wpAny_holding (wpAny_truthy_bool ?_))
    refine wpAny_bind (wpAny_letGo (wpAny_pure ?_))
    cases hb:bt (j + 1) (argBest bt j) with
    | true =>
      simp only [if_true]
      refine wpAny_bind ?_
      refine wpAny_updateSeq hS' rfl (wpAny_bind (wpAny_letGo ?_))
      rw [hname]
      refine wpAny_pure ⟨plainId_quiet PySem.F.plain_max_loop _,ih (j + 1) _ v _ (by omega) hlt (W.frame _ _ _ hst' fun b hbf o e => ?_) (by simp only [argBest,hb,if_true]; exact hP) (Heap.get?_update_self _ hS' rfl)
        fun v' h'' tk'' hP' hk'' => ?_⟩
      · exact (Heap.get?_update_other _ _ (fun h:S = b => hSf (by rw [h]; exact hbf))).trans e
      · exact hR v' h'' tk'' hP' fun b o hbw hbS e => hk'' b o hbw hbS ((Heap.get?_update_other _ _ (Ne.symm hbS)).trans (hk' b o hbw e))
    | false =>
      simp only [Bool.false_eq_true,if_false]
      refine wpAny_bind (wpAny_letGo ?_)
      rw [hname]
      refine wpAny_pure ⟨plainId_quiet PySem.F.plain_max_loop _,ih (j + 1) _ vb c (by omega) hlt hst' (by simp only [argBest,hb,Bool.false_eq_true,if_false]; exact hPb) hS' fun v' h'' tk'' hP' hk'' => ?_⟩
      exact hR v' h'' tk'' hP' fun b o hbw hbS e => hk'' b o hbw hbS (hk' b o hbw e)
theorem d_max_first {d:Value} {x:Str} (W:Walks prog w A.in1 I fp wr n P St) (bt:Nat → Nat → Bool) (hcmp:CmpOf prog w A.in1 .Gt P bt) (S:Addr) (hSf:S ∉ fp) {s:Shared} {c:Nat} (hst:St 0 s.heap)
    (hS:s.heap.get? S = some { cls:=.type "list",dict:=none,data:=.seq #[] c,slots:=#[] })
    (h0:n = 0 → ∀ h' tk,(∀ b o,b ∉ wr → b ≠ S → s.heap.get? b = some o → h'.get? b = some o) → R (.ok (.ret d)) { s with heap:=h',toks:=tk })
    (hR:0 < n → ∀ v h' tk,P (argBest bt (n - 1)) v → (∀ b o,b ∉ wr → b ≠ S → s.heap.get? b = some o → h'.get? b = some o) → R (.ok (.ret v)) { s with heap:=h',toks:=tk }) :
    codeAny (model prog w) A (.builtin "max.loop" ⟨[.ref I,.none,.ref S],[(x,d)]⟩) R s:=by
  have hSw:S ∉ wr:=fun h => hSf (W.sub _ h)
  have hname:(toString "max" ++ toString ".loop":String) = "max.loop":=by decide
  refine codeAny_builtin PySem.F.entry_max_loop ?_
  rw [Around.under_plainId PySem.F.plain_max_loop _]
  show wpAny _ A.in1 (seqItems? (.ref S) >>= _) _ _ s
  refine wpAny_bind (wpAny_seqItems hS rfl ?_)
  show wpAny _ A.in1 (tryCatch (pyNext (.ref I)) _ >>= _) _ _ s
  by_cases hn:n = 0
  · refine wpAny_bind (wpAny_tryCatch (W.done s _ _ (hn ▸ hst) fun h' tk hk' => ?_))
    exact wpAny_bind (wpAny_rule (wpAny_pure (h0 hn h' tk fun b o hbw hbS e => hk' b o hbw e)))
  have hn':0 < n:=Nat.pos_of_ne_zero hn
  refine wpAny_bind (wpAny_tryCatch (W.item 0 s _ _ hn' hst fun v h' tk hP hst' hk' => ?_))
  have hS':=hk' S _ hSw hS
  show wpAny _ A.in1 (updateSeq S (fun _ => #[v,v]) >>= _) _ _ _
  refine wpAny_bind ?_
  refine wpAny_updateSeq hS' rfl ?_
  rw [hname]
  refine wpAny_pure ⟨plainId_quiet PySem.F.plain_max_loop _,d_max_loop W bt hcmp S hSf _ 0 _ v _ rfl hn' (W.frame _ _ _ hst' fun b hbf o e => ?_) hP (Heap.get?_update_self _ hS' rfl) fun v' h'' tk'' hP' hk'' => ?_⟩
  · exact (Heap.get?_update_other _ _ (fun h:S = b => hSf (by rw [h]; exact hbf))).trans e
  · exact hR hn' v' h'' tk'' hP' fun b o hbw hbS e => hk'' b o hbw hbS ((Heap.get?_update_other _ _ (Ne.symm hbS)).trans (hk' b o hbw e))
theorem d_max_args (a d:Value):argsOk "max" ⟨[a],[(Str.ofString "default",d)]⟩:=by unfold argsOk; kernel_rfl
theorem d_max {E:Value → Shared → Prop} {s:Shared} {l:Addr} {its:List Value} {ns:List Int} {d:Value} {Q:Value → Shared → Prop} (hh:A.handled = none) (hl:s.heap.IsList l its.toArray) (hi:IntsAre its ns)
    (h0:ns = [] → ∀ h' tk,(∀ b o,s.heap.get? b = some o → h'.get? b = some o) → Q d { s with heap:=h',toks:=tk })
    (h:∀ h' tk M t',(∀ b o,s.heap.get? b = some o → h'.get? b = some o) → M ∈ ns → (∀ a,a ∈ ns → a ≤ M) → Q (.int M t') { s with heap:=h',toks:=tk }):wpAny (model prog w) A (call (.builtin "max") [.ref l] [(Str.ofString "default",d)]) Q E s:=by
  obtain ⟨xs,e⟩:=hi.allInts.items
  have hn:numsOf (intItems xs).toList = ns:=by rw [← e]; exact hi.numsOf
  rw [nums_intItems] at hn
  subst hn
  rw [e] at hl
  have hname:(toString "max" ++ toString ".loop":String) = "max.loop":=by decide
  refine PyProof.Rows.kmk_tree PySem.F.kind_max PySem.F.plain_max PySem.F.entry_max (d_max_args _ _) ?_
  show wpAny _ A.in1 (Builtin.Builtins.bindParams "max" ["key","default"] 0 ⟨[],[(Str.ofString "default",d)]⟩ >>= _) _ _ s
  refine wpAny_bind (wpAny_of_eq (show Builtin.Builtins.bindParams "max" ["key","default"] 0 ⟨[],[(Str.ofString "default",d)]⟩ = pure [none,some d] from rfl) ?_)
  refine wpAny_bind (wpAny_pure ?_)
  refine wpAny_bind (iter_intList hl fun s₂ e2 st hfp hlI => ?_)
  subst e2
  have W:=Walks.list (prog:=prog) (w:=w) (A:=A.in1) hh s.heap.objs.size l hlI (intItems xs)
  refine wpAny_bind (wpAny_newObj_type ?_)
  rw [hname]
  have hSf:(s.heap.push { cls:=.type "list_iterator",data:=.fields #[.ref l,.int 0 0] }).objs.size ∉ [s.heap.objs.size,l]:=fun hm => Nat.lt_irrefl _ (hfp _ hm)
  refine wpAny_pure ⟨plainId_quiet PySem.F.plain_max_loop _,d_max_first W (fun i j => decide (numAt xs i > numAt xs j)) (CmpOf.ints_gt (numAt xs) (fun _ _ => intItems_at)) _ hSf (W.frame _ _ _ st fun b _ o e => Heap.get?_push_of_some _ e) (Heap.get?_push_size _ rfl) (fun hz h' tk hk => ?_) (fun hz v h' tk hP hk => ?_)⟩
  · have hk':=old_kept (l:=l) (s:=s) fun b o hb e => hk b o (by simpa using hb) (Nat.ne_of_lt (Heap.lt_size e)) (Heap.get?_push_of_some _ e)
    refine h0 ?_ h' tk hk'
    have:xs.size = 0:=by simpa [intItems] using hz
    have:xs = #[]:=Array.eq_empty_of_size_eq_zero this
    rw [this]
    rfl
  · have hk':=old_kept (l:=l) (s:=s) fun b o hb e => hk b o (by simpa using hb) (Nat.ne_of_lt (Heap.lt_size e)) (Heap.get?_push_of_some _ e)
    have hsz:0 < xs.size:=by simpa [intItems] using hz
    obtain ⟨t,rfl⟩:=intItems_at hP
    obtain ⟨h1,h2⟩:=argBest_gt (numAt xs) (xs.size - 1)
    have hs2:(intItems xs).size - 1 = xs.size - 1:=by simp [intItems]
    rw [hs2]
    refine h h' tk _ t hk' ?_ fun a ha => ?_
    · rw [numAt_eq]; exact PySem.getD_mem (by rw [List.length_map,Array.length_toList]; omega)
    · obtain ⟨j,hj,rfl⟩:=mem_getD ha
      rw [List.length_map,Array.length_toList] at hj
      rw [← numAt_eq]; exact h2 j (by omega)
end
section
variable {X:Cx}
noncomputable def CallKR (X:Cx) (f:Value) (ks:List Str) (r:List V → List V → Hp → VK → Prop):Prop :=
  ∀ (pins:List (Addr × Obj)) (s:Shared) (σ:St) (H:Hp) (xs zs:List V) (us ws:List Value) (Q:VK),Inv X pins σ H s → Vals xs us → Vals zs ws → r xs zs H Q →
    wpAny (model X.prog X.w) X.A (call f us (ks.zip ws)) (EP X pins σ Q) X.xe s
noncomputable def tCBK (r:List V → List V → Hp → VK → Prop) (t tk:TA):TE:=fun σ H Q => t σ H fun vs H1 => tk σ H1 fun zs H2 => r vs zs H2 Q
theorem pe_callBK {x:Str} {p pos:Pos} {e:Expr} {es:List Expr} {kws:List Keyword} {t tk:TA} {id:String} {ks:List Str} {r:List V → List V → Hp → VK → Prop} (hc:CallKR X (.builtin id) ks r) (hg:Gl X x) (hm:X.mg x = none) (hv:bootBuiltins x = some (.builtin id)) (ha:PA X (e :: es) t) (hk:PK X kws tk)
    (hn:x ≠ "__name__":=by decide) (hdb:(x == ("__debug__":Str)) = false:=by decide) (hks:(backToKw pos (keywordEach kws X.env)).filterMap (·.1) = ks:=by rfl)
    (he:backTo pos (starEach (e :: es) X.env) = (false,eval e X.env) :: backTo pos (starEach es X.env):=by rfl)
    (hplain:(backTo pos (starEach (e :: es) X.env)).any (·.1) = false:=by rfl)
    (hall:(backToKw pos (keywordEach kws X.env)).all (·.1.isSome) = true:=by rfl)
    (hkw:(backToKw pos (keywordEach kws X.env)).any (·.1.isNone) = false:=by rfl):PE X (.Call (.Name x p) (e :: es) kws pos) (tCBK r t tk):=by
  intro pins s σ H Q I h
  refine wpAny_Call_Name_kw (ld_blt I hg hm hv ?_ hn hdb)
  refine PyProof.Rows.callWith_kw (thn (ha pos pins s σ H _ I h) fun us s1 ⟨vs,H1,I1,r1,q1⟩ => thn (hk pos pins s1 σ H1 _ I1 q1) fun ws s2 ⟨zs,H2,I2,r2,q2⟩ => ?_) he hplain hall hkw
  rw [hks]
  exact hc pins s2 σ H2 vs zs us ws Q I2 r1 r2 q2
noncomputable def rMinD (K:PySem.W.Frag) (le:Int → Int → Prop):List V → List V → Hp → VK → Prop:=fun vs zs H Q => ∃ (a:Addr) (ns:List Int) (d:V),vs = [V.ref a] ∧ zs = [d] ∧ SqL K H a (ns.map V.int) ∧ (ns = [] → Q d H) ∧ ∀ m,m ∈ ns → (∀ y,y ∈ ns → le m y) → Q (.int m) H
theorem cr_minD (hc:X.calm = true):CallKR X (.builtin "min") [Str.ofString "default"] (rMinD X.K fun m y => m ≤ y):=by
  intro pins s σ H vs zs us ws Q I r rz h
  obtain ⟨a,ns,d,rfl,rfl,hs,q0,q⟩:=h
  obtain ⟨its,rv,hl,_⟩:=I.list hs
  obtain ⟨u,rfl,ru⟩:=vals1 rz
  rw [Vals.ref1 r]
  exact d_min (I.ok.hd hc) hl.isList rv.ints (fun e h' tk hk => ⟨d,H,I.kept hk,ru,q0 e⟩) fun h' tk m t' hk h1 h2 => ⟨.int _,H,I.kept hk,⟨_,rfl⟩,q m h1 h2⟩
theorem cr_maxD (hc:X.calm = true):CallKR X (.builtin "max") [Str.ofString "default"] (rMinD X.K fun m y => y ≤ m):=by
  intro pins s σ H vs zs us ws Q I r rz h
  obtain ⟨a,ns,d,rfl,rfl,hs,q0,q⟩:=h
  obtain ⟨its,rv,hl,_⟩:=I.list hs
  obtain ⟨u,rfl,ru⟩:=vals1 rz
  rw [Vals.ref1 r]
  exact d_max (I.ok.hd hc) hl.isList rv.ints (fun e h' tk hk => ⟨d,H,I.kept hk,ru,q0 e⟩) fun h' tk m t' hk h1 h2 => ⟨.int _,H,I.kept hk,⟨_,rfl⟩,q m h1 h2⟩
noncomputable def intDictIn (K:PySem.W.Frag) (d:Addr):Bool:=match K.lookup d with
  | some ⟨.type "dict",none,.dict es _,sl⟩ => sl.isEmpty && es.toList.all fun e => match e.key with
    | .int i _ => e.hash == hashInt i
    | _ => false
  | _ => false
noncomputable def intDictGet (K:PySem.W.Frag) (d:Addr) (i:Int):Option Value:=match K.lookup d with
  | some ⟨_,_,.dict es _,_⟩ => findBy Value.isInt es i
  | _ => none
theorem intDict_of {K:PySem.W.Frag} {P:Program} {w:World} {h:Heap} {d:Addr} (X:K.In h) (e:intDictIn K d = true):h.MapOf (intKind P w) d (intDictGet K d):=by
  unfold intDictIn at e
  split at e
  · rename_i es n sl ho
    obtain ⟨e1,e⟩:=Bool.and_eq_true_iff.mp e
    have e2:sl = #[]:=Array.isEmpty_iff.mp e1
    refine ⟨_,es,n,X _ _ ho,⟨rfl,rfl,e2⟩,rfl,fun en hen => ?_,fun k => ?_⟩
    · have q:=List.all_eq_true.mp e en (Array.mem_toList_iff.mpr hen)
      split at q
      · rename_i i t hk
        exact ⟨i,by rw [hk]; exact (by simp [intKind,Value.isInt]),beq_iff_eq.mp q⟩
      · cases q
    · unfold intDictGet
      rw [ho]
      rfl
  · cases e
noncomputable def tKDGet (K:PySem.W.Frag) (td ty:TE):TE:=fun σ H Q => td σ H fun x H1 => ty σ H1 fun y H2 => ∃ d i v u,x = .ref d ∧ y = .int i ∧ intDictIn K d = true ∧ intDictGet K d i = some u ∧ RelV v u ∧ Q v H2
theorem pe_kdget {o i:Expr} {td ty:TE} {pos:Pos} (ho:PE X o td) (hi:PE X i ty) (hs:NoSl i):PE X (.Subscript o i pos) (tKDGet X.K td ty):=by
  intro pins s σ H Q I h
  refine subD_of PySem.F.slot_dict_getitem.lookup hs (thn (ho pins s σ H _ I h) fun u s1 ⟨x,H1,I1,rx,q1⟩ => thn (hi pins s1 σ H1 _ I1 q1) fun iv s2 ⟨y,H2,I2,ry,d,n,v,w',ex,ey,g1,g2,rv,q2⟩ => ?_)
  subst ex ey
  obtain rfl:u = Value.ref d:=rx
  obtain ⟨t,rfl⟩:=(show ∃ t,iv = Value.int n t from ry)
  have M:=intDict_of (P:=X.prog) (w:=X.w) I2.kIn g1
  exact ⟨M.typeIs,wpAny_getItem_of (knd:=intKind X.prog X.w) (by simp [intKind,Value.isInt]) M g2 ⟨v,H2,I2.tok _,rv,q2⟩⟩
noncomputable def tCallV (te:TE) (R:Addr → Sp → Prop) (E:XK) (t:TA):TE:=fun σ H Q => te σ H fun x H1 => ∃ f sp,x = .ref f ∧ R f sp ∧ t σ H1 fun vs H2 => sp vs H2 Q E
theorem pe_callV {CX:CXT} {k:Nat} {R:Addr → Sp → Prop} {E:XK} {pos:Pos} {fe e:Expr} {es:List Expr} {te:TE} {t:TA} (hf:PE X fe te)
    (F:∀ f sp,R f sp → PySem.W.keepIn X.K (.ref f) = true ∧ ∃ fd ps,FnOk X.prog X.w X.K X.mg X.base CX k f fd ps sp ∧ Binds X.K fd ps []) (hr:Room k X.A) (hx:Passes CX X E) (ha:PA X (e :: es) t)
    (hev:eval (.Call fe (e :: es) [] pos) X.env = (do callWith pos (← eval fe X.env) [] (backTo pos (starEach (e :: es) X.env)) (backToKw pos (keywordEach [] X.env))):=by rfl)
    (he:starEach (e :: es) X.env = (false,eval e X.env) :: starEach es X.env:=by rfl) (hpl:(backTo pos (starEach es X.env)).any (·.1) = false:=by rfl) :
    PE X (.Call fe (e :: es) [] pos) (tCallV te R E t):=by
  intro pins s σ H Q I h
  rw [hev]
  refine wpAny_bind (thn (hf pins s σ H _ I h) fun u s1 ⟨x,H1,I1,rx,f,sp,ex,hR,q1⟩ => ?_)
  subst ex
  obtain rfl:u = Value.ref f:=rx
  obtain ⟨hk,fd,ps,Fn,hb⟩:=F f sp hR
  refine PySem.W.callWith_K (h₀:=X.base) I.ok.mod.kin hk (thn (ha pos pins s1 σ H1 _ I1 q1) fun us s2 ⟨vs,H2,I2,r,q⟩ => ⟨I2.kIn,?_⟩) he hpl
  exact run_fn (dvs:=[]) (ds:=[]) Fn hr hb .nil hx I2 r (by rw [List.append_nil]; exact q)
end
end L2
namespace L2
open PySem PySem.Spec PyProof.Rows
section
variable {X:Cx}
theorem get_list:PGet X (fun x y H Q => ∃ p xs j v,x = .ref p ∧ y = .int ((j:Nat):Int) ∧ SqL X.K H p xs ∧ xs[j]? = some v ∧ Q v H):=by
  intro pins s σ H x y v u Q I rx ry h
  obtain ⟨p,xs,j,z,rfl,rfl,hq,he,q⟩:=h
  cases rx
  obtain ⟨t,rfl⟩:=ry
  obtain ⟨its,r,pl,hz⟩:=I.list hq
  obtain ⟨w,ew,rw'⟩:=r.get he
  have hl:=r.length
  have hn:=line63
  have hj:=(List.getElem?_eq_some_iff.mp he).1
  exact wpAny_getItem_list pl.isList (by omega) (by omega) (by simpa using ew) ⟨z,H,I,rw',q⟩
end
theorem lc_enum {K:PySem.W.Frag} {a:Addr} {xs:List V} {g:TG} {tt:TT} {te:TE} {vs:List Nat} {σ:St} {H1:Hp} {D:Addr} {Qd:Hp → Prop} (Pv:Nat → Hp → Prop) (h0:Pv 0 (upd H1 D (.lst []))) (hl:∀ i H,i ≤ xs.length → Pv i H → SqL K H a xs)
    (hs:∀ i x H T,xs[i]? = some x → Pv i H → H T = none → g (.ref T) (wipe σ vs) (upd H T (.tup [.int (i:Nat),x])) fun σ2 H2 => wipe σ2 vs = wipe σ vs ∧ tt σ2 H2 fun b H3 =>
      if b = true then te σ2 H3 fun y H4 => ∃ acc,H4 D = some (.lst acc) ∧ acc.length < sizeLine ∧ Pv (i + 1) (upd H4 D (.lst (acc ++ [y]))) else Pv (i + 1) H3) (hd:∀ H,Pv xs.length H → Qd H) :
    ∃ W:Nat → Nat → Hp → Prop,(∃ m,W 0 m (upd H1 D (.lst []))) ∧ ∀ i m H,W i m H →
      ((Ite K a).stop i H ∧ Qd H) ∨ ((Ite K a).go i H ∧ ∃ Nx:Hp → Prop,(∀ H',Nx H' → ∃ m',m' < m ∧ W (i + 1) m' H') ∧ ∀ x H',(Ite K a).yld i H x H' → g x (wipe σ vs) H' fun σ2 H2 => wipe σ2 vs = wipe σ vs ∧ tt σ2 H2 fun b H3 =>
        if b = true then te σ2 H3 fun y H4 => ∃ acc,H4 D = some (.lst acc) ∧ acc.length < sizeLine ∧ Nx (upd H4 D (.lst (acc ++ [y]))) else Nx H3):=by
  refine ⟨fun i m H => m = xs.length - i ∧ i ≤ xs.length ∧ Pv i H,⟨xs.length,by simp,Nat.zero_le _,h0⟩,?_⟩
  rintro i m H ⟨rfl,hi,p⟩
  have q:=hl i H hi p
  by_cases hlt:i < xs.length
  · refine .inr ⟨⟨xs,xs[i],q,by simp [hlt]⟩,Pv (i + 1),fun H' p' => ⟨xs.length - (i + 1),by omega,rfl,hlt,p'⟩,fun v H' y => ?_⟩
    obtain ⟨T,x,rfl,hT,rfl,hx⟩:=y
    exact hs i x H T (hx xs q) p hT
  · have e:i = xs.length:=by omega
    subst e
    exact .inl ⟨⟨xs,q,Nat.le_refl _⟩,hd H p⟩
theorem lc_rangeC {lo c:Int} {n:Nat} {g:TG} {tt:TT} {te:TE} {vs:List Nat} {σ:St} {H1:Hp} {D:Addr} {Qd:Hp → Prop} (Pv:Nat → Hp → Prop) (h0:Pv 0 (upd H1 D (.lst [])))
    (hs:∀ i H,i < n → Pv i H → g (.int (lo + (i:Nat) * c)) (wipe σ vs) H fun σ2 H2 => wipe σ2 vs = wipe σ vs ∧ tt σ2 H2 fun b H3 =>
      if b = true then te σ2 H3 fun y H4 => ∃ acc,H4 D = some (.lst acc) ∧ acc.length < sizeLine ∧ Pv (i + 1) (upd H4 D (.lst (acc ++ [y]))) else Pv (i + 1) H3) (hd:∀ H,Pv n H → Qd H) :
    ∃ W:Nat → Nat → Hp → Prop,(∃ m,W 0 m (upd H1 D (.lst []))) ∧ ∀ i m H,W i m H →
      ((Itc lo c n).stop i H ∧ Qd H) ∨ ((Itc lo c n).go i H ∧ ∃ Nx:Hp → Prop,(∀ H',Nx H' → ∃ m',m' < m ∧ W (i + 1) m' H') ∧ ∀ x H',(Itc lo c n).yld i H x H' → g x (wipe σ vs) H' fun σ2 H2 => wipe σ2 vs = wipe σ vs ∧ tt σ2 H2 fun b H3 =>
        if b = true then te σ2 H3 fun y H4 => ∃ acc,H4 D = some (.lst acc) ∧ acc.length < sizeLine ∧ Nx (upd H4 D (.lst (acc ++ [y]))) else Nx H3):=by
  refine ⟨fun i m H => m = n - i ∧ i ≤ n ∧ Pv i H,⟨n,by simp,Nat.zero_le _,h0⟩,?_⟩
  rintro i m H ⟨rfl,hi,p⟩
  by_cases hlt:i < n
  · refine .inr ⟨hlt,Pv (i + 1),fun H' p' => ⟨n - (i + 1),by omega,rfl,hlt,p'⟩,fun x H' y => ?_⟩
    obtain ⟨e,y⟩:=y
    subst e y
    exact hs i _ hlt p
  · have e:i = n:=by omega
    subst e
    exact .inl ⟨Nat.le_refl _,hd H p⟩
theorem for_rev {K:PySem.W.Frag} {a:Addr} {xs:List V} {g:TG} {tb:TS} {D:Ends} {σ:St} {H:Hp} (Pv:Nat → St → Hp → Prop) (h0:Pv 0 σ H) (hl:∀ i σ H,i ≤ xs.length → Pv i σ H → SqL K H a xs)
    (hs:∀ i x σ H,xs[xs.length - 1 - i]? = some x → i < xs.length → Pv i σ H → g x σ H fun σ2 H2 => tb { D with nx:=Pv (i + 1),ct:=Pv (i + 1),bk:=D.nx } σ2 H2) (hd:∀ σ H,Pv xs.length σ H → D.nx σ H) :
    ∃ W:Nat → Nat → St → Hp → Prop,(∃ m,W 0 m σ H) ∧ ∀ i m σ H,W i m σ H →
      ((Itv K a xs.length).stop i H ∧ D.nx σ H) ∨ ((Itv K a xs.length).go i H ∧ ∃ N:St → Hp → Prop,(∀ σ' H',N σ' H' → ∃ m',m' < m ∧ W (i + 1) m' σ' H') ∧ ∀ x H',(Itv K a xs.length).yld i H x H' → g x σ H' fun σ2 H2 => tb { D with nx:=N,ct:=N,bk:=D.nx } σ2 H2):=by
  refine ⟨fun i m σ H => m = xs.length - i ∧ i ≤ xs.length ∧ Pv i σ H,⟨xs.length,by simp,Nat.zero_le _,h0⟩,?_⟩
  rintro i m σ H ⟨rfl,hi,p⟩
  have q:=hl i σ H hi p
  by_cases hlt:i < xs.length
  · have hx:xs[xs.length - 1 - i]? = some (xs[xs.length - 1 - i]'(by omega)):=List.getElem?_eq_getElem _
    refine .inr ⟨⟨hlt,xs,_,q,hx⟩,Pv (i + 1),fun σ' H' p' => ⟨xs.length - (i + 1),by omega,rfl,hlt,p'⟩,fun x H' y => ?_⟩
    obtain ⟨e,y⟩:=y
    subst e
    exact hs i x σ _ (y xs q) hlt p
  · have e:i = xs.length:=by omega
    subst e
    exact .inl ⟨Nat.le_refl _,hd σ H p⟩
theorem rg3 {n:Nat} (h:n < 100000):RgC 0 (n:Int) 3 ((n + 2) / 3):=by
  have e:Builtin.Range.rangeSize 0 (n:Int) 3 = (((n + 2) / 3:Nat):Int):=by
    rw [show Builtin.Range.rangeSize 0 (n:Int) 3 = if (0:Int) < n then ((n:Int) - 0 - 1) / 3 + 1 else 0 from rfl]
    split <;> omega
  refine ⟨by decide,by decide,?_,e⟩
  unfold Builtin.Range.small
  rw [e]
  have hm:(n + 2) / 3 ≤ 40000:=by omega
  generalize (n + 2) / 3 = m at hm
  have hn:((n:Nat):Int) < 100000:=by omega
  have hn0:(0:Int) ≤ ((n:Nat):Int):=by omega
  generalize ((n:Nat):Int) = b at hn hn0
  have hm2:((m:Nat):Int) ≤ 40000:=by omega
  have hm0:(0:Int) ≤ ((m:Nat):Int):=by omega
  generalize ((m:Nat):Int) = c at hm2 hm0
  clear e h hm
  have f:∀ i:Int,-100000 ≤ i → i ≤ 1000000 → Builtin.Range.rangeFitsLong i = true:=fun i h1 h2 => by
    unfold Builtin.Range.rangeFitsLong
    rw [Bool.and_eq_true]
    exact ⟨decide_eq_true (by omega),decide_eq_true (by omega)⟩
  rw [f 0 (by omega) (by omega),f b (by omega) (by omega),f 3 (by omega) (by omega),f c (by omega) (by omega),if_pos (show (3:Int) > 0 by omega),f _ (show -100000 ≤ b + (3 - 1) by omega) (show b + (3 - 1) ≤ 1000000 by omega)]
  simp
end L2
section
namespace L2
open PySem PySem.Spec PyProof.Rows
open PySem.W (WData Codec OpenSpec Well WellAll ReadsW ReadsAllW)
mutual
inductive Dw (K:PySem.W.Frag) (H:Hp):V → WData → Prop
  | non:Dw K H .non .none
  | bl (b:Bool):Dw K H (.bl b) (.bool b)
  | int (i:Int):Dw K H (.int i) (.int i)
  | str (x:Str):Dw K H (.str x) (.str x)
  | byt (b:Array UInt8):Dw K H (.byt b) (.bytes b.toList)
  | lst {a:Addr} {xs:List V} {ds:List WData}:SqL K H a xs → DwAll K H xs ds → Dw K H (.ref a) (.list ds)
  | tup {a:Addr} {xs:List V} {ds:List WData}:SqT K H a xs → DwAll K H xs ds → Dw K H (.ref a) (.tuple ds)
inductive DwAll (K:PySem.W.Frag) (H:Hp):List V → List WData → Prop
  | nil:DwAll K H [] []
  | cons {v:V} {vs:List V} {d:WData} {ds:List WData}:Dw K H v d → DwAll K H vs ds → DwAll K H (v :: vs) (d :: ds)
end
theorem dw_ints {K:PySem.W.Frag} {H:Hp}:∀ ns:List Int,DwAll K H (ns.map V.int) (ns.map WData.int)
  | [] => .nil
  | n :: r => .cons (.int n) (dw_ints r)
theorem ints_dw {K:PySem.W.Frag} {H:Hp}:∀ (ns:List Int) (xs:List V),DwAll K H xs (ns.map WData.int) → xs = ns.map V.int
  | [],xs,h => by
    cases h
    rfl
  | n :: r,xs,h => by
    cases h with
    | cons h1 h2 =>
      cases h1
      rw [ints_dw r _ h2] <;> rfl
section
variable {P:Program} {w:World} {K:PySem.W.Frag} {H:Hp} {h:Heap} {R:PySem.W.WRecords} {cl:Str → Option Addr}
theorem sqL_at {a:Addr} {xs:List V} (hok:HOk P w H h) (KX:K.In h) (q:SqL K H a xs):∃ (its:List Value) (o:Obj) (n:Nat),Vals xs its ∧ h.get? a = some o ∧ o.cls = .type "list" ∧ o.data = .seq its.toArray n:=by
  rcases q with q | ⟨o,its,n,e,hc,_,hd,_,hv⟩
  · obtain ⟨_,its,n,hv,e⟩:=(show ObjOk P w H h a (.lst xs) from q.ok hok)
    exact ⟨its,_,n,hv,e,rfl,rfl⟩
  · exact ⟨its.toList,o,n,hv,KX _ _ e,hc,by simp [hd]⟩
theorem sqT_at {a:Addr} {xs:List V} (hok:HOk P w H h) (KX:K.In h) (q:SqT K H a xs):∃ (its:List Value) (o:Obj) (n:Nat),Vals xs its ∧ h.get? a = some o ∧ o.cls = .type "tuple" ∧ o.data = .seq its.toArray n:=by
  rcases q with q | ⟨o,its,n,e,hc,hd,_,hv⟩
  · obtain ⟨_,its,hv,o,e,hc,n,hd⟩:=(show ObjOk P w H h a (.tup xs) from q.ok hok)
    exact ⟨its,o,n,hv,e,hc,hd⟩
  · exact ⟨its.toList,o,n,hv,KX _ _ e,hc,by simp [hd]⟩
mutual
theorem Dw.reads (hok:HOk P w H h) (KX:K.In h):∀ (d:WData) (v:V) (u:Value),Dw K H v d → RelV v u → ∃ as,ReadsW R cl h u d as
  | .none,_,_,x,r => by
    cases x
    cases r
    exact ⟨_,ReadsW.none⟩
  | .bool b,_,_,x,r => by
    cases x
    cases r
    exact ⟨_,ReadsW.bool b⟩
  | .int i,_,_,x,r => by
    cases x
    obtain ⟨t,rfl⟩:=r
    exact ⟨_,ReadsW.int i t⟩
  | .str s,_,_,x,r => by
    cases x
    obtain ⟨t,rfl⟩:=r
    exact ⟨_,ReadsW.str s t⟩
  | .bytes b,_,_,x,r => by
    cases x
    obtain ⟨t,rfl⟩:=r
    exact ⟨_,ReadsW.bytes _ t⟩
  | .list ds,_,_,x,r => by
    cases x with
    | lst hs ha =>
      cases r
      obtain ⟨its,o,n,rv,ho,hc,hd⟩:=sqL_at hok KX hs
      obtain ⟨as,hr⟩:=Dw.readsAll hok KX ds _ its ha rv
      exact ⟨_,ReadsW.list ho hc hd hr⟩
  | .tuple ds,_,_,x,r => by
    cases x with
    | tup hs ha =>
      cases r
      obtain ⟨its,o,n,rv,ho,hc,hd⟩:=sqT_at hok KX hs
      obtain ⟨as,hr⟩:=Dw.readsAll hok KX ds _ its ha rv
      exact ⟨_,ReadsW.tuple ho hc hd hr⟩
  | .float _,_,_,x,_ => by cases x
  | .dict _,_,_,x,_ => by cases x
  | .bytearray _,_,_,x,_ => by cases x
  | .set _,_,_,x,_ => by cases x
  | .frozenset _,_,_,x,_ => by cases x
  | .obj _ _,_,_,x,_ => by cases x
theorem Dw.readsAll (hok:HOk P w H h) (KX:K.In h):∀ (ds:List WData) (vs:List V) (us:List Value),DwAll K H vs ds → Vals vs us → ∃ as,ReadsAllW R cl h us ds as
  | [],_,_,x,r => by
    cases x
    cases r
    exact ⟨_,ReadsAllW.nil⟩
  | d :: ds,_,_,x,r => by
    cases x with
    | cons h1 h2 =>
      cases r with
      | cons r1 r2 =>
        obtain ⟨as,q1⟩:=Dw.reads hok KX d _ _ h1 r1
        obtain ⟨bs,q2⟩:=Dw.readsAll hok KX ds _ _ h2 r2
        exact ⟨_,ReadsAllW.cons q1 q2⟩
end
end
mutual
noncomputable def plW:WData → Bool
  | .none => true
  | .bool _ => true
  | .int _ => true
  | .str _ => true
  | .bytes _ => true
  | .list xs => plWs xs
  | .tuple xs => plWs xs
  | _ => false
noncomputable def plWs:List WData → Bool
  | [] => true
  | x :: r => plW x && plWs r
end
theorem plWs_map {α:Type} {f:α → WData} (h:∀ a,plW (f a) = true):∀ l:List α,plWs (l.map f) = true
  | [] => rfl
  | x :: r => by
    show (plW (f x) && plWs (r.map f)) = true
    rw [h x,plWs_map h r] <;> rfl
theorem pl_enc:∀ (c:Codec) (a:c.denote),plW (c.enc a) = true
  | .unit,_ => rfl
  | .bool,_ => rfl
  | .int _ _,_ => rfl
  | .nat _ _,_ => rfl
  | .u8,_ => rfl
  | .bytes _ _,_ => rfl
  | .text _ _ _ _,_ => rfl
  | .list _ _ c,a => plWs_map (fun x => pl_enc c x) a
  | .pair c d,a => by
    show (plW (c.enc a.1) && (plW (d.enc a.2) && true)) = true
    rw [pl_enc c a.1,pl_enc d a.2] <;> rfl
  | .triple c d e,a => by
    show (plW (c.enc a.1) && (plW (d.enc a.2.1) && (plW (e.enc a.2.2) && true))) = true
    rw [pl_enc c a.1,pl_enc d a.2.1,pl_enc e a.2.2] <;> rfl
  | .option c,none => rfl
  | .option c,some x => pl_enc c x
theorem pl_encAll:∀ (cs:List Codec) (a:Codec.denoteAll cs),plWs (Codec.encAll cs a) = true
  | [],_ => rfl
  | c :: cs,a => by
    show (plW (c.enc a.1) && plWs (Codec.encAll cs a.2)) = true
    rw [pl_enc c a.1,pl_encAll cs a.2] <;> rfl
theorem weight_mem:∀ {xs:List WData} {d:WData},d ∈ xs → d.weight ≤ WData.weightAll xs
  | [],d,h => absurd h (by simp)
  | x :: r,d,h => by
    show d.weight ≤ x.weight + 1 + WData.weightAll r
    rcases List.mem_cons.mp h with e | m
    · rw [e]
      omega
    · have z:=weight_mem m
      omega
noncomputable def toV:Value → V
  | .none => .non
  | .bool b => .bl b
  | .int i _ => .int i
  | .str x _ => .str x
  | .bytes b _ => .byt b
  | .ref a => .ref a
  | _ => .non
noncomputable def OkU (A:List Addr):Value → Prop
  | .none => True
  | .bool _ => True
  | .int _ _ => True
  | .str _ _ => True
  | .bytes _ _ => True
  | .ref a => a ∈ A
  | _ => False
theorem OkU.mono {A B:List Addr} (h:∀ a ∈ A,a ∈ B):∀ {u:Value},OkU A u → OkU B u:=fun {u} x => by
  cases u with
  | ref a => exact h a x
  | none => trivial
  | bool b => trivial
  | int i t => trivial
  | str s t => trivial
  | bytes b t => trivial
  | _ => exact False.elim x
theorem relV_toV {A:List Addr} {u:Value} (x:OkU A u):RelV (toV u) u:=by
  cases u with
  | ref a => rfl
  | none => rfl
  | bool b => rfl
  | int i t => exact ⟨t,rfl⟩
  | str s t => exact ⟨t,rfl⟩
  | bytes b t => exact ⟨t,rfl⟩
  | _ => exact False.elim x
theorem vals_toV {A:List Addr}:∀ {vs:List Value},(∀ u ∈ vs,OkU A u) → Vals (vs.map toV) vs
  | [],_ => .nil
  | u :: r,h => .cons (relV_toV (h u (List.mem_cons_self ..))) (vals_toV fun x hx => h x (List.mem_cons_of_mem _ hx))
noncomputable def ArgOb (h:Heap) (A:List Addr) (a:Addr):Prop:=∃ vs:List Value,vs.length ≤ sizeLine ∧ (∀ u ∈ vs,OkU A u) ∧
  (h.get? a = some { cls:=.type "list",data:=.seq vs.toArray } ∨ h.get? a = some { cls:=.type "tuple",data:=.seq vs.toArray })
theorem ArgOb.mono {h:Heap} {A B:List Addr} {a:Addr} (k:∀ a ∈ A,a ∈ B) (x:ArgOb h A a):ArgOb h B a:=by
  obtain ⟨vs,h1,h2,h3⟩:=x
  exact ⟨vs,h1,fun u hu => (h2 u hu).mono k,h3⟩
theorem wellAll_len {P:Params} {h:Heap}:∀ {vs:List Value} {ds:List WData},WellAll P h vs ds → vs.length = ds.length
  | _,_,.nil => rfl
  | _,_,.cons _ b => by
    show _ + 1 = _ + 1
    rw [wellAll_len b]
theorem well_list {P:Params} {h:Heap} {v:Value} {ds:List WData} (x:Well P h v (.list ds)):∃ (a:Addr) (vs:List Value),v = .ref a ∧ h.get? a = some { cls:=.type "list",data:=.seq vs.toArray } ∧ WellAll P h vs ds:=by
  cases x with
  | list ho hall => exact ⟨_,_,rfl,ho,hall⟩
theorem well_tuple {P:Params} {h:Heap} {v:Value} {ds:List WData} (x:Well P h v (.tuple ds)):∃ (a:Addr) (vs:List Value),v = .ref a ∧ h.get? a = some { cls:=.type "tuple",data:=.seq vs.toArray } ∧ WellAll P h vs ds:=by
  cases x with
  | tuple ho hall => exact ⟨_,_,rfl,ho,hall⟩
theorem well_cons {P:Params} {h:Heap} {us:List Value} {d:WData} {ds:List WData} (x:WellAll P h us (d :: ds)):∃ (v:Value) (vs:List Value),us = v :: vs ∧ Well P h v d ∧ WellAll P h vs ds:=by
  cases x with
  | cons a b => exact ⟨_,_,rfl,a,b⟩
theorem line_of {n:Nat} (h:n ≤ 1048576):n ≤ sizeLine:=Nat.le_trans h (by decide)
section
variable {P:Params} {h:Heap}
mutual
theorem area_one:∀ (d:WData) (v:Value),Well P h v d → plW d = true → d.weight ≤ 1048576 → ∃ A:List Addr,OkU A v ∧ ∀ a ∈ A,ArgOb h A a
  | .none,_,x,_,_ => by
    cases x
    exact ⟨[],trivial,fun a m => absurd m (by simp)⟩
  | .bool b,_,x,_,_ => by
    cases x
    exact ⟨[],trivial,fun a m => absurd m (by simp)⟩
  | .int i,_,x,_,_ => by
    cases x
    exact ⟨[],trivial,fun a m => absurd m (by simp)⟩
  | .str s,_,x,_,_ => by
    cases x
    exact ⟨[],trivial,fun a m => absurd m (by simp)⟩
  | .bytes b,_,x,_,_ => by
    cases x
    exact ⟨[],trivial,fun a m => absurd m (by simp)⟩
  | .list ds,_,x,p,z => by
    obtain ⟨a,vs,rfl,ho,hall⟩:=well_list x
    have z2:WData.weightAll ds ≤ 1048576:=z
    obtain ⟨A,h1,h2⟩:=area_all ds _ hall p fun d hd => Nat.le_trans (weight_mem hd) z2
    have k:∀ b ∈ A,b ∈ a :: A:=fun b hb => List.mem_cons_of_mem _ hb
    refine ⟨a :: A,List.mem_cons_self ..,fun b hb => ?_⟩
    rcases List.mem_cons.mp hb with e | m
    · rw [e]
      exact ⟨vs,line_of (by rw [wellAll_len hall]; exact Nat.le_trans (PySem.W.length_le_weightAllW ds) z2),fun u hu => (h1 u hu).mono k,.inl ho⟩
    · exact (h2 b m).mono k
  | .tuple ds,_,x,p,z => by
    obtain ⟨a,vs,rfl,ho,hall⟩:=well_tuple x
    have z2:WData.weightAll ds ≤ 1048576:=z
    obtain ⟨A,h1,h2⟩:=area_all ds _ hall p fun d hd => Nat.le_trans (weight_mem hd) z2
    have k:∀ b ∈ A,b ∈ a :: A:=fun b hb => List.mem_cons_of_mem _ hb
    refine ⟨a :: A,List.mem_cons_self ..,fun b hb => ?_⟩
    rcases List.mem_cons.mp hb with e | m
    · rw [e]
      exact ⟨vs,line_of (by rw [wellAll_len hall]; exact Nat.le_trans (PySem.W.length_le_weightAllW ds) z2),fun u hu => (h1 u hu).mono k,.inr ho⟩
    · exact (h2 b m).mono k
  | .float _,_,_,p,_ => Bool.noConfusion (show false = true from p)
  | .dict _,_,_,p,_ => Bool.noConfusion (show false = true from p)
  | .bytearray _,_,_,p,_ => Bool.noConfusion (show false = true from p)
  | .set _,_,_,p,_ => Bool.noConfusion (show false = true from p)
  | .frozenset _,_,_,p,_ => Bool.noConfusion (show false = true from p)
  | .obj _ _,_,_,p,_ => Bool.noConfusion (show false = true from p)
theorem area_all:∀ (ds:List WData) (vs:List Value),WellAll P h vs ds → plWs ds = true → (∀ d ∈ ds,d.weight ≤ 1048576) → ∃ A:List Addr,(∀ u ∈ vs,OkU A u) ∧ ∀ a ∈ A,ArgOb h A a
  | [],_,x,_,_ => by
    cases x
    exact ⟨[],fun u m => absurd m (by simp),fun a m => absurd m (by simp)⟩
  | d :: ds,_,x,p,z => by
    obtain ⟨v,vs,rfl,x1,x2⟩:=well_cons x
    have q:plW d = true ∧ plWs ds = true:=Bool.and_eq_true_iff.mp p
    obtain ⟨A,a1,a2⟩:=area_one d v x1 q.1 (z d (List.mem_cons_self ..))
    obtain ⟨B,b1,b2⟩:=area_all ds vs x2 q.2 fun e he => z e (List.mem_cons_of_mem _ he)
    have kA:∀ b ∈ A,b ∈ A ++ B:=fun b hb => List.mem_append.mpr (.inl hb)
    have kB:∀ b ∈ B,b ∈ A ++ B:=fun b hb => List.mem_append.mpr (.inr hb)
    refine ⟨A ++ B,fun u hu => ?_,fun b hb => ?_⟩
    · rcases List.mem_cons.mp hu with e | m
      · rw [e]
        exact a1.mono kA
      · exact (b1 u m).mono kB
    · rcases List.mem_append.mp hb with m | m
      · exact (a2 b m).mono kA
      · exact (b2 b m).mono kB
end
end
noncomputable def hoOf (o:Obj):Option HO:=match o.data with
  | .seq vs _ => if (o.cls == Value.type "list") = true then some (.frz o (.lst (vs.toList.map toV))) else some (.frz o (.tup (vs.toList.map toV)))
  | _ => none
noncomputable def argH (K:PySem.W.Frag) (h:Heap) (A:List Addr):Hp:=fun b => if b ∈ A then (if (K.lookup b).isNone = true then (h.get? b).bind hoOf else none) else none
noncomputable def OnlyF (H:Hp):Prop:=∀ b,H b = none ∨ ∃ o u,H b = some (.frz o u)
theorem hoOf_lst (vs:List Value):hoOf { cls:=.type "list",data:=.seq vs.toArray } = some (.frz { cls:=.type "list",data:=.seq vs.toArray } (.lst (vs.map toV))):=by
  show (if (Value.type "list" == Value.type "list") = true then some (HO.frz { cls:=.type "list",data:=.seq vs.toArray } (.lst (vs.toArray.toList.map toV))) else some (HO.frz { cls:=.type "list",data:=.seq vs.toArray } (.tup (vs.toArray.toList.map toV)))) = _
  rw [if_pos (beq_self_eq_true _)]
theorem hoOf_tup (vs:List Value):hoOf { cls:=.type "tuple",data:=.seq vs.toArray } = some (.frz { cls:=.type "tuple",data:=.seq vs.toArray } (.tup (vs.map toV))):=by
  show (if (Value.type "tuple" == Value.type "list") = true then some (HO.frz { cls:=.type "tuple",data:=.seq vs.toArray } (.lst (vs.toArray.toList.map toV))) else some (HO.frz { cls:=.type "tuple",data:=.seq vs.toArray } (.tup (vs.toArray.toList.map toV)))) = _
  rw [if_neg (by decide)]
section
variable {P:Program} {w:World} {K:PySem.W.Frag} {h:Heap} {A:List Addr}
theorem argH_at {b:Addr} {o:Obj} (hb:b ∈ A) (hk:K.lookup b = none) (e:h.get? b = some o):argH K h A b = hoOf o:=by
  unfold argH
  rw [if_pos hb,hk,if_pos (show (none:Option Obj).isNone = true from rfl),e] <;> rfl
theorem of_argH {b:Addr} {u:HO} (q:argH K h A b = some u):b ∈ A ∧ K.lookup b = none:=by
  unfold argH at q
  by_cases hb:b ∈ A
  · rw [if_pos hb] at q
    cases hk:K.lookup b with
    | none => exact ⟨hb,rfl⟩
    | some o =>
      rw [hk,if_neg (by simp)] at q
      cases q
  · rw [if_neg hb] at q
    cases q
theorem argH_is (ar:∀ a ∈ A,ArgOb h A a) {b:Addr} {u:HO} (q:argH K h A b = some u):K.lookup b = none ∧ ∃ vs:List Value,vs.length ≤ sizeLine ∧ (∀ u ∈ vs,OkU A u) ∧
    ((h.get? b = some { cls:=.type "list",data:=.seq vs.toArray } ∧ u = .frz { cls:=.type "list",data:=.seq vs.toArray } (.lst (vs.map toV))) ∨
     (h.get? b = some { cls:=.type "tuple",data:=.seq vs.toArray } ∧ u = .frz { cls:=.type "tuple",data:=.seq vs.toArray } (.tup (vs.map toV)))):=by
  obtain ⟨hb,hk⟩:=of_argH q
  obtain ⟨vs,h1,h2,h3⟩:=ar b hb
  refine ⟨hk,vs,h1,h2,?_⟩
  rcases h3 with e | e
  · rw [argH_at hb hk e,hoOf_lst] at q
    exact .inl ⟨e,(Option.some.inj q).symm⟩
  · rw [argH_at hb hk e,hoOf_tup] at q
    exact .inr ⟨e,(Option.some.inj q).symm⟩
theorem argH_only (ar:∀ a ∈ A,ArgOb h A a):OnlyF (argH K h A):=fun b => by
  cases q:argH K h A b with
  | none => exact .inl rfl
  | some u =>
    obtain ⟨_,vs,_,_,⟨_,e⟩ | ⟨_,e⟩⟩:=argH_is ar q
    · exact .inr ⟨_,_,by rw [e]⟩
    · exact .inr ⟨_,_,by rw [e]⟩
theorem argH_ok (ar:∀ a ∈ A,ArgOb h A a):HOk P w (argH K h A) h:=fun b u q => by
  obtain ⟨_,vs,h1,h2,⟨e,rfl⟩ | ⟨e,rfl⟩⟩:=argH_is ar q
  · exact ⟨e,by rw [List.length_map]; exact h1,vs,_,vals_toV h2,e⟩
  · exact ⟨e,by rw [List.length_map]; exact h1,vs,vals_toV h2,_,e,rfl,_,rfl⟩
theorem seq_inj {c c':Value} {vs us:List Value} (e:(some { cls:=c,data:=.seq vs.toArray }:Option Obj) = some { cls:=c',data:=.seq us.toArray }):c = c' ∧ vs = us:=by
  have e1:=Option.some.inj e
  have e2:c = c':=congrArg Obj.cls e1
  have e3:Data.seq vs.toArray = Data.seq us.toArray:=congrArg Obj.data e1
  injection e3 with e4
  refine ⟨e2,?_⟩
  have e5:=congrArg Array.toList e4
  simpa using e5
theorem argL (KX:K.In h) (ar:∀ a ∈ A,ArgOb h A a) {a:Addr} {vs:List Value} (ha:a ∈ A) (e:h.get? a = some { cls:=.type "list",data:=.seq vs.toArray }):(∀ u ∈ vs,OkU A u) ∧ SqL K (argH K h A) a (vs.map toV):=by
  obtain ⟨us,h1,h2,h3⟩:=ar a ha
  have hu:us = vs:=by
    rcases h3 with q | q
    · rw [e] at q
      exact (seq_inj q).2.symm
    · rw [e] at q
      exact absurd (Value.type.inj (seq_inj q).1) (by decide)
  subst hu
  refine ⟨h2,?_⟩
  cases hk:K.lookup a with
  | none => exact .inl (.inr ⟨_,by rw [argH_at ha hk e,hoOf_lst]⟩)
  | some o =>
    have e2:=KX a o hk
    rw [e] at e2
    obtain rfl:=Option.some.inj e2
    exact .inr ⟨_,us.toArray,_,hk,rfl,rfl,rfl,by rw [List.size_toArray]; exact h1,by simpa using vals_toV h2⟩
theorem argT (KX:K.In h) (ar:∀ a ∈ A,ArgOb h A a) {a:Addr} {vs:List Value} (ha:a ∈ A) (e:h.get? a = some { cls:=.type "tuple",data:=.seq vs.toArray }):(∀ u ∈ vs,OkU A u) ∧ SqT K (argH K h A) a (vs.map toV):=by
  obtain ⟨us,h1,h2,h3⟩:=ar a ha
  have hu:us = vs:=by
    rcases h3 with q | q
    · rw [e] at q
      exact absurd (Value.type.inj (seq_inj q).1) (by decide)
    · rw [e] at q
      exact (seq_inj q).2.symm
  subst hu
  refine ⟨h2,?_⟩
  cases hk:K.lookup a with
  | none => exact .inl (.inr ⟨_,by rw [argH_at ha hk e,hoOf_tup]⟩)
  | some o =>
    have e2:=KX a o hk
    rw [e] at e2
    obtain rfl:=Option.some.inj e2
    exact .inr ⟨_,us.toArray,_,hk,rfl,rfl,by rw [List.size_toArray]; exact h1,by simpa using vals_toV h2⟩
mutual
theorem dw_one {Pm:Params} (KX:K.In h) (ar:∀ a ∈ A,ArgOb h A a):∀ (d:WData) (v:Value),Well Pm h v d → plW d = true → OkU A v → Dw K (argH K h A) (toV v) d
  | .none,_,x,_,_ => by
    cases x
    exact .non
  | .bool b,_,x,_,_ => by
    cases x
    exact .bl b
  | .int i,_,x,_,_ => by
    cases x
    exact .int i
  | .str s,_,x,_,_ => by
    cases x
    exact .str s
  | .bytes b,_,x,_,_ => by
    cases x
    have z:=Dw.byt (K:=K) (H:=argH K h A) b.toArray
    exact z
  | .list ds,_,x,p,hu => by
    obtain ⟨a,vs,rfl,ho,hall⟩:=well_list x
    obtain ⟨h2,hs⟩:=argL KX ar hu ho
    exact .lst hs (dw_all KX ar ds _ hall p h2)
  | .tuple ds,_,x,p,hu => by
    obtain ⟨a,vs,rfl,ho,hall⟩:=well_tuple x
    obtain ⟨h2,hs⟩:=argT KX ar hu ho
    exact .tup hs (dw_all KX ar ds _ hall p h2)
  | .float _,_,_,p,_ => Bool.noConfusion (show false = true from p)
  | .dict _,_,_,p,_ => Bool.noConfusion (show false = true from p)
  | .bytearray _,_,_,p,_ => Bool.noConfusion (show false = true from p)
  | .set _,_,_,p,_ => Bool.noConfusion (show false = true from p)
  | .frozenset _,_,_,p,_ => Bool.noConfusion (show false = true from p)
  | .obj _ _,_,_,p,_ => Bool.noConfusion (show false = true from p)
theorem dw_all {Pm:Params} (KX:K.In h) (ar:∀ a ∈ A,ArgOb h A a):∀ (ds:List WData) (vs:List Value),WellAll Pm h vs ds → plWs ds = true → (∀ u ∈ vs,OkU A u) → DwAll K (argH K h A) (vs.map toV) ds
  | [],_,x,_,_ => by
    cases x
    exact .nil
  | d :: ds,_,x,p,hu => by
    obtain ⟨v,vs,rfl,x1,x2⟩:=well_cons x
    have q:plW d = true ∧ plWs ds = true:=Bool.and_eq_true_iff.mp p
    exact .cons (dw_one KX ar d v x1 q.1 (hu _ (List.mem_cons_self ..))) (dw_all KX ar ds vs x2 q.2 fun u m => hu u (List.mem_cons_of_mem _ m))
end
end
theorem spec_call {P:Program} {w:World} {K:PySem.W.Frag} {mg mb:Str → Option Value} {CX:CXT} {k:Nat} {fa:Addr} {fd:FuncData} {ps:List Str} {sp:Sp} {s₁:Shared} {vals:List Value} {ds:List WData} {R:PySem.W.WRecords} {cl:Str → Option Addr} {d0:WData}
    (KX:K.In s₁.heap) (hns:s₁.heap.Ns mainGlobals mg) (hb:s₁.heap.Ns builtinsNs mb) (hbb:∀ x:Str,x ≠ "__name__" → mb x = bootBuiltins x) (hlim:s₁.heap.NoLimit) (hg:s₁.gens = #[])
    (hwl:WellAll w.params s₁.heap vals ds) (hpl:plWs ds = true) (hwt:∀ d ∈ ds,d.weight ≤ 1048576) (hr:Room k callerA)
    (F:∀ base:Heap,K.In base → base.Ns mainGlobals mg → FnOk P w K mg base CX k fa fd ps sp) (hbind:∀ (s:Shared) (us:List Value),us.length = ps.length → BindsTo s fd ⟨us,[]⟩ (ps.zip us)) (hlen:ds.length = ps.length)
    (hsp:∀ (H:Hp) (xs:List V),OnlyF H → DwAll K H xs ds → sp xs H (fun v H' => Dw K H' v d0) fun _ _ _ => False)
    (hCX:∀ H e s',CX [] H s₁ (fun _ _ _ => False) e s' → False) :
    codeAny (model P w) callerA (.call (.ref fa) ⟨vals,[]⟩) (fun r s' => ∃ u as,r = .ok (.ret u) ∧ ReadsW R cl s'.heap u d0 as ∧ OldK s₁.heap s'.heap ∧ s'.os = s₁.os ∧ AllBare s'.gens) s₁:=by
  obtain ⟨A,ho,ar⟩:=area_all ds vals hwl hpl hwt
  have hO:OnlyF (argH K s₁.heap A):=argH_only ar
  have hok:HOk P w (argH K s₁.heap A) s₁.heap:=argH_ok ar
  have hS:=dw_all KX ar ds vals hwl hpl ho
  have hV:=vals_toV ho
  have hK:∀ b u,argH K s₁.heap A b = some u → K.lookup b = none:=fun b u q => (argH_is ar q).1
  have noA:∀ {b:Addr} {o:Obj} {es:Array DictEntry} {ep:Nat},s₁.heap.get? b = some o → o.data = .dict es ep → argH K s₁.heap A b = none:=fun {b o es ep} e d => by
    cases q:argH K s₁.heap A b with
    | none => rfl
    | some u =>
      obtain ⟨_,vs,_,_,⟨e2,_⟩ | ⟨e2,_⟩⟩:=argH_is ar q
      · rw [e2] at e
        cases e
        have d':Data.seq vs.toArray _ = Data.dict es ep:=d
        cases d'
      · rw [e2] at e
        cases e
        have d':Data.seq vs.toArray _ = Data.dict es ep:=d
        cases d'
  generalize argH K s₁.heap A = H at hO hok hS hK noA
  have base_of:∀ {b:Addr} {o:Obj},s₁.heap.get? b = some o → H b = none → (hidT s₁.heap H).get? b = some o:=fun e n => hidT_get e n
  have nsK:∀ {b:Addr} {m:Str → Option Value},s₁.heap.Ns b m → (hidT s₁.heap H).Ns b m:=fun {b m} ⟨o,es,ep,e,d,r⟩ => ⟨o,es,ep,base_of e (noA e d),d,r⟩
  have nK:∀ b o,K.lookup b = some o → H b = none:=fun b o e => by
    cases q:H b with
    | none => rfl
    | some u =>
      rw [hK b u q] at e
      cases e
  have hKb:K.In (hidT s₁.heap H):=fun b o e => base_of (KX b o e) (nK b o e)
  have hM:Mod K mg (hidT s₁.heap H):=⟨hKb,nsK hns,⟨mb,nsK hb,hbb⟩,let ⟨mc,h1,h2⟩:=hlim; ⟨mc,nsK h1,h2⟩⟩
  have e0:Env0 P w K mg (hidT s₁.heap H) callerA [] s₁ H:=⟨rfl,hM,fun b o e => of_hidT e,Nat.le_of_eq (hidT_size _ _),trivial,fun b hb => absurd (show b ∈ ([]:List Addr) from hb) (by simp),hok,.of_eq hg⟩
  have hl:vals.length = ps.length:=by rw [wellAll_len hwl]; exact hlen
  refine codeAny_mono ((F _ hKb (nsK hns)).run callerA [] s₁ H ⟨vals,[]⟩ vals (vals.map toV) _ _ hr e0 (hbind s₁ vals hl) hV (hsp H _ hO hS)) fun r s' x => ?_
  cases r with
  | error e => exact (hCX H e s' x).elim
  | ok fl =>
    cases fl with
    | next => exact False.elim x
    | brk => exact False.elim x
    | cont => exact False.elim x
    | ret u =>
      obtain ⟨v,H',os,bare,un,hok',r',q⟩:=x
      have kept:∀ b o,s₁.heap.get? b = some o → s'.heap.get? b = some o:=fun b o e => by
        cases q2:H b with
        | none => exact un.keep b o e q2 (by intro z; exact absurd (show b ∈ ([]:List Addr) from z) (by simp)) (by simp)
        | some u2 =>
          rcases hO b with z | ⟨ob,u3,z⟩
          · rw [q2] at z
            cases z
          · have z2:=un.frzs b ob _ z
            obtain ⟨e1,_⟩:=hok b _ z
            obtain ⟨e2,_⟩:=hok' b _ z2
            rw [e] at e1
            cases e1
            exact e2
      have KX':K.In s'.heap:=fun b o e => kept b o (KX b o e)
      obtain ⟨as,hrd⟩:=Dw.reads (R:=R) (cl:=cl) hok' KX' d0 v u q r'
      exact ⟨u,as,rfl,hrd,OldK.of_keep kept,os,bare⟩
theorem layable_weight {ds:List WData} (h:WData.layableAll ds = true):∀ d ∈ ds,d.weight ≤ 1048576:=fun d hd =>
  (PySem.W.layableW_iff.mp (List.all_eq_true.mp h d hd)).2.2
theorem encAll_len:∀ (cs:List Codec) (a:Codec.denoteAll cs),(Codec.encAll cs a).length = cs.length
  | [],_ => rfl
  | c :: cs,a => by
    show (Codec.encAll cs a.2).length + 1 = cs.length + 1
    rw [encAll_len cs a.2]
theorem walk_spec {r:OpenSpec} {k:Nat} {q:Program} {loose:List Str} {XP:(Str → Option Value) → Heap → Prop} {YP:World → Heap → Prop} {d:DefRec} {K:Params → PySem.W.Frag} {CX:World → CXT} {ps:List Str} {sp:World → Sp}
    (hwell:r.wellSaid = true) (hdf:d.params.defaults = []) (hlen:r.args.length = ps.length) (hr:Room k callerA)
    (hY:∀ (w:World) (h:Heap),YP w h → (K w.params).In h)
    (F:∀ (w:World) (mg:Str → Option Value) (fa:Addr) (h:Heap),YP w h → (K w.params).In h → h.Ns mainGlobals mg → mg d.name = some (.ref fa) →
      ∃ fd:FuncData,(∀ (s:Shared) (us:List Value),us.length = ps.length → BindsTo s fd ⟨us,[]⟩ (ps.zip us)) ∧
        ∀ base:Heap,(K w.params).In base → base.Ns mainGlobals mg → FnOk r.prog w (K w.params) mg base (CX w) k fa fd ps (sp w))
    (hsp:∀ (w:World) (H:Hp) (xs:List V) (a:Codec.denoteAll r.args),OnlyF H → Codec.withinAll r.args a = true → Codec.app r.args r.asked a = true → DwAll (K w.params) H xs (Codec.encAll r.args a) →
      sp w xs H (fun v H' => Dw (K w.params) H' v (r.ret.enc (Codec.app r.args r.f a))) fun _ _ _ => False)
    (hCX:∀ (w:World) (H:Hp) (s:Shared) (e:Value) (s':Shared),CX w [] H s (fun _ _ _ => False) e s' → False) :
    PySem.W.WalkOS q loose XP YP r d [] (fun f vs => PySem.call f vs):=by
  intro w s_0 s₁ mg mb G Y fa o pm cd doc dV kV ho hd hcd hD hmg hg args vals as hpre hlay hrd hwl hlo
  obtain ⟨a,e1,e2⟩:=PySem.W.os_pre_some hpre
  obtain ⟨e3,hwi⟩:=Codec.encAll_of_decAll r.args args a e1
  subst e3
  have KX:=hY w _ Y
  obtain ⟨fd,hb,hF⟩:=F w mg fa _ Y KX G.T.g hmg
  refine PySem.W.enter_call (codeAny_mono (spec_call (R:=[]) (cl:=classAt s_0.heap) (d0:=r.ret.enc (Codec.app r.args r.f a)) KX G.T.g G.T.b G.T.builtins G.T.nolimit hg hwl (pl_encAll _ _) (layable_weight hlay) hr hF hb (by rw [encAll_len]; exact hlen)
    (fun H xs hO hS => hsp w H xs a hO hwi e2 hS) fun H e s' => hCX w H s₁ e s') fun r' s' hq => ?_)
  obtain ⟨u,as',rfl,h1,h2,h3,h4⟩:=hq
  exact ⟨.inl ⟨u,_,as',rfl,fun _ => rfl,h1,(OpenSpec.post_iff hwell hwi _ _).mpr rfl,fun z => Bool.noConfusion (show false = true from z)⟩,h2,h3,h4⟩
end L2
end
namespace TC
open PySem PySem.Spec PyProof.Rows L2
noncomputable def top (i:Nat):Stmt:=PySem.Challenge.pw_treecuts_s01_answers.main.body.getD i (.Pass ⟨0,0,0,0⟩)
noncomputable abbrev s_Node_init:Stmt:=inClass (top 1) 0
noncomputable abbrev s_Tree_init:Stmt:=inClass (top 2) 0
noncomputable abbrev s_Refusal_init:Stmt:=inClass (top 22) 0
noncomputable abbrev s_NumberRefused_init:Stmt:=inClass (top 23) 0
noncomputable abbrev s_NoGrammarRow_init:Stmt:=inClass (top 24) 0
noncomputable abbrev s_TooManyBytes_init:Stmt:=inClass (top 25) 0
noncomputable abbrev s_NoSuchRule_init:Stmt:=inClass (top 26) 0
noncomputable abbrev s_NoTreeHeld_init:Stmt:=inClass (top 27) 0
noncomputable abbrev s_NoSuchNode_init:Stmt:=inClass (top 28) 0
noncomputable abbrev s_TooManyNodes_init:Stmt:=inClass (top 29) 0
noncomputable abbrev s_NotSuchTree_init:Stmt:=inClass (top 30) 0
noncomputable abbrev s_NotToBeSwapped_init:Stmt:=inClass (top 31) 0
noncomputable abbrev s_NoTreeBefore_init:Stmt:=inClass (top 32) 0
noncomputable abbrev s_Reader_init:Stmt:=inClass (top 34) 0
noncomputable abbrev s_Reader_at_end:Stmt:=inClass (top 34) 1
noncomputable abbrev s_Reader_take:Stmt:=inClass (top 34) 2
noncomputable abbrev s_Reader_take_row:Stmt:=inClass (top 34) 3
noncomputable abbrev s_Rule_init:Stmt:=inClass (top 43) 0
noncomputable abbrev s_Reading_init:Stmt:=inClass (top 50) 0
noncomputable abbrev s_Reading_await_tree:Stmt:=inClass (top 50) 1
noncomputable abbrev s_Reading_follow:Stmt:=inClass (top 50) 2
noncomputable abbrev s_Reading_begin_node:Stmt:=inClass (top 50) 3
noncomputable abbrev s_Reading_await_symbols:Stmt:=inClass (top 50) 4
noncomputable abbrev s_Reading_pass_byte:Stmt:=inClass (top 50) 5
noncomputable abbrev s_Reading_end_node:Stmt:=inClass (top 50) 6
noncomputable abbrev s_Desk_init:Stmt:=inClass (top 56) 0
noncomputable abbrev s_Desk_begin_with:Stmt:=inClass (top 56) 1
noncomputable abbrev s_Desk_change_to:Stmt:=inClass (top 56) 2
noncomputable abbrev s_Desk_go_back:Stmt:=inClass (top 56) 3
noncomputable abbrev s_children:Stmt:=top 3
noncomputable abbrev s_nodes_of_rule:Stmt:=top 4
noncomputable abbrev s_beneath_rule:Stmt:=top 5
noncomputable abbrev s_number_behind:Stmt:=top 6
noncomputable abbrev s_stands_beneath:Stmt:=top 7
noncomputable abbrev s_nodes_on_longest_way:Stmt:=top 8
noncomputable abbrev s_child_places:Stmt:=top 9
noncomputable abbrev s_path_to:Stmt:=top 10
noncomputable abbrev s_node_at:Stmt:=top 11
noncomputable abbrev s_same_node:Stmt:=top 12
noncomputable abbrev s_first_difference:Stmt:=top 13
noncomputable abbrev s_moved:Stmt:=top 15
noncomputable abbrev s_cut_out:Stmt:=top 16
noncomputable abbrev s_nodes_ahead:Stmt:=top 17
noncomputable abbrev s_parents_with:Stmt:=top 18
noncomputable abbrev s_replaced:Stmt:=top 19
noncomputable abbrev s_swapped:Stmt:=top 20
noncomputable abbrev s_take_within:Stmt:=top 44
noncomputable abbrev s_read_symbol:Stmt:=top 45
noncomputable abbrev s_read_rule:Stmt:=top 46
noncomputable abbrev s_read_grammar:Stmt:=top 47
noncomputable abbrev s_read_tree:Stmt:=top 51
noncomputable abbrev s_check_none_below_zero:Stmt:=top 57
noncomputable abbrev s_check_text_with_tree:Stmt:=top 58
noncomputable abbrev s_check_node_count:Stmt:=top 59
noncomputable abbrev s_nodes_told:Stmt:=top 60
noncomputable abbrev s_tell_nodes:Stmt:=top 61
noncomputable abbrev s_tell_found:Stmt:=top 62
noncomputable abbrev s_check_rule:Stmt:=top 63
noncomputable abbrev s_held_tree:Stmt:=top 64
noncomputable abbrev s_check_node:Stmt:=top 65
noncomputable abbrev s_held_tree_with:Stmt:=top 66
noncomputable abbrev s_nonterminal_of:Stmt:=top 67
noncomputable abbrev s_check_size:Stmt:=top 68
noncomputable abbrev s_check_swap:Stmt:=top 69
noncomputable abbrev s_load:Stmt:=top 70
noncomputable abbrev s_hold:Stmt:=top 71
noncomputable abbrev s_tell_tree:Stmt:=top 72
noncomputable abbrev s_tell_text:Stmt:=top 73
noncomputable abbrev s_tell_kids:Stmt:=top 74
noncomputable abbrev s_tell_up:Stmt:=top 75
noncomputable abbrev s_tell_piece:Stmt:=top 76
noncomputable abbrev s_tell_of:Stmt:=top 77
noncomputable abbrev s_tell_under:Stmt:=top 78
noncomputable abbrev s_tell_cut:Stmt:=top 79
noncomputable abbrev s_put:Stmt:=top 80
noncomputable abbrev s_swap:Stmt:=top 81
noncomputable abbrev s_tell_difference:Stmt:=top 82
noncomputable abbrev s_tell_path:Stmt:=top 83
noncomputable abbrev s_tell_node_at:Stmt:=top 84
noncomputable abbrev s_tell_measure:Stmt:=top 85
noncomputable abbrev s_undo:Stmt:=top 86
noncomputable abbrev s_read_arguments:Stmt:=top 88
noncomputable abbrev s_answer_call:Stmt:=top 89
noncomputable abbrev s_answers:Stmt:=top 90
noncomputable abbrev n_Node_init:List Str:=["self","rule","begin","end"]
theorem sc_Node_init:FnScope n_Node_init ["self","rule","begin","end"] (defScope s_Node_init):=⟨rfl,rfl,rfl,by decide +kernel,rfl,by decide +kernel,by decide +kernel⟩
noncomputable abbrev n_Tree_init:List Str:=["self","octets","nodes","parents"]
theorem sc_Tree_init:FnScope n_Tree_init ["self","octets","nodes","parents"] (defScope s_Tree_init):=⟨rfl,rfl,rfl,by decide +kernel,rfl,by decide +kernel,by decide +kernel⟩
noncomputable abbrev n_Refusal_init:List Str:=["self","number"]
theorem sc_Refusal_init:FnScope n_Refusal_init ["self","number"] (defScope s_Refusal_init):=⟨rfl,rfl,rfl,by decide +kernel,rfl,by decide +kernel,by decide +kernel⟩
noncomputable abbrev n_NumberRefused_init:List Str:=["self"]
theorem sc_NumberRefused_init:FnScope n_NumberRefused_init ["self"] (defScope s_NumberRefused_init):=⟨rfl,rfl,rfl,by decide +kernel,rfl,by decide +kernel,by decide +kernel⟩
noncomputable abbrev n_NoGrammarRow_init:List Str:=["self"]
theorem sc_NoGrammarRow_init:FnScope n_NoGrammarRow_init ["self"] (defScope s_NoGrammarRow_init):=⟨rfl,rfl,rfl,by decide +kernel,rfl,by decide +kernel,by decide +kernel⟩
noncomputable abbrev n_TooManyBytes_init:List Str:=["self"]
theorem sc_TooManyBytes_init:FnScope n_TooManyBytes_init ["self"] (defScope s_TooManyBytes_init):=⟨rfl,rfl,rfl,by decide +kernel,rfl,by decide +kernel,by decide +kernel⟩
noncomputable abbrev n_NoSuchRule_init:List Str:=["self"]
theorem sc_NoSuchRule_init:FnScope n_NoSuchRule_init ["self"] (defScope s_NoSuchRule_init):=⟨rfl,rfl,rfl,by decide +kernel,rfl,by decide +kernel,by decide +kernel⟩
noncomputable abbrev n_NoTreeHeld_init:List Str:=["self"]
theorem sc_NoTreeHeld_init:FnScope n_NoTreeHeld_init ["self"] (defScope s_NoTreeHeld_init):=⟨rfl,rfl,rfl,by decide +kernel,rfl,by decide +kernel,by decide +kernel⟩
noncomputable abbrev n_NoSuchNode_init:List Str:=["self"]
theorem sc_NoSuchNode_init:FnScope n_NoSuchNode_init ["self"] (defScope s_NoSuchNode_init):=⟨rfl,rfl,rfl,by decide +kernel,rfl,by decide +kernel,by decide +kernel⟩
noncomputable abbrev n_TooManyNodes_init:List Str:=["self"]
theorem sc_TooManyNodes_init:FnScope n_TooManyNodes_init ["self"] (defScope s_TooManyNodes_init):=⟨rfl,rfl,rfl,by decide +kernel,rfl,by decide +kernel,by decide +kernel⟩
noncomputable abbrev n_NotSuchTree_init:List Str:=["self"]
theorem sc_NotSuchTree_init:FnScope n_NotSuchTree_init ["self"] (defScope s_NotSuchTree_init):=⟨rfl,rfl,rfl,by decide +kernel,rfl,by decide +kernel,by decide +kernel⟩
noncomputable abbrev n_NotToBeSwapped_init:List Str:=["self"]
theorem sc_NotToBeSwapped_init:FnScope n_NotToBeSwapped_init ["self"] (defScope s_NotToBeSwapped_init):=⟨rfl,rfl,rfl,by decide +kernel,rfl,by decide +kernel,by decide +kernel⟩
noncomputable abbrev n_NoTreeBefore_init:List Str:=["self"]
theorem sc_NoTreeBefore_init:FnScope n_NoTreeBefore_init ["self"] (defScope s_NoTreeBefore_init):=⟨rfl,rfl,rfl,by decide +kernel,rfl,by decide +kernel,by decide +kernel⟩
noncomputable abbrev n_Reader_init:List Str:=["self","numbers"]
theorem sc_Reader_init:FnScope n_Reader_init ["self","numbers"] (defScope s_Reader_init):=⟨rfl,rfl,rfl,by decide +kernel,rfl,by decide +kernel,by decide +kernel⟩
noncomputable abbrev n_Reader_at_end:List Str:=["self"]
theorem sc_Reader_at_end:FnScope n_Reader_at_end ["self"] (defScope s_Reader_at_end):=⟨rfl,rfl,rfl,by decide +kernel,rfl,by decide +kernel,by decide +kernel⟩
noncomputable abbrev n_Reader_take:List Str:=["self","number"]
theorem sc_Reader_take:FnScope n_Reader_take ["self"] (defScope s_Reader_take):=⟨rfl,rfl,rfl,by decide +kernel,rfl,by decide +kernel,by decide +kernel⟩
noncomputable abbrev n_Reader_take_row:List Str:=["self","count","row"]
theorem sc_Reader_take_row:FnScope n_Reader_take_row ["self"] (defScope s_Reader_take_row):=⟨rfl,rfl,rfl,by decide +kernel,rfl,by decide +kernel,by decide +kernel⟩
noncomputable abbrev n_Rule_init:List Str:=["self","nonterminal","symbols"]
theorem sc_Rule_init:FnScope n_Rule_init ["self","nonterminal","symbols"] (defScope s_Rule_init):=⟨rfl,rfl,rfl,by decide +kernel,rfl,by decide +kernel,by decide +kernel⟩
noncomputable abbrev n_Reading_init:List Str:=["self","rules","octets","nodes"]
theorem sc_Reading_init:FnScope n_Reading_init ["self","rules","octets","nodes"] (defScope s_Reading_init):=⟨rfl,rfl,rfl,by decide +kernel,rfl,by decide +kernel,by decide +kernel⟩
noncomputable abbrev n_Reading_await_tree:List Str:=["self","nonterminal","parent"]
theorem sc_Reading_await_tree:FnScope n_Reading_await_tree ["self","nonterminal","parent"] (defScope s_Reading_await_tree):=⟨rfl,rfl,rfl,by decide +kernel,rfl,by decide +kernel,by decide +kernel⟩
noncomputable abbrev n_Reading_follow:List Str:=["self","due"]
theorem sc_Reading_follow:FnScope n_Reading_follow ["self"] (defScope s_Reading_follow):=⟨rfl,rfl,rfl,by decide +kernel,rfl,by decide +kernel,by decide +kernel⟩
noncomputable abbrev n_Reading_begin_node:List Str:=["self","nonterminal","parent","number","node","rule"]
theorem sc_Reading_begin_node:FnScope n_Reading_begin_node ["self","nonterminal","parent"] (defScope s_Reading_begin_node):=⟨rfl,rfl,rfl,by decide +kernel,rfl,by decide +kernel,by decide +kernel⟩
noncomputable abbrev n_Reading_await_symbols:List Str:=["self","symbols","number","symbol"]
theorem sc_Reading_await_symbols:FnScope n_Reading_await_symbols ["self","symbols","number"] (defScope s_Reading_await_symbols):=⟨rfl,rfl,rfl,by decide +kernel,rfl,by decide +kernel,by decide +kernel⟩
noncomputable abbrev n_Reading_pass_byte:List Str:=["self","low","high"]
theorem sc_Reading_pass_byte:FnScope n_Reading_pass_byte ["self","low","high"] (defScope s_Reading_pass_byte):=⟨rfl,rfl,rfl,by decide +kernel,rfl,by decide +kernel,by decide +kernel⟩
noncomputable abbrev n_Reading_end_node:List Str:=["self","number"]
theorem sc_Reading_end_node:FnScope n_Reading_end_node ["self","number"] (defScope s_Reading_end_node):=⟨rfl,rfl,rfl,by decide +kernel,rfl,by decide +kernel,by decide +kernel⟩
noncomputable abbrev n_Desk_init:List Str:=["self"]
theorem sc_Desk_init:FnScope n_Desk_init ["self"] (defScope s_Desk_init):=⟨rfl,rfl,rfl,by decide +kernel,rfl,by decide +kernel,by decide +kernel⟩
noncomputable abbrev n_Desk_begin_with:List Str:=["self","tree"]
theorem sc_Desk_begin_with:FnScope n_Desk_begin_with ["self","tree"] (defScope s_Desk_begin_with):=⟨rfl,rfl,rfl,by decide +kernel,rfl,by decide +kernel,by decide +kernel⟩
noncomputable abbrev n_Desk_change_to:List Str:=["self","tree"]
theorem sc_Desk_change_to:FnScope n_Desk_change_to ["self","tree"] (defScope s_Desk_change_to):=⟨rfl,rfl,rfl,by decide +kernel,rfl,by decide +kernel,by decide +kernel⟩
noncomputable abbrev n_Desk_go_back:List Str:=["self"]
theorem sc_Desk_go_back:FnScope n_Desk_go_back ["self"] (defScope s_Desk_go_back):=⟨rfl,rfl,rfl,by decide +kernel,rfl,by decide +kernel,by decide +kernel⟩
noncomputable abbrev n_children:List Str:=["tree","number","child","parent"]
theorem sc_children:FnScope n_children ["tree","number"] (defScope s_children):=⟨rfl,rfl,rfl,by decide +kernel,rfl,by decide +kernel,by decide +kernel⟩
noncomputable abbrev n_nodes_of_rule:List Str:=["tree","rule","number","node"]
theorem sc_nodes_of_rule:FnScope n_nodes_of_rule ["tree","rule"] (defScope s_nodes_of_rule):=⟨rfl,rfl,rfl,by decide +kernel,rfl,by decide +kernel,by decide +kernel⟩
noncomputable abbrev n_beneath_rule:List Str:=["tree","rule","beneath","parent"]
theorem sc_beneath_rule:FnScope n_beneath_rule ["tree","rule"] (defScope s_beneath_rule):=⟨rfl,rfl,rfl,by decide +kernel,rfl,by decide +kernel,by decide +kernel⟩
noncomputable abbrev n_number_behind:List Str:=["tree","number","behind"]
theorem sc_number_behind:FnScope n_number_behind ["tree","number"] (defScope s_number_behind):=⟨rfl,rfl,rfl,by decide +kernel,rfl,by decide +kernel,by decide +kernel⟩
noncomputable abbrev n_stands_beneath:List Str:=["tree","lower","upper"]
theorem sc_stands_beneath:FnScope n_stands_beneath ["tree","lower","upper"] (defScope s_stands_beneath):=⟨rfl,rfl,rfl,by decide +kernel,rfl,by decide +kernel,by decide +kernel⟩
noncomputable abbrev n_nodes_on_longest_way:List Str:=["tree","number","depths","parent"]
theorem sc_nodes_on_longest_way:FnScope n_nodes_on_longest_way ["tree","number"] (defScope s_nodes_on_longest_way):=⟨rfl,rfl,rfl,by decide +kernel,rfl,by decide +kernel,by decide +kernel⟩
noncomputable abbrev n_child_places:List Str:=["tree","counts","places","parent","node"]
theorem sc_child_places:FnScope n_child_places ["tree"] (defScope s_child_places):=⟨rfl,rfl,rfl,by decide +kernel,rfl,by decide +kernel,by decide +kernel⟩
noncomputable abbrev n_path_to:List Str:=["tree","number","places","path"]
theorem sc_path_to:FnScope n_path_to ["tree","number"] (defScope s_path_to):=⟨rfl,rfl,rfl,by decide +kernel,rfl,by decide +kernel,by decide +kernel⟩
noncomputable abbrev n_node_at:List Str:=["tree","path","number","step","below"]
theorem sc_node_at:FnScope n_node_at ["tree","path"] (defScope s_node_at):=⟨rfl,rfl,rfl,by decide +kernel,rfl,by decide +kernel,by decide +kernel⟩
noncomputable abbrev n_same_node:List Str:=["one","other"]
theorem sc_same_node:FnScope n_same_node ["one","other"] (defScope s_same_node):=⟨rfl,rfl,rfl,by decide +kernel,rfl,by decide +kernel,by decide +kernel⟩
noncomputable abbrev n_first_difference:List Str:=["one","other","common","number"]
theorem sc_first_difference:FnScope n_first_difference ["one","other"] (defScope s_first_difference):=⟨rfl,rfl,rfl,by decide +kernel,rfl,by decide +kernel,by decide +kernel⟩
noncomputable abbrev n_moved:List Str:=["nodes","distance","node"]
theorem sc_moved:FnScope n_moved ["nodes","distance"] (defScope s_moved):=⟨rfl,rfl,rfl,by decide +kernel,rfl,by decide +kernel,by decide +kernel⟩
noncomputable abbrev n_cut_out:List Str:=["tree","number","root","behind","nodes","parents","parent"]
theorem sc_cut_out:FnScope n_cut_out ["tree","number"] (defScope s_cut_out):=⟨rfl,rfl,rfl,by decide +kernel,rfl,by decide +kernel,by decide +kernel⟩
noncomputable abbrev n_nodes_ahead:List Str:=["tree","number","longer","nodes","above","node"]
theorem sc_nodes_ahead:FnScope n_nodes_ahead ["tree","number","longer"] (defScope s_nodes_ahead):=⟨rfl,rfl,rfl,by decide +kernel,rfl,by decide +kernel,by decide +kernel⟩
noncomputable abbrev n_parents_with:List Str:=["tree","number","part","behind","more","parents","parent"]
theorem sc_parents_with:FnScope n_parents_with ["tree","number","part"] (defScope s_parents_with):=⟨rfl,rfl,rfl,by decide +kernel,rfl,by decide +kernel,by decide +kernel⟩
noncomputable abbrev n_replaced:List Str:=["tree","number","part","root","longer","octets","nodes"]
theorem sc_replaced:FnScope n_replaced ["tree","number","part"] (defScope s_replaced):=⟨rfl,rfl,rfl,by decide +kernel,rfl,by decide +kernel,by decide +kernel⟩
noncomputable abbrev n_swapped:List Str:=["tree","one","other","first","second","changed"]
theorem sc_swapped:FnScope n_swapped ["tree","one","other"] (defScope s_swapped):=⟨rfl,rfl,rfl,by decide +kernel,rfl,by decide +kernel,by decide +kernel⟩
noncomputable abbrev n_take_within:List Str:=["reader","low","high","number"]
theorem sc_take_within:FnScope n_take_within ["reader","low","high"] (defScope s_take_within):=⟨rfl,rfl,rfl,by decide +kernel,rfl,by decide +kernel,by decide +kernel⟩
noncomputable abbrev n_read_symbol:List Str:=["reader","nonterminals","kind","low","high"]
theorem sc_read_symbol:FnScope n_read_symbol ["reader","nonterminals"] (defScope s_read_symbol):=⟨rfl,rfl,rfl,by decide +kernel,rfl,by decide +kernel,by decide +kernel⟩
noncomputable abbrev n_read_rule:List Str:=["reader","nonterminals","nonterminal","count","symbols","turn"]
theorem sc_read_rule:FnScope n_read_rule ["reader","nonterminals"] (defScope s_read_rule):=⟨rfl,rfl,rfl,by decide +kernel,rfl,by decide +kernel,by decide +kernel⟩
noncomputable abbrev n_read_grammar:List Str:=["row","reader","nonterminals","count","rules","turn"]
theorem sc_read_grammar:FnScope n_read_grammar ["row"] (defScope s_read_grammar):=⟨rfl,rfl,rfl,by decide +kernel,rfl,by decide +kernel,by decide +kernel⟩
noncomputable abbrev n_read_tree:List Str:=["rules","nonterminal","octets","nodes","reading"]
theorem sc_read_tree:FnScope n_read_tree ["rules","nonterminal","octets","nodes"] (defScope s_read_tree):=⟨rfl,rfl,rfl,by decide +kernel,rfl,by decide +kernel,by decide +kernel⟩
noncomputable abbrev n_check_none_below_zero:List Str:=["numbers"]
theorem sc_check_none_below_zero:FnScope n_check_none_below_zero ["numbers"] (defScope s_check_none_below_zero):=⟨rfl,rfl,rfl,by decide +kernel,rfl,by decide +kernel,by decide +kernel⟩
noncomputable abbrev n_check_text_with_tree:List Str:=["octets","numbers"]
theorem sc_check_text_with_tree:FnScope n_check_text_with_tree ["octets","numbers"] (defScope s_check_text_with_tree):=⟨rfl,rfl,rfl,by decide +kernel,rfl,by decide +kernel,by decide +kernel⟩
noncomputable abbrev n_check_node_count:List Str:=["numbers"]
theorem sc_check_node_count:FnScope n_check_node_count ["numbers"] (defScope s_check_node_count):=⟨rfl,rfl,rfl,by decide +kernel,rfl,by decide +kernel,by decide +kernel⟩
noncomputable abbrev n_nodes_told:List Str:=["numbers","k"]
theorem sc_nodes_told:FnScope n_nodes_told ["numbers"] (defScope s_nodes_told):=⟨rfl,rfl,rfl,by decide +kernel,rfl,by decide +kernel,by decide +kernel⟩
noncomputable abbrev n_tell_nodes:List Str:=["nodes","told","node"]
theorem sc_tell_nodes:FnScope n_tell_nodes ["nodes"] (defScope s_tell_nodes):=⟨rfl,rfl,rfl,by decide +kernel,rfl,by decide +kernel,by decide +kernel⟩
noncomputable abbrev n_tell_found:List Str:=["number"]
theorem sc_tell_found:FnScope n_tell_found ["number"] (defScope s_tell_found):=⟨rfl,rfl,rfl,by decide +kernel,rfl,by decide +kernel,by decide +kernel⟩
noncomputable abbrev n_check_rule:List Str:=["desk","rule"]
theorem sc_check_rule:FnScope n_check_rule ["desk","rule"] (defScope s_check_rule):=⟨rfl,rfl,rfl,by decide +kernel,rfl,by decide +kernel,by decide +kernel⟩
noncomputable abbrev n_held_tree:List Str:=["desk"]
theorem sc_held_tree:FnScope n_held_tree ["desk"] (defScope s_held_tree):=⟨rfl,rfl,rfl,by decide +kernel,rfl,by decide +kernel,by decide +kernel⟩
noncomputable abbrev n_check_node:List Str:=["held","number"]
theorem sc_check_node:FnScope n_check_node ["held","number"] (defScope s_check_node):=⟨rfl,rfl,rfl,by decide +kernel,rfl,by decide +kernel,by decide +kernel⟩
noncomputable abbrev n_held_tree_with:List Str:=["desk","number","held"]
theorem sc_held_tree_with:FnScope n_held_tree_with ["desk","number"] (defScope s_held_tree_with):=⟨rfl,rfl,rfl,by decide +kernel,rfl,by decide +kernel,by decide +kernel⟩
noncomputable abbrev n_nonterminal_of:List Str:=["desk","number"]
theorem sc_nonterminal_of:FnScope n_nonterminal_of ["desk","number"] (defScope s_nonterminal_of):=⟨rfl,rfl,rfl,by decide +kernel,rfl,by decide +kernel,by decide +kernel⟩
noncomputable abbrev n_check_size:List Str:=["tree"]
theorem sc_check_size:FnScope n_check_size ["tree"] (defScope s_check_size):=⟨rfl,rfl,rfl,by decide +kernel,rfl,by decide +kernel,by decide +kernel⟩
noncomputable abbrev n_check_swap:List Str:=["desk","one","other"]
theorem sc_check_swap:FnScope n_check_swap ["desk","one","other"] (defScope s_check_swap):=⟨rfl,rfl,rfl,by decide +kernel,rfl,by decide +kernel,by decide +kernel⟩
noncomputable abbrev n_load:List Str:=["desk","arguments","row"]
theorem sc_load:FnScope n_load ["desk","arguments"] (defScope s_load):=⟨rfl,rfl,rfl,by decide +kernel,rfl,by decide +kernel,by decide +kernel⟩
noncomputable abbrev n_hold:List Str:=["desk","arguments","octets","numbers"]
theorem sc_hold:FnScope n_hold ["desk","arguments"] (defScope s_hold):=⟨rfl,rfl,rfl,by decide +kernel,rfl,by decide +kernel,by decide +kernel⟩
noncomputable abbrev n_tell_tree:List Str:=["desk","arguments"]
theorem sc_tell_tree:FnScope n_tell_tree ["desk","arguments"] (defScope s_tell_tree):=⟨rfl,rfl,rfl,by decide +kernel,rfl,by decide +kernel,by decide +kernel⟩
noncomputable abbrev n_tell_text:List Str:=["desk","arguments"]
theorem sc_tell_text:FnScope n_tell_text ["desk","arguments"] (defScope s_tell_text):=⟨rfl,rfl,rfl,by decide +kernel,rfl,by decide +kernel,by decide +kernel⟩
noncomputable abbrev n_tell_kids:List Str:=["desk","arguments"]
theorem sc_tell_kids:FnScope n_tell_kids ["desk","arguments"] (defScope s_tell_kids):=⟨rfl,rfl,rfl,by decide +kernel,rfl,by decide +kernel,by decide +kernel⟩
noncomputable abbrev n_tell_up:List Str:=["desk","arguments","held"]
theorem sc_tell_up:FnScope n_tell_up ["desk","arguments"] (defScope s_tell_up):=⟨rfl,rfl,rfl,by decide +kernel,rfl,by decide +kernel,by decide +kernel⟩
noncomputable abbrev n_tell_piece:List Str:=["desk","arguments","held","node"]
theorem sc_tell_piece:FnScope n_tell_piece ["desk","arguments"] (defScope s_tell_piece):=⟨rfl,rfl,rfl,by decide +kernel,rfl,by decide +kernel,by decide +kernel⟩
noncomputable abbrev n_tell_of:List Str:=["desk","arguments"]
theorem sc_tell_of:FnScope n_tell_of ["desk","arguments"] (defScope s_tell_of):=⟨rfl,rfl,rfl,by decide +kernel,rfl,by decide +kernel,by decide +kernel⟩
noncomputable abbrev n_tell_under:List Str:=["desk","arguments","held","beneath","number"]
theorem sc_tell_under:FnScope n_tell_under ["desk","arguments"] (defScope s_tell_under):=⟨rfl,rfl,rfl,by decide +kernel,rfl,by decide +kernel,by decide +kernel⟩
noncomputable abbrev n_tell_cut:List Str:=["desk","arguments","part"]
theorem sc_tell_cut:FnScope n_tell_cut ["desk","arguments"] (defScope s_tell_cut):=⟨rfl,rfl,rfl,by decide +kernel,rfl,by decide +kernel,by decide +kernel⟩
noncomputable abbrev n_put:List Str:=["desk","arguments","number","octets","numbers","held","part","changed"]
theorem sc_put:FnScope n_put ["desk","arguments"] (defScope s_put):=⟨rfl,rfl,rfl,by decide +kernel,rfl,by decide +kernel,by decide +kernel⟩
noncomputable abbrev n_swap:List Str:=["desk","arguments","held"]
theorem sc_swap:FnScope n_swap ["desk","arguments"] (defScope s_swap):=⟨rfl,rfl,rfl,by decide +kernel,rfl,by decide +kernel,by decide +kernel⟩
noncomputable abbrev n_tell_difference:List Str:=["desk","arguments","numbers","held","other"]
theorem sc_tell_difference:FnScope n_tell_difference ["desk","arguments"] (defScope s_tell_difference):=⟨rfl,rfl,rfl,by decide +kernel,rfl,by decide +kernel,by decide +kernel⟩
noncomputable abbrev n_tell_path:List Str:=["desk","arguments"]
theorem sc_tell_path:FnScope n_tell_path ["desk","arguments"] (defScope s_tell_path):=⟨rfl,rfl,rfl,by decide +kernel,rfl,by decide +kernel,by decide +kernel⟩
noncomputable abbrev n_tell_node_at:List Str:=["desk","arguments"]
theorem sc_tell_node_at:FnScope n_tell_node_at ["desk","arguments"] (defScope s_tell_node_at):=⟨rfl,rfl,rfl,by decide +kernel,rfl,by decide +kernel,by decide +kernel⟩
noncomputable abbrev n_tell_measure:List Str:=["desk","arguments","held"]
theorem sc_tell_measure:FnScope n_tell_measure ["desk","arguments"] (defScope s_tell_measure):=⟨rfl,rfl,rfl,by decide +kernel,rfl,by decide +kernel,by decide +kernel⟩
noncomputable abbrev n_undo:List Str:=["desk","arguments"]
theorem sc_undo:FnScope n_undo ["desk","arguments"] (defScope s_undo):=⟨rfl,rfl,rfl,by decide +kernel,rfl,by decide +kernel,by decide +kernel⟩
noncomputable abbrev n_read_arguments:List Str:=["reader","singles","rows","arguments","turn"]
theorem sc_read_arguments:FnScope n_read_arguments ["reader","singles","rows"] (defScope s_read_arguments):=⟨rfl,rfl,rfl,by decide +kernel,rfl,by decide +kernel,by decide +kernel⟩
noncomputable abbrev n_answer_call:List Str:=["desk","reader","call","arguments","refusal"]
theorem sc_answer_call:FnScope n_answer_call ["desk","reader"] (defScope s_answer_call):=⟨rfl,rfl,rfl,by decide +kernel,rfl,by decide +kernel,by decide +kernel⟩
noncomputable abbrev n_answers:List Str:=["calls","desk","reader","told","answer"]
theorem sc_answers:FnScope n_answers ["calls"] (defScope s_answers):=⟨rfl,rfl,rfl,by decide +kernel,rfl,by decide +kernel,by decide +kernel⟩
structure Adr where
  Node:Addr
  Node_init:Addr
  Tree:Addr
  Tree_init:Addr
  Refusal:Addr
  Refusal_init:Addr
  NumberRefused:Addr
  NumberRefused_init:Addr
  NoGrammarRow:Addr
  NoGrammarRow_init:Addr
  TooManyBytes:Addr
  TooManyBytes_init:Addr
  NoSuchRule:Addr
  NoSuchRule_init:Addr
  NoTreeHeld:Addr
  NoTreeHeld_init:Addr
  NoSuchNode:Addr
  NoSuchNode_init:Addr
  TooManyNodes:Addr
  TooManyNodes_init:Addr
  NotSuchTree:Addr
  NotSuchTree_init:Addr
  NotToBeSwapped:Addr
  NotToBeSwapped_init:Addr
  NoTreeBefore:Addr
  NoTreeBefore_init:Addr
  Reader:Addr
  Reader_init:Addr
  Reader_at_end:Addr
  Reader_take:Addr
  Reader_take_row:Addr
  Rule:Addr
  Rule_init:Addr
  Reading:Addr
  Reading_init:Addr
  Reading_await_tree:Addr
  Reading_follow:Addr
  Reading_begin_node:Addr
  Reading_await_symbols:Addr
  Reading_pass_byte:Addr
  Reading_end_node:Addr
  Desk:Addr
  Desk_init:Addr
  Desk_begin_with:Addr
  Desk_change_to:Addr
  Desk_go_back:Addr
  children:Addr
  nodes_of_rule:Addr
  beneath_rule:Addr
  number_behind:Addr
  stands_beneath:Addr
  nodes_on_longest_way:Addr
  child_places:Addr
  path_to:Addr
  node_at:Addr
  same_node:Addr
  first_difference:Addr
  moved:Addr
  cut_out:Addr
  nodes_ahead:Addr
  parents_with:Addr
  replaced:Addr
  swapped:Addr
  take_within:Addr
  read_symbol:Addr
  read_rule:Addr
  read_grammar:Addr
  read_tree:Addr
  check_none_below_zero:Addr
  check_text_with_tree:Addr
  check_node_count:Addr
  nodes_told:Addr
  tell_nodes:Addr
  tell_found:Addr
  check_rule:Addr
  held_tree:Addr
  check_node:Addr
  held_tree_with:Addr
  nonterminal_of:Addr
  check_size:Addr
  check_swap:Addr
  load:Addr
  hold:Addr
  tell_tree:Addr
  tell_text:Addr
  tell_kids:Addr
  tell_up:Addr
  tell_piece:Addr
  tell_of:Addr
  tell_under:Addr
  tell_cut:Addr
  put:Addr
  swap:Addr
  tell_difference:Addr
  tell_path:Addr
  tell_node_at:Addr
  tell_measure:Addr
  undo:Addr
  read_arguments:Addr
  answer_call:Addr
  answers:Addr
  CALLS:Addr
  CALLS_0:Addr
  CALLS_1:Addr
  CALLS_2:Addr
  CALLS_3:Addr
  CALLS_4:Addr
  CALLS_5:Addr
  CALLS_6:Addr
  CALLS_7:Addr
  CALLS_8:Addr
  CALLS_9:Addr
  CALLS_10:Addr
  CALLS_11:Addr
  CALLS_12:Addr
  CALLS_13:Addr
  CALLS_14:Addr
  CALLS_15:Addr
  CALLS_16:Addr
noncomputable def FunB (K:PySem.W.Frag) (x qual:Str) (st:Stmt) (f:Addr) (ps:List Str):Prop:=∃ fd,Fun K x qual st f fd ∧ Binds K fd ps []
theorem funB_mk {K:PySem.W.Frag} {x qual:Str} {st:Stmt} {ps:List Str} {f:Addr} {oc:Value} {od an:Option Addr} {osl:Array (Option Value)} {kV doc pm cdv ct:Value} (l:K.lookup f = some ⟨oc,od,.func (PySem.W.fnOf x qual (defArgs st) (defBody st) (defScope st) .none kV doc pm an cdv ct),osl⟩)
    (c:PySem.W.codeIn K cdv qual = true) (k:PySem.W.keepIn K (.ref f) = true) (b:∀ (us:List Value),us.length = ps.length → bindArgs (PySem.W.fnOf x qual (defArgs st) (defBody st) (defScope st) .none kV doc pm an cdv ct) ⟨us,[]⟩ = pure (ps.zip us)):FunB K x qual st f ps :=
  ⟨_,fun_mk l c k,.all b⟩
theorem FunB.kp {K:PySem.W.Frag} {x qual:Str} {st:Stmt} {f:Addr} {ps:List Str} (F:FunB K x qual st f ps):PySem.W.keepIn K (.ref f) = true:=let ⟨_,F,_⟩:=F; F.kp
noncomputable def Ok (P:Program) (w:World) (K:PySem.W.Frag) (mg:Str → Option Value) (base:Heap) (k:Nat) (f:Addr) (ps:List Str) (sp:Sp):Prop:=∃ fd,FnOk P w K mg base (CXE P w) k f fd ps sp ∧ Binds K fd ps []
theorem FunB.ok {P:Program} {w:World} {K:PySem.W.Frag} {mg:Str → Option Value} {base:Heap} {x qual:Str} {st:Stmt} {f:Addr} {N ps:List Str} {k:Nat} {sp:Sp} (F:FunB K x qual st f ps) (S:FnScope N ps (defScope st)) (len:∀ vs H Q E,sp vs H Q E → vs.length = ps.length)
    (hbody:∀ (cdv:Value) (A:Around) (outer:List Env) (s:Shared) (H:Hp) (vs:List V) (Q:VK) (E:XK),Room k (A.deeper (envOfC qual (defScope st) s.heap.objs.size f cdv)) → sp vs H Q E →
      ∃ t,PSs (cxOf CX0 P w K mg base N qual (defScope st) f cdv A outer s H E).nox (defBody st) t ∧ t { nx:=fun _ H' => Q .non H',rt:=Q } (start N vs) H):Ok P w K mg base (k + 1) f ps sp :=
  let ⟨fd,F,b⟩:=F
  ⟨fd,(F.ok S len hbody).calm,b⟩
theorem FunB.okX {P:Program} {w:World} {K:PySem.W.Frag} {mg:Str → Option Value} {base:Heap} {x qual:Str} {st:Stmt} {f:Addr} {N ps:List Str} {k:Nat} {sp:Sp} (F:FunB K x qual st f ps) (S:FnScope N ps (defScope st)) (len:∀ vs H Q E,sp vs H Q E → vs.length = ps.length)
    (hbody:∀ (X:Cx) (cdv:Value) (A:Around) (outer:List Env) (s:Shared) (H:Hp) (vs:List V) (Q:VK) (E:XK),X = cxOf (CXE P w) P w K mg base N qual (defScope st) f cdv A outer s H E → Room k X.A → XOk X E → PassesOwn (model P w) X.A X.env X.xe → sp vs H Q E →
      ∃ t,PSs X (defBody st) t ∧ t { nx:=fun _ H' => Q .non H',rt:=Q } (start N vs) H):Ok P w K mg base (k + 1) f ps sp :=
  let ⟨fd,F,b⟩:=F
  ⟨fd,F.okX S len hbody,b⟩
noncomputable def tupIn (K:PySem.W.Frag) (a:Addr) (vs:List V):Bool:=match K.lookup a with
  | some ⟨.type "tuple",_,.seq its _,_⟩ => decide (its.size ≤ 1000) && decide (its.toList.map absV = vs.map some)
  | _ => false
theorem vals_of_abs:∀ {us:List Value} {vs:List V},us.map absV = vs.map some → Vals vs us
  | [],[],_ => .nil
  | [],_ :: _,e => by cases e
  | _ :: _,[],e => by cases e
  | u :: us,v :: vs,e => by
    rw [List.map_cons,List.map_cons] at e
    injection e with e1 e2
    refine .cons ?_ (vals_of_abs e2)
    cases u with
    | none => cases e1; rfl
    | bool b => cases e1; rfl
    | int i t => cases e1; exact ⟨t,rfl⟩
    | str x t => cases e1; exact ⟨t,rfl⟩
    | bytes b t => cases e1; exact ⟨t,rfl⟩
    | float b t => cases e1; exact ⟨t,rfl⟩
    | ref a => cases e1; rfl
    | type n => cases e1; rfl
    | _ => cases e1
theorem sqT_of {K:PySem.W.Frag} {H:Hp} {a:Addr} {vs:List V} (e:tupIn K a vs = true):SqT K H a vs:=by
  unfold tupIn at e
  split at e
  · rename_i d its n sl ho
    obtain ⟨e1,e2⟩:=Bool.and_eq_true_iff.mp e
    exact .inr ⟨_,its,n,ho,rfl,rfl,Nat.le_trans (of_decide_eq_true e1) (by decide),vals_of_abs (of_decide_eq_true e2)⟩
  · cases e
structure Txt (K:PySem.W.Frag) (mg:Str → Option Value) (a:Adr):Prop where
  g_Node:mg "Node" = some (.ref a.Node)
  f_Node_init:FunB K "__init__" "Node.__init__" s_Node_init a.Node_init ["self","rule","begin","end"]
  c_Node:Cls K a.Node
  mk_Node:Mk K a.Node a.Node_init
  n_Node_rule:NoAttr K a.Node "rule"
  n_Node_begin:NoAttr K a.Node "begin"
  n_Node_end:NoAttr K a.Node "end"
  g_Tree:mg "Tree" = some (.ref a.Tree)
  f_Tree_init:FunB K "__init__" "Tree.__init__" s_Tree_init a.Tree_init ["self","octets","nodes","parents"]
  c_Tree:Cls K a.Tree
  mk_Tree:Mk K a.Tree a.Tree_init
  n_Tree_octets:NoAttr K a.Tree "octets"
  n_Tree_nodes:NoAttr K a.Tree "nodes"
  n_Tree_parents:NoAttr K a.Tree "parents"
  g_Refusal:mg "Refusal" = some (.ref a.Refusal)
  f_Refusal_init:FunB K "__init__" "Refusal.__init__" s_Refusal_init a.Refusal_init ["self","number"]
  x_Refusal:XCls K a.Refusal "number"
  xm_Refusal:XMk K a.Refusal a.Refusal_init
  r_Refusal:ClsM K a.Refusal "__init__" a.Refusal_init
  sub_Refusal:PySem.W.subIn K (.ref a.Refusal) (.ref a.Refusal) = some true
  g_NumberRefused:mg "NumberRefused" = some (.ref a.NumberRefused)
  f_NumberRefused_init:FunB K "__init__" "NumberRefused.__init__" s_NumberRefused_init a.NumberRefused_init ["self"]
  x_NumberRefused:XCls K a.NumberRefused "number"
  xm_NumberRefused:XMk K a.NumberRefused a.NumberRefused_init
  sub_NumberRefused:PySem.W.subIn K (.ref a.NumberRefused) (.ref a.Refusal) = some true
  g_NoGrammarRow:mg "NoGrammarRow" = some (.ref a.NoGrammarRow)
  f_NoGrammarRow_init:FunB K "__init__" "NoGrammarRow.__init__" s_NoGrammarRow_init a.NoGrammarRow_init ["self"]
  x_NoGrammarRow:XCls K a.NoGrammarRow "number"
  xm_NoGrammarRow:XMk K a.NoGrammarRow a.NoGrammarRow_init
  sub_NoGrammarRow:PySem.W.subIn K (.ref a.NoGrammarRow) (.ref a.Refusal) = some true
  g_TooManyBytes:mg "TooManyBytes" = some (.ref a.TooManyBytes)
  f_TooManyBytes_init:FunB K "__init__" "TooManyBytes.__init__" s_TooManyBytes_init a.TooManyBytes_init ["self"]
  x_TooManyBytes:XCls K a.TooManyBytes "number"
  xm_TooManyBytes:XMk K a.TooManyBytes a.TooManyBytes_init
  sub_TooManyBytes:PySem.W.subIn K (.ref a.TooManyBytes) (.ref a.Refusal) = some true
  g_NoSuchRule:mg "NoSuchRule" = some (.ref a.NoSuchRule)
  f_NoSuchRule_init:FunB K "__init__" "NoSuchRule.__init__" s_NoSuchRule_init a.NoSuchRule_init ["self"]
  x_NoSuchRule:XCls K a.NoSuchRule "number"
  xm_NoSuchRule:XMk K a.NoSuchRule a.NoSuchRule_init
  sub_NoSuchRule:PySem.W.subIn K (.ref a.NoSuchRule) (.ref a.Refusal) = some true
  g_NoTreeHeld:mg "NoTreeHeld" = some (.ref a.NoTreeHeld)
  f_NoTreeHeld_init:FunB K "__init__" "NoTreeHeld.__init__" s_NoTreeHeld_init a.NoTreeHeld_init ["self"]
  x_NoTreeHeld:XCls K a.NoTreeHeld "number"
  xm_NoTreeHeld:XMk K a.NoTreeHeld a.NoTreeHeld_init
  sub_NoTreeHeld:PySem.W.subIn K (.ref a.NoTreeHeld) (.ref a.Refusal) = some true
  g_NoSuchNode:mg "NoSuchNode" = some (.ref a.NoSuchNode)
  f_NoSuchNode_init:FunB K "__init__" "NoSuchNode.__init__" s_NoSuchNode_init a.NoSuchNode_init ["self"]
  x_NoSuchNode:XCls K a.NoSuchNode "number"
  xm_NoSuchNode:XMk K a.NoSuchNode a.NoSuchNode_init
  sub_NoSuchNode:PySem.W.subIn K (.ref a.NoSuchNode) (.ref a.Refusal) = some true
  g_TooManyNodes:mg "TooManyNodes" = some (.ref a.TooManyNodes)
  f_TooManyNodes_init:FunB K "__init__" "TooManyNodes.__init__" s_TooManyNodes_init a.TooManyNodes_init ["self"]
  x_TooManyNodes:XCls K a.TooManyNodes "number"
  xm_TooManyNodes:XMk K a.TooManyNodes a.TooManyNodes_init
  sub_TooManyNodes:PySem.W.subIn K (.ref a.TooManyNodes) (.ref a.Refusal) = some true
  g_NotSuchTree:mg "NotSuchTree" = some (.ref a.NotSuchTree)
  f_NotSuchTree_init:FunB K "__init__" "NotSuchTree.__init__" s_NotSuchTree_init a.NotSuchTree_init ["self"]
  x_NotSuchTree:XCls K a.NotSuchTree "number"
  xm_NotSuchTree:XMk K a.NotSuchTree a.NotSuchTree_init
  sub_NotSuchTree:PySem.W.subIn K (.ref a.NotSuchTree) (.ref a.Refusal) = some true
  g_NotToBeSwapped:mg "NotToBeSwapped" = some (.ref a.NotToBeSwapped)
  f_NotToBeSwapped_init:FunB K "__init__" "NotToBeSwapped.__init__" s_NotToBeSwapped_init a.NotToBeSwapped_init ["self"]
  x_NotToBeSwapped:XCls K a.NotToBeSwapped "number"
  xm_NotToBeSwapped:XMk K a.NotToBeSwapped a.NotToBeSwapped_init
  sub_NotToBeSwapped:PySem.W.subIn K (.ref a.NotToBeSwapped) (.ref a.Refusal) = some true
  g_NoTreeBefore:mg "NoTreeBefore" = some (.ref a.NoTreeBefore)
  f_NoTreeBefore_init:FunB K "__init__" "NoTreeBefore.__init__" s_NoTreeBefore_init a.NoTreeBefore_init ["self"]
  x_NoTreeBefore:XCls K a.NoTreeBefore "number"
  xm_NoTreeBefore:XMk K a.NoTreeBefore a.NoTreeBefore_init
  sub_NoTreeBefore:PySem.W.subIn K (.ref a.NoTreeBefore) (.ref a.Refusal) = some true
  g_Reader:mg "Reader" = some (.ref a.Reader)
  f_Reader_init:FunB K "__init__" "Reader.__init__" s_Reader_init a.Reader_init ["self","numbers"]
  f_Reader_at_end:FunB K "at_end" "Reader.at_end" s_Reader_at_end a.Reader_at_end ["self"]
  f_Reader_take:FunB K "take" "Reader.take" s_Reader_take a.Reader_take ["self"]
  f_Reader_take_row:FunB K "take_row" "Reader.take_row" s_Reader_take_row a.Reader_take_row ["self"]
  c_Reader:Cls K a.Reader
  mk_Reader:Mk K a.Reader a.Reader_init
  m_Reader_at_end:Meth K a.Reader "at_end" a.Reader_at_end
  m_Reader_take:Meth K a.Reader "take" a.Reader_take
  m_Reader_take_row:Meth K a.Reader "take_row" a.Reader_take_row
  n_Reader_numbers:NoAttr K a.Reader "numbers"
  n_Reader_place:NoAttr K a.Reader "place"
  g_Rule:mg "Rule" = some (.ref a.Rule)
  f_Rule_init:FunB K "__init__" "Rule.__init__" s_Rule_init a.Rule_init ["self","nonterminal","symbols"]
  c_Rule:Cls K a.Rule
  mk_Rule:Mk K a.Rule a.Rule_init
  n_Rule_nonterminal:NoAttr K a.Rule "nonterminal"
  n_Rule_symbols:NoAttr K a.Rule "symbols"
  g_Reading:mg "Reading" = some (.ref a.Reading)
  f_Reading_init:FunB K "__init__" "Reading.__init__" s_Reading_init a.Reading_init ["self","rules","octets","nodes"]
  f_Reading_await_tree:FunB K "await_tree" "Reading.await_tree" s_Reading_await_tree a.Reading_await_tree ["self","nonterminal","parent"]
  f_Reading_follow:FunB K "follow" "Reading.follow" s_Reading_follow a.Reading_follow ["self"]
  f_Reading_begin_node:FunB K "begin_node" "Reading.begin_node" s_Reading_begin_node a.Reading_begin_node ["self","nonterminal","parent"]
  f_Reading_await_symbols:FunB K "await_symbols" "Reading.await_symbols" s_Reading_await_symbols a.Reading_await_symbols ["self","symbols","number"]
  f_Reading_pass_byte:FunB K "pass_byte" "Reading.pass_byte" s_Reading_pass_byte a.Reading_pass_byte ["self","low","high"]
  f_Reading_end_node:FunB K "end_node" "Reading.end_node" s_Reading_end_node a.Reading_end_node ["self","number"]
  c_Reading:Cls K a.Reading
  mk_Reading:Mk K a.Reading a.Reading_init
  m_Reading_await_tree:Meth K a.Reading "await_tree" a.Reading_await_tree
  m_Reading_follow:Meth K a.Reading "follow" a.Reading_follow
  m_Reading_begin_node:Meth K a.Reading "begin_node" a.Reading_begin_node
  m_Reading_await_symbols:Meth K a.Reading "await_symbols" a.Reading_await_symbols
  m_Reading_pass_byte:Meth K a.Reading "pass_byte" a.Reading_pass_byte
  m_Reading_end_node:Meth K a.Reading "end_node" a.Reading_end_node
  n_Reading_rules:NoAttr K a.Reading "rules"
  n_Reading_octets:NoAttr K a.Reading "octets"
  n_Reading_nodes:NoAttr K a.Reading "nodes"
  n_Reading_parents:NoAttr K a.Reading "parents"
  n_Reading_place:NoAttr K a.Reading "place"
  n_Reading_awaited:NoAttr K a.Reading "awaited"
  g_Desk:mg "Desk" = some (.ref a.Desk)
  f_Desk_init:FunB K "__init__" "Desk.__init__" s_Desk_init a.Desk_init ["self"]
  f_Desk_begin_with:FunB K "begin_with" "Desk.begin_with" s_Desk_begin_with a.Desk_begin_with ["self","tree"]
  f_Desk_change_to:FunB K "change_to" "Desk.change_to" s_Desk_change_to a.Desk_change_to ["self","tree"]
  f_Desk_go_back:FunB K "go_back" "Desk.go_back" s_Desk_go_back a.Desk_go_back ["self"]
  c_Desk:Cls K a.Desk
  mk_Desk:Mk K a.Desk a.Desk_init
  m_Desk_begin_with:Meth K a.Desk "begin_with" a.Desk_begin_with
  m_Desk_change_to:Meth K a.Desk "change_to" a.Desk_change_to
  m_Desk_go_back:Meth K a.Desk "go_back" a.Desk_go_back
  n_Desk_rules:NoAttr K a.Desk "rules"
  n_Desk_tree:NoAttr K a.Desk "tree"
  n_Desk_before:NoAttr K a.Desk "before"
  g_children:mg "children" = some (.ref a.children)
  f_children:FunB K "children" "children" s_children a.children ["tree","number"]
  g_nodes_of_rule:mg "nodes_of_rule" = some (.ref a.nodes_of_rule)
  f_nodes_of_rule:FunB K "nodes_of_rule" "nodes_of_rule" s_nodes_of_rule a.nodes_of_rule ["tree","rule"]
  g_beneath_rule:mg "beneath_rule" = some (.ref a.beneath_rule)
  f_beneath_rule:FunB K "beneath_rule" "beneath_rule" s_beneath_rule a.beneath_rule ["tree","rule"]
  g_number_behind:mg "number_behind" = some (.ref a.number_behind)
  f_number_behind:FunB K "number_behind" "number_behind" s_number_behind a.number_behind ["tree","number"]
  g_stands_beneath:mg "stands_beneath" = some (.ref a.stands_beneath)
  f_stands_beneath:FunB K "stands_beneath" "stands_beneath" s_stands_beneath a.stands_beneath ["tree","lower","upper"]
  g_nodes_on_longest_way:mg "nodes_on_longest_way" = some (.ref a.nodes_on_longest_way)
  f_nodes_on_longest_way:FunB K "nodes_on_longest_way" "nodes_on_longest_way" s_nodes_on_longest_way a.nodes_on_longest_way ["tree","number"]
  g_child_places:mg "child_places" = some (.ref a.child_places)
  f_child_places:FunB K "child_places" "child_places" s_child_places a.child_places ["tree"]
  g_path_to:mg "path_to" = some (.ref a.path_to)
  f_path_to:FunB K "path_to" "path_to" s_path_to a.path_to ["tree","number"]
  g_node_at:mg "node_at" = some (.ref a.node_at)
  f_node_at:FunB K "node_at" "node_at" s_node_at a.node_at ["tree","path"]
  g_same_node:mg "same_node" = some (.ref a.same_node)
  f_same_node:FunB K "same_node" "same_node" s_same_node a.same_node ["one","other"]
  g_first_difference:mg "first_difference" = some (.ref a.first_difference)
  f_first_difference:FunB K "first_difference" "first_difference" s_first_difference a.first_difference ["one","other"]
  g_moved:mg "moved" = some (.ref a.moved)
  f_moved:FunB K "moved" "moved" s_moved a.moved ["nodes","distance"]
  g_cut_out:mg "cut_out" = some (.ref a.cut_out)
  f_cut_out:FunB K "cut_out" "cut_out" s_cut_out a.cut_out ["tree","number"]
  g_nodes_ahead:mg "nodes_ahead" = some (.ref a.nodes_ahead)
  f_nodes_ahead:FunB K "nodes_ahead" "nodes_ahead" s_nodes_ahead a.nodes_ahead ["tree","number","longer"]
  g_parents_with:mg "parents_with" = some (.ref a.parents_with)
  f_parents_with:FunB K "parents_with" "parents_with" s_parents_with a.parents_with ["tree","number","part"]
  g_replaced:mg "replaced" = some (.ref a.replaced)
  f_replaced:FunB K "replaced" "replaced" s_replaced a.replaced ["tree","number","part"]
  g_swapped:mg "swapped" = some (.ref a.swapped)
  f_swapped:FunB K "swapped" "swapped" s_swapped a.swapped ["tree","one","other"]
  g_take_within:mg "take_within" = some (.ref a.take_within)
  f_take_within:FunB K "take_within" "take_within" s_take_within a.take_within ["reader","low","high"]
  g_read_symbol:mg "read_symbol" = some (.ref a.read_symbol)
  f_read_symbol:FunB K "read_symbol" "read_symbol" s_read_symbol a.read_symbol ["reader","nonterminals"]
  g_read_rule:mg "read_rule" = some (.ref a.read_rule)
  f_read_rule:FunB K "read_rule" "read_rule" s_read_rule a.read_rule ["reader","nonterminals"]
  g_read_grammar:mg "read_grammar" = some (.ref a.read_grammar)
  f_read_grammar:FunB K "read_grammar" "read_grammar" s_read_grammar a.read_grammar ["row"]
  g_read_tree:mg "read_tree" = some (.ref a.read_tree)
  f_read_tree:FunB K "read_tree" "read_tree" s_read_tree a.read_tree ["rules","nonterminal","octets","nodes"]
  g_check_none_below_zero:mg "check_none_below_zero" = some (.ref a.check_none_below_zero)
  f_check_none_below_zero:FunB K "check_none_below_zero" "check_none_below_zero" s_check_none_below_zero a.check_none_below_zero ["numbers"]
  g_check_text_with_tree:mg "check_text_with_tree" = some (.ref a.check_text_with_tree)
  f_check_text_with_tree:FunB K "check_text_with_tree" "check_text_with_tree" s_check_text_with_tree a.check_text_with_tree ["octets","numbers"]
  g_check_node_count:mg "check_node_count" = some (.ref a.check_node_count)
  f_check_node_count:FunB K "check_node_count" "check_node_count" s_check_node_count a.check_node_count ["numbers"]
  g_nodes_told:mg "nodes_told" = some (.ref a.nodes_told)
  f_nodes_told:FunB K "nodes_told" "nodes_told" s_nodes_told a.nodes_told ["numbers"]
  g_tell_nodes:mg "tell_nodes" = some (.ref a.tell_nodes)
  f_tell_nodes:FunB K "tell_nodes" "tell_nodes" s_tell_nodes a.tell_nodes ["nodes"]
  g_tell_found:mg "tell_found" = some (.ref a.tell_found)
  f_tell_found:FunB K "tell_found" "tell_found" s_tell_found a.tell_found ["number"]
  g_check_rule:mg "check_rule" = some (.ref a.check_rule)
  f_check_rule:FunB K "check_rule" "check_rule" s_check_rule a.check_rule ["desk","rule"]
  g_held_tree:mg "held_tree" = some (.ref a.held_tree)
  f_held_tree:FunB K "held_tree" "held_tree" s_held_tree a.held_tree ["desk"]
  g_check_node:mg "check_node" = some (.ref a.check_node)
  f_check_node:FunB K "check_node" "check_node" s_check_node a.check_node ["held","number"]
  g_held_tree_with:mg "held_tree_with" = some (.ref a.held_tree_with)
  f_held_tree_with:FunB K "held_tree_with" "held_tree_with" s_held_tree_with a.held_tree_with ["desk","number"]
  g_nonterminal_of:mg "nonterminal_of" = some (.ref a.nonterminal_of)
  f_nonterminal_of:FunB K "nonterminal_of" "nonterminal_of" s_nonterminal_of a.nonterminal_of ["desk","number"]
  g_check_size:mg "check_size" = some (.ref a.check_size)
  f_check_size:FunB K "check_size" "check_size" s_check_size a.check_size ["tree"]
  g_check_swap:mg "check_swap" = some (.ref a.check_swap)
  f_check_swap:FunB K "check_swap" "check_swap" s_check_swap a.check_swap ["desk","one","other"]
  g_load:mg "load" = some (.ref a.load)
  f_load:FunB K "load" "load" s_load a.load ["desk","arguments"]
  g_hold:mg "hold" = some (.ref a.hold)
  f_hold:FunB K "hold" "hold" s_hold a.hold ["desk","arguments"]
  g_tell_tree:mg "tell_tree" = some (.ref a.tell_tree)
  f_tell_tree:FunB K "tell_tree" "tell_tree" s_tell_tree a.tell_tree ["desk","arguments"]
  g_tell_text:mg "tell_text" = some (.ref a.tell_text)
  f_tell_text:FunB K "tell_text" "tell_text" s_tell_text a.tell_text ["desk","arguments"]
  g_tell_kids:mg "tell_kids" = some (.ref a.tell_kids)
  f_tell_kids:FunB K "tell_kids" "tell_kids" s_tell_kids a.tell_kids ["desk","arguments"]
  g_tell_up:mg "tell_up" = some (.ref a.tell_up)
  f_tell_up:FunB K "tell_up" "tell_up" s_tell_up a.tell_up ["desk","arguments"]
  g_tell_piece:mg "tell_piece" = some (.ref a.tell_piece)
  f_tell_piece:FunB K "tell_piece" "tell_piece" s_tell_piece a.tell_piece ["desk","arguments"]
  g_tell_of:mg "tell_of" = some (.ref a.tell_of)
  f_tell_of:FunB K "tell_of" "tell_of" s_tell_of a.tell_of ["desk","arguments"]
  g_tell_under:mg "tell_under" = some (.ref a.tell_under)
  f_tell_under:FunB K "tell_under" "tell_under" s_tell_under a.tell_under ["desk","arguments"]
  g_tell_cut:mg "tell_cut" = some (.ref a.tell_cut)
  f_tell_cut:FunB K "tell_cut" "tell_cut" s_tell_cut a.tell_cut ["desk","arguments"]
  g_put:mg "put" = some (.ref a.put)
  f_put:FunB K "put" "put" s_put a.put ["desk","arguments"]
  g_swap:mg "swap" = some (.ref a.swap)
  f_swap:FunB K "swap" "swap" s_swap a.swap ["desk","arguments"]
  g_tell_difference:mg "tell_difference" = some (.ref a.tell_difference)
  f_tell_difference:FunB K "tell_difference" "tell_difference" s_tell_difference a.tell_difference ["desk","arguments"]
  g_tell_path:mg "tell_path" = some (.ref a.tell_path)
  f_tell_path:FunB K "tell_path" "tell_path" s_tell_path a.tell_path ["desk","arguments"]
  g_tell_node_at:mg "tell_node_at" = some (.ref a.tell_node_at)
  f_tell_node_at:FunB K "tell_node_at" "tell_node_at" s_tell_node_at a.tell_node_at ["desk","arguments"]
  g_tell_measure:mg "tell_measure" = some (.ref a.tell_measure)
  f_tell_measure:FunB K "tell_measure" "tell_measure" s_tell_measure a.tell_measure ["desk","arguments"]
  g_undo:mg "undo" = some (.ref a.undo)
  f_undo:FunB K "undo" "undo" s_undo a.undo ["desk","arguments"]
  g_read_arguments:mg "read_arguments" = some (.ref a.read_arguments)
  f_read_arguments:FunB K "read_arguments" "read_arguments" s_read_arguments a.read_arguments ["reader","singles","rows"]
  g_answer_call:mg "answer_call" = some (.ref a.answer_call)
  f_answer_call:FunB K "answer_call" "answer_call" s_answer_call a.answer_call ["desk","reader"]
  g_answers:mg "answers" = some (.ref a.answers)
  f_answers:FunB K "answers" "answers" s_answers a.answers ["calls"]
  k_MOST_NONTERMINALS:∃ u,mg "MOST_NONTERMINALS" = some u ∧ RelV (.int 20) u
  k_MOST_RULES:∃ u,mg "MOST_RULES" = some u ∧ RelV (.int 60) u
  k_MOST_SYMBOLS:∃ u,mg "MOST_SYMBOLS" = some u ∧ RelV (.int 8) u
  k_HIGHEST_BYTE:∃ u,mg "HIGHEST_BYTE" = some u ∧ RelV (.int 255) u
  k_START:∃ u,mg "START" = some u ∧ RelV (.int 0) u
  k_NONTERMINAL:∃ u,mg "NONTERMINAL" = some u ∧ RelV (.int 0) u
  k_RANGE:∃ u,mg "RANGE" = some u ∧ RelV (.int 1) u
  k_NODE_END:∃ u,mg "NODE_END" = some u ∧ RelV (.int 2) u
  k_MOST_BYTES:∃ u,mg "MOST_BYTES" = some u ∧ RelV (.int 24) u
  k_MOST_NODES:∃ u,mg "MOST_NODES" = some u ∧ RelV (.int 500) u
  k_MOST_BEFORE:∃ u,mg "MOST_BEFORE" = some u ∧ RelV (.int 16) u
  b_len:mg "len" = none
  b_min:mg "min" = none
  b_max:mg "max" = none
  b_range:mg "range" = none
  b_reversed:mg "reversed" = none
  b_enumerate:mg "enumerate" = none
  g_CALLS:mg "CALLS" = some (.ref a.CALLS)
  d_CALLS:intDictIn K a.CALLS = true
  e_CALLS_0:intDictGet K a.CALLS 0 = some (.ref a.CALLS_0)
  t_CALLS_0:tupIn K a.CALLS_0 [V.ref a.load,V.int 0,V.int 1] = true
  e_CALLS_1:intDictGet K a.CALLS 1 = some (.ref a.CALLS_1)
  t_CALLS_1:tupIn K a.CALLS_1 [V.ref a.hold,V.int 0,V.int 2] = true
  e_CALLS_2:intDictGet K a.CALLS 2 = some (.ref a.CALLS_2)
  t_CALLS_2:tupIn K a.CALLS_2 [V.ref a.tell_tree,V.int 0,V.int 0] = true
  e_CALLS_3:intDictGet K a.CALLS 3 = some (.ref a.CALLS_3)
  t_CALLS_3:tupIn K a.CALLS_3 [V.ref a.tell_text,V.int 0,V.int 0] = true
  e_CALLS_4:intDictGet K a.CALLS 4 = some (.ref a.CALLS_4)
  t_CALLS_4:tupIn K a.CALLS_4 [V.ref a.tell_kids,V.int 1,V.int 0] = true
  e_CALLS_5:intDictGet K a.CALLS 5 = some (.ref a.CALLS_5)
  t_CALLS_5:tupIn K a.CALLS_5 [V.ref a.tell_up,V.int 1,V.int 0] = true
  e_CALLS_6:intDictGet K a.CALLS 6 = some (.ref a.CALLS_6)
  t_CALLS_6:tupIn K a.CALLS_6 [V.ref a.tell_piece,V.int 1,V.int 0] = true
  e_CALLS_7:intDictGet K a.CALLS 7 = some (.ref a.CALLS_7)
  t_CALLS_7:tupIn K a.CALLS_7 [V.ref a.tell_of,V.int 1,V.int 0] = true
  e_CALLS_8:intDictGet K a.CALLS 8 = some (.ref a.CALLS_8)
  t_CALLS_8:tupIn K a.CALLS_8 [V.ref a.tell_under,V.int 2,V.int 0] = true
  e_CALLS_9:intDictGet K a.CALLS 9 = some (.ref a.CALLS_9)
  t_CALLS_9:tupIn K a.CALLS_9 [V.ref a.tell_cut,V.int 1,V.int 0] = true
  e_CALLS_10:intDictGet K a.CALLS 10 = some (.ref a.CALLS_10)
  t_CALLS_10:tupIn K a.CALLS_10 [V.ref a.put,V.int 1,V.int 2] = true
  e_CALLS_11:intDictGet K a.CALLS 11 = some (.ref a.CALLS_11)
  t_CALLS_11:tupIn K a.CALLS_11 [V.ref a.swap,V.int 2,V.int 0] = true
  e_CALLS_12:intDictGet K a.CALLS 12 = some (.ref a.CALLS_12)
  t_CALLS_12:tupIn K a.CALLS_12 [V.ref a.tell_difference,V.int 0,V.int 1] = true
  e_CALLS_13:intDictGet K a.CALLS 13 = some (.ref a.CALLS_13)
  t_CALLS_13:tupIn K a.CALLS_13 [V.ref a.tell_path,V.int 1,V.int 0] = true
  e_CALLS_14:intDictGet K a.CALLS 14 = some (.ref a.CALLS_14)
  t_CALLS_14:tupIn K a.CALLS_14 [V.ref a.tell_node_at,V.int 0,V.int 1] = true
  e_CALLS_15:intDictGet K a.CALLS 15 = some (.ref a.CALLS_15)
  t_CALLS_15:tupIn K a.CALLS_15 [V.ref a.tell_measure,V.int 1,V.int 0] = true
  e_CALLS_16:intDictGet K a.CALLS 16 = some (.ref a.CALLS_16)
  t_CALLS_16:tupIn K a.CALLS_16 [V.ref a.undo,V.int 0,V.int 0] = true
end TC
namespace TC
open Vaglrc
noncomputable def readSym (n:Nat):List Nat → Option (Sym × List Nat)
  | 0 :: a :: r => if a < n then some (Sym.non a,r) else none
  | 1 :: lo :: hi :: r => if lo ≤ hi then (if hi < 256 then some (Sym.range lo hi,r) else none) else none
  | _ => none
theorem readSyms_succ (n k:Nat) (x:List Nat):readSyms n (k + 1) x = (readSym n x).bind fun p => (readSyms n k p.2).map fun y => (p.1 :: y.1,y.2):=by
  match x with
  | [] => rfl
  | [0] => rfl
  | 0 :: a :: r =>
    show (if a < n then (readSyms n k r).map (fun y => (Sym.non a :: y.1,y.2)) else none) = (if a < n then some (Sym.non a,r) else none).bind _
    split <;> rfl
  | [1] => rfl
  | [1,_] => rfl
  | 1 :: lo :: hi :: r =>
    show (if lo ≤ hi then (if hi < 256 then (readSyms n k r).map (fun y => (Sym.range lo hi :: y.1,y.2)) else none) else none) = (if lo ≤ hi then (if hi < 256 then some (Sym.range lo hi,r) else none) else none).bind _
    split
    · split <;> rfl
    · rfl
  | (j + 2) :: r => rfl
noncomputable def readRule (n:Nat):List Nat → Option (Rule × List Nat)
  | a :: m :: r => if a < n then (if m ≤ SYMS then (readSyms n m r).map (fun y => ({ lhs:=a,rhs:=y.1 },y.2)) else none) else none
  | _ => none
theorem readRules_succ (n k:Nat) (x:List Nat):readRules n (k + 1) x = (readRule n x).bind fun p => (readRules n k p.2).map fun y => (p.1 :: y.1,y.2):=by
  match x with
  | [] => rfl
  | [_] => rfl
  | a :: m :: r =>
    show (if a < n then (if m ≤ SYMS then (match readSyms n m r with
      | some y => (readRules n k y.2).map (fun z => ({ lhs:=a,rhs:=y.1 } :: z.1,z.2))
      | none => none) else none) else none) = (if a < n then (if m ≤ SYMS then (readSyms n m r).map (fun y => (({ lhs:=a,rhs:=y.1 }:Rule),y.2)) else none) else none).bind _
    split
    · split
      · cases readSyms n m r <;> rfl
      · rfl
    · rfl
noncomputable def symOk (n:Nat):Sym → Prop
  | .non a => a < n
  | .range lo hi => lo ≤ hi ∧ hi < 256
theorem readSym_ok {n:Nat} {x r:List Nat} {s:Sym} (h:readSym n x = some (s,r)):symOk n s:=by
  unfold readSym at h
  split at h
  · split at h
    · rename_i z
      cases h
      exact z
    · cases h
  · split at h
    · rename_i z1
      split at h
      · rename_i z2
        cases h
        exact ⟨z1,z2⟩
      · cases h
    · cases h
  · cases h
theorem readSyms_ok {n:Nat}:∀ {k:Nat} {x r:List Nat} {ss:List Sym},readSyms n k x = some (ss,r) → ss.length = k ∧ ∀ s ∈ ss,symOk n s
  | 0,x,r,ss,h => by
    have e:(([]:List Sym),x) = (ss,r):=Option.some.inj h
    cases e
    exact ⟨rfl,fun _ z => nomatch z⟩
  | k + 1,x,r,ss,h => by
    rw [readSyms_succ] at h
    obtain ⟨⟨s,r1⟩,h1,h2⟩:=Option.bind_eq_some_iff.mp h
    obtain ⟨⟨ss1,r2⟩,h3,h4⟩:=Option.map_eq_some_iff.mp h2
    cases h4
    obtain ⟨e1,e2⟩:=readSyms_ok h3
    exact ⟨by rw [List.length_cons]; exact congrArg (· + 1) e1,fun z hz => by
      rcases List.mem_cons.mp hz with rfl | hz
      · exact readSym_ok h1
      · exact e2 z hz⟩
structure RuleOk (n:Nat) (q:Rule):Prop where
  lhs:q.lhs < n
  len:q.rhs.length ≤ SYMS
  syms:∀ s ∈ q.rhs,symOk n s
theorem readRule_ok {n:Nat} {x r:List Nat} {q:Rule} (h:readRule n x = some (q,r)):RuleOk n q:=by
  unfold readRule at h
  split at h
  · split at h
    · rename_i z1
      split at h
      · rename_i z2
        obtain ⟨⟨ss,r2⟩,h3,h4⟩:=Option.map_eq_some_iff.mp h
        cases h4
        obtain ⟨e1,e2⟩:=readSyms_ok h3
        exact ⟨z1,by rw [e1]; exact z2,e2⟩
      · cases h
    · cases h
  · cases h
end TC
namespace TC
open Vaglrc
inductive Aw where
  | non (b:Nat) (par:Option Nat)
  | rng (lo hi:Nat)
  | fin (k:Nat)
noncomputable def awA (y:Tree):Aw → Await
  | .non b _ => .sym (.non b)
  | .rng lo hi => .sym (.range lo hi)
  | .fin k => .halt_ ((y[k]?.map fun u => u.2.2).getD 0)
noncomputable def awP:Aw → Option (Option Nat)
  | .non _ p => some p
  | _ => none
noncomputable def absA (y:Tree) (aws:List Aw):List Await:=aws.reverse.map (awA y)
noncomputable def parOf (aws:List Aw):List (Option Nat):=aws.reverse.filterMap awP
noncomputable def symAw (k:Nat):Sym → Aw
  | .non b => .non b (some k)
  | .range lo hi => .rng lo hi
noncomputable def pushed (aws:List Aw) (k:Nat) (rhs:List Sym):List Aw:=aws ++ (.fin k :: rhs.reverse.map (symAw k))
theorem awA_sym (y:Tree) (k:Nat) (s:Sym):awA y (symAw k s) = .sym s:=by cases s <;> rfl
theorem absA_pushed (y:Tree) (aws:List Aw) (k:Nat) (rhs:List Sym):absA y (pushed aws k rhs) = rhs.map Await.sym ++ (awA y (.fin k) :: absA y aws):=by
  unfold absA pushed
  rw [List.reverse_append,List.reverse_cons,← List.map_reverse,List.reverse_reverse,List.map_append,List.map_append,List.map_map]
  have e:(awA y ∘ symAw k) = Await.sym:=funext fun s => awA_sym y k s
  rw [e,List.append_assoc]
  rfl
theorem absA_snoc (y:Tree) (aws:List Aw) (w:Aw):absA y (aws ++ [w]) = awA y w :: absA y aws:=by
  unfold absA
  rw [List.reverse_append]
  rfl
theorem parOf_snoc (aws:List Aw) (w:Aw):parOf (aws ++ [w]) = (match awP w with | some p => [p] | none => []) ++ parOf aws:=by
  unfold parOf
  rw [List.reverse_append]
  show List.filterMap awP (w :: aws.reverse) = _
  rw [List.filterMap_cons]
  cases awP w <;> rfl
noncomputable def nons (l:List Sym):Nat:=(l.filter (fun s => match s with | .non _ => true | .range _ _ => false)).length
theorem kidsOf_some {g:Vaglri.Grammar} {r:Nat} {q:Rule} (h:g.rules[r]? = some q):Vaglri.kidsOf g r = nons q.rhs:=by
  unfold Vaglri.kidsOf
  rw [h]
  rfl
theorem filterMap_syms (k:Nat):∀ l:List Sym,(l.map (symAw k)).filterMap awP = List.replicate (nons l) (some k)
  | [] => rfl
  | .non b :: l => by
    show (some k) :: (l.map (symAw k)).filterMap awP = List.replicate (nons l + 1) (some k)
    rw [filterMap_syms k l]
    rfl
  | .range _ _ :: l => by
    show (l.map (symAw k)).filterMap awP = List.replicate (nons l) (some k)
    exact filterMap_syms k l
theorem parOf_pushed (aws:List Aw) (k:Nat) (rhs:List Sym):parOf (pushed aws k rhs) = List.replicate (nons rhs) (some k) ++ parOf aws:=by
  unfold parOf pushed
  rw [List.reverse_append,List.reverse_cons,← List.map_reverse,List.reverse_reverse,List.filterMap_append,List.filterMap_append,filterMap_syms]
  show _ ++ [] ++ _ = _
  rw [List.append_nil]
noncomputable def pars (g:Vaglri.Grammar):Nat → List (Option Nat) → Tree → List (Option Nat)
  | _,[],_ => []
  | _,_ :: _,[] => []
  | k,p :: st,u :: y => p :: pars g (k + 1) (List.replicate (Vaglri.kidsOf g u.1) (some k) ++ st) y
noncomputable def rstep (g:Vaglri.Grammar) (x:Text) (y:Tree) (p:Nat) (ps:List (Option Nat)) (aws:List Aw):Aw → Option (Nat × List (Option Nat) × List Aw)
  | .rng lo hi => match x[p]? with
    | some b => if lo ≤ b ∧ b ≤ hi then some (p + 1,ps,aws) else none
    | none => none
  | .fin k => if (y[k]?.map fun u => u.2.2).getD 0 = p then some (p,ps,aws) else none
  | .non b par => match y[ps.length]? with
    | none => none
    | some u => match g.rules[u.1]? with
      | none => none
      | some q => if u.2.1 = p ∧ q.lhs = b then some (p,ps ++ [par],pushed aws ps.length q.rhs) else none
theorem walk_step (g:Vaglri.Grammar) (x:Text) (y:Tree) (n p:Nat) (ps:List (Option Nat)) (aws:List Aw) (w:Aw) (F:Nat) (rest:List Await) :
    walk g x (F + 1) (absA y (aws ++ [w]) ++ rest) p (y.drop ps.length) = match rstep g x y p ps aws w with
      | some (p',ps',aws') => walk g x F (absA y aws' ++ rest) p' (y.drop ps'.length)
      | none => false:=by
  rw [absA_snoc]
  cases w with
  | rng lo hi =>
    show (if (symEnds x [] (.range lo hi) p).isEmpty then false else walk g x F (absA y aws ++ rest) (p + 1) (y.drop ps.length)) = _
    unfold symEnds rstep
    dsimp only
    cases h:x[p]? with
    | none => simp
    | some b =>
      by_cases h1:lo ≤ b
      · by_cases h2:b ≤ hi
        · simp [h1,h2]
        · simp [h1,h2]
      · simp [h1]
  | fin k =>
    show (p == (y[k]?.map fun u => u.2.2).getD 0 && walk g x F (absA y aws ++ rest) p (y.drop ps.length)) = _
    unfold rstep
    dsimp only
    by_cases h:(y[k]?.map fun u => u.2.2).getD 0 = p
    · rw [if_pos h,h]
      simp
    · rw [if_neg h]
      have:(p == (y[k]?.map fun u => u.2.2).getD 0) = false:=beq_eq_false_iff_ne.mpr (Ne.symm h)
      rw [this]
      rfl
  | non b par =>
    unfold rstep
    cases h:y[ps.length]? with
    | none =>
      have:y.drop ps.length = []:=List.drop_eq_nil_of_le (List.getElem?_eq_none_iff.mp h)
      rw [this]
      rfl
    | some u =>
      obtain ⟨h1,h2⟩:=List.getElem?_eq_some_iff.mp h
      have e:y.drop ps.length = u :: y.drop (ps.length + 1):=by rw [List.drop_eq_getElem_cons h1,h2]
      rw [e]
      show (match g.rules[u.1]? with
        | none => false
        | some q => q.lhs == b && (u.2.1 == p && walk g x F (q.rhs.map Await.sym ++ (Await.halt_ u.2.2 :: (absA y aws ++ rest))) p (y.drop (ps.length + 1)))) = _
      cases hr:g.rules[u.1]? with
      | none => simp only [hr]
      | some q =>
        simp only [hr]
        by_cases c1:q.lhs = b
        · by_cases c2:u.2.1 = p
          · rw [if_pos ⟨c2,c1⟩]
            dsimp only
            rw [absA_pushed,List.length_append]
            have e3:awA y (.fin ps.length) = .halt_ u.2.2:=by
              show Await.halt_ ((y[ps.length]?.map fun u => u.2.2).getD 0) = _
              rw [h]
              rfl
            rw [e3,c1,c2,beq_self_eq_true,beq_self_eq_true,Bool.true_and,Bool.true_and,List.append_assoc]
            rfl
          · rw [if_neg (fun z => c2 z.1)]
            have:(u.2.1 == p) = false:=beq_eq_false_iff_ne.mpr c2
            rw [this]
            simp
        · rw [if_neg (fun z => c1 z.2)]
          have:(q.lhs == b) = false:=beq_eq_false_iff_ne.mpr c1
          rw [this]
          rfl
theorem pars_step (g:Vaglri.Grammar) (x:Text) (y:Tree) {p p':Nat} {ps ps':List (Option Nat)} {aws aws':List Aw} {w:Aw} (h:rstep g x y p ps aws w = some (p',ps',aws')) (e:pars g 0 [none] y = ps ++ pars g ps.length (parOf (aws ++ [w])) (y.drop ps.length)) :
    pars g 0 [none] y = ps' ++ pars g ps'.length (parOf aws') (y.drop ps'.length):=by
  rw [parOf_snoc] at e
  unfold rstep at h
  cases w with
  | rng lo hi =>
    dsimp only at h
    split at h
    · split at h
      · cases h; exact e
      · cases h
    · cases h
  | fin k =>
    dsimp only at h
    split at h
    · cases h; exact e
    · cases h
  | non b par =>
    dsimp only at h
    cases hu:y[ps.length]? with
    | none => rw [hu] at h; cases h
    | some u =>
      rw [hu] at h
      dsimp only at h
      cases hq:g.rules[u.1]? with
      | none => rw [hq] at h; cases h
      | some q =>
        rw [hq] at h
        dsimp only at h
        split at h
        · cases h
          obtain ⟨h1,h2⟩:=List.getElem?_eq_some_iff.mp hu
          have e2:y.drop ps.length = u :: y.drop (ps.length + 1):=by rw [List.drop_eq_getElem_cons h1,h2]
          rw [e2] at e
          rw [e,parOf_pushed,List.length_append]
          show ps ++ par :: pars g (ps.length + 1) (List.replicate (Vaglri.kidsOf g u.1) (some ps.length) ++ parOf aws) (y.drop (ps.length + 1)) = _
          rw [kidsOf_some hq,List.append_assoc]
          rfl
        · cases h
noncomputable def rmeas (y:Tree) (ps:List (Option Nat)) (aws:List Aw):Nat:=aws.length + 10 * (y.length - ps.length)
theorem rstep_meas {g:Vaglri.Grammar} {x:Text} {y:Tree} {p p':Nat} {ps ps':List (Option Nat)} {aws aws':List Aw} {w:Aw} (h:rstep g x y p ps aws w = some (p',ps',aws')) (ok:∀ q ∈ g.rules,q.rhs.length ≤ 8):rmeas y ps' aws' < rmeas y ps (aws ++ [w]):=by
  unfold rmeas
  rw [List.length_append,List.length_singleton]
  unfold rstep at h
  cases w with
  | rng lo hi =>
    dsimp only at h
    split at h
    · split at h
      · cases h; omega
      · cases h
    · cases h
  | fin k =>
    dsimp only at h
    split at h
    · cases h; omega
    · cases h
  | non b par =>
    dsimp only at h
    cases hu:y[ps.length]? with
    | none => rw [hu] at h; cases h
    | some u =>
      rw [hu] at h
      dsimp only at h
      cases hq:g.rules[u.1]? with
      | none => rw [hq] at h; cases h
      | some q =>
        rw [hq] at h
        dsimp only at h
        split at h
        · cases h
          have h1:=(List.getElem?_eq_some_iff.mp hu).1
          have h2:=ok q (List.mem_of_getElem? hq)
          have e1:(pushed aws ps.length q.rhs).length = aws.length + (q.rhs.length + 1):=by
            unfold pushed
            rw [List.length_append,List.length_cons,List.length_map,List.length_reverse]
          rw [e1,List.length_append,List.length_singleton]
          omega
        · cases h
end TC
namespace TC
open Vaglrc
inductive Fo where
  | nil
  | cons (u:Used) (k r:Fo)
namespace Fo
noncomputable def fl:Fo → Tree
  | .nil => []
  | .cons u k r => u :: (fl k ++ fl r)
noncomputable def sz:Fo → Nat
  | .nil => 0
  | .cons _ k r => sz k + sz r + 1
noncomputable def roots:Fo → Nat
  | .nil => 0
  | .cons _ _ r => roots r + 1
noncomputable def Ar (g:Vaglri.Grammar):Fo → Prop
  | .nil => True
  | .cons u k r => Vaglri.kidsOf g u.1 = roots k ∧ Ar g k ∧ Ar g r
noncomputable def pr:Nat → Option Nat → Fo → List (Option Nat)
  | _,_,.nil => []
  | i,p,.cons _ k r => p :: (pr (i + 1) (some i) k ++ pr (i + 1 + sz k) p r)
noncomputable def rts:Nat → Fo → List Nat
  | _,.nil => []
  | i,.cons _ k r => i :: rts (i + 1 + sz k) r
noncomputable def node:Fo → Nat → Option (Used × Fo)
  | .nil,_ => none
  | .cons u k _,0 => some (u,k)
  | .cons _ k r,j + 1 => if j < sz k then node k j else node r (j - sz k)
theorem fl_len:∀ F:Fo,(fl F).length = sz F
  | .nil => rfl
  | .cons u k r => by
    show (fl k ++ fl r).length + 1 = _
    rw [List.length_append,fl_len k,fl_len r]
    rfl
theorem pr_len:∀ (i:Nat) (p:Option Nat) (F:Fo),(pr i p F).length = sz F
  | _,_,.nil => rfl
  | i,p,.cons u k r => by
    show (pr (i + 1) (some i) k ++ pr (i + 1 + sz k) p r).length + 1 = _
    rw [List.length_append,pr_len _ _ k,pr_len _ _ r]
    rfl
theorem node_lt:∀ {F:Fo} {j:Nat} {u:Used} {K:Fo},node F j = some (u,K) → j + 1 + sz K ≤ sz F
  | .nil,_,_,_,h => nomatch h
  | .cons u k r,0,_,_,h => by cases h; show _ ≤ sz k + sz r + 1; omega
  | .cons u k r,j + 1,v,K,h => by
    show _ ≤ sz k + sz r + 1
    unfold node at h
    split at h
    · have:=node_lt h; omega
    · have:=node_lt h; omega
theorem node_some:∀ {F:Fo} {j:Nat},j < sz F → ∃ u K,node F j = some (u,K)
  | .nil,_,h => nomatch h
  | .cons u k r,0,_ => ⟨u,k,rfl⟩
  | .cons u k r,j + 1,h => by
    have h:j + 1 < sz k + sz r + 1:=h
    unfold node
    split
    · rename_i c; exact node_some c
    · exact node_some (by omega)
theorem fl_drop:∀ {F:Fo} {j:Nat} {u:Used} {K:Fo},node F j = some (u,K) → ∃ rest,(fl F).drop j = u :: (fl K ++ rest)
  | .nil,_,_,_,h => nomatch h
  | .cons u k r,0,_,_,h => by cases h; exact ⟨fl r,rfl⟩
  | .cons u k r,j + 1,v,K,h => by
    unfold node at h
    show ∃ rest,(fl k ++ fl r).drop j = _
    split at h
    · rename_i c
      obtain ⟨rest,e⟩:=fl_drop h
      refine ⟨rest ++ fl r,?_⟩
      rw [List.drop_append_of_le_length (by rw [fl_len]; omega),e]
      simp
    · obtain ⟨rest,e⟩:=fl_drop h
      refine ⟨rest,?_⟩
      rw [List.drop_append,List.drop_eq_nil_of_le (by rw [fl_len]; omega),fl_len,e]
      rfl
theorem node_ar {g:Vaglri.Grammar}:∀ {F:Fo} {j:Nat} {u:Used} {K:Fo},Ar g F → node F j = some (u,K) → Vaglri.kidsOf g u.1 = roots K ∧ Ar g K
  | .nil,_,_,_,_,h => nomatch h
  | .cons u k r,0,_,_,a,h => by cases h; exact ⟨a.1,a.2.1⟩
  | .cons u k r,j + 1,v,K,a,h => by
    unfold node at h
    split at h
    · exact node_ar a.2.1 h
    · exact node_ar a.2.2 h
theorem fl_get {F:Fo} {j:Nat} {u:Used} {K:Fo} (h:node F j = some (u,K)):(fl F)[j]? = some u:=by
  obtain ⟨rest,e⟩:=fl_drop h
  have:=congrArg (fun l => l[0]?) e
  simpa using this
theorem node_get {F:Fo} {j:Nat} {u:Used} (h:(fl F)[j]? = some u):∃ K,node F j = some (u,K):=by
  obtain ⟨h1,_⟩:=List.getElem?_eq_some_iff.mp h
  rw [fl_len] at h1
  obtain ⟨v,K,e⟩:=node_some h1
  rw [fl_get e] at h
  cases h
  exact ⟨K,e⟩
theorem rest_fl {g:Vaglri.Grammar}:∀ {F:Fo} (n:Nat) (z:Tree),Ar g F → Vaglri.restAfter g (roots F + n) (fl F ++ z) = Vaglri.restAfter g n z
  | .nil,n,z,_ => by
    show Vaglri.restAfter g (0 + n) z = _
    rw [Nat.zero_add]
  | .cons u k r,n,z,a => by
    have e:roots (.cons u k r) + n = (roots r + n) + 1:=by show roots r + 1 + n = _; omega
    rw [e]
    show Vaglri.restAfter g (roots r + n + Vaglri.kidsOf g u.1) (fl k ++ fl r ++ z) = _
    rw [a.1,List.append_assoc,Nat.add_comm _ (roots k),rest_fl _ _ a.2.1,rest_fl _ _ a.2.2]
theorem size_at {g:Vaglri.Grammar} {y:Tree} {j:Nat} {u:Used} {K:Fo} {rest:Tree} (d:y.drop j = u :: (fl K ++ rest)) (k:Vaglri.kidsOf g u.1 = roots K) (a:Ar g K):Vaglri.sizeAt g y j = sz K + 1:=by
  unfold Vaglri.sizeAt
  rw [d]
  have e:Vaglri.restAfter g 1 (u :: (fl K ++ rest)) = rest:=by
    show Vaglri.restAfter g (0 + Vaglri.kidsOf g u.1) (fl K ++ rest) = rest
    rw [k,Nat.add_comm,rest_fl _ _ a]
    cases rest <;> rfl
  rw [e,List.length_cons,List.length_append,fl_len]
  omega
theorem row_at {g:Vaglri.Grammar} {y:Tree}:∀ {R:Fo} {j:Nat} {rest:Tree},y.drop j = fl R ++ rest → Ar g R → Vaglri.rowFrom g y (roots R) j = rts j R
  | .nil,_,_,_,_ => rfl
  | .cons u k r,j,rest,d,a => by
    show j :: Vaglri.rowFrom g y (roots r) (j + Vaglri.sizeAt g y j) = j :: rts (j + 1 + sz k) r
    have d1:y.drop j = u :: (fl k ++ (fl r ++ rest)):=by rw [d]; show u :: (fl k ++ fl r) ++ rest = _; simp
    rw [size_at d1 a.1 a.2.1]
    have e:j + (sz k + 1) = j + 1 + sz k:=by omega
    have d2:y.drop (j + 1 + sz k) = fl r ++ rest:=by
      rw [← e,← List.drop_drop,d1,List.drop_succ_cons,List.drop_append_of_le_length (by rw [fl_len]; omega),List.drop_eq_nil_of_le (by rw [fl_len]; omega)]
      rfl
    rw [e,row_at d2 a.2.2]
theorem sizeAt_node {g:Vaglri.Grammar} {F:Fo} {j:Nat} {u:Used} {K:Fo} (a:Ar g F) (h:node F j = some (u,K)):Vaglri.sizeAt g (fl F) j = sz K + 1:=by
  obtain ⟨rest,e⟩:=fl_drop h
  obtain ⟨e1,e2⟩:=node_ar a h
  exact size_at e e1 e2
theorem kidsAt_node {g:Vaglri.Grammar} {F:Fo} {j:Nat} {u:Used} {K:Fo} (a:Ar g F) (h:node F j = some (u,K)):Vaglri.kidsAt g (fl F) j = rts (j + 1) K:=by
  obtain ⟨rest,e⟩:=fl_drop h
  obtain ⟨e1,e2⟩:=node_ar a h
  unfold Vaglri.kidsAt
  rw [fl_get h]
  show Vaglri.rowFrom g (fl F) (Vaglri.kidsOf g u.1) (j + 1) = _
  rw [e1]
  refine row_at (rest:=rest) ?_ e2
  rw [← List.drop_drop,e]
  rfl
theorem pr_ge:∀ {F:Fo} {i:Nat} {p x:Option Nat},x ∈ pr i p F → x = p ∨ ∃ m,x = some m ∧ i ≤ m ∧ m < i + sz F
  | .nil,_,_,_,h => nomatch h
  | .cons u k r,i,p,x,h => by
    rcases List.mem_cons.mp h with h | h
    · exact .inl h
    · rcases List.mem_append.mp h with h | h
      · refine .inr ?_
        show ∃ m,x = some m ∧ i ≤ m ∧ m < i + (sz k + sz r + 1)
        rcases pr_ge h with h | ⟨m,h,h1,h2⟩
        · exact ⟨i,h,by omega,by omega⟩
        · exact ⟨m,h,by omega,by omega⟩
      · rcases pr_ge h with h | ⟨m,h,h1,h2⟩
        · exact .inl h
        · refine .inr ⟨m,h,by omega,?_⟩
          show m < i + (sz k + sz r + 1)
          omega
theorem pr_drop:∀ {F:Fo} {i j:Nat} {p:Option Nat} {u:Used} {K:Fo},node F j = some (u,K) → ∃ q rest,(pr i p F).drop j = q :: (pr (i + j + 1) (some (i + j)) K ++ rest) ∧
      (∀ x ∈ rest,x = p ∨ ∃ m,x = some m ∧ (m < i + j ∨ i + j + 1 + sz K ≤ m)) ∧ (∀ x,rest.head? = some x → x = p ∨ ∃ m,x = some m ∧ m < i + j) ∧ (q = p ∨ ∃ m,q = some m ∧ m < i + j)
  | .nil,_,_,_,_,_,h => nomatch h
  | .cons u k r,i,0,p,_,_,h => by
    cases h
    refine ⟨p,pr (i + 1 + sz k) p r,rfl,fun x hx => ?_,fun x hx => ?_,.inl rfl⟩
    · rcases pr_ge hx with h | ⟨m,h,h1,h2⟩
      · exact .inl h
      · exact .inr ⟨m,h,.inr (by omega)⟩
    · cases r with
      | nil => cases hx
      | cons v k2 r2 => cases hx; exact .inl rfl
  | .cons u k r,i,j + 1,p,v,K,h => by
    unfold node at h
    show ∃ q rest,(pr (i + 1) (some i) k ++ pr (i + 1 + sz k) p r).drop j = _ ∧ _
    split at h
    · rename_i c
      obtain ⟨q,rest,e,h1,h2,h3⟩:=pr_drop (i:=i + 1) (p:=some i) h
      have ej:i + 1 + j = i + (j + 1):=by omega
      have lt:=node_lt h
      rw [ej] at e
      refine ⟨q,rest ++ pr (i + 1 + sz k) p r,?_,fun x hx => ?_,fun x hx => ?_,?_⟩
      · rw [List.drop_append_of_le_length (by rw [pr_len]; omega),e]
        simp
      · rcases List.mem_append.mp hx with hx | hx
        · rcases h1 x hx with h | ⟨m,h,hm⟩
          · exact .inr ⟨i,h,.inl (by omega)⟩
          · exact .inr ⟨m,h,by omega⟩
        · rcases pr_ge hx with h | ⟨m,h,hm,_⟩
          · exact .inl h
          · exact .inr ⟨m,h,.inr (by omega)⟩
      · cases rest with
        | nil =>
          cases r with
          | nil => cases hx
          | cons v k2 r2 => cases hx; exact .inl rfl
        | cons x' rest' =>
          rcases h2 x hx with h | ⟨m,h,hm⟩
          · exact .inr ⟨i,h,by omega⟩
          · exact .inr ⟨m,h,by omega⟩
      · rcases h3 with h | ⟨m,h,hm⟩
        · exact .inr ⟨i,h,by omega⟩
        · exact .inr ⟨m,h,by omega⟩
    · rename_i c
      obtain ⟨q,rest,e,h1,h2,h3⟩:=pr_drop (i:=i + 1 + sz k) (p:=p) h
      have ej:i + 1 + sz k + (j - sz k) = i + (j + 1):=by omega
      rw [ej] at e
      refine ⟨q,rest,?_,fun x hx => ?_,fun x hx => ?_,?_⟩
      · rw [List.drop_append,List.drop_eq_nil_of_le (by rw [pr_len]; omega),pr_len,e]
        rfl
      · rcases h1 x hx with h | ⟨m,h,hm⟩
        · exact .inl h
        · exact .inr ⟨m,h,by omega⟩
      · rcases h2 x hx with h | ⟨m,h,hm⟩
        · exact .inl h
        · exact .inr ⟨m,h,by omega⟩
      · rcases h3 with h | ⟨m,h,hm⟩
        · exact .inl h
        · exact .inr ⟨m,h,by omega⟩
noncomputable def chF (k:Nat):Nat → List (Option Nat) → List Nat
  | _,[] => []
  | i,p :: ps => if p = some k then i :: chF k (i + 1) ps else chF k (i + 1) ps
theorem chF_app (k:Nat):∀ (i:Nat) (a b:List (Option Nat)),chF k i (a ++ b) = chF k i a ++ chF k (i + a.length) b
  | i,[],b => rfl
  | i,p :: a,b => by
    show (if p = some k then i :: chF k (i + 1) (a ++ b) else chF k (i + 1) (a ++ b)) = (if p = some k then i :: chF k (i + 1) a else chF k (i + 1) a) ++ chF k (i + (a.length + 1)) b
    rw [chF_app k (i + 1) a b]
    have e:i + 1 + a.length = i + (a.length + 1):=by omega
    rw [e]
    split <;> rfl
theorem chF_none {k:Nat}:∀ {i:Nat} {a:List (Option Nat)},(∀ x ∈ a,x ≠ some k) → chF k i a = []
  | i,[],_ => rfl
  | i,p :: a,h => by
    show (if p = some k then _ else chF k (i + 1) a) = []
    rw [if_neg (h p List.mem_cons_self),chF_none fun x hx => h x (List.mem_cons_of_mem _ hx)]
theorem mem_chF {k c:Nat}:∀ {i:Nat} {a:List (Option Nat)},c ∈ chF k i a ↔ i ≤ c ∧ a[c - i]? = some (some k)
  | i,[] => by simp [chF]
  | i,p :: a => by
    show c ∈ (if p = some k then i :: chF k (i + 1) a else chF k (i + 1) a) ↔ _
    by_cases hc:c = i
    · subst hc
      rw [Nat.sub_self]
      have h0:c ∉ chF k (c + 1) a:=fun h => by have:=(mem_chF.mp h).1; omega
      split
      · rename_i h; simp [h]
      · rename_i h; simp [h,h0]
    · have e:(p :: a)[c - i]? = if i ≤ c then a[c - (i + 1)]? else some p:=by
        split
        · have:c - i = (c - (i + 1)) + 1:=by omega
          rw [this]; rfl
        · have:c - i = 0:=by omega
          rw [this]; rfl
      rw [e]
      have ih:=mem_chF (k:=k) (c:=c) (i:=i + 1) (a:=a)
      have h2:c ∈ (if p = some k then i :: chF k (i + 1) a else chF k (i + 1) a) ↔ c ∈ chF k (i + 1) a:=by
        split
        · simp [hc]
        · exact Iff.rfl
      rw [h2,ih]
      constructor
      · rintro ⟨h3,h4⟩
        exact ⟨by omega,by rw [if_pos (by omega)]; exact h4⟩
      · rintro ⟨h3,h4⟩
        rw [if_pos h3] at h4
        exact ⟨by omega,h4⟩
theorem ch_own {k:Nat}:∀ {F:Fo} {i:Nat},k < i → chF k i (pr i (some k) F) = rts i F
  | .nil,_,_ => rfl
  | .cons u kk r,i,h => by
    show (if (some k:Option Nat) = some k then i :: chF k (i + 1) (pr (i + 1) (some i) kk ++ pr (i + 1 + sz kk) (some k) r) else _) = i :: rts (i + 1 + sz kk) r
    rw [if_pos rfl,chF_app,pr_len,chF_none fun x hx => ?_,List.nil_append,ch_own (by omega)]
    rcases pr_ge hx with z | ⟨m,z,hm,_⟩
    · rw [z]; intro q; cases q; omega
    · rw [z]; intro q; cases q; omega
theorem ch_at:∀ {F:Fo} {i j:Nat} {p:Option Nat} {u:Used} {K:Fo},node F j = some (u,K) → (p = none ∨ ∃ q,p = some q ∧ q < i) → chF (i + j) i (pr i p F) = rts (i + j + 1) K
  | .nil,_,_,_,_,_,h,_ => nomatch h
  | .cons u k r,i,0,p,_,_,h,hp => by
    cases h
    have np:p ≠ some i:=by
      rcases hp with z | ⟨q,z,hq⟩
      · rw [z]; simp
      · rw [z]; intro e; cases e; omega
    show (if p = some i then _ else chF i (i + 1) (pr (i + 1) (some i) k ++ pr (i + 1 + sz k) p r)) = _
    rw [if_neg np,chF_app,ch_own (by omega),pr_len,chF_none (a:=pr (i + 1 + sz k) p r) fun x hx => ?_,List.append_nil]
    rcases pr_ge hx with z | ⟨m,z,hm,_⟩
    · rw [z]; exact np
    · rw [z]; intro q; cases q; omega
  | .cons u k r,i,j + 1,p,v,K,h,hp => by
    have np:p ≠ some (i + (j + 1)):=by
      rcases hp with z | ⟨q,z,hq⟩
      · rw [z]; simp
      · rw [z]; intro e; cases e; omega
    unfold node at h
    show (if p = some (i + (j + 1)) then _ else chF (i + (j + 1)) (i + 1) (pr (i + 1) (some i) k ++ pr (i + 1 + sz k) p r)) = _
    rw [if_neg np,chF_app,pr_len]
    split at h
    · rename_i c
      have e:=ch_at (i:=i + 1) (p:=some i) h (.inr ⟨i,rfl,by omega⟩)
      have ej:i + 1 + j = i + (j + 1):=by omega
      rw [ej] at e
      rw [e,chF_none (a:=pr (i + 1 + sz k) p r) fun x hx => ?_,List.append_nil]
      rcases pr_ge hx with z | ⟨m,z,hm,_⟩
      · rw [z]; exact np
      · rw [z]; intro q; cases q; omega
    · rename_i c
      have e:=ch_at (i:=i + 1 + sz k) (p:=p) h (by
        rcases hp with z | ⟨q,z,hq⟩
        · exact .inl z
        · exact .inr ⟨q,z,by omega⟩)
      have ej:i + 1 + sz k + (j - sz k) = i + (j + 1):=by omega
      rw [ej] at e
      rw [e,chF_none (a:=pr (i + 1) (some i) k) fun x hx => ?_,List.nil_append]
      rcases pr_ge hx with z | ⟨m,z,hm,hm2⟩
      · rw [z]; intro q; injection q; omega
      · rw [z]; intro q; cases q; omega
theorem pars_fl {g:Vaglri.Grammar}:∀ {F:Fo} {k:Nat} {p:Option Nat} {st:List (Option Nat)} {z:Tree},Ar g F → pars g k (List.replicate (roots F) p ++ st) (fl F ++ z) = pr k p F ++ pars g (k + sz F) st z
  | .nil,_,_,_,_,_ => rfl
  | .cons u kk r,k,p,st,z,a => by
    show p :: pars g (k + 1) (List.replicate (Vaglri.kidsOf g u.1) (some k) ++ (List.replicate (roots r) p ++ st)) (fl kk ++ fl r ++ z) = p :: ((pr (k + 1) (some k) kk ++ pr (k + 1 + sz kk) p r) ++ pars g (k + (sz kk + sz r + 1)) st z)
    rw [a.1,List.append_assoc,pars_fl a.2.1,pars_fl a.2.2,List.append_assoc]
    have e:k + 1 + sz kk + sz r = k + (sz kk + sz r + 1):=by omega
    rw [e]
end Fo
end TC
namespace TC
open Vaglrc
namespace Fo
section
variable {g:Vaglri.Grammar} {F:Fo} {k m q j:Nat} {u:Used} {K:Fo}
noncomputable abbrev ps (F:Fo):List (Option Nat):=pr 0 none F
theorem ps_len:(ps F).length = sz F:=pr_len _ _ _
theorem get_of_drop {α:Type} {l:List α} {j t:Nat} {x:α} {r:List α} (h:l.drop j = x :: r):l[j + 1 + t]? = r[t]?:=by
  have:=congrArg (fun l => l[1 + t]?) h
  simp only [List.getElem?_drop] at this
  rw [show j + 1 + t = j + (1 + t) by omega,this,show 1 + t = t + 1 by omega]
  rfl
theorem get_drop0 {α:Type} {l:List α} {j:Nat} {x:α} {r:List α} (h:l.drop j = x :: r):l[j]? = some x:=by
  have:=congrArg (fun l => l[0]?) h
  simpa using this
theorem kids_ps (a:Ar g F) (h:k < sz F):Vaglri.kidsAt g (fl F) k = chF k 0 (ps F):=by
  obtain ⟨u,K,e⟩:=node_some h
  rw [kidsAt_node a e]
  have:=ch_at (i:=0) (p:=none) e (.inl rfl)
  rw [Nat.zero_add] at this
  exact this.symm
theorem par_lt (h:(ps F)[m]? = some (some q)):q < m:=by
  have hm:m < sz F:=by rw [← ps_len]; exact (List.getElem?_eq_some_iff.mp h).1
  obtain ⟨u,K,e⟩:=node_some hm
  obtain ⟨x,rest,d,_,_,h3⟩:=pr_drop (i:=0) (p:=none) e
  have:=get_drop0 d
  rw [show pr 0 none F = ps F from rfl,h] at this
  cases this
  rcases h3 with z | ⟨n,z,hn⟩
  · cases z
  · cases z; omega
theorem par_in (e:node F k = some (u,K)) (h1:k < m) (h2:m < k + 1 + sz K):∃ q,k ≤ q ∧ (ps F)[m]? = some (some q):=by
  obtain ⟨x,rest,d,_⟩:=pr_drop (i:=0) (p:=none) e
  rw [Nat.zero_add] at d
  have g1:=get_of_drop (t:=m - (k + 1)) d
  rw [show k + 1 + (m - (k + 1)) = m by omega,List.getElem?_append_left (by rw [pr_len]; omega)] at g1
  have hl:m - (k + 1) < (pr (k + 1) (some k) K).length:=by rw [pr_len]; omega
  rw [List.getElem?_eq_getElem hl] at g1
  have hx:=List.getElem_mem hl
  rcases pr_ge hx with z | ⟨n,z,hn,_⟩
  · exact ⟨k,Nat.le_refl _,by rw [show ps F = pr 0 none F from rfl,g1,z]⟩
  · exact ⟨n,by omega,by rw [show ps F = pr 0 none F from rfl,g1,z]⟩
theorem par_rest (e:node F k = some (u,K)) (h1:k + 1 + sz K ≤ m) {x:Option Nat} (h:(ps F)[m]? = some x):x = none ∨ ∃ q,x = some q ∧ (q < k ∨ k + 1 + sz K ≤ q):=by
  obtain ⟨y,rest,d,h2,_⟩:=pr_drop (i:=0) (p:=none) e
  rw [Nat.zero_add] at d h2
  have g1:=get_of_drop (t:=m - (k + 1)) d
  rw [show k + 1 + (m - (k + 1)) = m by omega,List.getElem?_append_right (by rw [pr_len]; omega)] at g1
  rw [show pr 0 none F = ps F from rfl,h] at g1
  exact h2 x (List.mem_of_getElem? g1.symm)
theorem par_out (e:node F k = some (u,K)) (h1:k + 1 + sz K ≤ m) (h:(ps F)[m]? = some (some q)):q < k ∨ k + 1 + sz K ≤ q:=by
  rcases par_rest e h1 h with z | ⟨n,z,hn⟩
  · cases z
  · cases z; exact hn
theorem par_next (e:node F k = some (u,K)) {x:Option Nat} (h:(ps F)[k + 1 + sz K]? = some x):x = none ∨ ∃ q,x = some q ∧ q < k:=by
  obtain ⟨y,rest,d,_,h3,_⟩:=pr_drop (i:=0) (p:=none) e
  rw [Nat.zero_add] at d h3
  have g1:=get_of_drop (t:=sz K) d
  rw [List.getElem?_append_right (by rw [pr_len]; omega),pr_len,Nat.sub_self] at g1
  rw [show pr 0 none F = ps F from rfl,h] at g1
  exact h3 x (by rw [List.head?_eq_getElem?]; exact g1.symm)
theorem root_par (h:roots F = 1) (hm:0 < m):(ps F)[m]? ≠ some none:=by
  cases F with
  | nil => cases h
  | cons u K r =>
    have hr:r = .nil:=by
      cases r with
      | nil => rfl
      | cons _ _ _ => exact absurd h (by simp [roots])
    subst hr
    intro z
    obtain ⟨m,rfl⟩:∃ t,m = t + 1:=⟨m - 1,by omega⟩
    have z:(pr 1 (some 0) K ++ [])[m]? = some none:=z
    rw [List.append_nil] at z
    rcases pr_ge (List.mem_of_getElem? z) with y | ⟨n,y,_⟩ <;> cases y
theorem within_node (a:Ar g F) (e:node F k = some (u,K)) (m:Nat):Vaglri.within g (fl F) k m = decide (k ≤ m ∧ m < k + 1 + sz K):=by
  unfold Vaglri.within
  rw [sizeAt_node a e,← Bool.decide_and]
  exact decide_eq_decide.mpr (by omega)
theorem beneath_iff (e:node F k = some (u,K)):(k < m ∧ m < k + 1 + sz K) ↔ ∃ q,(ps F)[m]? = some (some q) ∧ k ≤ q ∧ q < k + 1 + sz K:=by
  constructor
  · rintro ⟨h1,h2⟩
    obtain ⟨q,hq,z⟩:=par_in e h1 h2
    exact ⟨q,z,hq,by have:=par_lt z; omega⟩
  · rintro ⟨q,z,h1,h2⟩
    have h3:=par_lt z
    refine ⟨by omega,?_⟩
    by_cases h4:m < k + 1 + sz K
    · exact h4
    · have:=par_out e (by omega) z
      omega
theorem find_one {P:Nat → Bool} {x:Nat}:∀ {l:List Nat},x ∈ l → (∀ y ∈ l,P y = true ↔ y = x) → l.find? P = some x
  | [],h,_ => nomatch h
  | y :: l,h,hp => by
    rw [List.find?_cons]
    cases e:P y with
    | true =>
      have:=(hp y List.mem_cons_self).mp e
      rw [this]
    | false =>
      have hne:¬ y = x:=fun z => by have:=(hp y List.mem_cons_self).mpr z; rw [e] at this; cases this
      have:x ∈ l:=by
        rcases List.mem_cons.mp h with z | z
        · exact absurd z.symm hne
        · exact z
      exact find_one this fun y hy => hp y (List.mem_cons_of_mem _ hy)
theorem up_ps (a:Ar g F) (h:k < sz F):Vaglri.upAt g (fl F) k = ((ps F)[k]?).getD none:=by
  unfold Vaglri.upAt
  have hP:∀ m,m < k → (Vaglrc.has k (Vaglri.kidsAt g (fl F) m) = true ↔ (ps F)[k]? = some (some m)):=fun m hm => by
    rw [kids_ps a (by omega)]
    unfold Vaglrc.has
    rw [List.any_eq_true]
    constructor
    · rintro ⟨x,hx,e⟩
      have:x = k:=by simpa using e
      subst this
      have:=(mem_chF.mp hx).2
      simpa using this
    · intro z
      exact ⟨k,mem_chF.mpr ⟨Nat.zero_le _,by simpa using z⟩,by simp⟩
  cases e:(ps F)[k]? with
  | none =>
    have:=List.getElem?_eq_none_iff.mp e
    rw [ps_len] at this
    omega
  | some x =>
    cases x with
    | none =>
      show _ = none
      rw [List.find?_eq_none]
      intro m hm z
      have:=(hP m (List.mem_range.mp hm)).mp z
      rw [e] at this
      cases this
    | some q =>
      have hq:=par_lt e
      show _ = some q
      refine find_one (List.mem_range.mpr hq) fun y hy => ?_
      rw [hP y (List.mem_range.mp hy),e]
      constructor
      · intro z; cases z; rfl
      · intro z; rw [z]
noncomputable def plc (ps:List (Option Nat)) (q c:Nat):Nat:=(chF q 0 (ps.take c)).length
theorem chF_lt {k i c:Nat} {a:List (Option Nat)} (h:c ∈ chF k i a):c < i + a.length:=by
  obtain ⟨h1,h2⟩:=mem_chF.mp h
  have:=(List.getElem?_eq_some_iff.mp h2).1
  omega
theorem chF_split {l:List (Option Nat)} {q c:Nat} (h:l[c]? = some (some q)):chF q 0 l = chF q 0 (l.take c) ++ c :: chF q (c + 1) (l.drop (c + 1)):=by
  obtain ⟨h1,h2⟩:=List.getElem?_eq_some_iff.mp h
  have e:l = l.take c ++ (some q :: l.drop (c + 1)):=by
    rw [← h2,← List.drop_eq_getElem_cons h1,List.take_append_drop]
  conv => lhs; rw [e]
  rw [chF_app,Nat.zero_add,List.length_take,Nat.min_eq_left (by omega)]
  show _ ++ (if (some q:Option Nat) = some q then _ else _) = _
  rw [if_pos rfl]
theorem find_split {A B:List Nat} {c:Nat} (h:∀ x ∈ A,x ≠ c):(A ++ c :: B).findIdx? (fun x => x == c) = some A.length:=by
  induction A with
  | nil => simp [List.findIdx?_cons]
  | cons x A ih =>
    have hx:(x == c) = false:=beq_eq_false_iff_ne.mpr (h x List.mem_cons_self)
    rw [List.cons_append,List.findIdx?_cons,hx,ih fun y hy => h y (List.mem_cons_of_mem _ hy)]
    rfl
theorem plc_ix {c:Nat} (a:Ar g F) (h:(ps F)[c]? = some (some q)):((Vaglri.kidsAt g (fl F) q).findIdx? (fun x => x == c)).getD 0 = plc (ps F) q c:=by
  have hc:c < sz F:=by rw [← ps_len]; exact (List.getElem?_eq_some_iff.mp h).1
  have hq:=par_lt h
  rw [kids_ps a (by omega),chF_split h,find_split]
  · rfl
  · intro x hx z
    subst z
    have:=chF_lt hx
    rw [List.length_take] at this
    omega
theorem path_none {f:Nat} (a:Ar g F) (h:k < sz F) (e:(ps F)[k]? = some none):Vaglri.pathTo g (fl F) (f + 1) k = []:=by
  unfold Vaglri.pathTo
  rw [up_ps a h,e]
  rfl
theorem path_some {f:Nat} (a:Ar g F) (h:k < sz F) (e:(ps F)[k]? = some (some q)):Vaglri.pathTo g (fl F) (f + 1) k = Vaglri.pathTo g (fl F) f q ++ [plc (ps F) q k]:=by
  rw [Vaglri.pathTo,up_ps a h,e]
  show Vaglri.pathTo g (fl F) f q ++ [_] = _
  rw [plc_ix a e]
noncomputable def ht:Fo → Nat
  | .nil => 0
  | .cons _ k r => Nat.max (ht k + 1) (ht r)
theorem height_row {y:Tree} {f:Nat} (ih:∀ {j:Nat} {u:Used} {K:Fo} {rest:Tree},y.drop j = u :: (fl K ++ rest) → Vaglri.kidsOf g u.1 = roots K → Ar g K → sz K < f → Vaglri.heightAt g y f j = ht K + 1) :
    ∀ {R:Fo} {j acc:Nat} {rest:Tree},y.drop j = fl R ++ rest → Ar g R → sz R ≤ f → (rts j R).foldl (fun m c => Nat.max m (Vaglri.heightAt g y f c)) acc = Nat.max acc (ht R)
  | .nil,j,acc,rest,_,_,_ => by
    show acc = Nat.max acc 0
    exact (Nat.max_eq_left (Nat.zero_le _)).symm
  | .cons u k r,j,acc,rest,d,a,hs => by
    have hs:sz k + sz r + 1 ≤ f:=hs
    have d1:y.drop j = u :: (fl k ++ (fl r ++ rest)):=by rw [d]; show u :: (fl k ++ fl r) ++ rest = _; simp
    have d2:y.drop (j + 1 + sz k) = fl r ++ rest:=by
      rw [show j + 1 + sz k = j + (sz k + 1) by omega,← List.drop_drop,d1,List.drop_succ_cons,List.drop_append_of_le_length (by rw [fl_len]; omega),List.drop_eq_nil_of_le (by rw [fl_len]; omega)]
      rfl
    show (rts (j + 1 + sz k) r).foldl _ (Nat.max acc (Vaglri.heightAt g y f j)) = Nat.max acc (Nat.max (ht k + 1) (ht r))
    rw [ih d1 a.1 a.2.1 (by omega),height_row ih d2 a.2.2 (by omega)]
    exact Nat.max_assoc _ _ _
theorem height_at {y:Tree}:∀ {f j:Nat} {u:Used} {K:Fo} {rest:Tree},y.drop j = u :: (fl K ++ rest) → Vaglri.kidsOf g u.1 = roots K → Ar g K → sz K < f → Vaglri.heightAt g y f j = ht K + 1
  | 0,_,_,_,_,_,_,_,h => nomatch h
  | f + 1,j,u,K,rest,d,k,a,h => by
    show 1 + (Vaglri.kidsAt g y j).foldl (fun m c => Nat.max m (Vaglri.heightAt g y f c)) 0 = _
    have e:Vaglri.kidsAt g y j = rts (j + 1) K:=by
      unfold Vaglri.kidsAt
      rw [get_drop0 d]
      show Vaglri.rowFrom g y (Vaglri.kidsOf g u.1) (j + 1) = _
      rw [k]
      refine row_at (rest:=rest) ?_ a
      rw [← List.drop_drop,d]
      rfl
    have d2:y.drop (j + 1) = fl K ++ rest:=by rw [← List.drop_drop,d]; rfl
    rw [e,height_row (fun d k a h => height_at d k a h) d2 a (by omega)]
    show 1 + max 0 (ht K) = _
    rw [Nat.max_eq_right (Nat.zero_le _)]
    omega
theorem height_node (a:Ar g F) (e:node F k = some (u,K)):Vaglri.heightAt g (fl F) ((fl F).length + 1) k = ht K + 1:=by
  obtain ⟨rest,d⟩:=fl_drop e
  obtain ⟨e1,e2⟩:=node_ar a e
  exact height_at d e1 e2 (by rw [fl_len]; have:=node_lt e; omega)
noncomputable def dp:Nat → Fo → List Nat
  | _,.nil => []
  | b,.cons _ k r => b :: (dp (b + 1) k ++ dp b r)
theorem dp_len:∀ (b:Nat) (F:Fo),(dp b F).length = sz F
  | _,.nil => rfl
  | b,.cons u k r => by
    show (dp (b + 1) k ++ dp b r).length + 1 = _
    rw [List.length_append,dp_len _ k,dp_len _ r]
    rfl
theorem dp_le:∀ {b:Nat} {F:Fo} {x:Nat},x ∈ dp (b + 1) F → x ≤ b + ht F
  | _,.nil,_,h => nomatch h
  | b,.cons u k r,x,h => by
    show x ≤ b + Nat.max (ht k + 1) (ht r)
    have h1:=Nat.le_max_left (ht k + 1) (ht r)
    have h2:=Nat.le_max_right (ht k + 1) (ht r)
    have h3:Nat.max (ht k + 1) (ht r) = max (ht k + 1) (ht r):=rfl
    rcases List.mem_cons.mp h with h | h
    · omega
    · rcases List.mem_append.mp h with h | h
      · have:=dp_le h; omega
      · have:=dp_le h; omega
theorem dp_max:∀ {b:Nat} {F:Fo},F ≠ .nil → b + ht F ∈ dp (b + 1) F
  | _,.nil,h => absurd rfl h
  | b,.cons u k r,_ => by
    show b + max (ht k + 1) (ht r) ∈ (b + 1) :: (dp (b + 1 + 1) k ++ dp (b + 1) r)
    by_cases hc:ht r ≤ ht k + 1
    · rw [Nat.max_eq_left hc]
      cases k with
      | nil => exact List.mem_cons_self
      | cons v k2 r2 =>
        have:=dp_max (b:=b + 1) (F:=.cons v k2 r2) (by simp)
        rw [show b + (ht (.cons v k2 r2) + 1) = b + 1 + ht (.cons v k2 r2) by omega]
        exact List.mem_cons_of_mem _ (List.mem_append_left _ this)
    · rw [Nat.max_eq_right (by omega)]
      cases r with
      | nil => exact absurd (Nat.zero_le _) hc
      | cons v k2 r2 => exact List.mem_cons_of_mem _ (List.mem_append_right _ (dp_max (by simp)))
theorem dp_par:∀ {K:Fo} {i q b:Nat} {D rest:List Nat},D.drop i = dp (b + 1) K ++ rest → D[q]? = some b → ∀ {t m:Nat},(pr i (some q) K)[t]? = some (some m) → ∃ d,D[m]? = some d ∧ D[i + t]? = some (d + 1)
  | .nil,_,_,_,_,_,_,_,_,_,h => nomatch h
  | .cons u k r,i,q,b,D,rest,hd,hq,0,m,h => by
    have:q = m:=by simpa [pr] using h
    subst this
    have hd:D.drop i = (b + 1) :: (dp (b + 1 + 1) k ++ dp (b + 1) r ++ rest):=hd
    exact ⟨b,hq,get_drop0 hd⟩
  | .cons u k r,i,q,b,D,rest,hd,hq,t + 1,m,h => by
    have hd:D.drop i = (b + 1) :: (dp (b + 1 + 1) k ++ dp (b + 1) r ++ rest):=hd
    have h:(pr (i + 1) (some i) k ++ pr (i + 1 + sz k) (some q) r)[t]? = some (some m):=h
    have d1:D.drop (i + 1) = dp (b + 1 + 1) k ++ (dp (b + 1) r ++ rest):=by
      rw [← List.drop_drop,hd,← List.append_assoc]
      rfl
    by_cases hc:t < sz k
    · rw [List.getElem?_append_left (by rw [pr_len]; exact hc)] at h
      have:=dp_par d1 (get_drop0 hd) h
      rw [show i + 1 + t = i + (t + 1) by omega] at this
      exact this
    · rw [List.getElem?_append_right (by rw [pr_len]; omega),pr_len] at h
      have d2:D.drop (i + 1 + sz k) = dp (b + 1) r ++ rest:=by
        rw [← List.drop_drop,d1,List.drop_append_of_le_length (by rw [dp_len]; omega),List.drop_eq_nil_of_le (by rw [dp_len]; omega)]
        rfl
      have:=dp_par d2 hq h
      rw [show i + 1 + sz k + (t - sz k) = i + (t + 1) by omega] at this
      exact this
theorem pr_shift (d:Nat):∀ (F:Fo) (i:Nat) (p:Option Nat),pr (i + d) (p.map (· + d)) F = (pr i p F).map (fun x => x.map (· + d))
  | .nil,_,_ => rfl
  | .cons u k r,i,p => by
    show p.map (· + d) :: (pr (i + d + 1) (some (i + d)) k ++ pr (i + d + 1 + sz k) (p.map (· + d)) r) = p.map (· + d) :: (pr (i + 1) (some i) k ++ pr (i + 1 + sz k) p r).map (fun x => x.map (· + d))
    rw [List.map_append,← pr_shift d k (i + 1) (some i),← pr_shift d r (i + 1 + sz k) p]
    rw [show i + d + 1 = i + 1 + d by omega,show i + 1 + d + sz k = i + 1 + sz k + d by omega]
    rfl
end
end Fo
end TC
namespace TC
open Vaglrc
namespace Fo
noncomputable def PosOk:Nat → Nat → Fo → Prop
  | lo,hi,.nil => lo ≤ hi
  | lo,hi,.cons u k r => lo ≤ u.2.1 ∧ PosOk u.2.1 u.2.2 k ∧ PosOk u.2.2 hi r
noncomputable def Ru (n:Nat):Fo → Prop
  | .nil => True
  | .cons u k r => u.1 < n ∧ Ru n k ∧ Ru n r
theorem pos_le:∀ {F:Fo} {lo hi:Nat},PosOk lo hi F → lo ≤ hi
  | .nil,_,_,h => h
  | .cons u k r,lo,hi,h => by
    have:=pos_le h.2.1
    have:=pos_le h.2.2
    have:=h.1
    omega
theorem pos_mono:∀ {F:Fo} {lo hi lo' hi':Nat},PosOk lo hi F → lo' ≤ lo → hi ≤ hi' → PosOk lo' hi' F
  | .nil,_,_,_,_,h,a,b => by have h:_ ≤ _:=h; show _ ≤ _; omega
  | .cons u k r,lo,hi,_,_,h,a,b => ⟨Nat.le_trans a h.1,h.2.1,pos_mono h.2.2 (Nat.le_refl _) b⟩
theorem pos_mem:∀ {F:Fo} {lo hi:Nat} {v:Used},PosOk lo hi F → v ∈ fl F → lo ≤ v.2.1 ∧ v.2.1 ≤ v.2.2 ∧ v.2.2 ≤ hi
  | .nil,_,_,_,_,h => nomatch h
  | .cons u k r,lo,hi,v,p,h => by
    have h1:=pos_le p.2.1
    have h2:=pos_le p.2.2
    have h3:=p.1
    rcases List.mem_cons.mp h with h | h
    · subst h; exact ⟨h3,h1,h2⟩
    · rcases List.mem_append.mp h with h | h
      · have:=pos_mem p.2.1 h; omega
      · have:=pos_mem p.2.2 h; omega
theorem pos_node:∀ {F:Fo} {lo hi j:Nat} {u:Used} {K:Fo},PosOk lo hi F → node F j = some (u,K) → lo ≤ u.2.1 ∧ PosOk u.2.1 u.2.2 K ∧ u.2.2 ≤ hi
  | .nil,_,_,_,_,_,_,h => nomatch h
  | .cons u k r,lo,hi,0,_,_,p,h => by cases h; exact ⟨p.1,p.2.1,pos_le p.2.2⟩
  | .cons u k r,lo,hi,j + 1,v,K,p,h => by
    unfold node at h
    have h1:=pos_le p.2.1
    have h2:=pos_le p.2.2
    have h3:=p.1
    split at h
    · obtain ⟨a,b,c⟩:=pos_node p.2.1 h; exact ⟨by omega,b,by omega⟩
    · obtain ⟨a,b,c⟩:=pos_node p.2.2 h; exact ⟨by omega,b,c⟩
theorem pos_behind:∀ {F:Fo} {lo hi j:Nat} {u:Used} {K:Fo} {v:Used},PosOk lo hi F → node F j = some (u,K) → v ∈ (fl F).drop (j + 1 + sz K) → u.2.2 ≤ v.2.1 ∧ v.2.1 ≤ v.2.2
  | .nil,_,_,_,_,_,_,_,h,_ => nomatch h
  | .cons u k r,lo,hi,0,_,_,v,p,h,hv => by
    cases h
    have hv:v ∈ (fl k ++ fl r).drop (sz k):=by
      rw [show 0 + 1 + sz k = sz k + 1 by omega] at hv
      exact hv
    rw [List.drop_append_of_le_length (by rw [fl_len]; omega),List.drop_eq_nil_of_le (by rw [fl_len]; omega)] at hv
    have:=pos_mem p.2.2 (by simpa using hv)
    exact ⟨this.1,this.2.1⟩
  | .cons u k r,lo,hi,j + 1,w,K,v,p,h,hv => by
    unfold node at h
    have hv:v ∈ (fl k ++ fl r).drop (j + 1 + sz K):=by
      rw [show j + 1 + 1 + sz K = (j + 1 + sz K) + 1 by omega] at hv
      exact hv
    split at h
    · have lt:=node_lt h
      rw [List.drop_append_of_le_length (by rw [fl_len]; omega)] at hv
      rcases List.mem_append.mp hv with hv | hv
      · exact pos_behind p.2.1 h hv
      · have:=pos_mem p.2.2 hv
        have:=pos_node p.2.1 h
        exact ⟨by omega,by omega⟩
    · rename_i c
      rw [List.drop_append,List.drop_eq_nil_of_le (by rw [fl_len]; omega),fl_len] at hv
      rw [show j + 1 + sz K - sz k = j - sz k + 1 + sz K by omega] at hv
      exact pos_behind p.2.2 h (by simpa using hv)
theorem pos_above:∀ {F:Fo} {lo hi j p:Nat} {u:Used} {K:Fo} {v:Used} {L:Fo},PosOk lo hi F → node F j = some (u,K) → node F p = some (v,L) → p < j → j < p + 1 + sz L → u.2.2 ≤ v.2.2
  | .nil,_,_,_,_,_,_,_,_,_,h,_,_,_ => nomatch h
  | .cons u k r,lo,hi,0,_,_,_,_,_,_,_,_,h,_ => nomatch h
  | .cons u k r,lo,hi,j + 1,0,w,K,v,L,p,h,h2,_,h4 => by
    cases h2
    unfold node at h
    rw [if_pos (by omega)] at h
    exact (pos_node p.2.1 h).2.2
  | .cons u k r,lo,hi,j + 1,i + 1,w,K,v,L,p,h,h2,h3,h4 => by
    unfold node at h h2
    split at h2
    · rename_i c
      have:=node_lt h2
      rw [if_pos (by omega)] at h
      exact pos_above p.2.1 h h2 (by omega) (by omega)
    · rename_i c
      rw [if_neg (by omega)] at h
      exact pos_above p.2.2 h h2 (by omega) (by omega)
theorem ru_node {n:Nat}:∀ {F:Fo} {j:Nat} {u:Used} {K:Fo},Ru n F → node F j = some (u,K) → u.1 < n ∧ Ru n K
  | .nil,_,_,_,_,h => nomatch h
  | .cons u k r,0,_,_,a,h => by cases h; exact ⟨a.1,a.2.1⟩
  | .cons u k r,j + 1,v,K,a,h => by
    unfold node at h
    split at h
    · exact ru_node a.2.1 h
    · exact ru_node a.2.2 h
theorem walk_fo (g:Vaglri.Grammar) (x:Text):∀ (f:Nat) (ss:List Sym) (rest:List Await) (p:Nat) (y:Tree),walk g x f (ss.map Await.sym ++ rest) p y = true →
    ∃ F y' p' f',y = fl F ++ y' ∧ roots F = nons ss ∧ Ar g F ∧ PosOk p p' F ∧ Ru g.rules.length F ∧ f' ≤ f ∧ walk g x f' rest p' y' = true:=by
  intro f
  induction f using Nat.strongRecOn with
  | ind f ih =>
    intro ss rest p y h
    match ss,h with
    | [],h => exact ⟨.nil,y,p,f,rfl,rfl,trivial,Nat.le_refl _,trivial,Nat.le_refl _,h⟩
    | .range lo hi :: ss,h =>
      match f,ih,h with
      | 0,_,h => cases h
      | f + 1,ih,h =>
        have h:(if (symEnds x [] (.range lo hi) p).isEmpty then false else walk g x f (ss.map Await.sym ++ rest) (p + 1) y) = true:=h
        split at h
        · cases h
        · obtain ⟨F,y',p',f',e1,e2,e3,e4,e5,e6,e7⟩:=ih f (by omega) ss rest (p + 1) y h
          exact ⟨F,y',p',f',e1,e2,e3,pos_mono e4 (by omega) (Nat.le_refl _),e5,by omega,e7⟩
    | .non b :: ss,h =>
      match f,ih,y,h with
      | 0,_,_,h => cases h
      | f + 1,ih,[],h => cases h
      | f + 1,ih,u :: y,h =>
        have h:(match g.rules[u.1]? with
          | none => false
          | some q => q.lhs == b && (u.2.1 == p && walk g x f (q.rhs.map Await.sym ++ (.halt_ u.2.2 :: (ss.map Await.sym ++ rest))) p y)) = true:=h
        cases hq:g.rules[u.1]? with
        | none => rw [hq] at h; cases h
        | some q =>
          rw [hq] at h
          obtain ⟨_,h⟩:=Bool.and_eq_true_iff.mp h
          obtain ⟨h1,h⟩:=Bool.and_eq_true_iff.mp h
          have h1:u.2.1 = p:=by simpa using h1
          obtain ⟨K,y1,p1,f1,a1,a2,a3,a4,a5,a6,a7⟩:=ih f (by omega) _ _ _ _ h
          match f1,a6,a7 with
          | 0,_,a7 => cases a7
          | f1 + 1,a6,a7 =>
            have a7:(p1 == u.2.2 && walk g x f1 (ss.map Await.sym ++ rest) p1 y1) = true:=a7
            obtain ⟨b1,b2⟩:=Bool.and_eq_true_iff.mp a7
            have b1:p1 = u.2.2:=by simpa using b1
            obtain ⟨R,y2,p2,f2,c1,c2,c3,c4,c5,c6,c7⟩:=ih f1 (by omega) _ _ _ _ b2
            refine ⟨.cons u K R,y2,p2,f2,?_,?_,⟨?_,a3,c3⟩,⟨by omega,?_,?_⟩,⟨(List.getElem?_eq_some_iff.mp hq).1,a5,c5⟩,by omega,c7⟩
            · rw [a1,c1]
              show u :: (fl K ++ (fl R ++ y2)) = u :: (fl K ++ fl R) ++ y2
              simp
            · show roots R + 1 = nons ss + 1
              rw [c2]
            · rw [kidsOf_some hq,a2]
            · rw [h1,← b1]; exact a4
            · rw [← b1]; exact c4
structure Whole (g:Vaglri.Grammar) (w:Vaglri.Whole) (F:Fo):Prop where
  tree:w.tree = fl F
  ar:Ar g F
  one:roots F = 1
  pos:PosOk 0 w.text.length F
  ru:Ru g.rules.length F
theorem whole_of {g:Vaglri.Grammar} {a:Nat} {w:Vaglri.Whole} (h:Vaglri.isWhole g a w = true):∃ F,Whole g w F:=by
  unfold Vaglri.isWhole isTree at h
  obtain ⟨F,y',p',f',e1,e2,e3,e4,e5,e6,e7⟩:=walk_fo g w.text _ [.non a] [.halt_ w.text.length] 0 w.tree h
  match f',e7 with
  | 0,e7 => cases e7
  | f' + 1,e7 =>
    have e7:(p' == w.text.length && walk g w.text f' [] p' y') = true:=e7
    obtain ⟨b1,b2⟩:=Bool.and_eq_true_iff.mp e7
    have b1:p' = w.text.length:=by simpa using b1
    match f',b2 with
    | 0,b2 => cases b2
    | f' + 1,b2 =>
      have b2:y'.isEmpty = true:=b2
      have:y' = []:=by simpa using b2
      subst this
      rw [List.append_nil] at e1
      rw [b1] at e4
      exact ⟨F,e1,e3,e2,e4,e5⟩
theorem one_cons {F:Fo} (h:roots F = 1):∃ u K,F = .cons u K .nil:=by
  cases F with
  | nil => cases h
  | cons u K r =>
    cases r with
    | nil => exact ⟨u,K,rfl⟩
    | cons _ _ _ => exact absurd h (by simp [roots])
noncomputable def shU (d:Int) (u:Used):Used:=(u.1,((u.2.1:Int) + d).toNat,((u.2.2:Int) + d).toNat)
noncomputable def sh (d:Int):Fo → Fo
  | .nil => .nil
  | .cons u k r => .cons (shU d u) (sh d k) (sh d r)
theorem shift_app (d:Int) (a b:Tree):Vaglri.shift d (a ++ b) = Vaglri.shift d a ++ Vaglri.shift d b:=List.map_append
theorem fl_sh (d:Int):∀ F:Fo,fl (sh d F) = Vaglri.shift d (fl F)
  | .nil => rfl
  | .cons u k r => by
    show shU d u :: (fl (sh d k) ++ fl (sh d r)) = Vaglri.shift d (u :: (fl k ++ fl r))
    rw [fl_sh d k,fl_sh d r,← shift_app]
    rfl
theorem sz_sh (d:Int):∀ F:Fo,sz (sh d F) = sz F
  | .nil => rfl
  | .cons u k r => by show sz (sh d k) + sz (sh d r) + 1 = _; rw [sz_sh d k,sz_sh d r]; rfl
theorem roots_sh (d:Int):∀ F:Fo,roots (sh d F) = roots F
  | .nil => rfl
  | .cons u k r => by show roots (sh d r) + 1 = _; rw [roots_sh d r]; rfl
theorem ar_sh {g:Vaglri.Grammar} (d:Int):∀ {F:Fo},Ar g F → Ar g (sh d F)
  | .nil,_ => trivial
  | .cons u k r,a => ⟨by rw [roots_sh]; exact a.1,ar_sh d a.2.1,ar_sh d a.2.2⟩
theorem ru_sh {n:Nat} (d:Int):∀ {F:Fo},Ru n F → Ru n (sh d F)
  | .nil,_ => trivial
  | .cons u k r,a => ⟨a.1,ru_sh d a.2.1,ru_sh d a.2.2⟩
theorem pr_sh (d:Int):∀ (F:Fo) (i:Nat) (p:Option Nat),pr i p (sh d F) = pr i p F
  | .nil,_,_ => rfl
  | .cons u k r,i,p => by
    show p :: (pr (i + 1) (some i) (sh d k) ++ pr (i + 1 + sz (sh d k)) p (sh d r)) = _
    rw [pr_sh d k,pr_sh d r,sz_sh]
    rfl
theorem pos_sh {d:Int}:∀ {F:Fo} {lo hi:Nat},PosOk lo hi F → (0:Int) ≤ lo + d → PosOk ((lo:Int) + d).toNat ((hi:Int) + d).toNat (sh d F)
  | .nil,lo,hi,p,h => by have p:lo ≤ hi:=p; show _ ≤ _; omega
  | .cons u k r,lo,hi,p,h => by
    have h1:=pos_le p.2.1
    have h2:=p.1
    refine ⟨?_,pos_sh p.2.1 (by omega),pos_sh p.2.2 (by omega)⟩
    show _ ≤ ((u.2.1:Int) + d).toNat
    omega
theorem take_node {F:Fo} {j:Nat} {u:Used} {K:Fo} (h:node F j = some (u,K)):((fl F).drop j).take (sz K + 1) = fl (.cons u K .nil):=by
  obtain ⟨rest,e⟩:=fl_drop h
  rw [e,List.take_succ_cons,List.take_append_of_le_length (by rw [fl_len]; omega),List.take_of_length_le (by rw [fl_len]; omega)]
  show _ = u :: (fl K ++ [])
  rw [List.append_nil]
noncomputable def cutF (u:Used) (K:Fo):Fo:=sh (-(u.2.1:Int)) (.cons u K .nil)
noncomputable def cutW (w:Vaglri.Whole) (u:Used) (K:Fo):Vaglri.Whole:={ text:=(w.text.drop u.2.1).take (u.2.2 - u.2.1),tree:=fl (cutF u K) }
theorem cut_eq {g:Vaglri.Grammar} {w:Vaglri.Whole} {F:Fo} {j:Nat} {u:Used} {K:Fo} (W:Whole g w F) (h:node F j = some (u,K)):Vaglri.cutTree g w j = some (cutW w u K):=by
  unfold Vaglri.cutTree
  rw [W.tree,fl_get h]
  show some _ = some _
  rw [sizeAt_node W.ar h,take_node h,← fl_sh]
  rfl
theorem cut_whole {g:Vaglri.Grammar} {w:Vaglri.Whole} {F:Fo} {j:Nat} {u:Used} {K:Fo} (W:Whole g w F) (h:node F j = some (u,K)):Whole g (cutW w u K) (cutF u K) ∧ (cutW w u K).text.length = u.2.2 - u.2.1:=by
  obtain ⟨e1,e2,e3⟩:=pos_node W.pos h
  obtain ⟨r1,r2⟩:=ru_node W.ru h
  obtain ⟨a1,a2⟩:=node_ar W.ar h
  have e4:=pos_le e2
  have hl:(cutW w u K).text.length = u.2.2 - u.2.1:=by
    show ((w.text.drop u.2.1).take (u.2.2 - u.2.1)).length = _
    rw [List.length_take,List.length_drop]
    omega
  refine ⟨⟨rfl,ar_sh _ ⟨a1,a2,trivial⟩,rfl,?_,ru_sh _ ⟨r1,r2,trivial⟩⟩,hl⟩
  rw [hl]
  have:=pos_sh (d:=-(u.2.1:Int)) (F:=.cons u K .nil) (lo:=u.2.1) (hi:=u.2.2) ⟨Nat.le_refl _,e2,Nat.le_refl _⟩ (by omega)
  exact pos_mono this (by omega) (by omega)
noncomputable def gr (d:Int) (u:Used):Used:=(u.1,u.2.1,((u.2.2:Int) + d).toNat)
noncomputable def app:Fo → Fo → Fo
  | .nil,s => s
  | .cons u k r,s => .cons u k (app r s)
noncomputable def rp (d:Int) (V:Fo):Fo → Nat → Fo
  | .nil,_ => .nil
  | .cons _ _ r,0 => app V (sh d r)
  | .cons u k r,j + 1 => if j < sz k then .cons (gr d u) (rp d V k j) (sh d r) else .cons u k (rp d V r (j - sz k))
noncomputable def bn (d:Int):Fo → Nat → Tree
  | .nil,_ => []
  | .cons _ _ _,0 => []
  | .cons u k r,j + 1 => if j < sz k then gr d u :: bn d k j else u :: (fl k ++ bn d r (j - sz k))
theorem bn_len (d:Int):∀ {F:Fo} {j:Nat},j ≤ sz F → (bn d F j).length = j
  | .nil,0,_ => rfl
  | .cons _ _ _,0,_ => rfl
  | .cons u k r,j + 1,h => by
    have h:j + 1 ≤ sz k + sz r + 1:=h
    unfold bn
    split
    · rename_i c
      rw [List.length_cons,bn_len d (by omega)]
    · rw [List.length_cons,List.length_append,fl_len,bn_len d (by omega)]
      omega
theorem bn_get {d:Int}:∀ {F:Fo} {j p:Nat} {v:Used} {L:Fo},j ≤ sz F → p < j → node F p = some (v,L) → (bn d F j)[p]? = some (if j < p + 1 + sz L then gr d v else v)
  | .nil,_,_,_,_,_,_,h => nomatch h
  | .cons _ _ _,0,_,_,_,_,h,_ => nomatch h
  | .cons u k r,j + 1,0,v,L,hj,_,h => by
    cases h
    unfold bn
    by_cases c:j < sz k
    · rw [if_pos c,if_pos (by omega)]; rfl
    · rw [if_neg c,if_neg (by omega)]; rfl
  | .cons u k r,j + 1,p + 1,v,L,hj,hp,h => by
    have hj:j + 1 ≤ sz k + sz r + 1:=hj
    unfold node at h
    unfold bn
    by_cases c:j < sz k
    · rw [if_pos c]
      rw [if_pos (by omega)] at h
      show (bn d k j)[p]? = _
      rw [bn_get (by omega) (by omega) h]
      congr 1
      by_cases c2:j < p + 1 + sz L
      · rw [if_pos c2,if_pos (by omega)]
      · rw [if_neg c2,if_neg (by omega)]
    · rw [if_neg c]
      show (fl k ++ bn d r (j - sz k))[p]? = _
      by_cases c1:p < sz k
      · rw [if_pos c1] at h
        have:=node_lt h
        rw [List.getElem?_append_left (by rw [fl_len]; exact c1),fl_get h,if_neg (by omega)]
      · rw [if_neg c1] at h
        rw [List.getElem?_append_right (by rw [fl_len]; omega),fl_len,bn_get (by omega) (by omega) h]
        congr 1
        by_cases c2:j - sz k < p - sz k + 1 + sz L
        · rw [if_pos c2,if_pos (by omega)]
        · rw [if_neg c2,if_neg (by omega)]
theorem before_bn {g:Vaglri.Grammar} {F:Fo} {j:Nat} (d:Int) (a:Ar g F) (h:j ≤ sz F):Vaglri.beforeNodes g (fl F) j d = bn d F j:=by
  apply List.ext_getElem?
  intro p
  unfold Vaglri.beforeNodes
  by_cases hp:p < j
  · obtain ⟨v,L,e⟩:=node_some (show p < sz F by omega)
    rw [bn_get h hp e,List.getElem?_map,(List.getElem?_zip_eq_some (z:=(p,v))).mpr ⟨by simp [hp],by simp [hp,fl_get e]⟩]
    show some (if Vaglri.within g (fl F) p j = true then _ else _) = _
    rw [within_node a e]
    congr 1
    by_cases c:j < p + 1 + sz L
    · rw [if_pos c,if_pos (decide_eq_true ⟨by omega,c⟩)]; rfl
    · rw [if_neg c,if_neg (by simp; omega)]
  · rw [List.getElem?_eq_none (by simp; omega),List.getElem?_eq_none (by rw [bn_len d h]; omega)]
theorem fl_app:∀ (a b:Fo),fl (app a b) = fl a ++ fl b
  | .nil,_ => rfl
  | .cons u k r,b => by show u :: (fl k ++ fl (app r b)) = u :: (fl k ++ fl r) ++ fl b; rw [fl_app r b]; simp
theorem sz_app:∀ (a b:Fo),sz (app a b) = sz a + sz b
  | .nil,b => by show sz b = 0 + sz b; omega
  | .cons u k r,b => by show sz k + sz (app r b) + 1 = sz k + sz r + 1 + sz b; rw [sz_app r b]; omega
theorem roots_app:∀ (a b:Fo),roots (app a b) = roots a + roots b
  | .nil,b => by show roots b = 0 + roots b; omega
  | .cons u k r,b => by show roots (app r b) + 1 = roots r + 1 + roots b; rw [roots_app r b]; omega
theorem ar_app {g:Vaglri.Grammar}:∀ {a b:Fo},Ar g a → Ar g b → Ar g (app a b)
  | .nil,_,_,h => h
  | .cons u k r,b,h,h2 => ⟨h.1,h.2.1,ar_app h.2.2 h2⟩
theorem ru_app {n:Nat}:∀ {a b:Fo},Ru n a → Ru n b → Ru n (app a b)
  | .nil,_,_,h => h
  | .cons u k r,b,h,h2 => ⟨h.1,h.2.1,ru_app h.2.2 h2⟩
theorem pos_app:∀ {a b:Fo} {lo mi hi:Nat},PosOk lo mi a → PosOk mi hi b → PosOk lo hi (app a b)
  | .nil,b,lo,mi,hi,h,h2 => pos_mono h2 h (Nat.le_refl _)
  | .cons u k r,b,lo,mi,hi,h,h2 => ⟨h.1,h.2.1,pos_app h.2.2 h2⟩
section
variable {g:Vaglri.Grammar} {d:Int} {V:Fo}
theorem fl_rp:∀ {F:Fo} {j:Nat} {u:Used} {K:Fo},node F j = some (u,K) → fl (rp d V F j) = bn d F j ++ (fl V ++ Vaglri.shift d ((fl F).drop (j + 1 + sz K)))
  | .nil,_,_,_,h => nomatch h
  | .cons u k r,0,_,_,h => by
    cases h
    show fl (app V (sh d r)) = fl V ++ Vaglri.shift d _
    rw [fl_app,fl_sh,show 0 + 1 + sz k = sz k + 1 by omega]
    show _ = fl V ++ Vaglri.shift d ((fl k ++ fl r).drop (sz k))
    rw [List.drop_append_of_le_length (by rw [fl_len]; omega),List.drop_eq_nil_of_le (by rw [fl_len]; omega)]
    rfl
  | .cons u k r,j + 1,v,K,h => by
    unfold node at h
    unfold rp bn
    rw [show j + 1 + 1 + sz K = (j + 1 + sz K) + 1 by omega]
    show _ = _ ++ (fl V ++ Vaglri.shift d ((fl k ++ fl r).drop (j + 1 + sz K)))
    by_cases c:j < sz k
    · rw [if_pos c] at h
      have:=node_lt h
      rw [if_pos c,if_pos c,List.drop_append_of_le_length (by rw [fl_len]; omega),shift_app]
      show gr d u :: (fl (rp d V k j) ++ fl (sh d r)) = _
      rw [fl_rp h,fl_sh]
      simp
    · rw [if_neg c] at h
      rw [if_neg c,if_neg c,List.drop_append,List.drop_eq_nil_of_le (by rw [fl_len]; omega),fl_len]
      show u :: (fl k ++ fl (rp d V r (j - sz k))) = _
      rw [fl_rp h,show j - sz k + 1 + sz K = j + 1 + sz K - sz k by omega]
      simp
theorem sz_rp:∀ {F:Fo} {j:Nat} {u:Used} {K:Fo},node F j = some (u,K) → sz (rp d V F j) + (sz K + 1) = sz F + sz V
  | .nil,_,_,_,h => nomatch h
  | .cons u k r,0,_,_,h => by
    cases h
    show sz (app V (sh d r)) + _ = sz k + sz r + 1 + _
    rw [sz_app,sz_sh]
    omega
  | .cons u k r,j + 1,v,K,h => by
    unfold node at h
    unfold rp
    show _ = sz k + sz r + 1 + _
    by_cases c:j < sz k
    · rw [if_pos c] at h
      rw [if_pos c]
      have:=sz_rp h
      show sz (rp d V k j) + sz (sh d r) + 1 + _ = _
      rw [sz_sh]
      omega
    · rw [if_neg c] at h
      rw [if_neg c]
      have:=sz_rp h
      show sz k + sz (rp d V r (j - sz k)) + 1 + _ = _
      omega
theorem roots_rp (h1:roots V = 1):∀ {F:Fo} {j:Nat} {u:Used} {K:Fo},node F j = some (u,K) → roots (rp d V F j) = roots F
  | .nil,_,_,_,h => nomatch h
  | .cons u k r,0,_,_,h => by
    show roots (app V (sh d r)) = roots r + 1
    rw [roots_app,roots_sh,h1]
    omega
  | .cons u k r,j + 1,v,K,h => by
    unfold node at h
    unfold rp
    show _ = roots r + 1
    by_cases c:j < sz k
    · rw [if_pos c]
      show roots (sh d r) + 1 = _
      rw [roots_sh]
    · rw [if_neg c] at h
      rw [if_neg c]
      show roots (rp d V r (j - sz k)) + 1 = _
      rw [roots_rp h1 h]
theorem ar_rp (h1:roots V = 1) (aV:Ar g V):∀ {F:Fo} {j:Nat} {u:Used} {K:Fo},Ar g F → node F j = some (u,K) → Ar g (rp d V F j)
  | .nil,_,_,_,_,h => nomatch h
  | .cons u k r,0,_,_,a,h => ar_app aV (ar_sh d a.2.2)
  | .cons u k r,j + 1,v,K,a,h => by
    unfold node at h
    unfold rp
    by_cases c:j < sz k
    · rw [if_pos c] at h
      rw [if_pos c]
      exact ⟨by rw [roots_rp h1 h]; exact a.1,ar_rp h1 aV a.2.1 h,ar_sh d a.2.2⟩
    · rw [if_neg c] at h
      rw [if_neg c]
      exact ⟨a.1,a.2.1,ar_rp h1 aV a.2.2 h⟩
theorem ru_rp {n:Nat} (aV:Ru n V):∀ {F:Fo} {j:Nat} {u:Used} {K:Fo},Ru n F → node F j = some (u,K) → Ru n (rp d V F j)
  | .nil,_,_,_,_,h => nomatch h
  | .cons u k r,0,_,_,a,h => ru_app aV (ru_sh d a.2.2)
  | .cons u k r,j + 1,v,K,a,h => by
    unfold node at h
    unfold rp
    by_cases c:j < sz k
    · rw [if_pos c] at h
      rw [if_pos c]
      exact ⟨a.1,ru_rp aV a.2.1 h,ru_sh d a.2.2⟩
    · rw [if_neg c] at h
      rw [if_neg c]
      exact ⟨a.1,a.2.1,ru_rp aV a.2.2 h⟩
theorem pos_rp {n:Nat}:∀ {F:Fo} {j:Nat} {u:Used} {K:Fo} {lo hi:Nat},PosOk lo hi F → node F j = some (u,K) → PosOk u.2.1 (u.2.1 + n) V → d = (n:Int) - ((u.2.2 - u.2.1:Nat):Int) → PosOk lo ((hi:Int) + d).toNat (rp d V F j)
  | .nil,_,_,_,_,_,_,h,_,_ => nomatch h
  | .cons u k r,0,_,_,lo,hi,p,h,pV,hd => by
    cases h
    have h1:=pos_le p.2.1
    have h2:=p.1
    have:=pos_sh (d:=d) p.2.2 (by omega)
    exact pos_app (pos_mono pV h2 (Nat.le_refl _)) (pos_mono this (by omega) (Nat.le_refl _))
  | .cons u k r,j + 1,v,K,lo,hi,p,h,pV,hd => by
    unfold node at h
    unfold rp
    by_cases c:j < sz k
    · rw [if_pos c] at h
      rw [if_pos c]
      obtain ⟨e1,e2,e3⟩:=pos_node p.2.1 h
      have e4:=pos_le e2
      exact ⟨p.1,pos_rp p.2.1 h pV hd,pos_sh p.2.2 (by omega)⟩
    · rw [if_neg c] at h
      rw [if_neg c]
      exact ⟨p.1,p.2.1,pos_rp p.2.2 h pV hd⟩
theorem node_rp:∀ {F:Fo} {j i:Nat} {u v:Used} {K L:Fo},node F j = some (u,K) → node F i = some (v,L) → i + 1 + sz L ≤ j → node (rp d V F j) i = some (v,L)
  | .nil,_,_,_,_,_,_,h,_,_ => nomatch h
  | .cons u k r,0,_,_,_,_,_,_,_,h => by omega
  | .cons u k r,j + 1,0,w,v,K,L,h,h2,h3 => by
    cases h2
    unfold rp
    rw [if_neg (by omega)]
    rfl
  | .cons u k r,j + 1,i + 1,w,v,K,L,h,h2,h3 => by
    unfold node at h h2
    unfold rp
    by_cases c1:i < sz k
    · rw [if_pos c1] at h2
      by_cases c:j < sz k
      · rw [if_pos c] at h
        rw [if_pos c]
        have:=sz_rp (d:=d) (V:=V) h
        have:=node_lt h
        show (if i < sz (rp d V k j) then _ else _) = _
        rw [if_pos (by omega)]
        exact node_rp h h2 (by omega)
      · rw [if_neg c]
        show (if i < sz k then _ else _) = _
        rw [if_pos c1]
        exact h2
    · rw [if_neg c1] at h2
      rw [if_neg (by omega)] at h ⊢
      show (if i < sz k then _ else _) = _
      rw [if_neg c1]
      exact node_rp h h2 (by omega)
end
noncomputable def mvx (n a b:Nat) (x:Option Nat):Option Nat:=x.map fun m => if m < n then m else m + a - b
theorem pr_mv {n a b:Nat}:∀ {R:Fo} {i:Nat} {p:Option Nat},(p = none ∨ ∃ q,p = some q ∧ q < n) → n ≤ i → b ≤ i → pr (i + a - b) p R = (pr i p R).map (mvx n a b):=by
  have key:∀ {R:Fo} {i:Nat} {p p':Option Nat},mvx n a b p = p' → n ≤ i → b ≤ i → pr (i + a - b) p' R = (pr i p R).map (mvx n a b):=by
    intro R
    induction R with
    | nil => intros; rfl
    | cons u k r ihk ihr =>
      intro i p p' hp hn hb
      show p' :: (pr (i + a - b + 1) (some (i + a - b)) k ++ pr (i + a - b + 1 + sz k) p' r) = mvx n a b p :: (pr (i + 1) (some i) k ++ pr (i + 1 + sz k) p r).map (mvx n a b)
      rw [List.map_append,← ihk (i:=i + 1) (p:=some i) (p':=some (i + a - b)) (by show some (if i < n then i else i + a - b) = _; rw [if_neg (by omega)]) (by omega) (by omega),← ihr (i:=i + 1 + sz k) hp (by omega) (by omega),hp]
      rw [show i + a - b + 1 = i + 1 + a - b by omega,show i + 1 + a - b + sz k = i + 1 + sz k + a - b by omega]
  intro R i p hp hn hb
  refine key ?_ hn hb
  rcases hp with rfl | ⟨q,rfl,hq⟩
  · rfl
  · show some (if q < n then q else _) = _
    rw [if_pos hq]
theorem pr_rp {d:Int} {v:Used} {L:Fo}:∀ {F:Fo} {i j:Nat} {p:Option Nat} {u:Used} {K:Fo},node F j = some (u,K) → (p = none ∨ ∃ q,p = some q ∧ q < i) →
    pr i p (rp d (.cons v L .nil) F j) = (pr i p F).take (j + 1) ++ (pr (i + j + 1) (some (i + j)) L ++ ((pr i p F).drop (j + 1 + sz K)).map (mvx (i + j) (sz L) (sz K)))
  | .nil,_,_,_,_,_,h,_ => nomatch h
  | .cons u k r,i,0,p,_,_,h,hp => by
    cases h
    show p :: (pr (i + 1) (some i) L ++ pr (i + 1 + sz L) p (sh d r)) = p :: ((pr (i + 1) (some i) k ++ pr (i + 1 + sz k) p r).take 0 ++ (pr (i + 1) (some i) L ++ ((p :: (pr (i + 1) (some i) k ++ pr (i + 1 + sz k) p r)).drop (0 + 1 + sz k)).map (mvx i (sz L) (sz k))))
    rw [show 0 + 1 + sz k = sz k + 1 by omega,List.drop_succ_cons,List.drop_append_of_le_length (by rw [pr_len]; omega),List.drop_eq_nil_of_le (by rw [pr_len]; omega),List.nil_append,← pr_mv (n:=i) hp (by omega) (by omega),pr_sh]
    rw [show i + 1 + sz k + sz L - sz k = i + 1 + sz L by omega]
    rfl
  | .cons u k r,i,j + 1,p,w,K,h,hp => by
    have hn:=h
    unfold node at h
    unfold rp
    have hq:p = none ∨ ∃ q,p = some q ∧ q < i + (j + 1):=by
      rcases hp with z | ⟨q,z,hq⟩
      · exact .inl z
      · exact .inr ⟨q,z,by omega⟩
    show _ = p :: ((pr (i + 1) (some i) k ++ pr (i + 1 + sz k) p r).take (j + 1) ++ (pr (i + (j + 1) + 1) (some (i + (j + 1))) L ++ ((p :: (pr (i + 1) (some i) k ++ pr (i + 1 + sz k) p r)).drop (j + 1 + 1 + sz K)).map (mvx (i + (j + 1)) (sz L) (sz K))))
    rw [show j + 1 + 1 + sz K = (j + 1 + sz K) + 1 by omega,List.drop_succ_cons]
    by_cases c:j < sz k
    · rw [if_pos c] at h
      rw [if_pos c]
      have lt:=node_lt h
      have hs:=sz_rp (d:=d) (V:=.cons v L .nil) h
      have hs:sz (rp d (.cons v L .nil) k j) + (sz K + 1) = sz k + (sz L + 1):=hs
      show p :: (pr (i + 1) (some i) (rp d (.cons v L .nil) k j) ++ pr (i + 1 + sz (rp d (.cons v L .nil) k j)) p (sh d r)) = _
      rw [pr_rp h (.inr ⟨i,rfl,by omega⟩),pr_sh,List.take_append_of_le_length (by rw [pr_len]; omega),List.drop_append_of_le_length (by rw [pr_len]; omega),List.map_append,
        ← pr_mv (n:=i + (j + 1)) hq (by omega) (by omega),show i + 1 + j = i + (j + 1) by omega]
      rw [show i + 1 + sz (rp d (.cons v L .nil) k j) = i + 1 + sz k + sz L - sz K by omega]
      simp
    · rw [if_neg c] at h
      rw [if_neg c]
      show p :: (pr (i + 1) (some i) k ++ pr (i + 1 + sz k) p (rp d (.cons v L .nil) r (j - sz k))) = _
      rw [pr_rp h (by
        rcases hp with z | ⟨q,z,hq⟩
        · exact .inl z
        · exact .inr ⟨q,z,by omega⟩),List.take_append,List.take_of_length_le (l:=pr (i + 1) (some i) k) (by rw [pr_len]; omega),List.drop_append,List.drop_eq_nil_of_le (as:=pr (i + 1) (some i) k) (by rw [pr_len]; omega),pr_len]
      rw [show i + 1 + sz k + (j - sz k) = i + (j + 1) by omega,show j - sz k + 1 = j + 1 - sz k by omega,show j + 1 - sz k + sz K = j + 1 + sz K - sz k by omega]
      simp
noncomputable def putF (F:Fo) (j:Nat) (u:Used) (n:Nat) (V:Fo):Fo:=rp ((n:Int) - ((u.2.2 - u.2.1:Nat):Int)) (sh (u.2.1:Int) V) F j
noncomputable def putW (w:Vaglri.Whole) (F:Fo) (j:Nat) (u:Used) (v:Vaglri.Whole) (V:Fo):Vaglri.Whole:={ text:=w.text.take u.2.1 ++ (v.text ++ w.text.drop u.2.2),tree:=fl (putF F j u v.text.length V) }
section
variable {g:Vaglri.Grammar} {w v:Vaglri.Whole} {F V:Fo} {j:Nat} {u:Used} {K:Fo}
theorem put_eq (W:Whole g w F) (U:Whole g v V) (h:node F j = some (u,K)):Vaglri.putTree g w j v = some (putW w F j u v V):=by
  unfold Vaglri.putTree
  have lt:=node_lt h
  rw [W.tree,fl_get h]
  show some _ = some _
  unfold putW putF
  rw [fl_rp h,fl_sh,sizeAt_node W.ar h,before_bn _ W.ar (by omega),U.tree,show j + (sz K + 1) = j + 1 + sz K by omega]
theorem put_len (W:Whole g w F) (h:node F j = some (u,K)):(putW w F j u v V).text.length + (u.2.2 - u.2.1) = w.text.length + v.text.length:=by
  obtain ⟨e1,e2,e3⟩:=pos_node W.pos h
  have e4:=pos_le e2
  show (w.text.take u.2.1 ++ (v.text ++ w.text.drop u.2.2)).length + _ = _
  rw [List.length_append,List.length_append,List.length_take,List.length_drop]
  omega
theorem put_whole (W:Whole g w F) (U:Whole g v V) (h:node F j = some (u,K)):Whole g (putW w F j u v V) (putF F j u v.text.length V):=by
  obtain ⟨e1,e2,e3⟩:=pos_node W.pos h
  have e4:=pos_le e2
  have hl:=put_len (v:=v) (V:=V) W h
  have r1:roots (sh (u.2.1:Int) V) = 1:=by rw [roots_sh]; exact U.one
  refine ⟨rfl,ar_rp r1 (ar_sh _ U.ar) W.ar h,by show roots (rp _ _ _ _) = 1; rw [roots_rp r1 h]; exact W.one,?_,ru_rp (ru_sh _ U.ru) W.ru h⟩
  have p1:=pos_sh (d:=(u.2.1:Int)) U.pos (by omega)
  have p2:PosOk u.2.1 (u.2.1 + v.text.length) (sh (u.2.1:Int) V):=pos_mono p1 (by omega) (by omega)
  have:=pos_rp W.pos h p2 rfl
  exact pos_mono this (Nat.le_refl _) (by omega)
theorem put_nodes (h:node F j = some (u,K)) (n:Nat):sz (putF F j u n V) + (sz K + 1) = sz F + sz V:=by
  unfold putF
  rw [sz_rp h,sz_sh]
theorem swap_eq {i:Nat} {u':Used} {K':Fo} (W:Whole g w F) (h:node F j = some (u,K)) (h':node F i = some (u',K')) (hij:i + 1 + sz K' ≤ j) :
    ∃ x X,Vaglri.swapTrees g w i j = some x ∧ Whole g x X ∧ x.text.length = w.text.length ∧ x.tree.length = w.tree.length ∧
      x = putW (putW w F j u (cutW w u' K') (cutF u' K')) (putF F j u (cutW w u' K').text.length (cutF u' K')) i u' (cutW w u K) (cutF u K) ∧ X = putF (putF F j u (cutW w u' K').text.length (cutF u' K')) i u' (cutW w u K).text.length (cutF u K):=by
  obtain ⟨C1,l1⟩:=cut_whole W h
  obtain ⟨C2,l2⟩:=cut_whole W h'
  have P1:=put_whole W C2 h
  have n1:node (putF F j u (cutW w u' K').text.length (cutF u' K')) i = some (u',K'):=node_rp h h' hij
  refine ⟨_,_,?_,put_whole P1 C1 n1,?_,?_,rfl,rfl⟩
  · unfold Vaglri.swapTrees
    rw [cut_eq W h,cut_eq W h']
    show (match Vaglri.putTree g w j (cutW w u' K') with | some x => Vaglri.putTree g x i (cutW w u K) | none => none) = _
    rw [put_eq W C2 h]
    exact put_eq P1 C1 n1
  · have e1:=put_len (v:=cutW w u' K') (V:=cutF u' K') W h
    have e2:=put_len (v:=cutW w u K) (V:=cutF u K) P1 n1
    obtain ⟨_,q1,_⟩:=pos_node W.pos h
    obtain ⟨_,q2,_⟩:=pos_node W.pos h'
    have:=pos_le q1
    have:=pos_le q2
    omega
  · have e1:=put_nodes (V:=cutF u' K') h (cutW w u' K').text.length
    have e2:=put_nodes (V:=cutF u K) n1 (cutW w u K).text.length
    have s1:sz (cutF u K) = sz K + 1:=by unfold cutF; rw [sz_sh]; rfl
    have s2:sz (cutF u' K') = sz K' + 1:=by unfold cutF; rw [sz_sh]; rfl
    show (fl _).length = _
    rw [W.tree,fl_len,fl_len]
    omega
end
end Fo
end TC
namespace TC
open PySem PySem.Spec PyProof.Rows L2
section
variable {P:Program} {w:World} {K:PySem.W.Frag} {mg:Str → Option Value} {base:Heap} {a:Adr}
theorem passE0 {X:Cx}:Passes (CXE X.prog X.w) X E0:=by
  rintro pins σ H s e s' I ⟨_,_,_,_,_,_,_,_,_,_,_,_,_,_,_,q⟩
  exact q.elim
noncomputable def spRI (K:PySem.W.Frag):Sp:=fun vs H Q _ => ∃ e C y,vs = [.ref e,y] ∧ H e = some (exo e C none) ∧ XCls K C "number" ∧ ∀ dx,H dx = none → dx ≠ e → Q .non (upd (upd H e (exo e C (some dx))) dx (.xd [("number",y)]))
theorem ok_Refusal_init (T:Txt K mg a):Ok P w K mg base 1 a.Refusal_init ["self","number"] (spRI K):=by
  refine T.f_Refusal_init.ok sc_Refusal_init (fun vs H Q E h => ?_) (fun cdv A outer s H vs Q E hr h => ?_)
  · obtain ⟨e,C,y,rfl,_⟩:=h
    rfl
  · obtain ⟨e,C,y,rfl,he,hx,k⟩:=h
    refine ⟨_,pss_one (ps_xset (pv 0) (pv 1) rfl),?_⟩
    exact ⟨_,rfl,_,rfl,e,C,rfl,he,hx,k⟩
theorem ok_NumberRefused (T:Txt K mg a):Ok P w K mg base 2 a.NumberRefused_init ["self"] (spXI a.NumberRefused "number" (.int (-1))):=by
  obtain ⟨fdR,FR,bR⟩:=ok_Refusal_init (P:=P) (w:=w) (base:=base) T
  refine T.f_NumberRefused_init.ok sc_NumberRefused_init (fun vs H Q E h => ?_) (fun cdv A outer s H vs Q E hr h => ?_)
  · obtain ⟨e,rfl,_⟩:=h
    rfl
  · obtain ⟨e,rfl,he,k⟩:=h
    refine ⟨_,pss_one (ps_expr (pe_clsM T.r_Refusal rfl T.g_Refusal FR hr bR .nil passE0 (pa_cons (pv 0) (pa_cons (pe_un un_neg pe_int) pa_nil)))),?_⟩
    exact ⟨_,rfl,_,rfl,e,_,_,rfl,he,T.x_NumberRefused,k⟩
theorem ok_NoGrammarRow (T:Txt K mg a):Ok P w K mg base 2 a.NoGrammarRow_init ["self"] (spXI a.NoGrammarRow "number" (.int (-2))):=by
  obtain ⟨fdR,FR,bR⟩:=ok_Refusal_init (P:=P) (w:=w) (base:=base) T
  refine T.f_NoGrammarRow_init.ok sc_NoGrammarRow_init (fun vs H Q E h => ?_) (fun cdv A outer s H vs Q E hr h => ?_)
  · obtain ⟨e,rfl,_⟩:=h
    rfl
  · obtain ⟨e,rfl,he,k⟩:=h
    refine ⟨_,pss_one (ps_expr (pe_clsM T.r_Refusal rfl T.g_Refusal FR hr bR .nil passE0 (pa_cons (pv 0) (pa_cons (pe_un un_neg pe_int) pa_nil)))),?_⟩
    exact ⟨_,rfl,_,rfl,e,_,_,rfl,he,T.x_NoGrammarRow,k⟩
theorem ok_TooManyBytes (T:Txt K mg a):Ok P w K mg base 2 a.TooManyBytes_init ["self"] (spXI a.TooManyBytes "number" (.int (-3))):=by
  obtain ⟨fdR,FR,bR⟩:=ok_Refusal_init (P:=P) (w:=w) (base:=base) T
  refine T.f_TooManyBytes_init.ok sc_TooManyBytes_init (fun vs H Q E h => ?_) (fun cdv A outer s H vs Q E hr h => ?_)
  · obtain ⟨e,rfl,_⟩:=h
    rfl
  · obtain ⟨e,rfl,he,k⟩:=h
    refine ⟨_,pss_one (ps_expr (pe_clsM T.r_Refusal rfl T.g_Refusal FR hr bR .nil passE0 (pa_cons (pv 0) (pa_cons (pe_un un_neg pe_int) pa_nil)))),?_⟩
    exact ⟨_,rfl,_,rfl,e,_,_,rfl,he,T.x_TooManyBytes,k⟩
theorem ok_NoSuchRule (T:Txt K mg a):Ok P w K mg base 2 a.NoSuchRule_init ["self"] (spXI a.NoSuchRule "number" (.int (-4))):=by
  obtain ⟨fdR,FR,bR⟩:=ok_Refusal_init (P:=P) (w:=w) (base:=base) T
  refine T.f_NoSuchRule_init.ok sc_NoSuchRule_init (fun vs H Q E h => ?_) (fun cdv A outer s H vs Q E hr h => ?_)
  · obtain ⟨e,rfl,_⟩:=h
    rfl
  · obtain ⟨e,rfl,he,k⟩:=h
    refine ⟨_,pss_one (ps_expr (pe_clsM T.r_Refusal rfl T.g_Refusal FR hr bR .nil passE0 (pa_cons (pv 0) (pa_cons (pe_un un_neg pe_int) pa_nil)))),?_⟩
    exact ⟨_,rfl,_,rfl,e,_,_,rfl,he,T.x_NoSuchRule,k⟩
theorem ok_NoTreeHeld (T:Txt K mg a):Ok P w K mg base 2 a.NoTreeHeld_init ["self"] (spXI a.NoTreeHeld "number" (.int (-6))):=by
  obtain ⟨fdR,FR,bR⟩:=ok_Refusal_init (P:=P) (w:=w) (base:=base) T
  refine T.f_NoTreeHeld_init.ok sc_NoTreeHeld_init (fun vs H Q E h => ?_) (fun cdv A outer s H vs Q E hr h => ?_)
  · obtain ⟨e,rfl,_⟩:=h
    rfl
  · obtain ⟨e,rfl,he,k⟩:=h
    refine ⟨_,pss_one (ps_expr (pe_clsM T.r_Refusal rfl T.g_Refusal FR hr bR .nil passE0 (pa_cons (pv 0) (pa_cons (pe_un un_neg pe_int) pa_nil)))),?_⟩
    exact ⟨_,rfl,_,rfl,e,_,_,rfl,he,T.x_NoTreeHeld,k⟩
theorem ok_NoSuchNode (T:Txt K mg a):Ok P w K mg base 2 a.NoSuchNode_init ["self"] (spXI a.NoSuchNode "number" (.int (-7))):=by
  obtain ⟨fdR,FR,bR⟩:=ok_Refusal_init (P:=P) (w:=w) (base:=base) T
  refine T.f_NoSuchNode_init.ok sc_NoSuchNode_init (fun vs H Q E h => ?_) (fun cdv A outer s H vs Q E hr h => ?_)
  · obtain ⟨e,rfl,_⟩:=h
    rfl
  · obtain ⟨e,rfl,he,k⟩:=h
    refine ⟨_,pss_one (ps_expr (pe_clsM T.r_Refusal rfl T.g_Refusal FR hr bR .nil passE0 (pa_cons (pv 0) (pa_cons (pe_un un_neg pe_int) pa_nil)))),?_⟩
    exact ⟨_,rfl,_,rfl,e,_,_,rfl,he,T.x_NoSuchNode,k⟩
theorem ok_NotSuchTree (T:Txt K mg a):Ok P w K mg base 2 a.NotSuchTree_init ["self"] (spXI a.NotSuchTree "number" (.int (-9))):=by
  obtain ⟨fdR,FR,bR⟩:=ok_Refusal_init (P:=P) (w:=w) (base:=base) T
  refine T.f_NotSuchTree_init.ok sc_NotSuchTree_init (fun vs H Q E h => ?_) (fun cdv A outer s H vs Q E hr h => ?_)
  · obtain ⟨e,rfl,_⟩:=h
    rfl
  · obtain ⟨e,rfl,he,k⟩:=h
    refine ⟨_,pss_one (ps_expr (pe_clsM T.r_Refusal rfl T.g_Refusal FR hr bR .nil passE0 (pa_cons (pv 0) (pa_cons (pe_un un_neg pe_int) pa_nil)))),?_⟩
    exact ⟨_,rfl,_,rfl,e,_,_,rfl,he,T.x_NotSuchTree,k⟩
theorem ok_TooManyNodes (T:Txt K mg a):Ok P w K mg base 2 a.TooManyNodes_init ["self"] (spXI a.TooManyNodes "number" (.int (-8))):=by
  obtain ⟨fdR,FR,bR⟩:=ok_Refusal_init (P:=P) (w:=w) (base:=base) T
  refine T.f_TooManyNodes_init.ok sc_TooManyNodes_init (fun vs H Q E h => ?_) (fun cdv A outer s H vs Q E hr h => ?_)
  · obtain ⟨e,rfl,_⟩:=h
    rfl
  · obtain ⟨e,rfl,he,k⟩:=h
    refine ⟨_,pss_one (ps_expr (pe_clsM T.r_Refusal rfl T.g_Refusal FR hr bR .nil passE0 (pa_cons (pv 0) (pa_cons (pe_un un_neg pe_int) pa_nil)))),?_⟩
    exact ⟨_,rfl,_,rfl,e,_,_,rfl,he,T.x_TooManyNodes,k⟩
theorem ok_NotToBeSwapped (T:Txt K mg a):Ok P w K mg base 2 a.NotToBeSwapped_init ["self"] (spXI a.NotToBeSwapped "number" (.int (-10))):=by
  obtain ⟨fdR,FR,bR⟩:=ok_Refusal_init (P:=P) (w:=w) (base:=base) T
  refine T.f_NotToBeSwapped_init.ok sc_NotToBeSwapped_init (fun vs H Q E h => ?_) (fun cdv A outer s H vs Q E hr h => ?_)
  · obtain ⟨e,rfl,_⟩:=h
    rfl
  · obtain ⟨e,rfl,he,k⟩:=h
    refine ⟨_,pss_one (ps_expr (pe_clsM T.r_Refusal rfl T.g_Refusal FR hr bR .nil passE0 (pa_cons (pv 0) (pa_cons (pe_un un_neg pe_int) pa_nil)))),?_⟩
    exact ⟨_,rfl,_,rfl,e,_,_,rfl,he,T.x_NotToBeSwapped,k⟩
theorem ok_NoTreeBefore (T:Txt K mg a):Ok P w K mg base 2 a.NoTreeBefore_init ["self"] (spXI a.NoTreeBefore "number" (.int (-11))):=by
  obtain ⟨fdR,FR,bR⟩:=ok_Refusal_init (P:=P) (w:=w) (base:=base) T
  refine T.f_NoTreeBefore_init.ok sc_NoTreeBefore_init (fun vs H Q E h => ?_) (fun cdv A outer s H vs Q E hr h => ?_)
  · obtain ⟨e,rfl,_⟩:=h
    rfl
  · obtain ⟨e,rfl,he,k⟩:=h
    refine ⟨_,pss_one (ps_expr (pe_clsM T.r_Refusal rfl T.g_Refusal FR hr bR .nil passE0 (pa_cons (pv 0) (pa_cons (pe_un un_neg pe_int) pa_nil)))),?_⟩
    exact ⟨_,rfl,_,rfl,e,_,_,rfl,he,T.x_NoTreeBefore,k⟩
end
section
variable {X:Cx} {a:Adr} {E:XK} {k:Nat} {np cpos pos:Pos}
noncomputable def tRs (C:Addr) (n:Int) (E:XK):TS:=tRaise C "number" (.int n) E
theorem rs_NumberRefused (T:Txt X.K X.mg a) (hr:Room 3 X.A) (hx:XOk X E) (hc:X.calm = true) (hg:Gl X "NumberRefused"):PS X (.Raise (some (.Call (.Name "NumberRefused" np) [] [] cpos)) none pos) (tRs a.NumberRefused (-1) E):=by
  obtain ⟨fd,F,b⟩:=ok_NumberRefused (P:=X.prog) (w:=X.w) (base:=X.base) T
  exact ps_raise T.xm_NumberRefused F hr b passE0 hx hc hg T.g_NumberRefused
theorem rs_NoGrammarRow (T:Txt X.K X.mg a) (hr:Room 3 X.A) (hx:XOk X E) (hc:X.calm = true) (hg:Gl X "NoGrammarRow"):PS X (.Raise (some (.Call (.Name "NoGrammarRow" np) [] [] cpos)) none pos) (tRs a.NoGrammarRow (-2) E):=by
  obtain ⟨fd,F,b⟩:=ok_NoGrammarRow (P:=X.prog) (w:=X.w) (base:=X.base) T
  exact ps_raise T.xm_NoGrammarRow F hr b passE0 hx hc hg T.g_NoGrammarRow
theorem rs_TooManyBytes (T:Txt X.K X.mg a) (hr:Room 3 X.A) (hx:XOk X E) (hc:X.calm = true) (hg:Gl X "TooManyBytes"):PS X (.Raise (some (.Call (.Name "TooManyBytes" np) [] [] cpos)) none pos) (tRs a.TooManyBytes (-3) E):=by
  obtain ⟨fd,F,b⟩:=ok_TooManyBytes (P:=X.prog) (w:=X.w) (base:=X.base) T
  exact ps_raise T.xm_TooManyBytes F hr b passE0 hx hc hg T.g_TooManyBytes
theorem rs_NoSuchRule (T:Txt X.K X.mg a) (hr:Room 3 X.A) (hx:XOk X E) (hc:X.calm = true) (hg:Gl X "NoSuchRule"):PS X (.Raise (some (.Call (.Name "NoSuchRule" np) [] [] cpos)) none pos) (tRs a.NoSuchRule (-4) E):=by
  obtain ⟨fd,F,b⟩:=ok_NoSuchRule (P:=X.prog) (w:=X.w) (base:=X.base) T
  exact ps_raise T.xm_NoSuchRule F hr b passE0 hx hc hg T.g_NoSuchRule
theorem rs_NoTreeHeld (T:Txt X.K X.mg a) (hr:Room 3 X.A) (hx:XOk X E) (hc:X.calm = true) (hg:Gl X "NoTreeHeld"):PS X (.Raise (some (.Call (.Name "NoTreeHeld" np) [] [] cpos)) none pos) (tRs a.NoTreeHeld (-6) E):=by
  obtain ⟨fd,F,b⟩:=ok_NoTreeHeld (P:=X.prog) (w:=X.w) (base:=X.base) T
  exact ps_raise T.xm_NoTreeHeld F hr b passE0 hx hc hg T.g_NoTreeHeld
theorem rs_NoSuchNode (T:Txt X.K X.mg a) (hr:Room 3 X.A) (hx:XOk X E) (hc:X.calm = true) (hg:Gl X "NoSuchNode"):PS X (.Raise (some (.Call (.Name "NoSuchNode" np) [] [] cpos)) none pos) (tRs a.NoSuchNode (-7) E):=by
  obtain ⟨fd,F,b⟩:=ok_NoSuchNode (P:=X.prog) (w:=X.w) (base:=X.base) T
  exact ps_raise T.xm_NoSuchNode F hr b passE0 hx hc hg T.g_NoSuchNode
theorem rs_NotSuchTree (T:Txt X.K X.mg a) (hr:Room 3 X.A) (hx:XOk X E) (hc:X.calm = true) (hg:Gl X "NotSuchTree"):PS X (.Raise (some (.Call (.Name "NotSuchTree" np) [] [] cpos)) none pos) (tRs a.NotSuchTree (-9) E):=by
  obtain ⟨fd,F,b⟩:=ok_NotSuchTree (P:=X.prog) (w:=X.w) (base:=X.base) T
  exact ps_raise T.xm_NotSuchTree F hr b passE0 hx hc hg T.g_NotSuchTree
theorem rs_TooManyNodes (T:Txt X.K X.mg a) (hr:Room 3 X.A) (hx:XOk X E) (hc:X.calm = true) (hg:Gl X "TooManyNodes"):PS X (.Raise (some (.Call (.Name "TooManyNodes" np) [] [] cpos)) none pos) (tRs a.TooManyNodes (-8) E):=by
  obtain ⟨fd,F,b⟩:=ok_TooManyNodes (P:=X.prog) (w:=X.w) (base:=X.base) T
  exact ps_raise T.xm_TooManyNodes F hr b passE0 hx hc hg T.g_TooManyNodes
theorem rs_NotToBeSwapped (T:Txt X.K X.mg a) (hr:Room 3 X.A) (hx:XOk X E) (hc:X.calm = true) (hg:Gl X "NotToBeSwapped"):PS X (.Raise (some (.Call (.Name "NotToBeSwapped" np) [] [] cpos)) none pos) (tRs a.NotToBeSwapped (-10) E):=by
  obtain ⟨fd,F,b⟩:=ok_NotToBeSwapped (P:=X.prog) (w:=X.w) (base:=X.base) T
  exact ps_raise T.xm_NotToBeSwapped F hr b passE0 hx hc hg T.g_NotToBeSwapped
theorem rs_NoTreeBefore (T:Txt X.K X.mg a) (hr:Room 3 X.A) (hx:XOk X E) (hc:X.calm = true) (hg:Gl X "NoTreeBefore"):PS X (.Raise (some (.Call (.Name "NoTreeBefore" np) [] [] cpos)) none pos) (tRs a.NoTreeBefore (-11) E):=by
  obtain ⟨fd,F,b⟩:=ok_NoTreeBefore (P:=X.prog) (w:=X.w) (base:=X.base) T
  exact ps_raise T.xm_NoTreeBefore F hr b passE0 hx hc hg T.g_NoTreeBefore
end
end TC
namespace TC
open PySem PySem.Spec PyProof.Rows L2
noncomputable def Kp (ex:List Addr) (H H':Hp):Prop:=∀ b o,H b = some o → b ∉ ex → H' b = some o
theorem Kp.refl {ex:List Addr} {H:Hp}:Kp ex H H:=fun _ _ h _ => h
theorem Kp.trans {ex:List Addr} {H H1 H2:Hp} (a:Kp ex H H1) (b:Kp ex H1 H2):Kp ex H H2:=fun c o h n => b c o (a c o h n) n
theorem Kp.mono {ex ex':List Addr} {H H1:Hp} (a:Kp ex H H1) (h:∀ b ∈ ex,b ∈ ex'):Kp ex' H H1:=fun c o q n => a c o q fun z => n (h c z)
theorem Kp.same {ex:List Addr} {H H1:Hp} (a:Same H H1):Kp ex H H1:=fun c o h _ => a c o h
theorem Kp.upd {ex:List Addr} {H:Hp} {p:Addr} {o:HO} (h:p ∈ ex):Kp ex H (upd H p o):=fun b u q n => by
  rw [upd_ne (fun z:b = p => n (by rw [z]; exact h))]
  exact q
theorem Kp.new {ex:List Addr} {H:Hp} {p:Addr} {o:HO} (h:H p = none):Kp ex H (L2.upd H p o):=fun b u q _ => by
  rw [upd_ne (ne_of_none q h)]
  exact q
theorem Same.new {H:Hp} {p:Addr} {o:HO} (h:H p = none):Same H (upd H p o):=fun b u q => by
  rw [upd_ne (ne_of_none q h)]
  exact q
theorem Kp.put {ex:List Addr} {H H1:Hp} {p:Addr} {o:HO} (a:Kp ex H H1) (h:H p = none):Kp ex H (L2.upd H1 p o):=fun b u q n => by
  rw [upd_ne (ne_of_none q h)]
  exact a b u q n
theorem Same.ins {H:Hp} {x dx C:Addr} {fs:List (Str × V)} (nx:H x = none) (nd:H dx = none) (ne:dx ≠ x):Same H (L2.upd (L2.upd H dx (.own x)) x (.ins C dx fs)):=fun b u q => by
  rw [upd_ne (ne_of_none q nx),upd_ne (ne_of_none q nd)]
  exact q
theorem Kp.drop {ex:List Addr} {H H1 H2:Hp} {p:Addr} (a:Kp ex H H1) (hp:H p = none) (b:Kp (p :: ex) H1 H2):Kp ex H H2:=fun c o q n => by
  refine b c o (a c o q n) fun z => ?_
  rcases List.mem_cons.mp z with z | z
  · subst z; rw [hp] at q; cases q
  · exact n z
noncomputable def IsRef (K:PySem.W.Frag) (R:Addr) (n:Int) (C:Value) (dx:Option Addr) (H:Hp):Prop :=
  ∃ c d,C = .ref c ∧ dx = some d ∧ PySem.W.subIn K (.ref c) (.ref R) = some true ∧ XCls K c "number" ∧ H d = some (.xd [("number",.int n)])
noncomputable def Raises (K:PySem.W.Frag) (R:Addr) (n:Int) (H:Hp) (ex:List Addr) (E:XK):Prop:=∀ C dx H',IsRef K R n C dx H' → Kp ex H H' → E C dx H'
theorem Raises.mono {K:PySem.W.Frag} {R:Addr} {n:Int} {H H1:Hp} {ex ex':List Addr} {E:XK} (r:Raises K R n H ex E) (k:Kp ex H H1) (s:∀ b ∈ ex',b ∈ ex):Raises K R n H1 ex' E :=
  fun C dx H' i q => r C dx H' i (k.trans (q.mono s))
theorem Raises.drop {K:PySem.W.Frag} {R:Addr} {n:Int} {H H1:Hp} {ex:List Addr} {E:XK} {p:Addr} (r:Raises K R n H ex E) (k:Kp ex H H1) (hp:H p = none):Raises K R n H1 (p :: ex) E :=
  fun C dx H' i q => r C dx H' i (k.drop hp q)
section
variable {P:Program} {w:World} {K:PySem.W.Frag} {mg:Str → Option Value} {base:Heap} {a:Adr} {H H1:Hp} {ex:List Addr} {E:XK}
theorem rs_of {C:Addr} {n:Int} {D:Ends} {σ:L2.St} (hs:PySem.W.subIn K (.ref C) (.ref a.Refusal) = some true) (hx:XCls K C "number") (k:Kp ex H H1) (r:Raises K a.Refusal n H ex E):tRs C n E D σ H1:=by
  intro dx hd
  refine r _ _ _ ⟨C,dx,rfl,rfl,hs,hx,upd_same⟩ (k.trans (Kp.new hd))
end
noncomputable def rdF (l:Addr) (p:Int):List (Str × V):=[("numbers",.ref l),("place",.int p)]
structure RdAt (K:PySem.W.Frag) (C:Addr) (H:Hp) (r l:Addr) (ns:List Int) (p:Nat):Prop where
  obj:∃ dx,H r = some (.ins C dx (rdF l p))
  lst:SqL K H l (ns.map V.int)
theorem sqL_kp {K:PySem.W.Frag} {ex:List Addr} {H H':Hp} {l:Addr} {xs:List V} (h:SqL K H l xs) (k:Kp ex H H') (n:l ∉ ex):SqL K H' l xs:=by
  rcases h with (h | ⟨o,h⟩) | h
  · exact .inl (.inl (k _ _ h n))
  · exact .inl (.inr ⟨o,k _ _ h n⟩)
  · exact .inr h
noncomputable def Fix (K:PySem.W.Frag) (l r:Addr) (xs:List V):Prop:=l ≠ r ∨ ∀ H:Hp,SqL K H l xs
theorem sqL_fix {K:PySem.W.Frag} {H H':Hp} {l r:Addr} {xs:List V} (h:SqL K H l xs) (f:Fix K l r xs) (k:Kp [r] H H'):SqL K H' l xs:=by
  rcases f with n | f
  · exact sqL_kp h k (by simpa using n)
  · exact f H'
section
variable {P:Program} {w:World} {K:PySem.W.Frag} {mg:Str → Option Value} {base:Heap} {a:Adr}
noncomputable def spRdI (C:Addr):Sp:=fun vs H Q _ => ∃ r l dx,vs = [.ref r,.ref l] ∧ H r = some (.ins C dx []) ∧ Q .non (upd H r (.ins C dx (rdF l 0)))
theorem ok_Reader_init (T:Txt K mg a):Ok P w K mg base 1 a.Reader_init ["self","numbers"] (spRdI a.Reader):=by
  refine T.f_Reader_init.ok sc_Reader_init (fun vs H Q E h => ?_) (fun cdv A outer s H vs Q E hr h => ?_)
  · obtain ⟨r,l,dx,rfl,_⟩:=h
    rfl
  · obtain ⟨r,l,dx,rfl,h1,q⟩:=h
    refine ⟨_,pss_cons (ps_fld (pv 0) (pv 1) rfl) (pss_one (ps_fld (pv 0) pe_int rfl)),?_⟩
    refine ⟨_,rfl,_,rfl,r,a.Reader,dx,_,rfl,h1,T.c_Reader,T.n_Reader_numbers,(by show 0 < 1000; decide),_,rfl,r,a.Reader,dx,_,rfl,upd_same,T.c_Reader,T.n_Reader_place,(by show 1 < 1000; decide),?_⟩
    show Q .non _
    rw [upd_upd]
    exact q
noncomputable def spAtEnd (K:PySem.W.Frag) (C:Addr):Sp:=fun vs H Q _ => ∃ (r l:Addr) (ns:List Int) (p:Nat),vs = [.ref r] ∧ RdAt K C H r l ns p ∧ Q (.bl (decide (ns.length ≤ p))) H
theorem ok_Reader_at_end (T:Txt K mg a):Ok P w K mg base 1 a.Reader_at_end ["self"] (spAtEnd K a.Reader):=by
  refine T.f_Reader_at_end.ok sc_Reader_at_end (fun vs H Q E h => ?_) (fun cdv A outer s H vs Q E hr h => ?_)
  · obtain ⟨r,l,ns,p,rfl,_⟩:=h
    rfl
  · obtain ⟨r,l,ns,p,rfl,⟨⟨dx,h1⟩,h2⟩,q⟩:=h
    refine ⟨_,pss_one (ps_ret (pe_cmpR op_ge (pe_fld (pv 0) rfl) (pe_callB call_len_seq (by rfl) T.b_len PySem.boot_len (pa_cons (pe_fld (pv 0) rfl) pa_nil)) (nomark _))),?_⟩
    refine ⟨_,rfl,r,a.Reader,dx,_,_,rfl,h1,T.c_Reader,T.n_Reader_place,rfl,_,rfl,r,a.Reader,dx,_,_,rfl,h1,T.c_Reader,T.n_Reader_numbers,rfl,l,_,rfl,.inl h2,_,_,rfl,rfl,?_⟩
    have e:decide (((ns.map V.int).length:Int) ≤ (p:Int)) = decide (ns.length ≤ p):=by
      rw [List.length_map]
      exact decide_eq_decide.mpr Int.ofNat_le
    show Q (.bl (decide (((ns.map V.int).length:Int) ≤ (p:Int)))) H
    rw [e]
    exact q
noncomputable def spTake (K:PySem.W.Frag) (C:Addr):Sp:=fun vs H Q _ => ∃ (r l:Addr) (ns:List Int) (p:Nat) (z:Int) (dx:Addr),vs = [.ref r] ∧ H r = some (.ins C dx (rdF l (p:Nat))) ∧ SqL K H l (ns.map V.int) ∧ ns[p]? = some z ∧ Q (.int z) (upd H r (.ins C dx (rdF l ((p + 1:Nat):Int))))
theorem ok_Reader_take (T:Txt K mg a):Ok P w K mg base 1 a.Reader_take ["self"] (spTake K a.Reader):=by
  refine T.f_Reader_take.ok sc_Reader_take (fun vs H Q E h => ?_) (fun cdv A outer s H vs Q E hr h => ?_)
  · obtain ⟨r,l,ns,p,z,dx,rfl,_⟩:=h
    rfl
  · obtain ⟨r,l,ns,p,z,dx,rfl,h1,h2,hz,q⟩:=h
    refine ⟨_,pss_cons (ps_set (i:=1) sc_Reader_take.nd rfl (Or.inl rfl) (pe_ix ix_list (pe_fld (pv 0) rfl) (pe_fld (pv 0) rfl) (fun _ _ => rfl))) (pss_cons (ps_fldaug (pv 0) pe_int in_add) (pss_one (ps_ret (pv 1)))),?_⟩
    refine ⟨_,rfl,r,a.Reader,dx,_,_,rfl,h1,T.c_Reader,T.n_Reader_numbers,rfl,_,rfl,r,a.Reader,dx,_,_,rfl,h1,T.c_Reader,T.n_Reader_place,rfl,l,_,_,V.int z,rfl,rfl,h2,atI_nat (by rw [List.getElem?_map,hz]; rfl),?_⟩
    refine ⟨_,rfl,r,a.Reader,dx,_,_,rfl,h1,T.c_Reader,T.n_Reader_place,rfl,_,_,rfl,rfl,dx,_,h1,(by show 2 < 1000; decide),_,rfl,?_⟩
    exact q
noncomputable def spTakeRow (K:PySem.W.Frag) (C:Addr):Sp:=fun vs H Q _ => ∃ (r l:Addr) (ns:List Int) (p n:Nat) (dx:Addr),vs = [.ref r] ∧ H r = some (.ins C dx (rdF l (p:Nat))) ∧ SqL K H l (ns.map V.int) ∧ Fix K l r (ns.map V.int) ∧ ns[p]? = some ((n:Nat):Int) ∧ p + 1 + n ≤ ns.length ∧
  ∀ q,H q = none → Q (.ref q) (upd (upd H q (.lst (((ns.drop (p + 1)).take n).map V.int))) r (.ins C dx (rdF l ((p + 1 + n:Nat):Int))))
theorem ok_Reader_take_row (T:Txt K mg a):Ok P w K mg base 2 a.Reader_take_row ["self"] (spTakeRow K a.Reader):=by
  obtain ⟨fdT,FT,bT⟩:=ok_Reader_take (P:=P) (w:=w) (base:=base) T
  refine T.f_Reader_take_row.ok sc_Reader_take_row (fun vs H Q E h => ?_) (fun cdv A outer s H vs Q E hr h => ?_)
  · obtain ⟨r,l,ns,p,n,dx,rfl,_⟩:=h
    rfl
  · obtain ⟨r,l,ns,p,n,dx,rfl,h1,h2,hlr,hz,hn,q⟩:=h
    refine ⟨_,pss_cons (ps_set (i:=1) sc_Reader_take_row.nd rfl (Or.inl rfl) (pe_meth0 (pv 0) T.c_Reader T.m_Reader_take FT hr bT .nil passE0))
      (pss_cons (ps_set (i:=2) sc_Reader_take_row.nd rfl (Or.inl rfl) (pe_slice sl_list (pe_fld (pv 0) rfl) (po_some (pe_fld (pv 0) rfl)) (po_some (pe_op op_add (pe_fld (pv 0) rfl) (pv 1)))))
      (pss_cons (ps_fldaug (pv 0) (pv 1) in_add) (pss_one (ps_ret (pv 2))))),?_⟩
    refine ⟨_,rfl,r,dx,_,rfl,h1,rfl,r,l,ns,p,_,dx,rfl,h1,h2,hz,?_⟩
    have h3:upd H r (.ins a.Reader dx (rdF l ((p + 1:Nat):Int))) r = some (.ins a.Reader dx (rdF l ((p + 1:Nat):Int))):=upd_same
    have h4:SqL K (upd H r (.ins a.Reader dx (rdF l ((p + 1:Nat):Int)))) l (ns.map V.int):=sqL_fix h2 hlr (Kp.upd (by simp))
    refine ⟨_,rfl,r,a.Reader,dx,_,_,rfl,h3,T.c_Reader,T.n_Reader_numbers,rfl,_,rfl,r,a.Reader,dx,_,_,rfl,h3,T.c_Reader,T.n_Reader_place,rfl,_,rfl,_,rfl,r,a.Reader,dx,_,_,rfl,h3,T.c_Reader,T.n_Reader_place,rfl,_,rfl,_,_,rfl,rfl,_,rfl,l,_,rfl,h4,fun y hy => ?_⟩
    have hyr:y ≠ r:=by rintro rfl; rw [h3] at hy; cases hy
    have hy0:H y = none:=by rw [upd_ne hyr] at hy; exact hy
    have h5:upd (upd H r (.ins a.Reader dx (rdF l ((p + 1:Nat):Int)))) y (.lst (cutV (ns.map V.int) (some ((p + 1:Nat):Int)) (some (((p + 1:Nat):Int) + n)))) r = some (.ins a.Reader dx (rdF l ((p + 1:Nat):Int))):=by
      rw [upd_ne (Ne.symm hyr)]
      exact h3
    refine ⟨_,rfl,r,a.Reader,dx,_,_,rfl,h5,T.c_Reader,T.n_Reader_place,rfl,_,rfl,_,_,rfl,rfl,dx,_,h5,(by show 2 < 1000; decide),_,rfl,?_⟩
    have e1:cutV (ns.map V.int) (some ((p + 1:Nat):Int)) (some (((p + 1:Nat):Int) + n)) = ((ns.drop (p + 1)).take n).map V.int:=by
      unfold cutV
      have e2:HT.sIx (ns.map V.int).length 0 (some ((p + 1:Nat):Int)) = p + 1:=by
        simp only [HT.sIx,List.length_map]
        rw [if_neg (by omega)]
        omega
      have e3:HT.sIx (ns.map V.int).length (ns.map V.int).length (some (((p + 1:Nat):Int) + n)) = p + 1 + n:=by
        simp only [HT.sIx,List.length_map]
        rw [if_neg (by omega)]
        omega
      rw [e2,e3,← List.map_drop,← List.map_take]
      congr 2
      omega
    have e4:upd (upd (upd H r (.ins a.Reader dx (rdF l ((p + 1:Nat):Int)))) y (.lst (cutV (ns.map V.int) (some ((p + 1:Nat):Int)) (some (((p + 1:Nat):Int) + n))))) r (.ins a.Reader dx (putF "place" (.int (((p + 1:Nat):Int) + n)) (rdF l ((p + 1:Nat):Int)))) =
        upd (upd H y (.lst (((ns.drop (p + 1)).take n).map V.int))) r (.ins a.Reader dx (rdF l ((p + 1 + n:Nat):Int))):=by
      rw [e1]
      funext b
      by_cases hb:b = r
      · subst hb
        rw [upd_same,upd_same]
        have e5:((p + 1 + n:Nat):Int) = ((p + 1:Nat):Int) + n:=by omega
        rw [e5]
        rfl
      · rw [upd_ne hb,upd_ne hb]
        by_cases hby:b = y
        · subst hby; rw [upd_same,upd_same]
        · rw [upd_ne hby,upd_ne hby,upd_ne hb]
    have e6:=q y hy0
    rw [← e4] at e6
    exact e6
end
end TC
namespace TC
open PySem PySem.Spec PyProof.Rows L2
section
variable {P:Program} {w:World} {K:PySem.W.Frag} {mg:Str → Option Value} {base:Heap} {a:Adr}
noncomputable def spTW (K:PySem.W.Frag) (a:Adr):Sp:=fun vs H Q E => ∃ (r l:Addr) (ns:List Int) (p:Nat) (lo hi:Int) (dx:Addr),vs = [.ref r,.int lo,.int hi] ∧ H r = some (.ins a.Reader dx (rdF l (p:Nat))) ∧ SqL K H l (ns.map V.int) ∧ l ≠ r ∧
  (∀ z,ns[p]? = some z → lo ≤ z → z ≤ hi → Q (.int z) (upd H r (.ins a.Reader dx (rdF l ((p + 1:Nat):Int))))) ∧
  ((∀ z,ns[p]? = some z → ¬ (lo ≤ z ∧ z ≤ hi)) → Raises K a.Refusal (-2) H [r] E)
theorem ok_take_within (T:Txt K mg a):Ok P w K mg base 4 a.take_within ["reader","low","high"] (spTW K a):=by
  obtain ⟨fdA,FA,bA⟩:=ok_Reader_at_end (P:=P) (w:=w) (base:=base) T
  obtain ⟨fdT,FT,bT⟩:=ok_Reader_take (P:=P) (w:=w) (base:=base) T
  refine T.f_take_within.okX sc_take_within (fun vs H Q E h => ?_) ?_
  · obtain ⟨r,l,ns,p,lo,hi,dx,rfl,_⟩:=h
    rfl
  · rintro X cdv A outer s H vs Q E rfl hr hX hP ⟨r,l,ns,p,lo,hi,dx,rfl,h1,h2,hlr,q1,q2⟩
    have hr1:Room 1 _:=hr.mono (by decide)
    refine ⟨_,pss_cons (ps_if (pt_val (pe_meth0 (pv 0) T.c_Reader T.m_Reader_at_end FA hr1 bA .nil passE0)) (pss_one (rs_NoGrammarRow T hr hX rfl rfl)) pss_nil)
      (pss_cons (ps_set (i:=3) sc_take_within.nd rfl (Or.inl rfl) (pe_meth0 (pv 0) T.c_Reader T.m_Reader_take FT hr1 bT .nil passE0))
      (pss_cons (ps_if (pw_or (pt_cmpR op_lt (pv 3) (pv 1) (nomark _)) (pw_or1 (pt_cmpR op_gt (pv 3) (pv 2) (nomark _)))).pt (pss_one (rs_NoGrammarRow T hr hX rfl rfl)) pss_nil)
      (pss_one (ps_ret (pv 3))))),?_⟩
    refine ⟨_,rfl,r,dx,_,rfl,h1,rfl,r,l,ns,p,rfl,⟨⟨dx,h1⟩,h2⟩,_,rfl,?_⟩
    refine ite2 (fun c => ?_) (fun c => ?_)
    · have c':ns.length ≤ p:=of_decide_eq_true c
      exact rs_of T.sub_NoGrammarRow T.x_NoGrammarRow (Kp.refl (ex:=[r])) (q2 fun z hz => by rw [List.getElem?_eq_none c'] at hz; cases hz)
    · have c':p < ns.length:=by
        have:=of_decide_eq_false (Bool.not_eq_true _ ▸ c)
        omega
      obtain ⟨z,hz⟩:∃ z,ns[p]? = some z:=⟨_,List.getElem?_eq_getElem c'⟩
      refine ⟨_,rfl,r,dx,_,rfl,h1,rfl,r,l,ns,p,z,dx,rfl,h1,h2,hz,?_⟩
      refine ⟨_,rfl,_,rfl,z,lo,rfl,rfl,_,rfl,?_⟩
      have kp:Kp [r] H (upd H r (.ins a.Reader dx (rdF l ((p + 1:Nat):Int)))):=Kp.upd (by simp)
      refine ite2 (fun c1 => ?_) (fun c1 => ?_)
      · refine iteT (rs_of T.sub_NoGrammarRow T.x_NoGrammarRow kp (q2 fun y hy => ?_))
        rw [hz] at hy
        cases hy
        have:=of_decide_eq_true c1
        omega
      · have c1':lo ≤ z:=by
          have:=of_decide_eq_false (Bool.not_eq_true _ ▸ c1)
          omega
        refine ⟨_,rfl,_,rfl,z,hi,rfl,rfl,_,rfl,?_⟩
        refine ite2 (fun c2 => ?_) (fun c2 => ?_)
        · refine rs_of T.sub_NoGrammarRow T.x_NoGrammarRow kp (q2 fun y hy => ?_)
          rw [hz] at hy
          cases hy
          have:=of_decide_eq_true c2
          omega
        · have c2':z ≤ hi:=by
            have:=of_decide_eq_false (Bool.not_eq_true _ ▸ c2)
            omega
          exact ⟨_,rfl,q1 z hz c1' c2'⟩
noncomputable def nat (ns:List Int):List Nat:=ns.map Int.toNat
theorem nat_cons {ns:List Int} {p:Nat} {z:Int} (h:ns[p]? = some z):nat (ns.drop p) = z.toNat :: nat (ns.drop (p + 1)):=by
  obtain ⟨h1,h2⟩:=List.getElem?_eq_some_iff.mp h
  unfold nat
  rw [List.drop_eq_getElem_cons h1,h2]
  rfl
theorem nat_nil {ns:List Int} {p:Nat} (h:ns[p]? = none):nat (ns.drop p) = []:=by
  have:=List.getElem?_eq_none_iff.mp h
  unfold nat
  rw [List.drop_eq_nil_of_le this]
  rfl
noncomputable def symV:Vaglrc.Sym → List V
  | .non k => [.int 0,.int k]
  | .range lo hi => [.int 1,.int lo,.int hi]
noncomputable def spRS (K:PySem.W.Frag) (a:Adr):Sp:=fun vs H Q E => ∃ (r l:Addr) (ns:List Int) (p n:Nat) (dx:Addr),vs = [.ref r,.int n] ∧ H r = some (.ins a.Reader dx (rdF l (p:Nat))) ∧ SqL K H l (ns.map V.int) ∧ l ≠ r ∧ (∀ z ∈ ns,(0:Int) ≤ z) ∧
  (∀ s p' t H',readSym n (nat (ns.drop p)) = some (s,nat (ns.drop p')) → H' t = some (.tup (symV s)) → H' r = some (.ins a.Reader dx (rdF l (p':Nat))) → Kp [r] H H' → Q (.ref t) H') ∧
  (readSym n (nat (ns.drop p)) = none → Raises K a.Refusal (-2) H [r] E)
theorem readSym_none {n k:Nat} {x:List Nat} (h:¬ (k = 0 ∨ k = 1)):readSym n (k :: x) = none:=by
  match k,h with
  | 0,h => exact absurd (.inl rfl) h
  | 1,h => exact absurd (.inr rfl) h
  | k + 2,_ => rfl
theorem ok_read_symbol (T:Txt K mg a):Ok P w K mg base 5 a.read_symbol ["reader","nonterminals"] (spRS K a):=by
  obtain ⟨fdW,FW,bW⟩:=ok_take_within (P:=P) (w:=w) (base:=base) T
  obtain ⟨uN,gN,rN⟩:=T.k_NONTERMINAL
  obtain ⟨uR,gR,rR⟩:=T.k_RANGE
  obtain ⟨uB,gB,rB⟩:=T.k_HIGHEST_BYTE
  refine T.f_read_symbol.okX sc_read_symbol (fun vs H Q E h => ?_) ?_
  · obtain ⟨r,l,ns,p,n,dx,rfl,_⟩:=h
    rfl
  · rintro X cdv A outer s H vs Q E rfl hr hX hP ⟨r,l,ns,p,n,dx,rfl,h1,h2,hlr,nn,q1,q2⟩
    refine ⟨_,pss_cons (ps_set (i:=2) sc_read_symbol.nd rfl (Or.inl rfl) (pe_call FW hr rfl T.g_take_within T.f_take_within.kp bW .nil hX.passes (pa_cons (pv 0) (pa_cons (pe_glob rfl gN rN) (pa_cons (pe_glob rfl gR rR) pa_nil)))))
      (pss_cons (ps_if (pt_cmpR op_eq (pv 2) (pe_glob rfl gN rN) (nomark _)) (pss_one (ps_ret (pe_tup (pa_cons (pe_glob rfl gN rN) (pa_cons (pe_call FW hr rfl T.g_take_within T.f_take_within.kp bW .nil hX.passes (pa_cons (pv 0) (pa_cons pe_int (pa_cons (pe_op op_sub (pv 1) pe_int) pa_nil)))) pa_nil))))) pss_nil)
      (pss_cons (ps_set (i:=3) sc_read_symbol.nd rfl (Or.inl rfl) (pe_call FW hr rfl T.g_take_within T.f_take_within.kp bW .nil hX.passes (pa_cons (pv 0) (pa_cons pe_int (pa_cons (pe_glob rfl gB rB) pa_nil)))))
      (pss_cons (ps_set (i:=4) sc_read_symbol.nd rfl (Or.inl rfl) (pe_call FW hr rfl T.g_take_within T.f_take_within.kp bW .nil hX.passes (pa_cons (pv 0) (pa_cons (pv 3) (pa_cons (pe_glob rfl gB rB) pa_nil)))))
      (pss_one (ps_ret (pe_tup (pa_cons (pe_glob rfl gR rR) (pa_cons (pv 3) (pa_cons (pv 4) pa_nil))))))))),?_⟩
    have rd:∀ (H1:Hp) (k:Nat),H1 r = some (.ins a.Reader dx (rdF l (k:Nat))) → Kp [r] H H1 → SqL K H1 l (ns.map V.int):=fun H1 k _ kp => sqL_kp h2 kp (by simpa using hlr)
    refine ⟨_,rfl,r,l,ns,p,0,1,dx,rfl,h1,h2,hlr,fun z hz c1 c2 => ?_,fun c => q2 ?_⟩
    · have k1:Kp [r] H (upd H r (.ins a.Reader dx (rdF l ((p + 1:Nat):Int)))):=Kp.upd (by simp)
      have x1:=nat_cons hz
      refine ⟨_,rfl,rfl,_,rfl,?_⟩
      refine ite2 (fun c => ?_) (fun c => ?_)
      ·
        have e0:z = 0:=by simpa using of_decide_eq_true c
        subst e0
        refine ⟨_,rfl,_,rfl,n,1,rfl,rfl,r,l,ns,p + 1,0,(n:Int) - 1,dx,rfl,upd_same,rd _ (p + 1) upd_same k1,hlr,fun y hy d1 d2 => ?_,fun d => ?_⟩
        · rw [upd_upd]
          refine ⟨(by show 2 ≤ sizeLine; decide),fun t ht => ?_⟩
          have htr:t ≠ r:=by rintro rfl; rw [upd_same] at ht; cases ht
          have ht0:H t = none:=by rw [upd_ne htr] at ht; exact ht
          obtain ⟨m,rfl⟩:=Int.eq_ofNat_of_zero_le d1
          refine q1 (.non m) (p + 1 + 1) t _ ?_ upd_same (by rw [upd_ne (Ne.symm htr),upd_same]) ((Kp.upd (ex:=[r]) (by simp)).trans (Kp.new ht))
          rw [x1,nat_cons hy]
          show (if (Int.ofNat m).toNat < n then _ else _) = _
          rw [if_pos (by show m < n; have:(m:Int) ≤ (n:Int) - 1:=d2; omega)]
          rfl
        · refine (q2 ?_).mono k1 (fun _ z => z)
          rw [x1]
          cases hy:ns[p + 1]? with
          | none => rw [nat_nil hy]; rfl
          | some y =>
            rw [nat_cons hy]
            show (if y.toNat < n then _ else _) = _
            have:=d y hy
            have:=nn y (List.mem_of_getElem? hy)
            rw [if_neg (by omega)]
      ·
        have e0:z ≠ 0:=fun e => c (decide_eq_true (by rw [e]))
        have e1:z = 1:=by omega
        subst e1
        refine ⟨_,rfl,r,l,ns,p + 1,0,255,dx,rfl,upd_same,rd _ (p + 1) upd_same k1,hlr,fun y hy d1 d2 => ?_,fun d => ?_⟩
        · rw [upd_upd]
          have k2:Kp [r] H (upd H r (.ins a.Reader dx (rdF l ((p + 1 + 1:Nat):Int)))):=Kp.upd (by simp)
          refine ⟨_,rfl,_,rfl,r,l,ns,p + 1 + 1,y,255,dx,rfl,upd_same,rd _ (p + 1 + 1) upd_same k2,hlr,fun v hv f1 f2 => ?_,fun f => ?_⟩
          · rw [upd_upd]
            refine ⟨_,rfl,_,rfl,(by show 3 ≤ sizeLine; decide),fun t ht => ?_⟩
            have htr:t ≠ r:=by rintro rfl; rw [upd_same] at ht; cases ht
            have ht0:H t = none:=by rw [upd_ne htr] at ht; exact ht
            obtain ⟨m,rfl⟩:=Int.eq_ofNat_of_zero_le d1
            obtain ⟨m',rfl⟩:=Int.eq_ofNat_of_zero_le (Int.le_trans d1 f1)
            refine q1 (.range m m') (p + 1 + 1 + 1) t _ ?_ upd_same (by rw [upd_ne (Ne.symm htr),upd_same]) ((Kp.upd (ex:=[r]) (by simp)).trans (Kp.new ht))
            rw [x1,nat_cons hy,nat_cons hv]
            show (if (Int.ofNat m).toNat ≤ (Int.ofNat m').toNat then (if (Int.ofNat m').toNat < 256 then _ else _) else _) = _
            have g1:(m:Int) ≤ m':=f1
            have g2:(m':Int) ≤ 255:=f2
            rw [if_pos (by show m ≤ m'; omega),if_pos (by show m' < 256; omega)]
            rfl
          · refine (q2 ?_).mono k2 (fun _ z => z)
            rw [x1,nat_cons hy]
            cases hv:ns[p + 1 + 1]? with
            | none => rw [nat_nil hv]; rfl
            | some v =>
              rw [nat_cons hv]
              show (if y.toNat ≤ v.toNat then (if v.toNat < 256 then _ else _) else _) = _
              have g1:=f v hv
              have g2:=nn v (List.mem_of_getElem? hv)
              by_cases g3:y.toNat ≤ v.toNat
              · rw [if_pos g3,if_neg (by omega)]
              · rw [if_neg g3]
        · refine (q2 ?_).mono k1 (fun _ z => z)
          rw [x1]
          cases hy:ns[p + 1]? with
          | none => rw [nat_nil hy]; rfl
          | some y =>
            rw [nat_cons hy]
            have g1:=d y hy
            have g2:=nn y (List.mem_of_getElem? hy)
            cases hv:ns[p + 1 + 1]? with
            | none => rw [nat_nil hv]; rfl
            | some v =>
              rw [nat_cons hv]
              show (if y.toNat ≤ v.toNat then (if v.toNat < 256 then _ else _) else _) = _
              by_cases g3:y.toNat ≤ v.toNat
              · rw [if_pos g3,if_neg (by omega)]
              · rw [if_neg g3]
    · cases hz:ns[p]? with
      | none => rw [nat_nil hz]; rfl
      | some z =>
        rw [nat_cons hz]
        have:=c z hz
        have:=nn z (List.mem_of_getElem? hz)
        exact readSym_none (by omega)
end
end TC
namespace TC
open PySem PySem.Spec PyProof.Rows L2
theorem ne_ins {H:Hp} {x r C C' dx dx':Addr} {fs fs':List (Str × V)} (h:H x = some (.ins C dx fs)) (h':H r = some (.ins C' dx' fs')) (n:fs.map (·.1) ≠ fs'.map (·.1)):x ≠ r:=by
  rintro rfl
  rw [h] at h'
  cases h'
  exact n rfl
noncomputable def SymAt (H:Hp) (v:V) (s:Vaglrc.Sym):Prop:=∃ t,v = .ref t ∧ H t = some (.tup (symV s))
theorem SymAt.kp {H H':Hp} {v:V} {s:Vaglrc.Sym} {ex:List Addr} (h:SymAt H v s) (k:Kp ex H H') (n:∀ b ∈ ex,∀ xs,H b ≠ some (.tup xs)):SymAt H' v s:=by
  obtain ⟨t,rfl,h⟩:=h
  exact ⟨t,rfl,k _ _ h fun z => n t z _ h⟩
noncomputable abbrev Syms (H:Hp):List V → List Vaglrc.Sym → Prop:=Paired (SymAt H)
theorem Paired.mapL {α β:Type} {F G:α → β → Prop}:∀ {l₁:List α} {l₂:List β},Paired F l₁ l₂ → (∀ a b,F a b → G a b) → Paired G l₁ l₂
  | _,_,.nil,_ => .nil
  | _,_,.cons r t,f => .cons (f _ _ r) (Paired.mapL t f)
theorem Paired.snoc {α β:Type} {F:α → β → Prop}:∀ {l₁:List α} {l₂:List β} {a:α} {b:β},Paired F l₁ l₂ → F a b → Paired F (l₁ ++ [a]) (l₂ ++ [b])
  | _,_,_,_,.nil,h => .cons h .nil
  | _,_,_,_,.cons r t,h => .cons r (Paired.snoc t h)
theorem Paired.len {α β:Type} {F:α → β → Prop}:∀ {l₁:List α} {l₂:List β},Paired F l₁ l₂ → l₁.length = l₂.length
  | _,_,.nil => rfl
  | _,_,.cons _ t => congrArg (· + 1) (Paired.len t)
theorem Paired.at_ {α β:Type} {F:α → β → Prop}:∀ {l₁:List α} {l₂:List β} {i:Nat} {b:β},Paired F l₁ l₂ → l₂[i]? = some b → ∃ a,l₁[i]? = some a ∧ F a b
  | _,_,_,_,.nil,e => by simp at e
  | _,_,0,_,.cons r _,e => by simp at e; subst e; exact ⟨_,rfl,r⟩
  | _,_,i + 1,b,.cons _ t,e => by
    obtain ⟨u,h1,h2⟩:=Paired.at_ (i:=i) (b:=b) t (by simpa using e)
    exact ⟨u,by simpa using h1,h2⟩
theorem Paired.atL {α β:Type} {F:α → β → Prop}:∀ {l₁:List α} {l₂:List β} {i:Nat} {a:α},Paired F l₁ l₂ → l₁[i]? = some a → ∃ b,l₂[i]? = some b ∧ F a b
  | _,_,_,_,.nil,e => by simp at e
  | _,_,0,_,.cons r _,e => by simp at e; subst e; exact ⟨_,rfl,r⟩
  | _,_,i + 1,b,.cons _ t,e => by
    obtain ⟨u,h1,h2⟩:=Paired.atL (i:=i) (a:=b) t (by simpa using e)
    exact ⟨u,by simpa using h1,h2⟩
noncomputable def ruF (lhs sl:V):List (Str × V):=[("nonterminal",lhs),("symbols",sl)]
noncomputable def RuleAt (a:Adr) (z g:Addr) (H:Hp) (v:V) (q:Vaglrc.Rule):Prop:=∃ x dx sl vs,v = .ref x ∧ H x = some (.ins a.Rule dx (ruF (.int q.lhs) (.ref sl))) ∧ H sl = some (.lst vs) ∧ Syms H vs q.rhs ∧ sl ≠ g ∧ sl ≠ z
theorem ins_ne {C C' dx dx':Addr} {fs fs':List (Str × V)} (n:fs.map (·.1) ≠ fs'.map (·.1)):HO.ins C dx fs ≠ HO.ins C' dx' fs':=by
  intro z
  injection z with _ _ z
  exact n (by rw [z])
theorem RuleAt.kp {a:Adr} {z g:Addr} {H H':Hp} {v:V} {q:Vaglrc.Rule} {ex:List Addr} (h:RuleAt a z g H v q) (k:Kp ex H H') (n:∀ b ∈ ex,b = g ∧ (∃ xs,H b = some (.lst xs)) ∨ ∃ C dx fs,H b = some (.ins C dx fs) ∧ fs.map (·.1) ≠ (["nonterminal","symbols"]:List Str)):RuleAt a z g H' v q:=by
  obtain ⟨x,dx,sl,vs,rfl,h1,h2,h3,h4⟩:=h
  refine ⟨x,dx,sl,vs,rfl,k _ _ h1 fun z => ?_,k _ _ h2 fun z => ?_,Paired.mapL h3 fun v s h => h.kp k fun b hb xs z => ?_,h4⟩
  · rcases n x z with ⟨_,_,e⟩ | ⟨C,d,fs,e,ne⟩
    · rw [e] at h1; cases h1
    · rw [e] at h1
      exact ins_ne (C':=a.Rule) (dx':=dx) ne (Option.some.inj h1)
  · rcases n sl z with ⟨e,_⟩ | ⟨C,d,fs,e,ne⟩
    · exact h4.1 e
    · rw [e] at h2; cases h2
  · rcases n b hb with ⟨_,_,e⟩ | ⟨C,d,fs,e,ne⟩
    · rw [e] at z; cases z
    · rw [e] at z; cases z
noncomputable def RulesAt (a:Adr) (z:Addr) (H:Hp) (g:Addr) (qs:List Vaglrc.Rule):Prop:=∃ vs,H g = some (.lst vs) ∧ Paired (RuleAt a z g H) vs qs ∧ g ≠ z
theorem Same.there {H H':Hp} {z:Addr} (s:Same H H') (h:H z ≠ none):H' z ≠ none:=by
  cases e:H z with
  | none => exact absurd e h
  | some o => rw [s _ _ e]; exact fun z => nomatch z
section
variable {P:Program} {w:World} {K:PySem.W.Frag} {mg:Str → Option Value} {base:Heap} {a:Adr}
noncomputable def spRuI (C:Addr):Sp:=fun vs H Q _ => ∃ x dx u v,vs = [.ref x,u,v] ∧ H x = some (.ins C dx []) ∧ Q .non (upd H x (.ins C dx (ruF u v)))
theorem ok_Rule_init (T:Txt K mg a):Ok P w K mg base 1 a.Rule_init ["self","nonterminal","symbols"] (spRuI a.Rule):=by
  refine T.f_Rule_init.ok sc_Rule_init (fun vs H Q E h => ?_) (fun cdv A outer s H vs Q E hr h => ?_)
  · obtain ⟨x,dx,u,v,rfl,_⟩:=h
    rfl
  · obtain ⟨x,dx,u,v,rfl,h1,q⟩:=h
    refine ⟨_,pss_cons (ps_fld (pv 0) (pv 1) rfl) (pss_one (ps_fld (pv 0) (pv 2) rfl)),?_⟩
    refine ⟨_,rfl,_,rfl,x,a.Rule,dx,_,rfl,h1,T.c_Rule,T.n_Rule_nonterminal,(by show 0 < 1000; decide),_,rfl,_,rfl,x,a.Rule,dx,_,rfl,upd_same,T.c_Rule,T.n_Rule_symbols,(by show 1 < 1000; decide),?_⟩
    show Q .non _
    rw [upd_upd]
    exact q
noncomputable def spRR (K:PySem.W.Frag) (a:Adr):Sp:=fun vs H Q E => ∃ (r l:Addr) (ns:List Int) (p n:Nat) (dx:Addr),vs = [.ref r,.int n] ∧ H r = some (.ins a.Reader dx (rdF l (p:Nat))) ∧ SqL K H l (ns.map V.int) ∧ l ≠ r ∧ (∀ z ∈ ns,(0:Int) ≤ z) ∧
  (∀ q p' x dx' sl us H',readRule n (nat (ns.drop p)) = some (q,nat (ns.drop p')) → H' x = some (.ins a.Rule dx' (ruF (.int (q:Vaglrc.Rule).lhs) (.ref sl))) → H' sl = some (.lst us) → Syms H' us q.rhs → H sl = none → H' r = some (.ins a.Reader dx (rdF l (p':Nat))) → Kp [r] H H' → Q (.ref x) H') ∧
  (readRule n (nat (ns.drop p)) = none → Raises K a.Refusal (-2) H [r] E)
theorem readRule_no1 {n:Nat} {k:Nat} {x:List Nat} (h:¬ k < n):readRule n (k :: x) = none:=by
  cases x with
  | nil => rfl
  | cons m x =>
    show (if k < n then _ else _) = _
    rw [if_neg h]
theorem ok_read_rule (T:Txt K mg a):Ok P w K mg base 6 a.read_rule ["reader","nonterminals"] (spRR K a):=by
  obtain ⟨fdW,FW,bW⟩:=ok_take_within (P:=P) (w:=w) (base:=base) T
  obtain ⟨fdS,FS,bS⟩:=ok_read_symbol (P:=P) (w:=w) (base:=base) T
  obtain ⟨fdI,FI,bI⟩:=ok_Rule_init (P:=P) (w:=w) (base:=base) T
  obtain ⟨uM,gM,rM⟩:=T.k_MOST_SYMBOLS
  refine T.f_read_rule.okX sc_read_rule (fun vs H Q E h => ?_) ?_
  · obtain ⟨r,l,ns,p,n,dx,rfl,_⟩:=h
    rfl
  · rintro X cdv A outer s H vs Q E rfl hr hX hP ⟨r,l,ns,p,n,dx,rfl,h1,h2,hlr,nn,q1,q2⟩
    have hr4:Room 4 _:=hr.mono (by decide)
    have hr2:Room 2 _:=hr.mono (by decide)
    refine ⟨_,pss_cons (ps_set (i:=2) sc_read_rule.nd rfl (Or.inl rfl) (pe_call FW hr4 rfl T.g_take_within T.f_take_within.kp bW .nil hX.passes (pa_cons (pv 0) (pa_cons pe_int (pa_cons (pe_op op_sub (pv 1) pe_int) pa_nil)))))
      (pss_cons (ps_set (i:=3) sc_read_rule.nd rfl (Or.inl rfl) (pe_call FW hr4 rfl T.g_take_within T.f_take_within.kp bW .nil hX.passes (pa_cons (pv 0) (pa_cons pe_int (pa_cons (pe_glob rfl gM rM) pa_nil)))))
      (pss_cons (ps_set (i:=4) sc_read_rule.nd rfl (Or.inl rfl) (pe_lst pa_nil))
      (pss_cons (ps_for hP rfl (pi_range1 rfl T.b_range (pa_cons (pv 3) pa_nil)) (pg_name (i:=5) sc_read_rule.nd rfl (Or.inl rfl))
        (pss_one (ps_expr (pe_bm PySem.F.plainAttrs_list PySem.F.slot_list_append PySem.F.type_list_append mt_append (pv 4) (pa_cons (pe_call FS hr rfl T.g_read_symbol T.f_read_symbol.kp bS .nil hX.passes (pa_cons (pv 0) (pa_cons (pv 1) pa_nil))) pa_nil)))))
      (pss_one (ps_ret (pe_make T.mk_Rule FI hr2 rfl T.g_Rule bI .nil passE0 (pa_cons (pv 2) (pa_cons (pv 4) pa_nil)))))))),?_⟩
    have rd:∀ (H1:Hp),Kp [r] H H1 → SqL K H1 l (ns.map V.int):=fun H1 kp => sqL_kp h2 kp (by simpa using hlr)
    refine ⟨_,rfl,_,rfl,n,1,rfl,rfl,r,l,ns,p,0,(n:Int) - 1,dx,rfl,h1,h2,hlr,fun z hz c1 c2 => ?_,fun c => q2 ?_⟩
    · have k1:Kp [r] H (upd H r (.ins a.Reader dx (rdF l ((p + 1:Nat):Int)))):=Kp.upd (by simp)
      have x1:=nat_cons hz
      obtain ⟨lhs,rfl⟩:=Int.eq_ofNat_of_zero_le c1
      have hlhs:lhs < n:=by have:(lhs:Int) ≤ (n:Int) - 1:=c2; omega
      refine ⟨_,rfl,r,l,ns,p + 1,0,8,dx,rfl,upd_same,rd _ k1,hlr,fun y hy d1 d2 => ?_,fun d => ?_⟩
      · rw [upd_upd]
        have k2:Kp [r] H (upd H r (.ins a.Reader dx (rdF l ((p + 1 + 1:Nat):Int)))):=Kp.upd (by simp)
        obtain ⟨m,rfl⟩:=Int.eq_ofNat_of_zero_le d1
        have hm:m ≤ 8:=by have:(m:Int) ≤ 8:=d2; omega
        have x2:readRule n (nat (ns.drop p)) = (Vaglrc.readSyms n m (nat (ns.drop (p + 1 + 1)))).map (fun y => ({ lhs:=lhs,rhs:=y.1 },y.2)):=by
          rw [x1,nat_cons hy]
          show (if lhs < n then (if m ≤ Vaglrc.SYMS then _ else _) else _) = _
          rw [if_pos hlhs,if_pos (show m ≤ Vaglrc.SYMS from hm)]
          rfl
        refine ⟨(by show 0 ≤ sizeLine; decide),fun sl hsl => ?_⟩
        have hslr:sl ≠ r:=by rintro rfl; rw [upd_same] at hsl; cases hsl
        have hsl0:H sl = none:=by rw [upd_ne hslr] at hsl; exact hsl
        refine ⟨_,rfl,(m:Int),rfl,by omega,by omega,for_range (n:=m) (fun i σ H' => ∃ v5 p' us ss,σ = [some (.ref r),some (.int n),some (.int lhs),some (.int m),some (.ref sl),v5] ∧ Kp [r] H H' ∧ H' r = some (.ins a.Reader dx (rdF l ((p':Nat):Int))) ∧ H' sl = some (.lst us) ∧ Syms H' us ss ∧ ss.length = i ∧
          Vaglrc.readSyms n m (nat (ns.drop (p + 1 + 1))) = (Vaglrc.readSyms n (m - i) (nat (ns.drop p'))).map (fun y => (ss ++ y.1,y.2))) ?_ ?_ ?_⟩
        · refine ⟨none,p + 1 + 1,[],[],rfl,k2.trans (Kp.new hsl),by rw [upd_ne (Ne.symm hslr),upd_same],upd_same,.nil,rfl,?_⟩
          rw [Nat.sub_zero]
          cases Vaglrc.readSyms n m (nat (ns.drop (p + 1 + 1))) <;> rfl
        · rintro i σ H' hi ⟨v5,p',us,ss,rfl,kp,hr',hs',sy,hlen,eq⟩
          have em:m - i = (m - (i + 1)) + 1:=by omega
          rw [em,readSyms_succ] at eq
          refine ⟨_,rfl,.inl ⟨rfl,_,SqL.of hs'⟩,_,rfl,_,rfl,r,l,ns,p',n,dx,rfl,hr',rd _ kp,hlr,nn,fun s p2 t H2 e1 ht hr2 kp2 => ?_,fun e1 => ?_⟩
          · rw [e1] at eq
            have hs2:H2 sl = some (.lst us):=kp2 _ _ hs' (by simpa using hslr)
            have hts:t ≠ sl:=ne_of ht hs2 (by intro z; cases z)
            refine ⟨sl,us,_,rfl,rfl,hs2,small1000 (by rw [Paired.len sy]; omega),?_⟩
            refine ⟨_,p2,us ++ [.ref t],ss ++ [s],rfl,(kp.trans kp2).put hsl0,by rw [upd_ne (Ne.symm hslr)]; exact hr2,upd_same,Paired.snoc (Paired.mapL sy fun v s h => ?_) ⟨t,rfl,by rw [upd_ne hts]; exact ht⟩,by rw [List.length_append,hlen]; rfl,?_⟩
            · obtain ⟨t',et,hh⟩:=h.kp kp2 (by intro b hb xs z; rw [List.mem_singleton.mp hb,hr'] at z; cases z)
              exact ⟨t',et,by rw [upd_ne (ne_of hh hs2 (by intro z; cases z))]; exact hh⟩
            · rw [eq]
              show ((Vaglrc.readSyms n (m - (i + 1)) (nat (ns.drop p2))).map fun y => (s :: y.1,y.2)).map (fun y => (ss ++ y.1,y.2)) = _
              rw [Option.map_map]
              congr 1
              funext y
              show (ss ++ s :: y.1,y.2) = (ss ++ [s] ++ y.1,y.2)
              rw [List.append_assoc]
              rfl
          · refine (q2 ?_).mono kp (fun _ z => z)
            rw [x2,eq,e1]
            rfl
        · rintro σ H' ⟨v5,p',us,ss,rfl,kp,hr',hs',sy,hlen,eq⟩
          rw [Nat.sub_self] at eq
          refine ⟨_,rfl,_,rfl,fun x dx2 nx nd ne => ⟨x,dx2,_,_,rfl,upd_same,rfl,?_⟩⟩
          rw [upd_upd]
          have sm:Same H' (upd (upd H' dx2 (.own x)) x (.ins a.Rule dx2 (ruF (.int lhs) (.ref sl)))):=Same.ins nx nd ne
          refine q1 { lhs:=lhs,rhs:=ss } p' x dx2 sl us _ ?_ upd_same (sm _ _ hs') (Paired.mapL sy fun v s ⟨t,e1,e2⟩ => ⟨t,e1,sm _ _ e2⟩) hsl0 (sm _ _ hr') (kp.trans (Kp.same sm))
          rw [x2,eq]
          show some (({ lhs:=lhs,rhs:=ss ++ [] }:Vaglrc.Rule),_) = _
          rw [List.append_nil]
      · refine (q2 ?_).mono k1 (fun _ z => z)
        rw [x1]
        cases hy:ns[p + 1]? with
        | none => rw [nat_nil hy]; rfl
        | some y =>
          rw [nat_cons hy]
          have:=d y hy
          have:=nn y (List.mem_of_getElem? hy)
          show (if _ then (if y.toNat ≤ Vaglrc.SYMS then _ else _) else _) = _
          split
          · exact if_neg (by show ¬ y.toNat ≤ 8; omega)
          · rfl
    · cases hz:ns[p]? with
      | none => rw [nat_nil hz]; rfl
      | some z =>
        rw [nat_cons hz]
        have:=c z hz
        have:=nn z (List.mem_of_getElem? hz)
        exact readRule_no1 (by omega)
noncomputable def spRG (K:PySem.W.Frag) (a:Adr):Sp:=fun vs H Q E => ∃ (z l:Addr) (ns:List Int),vs = [.ref l] ∧ H z ≠ none ∧ H l = some (.lst (ns.map V.int)) ∧ (∀ z ∈ ns,(0:Int) ≤ z) ∧
  (∀ g gl H',Vaglrc.readGrammar (nat ns) = some g → RulesAt a z H' gl g.rules → Same H H' → Q (.ref gl) H') ∧
  (Vaglrc.readGrammar (nat ns) = none → Raises K a.Refusal (-2) H [] E)
theorem readGrammar_eq (x:List Nat):Vaglrc.readGrammar x = match x with
    | n :: m :: r => if 1 ≤ n ∧ n ≤ 20 then (if m ≤ 60 then (Vaglrc.readRules n m r).bind fun y => if y.2 = [] then some { nons:=n,rules:=y.1 } else none else none) else none
    | _ => none:=by
  match x with
  | [] => rfl
  | [_] => rfl
  | n :: m :: r =>
    show (if 1 ≤ n then (if n ≤ 20 then (if m ≤ 60 then _ else none) else none) else none) = if 1 ≤ n ∧ n ≤ 20 then _ else none
    by_cases h1:1 ≤ n
    · rw [if_pos h1]
      by_cases h2:n ≤ 20
      · rw [if_pos h2,if_pos (And.intro h1 h2)]
        congr 1
        rcases Vaglrc.readRules n m r with _ | ⟨l,_ | ⟨z,y⟩⟩ <;> rfl
      · rw [if_neg h2,if_neg (fun z => h2 z.2)]
    · rw [if_neg h1,if_neg (fun z => h1 z.1)]
theorem ok_read_grammar (T:Txt K mg a):Ok P w K mg base 7 a.read_grammar ["row"] (spRG K a):=by
  obtain ⟨fdW,FW,bW⟩:=ok_take_within (P:=P) (w:=w) (base:=base) T
  obtain ⟨fdR,FR,bR⟩:=ok_read_rule (P:=P) (w:=w) (base:=base) T
  obtain ⟨fdI,FI,bI⟩:=ok_Reader_init (P:=P) (w:=w) (base:=base) T
  obtain ⟨fdA,FA,bA⟩:=ok_Reader_at_end (P:=P) (w:=w) (base:=base) T
  obtain ⟨uN,gN,rN⟩:=T.k_MOST_NONTERMINALS
  obtain ⟨uM,gM,rM⟩:=T.k_MOST_RULES
  refine T.f_read_grammar.okX sc_read_grammar (fun vs H Q E h => ?_) ?_
  · obtain ⟨z,l,ns,rfl,_⟩:=h
    rfl
  · rintro X cdv A outer s H vs Q E rfl hr hX hP ⟨z0,l,ns,rfl,hz0,h1,nn,q1,q2⟩
    have hr4:Room 4 _:=hr.mono (by decide)
    have hr3:Room 3 _:=hr.mono (by decide)
    have hr2:Room 2 _:=hr.mono (by decide)
    have hr1:Room 1 _:=hr.mono (by decide)
    refine ⟨_,pss_cons (ps_set (i:=1) sc_read_grammar.nd rfl (Or.inl rfl) (pe_make T.mk_Reader FI hr2 rfl T.g_Reader bI .nil passE0 (pa_cons (pv 0) pa_nil)))
      (pss_cons (ps_set (i:=2) sc_read_grammar.nd rfl (Or.inl rfl) (pe_call FW hr4 rfl T.g_take_within T.f_take_within.kp bW .nil hX.passes (pa_cons (pv 1) (pa_cons pe_int (pa_cons (pe_glob rfl gN rN) pa_nil)))))
      (pss_cons (ps_set (i:=3) sc_read_grammar.nd rfl (Or.inl rfl) (pe_call FW hr4 rfl T.g_take_within T.f_take_within.kp bW .nil hX.passes (pa_cons (pv 1) (pa_cons pe_int (pa_cons (pe_glob rfl gM rM) pa_nil)))))
      (pss_cons (ps_set (i:=4) sc_read_grammar.nd rfl (Or.inl rfl) (pe_lst pa_nil))
      (pss_cons (ps_for hP rfl (pi_range1 rfl T.b_range (pa_cons (pv 3) pa_nil)) (pg_name (i:=5) sc_read_grammar.nd rfl (Or.inl rfl))
        (pss_one (ps_expr (pe_bm PySem.F.plainAttrs_list PySem.F.slot_list_append PySem.F.type_list_append mt_append (pv 4) (pa_cons (pe_call FR hr rfl T.g_read_rule T.f_read_rule.kp bR .nil hX.passes (pa_cons (pv 1) (pa_cons (pv 2) pa_nil))) pa_nil)))))
      (pss_cons (ps_if (pt_not (pt_val (pe_meth0 (pv 1) T.c_Reader T.m_Reader_at_end FA hr1 bA .nil passE0))) (pss_one (rs_NoGrammarRow T hr3 hX rfl rfl)) pss_nil)
      (pss_one (ps_ret (pv 4)))))))),?_⟩
    refine ⟨_,rfl,fun r dx nr nd ne => ⟨r,l,dx,rfl,upd_same,rfl,?_⟩⟩
    rw [upd_upd]
    have sm0:∀ p:Int,Same H (upd (upd H dx (.own r)) r (.ins a.Reader dx (rdF l p))):=fun p => Same.ins nr nd ne
    have hlr:l ≠ r:=ne_of_none h1 nr
    have rd:∀ (H1:Hp),Same H H1 → SqL K H1 l (ns.map V.int):=fun H1 sm => SqL.of (sm _ _ h1)
    have rs:∀ {H1:Hp},Same H H1 → Vaglrc.readGrammar (nat ns) = none → Raises K a.Refusal (-2) H1 [r] E:=fun {H1} sm e => (q2 e).drop (Kp.same sm) nr
    refine ⟨_,rfl,r,l,ns,0,1,20,dx,rfl,upd_same,rd _ (sm0 _),hlr,fun z hz c1 c2 => ?_,fun c => rs (sm0 _) ?_⟩
    · rw [upd_upd]
      obtain ⟨n,rfl⟩:=Int.eq_ofNat_of_zero_le (show (0:Int) ≤ z by omega)
      have hn:1 ≤ n ∧ n ≤ 20:=by
        have e1:(1:Int) ≤ n:=c1
        have e2:(n:Int) ≤ 20:=c2
        omega
      have x1:=nat_cons (p:=0) hz
      rw [List.drop_zero] at x1
      refine ⟨_,rfl,r,l,ns,0 + 1,0,60,dx,rfl,upd_same,rd _ (sm0 _),hlr,fun y hy d1 d2 => ?_,fun d => rs (sm0 _) ?_⟩
      · rw [upd_upd]
        obtain ⟨m,rfl⟩:=Int.eq_ofNat_of_zero_le d1
        have hm:m ≤ 60:=by have:(m:Int) ≤ 60:=d2; omega
        have x2:Vaglrc.readGrammar (nat ns) = (Vaglrc.readRules n m (nat (ns.drop 2))).bind fun y => if y.2 = [] then some { nons:=n,rules:=y.1 } else none:=by
          rw [x1,nat_cons hy,readGrammar_eq]
          show (if 1 ≤ n ∧ n ≤ 20 then (if m ≤ 60 then _ else _) else _) = _
          rw [if_pos hn,if_pos hm]
          rfl
        refine ⟨(by show 0 ≤ sizeLine; decide),fun g hg => ?_⟩
        have smg:Same H (upd (upd (upd H dx (.own r)) r (.ins a.Reader dx (rdF l ((0 + 1 + 1:Nat):Int)))) g (.lst [])):=(sm0 _).trans (Same.new hg)
        have hg0:H g = none:=(sm0 _).free hg
        have hgr:g ≠ r:=by rintro rfl; rw [upd_same] at hg; cases hg
        refine ⟨_,rfl,(m:Int),rfl,by omega,by omega,for_range (n:=m) (fun i σ H' => ∃ v5 p' us qs,σ = [some (.ref l),some (.ref r),some (.int n),some (.int m),some (.ref g),v5] ∧ Same H H' ∧ H' r = some (.ins a.Reader dx (rdF l ((p':Nat):Int))) ∧ H' g = some (.lst us) ∧ Paired (RuleAt a z0 g H') us qs ∧ qs.length = i ∧
          Vaglrc.readRules n m (nat (ns.drop 2)) = (Vaglrc.readRules n (m - i) (nat (ns.drop p'))).map (fun y => (qs ++ y.1,y.2))) ?_ ?_ ?_⟩
        · refine ⟨none,2,[],[],rfl,smg,by rw [upd_ne (Ne.symm hgr),upd_same],upd_same,.nil,rfl,?_⟩
          rw [Nat.sub_zero]
          cases Vaglrc.readRules n m (nat (ns.drop 2)) <;> rfl
        · rintro i σ H' hi ⟨v5,p',us,qs,rfl,sm,hr',hg',ru,hlen,eq⟩
          have em:m - i = (m - (i + 1)) + 1:=by omega
          rw [em,readRules_succ] at eq
          refine ⟨_,rfl,.inl ⟨rfl,_,SqL.of hg'⟩,_,rfl,_,rfl,r,l,ns,p',n,dx,rfl,hr',rd _ sm,hlr,nn,fun q p2 x dx2 sl su H2 e1 hx hsl sy hsl0 hr2 kp2 => ?_,fun e1 => rs sm ?_⟩
          · rw [e1] at eq
            have hg2:H2 g = some (.lst us):=kp2 _ _ hg' (by simpa using hgr)
            have sm2:Same H H2:=fun b o hb => kp2 _ _ (sm _ _ hb) (by simpa using ne_of_none hb nr)
            have slg:sl ≠ g:=fun z => by rw [z,hg'] at hsl0; cases hsl0
            have slz:sl ≠ z0:=fun e => Same.there sm hz0 (by rw [← e]; exact hsl0)
            have ru2:∀ v q,RuleAt a z0 g H' v q → RuleAt a z0 g (upd H2 g (.lst (us ++ [.ref x]))) v q:=fun v q h => by
              have h2:=h.kp kp2 (by intro b hb; rw [List.mem_singleton.mp hb]; exact .inr ⟨_,_,_,hr',(by show (["numbers","place"]:List Str) ≠ (["nonterminal","symbols"]:List Str); decide)⟩)
              exact h2.kp (ex:=[g]) (Kp.upd (by simp)) (by intro b hb; rw [List.mem_singleton.mp hb]; exact .inl ⟨rfl,_,hg2⟩)
            refine ⟨g,us,_,rfl,rfl,hg2,small1000 (by rw [Paired.len ru]; omega),?_⟩
            refine ⟨_,p2,us ++ [.ref x],qs ++ [q],rfl,fun b o hb => by rw [upd_ne (ne_of_none hb hg0)]; exact sm2 b o hb,by rw [upd_ne (Ne.symm hgr)]; exact hr2,upd_same,
              Paired.snoc (Paired.mapL ru ru2) ⟨x,dx2,sl,su,rfl,by rw [upd_ne (ne_of hx hg2 (by intro z; cases z))]; exact hx,by rw [upd_ne slg]; exact hsl,Paired.mapL sy fun v s ⟨t,e1,e2⟩ => ⟨t,e1,by rw [upd_ne (ne_of e2 hg2 (by intro z; cases z))]; exact e2⟩,slg,slz⟩,by rw [List.length_append,hlen]; rfl,?_⟩
            rw [eq]
            show ((Vaglrc.readRules n (m - (i + 1)) (nat (ns.drop p2))).map fun y => (q :: y.1,y.2)).map (fun y => (qs ++ y.1,y.2)) = _
            rw [Option.map_map]
            congr 1
            funext y
            show (qs ++ q :: y.1,y.2) = (qs ++ [q] ++ y.1,y.2)
            rw [List.append_assoc]
            rfl
          · rw [x2,eq,e1]
            rfl
        · rintro σ H' ⟨v5,p',us,qs,rfl,sm,hr',hg',ru,hlen,eq⟩
          rw [Nat.sub_self] at eq
          have eq2:Vaglrc.readGrammar (nat ns) = if nat (ns.drop p') = [] then some { nons:=n,rules:=qs } else none:=by
            rw [x2,eq]
            show (if nat (ns.drop p') = [] then some ({ nons:=n,rules:=qs ++ [] }:Vaglrc.Grammar) else none) = _
            rw [List.append_nil]
          refine ⟨_,rfl,r,dx,_,rfl,hr',rfl,r,l,ns,p',rfl,⟨⟨dx,hr'⟩,rd _ sm⟩,_,rfl,?_⟩
          have en:nat (ns.drop p') = [] ↔ ns.length ≤ p':=by
            unfold nat
            rw [List.map_eq_nil_iff,List.drop_eq_nil_iff]
          refine ite2 (fun c => ?_) (fun c => ?_)
          · have c':¬ ns.length ≤ p':=by simpa using c
            refine rs_of T.sub_NoGrammarRow T.x_NoGrammarRow (Kp.refl (ex:=[r])) (rs sm ?_)
            rw [eq2,if_neg (fun z => c' (en.mp z))]
          · have c':ns.length ≤ p':=by simpa using c
            refine ⟨_,rfl,q1 { nons:=n,rules:=qs } g H' ?_ ⟨us,hg',ru,fun e => hz0 (by rw [← e]; exact hg0)⟩ sm⟩
            rw [eq2,if_pos (en.mpr c')]
      · rw [x1,readGrammar_eq]
        cases hy:ns[0 + 1]? with
        | none => rw [nat_nil hy]
        | some y =>
          rw [nat_cons hy]
          have:=d y hy
          have:=nn y (List.mem_of_getElem? hy)
          show (if _ then (if y.toNat ≤ 60 then _ else _) else _) = _
          split
          · exact if_neg (by omega)
          · rfl
    · rw [readGrammar_eq]
      cases hz:ns[0]? with
      | none =>
        have:=nat_nil (p:=0) hz
        rw [List.drop_zero] at this
        rw [this]
      | some z =>
        have x1:=nat_cons (p:=0) hz
        rw [List.drop_zero] at x1
        rw [x1]
        have:=c z hz
        have:=nn z (List.mem_of_getElem? hz)
        cases nat (ns.drop (0 + 1)) with
        | nil => rfl
        | cons m r =>
          show (if 1 ≤ z.toNat ∧ z.toNat ≤ 20 then _ else _) = _
          exact if_neg (by omega)
end
end TC
namespace TC
open PySem PySem.Spec PyProof.Rows L2
noncomputable def ndF (u:Vaglrc.Used):List (Str × V):=[("rule",.int (u.1:Nat)),("begin",.int (u.2.1:Nat)),("end",.int (u.2.2:Nat))]
noncomputable def NdAt (a:Adr) (H:Hp) (v:V) (u:Vaglrc.Used):Prop:=∃ x dx,v = .ref x ∧ H x = some (.ins a.Node dx (ndF u))
noncomputable abbrev Nds (a:Adr) (H:Hp):List V → Vaglrc.Tree → Prop:=Paired (NdAt a H)
noncomputable def nsV (x:List Nat):List V:=x.map fun n => V.int (n:Nat)
noncomputable def pV:Option Nat → V
  | none => .non
  | some q => .int (q:Nat)
noncomputable def trF (lo ln lp:Addr):List (Str × V):=[("octets",.ref lo),("nodes",.ref ln),("parents",.ref lp)]
noncomputable def Ls (z:Addr) (H:Hp) (l:Addr) (xs:List V):Prop:=H l = some (.lst xs) ∧ l ≠ z
structure TreeAt (a:Adr) (z:Addr) (H:Hp) (t:Addr) (dx lo ln lp:Addr) (vs:List V) (x:List Nat) (y:Vaglrc.Tree) (ps:List (Option Nat)):Prop where
  obj:H t = some (.ins a.Tree dx (trF lo ln lp))
  oct:Ls z H lo (nsV x)
  nds:Ls z H ln vs
  nod:Nds a H vs y
  par:Ls z H lp (ps.map pV)
theorem NdAt.same {a:Adr} {H H':Hp} {v:V} {u:Vaglrc.Used} (h:NdAt a H v u) (s:Same H H'):NdAt a H' v u:=by
  obtain ⟨x,dx,e,h⟩:=h
  exact ⟨x,dx,e,s _ _ h⟩
theorem Nds.same {a:Adr} {H H':Hp} {vs:List V} {y:Vaglrc.Tree} (h:Nds a H vs y) (s:Same H H'):Nds a H' vs y:=Paired.mapL h fun _ _ q => q.same s
theorem Ls.same {z:Addr} {H H':Hp} {l:Addr} {xs:List V} (h:Ls z H l xs) (s:Same H H'):Ls z H' l xs:=⟨s _ _ h.1,h.2⟩
theorem TreeAt.same {a:Adr} {z:Addr} {H H':Hp} {t dx lo ln lp:Addr} {vs:List V} {x:List Nat} {y:Vaglrc.Tree} {ps:List (Option Nat)} (h:TreeAt a z H t dx lo ln lp vs x y ps) (s:Same H H'):TreeAt a z H' t dx lo ln lp vs x y ps :=
  ⟨s _ _ h.obj,h.oct.same s,h.nds.same s,h.nod.same s,h.par.same s⟩
theorem Same.refl {H:Hp}:Same H H:=fun _ _ h => h
theorem Same.put {H H1:Hp} {p:Addr} {o:HO} (a:Same H H1) (h:H p = none):Same H (upd H1 p o):=fun b u q => by
  rw [upd_ne (ne_of_none q h)]
  exact a b u q
theorem Ls.new {z:Addr} {H:Hp} {l:Addr} {xs:List V} (hz:H z ≠ none) (h:H l = none):Ls z (upd H l (.lst xs)) l xs:=⟨upd_same,fun e => hz (by rw [← e]; exact h)⟩
theorem nsV_len (x:List Nat):(nsV x).length = x.length:=List.length_map _
theorem nsV_get {x:List Nat} {j n:Nat} (h:x[j]? = some n):(nsV x)[j]? = some (V.int (n:Nat)):=by unfold nsV; rw [List.getElem?_map,h]; rfl
theorem pV_get {ps:List (Option Nat)} {j:Nat} {p:Option Nat} (h:ps[j]? = some p):(ps.map pV)[j]? = some (pV p):=by rw [List.getElem?_map,h]; rfl
section
variable {P:Program} {w:World} {K:PySem.W.Frag} {mg:Str → Option Value} {base:Heap} {a:Adr}
noncomputable def spNdI (C:Addr):Sp:=fun vs H Q _ => ∃ x dx r b e,vs = [.ref x,r,b,e] ∧ H x = some (.ins C dx []) ∧ Q .non (upd H x (.ins C dx [("rule",r),("begin",b),("end",e)]))
theorem ok_Node_init (T:Txt K mg a):Ok P w K mg base 1 a.Node_init ["self","rule","begin","end"] (spNdI a.Node):=by
  refine T.f_Node_init.ok sc_Node_init (fun vs H Q E h => ?_) (fun cdv A outer s H vs Q E hr h => ?_)
  · obtain ⟨x,dx,r,b,e,rfl,_⟩:=h
    rfl
  · obtain ⟨x,dx,r,b,e,rfl,h1,q⟩:=h
    refine ⟨_,(pss_cons (ps_fld (pv 0) (pv 1) rfl) (pss_cons (ps_fld (pv 0) (pv 2) rfl) (pss_one (ps_fld (pv 0) (pv 3) rfl)))),?_⟩
    refine ⟨_,rfl,_,rfl,x,a.Node,dx,_,rfl,h1,T.c_Node,T.n_Node_rule,(by show 0 < 1000; decide),_,rfl,_,rfl,x,a.Node,dx,_,rfl,upd_same,T.c_Node,T.n_Node_begin,(by show 1 < 1000; decide),_,rfl,_,rfl,x,a.Node,dx,_,rfl,upd_same,T.c_Node,T.n_Node_end,(by show 2 < 1000; decide),?_⟩
    show Q .non _
    rw [upd_upd,upd_upd]
    exact q
noncomputable def spTrI (C:Addr):Sp:=fun vs H Q _ => ∃ x dx r b e,vs = [.ref x,.ref r,.ref b,.ref e] ∧ H x = some (.ins C dx []) ∧ Q .non (upd H x (.ins C dx (trF r b e)))
theorem ok_Tree_init (T:Txt K mg a):Ok P w K mg base 1 a.Tree_init ["self","octets","nodes","parents"] (spTrI a.Tree):=by
  refine T.f_Tree_init.ok sc_Tree_init (fun vs H Q E h => ?_) (fun cdv A outer s H vs Q E hr h => ?_)
  · obtain ⟨x,dx,r,b,e,rfl,_⟩:=h
    rfl
  · obtain ⟨x,dx,r,b,e,rfl,h1,q⟩:=h
    refine ⟨_,(pss_cons (ps_fld (pv 0) (pv 1) rfl) (pss_cons (ps_fld (pv 0) (pv 2) rfl) (pss_one (ps_fld (pv 0) (pv 3) rfl)))),?_⟩
    refine ⟨_,rfl,_,rfl,x,a.Tree,dx,_,rfl,h1,T.c_Tree,T.n_Tree_octets,(by show 0 < 1000; decide),_,rfl,_,rfl,x,a.Tree,dx,_,rfl,upd_same,T.c_Tree,T.n_Tree_nodes,(by show 1 < 1000; decide),_,rfl,_,rfl,x,a.Tree,dx,_,rfl,upd_same,T.c_Tree,T.n_Tree_parents,(by show 2 < 1000; decide),?_⟩
    show Q .non _
    rw [upd_upd,upd_upd]
    exact q
noncomputable def sp_children (K:PySem.W.Frag) (a:Adr):Sp:=fun vs H Q _ => ∃ z t dx lo ln lp us x y ps,∃ k:Nat,vs = [.ref t,.int (k:Nat)] ∧ TreeAt a z H t dx lo ln lp us x y ps ∧ ps.length ≤ 1000 ∧
  ∀ l H',H' l = some (.lst (nsV (Fo.chF k 0 ps))) → H l = none → Same H H' → Q (.ref l) H'
theorem chF_snoc {k:Nat} {ps:List (Option Nat)} {i:Nat} {p:Option Nat} (h:ps[i]? = some p):Fo.chF k 0 (ps.take (i + 1)) = Fo.chF k 0 (ps.take i) ++ (if p = some k then [i] else []):=by
  obtain ⟨h1,h2⟩:=List.getElem?_eq_some_iff.mp h
  rw [List.take_succ_eq_append_getElem h1,h2,Fo.chF_app,Nat.zero_add,List.length_take,Nat.min_eq_left (by omega)]
  congr 1
theorem chF_le (k:Nat):∀ (i:Nat) (l:List (Option Nat)),(Fo.chF k i l).length ≤ l.length
  | _,[] => Nat.le_refl _
  | i,p :: l => by
    show (if p = some k then i :: Fo.chF k (i + 1) l else Fo.chF k (i + 1) l).length ≤ l.length + 1
    have:=chF_le k (i + 1) l
    split
    · rw [List.length_cons]; omega
    · omega
theorem ok_children (T:Txt K mg a):Ok P w K mg base 1 a.children ["tree","number"] (sp_children K a):=by
  refine T.f_children.ok sc_children (fun vs H Q E h => ?_) (fun cdv A outer s H vs Q E hr h => ?_)
  · obtain ⟨z,t,dx,lo,ln,lp,us,x,y,ps,k,rfl,_⟩:=h
    rfl
  · obtain ⟨z,t,dx,lo,ln,lp,us,x,y,ps,k,rfl,hT,hlen,q⟩:=h
    refine ⟨_,(pss_one (ps_ret (pe_lc (g:=gTup K 2 (gCons (gName 2) (gCons (gName 3) gNil))) rfl sc_children.nd (pi_enum rfl T.b_enumerate (pa_cons (pe_fld (pv 0) rfl) pa_nil)) (own:=[("child",2),("parent",3)]) (show BlkOk n_children (defScope s_children) _ _ from ⟨rfl,by decide +kernel,by decide +kernel,by decide +kernel,by decide +kernel⟩) (fun _ _ _ _ _ => (pg_tup (n:=2) rfl (pgs_cons (pg_name (i:=2) sc_children.nd rfl (Or.inl rfl)) (pgs_cons (pg_name (i:=3) sc_children.nd rfl (Or.inl rfl)) pgs_nil)))) (fun _ _ _ _ _ => (pts_one (pt_cmpR op_eq (pv 3) (pv 1) (nomark _)))) (fun _ _ _ _ _ => (pv 2))))),?_⟩
    refine ⟨_,rfl,t,a.Tree,dx,_,_,rfl,hT.obj,T.c_Tree,T.n_Tree_parents,rfl,lp,_,rfl,SqL.of hT.par.1,fun D hD => ?_⟩
    refine lc_enum (K:=K) (a:=lp) (xs:=ps.map pV) (fun i H' => Same H H' ∧ H' D = some (.lst (nsV (Fo.chF k 0 (ps.take i))))) ⟨Same.new hD,upd_same⟩ (fun i H' _ h => SqL.of (h.1 _ _ hT.par.1)) ?_ ?_
    · rintro i v H' T' hv ⟨s1,h1⟩ hT'
      obtain ⟨p,hp,rfl⟩:∃ p,ps[i]? = some p ∧ v = pV p:=by
        rw [List.getElem?_map] at hv
        obtain ⟨p,e1,e2⟩:=Option.map_eq_some_iff.mp hv
        exact ⟨p,e1,e2.symm⟩
      have hTD:T' ≠ D:=fun e => by rw [e,h1] at hT'; cases hT'
      refine ⟨T',_,rfl,.inl (.inl upd_same),rfl,_,_,rfl,_,_,rfl,rfl,rfl,?_⟩
      have hD2:(upd H' T' (.tup [.int (i:Nat),pV p])) D = some (.lst (nsV (Fo.chF k 0 (ps.take i)))):=by rw [upd_ne (Ne.symm hTD)]; exact h1
      refine ⟨_,rfl,_,rfl,(by cases p <;> rfl),_,rfl,?_⟩
      have sn:=chF_snoc (k:=k) hp
      refine ite2 (fun c => ?_) (fun c => ?_)
      · have e:p = some k:=by
          have:=of_decide_eq_true c
          cases p with
          | none => cases this
          | some m => injection this with this; rw [show m = k by omega]
        rw [if_pos e] at sn
        refine ⟨_,rfl,_,hD2,small1000 (by rw [nsV_len]; have:=chF_le k 0 (ps.take i); rw [List.length_take] at this; omega),Same.put (s1.trans (Same.new hT')) hD,?_⟩
        rw [upd_same,sn]
        unfold nsV
        rw [List.map_append]
        rfl
      · have e:p ≠ some k:=by
          rintro rfl
          exact c (decide_eq_true rfl)
        rw [if_neg e,List.append_nil] at sn
        refine ⟨s1.trans (Same.new hT'),?_⟩
        rw [sn]
        exact hD2
    · rintro H' ⟨s1,h1⟩
      rw [List.length_map,List.take_length] at h1
      exact q D H' h1 hD s1
end
end TC
namespace TC
open PySem PySem.Spec PyProof.Rows L2
theorem dT {p:Prop} [Decidable p] (h:decide p = true):p:=of_decide_eq_true h
theorem dF {p:Prop} [Decidable p] (h:¬ decide p = true):¬ p:=fun q => h (decide_eq_true q)
theorem map_get {α:Type} {f:α → V} {l:List α} {i:Nat} {v:V} (h:(l.map f)[i]? = some v):∃ p,l[i]? = some p ∧ v = f p:=by
  rw [List.getElem?_map] at h
  obtain ⟨p,e1,e2⟩:=Option.map_eq_some_iff.mp h
  exact ⟨p,e1,e2.symm⟩
section
variable {P:Program} {w:World} {K:PySem.W.Frag} {mg:Str → Option Value} {base:Heap} {a:Adr}
noncomputable def sp_number_behind (K:PySem.W.Frag) (a:Adr):Sp:=fun vs H Q _ => ∃ z t dx lo ln lp us x F u N,∃ k:Nat,vs = [.ref t,.int (k:Nat)] ∧ TreeAt a z H t dx lo ln lp us x (Fo.fl F) (Fo.ps F) ∧ Fo.roots F = 1 ∧ Fo.node F k = some (u,N) ∧
  Q (.int ((k + 1 + Fo.sz N:Nat):Int)) H
theorem ok_number_behind (T:Txt K mg a):Ok P w K mg base 1 a.number_behind ["tree","number"] (sp_number_behind K a):=by
  refine T.f_number_behind.ok sc_number_behind (fun vs H Q E h => ?_) (fun cdv A outer s H vs Q E hr h => ?_)
  · obtain ⟨z,t,dx,lo,ln,lp,us,x,F,u,N,k,rfl,_⟩:=h
    rfl
  · obtain ⟨z,t,dx,lo,ln,lp,us,x,F,u,N,k,rfl,hT,hF,hN,q⟩:=h
    refine ⟨_,(pss_cons (ps_set (i:=2) sc_number_behind.nd rfl (Or.inl rfl) (pe_op op_add (pv 1) pe_int))
      (pss_cons (ps_while PassesOwn.never (pw_and (pt_cmpR op_lt (pv 2) (pe_callB call_len_seq (by rfl) T.b_len PySem.boot_len (pa_cons (pe_fld (pv 0) rfl) pa_nil)) (nomark _)) (pw_and1 (pt_cmpR op_ge (pe_ix ix_list (pe_fld (pv 0) rfl) (pv 2) (fun _ _ => rfl)) (pv 1) (nomark _)))).pt
      (pss_one (ps_aug (i:=2) sc_number_behind.nd rfl (Or.inl rfl) pe_int ip_add)))
      (pss_one (ps_ret (pv 2))))),?_⟩
    have hln:us.length = Fo.sz F:=by rw [Paired.len hT.nod,Fo.fl_len]
    have lt:=Fo.node_lt hN
    refine ⟨_,rfl,_,_,rfl,rfl,?_⟩
    refine ⟨fun m σ H' => ∃ b:Nat,σ = [some (.ref t),some (.int (k:Nat)),some (.int (b:Nat))] ∧ H' = H ∧ k < b ∧ b ≤ k + 1 + Fo.sz N ∧ m = Fo.sz F + 1 - b,⟨_,k + 1,rfl,rfl,by omega,by omega,rfl⟩,?_⟩
    rintro m σ H' ⟨b,rfl,rfl,h1,h2,rfl⟩
    have fin:b = k + 1 + Fo.sz N → tRet (tVar 2) { nx:=fun _ H' => Q .non H',rt:=Q } [some (.ref t),some (.int (k:Nat)),some (.int (b:Nat))] H':=fun e => ⟨_,rfl,by rw [e]; exact q⟩
    refine ⟨_,rfl,_,rfl,t,a.Tree,dx,_,_,rfl,hT.obj,T.c_Tree,T.n_Tree_nodes,rfl,ln,_,rfl,.inl (SqL.of hT.nds.1),_,_,rfl,rfl,_,rfl,?_⟩
    refine ite2 (fun c => ?_) (fun c => ?_)
    · have c1:=dT c
      have hb:b < Fo.sz F:=by omega
      obtain ⟨p,hp⟩:∃ p,(Fo.ps F)[b]? = some p:=⟨_,List.getElem?_eq_getElem (by rw [Fo.ps_len]; exact hb)⟩
      obtain ⟨m,rfl⟩:∃ m,p = some m:=by
        cases p with
        | none => exact absurd hp (Fo.root_par hF (by omega))
        | some m => exact ⟨m,rfl⟩
      refine ⟨_,rfl,t,a.Tree,dx,_,_,rfl,hT.obj,T.c_Tree,T.n_Tree_parents,rfl,_,rfl,lp,_,_,_,rfl,rfl,SqL.of hT.par.1,atI_nat (pV_get hp),_,rfl,_,_,rfl,rfl,_,rfl,?_⟩
      refine ite2 (fun c2 => ?_) (fun c2 => ?_)
      · have c2:=dT c2
        refine ⟨fun σ' H' => ∃ m',m' < Fo.sz F + 1 - b ∧ ∃ b':Nat,σ' = [some (.ref t),some (.int (k:Nat)),some (.int (b':Nat))] ∧ H' = _ ∧ k < b' ∧ b' ≤ k + 1 + Fo.sz N ∧ m' = Fo.sz F + 1 - b',fun σ' H' h => h,?_⟩
        refine ⟨_,rfl,_,_,rfl,rfl,_,(show Fo.sz F + 1 - (b + 1) < Fo.sz F + 1 - b by omega),b + 1,rfl,rfl,by omega,?_,rfl⟩
        by_cases e:b = k + 1 + Fo.sz N
        · subst e
          rcases Fo.par_next hN hp with y | ⟨q',y,hq⟩
          · cases y
          · cases y; omega
        · omega
      · have c2:=dF c2
        refine fin ?_
        by_cases e:b = k + 1 + Fo.sz N
        · exact e
        · obtain ⟨q',h3,h4⟩:=Fo.par_in hN h1 (by omega)
          rw [hp] at h4
          cases h4
          omega
    · have c1:=dF c
      refine iteF (fin ?_)
      omega
noncomputable def sp_stands_beneath (K:PySem.W.Frag) (a:Adr):Sp:=fun vs H Q _ => ∃ z t dx lo ln lp us x F u N,∃ m k:Nat,vs = [.ref t,.int (m:Nat),.int (k:Nat)] ∧ TreeAt a z H t dx lo ln lp us x (Fo.fl F) (Fo.ps F) ∧ Fo.roots F = 1 ∧ Fo.node F k = some (u,N) ∧
  Q (.bl (decide (k < m ∧ m < k + 1 + Fo.sz N))) H
theorem ok_stands_beneath (T:Txt K mg a):Ok P w K mg base 2 a.stands_beneath ["tree","lower","upper"] (sp_stands_beneath K a):=by
  obtain ⟨_,F_number_behind,b_number_behind⟩:=ok_number_behind (P:=P) (w:=w) (base:=base) T
  refine T.f_stands_beneath.ok sc_stands_beneath (fun vs H Q E h => ?_) (fun cdv A outer s H vs Q E hr h => ?_)
  · obtain ⟨z,t,dx,lo,ln,lp,us,x,F,u,N,m,k,rfl,_⟩:=h
    rfl
  · obtain ⟨z,t,dx,lo,ln,lp,us,x,F,u,N,m,k,rfl,hT,hF,hN,q⟩:=h
    refine ⟨_,(pss_one (ps_ret (pe_and (pe_cmpR op_lt (pv 2) (pv 1) (nomark _)) (pe_one (pe_cmpR op_lt (pv 1) (pe_call F_number_behind (hr.mono (by decide)) (by rfl) T.g_number_behind T.f_number_behind.kp b_number_behind .nil passE0 (pa_cons (pv 0) (pa_cons (pv 2) pa_nil))) (nomark _)))))),?_⟩
    refine ⟨_,rfl,_,rfl,_,_,rfl,rfl,_,rfl,?_⟩
    refine ite2 (fun c => ?_) (fun c => ?_)
    · have c1:=dT c
      refine ⟨_,rfl,_,rfl,_,rfl,z,t,dx,lo,ln,lp,us,x,F,u,N,k,rfl,hT,hF,hN,_,_,rfl,rfl,?_⟩
      have e:decide (((m:Nat):Int) < ((k + 1 + Fo.sz N:Nat):Int)) = decide (k < m ∧ m < k + 1 + Fo.sz N):=decide_eq_decide.mpr (by omega)
      show Q (.bl (decide (((m:Nat):Int) < ((k + 1 + Fo.sz N:Nat):Int)))) H
      rw [e]
      exact q
    · have c1:=dF c
      have e:decide (k < m ∧ m < k + 1 + Fo.sz N) = false:=decide_eq_false (by omega)
      rw [e] at q
      exact q
noncomputable def ofRule (y:Vaglrc.Tree) (r i:Nat):List Nat:=(List.range i).filter fun m => decide ((y[m]?.map fun u => u.1) = some r)
noncomputable def sp_nodes_of_rule (K:PySem.W.Frag) (a:Adr):Sp:=fun vs H Q _ => ∃ z t dx lo ln lp us x y ps,∃ r:Nat,vs = [.ref t,.int (r:Nat)] ∧ TreeAt a z H t dx lo ln lp us x y ps ∧ y.length ≤ 1000 ∧
  ∀ l H',H' l = some (.lst (nsV (ofRule y r y.length))) → H l = none → Same H H' → Q (.ref l) H'
theorem ofRule_succ {y:Vaglrc.Tree} {r i:Nat} {u:Vaglrc.Used} (h:y[i]? = some u):ofRule y r (i + 1) = ofRule y r i ++ (if u.1 = r then [i] else []):=by
  unfold ofRule
  rw [List.range_succ,List.filter_append,List.filter_cons,h]
  by_cases c:u.1 = r
  · simp [c]
  · simp [c]
theorem ofRule_le (y:Vaglrc.Tree) (r i:Nat):(ofRule y r i).length ≤ i:=by
  unfold ofRule
  have:=List.length_filter_le (fun m => decide ((y[m]?.map fun u => u.1) = some r)) (List.range i)
  rw [List.length_range] at this
  exact this
theorem ok_nodes_of_rule (T:Txt K mg a):Ok P w K mg base 1 a.nodes_of_rule ["tree","rule"] (sp_nodes_of_rule K a):=by
  refine T.f_nodes_of_rule.ok sc_nodes_of_rule (fun vs H Q E h => ?_) (fun cdv A outer s H vs Q E hr h => ?_)
  · obtain ⟨z,t,dx,lo,ln,lp,us,x,y,ps,r,rfl,_⟩:=h
    rfl
  · obtain ⟨z,t,dx,lo,ln,lp,us,x,y,ps,r,rfl,hT,hlen,q⟩:=h
    refine ⟨_,(pss_one (ps_ret (pe_lc (g:=gTup K 2 (gCons (gName 2) (gCons (gName 3) gNil))) (tt:=tTest (tOp rEq (tFld K (tVar 3) "rule") (tVar 1))) rfl sc_nodes_of_rule.nd (pi_enum rfl T.b_enumerate (pa_cons (pe_fld (pv 0) rfl) pa_nil)) (own:=[("number",2),("node",3)]) (show BlkOk n_nodes_of_rule (defScope s_nodes_of_rule) _ _ from ⟨rfl,by decide +kernel,by decide +kernel,by decide +kernel,by decide +kernel⟩) (fun _ _ _ _ _ => (pg_tup (n:=2) rfl (pgs_cons (pg_name (i:=2) sc_nodes_of_rule.nd rfl (Or.inl rfl)) (pgs_cons (pg_name (i:=3) sc_nodes_of_rule.nd rfl (Or.inl rfl)) pgs_nil)))) (fun _ _ _ _ _ => (pts_one (pt_cmpR op_eq (pe_fld (pv 3) rfl) (pv 1) (nomark _)))) (fun _ _ _ _ _ => (pv 2))))),?_⟩
    refine ⟨_,rfl,t,a.Tree,dx,_,_,rfl,hT.obj,T.c_Tree,T.n_Tree_nodes,rfl,ln,_,rfl,SqL.of hT.nds.1,fun D hD => ?_⟩
    refine lc_enum (K:=K) (a:=ln) (xs:=us) (fun i H' => Same H H' ∧ H' D = some (.lst (nsV (ofRule y r i)))) ⟨Same.new hD,upd_same⟩ (fun i H' _ h => SqL.of (h.1 _ _ hT.nds.1)) ?_ ?_
    · rintro i v H' T' hv ⟨s1,h1⟩ hT'
      obtain ⟨u,hu,xu,dxu,rfl,hx⟩:=Paired.atL hT.nod hv
      have hTD:T' ≠ D:=fun e => by rw [e,h1] at hT'; cases hT'
      have s2:Same H (upd H' T' (.tup [.int (i:Nat),.ref xu])):=s1.trans (Same.new hT')
      refine ⟨T',_,rfl,.inl (.inl upd_same),rfl,_,_,rfl,_,_,rfl,rfl,rfl,?_⟩
      have hD2:(upd H' T' (.tup [.int (i:Nat),.ref xu])) D = some (.lst (nsV (ofRule y r i))):=by rw [upd_ne (Ne.symm hTD)]; exact h1
      refine ⟨_,rfl,xu,a.Node,dxu,_,_,rfl,s2 _ _ hx,T.c_Node,T.n_Node_rule,rfl,_,rfl,rfl,_,rfl,?_⟩
      have sn:=ofRule_succ (r:=r) hu
      refine ite2 (fun c => ?_) (fun c => ?_)
      · have e:u.1 = r:=by
          have:=dT c
          injection this with this
          omega
        rw [if_pos e] at sn
        refine ⟨_,rfl,_,hD2,small1000 (by rw [nsV_len]; have:=ofRule_le y r i; have:=(List.getElem?_eq_some_iff.mp hu).1; omega),Same.put s2 hD,?_⟩
        rw [upd_same,sn]
        unfold nsV
        rw [List.map_append]
        rfl
      · have e:u.1 ≠ r:=by
          intro e
          exact c (decide_eq_true (by show V.int (u.1:Nat) = V.int (r:Nat); rw [e]))
        rw [if_neg e,List.append_nil] at sn
        refine ⟨s2,?_⟩
        rw [sn]
        exact hD2
    · rintro H' ⟨s1,h1⟩
      rw [Paired.len hT.nod] at h1
      exact q D H' h1 hD s1
noncomputable def bnR (y:Vaglrc.Tree) (ps:List (Option Nat)) (r:Nat):Nat → Nat → Bool
  | 0,_ => false
  | f + 1,m => match ps[m]? with
    | some (some q) => bnR y ps r f q || decide ((y[q]?.map fun u => u.1) = some r)
    | _ => false
theorem bnR_fuel {y:Vaglrc.Tree} {ps:List (Option Nat)} {r:Nat} (lt:∀ m q:Nat,ps[m]? = some (some q) → q < m):∀ {f f' m:Nat},m < f → m < f' → bnR y ps r f m = bnR y ps r f' m
  | 0,_,_,h,_ => nomatch h
  | _ + 1,0,_,_,h => nomatch h
  | f + 1,f' + 1,m,h,h' => by
    unfold bnR
    cases e:ps[m]? with
    | none => rfl
    | some p =>
      cases p with
      | none => rfl
      | some q =>
        have:=lt m q e
        dsimp only
        rw [bnR_fuel lt (f:=f) (f':=f') (by omega) (by omega)]
noncomputable def sp_beneath_rule (K:PySem.W.Frag) (a:Adr):Sp:=fun vs H Q _ => ∃ z t dx lo ln lp us x y ps,∃ r:Nat,vs = [.ref t,.int (r:Nat)] ∧ TreeAt a z H t dx lo ln lp us x y ps ∧ y.length ≤ 1000 ∧ ps.length = y.length ∧ (∀ m q:Nat,ps[m]? = some (some q) → q < m) ∧
  ∀ l H',H' l = some (.lst ((List.range y.length).map fun m => V.bl (bnR y ps r (m + 1) m))) → H l = none → Same H H' → Q (.ref l) H'
theorem ok_beneath_rule (T:Txt K mg a):Ok P w K mg base 1 a.beneath_rule ["tree","rule"] (sp_beneath_rule K a):=by
  refine T.f_beneath_rule.ok sc_beneath_rule (fun vs H Q E h => ?_) (fun cdv A outer s H vs Q E hr h => ?_)
  · obtain ⟨z,t,dx,lo,ln,lp,us,x,y,ps,r,rfl,_⟩:=h
    rfl
  · obtain ⟨z,t,dx,lo,ln,lp,us,x,y,ps,r,rfl,hT,hlen,hpl,lt,q⟩:=h
    refine ⟨_,(pss_cons (ps_set (i:=2) sc_beneath_rule.nd rfl (Or.inl rfl) (pe_lst pa_nil))
      (pss_cons (ps_for PassesOwn.never rfl (pi_list (pe_fld (pv 0) rfl)) (pg_name (i:=3) sc_beneath_rule.nd rfl (Or.inl rfl))
      (pss_one (ps_if (pt_cmp (pc_isN (pv 3))) (pss_one (ps_expr (pe_bm PySem.F.plainAttrs_list PySem.F.slot_list_append PySem.F.type_list_append mt_append (pv 2) (pa_cons pe_bl pa_nil)))) (pss_one (ps_expr (pe_bm PySem.F.plainAttrs_list PySem.F.slot_list_append PySem.F.type_list_append mt_append (pv 2) (pa_cons (pe_or (pe_ix ix_list (pv 2) (pv 3) (fun _ _ => rfl)) (pe_one (pe_cmpR op_eq (pe_fld (pe_ix ix_list (pe_fld (pv 0) rfl) (pv 3) (fun _ _ => rfl)) rfl) (pv 1) (nomark _)))) pa_nil)))))))
      (pss_one (ps_ret (pv 2))))),?_⟩
    refine ⟨Nat.zero_le _,fun l hl => ?_⟩
    have s0:Same H (upd H l (.lst [])):=Same.new hl
    refine ⟨_,rfl,t,a.Tree,dx,_,_,rfl,s0 _ _ hT.obj,T.c_Tree,T.n_Tree_parents,rfl,lp,rfl,⟨_,SqL.of (s0 _ _ hT.par.1)⟩,for_list (K:=K) (a:=lp) (xs:=ps.map pV) (fun i σ H' => ∃ v,σ = [some (.ref t),some (.int (r:Nat)),some (.ref l),v] ∧ Same H H' ∧ H' l = some (.lst ((List.range i).map fun m => V.bl (bnR y ps r (m + 1) m))))
      ⟨none,rfl,s0,upd_same⟩ (fun i σ H' _ ⟨_,_,s1,_⟩ => SqL.of (s1 _ _ hT.par.1)) ?_ ?_⟩
    · rintro i v σ H' hv ⟨v3,rfl,s1,h1⟩
      obtain ⟨p,hp,rfl⟩:=map_get hv
      have hi:i < y.length:=by rw [← hpl]; exact (List.getElem?_eq_some_iff.mp hp).1
      have hsz:((List.range i).map fun m => V.bl (bnR y ps r (m + 1) m)).length < sizeLine:=small1000 (by simp; omega)
      have go:∀ (H2:Hp) (b:Bool),H2 = H' → bnR y ps r (i + 1) i = b → Same H (upd H2 l (.lst ((List.range i).map (fun m => V.bl (bnR y ps r (m + 1) m)) ++ [V.bl b]))) ∧ (upd H2 l (.lst ((List.range i).map (fun m => V.bl (bnR y ps r (m + 1) m)) ++ [V.bl b]))) l = some (.lst ((List.range (i + 1)).map fun m => V.bl (bnR y ps r (m + 1) m))):=by
        rintro H2 b rfl e
        refine ⟨Same.put s1 hl,?_⟩
        rw [upd_same,List.range_succ,List.map_append,← e]
        rfl
      refine ⟨_,rfl,_,rfl,?_⟩
      cases p with
      | none =>
        refine iteT ?_
        refine ⟨_,rfl,.inl ⟨rfl,_,SqL.of h1⟩,l,_,_,rfl,rfl,h1,hsz,_,rfl,?_⟩
        refine go _ false rfl ?_
        unfold bnR
        rw [hp]
      | some m =>
        have hm:=lt i m hp
        refine iteF ?_
        obtain ⟨u,hu⟩:∃ u,y[m]? = some u:=⟨_,List.getElem?_eq_getElem (by omega)⟩
        obtain ⟨v,hv,xu,dxu,rfl,hx⟩:=Paired.at_ hT.nod hu
        have eb:bnR y ps r (i + 1) i = (bnR y ps r (m + 1) m || decide (u.1 = r)):=by
          rw [bnR,hp]
          dsimp only
          rw [hu,bnR_fuel lt (f:=i) (f':=m + 1) hm (by omega)]
          congr 1
          exact decide_eq_decide.mpr ⟨fun z => Option.some.inj z,fun z => congrArg some z⟩
        refine ⟨_,rfl,.inl ⟨rfl,_,SqL.of h1⟩,_,rfl,_,rfl,l,_,_,V.bl (bnR y ps r (m + 1) m),rfl,rfl,SqL.of h1,atI_nat (by rw [List.getElem?_map,List.getElem?_range hm]; rfl),_,rfl,?_⟩
        refine ite2 (fun c => ?_) (fun c => ?_)
        · refine ⟨l,_,_,rfl,rfl,h1,hsz,_,rfl,?_⟩
          refine go _ true rfl ?_
          rw [eb,c]
          rfl
        · refine ⟨_,rfl,t,a.Tree,dx,_,_,rfl,s1 _ _ hT.obj,T.c_Tree,T.n_Tree_nodes,rfl,_,rfl,ln,_,_,_,rfl,rfl,SqL.of (s1 _ _ hT.nds.1),atI_nat hv,xu,a.Node,dxu,_,_,rfl,s1 _ _ hx,T.c_Node,T.n_Node_rule,rfl,_,rfl,rfl,?_⟩
          refine ⟨l,_,_,rfl,rfl,h1,hsz,_,rfl,?_⟩
          refine go _ _ rfl ?_
          rw [eb]
          have:bnR y ps r (m + 1) m = false:=by simpa using c
          rw [this,Bool.false_or]
          refine decide_eq_decide.mpr ⟨fun z => by rw [z],fun z => ?_⟩
          injection z with z
          omega
    · rintro σ H' ⟨v3,rfl,s1,h1⟩
      rw [List.length_map,hpl] at h1
      exact ⟨_,rfl,q l H' h1 hl s1⟩
end
end TC
namespace TC
open PySem PySem.Spec PyProof.Rows L2
theorem cutV_nat (xs:List V) (i j:Nat):cutV xs (some (i:Int)) (some (j:Int)) = (xs.drop i).take (j - i):=by
  unfold cutV
  have e2:HT.sIx xs.length 0 (some (i:Int)) = min i xs.length:=by
    simp only [HT.sIx]
    rw [if_neg (by omega)]
    omega
  have e3:HT.sIx xs.length xs.length (some (j:Int)) = min j xs.length:=by
    simp only [HT.sIx]
    rw [if_neg (by omega)]
    omega
  rw [e2,e3]
  by_cases h:i ≤ xs.length
  · rw [Nat.min_eq_left h]
    by_cases h2:j ≤ xs.length
    · rw [Nat.min_eq_left h2]
    · rw [Nat.min_eq_right (by omega),List.take_of_length_le (by rw [List.length_drop]; omega),List.take_of_length_le (by rw [List.length_drop]; omega)]
  · rw [show min i xs.length = xs.length by omega,List.drop_eq_nil_of_le (Nat.le_refl _),List.drop_eq_nil_of_le (by omega),List.take_nil,List.take_nil]
theorem cutV_to (xs:List V) (j:Nat):cutV xs none (some (j:Int)) = xs.take j:=by
  have:=cutV_nat xs 0 j
  rw [List.drop_zero,Nat.sub_zero] at this
  rw [← this]
  unfold cutV
  have e:HT.sIx xs.length 0 none = HT.sIx xs.length 0 (some ((0:Nat):Int)):=by simp [HT.sIx]
  rw [e]
theorem cutV_from (xs:List V) (i:Nat):cutV xs (some (i:Int)) none = xs.drop i:=by
  have:=cutV_nat xs i xs.length
  have e:HT.sIx xs.length xs.length none = HT.sIx xs.length xs.length (some ((xs.length:Nat):Int)):=by
    simp only [HT.sIx]
    rw [if_neg (by omega)]
    omega
  unfold cutV at this ⊢
  rw [e,this,List.take_of_length_le (by rw [List.length_drop]; omega)]
theorem t_yes {σ:L2.St} {H:Hp} {X Y:Hp → Prop} (h:X H):tYes σ H (fun b H3 => if b = true then X H3 else Y H3):=by
  show (if true = true then X H else Y H)
  rw [if_pos rfl]
  exact h
theorem ixN_nat {n j:Nat} (h:j < n):ixN n (j:Int) = some j:=by
  unfold ixN
  rw [if_pos (by omega),if_pos (by omega),Int.toNat_natCast]
theorem nsV_app (x y:List Nat):nsV (x ++ y) = nsV x ++ nsV y:=List.map_append
theorem nsV_ints (x:List Nat):nsV x = (x.map fun n => ((n:Nat):Int)).map V.int:=by unfold nsV; rw [List.map_map]; rfl
theorem pr_slice {F:Fo} {k:Nat} {u:Vaglrc.Used} {N:Fo} (h:Fo.node F k = some (u,N)):((Fo.ps F).drop (k + 1)).take (Fo.sz N) = Fo.pr (k + 1) (some k) N:=by
  obtain ⟨x,rest,d,_⟩:=Fo.pr_drop (i:=0) (p:=none) h
  rw [Nat.zero_add] at d
  rw [show Fo.ps F = Fo.pr 0 none F from rfl,← List.drop_drop,d,List.drop_succ_cons,List.drop_zero,List.take_append_of_le_length (by rw [Fo.pr_len]; omega),List.take_of_length_le (by rw [Fo.pr_len]; omega)]
section
variable {P:Program} {w:World} {K:PySem.W.Frag} {mg:Str → Option Value} {base:Heap} {a:Adr}
noncomputable def sp_nodes_on_longest_way (K:PySem.W.Frag) (a:Adr):Sp:=fun vs H Q _ => ∃ z t dx lo ln lp us x F u N,∃ k:Nat,vs = [.ref t,.int (k:Nat)] ∧ TreeAt a z H t dx lo ln lp us x (Fo.fl F) (Fo.ps F) ∧ Fo.roots F = 1 ∧ Fo.node F k = some (u,N) ∧ Fo.sz F ≤ 900 ∧
  ∀ H',Same H H' → Q (.int ((Fo.ht N + 1:Nat):Int)) H'
theorem ok_nodes_on_longest_way (T:Txt K mg a):Ok P w K mg base 2 a.nodes_on_longest_way ["tree","number"] (sp_nodes_on_longest_way K a):=by
  obtain ⟨_,F_number_behind,b_number_behind⟩:=ok_number_behind (P:=P) (w:=w) (base:=base) T
  refine T.f_nodes_on_longest_way.ok sc_nodes_on_longest_way (fun vs H Q E h => ?_) (fun cdv A outer s H vs Q E hr h => ?_)
  · obtain ⟨z,t,dx,lo,ln,lp,us,x,F,u,N,k,rfl,_⟩:=h
    rfl
  · obtain ⟨z,t,dx,lo,ln,lp,us,x,F,u,N,k,rfl,hT,hF,hN,hsz,q⟩:=h
    refine ⟨_,(pss_cons (ps_set (i:=2) sc_nodes_on_longest_way.nd rfl (Or.inl rfl) (pe_lst (pa_cons pe_int pa_nil)))
      (pss_cons (ps_for PassesOwn.never rfl (pi_list (pe_slice sl_list (pe_fld (pv 0) rfl) (po_some (pe_op op_add (pv 1) pe_int)) (po_some (pe_call F_number_behind (hr.mono (by decide)) (by rfl) T.g_number_behind T.f_number_behind.kp b_number_behind .nil passE0 (pa_cons (pv 0) (pa_cons (pv 1) pa_nil)))))) (pg_name (i:=3) sc_nodes_on_longest_way.nd rfl (Or.inl rfl))
      (pss_one (ps_expr (pe_bm PySem.F.plainAttrs_list PySem.F.slot_list_append PySem.F.type_list_append mt_append (pv 2) (pa_cons (pe_op op_add (pe_ix ix_list (pv 2) (pe_op op_sub (pv 3) (pv 1)) (fun _ _ => rfl)) pe_int) pa_nil)))))
      (pss_one (ps_ret (pe_callB (cr_max rfl) (by rfl) T.b_max boot_max (pa_cons (pv 2) pa_nil)))))),?_⟩
    have lt:=Fo.node_lt hN
    refine ⟨(by show 1 ≤ sizeLine; decide),fun l hl => ?_⟩
    have s0:Same H (upd H l (.lst [.int 1])):=Same.new hl
    refine ⟨_,rfl,t,a.Tree,dx,_,_,rfl,s0 _ _ hT.obj,T.c_Tree,T.n_Tree_parents,rfl,_,rfl,_,_,rfl,rfl,_,rfl,_,rfl,_,rfl,z,t,dx,lo,ln,lp,us,x,F,u,N,k,rfl,hT.same s0,hF,hN,_,rfl,lp,_,rfl,SqL.of (s0 _ _ hT.par.1),fun sl hsl => ?_⟩
    have e1:cutV ((Fo.ps F).map pV) (some (((k:Nat):Int) + 1)) (some ((k + 1 + Fo.sz N:Nat):Int)) = (Fo.pr (k + 1) (some k) N).map pV:=by
      rw [show ((k:Nat):Int) + 1 = ((k + 1:Nat):Int) by omega,cutV_nat,← List.map_drop,← List.map_take,show k + 1 + Fo.sz N - (k + 1) = Fo.sz N by omega,pr_slice hN]
    rw [e1]
    have hls:l ≠ sl:=fun e => by rw [← e,upd_same] at hsl; cases hsl
    have s1:Same H (upd (upd H l (.lst [.int 1])) sl (.lst ((Fo.pr (k + 1) (some k) N).map pV))):=s0.trans (Same.new hsl)
    have hsl0:H sl = none:=s0.free hsl
    refine ⟨sl,rfl,⟨_,SqL.of upd_same⟩,for_list (K:=K) (a:=sl) (xs:=(Fo.pr (k + 1) (some k) N).map pV) (fun i σ H' => ∃ v,σ = [some (.ref t),some (.int (k:Nat)),some (.ref l),v] ∧ Same H H' ∧ H' sl = some (.lst ((Fo.pr (k + 1) (some k) N).map pV)) ∧ H' l = some (.lst (nsV ((1 :: Fo.dp 2 N).take (i + 1)))))
      ⟨none,rfl,s1,upd_same,by rw [upd_ne hls]; exact upd_same⟩ (fun i σ H' _ ⟨_,_,_,h,_⟩ => SqL.of h) ?_ ?_⟩
    · rintro i v σ H' hv ⟨v3,rfl,s2,h1,h2⟩
      obtain ⟨p,hp,rfl⟩:=map_get hv
      have hi:i < Fo.sz N:=by have:=(List.getElem?_eq_some_iff.mp hp).1; rw [Fo.pr_len] at this; exact this
      have sh:=Fo.pr_shift k N 1 (some 0)
      rw [show 1 + k = k + 1 by omega,show (some 0:Option Nat).map (· + k) = some k by show some (0 + k) = _; rw [Nat.zero_add]] at sh
      rw [sh,List.getElem?_map] at hp
      obtain ⟨p0,hp0,rfl⟩:=Option.map_eq_some_iff.mp hp
      obtain ⟨m,rfl⟩:∃ m,p0 = some m:=by
        rcases Fo.pr_ge (List.mem_of_getElem? hp0) with e | ⟨m,e,_⟩
        · exact ⟨_,e⟩
        · exact ⟨_,e⟩
      have hm:m < 1 + i:=by
        have g1:(Fo.ps (.cons u N .nil))[1 + i]? = some (some m):=by
          show (none :: (Fo.pr 1 (some 0) N ++ []))[1 + i]? = _
          rw [show 1 + i = i + 1 by omega,List.append_nil]
          exact hp0
        exact Fo.par_lt g1
      obtain ⟨d,hd1,hd2⟩:=Fo.dp_par (K:=N) (i:=1) (q:=0) (b:=1) (D:=1 :: Fo.dp 2 N) (rest:=[]) (by rw [List.append_nil]; rfl) rfl hp0
      have hd3:((1 :: Fo.dp 2 N).take (i + 1))[m]? = some d:=by rw [List.getElem?_take_of_lt (by omega)]; exact hd1
      have hlen:(nsV ((1 :: Fo.dp 2 N).take (i + 1))).length < sizeLine:=small1000 (by rw [nsV_len,List.length_take]; omega)
      refine ⟨_,rfl,.inl ⟨rfl,_,SqL.of h2⟩,_,rfl,_,rfl,_,rfl,_,_,rfl,rfl,l,_,_,V.int (d:Nat),rfl,rfl,SqL.of h2,at_of (j:=m) (by show ((m + k:Nat):Int) - ((k:Nat):Int) = _; omega) (nsV_get hd3),_,_,rfl,rfl,l,_,_,rfl,rfl,h2,hlen,?_⟩
      refine ⟨_,rfl,Same.put s2 hl,by rw [upd_ne (Ne.symm hls)]; exact h1,?_⟩
      rw [upd_same,List.take_succ (l:=1 :: Fo.dp 2 N) (i:=i + 1),show i + 1 = 1 + i by omega,hd2,nsV_app]
      rfl
    · rintro σ H' ⟨v3,rfl,s2,h1,h2⟩
      rw [List.length_map,Fo.pr_len,List.take_of_length_le (by rw [List.length_cons,Fo.dp_len]; omega)] at h2
      refine ⟨_,rfl,l,_,rfl,SqL.of (by rw [← nsV_ints]; exact h2),by simp,fun m hm hmax => ?_⟩
      have e2:Fo.dp 1 (.cons u N .nil) = 1 :: Fo.dp 2 N:=by show 1 :: (Fo.dp 2 N ++ []) = _; rw [List.append_nil]
      have e3:Fo.ht (.cons u N .nil) = Fo.ht N + 1:=by show max (Fo.ht N + 1) 0 = _; omega
      obtain ⟨d,hd,rfl⟩:=List.mem_map.mp hm
      have g1:d ≤ 0 + Fo.ht (.cons u N .nil):=Fo.dp_le (b:=0) (by rw [e2]; exact hd)
      have g2:0 + Fo.ht (.cons u N .nil) ∈ Fo.dp 1 (.cons u N .nil):=Fo.dp_max (b:=0) (by simp)
      have g3:=hmax _ (List.mem_map.mpr ⟨_,(by rw [e2] at g2; exact g2),rfl⟩)
      have:d = Fo.ht N + 1:=by omega
      rw [this]
      exact q H' s2
noncomputable def plV (ps:List (Option Nat)) (c:Nat):V:=match ps[c]? with
  | some (some q) => .int ((Fo.plc ps q c:Nat):Int)
  | _ => .non
noncomputable def cntV (ps:List (Option Nat)) (n i:Nat):List V:=(List.range n).map fun q => V.int (((Fo.chF q 0 (ps.take i)).length:Nat):Int)
noncomputable def sp_child_places (K:PySem.W.Frag) (a:Adr):Sp:=fun vs H Q _ => ∃ z t dx lo ln lp us x y ps,vs = [.ref t] ∧ TreeAt a z H t dx lo ln lp us x y ps ∧ y.length ≤ 900 ∧ ps.length = y.length ∧ (∀ m q:Nat,ps[m]? = some (some q) → q < m) ∧
  ∀ l H',H' l = some (.lst ((List.range y.length).map (plV ps))) → H l = none → Same H H' → Q (.ref l) H'
theorem cnt_step {ps:List (Option Nat)} {n i q:Nat} (h:ps[i]? = some (some q)) (hq:q < n):(cntV ps n i).set q (.int (((Fo.plc ps q i:Nat):Int) + 1)) = cntV ps n (i + 1):=by
  apply List.ext_getElem?
  intro j
  rw [List.getElem?_set]
  unfold cntV
  rw [List.length_map,List.length_range]
  by_cases e:q = j
  · subst e
    rw [if_pos rfl,if_pos hq,List.getElem?_map,List.getElem?_range hq]
    show some (V.int _) = some (V.int _)
    rw [chF_snoc h,if_pos rfl,List.length_append]
    rfl
  · rw [if_neg e]
    by_cases hj:j < n
    · rw [List.getElem?_map,List.getElem?_map,List.getElem?_range hj]
      show some (V.int _) = some (V.int _)
      rw [chF_snoc h,if_neg (fun z => e (Option.some.inj z)),List.append_nil]
    · rw [List.getElem?_eq_none (by simp; omega),List.getElem?_eq_none (by simp; omega)]
theorem cnt_none {ps:List (Option Nat)} {n i:Nat} (h:ps[i]? = some none):cntV ps n (i + 1) = cntV ps n i:=by
  unfold cntV
  apply List.map_congr_left
  intro q _
  rw [chF_snoc h,if_neg (fun z => nomatch z),List.append_nil]
theorem ok_child_places (T:Txt K mg a):Ok P w K mg base 1 a.child_places ["tree"] (sp_child_places K a):=by
  refine T.f_child_places.ok sc_child_places (fun vs H Q E h => ?_) (fun cdv A outer s H vs Q E hr h => ?_)
  · obtain ⟨z,t,dx,lo,ln,lp,us,x,y,ps,rfl,_⟩:=h
    rfl
  · obtain ⟨z,t,dx,lo,ln,lp,us,x,y,ps,rfl,hT,hlen,hpl,lt,q⟩:=h
    refine ⟨_,(pss_cons (ps_setLc (i:=1) rfl sc_child_places.nd rfl rfl rfl (pi_list (pe_fld (pv 0) rfl)) (own:=[("node",4)]) (show BlkOk n_child_places (defScope s_child_places) _ _ from ⟨rfl,by decide +kernel,by decide +kernel,by decide +kernel,by decide +kernel⟩) (fun _ _ _ _ _ => (pg_name (i:=4) sc_child_places.nd rfl (Or.inl rfl))) (fun _ _ _ _ _ => pts_nil) (fun _ _ _ _ _ => pe_int))
      (pss_cons (ps_set (i:=2) sc_child_places.nd rfl (Or.inl rfl) (pe_lst pa_nil))
      (pss_cons (ps_for PassesOwn.never rfl (pi_list (pe_fld (pv 0) rfl)) (pg_name (i:=3) sc_child_places.nd rfl (Or.inl rfl))
      (pss_one (ps_if (pt_cmp (pc_isN (pv 3))) (pss_one (ps_expr (pe_bm PySem.F.plainAttrs_list PySem.F.slot_list_append PySem.F.type_list_append mt_append (pv 2) (pa_cons pe_non pa_nil)))) (pss_cons (ps_expr (pe_bm PySem.F.plainAttrs_list PySem.F.slot_list_append PySem.F.type_list_append mt_append (pv 2) (pa_cons (pe_ix ix_list (pv 1) (pv 3) (fun _ _ => rfl)) pa_nil)))
      (pss_one (ps_augS (pv 1) (pv 3) get_list pe_int ip_add set_list))))))
      (pss_one (ps_ret (pv 2)))))),?_⟩
    refine ⟨_,rfl,t,a.Tree,dx,_,_,rfl,hT.obj,T.c_Tree,T.n_Tree_nodes,rfl,ln,rfl,⟨_,SqL.of hT.nds.1⟩,fun D hD => ?_⟩
    have hul:us.length = y.length:=Paired.len hT.nod
    refine lc_list (K:=K) (a:=ln) (xs:=us) (fun i H' => Same H H' ∧ H' D = some (.lst (List.replicate i (V.int 0)))) ⟨Same.new hD,upd_same⟩ (fun i H' _ h => SqL.of (h.1 _ _ hT.nds.1)) ?_ ?_
    · rintro i v H' hv ⟨s1,h1⟩
      have hi:=(List.getElem?_eq_some_iff.mp hv).1
      refine ⟨rfl,t_yes ?_⟩
      refine ⟨_,h1,small1000 (by rw [List.length_replicate]; omega),Same.put s1 hD,?_⟩
      rw [upd_same,← List.replicate_succ']
    · rintro H1 ⟨s1,h1⟩
      have h1:H1 D = some (.lst (cntV ps y.length 0)):=by
        rw [h1,hul]
        unfold cntV
        rw [show (fun q => V.int (((Fo.chF q 0 (ps.take 0)).length:Nat):Int)) = fun _ => V.int 0 from rfl,List.map_const',List.length_range]
      refine ⟨Nat.zero_le _,fun l hl => ?_⟩
      have hlD:l ≠ D:=fun e => by rw [e,h1] at hl; cases hl
      have hl0:H l = none:=s1.free hl
      have s2:Same H (upd H1 l (.lst [])):=s1.trans (Same.new hl)
      refine ⟨_,rfl,t,a.Tree,dx,_,_,rfl,s2 _ _ hT.obj,T.c_Tree,T.n_Tree_parents,rfl,lp,rfl,⟨_,SqL.of (s2 _ _ hT.par.1)⟩,for_list (K:=K) (a:=lp) (xs:=ps.map pV) (fun i σ H' => ∃ v v4,σ = [some (.ref t),some (.ref D),some (.ref l),v,v4] ∧ Same H H' ∧ H' D = some (.lst (cntV ps y.length i)) ∧ H' l = some (.lst ((List.range i).map (plV ps))))
        ⟨none,none,rfl,s2,by rw [upd_ne (Ne.symm hlD)]; exact h1,upd_same⟩ (fun i σ H' _ ⟨_,_,_,s3,_⟩ => SqL.of (s3 _ _ hT.par.1)) ?_ ?_⟩
      · rintro i v σ H' hv ⟨v3,v4,rfl,s3,h3,h4⟩
        obtain ⟨p,hp,rfl⟩:=map_get hv
        have hi:i < y.length:=by rw [← hpl]; exact (List.getElem?_eq_some_iff.mp hp).1
        have hsz:((List.range i).map (plV ps)).length < sizeLine:=small1000 (by simp; omega)
        refine ⟨_,rfl,_,rfl,?_⟩
        cases p with
        | none =>
          refine iteT ⟨_,rfl,.inl ⟨rfl,_,SqL.of h4⟩,l,_,_,rfl,rfl,h4,hsz,?_⟩
          refine ⟨_,_,rfl,Same.put s3 hl0,by rw [upd_ne (Ne.symm hlD),cnt_none hp]; exact h3,?_⟩
          rw [upd_same,List.range_succ,List.map_append]
          show some (HO.lst _) = some (HO.lst (_ ++ [plV ps i]))
          unfold plV
          rw [hp]
        | some m =>
          have hm:=lt i m hp
          have hm2:m < y.length:=by omega
          have hg:(cntV ps y.length i)[m]? = some (V.int ((Fo.plc ps m i:Nat):Int)):=by
            unfold cntV
            rw [List.getElem?_map,List.getElem?_range hm2]
            rfl
          refine iteF ⟨_,rfl,.inl ⟨rfl,_,SqL.of h4⟩,_,rfl,_,rfl,D,_,_,_,rfl,rfl,SqL.of h3,atI_nat hg,l,_,_,rfl,rfl,h4,hsz,?_⟩
          have h5:(upd H' l (.lst ((List.range i).map (plV ps) ++ [V.int ((Fo.plc ps m i:Nat):Int)]))) D = some (.lst (cntV ps y.length i)):=by rw [upd_ne (Ne.symm hlD)]; exact h3
          refine ⟨_,rfl,_,rfl,D,_,m,_,rfl,rfl,SqL.of h5,hg,_,_,rfl,rfl,D,_,_,m,rfl,rfl,h5,ixN_nat (by unfold cntV; simp; omega),?_⟩
          refine ⟨_,_,rfl,Same.put (Same.put s3 hl0) hD,?_,?_⟩
          · rw [upd_same]
            exact congrArg (fun q => some (HO.lst q)) (cnt_step hp hm2)
          · rw [upd_ne hlD,upd_same,List.range_succ,List.map_append]
            show some (HO.lst _) = some (HO.lst (_ ++ [plV ps i]))
            unfold plV
            rw [hp]
      · rintro σ H' ⟨v3,v4,rfl,s3,h3,h4⟩
        rw [List.length_map,hpl] at h4
        exact ⟨_,rfl,q l H' h4 hl0 s3⟩
end
end TC
namespace TC
open PySem PySem.Spec PyProof.Rows L2
theorem firstUnlike_skip {x y:Vaglrc.Tree}:∀ {i k:Nat},(∀ j < i,x[j]? = y[j]? ∧ x[j]? ≠ none) → Vaglri.firstUnlike k x y = Vaglri.firstUnlike (k + i) (x.drop i) (y.drop i)
  | 0,k,_ => rfl
  | i + 1,k,h => by
    match x,y with
    | [],_ => exact absurd rfl (h 0 (by omega)).2
    | u :: x,[] => cases (h 0 (by omega)).1
    | u :: x,v :: y =>
      have e:u = v:=Option.some.inj (h 0 (by omega)).1
      subst e
      show (if (u.1 == u.1 && (u.2.1 == u.2.1 && u.2.2 == u.2.2)) = true then Vaglri.firstUnlike (k + 1) x y else some k) = _
      rw [if_pos (by simp)]
      have:=firstUnlike_skip (x:=x) (y:=y) (i:=i) (k:=k + 1) fun j hj => h (j + 1) (by omega)
      rw [this,show k + 1 + i = k + (i + 1) by omega]
      rfl
section
variable {P:Program} {w:World} {K:PySem.W.Frag} {mg:Str → Option Value} {base:Heap} {a:Adr}
noncomputable def sp_path_to (K:PySem.W.Frag) (a:Adr):Sp:=fun vs H Q _ => ∃ z t dx lo ln lp us x F g,∃ k:Nat,vs = [.ref t,.int (k:Nat)] ∧ TreeAt a z H t dx lo ln lp us x (Fo.fl F) (Fo.ps F) ∧ Fo.Ar g F ∧ k < Fo.sz F ∧ Fo.sz F ≤ 900 ∧
  ∀ l H',H' l = some (.lst (nsV (Vaglri.pathTo g (Fo.fl F) (Fo.sz F + 1) k))) → H l = none → Same H H' → Q (.ref l) H'
theorem path_le {g:Vaglri.Grammar} {y:Vaglrc.Tree}:∀ (f k:Nat),(Vaglri.pathTo g y f k).length ≤ f
  | 0,_ => Nat.le_refl _
  | f + 1,k => by
    unfold Vaglri.pathTo
    split
    · exact Nat.zero_le _
    · rename_i m _
      have:=path_le (g:=g) (y:=y) f m
      rw [List.length_append]
      show _ + 1 ≤ f + 1
      omega
theorem ok_path_to (T:Txt K mg a):Ok P w K mg base 2 a.path_to ["tree","number"] (sp_path_to K a):=by
  obtain ⟨_,F_child_places,b_child_places⟩:=ok_child_places (P:=P) (w:=w) (base:=base) T
  refine T.f_path_to.ok sc_path_to (fun vs H Q E h => ?_) (fun cdv A outer s H vs Q E hr h => ?_)
  · obtain ⟨z,t,dx,lo,ln,lp,us,x,F,g,k,rfl,_⟩:=h
    rfl
  · obtain ⟨z,t,dx,lo,ln,lp,us,x,F,g,k,rfl,hT,hA,hk,hsz,q⟩:=h
    refine ⟨_,(pss_cons (ps_set (i:=2) sc_path_to.nd rfl (Or.inl rfl) (pe_call F_child_places (hr.mono (by decide)) (by rfl) T.g_child_places T.f_child_places.kp b_child_places .nil passE0 (pa_cons (pv 0) pa_nil)))
      (pss_cons (ps_set (i:=3) sc_path_to.nd rfl (Or.inl rfl) (pe_lst pa_nil))
      (pss_cons (ps_while PassesOwn.never (pt_cmp (pc_notN (pe_ix ix_list (pe_fld (pv 0) rfl) (pv 1) (fun _ _ => rfl))))
      (pss_cons (ps_expr (pe_bm PySem.F.plainAttrs_list PySem.F.slot_list_append PySem.F.type_list_append mt_append (pv 3) (pa_cons (pe_ix ix_list (pv 2) (pv 1) (fun _ _ => rfl)) pa_nil)))
      (pss_one (ps_set (i:=1) sc_path_to.nd rfl (Or.inl rfl) (pe_ix ix_list (pe_fld (pv 0) rfl) (pv 1) (fun _ _ => rfl))))))
      (pss_cons (ps_expr (pe_bm0 PySem.F.plainAttrs_list PySem.F.slot_list_reverse PySem.F.type_list_reverse mt_reverse (pv 3)))
      (pss_one (ps_ret (pv 3))))))),?_⟩
    refine ⟨_,rfl,z,t,dx,lo,ln,lp,us,x,Fo.fl F,Fo.ps F,rfl,hT,by rw [Fo.fl_len]; omega,by rw [Fo.ps_len,Fo.fl_len],fun m q h => Fo.par_lt h,fun pl H1 hp1 hpn s1 => ?_⟩
    rw [Fo.fl_len] at hp1
    refine ⟨Nat.zero_le _,fun l hl => ?_⟩
    have hl0:H l = none:=s1.free hl
    have hlp:pl ≠ l:=fun e => by rw [← e,hp1] at hl; cases hl
    have s2:Same H (upd H1 l (.lst [])):=s1.trans (Same.new hl)
    refine ⟨fun m σ H' => ∃ (k' f:Nat) (pa:List Nat),σ = [some (.ref t),some (.int (k':Nat)),some (.ref pl),some (.ref l)] ∧ Same H H' ∧ H' pl = some (.lst ((List.range (Fo.sz F)).map (plV (Fo.ps F)))) ∧ H' l = some (.lst (nsV pa)) ∧ k' < Fo.sz F ∧ k' < f ∧ f ≤ Fo.sz F + 1 ∧ pa.length + f = Fo.sz F + 1 ∧
      Vaglri.pathTo g (Fo.fl F) (Fo.sz F + 1) k = Vaglri.pathTo g (Fo.fl F) f k' ++ pa.reverse ∧ m = k',⟨_,k,Fo.sz F + 1,[],rfl,s2,by rw [upd_ne hlp]; exact hp1,upd_same,hk,by omega,Nat.le_refl _,by simp,by simp,rfl⟩,?_⟩
    rintro m σ H' ⟨k',f,pa,rfl,s3,h1,h2,hk',hf,hf2,hpa,e1,rfl⟩
    obtain ⟨p,hp⟩:∃ p,(Fo.ps F)[m]? = some p:=⟨_,List.getElem?_eq_getElem (by rw [Fo.ps_len]; exact hk')⟩
    obtain ⟨f,rfl⟩:∃ f',f = f' + 1:=⟨f - 1,by omega⟩
    refine ⟨_,rfl,t,a.Tree,dx,_,_,rfl,s3 _ _ hT.obj,T.c_Tree,T.n_Tree_parents,rfl,_,rfl,lp,_,_,_,rfl,rfl,SqL.of (s3 _ _ hT.par.1),atI_nat (pV_get hp),_,rfl,?_⟩
    cases p with
    | none =>
      refine iteF ?_
      rw [Fo.path_none hA hk' hp,List.nil_append] at e1
      refine ⟨_,rfl,.inl ⟨rfl,_,SqL.of h2⟩,l,_,rfl,rfl,h2,_,rfl,?_⟩
      refine q l _ ?_ hl0 (Same.put s3 hl0)
      rw [upd_same,e1]
      unfold nsV
      rw [List.map_reverse]
    | some q' =>
      refine iteT ?_
      have hq:=Fo.par_lt hp
      rw [Fo.path_some hA hk' hp] at e1
      have hpv:plV (Fo.ps F) m = .int ((Fo.plc (Fo.ps F) q' m:Nat):Int):=by unfold plV; rw [hp]
      refine ⟨_,fun σ' H' h => h,?_⟩
      have h4:(upd H' l (.lst (nsV pa ++ [V.int ((Fo.plc (Fo.ps F) q' m:Nat):Int)]))) pl = _:=(upd_ne hlp).trans h1
      have s4:=Same.put (o:=.lst (nsV pa ++ [V.int ((Fo.plc (Fo.ps F) q' m:Nat):Int)])) s3 hl0
      refine ⟨_,rfl,.inl ⟨rfl,_,SqL.of h2⟩,_,rfl,_,rfl,pl,_,_,_,rfl,rfl,SqL.of h1,atI_nat (v:=V.int ((Fo.plc (Fo.ps F) q' m:Nat):Int)) (by rw [List.getElem?_map,List.getElem?_range hk',← hpv]; rfl),l,_,_,rfl,rfl,h2,small1000 (by rw [nsV_len]; omega),?_⟩
      refine ⟨_,rfl,t,a.Tree,dx,_,_,rfl,s4 _ _ hT.obj,T.c_Tree,T.n_Tree_parents,rfl,_,rfl,lp,_,_,_,rfl,rfl,SqL.of (s4 _ _ hT.par.1),atI_nat (pV_get hp),?_⟩
      refine ⟨q',hq,q',f,pa ++ [Fo.plc (Fo.ps F) q' m],rfl,s4,h4,?_,by omega,by omega,by omega,by rw [List.length_append]; show _ + 1 + f = _; omega,?_,rfl⟩
      · rw [upd_same,nsV_app]
        rfl
      · rw [e1,List.reverse_append,List.append_assoc]
        rfl
noncomputable def optV:Option Nat → V
  | none => .non
  | some m => .int (m:Nat)
noncomputable def sp_node_at (K:PySem.W.Frag) (a:Adr):Sp:=fun vs H Q _ => ∃ z t dx lo ln lp us x F g pa pl,vs = [.ref t,.ref pa] ∧ TreeAt a z H t dx lo ln lp us x (Fo.fl F) (Fo.ps F) ∧ Fo.Ar g F ∧ 0 < Fo.sz F ∧ Fo.sz F ≤ 900 ∧ H pa = some (.lst (nsV pl)) ∧
  ∀ H',Same H H' → Q (optV (Vaglri.atPath g (Fo.fl F) 0 pl)) H'
theorem ok_node_at (T:Txt K mg a):Ok P w K mg base 2 a.node_at ["tree","path"] (sp_node_at K a):=by
  obtain ⟨_,F_children,b_children⟩:=ok_children (P:=P) (w:=w) (base:=base) T
  refine T.f_node_at.ok sc_node_at (fun vs H Q E h => ?_) (fun cdv A outer s H vs Q E hr h => ?_)
  · obtain ⟨z,t,dx,lo,ln,lp,us,x,F,g,pa,pl,rfl,_⟩:=h
    rfl
  · obtain ⟨z,t,dx,lo,ln,lp,us,x,F,g,pa,pl,rfl,hT,hA,h0,hsz,hpa,q⟩:=h
    refine ⟨_,(pss_cons (ps_set (i:=2) sc_node_at.nd rfl (Or.inl rfl) pe_int)
      (pss_cons (ps_for PassesOwn.never rfl (pi_list (pv 1)) (pg_name (i:=3) sc_node_at.nd rfl (Or.inl rfl))
      (pss_cons (ps_set (i:=4) sc_node_at.nd rfl (Or.inl rfl) (pe_call F_children (hr.mono (by decide)) (by rfl) T.g_children T.f_children.kp b_children .nil passE0 (pa_cons (pv 0) (pa_cons (pv 2) pa_nil))))
      (pss_cons (ps_if (pt_cmpR op_ge (pv 3) (pe_callB call_len_seq (by rfl) T.b_len PySem.boot_len (pa_cons (pv 4) pa_nil)) (nomark _)) (pss_one (ps_ret pe_non)) pss_nil)
      (pss_one (ps_set (i:=2) sc_node_at.nd rfl (Or.inl rfl) (pe_ix ix_list (pv 4) (pv 3) (fun _ _ => rfl)))))))
      (pss_one (ps_ret (pv 2))))),?_⟩
    refine ⟨_,rfl,pa,rfl,⟨_,SqL.of hpa⟩,for_list (K:=K) (a:=pa) (xs:=nsV pl) (fun i σ H' => ∃ (k:Nat) (v3 v4:Option V),σ = [some (.ref t),some (.ref pa),some (.int (k:Nat)),v3,v4] ∧ Same H H' ∧ k < Fo.sz F ∧ Vaglri.atPath g (Fo.fl F) 0 pl = Vaglri.atPath g (Fo.fl F) k (pl.drop i))
      ⟨0,none,none,rfl,Same.refl,h0,rfl⟩ (fun i σ H' _ ⟨_,_,_,_,s1,_⟩ => SqL.of (s1 _ _ hpa)) ?_ ?_⟩
    · rintro i v σ H' hv ⟨k,v3,v4,rfl,s1,hk,e1⟩
      obtain ⟨c,hc,rfl⟩:=map_get hv
      have hd:pl.drop i = c :: pl.drop (i + 1):=by
        obtain ⟨h1,h2⟩:=List.getElem?_eq_some_iff.mp hc
        rw [List.drop_eq_getElem_cons h1,h2]
      rw [hd] at e1
      have e1:Vaglri.atPath g (Fo.fl F) 0 pl = match (Vaglri.kidsAt g (Fo.fl F) k)[c]? with
        | some m => Vaglri.atPath g (Fo.fl F) m (pl.drop (i + 1))
        | none => none:=e1
      rw [Fo.kids_ps hA hk] at e1
      refine ⟨_,rfl,_,rfl,z,t,dx,lo,ln,lp,us,x,Fo.fl F,Fo.ps F,k,rfl,hT.same s1,by rw [Fo.ps_len]; omega,fun l H2 hl hln s2 => ?_⟩
      have s3:=s1.trans s2
      refine ⟨_,rfl,_,rfl,l,_,rfl,.inl (SqL.of hl),_,_,rfl,rfl,_,rfl,?_⟩
      refine ite2 (fun cc => ?_) (fun cc => ?_)
      · have c1:=dT cc
        rw [nsV_len] at c1
        rw [List.getElem?_eq_none (show (Fo.chF k 0 (Fo.ps F)).length ≤ c by omega)] at e1
        have:=q H2 s3
        rw [e1] at this
        exact this
      · have c1:=dF cc
        rw [nsV_len] at c1
        have hlt:c < (Fo.chF k 0 (Fo.ps F)).length:=by omega
        have hm:(Fo.chF k 0 (Fo.ps F))[c]? = some ((Fo.chF k 0 (Fo.ps F))[c]):=List.getElem?_eq_getElem hlt
        have hmem:=List.getElem_mem hlt
        generalize (Fo.chF k 0 (Fo.ps F))[c] = m at hm hmem
        have:=Fo.chF_lt hmem
        rw [Fo.ps_len] at this
        rw [hm] at e1
        refine ⟨_,rfl,_,rfl,l,_,_,_,rfl,rfl,SqL.of hl,atI_nat (nsV_get hm),?_⟩
        exact ⟨m,_,_,rfl,s3,by omega,e1⟩
    · rintro σ H' ⟨k,v3,v4,rfl,s1,hk,e1⟩
      rw [List.drop_eq_nil_of_le (by rw [nsV_len]; omega)] at e1
      have e1:Vaglri.atPath g (Fo.fl F) 0 pl = if k < (Fo.fl F).length then some k else none:=e1
      rw [if_pos (by rw [Fo.fl_len]; exact hk)] at e1
      have:=q H' s1
      rw [e1] at this
      exact ⟨_,rfl,this⟩
noncomputable def sp_same_node (K:PySem.W.Frag) (a:Adr):Sp:=fun vs H Q _ => ∃ p q u v,vs = [p,q] ∧ NdAt a H p u ∧ NdAt a H q v ∧ Q (.bl (decide (u = v))) H
theorem dec3 {u v:Vaglrc.Used}:decide (u = v) = (decide (V.int (u.1:Nat) = V.int (v.1:Nat)) && (decide (V.int (u.2.1:Nat) = V.int (v.2.1:Nat)) && decide (V.int (u.2.2:Nat) = V.int (v.2.2:Nat)))):=by
  rw [← Bool.decide_and,← Bool.decide_and]
  refine decide_eq_decide.mpr ⟨fun e => by subst e; exact ⟨rfl,rfl,rfl⟩,fun ⟨e1,e2,e3⟩ => ?_⟩
  injection e1 with e1
  injection e2 with e2
  injection e3 with e3
  exact Prod.ext (by omega) (Prod.ext (by omega) (by omega))
theorem ok_same_node (T:Txt K mg a):Ok P w K mg base 1 a.same_node ["one","other"] (sp_same_node K a):=by
  refine T.f_same_node.ok sc_same_node (fun vs H Q E h => ?_) (fun cdv A outer s H vs Q E hr h => ?_)
  · obtain ⟨p,p',u,v,rfl,_⟩:=h
    rfl
  · obtain ⟨p,p',u,v,rfl,⟨x,dx,e1,h1⟩,⟨x',dx',e2,h2⟩,q⟩:=h
    refine ⟨_,(pss_one (ps_ret (pe_and (pe_cmpR op_eq (pe_fld (pv 0) rfl) (pe_fld (pv 1) rfl) (nomark _)) (pe_and (pe_cmpR op_eq (pe_fld (pv 0) rfl) (pe_fld (pv 1) rfl) (nomark _)) (pe_one (pe_cmpR op_eq (pe_fld (pv 0) rfl) (pe_fld (pv 1) rfl) (nomark _))))))),?_⟩
    subst e1 e2
    rw [dec3] at q
    refine ⟨_,rfl,x,a.Node,dx,_,_,rfl,h1,T.c_Node,T.n_Node_rule,rfl,_,rfl,x',a.Node,dx',_,_,rfl,h2,T.c_Node,T.n_Node_rule,rfl,rfl,_,rfl,?_⟩
    refine ite2 (fun c => ?_) (fun c => ?_)
    · rw [c,Bool.true_and] at q
      refine ⟨_,rfl,x,a.Node,dx,_,_,rfl,h1,T.c_Node,T.n_Node_begin,rfl,_,rfl,x',a.Node,dx',_,_,rfl,h2,T.c_Node,T.n_Node_begin,rfl,rfl,_,rfl,?_⟩
      refine ite2 (fun c => ?_) (fun c => ?_)
      · rw [c,Bool.true_and] at q
        exact ⟨_,rfl,x,a.Node,dx,_,_,rfl,h1,T.c_Node,T.n_Node_end,rfl,_,rfl,x',a.Node,dx',_,_,rfl,h2,T.c_Node,T.n_Node_end,rfl,rfl,q⟩
      · rw [Bool.eq_false_iff.mpr c,Bool.false_and] at q
        exact q
    · rw [Bool.eq_false_iff.mpr c,Bool.false_and] at q
      exact q
noncomputable def sp_first_difference (K:PySem.W.Frag) (a:Adr):Sp:=fun vs H Q _ => ∃ z t dx lo ln lp us x y ps t' dx' lo' ln' lp' us' x' y' ps',vs = [.ref t,.ref t'] ∧ TreeAt a z H t dx lo ln lp us x y ps ∧ TreeAt a z H t' dx' lo' ln' lp' us' x' y' ps' ∧ y.length ≤ 900 ∧ y'.length ≤ 900 ∧
  Q (optV (Vaglri.firstUnlike 0 y y')) H
theorem ok_first_difference (T:Txt K mg a):Ok P w K mg base 2 a.first_difference ["one","other"] (sp_first_difference K a):=by
  obtain ⟨_,F_same_node,b_same_node⟩:=ok_same_node (P:=P) (w:=w) (base:=base) T
  refine T.f_first_difference.ok sc_first_difference (fun vs H Q E h => ?_) (fun cdv A outer s H vs Q E hr h => ?_)
  · obtain ⟨z,t,dx,lo,ln,lp,us,x,y,ps,t',dx',lo',ln',lp',us',x',y',ps',rfl,_⟩:=h
    rfl
  · obtain ⟨z,t,dx,lo,ln,lp,us,x,y,ps,t',dx',lo',ln',lp',us',x',y',ps',rfl,hT,hT',l1,l2,q⟩:=h
    refine ⟨_,(pss_cons (ps_set (i:=2) sc_first_difference.nd rfl (Or.inl rfl) (pe_callB (call_min2 rfl) (by rfl) T.b_min boot_min (pa_cons (pe_callB call_len_seq (by rfl) T.b_len PySem.boot_len (pa_cons (pe_fld (pv 0) rfl) pa_nil)) (pa_cons (pe_callB call_len_seq (by rfl) T.b_len PySem.boot_len (pa_cons (pe_fld (pv 1) rfl) pa_nil)) pa_nil))))
      (pss_cons (ps_for PassesOwn.never rfl (pi_range1 rfl T.b_range (pa_cons (pv 2) pa_nil)) (pg_name (i:=3) sc_first_difference.nd rfl (Or.inl rfl))
      (pss_one (ps_if (pt_not (pt_val (pe_call F_same_node (hr.mono (by decide)) (by rfl) T.g_same_node T.f_same_node.kp b_same_node .nil passE0 (pa_cons (pe_ix ix_list (pe_fld (pv 0) rfl) (pv 3) (fun _ _ => rfl)) (pa_cons (pe_ix ix_list (pe_fld (pv 1) rfl) (pv 3) (fun _ _ => rfl)) pa_nil))))) (pss_one (ps_ret (pv 3))) pss_nil)))
      (pss_cons (ps_if (pt_cmpR op_eq (pe_callB call_len_seq (by rfl) T.b_len PySem.boot_len (pa_cons (pe_fld (pv 0) rfl) pa_nil)) (pe_callB call_len_seq (by rfl) T.b_len PySem.boot_len (pa_cons (pe_fld (pv 1) rfl) pa_nil)) (nomark _)) (pss_one (ps_ret pe_non)) pss_nil)
      (pss_one (ps_ret (pv 2)))))),?_⟩
    have n1:=Paired.len hT.nod
    have n2:=Paired.len hT'.nod
    refine ⟨_,rfl,t,a.Tree,dx,_,_,rfl,hT.obj,T.c_Tree,T.n_Tree_nodes,rfl,ln,_,rfl,.inl (SqL.of hT.nds.1),_,rfl,t',a.Tree,dx',_,_,rfl,hT'.obj,T.c_Tree,T.n_Tree_nodes,rfl,ln',_,rfl,.inl (SqL.of hT'.nds.1),_,_,rfl,?_⟩
    have em:(if ((us'.length:Nat):Int) < ((us.length:Nat):Int) then ((us'.length:Nat):Int) else ((us.length:Nat):Int)) = ((min y.length y'.length:Nat):Int):=by
      rw [n1,n2]
      split <;> omega
    rw [em]
    refine ⟨_,rfl,((min y.length y'.length:Nat):Int),rfl,by omega,by omega,?_⟩
    rw [Int.toNat_natCast]
    refine for_range (n:=min y.length y'.length) (fun i σ H' => ∃ v3,σ = [some (.ref t),some (.ref t'),some (.int ((min y.length y'.length:Nat):Int)),v3] ∧ H' = H ∧ ∀ j < i,y[j]? = y'[j]? ∧ y[j]? ≠ none)
      ⟨none,rfl,rfl,fun j hj => nomatch hj⟩ ?_ ?_
    · rintro i σ H' hi ⟨v3,rfl,rfl,hj⟩
      obtain ⟨u,hu⟩:∃ u,y[i]? = some u:=⟨_,List.getElem?_eq_getElem (by omega)⟩
      obtain ⟨v,hv⟩:∃ v,y'[i]? = some v:=⟨_,List.getElem?_eq_getElem (by omega)⟩
      obtain ⟨p,hp,np⟩:=Paired.at_ hT.nod hu
      obtain ⟨p',hp',np'⟩:=Paired.at_ hT'.nod hv
      refine ⟨_,rfl,t,a.Tree,dx,_,_,rfl,hT.obj,T.c_Tree,T.n_Tree_nodes,rfl,_,rfl,ln,_,_,_,rfl,rfl,SqL.of hT.nds.1,at_of (j:=i) (by omega) hp,_,rfl,t',a.Tree,dx',_,_,rfl,hT'.obj,T.c_Tree,T.n_Tree_nodes,rfl,_,rfl,ln',_,_,_,rfl,rfl,SqL.of hT'.nds.1,at_of (j:=i) (by omega) hp',p,p',u,v,rfl,np,np',_,rfl,?_⟩
      refine ite2 (fun c => ?_) (fun c => ?_)
      · have c1:u ≠ v:=by simpa using c
        refine ⟨_,rfl,?_⟩
        have e:Vaglri.firstUnlike 0 y y' = some i:=by
          have:=firstUnlike_skip (k:=0) hj
          obtain ⟨h1,h2⟩:=List.getElem?_eq_some_iff.mp hu
          obtain ⟨h3,h4⟩:=List.getElem?_eq_some_iff.mp hv
          rw [this,List.drop_eq_getElem_cons h1,List.drop_eq_getElem_cons h3,h2,h4,Nat.zero_add]
          show (if (u.1 == v.1 && (u.2.1 == v.2.1 && u.2.2 == v.2.2)) = true then _ else some i) = _
          rw [if_neg]
          intro z
          simp only [Bool.and_eq_true,beq_iff_eq] at z
          exact c1 (Prod.ext z.1 (Prod.ext z.2.1 z.2.2))
        rw [e] at q
        have e2:(0:Int) + ((i:Nat):Int) = ((i:Nat):Int):=by omega
        show Q (.int (0 + ((i:Nat):Int))) _
        rw [e2]
        exact q
      · have c1:u = v:=by simpa using c
        subst c1
        refine ⟨_,rfl,rfl,fun j h => ?_⟩
        by_cases e:j = i
        · subst e
          rw [hu,hv]
          exact ⟨rfl,fun z => nomatch z⟩
        · exact hj j (by omega)
    · rintro σ H' ⟨v3,rfl,rfl,hj⟩
      have sk:=firstUnlike_skip (k:=0) hj
      rw [Nat.zero_add] at sk
      refine ⟨_,rfl,t,a.Tree,dx,_,_,rfl,hT.obj,T.c_Tree,T.n_Tree_nodes,rfl,ln,_,rfl,.inl (SqL.of hT.nds.1),_,rfl,t',a.Tree,dx',_,_,rfl,hT'.obj,T.c_Tree,T.n_Tree_nodes,rfl,ln',_,rfl,.inl (SqL.of hT'.nds.1),rfl,_,rfl,?_⟩
      refine ite2 (fun c => ?_) (fun c => ?_)
      · have c1:=dT c
        injection c1 with c1
        rw [sk,List.drop_eq_nil_of_le (by omega),List.drop_eq_nil_of_le (by omega)] at q
        exact q
      · have c1:y.length ≠ y'.length:=by
          intro e
          exact c (decide_eq_true (by rw [n1,n2,e]))
        refine ⟨_,rfl,?_⟩
        have e:Vaglri.firstUnlike (min y.length y'.length) (y.drop (min y.length y'.length)) (y'.drop (min y.length y'.length)) = some (min y.length y'.length):=by
          by_cases h:y.length < y'.length
          · rw [List.drop_eq_nil_of_le (as:=y) (by omega)]
            cases e:y'.drop (min y.length y'.length) with
            | nil =>
              have:=List.drop_eq_nil_iff.mp e
              omega
            | cons u r => rfl
          · rw [List.drop_eq_nil_of_le (as:=y') (by omega)]
            cases e:y.drop (min y.length y'.length) with
            | nil =>
              have:=List.drop_eq_nil_iff.mp e
              omega
            | cons u r => rfl
        rw [sk,e] at q
        exact q
end
end TC
namespace TC
open PySem PySem.Spec PyProof.Rows L2
theorem Paired.drop {α β:Type} {R:α → β → Prop}:∀ {l₁:List α} {l₂:List β} (i:Nat),Paired R l₁ l₂ → Paired R (l₁.drop i) (l₂.drop i)
  | _,_,0,h => h
  | _,_,i + 1,.nil => .nil
  | _,_,i + 1,.cons _ t => Paired.drop i t
theorem Paired.take {α β:Type} {R:α → β → Prop}:∀ {l₁:List α} {l₂:List β} (i:Nat),Paired R l₁ l₂ → Paired R (l₁.take i) (l₂.take i)
  | _,_,0,_ => by rw [List.take_zero,List.take_zero]; exact .nil
  | _,_,i + 1,.nil => .nil
  | _,_,i + 1,.cons h t => .cons h (Paired.take i t)
theorem Paired.app {α β:Type} {R:α → β → Prop}:∀ {l₁:List α} {l₂:List β} {m₁:List α} {m₂:List β},Paired R l₁ l₂ → Paired R m₁ m₂ → Paired R (l₁ ++ m₁) (l₂ ++ m₂)
  | _,_,_,_,.nil,h => h
  | _,_,_,_,.cons r t,h => .cons r (Paired.app t h)
theorem Nds.put {a:Adr} {H:Hp} {l:Addr} {xs vs:List V} {ys:List V} {y:Vaglrc.Tree} (h:Nds a H vs y) (hl:H l = some (.lst xs)):Nds a (upd H l (.lst ys)) vs y :=
  Paired.mapL h fun v u ⟨x,dx,e,h⟩ => ⟨x,dx,e,by rw [upd_ne (ne_of h hl (by intro z; cases z))]; exact h⟩
theorem cast_nn {b:Nat} {d:Int} (h:0 ≤ (b:Int) + d):(((b:Int) + d).toNat:Int) = (b:Int) + d:=Int.toNat_of_nonneg h
noncomputable abbrev ndI (r b e:Int):List (Str × V):=[("rule",.int r),("begin",.int b),("end",.int e)]
theorem shU_f {u:Vaglrc.Used} {d:Int} (h1:0 ≤ (u.2.1:Int) + d) (h2:0 ≤ (u.2.2:Int) + d):ndF (Fo.shU d u) = ndI ((u.1:Nat):Int) ((u.2.1:Int) + d) ((u.2.2:Int) + d):=by
  unfold ndF Fo.shU
  dsimp only
  rw [cast_nn h1,cast_nn h2]
section
variable {P:Program} {w:World} {K:PySem.W.Frag} {mg:Str → Option Value} {base:Heap} {a:Adr}
noncomputable def sp_moved (K:PySem.W.Frag) (a:Adr):Sp:=fun vs H Q _ => ∃ l us y d,vs = [.ref l,.int d] ∧ H l = some (.lst us) ∧ Nds a H us y ∧ y.length ≤ 1000 ∧ (∀ u ∈ y,0 ≤ ((u.2.1:Nat):Int) + d ∧ 0 ≤ ((u.2.2:Nat):Int) + d) ∧
  ∀ l' vs' H',H' l' = some (.lst vs') → Nds a H' vs' (Vaglri.shift d y) → H l' = none → Same H H' → Q (.ref l') H'
theorem ok_moved (T:Txt K mg a):Ok P w K mg base 3 a.moved ["nodes","distance"] (sp_moved K a):=by
  obtain ⟨_,F_Node_init,b_Node_init⟩:=ok_Node_init (P:=P) (w:=w) (base:=base) T
  refine T.f_moved.ok sc_moved (fun vs H Q E h => ?_) (fun cdv A outer s H vs Q E hr h => ?_)
  · obtain ⟨l,us,y,d,rfl,_⟩:=h
    rfl
  · obtain ⟨l,us,y,d,rfl,hl,hn,hlen,hnn,q⟩:=h
    refine ⟨_,(pss_one (ps_ret (pe_lc (te:=tMake a.Node (spNdI a.Node) [] E0 (tCons (tFld K (tVar 2) "rule") (tCons (tOp (rI0 fun i j => .int (i + j)) (tFld K (tVar 2) "begin") (tVar 1)) (tCons (tOp (rI0 fun i j => .int (i + j)) (tFld K (tVar 2) "end") (tVar 1)) tNil)))) rfl sc_moved.nd (pi_list (pv 0)) (own:=[("node",2)]) (show BlkOk n_moved (defScope s_moved) _ _ from ⟨rfl,by decide +kernel,by decide +kernel,by decide +kernel,by decide +kernel⟩) (fun _ _ _ _ _ => (pg_name (i:=2) sc_moved.nd rfl (Or.inl rfl))) (fun _ _ _ _ _ => pts_nil) (fun _ _ _ _ _ => (pe_make T.mk_Node F_Node_init (hr.mono (by decide)) (by rfl) T.g_Node b_Node_init .nil passE0 (pa_cons (pe_fld (pv 2) rfl) (pa_cons (pe_op op_add (pe_fld (pv 2) rfl) (pv 1)) (pa_cons (pe_op op_add (pe_fld (pv 2) rfl) (pv 1)) pa_nil)))))))),?_⟩
    refine ⟨_,rfl,l,rfl,⟨_,SqL.of hl⟩,fun D hD => ?_⟩
    refine lc_list (K:=K) (a:=l) (xs:=us) (fun i H' => Same H H' ∧ ∃ vs',H' D = some (.lst vs') ∧ Nds a H' vs' (Vaglri.shift d (y.take i)) ∧ vs'.length = i) ⟨Same.new hD,[],upd_same,.nil,rfl⟩ (fun i H' _ h => SqL.of (h.1 _ _ hl)) ?_ ?_
    · rintro i v H' hv ⟨s1,vs',h1,h2,h3⟩
      obtain ⟨u,hu,xu,dxu,rfl,hx⟩:=Paired.atL hn hv
      have hi:=(List.getElem?_eq_some_iff.mp hu).1
      have hx':=s1 _ _ hx
      obtain ⟨n1,n2⟩:=hnn u (List.mem_of_getElem? hu)
      refine ⟨rfl,t_yes ?_⟩
      refine ⟨_,rfl,xu,a.Node,dxu,_,_,rfl,hx',T.c_Node,T.n_Node_rule,rfl,_,rfl,xu,a.Node,dxu,_,_,rfl,hx',T.c_Node,T.n_Node_begin,rfl,_,rfl,_,_,rfl,rfl,_,rfl,xu,a.Node,dxu,_,_,rfl,hx',T.c_Node,T.n_Node_end,rfl,_,rfl,_,_,rfl,rfl,fun x dx nx nd ne => ⟨x,dx,_,_,_,rfl,upd_same,rfl,?_⟩⟩
      rw [upd_upd]
      have sm:=Same.ins (C:=a.Node) (fs:=ndI ((u.1:Nat):Int) ((u.2.1:Int) + d) ((u.2.2:Int) + d)) nx nd ne
      refine ⟨_,sm _ _ h1,small1000 (by omega),Same.put (s1.trans sm) hD,vs' ++ [.ref x],upd_same,?_,by rw [List.length_append,h3]; rfl⟩
      have e:Vaglri.shift d (y.take (i + 1)) = Vaglri.shift d (y.take i) ++ [Fo.shU d u]:=by
        obtain ⟨g1,g2⟩:=List.getElem?_eq_some_iff.mp hu
        rw [List.take_succ_eq_append_getElem g1,g2,Fo.shift_app]
        rfl
      rw [e]
      refine Paired.snoc (Nds.put (h2.same sm) (sm _ _ h1)) ⟨x,dx,rfl,?_⟩
      rw [upd_ne (ne_of (upd_same (o:=.ins a.Node dx _)) (sm _ _ h1) (by intro z; cases z)),upd_same,shU_f n1 n2]
    · rintro H' ⟨s1,vs',h1,h2,_⟩
      rw [Paired.len hn,List.take_length] at h2
      exact q D vs' H' h1 h2 hD s1
noncomputable def sp_cut_out (K:PySem.W.Frag) (a:Adr):Sp:=fun vs H Q _ => ∃ z t dx lo ln lp us x F u N lo' hi,∃ k:Nat,vs = [.ref t,.int (k:Nat)] ∧ TreeAt a z H t dx lo ln lp us x (Fo.fl F) (Fo.ps F) ∧ H z ≠ none ∧ Fo.roots F = 1 ∧ Fo.node F k = some (u,N) ∧ Fo.sz F ≤ 1000 ∧ Fo.PosOk lo' hi F ∧
  ∀ t' dx' lo' ln' lp' vs' H',TreeAt a z H' t' dx' lo' ln' lp' vs' ((x.drop u.2.1).take (u.2.2 - u.2.1)) (Fo.fl (Fo.cutF u N)) (Fo.ps (Fo.cutF u N)) → Same H H' → Q (.ref t') H'
theorem ok_cut_out (T:Txt K mg a):Ok P w K mg base 4 a.cut_out ["tree","number"] (sp_cut_out K a):=by
  obtain ⟨_,F_number_behind,b_number_behind⟩:=ok_number_behind (P:=P) (w:=w) (base:=base) T
  obtain ⟨_,F_moved,b_moved⟩:=ok_moved (P:=P) (w:=w) (base:=base) T
  obtain ⟨_,F_Tree_init,b_Tree_init⟩:=ok_Tree_init (P:=P) (w:=w) (base:=base) T
  refine T.f_cut_out.ok sc_cut_out (fun vs H Q E h => ?_) (fun cdv A outer s H vs Q E hr h => ?_)
  · obtain ⟨z,t,dx,lo,ln,lp,us,x,F,u,N,plo,phi,k,rfl,_⟩:=h
    rfl
  · obtain ⟨z,t,dx,lo,ln,lp,us,x,F,u,N,plo,phi,k,rfl,hT,hz,hF,hN,hsz,hpos,q⟩:=h
    refine ⟨_,(pss_cons (ps_set (i:=2) sc_cut_out.nd rfl (Or.inl rfl) (pe_ix ix_list (pe_fld (pv 0) rfl) (pv 1) (fun _ _ => rfl)))
      (pss_cons (ps_set (i:=3) sc_cut_out.nd rfl (Or.inl rfl) (pe_call F_number_behind (hr.mono (by decide)) (by rfl) T.g_number_behind T.f_number_behind.kp b_number_behind .nil passE0 (pa_cons (pv 0) (pa_cons (pv 1) pa_nil))))
      (pss_cons (ps_set (i:=4) sc_cut_out.nd rfl (Or.inl rfl) (pe_call F_moved (hr.mono (by decide)) (by rfl) T.g_moved T.f_moved.kp b_moved .nil passE0 (pa_cons (pe_slice sl_list (pe_fld (pv 0) rfl) (po_some (pv 1)) (po_some (pv 3))) (pa_cons (pe_un un_neg (pe_fld (pv 2) rfl)) pa_nil))))
      (pss_cons (ps_set (i:=5) sc_cut_out.nd rfl (Or.inl rfl) (pe_op op_cat (pe_lst (pa_cons pe_non pa_nil)) (pe_lc rfl sc_cut_out.nd (pi_list (pe_slice sl_list (pe_fld (pv 0) rfl) (po_some (pe_op op_add (pv 1) pe_int)) (po_some (pv 3)))) (own:=[("parent",6)]) (show BlkOk n_cut_out (defScope s_cut_out) _ _ from ⟨rfl,by decide +kernel,by decide +kernel,by decide +kernel,by decide +kernel⟩) (fun _ _ _ _ _ => (pg_name (i:=6) sc_cut_out.nd rfl (Or.inl rfl))) (fun _ _ _ _ _ => pts_nil) (fun _ _ _ _ _ => (pe_op op_sub (pv 6) (pv 1))))))
      (pss_one (ps_ret (pe_make T.mk_Tree F_Tree_init (hr.mono (by decide)) (by rfl) T.g_Tree b_Tree_init .nil passE0 (pa_cons (pe_slice sl_list (pe_fld (pv 0) rfl) (po_some (pe_fld (pv 2) rfl)) (po_some (pe_fld (pv 2) rfl))) (pa_cons (pv 4) (pa_cons (pv 5) pa_nil)))))))))),?_⟩
    have lt:=Fo.node_lt hN
    obtain ⟨vk,hvk,xk,dxk,rfl,hxk⟩:=Paired.at_ hT.nod (Fo.fl_get hN)
    obtain ⟨p1,p2,p3⟩:=Fo.pos_node hpos hN
    refine ⟨_,rfl,t,a.Tree,dx,_,_,rfl,hT.obj,T.c_Tree,T.n_Tree_nodes,rfl,_,rfl,ln,_,_,_,rfl,rfl,SqL.of hT.nds.1,atI_nat hvk,?_⟩
    refine ⟨_,rfl,_,rfl,z,t,dx,lo,ln,lp,us,x,F,u,N,k,rfl,hT,hF,hN,?_⟩
    refine ⟨_,rfl,t,a.Tree,dx,_,_,rfl,hT.obj,T.c_Tree,T.n_Tree_nodes,rfl,_,rfl,_,rfl,_,rfl,_,rfl,ln,_,rfl,SqL.of hT.nds.1,fun sl hsl => ?_⟩
    rw [cutV_nat,show k + 1 + Fo.sz N - k = Fo.sz N + 1 by omega]
    have s1:Same H (upd H sl (.lst ((us.drop k).take (Fo.sz N + 1)))):=Same.new hsl
    have nd1:Nds a (upd H sl (.lst ((us.drop k).take (Fo.sz N + 1)))) ((us.drop k).take (Fo.sz N + 1)) (Fo.fl (.cons u N .nil)):=by
      rw [← Fo.take_node hN]
      exact Paired.take _ (Paired.drop _ (hT.nod.same s1))
    refine ⟨_,rfl,xk,a.Node,dxk,_,_,rfl,s1 _ _ hxk,T.c_Node,T.n_Node_begin,rfl,_,rfl,?_⟩
    refine ⟨sl,_,Fo.fl (.cons u N .nil),_,rfl,upd_same,nd1,by rw [Fo.fl_len]; show Fo.sz N + 0 + 1 ≤ _; omega,fun v hv => ?_,fun l1 vs1 H1 h1 nd2 hl1 s2 => ?_⟩
    · have:=Fo.pos_mem (F:=.cons u N .nil) (lo:=u.2.1) (hi:=u.2.2) ⟨Nat.le_refl _,p2,Nat.le_refl _⟩ hv
      omega
    have s12:=s1.trans s2
    rw [← Fo.fl_sh] at nd2
    refine ⟨(by show 1 ≤ sizeLine; decide),fun la hla => ?_⟩
    have s3:Same H (upd H1 la (.lst [.non])):=s12.trans (Same.new hla)
    refine ⟨_,rfl,t,a.Tree,dx,_,_,rfl,s3 _ _ hT.obj,T.c_Tree,T.n_Tree_parents,rfl,_,rfl,_,_,rfl,rfl,_,rfl,_,rfl,_,rfl,lp,_,rfl,SqL.of (s3 _ _ hT.par.1),fun sp hsp => ?_⟩
    have e1:cutV ((Fo.ps F).map pV) (some (((k:Nat):Int) + 1)) (some ((k + 1 + Fo.sz N:Nat):Int)) = (Fo.pr (k + 1) (some k) N).map pV:=by
      rw [show ((k:Nat):Int) + 1 = ((k + 1:Nat):Int) by omega,cutV_nat,← List.map_drop,← List.map_take,show k + 1 + Fo.sz N - (k + 1) = Fo.sz N by omega,pr_slice hN]
    rw [e1]
    have s4:=s3.trans (Same.new (o:=.lst ((Fo.pr (k + 1) (some k) N).map pV)) hsp)
    have hsp0:H sp = none:=s3.free hsp
    generalize hH4:upd (upd H1 la (.lst [.non])) sp (.lst ((Fo.pr (k + 1) (some k) N).map pV)) = H4 at s4
    have g1:H4 sp = some (.lst ((Fo.pr (k + 1) (some k) N).map pV)):=by rw [← hH4]; exact upd_same
    have g2:H4 la = some (.lst [.non]):=by
      rw [← hH4,upd_ne (fun e => by rw [← e,upd_same] at hsp; cases hsp)]
      exact upd_same
    have s14:Same H1 H4:=by rw [← hH4]; exact (Same.new hla).trans (Same.new hsp)
    refine ⟨sp,rfl,⟨_,SqL.of g1⟩,fun D hD => ?_⟩
    refine lc_list (K:=K) (a:=sp) (xs:=(Fo.pr (k + 1) (some k) N).map pV) (fun i H' => Same H4 H' ∧ H' D = some (.lst (((Fo.pr 1 (some 0) N).take i).map pV))) ⟨Same.new hD,upd_same⟩ (fun i H' _ h => SqL.of (h.1 _ _ g1)) ?_ ?_
    · rintro i v H' hv ⟨s5,h5⟩
      obtain ⟨p,hp,rfl⟩:=map_get hv
      have sh:=Fo.pr_shift k N 1 (some 0)
      rw [show 1 + k = k + 1 by omega,show (some 0:Option Nat).map (· + k) = some k by show some (0 + k) = _; rw [Nat.zero_add]] at sh
      rw [sh,List.getElem?_map] at hp
      obtain ⟨p0,hp0,rfl⟩:=Option.map_eq_some_iff.mp hp
      obtain ⟨m,rfl⟩:∃ m,p0 = some m:=by
        rcases Fo.pr_ge (List.mem_of_getElem? hp0) with e | ⟨m,e,_⟩
        · exact ⟨_,e⟩
        · exact ⟨_,e⟩
      have hi:i < Fo.sz N:=by have:=(List.getElem?_eq_some_iff.mp hp0).1; rw [Fo.pr_len] at this; exact this
      refine ⟨rfl,t_yes ?_⟩
      refine ⟨_,rfl,_,rfl,_,_,rfl,rfl,_,h5,small1000 (by rw [List.length_map,List.length_take]; omega),Same.put s5 hD,?_⟩
      obtain ⟨w1,w2⟩:=List.getElem?_eq_some_iff.mp hp0
      rw [upd_same,List.take_succ_eq_append_getElem w1,w2,List.map_append]
      have e2:((m + k:Nat):Int) - ((k:Nat):Int) = ((m:Nat):Int):=by omega
      show some (HO.lst (_ ++ [V.int (((m + k:Nat):Int) - ((k:Nat):Int))])) = some (HO.lst (_ ++ [V.int ((m:Nat):Int)]))
      rw [e2]
    · rintro H5 ⟨s5,h5⟩
      rw [List.length_map,List.take_of_length_le (by rw [Fo.pr_len,Fo.pr_len]; omega)] at h5
      refine ⟨la,D,_,_,rfl,rfl,s5 _ _ g2,h5,?_,fun lq hlq => ?_⟩
      · rw [List.length_map,Fo.pr_len]
        exact Nat.le_of_lt (small1000 (by show 1 + Fo.sz N ≤ 1000; omega))
      have s6:=s5.trans (Same.new (o:=.lst ([V.non] ++ (Fo.pr 1 (some 0) N).map pV)) hlq)
      have s46:=s4.trans s6
      have ep:[V.non] ++ (Fo.pr 1 (some 0) N).map pV = (Fo.ps (Fo.cutF u N)).map pV:=by
        show _ = (Fo.pr 0 none (Fo.sh _ (.cons u N .nil))).map pV
        rw [Fo.pr_sh]
        show _ = (none :: (Fo.pr 1 (some 0) N ++ [])).map pV
        rw [List.append_nil]
        rfl
      have hq1:Ls z (upd H5 lq (.lst ([V.non] ++ (Fo.pr 1 (some 0) N).map pV))) lq ((Fo.ps (Fo.cutF u N)).map pV):=by
        rw [← ep]
        exact Ls.new (Same.there (s4.trans s5) hz) hlq
      have hl1':Ls z (upd H5 lq (.lst ([V.non] ++ (Fo.pr 1 (some 0) N).map pV))) l1 vs1:=⟨(s14.trans s6) _ _ h1,fun e => Same.there s1 hz (by rw [← e]; exact hl1)⟩
      generalize upd H5 lq (.lst ([V.non] ++ (Fo.pr 1 (some 0) N).map pV)) = H6 at s6 s46 hq1 hl1'
      have nd3:Nds a H6 vs1 (Fo.fl (Fo.cutF u N)):=Nds.same nd2 (s14.trans s6)
      refine ⟨_,rfl,t,a.Tree,dx,_,_,rfl,s46 _ _ hT.obj,T.c_Tree,T.n_Tree_octets,rfl,_,rfl,xk,a.Node,dxk,_,_,rfl,s46 _ _ hxk,T.c_Node,T.n_Node_begin,rfl,_,rfl,_,rfl,xk,a.Node,dxk,_,_,rfl,s46 _ _ hxk,T.c_Node,T.n_Node_end,rfl,_,rfl,lo,_,rfl,SqL.of (s46 _ _ hT.oct.1),fun lt1 hlt => ?_⟩
      have eo:cutV (nsV x) (some ((u.2.1:Nat):Int)) (some ((u.2.2:Nat):Int)) = nsV ((x.drop u.2.1).take (u.2.2 - u.2.1)):=by
        rw [cutV_nat]
        unfold nsV
        rw [← List.map_drop,← List.map_take]
      rw [eo]
      have s7:=Same.new (o:=.lst (nsV ((x.drop u.2.1).take (u.2.2 - u.2.1)))) hlt
      refine ⟨_,rfl,_,rfl,fun tn dn nx nd ne => ⟨tn,dn,_,_,_,rfl,upd_same,rfl,?_⟩⟩
      rw [upd_upd]
      have s8:=Same.ins (C:=a.Tree) (fs:=trF lt1 l1 lq) nx nd ne
      have s78:=s7.trans s8
      refine q tn dn lt1 l1 lq vs1 _ ⟨upd_same,(Ls.new (Same.there s46 hz) hlt).same s8,hl1'.same s78,nd3.same s78,hq1.same s78⟩ (s46.trans s78)
end
end TC
namespace TC
open PySem PySem.Spec PyProof.Rows L2
theorem Fo.nest:∀ {F:Fo} {p j:Nat} {v u:Vaglrc.Used} {L N:Fo},Fo.node F p = some (v,L) → Fo.node F j = some (u,N) → p < j → j < p + 1 + Fo.sz L → j + 1 + Fo.sz N ≤ p + 1 + Fo.sz L
  | .nil,_,_,_,_,_,_,h,_,_,_ => nomatch h
  | .cons _ _ _,_,0,_,_,_,_,_,_,h,_ => nomatch h
  | .cons u k r,0,j + 1,_,_,_,_,h1,h2,_,h4 => by
    cases h1
    unfold Fo.node at h2
    rw [if_pos (by omega)] at h2
    have:=Fo.node_lt h2
    omega
  | .cons u k r,p + 1,j + 1,_,_,_,_,h1,h2,h3,h4 => by
    unfold Fo.node at h1 h2
    split at h1
    · have:=Fo.node_lt h1
      rw [if_pos (by omega)] at h2
      have:=Fo.nest h1 h2 (by omega) (by omega)
      omega
    · rw [if_neg (by omega)] at h2
      have:=Fo.nest h1 h2 (by omega) (by omega)
      omega
theorem gr_f {u:Vaglrc.Used} {d:Int} (h2:0 ≤ (u.2.2:Int) + d):ndF (Fo.gr d u) = ndI ((u.1:Nat):Int) ((u.2.1:Nat):Int) ((u.2.2:Int) + d):=by
  unfold ndF Fo.gr
  dsimp only
  rw [cast_nn h2]
noncomputable def grown (j:Nat) (ap:Option Nat) (p:Nat) (L:Fo):Bool:=decide (j < p + 1 + Fo.sz L) && (match ap with | none => true | some q => decide (q < p))
theorem Paired.set {α β:Type} {R:α → β → Prop}:∀ {l₁:List α} {l₂:List β} {i:Nat} {x:α} {y:β},Paired R l₁ l₂ → R x y → Paired R (l₁.set i x) (l₂.set i y)
  | _,_,_,_,_,.nil,_ => .nil
  | _,_,0,_,_,.cons _ t,h => .cons h t
  | _,_,i + 1,_,_,.cons r t,h => .cons r (Paired.set t h)
section
variable {P:Program} {w:World} {K:PySem.W.Frag} {mg:Str → Option Value} {base:Heap} {a:Adr}
noncomputable def sp_nodes_ahead (K:PySem.W.Frag) (a:Adr):Sp:=fun vs H Q _ => ∃ z t dx lo ln lp us x F u N,∃ k:Nat,∃ d:Int,vs = [.ref t,.int (k:Nat),.int d] ∧ TreeAt a z H t dx lo ln lp us x (Fo.fl F) (Fo.ps F) ∧ Fo.roots F = 1 ∧ Fo.node F k = some (u,N) ∧
  (∀ (p:Nat) v L,Fo.node F p = some (v,L) → p < k → k < p + 1 + Fo.sz L → 0 ≤ ((v.2.2:Nat):Int) + d) ∧
  ∀ l vs' H',H' l = some (.lst vs') → Nds a H' vs' (Fo.bn d F k) → H l = none → Same H H' → Q (.ref l) H'
theorem ok_nodes_ahead (T:Txt K mg a):Ok P w K mg base 3 a.nodes_ahead ["tree","number","longer"] (sp_nodes_ahead K a):=by
  obtain ⟨_,F_Node_init,b_Node_init⟩:=ok_Node_init (P:=P) (w:=w) (base:=base) T
  refine T.f_nodes_ahead.ok sc_nodes_ahead (fun vs H Q E h => ?_) (fun cdv A outer s H vs Q E hr h => ?_)
  · obtain ⟨z,t,dx,lo,ln,lp,us,x,F,u,N,k,d,rfl,_⟩:=h
    rfl
  · obtain ⟨z,t,dx,lo,ln,lp,us,x,F,u,N,k,d,rfl,hT,hF,hN,hnn,q⟩:=h
    refine ⟨_,(pss_cons (ps_set (i:=3) sc_nodes_ahead.nd rfl (Or.inl rfl) (pe_slice sl_list (pe_fld (pv 0) rfl) po_none (po_some (pv 1))))
      (pss_cons (ps_set (i:=4) sc_nodes_ahead.nd rfl (Or.inl rfl) (pe_ix ix_list (pe_fld (pv 0) rfl) (pv 1) (fun _ _ => rfl)))
      (pss_cons (ps_while PassesOwn.never (pt_cmp (pc_notN (pv 4)))
      (pss_cons (ps_set (i:=5) sc_nodes_ahead.nd rfl (Or.inl rfl) (pe_ix ix_list (pv 3) (pv 4) (fun _ _ => rfl)))
      (pss_cons (ps_asg (pe_make T.mk_Node F_Node_init (hr.mono (by decide)) (by rfl) T.g_Node b_Node_init .nil passE0 (pa_cons (pe_fld (pv 5) rfl) (pa_cons (pe_fld (pv 5) rfl) (pa_cons (pe_op op_add (pe_fld (pv 5) rfl) (pv 2)) pa_nil)))) (pg_sub (pv 3) (pv 4) set_list))
      (pss_one (ps_set (i:=4) sc_nodes_ahead.nd rfl (Or.inl rfl) (pe_ix ix_list (pe_fld (pv 0) rfl) (pv 4) (fun _ _ => rfl)))))))
      (pss_one (ps_ret (pv 3)))))),?_⟩
    have lt:=Fo.node_lt hN
    refine ⟨_,rfl,t,a.Tree,dx,_,_,rfl,hT.obj,T.c_Tree,T.n_Tree_nodes,rfl,_,rfl,_,rfl,ln,_,rfl,SqL.of hT.nds.1,fun l hl => ?_⟩
    rw [cutV_to]
    have s1:Same H (upd H l (.lst (us.take k))):=Same.new hl
    obtain ⟨ap0,hap0⟩:∃ p,(Fo.ps F)[k]? = some p:=⟨_,List.getElem?_eq_getElem (by rw [Fo.ps_len]; omega)⟩
    refine ⟨_,rfl,t,a.Tree,dx,_,_,rfl,s1 _ _ hT.obj,T.c_Tree,T.n_Tree_parents,rfl,_,rfl,lp,_,_,_,rfl,rfl,SqL.of (s1 _ _ hT.par.1),atI_nat (pV_get hap0),?_⟩
    refine ⟨fun m σ H' => ∃ (ap:Option Nat) (v5:Option V) (vs':List V) (ys:Vaglrc.Tree),σ = [some (.ref t),some (.int (k:Nat)),some (.int d),some (.ref l),some (pV ap),v5] ∧ Same H H' ∧ H' l = some (.lst vs') ∧ Nds a H' vs' ys ∧ ys.length = k ∧
      (∀ (p:Nat) v L,p < k → Fo.node F p = some (v,L) → ys[p]? = some (if grown k ap p L = true then Fo.gr d v else v)) ∧ (∀ q,ap = some q → q < k ∧ ∃ v L,Fo.node F q = some (v,L) ∧ k < q + 1 + Fo.sz L) ∧ (∀ (p:Nat) v L,p < k → Fo.node F p = some (v,L) → k < p + 1 + Fo.sz L → ap = none → grown k ap p L = true) ∧ m = (match ap with | none => 0 | some q => q + 1),?_,?_⟩
    · refine ⟨_,ap0,none,_,(Fo.fl F).take k,rfl,s1,upd_same,Paired.take _ (hT.nod.same s1),by rw [List.length_take,Fo.fl_len]; omega,fun p v L hp hn => ?_,fun q e => ?_,fun p v L hp hn hk e => ?_,rfl⟩
      · rw [List.getElem?_take_of_lt hp,Fo.fl_get hn]
        congr 1
        rw [if_neg]
        intro c
        unfold grown at c
        obtain ⟨c1,c2⟩:=Bool.and_eq_true_iff.mp c
        have c1:=dT c1
        obtain ⟨q',e1,e2,e3⟩:=(Fo.beneath_iff hn).mp ⟨hp,c1⟩
        rw [hap0] at e1
        cases e1
        have c2:=dT c2
        omega
      · subst e
        have:=Fo.par_lt hap0
        obtain ⟨v,L,hv⟩:=Fo.node_some (show q < Fo.sz F by omega)
        have:=(Fo.beneath_iff hv (m:=k)).mpr ⟨q,hap0,Nat.le_refl _,by omega⟩
        exact ⟨by omega,v,L,hv,this.2⟩
      · subst e
        obtain ⟨q',e1,_⟩:=(Fo.beneath_iff hn).mp ⟨hp,hk⟩
        rw [hap0] at e1
        cases e1
    · rintro m σ H' ⟨ap,v5,vs',ys,rfl,s2,h1,h2,h3,h4,h5,h6,rfl⟩
      refine ⟨_,rfl,_,rfl,?_⟩
      cases ap with
      | none =>
        refine iteF ⟨_,rfl,q l vs' H' h1 ?_ hl s2⟩
        have e:ys = Fo.bn d F k:=by
          apply List.ext_getElem?
          intro p
          by_cases hp:p < k
          · obtain ⟨v,L,hv⟩:=Fo.node_some (show p < Fo.sz F by omega)
            rw [h4 p v L hp hv,Fo.bn_get (by omega) hp hv]
            congr 1
            unfold grown
            rw [Bool.and_true]
            by_cases c:k < p + 1 + Fo.sz L
            · rw [if_pos c,if_pos (decide_eq_true c)]
            · rw [if_neg c,if_neg (fun z => c (dT z))]
          · rw [List.getElem?_eq_none (by omega),List.getElem?_eq_none (by rw [Fo.bn_len d (by omega)]; omega)]
        rw [← e]
        exact h2
      | some r =>
        refine iteT ?_
        obtain ⟨hr,v,L,hv,hk⟩:=h5 r rfl
        have hyr:ys[r]? = some v:=by
          rw [h4 r v L hr hv,if_neg]
          intro c
          unfold grown at c
          obtain ⟨c1,c2⟩:=Bool.and_eq_true_iff.mp c
          have c2:=dT c2
          omega
        obtain ⟨vr,hvr,xr,dxr,rfl,hxr⟩:=Paired.at_ h2 hyr
        have nn:=hnn r v L hv hr hk
        refine ⟨_,fun σ' H' h => h,?_⟩
        refine ⟨_,rfl,_,rfl,l,_,_,_,rfl,rfl,SqL.of h1,atI_nat hvr,?_⟩
        refine ⟨_,rfl,xr,a.Node,dxr,_,_,rfl,hxr,T.c_Node,T.n_Node_rule,rfl,_,rfl,xr,a.Node,dxr,_,_,rfl,hxr,T.c_Node,T.n_Node_begin,rfl,_,rfl,xr,a.Node,dxr,_,_,rfl,hxr,T.c_Node,T.n_Node_end,rfl,_,rfl,_,_,rfl,rfl,fun xn dn nx nd ne => ⟨xn,dn,_,_,_,rfl,upd_same,rfl,?_⟩⟩
        rw [upd_upd]
        have sm:=Same.ins (C:=a.Node) (fs:=ndI ((v.1:Nat):Int) ((v.2.1:Nat):Int) ((v.2.2:Int) + d)) nx nd ne
        have h1':=sm _ _ h1
        have hxn:(upd (upd H' dn (.own xn)) xn (.ins a.Node dn (ndI ((v.1:Nat):Int) ((v.2.1:Nat):Int) ((v.2.2:Int) + d)))) xn = some (.ins a.Node dn (ndI ((v.1:Nat):Int) ((v.2.1:Nat):Int) ((v.2.2:Int) + d))):=upd_same
        have hlv:vs'.length = k:=by rw [Paired.len h2,h3]
        refine ⟨_,rfl,_,rfl,l,_,_,r,rfl,rfl,h1',ixN_nat (by omega),?_⟩
        have s3:=Same.put (o:=.lst (vs'.set r (.ref xn))) (s2.trans sm) hl
        obtain ⟨ap',hap'⟩:∃ p,(Fo.ps F)[r]? = some p:=⟨_,List.getElem?_eq_getElem (by rw [Fo.ps_len]; omega)⟩
        refine ⟨_,rfl,t,a.Tree,dx,_,_,rfl,s3 _ _ hT.obj,T.c_Tree,T.n_Tree_parents,rfl,_,rfl,lp,_,_,_,rfl,rfl,SqL.of (s3 _ _ hT.par.1),atI_nat (pV_get hap'),?_⟩
        have hlim:∀ q',ap' = some q' → q' < r:=fun q' e => by subst e; exact Fo.par_lt hap'
        refine ⟨_,?_,ap',_,vs'.set r (.ref xn),ys.set r (Fo.gr d v),rfl,s3,upd_same,?_,by rw [List.length_set]; exact h3,fun p v' L' hp hn => ?_,fun q' e => ?_,fun p v' L' hp hn hk' e => ?_,rfl⟩
        · cases ap' with
          | none => show 0 < r + 1; omega
          | some q' => have:=hlim q' rfl; show q' + 1 < r + 1; omega
        · refine Paired.set (Nds.put (h2.same sm) h1') ⟨xn,dn,rfl,?_⟩
          rw [upd_ne (ne_of hxn h1' (by intro z; cases z)),hxn,gr_f nn]
        · by_cases e:p = r
          · subst e
            rw [hv] at hn
            cases hn
            rw [List.getElem?_set_self (by omega)]
            congr 1
            rw [if_pos]
            unfold grown
            rw [decide_eq_true hk,Bool.true_and]
            cases ap' with
            | none => rfl
            | some q' => exact decide_eq_true (hlim q' rfl)
          · rw [List.getElem?_set_ne (Ne.symm e),h4 p v' L' hp hn]
            congr 1
            have eg:grown k (some r) p L' = grown k ap' p L':=by
              unfold grown
              by_cases c:k < p + 1 + Fo.sz L'
              · congr 1
                show decide (r < p) = _
                by_cases c2:r < p
                · rw [decide_eq_true c2]
                  cases ap' with
                  | none => rfl
                  | some q' => have:=hlim q' rfl; exact (decide_eq_true (by omega)).symm
                · rw [decide_eq_false c2]
                  obtain ⟨q',e1,e2,e3⟩:=(Fo.beneath_iff hn (m:=r)).mp ⟨by omega,by omega⟩
                  rw [hap'] at e1
                  cases e1
                  exact (decide_eq_false (by omega)).symm
              · rw [decide_eq_false c,Bool.false_and,Bool.false_and]
            rw [eg]
        · subst e
          have:=Fo.par_lt hap'
          obtain ⟨v2,L2,hv2⟩:=Fo.node_some (show q' < Fo.sz F by omega)
          have b:=(Fo.beneath_iff hv2 (m:=r)).mpr ⟨q',hap',Nat.le_refl _,by omega⟩
          have:=Fo.nest hv2 hv b.1 b.2
          exact ⟨by omega,v2,L2,hv2,by omega⟩
        · subst e
          unfold grown
          rw [decide_eq_true hk',Bool.true_and]
noncomputable def newPs (F:Fo) (k:Nat) (N L:Fo):List (Option Nat):=(Fo.ps F).take (k + 1) ++ (Fo.pr (k + 1) (some k) L ++ ((Fo.ps F).drop (k + 1 + Fo.sz N)).map (Fo.mvx k (Fo.sz L) (Fo.sz N)))
noncomputable def sp_parents_with (K:PySem.W.Frag) (a:Adr):Sp:=fun vs H Q _ => ∃ z t dx lo ln lp us x F u N t' dx' lo' ln' lp' us' x' v L,∃ k:Nat,vs = [.ref t,.int (k:Nat),.ref t'] ∧ TreeAt a z H t dx lo ln lp us x (Fo.fl F) (Fo.ps F) ∧ Fo.roots F = 1 ∧ Fo.node F k = some (u,N) ∧ Fo.sz F ≤ 1000 ∧ Fo.sz L ≤ 1000 ∧
  TreeAt a z H t' dx' lo' ln' lp' us' x' (Fo.fl (.cons v L .nil)) (Fo.ps (.cons v L .nil)) ∧ ∀ l H',H' l = some (.lst ((newPs F k N L).map pV)) → H l = none → Same H H' → Q (.ref l) H'
theorem ok_parents_with (T:Txt K mg a):Ok P w K mg base 2 a.parents_with ["tree","number","part"] (sp_parents_with K a):=by
  obtain ⟨_,F_number_behind,b_number_behind⟩:=ok_number_behind (P:=P) (w:=w) (base:=base) T
  refine T.f_parents_with.ok sc_parents_with (fun vs H Q E h => ?_) (fun cdv A outer s H vs Q E hr h => ?_)
  · obtain ⟨z,t,dx,lo,ln,lp,us,x,F,u,N,t',dx',lo',ln',lp',us',x',v,L,k,rfl,_⟩:=h
    rfl
  · obtain ⟨z,t,dx,lo,ln,lp,us,x,F,u,N,t',dx',lo',ln',lp',us',x',v,L,k,rfl,hT,hF,hN,hsz,hsz2,hT',q⟩:=h
    refine ⟨_,(pss_cons (ps_set (i:=3) sc_parents_with.nd rfl (Or.inl rfl) (pe_call F_number_behind (hr.mono (by decide)) (by rfl) T.g_number_behind T.f_number_behind.kp b_number_behind .nil passE0 (pa_cons (pv 0) (pa_cons (pv 1) pa_nil))))
      (pss_cons (ps_set (i:=4) sc_parents_with.nd rfl (Or.inr rfl) (pe_op op_sub (pe_callB call_len_seq (by rfl) T.b_len PySem.boot_len (pa_cons (pe_fld (pv 2) rfl) pa_nil)) (pe_op op_sub (pv 3) (pv 1))))
      (pss_cons (ps_set (i:=5) sc_parents_with.nd rfl (Or.inl rfl) (pe_slice sl_list (pe_fld (pv 0) rfl) po_none (po_some (pe_op op_add (pv 1) pe_int))))
      (pss_cons (ps_expr (pe_bm PySem.F.plainAttrs_list PySem.F.slot_list_extend PySem.F.type_list_extend mt_extend (pv 5) (pa_cons (pe_lc rfl sc_parents_with.nd (pi_list (pe_slice sl_list (pe_fld (pv 2) rfl) (po_some pe_int) po_none)) (own:=[("parent",6)]) (show BlkOk n_parents_with (defScope s_parents_with) _ _ from ⟨rfl,by decide +kernel,by decide +kernel,by decide +kernel,by decide +kernel⟩) (fun _ _ _ _ _ => (pg_name (i:=6) sc_parents_with.nd rfl (Or.inl rfl))) (fun _ _ _ _ _ => pts_nil) (fun _ _ _ _ _ => (pe_op op_add (pv 6) (pv 1)))) pa_nil)))
      (pss_cons (ps_expr (pe_bm PySem.F.plainAttrs_list PySem.F.slot_list_extend PySem.F.type_list_extend mt_extend (pv 5) (pa_cons (pe_lc rfl sc_parents_with.nd (pi_list (pe_slice sl_list (pe_fld (pv 0) rfl) (po_some (pv 3)) po_none)) (own:=[("parent",6)]) (show BlkOk n_parents_with (defScope s_parents_with) _ _ from ⟨rfl,by decide +kernel,by decide +kernel,by decide +kernel,by decide +kernel⟩) (fun _ _ _ _ _ => (pg_name (i:=6) sc_parents_with.nd rfl (Or.inl rfl))) (fun _ _ _ _ _ => pts_nil) (fun _ _ _ _ _ => (pe_ifExp (pt_cmpR op_lt (pv 6) (pv 1) (nomark _)) (pv 6) (pe_op op_add (pv 6) (pv 4))))) pa_nil)))
      (pss_one (ps_ret (pv 5)))))))),?_⟩
    have lt:=Fo.node_lt hN
    have hul:us'.length = Fo.sz L + 1:=by rw [Paired.len hT'.nod,Fo.fl_len]; rfl
    refine ⟨_,rfl,_,rfl,z,t,dx,lo,ln,lp,us,x,F,u,N,k,rfl,hT,hF,hN,?_⟩
    refine ⟨_,rfl,t',a.Tree,dx',_,_,rfl,hT'.obj,T.c_Tree,T.n_Tree_nodes,rfl,ln',_,rfl,.inl (SqL.of hT'.nds.1),_,rfl,_,rfl,_,_,rfl,rfl,_,_,rfl,rfl,?_⟩
    refine ⟨_,rfl,t,a.Tree,dx,_,_,rfl,hT.obj,T.c_Tree,T.n_Tree_parents,rfl,_,rfl,_,_,rfl,rfl,_,rfl,lp,_,rfl,SqL.of hT.par.1,fun l hl => ?_⟩
    rw [show ((k:Nat):Int) + 1 = ((k + 1:Nat):Int) by omega,cutV_to,← List.map_take]
    have s1:Same H (upd H l (.lst (((Fo.ps F).take (k + 1)).map pV))):=Same.new hl
    refine ⟨_,rfl,.inl ⟨rfl,_,SqL.of upd_same⟩,_,rfl,t',a.Tree,dx',_,_,rfl,s1 _ _ hT'.obj,T.c_Tree,T.n_Tree_parents,rfl,_,rfl,lp',_,rfl,SqL.of (s1 _ _ hT'.par.1),fun sp hsp => ?_⟩
    have e1:cutV ((Fo.ps (.cons v L .nil)).map pV) (some ((1:Nat):Int)) none = (Fo.pr 1 (some 0) L).map pV:=by
      rw [cutV_from,← List.map_drop]
      show List.map pV (Fo.pr 1 (some 0) L ++ []) = _
      rw [List.append_nil]
    have e1:cutV ((Fo.ps (.cons v L .nil)).map pV) (some (1:Int)) none = (Fo.pr 1 (some 0) L).map pV:=e1
    rw [e1]
    have hls:l ≠ sp:=fun e => by rw [← e,upd_same] at hsp; cases hsp
    have s2:=s1.trans (Same.new (o:=.lst ((Fo.pr 1 (some 0) L).map pV)) hsp)
    generalize hH2:upd (upd H l (.lst (((Fo.ps F).take (k + 1)).map pV))) sp (.lst ((Fo.pr 1 (some 0) L).map pV)) = H2 at s2
    have g1:H2 sp = some (.lst ((Fo.pr 1 (some 0) L).map pV)):=by rw [← hH2]; exact upd_same
    have g2:H2 l = some (.lst (((Fo.ps F).take (k + 1)).map pV)):=by rw [← hH2,upd_ne hls]; exact upd_same
    refine ⟨sp,rfl,⟨_,SqL.of g1⟩,fun D hD => ?_⟩
    have sh:=Fo.pr_shift k L 1 (some 0)
    rw [show 1 + k = k + 1 by omega,show (some 0:Option Nat).map (· + k) = some k by show some (0 + k) = _; rw [Nat.zero_add]] at sh
    refine lc_list (K:=K) (a:=sp) (xs:=(Fo.pr 1 (some 0) L).map pV) (fun i H' => Same H2 H' ∧ H' D = some (.lst (((Fo.pr (k + 1) (some k) L).take i).map pV))) ⟨Same.new hD,upd_same⟩ (fun i H' _ h => SqL.of (h.1 _ _ g1)) ?_ ?_
    · rintro i v H' hv ⟨s5,h5⟩
      obtain ⟨p,hp,rfl⟩:=map_get hv
      obtain ⟨m,rfl⟩:∃ m,p = some m:=by
        rcases Fo.pr_ge (List.mem_of_getElem? hp) with e | ⟨m,e,_⟩
        · exact ⟨_,e⟩
        · exact ⟨_,e⟩
      have hi:i < Fo.sz L:=by have:=(List.getElem?_eq_some_iff.mp hp).1; rw [Fo.pr_len] at this; exact this
      have hp':(Fo.pr (k + 1) (some k) L)[i]? = some (some (m + k)):=by rw [sh,List.getElem?_map,hp]; rfl
      refine ⟨rfl,t_yes ?_⟩
      refine ⟨_,rfl,_,rfl,_,_,rfl,rfl,_,h5,small1000 (by rw [List.length_map,List.length_take]; omega),Same.put s5 hD,?_⟩
      obtain ⟨w1,w2⟩:=List.getElem?_eq_some_iff.mp hp'
      rw [upd_same,List.take_succ_eq_append_getElem w1,w2,List.map_append]
      rfl
    · rintro H3 ⟨s3,h3⟩
      rw [List.length_map,List.take_of_length_le (by rw [Fo.pr_len,Fo.pr_len]; omega)] at h3
      have s23:=s2.trans s3
      refine ⟨l,D,_,_,rfl,rfl,s3 _ _ g2,h3,?_,?_⟩
      · rw [List.length_map,List.length_map,Fo.pr_len,List.length_take]
        exact Nat.le_trans (show _ ≤ 1000 + 1000 by have:=Nat.min_le_right (k + 1) (Fo.ps F).length; rw [Fo.ps_len] at this; rw [Fo.ps_len]; omega) (by decide)
      rw [← List.map_append]
      have s4:=Same.put (o:=.lst (((Fo.ps F).take (k + 1) ++ Fo.pr (k + 1) (some k) L).map pV)) s23 hl
      generalize hH4:upd H3 l (.lst (((Fo.ps F).take (k + 1) ++ Fo.pr (k + 1) (some k) L).map pV)) = H4 at s4
      have g4:H4 l = some (.lst (((Fo.ps F).take (k + 1) ++ Fo.pr (k + 1) (some k) L).map pV)):=by rw [← hH4]; exact upd_same
      refine ⟨_,rfl,.inl ⟨rfl,_,SqL.of g4⟩,_,rfl,t,a.Tree,dx,_,_,rfl,s4 _ _ hT.obj,T.c_Tree,T.n_Tree_parents,rfl,_,rfl,_,rfl,lp,_,rfl,SqL.of (s4 _ _ hT.par.1),fun sq hsq => ?_⟩
      rw [cutV_from,← List.map_drop]
      have s5:=s4.trans (Same.new (o:=.lst (((Fo.ps F).drop (k + 1 + Fo.sz N)).map pV)) hsq)
      have hlq:l ≠ sq:=fun e => by rw [← e,g4] at hsq; cases hsq
      generalize hH5:upd H4 sq (.lst (((Fo.ps F).drop (k + 1 + Fo.sz N)).map pV)) = H5 at s5
      have g5:H5 sq = some (.lst (((Fo.ps F).drop (k + 1 + Fo.sz N)).map pV)):=by rw [← hH5]; exact upd_same
      have g6:H5 l = some (.lst (((Fo.ps F).take (k + 1) ++ Fo.pr (k + 1) (some k) L).map pV)):=by rw [← hH5,upd_ne hlq]; exact g4
      refine ⟨sq,rfl,⟨_,SqL.of g5⟩,fun D2 hD2 => ?_⟩
      refine lc_list (K:=K) (a:=sq) (xs:=((Fo.ps F).drop (k + 1 + Fo.sz N)).map pV) (fun i H' => Same H5 H' ∧ H' D2 = some (.lst ((((Fo.ps F).drop (k + 1 + Fo.sz N)).map (Fo.mvx k (Fo.sz L) (Fo.sz N))).take i |>.map pV))) ⟨Same.new hD2,upd_same⟩ (fun i H' _ h => SqL.of (h.1 _ _ g5)) ?_ ?_
      · rintro i v H' hv ⟨s6,h6⟩
        obtain ⟨p,hp,rfl⟩:=map_get hv
        have hp0:(Fo.ps F)[k + 1 + Fo.sz N + i]? = some p:=by rw [List.getElem?_drop] at hp; exact hp
        obtain ⟨m,rfl⟩:∃ m,p = some m:=by
          cases p with
          | none => exact absurd hp0 (Fo.root_par hF (by omega))
          | some m => exact ⟨m,rfl⟩
        have hm:=Fo.par_out hN (by omega) hp0
        have hi:k + 1 + Fo.sz N + i < Fo.sz F:=by have:=(List.getElem?_eq_some_iff.mp hp0).1; rw [Fo.ps_len] at this; exact this
        have hp':(((Fo.ps F).drop (k + 1 + Fo.sz N)).map (Fo.mvx k (Fo.sz L) (Fo.sz N)))[i]? = some (some (if m < k then m else m + Fo.sz L - Fo.sz N)):=by rw [List.getElem?_map,hp]; rfl
        have fin:∀ y:V,y = V.int ((if m < k then m else m + Fo.sz L - Fo.sz N:Nat):Int) → ∃ acc,H' D2 = some (.lst acc) ∧ acc.length < sizeLine ∧ Same H5 (upd H' D2 (.lst (acc ++ [y]))) ∧ (upd H' D2 (.lst (acc ++ [y]))) D2 = some (.lst ((((Fo.ps F).drop (k + 1 + Fo.sz N)).map (Fo.mvx k (Fo.sz L) (Fo.sz N))).take (i + 1) |>.map pV)):=by
          rintro y rfl
          refine ⟨_,h6,small1000 (by rw [List.length_map,List.length_take]; omega),Same.put s6 hD2,?_⟩
          obtain ⟨w1,w2⟩:=List.getElem?_eq_some_iff.mp hp'
          rw [upd_same,List.take_succ_eq_append_getElem w1,w2,List.map_append]
          rfl
        refine ⟨rfl,t_yes ?_⟩
        refine ⟨_,rfl,_,rfl,_,_,rfl,rfl,_,rfl,?_⟩
        refine ite2 (fun c => ?_) (fun c => ?_)
        · have c1:=dT c
          refine ⟨_,rfl,fin _ ?_⟩
          rw [if_pos (by omega)]
          rfl
        · have c1:=dF c
          refine ⟨_,rfl,_,rfl,_,_,rfl,rfl,fin _ ?_⟩
          rw [if_neg (by omega)]
          show V.int (((m:Nat):Int) + (((us'.length:Nat):Int) - (((k + 1 + Fo.sz N:Nat):Int) - ((k:Nat):Int)))) = _
          rw [hul]
          congr 1
          omega
      · rintro H6 ⟨s6,h6⟩
        rw [List.length_map,List.take_of_length_le (by rw [List.length_map]; omega)] at h6
        refine ⟨l,D2,_,_,rfl,rfl,s6 _ _ g6,h6,?_,?_⟩
        · rw [List.length_map,List.length_map,List.length_map,List.length_append,Fo.pr_len,List.length_take,List.length_drop,Fo.ps_len]
          exact Nat.le_trans (show _ ≤ 1000 + 1000 + 1000 by omega) (by decide)
        rw [← List.map_append]
        refine ⟨_,rfl,q l _ ?_ hl (Same.put (s5.trans s6) hl)⟩
        rw [upd_same]
        unfold newPs
        rw [List.append_assoc]
end
end TC
namespace TC
open PySem PySem.Spec PyProof.Rows L2
theorem ps_put {F:Fo} {k n:Nat} {u v:Vaglrc.Used} {N L:Fo} (h:Fo.node F k = some (u,N)):Fo.ps (Fo.putF F k u n (.cons v L .nil)) = newPs F k N L:=by
  unfold Fo.putF newPs
  have:=Fo.pr_rp (d:=(n:Int) - ((u.2.2 - u.2.1:Nat):Int)) (v:=Fo.shU (u.2.1:Int) v) (L:=Fo.sh (u.2.1:Int) L) (i:=0) (p:=none) h (.inl rfl)
  rw [Nat.zero_add,Fo.pr_sh,Fo.sz_sh] at this
  exact this
section
variable {P:Program} {w:World} {K:PySem.W.Frag} {mg:Str → Option Value} {base:Heap} {a:Adr}
noncomputable def sp_replaced (K:PySem.W.Frag) (a:Adr):Sp:=fun vs H Q _ => ∃ z t dx lo ln lp us x F u N t' dx' lo' ln' lp' us' x' V plo phi,∃ k:Nat,vs = [.ref t,.int (k:Nat),.ref t'] ∧ TreeAt a z H t dx lo ln lp us x (Fo.fl F) (Fo.ps F) ∧ Fo.roots F = 1 ∧ Fo.node F k = some (u,N) ∧ Fo.sz F ≤ 1000 ∧ Fo.sz V ≤ 1000 ∧
  TreeAt a z H t' dx' lo' ln' lp' us' x' (Fo.fl V) (Fo.ps V) ∧ Fo.roots V = 1 ∧ x.length ≤ 1000 ∧ x'.length ≤ 1000 ∧ Fo.PosOk plo phi F ∧ H z ≠ none ∧
  ∀ t1 dx1 lo1 ln1 lp1 us1 H',TreeAt a z H' t1 dx1 lo1 ln1 lp1 us1 (x.take u.2.1 ++ (x' ++ x.drop u.2.2)) (Fo.fl (Fo.putF F k u x'.length V)) (Fo.ps (Fo.putF F k u x'.length V)) → Same H H' → Q (.ref t1) H'
theorem ok_replaced (T:Txt K mg a):Ok P w K mg base 4 a.replaced ["tree","number","part"] (sp_replaced K a):=by
  obtain ⟨_,F_nodes_ahead,b_nodes_ahead⟩:=ok_nodes_ahead (P:=P) (w:=w) (base:=base) T
  obtain ⟨_,F_moved,b_moved⟩:=ok_moved (P:=P) (w:=w) (base:=base) T
  obtain ⟨_,F_number_behind,b_number_behind⟩:=ok_number_behind (P:=P) (w:=w) (base:=base) T
  obtain ⟨_,F_Tree_init,b_Tree_init⟩:=ok_Tree_init (P:=P) (w:=w) (base:=base) T
  obtain ⟨_,F_parents_with,b_parents_with⟩:=ok_parents_with (P:=P) (w:=w) (base:=base) T
  refine T.f_replaced.ok sc_replaced (fun vs H Q E h => ?_) (fun cdv A outer s H vs Q E hr h => ?_)
  · obtain ⟨z,t,dx,lo,ln,lp,us,x,F,u,N,t',dx',lo',ln',lp',us',x',VF,plo,phi,k,rfl,_⟩:=h
    rfl
  · obtain ⟨z,t,dx,lo,ln,lp,us,x,F,u,N,t',dx',lo',ln',lp',us',x',VF,plo,phi,k,rfl,hT,hF,hN,hsz,hsz2,hT',hV,hx,hx',hpos,hz,q⟩:=h
    refine ⟨_,(pss_cons (ps_set (i:=3) sc_replaced.nd rfl (Or.inl rfl) (pe_ix ix_list (pe_fld (pv 0) rfl) (pv 1) (fun _ _ => rfl)))
      (pss_cons (ps_set (i:=4) sc_replaced.nd rfl (Or.inl rfl) (pe_op op_sub (pe_callB call_len_seq (by rfl) T.b_len PySem.boot_len (pa_cons (pe_fld (pv 2) rfl) pa_nil)) (pe_op op_sub (pe_fld (pv 3) rfl) (pe_fld (pv 3) rfl))))
      (pss_cons (ps_set (i:=5) sc_replaced.nd rfl (Or.inl rfl) (pe_op op_cat (pe_op op_cat (pe_slice sl_list (pe_fld (pv 0) rfl) po_none (po_some (pe_fld (pv 3) rfl))) (pe_fld (pv 2) rfl)) (pe_slice sl_list (pe_fld (pv 0) rfl) (po_some (pe_fld (pv 3) rfl)) po_none)))
      (pss_cons (ps_set (i:=6) sc_replaced.nd rfl (Or.inl rfl) (pe_op op_cat (pe_call F_nodes_ahead (hr.mono (by decide)) (by rfl) T.g_nodes_ahead T.f_nodes_ahead.kp b_nodes_ahead .nil passE0 (pa_cons (pv 0) (pa_cons (pv 1) (pa_cons (pv 4) pa_nil)))) (pe_call F_moved (hr.mono (by decide)) (by rfl) T.g_moved T.f_moved.kp b_moved .nil passE0 (pa_cons (pe_fld (pv 2) rfl) (pa_cons (pe_fld (pv 3) rfl) pa_nil)))))
      (pss_cons (ps_expr (pe_bm PySem.F.plainAttrs_list PySem.F.slot_list_extend PySem.F.type_list_extend mt_extend (pv 6) (pa_cons (pe_call F_moved (hr.mono (by decide)) (by rfl) T.g_moved T.f_moved.kp b_moved .nil passE0 (pa_cons (pe_slice sl_list (pe_fld (pv 0) rfl) (po_some (pe_call F_number_behind (hr.mono (by decide)) (by rfl) T.g_number_behind T.f_number_behind.kp b_number_behind .nil passE0 (pa_cons (pv 0) (pa_cons (pv 1) pa_nil)))) po_none) (pa_cons (pv 4) pa_nil))) pa_nil)))
      (pss_one (ps_ret (pe_make T.mk_Tree F_Tree_init (hr.mono (by decide)) (by rfl) T.g_Tree b_Tree_init .nil passE0 (pa_cons (pv 5) (pa_cons (pv 6) (pa_cons (pe_call F_parents_with (hr.mono (by decide)) (by rfl) T.g_parents_with T.f_parents_with.kp b_parents_with .nil passE0 (pa_cons (pv 0) (pa_cons (pv 1) (pa_cons (pv 2) pa_nil)))) pa_nil))))))))))),?_⟩
    have lt:=Fo.node_lt hN
    obtain ⟨v,L,rfl⟩:=Fo.one_cons hV
    have hsL:Fo.sz (.cons v L .nil) = Fo.sz L + 1:=by show Fo.sz L + 0 + 1 = _; rfl
    obtain ⟨vk,hvk,xk,dxk,rfl,hxk⟩:=Paired.at_ hT.nod (Fo.fl_get hN)
    obtain ⟨p1,p2,p3⟩:=Fo.pos_node hpos hN
    have p4:=Fo.pos_le p2
    refine ⟨_,rfl,t,a.Tree,dx,_,_,rfl,hT.obj,T.c_Tree,T.n_Tree_nodes,rfl,_,rfl,ln,_,_,_,rfl,rfl,SqL.of hT.nds.1,atI_nat hvk,?_⟩
    refine ⟨_,rfl,t',a.Tree,dx',_,_,rfl,hT'.obj,T.c_Tree,T.n_Tree_octets,rfl,lo',_,rfl,.inl (SqL.of hT'.oct.1),_,rfl,xk,a.Node,dxk,_,_,rfl,hxk,T.c_Node,T.n_Node_end,rfl,_,rfl,xk,a.Node,dxk,_,_,rfl,hxk,T.c_Node,T.n_Node_begin,rfl,_,_,rfl,rfl,_,_,rfl,rfl,?_⟩
    have ed:(((nsV x').length:Nat):Int) - (((u.2.2:Nat):Int) - ((u.2.1:Nat):Int)) = ((x'.length:Nat):Int) - ((u.2.2 - u.2.1:Nat):Int):=by rw [nsV_len]; omega
    dsimp only
    rw [ed]
    generalize hd:((x'.length:Nat):Int) - ((u.2.2 - u.2.1:Nat):Int) = d
    refine ⟨_,rfl,t,a.Tree,dx,_,_,rfl,hT.obj,T.c_Tree,T.n_Tree_octets,rfl,_,rfl,xk,a.Node,dxk,_,_,rfl,hxk,T.c_Node,T.n_Node_begin,rfl,_,rfl,lo,_,rfl,SqL.of hT.oct.1,fun l1 hl1 => ?_⟩
    rw [cutV_to]
    have s1:Same H (upd H l1 (.lst ((nsV x).take u.2.1))):=Same.new hl1
    refine ⟨_,rfl,t',a.Tree,dx',_,_,rfl,s1 _ _ hT'.obj,T.c_Tree,T.n_Tree_octets,rfl,l1,lo',_,_,rfl,rfl,upd_same,s1 _ _ hT'.oct.1,?_,fun l2 hl2 => ?_⟩
    · rw [List.length_take,nsV_len,nsV_len]
      exact Nat.le_trans (show _ ≤ 1000 + 1000 by omega) (by decide)
    have s2:=s1.trans (Same.new (o:=.lst ((nsV x).take u.2.1 ++ nsV x')) hl2)
    generalize hH2:upd (upd H l1 (.lst ((nsV x).take u.2.1))) l2 (.lst ((nsV x).take u.2.1 ++ nsV x')) = H2 at s2
    have g2:H2 l2 = some (.lst ((nsV x).take u.2.1 ++ nsV x')):=by rw [← hH2]; exact upd_same
    refine ⟨_,rfl,t,a.Tree,dx,_,_,rfl,s2 _ _ hT.obj,T.c_Tree,T.n_Tree_octets,rfl,_,rfl,xk,a.Node,dxk,_,_,rfl,s2 _ _ hxk,T.c_Node,T.n_Node_end,rfl,_,rfl,lo,_,rfl,SqL.of (s2 _ _ hT.oct.1),fun l3 hl3 => ?_⟩
    rw [cutV_from]
    have s3:=Same.new (o:=.lst ((nsV x).drop u.2.2)) hl3
    refine ⟨l2,l3,_,_,rfl,rfl,s3 _ _ g2,upd_same,?_,fun l4 hl4 => ?_⟩
    · rw [List.length_append,List.length_take,List.length_drop,nsV_len,nsV_len]
      exact Nat.le_trans (show _ ≤ 1000 + 1000 + 1000 by omega) (by decide)
    have eo:(nsV x).take u.2.1 ++ nsV x' ++ (nsV x).drop u.2.2 = nsV (x.take u.2.1 ++ (x' ++ x.drop u.2.2)):=by
      unfold nsV
      rw [List.map_append,List.map_append,List.map_take,List.map_drop,List.append_assoc]
    rw [eo]
    have s23:=s2.trans s3
    have o4:=Ls.new (xs:=nsV (x.take u.2.1 ++ (x' ++ x.drop u.2.2))) (Same.there s23 hz) hl4
    have s4:=s23.trans (Same.new (o:=.lst (nsV (x.take u.2.1 ++ (x' ++ x.drop u.2.2)))) hl4)
    generalize upd (upd H2 l3 (.lst ((nsV x).drop u.2.2))) l4 (.lst (nsV (x.take u.2.1 ++ (x' ++ x.drop u.2.2)))) = H4 at s4 o4
    refine ⟨_,rfl,_,rfl,_,rfl,z,t,dx,lo,ln,lp,us,x,F,u,N,k,d,rfl,hT.same s4,hF,hN,fun p v' L' hp h1 h2 => ?_,fun l5 v5 H5 h5 n5 hl5 s5 => ?_⟩
    · have:=Fo.pos_above hpos hN hp h1 h2
      omega
    have s45:=s4.trans s5
    refine ⟨_,rfl,t',a.Tree,dx',_,_,rfl,s45 _ _ hT'.obj,T.c_Tree,T.n_Tree_nodes,rfl,_,rfl,xk,a.Node,dxk,_,_,rfl,s45 _ _ hxk,T.c_Node,T.n_Node_begin,rfl,?_⟩
    refine ⟨ln',us',Fo.fl (.cons v L .nil),_,rfl,s45 _ _ hT'.nds.1,hT'.nod.same s45,by rw [Fo.fl_len]; exact hsz2,fun w _ => by omega,fun l6 v6 H6 h6 n6 hl6 s6 => ?_⟩
    have s46:=s45.trans s6
    have ln5:v5.length = k:=by rw [Paired.len n5,Fo.bn_len d (by omega)]
    have ln6:v6.length = Fo.sz L + 1:=by rw [Paired.len n6]; unfold Vaglri.shift; rw [List.length_map,Fo.fl_len]; rfl
    refine ⟨l5,l6,_,_,rfl,rfl,s6 _ _ h5,h6,?_,fun l7 hl7 => ?_⟩
    · rw [ln5,ln6]
      exact Nat.le_trans (show _ ≤ 1000 + 1000 + 1000 by omega) (by decide)
    have hl7':H l7 = none:=s46.free hl7
    have o7:l7 ≠ z:=fun e => Same.there s46 hz (by rw [← e]; exact hl7)
    have s7:=Same.new (o:=.lst (v5 ++ v6)) hl7
    have s47:=s46.trans s7
    generalize hH7:upd H6 l7 (.lst (v5 ++ v6)) = H7 at s7 s47
    have g7:H7 l7 = some (.lst (v5 ++ v6)):=by rw [← hH7]; exact upd_same
    have n7:Nds a H7 (v5 ++ v6) (Fo.bn d F k ++ Vaglri.shift (u.2.1:Int) (Fo.fl (.cons v L .nil))):=Paired.app (n5.same (s6.trans s7)) (n6.same s7)
    refine ⟨_,rfl,.inl ⟨rfl,_,SqL.of g7⟩,_,rfl,t,a.Tree,dx,_,_,rfl,s47 _ _ hT.obj,T.c_Tree,T.n_Tree_nodes,rfl,_,rfl,_,rfl,z,t,dx,lo,ln,lp,us,x,F,u,N,k,rfl,hT.same s47,hF,hN,_,rfl,ln,_,rfl,SqL.of (s47 _ _ hT.nds.1),fun l8 hl8 => ?_⟩
    rw [cutV_from]
    have s8:=Same.new (o:=.lst (us.drop (k + 1 + Fo.sz N))) hl8
    have s48:=s47.trans s8
    refine ⟨_,rfl,l8,_,(Fo.fl F).drop (k + 1 + Fo.sz N),d,rfl,upd_same,Paired.drop _ (hT.nod.same s48),by rw [List.length_drop,Fo.fl_len]; omega,fun w hw => ?_,fun l9 v9 H9 h9 n9 hl9 s9 => ?_⟩
    · have:=Fo.pos_behind hpos hN hw
      omega
    have s89:=s8.trans s9
    have s49:=s48.trans s9
    have ln9:v9.length ≤ 1000:=by rw [Paired.len n9]; unfold Vaglri.shift; rw [List.length_map,List.length_drop,Fo.fl_len]; omega
    refine ⟨l7,l9,_,_,rfl,rfl,s89 _ _ g7,h9,?_,?_⟩
    · rw [List.length_append,ln5,ln6]
      exact Nat.le_trans (show _ ≤ 1000 + 1000 + 1000 + 1000 by omega) (by decide)
    have sA:=Same.put (o:=.lst (v5 ++ v6 ++ v9)) s49 hl7'
    have s4A:Same H4 (upd H9 l7 (.lst (v5 ++ v6 ++ v9))):=fun b o hb => by
      by_cases e:b = l7
      · subst e
        have:=s5 _ _ hb
        rw [s6 _ _ this] at hl7
        cases hl7
      · rw [upd_ne e]
        exact s89 _ _ (s7 _ _ (s6 _ _ (s5 _ _ hb)))
    have nA:Nds a (upd H9 l7 (.lst (v5 ++ v6 ++ v9))) (v5 ++ v6 ++ v9) (Fo.fl (Fo.putF F k u x'.length (.cons v L .nil))):=by
      have:=Paired.app (Nds.same n7 s89) n9
      unfold Fo.putF
      rw [Fo.fl_rp hN,Fo.fl_sh,← List.append_assoc,hd]
      exact Nds.put this (s89 _ _ g7)
    have gA:(upd H9 l7 (.lst (v5 ++ v6 ++ v9))) l7 = some (.lst (v5 ++ v6 ++ v9)):=upd_same
    generalize upd H9 l7 (.lst (v5 ++ v6 ++ v9)) = HA at sA s4A nA gA
    refine ⟨_,rfl,_,rfl,_,rfl,_,rfl,_,rfl,z,t,dx,lo,ln,lp,us,x,F,u,N,t',dx',lo',ln',lp',us',x',v,L,k,rfl,hT.same sA,hF,hN,hsz,by omega,hT'.same sA,fun lB HB hB hlB sB => ?_⟩
    rw [← ps_put (n:=x'.length) (v:=v) hN] at hB
    refine fun tn dn nx nd ne => ⟨tn,dn,_,_,_,rfl,upd_same,rfl,?_⟩
    rw [upd_upd]
    have sC:=Same.ins (C:=a.Tree) (fs:=trF l4 l7 lB) nx nd ne
    have sBC:=sB.trans sC
    exact q tn dn l4 l7 lB _ _ ⟨upd_same,o4.same (s4A.trans sBC),⟨sBC _ _ gA,o7⟩,nA.same sBC,⟨sC _ _ hB,fun e => Same.there sA hz (by rw [← e]; exact hlB)⟩⟩ (sA.trans sBC)
structure HeldT (a:Adr) (g:Vaglri.Grammar) (z:Addr) (H:Hp) (t:Addr) (w:Vaglri.Whole) (F:Fo):Prop where
  wh:Fo.Whole g w F
  at_:∃ dx lo ln lp us,TreeAt a z H t dx lo ln lp us w.text (Fo.fl F) (Fo.ps F)
  txt:w.text.length ≤ 24
  nds:w.tree.length ≤ 500
theorem HeldT.sz {a:Adr} {g:Vaglri.Grammar} {z:Addr} {H:Hp} {t:Addr} {w:Vaglri.Whole} {F:Fo} (h:HeldT a g z H t w F):Fo.sz F ≤ 500:=by
  have:=h.nds
  rw [h.wh.tree,Fo.fl_len] at this
  exact this
noncomputable def sp_swapped (K:PySem.W.Frag) (a:Adr):Sp:=fun vs H Q _ => ∃ g z t w F u N u' N',∃ one other i j:Nat,vs = [.ref t,.int (one:Nat),.int (other:Nat)] ∧ HeldT a g z H t w F ∧ H z ≠ none ∧ i = min one other ∧ j = max one other ∧ Fo.node F i = some (u',N') ∧ Fo.node F j = some (u,N) ∧ i + 1 + Fo.sz N' ≤ j ∧
  ∀ t1 w1 F1 H',Vaglri.swapTrees g w i j = some w1 → HeldT a g z H' t1 w1 F1 → Same H H' → Q (.ref t1) H'
theorem ok_swapped (T:Txt K mg a):Ok P w K mg base 5 a.swapped ["tree","one","other"] (sp_swapped K a):=by
  obtain ⟨_,F_replaced,b_replaced⟩:=ok_replaced (P:=P) (w:=w) (base:=base) T
  obtain ⟨_,F_cut_out,b_cut_out⟩:=ok_cut_out (P:=P) (w:=w) (base:=base) T
  refine T.f_swapped.ok sc_swapped (fun vs H Q E h => ?_) (fun cdv A outer s H vs Q E hr h => ?_)
  · obtain ⟨g,z,t,w0,F,u,N,u',N',one,other,i,j,rfl,_⟩:=h
    rfl
  · obtain ⟨g,z,t,w0,F,u,N,u',N',one,other,i,j,rfl,hH,hz,hi,hj,hN',hN,hij,q⟩:=h
    refine ⟨_,(pss_cons (ps_set (i:=3) sc_swapped.nd rfl (Or.inl rfl) (pe_callB (call_min2 rfl) (by rfl) T.b_min boot_min (pa_cons (pv 1) (pa_cons (pv 2) pa_nil))))
      (pss_cons (ps_set (i:=4) sc_swapped.nd rfl (Or.inl rfl) (pe_callB (call_max2 rfl) (by rfl) T.b_max boot_max (pa_cons (pv 1) (pa_cons (pv 2) pa_nil))))
      (pss_cons (ps_set (i:=5) sc_swapped.nd rfl (Or.inl rfl) (pe_call F_replaced (hr.mono (by decide)) (by rfl) T.g_replaced T.f_replaced.kp b_replaced .nil passE0 (pa_cons (pv 0) (pa_cons (pv 4) (pa_cons (pe_call F_cut_out (hr.mono (by decide)) (by rfl) T.g_cut_out T.f_cut_out.kp b_cut_out .nil passE0 (pa_cons (pv 0) (pa_cons (pv 3) pa_nil))) pa_nil)))))
      (pss_one (ps_ret (pe_call F_replaced (hr.mono (by decide)) (by rfl) T.g_replaced T.f_replaced.kp b_replaced .nil passE0 (pa_cons (pv 5) (pa_cons (pv 3) (pa_cons (pe_call F_cut_out (hr.mono (by decide)) (by rfl) T.g_cut_out T.f_cut_out.kp b_cut_out .nil passE0 (pa_cons (pv 0) (pa_cons (pv 4) pa_nil))) pa_nil))))))))),?_⟩
    obtain ⟨dx,lo,ln,lp,us,hT⟩:=hH.at_
    have W:=hH.wh
    have hsz:=hH.sz
    have htx:=hH.txt
    obtain ⟨C1,l1⟩:=Fo.cut_whole W hN
    obtain ⟨C2,l2⟩:=Fo.cut_whole W hN'
    have lt1:=Fo.node_lt hN
    have lt2:=Fo.node_lt hN'
    have sc1:Fo.sz (Fo.cutF u N) = Fo.sz N + 1:=by unfold Fo.cutF; rw [Fo.sz_sh]; rfl
    have sc2:Fo.sz (Fo.cutF u' N') = Fo.sz N' + 1:=by unfold Fo.cutF; rw [Fo.sz_sh]; rfl
    have P1:=Fo.put_whole W C2 hN
    have n1:Fo.node (Fo.putF F j u (Fo.cutW w0 u' N').text.length (Fo.cutF u' N')) i = some (u',N'):=Fo.node_rp hN hN' hij
    obtain ⟨X1,XF,e1,e2,e3,e4,e5,e6⟩:=Fo.swap_eq W hN hN' hij
    have pl:=Fo.put_len (v:=Fo.cutW w0 u' N') (V:=Fo.cutF u' N') W hN
    have pn:=Fo.put_nodes (V:=Fo.cutF u' N') hN (Fo.cutW w0 u' N').text.length
    obtain ⟨_,q1,q1'⟩:=Fo.pos_node W.pos hN
    obtain ⟨_,q2,q2'⟩:=Fo.pos_node W.pos hN'
    have:=Fo.pos_le q1
    have:=Fo.pos_le q2
    refine ⟨_,rfl,_,rfl,_,_,rfl,?_⟩
    rw [show (if ((other:Nat):Int) < ((one:Nat):Int) then ((other:Nat):Int) else ((one:Nat):Int)) = ((i:Nat):Int) by subst hi; split <;> omega]
    refine ⟨_,rfl,_,rfl,_,_,rfl,?_⟩
    rw [show (if ((other:Nat):Int) > ((one:Nat):Int) then ((other:Nat):Int) else ((one:Nat):Int)) = ((j:Nat):Int) by subst hj; split <;> omega]
    refine ⟨_,rfl,_,rfl,_,rfl,_,rfl,z,t,dx,lo,ln,lp,us,w0.text,F,u',N',0,w0.text.length,i,rfl,hT,hz,W.one,hN',by omega,W.pos,fun tc dc loc lnc lpc vc H1 hTc s1 => ?_⟩
    refine ⟨z,t,dx,lo,ln,lp,us,w0.text,F,u,N,tc,dc,loc,lnc,lpc,vc,(Fo.cutW w0 u' N').text,Fo.cutF u' N',0,w0.text.length,j,rfl,hT.same s1,W.one,hN,by omega,by omega,hTc,C2.one,by omega,by omega,W.pos,Same.there s1 hz,fun t2 dx2 lo2 ln2 lp2 us2 H2 hT2 s2 => ?_⟩
    have s12:=s1.trans s2
    refine ⟨_,rfl,_,rfl,_,rfl,_,rfl,z,t,dx,lo,ln,lp,us,w0.text,F,u,N,0,w0.text.length,j,rfl,hT.same s12,Same.there s12 hz,W.one,hN,by omega,W.pos,fun td dd lod lnd lpd vd H3 hTd s3 => ?_⟩
    refine ⟨z,t2,dx2,lo2,ln2,lp2,us2,(Fo.putW w0 F j u (Fo.cutW w0 u' N') (Fo.cutF u' N')).text,_,u',N',td,dd,lod,lnd,lpd,vd,(Fo.cutW w0 u N).text,Fo.cutF u N,0,_,i,rfl,hT2.same s3,P1.one,n1,by omega,by omega,hTd,C1.one,by omega,by omega,P1.pos,Same.there (s12.trans s3) hz,fun t4 dx4 lo4 ln4 lp4 us4 H4 hT4 s4 => ?_⟩
    refine q t4 X1 XF H4 e1 ⟨e2,⟨dx4,lo4,ln4,lp4,us4,?_⟩,by omega,by rw [e4]; exact hH.nds⟩ (s12.trans (s3.trans s4))
    rw [e6,e5]
    exact hT4
end
end TC
namespace TC
open PySem PySem.Spec PyProof.Rows L2
noncomputable def rgF (lr lo ln lp:Addr) (p:Nat) (la:Addr):List (Str × V):=[("rules",.ref lr),("octets",.ref lo),("nodes",.ref ln),("parents",.ref lp),("place",.int (p:Nat)),("awaited",.ref la)]
noncomputable def awV:Aw → List V
  | .non b par => [.int 0,.int (b:Nat),pV par]
  | .rng lo hi => [.int 1,.int (lo:Nat),.int (hi:Nat)]
  | .fin k => [.int 2,.int (k:Nat)]
noncomputable def AwAt (H:Hp) (v:V) (w:Aw):Prop:=∃ t,v = .ref t ∧ H t = some (.tup (awV w))
structure RSt (a:Adr) (z:Addr) (H:Hp) (lr lo ln:Addr) (us:List V) (g:Vaglri.Grammar) (x:List Nat) (y:Vaglrc.Tree):Prop where
  rul:RulesAt a z H lr g.rules
  oct:H lo = some (.lst (nsV x))
  nds:H ln = some (.lst us)
  nod:Nds a H us y
structure Rg (a:Adr) (H0 H:Hp) (r dx lr lo ln lp la:Addr) (p:Nat) (ps:List (Option Nat)) (vs:List V) (aws:List Aw):Prop where
  same:Same H0 H
  obj:H r = some (.ins a.Reading dx (rgF lr lo ln lp p la))
  par:H lp = some (.lst (ps.map pV))
  awl:H la = some (.lst vs)
  aw:Paired (AwAt H) vs aws
  nr:H0 r = none
  np:H0 lp = none
  na:H0 la = none
  ne:lp ≠ la
theorem small10000 {n:Nat} (h:n ≤ 10000):n < sizeLine:=Nat.lt_of_le_of_lt h (by decide)
theorem AwAt.put {H:Hp} {b:Addr} {o o':HO} {v:V} {w:Aw} (h:AwAt H v w) (hb:H b = some o) (n:∀ xs,o ≠ .tup xs):AwAt (upd H b o') v w:=by
  obtain ⟨t,e,h⟩:=h
  exact ⟨t,e,by rw [upd_ne (fun z => by rw [z,hb] at h; cases h; exact n _ rfl)]; exact h⟩
theorem AwAt.same {H H':Hp} {v:V} {w:Aw} (h:AwAt H v w) (s:Same H H'):AwAt H' v w:=by
  obtain ⟨t,e,h⟩:=h
  exact ⟨t,e,s _ _ h⟩
section
variable {P:Program} {w:World} {K:PySem.W.Frag} {mg:Str → Option Value} {base:Heap} {a:Adr}
noncomputable def sp_Reading_init (K:PySem.W.Frag) (a:Adr):Sp:=fun vs H Q _ => ∃ r dx lr lo ln,vs = [.ref r,.ref lr,.ref lo,.ref ln] ∧ H r = some (.ins a.Reading dx []) ∧
  ∀ lp la H',H lp = none → H la = none → lp ≠ la → H' r = some (.ins a.Reading dx (rgF lr lo ln lp 0 la)) → H' lp = some (.lst []) → H' la = some (.lst []) → Kp [r] H H' → Q .non H'
theorem ok_Reading_init (T:Txt K mg a):Ok P w K mg base 1 a.Reading_init ["self","rules","octets","nodes"] (sp_Reading_init K a):=by
  refine T.f_Reading_init.ok sc_Reading_init (fun vs H Q E h => ?_) (fun cdv A outer s H vs Q E hr h => ?_)
  · obtain ⟨r,dx,lr,lo,ln,rfl,_⟩:=h
    rfl
  · obtain ⟨r,dx,lr,lo,ln,rfl,h1,q⟩:=h
    refine ⟨_,(pss_cons (ps_fld (pv 0) (pv 1) rfl)
      (pss_cons (ps_fld (pv 0) (pv 2) rfl)
      (pss_cons (ps_fld (pv 0) (pv 3) rfl)
      (pss_cons (ps_fld (pv 0) (pe_lst pa_nil) rfl)
      (pss_cons (ps_fld (pv 0) pe_int rfl)
      (pss_one (ps_fld (pv 0) (pe_lst pa_nil) rfl))))))),?_⟩
    refine ⟨_,rfl,_,rfl,r,a.Reading,dx,_,rfl,h1,T.c_Reading,T.n_Reading_rules,(by show 0 < 1000; decide),_,rfl,_,rfl,r,a.Reading,dx,_,rfl,upd_same,T.c_Reading,T.n_Reading_octets,(by show 1 < 1000; decide),_,rfl,_,rfl,r,a.Reading,dx,_,rfl,upd_same,T.c_Reading,T.n_Reading_nodes,(by show 2 < 1000; decide),Nat.zero_le _,fun lp hlp => ?_⟩
    rw [upd_upd,upd_upd] at hlp
    have hpr:lp ≠ r:=fun e => by rw [e,upd_same] at hlp; cases hlp
    have hlp0:H lp = none:=by rw [upd_ne hpr] at hlp; exact hlp
    rw [upd_upd,upd_upd]
    refine ⟨_,rfl,r,a.Reading,dx,_,rfl,by rw [upd_ne (Ne.symm hpr)]; exact upd_same,T.c_Reading,T.n_Reading_parents,(by show 3 < 1000; decide),_,rfl,r,a.Reading,dx,_,rfl,upd_same,T.c_Reading,T.n_Reading_place,(by show 4 < 1000; decide),Nat.zero_le _,fun la hla => ?_⟩
    rw [upd_upd] at hla
    have har:la ≠ r:=fun e => by rw [e,upd_same] at hla; cases hla
    rw [upd_ne har] at hla
    have hap:la ≠ lp:=fun e => by rw [e,upd_same] at hla; cases hla
    have hla0:H la = none:=by rw [upd_ne hap,upd_ne har] at hla; exact hla
    rw [upd_upd]
    refine ⟨_,rfl,r,a.Reading,dx,_,rfl,by rw [upd_ne (Ne.symm har)]; exact upd_same,T.c_Reading,T.n_Reading_awaited,(by show 5 < 1000; decide),?_⟩
    refine q lp la _ hlp0 hla0 (Ne.symm hap) upd_same ?_ ?_ ?_
    · rw [upd_ne hpr,upd_ne (Ne.symm hap),upd_ne hpr,upd_same]
    · rw [upd_ne har,upd_same]
    · intro b o hb hn
      have hbr:b ≠ r:=by simpa using hn
      rw [upd_ne hbr,upd_ne (ne_of_none hb hla0),upd_ne hbr,upd_ne (ne_of_none hb hlp0),upd_ne hbr]
      exact hb
noncomputable def sp_Reading_await_tree (K:PySem.W.Frag) (a:Adr):Sp:=fun vs H Q _ => ∃ H0 r dx lr lo ln lp la p ps us aws b par,vs = [.ref r,.int ((b:Nat):Int),pV par] ∧ Rg a H0 H r dx lr lo ln lp la p ps us aws ∧ us.length ≤ 10000 ∧
  ∀ us' H',us'.length = us.length + 1 → Rg a H0 H' r dx lr lo ln lp la p ps us' (aws ++ [.non b par]) → Q .non H'
theorem Rg.push {H0 H:Hp} {r dx lr lo ln lp la:Addr} {p:Nat} {ps:List (Option Nat)} {vs:List V} {aws:List Aw} {v:V} {w:Aw} (R:Rg a H0 H r dx lr lo ln lp la p ps vs aws) (h:AwAt H v w) :
    Rg a H0 (upd H la (.lst (vs ++ [v]))) r dx lr lo ln lp la p ps (vs ++ [v]) (aws ++ [w]) :=
  ⟨Same.put R.same R.na,by rw [upd_ne (ne_of R.obj R.awl (by intro z; cases z))]; exact R.obj,by rw [upd_ne R.ne]; exact R.par,upd_same,
    Paired.snoc (Paired.mapL R.aw fun v w h => h.put R.awl (by intro xs z; cases z)) (h.put R.awl (by intro xs z; cases z)),R.nr,R.np,R.na,R.ne⟩
theorem Rg.new {H0 H:Hp} {r dx lr lo ln lp la t:Addr} {p:Nat} {ps:List (Option Nat)} {vs:List V} {aws:List Aw} {o:HO} (R:Rg a H0 H r dx lr lo ln lp la p ps vs aws) (h:H t = none):Rg a H0 (upd H t o) r dx lr lo ln lp la p ps vs aws :=
  have s:Same H (upd H t o):=Same.new h
  ⟨R.same.trans s,s _ _ R.obj,s _ _ R.par,s _ _ R.awl,Paired.mapL R.aw fun v w h => h.same s,R.nr,R.np,R.na,R.ne⟩
theorem ok_Reading_await_tree (T:Txt K mg a):Ok P w K mg base 1 a.Reading_await_tree ["self","nonterminal","parent"] (sp_Reading_await_tree K a):=by
  obtain ⟨_,g_NONTERMINAL,r_NONTERMINAL⟩:=T.k_NONTERMINAL
  refine T.f_Reading_await_tree.ok sc_Reading_await_tree (fun vs H Q E h => ?_) (fun cdv A outer s H vs Q E hr h => ?_)
  · obtain ⟨H0,r,dx,lr,lo,ln,lp,la,p,ps,us,aws,b,par,rfl,_⟩:=h
    rfl
  · obtain ⟨H0,r,dx,lr,lo,ln,lp,la,p,ps,us,aws,b,par,rfl,R,hlen,q⟩:=h
    refine ⟨_,(pss_one (ps_expr (pe_bm PySem.F.plainAttrs_list PySem.F.slot_list_append PySem.F.type_list_append mt_append (pe_fld (pv 0) rfl) (pa_cons (pe_tup (pa_cons (pe_glob (by rfl) g_NONTERMINAL r_NONTERMINAL) (pa_cons (pv 1) (pa_cons (pv 2) pa_nil)))) pa_nil)))),?_⟩
    refine ⟨_,rfl,r,a.Reading,dx,_,_,rfl,R.obj,T.c_Reading,T.n_Reading_awaited,rfl,.inl ⟨rfl,_,SqL.of R.awl⟩,_,rfl,_,rfl,(by show 3 ≤ sizeLine; decide),fun t ht => ?_⟩
    have R1:=R.new (o:=.tup (awV (.non b par))) ht
    refine ⟨la,us,_,rfl,rfl,R1.awl,small10000 hlen,?_⟩
    exact q _ _ (by rw [List.length_append]; rfl) (R1.push ⟨t,rfl,upd_same⟩)
noncomputable def sp_Reading_pass_byte (K:PySem.W.Frag) (a:Adr):Sp:=fun vs H Q E => ∃ z H0 r dx lr lo ln lp la p ps us aws g x y ns,∃ l h:Nat,vs = [.ref r,.int (l:Nat),.int (h:Nat)] ∧ RSt a z H0 lr lo ln ns g x y ∧ Rg a H0 H r dx lr lo ln lp la p ps us aws ∧ p ≤ x.length ∧
  (∀ b H',x[p]? = some b → l ≤ b → b ≤ h → Rg a H0 H' r dx lr lo ln lp la (p + 1) ps us aws → Q .non H') ∧ ((∀ b,x[p]? = some b → ¬ (l ≤ b ∧ b ≤ h)) → Raises K a.Refusal (-9) H0 [] E)
theorem Rg.place {H0 H:Hp} {r dx lr lo ln lp la:Addr} {p p':Nat} {ps:List (Option Nat)} {vs:List V} {aws:List Aw} (R:Rg a H0 H r dx lr lo ln lp la p ps vs aws):Rg a H0 (upd H r (.ins a.Reading dx (rgF lr lo ln lp p' la))) r dx lr lo ln lp la p' ps vs aws :=
  ⟨Same.put R.same R.nr,upd_same,by rw [upd_ne (ne_of R.par R.obj (by intro z; cases z))]; exact R.par,by rw [upd_ne (ne_of R.awl R.obj (by intro z; cases z))]; exact R.awl,Paired.mapL R.aw fun v w h => h.put R.obj (by intro xs z; cases z),R.nr,R.np,R.na,R.ne⟩
theorem ok_Reading_pass_byte (T:Txt K mg a):Ok P w K mg base 4 a.Reading_pass_byte ["self","low","high"] (sp_Reading_pass_byte K a):=by
  refine T.f_Reading_pass_byte.okX sc_Reading_pass_byte (fun vs H Q E h => ?_) ?_
  · obtain ⟨z,H0,r,dx,lr,lo,ln,lp,la,p,ps,us,aws,g,x,y,ns,l,h,rfl,_⟩:=h
    rfl
  · rintro X cdv A outer s H vs Q E rfl hr hX hP ⟨z,H0,r,dx,lr,lo,ln,lp,la,p,ps,us,aws,g,x,y,ns,l,h,rfl,S,R,hp,q1,q2⟩
    refine ⟨_,(pss_cons (ps_if (pt_cmpR op_eq (pe_fld (pv 0) rfl) (pe_callB call_len_seq (by rfl) T.b_len PySem.boot_len (pa_cons (pe_fld (pv 0) rfl) pa_nil)) (nomark _)) (pss_one (rs_NotSuchTree T (hr.mono (by decide)) hX rfl rfl)) pss_nil)
      (pss_cons (ps_if (pw_or (pt_cmpR op_lt (pe_ix ix_list (pe_fld (pv 0) rfl) (pe_fld (pv 0) rfl) (fun _ _ => rfl)) (pv 1) (nomark _)) (pw_or1 (pt_cmpR op_gt (pe_ix ix_list (pe_fld (pv 0) rfl) (pe_fld (pv 0) rfl) (fun _ _ => rfl)) (pv 2) (nomark _)))).pt (pss_one (rs_NotSuchTree T (hr.mono (by decide)) hX rfl rfl)) pss_nil)
      (pss_one (ps_fldaug (pv 0) pe_int in_add)))),?_⟩
    have ho:=R.same _ _ S.oct
    have kp:Kp [] H0 H:=Kp.same R.same
    refine ⟨_,rfl,r,a.Reading,dx,_,_,rfl,R.obj,T.c_Reading,T.n_Reading_place,rfl,_,rfl,r,a.Reading,dx,_,_,rfl,R.obj,T.c_Reading,T.n_Reading_octets,rfl,lo,_,rfl,.inl (SqL.of ho),rfl,_,rfl,?_⟩
    refine ite2 (fun c => ?_) (fun c => ?_)
    · have c1:=dT c
      injection c1 with c1
      rw [nsV_len] at c1
      refine rs_of T.sub_NotSuchTree T.x_NotSuchTree kp (q2 fun b hb => ?_)
      have:=(List.getElem?_eq_some_iff.mp hb).1
      omega
    · have c1:p < x.length:=by
        have:p ≠ x.length:=fun e => c (decide_eq_true (by show V.int (p:Nat) = V.int (((nsV x).length:Nat):Int); rw [nsV_len,e]))
        omega
      obtain ⟨b,hb⟩:∃ b,x[p]? = some b:=⟨_,List.getElem?_eq_getElem c1⟩
      refine ⟨_,rfl,r,a.Reading,dx,_,_,rfl,R.obj,T.c_Reading,T.n_Reading_octets,rfl,_,rfl,r,a.Reading,dx,_,_,rfl,R.obj,T.c_Reading,T.n_Reading_place,rfl,lo,_,_,_,rfl,rfl,SqL.of ho,atI_nat (nsV_get hb),_,rfl,_,_,rfl,rfl,_,rfl,?_⟩
      refine ite2 (fun c2 => ?_) (fun c2 => ?_)
      · have c2:=dT c2
        refine iteT (rs_of T.sub_NotSuchTree T.x_NotSuchTree kp (q2 fun b' hb' => ?_))
        rw [hb] at hb'
        cases hb'
        omega
      · have c2:=dF c2
        refine ⟨_,rfl,r,a.Reading,dx,_,_,rfl,R.obj,T.c_Reading,T.n_Reading_octets,rfl,_,rfl,r,a.Reading,dx,_,_,rfl,R.obj,T.c_Reading,T.n_Reading_place,rfl,lo,_,_,_,rfl,rfl,SqL.of ho,atI_nat (nsV_get hb),_,rfl,_,_,rfl,rfl,_,rfl,?_⟩
        refine ite2 (fun c3 => ?_) (fun c3 => ?_)
        · have c3:=dT c3
          refine rs_of T.sub_NotSuchTree T.x_NotSuchTree kp (q2 fun b' hb' => ?_)
          rw [hb] at hb'
          cases hb'
          omega
        · have c3:=dF c3
          refine ⟨_,rfl,r,a.Reading,dx,_,_,rfl,R.obj,T.c_Reading,T.n_Reading_place,rfl,_,_,rfl,rfl,dx,_,R.obj,(by show 6 < 1000; decide),?_⟩
          exact q1 b _ hb (by omega) (by omega) (R.place (p':=p + 1))
noncomputable def sp_Reading_end_node (K:PySem.W.Frag) (a:Adr):Sp:=fun vs H Q E => ∃ z H0 r dx lr lo ln lp la p ps us aws g x y ns u,∃ k:Nat,vs = [.ref r,.int (k:Nat)] ∧ RSt a z H0 lr lo ln ns g x y ∧ Rg a H0 H r dx lr lo ln lp la p ps us aws ∧ y[k]? = some u ∧
  (u.2.2 = p → Q .non H) ∧ (u.2.2 ≠ p → Raises K a.Refusal (-9) H0 [] E)
theorem ok_Reading_end_node (T:Txt K mg a):Ok P w K mg base 4 a.Reading_end_node ["self","number"] (sp_Reading_end_node K a):=by
  refine T.f_Reading_end_node.okX sc_Reading_end_node (fun vs H Q E h => ?_) ?_
  · obtain ⟨z,H0,r,dx,lr,lo,ln,lp,la,p,ps,us,aws,g,x,y,ns,u,k,rfl,_⟩:=h
    rfl
  · rintro X cdv A outer s H vs Q E rfl hr hX hP ⟨z,H0,r,dx,lr,lo,ln,lp,la,p,ps,us,aws,g,x,y,ns,u,k,rfl,S,R,hu,q1,q2⟩
    refine ⟨_,(pss_one (ps_if (pt_cmpR op_ne (pe_fld (pe_ix ix_list (pe_fld (pv 0) rfl) (pv 1) (fun _ _ => rfl)) rfl) (pe_fld (pv 0) rfl) (nomark _)) (pss_one (rs_NotSuchTree T (hr.mono (by decide)) hX rfl rfl)) pss_nil)),?_⟩
    have hn:=R.same _ _ S.nds
    obtain ⟨vk,hvk,xk,dxk,rfl,hxk⟩:=Paired.at_ S.nod hu
    refine ⟨_,rfl,r,a.Reading,dx,_,_,rfl,R.obj,T.c_Reading,T.n_Reading_nodes,rfl,_,rfl,ln,_,_,_,rfl,rfl,SqL.of hn,atI_nat hvk,xk,a.Node,dxk,_,_,rfl,R.same _ _ hxk,T.c_Node,T.n_Node_end,rfl,_,rfl,r,a.Reading,dx,_,_,rfl,R.obj,T.c_Reading,T.n_Reading_place,rfl,rfl,_,rfl,?_⟩
    refine ite2 (fun c => ?_) (fun c => ?_)
    · refine rs_of T.sub_NotSuchTree T.x_NotSuchTree (Kp.same R.same) (q2 fun e => ?_)
      rw [e] at c
      simp at c
    · refine q1 ?_
      have c1:V.int ((u.2.2:Nat):Int) = V.int ((p:Nat):Int):=by simpa using c
      injection c1 with c1
      omega
end
end TC
namespace TC
open PySem PySem.Spec PyProof.Rows L2
section
variable {P:Program} {w:World} {K:PySem.W.Frag} {mg:Str → Option Value} {base:Heap} {a:Adr}
noncomputable def sp_Reading_await_symbols (K:PySem.W.Frag) (a:Adr):Sp:=fun vs H Q _ => ∃ H0 r dx lr lo ln lp la p ps us aws sl ss rhs,∃ k:Nat,vs = [.ref r,.ref sl,.int (k:Nat)] ∧ Rg a H0 H r dx lr lo ln lp la p ps us aws ∧ H0 sl = some (.lst ss) ∧ Syms H0 ss rhs ∧ us.length ≤ 9000 ∧ rhs.length ≤ 8 ∧
  ∀ us' H',Rg a H0 H' r dx lr lo ln lp la p ps us' (pushed aws k rhs) → Q .non H'
theorem ok_Reading_await_symbols (T:Txt K mg a):Ok P w K mg base 2 a.Reading_await_symbols ["self","symbols","number"] (sp_Reading_await_symbols K a):=by
  obtain ⟨_,F_Reading_await_tree,b_Reading_await_tree⟩:=ok_Reading_await_tree (P:=P) (w:=w) (base:=base) T
  obtain ⟨_,g_NODE_END,r_NODE_END⟩:=T.k_NODE_END
  obtain ⟨_,g_NONTERMINAL,r_NONTERMINAL⟩:=T.k_NONTERMINAL
  refine T.f_Reading_await_symbols.ok sc_Reading_await_symbols (fun vs H Q E h => ?_) (fun cdv A outer s H vs Q E hr h => ?_)
  · obtain ⟨H0,r,dx,lr,lo,ln,lp,la,p,ps,us,aws,sl,ss,rhs,k,rfl,_⟩:=h
    rfl
  · obtain ⟨H0,r,dx,lr,lo,ln,lp,la,p,ps,us,aws,sl,ss,rhs,k,rfl,R,hsl,hsy,hlen,hr8,q⟩:=h
    refine ⟨_,(pss_cons (ps_expr (pe_bm PySem.F.plainAttrs_list PySem.F.slot_list_append PySem.F.type_list_append mt_append (pe_fld (pv 0) rfl) (pa_cons (pe_tup (pa_cons (pe_glob (by rfl) g_NODE_END r_NODE_END) (pa_cons (pv 2) pa_nil))) pa_nil)))
      (pss_one (ps_for PassesOwn.never rfl (pi_reversed rfl T.b_reversed (pa_cons (pv 1) pa_nil)) (pg_name (i:=3) sc_Reading_await_symbols.nd rfl (Or.inl rfl))
      (pss_one (ps_if (pt_cmpR op_eq (pe_ix ix_tup (pv 3) pe_int (fun _ _ => rfl)) (pe_glob (by rfl) g_NONTERMINAL r_NONTERMINAL) (nomark _)) (pss_one (ps_expr (pe_meth (pv 0) T.c_Reading T.m_Reading_await_tree F_Reading_await_tree (hr.mono (by decide)) b_Reading_await_tree .nil passE0 (pa_cons (pe_ix ix_tup (pv 3) pe_int (fun _ _ => rfl)) (pa_cons (pv 2) pa_nil))))) (pss_one (ps_expr (pe_bm PySem.F.plainAttrs_list PySem.F.slot_list_append PySem.F.type_list_append mt_append (pe_fld (pv 0) rfl) (pa_cons (pv 3) pa_nil))))))))),?_⟩
    have hss:=Paired.len hsy
    refine ⟨_,rfl,r,a.Reading,dx,_,_,rfl,R.obj,T.c_Reading,T.n_Reading_awaited,rfl,.inl ⟨rfl,_,SqL.of R.awl⟩,_,rfl,(by show 2 ≤ sizeLine; decide),fun t ht => ?_⟩
    have R1:=R.new (o:=.tup [.int 2,.int (k:Nat)]) ht
    refine ⟨la,us,_,rfl,rfl,R1.awl,small10000 (by omega),?_⟩
    have R2:=R1.push (w:=.fin k) ⟨t,rfl,upd_same⟩
    generalize upd (upd H t (.tup [.int 2,.int (k:Nat)])) la (.lst (us ++ [.ref t])) = H2 at R2 ⊢
    have hl2:(us ++ [V.ref t]).length = us.length + 1:=by rw [List.length_append]; rfl
    generalize us ++ [V.ref t] = us2 at R2 hl2
    refine ⟨_,rfl,sl,_,rfl,SqL.of (R2.same _ _ hsl),?_⟩
    refine for_rev (K:=K) (a:=sl) (xs:=ss) (fun i σ H' => ∃ (v3:Option V) (us':List V),σ = [some (.ref r),some (.ref sl),some (.int (k:Nat)),v3] ∧ us'.length = us.length + 1 + i ∧ Rg a H0 H' r dx lr lo ln lp la p ps us' (aws ++ [.fin k] ++ (rhs.reverse.take i).map (symAw k)))
      ⟨none,us2,rfl,hl2,by rw [List.take_zero]; show Rg a H0 H2 r dx lr lo ln lp la p ps us2 (aws ++ [.fin k] ++ []); rw [List.append_nil]; exact R2⟩ (fun i σ H' _ ⟨_,_,_,_,R'⟩ => SqL.of (R'.same _ _ hsl)) ?_ ?_
    · rintro i v σ H' hv hi ⟨v3,us',rfl,hl',R'⟩
      obtain ⟨s,hs,ts,rfl,hts⟩:=Paired.atL hsy hv
      have hts':=R'.same _ _ hts
      have hrev:rhs.reverse[i]? = some s:=by
        rw [List.getElem?_reverse (by omega),← hs,hss]
      have etk:(rhs.reverse.take (i + 1)).map (symAw k) = (rhs.reverse.take i).map (symAw k) ++ [symAw k s]:=by
        obtain ⟨w1,w2⟩:=List.getElem?_eq_some_iff.mp hrev
        rw [List.take_succ_eq_append_getElem w1,w2,List.map_append]
        rfl
      cases s with
      | non b =>
        refine ⟨_,rfl,ts,_,_,V.int 0,rfl,rfl,SqT.of hts',at_of (j:=0) rfl rfl,rfl,_,rfl,?_⟩
        refine iteT ?_
        refine ⟨_,rfl,r,dx,_,rfl,R'.obj,rfl,_,rfl,ts,_,_,V.int (b:Nat),rfl,rfl,SqT.of hts',at_of (j:=1) rfl rfl,_,rfl,H0,r,dx,lr,lo,ln,lp,la,p,ps,us',_,b,some k,rfl,R',by omega,fun us3 H3 h3 R3 => ?_⟩
        refine ⟨_,us3,rfl,by omega,?_⟩
        rw [etk,← List.append_assoc]
        exact R3
      | range lo2 hi2 =>
        refine ⟨_,rfl,ts,_,_,V.int 1,rfl,rfl,SqT.of hts',at_of (j:=0) rfl rfl,rfl,_,rfl,?_⟩
        refine iteF ?_
        refine ⟨_,rfl,r,a.Reading,dx,_,_,rfl,R'.obj,T.c_Reading,T.n_Reading_awaited,rfl,.inl ⟨rfl,_,SqL.of R'.awl⟩,_,rfl,la,us',_,rfl,rfl,R'.awl,small10000 (by omega),?_⟩
        refine ⟨_,us' ++ [.ref ts],rfl,by rw [List.length_append]; show us'.length + 1 = _; omega,?_⟩
        rw [etk,← List.append_assoc]
        exact R'.push ⟨ts,rfl,hts'⟩
    · rintro σ H' ⟨v3,us',rfl,hl',R'⟩
      refine q us' H' ?_
      have e:aws ++ [.fin k] ++ (rhs.reverse.take ss.length).map (symAw k) = pushed aws k rhs:=by
        rw [List.take_of_length_le (by rw [List.length_reverse]; omega),List.append_assoc]
        rfl
      rw [← e]
      exact R'
noncomputable def sp_Reading_begin_node (K:PySem.W.Frag) (a:Adr):Sp:=fun vs H Q E => ∃ z H0 r dx lr lo ln lp la p ps us aws g x y ns par,∃ b:Nat,vs = [.ref r,.int (b:Nat),pV par] ∧ RSt a z H0 lr lo ln ns g x y ∧ Rg a H0 H r dx lr lo ln lp la p ps us aws ∧ ps.length ≤ y.length ∧ us.length ≤ 9000 ∧ y.length ≤ 500 ∧ (∀ q ∈ g.rules,q.rhs.length ≤ 8) ∧
  (∀ p' ps' aws' us' H',rstep g x y p ps aws (.non b par) = some (p',ps',aws') → Rg a H0 H' r dx lr lo ln lp la p' ps' us' aws' → Q .non H') ∧ (rstep g x y p ps aws (.non b par) = none → Raises K a.Refusal (-9) H0 [] E)
theorem Rg.parent {H0 H:Hp} {r dx lr lo ln lp la:Addr} {p:Nat} {ps:List (Option Nat)} {vs:List V} {aws:List Aw} {par:Option Nat} (R:Rg a H0 H r dx lr lo ln lp la p ps vs aws):Rg a H0 (upd H lp (.lst (ps.map pV ++ [pV par]))) r dx lr lo ln lp la p (ps ++ [par]) vs aws :=
  ⟨Same.put R.same R.np,by rw [upd_ne (ne_of R.obj R.par (by intro z; cases z))]; exact R.obj,by rw [upd_same,List.map_append]; rfl,by rw [upd_ne (Ne.symm R.ne)]; exact R.awl,Paired.mapL R.aw fun v w h => h.put R.par (by intro xs z; cases z),R.nr,R.np,R.na,R.ne⟩
theorem ok_Reading_begin_node (T:Txt K mg a):Ok P w K mg base 4 a.Reading_begin_node ["self","nonterminal","parent"] (sp_Reading_begin_node K a):=by
  obtain ⟨_,F_Reading_await_symbols,b_Reading_await_symbols⟩:=ok_Reading_await_symbols (P:=P) (w:=w) (base:=base) T
  refine T.f_Reading_begin_node.okX sc_Reading_begin_node (fun vs H Q E h => ?_) ?_
  · obtain ⟨z,H0,r,dx,lr,lo,ln,lp,la,p,ps,us,aws,g,x,y,ns,par,b,rfl,_⟩:=h
    rfl
  · rintro X cdv A outer s H vs Q E rfl hr hX hP ⟨z,H0,r,dx,lr,lo,ln,lp,la,p,ps,us,aws,g,x,y,ns,par,b,rfl,S,R,hpy,hlen,hy,h8,q1,q2⟩
    refine ⟨_,(pss_cons (ps_set (i:=3) sc_Reading_begin_node.nd rfl (Or.inl rfl) (pe_callB call_len_seq (by rfl) T.b_len PySem.boot_len (pa_cons (pe_fld (pv 0) rfl) pa_nil)))
      (pss_cons (ps_if (pt_cmpR op_eq (pv 3) (pe_callB call_len_seq (by rfl) T.b_len PySem.boot_len (pa_cons (pe_fld (pv 0) rfl) pa_nil)) (nomark _)) (pss_one (rs_NotSuchTree T (hr.mono (by decide)) hX rfl rfl)) pss_nil)
      (pss_cons (ps_set (i:=4) sc_Reading_begin_node.nd rfl (Or.inl rfl) (pe_ix ix_list (pe_fld (pv 0) rfl) (pv 3) (fun _ _ => rfl)))
      (pss_cons (ps_if (pw_or (pt_cmpR op_ne (pe_fld (pv 4) rfl) (pe_fld (pv 0) rfl) (nomark _)) (pw_or1 (pt_cmpR op_ge (pe_fld (pv 4) rfl) (pe_callB call_len_seq (by rfl) T.b_len PySem.boot_len (pa_cons (pe_fld (pv 0) rfl) pa_nil)) (nomark _)))).pt (pss_one (rs_NotSuchTree T (hr.mono (by decide)) hX rfl rfl)) pss_nil)
      (pss_cons (ps_set (i:=5) sc_Reading_begin_node.nd rfl (Or.inl rfl) (pe_ix ix_list (pe_fld (pv 0) rfl) (pe_fld (pv 4) rfl) (fun _ _ => rfl)))
      (pss_cons (ps_if (pt_cmpR op_ne (pe_fld (pv 5) rfl) (pv 1) (nomark _)) (pss_one (rs_NotSuchTree T (hr.mono (by decide)) hX rfl rfl)) pss_nil)
      (pss_cons (ps_expr (pe_bm PySem.F.plainAttrs_list PySem.F.slot_list_append PySem.F.type_list_append mt_append (pe_fld (pv 0) rfl) (pa_cons (pv 2) pa_nil)))
      (pss_one (ps_expr (pe_meth (pv 0) T.c_Reading T.m_Reading_await_symbols F_Reading_await_symbols (hr.mono (by decide)) b_Reading_await_symbols .nil passE0 (pa_cons (pe_fld (pv 5) rfl) (pa_cons (pv 3) pa_nil)))))))))))),?_⟩
    have hn:=R.same _ _ S.nds
    have hnl:ns.length = y.length:=Paired.len S.nod
    have kp:Kp [] H0 H:=Kp.same R.same
    obtain ⟨rv,hrl,hru,_⟩:=S.rul
    have hrl':=R.same _ _ hrl
    have hrn:rv.length = g.rules.length:=Paired.len hru
    have rse:rstep g x y p ps aws (.non b par) = match y[ps.length]? with
      | none => none
      | some u => match g.rules[u.1]? with
        | none => none
        | some q => if u.2.1 = p ∧ q.lhs = b then some (p,ps ++ [par],pushed aws ps.length q.rhs) else none:=rfl
    refine ⟨_,rfl,r,a.Reading,dx,_,_,rfl,R.obj,T.c_Reading,T.n_Reading_parents,rfl,lp,_,rfl,.inl (SqL.of R.par),?_⟩
    rw [List.length_map]
    refine ⟨_,rfl,_,rfl,r,a.Reading,dx,_,_,rfl,R.obj,T.c_Reading,T.n_Reading_nodes,rfl,ln,_,rfl,.inl (SqL.of hn),rfl,_,rfl,?_⟩
    refine ite2 (fun c => ?_) (fun c => ?_)
    · have c1:=dT c
      injection c1 with c1
      refine rs_of T.sub_NotSuchTree T.x_NotSuchTree kp (q2 ?_)
      rw [rse,List.getElem?_eq_none (by omega)]
    · have c1:ps.length < y.length:=by
        have:ps.length ≠ y.length:=fun e => c (decide_eq_true (by show V.int (ps.length:Nat) = V.int ((ns.length:Nat):Int); rw [hnl,e]))
        omega
      obtain ⟨u,hu⟩:∃ u,y[ps.length]? = some u:=⟨_,List.getElem?_eq_getElem c1⟩
      rw [hu] at rse
      dsimp only at rse
      obtain ⟨vk,hvk,xk,dxk,rfl,hxk⟩:=Paired.at_ S.nod hu
      have hxk':=R.same _ _ hxk
      refine ⟨_,rfl,r,a.Reading,dx,_,_,rfl,R.obj,T.c_Reading,T.n_Reading_nodes,rfl,_,rfl,ln,_,_,_,rfl,rfl,SqL.of hn,atI_nat hvk,?_⟩
      refine ⟨_,rfl,xk,a.Node,dxk,_,_,rfl,hxk',T.c_Node,T.n_Node_begin,rfl,_,rfl,r,a.Reading,dx,_,_,rfl,R.obj,T.c_Reading,T.n_Reading_place,rfl,rfl,_,rfl,?_⟩
      refine ite2 (fun c2 => ?_) (fun c2 => ?_)
      · refine iteT (rs_of T.sub_NotSuchTree T.x_NotSuchTree kp (q2 ?_))
        have c3:u.2.1 ≠ p:=fun e => by rw [e] at c2; simp at c2
        rw [rse]
        cases g.rules[u.1]? with
        | none => rfl
        | some q => exact if_neg (fun z => c3 z.1)
      · have c3:u.2.1 = p:=by
          have:V.int ((u.2.1:Nat):Int) = V.int ((p:Nat):Int):=by simpa using c2
          injection this with this
          omega
        refine ⟨_,rfl,xk,a.Node,dxk,_,_,rfl,hxk',T.c_Node,T.n_Node_rule,rfl,_,rfl,r,a.Reading,dx,_,_,rfl,R.obj,T.c_Reading,T.n_Reading_rules,rfl,lr,_,rfl,.inl (SqL.of hrl'),_,_,rfl,rfl,_,rfl,?_⟩
        refine ite2 (fun c4 => ?_) (fun c4 => ?_)
        · have c4:=dT c4
          refine rs_of T.sub_NotSuchTree T.x_NotSuchTree kp (q2 ?_)
          rw [rse,List.getElem?_eq_none (by omega)]
        · have c4:=dF c4
          obtain ⟨qr,hq⟩:∃ q,g.rules[u.1]? = some q:=⟨_,List.getElem?_eq_getElem (by omega)⟩
          rw [hq] at rse
          dsimp only at rse
          obtain ⟨vq,hvq,xq,dxq,slq,sq,rfl,hxq,hsl,hsy,_⟩:=Paired.at_ hru hq
          have hxq':=R.same _ _ hxq
          refine ⟨_,rfl,r,a.Reading,dx,_,_,rfl,R.obj,T.c_Reading,T.n_Reading_rules,rfl,_,rfl,xk,a.Node,dxk,_,_,rfl,hxk',T.c_Node,T.n_Node_rule,rfl,lr,_,_,_,rfl,rfl,SqL.of hrl',atI_nat hvq,?_⟩
          refine ⟨_,rfl,xq,a.Rule,dxq,_,_,rfl,hxq',T.c_Rule,T.n_Rule_nonterminal,rfl,_,rfl,rfl,_,rfl,?_⟩
          refine ite2 (fun c5 => ?_) (fun c5 => ?_)
          · have c6:qr.lhs ≠ b:=fun e => by rw [e] at c5; simp at c5
            refine rs_of T.sub_NotSuchTree T.x_NotSuchTree kp (q2 ?_)
            rw [rse,if_neg (fun z => c6 z.2)]
          · have c6:qr.lhs = b:=by
              have:V.int ((qr.lhs:Nat):Int) = V.int ((b:Nat):Int):=by simpa using c5
              injection this with this
              omega
            rw [if_pos ⟨c3,c6⟩] at rse
            refine ⟨_,rfl,r,a.Reading,dx,_,_,rfl,R.obj,T.c_Reading,T.n_Reading_parents,rfl,.inl ⟨rfl,_,SqL.of R.par⟩,_,rfl,lp,_,_,rfl,rfl,R.par,small10000 (by rw [List.length_map]; omega),?_⟩
            have R1:=R.parent (par:=par)
            generalize upd H lp (.lst (ps.map pV ++ [pV par])) = H1 at R1
            refine ⟨_,rfl,r,dx,_,rfl,R1.obj,rfl,_,rfl,xq,a.Rule,dxq,_,_,rfl,R1.same _ _ hxq,T.c_Rule,T.n_Rule_symbols,rfl,_,rfl,H0,r,dx,lr,lo,ln,lp,la,p,_,us,aws,slq,sq,qr.rhs,ps.length,rfl,R1,hsl,hsy,hlen,h8 qr (List.mem_of_getElem? hq),fun us' H' R' => ?_⟩
            exact q1 _ _ _ us' H' rse R'
noncomputable def sp_Reading_follow (K:PySem.W.Frag) (a:Adr):Sp:=fun vs H Q E => ∃ z H0 r dx lr lo ln lp la p ps us aws w g x y ns,vs = [.ref r] ∧ RSt a z H0 lr lo ln ns g x y ∧ Rg a H0 H r dx lr lo ln lp la p ps us (aws ++ [w]) ∧ ps.length ≤ y.length ∧ aws.length ≤ 9000 ∧ y.length ≤ 500 ∧ p ≤ x.length ∧ (∀ k,w = .fin k → k < y.length) ∧ (∀ q ∈ g.rules,q.rhs.length ≤ 8) ∧
  (∀ p' ps' aws' us' H',rstep g x y p ps aws w = some (p',ps',aws') → Rg a H0 H' r dx lr lo ln lp la p' ps' us' aws' → Q .non H') ∧ (rstep g x y p ps aws w = none → Raises K a.Refusal (-9) H0 [] E)
theorem Paired.unsnoc {α β:Type} {R:α → β → Prop} {l₁:List α} {l₂:List β} {b:β} (h:Paired R l₁ (l₂ ++ [b])):∃ m v,l₁ = m ++ [v] ∧ Paired R m l₂ ∧ R v b:=by
  have hl:=Paired.len h
  rw [List.length_append] at hl
  have hl:l₁.length = l₂.length + 1:=hl
  obtain ⟨v,hv,hr⟩:=Paired.at_ (i:=l₂.length) (b:=b) h (by simp)
  refine ⟨l₁.take l₂.length,v,?_,?_,hr⟩
  · obtain ⟨w1,w2⟩:=List.getElem?_eq_some_iff.mp hv
    have:=List.take_succ_eq_append_getElem w1
    rw [w2] at this
    rw [← this,List.take_of_length_le (by omega)]
  · have:=Paired.take l₂.length h
    rw [List.take_append_of_le_length (Nat.le_refl _),List.take_of_length_le (Nat.le_refl _)] at this
    exact this
theorem Rg.pop {H0 H:Hp} {r dx lr lo ln lp la:Addr} {p:Nat} {ps:List (Option Nat)} {vs vs':List V} {aws:List Aw} {v:V} {w:Aw} (R:Rg a H0 H r dx lr lo ln lp la p ps vs (aws ++ [w])) (e:vs = vs' ++ [v]) (hp:Paired (AwAt H) vs' aws) :
    Rg a H0 (upd H la (.lst vs')) r dx lr lo ln lp la p ps vs' aws :=
  ⟨Same.put R.same R.na,by rw [upd_ne (ne_of R.obj R.awl (by intro z; cases z))]; exact R.obj,by rw [upd_ne R.ne]; exact R.par,upd_same,
    Paired.mapL hp fun v w h => h.put R.awl (by intro xs z; cases z),R.nr,R.np,R.na,R.ne⟩
theorem ok_Reading_follow (T:Txt K mg a):Ok P w K mg base 5 a.Reading_follow ["self"] (sp_Reading_follow K a):=by
  obtain ⟨_,F_Reading_begin_node,b_Reading_begin_node⟩:=ok_Reading_begin_node (P:=P) (w:=w) (base:=base) T
  obtain ⟨_,F_Reading_pass_byte,b_Reading_pass_byte⟩:=ok_Reading_pass_byte (P:=P) (w:=w) (base:=base) T
  obtain ⟨_,F_Reading_end_node,b_Reading_end_node⟩:=ok_Reading_end_node (P:=P) (w:=w) (base:=base) T
  obtain ⟨_,g_NONTERMINAL,r_NONTERMINAL⟩:=T.k_NONTERMINAL
  obtain ⟨_,g_RANGE,r_RANGE⟩:=T.k_RANGE
  refine T.f_Reading_follow.okX sc_Reading_follow (fun vs H Q E h => ?_) ?_
  · obtain ⟨z,H0,r,dx,lr,lo,ln,lp,la,p,ps,us,aws,w0,g,x,y,ns,rfl,_⟩:=h
    rfl
  · rintro X cdv A outer s H vs Q E rfl hr hX hP ⟨z,H0,r,dx,lr,lo,ln,lp,la,p,ps,us,aws,w0,g,x,y,ns,rfl,S,R,hpy,hlen,hy,hpx,hfin,h8,q1,q2⟩
    refine ⟨_,(pss_cons (ps_set (i:=1) sc_Reading_follow.nd rfl (Or.inl rfl) (pe_bm0 PySem.F.plainAttrs_list PySem.F.slot_list_pop PySem.F.type_list_pop mt_pop (pe_fld (pv 0) rfl)))
      (pss_one (ps_if (pt_cmpR op_eq (pe_ix ix_tup (pv 1) pe_int (fun _ _ => rfl)) (pe_glob (by rfl) g_NONTERMINAL r_NONTERMINAL) (nomark _)) (pss_one (ps_expr (pe_meth (pv 0) T.c_Reading T.m_Reading_begin_node F_Reading_begin_node (hr.mono (by decide)) b_Reading_begin_node .nil hX.passes (pa_cons (pe_ix ix_tup (pv 1) pe_int (fun _ _ => rfl)) (pa_cons (pe_ix ix_tup (pv 1) pe_int (fun _ _ => rfl)) pa_nil))))) (pss_one (ps_if (pt_cmpR op_eq (pe_ix ix_tup (pv 1) pe_int (fun _ _ => rfl)) (pe_glob (by rfl) g_RANGE r_RANGE) (nomark _)) (pss_one (ps_expr (pe_meth (pv 0) T.c_Reading T.m_Reading_pass_byte F_Reading_pass_byte (hr.mono (by decide)) b_Reading_pass_byte .nil hX.passes (pa_cons (pe_ix ix_tup (pv 1) pe_int (fun _ _ => rfl)) (pa_cons (pe_ix ix_tup (pv 1) pe_int (fun _ _ => rfl)) pa_nil))))) (pss_one (ps_expr (pe_meth (pv 0) T.c_Reading T.m_Reading_end_node F_Reading_end_node (hr.mono (by decide)) b_Reading_end_node .nil hX.passes (pa_cons (pe_ix ix_tup (pv 1) pe_int (fun _ _ => rfl)) pa_nil))))))))),?_⟩
    obtain ⟨us',v,hus,hpa,tv,rfl,htv⟩:=Paired.unsnoc R.aw
    have hul:us'.length = aws.length:=Paired.len hpa
    refine ⟨_,rfl,r,a.Reading,dx,_,_,rfl,R.obj,T.c_Reading,T.n_Reading_awaited,rfl,.inl ⟨rfl,_,SqL.of R.awl⟩,la,_,V.ref tv,rfl,rfl,R.awl,by rw [hus]; simp,?_⟩
    have R1:=R.pop hus hpa
    have ed:us.dropLast = us':=by rw [hus]; simp
    have htv':(upd H la (.lst us')) tv = some (.tup (awV w0)):=by rw [upd_ne (ne_of htv R.awl (by intro z; cases z))]; exact htv
    rw [ed]
    generalize upd H la (.lst us') = H1 at R1 htv'
    cases w0 with
    | non b par =>
      refine ⟨_,rfl,tv,_,_,V.int 0,rfl,rfl,SqT.of htv',at_of (j:=0) rfl rfl,rfl,_,rfl,?_⟩
      refine iteT ?_
      exact ⟨_,rfl,r,dx,_,rfl,R1.obj,rfl,_,rfl,tv,_,_,V.int (b:Nat),rfl,rfl,SqT.of htv',at_of (j:=1) rfl rfl,_,rfl,tv,_,_,pV par,rfl,rfl,SqT.of htv',at_of (j:=2) rfl rfl,z,H0,r,dx,lr,lo,ln,lp,la,p,ps,us',aws,g,x,y,ns,par,b,rfl,S,R1,hpy,by omega,hy,h8,q1,q2⟩
    | rng l2 h2 =>
      refine ⟨_,rfl,tv,_,_,V.int 1,rfl,rfl,SqT.of htv',at_of (j:=0) rfl rfl,rfl,_,rfl,?_⟩
      refine iteF ?_
      refine ⟨_,rfl,tv,_,_,V.int 1,rfl,rfl,SqT.of htv',at_of (j:=0) rfl rfl,rfl,_,rfl,?_⟩
      refine iteT ?_
      have rse:rstep g x y p ps aws (.rng l2 h2) = match x[p]? with
        | some b => if l2 ≤ b ∧ b ≤ h2 then some (p + 1,ps,aws) else none
        | none => none:=rfl
      refine ⟨_,rfl,r,dx,_,rfl,R1.obj,rfl,_,rfl,tv,_,_,V.int (l2:Nat),rfl,rfl,SqT.of htv',at_of (j:=1) rfl rfl,_,rfl,tv,_,_,V.int (h2:Nat),rfl,rfl,SqT.of htv',at_of (j:=2) rfl rfl,z,H0,r,dx,lr,lo,ln,lp,la,p,ps,us',aws,g,x,y,ns,l2,h2,rfl,S,R1,hpx,fun b H2 hb c1 c2 R2 => ?_,fun hno => q2 ?_⟩
      · rw [hb] at rse
        dsimp only at rse
        rw [if_pos ⟨c1,c2⟩] at rse
        exact q1 _ _ _ us' H2 rse R2
      · rw [rse]
        cases hb:x[p]? with
        | none => rfl
        | some b => exact if_neg (hno b hb)
    | fin k =>
      refine ⟨_,rfl,tv,_,_,V.int 2,rfl,rfl,SqT.of htv',at_of (j:=0) rfl rfl,rfl,_,rfl,?_⟩
      refine iteF ?_
      refine ⟨_,rfl,tv,_,_,V.int 2,rfl,rfl,SqT.of htv',at_of (j:=0) rfl rfl,rfl,_,rfl,?_⟩
      refine iteF ?_
      obtain ⟨u,hu⟩:∃ u,y[k]? = some u:=⟨_,List.getElem?_eq_getElem (hfin k rfl)⟩
      have rse:rstep g x y p ps aws (.fin k) = if (y[k]?.map fun u => u.2.2).getD 0 = p then some (p,ps,aws) else none:=rfl
      rw [hu] at rse
      have rse:rstep g x y p ps aws (.fin k) = if u.2.2 = p then some (p,ps,aws) else none:=rse
      refine ⟨_,rfl,r,dx,_,rfl,R1.obj,rfl,_,rfl,tv,_,_,V.int (k:Nat),rfl,rfl,SqT.of htv',at_of (j:=1) rfl rfl,z,H0,r,dx,lr,lo,ln,lp,la,p,ps,us',aws,g,x,y,ns,u,k,rfl,S,R1,hu,fun e => ?_,fun e => q2 ?_⟩
      · rw [if_pos e] at rse
        exact q1 _ _ _ us' H1 rse R1
      · rw [rse,if_neg e]
end
end TC
namespace TC
open PySem PySem.Spec PyProof.Rows L2
theorem rstep_inv {g:Vaglri.Grammar} {x:Vaglrc.Text} {y:Vaglrc.Tree} {p p':Nat} {ps ps':List (Option Nat)} {aws aws':List Aw} {w:Aw} (h:rstep g x y p ps aws w = some (p',ps',aws')) (h1:ps.length ≤ y.length) (h2:p ≤ x.length) (h3:∀ k,.fin k ∈ aws → k < ps.length) :
    ps'.length ≤ y.length ∧ p' ≤ x.length ∧ ∀ k,.fin k ∈ aws' → k < ps'.length:=by
  unfold rstep at h
  cases w with
  | rng lo hi =>
    dsimp only at h
    split at h
    · rename_i b hb
      have:=(List.getElem?_eq_some_iff.mp hb).1
      split at h
      · cases h; exact ⟨h1,by omega,h3⟩
      · cases h
    · cases h
  | fin k =>
    dsimp only at h
    split at h
    · cases h; exact ⟨h1,h2,h3⟩
    · cases h
  | non b par =>
    dsimp only at h
    cases hu:y[ps.length]? with
    | none => rw [hu] at h; cases h
    | some u =>
      rw [hu] at h
      dsimp only at h
      cases hq:g.rules[u.1]? with
      | none => rw [hq] at h; cases h
      | some q =>
        rw [hq] at h
        dsimp only at h
        split at h
        · cases h
          have:=(List.getElem?_eq_some_iff.mp hu).1
          refine ⟨by rw [List.length_append]; show _ + 1 ≤ _; omega,h2,fun k hk => ?_⟩
          rw [List.length_append]
          show k < ps.length + 1
          unfold pushed at hk
          rcases List.mem_append.mp hk with hk | hk
          · have:=h3 k hk; omega
          · rcases List.mem_cons.mp hk with hk | hk
            · cases hk; omega
            · obtain ⟨s,_,e⟩:=List.mem_map.mp hk
              cases s <;> cases e
        · cases h
section
variable {P:Program} {w:World} {K:PySem.W.Frag} {mg:Str → Option Value} {base:Heap} {a:Adr}
noncomputable def sp_read_tree (K:PySem.W.Frag) (a:Adr):Sp:=fun vs H Q E => ∃ z lr lo ln ns g x y,∃ b:Nat,vs = [.ref lr,.int (b:Nat),.ref lo,.ref ln] ∧ RSt a z H lr lo ln ns g x y ∧ y.length ≤ 500 ∧ (∀ q ∈ g.rules,q.rhs.length ≤ 8) ∧ lo ≠ z ∧ ln ≠ z ∧ H z ≠ none ∧
  (∀ F t dx lp H',Vaglri.isWhole g b { text:=x,tree:=y } = true → Fo.Whole g { text:=x,tree:=y } F → TreeAt a z H' t dx lo ln lp ns x (Fo.fl F) (Fo.ps F) → Same H H' → Q (.ref t) H') ∧ (Vaglri.isWhole g b { text:=x,tree:=y } = false → Raises K a.Refusal (-9) H [] E)
theorem ok_read_tree (T:Txt K mg a):Ok P w K mg base 6 a.read_tree ["rules","nonterminal","octets","nodes"] (sp_read_tree K a):=by
  obtain ⟨_,F_Reading_init,b_Reading_init⟩:=ok_Reading_init (P:=P) (w:=w) (base:=base) T
  obtain ⟨_,F_Reading_await_tree,b_Reading_await_tree⟩:=ok_Reading_await_tree (P:=P) (w:=w) (base:=base) T
  obtain ⟨_,F_Reading_follow,b_Reading_follow⟩:=ok_Reading_follow (P:=P) (w:=w) (base:=base) T
  obtain ⟨_,F_Tree_init,b_Tree_init⟩:=ok_Tree_init (P:=P) (w:=w) (base:=base) T
  refine T.f_read_tree.okX sc_read_tree (fun vs H Q E h => ?_) ?_
  · obtain ⟨z,lr,lo,ln,ns,g,x,y,b,rfl,_⟩:=h
    rfl
  · rintro X cdv A outer s H vs Q E rfl hr hX hP ⟨z,lr,lo,ln,ns,g,x,y,b,rfl,S,hy,h8,hoz,hnz,hz,q1,q2⟩
    refine ⟨_,(pss_cons (ps_set (i:=4) sc_read_tree.nd rfl (Or.inl rfl) (pe_make T.mk_Reading F_Reading_init (hr.mono (by decide)) (by rfl) T.g_Reading b_Reading_init .nil passE0 (pa_cons (pv 0) (pa_cons (pv 2) (pa_cons (pv 3) pa_nil)))))
      (pss_cons (ps_expr (pe_meth (pv 4) T.c_Reading T.m_Reading_await_tree F_Reading_await_tree (hr.mono (by decide)) b_Reading_await_tree .nil passE0 (pa_cons (pv 1) (pa_cons pe_non pa_nil))))
      (pss_cons (ps_while hP (pt_cmpR op_gt (pe_callB call_len_seq (by rfl) T.b_len PySem.boot_len (pa_cons (pe_fld (pv 4) rfl) pa_nil)) pe_int (nomark _))
      (pss_one (ps_expr (pe_meth0 (pv 4) T.c_Reading T.m_Reading_follow F_Reading_follow (hr.mono (by decide)) b_Reading_follow .nil hX.passes))))
      (pss_cons (ps_if (pw_or (pt_cmpR op_ne (pe_fld (pv 4) rfl) (pe_callB call_len_seq (by rfl) T.b_len PySem.boot_len (pa_cons (pv 2) pa_nil)) (nomark _)) (pw_or1 (pt_cmpR op_ne (pe_callB call_len_seq (by rfl) T.b_len PySem.boot_len (pa_cons (pe_fld (pv 4) rfl) pa_nil)) (pe_callB call_len_seq (by rfl) T.b_len PySem.boot_len (pa_cons (pv 3) pa_nil)) (nomark _)))).pt (pss_one (rs_NotSuchTree T (hr.mono (by decide)) hX rfl rfl)) pss_nil)
      (pss_one (ps_ret (pe_make T.mk_Tree F_Tree_init (hr.mono (by decide)) (by rfl) T.g_Tree b_Tree_init .nil passE0 (pa_cons (pv 2) (pa_cons (pv 3) (pa_cons (pe_fld (pv 4) rfl) pa_nil)))))))))),?_⟩
    have hnl:ns.length = y.length:=Paired.len S.nod
    refine ⟨_,rfl,_,rfl,_,rfl,fun r dx nr nd ne => ⟨r,dx,lr,lo,ln,rfl,upd_same,fun lp la H1 hlp hla hpa hr1 hp1 ha1 k1 => ⟨rfl,?_⟩⟩⟩
    have nlpr:lp ≠ r:=fun e => by rw [e,upd_same] at hlp; cases hlp
    have nlar:la ≠ r:=fun e => by rw [e,upd_same] at hla; cases hla
    have hlp0:H lp = none:=by
      rw [upd_ne nlpr] at hlp
      by_cases e:lp = dx
      · rw [e]; exact nd
      · rw [upd_ne e] at hlp; exact hlp
    have hla0:H la = none:=by
      rw [upd_ne nlar] at hla
      by_cases e:la = dx
      · rw [e]; exact nd
      · rw [upd_ne e] at hla; exact hla
    have s1:Same H H1:=fun c o hc => k1 c o (by rw [upd_ne (ne_of_none hc nr),upd_ne (ne_of_none hc nd)]; exact hc) (by simpa using ne_of_none hc nr)
    have R0:Rg a H H1 r dx lr lo ln lp la 0 [] [] []:=⟨s1,hr1,hp1,ha1,.nil,nr,hlp0,hla0,hpa⟩
    refine ⟨_,rfl,r,dx,_,rfl,R0.obj,rfl,_,rfl,H,r,dx,lr,lo,ln,lp,la,0,[],[],[],b,none,rfl,R0,Nat.zero_le _,fun us2 H2 hl2 R2 => ?_⟩
    have kp:∀ {H':Hp},Same H H' → Kp [] H H':=fun s => Kp.same s
    have e0:Vaglri.isWhole g b { text:=x,tree:=y } = Vaglrc.walk g x (y.length * 10 + 3) (absA y [.non b none] ++ [.halt_ x.length]) 0 y:=rfl
    refine ⟨fun m σ H' => ∃ (p:Nat) (ps:List (Option Nat)) (us:List V) (aws:List Aw) (f:Nat),σ = [some (.ref lr),some (.int (b:Nat)),some (.ref lo),some (.ref ln),some (.ref r)] ∧ Rg a H H' r dx lr lo ln lp la p ps us aws ∧ ps.length ≤ y.length ∧ p ≤ x.length ∧ (∀ k,.fin k ∈ aws → k < ps.length) ∧
        rmeas y ps aws ≤ 10 * y.length + 1 ∧ rmeas y ps aws + 2 ≤ f ∧ Vaglri.isWhole g b { text:=x,tree:=y } = Vaglrc.walk g x f (absA y aws ++ [.halt_ x.length]) p (y.drop ps.length) ∧ pars g 0 [none] y = ps ++ pars g ps.length (parOf aws) (y.drop ps.length) ∧ m = rmeas y ps aws,
      ⟨_,0,[],us2,[.non b none],y.length * 10 + 3,rfl,R2,Nat.zero_le _,Nat.zero_le _,fun k hk => (by simp at hk),(by show 1 + 10 * (y.length - 0) ≤ _; omega),(by show 1 + 10 * (y.length - 0) + 2 ≤ _; omega),e0,rfl,rfl⟩,?_⟩
    rintro m σ H' ⟨p,ps,us,aws,f,rfl,R,hpy,hpx,hfin,hm1,hm2,ew,ep,rfl⟩
    have hul:us.length = aws.length:=Paired.len R.aw
    have hal:aws.length ≤ 10 * y.length + 1:=by unfold rmeas at hm1; omega
    refine ⟨_,rfl,r,a.Reading,dx,_,_,rfl,R.obj,T.c_Reading,T.n_Reading_awaited,rfl,la,_,rfl,.inl (SqL.of R.awl),_,_,rfl,rfl,_,rfl,?_⟩
    refine ite2 (fun c => ?_) (fun c => ?_)
    · have c1:=dT c
      obtain ⟨aws',w0,rfl⟩:∃ aws' w0,aws = aws' ++ [w0]:=⟨aws.dropLast,aws.getLast (by intro e; rw [e] at hul; simp at hul; rw [hul] at c1; simp at c1),(List.dropLast_concat_getLast _).symm⟩
      obtain ⟨f,rfl⟩:∃ f',f = f' + 1:=⟨f - 1,by omega⟩
      rw [walk_step g x y 0 p ps aws' w0 f [.halt_ x.length]] at ew
      have hfin':∀ k,.fin k ∈ aws' → k < ps.length:=fun k hk => hfin k (List.mem_append_left _ hk)
      have hal':aws'.length + 1 ≤ 10 * y.length + 1:=by rw [List.length_append] at hal; exact hal
      refine ⟨_,fun σ' H' h => h,?_⟩
      refine ⟨_,rfl,r,dx,_,rfl,R.obj,rfl,z,H,r,dx,lr,lo,ln,lp,la,p,ps,us,aws',w0,g,x,y,ns,rfl,S,R,hpy,by omega,hy,hpx,fun k e => Nat.lt_of_lt_of_le (hfin k (by rw [e]; simp)) hpy,h8,fun p' ps' aws2 us' H3 er R3 => ?_,fun er => q2 ?_⟩
      · rw [er] at ew
        have mm:=rstep_meas er h8
        obtain ⟨i1,i2,i3⟩:=rstep_inv er hpy hpx hfin'
        refine ⟨_,mm,p',ps',us',aws2,f,rfl,R3,i1,i2,i3,by omega,by omega,ew,pars_step g x y er ep,rfl⟩
      · rw [er] at ew
        exact ew
    · have c1:=dF c
      have ha0:aws = []:=by
        cases aws with
        | nil => rfl
        | cons w0 r0 => rw [List.length_cons] at hul; omega
      subst ha0
      obtain ⟨f,rfl⟩:∃ f',f = f' + 2:=⟨f - 2,by omega⟩
      have ew:Vaglri.isWhole g b { text:=x,tree:=y } = (p == x.length && (y.drop ps.length).isEmpty):=by
        rw [ew]
        show (p == x.length && Vaglrc.walk g x (f + 1) [] p (y.drop ps.length)) = _
        rfl
      have ho:=R.same _ _ S.oct
      have hn:=R.same _ _ S.nds
      refine ⟨_,rfl,r,a.Reading,dx,_,_,rfl,R.obj,T.c_Reading,T.n_Reading_place,rfl,_,rfl,lo,_,rfl,.inl (SqL.of ho),rfl,_,rfl,?_⟩
      refine ite2 (fun c2 => ?_) (fun c2 => ?_)
      · have c3:p ≠ x.length:=fun e => by rw [e,nsV_len] at c2; simp at c2
        refine iteT (rs_of T.sub_NotSuchTree T.x_NotSuchTree (kp R.same) (q2 ?_))
        rw [ew,beq_eq_false_iff_ne.mpr c3,Bool.false_and]
      · have c3:p = x.length:=by
          have:V.int ((p:Nat):Int) = V.int (((nsV x).length:Nat):Int):=by simpa using c2
          injection this with this
          rw [nsV_len] at this
          omega
        refine ⟨_,rfl,r,a.Reading,dx,_,_,rfl,R.obj,T.c_Reading,T.n_Reading_parents,rfl,lp,_,rfl,.inl (SqL.of R.par),_,rfl,ln,_,rfl,.inl (SqL.of hn),rfl,_,rfl,?_⟩
        refine ite2 (fun c4 => ?_) (fun c4 => ?_)
        · have c5:ps.length ≠ y.length:=fun e => by rw [List.length_map,hnl,e] at c4; simp at c4
          refine rs_of T.sub_NotSuchTree T.x_NotSuchTree (kp R.same) (q2 ?_)
          have:(y.drop ps.length).isEmpty = false:=by
            cases e:y.drop ps.length with
            | nil => have:=List.drop_eq_nil_iff.mp e; omega
            | cons _ _ => rfl
          rw [ew,this,Bool.and_false]
        · have c5:ps.length = y.length:=by
            have:V.int (((ps.map pV).length:Nat):Int) = V.int ((ns.length:Nat):Int):=by simpa using c4
            injection this with this
            rw [List.length_map,hnl] at this
            omega
          have hd:y.drop ps.length = []:=List.drop_eq_nil_of_le (by omega)
          have et:Vaglri.isWhole g b { text:=x,tree:=y } = true:=by
            rw [ew,hd,c3]
            simp
          obtain ⟨F,W⟩:=Fo.whole_of et
          have ey:y = Fo.fl F:=W.tree
          have eps:ps = Fo.ps F:=by
            rw [hd] at ep
            have ep:pars g 0 [none] y = ps ++ []:=ep
            rw [List.append_nil] at ep
            have:=Fo.pars_fl (k:=0) (p:=none) (st:=[]) (z:=[]) W.ar
            rw [W.one,List.append_nil,List.append_nil,← ey] at this
            have this:pars g 0 [none] y = Fo.pr 0 none F ++ pars g (0 + Fo.sz F) [] []:=this
            rw [← ep,this]
            show _ ++ [] = _
            rw [List.append_nil]
          refine ⟨_,rfl,_,rfl,_,rfl,r,a.Reading,dx,_,_,rfl,R.obj,T.c_Reading,T.n_Reading_parents,rfl,fun tn dn nx nd ne => ⟨tn,dn,_,_,_,rfl,upd_same,rfl,?_⟩⟩
          rw [upd_upd]
          have sC:=Same.ins (C:=a.Tree) (fs:=trF lo ln lp) nx nd ne
          refine q1 F tn dn lp _ et W ⟨upd_same,⟨sC _ _ ho,hoz⟩,⟨sC _ _ hn,hnz⟩,?_,⟨sC _ _ (by rw [← eps]; exact R.par),fun e => hz (by rw [← e]; exact hlp0)⟩⟩ (R.same.trans sC)
          rw [← ey]
          exact Nds.same (Nds.same S.nod R.same) sC
end
end TC
namespace TC
open PySem PySem.Spec PyProof.Rows L2
noncomputable def trip:List Nat → Vaglrc.Tree
  | r :: i :: j :: l => (r,i,j) :: trip l
  | _ => []
theorem trip_len:∀ l:List Nat,l.length % 3 = 0 → 3 * (trip l).length = l.length
  | [],_ => rfl
  | [_],h => by cases h
  | [_,_],h => by cases h
  | r :: i :: j :: l,h => by
    have:=trip_len l (by rw [List.length_cons,List.length_cons,List.length_cons] at h; omega)
    show 3 * ((trip l).length + 1) = l.length + 1 + 1 + 1
    omega
theorem readTree_eq:∀ (f:Nat) (l:List Nat),l.length < f → Vaglrc.readTree f l = if l.length % 3 = 0 then some (trip l) else none
  | _,[],_ => by
    unfold Vaglrc.readTree
    rfl
  | 0,_ :: _,h => by omega
  | f + 1,[_],_ => rfl
  | f + 1,[_,_],_ => rfl
  | f + 1,r :: i :: j :: l,h => by
    rw [List.length_cons,List.length_cons,List.length_cons] at h
    show (Vaglrc.readTree f l).map (fun y => (r,i,j) :: y) = _
    rw [readTree_eq f l (by omega)]
    rw [List.length_cons,List.length_cons,List.length_cons]
    by_cases c:l.length % 3 = 0
    · rw [if_pos c,if_pos (by omega)]
      rfl
    · rw [if_neg c,if_neg (by omega)]
      rfl
theorem trip_get:∀ {l:List Nat} {i:Nat} {a b c:Nat},l[3 * i]? = some a → l[3 * i + 1]? = some b → l[3 * i + 2]? = some c → (trip l)[i]? = some (a,b,c)
  | [],_,_,_,_,h,_,_ => by simp at h
  | [_],0,_,_,_,_,h,_ => by simp at h
  | [_],i + 1,_,_,_,h,_,_ => by simp [show 3 * (i + 1) = 3 * i + 2 + 1 by omega] at h
  | [_,_],0,_,_,_,_,_,h => by simp at h
  | [_,_],i + 1,_,_,_,h,_,_ => by simp [show 3 * (i + 1) = 3 * i + 1 + 1 + 1 by omega] at h
  | r :: s :: t :: l,0,a,b,c,h1,h2,h3 => by
    have e1:r = a:=by simpa using h1
    have e2:s = b:=by simpa using h2
    have e3:t = c:=by simpa using h3
    subst e1 e2 e3
    rfl
  | r :: s :: t :: l,i + 1,a,b,c,h1,h2,h3 => by
    show (trip l)[i]? = _
    refine trip_get ?_ ?_ ?_
    · rw [show 3 * (i + 1) = 3 * i + 1 + 1 + 1 by omega] at h1; exact h1
    · rw [show 3 * (i + 1) + 1 = 3 * i + 1 + 1 + 1 + 1 by omega] at h2; exact h2
    · rw [show 3 * (i + 1) + 2 = 3 * i + 2 + 1 + 1 + 1 by omega] at h3; exact h3
theorem nsV_toNats {ns:List Int} (h:Vaglri.negative ns = false):ns.map V.int = nsV (Vaglri.toNats ns):=by
  unfold nsV Vaglri.toNats
  rw [List.map_map]
  apply List.map_congr_left
  intro z hz
  have:¬ z < 0:=by
    intro c
    have:Vaglri.negative ns = true:=List.any_eq_true.mpr ⟨z,hz,decide_eq_true c⟩
    rw [h] at this
    cases this
  show V.int z = V.int ((z.toNat:Nat):Int)
  rw [Int.toNat_of_nonneg (by omega)]
theorem neg_iff {ns:List Int}:Vaglri.negative ns = true ↔ ∃ z ∈ ns,z < 0:=by
  unfold Vaglri.negative
  rw [List.any_eq_true]
  constructor
  · rintro ⟨z,h,c⟩; exact ⟨z,h,dT c⟩
  · rintro ⟨z,h,c⟩; exact ⟨z,h,decide_eq_true c⟩
section
variable {P:Program} {w:World} {K:PySem.W.Frag} {mg:Str → Option Value} {base:Heap} {a:Adr}
noncomputable def sp_check_none_below_zero (K:PySem.W.Frag) (a:Adr):Sp:=fun vs H Q E => ∃ l ns,vs = [.ref l] ∧ SqL K H l (ns.map V.int) ∧ (Vaglri.negative ns = false → Q .non H) ∧ (Vaglri.negative ns = true → Raises K a.Refusal (-1) H [] E)
theorem ok_check_none_below_zero (T:Txt K mg a):Ok P w K mg base 4 a.check_none_below_zero ["numbers"] (sp_check_none_below_zero K a):=by
  refine T.f_check_none_below_zero.okX sc_check_none_below_zero (fun vs H Q E h => ?_) ?_
  · obtain ⟨l,ns,rfl,_⟩:=h
    rfl
  · rintro X cdv A outer s H vs Q E rfl hr hX hP ⟨l,ns,rfl,hS,q1,q2⟩
    refine ⟨_,(pss_one (ps_if (pt_cmpR op_lt (pe_callBK (cr_minD rfl) (by rfl) T.b_min boot_min (pa_cons (pv 0) pa_nil) (pk_cons pe_int pk_nil)) pe_int (nomark _)) (pss_one (rs_NumberRefused T (hr.mono (by decide)) hX rfl rfl)) pss_nil)),?_⟩
    refine ⟨_,rfl,l,ns,_,rfl,rfl,hS,fun e => ?_,fun m hm hmin => ?_⟩
    · subst e
      refine ⟨_,_,rfl,rfl,_,rfl,?_⟩
      exact iteF (q1 rfl)
    · refine ⟨_,_,rfl,rfl,_,rfl,?_⟩
      refine ite2 (fun c => ?_) (fun c => ?_)
      · have c1:=dT c
        exact rs_of T.sub_NumberRefused T.x_NumberRefused Kp.refl (q2 (neg_iff.mpr ⟨m,hm,c1⟩))
      · have c1:=dF c
        refine q1 (Bool.eq_false_iff.mpr fun e => ?_)
        obtain ⟨y,hy,hy2⟩:=neg_iff.mp e
        have:=hmin y hy
        omega
noncomputable def sp_check_node_count (K:PySem.W.Frag) (a:Adr):Sp:=fun vs H Q E => ∃ l ns,vs = [.ref l] ∧ SqL K H l ns ∧ (ns.length % 3 = 0 → ns.length ≤ 1500 → Q .non H) ∧ (¬ (ns.length % 3 = 0 ∧ ns.length ≤ 1500) → Raises K a.Refusal (-9) H [] E)
theorem ok_check_node_count (T:Txt K mg a):Ok P w K mg base 4 a.check_node_count ["numbers"] (sp_check_node_count K a):=by
  obtain ⟨_,g_MOST_NODES,r_MOST_NODES⟩:=T.k_MOST_NODES
  refine T.f_check_node_count.okX sc_check_node_count (fun vs H Q E h => ?_) ?_
  · obtain ⟨l,ns,rfl,_⟩:=h
    rfl
  · rintro X cdv A outer s H vs Q E rfl hr hX hP ⟨l,ns,rfl,hS,q1,q2⟩
    refine ⟨_,(pss_one (ps_if (pw_or (pt_cmpR op_ne (pe_op op_mod (pe_callB call_len_seq (by rfl) T.b_len PySem.boot_len (pa_cons (pv 0) pa_nil)) pe_int) pe_int (nomark _)) (pw_or1 (pt_cmpR op_gt (pe_callB call_len_seq (by rfl) T.b_len PySem.boot_len (pa_cons (pv 0) pa_nil)) (pe_op op_mul pe_int (pe_glob (by rfl) g_MOST_NODES r_MOST_NODES)) (nomark _)))).pt (pss_one (rs_NotSuchTree T (hr.mono (by decide)) hX rfl rfl)) pss_nil)),?_⟩
    refine ⟨_,rfl,l,_,rfl,.inl hS,_,_,rfl,rfl,(by show (0:Int) < 3; decide),rfl,_,rfl,?_⟩
    refine ite2 (fun c => ?_) (fun c => ?_)
    · refine iteT (rs_of T.sub_NotSuchTree T.x_NotSuchTree Kp.refl (q2 fun e => ?_))
      have c':(!decide (V.int (((ns.length:Nat):Int) % 3) = V.int 0)) = true:=c
      rw [show ((ns.length:Nat):Int) % 3 = 0 by omega] at c'
      simp at c'
    · have c1:((ns.length:Nat):Int) % 3 = 0:=by
        have:V.int (((ns.length:Nat):Int) % 3) = V.int 0:=by simpa using c
        injection this
      refine ⟨_,rfl,l,_,rfl,.inl hS,_,_,rfl,rfl,.inl ⟨by decide,by decide⟩,_,_,rfl,rfl,_,rfl,?_⟩
      refine ite2 (fun c => ?_) (fun c => ?_)
      · have c2:((3:Int) * 500) < ((ns.length:Nat):Int):=dT c
        exact rs_of T.sub_NotSuchTree T.x_NotSuchTree Kp.refl (q2 (by omega))
      · have c2:¬ ((3:Int) * 500) < ((ns.length:Nat):Int):=dF c
        exact q1 (by omega) (by omega)
noncomputable def sp_check_text_with_tree (K:PySem.W.Frag) (a:Adr):Sp:=fun vs H Q E => ∃ lo ln xs ns,vs = [.ref lo,.ref ln] ∧ SqL K H lo (xs.map V.int) ∧ SqL K H ln (ns.map V.int) ∧
  (∀ v,Vaglri.wholeOf xs ns = .ok v → Vaglri.negative xs = false → Vaglri.negative ns = false → xs.length ≤ 24 → ns.length % 3 = 0 → ns.length ≤ 1500 → v = { text:=Vaglri.toNats xs,tree:=trip (Vaglri.toNats ns) } → Q .non H) ∧ (∀ n,Vaglri.wholeOf xs ns = .error n → Raises K a.Refusal n H [] E)
theorem rmax_of {K:PySem.W.Frag} {l:Addr} {Q:VK} {H:Hp} {ns:List Int} (hS:SqL K H l (ns.map V.int)) (hh:∀ v:Int,(ns = [] ∧ v = 0 ∨ (v ∈ ns ∧ ∀ y ∈ ns,y ≤ v)) → Q (.int v) H):rMinD K (fun m y => y ≤ m) [V.ref l] [V.int 0] H Q :=
  ⟨l,ns,_,rfl,rfl,hS,fun e => hh 0 (.inl ⟨e,rfl⟩),fun m hm hmax => hh m (.inr ⟨hm,hmax⟩)⟩
theorem bytes_iff {xs:List Int} (h:Vaglri.negative xs = false):Vaglri.noBytes xs = true ↔ ∃ z ∈ xs,255 < z:=by
  unfold Vaglri.noBytes
  rw [List.any_eq_true]
  constructor
  · rintro ⟨z,hz,c⟩
    rcases Bool.or_eq_true_iff.mp c with c | c
    · rw [neg_iff.mpr ⟨z,hz,dT c⟩] at h; cases h
    · exact ⟨z,hz,dT c⟩
  · rintro ⟨z,hz,c⟩
    exact ⟨z,hz,Bool.or_eq_true_iff.mpr (.inr (decide_eq_true c))⟩
theorem whole_bad {xs ns:List Int} (h:Vaglri.noBytes xs = true):Vaglri.wholeOf xs ns = .error (-1):=by unfold Vaglri.wholeOf; rw [if_pos h]
theorem toNats_len (ns:List Int):(Vaglri.toNats ns).length = ns.length:=by unfold Vaglri.toNats; exact List.length_map _
theorem ok_check_text_with_tree (T:Txt K mg a):Ok P w K mg base 5 a.check_text_with_tree ["octets","numbers"] (sp_check_text_with_tree K a):=by
  obtain ⟨_,F_check_none_below_zero,b_check_none_below_zero⟩:=ok_check_none_below_zero (P:=P) (w:=w) (base:=base) T
  obtain ⟨_,F_check_node_count,b_check_node_count⟩:=ok_check_node_count (P:=P) (w:=w) (base:=base) T
  obtain ⟨_,g_HIGHEST_BYTE,r_HIGHEST_BYTE⟩:=T.k_HIGHEST_BYTE
  obtain ⟨_,g_MOST_BYTES,r_MOST_BYTES⟩:=T.k_MOST_BYTES
  refine T.f_check_text_with_tree.okX sc_check_text_with_tree (fun vs H Q E h => ?_) ?_
  · obtain ⟨lo,ln,xs,ns,rfl,_⟩:=h
    rfl
  · rintro X cdv A outer s H vs Q E rfl hr hX hP ⟨lo,ln,xs,ns,rfl,h1,h2,q1,q2⟩
    refine ⟨_,(pss_cons (ps_expr (pe_call F_check_none_below_zero (hr.mono (by decide)) (by rfl) T.g_check_none_below_zero T.f_check_none_below_zero.kp b_check_none_below_zero .nil hX.passes (pa_cons (pv 0) pa_nil)))
      (pss_cons (ps_if (pt_cmpR op_gt (pe_callBK (cr_maxD rfl) (by rfl) T.b_max boot_max (pa_cons (pv 0) pa_nil) (pk_cons pe_int pk_nil)) (pe_glob (by rfl) g_HIGHEST_BYTE r_HIGHEST_BYTE) (nomark _)) (pss_one (rs_NumberRefused T (hr.mono (by decide)) hX rfl rfl)) pss_nil)
      (pss_cons (ps_expr (pe_call F_check_none_below_zero (hr.mono (by decide)) (by rfl) T.g_check_none_below_zero T.f_check_none_below_zero.kp b_check_none_below_zero .nil hX.passes (pa_cons (pv 1) pa_nil)))
      (pss_cons (ps_if (pt_cmpR op_gt (pe_callB call_len_seq (by rfl) T.b_len PySem.boot_len (pa_cons (pv 0) pa_nil)) (pe_glob (by rfl) g_MOST_BYTES r_MOST_BYTES) (nomark _)) (pss_one (rs_TooManyBytes T (hr.mono (by decide)) hX rfl rfl)) pss_nil)
      (pss_one (ps_expr (pe_call F_check_node_count (hr.mono (by decide)) (by rfl) T.g_check_node_count T.f_check_node_count.kp b_check_node_count .nil hX.passes (pa_cons (pv 1) pa_nil)))))))),?_⟩
    refine ⟨_,rfl,lo,xs,rfl,h1,fun e1 => ?_,fun e1 => q2 _ ?_⟩
    · refine ⟨_,rfl,?_⟩
      dsimp only [tNil,tCons,tC]
      refine rmax_of h1 fun v hv => ?_
      refine ⟨_,_,rfl,rfl,_,rfl,?_⟩
      refine ite2 (fun c => ?_) (fun c => ?_)
      · have c1:(255:Int) < v:=dT c
        rcases hv with ⟨_,e⟩ | ⟨hm,_⟩
        · omega
        · exact rs_of T.sub_NumberRefused T.x_NumberRefused Kp.refl (q2 _ (whole_bad ((bytes_iff e1).mpr ⟨v,hm,c1⟩)))
      · have c1:¬ (255:Int) < v:=dF c
        have e2:Vaglri.noBytes xs = false:=Bool.eq_false_iff.mpr fun e => by
          obtain ⟨y,hy,hy2⟩:=(bytes_iff e1).mp e
          rcases hv with ⟨e,_⟩ | ⟨_,hmax⟩
          · rw [e] at hy; cases hy
          · have:=hmax y hy
            omega
        refine ⟨_,rfl,ln,ns,rfl,h2,fun e3 => ?_,fun e3 => q2 _ ?_⟩
        · have ew:Vaglri.wholeOf xs ns = if 24 < xs.length then .error (-3) else match Vaglrc.readTree (ns.length + 1) (Vaglri.toNats ns) with
            | none => .error (-9)
            | some t => if 500 < t.length then .error (-9) else .ok { text:=Vaglri.toNats xs,tree:=t }:=by
              unfold Vaglri.wholeOf
              rw [if_neg (by rw [e2]; decide),if_neg (by rw [e3]; decide)]
              rfl
          refine ⟨_,rfl,lo,_,rfl,.inl h1,_,_,rfl,rfl,_,rfl,?_⟩
          refine ite2 (fun c => ?_) (fun c => ?_)
          · have c1:(24:Int) < (((xs.map V.int).length:Nat):Int):=dT c
            rw [List.length_map] at c1
            refine rs_of T.sub_TooManyBytes T.x_TooManyBytes Kp.refl (q2 _ ?_)
            rw [ew,if_pos (by omega)]
          · have c1:¬ (24:Int) < (((xs.map V.int).length:Nat):Int):=dF c
            rw [List.length_map] at c1
            rw [if_neg (by omega),readTree_eq _ _ (by rw [toNats_len]; omega),toNats_len] at ew
            refine ⟨_,rfl,ln,_,rfl,h2,fun d1 d2 => ?_,fun d => q2 _ ?_⟩
            · rw [List.length_map] at d1 d2
              rw [if_pos d1] at ew
              have tl:=trip_len (Vaglri.toNats ns) (by rw [toNats_len]; exact d1)
              rw [toNats_len] at tl
              have ew:Vaglri.wholeOf xs ns = if 500 < (trip (Vaglri.toNats ns)).length then .error (-9) else .ok { text:=Vaglri.toNats xs,tree:=trip (Vaglri.toNats ns) }:=ew
              rw [if_neg (by omega)] at ew
              exact q1 _ ew e1 e3 (by omega) d1 d2 rfl
            · rw [List.length_map] at d
              by_cases d1:ns.length % 3 = 0
              · rw [if_pos d1] at ew
                have tl:=trip_len (Vaglri.toNats ns) (by rw [toNats_len]; exact d1)
                rw [toNats_len] at tl
                have ew:Vaglri.wholeOf xs ns = if 500 < (trip (Vaglri.toNats ns)).length then .error (-9) else .ok { text:=Vaglri.toNats xs,tree:=trip (Vaglri.toNats ns) }:=ew
                rw [ew,if_pos (by omega)]
              · rw [if_neg d1] at ew
                rw [ew]
        · unfold Vaglri.wholeOf
          rw [if_neg (by rw [e2]; decide),if_pos e3]
    · obtain ⟨z,hz,c⟩:=neg_iff.mp e1
      exact whole_bad (List.any_eq_true.mpr ⟨z,hz,Bool.or_eq_true_iff.mpr (.inl (decide_eq_true c))⟩)
noncomputable def sp_nodes_told (K:PySem.W.Frag) (a:Adr):Sp:=fun vs H Q _ => ∃ ln m,vs = [.ref ln] ∧ H ln = some (.lst (nsV m)) ∧ m.length % 3 = 0 ∧ m.length ≤ 1500 ∧
  ∀ l vs' H',H' l = some (.lst vs') → Nds a H' vs' (trip m) → H l = none → Same H H' → Q (.ref l) H'
theorem ok_nodes_told (T:Txt K mg a):Ok P w K mg base 3 a.nodes_told ["numbers"] (sp_nodes_told K a):=by
  obtain ⟨_,F_Node_init,b_Node_init⟩:=ok_Node_init (P:=P) (w:=w) (base:=base) T
  refine T.f_nodes_told.ok sc_nodes_told (fun vs H Q E h => ?_) (fun cdv A outer s H vs Q E hr h => ?_)
  · obtain ⟨ln,m,rfl,_⟩:=h
    rfl
  · obtain ⟨ln,m,rfl,h1,h3,hlen,q⟩:=h
    refine ⟨_,(pss_one (ps_ret (pe_lc (te:=tMake a.Node (spNdI a.Node) [] E0 (tCons (tOp (rIxL K) (tVar 0) (tVar 1)) (tCons (tOp (rIxL K) (tVar 0) (tOp (rI0 fun i j => .int (i + j)) (tVar 1) (tC (.int 1)))) (tCons (tOp (rIxL K) (tVar 0) (tOp (rI0 fun i j => .int (i + j)) (tVar 1) (tC (.int 2)))) tNil)))) rfl sc_nodes_told.nd (pi_range3 rfl T.b_range (pa_cons pe_int (pa_cons (pe_callB call_len_seq (by rfl) T.b_len PySem.boot_len (pa_cons (pv 0) pa_nil)) (pa_cons pe_int pa_nil)))) (own:=[("k",1)]) (show BlkOk n_nodes_told (defScope s_nodes_told) _ _ from ⟨rfl,by decide +kernel,by decide +kernel,by decide +kernel,by decide +kernel⟩) (fun _ _ _ _ _ => (pg_name (i:=1) sc_nodes_told.nd rfl (Or.inl rfl))) (fun _ _ _ _ _ => pts_nil) (fun _ _ _ _ _ => (pe_make T.mk_Node F_Node_init (hr.mono (by decide)) (by rfl) T.g_Node b_Node_init .nil passE0 (pa_cons (pe_ix ix_list (pv 0) (pv 1) (fun _ _ => rfl)) (pa_cons (pe_ix ix_list (pv 0) (pe_op op_add (pv 1) pe_int) (fun _ _ => rfl)) (pa_cons (pe_ix ix_list (pv 0) (pe_op op_add (pv 1) pe_int) (fun _ _ => rfl)) pa_nil)))))))),?_⟩
    have tl:=trip_len m h3
    refine ⟨_,rfl,ln,_,rfl,.inl (SqL.of h1),_,_,_,_,rfl,(by rw [nsV_len]; exact rg3 (by omega)),fun D hD => ?_⟩
    refine lc_rangeC (n:=(m.length + 2) / 3) (fun i H' => Same H H' ∧ ∃ vs',H' D = some (.lst vs') ∧ Nds a H' vs' ((trip m).take i) ∧ vs'.length = i) ⟨Same.new hD,[],upd_same,.nil,rfl⟩ ?_ ?_
    · rintro i H' hi ⟨s1,vs',g1,g2,g3⟩
      have hi':3 * i + 2 < m.length:=by omega
      obtain ⟨r,hr⟩:∃ r,m[3 * i]? = some r:=⟨_,List.getElem?_eq_getElem (by omega)⟩
      obtain ⟨b,hb⟩:∃ r,m[3 * i + 1]? = some r:=⟨_,List.getElem?_eq_getElem (by omega)⟩
      obtain ⟨e,he⟩:∃ r,m[3 * i + 2]? = some r:=⟨_,List.getElem?_eq_getElem (by omega)⟩
      have h1':=s1 _ _ h1
      refine ⟨rfl,t_yes ?_⟩
      refine ⟨_,rfl,_,rfl,ln,_,_,_,rfl,rfl,SqL.of h1',at_of (j:=3 * i) (by omega) (nsV_get hr),_,rfl,_,rfl,_,_,rfl,rfl,ln,_,_,_,rfl,rfl,SqL.of h1',at_of (j:=3 * i + 1) (by omega) (nsV_get hb),_,rfl,_,rfl,_,_,rfl,rfl,ln,_,_,_,rfl,rfl,SqL.of h1',at_of (j:=3 * i + 2) (by omega) (nsV_get he),fun x dx nx nd ne => ⟨x,dx,_,_,_,rfl,upd_same,rfl,?_⟩⟩
      rw [upd_upd]
      have sm:=Same.ins (C:=a.Node) (fs:=ndF (r,b,e)) nx nd ne
      refine ⟨_,sm _ _ g1,small1000 (by omega),Same.put (s1.trans sm) hD,vs' ++ [.ref x],upd_same,?_,by rw [List.length_append,g3]; rfl⟩
      have e1:(trip m).take (i + 1) = (trip m).take i ++ [(r,b,e)]:=by
        obtain ⟨w1,w2⟩:=List.getElem?_eq_some_iff.mp (trip_get hr hb he)
        rw [List.take_succ_eq_append_getElem w1,w2]
      rw [e1]
      refine Paired.snoc (Nds.put (g2.same sm) (sm _ _ g1)) ⟨x,dx,rfl,?_⟩
      rw [upd_ne (ne_of (upd_same (o:=.ins a.Node dx _)) (sm _ _ g1) (by intro z; cases z)),upd_same]
      rfl
    · rintro H' ⟨s1,vs',g1,g2,_⟩
      rw [List.take_of_length_le (by omega)] at g2
      exact q D vs' H' g1 g2 hD s1
noncomputable def sp_tell_nodes (K:PySem.W.Frag) (a:Adr):Sp:=fun vs H Q _ => ∃ ln us y,vs = [.ref ln] ∧ H ln = some (.lst us) ∧ Nds a H us y ∧ y.length ≤ 1000 ∧
  ∀ l H',H' l = some (.lst (nsV (Vaglrc.flatNodes y))) → H l = none → Same H H' → Q (.ref l) H'
theorem ok_tell_nodes (T:Txt K mg a):Ok P w K mg base 1 a.tell_nodes ["nodes"] (sp_tell_nodes K a):=by
  refine T.f_tell_nodes.ok sc_tell_nodes (fun vs H Q E h => ?_) (fun cdv A outer s H vs Q E hr h => ?_)
  · obtain ⟨ln,us,y,rfl,_⟩:=h
    rfl
  · obtain ⟨ln,us,y,rfl,h1,h2,hlen,q⟩:=h
    refine ⟨_,(pss_cons (ps_set (i:=1) sc_tell_nodes.nd rfl (Or.inl rfl) (pe_lst (pa_cons (pe_callB call_len_seq (by rfl) T.b_len PySem.boot_len (pa_cons (pv 0) pa_nil)) pa_nil)))
      (pss_cons (ps_for PassesOwn.never rfl (pi_list (pv 0)) (pg_name (i:=2) sc_tell_nodes.nd rfl (Or.inl rfl))
      (pss_one (ps_expr (pe_bm PySem.F.plainAttrs_list PySem.F.slot_list_extend PySem.F.type_list_extend mt_extend (pv 1) (pa_cons (pe_lst (pa_cons (pe_fld (pv 2) rfl) (pa_cons (pe_fld (pv 2) rfl) (pa_cons (pe_fld (pv 2) rfl) pa_nil)))) pa_nil)))))
      (pss_one (ps_ret (pv 1))))),?_⟩
    have hul:us.length = y.length:=Paired.len h2
    refine ⟨_,rfl,ln,_,rfl,.inl (SqL.of h1),(by show 1 ≤ sizeLine; decide),fun l hl => ?_⟩
    rw [hul]
    have s0:Same H (upd H l (.lst [V.int ((y.length:Nat):Int)])):=Same.new hl
    refine ⟨_,rfl,ln,rfl,⟨_,SqL.of (s0 _ _ h1)⟩,for_list (K:=K) (a:=ln) (xs:=us) (fun i σ H' => ∃ v2,σ = [some (.ref ln),some (.ref l),v2] ∧ Same H H' ∧ H' l = some (.lst (nsV (y.length :: (y.take i).flatMap Vaglrc.flatNode))))
      ⟨none,rfl,s0,upd_same⟩ (fun i σ H' _ ⟨_,_,s1,_⟩ => SqL.of (s1 _ _ h1)) ?_ ?_⟩
    · rintro i v σ H' hv ⟨v2,rfl,s1,g1⟩
      obtain ⟨u,hu,xu,dxu,rfl,hx⟩:=Paired.atL h2 hv
      have hx':=s1 _ _ hx
      have fl3:∀ t:Vaglrc.Tree,(t.flatMap Vaglrc.flatNode).length = 3 * t.length:=fun t => by
        induction t with
        | nil => rfl
        | cons u t ih => rw [List.flatMap_cons,List.length_append,ih,List.length_cons]; show 3 + _ = _; omega
      refine ⟨_,rfl,.inl ⟨rfl,_,SqL.of g1⟩,_,rfl,xu,a.Node,dxu,_,_,rfl,hx',T.c_Node,T.n_Node_rule,rfl,_,rfl,xu,a.Node,dxu,_,_,rfl,hx',T.c_Node,T.n_Node_begin,rfl,_,rfl,xu,a.Node,dxu,_,_,rfl,hx',T.c_Node,T.n_Node_end,rfl,(by show 3 ≤ sizeLine; decide),fun l2 hl2 => ?_⟩
      have ne:l ≠ l2:=fun e => by rw [← e,g1] at hl2; cases hl2
      refine ⟨l,l2,_,_,rfl,rfl,by rw [upd_ne ne]; exact g1,upd_same,?_,?_⟩
      · rw [nsV_len,List.length_cons,fl3,List.length_take]
        show _ + 3 ≤ sizeLine
        exact Nat.le_trans (show _ ≤ 10000 by omega) (by decide)
      · refine ⟨_,rfl,Same.put (s1.trans (Same.new hl2)) hl,?_⟩
        obtain ⟨w1,w2⟩:=List.getElem?_eq_some_iff.mp hu
        rw [upd_same,List.take_succ_eq_append_getElem w1,w2,List.flatMap_append]
        have:nsV (y.length :: ((y.take i).flatMap Vaglrc.flatNode ++ [u].flatMap Vaglrc.flatNode)) = nsV (y.length :: (y.take i).flatMap Vaglrc.flatNode) ++ nsV ([u].flatMap Vaglrc.flatNode):=by
          rw [← nsV_app]
          rfl
        rw [this]
        rfl
    · rintro σ H' ⟨v2,rfl,s1,g1⟩
      rw [hul,List.take_length] at g1
      exact ⟨_,rfl,q l H' g1 hl s1⟩
noncomputable def found:Option Nat → List Nat
  | none => [0]
  | some m => [1,m]
noncomputable def sp_tell_found (K:PySem.W.Frag) (a:Adr):Sp:=fun vs H Q _ => ∃ o,vs = [optV o] ∧ ∀ l H',H' l = some (.lst (nsV (found o))) → H l = none → Same H H' → Q (.ref l) H'
theorem ok_tell_found (T:Txt K mg a):Ok P w K mg base 1 a.tell_found ["number"] (sp_tell_found K a):=by
  refine T.f_tell_found.ok sc_tell_found (fun vs H Q E h => ?_) (fun cdv A outer s H vs Q E hr h => ?_)
  · obtain ⟨o,rfl,_⟩:=h
    rfl
  · obtain ⟨o,rfl,q⟩:=h
    refine ⟨_,(pss_cons (ps_if (pt_cmp (pc_isN (pv 0))) (pss_one (ps_ret (pe_lst (pa_cons pe_int pa_nil)))) pss_nil)
      (pss_one (ps_ret (pe_lst (pa_cons pe_int (pa_cons (pv 0) pa_nil)))))),?_⟩
    refine ⟨_,rfl,_,rfl,?_⟩
    cases o with
    | none =>
      refine iteT ⟨(by show 1 ≤ sizeLine; decide),fun l hl => ?_⟩
      exact q l _ upd_same hl (Same.new hl)
    | some m =>
      refine iteF ⟨_,rfl,(by show 2 ≤ sizeLine; decide),fun l hl => ?_⟩
      exact q l _ upd_same hl (Same.new hl)
end
end TC
namespace TC
open PySem PySem.Spec PyProof.Rows L2
theorem Paired.head {α β:Type} {R:α → β → Prop} {x:α} {l:List α} {m:List β} (h:Paired R (x :: l) m):∃ y r,m = y :: r ∧ R x y:=by
  cases h with
  | cons h _ => exact ⟨_,_,rfl,h⟩
noncomputable abbrev ndN:List Str:=["rule","begin","end"]
noncomputable abbrev trN:List Str:=["octets","nodes","parents"]
noncomputable abbrev ruN:List Str:=["nonterminal","symbols"]
noncomputable def Aln (z:Addr) (H:Hp) (b:Addr):Prop:=(b = z ∧ ∃ xs,H b = some (.lst xs)) ∨ (∃ C dx fs,H b = some (.ins C dx fs) ∧ fs.map (·.1) ≠ ndN ∧ fs.map (·.1) ≠ trN ∧ fs.map (·.1) ≠ ruN) ∨
  (∃ t r C dx fs,H b = some (.lst (.ref t :: r)) ∧ H t = some (.ins C dx fs) ∧ fs.map (·.1) = trN)
section
variable {a:Adr} {z:Addr} {H H':Hp} {ex:List Addr}
theorem Aln.ins {b C dx:Addr} {fs:List (Str × V)} (h:Aln z H b) (e:H b = some (.ins C dx fs)) (n:fs.map (·.1) = ndN ∨ fs.map (·.1) = trN ∨ fs.map (·.1) = ruN):False:=by
  rcases h with ⟨_,xs,h⟩ | ⟨C',dx',fs',h,n1,n2,n3⟩ | ⟨t,r,_,_,_,h,_⟩
  · rw [h] at e; cases e
  · rw [h] at e
    cases e
    rcases n with n | n | n
    · exact n1 n
    · exact n2 n
    · exact n3 n
  · rw [h] at e; cases e
theorem Aln.tup {b:Addr} {xs:List V} (h:Aln z H b) (e:H b = some (.tup xs)):False:=by
  rcases h with ⟨_,xs,h⟩ | ⟨C',dx',fs',h,_⟩ | ⟨t,r,_,_,_,h,_⟩
  · rw [h] at e; cases e
  · rw [h] at e; cases e
  · rw [h] at e; cases e
theorem Aln.lst {b:Addr} {xs:List V} (h:Aln z H b) (e:H b = some (.lst xs)) (nz:b ≠ z) (n:∀ t r C dx fs,xs = .ref t :: r → H t = some (.ins C dx fs) → fs.map (·.1) = trN → False):False:=by
  rcases h with ⟨h,_⟩ | ⟨C',dx',fs',h,_⟩ | ⟨t,r,_,_,_,h,h2,h3⟩
  · exact nz h
  · rw [h] at e; cases e
  · rw [h] at e
    cases e
    exact n _ _ _ _ _ rfl h2 h3
theorem NdAt.kp {v:V} {u:Vaglrc.Used} (h:NdAt a H v u) (k:Kp ex H H') (n:∀ b ∈ ex,Aln z H b):NdAt a H' v u:=by
  obtain ⟨x,dx,e,h⟩:=h
  exact ⟨x,dx,e,k _ _ h fun m => (n x m).ins h (.inl rfl)⟩
theorem Ls.kp {l:Addr} {xs:List V} (h:Ls z H l xs) (k:Kp ex H H') (n:∀ b ∈ ex,Aln z H b) (c:∀ t r C dx fs,xs = .ref t :: r → H t = some (.ins C dx fs) → fs.map (·.1) = trN → False):Ls z H' l xs :=
  ⟨k _ _ h.1 fun m => (n l m).lst h.1 h.2 c,h.2⟩
theorem TreeAt.kp {t dx lo ln lp:Addr} {vs:List V} {x:List Nat} {y:Vaglrc.Tree} {ps:List (Option Nat)} (h:TreeAt a z H t dx lo ln lp vs x y ps) (k:Kp ex H H') (n:∀ b ∈ ex,Aln z H b):TreeAt a z H' t dx lo ln lp vs x y ps:=by
  refine ⟨k _ _ h.obj fun m => (n t m).ins h.obj (.inr (.inl rfl)),h.oct.kp k n fun t r C dx fs e => ?_,h.nds.kp k n fun t r C dx fs e h1 h2 => ?_,Paired.mapL h.nod fun _ _ q => q.kp k n,h.par.kp k n fun t r C dx fs e => ?_⟩
  · unfold nsV at e
    cases x with
    | nil => cases e
    | cons _ _ => cases e
  · have q:=h.nod
    rw [e] at q
    cases q with
    | cons q _ =>
      obtain ⟨x1,dx1,e1,q⟩:=q
      cases e1
      rw [h1] at q
      cases q
      exact absurd h2 (by show ¬ ndN = trN; decide +kernel)
  · cases ps with
    | nil => cases e
    | cons p r => cases p <;> cases e
theorem HeldT.kp {g:Vaglri.Grammar} {t:Addr} {w:Vaglri.Whole} {F:Fo} (h:HeldT a g z H t w F) (k:Kp ex H H') (n:∀ b ∈ ex,Aln z H b):HeldT a g z H' t w F:=by
  obtain ⟨dx,lo,ln,lp,us,q⟩:=h.at_
  exact ⟨h.wh,⟨dx,lo,ln,lp,us,q.kp k n⟩,h.txt,h.nds⟩
theorem RulesAt.kp {g:Addr} {qs:List Vaglrc.Rule} (h:RulesAt a z H g qs) (k:Kp ex H H') (n:∀ b ∈ ex,Aln z H b):RulesAt a z H' g qs:=by
  obtain ⟨vs,h1,h2,h3⟩:=h
  refine ⟨vs,k _ _ h1 fun m => (n g m).lst h1 h3 fun t r C dx fs e q1 q2 => ?_,Paired.mapL h2 fun v q h => ?_,h3⟩
  · rw [e] at h2
    cases h2 with
    | cons q _ =>
      obtain ⟨x,dx1,sl,us,e1,q,_⟩:=q
      cases e1
      rw [q1] at q
      cases q
      exact absurd q2 (by show ¬ (["nonterminal","symbols"]:List Str) = trN; decide +kernel)
  · obtain ⟨x,dx,sl,us,rfl,g1,g2,g3,g4,g5⟩:=h
    refine ⟨x,dx,sl,us,rfl,k _ _ g1 fun m => (n x m).ins g1 (.inr (.inr rfl)),k _ _ g2 fun m => (n sl m).lst g2 g5 fun t r C dx fs e q1 q2 => ?_,Paired.mapL g3 fun v s ⟨t,e,q⟩ => ⟨t,e,k _ _ q fun m => (n t m).tup q⟩,g4,g5⟩
    rw [e] at g3
    obtain ⟨_,_,_,t1,e1,q⟩:=Paired.head g3
    cases e1
    rw [q1] at q
    cases q
end
noncomputable def dkF (lr:Addr) (tv:V) (lb:Addr):List (Str × V):=[("rules",.ref lr),("tree",tv),("before",.ref lb)]
noncomputable def TvAt (a:Adr) (g:Vaglri.Grammar) (z:Addr) (H:Hp) (tv:V) (o:Option Vaglri.Whole):Prop:=match o with
  | none => tv = .non
  | some w => ∃ t F,tv = .ref t ∧ HeldT a g z H t w F
noncomputable abbrev PastAt (a:Adr) (g:Vaglri.Grammar) (z:Addr) (H:Hp):List V → List Vaglri.Whole → Prop:=Paired fun v w => ∃ t F,v = .ref t ∧ HeldT a g z H t w F
structure DeskAt (a:Adr) (z:Addr) (H:Hp) (d dx lr:Addr) (tv:V) (lb:Addr) (bs:List V) (s:Vaglri.State):Prop where
  obj:H d = some (.ins a.Desk dx (dkF lr tv lb))
  rul:RulesAt a z H lr s.grammar.rules
  ok8:∀ q ∈ s.grammar.rules,q.rhs.length ≤ 8
  held:TvAt a s.grammar z H tv s.held
  bef:Ls z H lb bs
  past:PastAt a s.grammar z H bs s.past
  few:bs.length ≤ 16
section
variable {a:Adr} {z:Addr} {H H':Hp} {ex:List Addr} {g:Vaglri.Grammar}
theorem TvAt.kp {tv:V} {o:Option Vaglri.Whole} (h:TvAt a g z H tv o) (k:Kp ex H H') (n:∀ b ∈ ex,Aln z H b):TvAt a g z H' tv o:=by
  cases o with
  | none => exact h
  | some w =>
    obtain ⟨t,F,e,h⟩:=h
    exact ⟨t,F,e,h.kp k n⟩
theorem PastAt.kp {bs:List V} {l:List Vaglri.Whole} (h:PastAt a g z H bs l) (k:Kp ex H H') (n:∀ b ∈ ex,Aln z H b):PastAt a g z H' bs l :=
  Paired.mapL h fun v w ⟨t,F,e,q⟩ => ⟨t,F,e,q.kp k n⟩
theorem DeskAt.kp {d dx lr:Addr} {tv:V} {lb:Addr} {bs:List V} {s:Vaglri.State} (h:DeskAt a z H d dx lr tv lb bs s) (k:Kp ex H H') (n:∀ b ∈ ex,(b = z ∧ ∃ xs,H b = some (.lst xs)) ∨ ∃ dx l p,H b = some (.ins a.Reader dx (rdF l p))):DeskAt a z H' d dx lr tv lb bs s:=by
  have n':∀ b ∈ ex,Aln z H b:=fun b hb => by
    rcases n b hb with h | ⟨dx,l,p,h⟩
    · exact .inl h
    · exact .inr (.inl ⟨_,_,_,h,by show ¬ (["numbers","place"]:List Str) = ndN; decide +kernel,by show ¬ (["numbers","place"]:List Str) = trN; decide +kernel,by show ¬ (["numbers","place"]:List Str) = ruN; decide +kernel⟩)
  refine ⟨k _ _ h.obj fun m => ?_,h.rul.kp k n',h.ok8,h.held.kp k n',⟨k _ _ h.bef.1 fun m => ?_,h.bef.2⟩,h.past.kp k n',h.few⟩
  · have o:=h.obj
    rcases n d m with ⟨_,xs,h⟩ | ⟨dx,l,p,h⟩
    · rw [h] at o; cases o
    · rw [h] at o
      have:=Option.some.inj o
      injection this with _ _ this
      have:=congrArg (fun l => l.map (·.1)) this
      exact absurd this (by show ¬ (["numbers","place"]:List Str) = (["rules","tree","before"]:List Str); decide +kernel)
  · have o:=h.bef.1
    rcases n lb m with ⟨e,_⟩ | ⟨dx,l,p,h1⟩
    · exact h.bef.2 e
    · rw [h1] at o; cases o
theorem DeskAt.same {d dx lr:Addr} {tv:V} {lb:Addr} {bs:List V} {s:Vaglri.State} (h:DeskAt a z H d dx lr tv lb bs s) (k:Same H H'):DeskAt a z H' d dx lr tv lb bs s:=h.kp (ex:=[]) (Kp.same k) (by simp)
theorem DeskAt.aln {d dx lr:Addr} {tv:V} {lb:Addr} {bs:List V} {s:Vaglri.State} (h:DeskAt a z H d dx lr tv lb bs s):∀ b ∈ [d],Aln z H b:=fun b hb => by
  rw [List.mem_singleton.mp hb]
  exact .inr (.inl ⟨_,_,_,h.obj,by show ¬ (["rules","tree","before"]:List Str) = ndN; decide +kernel,by show ¬ (["rules","tree","before"]:List Str) = trN; decide +kernel,by show ¬ (["rules","tree","before"]:List Str) = ruN; decide +kernel⟩)
end
section
variable {P:Program} {w:World} {K:PySem.W.Frag} {mg:Str → Option Value} {base:Heap} {a:Adr}
noncomputable def sp_Desk_init (K:PySem.W.Frag) (a:Adr):Sp:=fun vs H Q _ => ∃ d dx,vs = [.ref d] ∧ H d = some (.ins a.Desk dx []) ∧
  ∀ lr lb H',H lr = none → H lb = none → lr ≠ lb → H' d = some (.ins a.Desk dx (dkF lr .non lb)) → H' lr = some (.lst []) → H' lb = some (.lst []) → Kp [d] H H' → Q .non H'
theorem ok_Desk_init (T:Txt K mg a):Ok P w K mg base 1 a.Desk_init ["self"] (sp_Desk_init K a):=by
  refine T.f_Desk_init.ok sc_Desk_init (fun vs H Q E h => ?_) (fun cdv A outer s H vs Q E hr h => ?_)
  · obtain ⟨d,dx,rfl,_⟩:=h
    rfl
  · obtain ⟨d,dx,rfl,h1,q⟩:=h
    refine ⟨_,(pss_cons (ps_fld (pv 0) (pe_lst pa_nil) rfl)
      (pss_cons (ps_fld (pv 0) pe_non rfl)
      (pss_one (ps_fld (pv 0) (pe_lst pa_nil) rfl)))),?_⟩
    refine ⟨Nat.zero_le _,fun lr hlr => ?_⟩
    have nr:lr ≠ d:=fun e => by rw [e,h1] at hlr; cases hlr
    refine ⟨_,rfl,d,a.Desk,dx,_,rfl,by rw [upd_ne (Ne.symm nr)]; exact h1,T.c_Desk,T.n_Desk_rules,(by show 0 < 1000; decide),_,rfl,d,a.Desk,dx,_,rfl,upd_same,T.c_Desk,T.n_Desk_tree,(by show 1 < 1000; decide),Nat.zero_le _,fun lb hlb => ?_⟩
    rw [upd_upd] at hlb
    have nb:lb ≠ d:=fun e => by rw [e,upd_same] at hlb; cases hlb
    rw [upd_ne nb] at hlb
    have nbr:lb ≠ lr:=fun e => by rw [e,upd_same] at hlb; cases hlb
    rw [upd_ne nbr] at hlb
    rw [upd_upd]
    refine ⟨_,rfl,d,a.Desk,dx,_,rfl,by rw [upd_ne (Ne.symm nb)]; exact upd_same,T.c_Desk,T.n_Desk_before,(by show 2 < 1000; decide),?_⟩
    refine q lr lb _ hlr hlb (Ne.symm nbr) upd_same ?_ ?_ ?_
    · rw [upd_ne nr,upd_ne (Ne.symm nbr),upd_ne nr,upd_same]
    · rw [upd_ne nb,upd_same]
    · intro b o hb hn
      have hbd:b ≠ d:=by simpa using hn
      rw [upd_ne hbd,upd_ne (ne_of_none hb hlb),upd_ne hbd,upd_ne (ne_of_none hb hlr)]
      exact hb
noncomputable def sp_Desk_begin_with (K:PySem.W.Frag) (a:Adr):Sp:=fun vs H Q _ => ∃ d dx lr tv lb tv',vs = [.ref d,tv'] ∧ H d = some (.ins a.Desk dx (dkF lr tv lb)) ∧
  ∀ lb' H',H lb' = none → H' d = some (.ins a.Desk dx (dkF lr tv' lb')) → H' lb' = some (.lst []) → Kp [d] H H' → Q .non H'
theorem ok_Desk_begin_with (T:Txt K mg a):Ok P w K mg base 1 a.Desk_begin_with ["self","tree"] (sp_Desk_begin_with K a):=by
  refine T.f_Desk_begin_with.ok sc_Desk_begin_with (fun vs H Q E h => ?_) (fun cdv A outer s H vs Q E hr h => ?_)
  · obtain ⟨d,dx,lr,tv,lb,tv',rfl,_⟩:=h
    rfl
  · obtain ⟨d,dx,lr,tv,lb,tv',rfl,h1,q⟩:=h
    refine ⟨_,(pss_cons (ps_fld (pv 0) (pv 1) rfl)
      (pss_one (ps_fld (pv 0) (pe_lst pa_nil) rfl))),?_⟩
    refine ⟨_,rfl,_,rfl,d,a.Desk,dx,_,rfl,h1,T.c_Desk,T.n_Desk_tree,(by show 3 < 1000; decide),Nat.zero_le _,fun lb' hlb => ?_⟩
    have nb:lb' ≠ d:=fun e => by rw [e,upd_same] at hlb; cases hlb
    rw [upd_ne nb] at hlb
    refine ⟨_,rfl,d,a.Desk,dx,_,rfl,by rw [upd_ne (Ne.symm nb)]; exact upd_same,T.c_Desk,T.n_Desk_before,(by show 3 < 1000; decide),?_⟩
    refine q lb' _ hlb upd_same (by rw [upd_ne nb,upd_same]) ?_
    intro b o hb hn
    have hbd:b ≠ d:=by simpa using hn
    rw [upd_ne hbd,upd_ne (ne_of_none hb hlb),upd_ne hbd]
    exact hb
noncomputable def sp_Desk_change_to (K:PySem.W.Frag) (a:Adr):Sp:=fun vs H Q _ => ∃ d dx lr tv lb tv' bs,vs = [.ref d,tv'] ∧ H d = some (.ins a.Desk dx (dkF lr tv lb)) ∧ H lb = some (.lst bs) ∧
  ∀ lb' H',H lb' = none → H' d = some (.ins a.Desk dx (dkF lr tv' lb')) → H' lb' = some (.lst (tv :: bs.take 15)) → Kp [d] H H' → Q .non H'
theorem ok_Desk_change_to (T:Txt K mg a):Ok P w K mg base 1 a.Desk_change_to ["self","tree"] (sp_Desk_change_to K a):=by
  obtain ⟨_,g_MOST_BEFORE,r_MOST_BEFORE⟩:=T.k_MOST_BEFORE
  refine T.f_Desk_change_to.ok sc_Desk_change_to (fun vs H Q E h => ?_) (fun cdv A outer s H vs Q E hr h => ?_)
  · obtain ⟨d,dx,lr,tv,lb,tv',bs,rfl,_⟩:=h
    rfl
  · obtain ⟨d,dx,lr,tv,lb,tv',bs,rfl,h1,h2,q⟩:=h
    refine ⟨_,(pss_cons (ps_fld (pv 0) (pe_op op_cat (pe_lst (pa_cons (pe_fld (pv 0) rfl) pa_nil)) (pe_slice sl_list (pe_fld (pv 0) rfl) po_none (po_some (pe_op op_sub (pe_glob (by rfl) g_MOST_BEFORE r_MOST_BEFORE) pe_int)))) rfl)
      (pss_one (ps_fld (pv 0) (pv 1) rfl))),?_⟩
    refine ⟨_,rfl,d,a.Desk,dx,_,_,rfl,h1,T.c_Desk,T.n_Desk_tree,rfl,(by show 1 ≤ sizeLine; decide),fun l1 hl1 => ?_⟩
    have s1:=Same.new (o:=.lst [tv]) hl1
    refine ⟨_,rfl,d,a.Desk,dx,_,_,rfl,s1 _ _ h1,T.c_Desk,T.n_Desk_before,rfl,_,_,rfl,rfl,_,rfl,lb,_,rfl,SqL.of (s1 _ _ h2),fun l2 hl2 => ?_⟩
    rw [show ((16:Int) - 1) = ((15:Nat):Int) from rfl,cutV_to]
    have s2:=Same.new (o:=.lst (bs.take 15)) hl2
    have n12:l1 ≠ l2:=fun e => by rw [← e,upd_same] at hl2; cases hl2
    refine ⟨l1,l2,_,_,rfl,rfl,by rw [upd_ne n12]; exact upd_same,upd_same,?_,fun l3 hl3 => ?_⟩
    · show 1 + (bs.take 15).length ≤ sizeLine
      rw [List.length_take]
      exact Nat.le_trans (show _ ≤ 16 by omega) (by decide)
    have s3:=Same.new (o:=.lst ([tv] ++ bs.take 15)) hl3
    have s13:=s1.trans (s2.trans s3)
    have hl3':H l3 = none:=(s1.trans s2).free hl3
    have g3:(upd (upd (upd H l1 (.lst [tv])) l2 (.lst (bs.take 15))) l3 (.lst ([tv] ++ bs.take 15))) l3 = some (.lst (tv :: bs.take 15)):=upd_same
    generalize upd (upd (upd H l1 (.lst [tv])) l2 (.lst (bs.take 15))) l3 (.lst ([tv] ++ bs.take 15)) = H3 at s13 g3 ⊢
    have nd:l3 ≠ d:=fun e => by rw [e,h1] at hl3'; cases hl3'
    refine ⟨_,rfl,d,a.Desk,dx,_,rfl,s13 _ _ h1,T.c_Desk,T.n_Desk_before,(by show 3 < 1000; decide),_,rfl,_,rfl,d,a.Desk,dx,_,rfl,upd_same,T.c_Desk,T.n_Desk_tree,(by show 3 < 1000; decide),?_⟩
    refine q l3 _ hl3' upd_same (by rw [upd_ne nd,upd_ne nd]; exact g3) ?_
    intro b o hb hn
    have hbd:b ≠ d:=by simpa using hn
    rw [upd_ne hbd,upd_ne hbd]
    exact s13 _ _ hb
noncomputable def sp_Desk_go_back (K:PySem.W.Frag) (a:Adr):Sp:=fun vs H Q E => ∃ d dx lr tv lb bs,vs = [.ref d] ∧ H d = some (.ins a.Desk dx (dkF lr tv lb)) ∧ H lb = some (.lst bs) ∧
  (∀ v r,bs = v :: r → Q .non (upd (upd H lb (.lst r)) d (.ins a.Desk dx (dkF lr v lb)))) ∧ (bs = [] → Raises K a.Refusal (-11) H [] E)
theorem ok_Desk_go_back (T:Txt K mg a):Ok P w K mg base 4 a.Desk_go_back ["self"] (sp_Desk_go_back K a):=by
  refine T.f_Desk_go_back.okX sc_Desk_go_back (fun vs H Q E h => ?_) ?_
  · obtain ⟨d,dx,lr,tv,lb,bs,rfl,_⟩:=h
    rfl
  · rintro X cdv A outer s H vs Q E rfl hr hX hP ⟨d,dx,lr,tv,lb,bs,rfl,h1,h2,q1,q2⟩
    refine ⟨_,(pss_cons (ps_if (pt_cmpR op_eq (pe_callB call_len_seq (by rfl) T.b_len PySem.boot_len (pa_cons (pe_fld (pv 0) rfl) pa_nil)) pe_int (nomark _)) (pss_one (rs_NoTreeBefore T (hr.mono (by decide)) hX rfl rfl)) pss_nil)
      (pss_one (ps_fld (pv 0) (pe_bm PySem.F.plainAttrs_list PySem.F.slot_list_pop PySem.F.type_list_pop mt_popAt (pe_fld (pv 0) rfl) (pa_cons pe_int pa_nil)) rfl))),?_⟩
    refine ⟨_,rfl,d,a.Desk,dx,_,_,rfl,h1,T.c_Desk,T.n_Desk_before,rfl,lb,_,rfl,.inl (SqL.of h2),rfl,_,rfl,?_⟩
    cases bs with
    | nil =>
      refine iteT ?_
      exact rs_of T.sub_NoTreeBefore T.x_NoTreeBefore Kp.refl (q2 rfl)
    | cons v r =>
      refine ite2 (fun c => ?_) (fun c => ?_)
      · have c1:=dT c
        injection c1 with c1
        rw [List.length_cons] at c1
        omega
      · have nd:d ≠ lb:=fun e => by rw [e,h2] at h1; cases h1
        refine ⟨_,rfl,d,a.Desk,dx,_,_,rfl,h1,T.c_Desk,T.n_Desk_before,rfl,.inl ⟨rfl,_,SqL.of h2⟩,lb,_,_,0,v,rfl,rfl,h2,by decide,by decide,?_,rfl,?_⟩
        · unfold seqIndex?
          simp
        · refine ⟨_,rfl,d,a.Desk,dx,_,rfl,by rw [upd_ne nd]; exact h1,T.c_Desk,T.n_Desk_tree,(by show 3 < 1000; decide),?_⟩
          exact q1 v r rfl
end
end TC
namespace TC
open PySem PySem.Spec PyProof.Rows L2
section
variable {P:Program} {w:World} {K:PySem.W.Frag} {mg:Str → Option Value} {base:Heap} {a:Adr}
noncomputable def sp_check_rule (K:PySem.W.Frag) (a:Adr):Sp:=fun vs H Q E => ∃ z d dx lr tv lb bs s r,vs = [.ref d,.int r] ∧ DeskAt a z H d dx lr tv lb bs s ∧
  (∀ n:Nat,r = (n:Int) → n < s.grammar.rules.length → Q .non H) ∧ ((r < 0 ∨ (s.grammar.rules.length:Int) ≤ r) → Raises K a.Refusal (-4) H [] E)
theorem ok_check_rule (T:Txt K mg a):Ok P w K mg base 4 a.check_rule ["desk","rule"] (sp_check_rule K a):=by
  refine T.f_check_rule.okX sc_check_rule (fun vs H Q E h => ?_) ?_
  · obtain ⟨z,d,dx,lr,tv,lb,bs,s0,r,rfl,_⟩:=h
    rfl
  · rintro X cdv A outer s H vs Q E rfl hr hX hP ⟨z,d,dx,lr,tv,lb,bs,s0,r,rfl,D,q1,q2⟩
    refine ⟨_,(pss_one (ps_if (pw_or (pt_cmpR op_lt (pv 1) pe_int (nomark _)) (pw_or1 (pt_cmpR op_ge (pv 1) (pe_callB call_len_seq (by rfl) T.b_len PySem.boot_len (pa_cons (pe_fld (pv 0) rfl) pa_nil)) (nomark _)))).pt (pss_one (rs_NoSuchRule T (hr.mono (by decide)) hX rfl rfl)) pss_nil)),?_⟩
    obtain ⟨rv,hr1,hr2,_⟩:=D.rul
    have hl:=Paired.len hr2
    refine ⟨_,rfl,_,_,rfl,rfl,_,rfl,?_⟩
    refine ite2 (fun c => ?_) (fun c => ?_)
    · have c1:=dT c
      exact iteT (rs_of T.sub_NoSuchRule T.x_NoSuchRule Kp.refl (q2 (.inl c1)))
    · have c1:=dF c
      refine ⟨_,rfl,_,rfl,d,a.Desk,dx,_,_,rfl,D.obj,T.c_Desk,T.n_Desk_rules,rfl,lr,_,rfl,.inl (SqL.of hr1),_,_,rfl,rfl,_,rfl,?_⟩
      refine ite2 (fun c => ?_) (fun c => ?_)
      · have c2:=dT c
        rw [hl] at c2
        exact rs_of T.sub_NoSuchRule T.x_NoSuchRule Kp.refl (q2 (.inr c2))
      · have c2:=dF c
        rw [hl] at c2
        exact q1 r.toNat (by omega) (by omega)
noncomputable def sp_held_tree (K:PySem.W.Frag) (a:Adr):Sp:=fun vs H Q E => ∃ z d dx lr tv lb bs s,vs = [.ref d] ∧ DeskAt a z H d dx lr tv lb bs s ∧
  (∀ w t F,s.held = some w → tv = .ref t → HeldT a s.grammar z H t w F → Q (.ref t) H) ∧ (s.held = none → Raises K a.Refusal (-6) H [] E)
theorem ok_held_tree (T:Txt K mg a):Ok P w K mg base 4 a.held_tree ["desk"] (sp_held_tree K a):=by
  refine T.f_held_tree.okX sc_held_tree (fun vs H Q E h => ?_) ?_
  · obtain ⟨z,d,dx,lr,tv,lb,bs,s0,rfl,_⟩:=h
    rfl
  · rintro X cdv A outer s H vs Q E rfl hr hX hP ⟨z,d,dx,lr,tv,lb,bs,s0,rfl,D,q1,q2⟩
    refine ⟨_,(pss_cons (ps_if (pt_cmp (pc_isN (pe_fld (pv 0) rfl))) (pss_one (rs_NoTreeHeld T (hr.mono (by decide)) hX rfl rfl)) pss_nil)
      (pss_one (ps_ret (pe_fld (pv 0) rfl)))),?_⟩
    refine ⟨_,rfl,d,a.Desk,dx,_,_,rfl,D.obj,T.c_Desk,T.n_Desk_tree,rfl,_,rfl,?_⟩
    have hh:=D.held
    cases e:s0.held with
    | none =>
      rw [e] at hh
      have hh:tv = .non:=hh
      subst hh
      exact iteT (rs_of T.sub_NoTreeHeld T.x_NoTreeHeld Kp.refl (q2 e))
    | some w0 =>
      rw [e] at hh
      obtain ⟨t,F,rfl,h⟩:=hh
      refine iteF ⟨_,rfl,d,a.Desk,dx,_,_,rfl,D.obj,T.c_Desk,T.n_Desk_tree,rfl,?_⟩
      exact q1 w0 t F e rfl h
noncomputable def sp_check_node (K:PySem.W.Frag) (a:Adr):Sp:=fun vs H Q E => ∃ g z t w F r,vs = [.ref t,.int r] ∧ HeldT a g z H t w F ∧
  (∀ n:Nat,r = (n:Int) → n < Fo.sz F → Q .non H) ∧ ((r < 0 ∨ (w.tree.length:Int) ≤ r) → Raises K a.Refusal (-7) H [] E)
theorem ok_check_node (T:Txt K mg a):Ok P w K mg base 4 a.check_node ["held","number"] (sp_check_node K a):=by
  refine T.f_check_node.okX sc_check_node (fun vs H Q E h => ?_) ?_
  · obtain ⟨g,z,t,w0,F,r,rfl,_⟩:=h
    rfl
  · rintro X cdv A outer s H vs Q E rfl hr hX hP ⟨g,z,t,w0,F,r,rfl,hH,q1,q2⟩
    refine ⟨_,(pss_one (ps_if (pw_or (pt_cmpR op_lt (pv 1) pe_int (nomark _)) (pw_or1 (pt_cmpR op_ge (pv 1) (pe_callB call_len_seq (by rfl) T.b_len PySem.boot_len (pa_cons (pe_fld (pv 0) rfl) pa_nil)) (nomark _)))).pt (pss_one (rs_NoSuchNode T (hr.mono (by decide)) hX rfl rfl)) pss_nil)),?_⟩
    obtain ⟨dx,lo,ln,lp,us,hT⟩:=hH.at_
    have hl:us.length = w0.tree.length:=by rw [Paired.len hT.nod,hH.wh.tree]
    have hl2:w0.tree.length = Fo.sz F:=by rw [hH.wh.tree,Fo.fl_len]
    refine ⟨_,rfl,_,_,rfl,rfl,_,rfl,?_⟩
    refine ite2 (fun c => ?_) (fun c => ?_)
    · have c1:=dT c
      exact iteT (rs_of T.sub_NoSuchNode T.x_NoSuchNode Kp.refl (q2 (.inl c1)))
    · have c1:=dF c
      refine ⟨_,rfl,_,rfl,t,a.Tree,dx,_,_,rfl,hT.obj,T.c_Tree,T.n_Tree_nodes,rfl,ln,_,rfl,.inl (SqL.of hT.nds.1),_,_,rfl,rfl,_,rfl,?_⟩
      refine ite2 (fun c => ?_) (fun c => ?_)
      · have c2:=dT c
        rw [hl] at c2
        exact rs_of T.sub_NoSuchNode T.x_NoSuchNode Kp.refl (q2 (.inr c2))
      · have c2:=dF c
        rw [hl] at c2
        exact q1 r.toNat (by omega) (by omega)
noncomputable def sp_held_tree_with (K:PySem.W.Frag) (a:Adr):Sp:=fun vs H Q E => ∃ z d dx lr tv lb bs s r,vs = [.ref d,.int r] ∧ DeskAt a z H d dx lr tv lb bs s ∧
  (∀ w t F (n:Nat),s.held = some w → tv = .ref t → HeldT a s.grammar z H t w F → r = (n:Int) → n < Fo.sz F → Q (.ref t) H) ∧ (s.held = none → Raises K a.Refusal (-6) H [] E) ∧ (∀ w,s.held = some w → (r < 0 ∨ (w.tree.length:Int) ≤ r) → Raises K a.Refusal (-7) H [] E)
theorem ok_held_tree_with (T:Txt K mg a):Ok P w K mg base 5 a.held_tree_with ["desk","number"] (sp_held_tree_with K a):=by
  obtain ⟨_,F_held_tree,b_held_tree⟩:=ok_held_tree (P:=P) (w:=w) (base:=base) T
  obtain ⟨_,F_check_node,b_check_node⟩:=ok_check_node (P:=P) (w:=w) (base:=base) T
  refine T.f_held_tree_with.okX sc_held_tree_with (fun vs H Q E h => ?_) ?_
  · obtain ⟨z,d,dx,lr,tv,lb,bs,s0,r,rfl,_⟩:=h
    rfl
  · rintro X cdv A outer s H vs Q E rfl hr hX hP ⟨z,d,dx,lr,tv,lb,bs,s0,r,rfl,D,q1,q2,q3⟩
    refine ⟨_,(pss_cons (ps_set (i:=2) sc_held_tree_with.nd rfl (Or.inl rfl) (pe_call F_held_tree (hr.mono (by decide)) (by rfl) T.g_held_tree T.f_held_tree.kp b_held_tree .nil hX.passes (pa_cons (pv 0) pa_nil)))
      (pss_cons (ps_expr (pe_call F_check_node (hr.mono (by decide)) (by rfl) T.g_check_node T.f_check_node.kp b_check_node .nil hX.passes (pa_cons (pv 2) (pa_cons (pv 1) pa_nil))))
      (pss_one (ps_ret (pv 2))))),?_⟩
    refine ⟨_,rfl,z,d,dx,lr,tv,lb,bs,s0,rfl,D,fun w0 t F e1 e2 hH => ?_,q2⟩
    refine ⟨_,rfl,_,rfl,s0.grammar,z,t,w0,F,r,rfl,hH,fun n e3 e4 => ?_,q3 w0 e1⟩
    exact ⟨_,rfl,q1 w0 t F n e1 e2 hH e3 e4⟩
noncomputable def sp_nonterminal_of (K:PySem.W.Frag) (a:Adr):Sp:=fun vs H Q _ => ∃ z d dx lr t lb bs s w F,∃ n:Nat,vs = [.ref d,.int (n:Nat)] ∧ DeskAt a z H d dx lr (.ref t) lb bs s ∧ s.held = some w ∧ HeldT a s.grammar z H t w F ∧ n < Fo.sz F ∧
  ∀ b:Nat,Vaglri.lhsAt s.grammar w.tree n = some b → Q (.int (b:Nat)) H
theorem ok_nonterminal_of (T:Txt K mg a):Ok P w K mg base 1 a.nonterminal_of ["desk","number"] (sp_nonterminal_of K a):=by
  refine T.f_nonterminal_of.ok sc_nonterminal_of (fun vs H Q E h => ?_) (fun cdv A outer s H vs Q E hr h => ?_)
  · obtain ⟨z,d,dx,lr,t,lb,bs,s0,w0,F,n,rfl,_⟩:=h
    rfl
  · obtain ⟨z,d,dx,lr,t,lb,bs,s0,w0,F,n,rfl,D,hs,hH,hn,q⟩:=h
    refine ⟨_,(pss_one (ps_ret (pe_fld (pe_ix ix_list (pe_fld (pv 0) rfl) (pe_fld (pe_ix ix_list (pe_fld (pe_fld (pv 0) rfl) rfl) (pv 1) (fun _ _ => rfl)) rfl) (fun _ _ => rfl)) rfl))),?_⟩
    obtain ⟨dx1,lo,ln,lp,us,hT⟩:=hH.at_
    obtain ⟨u,N,hN⟩:=Fo.node_some hn
    obtain ⟨vk,hvk,xk,dxk,rfl,hxk⟩:=Paired.at_ hT.nod (Fo.fl_get hN)
    have hu:=(Fo.ru_node hH.wh.ru hN).1
    obtain ⟨qr,hq⟩:∃ q,s0.grammar.rules[u.1]? = some q:=⟨_,List.getElem?_eq_getElem hu⟩
    obtain ⟨rv,hr1,hr2,_⟩:=D.rul
    obtain ⟨vq,hvq,xq,dxq,slq,sq,rfl,hxq,_⟩:=Paired.at_ hr2 hq
    refine ⟨_,rfl,d,a.Desk,dx,_,_,rfl,D.obj,T.c_Desk,T.n_Desk_rules,rfl,_,rfl,d,a.Desk,dx,_,_,rfl,D.obj,T.c_Desk,T.n_Desk_tree,rfl,t,a.Tree,dx1,_,_,rfl,hT.obj,T.c_Tree,T.n_Tree_nodes,rfl,_,rfl,ln,_,_,_,rfl,rfl,SqL.of hT.nds.1,atI_nat hvk,xk,a.Node,dxk,_,_,rfl,hxk,T.c_Node,T.n_Node_rule,rfl,lr,_,_,_,rfl,rfl,SqL.of hr1,atI_nat hvq,xq,a.Rule,dxq,_,_,rfl,hxq,T.c_Rule,T.n_Rule_nonterminal,rfl,?_⟩
    refine q qr.lhs ?_
    unfold Vaglri.lhsAt
    rw [hH.wh.tree,Fo.fl_get hN]
    show (s0.grammar.rules[u.1]?).map (fun q => q.lhs) = _
    rw [hq]
    rfl
noncomputable def sp_check_size (K:PySem.W.Frag) (a:Adr):Sp:=fun vs H Q E => ∃ z t dx lo ln lp us x y ps,vs = [.ref t] ∧ TreeAt a z H t dx lo ln lp us x y ps ∧
  (x.length ≤ 24 → y.length ≤ 500 → Q .non H) ∧ (24 < x.length → Raises K a.Refusal (-3) H [] E) ∧ (x.length ≤ 24 → 500 < y.length → Raises K a.Refusal (-8) H [] E)
theorem ok_check_size (T:Txt K mg a):Ok P w K mg base 4 a.check_size ["tree"] (sp_check_size K a):=by
  obtain ⟨_,g_MOST_BYTES,r_MOST_BYTES⟩:=T.k_MOST_BYTES
  obtain ⟨_,g_MOST_NODES,r_MOST_NODES⟩:=T.k_MOST_NODES
  refine T.f_check_size.okX sc_check_size (fun vs H Q E h => ?_) ?_
  · obtain ⟨z,t,dx,lo,ln,lp,us,x,y,ps,rfl,_⟩:=h
    rfl
  · rintro X cdv A outer s H vs Q E rfl hr hX hP ⟨z,t,dx,lo,ln,lp,us,x,y,ps,rfl,hT,q1,q2,q3⟩
    refine ⟨_,(pss_cons (ps_if (pt_cmpR op_gt (pe_callB call_len_seq (by rfl) T.b_len PySem.boot_len (pa_cons (pe_fld (pv 0) rfl) pa_nil)) (pe_glob (by rfl) g_MOST_BYTES r_MOST_BYTES) (nomark _)) (pss_one (rs_TooManyBytes T (hr.mono (by decide)) hX rfl rfl)) pss_nil)
      (pss_one (ps_if (pt_cmpR op_gt (pe_callB call_len_seq (by rfl) T.b_len PySem.boot_len (pa_cons (pe_fld (pv 0) rfl) pa_nil)) (pe_glob (by rfl) g_MOST_NODES r_MOST_NODES) (nomark _)) (pss_one (rs_TooManyNodes T (hr.mono (by decide)) hX rfl rfl)) pss_nil))),?_⟩
    have hl:us.length = y.length:=Paired.len hT.nod
    refine ⟨_,rfl,t,a.Tree,dx,_,_,rfl,hT.obj,T.c_Tree,T.n_Tree_octets,rfl,lo,_,rfl,.inl (SqL.of hT.oct.1),_,_,rfl,rfl,_,rfl,?_⟩
    refine ite2 (fun c => ?_) (fun c => ?_)
    · have c1:(24:Int) < (((nsV x).length:Nat):Int):=dT c
      rw [nsV_len] at c1
      exact rs_of T.sub_TooManyBytes T.x_TooManyBytes Kp.refl (q2 (by omega))
    · have c1:¬ (24:Int) < (((nsV x).length:Nat):Int):=dF c
      rw [nsV_len] at c1
      refine ⟨_,rfl,t,a.Tree,dx,_,_,rfl,hT.obj,T.c_Tree,T.n_Tree_nodes,rfl,ln,_,rfl,.inl (SqL.of hT.nds.1),_,_,rfl,rfl,_,rfl,?_⟩
      refine ite2 (fun c => ?_) (fun c => ?_)
      · have c2:(500:Int) < ((us.length:Nat):Int):=dT c
        exact rs_of T.sub_TooManyNodes T.x_TooManyNodes Kp.refl (q3 (by omega) (by omega))
      · have c2:¬ (500:Int) < ((us.length:Nat):Int):=dF c
        exact q1 (by omega) (by omega)
noncomputable def sp_check_swap (K:PySem.W.Frag) (a:Adr):Sp:=fun vs H Q E => ∃ z d dx lr t lb bs s w F u N u' N',∃ m n:Nat,vs = [.ref d,.int (m:Nat),.int (n:Nat)] ∧ DeskAt a z H d dx lr (.ref t) lb bs s ∧ s.held = some w ∧ HeldT a s.grammar z H t w F ∧ Fo.node F m = some (u,N) ∧ Fo.node F n = some (u',N') ∧
  ((m + 1 + Fo.sz N ≤ n ∨ n + 1 + Fo.sz N' ≤ m) → Vaglri.lhsAt s.grammar w.tree m = Vaglri.lhsAt s.grammar w.tree n → Q .non H) ∧
  (¬ ((m + 1 + Fo.sz N ≤ n ∨ n + 1 + Fo.sz N' ≤ m) ∧ Vaglri.lhsAt s.grammar w.tree m = Vaglri.lhsAt s.grammar w.tree n) → Raises K a.Refusal (-10) H [] E)
theorem lhs_some {a:Adr} {g:Vaglri.Grammar} {z:Addr} {H:Hp} {t:Addr} {w:Vaglri.Whole} {F:Fo} {n:Nat} (h:HeldT a g z H t w F) (hn:n < Fo.sz F):∃ b,Vaglri.lhsAt g w.tree n = some b:=by
  obtain ⟨u,N,hN⟩:=Fo.node_some hn
  have hu:=(Fo.ru_node h.wh.ru hN).1
  unfold Vaglri.lhsAt
  rw [h.wh.tree,Fo.fl_get hN]
  exact ⟨_,by show (g.rules[u.1]?).map (fun q => q.lhs) = _; rw [List.getElem?_eq_getElem hu]; rfl⟩
theorem ok_check_swap (T:Txt K mg a):Ok P w K mg base 4 a.check_swap ["desk","one","other"] (sp_check_swap K a):=by
  obtain ⟨_,F_stands_beneath,b_stands_beneath⟩:=ok_stands_beneath (P:=P) (w:=w) (base:=base) T
  obtain ⟨_,F_nonterminal_of,b_nonterminal_of⟩:=ok_nonterminal_of (P:=P) (w:=w) (base:=base) T
  refine T.f_check_swap.okX sc_check_swap (fun vs H Q E h => ?_) ?_
  · obtain ⟨z,d,dx,lr,t,lb,bs,s0,w0,F,u,N,u',N',m,n,rfl,_⟩:=h
    rfl
  · rintro X cdv A outer s H vs Q E rfl hr hX hP ⟨z,d,dx,lr,t,lb,bs,s0,w0,F,u,N,u',N',m,n,rfl,D,hs,hH,hN,hN',q1,q2⟩
    refine ⟨_,(pss_cons (ps_if (pw_or (pt_cmpR op_eq (pv 1) (pv 2) (nomark _)) (pw_or (pt_val (pe_call F_stands_beneath (hr.mono (by decide)) (by rfl) T.g_stands_beneath T.f_stands_beneath.kp b_stands_beneath .nil passE0 (pa_cons (pe_fld (pv 0) rfl) (pa_cons (pv 1) (pa_cons (pv 2) pa_nil))))) (pw_or1 (pt_val (pe_call F_stands_beneath (hr.mono (by decide)) (by rfl) T.g_stands_beneath T.f_stands_beneath.kp b_stands_beneath .nil passE0 (pa_cons (pe_fld (pv 0) rfl) (pa_cons (pv 2) (pa_cons (pv 1) pa_nil)))))))).pt (pss_one (rs_NotToBeSwapped T (hr.mono (by decide)) hX rfl rfl)) pss_nil)
      (pss_one (ps_if (pt_cmpR op_ne (pe_call F_nonterminal_of (hr.mono (by decide)) (by rfl) T.g_nonterminal_of T.f_nonterminal_of.kp b_nonterminal_of .nil passE0 (pa_cons (pv 0) (pa_cons (pv 1) pa_nil))) (pe_call F_nonterminal_of (hr.mono (by decide)) (by rfl) T.g_nonterminal_of T.f_nonterminal_of.kp b_nonterminal_of .nil passE0 (pa_cons (pv 0) (pa_cons (pv 2) pa_nil))) (nomark _)) (pss_one (rs_NotToBeSwapped T (hr.mono (by decide)) hX rfl rfl)) pss_nil))),?_⟩
    obtain ⟨dx1,lo,ln,lp,us,hT⟩:=hH.at_
    have lt1:=Fo.node_lt hN
    have lt2:=Fo.node_lt hN'
    obtain ⟨b1,hb1⟩:=lhs_some hH (show m < Fo.sz F by omega)
    obtain ⟨b2,hb2⟩:=lhs_some hH (show n < Fo.sz F by omega)
    have bad:¬ (m + 1 + Fo.sz N ≤ n ∨ n + 1 + Fo.sz N' ≤ m) → tRs a.NotToBeSwapped (-10) E _ _ H:=fun c => rs_of (D:={ nx:=fun _ H' => Q .non H',rt:=Q }) (σ:=[]) T.sub_NotToBeSwapped T.x_NotToBeSwapped Kp.refl (q2 fun z => c z.1)
    refine ⟨_,rfl,_,rfl,rfl,_,rfl,?_⟩
    refine ite2 (fun c => ?_) (fun c => ?_)
    · have c1:=dT c
      injection c1 with c1
      refine iteT (bad ?_)
      have:m = n:=by omega
      subst this
      omega
    · have c1:m ≠ n:=fun e => c (decide_eq_true (by rw [e]))
      refine ⟨_,rfl,d,a.Desk,dx,_,_,rfl,D.obj,T.c_Desk,T.n_Desk_tree,rfl,_,rfl,_,rfl,z,t,dx1,lo,ln,lp,us,w0.text,F,u',N',m,n,rfl,hT,hH.wh.one,hN',_,rfl,?_⟩
      refine ite2 (fun c => ?_) (fun c => ?_)
      · have c2:=dT c
        exact iteT (bad (by omega))
      · have c2:=dF c
        refine ⟨_,rfl,d,a.Desk,dx,_,_,rfl,D.obj,T.c_Desk,T.n_Desk_tree,rfl,_,rfl,_,rfl,z,t,dx1,lo,ln,lp,us,w0.text,F,u,N,n,m,rfl,hT,hH.wh.one,hN,_,rfl,?_⟩
        refine ite2 (fun c => ?_) (fun c => ?_)
        · have c3:=dT c
          exact bad (by omega)
        · have c3:=dF c
          have ap:m + 1 + Fo.sz N ≤ n ∨ n + 1 + Fo.sz N' ≤ m:=by omega
          refine ⟨_,rfl,_,rfl,z,d,dx,lr,t,lb,bs,s0,w0,F,m,rfl,D,hs,hH,by omega,fun b h1 => ?_⟩
          refine ⟨_,rfl,_,rfl,z,d,dx,lr,t,lb,bs,s0,w0,F,n,rfl,D,hs,hH,by omega,fun b' h2 => ?_⟩
          rw [hb1] at h1
          rw [hb2] at h2
          cases h1
          cases h2
          refine ⟨rfl,_,rfl,?_⟩
          refine ite2 (fun c => ?_) (fun c => ?_)
          · refine rs_of T.sub_NotToBeSwapped T.x_NotToBeSwapped Kp.refl (q2 fun z => ?_)
            have:=z.2
            rw [hb1,hb2] at this
            cases this
            simp at c
          · refine q1 ap ?_
            have:V.int ((b1:Nat):Int) = V.int ((b2:Nat):Int):=by simpa using c
            injection this with this
            rw [hb1,hb2,show b1 = b2 by omega]
end
end TC
namespace TC
open PySem PySem.Spec PyProof.Rows L2
noncomputable def Dk (a:Adr) (z:Addr) (H:Hp) (d:Addr) (s:Vaglri.State):Prop:=∃ dx lr tv lb bs,DeskAt a z H d dx lr tv lb bs s
noncomputable def KX (d:Addr) (H H':Hp):Prop:=∀ b o,H b = some o → b ≠ d → (∀ v r,o ≠ .lst (.ref v :: r)) → H' b = some o
theorem KX.of {d:Addr} {H H':Hp} (k:Kp [d] H H'):KX d H H':=fun b o h n _ => k b o h (by simpa using n)
theorem KX.same {d:Addr} {H H':Hp} (k:Same H H'):KX d H H':=fun b o h _ _ => k b o h
noncomputable def ArgsAt (z:Addr) (H:Hp) (la:Addr) (xs:List Int) (rows:List (List Int)):Prop:=∃ rs:List Addr,H la = some (.lst (xs.map V.int ++ rs.map V.ref)) ∧ Paired (fun l ns => H l = some (.lst (ns.map V.int)) ∧ l ≠ z) rs rows
noncomputable def Res (K:PySem.W.Frag) (a:Adr) (z:Addr) (H:Hp) (d:Addr) (s:Vaglri.State) (r:Vaglri.State × List Int) (Q:VK) (E:XK):Prop :=
  (∀ rest l H',r.2 = 0 :: rest → Dk a z H' d r.1 → H' l = some (.lst (rest.map V.int)) → KX d H H' → rest.length ≤ 9999 → Q (.ref l) H') ∧ (∀ n,r = (s,[n]) → n < 0 → Raises K a.Refusal n H [] E)
noncomputable def spC (K:PySem.W.Frag) (a:Adr) (ok:List Int → List (List Int) → Vaglri.Call → Prop):Sp:=fun vs H Q E => ∃ z d la s xs rows c,vs = [.ref d,.ref la] ∧ Dk a z H d s ∧ H z ≠ none ∧ ArgsAt z H la xs rows ∧ ok xs rows c ∧ Res K a z H d s (Vaglri.step s c) Q E
section
variable {z:Addr} {H:Hp} {la:Addr}
theorem args1 {x:Int} (h:ArgsAt z H la [x] []):H la = some (.lst [.int x]):=by
  obtain ⟨rs,h1,h2⟩:=h
  cases h2
  exact h1
theorem args2 {x y:Int} (h:ArgsAt z H la [x,y] []):H la = some (.lst [.int x,.int y]):=by
  obtain ⟨rs,h1,h2⟩:=h
  cases h2
  exact h1
theorem args01 {ns:List Int} (h:ArgsAt z H la [] [ns]):∃ l,H la = some (.lst [.ref l]) ∧ H l = some (.lst (ns.map V.int)) ∧ l ≠ z:=by
  obtain ⟨rs,h1,h2⟩:=h
  cases h2 with
  | cons h3 h4 => cases h4; exact ⟨_,h1,h3⟩
theorem args02 {ms ns:List Int} (h:ArgsAt z H la [] [ms,ns]):∃ l l',H la = some (.lst [.ref l,.ref l']) ∧ H l = some (.lst (ms.map V.int)) ∧ l ≠ z ∧ H l' = some (.lst (ns.map V.int)) ∧ l' ≠ z:=by
  obtain ⟨rs,h1,h2⟩:=h
  cases h2 with
  | cons h3 h4 =>
    cases h4 with
    | cons h5 h6 => cases h6; exact ⟨_,_,h1,h3.1,h3.2,h5.1,h5.2⟩
theorem args12 {x:Int} {ms ns:List Int} (h:ArgsAt z H la [x] [ms,ns]):∃ l l',H la = some (.lst [.int x,.ref l,.ref l']) ∧ H l = some (.lst (ms.map V.int)) ∧ l ≠ z ∧ H l' = some (.lst (ns.map V.int)) ∧ l' ≠ z:=by
  obtain ⟨rs,h1,h2⟩:=h
  cases h2 with
  | cons h3 h4 =>
    cases h4 with
    | cons h5 h6 => cases h6; exact ⟨_,_,h1,h3.1,h3.2,h5.1,h5.2⟩
end
theorem ints_nsV (m:List Nat):nsV m = (Vaglri.toInts m).map V.int:=by unfold nsV Vaglri.toInts; rw [List.map_map]; rfl
theorem toInts_len (m:List Nat):(Vaglri.toInts m).length = m.length:=List.length_map _
section
variable {a:Adr} {z:Addr} {H H1 H2:Hp} {d dx lr:Addr} {tv tv':V} {lb lb':Addr} {bs:List V} {s:Vaglri.State}
theorem Dk.same {H':Hp} (h:Dk a z H d s) (k:Same H H'):Dk a z H' d s:=by
  obtain ⟨dx,lr,tv,lb,bs,h⟩:=h
  exact ⟨dx,lr,tv,lb,bs,h.same k⟩
theorem Dk_begin {o:Option Vaglri.Whole} (D:DeskAt a z H d dx lr tv lb bs s) (hz:H z ≠ none) (s1:Same H H1) (hv:TvAt a s.grammar z H1 tv' o) (hb:H1 lb' = none) (h1:H2 d = some (.ins a.Desk dx (dkF lr tv' lb'))) (h2:H2 lb' = some (.lst [])) (k:Kp [d] H1 H2) :
    Dk a z H2 d { grammar:=s.grammar,held:=o,past:=[] }:=by
  have D1:=D.same s1
  exact ⟨dx,lr,tv',lb',[],h1,D1.rul.kp k D1.aln,D.ok8,hv.kp k D1.aln,⟨h2,fun e => Same.there s1 hz (by rw [← e]; exact hb)⟩,.nil,Nat.zero_le _⟩
theorem Dk_change {w w':Vaglri.Whole} {t':Addr} {F':Fo} (D:DeskAt a z H d dx lr tv lb bs s) (hz:H z ≠ none) (s1:Same H H1) (hw:s.held = some w) (hv:HeldT a s.grammar z H1 t' w' F') (hb:H1 lb' = none) (h1:H2 d = some (.ins a.Desk dx (dkF lr (.ref t') lb'))) (h2:H2 lb' = some (.lst (tv :: bs.take 15))) (k:Kp [d] H1 H2) :
    Dk a z H2 d { grammar:=s.grammar,held:=some w',past:=(w :: s.past).take Vaglri.PAST }:=by
  have D1:=D.same s1
  have hh:=D1.held
  rw [hw] at hh
  refine ⟨dx,lr,_,lb',_,h1,D1.rul.kp k D1.aln,D.ok8,⟨t',F',rfl,hv.kp k D1.aln⟩,⟨h2,fun e => Same.there s1 hz (by rw [← e]; exact hb)⟩,?_,by rw [List.length_cons,List.length_take]; omega⟩
  show PastAt a s.grammar z H2 (tv :: bs.take 15) (w :: s.past.take 15)
  exact .cons (TvAt.kp (o:=some w) hh k D1.aln) (Paired.take 15 (D1.past.kp k D1.aln))
theorem whole_err {xs ns:List Int} {n:Int} (h:Vaglri.wholeOf xs ns = .error n):n < 0:=by
  unfold Vaglri.wholeOf at h
  split at h
  · cases h; decide
  · split at h
    · cases h; decide
    · split at h
      · cases h; decide
      · split at h
        · cases h; decide
        · split at h
          · cases h; decide
          · cases h
end
theorem readRules_ok8 {n:Nat}:∀ {k:Nat} {x r:List Nat} {qs:List Vaglrc.Rule},Vaglrc.readRules n k x = some (qs,r) → ∀ q ∈ qs,q.rhs.length ≤ 8
  | 0,x,r,qs,h => by
    have e:(([]:List Vaglrc.Rule),x) = (qs,r):=Option.some.inj h
    cases e
    exact fun _ z => nomatch z
  | k + 1,x,r,qs,h => by
    rw [readRules_succ] at h
    obtain ⟨⟨q1,r1⟩,h1,h2⟩:=Option.bind_eq_some_iff.mp h
    obtain ⟨⟨qs1,r2⟩,h3,h4⟩:=Option.map_eq_some_iff.mp h2
    cases h4
    intro q hq
    rcases List.mem_cons.mp hq with rfl | hq
    · exact (readRule_ok h1).len
    · exact readRules_ok8 h3 q hq
theorem readGrammar_ok8 {x:List Nat} {g:Vaglrc.Grammar} (h:Vaglrc.readGrammar x = some g):∀ q ∈ g.rules,q.rhs.length ≤ 8:=by
  rw [readGrammar_eq] at h
  split at h
  · split at h
    · split at h
      · obtain ⟨⟨qs,r⟩,h1,h2⟩:=Option.bind_eq_some_iff.mp h
        dsimp only at h2
        split at h2
        · cases h2; exact readRules_ok8 h1
        · cases h2
      · cases h
    · cases h
  · cases h
section
variable {P:Program} {w:World} {K:PySem.W.Frag} {mg:Str → Option Value} {base:Heap} {a:Adr}
theorem ok_load (T:Txt K mg a):Ok P w K mg base 8 a.load ["desk","arguments"] (spC K a fun xs rows c => ∃ ns,xs = [] ∧ rows = [ns] ∧ c = .load ns):=by
  obtain ⟨_,F_check_none_below_zero,b_check_none_below_zero⟩:=ok_check_none_below_zero (P:=P) (w:=w) (base:=base) T
  obtain ⟨_,F_read_grammar,b_read_grammar⟩:=ok_read_grammar (P:=P) (w:=w) (base:=base) T
  obtain ⟨_,F_Desk_begin_with,b_Desk_begin_with⟩:=ok_Desk_begin_with (P:=P) (w:=w) (base:=base) T
  refine T.f_load.okX sc_load (fun vs H Q E h => ?_) ?_
  · obtain ⟨z,d,la,s0,xs,rows,c,rfl,_⟩:=h
    rfl
  · rintro X cdv A outer s H vs Q E rfl hr hX hP ⟨z,d,la,s0,xs,rows,c,rfl,⟨dx,lr,tv,lb,bs,D⟩,hz,hA,⟨ns,hx,hrw,hc⟩,q⟩
    refine ⟨_,(pss_cons (ps_set (i:=2) sc_load.nd rfl (Or.inl rfl) (pe_ix ix_list (pv 1) pe_int (fun _ _ => rfl)))
      (pss_cons (ps_expr (pe_call F_check_none_below_zero (hr.mono (by decide)) (by rfl) T.g_check_none_below_zero T.f_check_none_below_zero.kp b_check_none_below_zero .nil hX.passes (pa_cons (pv 2) pa_nil)))
      (pss_cons (ps_fld (pv 0) (pe_call F_read_grammar (hr.mono (by decide)) (by rfl) T.g_read_grammar T.f_read_grammar.kp b_read_grammar .nil hX.passes (pa_cons (pv 2) pa_nil)) rfl)
      (pss_cons (ps_expr (pe_meth (pv 0) T.c_Desk T.m_Desk_begin_with F_Desk_begin_with (hr.mono (by decide)) b_Desk_begin_with .nil passE0 (pa_cons pe_non pa_nil)))
      (pss_one (ps_ret (pe_lst pa_nil))))))),?_⟩
    subst hx hrw hc
    obtain ⟨l0,ha,h0,h0z⟩:=args01 hA
    have qs:Vaglri.step s0 (.load ns) = Vaglri.loading s0 ns:=rfl
    rw [qs] at q
    unfold Vaglri.loading at q
    refine ⟨_,rfl,la,_,_,V.ref l0,rfl,rfl,SqL.of ha,at_of (j:=0) rfl rfl,?_⟩
    refine ⟨_,rfl,l0,ns,rfl,SqL.of h0,fun e => ?_,fun e => ?_⟩
    · rw [if_neg (by rw [e]; decide)] at q
      refine ⟨_,rfl,z,l0,ns,rfl,hz,h0,fun y hy => ?_,fun g gl H1 eg hR s1 => ?_,fun eg => ?_⟩
      · by_cases c:y < 0
        · rw [neg_iff.mpr ⟨y,hy,c⟩] at e; cases e
        · omega
      · have eg':Vaglrc.readGrammar (Vaglri.toNats ns) = some g:=eg
        rw [eg'] at q
        have D1:=D.same s1
        refine ⟨_,rfl,d,a.Desk,dx,_,rfl,D1.obj,T.c_Desk,T.n_Desk_rules,(by show 3 < 1000; decide),?_⟩
        refine ⟨_,rfl,d,dx,_,rfl,upd_same,rfl,d,dx,gl,tv,lb,.non,rfl,upd_same,fun lb' H2 hlb h1 h2 k => ?_⟩
        have nb:lb' ≠ d:=fun e => by rw [e,upd_same] at hlb; cases hlb
        rw [upd_ne nb] at hlb
        have k1:Kp [d] H1 H2:=(Kp.upd (by simp)).trans k
        refine ⟨Nat.zero_le _,fun l hl => ?_⟩
        have s3:=Same.new (o:=.lst []) hl
        refine q.1 [] l _ rfl ?_ upd_same (KX.of ((Kp.same s1).trans (k1.trans (Kp.same s3)))) (Nat.zero_le _)
        refine Dk.same ⟨dx,gl,.non,lb',[],h1,hR.kp k1 D1.aln,readGrammar_ok8 eg',rfl,⟨h2,fun e => Same.there s1 hz (by rw [← e]; exact hlb)⟩,.nil,Nat.zero_le _⟩ s3
      · have eg':Vaglrc.readGrammar (Vaglri.toNats ns) = none:=eg
        rw [eg'] at q
        exact q.2 (-2) rfl (by decide)
    · rw [if_pos e] at q
      exact q.2 (-1) rfl (by decide)
theorem ok_hold (T:Txt K mg a):Ok P w K mg base 7 a.hold ["desk","arguments"] (spC K a fun xs rows c => ∃ ms ns,xs = [] ∧ rows = [ms,ns] ∧ c = .hold ms ns):=by
  obtain ⟨_,F_check_text_with_tree,b_check_text_with_tree⟩:=ok_check_text_with_tree (P:=P) (w:=w) (base:=base) T
  obtain ⟨_,F_Desk_begin_with,b_Desk_begin_with⟩:=ok_Desk_begin_with (P:=P) (w:=w) (base:=base) T
  obtain ⟨_,F_read_tree,b_read_tree⟩:=ok_read_tree (P:=P) (w:=w) (base:=base) T
  obtain ⟨_,F_nodes_told,b_nodes_told⟩:=ok_nodes_told (P:=P) (w:=w) (base:=base) T
  obtain ⟨_,g_START,r_START⟩:=T.k_START
  refine T.f_hold.okX sc_hold (fun vs H Q E h => ?_) ?_
  · obtain ⟨z,d,la,s0,xs,rows,c,rfl,_⟩:=h
    rfl
  · rintro X cdv A outer s H vs Q E rfl hr hX hP ⟨z,d,la,s0,xs,rows,c,rfl,⟨dx,lr,tv,lb,bs,D⟩,hz,hA,⟨ms,ns,hx,hrw,hc⟩,q⟩
    refine ⟨_,(pss_cons (ps_set (i:=2) sc_hold.nd rfl (Or.inl rfl) (pe_ix ix_list (pv 1) pe_int (fun _ _ => rfl)))
      (pss_cons (ps_set (i:=3) sc_hold.nd rfl (Or.inl rfl) (pe_ix ix_list (pv 1) pe_int (fun _ _ => rfl)))
      (pss_cons (ps_expr (pe_call F_check_text_with_tree (hr.mono (by decide)) (by rfl) T.g_check_text_with_tree T.f_check_text_with_tree.kp b_check_text_with_tree .nil hX.passes (pa_cons (pv 2) (pa_cons (pv 3) pa_nil))))
      (pss_cons (ps_expr (pe_meth (pv 0) T.c_Desk T.m_Desk_begin_with F_Desk_begin_with (hr.mono (by decide)) b_Desk_begin_with .nil passE0 (pa_cons (pe_call F_read_tree (hr.mono (by decide)) (by rfl) T.g_read_tree T.f_read_tree.kp b_read_tree .nil hX.passes (pa_cons (pe_fld (pv 0) rfl) (pa_cons (pe_glob (by rfl) g_START r_START) (pa_cons (pv 2) (pa_cons (pe_call F_nodes_told (hr.mono (by decide)) (by rfl) T.g_nodes_told T.f_nodes_told.kp b_nodes_told .nil passE0 (pa_cons (pv 3) pa_nil)) pa_nil))))) pa_nil)))
      (pss_one (ps_ret (pe_lst pa_nil))))))),?_⟩
    subst hx hrw hc
    obtain ⟨l0,l1,ha,h0,h0z,h1,h1z⟩:=args02 hA
    have qs:Vaglri.step s0 (.hold ms ns) = Vaglri.holding s0 ms ns:=rfl
    rw [qs] at q
    unfold Vaglri.holding at q
    refine ⟨_,rfl,la,_,_,V.ref l0,rfl,rfl,SqL.of ha,at_of (j:=0) rfl rfl,?_⟩
    refine ⟨_,rfl,la,_,_,V.ref l1,rfl,rfl,SqL.of ha,at_of (j:=1) rfl rfl,?_⟩
    refine ⟨_,rfl,_,rfl,l0,l1,ms,ns,rfl,SqL.of h0,SqL.of h1,fun v ew e1 e2 e3 e4 e5 ev => ?_,fun n ew => ?_⟩
    · rw [ew] at q
      dsimp only at q
      rw [nsV_toNats e1] at h0
      rw [nsV_toNats e2] at h1
      refine ⟨_,rfl,d,dx,_,rfl,D.obj,rfl,_,rfl,d,a.Desk,dx,_,_,rfl,D.obj,T.c_Desk,T.n_Desk_rules,rfl,_,rfl,_,rfl,l1,Vaglri.toNats ns,rfl,h1,by rw [toNats_len]; exact e4,by rw [toNats_len]; exact e5,fun ln us H1 g1 g2 g3 s1 => ?_⟩
      have D1:=D.same s1
      have tl:=trip_len (Vaglri.toNats ns) (by rw [toNats_len]; exact e4)
      rw [toNats_len] at tl
      subst ev
      refine ⟨z,lr,l0,ln,us,s0.grammar,Vaglri.toNats ms,trip (Vaglri.toNats ns),0,rfl,⟨D1.rul,s1 _ _ h0,g1,g2⟩,by omega,D.ok8,h0z,fun e => hz (by rw [← e]; exact g3),Same.there s1 hz,fun F t dxt lp H2 et W hT s2 => ?_,fun et => ?_⟩
      · rw [if_pos et] at q
        have s12:=s1.trans s2
        have D2:=D.same s12
        refine ⟨d,dx,lr,tv,lb,.ref t,rfl,D2.obj,fun lb' H3 hlb k1 k2 k => ?_⟩
        refine ⟨Nat.zero_le _,fun l hl => ?_⟩
        have s3:=Same.new (o:=.lst []) hl
        refine q.1 [] l _ rfl ?_ upd_same (KX.of ((Kp.same s12).trans (k.trans (Kp.same s3)))) (Nat.zero_le _)
        refine Dk.same (Dk_begin (o:=some { text:=Vaglri.toNats ms,tree:=trip (Vaglri.toNats ns) }) D hz s12 ⟨t,F,rfl,W,⟨dxt,l0,ln,lp,us,hT⟩,?_,?_⟩ hlb k1 k2 k) s3
        · show (Vaglri.toNats ms).length ≤ 24
          rw [toNats_len]
          exact e3
        · show (trip (Vaglri.toNats ns)).length ≤ 500
          omega
      · rw [if_neg (by rw [et]; decide)] at q
        exact (q.2 (-9) rfl (by decide)).mono (Kp.same s1) (fun _ h => h)
    · rw [ew] at q
      exact q.2 n rfl (whole_err ew)
theorem ok_tell_tree (T:Txt K mg a):Ok P w K mg base 5 a.tell_tree ["desk","arguments"] (spC K a fun xs rows c => c = .tree):=by
  obtain ⟨_,F_tell_nodes,b_tell_nodes⟩:=ok_tell_nodes (P:=P) (w:=w) (base:=base) T
  obtain ⟨_,F_held_tree,b_held_tree⟩:=ok_held_tree (P:=P) (w:=w) (base:=base) T
  refine T.f_tell_tree.okX sc_tell_tree (fun vs H Q E h => ?_) ?_
  · obtain ⟨z,d,la,s0,xs,rows,c,rfl,_⟩:=h
    rfl
  · rintro X cdv A outer s H vs Q E rfl hr hX hP ⟨z,d,la,s0,xs,rows,c,rfl,⟨dx,lr,tv,lb,bs,D⟩,hz,hA,hc,q⟩
    refine ⟨_,(pss_one (ps_ret (pe_call F_tell_nodes (hr.mono (by decide)) (by rfl) T.g_tell_nodes T.f_tell_nodes.kp b_tell_nodes .nil passE0 (pa_cons (pe_fld (pe_call F_held_tree (hr.mono (by decide)) (by rfl) T.g_held_tree T.f_held_tree.kp b_held_tree .nil hX.passes (pa_cons (pv 0) pa_nil)) rfl) pa_nil)))),?_⟩
    subst hc
    have qs:Vaglri.step s0 .tree = Vaglri.onHeld s0 (fun w => (s0,0 :: Vaglri.toInts (Vaglrc.flatNodes w.tree))):=rfl
    rw [qs] at q
    unfold Vaglri.onHeld at q
    refine ⟨_,rfl,z,d,dx,lr,tv,lb,bs,s0,rfl,D,fun w0 t F e1 e2 hH => ?_,fun e => ?_⟩
    · rw [e1] at q
      obtain ⟨dxt,lo,ln,lp,us,hT⟩:=hH.at_
      have hsz:=hH.sz
      refine ⟨t,a.Tree,dxt,_,_,rfl,hT.obj,T.c_Tree,T.n_Tree_nodes,rfl,ln,us,Fo.fl F,rfl,hT.nds.1,hT.nod,by rw [Fo.fl_len]; omega,fun l H1 h1 h2 s1 => ?_⟩
      refine q.1 (Vaglri.toInts (Vaglrc.flatNodes w0.tree)) l H1 rfl (Dk.same ⟨dx,lr,tv,lb,bs,D⟩ s1) (by rw [← ints_nsV,hH.wh.tree]; exact h1) (KX.same s1) ?_
      rw [toInts_len]
      have fl3:∀ t:Vaglrc.Tree,(t.flatMap Vaglrc.flatNode).length = 3 * t.length:=fun t => by
        induction t with
        | nil => rfl
        | cons u t ih => rw [List.flatMap_cons,List.length_append,ih,List.length_cons]; show 3 + _ = _; omega
      show (w0.tree.flatMap Vaglrc.flatNode).length + 1 ≤ 9999
      rw [fl3]
      have:=hH.nds
      omega
    · rw [e] at q
      exact q.2 (-6) rfl (by decide)
theorem ok_tell_text (T:Txt K mg a):Ok P w K mg base 5 a.tell_text ["desk","arguments"] (spC K a fun xs rows c => c = .text):=by
  obtain ⟨_,F_held_tree,b_held_tree⟩:=ok_held_tree (P:=P) (w:=w) (base:=base) T
  refine T.f_tell_text.okX sc_tell_text (fun vs H Q E h => ?_) ?_
  · obtain ⟨z,d,la,s0,xs,rows,c,rfl,_⟩:=h
    rfl
  · rintro X cdv A outer s H vs Q E rfl hr hX hP ⟨z,d,la,s0,xs,rows,c,rfl,⟨dx,lr,tv,lb,bs,D⟩,hz,hA,hc,q⟩
    refine ⟨_,(pss_one (ps_ret (pe_fld (pe_call F_held_tree (hr.mono (by decide)) (by rfl) T.g_held_tree T.f_held_tree.kp b_held_tree .nil hX.passes (pa_cons (pv 0) pa_nil)) rfl))),?_⟩
    subst hc
    have qs:Vaglri.step s0 .text = Vaglri.onHeld s0 (fun w => (s0,0 :: Vaglri.toInts w.text)):=rfl
    rw [qs] at q
    unfold Vaglri.onHeld at q
    refine ⟨_,rfl,z,d,dx,lr,tv,lb,bs,s0,rfl,D,fun w0 t F e1 e2 hH => ?_,fun e => ?_⟩
    · rw [e1] at q
      obtain ⟨dxt,lo,ln,lp,us,hT⟩:=hH.at_
      have:=hH.txt
      exact ⟨t,a.Tree,dxt,_,_,rfl,hT.obj,T.c_Tree,T.n_Tree_octets,rfl,q.1 (Vaglri.toInts w0.text) lo H rfl ⟨dx,lr,tv,lb,bs,D⟩ (by rw [← ints_nsV]; exact hT.oct.1) (KX.same Same.refl) (by rw [toInts_len]; omega)⟩
    · rw [e] at q
      exact q.2 (-6) rfl (by decide)
end
end TC
namespace TC
open PySem PySem.Spec PyProof.Rows L2
section
variable {s:Vaglri.State} {k:Int} {f:Vaglri.Whole → Nat → Vaglri.State × List Int} {w:Vaglri.Whole}
theorem onNode_6 (h:s.held = none):Vaglri.onNode s k f = (s,[-6]):=by unfold Vaglri.onNode Vaglri.onHeld; rw [h]
theorem onNode_7 (h:s.held = some w) (c:k < 0 ∨ (w.tree.length:Int) ≤ k):Vaglri.onNode s k f = (s,[-7]):=by
  unfold Vaglri.onNode Vaglri.onHeld
  rw [h]
  dsimp only
  by_cases c1:k < 0
  · rw [if_pos c1]
  · rw [if_neg c1,if_pos (by omega)]
theorem onNode_ok {n:Nat} (h:s.held = some w) (e:k = (n:Int)) (c:n < w.tree.length):Vaglri.onNode s k f = f w n:=by
  unfold Vaglri.onNode Vaglri.onHeld
  rw [h]
  dsimp only
  rw [if_neg (by omega),if_neg (by omega),e,Int.toNat_natCast]
end
theorem flat_len (t:Vaglrc.Tree):(Vaglrc.flatNodes t).length = 3 * t.length + 1:=by
  show (t.flatMap Vaglrc.flatNode).length + 1 = _
  congr 1
  induction t with
  | nil => rfl
  | cons u t ih => rw [List.flatMap_cons,List.length_append,ih,List.length_cons]; show 3 + _ = _; omega
theorem pV_opt (p:Option Nat):pV p = optV p:=by cases p <;> rfl
section
variable {P:Program} {w:World} {K:PySem.W.Frag} {mg:Str → Option Value} {base:Heap} {a:Adr}
theorem HeldT.len {g:Vaglri.Grammar} {z:Addr} {H:Hp} {t:Addr} {w:Vaglri.Whole} {F:Fo} (h:HeldT a g z H t w F):w.tree.length = Fo.sz F:=by rw [h.wh.tree,Fo.fl_len]
theorem ok_tell_kids (T:Txt K mg a):Ok P w K mg base 6 a.tell_kids ["desk","arguments"] (spC K a fun xs rows c => ∃ x,xs = [x] ∧ rows = [] ∧ c = .kids x):=by
  obtain ⟨_,F_children,b_children⟩:=ok_children (P:=P) (w:=w) (base:=base) T
  obtain ⟨_,F_held_tree_with,b_held_tree_with⟩:=ok_held_tree_with (P:=P) (w:=w) (base:=base) T
  refine T.f_tell_kids.okX sc_tell_kids (fun vs H Q E h => ?_) ?_
  · obtain ⟨z,d,la,s0,xs,rows,c,rfl,_⟩:=h
    rfl
  · rintro X cdv A outer s H vs Q E rfl hr hX hP ⟨z,d,la,s0,xs,rows,c,rfl,⟨dx,lr,tv,lb,bs,D⟩,hz,hA,⟨x,hx,hrw,hc⟩,q⟩
    refine ⟨_,(pss_one (ps_ret (pe_call F_children (hr.mono (by decide)) (by rfl) T.g_children T.f_children.kp b_children .nil passE0 (pa_cons (pe_call F_held_tree_with (hr.mono (by decide)) (by rfl) T.g_held_tree_with T.f_held_tree_with.kp b_held_tree_with .nil hX.passes (pa_cons (pv 0) (pa_cons (pe_ix ix_list (pv 1) pe_int (fun _ _ => rfl)) pa_nil))) (pa_cons (pe_ix ix_list (pv 1) pe_int (fun _ _ => rfl)) pa_nil))))),?_⟩
    subst hx hrw hc
    have ha:=args1 hA
    have qs:Vaglri.step s0 (.kids x) = Vaglri.onNode s0 x (fun w n => (s0,0 :: Vaglri.toInts (Vaglri.kidsAt s0.grammar w.tree n))):=rfl
    rw [qs] at q
    refine ⟨_,rfl,_,rfl,la,_,_,V.int x,rfl,rfl,SqL.of ha,at_of (j:=0) rfl rfl,z,d,dx,lr,tv,lb,bs,s0,x,rfl,D,fun w0 t F n e1 e2 hH e3 e4 => ?_,fun e => q.2 (-6) (onNode_6 e) (by decide),fun w0 e c => q.2 (-7) (onNode_7 e c) (by decide)⟩
    rw [onNode_ok e1 e3 (by rw [hH.len]; exact e4)] at q
    obtain ⟨dxt,lo,ln,lp,us,hT⟩:=hH.at_
    have hsz:=hH.sz
    subst e3
    refine ⟨_,rfl,la,_,_,V.int (n:Nat),rfl,rfl,SqL.of ha,at_of (j:=0) rfl rfl,z,t,dxt,lo,ln,lp,us,_,_,_,n,rfl,hT,by rw [Fo.ps_len]; omega,fun l H1 h1 h2 s1 => ?_⟩
    rw [hH.wh.tree,Fo.kids_ps hH.wh.ar e4] at q
    refine q.1 _ l H1 rfl (Dk.same ⟨dx,lr,tv,lb,bs,D⟩ s1) (by rw [← ints_nsV]; exact h1) (KX.same s1) ?_
    rw [toInts_len]
    have:=chF_le n 0 (Fo.ps F)
    rw [Fo.ps_len] at this
    omega
theorem ok_tell_up (T:Txt K mg a):Ok P w K mg base 6 a.tell_up ["desk","arguments"] (spC K a fun xs rows c => ∃ x,xs = [x] ∧ rows = [] ∧ c = .up x):=by
  obtain ⟨_,F_held_tree_with,b_held_tree_with⟩:=ok_held_tree_with (P:=P) (w:=w) (base:=base) T
  obtain ⟨_,F_tell_found,b_tell_found⟩:=ok_tell_found (P:=P) (w:=w) (base:=base) T
  refine T.f_tell_up.okX sc_tell_up (fun vs H Q E h => ?_) ?_
  · obtain ⟨z,d,la,s0,xs,rows,c,rfl,_⟩:=h
    rfl
  · rintro X cdv A outer s H vs Q E rfl hr hX hP ⟨z,d,la,s0,xs,rows,c,rfl,⟨dx,lr,tv,lb,bs,D⟩,hz,hA,⟨x,hx,hrw,hc⟩,q⟩
    refine ⟨_,(pss_cons (ps_set (i:=2) sc_tell_up.nd rfl (Or.inl rfl) (pe_call F_held_tree_with (hr.mono (by decide)) (by rfl) T.g_held_tree_with T.f_held_tree_with.kp b_held_tree_with .nil hX.passes (pa_cons (pv 0) (pa_cons (pe_ix ix_list (pv 1) pe_int (fun _ _ => rfl)) pa_nil))))
      (pss_one (ps_ret (pe_call F_tell_found (hr.mono (by decide)) (by rfl) T.g_tell_found T.f_tell_found.kp b_tell_found .nil passE0 (pa_cons (pe_ix ix_list (pe_fld (pv 2) rfl) (pe_ix ix_list (pv 1) pe_int (fun _ _ => rfl)) (fun _ _ => rfl)) pa_nil))))),?_⟩
    subst hx hrw hc
    have ha:=args1 hA
    have qs:Vaglri.step s0 (.up x) = Vaglri.onNode s0 x (fun w n => (s0,match Vaglri.upAt s0.grammar w.tree n with
      | some m => [0,1,(m:Int)]
      | none => [0,0])):=rfl
    rw [qs] at q
    refine ⟨_,rfl,_,rfl,la,_,_,V.int x,rfl,rfl,SqL.of ha,at_of (j:=0) rfl rfl,z,d,dx,lr,tv,lb,bs,s0,x,rfl,D,fun w0 t F n e1 e2 hH e3 e4 => ?_,fun e => q.2 (-6) (onNode_6 e) (by decide),fun w0 e c => q.2 (-7) (onNode_7 e c) (by decide)⟩
    rw [onNode_ok e1 e3 (by rw [hH.len]; exact e4)] at q
    obtain ⟨dxt,lo,ln,lp,us,hT⟩:=hH.at_
    subst e3
    obtain ⟨p,hp⟩:∃ p,(Fo.ps F)[n]? = some p:=⟨_,List.getElem?_eq_getElem (by rw [Fo.ps_len]; exact e4)⟩
    rw [hH.wh.tree,Fo.up_ps hH.wh.ar e4,hp] at q
    refine ⟨_,rfl,t,a.Tree,dxt,_,_,rfl,hT.obj,T.c_Tree,T.n_Tree_parents,rfl,_,rfl,la,_,_,V.int (n:Nat),rfl,rfl,SqL.of ha,at_of (j:=0) rfl rfl,lp,_,_,_,rfl,rfl,SqL.of hT.par.1,atI_nat (pV_get hp),p,by rw [pV_opt]; rfl,fun l H1 h1 h2 s1 => ?_⟩
    cases p with
    | none => exact q.1 [0] l H1 rfl (Dk.same ⟨dx,lr,tv,lb,bs,D⟩ s1) h1 (KX.same s1) (by decide)
    | some m => exact q.1 [1,(m:Int)] l H1 rfl (Dk.same ⟨dx,lr,tv,lb,bs,D⟩ s1) h1 (KX.same s1) (by show 2 ≤ 9999; decide)
theorem ok_tell_piece (T:Txt K mg a):Ok P w K mg base 6 a.tell_piece ["desk","arguments"] (spC K a fun xs rows c => ∃ x,xs = [x] ∧ rows = [] ∧ c = .piece x):=by
  obtain ⟨_,F_held_tree_with,b_held_tree_with⟩:=ok_held_tree_with (P:=P) (w:=w) (base:=base) T
  refine T.f_tell_piece.okX sc_tell_piece (fun vs H Q E h => ?_) ?_
  · obtain ⟨z,d,la,s0,xs,rows,c,rfl,_⟩:=h
    rfl
  · rintro X cdv A outer s H vs Q E rfl hr hX hP ⟨z,d,la,s0,xs,rows,c,rfl,⟨dx,lr,tv,lb,bs,D⟩,hz,hA,⟨x,hx,hrw,hc⟩,q⟩
    refine ⟨_,(pss_cons (ps_set (i:=2) sc_tell_piece.nd rfl (Or.inl rfl) (pe_call F_held_tree_with (hr.mono (by decide)) (by rfl) T.g_held_tree_with T.f_held_tree_with.kp b_held_tree_with .nil hX.passes (pa_cons (pv 0) (pa_cons (pe_ix ix_list (pv 1) pe_int (fun _ _ => rfl)) pa_nil))))
      (pss_cons (ps_set (i:=3) sc_tell_piece.nd rfl (Or.inl rfl) (pe_ix ix_list (pe_fld (pv 2) rfl) (pe_ix ix_list (pv 1) pe_int (fun _ _ => rfl)) (fun _ _ => rfl)))
      (pss_one (ps_ret (pe_op op_cat (pe_lst (pa_cons (pe_fld (pv 3) rfl) (pa_cons (pe_fld (pv 3) rfl) pa_nil))) (pe_slice sl_list (pe_fld (pv 2) rfl) (po_some (pe_fld (pv 3) rfl)) (po_some (pe_fld (pv 3) rfl)))))))),?_⟩
    subst hx hrw hc
    have ha:=args1 hA
    have qs:Vaglri.step s0 (.piece x) = Vaglri.onNode s0 x (fun w n => (s0,match w.tree[n]? with
      | some u => 0 :: (u.2.1:Int) :: (u.2.2:Int) :: Vaglri.toInts ((w.text.drop u.2.1).take (u.2.2 - u.2.1))
      | none => [-7])):=rfl
    rw [qs] at q
    refine ⟨_,rfl,_,rfl,la,_,_,V.int x,rfl,rfl,SqL.of ha,at_of (j:=0) rfl rfl,z,d,dx,lr,tv,lb,bs,s0,x,rfl,D,fun w0 t F n e1 e2 hH e3 e4 => ?_,fun e => q.2 (-6) (onNode_6 e) (by decide),fun w0 e c => q.2 (-7) (onNode_7 e c) (by decide)⟩
    rw [onNode_ok e1 e3 (by rw [hH.len]; exact e4)] at q
    obtain ⟨dxt,lo,ln,lp,us,hT⟩:=hH.at_
    subst e3
    obtain ⟨u,N,hN⟩:=Fo.node_some e4
    obtain ⟨vk,hvk,xk,dxk,rfl,hxk⟩:=Paired.at_ hT.nod (Fo.fl_get hN)
    rw [hH.wh.tree,Fo.fl_get hN] at q
    dsimp only at q
    have htx:=hH.txt
    refine ⟨_,rfl,t,a.Tree,dxt,_,_,rfl,hT.obj,T.c_Tree,T.n_Tree_nodes,rfl,_,rfl,la,_,_,V.int (n:Nat),rfl,rfl,SqL.of ha,at_of (j:=0) rfl rfl,ln,_,_,_,rfl,rfl,SqL.of hT.nds.1,atI_nat hvk,?_⟩
    refine ⟨_,rfl,xk,a.Node,dxk,_,_,rfl,hxk,T.c_Node,T.n_Node_begin,rfl,_,rfl,xk,a.Node,dxk,_,_,rfl,hxk,T.c_Node,T.n_Node_end,rfl,(by show 2 ≤ sizeLine; decide),fun l1 hl1 => ?_⟩
    have s1:=Same.new (o:=.lst [V.int ((u.2.1:Nat):Int),V.int ((u.2.2:Nat):Int)]) hl1
    have g1:(upd H l1 (.lst [V.int ((u.2.1:Nat):Int),V.int ((u.2.2:Nat):Int)])) l1 = some (.lst [V.int ((u.2.1:Nat):Int),V.int ((u.2.2:Nat):Int)]):=upd_same
    refine ⟨_,rfl,t,a.Tree,dxt,_,_,rfl,s1 _ _ hT.obj,T.c_Tree,T.n_Tree_octets,rfl,_,rfl,xk,a.Node,dxk,_,_,rfl,s1 _ _ hxk,T.c_Node,T.n_Node_begin,rfl,_,rfl,_,rfl,xk,a.Node,dxk,_,_,rfl,s1 _ _ hxk,T.c_Node,T.n_Node_end,rfl,_,rfl,lo,_,rfl,SqL.of (s1 _ _ hT.oct.1),fun l2 hl2 => ?_⟩
    have eo:cutV (nsV w0.text) (some ((u.2.1:Nat):Int)) (some ((u.2.2:Nat):Int)) = nsV ((w0.text.drop u.2.1).take (u.2.2 - u.2.1)):=by
      rw [cutV_nat]
      unfold nsV
      rw [← List.map_drop,← List.map_take]
    rw [eo]
    have hl:((w0.text.drop u.2.1).take (u.2.2 - u.2.1)).length ≤ 24:=by rw [List.length_take,List.length_drop]; omega
    have s2:=Same.new (o:=.lst (nsV ((w0.text.drop u.2.1).take (u.2.2 - u.2.1)))) hl2
    refine ⟨l1,l2,_,_,rfl,rfl,s2 _ _ g1,upd_same,?_,fun l3 hl3 => ?_⟩
    · rw [nsV_len]
      exact Nat.le_trans (show _ ≤ 26 by show 2 + _ ≤ 26; omega) (by decide)
    have s3:=fun o => s1.trans (s2.trans (Same.new (o:=o) hl3))
    refine q.1 _ l3 _ rfl (Dk.same ⟨dx,lr,tv,lb,bs,D⟩ (s3 _)) ?_ (KX.same (s3 _)) ?_
    · rw [upd_same,ints_nsV]
      rfl
    · show (Vaglri.toInts ((w0.text.drop u.2.1).take (u.2.2 - u.2.1))).length + 1 + 1 ≤ 9999
      rw [toInts_len]
      omega
theorem ok_tell_cut (T:Txt K mg a):Ok P w K mg base 6 a.tell_cut ["desk","arguments"] (spC K a fun xs rows c => ∃ x,xs = [x] ∧ rows = [] ∧ c = .cut x):=by
  obtain ⟨_,F_cut_out,b_cut_out⟩:=ok_cut_out (P:=P) (w:=w) (base:=base) T
  obtain ⟨_,F_held_tree_with,b_held_tree_with⟩:=ok_held_tree_with (P:=P) (w:=w) (base:=base) T
  obtain ⟨_,F_tell_nodes,b_tell_nodes⟩:=ok_tell_nodes (P:=P) (w:=w) (base:=base) T
  refine T.f_tell_cut.okX sc_tell_cut (fun vs H Q E h => ?_) ?_
  · obtain ⟨z,d,la,s0,xs,rows,c,rfl,_⟩:=h
    rfl
  · rintro X cdv A outer s H vs Q E rfl hr hX hP ⟨z,d,la,s0,xs,rows,c,rfl,⟨dx,lr,tv,lb,bs,D⟩,hz,hA,⟨x,hx,hrw,hc⟩,q⟩
    refine ⟨_,(pss_cons (ps_set (i:=2) sc_tell_cut.nd rfl (Or.inl rfl) (pe_call F_cut_out (hr.mono (by decide)) (by rfl) T.g_cut_out T.f_cut_out.kp b_cut_out .nil passE0 (pa_cons (pe_call F_held_tree_with (hr.mono (by decide)) (by rfl) T.g_held_tree_with T.f_held_tree_with.kp b_held_tree_with .nil hX.passes (pa_cons (pv 0) (pa_cons (pe_ix ix_list (pv 1) pe_int (fun _ _ => rfl)) pa_nil))) (pa_cons (pe_ix ix_list (pv 1) pe_int (fun _ _ => rfl)) pa_nil))))
      (pss_one (ps_ret (pe_op op_cat (pe_op op_cat (pe_lst (pa_cons (pe_callB call_len_seq (by rfl) T.b_len PySem.boot_len (pa_cons (pe_fld (pv 2) rfl) pa_nil)) pa_nil)) (pe_fld (pv 2) rfl)) (pe_call F_tell_nodes (hr.mono (by decide)) (by rfl) T.g_tell_nodes T.f_tell_nodes.kp b_tell_nodes .nil passE0 (pa_cons (pe_fld (pv 2) rfl) pa_nil)))))),?_⟩
    subst hx hrw hc
    have ha:=args1 hA
    have qs:Vaglri.step s0 (.cut x) = Vaglri.onNode s0 x (fun w n => (s0,match Vaglri.cutTree s0.grammar w n with
      | some v => 0 :: Vaglri.toInts (v.text.length :: (v.text ++ Vaglrc.flatNodes v.tree))
      | none => [-7])):=rfl
    rw [qs] at q
    refine ⟨_,rfl,_,rfl,la,_,_,V.int x,rfl,rfl,SqL.of ha,at_of (j:=0) rfl rfl,z,d,dx,lr,tv,lb,bs,s0,x,rfl,D,fun w0 t F n e1 e2 hH e3 e4 => ?_,fun e => q.2 (-6) (onNode_6 e) (by decide),fun w0 e c => q.2 (-7) (onNode_7 e c) (by decide)⟩
    rw [onNode_ok e1 e3 (by rw [hH.len]; exact e4)] at q
    obtain ⟨dxt,lo,ln,lp,us,hT⟩:=hH.at_
    subst e3
    obtain ⟨u,N,hN⟩:=Fo.node_some e4
    rw [Fo.cut_eq hH.wh hN] at q
    dsimp only at q
    have htx:=hH.txt
    have hsz:=hH.sz
    have lt:=Fo.node_lt hN
    obtain ⟨C,hcl⟩:=Fo.cut_whole hH.wh hN
    have hcl2:(Fo.cutW w0 u N).text.length ≤ 24:=by
      show ((w0.text.drop u.2.1).take (u.2.2 - u.2.1)).length ≤ 24
      rw [List.length_take,List.length_drop]
      omega
    have sc:Fo.sz (Fo.cutF u N) = Fo.sz N + 1:=by unfold Fo.cutF; rw [Fo.sz_sh]; rfl
    refine ⟨_,rfl,la,_,_,V.int (n:Nat),rfl,rfl,SqL.of ha,at_of (j:=0) rfl rfl,z,t,dxt,lo,ln,lp,us,w0.text,F,u,N,0,w0.text.length,n,rfl,hT,hz,hH.wh.one,hN,by omega,hH.wh.pos,fun t1 dx1 lo1 ln1 lp1 us1 H1 hT1 s1 => ?_⟩
    have hT1:TreeAt a z H1 t1 dx1 lo1 ln1 lp1 us1 (Fo.cutW w0 u N).text (Fo.fl (Fo.cutF u N)) (Fo.ps (Fo.cutF u N)):=hT1
    refine ⟨_,rfl,t1,a.Tree,dx1,_,_,rfl,hT1.obj,T.c_Tree,T.n_Tree_octets,rfl,lo1,_,rfl,.inl (SqL.of hT1.oct.1),(by show 1 ≤ sizeLine; decide),fun l1 hl1 => ?_⟩
    have s2:=Same.new (o:=.lst [V.int (((nsV (Fo.cutW w0 u N).text).length:Nat):Int)]) hl1
    have g2:(upd H1 l1 (.lst [V.int (((nsV (Fo.cutW w0 u N).text).length:Nat):Int)])) l1 = some (.lst [V.int (((nsV (Fo.cutW w0 u N).text).length:Nat):Int)]):=upd_same
    refine ⟨_,rfl,t1,a.Tree,dx1,_,_,rfl,s2 _ _ hT1.obj,T.c_Tree,T.n_Tree_octets,rfl,l1,lo1,_,_,rfl,rfl,g2,s2 _ _ hT1.oct.1,?_,fun l2 hl2 => ?_⟩
    · rw [nsV_len]
      exact Nat.le_trans (show _ ≤ 25 by show 1 + _ ≤ 25; omega) (by decide)
    have s3:=s2.trans (Same.new (o:=.lst ([V.int (((nsV (Fo.cutW w0 u N).text).length:Nat):Int)] ++ nsV (Fo.cutW w0 u N).text)) hl2)
    generalize hH3:upd (upd H1 l1 (.lst [V.int (((nsV (Fo.cutW w0 u N).text).length:Nat):Int)])) l2 (.lst ([V.int (((nsV (Fo.cutW w0 u N).text).length:Nat):Int)] ++ nsV (Fo.cutW w0 u N).text)) = H3 at s3 ⊢
    have g3:H3 l2 = some (.lst ([V.int (((nsV (Fo.cutW w0 u N).text).length:Nat):Int)] ++ nsV (Fo.cutW w0 u N).text)):=by rw [← hH3]; exact upd_same
    refine ⟨_,rfl,t1,a.Tree,dx1,_,_,rfl,s3 _ _ hT1.obj,T.c_Tree,T.n_Tree_nodes,rfl,ln1,us1,Fo.fl (Fo.cutF u N),rfl,s3 _ _ hT1.nds.1,hT1.nod.same s3,by rw [Fo.fl_len]; omega,fun l4 H4 h4 _ s4 => ?_⟩
    refine ⟨l2,l4,_,_,rfl,rfl,s4 _ _ g3,h4,?_,fun l5 hl5 => ?_⟩
    · rw [List.length_append,nsV_len,nsV_len,flat_len,Fo.fl_len]
      exact Nat.le_trans (show _ ≤ 2000 by show 1 + _ + _ ≤ 2000; omega) (by decide)
    have s5:=fun o => s1.trans (s3.trans (s4.trans (Same.new (o:=o) hl5)))
    refine q.1 _ l5 _ rfl (Dk.same ⟨dx,lr,tv,lb,bs,D⟩ (s5 _)) ?_ (KX.same (s5 _)) ?_
    · rw [upd_same,← ints_nsV]
      show some (HO.lst ([V.int (((nsV (Fo.cutW w0 u N).text).length:Nat):Int)] ++ nsV (Fo.cutW w0 u N).text ++ nsV (Vaglrc.flatNodes (Fo.fl (Fo.cutF u N))))) = some (HO.lst (V.int (((Fo.cutW w0 u N).text.length:Nat):Int) :: nsV ((Fo.cutW w0 u N).text ++ Vaglrc.flatNodes (Fo.fl (Fo.cutF u N)))))
      rw [nsV_len,nsV_app,List.append_assoc]
      rfl
    · rw [toInts_len,List.length_cons,List.length_append,flat_len]
      have:(Fo.cutW w0 u N).tree.length = Fo.sz N + 1:=by show (Fo.fl (Fo.cutF u N)).length = _; rw [Fo.fl_len,sc]
      omega
theorem ok_tell_path (T:Txt K mg a):Ok P w K mg base 6 a.tell_path ["desk","arguments"] (spC K a fun xs rows c => ∃ x,xs = [x] ∧ rows = [] ∧ c = .path x):=by
  obtain ⟨_,F_path_to,b_path_to⟩:=ok_path_to (P:=P) (w:=w) (base:=base) T
  obtain ⟨_,F_held_tree_with,b_held_tree_with⟩:=ok_held_tree_with (P:=P) (w:=w) (base:=base) T
  refine T.f_tell_path.okX sc_tell_path (fun vs H Q E h => ?_) ?_
  · obtain ⟨z,d,la,s0,xs,rows,c,rfl,_⟩:=h
    rfl
  · rintro X cdv A outer s H vs Q E rfl hr hX hP ⟨z,d,la,s0,xs,rows,c,rfl,⟨dx,lr,tv,lb,bs,D⟩,hz,hA,⟨x,hx,hrw,hc⟩,q⟩
    refine ⟨_,(pss_one (ps_ret (pe_call F_path_to (hr.mono (by decide)) (by rfl) T.g_path_to T.f_path_to.kp b_path_to .nil passE0 (pa_cons (pe_call F_held_tree_with (hr.mono (by decide)) (by rfl) T.g_held_tree_with T.f_held_tree_with.kp b_held_tree_with .nil hX.passes (pa_cons (pv 0) (pa_cons (pe_ix ix_list (pv 1) pe_int (fun _ _ => rfl)) pa_nil))) (pa_cons (pe_ix ix_list (pv 1) pe_int (fun _ _ => rfl)) pa_nil))))),?_⟩
    subst hx hrw hc
    have ha:=args1 hA
    have qs:Vaglri.step s0 (.path x) = Vaglri.onNode s0 x (fun w n => (s0,0 :: Vaglri.toInts (Vaglri.pathTo s0.grammar w.tree (w.tree.length + 1) n))):=rfl
    rw [qs] at q
    refine ⟨_,rfl,_,rfl,la,_,_,V.int x,rfl,rfl,SqL.of ha,at_of (j:=0) rfl rfl,z,d,dx,lr,tv,lb,bs,s0,x,rfl,D,fun w0 t F n e1 e2 hH e3 e4 => ?_,fun e => q.2 (-6) (onNode_6 e) (by decide),fun w0 e c => q.2 (-7) (onNode_7 e c) (by decide)⟩
    rw [onNode_ok e1 e3 (by rw [hH.len]; exact e4)] at q
    obtain ⟨dxt,lo,ln,lp,us,hT⟩:=hH.at_
    have hsz:=hH.sz
    subst e3
    refine ⟨_,rfl,la,_,_,V.int (n:Nat),rfl,rfl,SqL.of ha,at_of (j:=0) rfl rfl,z,t,dxt,lo,ln,lp,us,_,F,s0.grammar,n,rfl,hT,hH.wh.ar,e4,by omega,fun l H1 h1 h2 s1 => ?_⟩
    rw [hH.len,hH.wh.tree] at q
    refine q.1 _ l H1 rfl (Dk.same ⟨dx,lr,tv,lb,bs,D⟩ s1) (by rw [← ints_nsV]; exact h1) (KX.same s1) ?_
    rw [toInts_len]
    have:=path_le (g:=s0.grammar) (y:=Fo.fl F) (Fo.sz F + 1) n
    omega
theorem ok_tell_measure (T:Txt K mg a):Ok P w K mg base 6 a.tell_measure ["desk","arguments"] (spC K a fun xs rows c => ∃ x,xs = [x] ∧ rows = [] ∧ c = .measure x):=by
  obtain ⟨_,F_held_tree_with,b_held_tree_with⟩:=ok_held_tree_with (P:=P) (w:=w) (base:=base) T
  obtain ⟨_,F_number_behind,b_number_behind⟩:=ok_number_behind (P:=P) (w:=w) (base:=base) T
  obtain ⟨_,F_nodes_on_longest_way,b_nodes_on_longest_way⟩:=ok_nodes_on_longest_way (P:=P) (w:=w) (base:=base) T
  refine T.f_tell_measure.okX sc_tell_measure (fun vs H Q E h => ?_) ?_
  · obtain ⟨z,d,la,s0,xs,rows,c,rfl,_⟩:=h
    rfl
  · rintro X cdv A outer s H vs Q E rfl hr hX hP ⟨z,d,la,s0,xs,rows,c,rfl,⟨dx,lr,tv,lb,bs,D⟩,hz,hA,⟨x,hx,hrw,hc⟩,q⟩
    refine ⟨_,(pss_cons (ps_set (i:=2) sc_tell_measure.nd rfl (Or.inl rfl) (pe_call F_held_tree_with (hr.mono (by decide)) (by rfl) T.g_held_tree_with T.f_held_tree_with.kp b_held_tree_with .nil hX.passes (pa_cons (pv 0) (pa_cons (pe_ix ix_list (pv 1) pe_int (fun _ _ => rfl)) pa_nil))))
      (pss_one (ps_ret (pe_lst (pa_cons (pe_op op_sub (pe_call F_number_behind (hr.mono (by decide)) (by rfl) T.g_number_behind T.f_number_behind.kp b_number_behind .nil passE0 (pa_cons (pv 2) (pa_cons (pe_ix ix_list (pv 1) pe_int (fun _ _ => rfl)) pa_nil))) (pe_ix ix_list (pv 1) pe_int (fun _ _ => rfl))) (pa_cons (pe_call F_nodes_on_longest_way (hr.mono (by decide)) (by rfl) T.g_nodes_on_longest_way T.f_nodes_on_longest_way.kp b_nodes_on_longest_way .nil passE0 (pa_cons (pv 2) (pa_cons (pe_ix ix_list (pv 1) pe_int (fun _ _ => rfl)) pa_nil))) pa_nil)))))),?_⟩
    subst hx hrw hc
    have ha:=args1 hA
    have qs:Vaglri.step s0 (.measure x) = Vaglri.onNode s0 x (fun w n => (s0,[0,(Vaglri.sizeAt s0.grammar w.tree n:Int),(Vaglri.heightAt s0.grammar w.tree (w.tree.length + 1) n:Int)])):=rfl
    rw [qs] at q
    refine ⟨_,rfl,_,rfl,la,_,_,V.int x,rfl,rfl,SqL.of ha,at_of (j:=0) rfl rfl,z,d,dx,lr,tv,lb,bs,s0,x,rfl,D,fun w0 t F n e1 e2 hH e3 e4 => ?_,fun e => q.2 (-6) (onNode_6 e) (by decide),fun w0 e c => q.2 (-7) (onNode_7 e c) (by decide)⟩
    rw [onNode_ok e1 e3 (by rw [hH.len]; exact e4)] at q
    obtain ⟨dxt,lo,ln,lp,us,hT⟩:=hH.at_
    have hsz:=hH.sz
    subst e3
    obtain ⟨u,N,hN⟩:=Fo.node_some e4
    rw [hH.wh.tree,Fo.sizeAt_node hH.wh.ar hN,Fo.height_node hH.wh.ar hN] at q
    refine ⟨_,rfl,_,rfl,la,_,_,V.int (n:Nat),rfl,rfl,SqL.of ha,at_of (j:=0) rfl rfl,z,t,dxt,lo,ln,lp,us,_,F,u,N,n,rfl,hT,hH.wh.one,hN,_,rfl,la,_,_,V.int (n:Nat),rfl,rfl,SqL.of ha,at_of (j:=0) rfl rfl,_,_,rfl,rfl,?_⟩
    refine ⟨_,rfl,_,rfl,la,_,_,V.int (n:Nat),rfl,rfl,SqL.of ha,at_of (j:=0) rfl rfl,z,t,dxt,lo,ln,lp,us,_,F,u,N,n,rfl,hT,hH.wh.one,hN,by omega,fun H1 s1 => ?_⟩
    refine ⟨(by show 2 ≤ sizeLine; decide),fun l hl => ?_⟩
    have s2:=fun o => s1.trans (Same.new (o:=o) hl)
    refine q.1 _ l _ rfl (Dk.same ⟨dx,lr,tv,lb,bs,D⟩ (s2 _)) ?_ (KX.same (s2 _)) (by show 2 ≤ 9999; decide)
    rw [upd_same]
    show some (HO.lst [V.int (((n + 1 + Fo.sz N:Nat):Int) - ((n:Nat):Int)),V.int ((Fo.ht N + 1:Nat):Int)]) = some (HO.lst [V.int ((Fo.sz N + 1:Nat):Int),V.int ((Fo.ht N + 1:Nat):Int)])
    rw [show ((n + 1 + Fo.sz N:Nat):Int) - ((n:Nat):Int) = ((Fo.sz N + 1:Nat):Int) by omega]
theorem ok_undo (T:Txt K mg a):Ok P w K mg base 5 a.undo ["desk","arguments"] (spC K a fun xs rows c => c = .undo):=by
  obtain ⟨_,F_Desk_go_back,b_Desk_go_back⟩:=ok_Desk_go_back (P:=P) (w:=w) (base:=base) T
  refine T.f_undo.okX sc_undo (fun vs H Q E h => ?_) ?_
  · obtain ⟨z,d,la,s0,xs,rows,c,rfl,_⟩:=h
    rfl
  · rintro X cdv A outer s H vs Q E rfl hr hX hP ⟨z,d,la,s0,xs,rows,c,rfl,⟨dx,lr,tv,lb,bs,D⟩,hz,hA,hc,q⟩
    refine ⟨_,(pss_cons (ps_expr (pe_meth0 (pv 0) T.c_Desk T.m_Desk_go_back F_Desk_go_back (hr.mono (by decide)) b_Desk_go_back .nil hX.passes))
      (pss_one (ps_ret (pe_lst pa_nil)))),?_⟩
    subst hc
    have qs:Vaglri.step s0 .undo = match s0.past with
      | [] => (s0,[-11])
      | w :: l => ({ s0 with held:=some w,past:=l },[0]):=rfl
    rw [qs] at q
    refine ⟨_,rfl,d,dx,_,rfl,D.obj,rfl,d,dx,lr,tv,lb,bs,rfl,D.obj,D.bef.1,fun v r e => ?_,fun e => ?_⟩
    · have hp:=D.past
      rw [e] at hp
      obtain ⟨w0,r0,ep,t,F,ev,hH⟩:=Paired.head hp
      rw [ep] at hp q
      cases hp with
      | cons hp1 hp2 =>
      obtain ⟨dxt,lo,ln,lp,us,hT⟩:=hH.at_
      subst ev
      have nd:lb ≠ d:=fun e => by have h1:=D.bef.1; rw [e,D.obj] at h1; cases h1
      refine ⟨Nat.zero_le _,fun l hl => ?_⟩
      generalize hH1:upd (upd H lb (.lst r)) d (.ins a.Desk dx (dkF lr (.ref t) lb)) = H1 at hl
      have k:Kp [lb,d] H H1:=fun b o hb hn => by
        have h1:b ≠ lb:=fun e => hn (by simp [e])
        have h2:b ≠ d:=fun e => hn (by simp [e])
        rw [← hH1,upd_ne h2,upd_ne h1]
        exact hb
      have al:∀ b ∈ [lb,d],Aln z H b:=fun b hb => by
        rcases List.mem_cons.mp hb with e9 | hb
        · rw [e9]
          exact .inr (.inr ⟨t,r,_,_,_,by rw [D.bef.1,e],hT.obj,rfl⟩)
        · exact D.aln b hb
      have s3:=Same.new (o:=.lst []) hl
      refine q.1 [] l _ rfl ?_ upd_same ?_ (Nat.zero_le _)
      · have few:=D.few
        rw [e] at few
        refine Dk.same ⟨dx,lr,.ref t,lb,r,by rw [← hH1]; exact upd_same,D.rul.kp k al,D.ok8,⟨t,F,rfl,hH.kp k al⟩,⟨by rw [← hH1,upd_ne nd]; exact upd_same,D.bef.2⟩,PastAt.kp hp2 k al,by rw [List.length_cons] at few; omega⟩ s3
      · intro b o hb n1 n2
        refine s3 _ _ (k b o hb fun hm => ?_)
        rcases List.mem_cons.mp hm with e1 | hm
        · rw [e1,D.bef.1,e] at hb
          cases hb
          exact n2 _ _ rfl
        · exact n1 (List.mem_singleton.mp hm)
    · have hp:=D.past
      rw [e] at hp
      have ep:s0.past = []:=by
        cases h:s0.past with
        | nil => rfl
        | cons _ _ => rw [h] at hp; cases hp
      rw [ep] at q
      exact q.2 (-11) rfl (by decide)
end
end TC
namespace TC
open PySem PySem.Spec PyProof.Rows L2
theorem numbersOf_eq (y:Vaglrc.Tree) (f:Nat → Vaglrc.Used → Bool):Vaglri.numbersOf y f = (List.range y.length).filter fun m => match y[m]? with | some u => f m u | none => false:=by
  have key:∀ i,i ≤ y.length → ((List.range i).zip (y.take i)).filterMap (fun p => if f p.1 p.2 then some p.1 else none) = (List.range i).filter fun m => match y[m]? with | some u => f m u | none => false:=by
    intro i
    induction i with
    | zero => intro _; rfl
    | succ i ih =>
      intro h
      have hu:y[i]? = some (y[i]'(by omega)):=List.getElem?_eq_getElem _
      rw [List.take_succ_eq_append_getElem (by omega),List.range_succ,List.zip_append (by simp; omega),List.filterMap_append,ih (by omega),List.filter_append]
      congr 1
      generalize (y[i]'(by omega)) = u at hu ⊢
      show List.filterMap (fun p:Nat × Vaglrc.Used => if f p.1 p.2 then some p.1 else none) [(i,u)] = _
      rw [List.filterMap_cons,List.filter_cons,hu]
      dsimp only
      by_cases c:f i u = true
      · rw [if_pos c,if_pos c]
        rfl
      · rw [if_neg c,if_neg c]
        rfl
  have:=key y.length (Nat.le_refl _)
  rw [List.take_length] at this
  exact this
theorem numbersOf_rule (y:Vaglrc.Tree) (r:Nat):Vaglri.numbersOf y (fun _ u => u.1 == r) = ofRule y r y.length:=by
  rw [numbersOf_eq]
  unfold ofRule
  apply List.filter_congr
  intro m _
  cases y[m]? with
  | none => rfl
  | some u =>
    show (u.1 == r) = decide (some u.1 = some r)
    by_cases c:u.1 = r
    · rw [c]; simp
    · simp [c]
theorem bnR_iff {F:Fo} {r:Nat}:∀ {m:Nat},bnR (Fo.fl F) (Fo.ps F) r (m + 1) m = true ↔ ∃ k u N,Fo.node F k = some (u,N) ∧ u.1 = r ∧ k < m ∧ m < k + 1 + Fo.sz N:=by
  intro m
  induction m using Nat.strongRecOn with
  | ind m ih =>
    rw [bnR]
    cases e:(Fo.ps F)[m]? with
    | none =>
      constructor
      · intro z; cases z
      · rintro ⟨k,u,N,h1,h2,h3,h4⟩
        obtain ⟨q,h5,_⟩:=(Fo.beneath_iff h1).mp ⟨h3,h4⟩
        rw [e] at h5; cases h5
    | some p =>
      cases p with
      | none =>
        constructor
        · intro z; cases z
        · rintro ⟨k,u,N,h1,h2,h3,h4⟩
          obtain ⟨q,h5,_⟩:=(Fo.beneath_iff h1).mp ⟨h3,h4⟩
          rw [e] at h5; cases h5
      | some q =>
        have hq:=Fo.par_lt e
        dsimp only
        rw [bnR_fuel (fun m q h => Fo.par_lt h) (f:=m) (f':=q + 1) hq (by omega),Bool.or_eq_true_iff,ih q hq]
        constructor
        · rintro (⟨k,u,N,h1,h2,h3,h4⟩ | h)
          · have:=(Fo.beneath_iff h1 (m:=m)).mpr ⟨q,e,by omega,h4⟩
            exact ⟨k,u,N,h1,h2,this.1,this.2⟩
          · have h:=dT h
            cases hu:(Fo.fl F)[q]? with
            | none => rw [hu] at h; cases h
            | some u =>
              rw [hu] at h
              obtain ⟨N,hN⟩:=Fo.node_get hu
              have:=(Fo.beneath_iff hN (m:=m)).mpr ⟨q,e,Nat.le_refl _,by omega⟩
              exact ⟨q,u,N,hN,Option.some.inj h,this.1,this.2⟩
        · rintro ⟨k,u,N,h1,h2,h3,h4⟩
          obtain ⟨q',h5,h6,h7⟩:=(Fo.beneath_iff h1).mp ⟨h3,h4⟩
          rw [e] at h5
          cases h5
          by_cases c:k = q
          · subst c
            exact .inr (decide_eq_true (by rw [Fo.fl_get h1]; show some u.1 = _; rw [h2]))
          · exact .inl ⟨k,u,N,h1,h2,by omega,h7⟩
theorem under_eq {g:Vaglri.Grammar} {F:Fo} (hA:Fo.Ar g F) (p q:Nat):Vaglri.underOf g (Fo.fl F) p q = (ofRule (Fo.fl F) q (Fo.sz F)).filter fun m => bnR (Fo.fl F) (Fo.ps F) p (m + 1) m:=by
  unfold Vaglri.underOf
  rw [numbersOf_eq,numbersOf_rule,Fo.fl_len]
  rw [show ofRule (Fo.fl F) q (Fo.sz F) = (List.range (Fo.sz F)).filter fun m => decide (((Fo.fl F)[m]?.map fun u => u.1) = some q) from rfl,List.filter_filter]
  apply List.filter_congr
  intro m hm
  have hm:=List.mem_range.mp hm
  cases hu:(Fo.fl F)[m]? with
  | none =>
    have:=List.getElem?_eq_none_iff.mp hu
    rw [Fo.fl_len] at this
    omega
  | some u =>
    dsimp only
    have e1:(u.1 == q) = decide ((some u).map (fun u:Vaglrc.Used => u.1) = some q):=by
      show (u.1 == q) = decide (some u.1 = some q)
      by_cases c:u.1 = q
      · rw [c]; simp
      · simp [c]
    rw [e1,Bool.and_comm]
    congr 1
    rw [Bool.eq_iff_iff,bnR_iff,List.any_eq_true]
    constructor
    · rintro ⟨k,hk,c⟩
      obtain ⟨c1,c2⟩:=Bool.and_eq_true_iff.mp c
      have c1:k ≠ m:=by simpa using c1
      unfold ofRule at hk
      obtain ⟨hk1,hk2⟩:=List.mem_filter.mp hk
      have hk1:=List.mem_range.mp hk1
      obtain ⟨v,N,hN⟩:=Fo.node_some hk1
      rw [Fo.within_node hA hN] at c2
      have c2:=dT c2
      have hk2:=dT hk2
      rw [Fo.fl_get hN] at hk2
      exact ⟨k,v,N,hN,Option.some.inj hk2,by omega,c2.2⟩
    · rintro ⟨k,v,N,hN,h2,h3,h4⟩
      refine ⟨k,?_,Bool.and_eq_true_iff.mpr ⟨by simp; omega,?_⟩⟩
      · unfold ofRule
        refine List.mem_filter.mpr ⟨List.mem_range.mpr (by have:=Fo.node_lt hN; omega),decide_eq_true ?_⟩
        rw [Fo.fl_get hN]
        show some v.1 = _
        rw [h2]
      · rw [Fo.within_node hA hN]
        exact decide_eq_true ⟨by omega,h4⟩
section
variable {P:Program} {w:World} {K:PySem.W.Frag} {mg:Str → Option Value} {base:Heap} {a:Adr}
theorem onRule_4 {s:Vaglri.State} {r:Int} {f:Nat → List Int} (c:r < 0 ∨ (s.grammar.rules.length:Int) ≤ r):Vaglri.onRule s r f = [-4]:=by
  unfold Vaglri.onRule
  by_cases c1:r < 0
  · rw [if_pos c1]
  · rw [if_neg c1,if_pos (by omega)]
theorem onRule_ok {s:Vaglri.State} {r:Int} {f:Nat → List Int} {n:Nat} (e:r = (n:Int)) (c:n < s.grammar.rules.length):Vaglri.onRule s r f = f n:=by
  unfold Vaglri.onRule
  rw [if_neg (by omega),if_neg (by omega),e,Int.toNat_natCast]
theorem ok_tell_of (T:Txt K mg a):Ok P w K mg base 5 a.tell_of ["desk","arguments"] (spC K a fun xs rows c => ∃ x,xs = [x] ∧ rows = [] ∧ c = .of x):=by
  obtain ⟨_,F_check_rule,b_check_rule⟩:=ok_check_rule (P:=P) (w:=w) (base:=base) T
  obtain ⟨_,F_nodes_of_rule,b_nodes_of_rule⟩:=ok_nodes_of_rule (P:=P) (w:=w) (base:=base) T
  obtain ⟨_,F_held_tree,b_held_tree⟩:=ok_held_tree (P:=P) (w:=w) (base:=base) T
  refine T.f_tell_of.okX sc_tell_of (fun vs H Q E h => ?_) ?_
  · obtain ⟨z,d,la,s0,xs,rows,c,rfl,_⟩:=h
    rfl
  · rintro X cdv A outer s H vs Q E rfl hr hX hP ⟨z,d,la,s0,xs,rows,c,rfl,⟨dx,lr,tv,lb,bs,D⟩,hz,hA,⟨x,hx,hrw,hc⟩,q⟩
    refine ⟨_,(pss_cons (ps_expr (pe_call F_check_rule (hr.mono (by decide)) (by rfl) T.g_check_rule T.f_check_rule.kp b_check_rule .nil hX.passes (pa_cons (pv 0) (pa_cons (pe_ix ix_list (pv 1) pe_int (fun _ _ => rfl)) pa_nil))))
      (pss_one (ps_ret (pe_call F_nodes_of_rule (hr.mono (by decide)) (by rfl) T.g_nodes_of_rule T.f_nodes_of_rule.kp b_nodes_of_rule .nil passE0 (pa_cons (pe_call F_held_tree (hr.mono (by decide)) (by rfl) T.g_held_tree T.f_held_tree.kp b_held_tree .nil hX.passes (pa_cons (pv 0) pa_nil)) (pa_cons (pe_ix ix_list (pv 1) pe_int (fun _ _ => rfl)) pa_nil)))))),?_⟩
    subst hx hrw hc
    have ha:=args1 hA
    have qs:Vaglri.step s0 (.of x) = (s0,Vaglri.onRule s0 x (fun q => (Vaglri.onHeld s0 (fun w => (s0,0 :: Vaglri.toInts (Vaglri.numbersOf w.tree (fun _ u => u.1 == q))))).2)):=rfl
    rw [qs] at q
    refine ⟨_,rfl,_,rfl,la,_,_,V.int x,rfl,rfl,SqL.of ha,at_of (j:=0) rfl rfl,z,d,dx,lr,tv,lb,bs,s0,x,rfl,D,fun n e1 e2 => ?_,fun c => q.2 (-4) (by rw [onRule_4 c]) (by decide)⟩
    rw [onRule_ok e1 e2] at q
    unfold Vaglri.onHeld at q
    refine ⟨_,rfl,z,d,dx,lr,tv,lb,bs,s0,rfl,D,fun w0 t F e3 e4 hH => ?_,fun e => ?_⟩
    · rw [e3] at q
      obtain ⟨dxt,lo,ln,lp,us,hT⟩:=hH.at_
      have hsz:=hH.sz
      subst e1
      refine ⟨_,rfl,la,_,_,V.int (n:Nat),rfl,rfl,SqL.of ha,at_of (j:=0) rfl rfl,z,t,dxt,lo,ln,lp,us,_,_,_,n,rfl,hT,by rw [Fo.fl_len]; omega,fun l H1 h1 h2 s1 => ?_⟩
      rw [← numbersOf_rule,← hH.wh.tree] at h1
      refine q.1 _ l H1 rfl (Dk.same ⟨dx,lr,tv,lb,bs,D⟩ s1) (by rw [← ints_nsV]; exact h1) (KX.same s1) ?_
      rw [toInts_len,numbersOf_rule]
      have:=ofRule_le w0.tree n w0.tree.length
      rw [hH.len] at this ⊢
      omega
    · rw [e] at q
      exact q.2 (-6) rfl (by decide)
theorem ok_tell_under (T:Txt K mg a):Ok P w K mg base 5 a.tell_under ["desk","arguments"] (spC K a fun xs rows c => ∃ x x',xs = [x,x'] ∧ rows = [] ∧ c = .under x x'):=by
  obtain ⟨_,F_check_rule,b_check_rule⟩:=ok_check_rule (P:=P) (w:=w) (base:=base) T
  obtain ⟨_,F_held_tree,b_held_tree⟩:=ok_held_tree (P:=P) (w:=w) (base:=base) T
  obtain ⟨_,F_beneath_rule,b_beneath_rule⟩:=ok_beneath_rule (P:=P) (w:=w) (base:=base) T
  obtain ⟨_,F_nodes_of_rule,b_nodes_of_rule⟩:=ok_nodes_of_rule (P:=P) (w:=w) (base:=base) T
  refine T.f_tell_under.okX sc_tell_under (fun vs H Q E h => ?_) ?_
  · obtain ⟨z,d,la,s0,xs,rows,c,rfl,_⟩:=h
    rfl
  · rintro X cdv A outer s H vs Q E rfl hr hX hP ⟨z,d,la,s0,xs,rows,c,rfl,⟨dx,lr,tv,lb,bs,D⟩,hz,hA,⟨x,x',hx,hrw,hc⟩,q⟩
    refine ⟨_,(pss_cons (ps_expr (pe_call F_check_rule (hr.mono (by decide)) (by rfl) T.g_check_rule T.f_check_rule.kp b_check_rule .nil hX.passes (pa_cons (pv 0) (pa_cons (pe_ix ix_list (pv 1) pe_int (fun _ _ => rfl)) pa_nil))))
      (pss_cons (ps_expr (pe_call F_check_rule (hr.mono (by decide)) (by rfl) T.g_check_rule T.f_check_rule.kp b_check_rule .nil hX.passes (pa_cons (pv 0) (pa_cons (pe_ix ix_list (pv 1) pe_int (fun _ _ => rfl)) pa_nil))))
      (pss_cons (ps_set (i:=2) sc_tell_under.nd rfl (Or.inl rfl) (pe_call F_held_tree (hr.mono (by decide)) (by rfl) T.g_held_tree T.f_held_tree.kp b_held_tree .nil hX.passes (pa_cons (pv 0) pa_nil)))
      (pss_cons (ps_set (i:=3) sc_tell_under.nd rfl (Or.inr rfl) (pe_call F_beneath_rule (hr.mono (by decide)) (by rfl) T.g_beneath_rule T.f_beneath_rule.kp b_beneath_rule .nil passE0 (pa_cons (pv 2) (pa_cons (pe_ix ix_list (pv 1) pe_int (fun _ _ => rfl)) pa_nil))))
      (pss_one (ps_ret (pe_lc (tt:=tB (tOp (rIxL K) (tVar 3) (tVar 4))) rfl sc_tell_under.nd (pi_list (pe_call F_nodes_of_rule (hr.mono (by decide)) (by rfl) T.g_nodes_of_rule T.f_nodes_of_rule.kp b_nodes_of_rule .nil passE0 (pa_cons (pv 2) (pa_cons (pe_ix ix_list (pv 1) pe_int (fun _ _ => rfl)) pa_nil)))) (own:=[("number",4)]) (show BlkOk n_tell_under (defScope s_tell_under) _ _ from ⟨rfl,by decide +kernel,by decide +kernel,by decide +kernel,by decide +kernel⟩) (fun _ _ _ _ _ => (pg_name (i:=4) sc_tell_under.nd rfl (Or.inl rfl))) (fun _ _ _ _ _ => (pts_one (pt_val (pe_ix ix_list (pv 3) (pv 4) (fun _ _ => rfl))))) (fun _ _ _ _ _ => (pv 4))))))))),?_⟩
    subst hx hrw hc
    have ha:=args2 hA
    have qs:Vaglri.step s0 (.under x x') = (s0,Vaglri.onRule s0 x (fun p => Vaglri.onRule s0 x' (fun q => (Vaglri.onHeld s0 (fun w => (s0,0 :: Vaglri.toInts (Vaglri.underOf s0.grammar w.tree p q)))).2))):=rfl
    rw [qs] at q
    refine ⟨_,rfl,_,rfl,la,_,_,V.int x,rfl,rfl,SqL.of ha,at_of (j:=0) rfl rfl,z,d,dx,lr,tv,lb,bs,s0,x,rfl,D,fun n e1 e2 => ?_,fun c => q.2 (-4) (by rw [onRule_4 c]) (by decide)⟩
    rw [onRule_ok e1 e2] at q
    refine ⟨_,rfl,_,rfl,la,_,_,V.int x',rfl,rfl,SqL.of ha,at_of (j:=1) rfl rfl,z,d,dx,lr,tv,lb,bs,s0,x',rfl,D,fun n' e1' e2' => ?_,fun c => q.2 (-4) (by rw [onRule_4 c]) (by decide)⟩
    rw [onRule_ok e1' e2'] at q
    unfold Vaglri.onHeld at q
    subst e1 e1'
    refine ⟨_,rfl,z,d,dx,lr,tv,lb,bs,s0,rfl,D,fun w0 t F e3 e4 hH => ?_,fun e => ?_⟩
    · rw [e3] at q
      obtain ⟨dxt,lo,ln,lp,us,hT⟩:=hH.at_
      have hsz:=hH.sz
      refine ⟨_,rfl,_,rfl,la,_,_,V.int (n:Nat),rfl,rfl,SqL.of ha,at_of (j:=0) rfl rfl,z,t,dxt,lo,ln,lp,us,_,_,_,n,rfl,hT,by rw [Fo.fl_len]; omega,by rw [Fo.ps_len,Fo.fl_len],fun m q h => Fo.par_lt h,fun lbn H1 h1 h1n s1 => ?_⟩
      rw [Fo.fl_len] at h1
      have ha1:=s1 _ _ ha
      refine ⟨_,rfl,_,rfl,la,_,_,V.int (n':Nat),rfl,rfl,SqL.of ha1,at_of (j:=1) rfl rfl,z,t,dxt,lo,ln,lp,us,_,_,_,n',rfl,hT.same s1,by rw [Fo.fl_len]; omega,fun lof H2 h2 h2n s2 => ?_⟩
      rw [Fo.fl_len] at h2
      have s12:=s1.trans s2
      have h1':=s2 _ _ h1
      refine ⟨lof,rfl,⟨_,SqL.of h2⟩,fun Dl hD => ?_⟩
      have hol:=ofRule_le (Fo.fl F) n' (Fo.sz F)
      refine lc_list (K:=K) (a:=lof) (xs:=nsV (ofRule (Fo.fl F) n' (Fo.sz F))) (fun i H' => Same H2 H' ∧ H' Dl = some (.lst (nsV (((ofRule (Fo.fl F) n' (Fo.sz F)).take i).filter fun m => bnR (Fo.fl F) (Fo.ps F) n (m + 1) m)))) ⟨Same.new hD,upd_same⟩ (fun i H' _ h => SqL.of (h.1 _ _ h2)) ?_ ?_
      · rintro i v H' hv ⟨s3,h3⟩
        obtain ⟨m,hm,rfl⟩:=map_get hv
        have hm2:m < Fo.sz F:=by
          have:=List.mem_of_getElem? hm
          unfold ofRule at this
          exact List.mem_range.mp (List.mem_filter.mp this).1
        have etk:(ofRule (Fo.fl F) n' (Fo.sz F)).take (i + 1) = (ofRule (Fo.fl F) n' (Fo.sz F)).take i ++ [m]:=by
          obtain ⟨w1,w2⟩:=List.getElem?_eq_some_iff.mp hm
          rw [List.take_succ_eq_append_getElem w1,w2]
        refine ⟨rfl,?_⟩
        refine ⟨_,rfl,_,rfl,lbn,_,_,V.bl (bnR (Fo.fl F) (Fo.ps F) n (m + 1) m),rfl,rfl,SqL.of (s3 _ _ h1'),atI_nat (by rw [List.getElem?_map,List.getElem?_range hm2]; rfl),_,rfl,?_⟩
        refine ite2 (fun c => ?_) (fun c => ?_)
        · refine ⟨_,rfl,_,h3,small1000 ?_,Same.put s3 hD,?_⟩
          · rw [nsV_len]
            have:=List.length_filter_le (fun m => bnR (Fo.fl F) (Fo.ps F) n (m + 1) m) ((ofRule (Fo.fl F) n' (Fo.sz F)).take i)
            rw [List.length_take] at this
            omega
          · rw [upd_same,etk,List.filter_append,List.filter_cons,if_pos c,nsV_app]
            rfl
        · refine ⟨s3,?_⟩
          rw [etk,List.filter_append,List.filter_cons,if_neg c,List.filter_nil,List.append_nil]
          exact h3
      · rintro H3 ⟨s3,h3⟩
        rw [nsV_len,List.take_length,← under_eq hH.wh.ar,← hH.wh.tree] at h3
        have s13:=s12.trans s3
        refine q.1 _ Dl H3 rfl (Dk.same ⟨dx,lr,tv,lb,bs,D⟩ s13) (by rw [← ints_nsV]; exact h3) (KX.same s13) ?_
        rw [toInts_len,hH.wh.tree,under_eq hH.wh.ar]
        have:=List.length_filter_le (fun m => bnR (Fo.fl F) (Fo.ps F) n (m + 1) m) (ofRule (Fo.fl F) n' (Fo.sz F))
        omega
    · rw [e] at q
      exact q.2 (-6) rfl (by decide)
theorem ok_tell_node_at (T:Txt K mg a):Ok P w K mg base 5 a.tell_node_at ["desk","arguments"] (spC K a fun xs rows c => ∃ ns,xs = [] ∧ rows = [ns] ∧ c = .at_ ns):=by
  obtain ⟨_,F_check_none_below_zero,b_check_none_below_zero⟩:=ok_check_none_below_zero (P:=P) (w:=w) (base:=base) T
  obtain ⟨_,F_tell_found,b_tell_found⟩:=ok_tell_found (P:=P) (w:=w) (base:=base) T
  obtain ⟨_,F_node_at,b_node_at⟩:=ok_node_at (P:=P) (w:=w) (base:=base) T
  obtain ⟨_,F_held_tree,b_held_tree⟩:=ok_held_tree (P:=P) (w:=w) (base:=base) T
  refine T.f_tell_node_at.okX sc_tell_node_at (fun vs H Q E h => ?_) ?_
  · obtain ⟨z,d,la,s0,xs,rows,c,rfl,_⟩:=h
    rfl
  · rintro X cdv A outer s H vs Q E rfl hr hX hP ⟨z,d,la,s0,xs,rows,c,rfl,⟨dx,lr,tv,lb,bs,D⟩,hz,hA,⟨ns,hx,hrw,hc⟩,q⟩
    refine ⟨_,(pss_cons (ps_expr (pe_call F_check_none_below_zero (hr.mono (by decide)) (by rfl) T.g_check_none_below_zero T.f_check_none_below_zero.kp b_check_none_below_zero .nil hX.passes (pa_cons (pe_ix ix_list (pv 1) pe_int (fun _ _ => rfl)) pa_nil)))
      (pss_one (ps_ret (pe_call F_tell_found (hr.mono (by decide)) (by rfl) T.g_tell_found T.f_tell_found.kp b_tell_found .nil passE0 (pa_cons (pe_call F_node_at (hr.mono (by decide)) (by rfl) T.g_node_at T.f_node_at.kp b_node_at .nil passE0 (pa_cons (pe_call F_held_tree (hr.mono (by decide)) (by rfl) T.g_held_tree T.f_held_tree.kp b_held_tree .nil hX.passes (pa_cons (pv 0) pa_nil)) (pa_cons (pe_ix ix_list (pv 1) pe_int (fun _ _ => rfl)) pa_nil))) pa_nil))))),?_⟩
    subst hx hrw hc
    obtain ⟨l0,ha,h0,h0z⟩:=args01 hA
    have qs:Vaglri.step s0 (.at_ ns) = if Vaglri.negative ns then (s0,[-1]) else Vaglri.onHeld s0 (fun w => (s0,match Vaglri.atPath s0.grammar w.tree 0 (Vaglri.toNats ns) with
      | some m => [0,1,(m:Int)]
      | none => [0,0])):=rfl
    rw [qs] at q
    refine ⟨_,rfl,la,_,_,V.ref l0,rfl,rfl,SqL.of ha,at_of (j:=0) rfl rfl,l0,ns,rfl,SqL.of h0,fun e => ?_,fun e => ?_⟩
    · rw [if_neg (by rw [e]; decide)] at q
      unfold Vaglri.onHeld at q
      rw [nsV_toNats e] at h0
      refine ⟨_,rfl,z,d,dx,lr,tv,lb,bs,s0,rfl,D,fun w0 t F e1 e2 hH => ?_,fun e => ?_⟩
      · rw [e1] at q
        obtain ⟨dxt,lo,ln,lp,us,hT⟩:=hH.at_
        have hsz:=hH.sz
        have h0s:0 < Fo.sz F:=by
          obtain ⟨u,N,eF⟩:=Fo.one_cons hH.wh.one
          rw [eF]
          show 0 < Fo.sz N + 0 + 1
          omega
        refine ⟨_,rfl,la,_,_,V.ref l0,rfl,rfl,SqL.of ha,at_of (j:=0) rfl rfl,z,t,dxt,lo,ln,lp,us,_,F,s0.grammar,l0,Vaglri.toNats ns,rfl,hT,hH.wh.ar,h0s,by omega,h0,fun H1 s1 => ?_⟩
        refine ⟨_,rfl,fun l H2 h2 h3 s2 => ?_⟩
        have s12:=s1.trans s2
        dsimp only at q
        rw [hH.wh.tree] at q
        cases e5:Vaglri.atPath s0.grammar (Fo.fl F) 0 (Vaglri.toNats ns) with
        | none =>
          rw [e5] at q h2
          exact q.1 [0] l H2 rfl (Dk.same ⟨dx,lr,tv,lb,bs,D⟩ s12) h2 (KX.same s12) (by decide)
        | some m =>
          rw [e5] at q h2
          exact q.1 [1,(m:Int)] l H2 rfl (Dk.same ⟨dx,lr,tv,lb,bs,D⟩ s12) h2 (KX.same s12) (by show 2 ≤ 9999; decide)
      · rw [e] at q
        exact q.2 (-6) rfl (by decide)
    · rw [if_pos e] at q
      exact q.2 (-1) rfl (by decide)
theorem ok_tell_difference (T:Txt K mg a):Ok P w K mg base 7 a.tell_difference ["desk","arguments"] (spC K a fun xs rows c => ∃ ns,xs = [] ∧ rows = [ns] ∧ c = .compare ns):=by
  obtain ⟨_,F_check_none_below_zero,b_check_none_below_zero⟩:=ok_check_none_below_zero (P:=P) (w:=w) (base:=base) T
  obtain ⟨_,F_check_node_count,b_check_node_count⟩:=ok_check_node_count (P:=P) (w:=w) (base:=base) T
  obtain ⟨_,F_held_tree,b_held_tree⟩:=ok_held_tree (P:=P) (w:=w) (base:=base) T
  obtain ⟨_,F_read_tree,b_read_tree⟩:=ok_read_tree (P:=P) (w:=w) (base:=base) T
  obtain ⟨_,F_nodes_told,b_nodes_told⟩:=ok_nodes_told (P:=P) (w:=w) (base:=base) T
  obtain ⟨_,F_tell_found,b_tell_found⟩:=ok_tell_found (P:=P) (w:=w) (base:=base) T
  obtain ⟨_,F_first_difference,b_first_difference⟩:=ok_first_difference (P:=P) (w:=w) (base:=base) T
  obtain ⟨_,g_START,r_START⟩:=T.k_START
  refine T.f_tell_difference.okX sc_tell_difference (fun vs H Q E h => ?_) ?_
  · obtain ⟨z,d,la,s0,xs,rows,c,rfl,_⟩:=h
    rfl
  · rintro X cdv A outer s H vs Q E rfl hr hX hP ⟨z,d,la,s0,xs,rows,c,rfl,⟨dx,lr,tv,lb,bs,D⟩,hz,hA,⟨ns,hx,hrw,hc⟩,q⟩
    refine ⟨_,(pss_cons (ps_set (i:=2) sc_tell_difference.nd rfl (Or.inl rfl) (pe_ix ix_list (pv 1) pe_int (fun _ _ => rfl)))
      (pss_cons (ps_expr (pe_call F_check_none_below_zero (hr.mono (by decide)) (by rfl) T.g_check_none_below_zero T.f_check_none_below_zero.kp b_check_none_below_zero .nil hX.passes (pa_cons (pv 2) pa_nil)))
      (pss_cons (ps_expr (pe_call F_check_node_count (hr.mono (by decide)) (by rfl) T.g_check_node_count T.f_check_node_count.kp b_check_node_count .nil hX.passes (pa_cons (pv 2) pa_nil)))
      (pss_cons (ps_set (i:=3) sc_tell_difference.nd rfl (Or.inl rfl) (pe_call F_held_tree (hr.mono (by decide)) (by rfl) T.g_held_tree T.f_held_tree.kp b_held_tree .nil hX.passes (pa_cons (pv 0) pa_nil)))
      (pss_cons (ps_set (i:=4) sc_tell_difference.nd rfl (Or.inl rfl) (pe_call F_read_tree (hr.mono (by decide)) (by rfl) T.g_read_tree T.f_read_tree.kp b_read_tree .nil hX.passes (pa_cons (pe_fld (pv 0) rfl) (pa_cons (pe_glob (by rfl) g_START r_START) (pa_cons (pe_fld (pv 3) rfl) (pa_cons (pe_call F_nodes_told (hr.mono (by decide)) (by rfl) T.g_nodes_told T.f_nodes_told.kp b_nodes_told .nil passE0 (pa_cons (pv 2) pa_nil)) pa_nil))))))
      (pss_one (ps_ret (pe_call F_tell_found (hr.mono (by decide)) (by rfl) T.g_tell_found T.f_tell_found.kp b_tell_found .nil passE0 (pa_cons (pe_call F_first_difference (hr.mono (by decide)) (by rfl) T.g_first_difference T.f_first_difference.kp b_first_difference .nil passE0 (pa_cons (pv 3) (pa_cons (pv 4) pa_nil))) pa_nil))))))))),?_⟩
    subst hx hrw hc
    obtain ⟨l0,ha,h0,h0z⟩:=args01 hA
    have qs:Vaglri.step s0 (.compare ns) = (s0,Vaglri.comparing s0 ns):=rfl
    rw [qs] at q
    have ec:Vaglri.negative ns = false → Vaglri.comparing s0 ns = match (if ns.length % 3 = 0 then some (trip (Vaglri.toNats ns)) else none) with
      | none => [-9]
      | some t => if 500 < t.length then [-9] else match s0.held with
        | none => [-6]
        | some w => if Vaglri.isWhole s0.grammar 0 { text:=w.text,tree:=t } then (match Vaglri.firstUnlike 0 w.tree t with
          | none => [0,0]
          | some k => [0,1,(k:Int)]) else [-9]:=fun e => by
      unfold Vaglri.comparing
      rw [if_neg (by rw [e]; decide),readTree_eq _ _ (by rw [toNats_len]; omega),toNats_len]
      rfl
    refine ⟨_,rfl,la,_,_,V.ref l0,rfl,rfl,SqL.of ha,at_of (j:=0) rfl rfl,?_⟩
    refine ⟨_,rfl,l0,ns,rfl,SqL.of h0,fun e => ?_,fun e => ?_⟩
    · have ec:=ec e
      refine ⟨_,rfl,l0,_,rfl,SqL.of h0,fun d1 d2 => ?_,fun dd => ?_⟩
      · rw [List.length_map] at d1 d2
        have tl:=trip_len (Vaglri.toNats ns) (by rw [toNats_len]; exact d1)
        rw [toNats_len] at tl
        rw [if_pos d1] at ec
        dsimp only at ec
        rw [if_neg (by omega)] at ec
        rw [ec] at q
        rw [nsV_toNats e] at h0
        refine ⟨_,rfl,z,d,dx,lr,tv,lb,bs,s0,rfl,D,fun w0 t F e1 e2 hH => ?_,fun e => ?_⟩
        · rw [e1] at q
          dsimp only at q
          obtain ⟨dxt,lo,ln,lp,us,hT⟩:=hH.at_
          have hsz:=hH.sz
          refine ⟨_,rfl,d,a.Desk,dx,_,_,rfl,D.obj,T.c_Desk,T.n_Desk_rules,rfl,_,rfl,t,a.Tree,dxt,_,_,rfl,hT.obj,T.c_Tree,T.n_Tree_octets,rfl,_,rfl,l0,Vaglri.toNats ns,rfl,h0,by rw [toNats_len]; exact d1,by rw [toNats_len]; exact d2,fun ln2 us2 H1 g1 g2 g3 s1 => ?_⟩
          have D1:=D.same s1
          refine ⟨z,lr,lo,ln2,us2,s0.grammar,w0.text,trip (Vaglri.toNats ns),0,rfl,⟨D1.rul,s1 _ _ hT.oct.1,g1,g2⟩,by omega,D.ok8,hT.oct.2,fun e => hz (by rw [← e]; exact g3),Same.there s1 hz,fun F2 t2 dx2 lp2 H2 et W hT2 s2 => ?_,fun et => ?_⟩
          · rw [if_pos et] at q
            have s12:=s1.trans s2
            have ey:trip (Vaglri.toNats ns) = Fo.fl F2:=W.tree
            have hl2:Fo.sz F2 ≤ 500:=by rw [← Fo.fl_len,← ey]; omega
            refine ⟨_,rfl,_,rfl,z,t,dxt,lo,ln,lp,us,_,_,_,t2,dx2,lo,ln2,lp2,us2,_,_,_,rfl,hT.same s12,hT2,by rw [Fo.fl_len]; omega,by rw [Fo.fl_len]; omega,?_⟩
            refine ⟨_,rfl,fun l H3 h3 _ s3 => ?_⟩
            have s13:=s12.trans s3
            rw [hH.wh.tree,ey] at q
            cases e5:Vaglri.firstUnlike 0 (Fo.fl F) (Fo.fl F2) with
            | none =>
              rw [e5] at q h3
              exact q.1 [0] l H3 rfl (Dk.same ⟨dx,lr,tv,lb,bs,D⟩ s13) h3 (KX.same s13) (by decide)
            | some m =>
              rw [e5] at q h3
              exact q.1 [1,(m:Int)] l H3 rfl (Dk.same ⟨dx,lr,tv,lb,bs,D⟩ s13) h3 (KX.same s13) (by show 2 ≤ 9999; decide)
          · rw [if_neg (by rw [et]; decide)] at q
            exact (q.2 (-9) rfl (by decide)).mono (Kp.same s1) (fun _ h => h)
        · rw [e] at q
          exact q.2 (-6) rfl (by decide)
      · rw [List.length_map] at dd
        refine q.2 (-9) ?_ (by decide)
        rw [ec]
        by_cases d1:ns.length % 3 = 0
        · have tl:=trip_len (Vaglri.toNats ns) (by rw [toNats_len]; exact d1)
          rw [toNats_len] at tl
          rw [if_pos d1]
          dsimp only
          rw [if_pos (by omega)]
        · rw [if_neg d1]
    · refine q.2 (-1) ?_ (by decide)
      unfold Vaglri.comparing
      rw [if_pos e]
end
end TC
namespace TC
open PySem PySem.Spec PyProof.Rows L2
section
variable {P:Program} {w:World} {K:PySem.W.Frag} {mg:Str → Option Value} {base:Heap} {a:Adr}
theorem ok_put (T:Txt K mg a):Ok P w K mg base 7 a.put ["desk","arguments"] (spC K a fun xs rows c => ∃ x ms ns,xs = [x] ∧ rows = [ms,ns] ∧ c = .put x ms ns):=by
  obtain ⟨_,F_check_text_with_tree,b_check_text_with_tree⟩:=ok_check_text_with_tree (P:=P) (w:=w) (base:=base) T
  obtain ⟨_,F_held_tree_with,b_held_tree_with⟩:=ok_held_tree_with (P:=P) (w:=w) (base:=base) T
  obtain ⟨_,F_read_tree,b_read_tree⟩:=ok_read_tree (P:=P) (w:=w) (base:=base) T
  obtain ⟨_,F_nonterminal_of,b_nonterminal_of⟩:=ok_nonterminal_of (P:=P) (w:=w) (base:=base) T
  obtain ⟨_,F_nodes_told,b_nodes_told⟩:=ok_nodes_told (P:=P) (w:=w) (base:=base) T
  obtain ⟨_,F_replaced,b_replaced⟩:=ok_replaced (P:=P) (w:=w) (base:=base) T
  obtain ⟨_,F_check_size,b_check_size⟩:=ok_check_size (P:=P) (w:=w) (base:=base) T
  obtain ⟨_,F_Desk_change_to,b_Desk_change_to⟩:=ok_Desk_change_to (P:=P) (w:=w) (base:=base) T
  refine T.f_put.okX sc_put (fun vs H Q E h => ?_) ?_
  · obtain ⟨z,d,la,s0,xs,rows,c,rfl,_⟩:=h
    rfl
  · rintro X cdv A outer s H vs Q E rfl hr hX hP ⟨z,d,la,s0,xs,rows,c,rfl,⟨dx,lr,tv,lb,bs,D⟩,hz,hA,⟨x,ms,ns,hx,hrw,hc⟩,q⟩
    refine ⟨_,(pss_cons (ps_set (i:=2) sc_put.nd rfl (Or.inl rfl) (pe_ix ix_list (pv 1) pe_int (fun _ _ => rfl)))
      (pss_cons (ps_set (i:=3) sc_put.nd rfl (Or.inl rfl) (pe_ix ix_list (pv 1) pe_int (fun _ _ => rfl)))
      (pss_cons (ps_set (i:=4) sc_put.nd rfl (Or.inl rfl) (pe_ix ix_list (pv 1) pe_int (fun _ _ => rfl)))
      (pss_cons (ps_expr (pe_call F_check_text_with_tree (hr.mono (by decide)) (by rfl) T.g_check_text_with_tree T.f_check_text_with_tree.kp b_check_text_with_tree .nil hX.passes (pa_cons (pv 3) (pa_cons (pv 4) pa_nil))))
      (pss_cons (ps_set (i:=5) sc_put.nd rfl (Or.inl rfl) (pe_call F_held_tree_with (hr.mono (by decide)) (by rfl) T.g_held_tree_with T.f_held_tree_with.kp b_held_tree_with .nil hX.passes (pa_cons (pv 0) (pa_cons (pv 2) pa_nil))))
      (pss_cons (ps_set (i:=6) sc_put.nd rfl (Or.inl rfl) (pe_call F_read_tree (hr.mono (by decide)) (by rfl) T.g_read_tree T.f_read_tree.kp b_read_tree .nil hX.passes (pa_cons (pe_fld (pv 0) rfl) (pa_cons (pe_call F_nonterminal_of (hr.mono (by decide)) (by rfl) T.g_nonterminal_of T.f_nonterminal_of.kp b_nonterminal_of .nil passE0 (pa_cons (pv 0) (pa_cons (pv 2) pa_nil))) (pa_cons (pv 3) (pa_cons (pe_call F_nodes_told (hr.mono (by decide)) (by rfl) T.g_nodes_told T.f_nodes_told.kp b_nodes_told .nil passE0 (pa_cons (pv 4) pa_nil)) pa_nil))))))
      (pss_cons (ps_set (i:=7) sc_put.nd rfl (Or.inl rfl) (pe_call F_replaced (hr.mono (by decide)) (by rfl) T.g_replaced T.f_replaced.kp b_replaced .nil passE0 (pa_cons (pv 5) (pa_cons (pv 2) (pa_cons (pv 6) pa_nil)))))
      (pss_cons (ps_expr (pe_call F_check_size (hr.mono (by decide)) (by rfl) T.g_check_size T.f_check_size.kp b_check_size .nil hX.passes (pa_cons (pv 7) pa_nil)))
      (pss_cons (ps_expr (pe_meth (pv 0) T.c_Desk T.m_Desk_change_to F_Desk_change_to (hr.mono (by decide)) b_Desk_change_to .nil passE0 (pa_cons (pv 7) pa_nil)))
      (pss_one (ps_ret (pe_lst pa_nil)))))))))))),?_⟩
    subst hx hrw hc
    obtain ⟨l0,l1,ha,h0,h0z,h1,h1z⟩:=args12 hA
    have qs:Vaglri.step s0 (.put x ms ns) = match Vaglri.wholeOf ms ns with
      | .error n => (s0,[n])
      | .ok v => Vaglri.onNode s0 x (fun w n => if Vaglri.isWhole s0.grammar ((Vaglri.lhsAt s0.grammar w.tree n).getD 0) v then Vaglri.changed s0 w (Vaglri.putTree s0.grammar w n v) else (s0,[-9])):=rfl
    rw [qs] at q
    refine ⟨_,rfl,la,_,_,V.int x,rfl,rfl,SqL.of ha,at_of (j:=0) rfl rfl,?_⟩
    refine ⟨_,rfl,la,_,_,V.ref l0,rfl,rfl,SqL.of ha,at_of (j:=1) rfl rfl,?_⟩
    refine ⟨_,rfl,la,_,_,V.ref l1,rfl,rfl,SqL.of ha,at_of (j:=2) rfl rfl,?_⟩
    refine ⟨_,rfl,_,rfl,l0,l1,ms,ns,rfl,SqL.of h0,SqL.of h1,fun v ew e1 e2 e3 e4 e5 ev => ?_,fun n ew => ?_⟩
    · rw [ew] at q
      dsimp only at q
      rw [nsV_toNats e1] at h0
      rw [nsV_toNats e2] at h1
      refine ⟨_,rfl,_,rfl,z,d,dx,lr,tv,lb,bs,s0,x,rfl,D,fun w0 t F n f1 f2 hH f3 f4 => ?_,fun e => q.2 (-6) (onNode_6 e) (by decide),fun w0 e c => q.2 (-7) (onNode_7 e c) (by decide)⟩
      rw [onNode_ok f1 f3 (by rw [hH.len]; exact f4)] at q
      obtain ⟨dxt,lo,ln,lp,us,hT⟩:=hH.at_
      have hsz:=hH.sz
      have htx:=hH.txt
      subst f3 f2
      obtain ⟨b,hb⟩:=lhs_some hH f4
      rw [hb] at q
      refine ⟨_,rfl,d,a.Desk,dx,_,_,rfl,D.obj,T.c_Desk,T.n_Desk_rules,rfl,_,rfl,_,rfl,z,d,dx,lr,t,lb,bs,s0,w0,F,n,rfl,D,f1,hH,f4,fun b' hb' => ?_⟩
      rw [hb] at hb'
      cases hb'
      refine ⟨_,rfl,_,rfl,l1,Vaglri.toNats ns,rfl,h1,by rw [toNats_len]; exact e4,by rw [toNats_len]; exact e5,fun ln2 us2 H1 g1 g2 g3 s1 => ?_⟩
      have D1:=D.same s1
      have tl:=trip_len (Vaglri.toNats ns) (by rw [toNats_len]; exact e4)
      rw [toNats_len] at tl
      subst ev
      refine ⟨z,lr,l0,ln2,us2,s0.grammar,Vaglri.toNats ms,trip (Vaglri.toNats ns),b,rfl,⟨D1.rul,s1 _ _ h0,g1,g2⟩,by omega,D.ok8,h0z,fun e => hz (by rw [← e]; exact g3),Same.there s1 hz,fun F2 t2 dx2 lp2 H2 et W hT2 s2 => ?_,fun et => ?_⟩
      · have et':Vaglri.isWhole s0.grammar ((some b).getD 0) { text:=Vaglri.toNats ms,tree:=trip (Vaglri.toNats ns) } = true:=et
        rw [if_pos et'] at q
        have s12:=s1.trans s2
        obtain ⟨u,N,hN⟩:=Fo.node_some f4
        have lt:=Fo.node_lt hN
        have ey:trip (Vaglri.toNats ns) = Fo.fl F2:=W.tree
        have hl2:Fo.sz F2 ≤ 500:=by rw [← Fo.fl_len,← ey]; omega
        have hxl:(Vaglri.toNats ms).length ≤ 24:=by rw [toNats_len]; exact e3
        rw [Fo.put_eq hH.wh W hN] at q
        refine ⟨_,rfl,_,rfl,_,rfl,z,t,dxt,lo,ln,lp,us,w0.text,F,u,N,t2,dx2,l0,ln2,lp2,us2,Vaglri.toNats ms,F2,0,w0.text.length,n,rfl,hT.same s12,hH.wh.one,hN,by omega,by omega,hT2,W.one,by omega,by omega,hH.wh.pos,Same.there s12 hz,fun t3 dx3 lo3 ln3 lp3 us3 H3 hT3 s3 => ?_⟩
        have s13:=s12.trans s3
        have PW:=Fo.put_whole hH.wh W hN
        generalize hpw:Fo.putW w0 F n u { text:=Vaglri.toNats ms,tree:=trip (Vaglri.toNats ns) } F2 = pw at q PW
        have etx:w0.text.take u.2.1 ++ (Vaglri.toNats ms ++ w0.text.drop u.2.2) = pw.text:=by rw [← hpw]; rfl
        have etr:Fo.fl (Fo.putF F n u (Vaglri.toNats ms).length F2) = pw.tree:=by rw [← hpw]; rfl
        have hT3:TreeAt a z H3 t3 dx3 lo3 ln3 lp3 us3 pw.text (Fo.fl (Fo.putF F n u (Vaglri.toNats ms).length F2)) (Fo.ps (Fo.putF F n u (Vaglri.toNats ms).length F2)):=by rw [← etx]; exact hT3
        have qe:Vaglri.changed s0 w0 (some pw) = if 24 < pw.text.length then (s0,[-3]) else if 500 < pw.tree.length then (s0,[-8]) else ({ s0 with held:=some pw,past:=(w0 :: s0.past).take Vaglri.PAST },[0]):=rfl
        rw [qe] at q
        refine ⟨_,rfl,z,t3,dx3,lo3,ln3,lp3,us3,_,_,_,rfl,hT3,fun k1 k2 => ?_,fun k1 => ?_,fun k1 k2 => ?_⟩
        · rw [etr] at k2
          rw [if_neg (by omega),if_neg (by omega)] at q
          have D3:=D.same s13
          refine ⟨_,rfl,d,dx,_,rfl,D3.obj,rfl,_,rfl,d,dx,lr,.ref t,lb,.ref t3,bs,rfl,D3.obj,D3.bef.1,fun lb' H4 hlb m1 m2 k => ?_⟩
          refine ⟨Nat.zero_le _,fun l hl => ?_⟩
          have s5:=Same.new (o:=.lst []) hl
          refine q.1 [] l _ rfl ?_ upd_same (KX.of ((Kp.same s13).trans (k.trans (Kp.same s5)))) (Nat.zero_le _)
          exact Dk.same (Dk_change D hz s13 f1 ⟨PW,⟨dx3,lo3,ln3,lp3,us3,hT3⟩,k1,k2⟩ hlb m1 m2 k) s5
        · rw [if_pos k1] at q
          exact (q.2 (-3) rfl (by decide)).mono (Kp.same s13) (fun _ h => h)
        · rw [etr] at k2
          rw [if_neg (by omega),if_pos k2] at q
          exact (q.2 (-8) rfl (by decide)).mono (Kp.same s13) (fun _ h => h)
      · have et':¬ Vaglri.isWhole s0.grammar ((some b).getD 0) { text:=Vaglri.toNats ms,tree:=trip (Vaglri.toNats ns) } = true:=by
          intro z
          have z:Vaglri.isWhole s0.grammar b { text:=Vaglri.toNats ms,tree:=trip (Vaglri.toNats ns) } = true:=z
          rw [et] at z
          cases z
        rw [if_neg et'] at q
        exact (q.2 (-9) rfl (by decide)).mono (Kp.same s1) (fun _ h => h)
    · rw [ew] at q
      exact q.2 n rfl (whole_err ew)
theorem ok_swap (T:Txt K mg a):Ok P w K mg base 6 a.swap ["desk","arguments"] (spC K a fun xs rows c => ∃ x x',xs = [x,x'] ∧ rows = [] ∧ c = .swap x x'):=by
  obtain ⟨_,F_held_tree_with,b_held_tree_with⟩:=ok_held_tree_with (P:=P) (w:=w) (base:=base) T
  obtain ⟨_,F_check_node,b_check_node⟩:=ok_check_node (P:=P) (w:=w) (base:=base) T
  obtain ⟨_,F_check_swap,b_check_swap⟩:=ok_check_swap (P:=P) (w:=w) (base:=base) T
  obtain ⟨_,F_Desk_change_to,b_Desk_change_to⟩:=ok_Desk_change_to (P:=P) (w:=w) (base:=base) T
  obtain ⟨_,F_swapped,b_swapped⟩:=ok_swapped (P:=P) (w:=w) (base:=base) T
  refine T.f_swap.okX sc_swap (fun vs H Q E h => ?_) ?_
  · obtain ⟨z,d,la,s0,xs,rows,c,rfl,_⟩:=h
    rfl
  · rintro X cdv A outer s H vs Q E rfl hr hX hP ⟨z,d,la,s0,xs,rows,c,rfl,⟨dx,lr,tv,lb,bs,D⟩,hz,hA,⟨x,x',hx,hrw,hc⟩,q⟩
    refine ⟨_,(pss_cons (ps_set (i:=2) sc_swap.nd rfl (Or.inl rfl) (pe_call F_held_tree_with (hr.mono (by decide)) (by rfl) T.g_held_tree_with T.f_held_tree_with.kp b_held_tree_with .nil hX.passes (pa_cons (pv 0) (pa_cons (pe_ix ix_list (pv 1) pe_int (fun _ _ => rfl)) pa_nil))))
      (pss_cons (ps_expr (pe_call F_check_node (hr.mono (by decide)) (by rfl) T.g_check_node T.f_check_node.kp b_check_node .nil hX.passes (pa_cons (pv 2) (pa_cons (pe_ix ix_list (pv 1) pe_int (fun _ _ => rfl)) pa_nil))))
      (pss_cons (ps_expr (pe_call F_check_swap (hr.mono (by decide)) (by rfl) T.g_check_swap T.f_check_swap.kp b_check_swap .nil hX.passes (pa_cons (pv 0) (pa_cons (pe_ix ix_list (pv 1) pe_int (fun _ _ => rfl)) (pa_cons (pe_ix ix_list (pv 1) pe_int (fun _ _ => rfl)) pa_nil)))))
      (pss_cons (ps_expr (pe_meth (pv 0) T.c_Desk T.m_Desk_change_to F_Desk_change_to (hr.mono (by decide)) b_Desk_change_to .nil passE0 (pa_cons (pe_call F_swapped (hr.mono (by decide)) (by rfl) T.g_swapped T.f_swapped.kp b_swapped .nil passE0 (pa_cons (pv 2) (pa_cons (pe_ix ix_list (pv 1) pe_int (fun _ _ => rfl)) (pa_cons (pe_ix ix_list (pv 1) pe_int (fun _ _ => rfl)) pa_nil)))) pa_nil)))
      (pss_one (ps_ret (pe_lst pa_nil))))))),?_⟩
    subst hx hrw hc
    have ha:=args2 hA
    have qs:Vaglri.step s0 (.swap x x') = Vaglri.onNode s0 x (fun w a => Vaglri.onNode s0 x' (fun _ b =>
      if Vaglri.within s0.grammar w.tree a b || Vaglri.within s0.grammar w.tree b a then (s0,[-10])
      else match Vaglri.lhsAt s0.grammar w.tree a,Vaglri.lhsAt s0.grammar w.tree b with
        | some p,some q => if p == q then Vaglri.changed s0 w (if a < b then Vaglri.swapTrees s0.grammar w a b else Vaglri.swapTrees s0.grammar w b a) else (s0,[-10])
        | _,_ => (s0,[-10]))):=rfl
    rw [qs] at q
    refine ⟨_,rfl,_,rfl,la,_,_,V.int x,rfl,rfl,SqL.of ha,at_of (j:=0) rfl rfl,z,d,dx,lr,tv,lb,bs,s0,x,rfl,D,fun w0 t F m f1 f2 hH f3 f4 => ?_,fun e => q.2 (-6) (onNode_6 e) (by decide),fun w0 e c => q.2 (-7) (onNode_7 e c) (by decide)⟩
    rw [onNode_ok f1 f3 (by rw [hH.len]; exact f4)] at q
    refine ⟨_,rfl,_,rfl,la,_,_,V.int x',rfl,rfl,SqL.of ha,at_of (j:=1) rfl rfl,s0.grammar,z,t,w0,F,x',rfl,hH,fun n f5 f6 => ?_,fun c => q.2 (-7) (onNode_7 f1 c) (by decide)⟩
    rw [onNode_ok f1 f5 (by rw [hH.len]; exact f6)] at q
    subst f3 f5 f2
    obtain ⟨u,N,hN⟩:=Fo.node_some f4
    obtain ⟨u',N',hN'⟩:=Fo.node_some f6
    obtain ⟨b1,hb1⟩:=lhs_some hH f4
    obtain ⟨b2,hb2⟩:=lhs_some hH f6
    have hw1:Vaglri.within s0.grammar w0.tree m n = decide (m ≤ n ∧ n < m + 1 + Fo.sz N):=by rw [hH.wh.tree]; exact Fo.within_node hH.wh.ar hN n
    have hw2:Vaglri.within s0.grammar w0.tree n m = decide (n ≤ m ∧ m < n + 1 + Fo.sz N'):=by rw [hH.wh.tree]; exact Fo.within_node hH.wh.ar hN' m
    rw [hw1,hw2,hb1,hb2] at q
    dsimp only at q
    refine ⟨_,rfl,_,rfl,la,_,_,V.int (m:Nat),rfl,rfl,SqL.of ha,at_of (j:=0) rfl rfl,_,rfl,la,_,_,V.int (n:Nat),rfl,rfl,SqL.of ha,at_of (j:=1) rfl rfl,z,d,dx,lr,t,lb,bs,s0,w0,F,u,N,u',N',m,n,rfl,D,f1,hH,hN,hN',fun ap el => ?_,fun no => ?_⟩
    · rw [hb1,hb2] at el
      cases el
      rw [if_neg (by rw [Bool.or_eq_true_iff]; intro z; rcases z with z | z <;> (have:=dT z; omega)),if_pos (by simp)] at q
      have go:∀ i j ui Ni uj Nj,i = min m n → j = max m n → Fo.node F i = some (ui,Ni) → Fo.node F j = some (uj,Nj) → i + 1 + Fo.sz Ni ≤ j → (if m < n then Vaglri.swapTrees s0.grammar w0 m n else Vaglri.swapTrees s0.grammar w0 n m) = Vaglri.swapTrees s0.grammar w0 i j → ∃ ui Ni uj Nj i j,i = min m n ∧ j = max m n ∧ Fo.node F i = some (ui,Ni) ∧ Fo.node F j = some (uj,Nj) ∧ i + 1 + Fo.sz Ni ≤ j ∧ (if m < n then Vaglri.swapTrees s0.grammar w0 m n else Vaglri.swapTrees s0.grammar w0 n m) = Vaglri.swapTrees s0.grammar w0 i j :=
        fun i j ui Ni uj Nj a1 a2 a3 a4 a5 a6 => ⟨ui,Ni,uj,Nj,i,j,a1,a2,a3,a4,a5,a6⟩
      obtain ⟨ui,Ni,uj,Nj,i,j,a1,a2,a3,a4,a5,a6⟩:∃ ui Ni uj Nj i j,i = min m n ∧ j = max m n ∧ Fo.node F i = some (ui,Ni) ∧ Fo.node F j = some (uj,Nj) ∧ i + 1 + Fo.sz Ni ≤ j ∧ (if m < n then Vaglri.swapTrees s0.grammar w0 m n else Vaglri.swapTrees s0.grammar w0 n m) = Vaglri.swapTrees s0.grammar w0 i j:=by
        by_cases c:m < n
        · exact go m n _ _ _ _ (by omega) (by omega) hN hN' (by omega) (if_pos c)
        · exact go n m _ _ _ _ (by omega) (by omega) hN' hN (by omega) (if_neg c)
      rw [a6] at q
      refine ⟨_,rfl,d,dx,_,rfl,D.obj,rfl,_,rfl,_,rfl,la,_,_,V.int (m:Nat),rfl,rfl,SqL.of ha,at_of (j:=0) rfl rfl,_,rfl,la,_,_,V.int (n:Nat),rfl,rfl,SqL.of ha,at_of (j:=1) rfl rfl,s0.grammar,z,t,w0,F,uj,Nj,ui,Ni,m,n,i,j,rfl,hH,hz,a1,a2,a3,a4,a5,fun t1 w1 F1 H1 es hH1 s1 => ?_⟩
      have D1:=D.same s1
      have k1:=hH1.txt
      have k2:=hH1.nds
      have qe:Vaglri.changed s0 w0 (some w1) = if 24 < w1.text.length then (s0,[-3]) else if 500 < w1.tree.length then (s0,[-8]) else ({ s0 with held:=some w1,past:=(w0 :: s0.past).take Vaglri.PAST },[0]):=rfl
      rw [es,qe,if_neg (by omega),if_neg (by omega)] at q
      refine ⟨d,dx,lr,.ref t,lb,.ref t1,bs,rfl,D1.obj,D1.bef.1,fun lb' H4 hlb m1 m2 k => ?_⟩
      refine ⟨Nat.zero_le _,fun l hl => ?_⟩
      have s5:=Same.new (o:=.lst []) hl
      refine q.1 [] l _ rfl ?_ upd_same (KX.of ((Kp.same s1).trans (k.trans (Kp.same s5)))) (Nat.zero_le _)
      exact Dk.same (Dk_change D hz s1 f1 hH1 hlb m1 m2 k) s5
    · refine q.2 (-10) ?_ (by decide)
      by_cases c:(decide (m ≤ n ∧ n < m + 1 + Fo.sz N) || decide (n ≤ m ∧ m < n + 1 + Fo.sz N')) = true
      · rw [if_pos c]
      · rw [if_neg c]
        rw [Bool.or_eq_true_iff] at c
        have c1:¬ (m ≤ n ∧ n < m + 1 + Fo.sz N):=fun z => c (.inl (decide_eq_true z))
        have c2:¬ (n ≤ m ∧ m < n + 1 + Fo.sz N'):=fun z => c (.inr (decide_eq_true z))
        rw [if_neg]
        intro z
        have z:b1 = b2:=by simpa using z
        exact no ⟨by omega,by rw [hb1,hb2,z]⟩
end
end TC
namespace TC
open PySem PySem.Spec PyProof.Rows L2
theorem rows_row {k:Nat} {r:List Int} {ws:List (List Int)} {t:List Int} (h:PyFlat.rows (k + 1) r = some (ws,t)):∃ x s ws',PyFlat.row r = some (x,s) ∧ PyFlat.rows k s = some (ws',t) ∧ ws = x :: ws':=by
  unfold PyFlat.rows at h
  cases e:PyFlat.row r with
  | none => rw [e] at h; cases h
  | some p =>
    obtain ⟨x,s⟩:=p
    rw [e] at h
    dsimp only at h
    cases e2:PyFlat.rows k s with
    | none => rw [e2] at h; cases h
    | some p2 =>
      obtain ⟨xs,t2⟩:=p2
      rw [e2] at h
      cases h
      exact ⟨x,s,xs,rfl,e2,rfl⟩
theorem row_at {ns:List Int} {p:Nat} {x s:List Int} (h:PyFlat.row (ns.drop p) = some (x,s)):∃ n:Nat,ns[p]? = some (n:Int) ∧ p + 1 + n ≤ ns.length ∧ x = (ns.drop (p + 1)).take n ∧ s = ns.drop (p + 1 + n):=by
  cases e:ns.drop p with
  | nil => rw [e] at h; cases h
  | cons m r =>
    rw [e] at h
    have h:(if 0 ≤ m ∧ m.toNat ≤ r.length then some (r.take m.toNat,r.drop m.toNat) else none) = some (x,s):=h
    have hp:p < ns.length:=by
      by_cases c:p < ns.length
      · exact c
      · rw [List.drop_eq_nil_of_le (by omega)] at e; cases e
    have e2:=List.drop_eq_getElem_cons hp
    rw [e] at e2
    injection e2 with e3 e4
    split at h
    · rename_i c
      cases h
      obtain ⟨c1,c2⟩:=c
      rw [e4,List.length_drop] at c2
      refine ⟨m.toNat,?_,by omega,by rw [← e4],by rw [e4,List.drop_drop]⟩
      rw [List.getElem?_eq_getElem hp,← e3,Int.toNat_of_nonneg c1]
    · cases h
section
variable {P:Program} {w:World} {K:PySem.W.Frag} {mg:Str → Option Value} {base:Heap} {a:Adr}
noncomputable def sp_read_arguments (K:PySem.W.Frag) (a:Adr):Sp:=fun vs H Q _ => ∃ (z rd dx l:Addr) (ns:List Int) (ws:List (List Int)) (t:List Int) (p n k:Nat),vs = [.ref rd,.int (n:Nat),.int (k:Nat)] ∧ H rd = some (.ins a.Reader dx (rdF l (p:Nat))) ∧ SqL K H l (ns.map V.int) ∧ Fix K l rd (ns.map V.int) ∧ H z ≠ none ∧ z ≠ rd ∧ n ≤ 100 ∧ k ≤ 100 ∧ p + n ≤ ns.length ∧ PyFlat.rows k (ns.drop (p + n)) = some (ws,t) ∧
  ∀ la H' p',ns.drop p' = t → p' ≤ ns.length → H' rd = some (.ins a.Reader dx (rdF l ((p':Nat):Int))) → ArgsAt z H' la ((ns.drop p).take n) ws → Kp [rd] H H' → Q (.ref la) H'
theorem ok_read_arguments (T:Txt K mg a):Ok P w K mg base 3 a.read_arguments ["reader","singles","rows"] (sp_read_arguments K a):=by
  obtain ⟨_,F_Reader_take,b_Reader_take⟩:=ok_Reader_take (P:=P) (w:=w) (base:=base) T
  obtain ⟨_,F_Reader_take_row,b_Reader_take_row⟩:=ok_Reader_take_row (P:=P) (w:=w) (base:=base) T
  refine T.f_read_arguments.ok sc_read_arguments (fun vs H Q E h => ?_) (fun cdv A outer s H vs Q E hr h => ?_)
  · obtain ⟨z,rd,dx,l,ns,ws,t,p,n,k,rfl,_⟩:=h
    rfl
  · obtain ⟨z,rd,dx,l,ns,ws,t,p,n,k,rfl,hrd,hl,hlr,hz,hzr,hn,hk,hpn,hrows,q⟩:=h
    refine ⟨_,(pss_cons (ps_set (i:=3) sc_read_arguments.nd rfl (Or.inl rfl) (pe_lst pa_nil))
      (pss_cons (ps_for PassesOwn.never rfl (pi_range1 rfl T.b_range (pa_cons (pv 1) pa_nil)) (pg_name (i:=4) sc_read_arguments.nd rfl (Or.inl rfl))
      (pss_one (ps_expr (pe_bm PySem.F.plainAttrs_list PySem.F.slot_list_append PySem.F.type_list_append mt_append (pv 3) (pa_cons (pe_meth0 (pv 0) T.c_Reader T.m_Reader_take F_Reader_take (hr.mono (by decide)) b_Reader_take .nil passE0) pa_nil)))))
      (pss_cons (ps_for PassesOwn.never rfl (pi_range1 rfl T.b_range (pa_cons (pv 2) pa_nil)) (pg_name (i:=4) sc_read_arguments.nd rfl (Or.inl rfl))
      (pss_one (ps_expr (pe_bm PySem.F.plainAttrs_list PySem.F.slot_list_append PySem.F.type_list_append mt_append (pv 3) (pa_cons (pe_meth0 (pv 0) T.c_Reader T.m_Reader_take_row F_Reader_take_row (hr.mono (by decide)) b_Reader_take_row .nil passE0) pa_nil)))))
      (pss_one (ps_ret (pv 3)))))),?_⟩
    refine ⟨Nat.zero_le _,fun la hla => ?_⟩
    have nla:la ≠ rd:=fun e => by rw [e,hrd] at hla; cases hla
    have k0:Kp [rd] H (upd H la (.lst [])):=Kp.new hla
    refine ⟨_,rfl,(n:Int),rfl,by omega,by omega,for_range (n:=n) (fun i σ H' => ∃ v4,σ = [some (.ref rd),some (.int (n:Nat)),some (.int (k:Nat)),some (.ref la),v4] ∧ Kp [rd] H H' ∧ H' rd = some (.ins a.Reader dx (rdF l ((p + i:Nat):Int))) ∧ H' la = some (.lst (((ns.drop p).take i).map V.int)))
      ⟨none,rfl,k0,by rw [upd_ne (Ne.symm nla)]; exact hrd,upd_same⟩ ?_ ?_⟩
    · rintro i σ H' hi ⟨v4,rfl,k1,h1,h2⟩
      have hl':=sqL_fix hl hlr k1
      obtain ⟨y,hy⟩:∃ y,ns[p + i]? = some y:=⟨_,List.getElem?_eq_getElem (by omega)⟩
      refine ⟨_,rfl,.inl ⟨rfl,_,SqL.of h2⟩,_,rfl,rd,dx,_,rfl,h1,rfl,rd,l,ns,p + i,y,dx,rfl,h1,hl',hy,?_⟩
      refine ⟨la,_,_,rfl,rfl,by rw [upd_ne nla]; exact h2,small1000 (by rw [List.length_map,List.length_take]; omega),?_⟩
      refine ⟨_,rfl,Kp.put (k1.trans (Kp.upd (by simp))) hla,by rw [upd_ne (Ne.symm nla)]; exact upd_same,?_⟩
      rw [upd_same]
      have hy':(ns.drop p)[i]? = some y:=by rw [List.getElem?_drop]; exact hy
      obtain ⟨w1,w2⟩:=List.getElem?_eq_some_iff.mp hy'
      rw [List.take_succ_eq_append_getElem w1,w2,List.map_append]
      rfl
    · rintro σ H1 ⟨v4,rfl,k1,h1,h2⟩
      refine ⟨_,rfl,(k:Int),rfl,by omega,by omega,for_range (n:=k) (fun i σ H' => ∃ v4 p2 rs done rem,σ = [some (.ref rd),some (.int (n:Nat)),some (.int (k:Nat)),some (.ref la),v4] ∧ Kp [rd] H H' ∧ H' rd = some (.ins a.Reader dx (rdF l ((p2:Nat):Int))) ∧ H' la = some (.lst (((ns.drop p).take n).map V.int ++ rs.map V.ref)) ∧
          Paired (fun l xs => H' l = some (.lst (xs.map V.int)) ∧ l ≠ z ∧ l ≠ la) rs done ∧ rs.length = i ∧ PyFlat.rows (k - i) (ns.drop p2) = some (rem,t) ∧ done ++ rem = ws ∧ p2 ≤ ns.length)
        ⟨_,p + n,[],[],ws,rfl,k1,h1,by rw [List.map_nil,List.append_nil]; exact h2,.nil,rfl,hrows,rfl,hpn⟩ ?_ ?_⟩
      · rintro i σ H' hi ⟨v4,p2,rs,done,rem,rfl,k2,g1,g2,g3,g4,g5,g6,g7⟩
        rw [show k - i = (k - (i + 1)) + 1 by omega] at g5
        obtain ⟨xr,sr,rem',r1,r2,r3⟩:=rows_row g5
        obtain ⟨m,m1,m2,m3,m4⟩:=row_at r1
        have hl':=sqL_fix hl hlr k2
        refine ⟨_,rfl,.inl ⟨rfl,_,SqL.of g2⟩,_,rfl,rd,dx,_,rfl,g1,rfl,rd,l,ns,p2,m,dx,rfl,g1,hl',hlr,m1,m2,fun lq hlq => ?_⟩
        have nlq:lq ≠ rd:=fun e => by rw [e,g1] at hlq; cases hlq
        have nlq2:lq ≠ la:=fun e => by rw [e,g2] at hlq; cases hlq
        have nlqz:lq ≠ z:=fun e => by
          have hz':H' z ≠ none:=by
            cases e2:H z with
            | none => exact absurd e2 hz
            | some o => rw [k2 _ _ e2 (by simpa using hzr)]; exact fun z => nomatch z
          exact hz' (by rw [← e]; exact hlq)
        rw [← m3]
        have k3:Kp [rd] H' (upd (upd H' lq (.lst (xr.map V.int))) rd (.ins a.Reader dx (rdF l ((p2 + 1 + m:Nat):Int)))):=(Kp.new hlq).trans (Kp.upd (by simp))
        refine ⟨la,_,_,rfl,rfl,by rw [upd_ne nla,upd_ne (Ne.symm nlq2)]; exact g2,small1000 (by rw [List.length_append,List.length_map,List.length_map,List.length_take]; omega),?_⟩
        refine ⟨_,p2 + 1 + m,rs ++ [lq],done ++ [xr],rem',rfl,Kp.put (k2.trans k3) hla,by rw [upd_ne (Ne.symm nla)]; exact upd_same,?_,?_,by rw [List.length_append,g4]; rfl,by rw [← m4]; exact r2,by rw [← g6,r3]; simp,m2⟩
        · rw [upd_same,List.map_append,List.append_assoc]
          rfl
        · refine Paired.snoc (Paired.mapL g3 fun b xs ⟨b1,b2,b3⟩ => ⟨?_,b2,b3⟩) ⟨?_,nlqz,nlq2⟩
          · rw [upd_ne b3]
            exact k3 _ _ b1 (by have:=ne_of b1 g1 (by intro z; cases z); simpa using this)
          · rw [upd_ne nlq2,upd_ne nlq,upd_same]
      · rintro σ H' ⟨v4,p2,rs,done,rem,rfl,k2,g1,g2,g3,g4,g5,g6,g7⟩
        rw [Nat.sub_self] at g5
        have g5:some (([]:List (List Int)),ns.drop p2) = some (rem,t):=g5
        cases g5
        rw [List.append_nil] at g6
        subst g6
        exact ⟨_,rfl,q la H' p2 rfl g7 g1 ⟨rs,g2,Paired.mapL g3 fun b xs ⟨b1,b2,_⟩ => ⟨b1,b2⟩⟩ k2⟩
end
theorem spC.imp {K:PySem.W.Frag} {a:Adr} {ok ok':List Int → List (List Int) → Vaglri.Call → Prop} (h:∀ xs rows c,ok' xs rows c → ok xs rows c):∀ vs H Q E,spC K a ok' vs H Q E → spC K a ok vs H Q E :=
  fun vs H Q E ⟨z,d,la,s,xs,rows,c,h1,h2,h3,h4,h5,h6⟩ => ⟨z,d,la,s,xs,rows,c,h1,h2,h3,h4,h xs rows c h5,h6⟩
noncomputable def okP (p:Int) (xs:List Int) (rows:List (List Int)) (c:Vaglri.Call):Prop:=VaglriNeutral.callOf ((p :: xs) :: rows) = some c
noncomputable def IsCall (P:Program) (w:World) (K:PySem.W.Frag) (mg:Str → Option Value) (base:Heap) (f:Addr) (sp:Sp):Prop:=PySem.W.keepIn K (.ref f) = true ∧ ∃ fd ps,FnOk P w K mg base (CXE P w) 8 f fd ps sp ∧ L2.Binds K fd ps []
section
variable {P:Program} {w:World} {K:PySem.W.Frag} {mg:Str → Option Value} {base:Heap} {a:Adr}
theorem isCall_of {f:Addr} {k:Nat} {ps:List Str} {ok:List Int → List (List Int) → Vaglri.Call → Prop} {p:Int} (hk:PySem.W.keepIn K (.ref f) = true) (o:Ok P w K mg base k f ps (spC K a ok)) (h8:k ≤ 8) (h:∀ xs rows c,okP p xs rows c → ok xs rows c):IsCall P w K mg base f (spC K a (okP p)):=by
  obtain ⟨fd,F,b⟩:=o
  exact ⟨hk,fd,ps,(F.imp (spC.imp h)).mono h8,b⟩
noncomputable def CallAt (P:Program) (w:World) (K:PySem.W.Frag) (mg:Str → Option Value) (base:Heap) (a:Adr) (p:Int) (n k:Nat):Prop :=
  ∃ ct f,intDictGet K a.CALLS p = some (.ref ct) ∧ tupIn K ct [V.ref f,V.int (n:Nat),V.int (k:Nat)] = true ∧ IsCall P w K mg base f (spC K a (okP p)) ∧ n ≤ 100 ∧ k ≤ 100
theorem callAt (T:Txt K mg a) {p:Int} {n k:Nat} (h:PyVaglri.shape p = some (n,k)):CallAt P w K mg base a p n k:=by
  by_cases e0:p = 0
  · subst e0
    have h:some (0,1) = some (n,k):=h
    cases h
    refine ⟨a.CALLS_0,a.load,T.e_CALLS_0,T.t_CALLS_0,isCall_of T.f_load.kp (ok_load T) (by decide) (fun xs rows c h => ?_),by decide,by decide⟩
    rcases xs with _ | ⟨x,_ | ⟨y,_ | ⟨_,_⟩⟩⟩ <;> rcases rows with _ | ⟨r0,_ | ⟨r1,_ | ⟨_,_⟩⟩⟩ <;> first | (cases h; done) | (cases h; exact ⟨_,rfl,rfl,rfl⟩)
  by_cases e1:p = 1
  · subst e1
    have h:some (0,2) = some (n,k):=h
    cases h
    refine ⟨a.CALLS_1,a.hold,T.e_CALLS_1,T.t_CALLS_1,isCall_of T.f_hold.kp (ok_hold T) (by decide) (fun xs rows c h => ?_),by decide,by decide⟩
    rcases xs with _ | ⟨x,_ | ⟨y,_ | ⟨_,_⟩⟩⟩ <;> rcases rows with _ | ⟨r0,_ | ⟨r1,_ | ⟨_,_⟩⟩⟩ <;> first | (cases h; done) | (cases h; exact ⟨_,_,rfl,rfl,rfl⟩)
  by_cases e2:p = 2
  · subst e2
    have h:some (0,0) = some (n,k):=h
    cases h
    refine ⟨a.CALLS_2,a.tell_tree,T.e_CALLS_2,T.t_CALLS_2,isCall_of T.f_tell_tree.kp (ok_tell_tree T) (by decide) (fun xs rows c h => ?_),by decide,by decide⟩
    rcases xs with _ | ⟨x,_ | ⟨y,_ | ⟨_,_⟩⟩⟩ <;> rcases rows with _ | ⟨r0,_ | ⟨r1,_ | ⟨_,_⟩⟩⟩ <;> first | (cases h; done) | (cases h; exact rfl)
  by_cases e3:p = 3
  · subst e3
    have h:some (0,0) = some (n,k):=h
    cases h
    refine ⟨a.CALLS_3,a.tell_text,T.e_CALLS_3,T.t_CALLS_3,isCall_of T.f_tell_text.kp (ok_tell_text T) (by decide) (fun xs rows c h => ?_),by decide,by decide⟩
    rcases xs with _ | ⟨x,_ | ⟨y,_ | ⟨_,_⟩⟩⟩ <;> rcases rows with _ | ⟨r0,_ | ⟨r1,_ | ⟨_,_⟩⟩⟩ <;> first | (cases h; done) | (cases h; exact rfl)
  by_cases e4:p = 4
  · subst e4
    have h:some (1,0) = some (n,k):=h
    cases h
    refine ⟨a.CALLS_4,a.tell_kids,T.e_CALLS_4,T.t_CALLS_4,isCall_of T.f_tell_kids.kp (ok_tell_kids T) (by decide) (fun xs rows c h => ?_),by decide,by decide⟩
    rcases xs with _ | ⟨x,_ | ⟨y,_ | ⟨_,_⟩⟩⟩ <;> rcases rows with _ | ⟨r0,_ | ⟨r1,_ | ⟨_,_⟩⟩⟩ <;> first | (cases h; done) | (cases h; exact ⟨_,rfl,rfl,rfl⟩)
  by_cases e5:p = 5
  · subst e5
    have h:some (1,0) = some (n,k):=h
    cases h
    refine ⟨a.CALLS_5,a.tell_up,T.e_CALLS_5,T.t_CALLS_5,isCall_of T.f_tell_up.kp (ok_tell_up T) (by decide) (fun xs rows c h => ?_),by decide,by decide⟩
    rcases xs with _ | ⟨x,_ | ⟨y,_ | ⟨_,_⟩⟩⟩ <;> rcases rows with _ | ⟨r0,_ | ⟨r1,_ | ⟨_,_⟩⟩⟩ <;> first | (cases h; done) | (cases h; exact ⟨_,rfl,rfl,rfl⟩)
  by_cases e6:p = 6
  · subst e6
    have h:some (1,0) = some (n,k):=h
    cases h
    refine ⟨a.CALLS_6,a.tell_piece,T.e_CALLS_6,T.t_CALLS_6,isCall_of T.f_tell_piece.kp (ok_tell_piece T) (by decide) (fun xs rows c h => ?_),by decide,by decide⟩
    rcases xs with _ | ⟨x,_ | ⟨y,_ | ⟨_,_⟩⟩⟩ <;> rcases rows with _ | ⟨r0,_ | ⟨r1,_ | ⟨_,_⟩⟩⟩ <;> first | (cases h; done) | (cases h; exact ⟨_,rfl,rfl,rfl⟩)
  by_cases e7:p = 7
  · subst e7
    have h:some (1,0) = some (n,k):=h
    cases h
    refine ⟨a.CALLS_7,a.tell_of,T.e_CALLS_7,T.t_CALLS_7,isCall_of T.f_tell_of.kp (ok_tell_of T) (by decide) (fun xs rows c h => ?_),by decide,by decide⟩
    rcases xs with _ | ⟨x,_ | ⟨y,_ | ⟨_,_⟩⟩⟩ <;> rcases rows with _ | ⟨r0,_ | ⟨r1,_ | ⟨_,_⟩⟩⟩ <;> first | (cases h; done) | (cases h; exact ⟨_,rfl,rfl,rfl⟩)
  by_cases e8:p = 8
  · subst e8
    have h:some (2,0) = some (n,k):=h
    cases h
    refine ⟨a.CALLS_8,a.tell_under,T.e_CALLS_8,T.t_CALLS_8,isCall_of T.f_tell_under.kp (ok_tell_under T) (by decide) (fun xs rows c h => ?_),by decide,by decide⟩
    rcases xs with _ | ⟨x,_ | ⟨y,_ | ⟨_,_⟩⟩⟩ <;> rcases rows with _ | ⟨r0,_ | ⟨r1,_ | ⟨_,_⟩⟩⟩ <;> first | (cases h; done) | (cases h; exact ⟨_,_,rfl,rfl,rfl⟩)
  by_cases e9:p = 9
  · subst e9
    have h:some (1,0) = some (n,k):=h
    cases h
    refine ⟨a.CALLS_9,a.tell_cut,T.e_CALLS_9,T.t_CALLS_9,isCall_of T.f_tell_cut.kp (ok_tell_cut T) (by decide) (fun xs rows c h => ?_),by decide,by decide⟩
    rcases xs with _ | ⟨x,_ | ⟨y,_ | ⟨_,_⟩⟩⟩ <;> rcases rows with _ | ⟨r0,_ | ⟨r1,_ | ⟨_,_⟩⟩⟩ <;> first | (cases h; done) | (cases h; exact ⟨_,rfl,rfl,rfl⟩)
  by_cases e10:p = 10
  · subst e10
    have h:some (1,2) = some (n,k):=h
    cases h
    refine ⟨a.CALLS_10,a.put,T.e_CALLS_10,T.t_CALLS_10,isCall_of T.f_put.kp (ok_put T) (by decide) (fun xs rows c h => ?_),by decide,by decide⟩
    rcases xs with _ | ⟨x,_ | ⟨y,_ | ⟨_,_⟩⟩⟩ <;> rcases rows with _ | ⟨r0,_ | ⟨r1,_ | ⟨_,_⟩⟩⟩ <;> first | (cases h; done) | (cases h; exact ⟨_,_,_,rfl,rfl,rfl⟩)
  by_cases e11:p = 11
  · subst e11
    have h:some (2,0) = some (n,k):=h
    cases h
    refine ⟨a.CALLS_11,a.swap,T.e_CALLS_11,T.t_CALLS_11,isCall_of T.f_swap.kp (ok_swap T) (by decide) (fun xs rows c h => ?_),by decide,by decide⟩
    rcases xs with _ | ⟨x,_ | ⟨y,_ | ⟨_,_⟩⟩⟩ <;> rcases rows with _ | ⟨r0,_ | ⟨r1,_ | ⟨_,_⟩⟩⟩ <;> first | (cases h; done) | (cases h; exact ⟨_,_,rfl,rfl,rfl⟩)
  by_cases e12:p = 12
  · subst e12
    have h:some (0,1) = some (n,k):=h
    cases h
    refine ⟨a.CALLS_12,a.tell_difference,T.e_CALLS_12,T.t_CALLS_12,isCall_of T.f_tell_difference.kp (ok_tell_difference T) (by decide) (fun xs rows c h => ?_),by decide,by decide⟩
    rcases xs with _ | ⟨x,_ | ⟨y,_ | ⟨_,_⟩⟩⟩ <;> rcases rows with _ | ⟨r0,_ | ⟨r1,_ | ⟨_,_⟩⟩⟩ <;> first | (cases h; done) | (cases h; exact ⟨_,rfl,rfl,rfl⟩)
  by_cases e13:p = 13
  · subst e13
    have h:some (1,0) = some (n,k):=h
    cases h
    refine ⟨a.CALLS_13,a.tell_path,T.e_CALLS_13,T.t_CALLS_13,isCall_of T.f_tell_path.kp (ok_tell_path T) (by decide) (fun xs rows c h => ?_),by decide,by decide⟩
    rcases xs with _ | ⟨x,_ | ⟨y,_ | ⟨_,_⟩⟩⟩ <;> rcases rows with _ | ⟨r0,_ | ⟨r1,_ | ⟨_,_⟩⟩⟩ <;> first | (cases h; done) | (cases h; exact ⟨_,rfl,rfl,rfl⟩)
  by_cases e14:p = 14
  · subst e14
    have h:some (0,1) = some (n,k):=h
    cases h
    refine ⟨a.CALLS_14,a.tell_node_at,T.e_CALLS_14,T.t_CALLS_14,isCall_of T.f_tell_node_at.kp (ok_tell_node_at T) (by decide) (fun xs rows c h => ?_),by decide,by decide⟩
    rcases xs with _ | ⟨x,_ | ⟨y,_ | ⟨_,_⟩⟩⟩ <;> rcases rows with _ | ⟨r0,_ | ⟨r1,_ | ⟨_,_⟩⟩⟩ <;> first | (cases h; done) | (cases h; exact ⟨_,rfl,rfl,rfl⟩)
  by_cases e15:p = 15
  · subst e15
    have h:some (1,0) = some (n,k):=h
    cases h
    refine ⟨a.CALLS_15,a.tell_measure,T.e_CALLS_15,T.t_CALLS_15,isCall_of T.f_tell_measure.kp (ok_tell_measure T) (by decide) (fun xs rows c h => ?_),by decide,by decide⟩
    rcases xs with _ | ⟨x,_ | ⟨y,_ | ⟨_,_⟩⟩⟩ <;> rcases rows with _ | ⟨r0,_ | ⟨r1,_ | ⟨_,_⟩⟩⟩ <;> first | (cases h; done) | (cases h; exact ⟨_,rfl,rfl,rfl⟩)
  by_cases e16:p = 16
  · subst e16
    have h:some (0,0) = some (n,k):=h
    cases h
    refine ⟨a.CALLS_16,a.undo,T.e_CALLS_16,T.t_CALLS_16,isCall_of T.f_undo.kp (ok_undo T) (by decide) (fun xs rows c h => ?_),by decide,by decide⟩
    rcases xs with _ | ⟨x,_ | ⟨y,_ | ⟨_,_⟩⟩⟩ <;> rcases rows with _ | ⟨r0,_ | ⟨r1,_ | ⟨_,_⟩⟩⟩ <;> first | (cases h; done) | (cases h; exact rfl)
  rw [PyVaglri.shape,if_neg e0,if_neg e1,if_neg e2,if_neg e3,if_neg e4,if_neg e5,if_neg e6,if_neg e7,if_neg e8,if_neg e9,if_neg e10,if_neg e11,if_neg e12,if_neg e13,if_neg e14,if_neg e15,if_neg e16] at h
  cases h
end
end TC
namespace TC
open PySem PySem.Spec PyProof.Rows L2
noncomputable def KY (d rd:Addr) (H H':Hp):Prop:=∀ b o,H b = some o → b ≠ d → b ≠ rd → (∀ v r,o ≠ .lst (.ref v :: r)) → H' b = some o
theorem call_flat {ns:List Int} {p:Nat} {c:List (List Int)} {t:List Int} (h:PyFlat.call PyVaglri.shape (ns.drop p) = some (c,t)) :
    ∃ p0 n k ws,ns[p]? = some p0 ∧ PyVaglri.shape p0 = some (n,k) ∧ p + 1 + n ≤ ns.length ∧ PyFlat.rows k (ns.drop (p + 1 + n)) = some (ws,t) ∧ c = (p0 :: (ns.drop (p + 1)).take n) :: ws:=by
  cases e:ns.drop p with
  | nil => rw [e] at h; cases h
  | cons p0 r =>
    rw [e] at h
    have hp:p < ns.length:=by
      by_cases c:p < ns.length
      · exact c
      · rw [List.drop_eq_nil_of_le (by omega)] at e; cases e
    have e2:=List.drop_eq_getElem_cons hp
    rw [e] at e2
    injection e2 with e3 e4
    unfold PyFlat.call at h
    dsimp only at h
    cases es:PyVaglri.shape p0 with
    | none => rw [es] at h; cases h
    | some nk =>
      obtain ⟨n,k⟩:=nk
      rw [es] at h
      dsimp only at h
      split at h
      · cases h
      · rename_i hl
        rw [e4,List.length_drop] at hl
        cases er:PyFlat.rows k (r.drop n) with
        | none => rw [er] at h; cases h
        | some q =>
          obtain ⟨ws,t2⟩:=q
          rw [er] at h
          cases h
          refine ⟨p0,n,k,ws,by rw [List.getElem?_eq_getElem hp,← e3],es,by omega,?_,by rw [← e4]⟩
          rw [← List.drop_drop,← e4]
          exact er
section
variable {P:Program} {w:World} {K:PySem.W.Frag} {mg:Str → Option Value} {base:Heap} {a:Adr}
noncomputable def sp_answer_call (K:PySem.W.Frag) (a:Adr):Sp:=fun vs H Q _ => ∃ (z d rd dx l:Addr) (ns:List Int) (p:Nat) (s:Vaglri.State) (c:List (List Int)) (t:List Int) (k:Vaglri.Call) (zs:List Int),vs = [.ref d,.ref rd] ∧ Dk a z H d s ∧ H z = some (.lst (zs.map V.int)) ∧ H rd = some (.ins a.Reader dx (rdF l (p:Nat))) ∧ SqL K H l (ns.map V.int) ∧ Fix K l rd (ns.map V.int) ∧
  PyFlat.call PyVaglri.shape (ns.drop p) = some (c,t) ∧ VaglriNeutral.callOf c = some k ∧
  ∀ la H' p',ns.drop p' = t → p' ≤ ns.length → H' rd = some (.ins a.Reader dx (rdF l ((p':Nat):Int))) → Dk a z H' d (Vaglri.step s k).1 → H' la = some (.lst ((Vaglri.step s k).2.map V.int)) → la ≠ z → (Vaglri.step s k).2.length ≤ 10000 → KY d rd H H' → Q (.ref la) H'
noncomputable def EA (K:PySem.W.Frag) (a:Adr) (Q:VK):XK:=fun C dx H' => ∃ n,IsRef K a.Refusal n C dx H' ∧ ∀ H3 l,Same H' H3 → H' l = none → H3 l = some (.lst [.int n]) → Q (.ref l) H3
theorem ok_answer_call (T:Txt K mg a):Ok P w K mg base 9 a.answer_call ["desk","reader"] (sp_answer_call K a):=by
  obtain ⟨_,F_Reader_take,b_Reader_take⟩:=ok_Reader_take (P:=P) (w:=w) (base:=base) T
  obtain ⟨_,F_read_arguments,b_read_arguments⟩:=ok_read_arguments (P:=P) (w:=w) (base:=base) T
  refine T.f_answer_call.ok sc_answer_call (fun vs H Q E h => ?_) (fun cdv A outer s H vs Q E hr h => ?_)
  · obtain ⟨z,d,rd,dx,l,ns,p,s,c,t,k,zs,rfl,_⟩:=h
    rfl
  · obtain ⟨z,d,rd,dx,l,ns,p,s0,c,t,k,zs,rfl,hD,hz,hrd,hl,hlr,hcall,hk,q⟩:=h
    refine ⟨_,(pss_cons (ps_set (i:=2) sc_answer_call.nd rfl (Or.inl rfl) (pe_kdget (pe_glob (v:=.ref a.CALLS) (by rfl) T.g_CALLS rfl) (pe_meth0 (pv 1) T.c_Reader T.m_Reader_take F_Reader_take (hr.mono (by decide)) b_Reader_take .nil passE0) (fun _ _ => rfl)))
      (pss_cons (ps_set (i:=3) sc_answer_call.nd rfl (Or.inl rfl) (pe_call F_read_arguments (hr.mono (by decide)) (by rfl) T.g_read_arguments T.f_read_arguments.kp b_read_arguments .nil passE0 (pa_cons (pv 1) (pa_cons (pe_ix ix_tup (pv 2) pe_int (fun _ _ => rfl)) (pa_cons (pe_ix ix_tup (pv 2) pe_int (fun _ _ => rfl)) pa_nil)))))
      (pss_one (ps_try (E:=EA K a Q) (tb:=tRet (tOp rCat (tLst (tCons (tC (.int 0)) tNil)) (tCallV (tOp (rIxT K) (tVar 2) (tC (.int 0))) (IsCall P w K mg base) (EA K a Q) (tCons (tVar 0) (tCons (tVar 3) tNil))))) (ts:=tRet (tLst (tCons (tXget K (tVar 4) "number") tNil))) (i:=4) rfl rfl T.xm_Refusal.cls
        (fun pn' => pss_one (ps_ret (pe_op op_cat (pe_lst (pa_cons pe_int pa_nil)) (pe_callV (k:=8) (pe_ix ix_tup (pv 2) pe_int (fun _ _ => rfl)) (fun f sp h => h) (hr.mono (by decide)) xok_try.passes (pa_cons (pv 0) (pa_cons (pv 3) pa_nil))))))
        (fun pn' a' => pss_one (ps_ret (pe_lst (pa_cons (pe_xget (pv 4) rfl) pa_nil)))) (by rfl) T.g_Refusal sc_answer_call.nd rfl rfl)))),?_⟩
    obtain ⟨dxd,lr,tv,lb,bs,D⟩:=hD
    obtain ⟨p0,n,kk,ws,hp0,hsh,hpn,hrows,rfl⟩:=call_flat hcall
    obtain ⟨ct,f,g1,g2,g3,g4,g5⟩:=callAt (P:=P) (w:=w) (base:=base) T hsh
    have hdr:d ≠ rd:=ne_ins D.obj hrd (by show ¬ (["rules","tree","before"]:List Str) = (["numbers","place"]:List Str); decide +kernel)
    have hzr:z ≠ rd:=ne_of hz hrd (by intro z; cases z)
    refine ⟨_,rfl,rd,dx,_,rfl,hrd,rfl,rd,l,ns,p,p0,dx,rfl,hrd,hl,hp0,a.CALLS,p0,V.ref ct,_,rfl,rfl,T.d_CALLS,g1,rfl,?_⟩
    have k1:Kp [rd] H (upd H rd (.ins a.Reader dx (rdF l ((p + 1:Nat):Int)))):=Kp.upd (by simp)
    generalize hH1:upd H rd (.ins a.Reader dx (rdF l ((p + 1:Nat):Int))) = H1 at k1 ⊢
    have hrd1:H1 rd = some (.ins a.Reader dx (rdF l ((p + 1:Nat):Int))):=by rw [← hH1]; exact upd_same
    have hz1:H1 z ≠ none:=by rw [k1 _ _ hz (by simpa using hzr)]; exact fun z => nomatch z
    refine ⟨_,rfl,_,rfl,ct,_,_,V.int (n:Nat),rfl,rfl,sqT_of g2,at_of (j:=1) rfl rfl,_,rfl,ct,_,_,V.int (kk:Nat),rfl,rfl,sqT_of g2,at_of (j:=2) rfl rfl,z,rd,dx,l,ns,ws,t,p + 1,n,kk,rfl,hrd1,sqL_fix hl hlr k1,hlr,hz1,hzr,g4,g5,hpn,hrows,fun la H2 p' e1 e2 hrd2 hargs k2 => ?_⟩
    have k12:Kp [rd] H H2:=k1.trans k2
    have D2:DeskAt a z H2 d dxd lr tv lb bs s0:=D.kp k12 (by intro b hb; rw [List.mem_singleton.mp hb]; exact .inr ⟨_,_,_,hrd⟩)
    have hz2:H2 z = some (.lst (zs.map V.int)):=k12 _ _ hz (by simpa using hzr)
    have ky:∀ {H3:Hp},KX d H2 H3 → KY d rd H H3:=fun {H3} kx b o hb n1 n2 n3 => kx b o (k12 b o hb (by simpa using n2)) n1 n3
    refine ⟨?_,fun C dxe H' hE => ?_⟩
    ·
      refine ⟨(by show 1 ≤ sizeLine; decide),fun l0 hl0 => ?_⟩
      have s3:=Same.new (o:=.lst [.int 0]) hl0
      refine ⟨_,rfl,ct,_,_,V.ref f,rfl,rfl,sqT_of g2,at_of (j:=0) rfl rfl,f,_,rfl,g3,_,rfl,_,rfl,z,d,la,s0,(ns.drop (p + 1)).take n,ws,k,rfl,Dk.same ⟨dxd,lr,tv,lb,bs,D2⟩ s3,Same.there s3 (by rw [hz2]; exact fun z => nomatch z),?_,hk,fun rest l3 H3 er hD3 h3 kx hlen => ?_,fun m er hm => ?_⟩
      · obtain ⟨rs,a1,a2⟩:=hargs
        exact ⟨rs,s3 _ _ a1,Paired.mapL a2 fun b xs ⟨b1,b2⟩ => ⟨s3 _ _ b1,b2⟩⟩
      · have h0:H3 l0 = some (.lst [.int 0]):=kx l0 _ upd_same (fun e => by rw [e,D2.obj] at hl0; cases hl0) (by intro v r z; cases z)
        refine ⟨l0,l3,_,_,rfl,rfl,h0,h3,?_,fun l4 hl4 => ?_⟩
        · rw [List.length_map]
          exact Nat.le_trans (show 1 + rest.length ≤ 10000 by omega) (by decide)
        have s4:=Same.new (o:=.lst ([.int 0] ++ rest.map V.int)) hl4
        have kx2:KX d H2 (upd H3 l4 (.lst ([.int 0] ++ rest.map V.int))):=fun b o hb n1 n2 => s4 _ _ (kx b o (s3 _ _ hb) n1 n2)
        have hz3:H3 z ≠ none:=by
          rw [kx z _ (s3 _ _ hz2) (ne_of hz2 D2.obj (by intro z; cases z)) (by
            intro v r e2
            cases zs with
            | nil => cases e2
            | cons _ _ => cases e2)]
          exact fun z => nomatch z
        refine q l4 _ p' e1 e2 (s4 _ _ (kx rd _ (s3 _ _ hrd2) (Ne.symm hdr) (by intro v r z; cases z))) (hD3.same s4) ?_ (fun e => hz3 (by rw [← e]; exact hl4)) ?_ (ky kx2)
        · rw [upd_same,er]
          rfl
        · rw [er,List.length_cons]
          omega
      · intro C dxe H' hI hk3
        have sA:Same H2 H':=fun b o hb => hk3 b o (s3 _ _ hb) (by simp)
        refine ⟨m,hI,fun H3 l3 s5 hl3 h3 => ?_⟩
        have s25:=sA.trans s5
        refine q l3 H3 p' e1 e2 (s25 _ _ hrd2) ?_ (by rw [er]; exact h3) (fun e => ?_) (by rw [er]; show 1 ≤ 10000; decide) (ky (KX.same s25))
        · rw [er]
          exact Dk.same ⟨dxd,lr,tv,lb,bs,D2⟩ s25
        · rw [e,sA _ _ hz2] at hl3
          cases hl3
    ·
      obtain ⟨m,⟨c0,d0,ec,ed,hsub,hx,hd0⟩,hq⟩:=hE
      cases ec
      cases ed
      refine ⟨hsub,fun ea hea => ?_⟩
      have s1:=Same.new (o:=exr ea C (some d0)) hea
      refine ⟨_,rfl,ea,C,d0,_,_,rfl,upd_same,s1 _ _ hd0,hx,rfl,(by show 1 ≤ sizeLine; decide),fun l3 hl3 => ?_⟩
      exact hq _ l3 (s1.trans (Same.new hl3)) (s1.free hl3) upd_same
end
end TC
namespace TC
open PySem PySem.Spec PyProof.Rows L2
theorem rows_len:∀ {k:Nat} {r:List Int} {ws:List (List Int)} {t:List Int},PyFlat.rows k r = some (ws,t) → ws.length = k
  | 0,_,_,_,h => by cases h; rfl
  | k + 1,_,_,_,h => by
    obtain ⟨_,_,_,_,e,rfl⟩:=rows_row h
    rw [List.length_cons,rows_len e]
theorem len_0 {α:Type} {l:List α} (h:l.length = 0):l = []:=List.length_eq_zero_iff.mp h
theorem len_1 {α:Type} {l:List α} (h:l.length = 1):∃ x,l = [x]:=List.length_eq_one_iff.mp h
theorem len_2 {α:Type} {l:List α} (h:l.length = 2):∃ x y,l = [x,y]:=match l,h with | [x,y],_ => ⟨x,y,rfl⟩
noncomputable def WC (p:Int) (n k:Nat):Prop:=∀ (xs:List Int) (ws:List (List Int)),xs.length = n → ws.length = k → PyVaglri.whole ((p :: xs) :: ws) = (p :: xs) :: ws ∧ ∃ c,VaglriNeutral.callOf ((p :: xs) :: ws) = some c
theorem wc00 {p:Int} (h:PyVaglri.whole [[p]] = [[p]] ∧ ∃ c,VaglriNeutral.callOf [[p]] = some c):WC p 0 0:=fun xs ws h1 h2 => by rw [len_0 h1,len_0 h2]; exact h
theorem wc01 {p:Int} (h:∀ r,PyVaglri.whole [[p],r] = [[p],r] ∧ ∃ c,VaglriNeutral.callOf [[p],r] = some c):WC p 0 1:=fun xs ws h1 h2 => by obtain ⟨r,e⟩:=len_1 h2; rw [len_0 h1,e]; exact h r
theorem wc02 {p:Int} (h:∀ r s,PyVaglri.whole [[p],r,s] = [[p],r,s] ∧ ∃ c,VaglriNeutral.callOf [[p],r,s] = some c):WC p 0 2:=fun xs ws h1 h2 => by obtain ⟨r,s,e⟩:=len_2 h2; rw [len_0 h1,e]; exact h r s
theorem wc10 {p:Int} (h:∀ x,PyVaglri.whole [[p,x]] = [[p,x]] ∧ ∃ c,VaglriNeutral.callOf [[p,x]] = some c):WC p 1 0:=fun xs ws h1 h2 => by obtain ⟨r,e⟩:=len_1 h1; rw [len_0 h2,e]; exact h r
theorem wc12 {p:Int} (h:∀ x r s,PyVaglri.whole [[p,x],r,s] = [[p,x],r,s] ∧ ∃ c,VaglriNeutral.callOf [[p,x],r,s] = some c):WC p 1 2:=fun xs ws h1 h2 => by obtain ⟨x,e⟩:=len_1 h1; obtain ⟨r,s,e2⟩:=len_2 h2; rw [e,e2]; exact h x r s
theorem wc20 {p:Int} (h:∀ x y,PyVaglri.whole [[p,x,y]] = [[p,x,y]] ∧ ∃ c,VaglriNeutral.callOf [[p,x,y]] = some c):WC p 2 0:=fun xs ws h1 h2 => by obtain ⟨x,y,e⟩:=len_2 h1; rw [len_0 h2,e]; exact h x y
theorem wc_if {p q:Int} {n k n0 k0:Nat} {e:Option (Nat × Nat)} (hq:WC q n0 k0) (h:(if p = q then some (n0,k0) else e) = some (n,k)) (hn:e = some (n,k) → WC p n k):WC p n k:=by
  by_cases c:p = q
  · rw [if_pos c] at h; cases h; rw [c]; exact hq
  · rw [if_neg c] at h; exact hn h
theorem shape_wc {p:Int} {n k:Nat} (h:PyVaglri.shape p = some (n,k)):WC p n k:=by
  refine wc_if (wc01 fun _ => ⟨rfl,_,rfl⟩) h fun h => wc_if (wc02 fun _ _ => ⟨rfl,_,rfl⟩) h fun h => wc_if (wc00 ⟨rfl,_,rfl⟩) h fun h => wc_if (wc00 ⟨rfl,_,rfl⟩) h fun h => wc_if (wc10 fun _ => ⟨rfl,_,rfl⟩) h fun h => wc_if (wc10 fun _ => ⟨rfl,_,rfl⟩) h fun h => wc_if (wc10 fun _ => ⟨rfl,_,rfl⟩) h fun h => wc_if (wc10 fun _ => ⟨rfl,_,rfl⟩) h fun h => wc_if (wc20 fun _ _ => ⟨rfl,_,rfl⟩) h fun h => wc_if (wc10 fun _ => ⟨rfl,_,rfl⟩) h fun h => wc_if (wc12 fun _ _ _ => ⟨rfl,_,rfl⟩) h fun h => wc_if (wc20 fun _ _ => ⟨rfl,_,rfl⟩) h fun h => wc_if (wc01 fun _ => ⟨rfl,_,rfl⟩) h fun h => wc_if (wc10 fun _ => ⟨rfl,_,rfl⟩) h fun h => wc_if (wc01 fun _ => ⟨rfl,_,rfl⟩) h fun h => wc_if (wc10 fun _ => ⟨rfl,_,rfl⟩) h fun h => wc_if (wc00 ⟨rfl,_,rfl⟩) h fun h => ?_
  cases h
theorem call_wc {r:List Int} {c:List (List Int)} {t:List Int} (h:PyFlat.call PyVaglri.shape r = some (c,t)):PyVaglri.whole c = c ∧ ∃ k,VaglriNeutral.callOf c = some k:=by
  obtain ⟨p0,n,k,ws,_,h2,h3,h4,rfl⟩:=call_flat (ns:=r) (p:=0) (by rw [List.drop_zero]; exact h)
  exact shape_wc h2 _ _ (by rw [List.length_take,List.length_drop]; omega) (rows_len h4)
theorem calls_cons {f:Nat} {r:List Int} {cs:List (List (List Int))} (h:PyFlat.calls PyVaglri.shape f r = some cs) (hr:r ≠ []):∃ f' c t cs',PyFlat.call PyVaglri.shape r = some (c,t) ∧ PyFlat.calls PyVaglri.shape f' t = some cs' ∧ cs = c :: cs':=by
  match f,r,h with
  | _,[],_ => exact absurd rfl hr
  | 0,_ :: _,h => cases h
  | f + 1,p :: r,h =>
    unfold PyFlat.calls at h
    cases e:PyFlat.call PyVaglri.shape (p :: r) with
    | none => rw [e] at h; cases h
    | some q =>
      obtain ⟨c,t⟩:=q
      rw [e] at h
      dsimp only at h
      cases e2:PyFlat.calls PyVaglri.shape f t with
      | none => rw [e2] at h; cases h
      | some cs' =>
        rw [e2] at h
        cases h
        exact ⟨f,c,t,cs',rfl,e2,rfl⟩
theorem calls_nil {f:Nat} {cs:List (List (List Int))} (h:PyFlat.calls PyVaglri.shape f [] = some cs):cs = []:=by
  unfold PyFlat.calls at h
  cases f <;> (cases h; rfl)
theorem calls_all:∀ {cs:List (List (List Int))} {f:Nat} {r:List Int},PyFlat.calls PyVaglri.shape f r = some cs → ∀ c ∈ cs,PyVaglri.whole c = c ∧ ∃ k,VaglriNeutral.callOf c = some k
  | [],_,_,_,_,hc => nomatch hc
  | c :: cs,f,r,h,x,hx => by
    obtain ⟨f',c',t,cs',e1,e2,e3⟩:=calls_cons h (fun e => by rw [e] at h; cases calls_nil h)
    injection e3 with e4 e5
    subst e4; subst e5
    rcases List.mem_cons.mp hx with rfl | hx
    · exact call_wc e1
    · exact calls_all e2 x hx
theorem told_cons (a:List Int) (l:List (List Int)):PyFlat.told (a :: l) = ((a.length:Nat):Int) :: (a ++ PyFlat.told l):=by
  unfold PyFlat.told
  rw [List.flatMap_cons]
  rfl
section
variable {P:Program} {w:World} {K:PySem.W.Frag} {mg:Str → Option Value} {base:Heap} {a:Adr}
noncomputable def sp_answers (K:PySem.W.Frag):Sp:=fun vs H Q _ => ∃ (l:Addr) (ns:List Int),vs = [.ref l] ∧ SqL K H l (ns.map V.int) ∧ PyVaglri.answers_asked ns = true ∧ OnlyF H ∧ ∀ p H',H' p = some (.lst ((PyVaglri.answers ns).map V.int)) → Q (.ref p) H'
structure Left (s:Vaglri.State) (r:List Int) (told:List Int) (all:List Int) (cs:List (List (List Int))):Prop where
  cal:∃ f,PyFlat.calls PyVaglri.shape f r = some cs
  ask:∀ c ∈ cs,∃ k,VaglriNeutral.callOf c = some k
  tld:all = told ++ PyFlat.told (PyFlat.played VaglriNeutral.step s cs)
  few:told.length + 10001 * cs.length ≤ 1000100
theorem left_start {ns:List Int} (h:PyVaglri.answers_asked ns = true):∃ cs,Left Vaglri.start ns [] (PyVaglri.answers ns) cs:=by
  unfold PyVaglri.answers_asked at h
  cases e:PyFlat.calls PyVaglri.shape ns.length ns with
  | none => rw [e] at h; cases h
  | some cs =>
    rw [e] at h
    dsimp only at h
    obtain ⟨h12,h3⟩:=Bool.and_eq_true_iff.mp h
    obtain ⟨h1,h2⟩:=Bool.and_eq_true_iff.mp h12
    have hA:=calls_all e
    have hm:cs.map PyVaglri.whole = cs:=(List.map_congr_left fun c hc => (hA c hc).1).trans (List.map_id' cs)
    have h1:cs.length ≤ 100:=dT h1
    refine ⟨cs,⟨_,e⟩,fun c hc => (hA c hc).2,?_,by show 0 + _ ≤ _; omega⟩
    unfold PyVaglri.answers PyVaglri.calls
    rw [e]
    dsimp only
    rw [hm]
    rfl
theorem kp_sq {K:PySem.W.Frag} {l:Addr} {xs:List V} {H H':Hp} (h:SqL K H l xs) (k:∀ o,H l = some o → H' l = some o):SqL K H' l xs:=by
  rcases h with (h | ⟨o,h⟩) | h
  · exact .inl (.inl (k _ h))
  · exact .inl (.inr ⟨o,k _ h⟩)
  · exact .inr h
theorem run_answers (T:Txt K mg a) {fd:FuncData} (F:Fun K "answers" "answers" s_answers a.answers fd):FnOk P w K mg base (CXE P w) 10 a.answers fd ["calls"] (sp_answers K):=by
  obtain ⟨_,F_Desk_init,b_Desk_init⟩:=ok_Desk_init (P:=P) (w:=w) (base:=base) T
  obtain ⟨_,F_Reader_init,b_Reader_init⟩:=ok_Reader_init (P:=P) (w:=w) (base:=base) T
  obtain ⟨_,F_Reader_at_end,b_Reader_at_end⟩:=ok_Reader_at_end (P:=P) (w:=w) (base:=base) T
  obtain ⟨_,F_answer_call,b_answer_call⟩:=ok_answer_call (P:=P) (w:=w) (base:=base) T
  refine (F.ok sc_answers (fun vs H Q E h => ?_) (fun cdv A outer s H vs Q E hr h => ?_)).calm
  · obtain ⟨l,ns,rfl,_⟩:=h
    rfl
  · obtain ⟨l,ns,rfl,hl,hask,hO,q⟩:=h
    refine ⟨_,(pss_cons (ps_set (i:=1) sc_answers.nd rfl (Or.inl rfl) (pe_make0 T.mk_Desk F_Desk_init (hr.mono (by decide)) (by rfl) T.g_Desk b_Desk_init .nil passE0))
      (pss_cons (ps_set (i:=2) sc_answers.nd rfl (Or.inl rfl) (pe_make T.mk_Reader F_Reader_init (hr.mono (by decide)) (by rfl) T.g_Reader b_Reader_init .nil passE0 (pa_cons (pv 0) pa_nil)))
      (pss_cons (ps_set (i:=3) sc_answers.nd rfl (Or.inl rfl) (pe_lst pa_nil))
      (pss_cons (ps_while PassesOwn.never (pt_not (pt_val (pe_meth0 (pv 2) T.c_Reader T.m_Reader_at_end F_Reader_at_end (hr.mono (by decide)) b_Reader_at_end .nil passE0)))
      (pss_cons (ps_set (i:=4) sc_answers.nd rfl (Or.inl rfl) (pe_call F_answer_call (hr.mono (by decide)) (by rfl) T.g_answer_call T.f_answer_call.kp b_answer_call .nil passE0 (pa_cons (pv 1) (pa_cons (pv 2) pa_nil))))
      (pss_cons (ps_expr (pe_bm PySem.F.plainAttrs_list PySem.F.slot_list_append PySem.F.type_list_append mt_append (pv 3) (pa_cons (pe_callB call_len_seq (by rfl) T.b_len PySem.boot_len (pa_cons (pv 4) pa_nil)) pa_nil)))
      (pss_one (ps_expr (pe_bm PySem.F.plainAttrs_list PySem.F.slot_list_extend PySem.F.type_list_extend mt_extend (pv 3) (pa_cons (pv 4) pa_nil)))))))
      (pss_one (ps_ret (pv 3))))))),?_⟩
    obtain ⟨cs0,L0⟩:=left_start hask
    have hlH:∀ o,H l = some o → ∃ o' u,o = .frz o' u:=fun o ho => by
      rcases hO l with z | ⟨o',u,z⟩
      · rw [ho] at z; cases z
      · rw [ho] at z; cases z; exact ⟨o',u,rfl⟩
    refine fun d dx nd0 nd1 nd2 => ⟨d,dx,rfl,upd_same,fun lr lb H1 hlr hlb hrb g1 g2 g3 k1 => ⟨rfl,?_⟩⟩
    have nlrd:lr ≠ d:=fun e => by rw [e,upd_same] at hlr; cases hlr
    have nlbd:lb ≠ d:=fun e => by rw [e,upd_same] at hlb; cases hlb
    have s1:Same H H1:=fun c o hc => k1 c o (by rw [upd_ne (ne_of_none hc nd0),upd_ne (ne_of_none hc nd1)]; exact hc) (by simpa using ne_of_none hc nd0)
    refine ⟨_,rfl,fun rd dr nr0 nr1 nr2 => ⟨rd,l,dr,rfl,upd_same,rfl,?_⟩⟩
    rw [upd_upd]
    have s2:Same H1 (upd (upd H1 dr (.own rd)) rd (.ins a.Reader dr (rdF l 0))):=Same.ins nr0 nr1 nr2
    have hrd2:(upd (upd H1 dr (.own rd)) rd (.ins a.Reader dr (rdF l 0))) rd = some (.ins a.Reader dr (rdF l ((0:Nat):Int))):=upd_same
    generalize upd (upd H1 dr (.own rd)) rd (.ins a.Reader dr (rdF l 0)) = H2 at s2 hrd2 ⊢
    refine ⟨Nat.zero_le _,fun z hz => ?_⟩
    have s3:Same H2 (upd H2 z (.lst [])):=Same.new hz
    have hz3:(upd H2 z (.lst [])) z = some (.lst (([]:List Int).map V.int)):=upd_same
    generalize upd H2 z (.lst []) = H3 at s3 hz3 ⊢
    have s13:=s2.trans s3
    have D3:Dk a z H3 d Vaglri.start:=by
      refine ⟨dx,lr,.non,lb,[],s13 _ _ g1,⟨[],s13 _ _ g2,.nil,?_⟩,fun q hq => (nomatch hq),rfl,⟨s13 _ _ g3,?_⟩,.nil,Nat.zero_le _⟩
      · intro e; rw [← e,s2 _ _ g2] at hz; cases hz
      · intro e; rw [← e,s2 _ _ g3] at hz; cases hz
    have hl3:SqL K H3 l (ns.map V.int):=kp_sq hl fun o ho => s13 _ _ (s1 _ _ ho)
    have hlr3:Fix K l rd (ns.map V.int):=by
      rcases hl with (h | ⟨o,h⟩) | h
      · refine .inl fun e => ?_
        have:=s1 _ _ h; rw [e,nr0] at this; cases this
      · refine .inl fun e => ?_
        have:=s1 _ _ h; rw [e,nr0] at this; cases this
      · exact .inr fun _ => .inr h
    have hrd3:=s3 _ _ hrd2
    refine ⟨fun m σ H' => ∃ (p:Nat) (s:Vaglri.State) (tl:List Int) (cs:List (List (List Int))) (v4:Option V),σ = [some (.ref l),some (.ref d),some (.ref rd),some (.ref z),v4] ∧ Dk a z H' d s ∧ H' z = some (.lst (tl.map V.int)) ∧ H' rd = some (.ins a.Reader dr (rdF l ((p:Nat):Int))) ∧ SqL K H' l (ns.map V.int) ∧ (∀ o,H l = some o → H' l = some o) ∧ p ≤ ns.length ∧ Left s (ns.drop p) tl (PyVaglri.answers ns) cs ∧ m = cs.length,
      ⟨_,0,Vaglri.start,[],cs0,none,rfl,D3,hz3,hrd3,hl3,fun o ho => s13 _ _ (s1 _ _ ho),Nat.zero_le _,by rw [List.drop_zero]; exact L0,rfl⟩,?_⟩
    rintro m σ H' ⟨p,s0,tl,cs,v4,rfl,hD,hz',hrd',hl',hk',hp,L,rfl⟩
    refine ⟨_,rfl,rd,dr,_,rfl,hrd',rfl,rd,l,ns,p,rfl,⟨⟨dr,hrd'⟩,hl'⟩,_,rfl,?_⟩
    refine ite2 (fun c => ?_) (fun c => ?_)
    · have c1:¬ ns.length ≤ p:=by simpa using c
      obtain ⟨f,hf⟩:=L.cal
      obtain ⟨f',ca,t,cs',e1,e2,rfl⟩:=calls_cons hf (by intro e; have:=List.drop_eq_nil_iff.mp e; omega)
      obtain ⟨k,hk⟩:=L.ask ca List.mem_cons_self
      refine ⟨_,fun σ' H' h => h,?_⟩
      refine ⟨_,rfl,_,rfl,z,d,rd,dr,l,ns,p,s0,ca,t,k,tl,rfl,hD,hz',hrd',hl',hlr3,e1,hk,fun la H4 p' f1 f2 f3 f4 f5 f6 f7 f8 => ?_⟩
      have hst:VaglriNeutral.step s0 ca = Vaglri.step s0 k:=by unfold VaglriNeutral.step; rw [hk]; rfl
      have few:=L.few
      rw [List.length_cons] at few
      obtain ⟨dxd,lrd,tvd,lbd,bsd,Dd⟩:=hD
      have nzd:z ≠ d:=ne_of hz' Dd.obj (by intro z; cases z)
      have nzr:z ≠ rd:=ne_of hz' hrd' (by intro z; cases z)
      have nlr:∀ o,H l = some o → l ≠ rd:=fun o ho e => by
        have:=hk' o ho
        obtain ⟨o',u,e2⟩:=hlH o ho
        rw [e,hrd',e2] at this
        cases this
      have hz4:H4 z = some (.lst (tl.map V.int)):=f8 z _ hz' nzd nzr (by intro v r e; cases tl <;> cases e)
      refine ⟨_,rfl,.inl ⟨rfl,_,SqL.of hz4⟩,_,rfl,la,_,rfl,.inl (SqL.of f5),z,_,_,rfl,rfl,hz4,?_,?_⟩
      · rw [List.length_map]
        exact Nat.lt_of_le_of_lt (show tl.length ≤ 1000100 by omega) (by decide)
      rw [List.length_map]
      have hz5:(upd H4 z (.lst (tl.map V.int ++ [V.int (((Vaglri.step s0 k).2.length:Nat):Int)]))) z = some (.lst ((tl ++ [(((Vaglri.step s0 k).2.length:Nat):Int)]).map V.int)):=by rw [upd_same,List.map_append]; rfl
      have k5:Kp [z] H4 (upd H4 z (.lst (tl.map V.int ++ [V.int (((Vaglri.step s0 k).2.length:Nat):Int)]))):=Kp.upd (by simp)
      generalize upd H4 z (.lst (tl.map V.int ++ [V.int (((Vaglri.step s0 k).2.length:Nat):Int)])) = H5 at hz5 k5 ⊢
      refine ⟨_,rfl,.inl ⟨rfl,_,SqL.of hz5⟩,_,rfl,z,la,_,_,rfl,rfl,hz5,k5 _ _ f5 (by simpa using f6),?_,?_⟩
      · rw [List.length_map,List.length_map,List.length_append]
        exact Nat.le_trans (show tl.length + 1 + (Vaglri.step s0 k).2.length ≤ 1000100 + 1 by omega) (by decide)
      rw [← List.map_append]
      have k6:Kp [z] H4 (upd H5 z (.lst ((tl ++ [(((Vaglri.step s0 k).2.length:Nat):Int)] ++ (Vaglri.step s0 k).2).map V.int))):=k5.trans (Kp.upd (by simp))
      refine ⟨cs'.length,(by show cs'.length < cs'.length + 1; omega),p',(Vaglri.step s0 k).1,tl ++ [(((Vaglri.step s0 k).2.length:Nat):Int)] ++ (Vaglri.step s0 k).2,cs',_,rfl,?_,upd_same,k6 _ _ f3 (by simpa using Ne.symm nzr),?_,?_,f2,?_,rfl⟩
      · obtain ⟨_,_,_,_,_,D4⟩:=f4
        exact ⟨_,_,_,_,_,D4.kp k6 (by intro b hb; rw [List.mem_singleton.mp hb]; exact .inl ⟨rfl,_,hz4⟩)⟩
      · have nzl:∀ o,H l = some o → l ≠ z:=fun o ho e => by
          have:=hk' o ho
          rw [e,hz'] at this
          obtain ⟨o',u,e2⟩:=hlH o ho
          rw [e2] at this
          cases this
        refine kp_sq hl fun o ho => k6 _ _ (f8 l o (hk' o ho) ?_ (nlr o ho) ?_) (by simpa using nzl o ho)
        · intro e
          have:=hk' o ho
          rw [e,Dd.obj] at this
          obtain ⟨o',u,e2⟩:=hlH o ho
          rw [e2] at this
          cases this
        · obtain ⟨o',u,e2⟩:=hlH o ho
          intro v r e3
          rw [e2] at e3
          cases e3
      · intro o ho
        have:=hk' o ho
        obtain ⟨o',u,e2⟩:=hlH o ho
        refine k6 _ _ (f8 l o this ?_ (nlr o ho) ?_) ?_
        · intro e; rw [e,Dd.obj,e2] at this; cases this
        · intro v r e3; rw [e2] at e3; cases e3
        · intro e
          rw [List.mem_singleton.mp e,hz',e2] at this
          cases this
      · refine ⟨⟨f',by rw [f1]; exact e2⟩,fun c hc => L.ask c (List.mem_cons_of_mem _ hc),?_,?_⟩
        · rw [L.tld]
          show tl ++ PyFlat.told ((VaglriNeutral.step s0 ca).2 :: PyFlat.played VaglriNeutral.step (VaglriNeutral.step s0 ca).1 cs') = _
          rw [hst,told_cons]
          simp
        · rw [List.length_append,List.length_append]
          show tl.length + 1 + _ + _ ≤ _
          omega
    · have c1:ns.length ≤ p:=by simpa using c
      obtain ⟨f,hf⟩:=L.cal
      rw [List.drop_eq_nil_of_le c1] at hf
      have ec:=calls_nil hf
      subst ec
      refine ⟨_,rfl,q z H' ?_⟩
      rw [L.tld]
      show _ = some (HO.lst ((tl ++ []).map V.int))
      rw [List.append_nil]
      exact hz'
end
end TC
namespace TC
open PySem PySem.Spec PyProof.Rows L2
section
variable {K:PySem.W.Frag} {h:Heap} {mg:Str → Option Value} {goal:Prop}
theorem look_one {K:PySem.W.Frag} {C:Addr} {o:Obj} (e:K.lookup C = some o):K.lookup C = List.lookup C [(C,o)]:=by
  rw [e]
  simp [List.lookup]
theorem xcls_o {C:Addr} {o:Obj} (e:K.lookup C = some o) (q:xclsIn [(C,o)] C = true):xclsIn K C = true:=by
  unfold xclsIn at q ⊢
  rw [look_one e]
  exact q
theorem intDict_o {C:Addr} {o:Obj} (e:K.lookup C = some o) (q:intDictIn [(C,o)] C = true):intDictIn K C = true:=by
  unfold intDictIn at q ⊢
  rw [look_one e]
  exact q
theorem intGet_o {C:Addr} {o:Obj} {i:Int} {v:Option Value} (e:K.lookup C = some o) (q:intDictGet [(C,o)] C i = v):intDictGet K C i = v:=by
  unfold intDictGet at q ⊢
  rw [look_one e]
  exact q
theorem tup_o {C:Addr} {o:Obj} {vs:List V} (e:K.lookup C = some o) (q:tupIn [(C,o)] C vs = true):tupIn K C vs = true:=by
  unfold tupIn at q ⊢
  rw [look_one e]
  exact q
theorem addF {x:Str} {st:Stmt} {ps:List Str} {f:Addr} {oc:Value} {od an:Option Addr} {osl:Array (Option Value)} {kV doc pm cdv ct:Value} (X:K.In h) (G:h.Ns mainGlobals mg)
    (g:PySem.W.nsIn K mainGlobals x = some (some (.ref f))) (l:K.lookup f = some ⟨oc,od,.func (PySem.W.fnOf x x (defArgs st) (defBody st) (defScope st) .none kV doc pm an cdv ct),osl⟩) (c:PySem.W.codeIn K cdv x = true) (k:PySem.W.keepIn K (.ref f) = true)
    (b:∀ (us:List Value),us.length = ps.length → bindArgs (PySem.W.fnOf x x (defArgs st) (defBody st) (defScope st) .none kV doc pm an cdv ct) ⟨us,[]⟩ = pure (ps.zip us)) (next:mg x = some (.ref f) → FunB K x x st f ps → goal):goal :=
  next (PySem.W.mg_of X G g) (funB_mk l c k b)
theorem addC {x:Str} {C:Addr} (X:K.In h) (G:h.Ns mainGlobals mg) (g:PySem.W.nsIn K mainGlobals x = some (some (.ref C))) (pg:PySem.W.plainGet K C Str.empty = true) (hd:PySem.W.hasDictIn K C = true) (po:PySem.W.plainOver K C = true)
    (sa:PySem.W.findIn K (.ref C) "__setattr__" = some (some (.builtin "object.__setattr__"))) (next:mg x = some (.ref C) → Cls K C → goal):goal:=next (PySem.W.mg_of X G g) ⟨pg,hd,po,sa⟩
theorem addI {C f:Addr} {qual:Str} {st:Stmt} {ps:List Str} {oc:Value} {od an:Option Addr} {osl:Array (Option Value)} {kV doc pm cdv ct:Value} (cl:Cls K C) (mk:PySem.W.makesIn K C = true) (a:PySem.W.findIn K (.ref C) "__init__" = some (some (.ref f))) (i:PySem.W.isFn K (.ref f) = true) (kc:PySem.W.keepIn K (.ref C) = true)
    (l:K.lookup f = some ⟨oc,od,.func (PySem.W.fnOf "__init__" qual (defArgs st) (defBody st) (defScope st) .none kV doc pm an cdv ct),osl⟩) (c:PySem.W.codeIn K cdv qual = true) (k:PySem.W.keepIn K (.ref f) = true)
    (b:∀ (us:List Value),us.length = ps.length → bindArgs (PySem.W.fnOf "__init__" qual (defArgs st) (defBody st) (defScope st) .none kV doc pm an cdv ct) ⟨us,[]⟩ = pure (ps.zip us)) (next:Mk K C f → FunB K "__init__" qual st f ps → goal):goal :=
  next ⟨mk,a,i,kc⟩ (funB_mk l c k b)
theorem addM {C f:Addr} {m qual:Str} {st:Stmt} {ps:List Str} {oc:Value} {od an:Option Addr} {osl:Array (Option Value)} {kV doc pm cdv ct:Value} (cl:Cls K C) (a:PySem.W.findIn K (.ref C) m = some (some (.ref f))) (i:PySem.W.isFn K (.ref f) = true)
    (l:K.lookup f = some ⟨oc,od,.func (PySem.W.fnOf m qual (defArgs st) (defBody st) (defScope st) .none kV doc pm an cdv ct),osl⟩) (c:PySem.W.codeIn K cdv qual = true) (k:PySem.W.keepIn K (.ref f) = true)
    (b:∀ (us:List Value),us.length = ps.length → bindArgs (PySem.W.fnOf m qual (defArgs st) (defBody st) (defScope st) .none kV doc pm an cdv ct) ⟨us,[]⟩ = pure (ps.zip us)) (next:Meth K C m f → FunB K m qual st f ps → goal):goal :=
  next ⟨a,i,k⟩ (funB_mk l c k b)
theorem addN {C:Addr} {f:Str} (cl:Cls K C) (n:PySem.W.findIn K (.ref C) f = some none) (next:NoAttr K C f → goal):goal:=next n
theorem addX {x qual:Str} {C f:Addr} {oC:Obj} {st:Stmt} {ps:List Str} {oc:Value} {od an:Option Addr} {osl:Array (Option Value)} {kV doc pm cdv ct:Value} (X:K.In h) (G:h.Ns mainGlobals mg) (g:PySem.W.nsIn K mainGlobals x = some (some (.ref C)))
    (lC:K.lookup C = some oC) (xC:xclsIn [(C,oC)] C = true) (sa:PySem.W.findIn K (.ref C) "__setattr__" = some (some (.builtin "object.__setattr__"))) (na:PySem.W.findIn K (.ref C) "number" = some none) (ga:PySem.W.findIn K (.ref C) "__getattribute__" = some (some (.builtin "BaseException.__getattribute__"))) (gr:PySem.W.findIn K (.ref C) "__getattr__" = some none) (hd:PySem.W.hasDictIn K C = true)
    (a:PySem.W.findIn K (.ref C) "__init__" = some (some (.ref f))) (i:PySem.W.isFn K (.ref f) = true) (kc:PySem.W.keepIn K (.ref C) = true)
    (l:K.lookup f = some ⟨oc,od,.func (PySem.W.fnOf "__init__" qual (defArgs st) (defBody st) (defScope st) .none kV doc pm an cdv ct),osl⟩) (c:PySem.W.codeIn K cdv qual = true) (k:PySem.W.keepIn K (.ref f) = true)
    (b:∀ (us:List Value),us.length = ps.length → bindArgs (PySem.W.fnOf "__init__" qual (defArgs st) (defBody st) (defScope st) .none kV doc pm an cdv ct) ⟨us,[]⟩ = pure (ps.zip us))
    (next:mg x = some (.ref C) → XCls K C "number" → XMk K C f → FunB K "__init__" qual st f ps → goal):goal :=
  next (PySem.W.mg_of X G g) ⟨xcls_o lC xC,sa,na,ga,gr,hd⟩ ⟨xcls_o lC xC,a,i,kc⟩ (funB_mk l c k b)
theorem addS {C R:Addr} (x:XCls K C "number") (y:XCls K R "number") (s:PySem.W.subIn K (.ref C) (.ref R) = some true) (next:PySem.W.subIn K (.ref C) (.ref R) = some true → goal):goal:=next s
theorem addR {C f:Addr} (x:XMk K C f) (rd:PySem.W.readsIn K C (.type "type") = true) (ga:PySem.W.specialIn K (.ref C) "__getattribute__" = some (some (.builtin "type.__getattribute__"))) (at_:PySem.W.findCls K (.ref C) (.type "type") "__init__" = some (.val (.ref f))) (kp:PySem.W.keepIn K (.ref f) = true)
    (next:ClsM K C "__init__" f → goal):goal:=next ⟨rd,ga,at_,kp⟩
theorem addK {x:Str} {n:Int} {t:Tok} (X:K.In h) (G:h.Ns mainGlobals mg) (g:PySem.W.nsIn K mainGlobals x = some (some (.int n t))) (next:(∃ u,mg x = some u ∧ L2.RelV (.int n) u) → goal):goal:=next ⟨_,PySem.W.mg_of X G g,t,rfl⟩
theorem addB {x:Str} (X:K.In h) (G:h.Ns mainGlobals mg) (g:PySem.W.nsIn K mainGlobals x = some none) (next:mg x = none → goal):goal:=next (PySem.W.mg_none_of X G g)
theorem addD {x:Str} {d:Addr} {o:Obj} (X:K.In h) (G:h.Ns mainGlobals mg) (g:PySem.W.nsIn K mainGlobals x = some (some (.ref d))) (l:K.lookup d = some o) (q:intDictIn [(d,o)] d = true) (next:mg x = some (.ref d) → K.lookup d = some o → intDictIn K d = true → goal):goal :=
  next (PySem.W.mg_of X G g) l (intDict_o l q)
theorem addE {d t f:Addr} {o ot:Obj} {i n k:Int} {x:Str} (gf:mg x = some (.ref f)) (l:K.lookup d = some o) (e:intDictGet [(d,o)] d i = some (.ref t)) (lt:K.lookup t = some ot) (q:tupIn [(t,ot)] t [.ref f,.int n,.int k] = true) (next:intDictGet K d i = some (.ref t) → tupIn K t [.ref f,.int n,.int k] = true → goal):goal :=
  next (intGet_o l e) (tup_o lt q)
end
theorem cxe_no {P:Program} {w:World} (H:Hp) (s:Shared) (e:Value) (s':Shared):CXE P w [] H s (fun _ _ _ => False) e s' → False:=by
  rintro ⟨_,_,_,_,_,_,_,_,_,_,_,_,_,_,_,q⟩
  exact q
theorem fin {P:Program} {w:World} {K:PySem.W.Frag} {h:Heap} {mg:Str → Option Value} {fa:Addr} (X:K.In h) (G:h.Ns mainGlobals mg) (hfa:mg "answers" = some (.ref fa)) (R:∃ a,Txt K mg a) :
    ∃ fd:FuncData,(∀ (s:Shared) (us:List Value),us.length = (["calls"]:List Str).length → BindsTo s fd ⟨us,[]⟩ ((["calls"]:List Str).zip us)) ∧
        ∀ base:Heap,K.In base → base.Ns mainGlobals mg → FnOk P w K mg base (CXE P w) 10 fa fd ["calls"] (sp_answers K):=by
  obtain ⟨a,T⟩:=R
  have e:=hfa.symm.trans T.g_answers
  cases e
  obtain ⟨fd,F,b⟩:=T.f_answers
  obtain ⟨oc,od,kV,doc,pm,an,cdv,ct,osl,rfl,lk,hcd⟩:=F.ex
  refine ⟨_,fun s us hu => match us,hu with | [_],_ => .of_eq rfl,fun base _ _ => run_answers T F⟩
open PySem.W (WData Codec OpenSpec) in
theorem walk_E {r:OpenSpec} {k:Nat} {q:Program} {loose:List Str} {XP:(Str → Option Value) → Heap → Prop} {YP:World → Heap → Prop} {d:DefRec} {K:Params → PySem.W.Frag} {ps:List Str} {sp:PySem.W.Frag → Sp}
    (hwell:r.wellSaid = true) (hdf:d.params.defaults = []) (hlen:r.args.length = ps.length) (hr:Room k callerA)
    (hY:∀ (w:World) (h:Heap),YP w h → (K w.params).In h)
    (F:∀ (w:World) (mg:Str → Option Value) (fa:Addr) (h:Heap),YP w h → (K w.params).In h → h.Ns mainGlobals mg → mg d.name = some (.ref fa) →
      ∃ fd:FuncData,(∀ (s:Shared) (us:List Value),us.length = ps.length → BindsTo s fd ⟨us,[]⟩ (ps.zip us)) ∧
        ∀ base:Heap,(K w.params).In base → base.Ns mainGlobals mg → FnOk r.prog w (K w.params) mg base (CXE r.prog w) k fa fd ps (sp (K w.params)))
    (hsp:∀ (K:PySem.W.Frag) (H:Hp) (xs:List V) (a:Codec.denoteAll r.args),OnlyF H → Codec.withinAll r.args a = true → Codec.app r.args r.asked a = true → DwAll K H xs (Codec.encAll r.args a) →
      sp K xs H (fun v H' => Dw K H' v (r.ret.enc (Codec.app r.args r.f a))) fun _ _ _ => False) :
    PySem.W.WalkOS q loose XP YP r d [] (fun f vs => PySem.call f vs) :=
  walk_spec (K:=K) (CX:=fun w => CXE r.prog w) (sp:=fun w => sp (K w.params)) hwell hdf hlen hr hY F (fun w H xs a h1 h2 h3 h4 => hsp (K w.params) H xs a h1 h2 h3 h4) fun w H s e s' => cxe_no H s e s'
theorem ask {K:PySem.W.Frag} {H:Hp} {xs:List V} {a:PySem.W.Codec.denoteAll PySem.Challenge.rw_treecuts_s01_answers.args} (hO:OnlyF H) (hask:PySem.W.Codec.app PySem.Challenge.rw_treecuts_s01_answers.args PySem.Challenge.rw_treecuts_s01_answers.asked a = true)
    (hx:DwAll K H xs (PySem.W.Codec.encAll PySem.Challenge.rw_treecuts_s01_answers.args a)):sp_answers K xs H (fun v H' => Dw K H' v (PySem.Challenge.rw_treecuts_s01_answers.ret.enc (PySem.W.Codec.app PySem.Challenge.rw_treecuts_s01_answers.args PySem.Challenge.rw_treecuts_s01_answers.f a))) fun _ _ _ => False:=by
  cases hx with
  | cons h1 h2 =>
    cases h2
    cases h1 with
    | lst hs ha =>
      have e:=L2.ints_dw a.1 _ ha
      subst e
      exact ⟨_,a.1,rfl,hs,hask,hO,fun p H' hp => .lst (L2.SqL.of hp) (L2.dw_ints _)⟩
end TC
structure PySem.W.Fast:Prop where
  (tw6506814783612780067 tw3423789905605775743 tw11675542055126220564 tw10123798212907779949 tw13828221356969761516 tw7243801331298481917 tw10614292392039412343 tw14229882522753943613 tw9508346232853499641 tw2431848766675291311 tw14297354986324617970 tw1368260154442163269 tw9905322462689541727 tw9992488276096099373 tw14151030900653441883 tw6322206110025318027 tw6720121506269164877 tw10268216404498551536 tw17702605027049417512 tw8990926800281294139 tw3054043311452941510 tw17322013950249137014 tw14069339531133192000 tw12542528335892275838 tw15272402188313735634 tw12357431333967654553 tw16917318960865740493 tw6282876961324925668 tw16039836844104973318 tw3098614829665183590 tw10553998226895870500 tw17103233684202026855 tw15368873055417919916 tw10512666547119843709 tw14057671508330816330 tw548196707108223158 tw14878153126125260958 tw2623355945723886073 tw17016242254819107237 tw16212383243147715645 tw16259365503348173405 tw11071101744162847530 tw17216836011301133618 tw30467706082904116 tw1538699189003392874 tw1819345327843951650 tw14378863629221204944 tw7614093691327024928 tw960283159040569070 tw4859466529804237529 tw10255477058312318425 tw6651157272174701523 tw7657500373837684292 tw8261605767775926063 tw11031671897011343095 tw15876422733963044217 tw8237645328880592042 tw12756264710609033373 tw4142560734806921009 tw2130578384009870735 tw3093296938353699094 tw17888146547252142664 tw14485876921418355920 tw5312013400453791574 tw13381079372476479881 tw9437774628681397690 tw17478333427475827779 tw10693979055870218172 tw10924782882433015971 tw16135697881301375422 tw3097642819203460484 tw842076394434794775 tw12513450117203921453 tw371996762214597746 tw12177393296833743019 tw3312520176414528236 tw10232564640592364464 tw17432365047231700373 tw13132958798259147220 tw17909613355843211361 tw17093994560997002581 tw17694556726784052282 tw3806303513307865360 tw1022471460968978974 tw6216811065480438171 tw7711750653439285354 tw15975963064625032638 tw12824625853974829162 tw17570468587071395518 tw9545235234288168043 tw3765741008284283792 tw3337264732541888106 tw8277416992066804417 tw13843375614639608865 tw14509256053147574370 tw5336426828797498822 tw3613959715111199210 tw16701508624493428554 tw7660502571842267044 tw16470000157838022455 tw2486199378042429841 tw13977518687344985897 tw546007301742859060 tw16010610849976356203 tw6776877546282912141 tw90299605424602087 tw13038024512697406234 tw8447534033059687949 tw12560556608033929305 tw13406732926615230902 tw9426627347161979651 tw9185944859716831434 tw4282877446321909089 tw15945930873429955884 tw7383802359457168539 tw7787670965755865636 tw14444109202518687666 tw2931444149539168116 tw6793303474186364905 tw2064438043315575069 tw1969316984295010404 tw2758309802142843936 tw841562796426676577 tw13115878725133992404 tw14853150750651988862 tw8927859193522055916 tw929387762772478647 tw3389936913301687833 tw12810231771809282982 tw3509257881988617556 tw5625234800876788281 tw6943959570906250925 tw3774985757933655569 tw10247999338394833895 tw4650987217867529400 tw5178565198003646847 tw12795788060502538401 tw5417420340044969808 tw13832098826983519332 tw11257786727551275245 tw3988807096616796357 tw709252809701278872 tw5751383434748569702 tw9167012232023599072 tw14951917660878899390 tw7911761692387016976 tw5035943028140107143 tw1184621060106585405 tw16534310861635325699 tw11452265705153409278 tw4229302837171886934 tw2886158331185697264 tw16705577039619312676 tw13923988555987824061 tw16461856110016796367 tw6923844842228899498 tw11485541915797340467 tw10719508589008916342 tw16943011813913940082 tw1963425160586737851 tw7240580996029183985 tw16017089264918966336 tw16732583212782121395 tw8816025602060099278 tw1298159831805561287 tw784928090222184960 tw7579209325705795086 tw2790589095496769968 tw7238236863955045248 tw9180676546632590941 tw1925998213237021735 tw3570708387975592277 tw15117593926577084593 tw9816242273933394362 tw9463969713430397696 tw15252896915207061307 tw15359571166065764303 tw16665782703668016386 tw12201456018810482006 tw1496063220323031164 tw14950500282825367702 tw17635039824656197069 tw3052005210245970893 tw2457309313545634895 tw14775015453384029977 tw8603413418299101624 tw12518286046140798609 tw8304503429663653564 tw18043422086637151779 tw3504640480027618500 tw13603912615613765289 tw5415351286570394469 tw3148720375979276678 tw1068936802889533333 tw3754852284995767209 tw12879476836037773006 tw10815956738595726986 tw4736984020615185652 tw16090729931957101808 tw13648559957487940026 tw13444139088592004105 tw11323574745268659284 tw1477906058226434284 tw4105337244937333744 tw8281954796778850558 tw4760918426179153721 tw13073718471432631965 tw9307145831565497763 tw14557692667857311197 tw2271824650954531283 tw14759569533236753374 tw12231884110088444946 tw4671719435439509338 tw16391132875204315709 tw982376988603671544 tw4100711564305925723 tw16891449178778359883 tw17064105334589996228 tw4503483551073983626 tw3791721414470050439 tw5072995962366468238 tw14023840488182120187 tw16899497087109618400 tw6745938103953790905 tw15067181920399193018 tw8077160218855778149 tw13428669643896408749 tw1399388320795513156 tw11865833902362380866 tw13441440174119036325 tw4279063496414539458 tw17377322022145831270 tw4361461720259828163 tw4299883925053822095 tw14013459099570786518 tw6422255766392734473 tw7549688361696684309 tw15153025646350386833 tw13149268425041992049 tw18141573699429109367 tw4006587259904205723 tw13947028275431534488 tw7240942778328134735 tw1500065408733285644 tw14797506463208773653 tw8839897324015314468 tw3510010884172134244 tw14135718612004039651 tw5024354916494258264 tw431409823449058760 tw17165019101370435988 tw1407276289366197914 tw13445159606972754168 tw13121673993734182669 tw5674968150103626018 tw7147741332837904925 tw3920878231016860918 tw287916944791759289 tw1823769948584301656 tw10216805811579262968 tw6210923503293131909 tw5280098993913931623 tw4329025511480920816 tw17427103609906765096 tw8691914381428753464 tw16264105648944743406 tw3565443755511297317 tw12785255572329639235 tw3546078781551951335 tw7208730816283529725 tw6644924473732723430 tw10385112815797115014 tw9031951614674819432 tw17940132717613387884 tw10163625639749029814 tw8846858176544396934 tw7095884483174838880 tw14032945968684277745 tw5257329028023084436 tw7521996729921495034 tw2209452570082421275 tw13798296006772326825 tw9277152594149281016 tw59395860233524044 tw13068632184674598584 tw6926332283621061920 tw16951307804895022835 tw9765418685077204700 tw2719153962256336799 tw4800293371545308183 tw1442329280159972073 tw11701622781068079058 tw16846238878742314663 tw10833392510434045061 tw15500588174487847547 tw17877795755646759796 tw5045539146652839027 tw16348598947406698010 tw10385772041072853895 tw16536278023223862981 tw1015569932653690539 tw2009673963085187770 tw16530744431745355869 tw8105621757444184331 tw14970445465271920968 tw11195655267247018646 tw3843652730682025323 tw10145333360689173209 tw1795431970209535065 tw8938557252406070326 tw12294784609820369883 tw7383354580235853645 tw7181588382973119463 tw13763777803761541689 tw16345438315183242021 tw8919040374042802981 tw10041484246695566595 tw16667919865452848614 tw57927252100123417 tw15241058905572458608 tw8541265290760632449 tw10440063234798075378 tw6046900265918065263 tw4338756476093339584 tw5083055889816249242 tw17184513295924678943 tw17226406847765922304 tw14777273335871168290 tw2707918742525918162 tw11146140376674710942 tw6431209578405096145 tw17255011953658536802 tw2216527968832875649 tw16508949675464784829 tw162399658658602348 tw13510919749021909284 tw6555892215537374182 tw11342242971610393389 tw8419919411725009301 tw10312923766007454916 tw2177812725277526487 tw16825124646091822271 tw9350024860440344790 tw3675979862643195500 tw12292716123904591958 tw10096142511214944601 tw9987237544852663295 tw3977639850920101599 tw9715018834749682855 tw13584805539204495188 tw16267750472600699496 tw4235038104512374544 tw8540872932424803727 tw12321285848603923210 tw654065747815178603 tw1042765366757792801 tw13635438025914165757 tw5810556074483469812 tw13392632823639730302 tw16572874696004318840 tw11742861804011316025 tw9183875833709024984 tw7884460134763868020 tw14911734950517574866 tw1028370122613739894 tw18197801792001813719 tw13404050647082864089 tw9166217415025485369 tw14989696947528667187 tw5972724772285173948 tw10497066471462217352 tw288362662659413875 tw12985986969656284562 tw3200190386942151494 tw16618203627680610073 tw13380112166128182177 tw16029412472643860975 tw14789742807295891041 tw14156397703936049011 tw17224710120749269859 tw12815123471260538041 tw15475317168038371488 tw9960232645732552773 tw3314732108205780446 tw17101455389880293057 tw1388703482250528976 tw14431667016231949254 tw403253921232909786 tw1358749422704782849 tw3786016974813842044 tw16879815885019958216 tw13877972908209935951 tw5456857184806322405 tw2840056520283258706 tw3147949267123817655 tw407808133934094307 tw15148042834947800397 tw15929483716398453901 tw7206250618588422363 tw2266299705308191849 tw8772727268944861891 tw6461655867870837157 tw439682847332714952 tw13337222707191632511 tw16716003256820482633 tw6706153890394259324 tw14574138575704484561 tw8808263286584579743 tw11931418245024423823 tw11618827048284382738 tw3502251681915370530 tw4006847440157415927 tw8731237031825458120 tw13681503000505795822 tw8209699888454499583 tw13596106737598713116 tw16454794618788631110 tw13098424342728243552 tw5707147562720992827 tw12673542120275438954 tw12512574382528732115 tw7488616797526459897 tw10025447512474574318 tw14307098720664373745 tw2282269321962906241 tw12676218204195645354 tw12941067704794571949 tw11215599107670918230 tw11131059404600582874 tw8041267407521142019 tw13648688803378804852 tw6445826109915967052 tw14630210624670384622 tw5486294364091368041 tw9439672807496615699 tw48519977598895990 tw1784375864396371326 tw6754465247214120038 tw9269876096046176498 tw15299729354358546228 tw2271500247398282389 tw16803825612984733930 tw15665185033872498011 tw13589876169092926335 tw16557204535627759625 tw14981373412587898578 tw5106315663728248458 tw10027299354572475530 tw12448452471600351927 tw6384601984562227206 tw12774163268622884308 tw1484645315454836783 tw894631534266737096 tw10595322705501161168 tw4224717324503739580 tw1403309384073253839 tw16232200887583280556 tw8005049984479752861 tw18003383092042336670 tw6092192885450504249 tw14675078745907502435 tw9252688709672358301 tw12136444565047213248 tw6125257144128026186 tw12878490401526527072 tw12131243468845737428 tw5421156706775291069 tw18157573388935712268 tw13613302859020326790 tw5210754385762261589 tw6592397160184806257 tw15992397946002413238 tw8234699419851277447 tw7875056195034437335 tw10290449533690081232 tw6973475688908770882 tw2617017899318085780 tw6051066278035368481 tw13788078129497244171 tw13257008144898131134 tw1396362598659312507 tw12322804659000395259 tw13431965701409975655 tw3515736100858338847 tw6067945899382269991 tw7673623875375728218 tw18423648986708860589 tw7599139495372605311 tw11717055678697079772 tw17708878049286334121 tw4549058639995500873 tw6077886843181662094 tw17672796679045026907 tw14723519879793388012 tw14359123832437659153 tw18381670949502719463 tw13585319528561612662 tw4818424181132503180 tw5272743986101326278 tw11458257959481364896:True)
open PySem PySem.W PyProof.Rows
set_option maxRecDepth 100000 in
set_option maxHeartbeats 0 in
theorem PySem.Challenge.cw_treecuts_s01_answers_holds : PySem.Challenge.rw_treecuts_s01_answers.Holds := by
  w_on; k_headS; (case hw => exact ⟨[.list [.int 2]],by decide +kernel,by decide +kernel⟩)
  k_fillS
  refine TC.walk_E (r:=PySem.Challenge.rw_treecuts_s01_answers) (k:=10) (ps:=["calls"]) (sp:=TC.sp_answers) (by decide +kernel) rfl rfl ⟨rfl,by decide,by decide⟩ (fun w h Y => PySem.W.kIn_of Y) ?F ?S
  case F =>
    intro w mg fa h Y KX G hmg
    refine TC.fin KX G hmg ?_
    refine' TC.addC (x:="Node") KX G ?_ ?_ ?_ ?_ ?_ ?_
    any_goals first | k_is | exact rfl
    intro x1 x2
    refine' TC.addI (qual:="Node.__init__") (st:=TC.s_Node_init) (ps:=["self","rule","begin","end"]) x2 ?_ ?_ ?_ ?_ ?_ ?_ ?_ (fun u h => match u,h with | [_,_,_,_],_ => rfl) ?_
    any_goals first | k_is | exact rfl
    intro x3 x4
    refine' TC.addN (f:="rule") x2 ?_ ?_
    any_goals first | k_is | exact rfl
    intro x5
    refine' TC.addN (f:="begin") x2 ?_ ?_
    any_goals first | k_is | exact rfl
    intro x6
    refine' TC.addN (f:="end") x2 ?_ ?_
    any_goals first | k_is | exact rfl
    intro x7
    refine' TC.addC (x:="Tree") KX G ?_ ?_ ?_ ?_ ?_ ?_
    any_goals first | k_is | exact rfl
    intro x8 x9
    refine' TC.addI (qual:="Tree.__init__") (st:=TC.s_Tree_init) (ps:=["self","octets","nodes","parents"]) x9 ?_ ?_ ?_ ?_ ?_ ?_ ?_ (fun u h => match u,h with | [_,_,_,_],_ => rfl) ?_
    any_goals first | k_is | exact rfl
    intro x10 x11
    refine' TC.addN (f:="octets") x9 ?_ ?_
    any_goals first | k_is | exact rfl
    intro x12
    refine' TC.addN (f:="nodes") x9 ?_ ?_
    any_goals first | k_is | exact rfl
    intro x13
    refine' TC.addN (f:="parents") x9 ?_ ?_
    any_goals first | k_is | exact rfl
    intro x14
    refine' TC.addX (x:="Refusal") (qual:="Refusal.__init__") (st:=TC.s_Refusal_init) (ps:=["self","number"]) KX G ?_ ?_ ?_ ?_ ?_ ?_ ?_ ?_ ?_ ?_ ?_ ?_ ?_ ?_ (fun u h => match u,h with | [_,_],_ => rfl) ?_
    any_goals first | k_is | exact rfl
    intro x15 x16 x17 x18
    refine' TC.addR x17 ?_ ?_ ?_ ?_ ?_
    any_goals first | k_is | exact rfl
    intro x19
    refine' TC.addS x16 x16 ?_ ?_
    any_goals first | k_is | exact rfl
    intro x20
    refine' TC.addX (x:="NumberRefused") (qual:="NumberRefused.__init__") (st:=TC.s_NumberRefused_init) (ps:=["self"]) KX G ?_ ?_ ?_ ?_ ?_ ?_ ?_ ?_ ?_ ?_ ?_ ?_ ?_ ?_ (fun u h => match u,h with | [_],_ => rfl) ?_
    any_goals first | k_is | exact rfl
    intro x21 x22 x23 x24
    refine' TC.addS x22 x16 ?_ ?_
    any_goals first | k_is | exact rfl
    intro x25
    refine' TC.addX (x:="NoGrammarRow") (qual:="NoGrammarRow.__init__") (st:=TC.s_NoGrammarRow_init) (ps:=["self"]) KX G ?_ ?_ ?_ ?_ ?_ ?_ ?_ ?_ ?_ ?_ ?_ ?_ ?_ ?_ (fun u h => match u,h with | [_],_ => rfl) ?_
    any_goals first | k_is | exact rfl
    intro x26 x27 x28 x29
    refine' TC.addS x27 x16 ?_ ?_
    any_goals first | k_is | exact rfl
    intro x30
    refine' TC.addX (x:="TooManyBytes") (qual:="TooManyBytes.__init__") (st:=TC.s_TooManyBytes_init) (ps:=["self"]) KX G ?_ ?_ ?_ ?_ ?_ ?_ ?_ ?_ ?_ ?_ ?_ ?_ ?_ ?_ (fun u h => match u,h with | [_],_ => rfl) ?_
    any_goals first | k_is | exact rfl
    intro x31 x32 x33 x34
    refine' TC.addS x32 x16 ?_ ?_
    any_goals first | k_is | exact rfl
    intro x35
    refine' TC.addX (x:="NoSuchRule") (qual:="NoSuchRule.__init__") (st:=TC.s_NoSuchRule_init) (ps:=["self"]) KX G ?_ ?_ ?_ ?_ ?_ ?_ ?_ ?_ ?_ ?_ ?_ ?_ ?_ ?_ (fun u h => match u,h with | [_],_ => rfl) ?_
    any_goals first | k_is | exact rfl
    intro x36 x37 x38 x39
    refine' TC.addS x37 x16 ?_ ?_
    any_goals first | k_is | exact rfl
    intro x40
    refine' TC.addX (x:="NoTreeHeld") (qual:="NoTreeHeld.__init__") (st:=TC.s_NoTreeHeld_init) (ps:=["self"]) KX G ?_ ?_ ?_ ?_ ?_ ?_ ?_ ?_ ?_ ?_ ?_ ?_ ?_ ?_ (fun u h => match u,h with | [_],_ => rfl) ?_
    any_goals first | k_is | exact rfl
    intro x41 x42 x43 x44
    refine' TC.addS x42 x16 ?_ ?_
    any_goals first | k_is | exact rfl
    intro x45
    refine' TC.addX (x:="NoSuchNode") (qual:="NoSuchNode.__init__") (st:=TC.s_NoSuchNode_init) (ps:=["self"]) KX G ?_ ?_ ?_ ?_ ?_ ?_ ?_ ?_ ?_ ?_ ?_ ?_ ?_ ?_ (fun u h => match u,h with | [_],_ => rfl) ?_
    any_goals first | k_is | exact rfl
    intro x46 x47 x48 x49
    refine' TC.addS x47 x16 ?_ ?_
    any_goals first | k_is | exact rfl
    intro x50
    refine' TC.addX (x:="TooManyNodes") (qual:="TooManyNodes.__init__") (st:=TC.s_TooManyNodes_init) (ps:=["self"]) KX G ?_ ?_ ?_ ?_ ?_ ?_ ?_ ?_ ?_ ?_ ?_ ?_ ?_ ?_ (fun u h => match u,h with | [_],_ => rfl) ?_
    any_goals first | k_is | exact rfl
    intro x51 x52 x53 x54
    refine' TC.addS x52 x16 ?_ ?_
    any_goals first | k_is | exact rfl
    intro x55
    refine' TC.addX (x:="NotSuchTree") (qual:="NotSuchTree.__init__") (st:=TC.s_NotSuchTree_init) (ps:=["self"]) KX G ?_ ?_ ?_ ?_ ?_ ?_ ?_ ?_ ?_ ?_ ?_ ?_ ?_ ?_ (fun u h => match u,h with | [_],_ => rfl) ?_
    any_goals first | k_is | exact rfl
    intro x56 x57 x58 x59
    refine' TC.addS x57 x16 ?_ ?_
    any_goals first | k_is | exact rfl
    intro x60
    refine' TC.addX (x:="NotToBeSwapped") (qual:="NotToBeSwapped.__init__") (st:=TC.s_NotToBeSwapped_init) (ps:=["self"]) KX G ?_ ?_ ?_ ?_ ?_ ?_ ?_ ?_ ?_ ?_ ?_ ?_ ?_ ?_ (fun u h => match u,h with | [_],_ => rfl) ?_
    any_goals first | k_is | exact rfl
    intro x61 x62 x63 x64
    refine' TC.addS x62 x16 ?_ ?_
    any_goals first | k_is | exact rfl
    intro x65
    refine' TC.addX (x:="NoTreeBefore") (qual:="NoTreeBefore.__init__") (st:=TC.s_NoTreeBefore_init) (ps:=["self"]) KX G ?_ ?_ ?_ ?_ ?_ ?_ ?_ ?_ ?_ ?_ ?_ ?_ ?_ ?_ (fun u h => match u,h with | [_],_ => rfl) ?_
    any_goals first | k_is | exact rfl
    intro x66 x67 x68 x69
    refine' TC.addS x67 x16 ?_ ?_
    any_goals first | k_is | exact rfl
    intro x70
    refine' TC.addC (x:="Reader") KX G ?_ ?_ ?_ ?_ ?_ ?_
    any_goals first | k_is | exact rfl
    intro x71 x72
    refine' TC.addI (qual:="Reader.__init__") (st:=TC.s_Reader_init) (ps:=["self","numbers"]) x72 ?_ ?_ ?_ ?_ ?_ ?_ ?_ (fun u h => match u,h with | [_,_],_ => rfl) ?_
    any_goals first | k_is | exact rfl
    intro x73 x74
    refine' TC.addM (m:="at_end") (qual:="Reader.at_end") (st:=TC.s_Reader_at_end) (ps:=["self"]) x72 ?_ ?_ ?_ ?_ ?_ (fun u h => match u,h with | [_],_ => rfl) ?_
    any_goals first | k_is | exact rfl
    intro x75 x76
    refine' TC.addM (m:="take") (qual:="Reader.take") (st:=TC.s_Reader_take) (ps:=["self"]) x72 ?_ ?_ ?_ ?_ ?_ (fun u h => match u,h with | [_],_ => rfl) ?_
    any_goals first | k_is | exact rfl
    intro x77 x78
    refine' TC.addM (m:="take_row") (qual:="Reader.take_row") (st:=TC.s_Reader_take_row) (ps:=["self"]) x72 ?_ ?_ ?_ ?_ ?_ (fun u h => match u,h with | [_],_ => rfl) ?_
    any_goals first | k_is | exact rfl
    intro x79 x80
    refine' TC.addN (f:="numbers") x72 ?_ ?_
    any_goals first | k_is | exact rfl
    intro x81
    refine' TC.addN (f:="place") x72 ?_ ?_
    any_goals first | k_is | exact rfl
    intro x82
    refine' TC.addC (x:="Rule") KX G ?_ ?_ ?_ ?_ ?_ ?_
    any_goals first | k_is | exact rfl
    intro x83 x84
    refine' TC.addI (qual:="Rule.__init__") (st:=TC.s_Rule_init) (ps:=["self","nonterminal","symbols"]) x84 ?_ ?_ ?_ ?_ ?_ ?_ ?_ (fun u h => match u,h with | [_,_,_],_ => rfl) ?_
    any_goals first | k_is | exact rfl
    intro x85 x86
    refine' TC.addN (f:="nonterminal") x84 ?_ ?_
    any_goals first | k_is | exact rfl
    intro x87
    refine' TC.addN (f:="symbols") x84 ?_ ?_
    any_goals first | k_is | exact rfl
    intro x88
    refine' TC.addC (x:="Reading") KX G ?_ ?_ ?_ ?_ ?_ ?_
    any_goals first | k_is | exact rfl
    intro x89 x90
    refine' TC.addI (qual:="Reading.__init__") (st:=TC.s_Reading_init) (ps:=["self","rules","octets","nodes"]) x90 ?_ ?_ ?_ ?_ ?_ ?_ ?_ (fun u h => match u,h with | [_,_,_,_],_ => rfl) ?_
    any_goals first | k_is | exact rfl
    intro x91 x92
    refine' TC.addM (m:="await_tree") (qual:="Reading.await_tree") (st:=TC.s_Reading_await_tree) (ps:=["self","nonterminal","parent"]) x90 ?_ ?_ ?_ ?_ ?_ (fun u h => match u,h with | [_,_,_],_ => rfl) ?_
    any_goals first | k_is | exact rfl
    intro x93 x94
    refine' TC.addM (m:="follow") (qual:="Reading.follow") (st:=TC.s_Reading_follow) (ps:=["self"]) x90 ?_ ?_ ?_ ?_ ?_ (fun u h => match u,h with | [_],_ => rfl) ?_
    any_goals first | k_is | exact rfl
    intro x95 x96
    refine' TC.addM (m:="begin_node") (qual:="Reading.begin_node") (st:=TC.s_Reading_begin_node) (ps:=["self","nonterminal","parent"]) x90 ?_ ?_ ?_ ?_ ?_ (fun u h => match u,h with | [_,_,_],_ => rfl) ?_
    any_goals first | k_is | exact rfl
    intro x97 x98
    refine' TC.addM (m:="await_symbols") (qual:="Reading.await_symbols") (st:=TC.s_Reading_await_symbols) (ps:=["self","symbols","number"]) x90 ?_ ?_ ?_ ?_ ?_ (fun u h => match u,h with | [_,_,_],_ => rfl) ?_
    any_goals first | k_is | exact rfl
    intro x99 x100
    refine' TC.addM (m:="pass_byte") (qual:="Reading.pass_byte") (st:=TC.s_Reading_pass_byte) (ps:=["self","low","high"]) x90 ?_ ?_ ?_ ?_ ?_ (fun u h => match u,h with | [_,_,_],_ => rfl) ?_
    any_goals first | k_is | exact rfl
    intro x101 x102
    refine' TC.addM (m:="end_node") (qual:="Reading.end_node") (st:=TC.s_Reading_end_node) (ps:=["self","number"]) x90 ?_ ?_ ?_ ?_ ?_ (fun u h => match u,h with | [_,_],_ => rfl) ?_
    any_goals first | k_is | exact rfl
    intro x103 x104
    refine' TC.addN (f:="rules") x90 ?_ ?_
    any_goals first | k_is | exact rfl
    intro x105
    refine' TC.addN (f:="octets") x90 ?_ ?_
    any_goals first | k_is | exact rfl
    intro x106
    refine' TC.addN (f:="nodes") x90 ?_ ?_
    any_goals first | k_is | exact rfl
    intro x107
    refine' TC.addN (f:="parents") x90 ?_ ?_
    any_goals first | k_is | exact rfl
    intro x108
    refine' TC.addN (f:="place") x90 ?_ ?_
    any_goals first | k_is | exact rfl
    intro x109
    refine' TC.addN (f:="awaited") x90 ?_ ?_
    any_goals first | k_is | exact rfl
    intro x110
    refine' TC.addC (x:="Desk") KX G ?_ ?_ ?_ ?_ ?_ ?_
    any_goals first | k_is | exact rfl
    intro x111 x112
    refine' TC.addI (qual:="Desk.__init__") (st:=TC.s_Desk_init) (ps:=["self"]) x112 ?_ ?_ ?_ ?_ ?_ ?_ ?_ (fun u h => match u,h with | [_],_ => rfl) ?_
    any_goals first | k_is | exact rfl
    intro x113 x114
    refine' TC.addM (m:="begin_with") (qual:="Desk.begin_with") (st:=TC.s_Desk_begin_with) (ps:=["self","tree"]) x112 ?_ ?_ ?_ ?_ ?_ (fun u h => match u,h with | [_,_],_ => rfl) ?_
    any_goals first | k_is | exact rfl
    intro x115 x116
    refine' TC.addM (m:="change_to") (qual:="Desk.change_to") (st:=TC.s_Desk_change_to) (ps:=["self","tree"]) x112 ?_ ?_ ?_ ?_ ?_ (fun u h => match u,h with | [_,_],_ => rfl) ?_
    any_goals first | k_is | exact rfl
    intro x117 x118
    refine' TC.addM (m:="go_back") (qual:="Desk.go_back") (st:=TC.s_Desk_go_back) (ps:=["self"]) x112 ?_ ?_ ?_ ?_ ?_ (fun u h => match u,h with | [_],_ => rfl) ?_
    any_goals first | k_is | exact rfl
    intro x119 x120
    refine' TC.addN (f:="rules") x112 ?_ ?_
    any_goals first | k_is | exact rfl
    intro x121
    refine' TC.addN (f:="tree") x112 ?_ ?_
    any_goals first | k_is | exact rfl
    intro x122
    refine' TC.addN (f:="before") x112 ?_ ?_
    any_goals first | k_is | exact rfl
    intro x123
    refine' TC.addF (x:="children") (st:=TC.s_children) (ps:=["tree","number"]) KX G ?_ ?_ ?_ ?_ (fun u h => match u,h with | [_,_],_ => rfl) ?_
    any_goals first | k_is | exact rfl
    intro x124 x125
    refine' TC.addF (x:="nodes_of_rule") (st:=TC.s_nodes_of_rule) (ps:=["tree","rule"]) KX G ?_ ?_ ?_ ?_ (fun u h => match u,h with | [_,_],_ => rfl) ?_
    any_goals first | k_is | exact rfl
    intro x126 x127
    refine' TC.addF (x:="beneath_rule") (st:=TC.s_beneath_rule) (ps:=["tree","rule"]) KX G ?_ ?_ ?_ ?_ (fun u h => match u,h with | [_,_],_ => rfl) ?_
    any_goals first | k_is | exact rfl
    intro x128 x129
    refine' TC.addF (x:="number_behind") (st:=TC.s_number_behind) (ps:=["tree","number"]) KX G ?_ ?_ ?_ ?_ (fun u h => match u,h with | [_,_],_ => rfl) ?_
    any_goals first | k_is | exact rfl
    intro x130 x131
    refine' TC.addF (x:="stands_beneath") (st:=TC.s_stands_beneath) (ps:=["tree","lower","upper"]) KX G ?_ ?_ ?_ ?_ (fun u h => match u,h with | [_,_,_],_ => rfl) ?_
    any_goals first | k_is | exact rfl
    intro x132 x133
    refine' TC.addF (x:="nodes_on_longest_way") (st:=TC.s_nodes_on_longest_way) (ps:=["tree","number"]) KX G ?_ ?_ ?_ ?_ (fun u h => match u,h with | [_,_],_ => rfl) ?_
    any_goals first | k_is | exact rfl
    intro x134 x135
    refine' TC.addF (x:="child_places") (st:=TC.s_child_places) (ps:=["tree"]) KX G ?_ ?_ ?_ ?_ (fun u h => match u,h with | [_],_ => rfl) ?_
    any_goals first | k_is | exact rfl
    intro x136 x137
    refine' TC.addF (x:="path_to") (st:=TC.s_path_to) (ps:=["tree","number"]) KX G ?_ ?_ ?_ ?_ (fun u h => match u,h with | [_,_],_ => rfl) ?_
    any_goals first | k_is | exact rfl
    intro x138 x139
    refine' TC.addF (x:="node_at") (st:=TC.s_node_at) (ps:=["tree","path"]) KX G ?_ ?_ ?_ ?_ (fun u h => match u,h with | [_,_],_ => rfl) ?_
    any_goals first | k_is | exact rfl
    intro x140 x141
    refine' TC.addF (x:="same_node") (st:=TC.s_same_node) (ps:=["one","other"]) KX G ?_ ?_ ?_ ?_ (fun u h => match u,h with | [_,_],_ => rfl) ?_
    any_goals first | k_is | exact rfl
    intro x142 x143
    refine' TC.addF (x:="first_difference") (st:=TC.s_first_difference) (ps:=["one","other"]) KX G ?_ ?_ ?_ ?_ (fun u h => match u,h with | [_,_],_ => rfl) ?_
    any_goals first | k_is | exact rfl
    intro x144 x145
    refine' TC.addF (x:="moved") (st:=TC.s_moved) (ps:=["nodes","distance"]) KX G ?_ ?_ ?_ ?_ (fun u h => match u,h with | [_,_],_ => rfl) ?_
    any_goals first | k_is | exact rfl
    intro x146 x147
    refine' TC.addF (x:="cut_out") (st:=TC.s_cut_out) (ps:=["tree","number"]) KX G ?_ ?_ ?_ ?_ (fun u h => match u,h with | [_,_],_ => rfl) ?_
    any_goals first | k_is | exact rfl
    intro x148 x149
    refine' TC.addF (x:="nodes_ahead") (st:=TC.s_nodes_ahead) (ps:=["tree","number","longer"]) KX G ?_ ?_ ?_ ?_ (fun u h => match u,h with | [_,_,_],_ => rfl) ?_
    any_goals first | k_is | exact rfl
    intro x150 x151
    refine' TC.addF (x:="parents_with") (st:=TC.s_parents_with) (ps:=["tree","number","part"]) KX G ?_ ?_ ?_ ?_ (fun u h => match u,h with | [_,_,_],_ => rfl) ?_
    any_goals first | k_is | exact rfl
    intro x152 x153
    refine' TC.addF (x:="replaced") (st:=TC.s_replaced) (ps:=["tree","number","part"]) KX G ?_ ?_ ?_ ?_ (fun u h => match u,h with | [_,_,_],_ => rfl) ?_
    any_goals first | k_is | exact rfl
    intro x154 x155
    refine' TC.addF (x:="swapped") (st:=TC.s_swapped) (ps:=["tree","one","other"]) KX G ?_ ?_ ?_ ?_ (fun u h => match u,h with | [_,_,_],_ => rfl) ?_
    any_goals first | k_is | exact rfl
    intro x156 x157
    refine' TC.addF (x:="take_within") (st:=TC.s_take_within) (ps:=["reader","low","high"]) KX G ?_ ?_ ?_ ?_ (fun u h => match u,h with | [_,_,_],_ => rfl) ?_
    any_goals first | k_is | exact rfl
    intro x158 x159
    refine' TC.addF (x:="read_symbol") (st:=TC.s_read_symbol) (ps:=["reader","nonterminals"]) KX G ?_ ?_ ?_ ?_ (fun u h => match u,h with | [_,_],_ => rfl) ?_
    any_goals first | k_is | exact rfl
    intro x160 x161
    refine' TC.addF (x:="read_rule") (st:=TC.s_read_rule) (ps:=["reader","nonterminals"]) KX G ?_ ?_ ?_ ?_ (fun u h => match u,h with | [_,_],_ => rfl) ?_
    any_goals first | k_is | exact rfl
    intro x162 x163
    refine' TC.addF (x:="read_grammar") (st:=TC.s_read_grammar) (ps:=["row"]) KX G ?_ ?_ ?_ ?_ (fun u h => match u,h with | [_],_ => rfl) ?_
    any_goals first | k_is | exact rfl
    intro x164 x165
    refine' TC.addF (x:="read_tree") (st:=TC.s_read_tree) (ps:=["rules","nonterminal","octets","nodes"]) KX G ?_ ?_ ?_ ?_ (fun u h => match u,h with | [_,_,_,_],_ => rfl) ?_
    any_goals first | k_is | exact rfl
    intro x166 x167
    refine' TC.addF (x:="check_none_below_zero") (st:=TC.s_check_none_below_zero) (ps:=["numbers"]) KX G ?_ ?_ ?_ ?_ (fun u h => match u,h with | [_],_ => rfl) ?_
    any_goals first | k_is | exact rfl
    intro x168 x169
    refine' TC.addF (x:="check_text_with_tree") (st:=TC.s_check_text_with_tree) (ps:=["octets","numbers"]) KX G ?_ ?_ ?_ ?_ (fun u h => match u,h with | [_,_],_ => rfl) ?_
    any_goals first | k_is | exact rfl
    intro x170 x171
    refine' TC.addF (x:="check_node_count") (st:=TC.s_check_node_count) (ps:=["numbers"]) KX G ?_ ?_ ?_ ?_ (fun u h => match u,h with | [_],_ => rfl) ?_
    any_goals first | k_is | exact rfl
    intro x172 x173
    refine' TC.addF (x:="nodes_told") (st:=TC.s_nodes_told) (ps:=["numbers"]) KX G ?_ ?_ ?_ ?_ (fun u h => match u,h with | [_],_ => rfl) ?_
    any_goals first | k_is | exact rfl
    intro x174 x175
    refine' TC.addF (x:="tell_nodes") (st:=TC.s_tell_nodes) (ps:=["nodes"]) KX G ?_ ?_ ?_ ?_ (fun u h => match u,h with | [_],_ => rfl) ?_
    any_goals first | k_is | exact rfl
    intro x176 x177
    refine' TC.addF (x:="tell_found") (st:=TC.s_tell_found) (ps:=["number"]) KX G ?_ ?_ ?_ ?_ (fun u h => match u,h with | [_],_ => rfl) ?_
    any_goals first | k_is | exact rfl
    intro x178 x179
    refine' TC.addF (x:="check_rule") (st:=TC.s_check_rule) (ps:=["desk","rule"]) KX G ?_ ?_ ?_ ?_ (fun u h => match u,h with | [_,_],_ => rfl) ?_
    any_goals first | k_is | exact rfl
    intro x180 x181
    refine' TC.addF (x:="held_tree") (st:=TC.s_held_tree) (ps:=["desk"]) KX G ?_ ?_ ?_ ?_ (fun u h => match u,h with | [_],_ => rfl) ?_
    any_goals first | k_is | exact rfl
    intro x182 x183
    refine' TC.addF (x:="check_node") (st:=TC.s_check_node) (ps:=["held","number"]) KX G ?_ ?_ ?_ ?_ (fun u h => match u,h with | [_,_],_ => rfl) ?_
    any_goals first | k_is | exact rfl
    intro x184 x185
    refine' TC.addF (x:="held_tree_with") (st:=TC.s_held_tree_with) (ps:=["desk","number"]) KX G ?_ ?_ ?_ ?_ (fun u h => match u,h with | [_,_],_ => rfl) ?_
    any_goals first | k_is | exact rfl
    intro x186 x187
    refine' TC.addF (x:="nonterminal_of") (st:=TC.s_nonterminal_of) (ps:=["desk","number"]) KX G ?_ ?_ ?_ ?_ (fun u h => match u,h with | [_,_],_ => rfl) ?_
    any_goals first | k_is | exact rfl
    intro x188 x189
    refine' TC.addF (x:="check_size") (st:=TC.s_check_size) (ps:=["tree"]) KX G ?_ ?_ ?_ ?_ (fun u h => match u,h with | [_],_ => rfl) ?_
    any_goals first | k_is | exact rfl
    intro x190 x191
    refine' TC.addF (x:="check_swap") (st:=TC.s_check_swap) (ps:=["desk","one","other"]) KX G ?_ ?_ ?_ ?_ (fun u h => match u,h with | [_,_,_],_ => rfl) ?_
    any_goals first | k_is | exact rfl
    intro x192 x193
    refine' TC.addF (x:="load") (st:=TC.s_load) (ps:=["desk","arguments"]) KX G ?_ ?_ ?_ ?_ (fun u h => match u,h with | [_,_],_ => rfl) ?_
    any_goals first | k_is | exact rfl
    intro x194 x195
    refine' TC.addF (x:="hold") (st:=TC.s_hold) (ps:=["desk","arguments"]) KX G ?_ ?_ ?_ ?_ (fun u h => match u,h with | [_,_],_ => rfl) ?_
    any_goals first | k_is | exact rfl
    intro x196 x197
    refine' TC.addF (x:="tell_tree") (st:=TC.s_tell_tree) (ps:=["desk","arguments"]) KX G ?_ ?_ ?_ ?_ (fun u h => match u,h with | [_,_],_ => rfl) ?_
    any_goals first | k_is | exact rfl
    intro x198 x199
    refine' TC.addF (x:="tell_text") (st:=TC.s_tell_text) (ps:=["desk","arguments"]) KX G ?_ ?_ ?_ ?_ (fun u h => match u,h with | [_,_],_ => rfl) ?_
    any_goals first | k_is | exact rfl
    intro x200 x201
    refine' TC.addF (x:="tell_kids") (st:=TC.s_tell_kids) (ps:=["desk","arguments"]) KX G ?_ ?_ ?_ ?_ (fun u h => match u,h with | [_,_],_ => rfl) ?_
    any_goals first | k_is | exact rfl
    intro x202 x203
    refine' TC.addF (x:="tell_up") (st:=TC.s_tell_up) (ps:=["desk","arguments"]) KX G ?_ ?_ ?_ ?_ (fun u h => match u,h with | [_,_],_ => rfl) ?_
    any_goals first | k_is | exact rfl
    intro x204 x205
    refine' TC.addF (x:="tell_piece") (st:=TC.s_tell_piece) (ps:=["desk","arguments"]) KX G ?_ ?_ ?_ ?_ (fun u h => match u,h with | [_,_],_ => rfl) ?_
    any_goals first | k_is | exact rfl
    intro x206 x207
    refine' TC.addF (x:="tell_of") (st:=TC.s_tell_of) (ps:=["desk","arguments"]) KX G ?_ ?_ ?_ ?_ (fun u h => match u,h with | [_,_],_ => rfl) ?_
    any_goals first | k_is | exact rfl
    intro x208 x209
    refine' TC.addF (x:="tell_under") (st:=TC.s_tell_under) (ps:=["desk","arguments"]) KX G ?_ ?_ ?_ ?_ (fun u h => match u,h with | [_,_],_ => rfl) ?_
    any_goals first | k_is | exact rfl
    intro x210 x211
    refine' TC.addF (x:="tell_cut") (st:=TC.s_tell_cut) (ps:=["desk","arguments"]) KX G ?_ ?_ ?_ ?_ (fun u h => match u,h with | [_,_],_ => rfl) ?_
    any_goals first | k_is | exact rfl
    intro x212 x213
    refine' TC.addF (x:="put") (st:=TC.s_put) (ps:=["desk","arguments"]) KX G ?_ ?_ ?_ ?_ (fun u h => match u,h with | [_,_],_ => rfl) ?_
    any_goals first | k_is | exact rfl
    intro x214 x215
    refine' TC.addF (x:="swap") (st:=TC.s_swap) (ps:=["desk","arguments"]) KX G ?_ ?_ ?_ ?_ (fun u h => match u,h with | [_,_],_ => rfl) ?_
    any_goals first | k_is | exact rfl
    intro x216 x217
    refine' TC.addF (x:="tell_difference") (st:=TC.s_tell_difference) (ps:=["desk","arguments"]) KX G ?_ ?_ ?_ ?_ (fun u h => match u,h with | [_,_],_ => rfl) ?_
    any_goals first | k_is | exact rfl
    intro x218 x219
    refine' TC.addF (x:="tell_path") (st:=TC.s_tell_path) (ps:=["desk","arguments"]) KX G ?_ ?_ ?_ ?_ (fun u h => match u,h with | [_,_],_ => rfl) ?_
    any_goals first | k_is | exact rfl
    intro x220 x221
    refine' TC.addF (x:="tell_node_at") (st:=TC.s_tell_node_at) (ps:=["desk","arguments"]) KX G ?_ ?_ ?_ ?_ (fun u h => match u,h with | [_,_],_ => rfl) ?_
    any_goals first | k_is | exact rfl
    intro x222 x223
    refine' TC.addF (x:="tell_measure") (st:=TC.s_tell_measure) (ps:=["desk","arguments"]) KX G ?_ ?_ ?_ ?_ (fun u h => match u,h with | [_,_],_ => rfl) ?_
    any_goals first | k_is | exact rfl
    intro x224 x225
    refine' TC.addF (x:="undo") (st:=TC.s_undo) (ps:=["desk","arguments"]) KX G ?_ ?_ ?_ ?_ (fun u h => match u,h with | [_,_],_ => rfl) ?_
    any_goals first | k_is | exact rfl
    intro x226 x227
    refine' TC.addF (x:="read_arguments") (st:=TC.s_read_arguments) (ps:=["reader","singles","rows"]) KX G ?_ ?_ ?_ ?_ (fun u h => match u,h with | [_,_,_],_ => rfl) ?_
    any_goals first | k_is | exact rfl
    intro x228 x229
    refine' TC.addF (x:="answer_call") (st:=TC.s_answer_call) (ps:=["desk","reader"]) KX G ?_ ?_ ?_ ?_ (fun u h => match u,h with | [_,_],_ => rfl) ?_
    any_goals first | k_is | exact rfl
    intro x230 x231
    refine' TC.addF (x:="answers") (st:=TC.s_answers) (ps:=["calls"]) KX G ?_ ?_ ?_ ?_ (fun u h => match u,h with | [_],_ => rfl) ?_
    any_goals first | k_is | exact rfl
    intro x232 x233
    refine' TC.addK (x:="MOST_NONTERMINALS") (n:=20) KX G ?_ ?_
    any_goals first | k_is | exact rfl
    intro x234
    refine' TC.addK (x:="MOST_RULES") (n:=60) KX G ?_ ?_
    any_goals first | k_is | exact rfl
    intro x235
    refine' TC.addK (x:="MOST_SYMBOLS") (n:=8) KX G ?_ ?_
    any_goals first | k_is | exact rfl
    intro x236
    refine' TC.addK (x:="HIGHEST_BYTE") (n:=255) KX G ?_ ?_
    any_goals first | k_is | exact rfl
    intro x237
    refine' TC.addK (x:="START") (n:=0) KX G ?_ ?_
    any_goals first | k_is | exact rfl
    intro x238
    refine' TC.addK (x:="NONTERMINAL") (n:=0) KX G ?_ ?_
    any_goals first | k_is | exact rfl
    intro x239
    refine' TC.addK (x:="RANGE") (n:=1) KX G ?_ ?_
    any_goals first | k_is | exact rfl
    intro x240
    refine' TC.addK (x:="NODE_END") (n:=2) KX G ?_ ?_
    any_goals first | k_is | exact rfl
    intro x241
    refine' TC.addK (x:="MOST_BYTES") (n:=24) KX G ?_ ?_
    any_goals first | k_is | exact rfl
    intro x242
    refine' TC.addK (x:="MOST_NODES") (n:=500) KX G ?_ ?_
    any_goals first | k_is | exact rfl
    intro x243
    refine' TC.addK (x:="MOST_BEFORE") (n:=16) KX G ?_ ?_
    any_goals first | k_is | exact rfl
    intro x244
    refine' TC.addB (x:="len") KX G ?_ ?_
    any_goals first | k_is | exact rfl
    intro x245
    refine' TC.addB (x:="min") KX G ?_ ?_
    any_goals first | k_is | exact rfl
    intro x246
    refine' TC.addB (x:="max") KX G ?_ ?_
    any_goals first | k_is | exact rfl
    intro x247
    refine' TC.addB (x:="range") KX G ?_ ?_
    any_goals first | k_is | exact rfl
    intro x248
    refine' TC.addB (x:="reversed") KX G ?_ ?_
    any_goals first | k_is | exact rfl
    intro x249
    refine' TC.addB (x:="enumerate") KX G ?_ ?_
    any_goals first | k_is | exact rfl
    intro x250
    refine' TC.addD (x:="CALLS") KX G ?_ ?_ ?_ ?_
    any_goals first | k_is | exact rfl
    intro x251 x252 x253
    refine' TC.addE (i:=0) (n:=0) (k:=1) x194 x252 ?_ ?_ ?_ ?_
    any_goals first | k_is | exact rfl
    intro x254 x255
    refine' TC.addE (i:=1) (n:=0) (k:=2) x196 x252 ?_ ?_ ?_ ?_
    any_goals first | k_is | exact rfl
    intro x256 x257
    refine' TC.addE (i:=2) (n:=0) (k:=0) x198 x252 ?_ ?_ ?_ ?_
    any_goals first | k_is | exact rfl
    intro x258 x259
    refine' TC.addE (i:=3) (n:=0) (k:=0) x200 x252 ?_ ?_ ?_ ?_
    any_goals first | k_is | exact rfl
    intro x260 x261
    refine' TC.addE (i:=4) (n:=1) (k:=0) x202 x252 ?_ ?_ ?_ ?_
    any_goals first | k_is | exact rfl
    intro x262 x263
    refine' TC.addE (i:=5) (n:=1) (k:=0) x204 x252 ?_ ?_ ?_ ?_
    any_goals first | k_is | exact rfl
    intro x264 x265
    refine' TC.addE (i:=6) (n:=1) (k:=0) x206 x252 ?_ ?_ ?_ ?_
    any_goals first | k_is | exact rfl
    intro x266 x267
    refine' TC.addE (i:=7) (n:=1) (k:=0) x208 x252 ?_ ?_ ?_ ?_
    any_goals first | k_is | exact rfl
    intro x268 x269
    refine' TC.addE (i:=8) (n:=2) (k:=0) x210 x252 ?_ ?_ ?_ ?_
    any_goals first | k_is | exact rfl
    intro x270 x271
    refine' TC.addE (i:=9) (n:=1) (k:=0) x212 x252 ?_ ?_ ?_ ?_
    any_goals first | k_is | exact rfl
    intro x272 x273
    refine' TC.addE (i:=10) (n:=1) (k:=2) x214 x252 ?_ ?_ ?_ ?_
    any_goals first | k_is | exact rfl
    intro x274 x275
    refine' TC.addE (i:=11) (n:=2) (k:=0) x216 x252 ?_ ?_ ?_ ?_
    any_goals first | k_is | exact rfl
    intro x276 x277
    refine' TC.addE (i:=12) (n:=0) (k:=1) x218 x252 ?_ ?_ ?_ ?_
    any_goals first | k_is | exact rfl
    intro x278 x279
    refine' TC.addE (i:=13) (n:=1) (k:=0) x220 x252 ?_ ?_ ?_ ?_
    any_goals first | k_is | exact rfl
    intro x280 x281
    refine' TC.addE (i:=14) (n:=0) (k:=1) x222 x252 ?_ ?_ ?_ ?_
    any_goals first | k_is | exact rfl
    intro x282 x283
    refine' TC.addE (i:=15) (n:=1) (k:=0) x224 x252 ?_ ?_ ?_ ?_
    any_goals first | k_is | exact rfl
    intro x284 x285
    refine' TC.addE (i:=16) (n:=0) (k:=0) x226 x252 ?_ ?_ ?_ ?_
    any_goals first | k_is | exact rfl
    intro x286 x287
    exact ⟨⟨_,_,_,_,_,_,_,_,_,_,_,_,_,_,_,_,_,_,_,_,_,_,_,_,_,_,_,_,_,_,_,_,_,_,_,_,_,_,_,_,_,_,_,_,_,_,_,_,_,_,_,_,_,_,_,_,_,_,_,_,_,_,_,_,_,_,_,_,_,_,_,_,_,_,_,_,_,_,_,_,_,_,_,_,_,_,_,_,_,_,_,_,_,_,_,_,_,_,_,_,_,_,_,_,_,_,_,_,_,_,_,_,_,_,_,_,_,_,_⟩,⟨x1,x4,x2,x3,x5,x6,x7,x8,x11,x9,x10,x12,x13,x14,x15,x18,x16,x17,x19,x20,x21,x24,x22,x23,x25,x26,x29,x27,x28,x30,x31,x34,x32,x33,x35,x36,x39,x37,x38,x40,x41,x44,x42,x43,x45,x46,x49,x47,x48,x50,x51,x54,x52,x53,x55,x56,x59,x57,x58,x60,x61,x64,x62,x63,x65,x66,x69,x67,x68,x70,x71,x74,x76,x78,x80,x72,x73,x75,x77,x79,x81,x82,x83,x86,x84,x85,x87,x88,x89,x92,x94,x96,x98,x100,x102,x104,x90,x91,x93,x95,x97,x99,x101,x103,x105,x106,x107,x108,x109,x110,x111,x114,x116,x118,x120,x112,x113,x115,x117,x119,x121,x122,x123,x124,x125,x126,x127,x128,x129,x130,x131,x132,x133,x134,x135,x136,x137,x138,x139,x140,x141,x142,x143,x144,x145,x146,x147,x148,x149,x150,x151,x152,x153,x154,x155,x156,x157,x158,x159,x160,x161,x162,x163,x164,x165,x166,x167,x168,x169,x170,x171,x172,x173,x174,x175,x176,x177,x178,x179,x180,x181,x182,x183,x184,x185,x186,x187,x188,x189,x190,x191,x192,x193,x194,x195,x196,x197,x198,x199,x200,x201,x202,x203,x204,x205,x206,x207,x208,x209,x210,x211,x212,x213,x214,x215,x216,x217,x218,x219,x220,x221,x222,x223,x224,x225,x226,x227,x228,x229,x230,x231,x232,x233,x234,x235,x236,x237,x238,x239,x240,x241,x242,x243,x244,x245,x246,x247,x248,x249,x250,x251,x253,x254,x255,x256,x257,x258,x259,x260,x261,x262,x263,x264,x265,x266,x267,x268,x269,x270,x271,x272,x273,x274,x275,x276,x277,x278,x279,x280,x281,x282,x283,x284,x285,x286,x287⟩⟩
  case S =>
    intro K H xs a hO hwi hask hx
    exact TC.ask hO hask hx