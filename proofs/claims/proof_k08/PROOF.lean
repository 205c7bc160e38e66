import PyProof.Rows.All
import Wide.All
import OpenK.AllK
import Wide.FinOn
import HandS.HeadHook4
import HandS.ForMost
import HandS.SortKw
import HandS.OwnEq
import HandS.Exc
import KE.SortData
import KE.SortKeyHeap
import HandS.Lambda
import HandS.Nested
import KE.KeyNested
import PyProof.DictMoreH
import KE.KDictPairs
import KE.GoesEnum
import HandS.TupAny
import HandS.Style
import PyProof.AutoSeq1
import HandS.Walk
import HandS.Rev
import HandS.TryOnly
import HandS.ExcOwn
import HandS.WordsExc
import HandS.ExcInit
import HandS.ExcField
import HandS.ExcIs
import KE.KExcIs
import KE.KStateDown
import HandS.Head0
import HandS.Head1
import HandS.Head2
import HandS.Head3
import HandS.HeadEnd
import HandS.HeadHook1
import HandS.HeadHook2
import HandS.HeadHook3
import HandS.HeadWalk
import HandS.EndTab
import HandS.IsInst
import HandS.Deep
import HandS.TupMul
import HandS.RaiseMore
import HandS.SetFor
import HandS.Strs
import PyProof.ReprRoads
import HandS.Text
import KE.KRevSl
import HandS.List
import PyProof.StrOps2
import HandS.TryMany
import PySem.Challenge.RW_neatbooks_k08_whole_texts_of_terms_sign
set_option Elab.async false
set_option linter.all false
set_option maxRecDepth 100000
/-! the hook of a head with code tables that also sees the interpreter's own statics -/
namespace NB
open PySem PySem.Spec PyProof.Rows L2
section
variable {n : Nat} {fa : List He.Fa} {fn : List He.DefD} {ts : List He.Tab} {tf : List He.Defn} {ex : PySem.W.Frag → Bool} {w : World} {h : Heap}
/-- what is seen of the places as -/
def seeY (fa : List He.Fa) (fn : List He.DefD) (ts : List He.Tab) (tf : List He.Defn) (ex : PySem.W.Frag → Bool) (g : Addr → Option Obj) (as : List Addr) : He.AlX :=
  (He.obsT fa fn ts (He.frT g as), ex (He.frT g as) && He.tabsB g tf (He.frT g as))
theorem seeY_says {as : List Addr} (e : seeY fa fn ts tf ex h.get? as = He.valX fn ts w) : He.SaysX fa fn ts tf ex w h (He.frT h.get? as) := by
  have a : (ex (He.frT h.get? as) && He.tabsB h.get? tf (He.frT h.get? as)) = true := congrArg Prod.snd e
  obtain ⟨b, c⟩ := He.ba a
  have d : ∀ p ∈ tf, PySem.W.codeHdIn (He.frT h.get? as) (He.cT (He.frT h.get? as) p).1 (He.cT (He.frT h.get? as) p).2 = true ∧ ∃ o, h.get? (He.cT (He.frT h.get? as) p).2 = some o ∧ He.emptyTab o = true := by
    intro p hp
    obtain ⟨c1, c2⟩ := He.ba (List.all_eq_true.mp c p hp)
    refine ⟨c1, ?_⟩
    revert c2
    cases h.get? (He.cT (He.frT h.get? as) p).2 with
    | none => exact fun z => nomatch z
    | some o => exact fun z => ⟨o, rfl, z⟩
  refine ⟨congrArg Prod.fst e, b, fun p hp => (d p hp).1, fun p hp => ?_, fun p hp => ?_⟩
  · obtain ⟨_, o, q, z⟩ := d p hp
    exact He.frT_none q z
  · obtain ⟨_, o, q, z⟩ := d p hp
    rw [q, He.emptyTab_eq z]
def placesY (n : Nat) (g : Addr → Option Obj) : List Addr := He.asD g n ++ [cStatics]
def hookY (n : Nat) (fa : List He.Fa) (fn : List He.DefD) (ts : List He.Tab) (tf : List He.Defn) (ex : PySem.W.Frag → Bool) : PySem.W.Hook where
  α := He.AlX
  obs := fun s => seeY fa fn ts tf ex s.heap.get? (placesY n s.heap.get?)
  val := fun w => He.valX fn ts w
  says := fun w h => ∃ K : PySem.W.Frag, K.In h ∧ He.SaysX fa fn ts tf ex w h K
  of := fun _ _ e => ⟨_, He.frT_in, seeY_says e⟩
  keeps := fun _ _ _ ⟨K, hK, c⟩ k => ⟨K, PySem.W.Frag.In.keeps hK k, ⟨c.t, c.more, c.hd, c.out, fun p hp => k _ _ (c.empty p hp)⟩⟩
theorem seeY_eq {g : Addr → Option Obj} {s : Shared} (e : ∀ a, g a = s.heap.get? a) : seeY fa fn ts tf ex g (placesY n g) = (hookY n fa fn ts tf ex).obs s := by
  rw [show g = s.heap.get? from funext e] <;> rfl
end
/-- two looks at one run -/
theorem run_two {S α β γ : Type} {O : Option S} {a : S → α} {b : S → β} {c : S → γ} {x : α} {y : β} {z : γ} (h1 : O.map (fun s => (a s, b s)) = some (x, y)) (h2 : O.map c = some z) : O.map (fun s => (a s, b s, c s)) = some (x, y, z) := by
  cases O with
  | none => cases h1
  | some s =>
    injection h1 with h1
    injection h2 with h2
    show some (a s, b s, c s) = _
    rw [show a s = x from congrArg Prod.fst h1, show b s = y from congrArg Prod.snd h1, h2]
end NB

set_option maxHeartbeats 4000000
/-! sorted(xs), sorted(xs, key=f) of data, f an own def that only makes objects -/
namespace NB
open PySem PySem.Spec PyProof.Rows L2
/-! ### data stay -/
theorem SqL.same {K : PySem.W.Frag} {H H' : Hp} {a : Addr} {xs : List V} (h : SqL K H a xs) (e : Same H H') : SqL K H' a xs := L2.Same.seq e h
theorem SqT.same {K : PySem.W.Frag} {H H' : Hp} {a : Addr} {xs : List V} (h : SqT K H a xs) (e : Same H H') : SqT K H' a xs := L2.SqT.ext h e
end NB
namespace L2
open PySem PySem.Spec PyProof.Rows
mutual
theorem Dp.same {K : PySem.W.Frag} {H H' : Hp} (e : Same H H') : ∀ (d : PyData) (v : V), Dp K H v d → Dp K H' v d
  | .none, _, h => by cases h; exact .non
  | .bool b, _, h => by cases h; exact .bl b
  | .int i, _, h => by cases h; exact .int i
  | .str x, _, h => by cases h; exact .str x
  | .list ds, _, h => by
    cases h with
    | lst hs ha => exact .lst (NB.SqL.same hs e) (DpAll.same e ds _ ha)
  | .tuple ds, _, h => by
    cases h with
    | tup hs ha => exact .tup (NB.SqT.same hs e) (DpAll.same e ds _ ha)
  | .dict _, _, h => by cases h
theorem DpAll.same {K : PySem.W.Frag} {H H' : Hp} (e : Same H H') : ∀ (ds : List PyData) (vs : List V), DpAll K H vs ds → DpAll K H' vs ds
  | [], _, h => by cases h; exact .nil
  | d :: ds, _, h => by
    cases h with
    | cons h1 h2 => exact .cons (Dp.same e d _ h1) (DpAll.same e ds _ h2)
end
theorem DpAll.len {K : PySem.W.Frag} {H : Hp} : ∀ {vs : List V} {ds : List PyData}, DpAll K H vs ds → vs.length = ds.length
  | _, _, .nil => rfl
  | _, _, .cons _ t => congrArg (· + 1) (DpAll.len t)
theorem DpAll.get {K : PySem.W.Frag} {H : Hp} : ∀ {vs : List V} {ds : List PyData} {i : Nat} {v : V} {d : PyData}, DpAll K H vs ds → vs[i]? = some v → ds[i]? = some d → Dp K H v d
  | _, _, _, _, _, .nil, h, _ => by simp at h
  | _, _, 0, _, _, .cons h _, h1, h2 => by
    simp at h1 h2
    subst h1 h2
    exact h
  | _, _, i + 1, _, _, .cons _ t, h1, h2 => DpAll.get (i := i) t (by simpa using h1) (by simpa using h2)
theorem DpAll.app {K : PySem.W.Frag} {H : Hp} : ∀ {vs ws : List V} {ds es : List PyData}, DpAll K H vs ds → DpAll K H ws es → DpAll K H (vs ++ ws) (ds ++ es)
  | _, _, _, _, .nil, h => h
  | _, _, _, _, .cons h t, h2 => .cons h (DpAll.app t h2)
end L2
namespace NB
open PySem PySem.Spec PyProof.Rows L2
/-- the sort's result: the values by their keys -/
noncomputable def srt (xs : List V) (ds : List PyData) : List V := ((xs.zip ds).mergeSort (PySem.W.dataLe false (·.2))).map (·.1)
theorem srt_perm {xs : List V} {ds : List PyData} (h : xs.length = ds.length) : (srt xs ds).Perm xs := by
  unfold srt
  have e : (xs.zip ds).map (·.1) = xs := List.map_fst_zip (Nat.le_of_eq h)
  have q := (List.mergeSort_perm (xs.zip ds) (PySem.W.dataLe false (·.2))).map (·.1)
  rw [e] at q
  exact q
theorem each_vals {us : List Value} : ∀ {bs : List (V × PyData)}, PySem.W.EachIs (fun u (b : V × PyData) => RelV b.1 u) us bs → Vals (bs.map (·.1)) us := by
  intro bs h
  induction h with
  | nil => exact .nil
  | cons h1 _ ih => exact .cons h1 ih
theorem each_of {P : Value → PyData → Prop} : ∀ {xs : List V} {us : List Value} {ds : List PyData}, Vals xs us → (∀ (i : Nat) u d, us[i]? = some u → ds[i]? = some d → P u d) → xs.length = ds.length → PySem.W.EachIs (fun u (b : V × PyData) => RelV b.1 u ∧ P u b.2) us (xs.zip ds)
  | [], _, ds, .nil, _, _ => by
    rw [List.zip_nil_left]
    exact .nil
  | x :: xs, u :: us, [], .cons _ _, _, hl => by simp at hl
  | x :: xs, u :: us, d :: ds, .cons r t, hp, hl => by
    rw [List.zip_cons_cons]
    exact .cons ⟨r, hp 0 u d rfl rfl⟩ (each_of t (fun i u' d' h1 h2 => hp (i + 1) u' d' (by simpa using h1) (by simpa using h2)) (by simpa using hl))
theorem zip_snd {xs : List V} {ds : List PyData} (h : xs.length = ds.length) : (xs.zip ds).map (·.2) = ds := List.map_snd_zip (Nat.le_of_eq h.symm)
section
variable {X : Cx}
/-- sorted(xs), xs a list of data that are alike -/
def rSortD (K : PySem.W.Frag) : List V → Hp → VK → Prop := fun vs H Q => ∃ (a : Addr) (xs : List V) (ds : List PyData), vs = [.ref a] ∧ SqL K H a xs ∧ DpAll K H xs ds ∧ PySem.W.AllAlike ds ∧ PySem.W.Sortable ds ∧ (∀ d ∈ ds, d.depth ≤ 64) ∧
  ∀ p, H p = none → Q (.ref p) (upd H p (.lst (srt xs ds)))
theorem call_sortD (hu : X.A.units + 128 < cLine) : CallR X (.builtin "sorted") (rSortD X.K) := by
  intro pins s σ H vs us Q I r h
  obtain ⟨a, xs, ds, rfl, hs, hd, hal, hk, hdp, q⟩ := h
  obtain rfl := Vals.ref1 r
  obtain ⟨its, rv, hl, hz⟩ := I.list hs
  have hlen := hd.len
  have er : PySem.W.EachIs (fun u (b : V × PyData) => RelV b.1 u ∧ ∃ as, Reads s.heap u b.2 as) its (xs.zip ds) := by
    refine each_of (P := fun u d => ∃ as, Reads s.heap u d as) rv (fun i u d h1 h2 => ?_) hlen
    have hi : i < xs.length := by
      rw [hlen]
      exact (List.getElem?_eq_some_iff.mp h2).1
    obtain ⟨x, hx⟩ : ∃ x, xs[i]? = some x := ⟨_, List.getElem?_eq_getElem hi⟩
    obtain ⟨u', hu', ru⟩ := rv.get hx
    rw [h1] at hu'
    cases hu'
    exact Dp.reads I d x u (hd.get hx h2) ru
  have em : (xs.zip ds).map (fun b => b.2) = ds := zip_snd hlen
  have hzl : (xs.zip ds).length = xs.length := by rw [List.length_zip, ← hlen, Nat.min_self]
  refine PySem.W.sorted_data (enc := fun b : V × PyData => b.2) (R := fun u b => RelV b.1 u) (bs := xs.zip ds) hl.isList (er.mono fun _ _ z => z.1) (er.mono fun _ _ z => z.2) (by rw [em]; exact hal) (by rw [em]; exact hk) (by rw [hzl]; exact hz) (fun b hb => ?_) fun out ho eo => ?_
  · have : b.2 ∈ ds := (List.of_mem_zip hb).2
    have := hdp _ this
    omega
  · have ev := each_vals eo
    have hp := (srt_perm hlen).length_eq
    obtain ⟨ep, he'⟩ := PyProof.Rows.sortedAll_at s.heap its out.toArray
    exact ⟨.ref _, upd H (s.heap.objs.size + 1) (.lst (srt xs ds)), I.laid (t' := s.toks) (fun _ _ => PyProof.Rows.sortedAll_old) (Nat.le_succ _) ⟨by rw [hp]; exact hz, _, ep, ev, he'⟩, rfl, q _ (I.hok.fresh (Nat.le_succ _))⟩
end
end NB

namespace NB
open PySem PySem.Spec PyProof.Rows L2
section
variable {X : Cx}
theorem Env0.at' {P : Program} {w : World} {K : PySem.W.Frag} {mg : Str → Option Value} {base : Heap} {A A' : Around} {outer : List Env} {s : Shared} {H : Hp} (e : Env0 P w K mg base A outer s H) (h : A'.frames = A.frames) : Env0 P w K mg base A' outer s H :=
  ⟨h.trans e.frames, e.mod, e.bs, e.bsz, e.funs, e.frf, e.hok, e.bare⟩
/-- an own def called from within a built-in -/
theorem run_in {pins : List (Addr × Obj)} {s : Shared} {σ : L2.St} {H : Hp} {Q : VK} {us : List Value} {vs : List V} {f : Addr} {fd : FuncData} {ps : List Str} {sp : Sp} {k : Nat} {A : Around} {E : Value → Shared → Prop} (F : FnOk X.prog X.w X.K X.mg X.base L2.CX0 k f fd ps sp) (sb : L2.Sub X k A) (hb : Binds X.K fd ps [])
    (I : Inv X pins σ H s) (r : Vals vs us) (h : sp vs H Q L2.E0) : wpAny (model X.prog X.w) A (call (.ref f) us) (EP X pins σ Q) E s := by
  have hl : us.length = ps.length := by rw [← r.length]; exact F.len _ _ _ _ h
  have B := hb s us I.kIn (by rw [List.append_nil]; exact hl)
  rw [List.append_nil] at B
  refine wpAny_call (codeAny_mono (F.run A X.stack s H ⟨us, []⟩ us vs Q L2.E0 sb.room (Env0.at' I.env0 sb.fr) B r h) fun rr s' hq => ?_)
  cases rr with
  | error e => exact False.elim hq
  | ok fl =>
    cases fl with
    | ret u => exact I.after hq
    | next => exact False.elim hq
    | brk => exact False.elim hq
    | cont => exact False.elim hq
/-- sorted(xs, key=f) -/
def rSortK (K : PySem.W.Frag) (f : Addr) (sp : Sp) : List V → List V → Hp → VK → Prop := fun vs zs H Q => ∃ (a : Addr) (xs : List V) (ds : List PyData), vs = [.ref a] ∧ zs = [.ref f] ∧ SqL K H a xs ∧ xs.length = ds.length ∧ PySem.W.AllAlike ds ∧ PySem.W.Sortable ds ∧ (∀ d ∈ ds, d.depth ≤ 64) ∧
  (∀ (i : Nat) x d, xs[i]? = some x → ds[i]? = some d → ∀ H1, Same H H1 → sp [x] H1 (fun v H2 => Same H1 H2 ∧ Dp K H2 v d) L2.E0) ∧ ∀ p H1, Same H H1 → H1 p = none → Q (.ref p) (upd H1 p (.lst (srt xs ds)))
theorem each_get {α β : Type} {R : α → β → Prop} : ∀ {as : List α} {bs : List β} {i : Nat} {a : α} {b : β}, PySem.W.EachIs R as bs → as[i]? = some a → bs[i]? = some b → R a b
  | _, _, _, _, _, .nil, h, _ => by simp at h
  | _, _, 0, _, _, .cons h _, h1, h2 => by
    simp at h1 h2
    subst h1 h2
    exact h
  | _, _, i + 1, _, _, .cons _ t, h1, h2 => each_get (i := i) t (by simpa using h1) (by simpa using h2)
theorem each_snoc' {α β : Type} {R : α → β → Prop} : ∀ {as : List α} {bs : List β} {a : α} {b : β}, PySem.W.EachIs R as bs → R a b → PySem.W.EachIs R (as ++ [a]) (bs ++ [b])
  | _, _, _, _, .nil, h => .cons h .nil
  | _, _, _, _, .cons h t, h2 => .cons h (each_snoc' t h2)
theorem call_sortK {k : Nat} {f : Addr} {fd : FuncData} {ps : List Str} {sp : Sp} (F : FnOk X.prog X.w X.K X.mg X.base L2.CX0 k f fd ps sp) (hr : Room (k + 2) X.A) (hb : Binds X.K fd ps []) : CallRK X (.builtin "sorted") [Str.ofString "key"] (rSortK X.K f sp) := by
  intro pins s σ H vs zs us ws Q I r rz h
  obtain ⟨a, xs, ds, rfl, rfl, hs, hlen, hal, hk, hdp, hturn, q⟩ := h
  obtain rfl := Vals.ref1 r
  obtain rfl := Vals.ref1 rz
  obtain ⟨its, rv, hl, hz⟩ := I.list hs
  have hle : its.length = xs.length := rv.length.symm
  have hun := hr.un
  have sb2 : L2.Sub X k X.A.in1.in1 := ⟨hr.in1.in1, rfl⟩
  refine PySem.W.sorted_of_sort hl.isList (by rw [hle]; exact hz) (PyProof.Rows.ksk_s1 _ _) (fun _ => PyProof.Rows.ksk_l1 _ _) fun E' => ?_
  have ha1 : s.heap.objs.size ≤ s.heap.objs.size + 1 := Nat.le_succ _
  obtain ⟨p, hp⟩ : ∃ p, p = s.heap.objs.size + 1 := ⟨_, rfl⟩
  rw [← hp]
  rw [← hp] at ha1
  have hcp : (PySem.W.copyHeap s.heap its).get? p = some (PyProof.Rows.seqObj "list" its.toArray 0) := by
    rw [hp]
    exact PySem.W.copyHeap_at s.heap its
  have I1 : Inv X pins σ H { s with heap := PySem.W.copyHeap s.heap its } := I.kept (t' := s.toks) fun b u e => PySem.W.copyHeap_old e
  show wpAny _ _ (PyProof.Rows.ksk_tree p (.ref f) false) _ _ _
  -- the list is emptied, the keys' store is made
  obtain ⟨e1, ho1⟩ : ∃ e1, ((PySem.W.copyHeap s.heap its).update p (Obj.mapSeq fun _ => (#[] : Array Value))).get? p = some (PyProof.Rows.seqObj "list" #[] e1) := ⟨_, PyProof.Rows.get?_update_seq hcp fun _ => #[]⟩
  unfold PyProof.Rows.ksk_tree
  refine wpAny_bind (PyProof.Rows.listItems_at hcp rfl ?_)
  refine wpAny_bind (PyProof.Rows.listUpdate_at hcp rfl ?_ (by rw [List.size_toArray, hle]; exact hz) (Nat.zero_le _))
  refine wpAny_bind (PyProof.Rows.seqEpoch_at ho1 rfl ?_)
  refine wpAny_bind (wpAny_newTuple ?_ (by show its.length ≤ _; rw [hle]; exact hz))
  refine wpAny_bind (wpAny_newList ?_ (Nat.zero_le _))
  refine wpAny_holding ?_
  have fresh : ∀ {H0 : Hp} {s0 : Shared} (J : Inv X pins σ H0 s0) {t : Addr}, s0.heap.objs.size ≤ t → H0 t = none ∧ X.s_0.heap.objs.size ≤ t ∧ t ≠ X.env.locals ∧ t ∉ frs X.stack ∧ (∀ x c, X.env.cells.lookup x = some c → c ≠ t) ∧ ∀ q ∈ X.pn ++ pins, q.1 ≠ t := by
    intro H0 s0 J t ht
    have nL : t ≠ X.env.locals := Nat.ne_of_gt (Nat.lt_of_lt_of_le J.lt ht)
    refine ⟨J.hok.fresh ht, Nat.le_trans J.sz ht, nL, fun z => ?_, fun x c e z => ?_, fun q hq z => ?_⟩
    · rcases List.mem_cons.mp (J.stkSub _ z) with z | z
      · exact nL z
      · exact J.nofs ht z
    · obtain ⟨w', o, ho, _⟩ := J.cell x c e
      rw [z] at ho
      exact absurd (Heap.lt_size ho) (Nat.not_lt_of_le ht)
    · have := (J.pin q hq).1
      rw [z] at this
      exact absurd (Heap.lt_size this) (Nat.not_lt_of_le ht)
  obtain ⟨nP, pPs, pPL, pPf, pPc, pPp⟩ := fresh I ha1
  have I2 : Inv X pins σ H { s with heap := (PySem.W.copyHeap s.heap its).update p (Obj.mapSeq fun _ => (#[] : Array Value)) } :=
    Inv.turned (s := { s with heap := PySem.W.copyHeap s.heap its }) I1 (t' := s.toks) (it := p) (fun b o hb e => (Heap.get?_update_other _ (Obj.mapSeq fun _ => (#[] : Array Value)) (Ne.symm hb)).trans e) nP pPL (.inr pPs) pPc pPp
  have I3 : Inv X pins σ H { s with heap := (((PySem.W.copyHeap s.heap its).update p (Obj.mapSeq fun _ => (#[] : Array Value))).push (PyProof.Rows.seqObj "tuple" its.toArray 0)).push (PyProof.Rows.seqObj "list" #[] 0) } :=
    I2.kept (t' := s.toks) fun b u e => Heap.get?_push_of_some _ (Heap.get?_push_of_some _ e)
  obtain ⟨kS, hkS⟩ : ∃ kS, kS = (((PySem.W.copyHeap s.heap its).update p (Obj.mapSeq fun _ => (#[] : Array Value))).push (PyProof.Rows.seqObj "tuple" its.toArray 0)).objs.size := ⟨_, rfl⟩
  have nk : ((((PySem.W.copyHeap s.heap its).update p (Obj.mapSeq fun _ => (#[] : Array Value))).push (PyProof.Rows.seqObj "tuple" its.toArray 0)).push (PyProof.Rows.seqObj "list" #[] 0)).get? kS = some (PyProof.Rows.seqObj "list" #[] 0) := by
    rw [hkS]
    exact Heap.get?_push_size _ rfl
  have np0 : ((((PySem.W.copyHeap s.heap its).update p (Obj.mapSeq fun _ => (#[] : Array Value))).push (PyProof.Rows.seqObj "tuple" its.toArray 0)).push (PyProof.Rows.seqObj "list" #[] 0)).get? p = some (PyProof.Rows.seqObj "list" #[] e1) :=
    Heap.get?_push_of_some _ (Heap.get?_push_of_some _ ho1)
  have kS2 : ((PySem.W.copyHeap s.heap its).update p (Obj.mapSeq fun _ => (#[] : Array Value))).objs.size ≤ kS := by
    rw [hkS, PyProof.Rows.size_push']
    exact Nat.le_succ _
  have hpk : kS ≠ p := Nat.ne_of_gt (Nat.lt_of_lt_of_le (Heap.lt_size ho1) kS2)
  obtain ⟨nkS, kSs, kSL, kSf, kSc, kSp⟩ := fresh I2 kS2
  show wpAny _ _ (PyProof.Rows.ksk_rest p (.ref f) false its.toArray e1 (.ref (((PySem.W.copyHeap s.heap its).update p (Obj.mapSeq fun _ => (#[] : Array Value))).push (PyProof.Rows.seqObj "tuple" its.toArray 0)).objs.size)) _ _ _
  rw [← hkS]
  unfold PyProof.Rows.ksk_rest
  refine wpAny_bind (wpAny_rule ?_)
  first
    | rw [List.forIn_toArray]
    | (rw [← Array.forIn_toList]; simp only [List.toList_toArray])
    | rw [← Array.forIn_toList]
  refine wpAny_bind (PyProof.Rows.ksk_fold (fun i s' => ∃ H1 kA e vsK, Inv X pins σ H1 s' ∧ Same H H1 ∧ (H1 p = none ∧ s'.heap.get? p = some (PyProof.Rows.seqObj "list" #[] e1)) ∧ H1 kS = none ∧ s'.heap.get? kS = some (PyProof.Rows.seqObj "list" kA e) ∧ Vals vsK kA.toList ∧ DpAll X.K H1 vsK (ds.take i)) its 0 _
    ⟨H, #[], 0, [], I3, fun _ _ e => e, ⟨nP, np0⟩, nkS, nk, .nil, by rw [List.take_zero]; exact .nil⟩ ?step ?done)
  case step =>
    rintro j x s' hx ⟨H1, kA, e, vsK, J, sm, ⟨np1, ep1⟩, nk1, ek, vk, dk⟩
    simp only [Nat.zero_add] at dk ⊢
    have hj : j < its.length := (List.getElem?_eq_some_iff.mp hx).1
    obtain ⟨d, hd⟩ : ∃ d, ds[j]? = some d := ⟨_, List.getElem?_eq_getElem (by omega)⟩
    obtain ⟨y, hy⟩ : ∃ y, xs[j]? = some y := ⟨_, List.getElem?_eq_getElem (by omega)⟩
    obtain ⟨x', hx', ry⟩ := rv.get hy
    rw [hx] at hx'
    cases hx'
    have hkl : kA.size = j := by
      have h1 : vsK.length = kA.size := vk.length.trans Array.length_toList
      have h2 : vsK.length = (ds.take j).length := dk.len
      rw [List.length_take] at h2
      omega
    have hcall := F.run X.A.in1.in1 X.stack s' H1 ⟨[x], []⟩ [x] [y] (fun v H2 => Same H1 H2 ∧ Dp X.K H2 v d) L2.E0 sb2.room (Env0.at' J.env0 sb2.fr)
    have sp1 := hturn j y d hy hd H1 sm
    have hpl : [x].length = ps.length := by
      have := F.len _ _ _ _ sp1
      rw [← this]
      rfl
    have B := hb s' [x] J.kIn (by rw [List.append_nil]; exact hpl)
    rw [List.append_nil] at B
    have rc := hcall B (.cons ry .nil) sp1
    refine wpAny_bind (wpAny_attempt (wpAny_mono (Q := fun u s2 => ∃ v H2, Inv X pins σ H2 s2 ∧ RelV v u ∧ Same H1 H2 ∧ Dp X.K H2 v d ∧ (H2 p = none ∧ s2.heap.get? p = some (PyProof.Rows.seqObj "list" #[] e1)) ∧ H2 kS = none ∧ s2.heap.get? kS = some (PyProof.Rows.seqObj "list" kA e)) (E := fun _ _ => False) (wpAny_call (codeAny_mono rc fun rr s2 hq => ?_)) (fun u s2 hu => ?_) fun _ _ hF => hF.elim))
    · cases rr with
      | error er => exact False.elim hq
      | ok fl =>
        cases fl with
        | ret u =>
          obtain ⟨v, H2, os2, bare2, un, hok2, rv2, sm2, dp2⟩ := hq
          have J2 : Inv X pins σ H2 s2 := J.call' (ch := []) os2 un hok2 bare2 (fun b z => absurd z (by simp))
          exact ⟨v, H2, J2, rv2, sm2, dp2, ⟨un.free p _ ep1 np1 (by simp), un.keep p _ ep1 np1 pPf (by simp)⟩, un.free kS _ ek nk1 (by simp), un.keep kS _ ek nk1 kSf (by simp)⟩
        | next => exact False.elim hq
        | brk => exact False.elim hq
        | cont => exact False.elim hq
    · obtain ⟨v, H2, J2, rv2, sm2, dp2, ⟨np2, ep2⟩, nk2, ek2⟩ := hu
      try dsimp only
      obtain ⟨c2, hc2⟩ : ∃ c2, (s2.heap.update kS (Obj.mapSeq (·.push u))).get? kS = some (PyProof.Rows.seqObj "list" (kA.push u) c2) := ⟨_, PyProof.Rows.get?_update_seq ek2 (·.push u)⟩
      have ht : ds.take (j + 1) = ds.take j ++ [d] := by rw [List.take_add_one, hd]; simp
      refine wpAny_bind (PyProof.Rows.listUpdate_at ek2 rfl ?_ (by omega) (Nat.le_trans (Nat.le_of_eq (Array.size_push ..)) (by omega)))
      have J3 : Inv X pins σ H2 { s2 with heap := s2.heap.update kS (Obj.mapSeq (·.push u)) } :=
        J2.turned (t' := s2.toks) (it := kS) (fun b o hb e => (Heap.get?_update_other s2.heap (Obj.mapSeq (·.push u)) (Ne.symm hb)).trans e) nk2 kSL (.inr kSs) kSc kSp
      refine wpAny_pure ⟨rfl, H2, kA.push u, c2, vsK ++ [v], J3, sm.trans sm2, ⟨np2, (Heap.get?_update_other s2.heap (Obj.mapSeq (·.push u)) hpk).trans ep2⟩, nk2, hc2, ?_, ?_⟩
      · have : (kA.push u).toList = kA.toList ++ [u] := by simp
        rw [this]
        exact vk.append (.cons rv2 .nil)
      · rw [ht]
        exact (L2.DpAll.same sm2 _ _ dk).app (.cons dp2 .nil)
  case done =>
    rintro s' ⟨H1, kA, e, vsK, J, sm, ⟨np1, ep1⟩, nk1, ek, vk, dk⟩
    simp only [Nat.zero_add] at dk
    rw [List.take_of_length_le (by omega)] at dk
    try dsimp only
    have hkl : kA.size = its.length := by
      have h1 : vsK.length = kA.size := vk.length.trans Array.length_toList
      have h2 : vsK.length = ds.length := dk.len
      omega
    refine wpAny_bind (PyProof.Rows.listItems_at ek rfl ?_)
    obtain ⟨G, g1, g2⟩ := restrict s'.heap fun b => decide (b ≠ kS)
    have gk : ∀ b, b ≠ kS → G.get? b = s'.heap.get? b := fun b hb => g1 b (decide_eq_true hb)
    have gS : G.get? kS = none := g2 kS (by simp)
    have er : PySem.W.EachIs (fun u d => ∃ as, Reads s'.heap u d as) kA.toList ds := by
      have q := each_of (P := fun u d => ∃ as, Reads s'.heap u d as) vk (ds := ds) (fun i u d h1 h2 => ?_) dk.len
      · have em := PySem.W.each_map (R := fun u d => ∃ as, Reads s'.heap u d as) (fun b : V × PyData => b.2) (q.mono fun _ _ z => z.2)
        rw [zip_snd dk.len] at em
        exact em
      · obtain ⟨x, hx⟩ : ∃ x, vsK[i]? = some x := ⟨_, List.getElem?_eq_getElem (by rw [dk.len]; exact (List.getElem?_eq_some_iff.mp h2).1)⟩
        obtain ⟨u', hu', ru⟩ := vk.get hx
        rw [h1] at hu'
        cases hu'
        exact Dp.reads J d x u (dk.get hx h2) ru
    have hko : PySem.W.KeyedOut false ds its (PySem.W.sortVals (PySem.W.dataKind s'.heap ds) false kA.toList its) := ⟨s'.heap, kA.toList, hal, rfl, er⟩
    have ez : PySem.W.EachIs (fun u (b : V × PyData) => RelV b.1 u) its (xs.zip ds) := (each_of (P := fun _ _ => True) rv (fun _ _ _ _ _ => trivial) hlen).mono fun _ _ z => z.1
    have hzl : (xs.zip ds).map (fun b : V × PyData => b.2) = ds := zip_snd hlen
    refine PySem.W.keyH_end (κ := PySem.W.dataKind s'.heap ds) (h₁ := G) (fun b o hb eb => ?_) gS ek ep1 hpk (PySem.W.SortsAt.data (s := s') er hal hk fun d hd => ?_) hkl (by rw [hle]; exact hz) fun h' tk c kp hc => ⟨rfl, ?_⟩
    · by_cases hb2 : b = kS
      · rw [hb2, gS] at eb
        cases eb
      · exact (gk b hb2).symm.trans eb
    · have := hdp d hd
      have e1 : X.A.in1.in1.units = X.A.units + 2 := rfl
      omega
    · have out := PySem.W.keyedOut_each (fun b : V × PyData => b.2) (by rw [hzl]; exact hko) ez
      have ev := each_vals out
      have hpl := (srt_perm hlen).length_eq
      have kpS : ∀ b o, b ≠ p → b ≠ kS → s'.heap.get? b = some o → h'.get? b = some o := fun b o h1 h2 h3 => kp b o h1 ((gk b h2).trans h3)
      refine ⟨.ref p, upd H1 p (.lst (srt xs ds)), ?_, rfl, q p H1 sm np1⟩
      have np_ : ∀ b, H1 b ≠ none → b ≠ p := fun b h z => h (by rw [z]; exact np1)
      have nk_ : ∀ b, H1 b ≠ none → b ≠ kS := fun b h z => h (by rw [z]; exact nk1)
      have some_ : ∀ {b o}, H1 b = some o → H1 b ≠ none := fun e z => by
        rw [e] at z
        cases z
      refine J.step (g' := s'.gens) (d' := s'.drawn) (t' := tk) (ch := [p, kS]) (fun b hb => ?_) (fun b o _ _ hc e _ => kpS b o (fun z => hc (by simp [z])) (fun z => hc (by simp [z])) e) (fun b o _ _ hc e _ => ⟨o.slots, kpS b o (fun z => hc (by simp [z])) (fun z => hc (by simp [z])) e⟩)
        (fun b o hc _ n => by rw [upd_ne (fun z => hc (by simp [z]))]; exact n) (fun b o hc e => ⟨o, kpS b o (fun z => hc (by simp [z])) (fun z => hc (by simp [z])) e⟩)
        (fun b ys e => by rw [upd_ne (np_ b (some_ e))]; exact e) (fun b o u e => by rw [upd_ne (np_ b (some_ e))]; exact e) (fun b us e => ⟨#[], by rw [upd_ne (np_ b (some_ e)), e]; simp⟩) (fun m hm => ?_) (fun b u e => ?_) J.bare
      · rcases List.mem_cons.mp hb with z | z
        · rw [z]
          exact ⟨.inr pPs, pPL, pPc, pPp⟩
        · have z : b = kS := by simpa using z
          rw [z]
          exact ⟨.inr kSs, kSL, kSc, kSp⟩
      · obtain ⟨o, es, ep, ho, rr⟩ := hm
        exact ⟨o, es, ep, kpS _ o (Ne.symm pPL) (Ne.symm kSL) ho, rr⟩
      · by_cases hb : b = p
        · rw [hb, upd_same] at e
          cases e
          rw [hb]
          exact ⟨by rw [hpl]; exact hz, _, c, ev, hc⟩
        · rw [upd_ne hb] at e
          refine (J.hok b u e).stay (fun d v hd e2 => ?_) (fun d e2 => by rw [upd_ne (np_ d (some_ e2))]; exact e2) fun d ys e2 => by rw [upd_ne (np_ d (some_ e2))]; exact e2
          have hd' : H1 d ≠ none := by
            rcases hd with z | z
            · rw [z]
              exact some_ e
            · exact some_ z
          exact kpS d v (np_ d hd') (nk_ d hd') e2
end
end NB

/-! a == b, a != b of two instances by their class's own __eq__, whichever flag it gives -/
namespace NB
open PySem PySem.Spec PyProof.Rows L2
section
open PySem.W
variable {prog : Program} {w : World} {A : Around} {E : Value → Shared → Prop} {s : Shared} {K : Frag} {x C L f : Addr} {h₀ : Heap} {m : Str → Option Value} {ox : Obj} {od : Option Obj} {b tb : Value}
theorem ifBound_builtin {M : Model} {name : Str} {id : String} {args : List Value} {Q : Option Value → Shared → Prop} (X : K.In s.heap) (I : InstAt s.heap x ox C od) (hs : findIn K (.ref C) name = some (some (.builtin id))) (hb : ∀ v, bindSpecial (.builtin id) v = pure (.builtin id, [v]))
    (h : wpAny M A (call (.builtin id) (.ref x :: args)) (fun v => Q (some v)) E s) : wpAny M A (callSpecialIfBound? (.ref x) name args) Q E s := by
  simp only [callSpecialIfBound?, bindSpecialIfBound?]
  refine wpAny_holding (wpAny_bind (wpAny_bind (wpAny_bind (I.type.here ((looks_findIn X hs).here ?_)))))
  simp only [hb]
  have fin : wpAny M A (call (.builtin id) ([.ref x] ++ args) >>= fun v => pure (some v)) Q E s := wpAny_bind (wpAny_mono h (fun v s' h' => wpAny_pure h') fun _ _ h' => h')
  refine wpAny_bind (wpAny_askSetting (wpAny_ite ?_))
  split
  · exact wpAny_bind (wpAny_pure (wpAny_pure fin))
  · exact wpAny_tryCatch (wpAny_bind (wpAny_pure (wpAny_pure fin)))
theorem ne_own {Q : Value → Shared → Prop} (hu : A.units + 1 < cLine) (hF : Fr h₀ L s.heap m) (X₀ : K.In h₀) (I : InstAt s.heap x ox C od) (hb : Looks (model prog w) s.heap (typeOf b) tb) (hn : notFirst K C tb = true)
    (he : findIn K (.ref C) "__eq__" = some (some (.ref f))) (hf : isFn K (.ref f) = true) (hne : findIn K (.ref C) "__ne__" = some (some (.builtin "object.__ne__"))) (hm : mroIn K C (.type "object") = some true)
    (h : wpAny (model prog w) A.in1 (call (.ref f) [.ref x, b]) (fun v s' => ∃ k, v = .bool k ∧ Q (.bool (!k)) s') E s) : wpAny (model prog w) A (richCompare .NotEq (.ref x) b) Q E s := by
  have X := X₀.keeps hF.keep
  have SN := PySem.F.cmp_object.ne
  have sub : Looks (model prog w) s.heap (isInstance (.ref x) (.type "object")) true := I.type.andThen (looks_mroIn X hm)
  have entry : wpAny (model prog w) A.in1 (Builtin.«object.__ne__» ⟨[.ref x, b], []⟩) (fun fl s' => ∃ v, fl = .done (.ret v) ∧ (v ≠ .notImplemented ∧ Q v s')) E s := by
    unfold Builtin.«object.__ne__»
    refine wpAny_bind (wpAny_pure ?_)
    refine wpAny_bind (wpAny_cRoomFor (show A.in1.units < cLine from hu) ?_)
    refine wpAny_bind (ifBound_K X I he hf (wpAny_mono h (fun v s' hv => ?_) fun _ _ e => e))
    obtain ⟨k, rfl, hq⟩ := hv
    dsimp only
    exact wpAny_bind (wpAny_truthy_bool (wpAny_pure ⟨_, rfl, (fun z => by cases z), hq⟩))
  have one : wpAny (model prog w) A (tryCompare (.ref x) "__ne__" b) (fun r s' => ∃ v, r = some v ∧ Q v s') E s := by
    unfold tryCompare
    refine wpAny_bind (ifBound_builtin X I hne SN.bind (wpAny_call (codeAny_call_builtin SN.plain PySem.F.cmpEntry_ne
      (check_slot PySem.F.cmpKind_ne PySem.F.cmpSplit_ne sub (PySem.F.cmpArgs_ne _ _) ?_))))
    refine wpAny_mono entry (fun fl s' hv => ?_) fun _ _ e => e
    obtain ⟨v, rfl, hne', hq⟩ := hv
    show wpAny _ _ _ _ _ _
    cases v <;> first | exact absurd rfl hne' | exact wpAny_pure ⟨_, rfl, hq⟩
  unfold richCompare
  simp only [oneThing_ref]
  refine wpAny_holding (wpAny_bind (wpAny_cRoomFor (Nat.lt_of_succ_lt hu) ?_))
  rw [cmpInfo_NotEq]
  dsimp only
  refine wpAny_bind (I.type.here (wpAny_bind (hb.here ?_)))
  split
  · rename_i q
    have e : subIn K tb (.ref C) = some false := by
      rcases Bool.or_eq_true_iff.mp hn with e | e
      · rw [beq_iff_eq.mp e] at q; simp at q
      · exact beq_iff_eq.mp e
    refine wpAny_bind ((looks_subIn X e).here ?_)
    simp only [Bool.false_eq_true, if_false]
    refine wpAny_bind (wpAny_mono one (fun r s' z => ?_) fun _ _ e => e)
    obtain ⟨v, rfl, hq⟩ := z
    exact wpAny_pure hq
  · refine wpAny_bind (wpAny_pure ?_)
    simp only [Bool.false_eq_true, if_false]
    refine wpAny_bind (wpAny_mono one (fun r s' z => ?_) fun _ _ e => e)
    obtain ⟨v, rfl, hq⟩ := z
    exact wpAny_pure hq
end
/-- the class's == -/
structure OwnEqC (K : PySem.W.Frag) (C f : Addr) : Prop where
  eq : PySem.W.findIn K (.ref C) "__eq__" = some (some (.ref f))
  fn : PySem.W.isFn K (.ref f) = true
  ne : PySem.W.findIn K (.ref C) "__ne__" = some (some (.builtin "object.__ne__"))
  ob : PySem.W.mroIn K C (.type "object") = some true
def rOwn (C : Addr) (sp : Sp) (g : Bool → Bool) : R2 := fun x y H Q => ∃ a b dx dy fs gs, x = .ref a ∧ y = .ref b ∧ H a = some (.ins C dx fs) ∧ H b = some (.ins C dy gs) ∧ sp [.ref a, .ref b] H (fun v H' => ∃ k, v = .bl k ∧ Q (.bl (g k)) H') L2.E0
section
variable {X : Cx} {k : Nat} {C f : Addr} {fd : FuncData} {ps : List Str} {sp : Sp}
theorem op_ownNe (F : FnOk X.prog X.w X.K X.mg X.base L2.CX0 k f fd ps sp) (T : OwnEqC X.K C f) (hb : Binds X.K fd ps []) (hr : Room (k + 1) X.A) : OpR X (compareOp .NotEq) (rOwn C sp not) := by
  intro pins s σ H x y v u Q I rx ry h
  obtain ⟨a, b, dx, dy, fs, gs, rfl, rfl, ha, hb', hq⟩ := h
  cases rx
  cases ry
  obtain ⟨mA, J, _⟩ := ins_get I.hok ha
  obtain ⟨mB, J', _⟩ := ins_get I.hok hb'
  obtain ⟨od, J, _⟩ := J.look
  obtain ⟨od', J', _⟩ := J'.look
  obtain ⟨m, hF⟩ := I.fr
  show wpAny (model X.prog X.w) X.A (richCompare .NotEq (.ref a) (.ref b)) (EP X pins σ Q) X.xe s
  have hun := hr.un
  refine ne_own (tb := .ref C) (by omega) hF I.ok.mod.kin J J'.type (by simp [PySem.W.notFirst]) T.eq T.fn T.ne T.ob ?_
  refine wpAny_mono (run_in F ⟨hr.in1, rfl⟩ hb I (vs := [.ref a, .ref b]) (.cons rfl (.cons rfl .nil)) hq) (fun v s' z => ?_) fun _ _ e => e
  obtain ⟨v, H', I', rv, kk, rfl, q⟩ := z
  cases rv
  exact ⟨kk, rfl, .bl _, H', I', rfl, q⟩
theorem op_ownEq (F : FnOk X.prog X.w X.K X.mg X.base L2.CX0 k f fd ps sp) (T : OwnEqC X.K C f) (hb : Binds X.K fd ps []) (hr : Room k X.A) : OpR X (compareOp .Eq) (rOwn C sp id) := by
  intro pins s σ H x y v u Q I rx ry h
  obtain ⟨a, b, dx, dy, fs, gs, rfl, rfl, ha, hb', hq⟩ := h
  cases rx
  cases ry
  obtain ⟨mA, J, _⟩ := ins_get I.hok ha
  obtain ⟨mB, J', _⟩ := ins_get I.hok hb'
  obtain ⟨od, J, _⟩ := J.look
  obtain ⟨od', J', _⟩ := J'.look
  obtain ⟨m, hF⟩ := I.fr
  show wpAny (model X.prog X.w) X.A (richCompare .Eq (.ref a) (.ref b)) (EP X pins σ Q) X.xe s
  refine PySem.W.cmp_K (op := .Eq) (tb := .ref C) hr.units0 hF I.ok.mod.kin J J'.type (by simp [PySem.W.notFirst]) T.eq T.fn ?_
  refine wpAny_mono (run_in F ⟨hr, rfl⟩ hb I (vs := [.ref a, .ref b]) (.cons rfl (.cons rfl .nil)) hq) (fun v s' z => ?_) fun _ _ e => e
  obtain ⟨v, H', I', rv, kk, rfl, q⟩ := z
  cases rv
  exact ⟨.bl _, H', I', rfl, q⟩
end
end NB

/-! a lambda with parameters, handed as the second argument to a def g(x, maker), which calls it -/
namespace NB
open PySem PySem.Spec PyProof.Rows L2 LamX NdefX
/-- a lambda's words as a nested def's (the body apart) -/
abbrev lamF (qual : Str) (params : Arguments) (scope : Scope) (cl : List (Str × Addr)) (c : Addr) : NF := ⟨"<lambda>", qual, params, [], scope, cl, c⟩
section
variable {P : Program} {w : World} {K : PySem.W.Frag} {mg : Str → Option Value} {base : Heap} {N ps fr : List Str} {f : Addr}
/-- the call of a lambda's object: its body's reading over the parameters and what its cells hold -/
theorem lam_run {A : Around} {outer : List Env} {s : Shared} {H : Hp} {us : List Value} {vs : List V} {ws : List (Option V)} {Q : VK} {qual : Str} {params : Arguments} {body : Expr} {scope : Scope} {cl : List (Str × Addr)} {c : Addr} {pm ctv : Value} {tb : TE} {k : Nat}
    (S : NScope N ps fr scope) (hbind : bindArgs (PySem.W.kla_fn "<lambda>" qual params body scope cl pm (.ref c) ctv) ⟨us, []⟩ = pure (ps.zip us)) (hr : Room (k + 1) A) (e0 : Env0 P w K mg base A outer s H)
    (hf : s.heap.get? f = some (PySem.W.kla_obj "<lambda>" qual params body scope cl pm c ctv)) (hc : H c = some (CodeO c qual)) (C : CellsAt cl fr ws s.heap H) (r : Vals vs us) (hl : vs.length = ps.length)
    (hb : Room k (A.deeper (envF (lamF qual params scope cl c) f s.heap.objs.size)) → PE (ncx L2.CX0 P w K mg base N (lamF qual params scope cl c) f A outer s H L2.E0) body tb) (hq : tb (startF N vs ws) H Q) :
    codeAny (model P w) A (.call (.ref f) ⟨us, []⟩) (CR L2.CX0 outer P w H s Q L2.E0) s := by
  have lim : s.heap.NoLimit := e0.mod.nolimit.keeps fun b o e => (e0.bs b o e).1
  obtain ⟨c2, oc, vs2, t, ec, hoc, hdc, hvc⟩ := codeO_at e0.hok hc
  refine PySem.W.kla_callFunE hr.depth hf rfl S.co S.gen rfl ⟨c2, oc, vs2, t, ec, hoc, hdc, hvc⟩ ?_
  rw [hbind]
  refine wpAny_pure (wpAny_newFunctionEnv S.nocell (fun ⟨n, _⟩ hy => S.par n (List.of_mem_zip hy).1) (fun h₁ hns hsb => ⟨lim.fresh _ hsb, ?_⟩) S.kind)
  show codeAny _ _ (.expr body (envF (lamF qual params scope cl c) f s.heap.objs.size)) _ _
  have kp : ∀ b o, s.heap.get? b = some o → h₁.get? b = some o := fun b o e => hsb.extBut b o (Nat.ne_of_lt (Heap.lt_size e)) (Heap.get?_push_of_some _ e)
  have J : Inv (ncx L2.CX0 P w K mg base N (lamF qual params scope cl c) f A outer s H L2.E0) [] (startF N vs ws) H { s with heap := h₁, toks := s.toks + (ps.zip us).length } :=
    inv_startN (F := lamF qual params scope cl c) S hr.hd e0 hl r C hns kp
  refine PySem.W.kla_codeExpr (wpAny_mono ((hb (hr.deeper _)).run [] _ _ H Q J hq) (fun v s' hv => ?_) fun e s' he => he)
  obtain ⟨w', H', J', rv, q⟩ := hv
  exact ⟨w', H', J'.os, J'.bare, J'.base, J'.hok, rv, q⟩
end

/-! ### maker(..) in the def that got the lambda -/
/-- what the def's frame Z knows of the lambda's object at f from its entry on -/
structure LamAt (Z : Cx) (f c : Addr) (qual : Str) (params : Arguments) (body : Expr) (scope : Scope) (cl : List (Str × Addr)) (fr : List Str) (ws : List (Option V)) : Prop where
  obj : ∃ pm ctv, Z.s_0.heap.get? f = some (PySem.W.kla_obj "<lambda>" qual params body scope cl pm c ctv)
  free : Z.H_0 f = none
  nofr : f ∉ Z.fs
  noex : f ∉ Z.ex
  cells : CellsAt cl fr ws Z.s_0.heap Z.H_0
  cfr : ∀ y a, cl.lookup y = some a → a ∉ Z.fs
  cex : ∀ y a, cl.lookup y = some a → a ∉ Z.ex
/-- maker(e, ..): f stands in the slot i -/
def tMaker (i : Nat) (f c : Addr) (qual : Str) (msp : List V → Hp → VK → Prop) (t : TA) : TE := fun σ H Q => σ[i]? = some (some (.ref f)) ∧ t σ H fun vs H1 => H1 c = some (CodeO c qual) ∧ msp vs H1 Q
theorem pe_maker {Z : Cx} {f c : Addr} {qual : Str} {params : Arguments} {body : Expr} {scope : Scope} {cl : List (Str × Addr)} {N ps fr : List Str} {ws : List (Option V)} {k i : Nat} {x : Str} {e : Expr} {es : List Expr} {t : TA} {p pos : Pos} {msp : List V → Hp → VK → Prop}
    (L : LamAt Z f c qual params body scope cl fr ws) (S : NScope N ps fr scope) (hbind : ∀ (pm cv ctv : Value) (us : List Value), us.length = ps.length → bindArgs (PySem.W.kla_fn "<lambda>" qual params body scope cl pm cv ctv) ⟨us, []⟩ = pure (ps.zip us))
    (hr : Room (k + 1) Z.A) (hsp : ∀ vs H Q, msp vs H Q → vs.length = ps.length)
    (hb : ∀ (A : Around) (outer : List Env) (s : Shared) (H : Hp) (vs : List V) (Q : VK), Room k (A.deeper (envF (lamF qual params scope cl c) f s.heap.objs.size)) → msp vs H Q →
      ∃ tb, PE (ncx L2.CX0 Z.prog Z.w Z.K Z.mg Z.base N (lamF qual params scope cl c) f A outer s H L2.E0) body tb ∧ tb (startF N vs ws) H Q)
    (hN : Z.N[i]? = some x) (hv : Vis Z.env.scope x) (ha : PA Z (e :: es) t) (hd : (x == ("__debug__" : Str)) = false := by decide) (hcd : (x == ("__classdict__" : Str)) = false := by decide)
    (he : starEach (e :: es) Z.env = (false, eval e Z.env) :: starEach es Z.env := by rfl) (hpl : (backTo pos (starEach es Z.env)).any (·.1) = false := by rfl) :
    PE Z (.Call (.Name x p) (e :: es) [] pos) (tMaker i f c qual msp t) := by
  refine ⟨fun pins s σ H Q I h => ?_⟩
  obtain ⟨hs, ht⟩ := h
  obtain ⟨pm, ctv, hobj⟩ := L.obj
  have at_ : ∀ {pins σ H s}, Inv Z pins σ H s → s.heap.get? f = some (PySem.W.kla_obj "<lambda>" qual params body scope cl pm c ctv) := fun I => I.base.keep f _ hobj L.free L.nofr L.noex
  refine wpAny_Call_Name_kw (thn ((pe_var (pos := p) hN hv hd hcd).run pins s σ H (fun v H1 => v = .ref f ∧ H1 = H) I ⟨.ref f, hs, rfl, rfl⟩) fun u s1 ⟨v, H1, I1, r1, q1⟩ => ?_)
  obtain ⟨ev, eH⟩ := q1
  subst ev
  rw [eH] at I1
  obtain rfl : u = Value.ref f := r1
  refine PySem.W.callWith_F (first := []) ⟨_, _, _, _, at_ I1⟩ (thn (ha.run pos pins s1 σ H _ I1 ht) fun us s2 ⟨vs, H2, I2, r, hc, q⟩ => ⟨⟨_, _, _, _, at_ I2⟩, ?_⟩) he hpl
  show wpAny _ _ (call (.ref f) us) _ _ _
  have hl := hsp _ _ _ q
  obtain ⟨tb, hB, hq⟩ : ∃ tb, (Room k (Z.A.deeper (envF (lamF qual params scope cl c) f s2.heap.objs.size)) → PE (ncx L2.CX0 Z.prog Z.w Z.K Z.mg Z.base N (lamF qual params scope cl c) f Z.A Z.stack s2 H2 L2.E0) body tb) ∧ tb (startF N vs ws) H2 Q := by
    obtain ⟨tb, h1, h2⟩ := hb Z.A Z.stack s2 H2 vs Q (hr.deeper _) q
    exact ⟨tb, fun _ => h1, h2⟩
  have hb2 := hbind pm (.ref c) ctv us (by rw [← r.length]; exact hl)
  refine wpAny_call (codeAny_mono (lam_run (ws := ws) (k := k) S hb2 hr I2.env0 (at_ I2) hc (L.cells.later L.cfr L.cex I2) r hl hB hq) fun rr s' hq' => ?_)
  cases rr with
  | error er => exact False.elim hq'
  | ok fl =>
    cases fl with
    | ret u => exact I2.after hq'
    | next => exact False.elim hq'
    | brk => exact False.elim hq'
    | cont => exact False.elim hq'

/-! ### g(e, lambda ..: body) -/
/-- the context of g's body, entered at s -/
abbrev gcx (X : Cx) (Ng : List Str) (x : Str) (sg : Scope) (g : Addr) (cdg : Value) (s : Shared) (H : Hp) : Cx := (cxOf L2.CX0 X.prog X.w X.K X.mg X.base Ng x sg g cdg X.A X.stack s H L2.E0).nox
/-- g's body, whatever the maker at its second slot promises: TT is g's promise over the maker's -/
def GivesM (X : Cx) (Ng : List Str) (x : Str) (sg : Scope) (g : Addr) (cdg : Value) (bg : List Stmt) (a : Str) (TT : (List V → Hp → VK → Prop) → V → Hp → VK → Prop) : Prop :=
  ∀ (f c : Addr) (q : Str) (s : Shared) (H : Hp) (v : V) (Q : VK) (msp : List V → Hp → VK → Prop),
    (∀ (e : Expr) (es : List Expr) (t : TA) (p pos : Pos), PA (gcx X Ng x sg g cdg s H) (e :: es) t → starEach (e :: es) (gcx X Ng x sg g cdg s H).env = (false, eval e (gcx X Ng x sg g cdg s H).env) :: starEach es (gcx X Ng x sg g cdg s H).env →
      (backTo pos (starEach es (gcx X Ng x sg g cdg s H).env)).any (·.1) = false → PE (gcx X Ng x sg g cdg s H) (.Call (.Name a p) (e :: es) [] pos) (tMaker 1 f c q msp t)) →
    H c = some (CodeO c q) → TT (fun vs H1 Q1 => H1 c = some (CodeO c q) ∧ msp vs H1 Q1) v H Q →
    ∃ t, PSs (gcx X Ng x sg g cdg s H) bg t ∧ t { nx := fun _ H' => Q .non H', rt := Q } (L2.start Ng [v, .ref f]) H
def tLamP (T : List (Addr × Str)) (q : Str) (TT : (List V → Hp → VK → Prop) → V → Hp → VK → Prop) (js : List Nat) (msp : List (Option V) → List V → Hp → VK → Prop) (t1 : TE) : TE := fun σ H Q => t1 σ H fun v H1 => Tabs T H1 ∧
  ∀ H2 c, ExtN H1 H2 → Tabs T H2 → H2 c = some (CodeO c q) → TT (fun vs H3 Q3 => H3 c = some (CodeO c q) ∧ msp (js.map (slotAt σ)) vs H3 Q3) v H2 Q
section
variable {X : Cx}
theorem pe_lamP {T : List (Addr × Str)} {TT : (List V → Hp → VK → Prop) → V → Hp → VK → Prop} {x a : Str} {ag : Str} {g c P : Addr} {k : Nat} {pg : Arguments} {bg : List Stmt} {sg : Scope} {dV kV doc pm cdv ct oc : Value} {an od : Option Addr} {osl : Array (Option Value)} {Ng N ps fr : List Str}
    {params : Arguments} {body : Expr} {scope : Scope} {e1 : Expr} {t1 : TE} {p lpos pos : Pos} {js : List Nat} {msp : List (Option V) → List V → Hp → VK → Prop} (hg : Gl X x) (hm : X.mg x = some (.ref g)) (hk : PySem.W.keepIn X.K (.ref g) = true)
    (lk : X.K.lookup g = some ⟨oc, od, .func (PySem.W.fnOf x x pg bg sg dV kV doc pm an cdv ct), osl⟩) (hcg : PySem.W.codeIn X.K cdv x = true) (hb : L2.Binds X.K (PySem.W.fnOf x x pg bg sg dV kV doc pm an cdv ct) [ag, a] []) (Sg : FnScope Ng [ag, a] sg) (hNg : Ng[1]? = some a) (hva : Vis sg a)
    (hG : GivesM X Ng x sg g cdv bg a TT)
    (TB : TabB X.base X.mg c P) (hcode : X.env.code = .ref c) (hmT : (P, X.env.qual ++ "<lambda>") ∈ T) (hu : ∀ p ∈ T, p.1 = P → p.2 = X.env.qual ++ "<lambda>") (hr : Room (k + 2) X.A) (hdef : defaultsOf params X.env = ([], []))
    (hsc : ndefB X.env.scope scope fr = true) (hjs : js.map (fun j => X.N[j]?) = fr.map some) (S : NScope N ps fr scope)
    (hbind : ∀ (q : Str) (cl : List (Str × Addr)) (pm cv ctv : Value) (us : List Value), us.length = ps.length → bindArgs (PySem.W.kla_fn "<lambda>" q params body scope cl pm cv ctv) ⟨us, []⟩ = pure (ps.zip us))
    (hsp : ∀ ws vs H Q, msp ws vs H Q → vs.length = ps.length)
    (hbody : ∀ (A : Around) (outer : List Env) (s : Shared) (H : Hp) (f c' : Addr) (cl : List (Str × Addr)) (ws : List (Option V)) (vs : List V) (Q : VK), Room k (A.deeper (envF (lamF (X.env.qual ++ "<lambda>") params scope cl c') f s.heap.objs.size)) → msp ws vs H Q →
      ∃ tb, PE (ncx L2.CX0 X.prog X.w X.K X.mg X.base N (lamF (X.env.qual ++ "<lambda>") params scope cl c') f A outer s H L2.E0) body tb ∧ tb (startF N vs ws) H Q)
    (h1 : PE X e1 t1) (hdb : (x == ("__debug__" : Str)) = false := by decide) (hd : (a == ("__debug__" : Str)) = false := by decide) (hcd : (a == ("__classdict__" : Str)) = false := by decide)
    (hfn0 : ∀ y, X.fn y = true := by intro _; rfl)
    (hst : ∀ l, starEach [e1, .Lambda params body scope l] X.env = [(false, eval e1 X.env), (false, eval (.Lambda params body scope l) X.env)] := by intro _; rfl) :
    PE X (.Call (.Name x p) [e1, .Lambda params body scope lpos] [] pos) (tLamP T (X.env.qual ++ "<lambda>") TT js msp t1) := by
  refine ⟨fun pins s σ H Q I h => ?_⟩
  have hfree : ∀ y ∈ scope.names, y.2 = .free → ∃ c, X.env.cells.lookup y.1 = some c := fun y hy e => (ndef_free hsc y hy e).elim (fun z => I.ok.has _ (.inl z)) fun z => I.ok.has _ (.inr z)
  refine wpAny_Call_Name_kw (ld_glob I hg hm ?_ hdb)
  refine PySem.W.callWith_K (h₀ := X.base) I.ok.mod.kin hk ?_ (hst lpos) (by rfl)
  rw [hst lpos]
  show wpAny _ _ (spliced [(false, eval e1 X.env), (false, eval (.Lambda params body scope lpos) X.env)]) _ _ s
  refine Calls.spliced_cons (thn (h1.run pins s σ H _ I h) fun u1 s1 ⟨v, H1, I1, r1, hT, q1⟩ => ?_)
  refine Calls.spliced_cons (lam_make2 I1 TB hcode hmT hu hT hdef hfree fun f c' pm' ctv H2 s2 I2 eN T2 hf hfn hfr hco => ?_)
  refine Calls.spliced_nil ⟨I2.kIn, ?_⟩
  have hsub : ∀ y b, (cloFrom X.env.cells scope.names []).lookup y = some b → X.env.cells.lookup y = some b := fun y b e => clo_cm hfree e
  have nofs : ∀ y b, (cloFrom X.env.cells scope.names []).lookup y = some b → b ∉ frs X.stack := fun y b e z => by
    have e' := hsub y b e
    rcases List.mem_cons.mp (I2.stkSub b z) with q | q
    · exact I2.cne y b e' q
    · obtain ⟨_, o', ho', _⟩ := I2.ok.funs.mem q
      exact absurd (Heap.lt_size ho') (Nat.not_lt_of_le (I2.ok.cab y b (hfn0 y) e'))
  have rc : codeAny (model X.prog X.w) X.A (.call (.ref g) ⟨[u1, .ref f], []⟩) (CR L2.CX0 X.stack X.prog X.w H2 s2 Q L2.E0) s2 := by
    refine run_ofS (N := Ng) (ps := [ag, a]) (us := [u1, .ref f]) (vs := [v, .ref f]) lk hcg Sg hr I2.env0 (hb s2 [u1, .ref f] I2.kIn rfl) (.cons r1 (.cons rfl .nil)) rfl fun hr' => ?_
    have L : LamAt (gcx X Ng x sg g cdv s2 H2) f c' (X.env.qual ++ "<lambda>") params body scope (cloFrom X.env.cells scope.names []) fr (js.map (slotAt σ)) :=
      { obj := ⟨pm', ctv, hf⟩
        free := hfn
        nofr := hfr
        noex := fun z => nomatch (show f ∈ ([] : List Addr) from z)
        cells := cells_of I2 (Caps.made I2.ok (ndef_free hsc) (ndef_fr hsc) hjs)
        cfr := nofs
        cex := fun _ _ _ z => nomatch (show _ ∈ ([] : List Addr) from z) }
    obtain ⟨t', ht', hq'⟩ := hG f c' (X.env.qual ++ "<lambda>") s2 H2 v Q (msp (js.map (slotAt σ))) (fun e es t p1 pos1 hA he hpl =>
      pe_maker L S (fun pm cv ctv us hl => hbind _ _ pm cv ctv us hl) hr' (fun vs H Q q => hsp _ vs H Q q) (fun A outer s H vs Q hr2 hm2 => hbody A outer s H f c' _ _ vs Q hr2 hm2) hNg hva hA hd hcd he hpl) hco (q1 H2 c' eN T2 hco)
    exact ⟨t', ht'.nox, hq'⟩
  refine wpAny_call (codeAny_mono rc fun r s' hq => ?_)
  cases r with
  | error e => exact (show False from hq).elim
  | ok fl =>
    cases fl with
    | ret u => exact I2.after hq
    | next => exact False.elim hq
    | brk => exact False.elim hq
    | cont => exact False.elim hq
end
end NB

/-! dicts whose keys are nested tuples of ints, texts, None: of the kind ("f", (0, 1)) -/
namespace NB
open PySem PySem.Spec PyProof.Rows L2
/-- an entry: the key, where its tuple stands, the value -/
abbrev NE := NestedKey × Addr × V
def valN (kvs : List NE) (k : NestedKey) : Option V := (kvs.find? fun e => decide (e.1 = k)).map (·.2.2)
def repN (k : NestedKey) (v : V) (e : NE) : NE := if e.1 = k then (e.1, e.2.1, v) else e
def putN (kvs : List NE) (k : NestedKey) (b : Addr) (v : V) : List NE := if (valN kvs k).isSome then kvs.map (repN k v) else kvs ++ [(k, b, v)]
theorem valN_nil {k : NestedKey} : valN [] k = none := rfl
theorem valN_cons {e : NE} {r : List NE} {k : NestedKey} : valN (e :: r) k = if e.1 = k then some e.2.2 else valN r k := by
  unfold valN
  by_cases h : e.1 = k
  · simp [List.find?_cons, h]
  · simp [List.find?_cons, h]
theorem valN_app {k j : NestedKey} {b : Addr} {v : V} : ∀ {kvs : List NE}, valN kvs k = none → valN (kvs ++ [(k, b, v)]) j = if k = j then some v else valN kvs j
  | [], _ => by simp [valN_cons, valN_nil]
  | e :: r, h => by
    rw [valN_cons] at h
    by_cases h1 : e.1 = k
    · rw [if_pos h1] at h
      cases h
    · rw [if_neg h1] at h
      rw [List.cons_append, valN_cons, valN_cons, valN_app h]
      by_cases h2 : e.1 = j
      · rw [if_pos h2, if_pos h2, if_neg (fun q => h1 (h2.trans q.symm))]
      · rw [if_neg h2, if_neg h2]
theorem putN_new {kvs : List NE} {k : NestedKey} {b : Addr} {v : V} (h : valN kvs k = none) : putN kvs k b v = kvs ++ [(k, b, v)] := by
  unfold putN
  rw [h]
  rfl
theorem valN_mem {k : NestedKey} {v : V} : ∀ {kvs : List NE}, valN kvs k = some v → ∃ b, (k, b, v) ∈ kvs
  | [], h => by cases h
  | e :: r, h => by
    rw [valN_cons] at h
    by_cases h1 : e.1 = k
    · rw [if_pos h1] at h
      obtain ⟨a, b, c⟩ := e
      cases h
      cases h1
      exact ⟨b, List.mem_cons_self ..⟩
    · rw [if_neg h1] at h
      obtain ⟨b, hb⟩ := valN_mem h
      exact ⟨b, List.mem_cons_of_mem _ hb⟩
theorem valN_none {k : NestedKey} : ∀ {kvs : List NE}, valN kvs k = none → ∀ e ∈ kvs, e.1 ≠ k
  | [], _, _, h => by cases h
  | e :: r, h, x, hx => by
    rw [valN_cons] at h
    by_cases h1 : e.1 = k
    · rw [if_pos h1] at h
      cases h
    · rw [if_neg h1] at h
      rcases List.mem_cons.mp hx with q | q
      · rw [q]
        exact h1
      · exact valN_none h x q
abbrev NRel : List NE → List (NestedKey × Addr × Value) → Prop := Paired fun p q => p.1 = q.1 ∧ p.2.1 = q.2.1 ∧ RelV p.2.2 q.2.2
theorem NRel.val (k : NestedKey) : ∀ {kvs : List NE} {xs : List (NestedKey × Addr × Value)}, NRel kvs xs → RelO (valN kvs k) ((atKey xs k).map (·.2))
  | _, _, .nil => True.intro
  | _, _, @Paired.cons _ _ _ p q ps qs r t => by
    obtain ⟨h1, h2, h3⟩ := r
    rw [valN_cons]
    by_cases h : p.1 = k
    · have h' : q.1 = k := h1 ▸ h
      rw [if_pos h]
      simp only [atKey, List.find?_cons, h', decide_true, Option.map_some]
      exact h3
    · have h' : ¬ q.1 = k := h1 ▸ h
      rw [if_neg h]
      have := NRel.val k t
      simpa [atKey, List.find?_cons, h'] using this
theorem NRel.put {k : NestedKey} {b : Addr} {v : V} {u : Value} (rv : RelV v u) {kvs : List NE} {xs : List (NestedKey × Addr × Value)} (r : NRel kvs xs) : NRel (putN kvs k b v) (storedH xs k b u) := by
  have e : (valN kvs k).isSome = (atKey xs k).isSome := by
    have := (r.val k).isSome_eq
    rw [Option.isSome_map] at this
    exact this
  unfold putN storedH
  rw [e]
  have snoc : ∀ {kvs : List NE} {xs : List (NestedKey × Addr × Value)}, NRel kvs xs → NRel (kvs ++ [(k, b, v)]) (xs ++ [(k, b, u)]) := by
    intro kvs xs r
    induction r with
    | nil => exact .cons ⟨rfl, rfl, rv⟩ .nil
    | cons h t ih => exact .cons h ih
  have rep : ∀ {kvs : List NE} {xs : List (NestedKey × Addr × Value)}, NRel kvs xs → NRel (kvs.map (repN k v)) (xs.map (putAt k u)) := by
    intro kvs xs r
    induction r with
    | nil => exact .nil
    | @cons p q ps qs h t ih =>
      refine .cons ?_ ih
      obtain ⟨h1, h2, h3⟩ := h
      unfold repN putAt
      by_cases c : p.1 = k
      · rw [if_pos c, if_pos (h1 ▸ c)]
        exact ⟨h1, h2, rv⟩
      · rw [if_neg c, if_neg (fun z => c (h1.trans z))]
        exact ⟨h1, h2, h3⟩
  split
  · exact rep r
  · exact snoc r
theorem NRel.length {kvs : List NE} {xs : List (NestedKey × Addr × Value)} (r : NRel kvs xs) : kvs.length = xs.length := Paired.length r
theorem NRel.mem : ∀ {kvs : List NE} {xs : List (NestedKey × Addr × Value)}, NRel kvs xs → ∀ x ∈ xs, ∃ e ∈ kvs, e.1 = x.1 ∧ e.2.1 = x.2.1
  | _, _, .nil, _, h => by cases h
  | _, _, @Paired.cons _ _ _ p q ps qs r t, x, h => by
    rcases List.mem_cons.mp h with z | z
    · exact ⟨p, List.mem_cons_self .., by rw [z]; exact r.1, by rw [z]; exact r.2.1⟩
    · obtain ⟨e, h1, h2⟩ := NRel.mem t x z
      exact ⟨e, List.mem_cons_of_mem _ h1, h2⟩
theorem putN_len (kvs : List NE) (k : NestedKey) (b : Addr) (v : V) : (putN kvs k b v).length ≤ kvs.length + 1 := by
  unfold putN
  split
  · simp
  · simp

/-- at a: a dict with these entries (where the keys' tuples stand is said by NDct) -/
def DN (P : Program) (w : World) (a : Addr) (kvs : List NE) : HO := .ext fun h => (a == sysModules) = false ∧ kvs.length ≤ sizeLine ∧ ∃ xs : List (NestedKey × Addr × Value), NRel kvs xs ∧
  ∃ o es ep, h.get? a = some o ∧ o.ExactDict ∧ o.data = .dict es ep ∧ es.toList = xs.map (entryOfKey (nestedKind P w)) ∧ (xs.map (·.1)).Nodup
/-- v is the key k -/
def NKey (K : PySem.W.Frag) (H : Hp) (b : Addr) (k : NestedKey) : Prop := Dp K H (.ref b) k.data ∧ k.depth ≤ 8
structure NDct (P : Program) (w : World) (K : PySem.W.Frag) (H : Hp) (a : Addr) (kvs : List NE) : Prop where
  at_ : H a = some (DN P w a kvs)
  keys : ∀ e ∈ kvs, NKey K H e.2.1 e.1
theorem DN_inj {P : Program} {w : World} {a : Addr} {kvs : List NE} {o : HO} (h : DN P w a kvs = o) : ∃ φ, o = .ext φ := ⟨_, h.symm⟩

section
variable {X : Cx} {pins : List (Addr × Obj)} {σ : L2.St} {H : Hp} {s : Shared}
mutual
theorem nk_is (I : Inv X pins σ H s) : ∀ (k : NestedKey) (v : V) (u : Value), Dp X.K H v k.data → RelV v u → NestedIs s.heap k u
  | .none, _, _, h, r => by
    cases h
    cases r
    exact .none
  | .num i, _, _, h, r => by
    cases h
    obtain ⟨t, rfl⟩ := r
    exact .int i t
  | .text x, _, _, h, r => by
    cases h
    obtain ⟨t, rfl⟩ := r
    exact .text x t
  | .tup ks, _, _, h, r => by
    rw [NestedKey.data] at h
    cases h with
    | tup hs ha =>
      cases r
      obtain ⟨its, rv, ⟨o, ho, hc, n, hd⟩, _⟩ := I.tuple hs
      exact .tup ho hc hd (nk_all I ks _ _ ha rv)
theorem nk_all (I : Inv X pins σ H s) : ∀ (ks : List NestedKey) (vs : List V) (us : List Value), DpAll X.K H vs (NestedKey.datas ks) → Vals vs us → NestedAll s.heap ks us
  | [], _, _, h, r => by
    rw [NestedKey.datas] at h
    cases h
    cases r
    exact .nil
  | k :: ks, _, _, h, r => by
    rw [NestedKey.datas] at h
    cases h with
    | cons h1 h2 =>
      cases r with
      | cons r1 r2 => exact .cons (nk_is I k _ _ h1 r1) (nk_all I ks _ _ h2 r2)
end
theorem nkey_is (I : Inv X pins σ H s) {b : Addr} {k : NestedKey} (h : NKey X.K H b k) : (nestedKind X.prog X.w).is s.heap k b := ⟨nk_is I k _ _ h.1 rfl, h.2⟩
theorem nd_of (I : Inv X pins σ H s) {a : Addr} {kvs : List NE} (d : NDct X.prog X.w X.K H a kvs) : (a == sysModules) = false ∧ kvs.length ≤ sizeLine ∧ ∃ xs, NRel kvs xs ∧ s.heap.DictOfH (nestedKind X.prog X.w) a xs := by
  obtain ⟨⟨h1, hz, xs, r, o, es, ep, ho, hx, hd, he, hn⟩, _, _⟩ := (show ObjOk X.prog X.w H s.heap a (DN X.prog X.w a kvs) from I.hok a _ d.at_)
  refine ⟨h1, hz, xs, r, o, es, ep, ho, hx, hd, he, fun x hx => ?_, hn⟩
  obtain ⟨e, hm, e1, e2⟩ := r.mem x hx
  have := nkey_is I (d.keys e hm)
  rw [e1, e2] at this
  exact this
theorem dn_ok {P : Program} {w : World} {H : Hp} {h : Heap} {a : Addr} {kvs : List NE} {xs : List (NestedKey × Addr × Value)} (h1 : (a == sysModules) = false) (hz : kvs.length ≤ sizeLine) (r : NRel kvs xs) (d : h.DictOfH (nestedKind P w) a xs) : ObjOk P w H h a (DN P w a kvs) := by
  obtain ⟨o, es, ep, ho, hx, hd, he, _, hn⟩ := d
  refine ⟨⟨h1, hz, xs, r, o, es, ep, ho, hx, hd, he, hn⟩, ⟨o, ho⟩, fun g1 g2 ⟨a1, a2, xs, a3, o, es, ep, a4, a5⟩ k => ⟨a1, a2, xs, a3, o, es, ep, k _ a4, a5⟩⟩
theorem room8 {A : Around} (hu : A.units + 16 < cLine) : (nestedKind X.prog X.w).room A.in1 := by
  show A.in1.units + 8 < cLine
  have : A.in1.units = A.units + 1 := rfl
  omega
variable {A : Around} {E : Value → Shared → Prop} {a b : Addr} {k : NestedKey} {kvs : List NE}
theorem nd_getItem {v : V} {Q : Value → Shared → Prop} (hu : A.units + 16 < cLine) (I : Inv X pins σ H s) (d : NDct X.prog X.w X.K H a kvs) (hk : NKey X.K H b k) (hv : valN kvs k = some v) (h : ∀ w' s', Inv X pins σ H s' → RelV v w' → Q w' s') :
    wpAny (model X.prog X.w) A (getItem (.ref a) (.ref b)) Q E s := by
  obtain ⟨h1, hz, xs, r, dd⟩ := nd_of I d
  obtain ⟨w', hw, rw'⟩ := RelO.some_of (v := v) (o := (atKey xs k).map (·.2)) (by rw [← hv]; exact r.val k)
  obtain ⟨p, hp, hp2⟩ := Option.map_eq_some_iff.mp hw
  refine wpAny_getItem_heap (room8 (X := X) hu) (nkey_is I hk) dd hp ?_
  rw [hp2]
  exact h w' _ (I.tok _) rw'
theorem nd_in {Q : Value → Shared → Prop} (hu : A.units + 16 < cLine) (I : Inv X pins σ H s) (d : NDct X.prog X.w X.K H a kvs) (hk : NKey X.K H b k) (h : ∀ s', Inv X pins σ H s' → Q (.bool (valN kvs k).isSome) s') :
    wpAny (model X.prog X.w) A (compareOp .In (.ref b) (.ref a)) Q E s := by
  obtain ⟨h1, hz, xs, r, dd⟩ := nd_of I d
  refine wpAny_in_heap (room8 (X := X) hu) (nkey_is I hk) h1 dd ?_
  have q := (r.val k).isSome_eq
  rw [Option.isSome_map] at q
  rw [← q]
  exact h _ (I.tok _)
theorem nd_notIn {Q : Value → Shared → Prop} (hu : A.units + 16 < cLine) (I : Inv X pins σ H s) (d : NDct X.prog X.w X.K H a kvs) (hk : NKey X.K H b k) (h : ∀ s', Inv X pins σ H s' → Q (.bool (!(valN kvs k).isSome)) s') :
    wpAny (model X.prog X.w) A (compareOp .NotIn (.ref b) (.ref a)) Q E s := by
  obtain ⟨h1, hz, xs, r, dd⟩ := nd_of I d
  refine wpAny_notIn_heap (room8 (X := X) hu) (nkey_is I hk) h1 dd ?_
  have q := (r.val k).isSome_eq
  rw [Option.isSome_map] at q
  rw [← q]
  exact h _ (I.tok _)
theorem nd_new {h' : Heap} {t' : Nat} {v : V} {u : Value} {xs : List (NestedKey × Addr × Value)} (I : Inv X pins σ H s) (d : NDct X.prog X.w X.K H a kvs) (h1 : (a == sysModules) = false) (r : NRel kvs xs) (rv : RelV v u) (hl : kvs.length < sizeLine)
    (dd : h'.DictOfH (nestedKind X.prog X.w) a (storedH xs k b u)) (hs : Heap.SameBut a s.heap h') : Inv X pins σ (upd H a (DN X.prog X.w a (putN kvs k b v))) { s with heap := h', toks := t' } := by
  refine d_write I (by rw [d.at_]; exact True.intro) hs ?_ (dn_ok h1 ?_ (r.put rv) dd)
  · obtain ⟨o, _, _, ho, _⟩ := dd
    exact ⟨o, ho⟩
  · have := putN_len kvs k b v
    omega
theorem nd_setItem {v : V} {u : Value} {Q : Unit → Shared → Prop} (hu : A.units + 16 < cLine) (I : Inv X pins σ H s) (d : NDct X.prog X.w X.K H a kvs) (hk : NKey X.K H b k) (rv : RelV v u) (hl : kvs.length < sizeLine)
    (h : ∀ s', Inv X pins σ (upd H a (DN X.prog X.w a (putN kvs k b v))) s' → Q () s') : wpAny (model X.prog X.w) A (setItem (.ref a) (.ref b) u) Q E s := by
  obtain ⟨h1, hz, xs, r, dd⟩ := nd_of I d
  refine wpAny_setItem_heap (hsz := by rw [← r.length]; exact hz) (room8 (X := X) hu) (nkey_is I hk) dd fun h' dd' hs => h _ ?_
  exact nd_new I d h1 r rv hl dd' hs
theorem nd_setdefault {v : V} {u : Value} {Q : Value → Shared → Prop} (hu : A.units + 16 < cLine) (I : Inv X pins σ H s) (d : NDct X.prog X.w X.K H a kvs) (hk : NKey X.K H b k) (rv : RelV v u) (hl : kvs.length < sizeLine)
    (q1 : ∀ x w' s', valN kvs k = some x → Inv X pins σ H s' → RelV x w' → Q w' s') (q2 : ∀ s', valN kvs k = none → Inv X pins σ (upd H a (DN X.prog X.w a (putN kvs k b v))) s' → Q u s') :
    wpAny (model X.prog X.w) A (call (.builtin "dict.setdefault") [.ref a, .ref b, u]) Q E s := by
  obtain ⟨h1, hz, xs, r, dd⟩ := nd_of I d
  have q := r.val k
  refine call_setdefault_heap (hsz := by rw [← r.length]; exact hz) (room8 (X := X) hu) (nkey_is I hk) h1 dd (fun p hp => ?_) fun hn h' dd' hs => ?_
  · rw [hp] at q
    cases hv : valN kvs k with
    | none =>
      rw [hv] at q
      exact q.elim
    | some x =>
      rw [hv] at q
      exact q1 x _ _ hv (I.tok _) q
  · rw [hn] at q
    cases hv : valN kvs k with
    | none => exact q2 _ hv (nd_new I d h1 r rv hl dd' hs)
    | some x =>
      rw [hv] at q
      exact q.elim
theorem nd_get1 {Q : Value → Shared → Prop} (hu : A.units + 16 < cLine) (I : Inv X pins σ H s) (d : NDct X.prog X.w X.K H a kvs) (hk : NKey X.K H b k) (h : ∀ w' s', Inv X pins σ H s' → RelV ((valN kvs k).getD .non) w' → Q w' s') :
    wpAny (model X.prog X.w) A (call (.builtin "dict.get") [.ref a, .ref b]) Q E s := by
  obtain ⟨h1, hz, xs, r, dd⟩ := nd_of I d
  exact call_meetsIn PySem.F.slot_dict_get dd.typeIs PySem.F.entry_dict_get (PySem.F.args_dict_get_2 _ _) (meetsH_dict_get (nestedKind X.prog X.w) a b h1) ⟨room8 (X := X) hu, k, xs, nkey_is I hk, dd, h _ _ (I.tok _) ((r.val k).getD rfl)⟩
theorem nd_get2 {v : V} {u : Value} {Q : Value → Shared → Prop} (hu : A.units + 16 < cLine) (I : Inv X pins σ H s) (d : NDct X.prog X.w X.K H a kvs) (hk : NKey X.K H b k) (rv : RelV v u) (h : ∀ w' s', Inv X pins σ H s' → RelV ((valN kvs k).getD v) w' → Q w' s') :
    wpAny (model X.prog X.w) A (call (.builtin "dict.get") [.ref a, .ref b, u]) Q E s := by
  obtain ⟨h1, hz, xs, r, dd⟩ := nd_of I d
  exact call_meetsIn PySem.F.slot_dict_get dd.typeIs PySem.F.entry_dict_get (PySem.F.args_dict_get_3 _ _ _) (meetsH_dict_get_default (nestedKind X.prog X.w) a b h1 u) ⟨room8 (X := X) hu, k, xs, nkey_is I hk, dd, h _ _ (I.tok _) ((r.val k).getD rv)⟩
theorem nd_typeIs (I : Inv X pins σ H s) (d : NDct X.prog X.w X.K H a kvs) : s.TypeIs (.ref a) "dict" ∧ (∀ b, Value.ref a = .ref b → ∃ ob, s.heap.get? b = some ob ∧ ob.dict = none) := by
  obtain ⟨h1, hz, xs, r, dd⟩ := nd_of I d
  refine ⟨dd.typeIs, fun b q => ?_⟩
  cases q
  obtain ⟨ob, _, _, h1, h2, _⟩ := dd
  exact ⟨ob, h1, h2.2.1⟩
end

/-! ### readings -/
def tNNew (P : Program) (w : World) : TE := fun _ H Q => ∀ p, H p = none → Q (.ref p) (upd H p (DN P w p []))
def tNGet (P : Program) (w : World) (K : PySem.W.Frag) (td ty : TE) : TE := fun σ H Q => td σ H fun x H1 => ty σ H1 fun y H2 => ∃ a b kvs k v, x = .ref a ∧ y = .ref b ∧ NDct P w K H2 a kvs ∧ NKey K H2 b k ∧ valN kvs k = some v ∧ Q v H2
def tNIn (P : Program) (w : World) (K : PySem.W.Frag) (ty td : TE) : TE := fun σ H Q => ty σ H fun y H1 => td σ H1 fun x H2 => ∃ a b kvs k, x = .ref a ∧ y = .ref b ∧ NDct P w K H2 a kvs ∧ NKey K H2 b k ∧ Q (.bl (valN kvs k).isSome) H2
def tNNotIn (P : Program) (w : World) (K : PySem.W.Frag) (ty td : TE) : TE := fun σ H Q => ty σ H fun y H1 => td σ H1 fun x H2 => ∃ a b kvs k, x = .ref a ∧ y = .ref b ∧ NDct P w K H2 a kvs ∧ NKey K H2 b k ∧ Q (.bl (!(valN kvs k).isSome)) H2
def sNPut (P : Program) (w : World) (K : PySem.W.Frag) (td ty tv : TE) : TS := fun D σ H => tv σ H fun v H1 => td σ H1 fun x H2 => ty σ H2 fun y H3 => ∃ a b kvs k, x = .ref a ∧ y = .ref b ∧ NDct P w K H3 a kvs ∧ NKey K H3 b k ∧ kvs.length < sizeLine ∧
  D.nx σ (upd H3 a (DN P w a (putN kvs k b v)))
def tNSetd (P : Program) (w : World) (K : PySem.W.Frag) (td ty tv : TE) : TE := fun σ H Q => td σ H fun x H1 => ∃ a kvs1, x = .ref a ∧ NDct P w K H1 a kvs1 ∧ ty σ H1 fun y H2 => tv σ H2 fun v H3 => ∃ b kvs k, y = .ref b ∧ NDct P w K H3 a kvs ∧ NKey K H3 b k ∧ kvs.length < sizeLine ∧
  (∀ x, valN kvs k = some x → Q x H3) ∧ (valN kvs k = none → Q v (upd H3 a (DN P w a (putN kvs k b v))))
def tNGet1 (P : Program) (w : World) (K : PySem.W.Frag) (td ty : TE) : TE := fun σ H Q => td σ H fun x H1 => ∃ a kvs1, x = .ref a ∧ NDct P w K H1 a kvs1 ∧ ty σ H1 fun y H2 => ∃ b kvs k, y = .ref b ∧ NDct P w K H2 a kvs ∧ NKey K H2 b k ∧ Q ((valN kvs k).getD .non) H2
def tNGet2 (P : Program) (w : World) (K : PySem.W.Frag) (td ty tv : TE) : TE := fun σ H Q => td σ H fun x H1 => ∃ a kvs1, x = .ref a ∧ NDct P w K H1 a kvs1 ∧ ty σ H1 fun y H2 => tv σ H2 fun v H3 => ∃ b kvs k, y = .ref b ∧ NDct P w K H3 a kvs ∧ NKey K H3 b k ∧ Q ((valN kvs k).getD v) H3
section
variable {X : Cx} {o i e f value : Expr} {pos pos' tpos apos cpos : Pos} {td ty tv : TE}
theorem pe_nnew : PE X (.Dict [] [] pos) (tNNew X.prog X.w) := ⟨fun pins s σ H Q I h =>
  wpAny_Dict_empty ⟨.ref s.heap.objs.size, _, I.laid (a := s.heap.objs.size) (o := DN X.prog X.w s.heap.objs.size []) (t' := s.toks) (fun _ _ q => Heap.get?_push_of_some _ q) (Nat.le_refl _)
    (dn_ok (xs := []) (beq_eq_false_iff_ne.mpr (Ne.symm (Nat.ne_of_lt I.big))) (Nat.zero_le _) .nil (Heap.DictOfH.new s.heap)), rfl, h _ (I.hok.fresh (Nat.le_refl _))⟩⟩
theorem pe_nget (hu : X.A.units + 16 < cLine) (ho : PE X o td) (hi : PE X i ty) (hs : NoSl i) : PE X (.Subscript o i pos) (tNGet X.prog X.w X.K td ty) := by
  refine ⟨fun pins s σ H Q I h => ?_⟩
  refine subD_of PySem.F.slot_dict_getitem.lookup hs (thn (ho.run pins s σ H _ I h) fun u s1 ⟨x, H1, I1, rx, q1⟩ => thn (hi.run pins s1 σ H1 _ I1 q1) fun iv s2 ⟨y, H2, I2, ry, a, b, kvs, k, v, ex, ey, d, hk, hv, q2⟩ => ?_)
  subst ex ey
  obtain rfl : u = Value.ref a := rx
  obtain rfl : iv = Value.ref b := ry
  exact ⟨(nd_typeIs I2 d).1, nd_getItem hu I2 d hk hv fun w' s3 I3 rw' => ⟨v, H2, I3, rw', q2⟩⟩
theorem pc_nin (hu : X.A.units + 16 < cLine) (hi : PE X i ty) (ho : PE X o td) : PC X .In i o (tNIn X.prog X.w X.K ty td) := by
  refine ⟨fun pins s σ H Q I h => ?_⟩
  refine thn (hi.run pins s σ H _ I h) fun iv s1 ⟨y, H1, I1, ry, q1⟩ => thn (ho.run pins s1 σ H1 _ I1 q1) fun u s2 ⟨x, H2, I2, rx, a, b, kvs, k, ex, ey, d, hk, q2⟩ => ?_
  subst ex ey
  obtain rfl : u = Value.ref a := rx
  obtain rfl : iv = Value.ref b := ry
  exact nd_in hu I2 d hk fun s3 I3 => ⟨.bl _, H2, I3, rfl, q2⟩
theorem pc_nnotin (hu : X.A.units + 16 < cLine) (hi : PE X i ty) (ho : PE X o td) : PC X .NotIn i o (tNNotIn X.prog X.w X.K ty td) := by
  refine ⟨fun pins s σ H Q I h => ?_⟩
  refine thn (hi.run pins s σ H _ I h) fun iv s1 ⟨y, H1, I1, ry, q1⟩ => thn (ho.run pins s1 σ H1 _ I1 q1) fun u s2 ⟨x, H2, I2, rx, a, b, kvs, k, ex, ey, d, hk, q2⟩ => ?_
  subst ex ey
  obtain rfl : u = Value.ref a := rx
  obtain rfl : iv = Value.ref b := ry
  exact nd_notIn hu I2 d hk fun s3 I3 => ⟨.bl _, H2, I3, rfl, q2⟩
theorem ps_nput (hu : X.A.units + 16 < cLine) (ho : PE X o td) (hi : PE X i ty) (hv : PE X value tv) (hs : swapsWith value (some (.Subscript o i pos')) pos.line X.env = pure false) :
    PS X (.Assign [.Subscript o i pos'] value pos) (sNPut X.prog X.w X.K td ty tv) := by
  refine ⟨fun pins s σ H D I h => ?_⟩
  refine wpAny_Assign_Subscript (thn (hv.run pins s σ H _ I h) fun r s1 ⟨v, H1, I1, rv, q1⟩ => thn (ho.run pins s1 σ H1 _ I1 q1) fun u s2 ⟨x, H2, I2, rx, q2⟩ => thn (hi.run pins s2 σ H2 _ I2 q2) fun iv s3 ⟨y, H3, I3, ry, a, b, kvs, k, ex, ey, d, hk, hl, q3⟩ => ?_) hs
  subst ex ey
  obtain rfl : u = Value.ref a := rx
  obtain rfl : iv = Value.ref b := ry
  exact nd_setItem hu I3 d hk rv hl fun s4 I4 => ⟨σ, _, I4, q3⟩
theorem pe_nsetd (hu : X.A.units + 16 < cLine) (ho : PE X o td) (he : PE X e ty) (hf : PE X f tv) (m : M2 X o "setdefault" apos e f cpos) : PE X (.Call (.Attribute o "setdefault" apos) [e, f] [] cpos) (tNSetd X.prog X.w X.K td ty tv) := by
  refine ⟨fun pins s σ H Q I h => ?_⟩
  refine wpAny_Call_method m.base m.few m.line PySem.F.plainAttrs_dict PySem.F.slot_dict_setdefault PySem.F.type_dict_setdefault (thn (ho.run pins s σ H _ I h) fun u s1 ⟨x, H1, I1, rx, a, kvs1, ex, d1, q1⟩ => ?_)
  subst ex
  obtain rfl : u = Value.ref a := rx
  obtain ⟨t1, t2⟩ := nd_typeIs I1 d1
  refine ⟨t1, t2, ?_⟩
  rw [m.trees]
  refine Calls.callWith_builtin rfl (Calls.evalArgs_plain (Calls.spliced_cons (thn (he.run pins s1 σ H1 _ I1 q1) fun iv s2 ⟨y, H2, I2, ry, q2⟩ =>
    Calls.spliced_cons (thn (hf.run pins s2 σ H2 _ I2 q2) fun fv s3 ⟨z, H3, I3, rz, b, kvs, k, ey, d, hk, hl, q3, q4⟩ => Calls.spliced_nil ?_))))
  subst ey
  obtain rfl : iv = Value.ref b := ry
  exact nd_setdefault hu I3 d hk rz hl (fun x w' s4 hx I4 rw' => ⟨x, H3, I4, rw', q3 x hx⟩) fun s4 hn I4 => ⟨z, _, I4, rz, q4 hn⟩
theorem pe_nget1 (hu : X.A.units + 16 < cLine) (ho : PE X o td) (he : PE X e ty) (m : M1 X o "get" apos e cpos) : PE X (.Call (.Attribute o "get" apos) [e] [] cpos) (tNGet1 X.prog X.w X.K td ty) := by
  refine ⟨fun pins s σ H Q I h => ?_⟩
  refine wpAny_Call_method m.base m.few m.line PySem.F.plainAttrs_dict PySem.F.slot_dict_get PySem.F.type_dict_get (thn (ho.run pins s σ H _ I h) fun u s1 ⟨x, H1, I1, rx, a, kvs1, ex, d1, q1⟩ => ?_)
  subst ex
  obtain rfl : u = Value.ref a := rx
  obtain ⟨t1, t2⟩ := nd_typeIs I1 d1
  refine ⟨t1, t2, ?_⟩
  rw [m.trees]
  refine Calls.callWith_builtin rfl (Calls.evalArgs_plain (Calls.spliced_cons (thn (he.run pins s1 σ H1 _ I1 q1) fun iv s2 ⟨y, H2, I2, ry, b, kvs, k, ey, d, hk, q2⟩ => Calls.spliced_nil ?_)))
  subst ey
  obtain rfl : iv = Value.ref b := ry
  exact nd_get1 hu I2 d hk fun w' s4 I4 rw' => ⟨_, H2, I4, rw', q2⟩
theorem pe_nget2 (hu : X.A.units + 16 < cLine) (ho : PE X o td) (he : PE X e ty) (hf : PE X f tv) (m : M2 X o "get" apos e f cpos) : PE X (.Call (.Attribute o "get" apos) [e, f] [] cpos) (tNGet2 X.prog X.w X.K td ty tv) := by
  refine ⟨fun pins s σ H Q I h => ?_⟩
  refine wpAny_Call_method m.base m.few m.line PySem.F.plainAttrs_dict PySem.F.slot_dict_get PySem.F.type_dict_get (thn (ho.run pins s σ H _ I h) fun u s1 ⟨x, H1, I1, rx, a, kvs1, ex, d1, q1⟩ => ?_)
  subst ex
  obtain rfl : u = Value.ref a := rx
  obtain ⟨t1, t2⟩ := nd_typeIs I1 d1
  refine ⟨t1, t2, ?_⟩
  rw [m.trees]
  refine Calls.callWith_builtin rfl (Calls.evalArgs_plain (Calls.spliced_cons (thn (he.run pins s1 σ H1 _ I1 q1) fun iv s2 ⟨y, H2, I2, ry, q2⟩ =>
    Calls.spliced_cons (thn (hf.run pins s2 σ H2 _ I2 q2) fun fv s3 ⟨z, H3, I3, rz, b, kvs, k, ey, d, hk, q3⟩ => Calls.spliced_nil ?_))))
  subst ey
  obtain rfl : iv = Value.ref b := ry
  exact nd_get2 hu I3 d hk rz fun w' s4 I4 rw' => ⟨_, H3, I4, rw', q3⟩
end
end NB

/-! tuples that are known to have no dict of their own; dict(t) of such a tuple of pairs -/
namespace NB
open PySem PySem.Spec PyProof.Rows L2
/-- at a: the tuple xs, which has no dict of its own -/
def PlT (K : PySem.W.Frag) (H : Hp) (a : Addr) (xs : List V) : Prop :=
  (∃ o : Obj, o.cls = .type "tuple" ∧ o.dict = none ∧ H a = some (.frz o (.tup xs))) ∨
    ∃ (o : Obj) (its : Array Value) (n : Nat), K.lookup a = some o ∧ o.cls = .type "tuple" ∧ o.dict = none ∧ o.data = .seq its n ∧ its.size ≤ sizeLine ∧ Vals xs its.toList
theorem PlT.sq {K : PySem.W.Frag} {H : Hp} {a : Addr} {xs : List V} (h : PlT K H a xs) : SqT K H a xs := by
  rcases h with ⟨o, _, _, h⟩ | ⟨o, its, n, h1, h2, h3, h4, h5, h6⟩
  · exact .inl (.inr ⟨o, h⟩)
  · exact .inr ⟨o, its, n, h1, h2, h4, h5, h6⟩
theorem PlT.same {K : PySem.W.Frag} {H H' : Hp} {a : Addr} {xs : List V} (h : PlT K H a xs) (e : ∀ b o u, H b = some (.frz o u) → H' b = some (.frz o u)) : PlT K H' a xs := by
  rcases h with ⟨o, h1, h2, h⟩ | h
  · exact .inl ⟨o, h1, h2, e _ _ _ h⟩
  · exact .inr h
section
variable {X : Cx} {pins : List (Addr × Obj)} {σ : L2.St} {H : Hp} {s : Shared}
theorem PlT.at_ (I : Inv X pins σ H s) {a : Addr} {xs : List V} (h : PlT X.K H a xs) : ∃ its : List Value, Vals xs its ∧ PySem.PlainSeq "tuple" s.heap a its.toArray ∧ xs.length ≤ sizeLine := by
  rcases h with ⟨o, h1, h2, h⟩ | ⟨o, its, n, hk, h2, h3, h4, h5, h6⟩
  · obtain ⟨e, z, its, r, o', e', c', n', d'⟩ := (show ObjOk X.prog X.w H s.heap a (.frz o (.tup xs)) from I.hok a _ h)
    rw [e] at e'
    cases e'
    exact ⟨its, r, ⟨o, n', e, h1, h2, d'⟩, z⟩
  · refine ⟨its.toList, h6, ⟨o, n, I.kIn a o hk, h2, h3, by simpa using h4⟩, ?_⟩
    have e := h6.length
    simp only [Array.length_toList] at e
    omega
/-- tuple(xs), xs a list -/
theorem call_tupleZ : CallR X (.type "tuple") (fun xs H Q => ∃ p ys, xs = [.ref p] ∧ SqL X.K H p ys ∧ ∀ l o, o.cls = Value.type "tuple" → o.dict = none → H l = none → Q (.ref l) (upd H l (.frz o (.tup ys)))) := by
  intro pins s σ H xs us Q I r h
  obtain ⟨p, ys, rfl, hq, q⟩ := h
  obtain ⟨u, rfl, rx⟩ := vals1 r
  cases rx
  obtain ⟨its, r', pl, hz⟩ := I.list hq
  have hlen := r'.length
  refine call_tuple_list pl.isList (fun h' kp => ?_) (by simp only [List.size_toArray] <;> omega)
  have I1 : Inv X pins σ H { s with heap := h' } := I.kept (t' := s.toks) kp
  have hg : (h'.push { cls := .type "tuple", data := .seq its.toArray }).get? h'.objs.size = some { cls := .type "tuple", data := .seq its.toArray } := Heap.get?_push_size _ rfl
  have I2 : Inv X pins σ (upd H h'.objs.size (.frz { cls := .type "tuple", data := .seq its.toArray } (.tup ys))) { s with heap := h'.push { cls := .type "tuple", data := .seq its.toArray } } :=
    I1.laid (t' := s.toks) (fun b o e => Heap.get?_push_of_some _ e) (Nat.le_refl _) (show ObjOk X.prog X.w _ _ _ (.frz _ (.tup ys)) from ⟨hg, hz, its, r', IsTup.new _ _⟩)
  exact ⟨.ref h'.objs.size, _, I2, rfl, q _ _ rfl rfl (I1.hok.fresh (Nat.le_refl _))⟩
def tTupZ (t : TA) : TE := fun σ H Q => t σ H fun xs H1 => xs.length ≤ sizeLine ∧ ∀ l o, o.cls = Value.type "tuple" → o.dict = none → H1 l = none → Q (.ref l) (upd H1 l (.frz o (.tup xs)))
theorem pe_tupZ {es : List Expr} {t : TA} {x1 : Nat} {pos : Pos} (h : PA X es t) : PE X (.Tuple es x1 pos) (tTupZ t) := by
  refine ⟨fun pins s σ H Q I hq => ?_⟩
  refine wpAny_Tuple_spliced (thn (h.run pos pins s σ H _ I hq) fun us s1 ⟨xs, H1, I1, r, z, q⟩ => ⟨by rw [← r.length]; exact z, ?_⟩)
  have hg : (s1.heap.push { cls := .type "tuple", data := .seq us.toArray }).get? s1.heap.objs.size = some { cls := .type "tuple", data := .seq us.toArray } := Heap.get?_push_size _ rfl
  exact ⟨.ref s1.heap.objs.size, upd H1 s1.heap.objs.size (.frz { cls := .type "tuple", data := .seq us.toArray } (.tup xs)), I1.laid (t' := s1.toks) (fun b u e => Heap.get?_push_of_some _ e) (Nat.le_refl _) ⟨hg, z, us, r, ⟨_, hg, rfl, _, rfl⟩⟩, rfl, q _ _ rfl rfl (I1.hok.fresh (Nat.le_refl _))⟩
/-- dict(t), t a tuple of pairs -/
theorem call_dictT (hcalm : X.calm = true) : CallR X (.type "dict") (fun xs H Q => ∃ (a : Addr) (ps : List Addr) (kvs : List (Key × V)), xs = [.ref a] ∧ PlT X.K H a (ps.map V.ref) ∧ Paired (fun p kv => SqT X.K H p [kV kv.1, kv.2]) ps kvs ∧
    ∀ p, H p = none → Q (.ref p) (upd H p (.dK (mergeK [] kvs)))) := by
  intro pins s σ H xs us Q I r q
  obtain ⟨a, ps, kvs, ex, hq, hp, q⟩ := q
  subst ex
  obtain ⟨u, eu, rx⟩ := vals1 r
  subst eu
  cases rx
  obtain ⟨its, rv, pl, hz⟩ := PlT.at_ I hq
  have ei := refs_at rv
  subst ei
  rw [List.length_map] at hz
  obtain ⟨prs, rel, hl, hpr⟩ := pairs_of I hp
  -- the pairs by their values: the keys' own values stand in the tuples
  have hkeys : ∀ j : Nat, ∃ u : Value, ∀ q : Key × Value, prs[j]? = some q → ∃ b : Addr, ps[j]? = some b ∧ IsTup s.heap b #[u, q.2] ∧ keyIs q.1 u = true := fun j => by
    cases e : prs[j]? with
    | none => exact ⟨.none, fun q h => by cases h⟩
    | some q =>
      obtain ⟨b, u, e1, e2, e3⟩ := hpr j q e
      exact ⟨u, fun q' h => by cases h; exact ⟨b, e1, e2, e3⟩⟩
  obtain ⟨kf, hkf⟩ : ∃ kf : Nat → Value, ∀ (j : Nat) (q : Key × Value), prs[j]? = some q → ∃ b : Addr, ps[j]? = some b ∧ IsTup s.heap b #[kf j, q.2] ∧ keyIs q.1 (kf j) = true := ⟨fun j => (hkeys j).choose, fun j => (hkeys j).choose_spec⟩
  let vps : List (Value × Value) := (List.range prs.length).map fun j => (kf j, ((prs[j]?).map (·.2)).getD .none)
  have hvl : vps.length = prs.length := by simp [vps]
  have hv : ∀ j k v, vps[j]? = some (k, v) → ∃ q, prs[j]? = some q ∧ k = kf j ∧ v = q.2 := fun j k v e => by
    have hj : j < prs.length := by
      rw [← hvl]
      exact (List.getElem?_eq_some_iff.mp e).1
    simp only [vps, List.getElem?_map, List.getElem?_range hj, Option.map_some, Option.some.injEq, Prod.mk.injEq] at e
    obtain ⟨q, hq⟩ : ∃ q, prs[j]? = some q := ⟨_, List.getElem?_eq_getElem hj⟩
    rw [hq] at e
    exact ⟨q, hq, e.1.symm, e.2.symm⟩
  let Ts : Nat → Addr := fun j => (ps[j]?).getD 0
  have items : PySem.PairItems s.heap (ps.map Value.ref).toArray Ts vps := by
    refine ⟨by rw [List.size_toArray, List.length_map, hvl, hl], fun j k v e => ?_⟩
    obtain ⟨q, hq, rfl, rfl⟩ := hv j k v e
    obtain ⟨b, hb, ht, _⟩ := hkf j q hq
    have eT : Ts j = b := by simp [Ts, hb]
    rw [eT]
    exact ⟨by simp [hb], .inl ht⟩
  have P := PySem.PairArg.tuple (prog := X.prog) (w := X.w) a (ps.map Value.ref).toArray Ts vps
  refine PySem.call_dict_pairs (knd := mixKind X.prog X.w) (kvs := prs) P (I.ok.hd hcalm) ⟨pl, items⟩ ⟨hvl.symm, fun i key v hrel => ?_⟩ (by rw [hvl, hl]; exact hz) fun h' tk hd' k => ?_
  · obtain ⟨q, hq, rfl, rfl⟩ := hv i key v hrel
    obtain ⟨b, hb, ht, hk⟩ := hkf i q hq
    exact ⟨q.1, hq, hk⟩
  · have hm : (s.heap.objs.size == sysModules) = false := beq_eq_false_iff_ne.mpr (Nat.ne_of_gt I.big)
    have hlen : (mergeK [] kvs).length ≤ sizeLine := by
      refine Nat.le_trans (length_mergeK kvs []) ?_
      rw [List.length_nil, Nat.zero_add, rel.length, hl]
      exact hz
    exact ⟨.ref s.heap.objs.size, upd H s.heap.objs.size (.dK (mergeK [] kvs)), I.laid (t' := tk) (fun b o e => k b o (by simp) e) (Nat.le_refl _) (show ObjOk X.prog X.w _ _ _ (.dK (mergeK [] kvs)) from ⟨hlen, hm, merged [] prs, KV.merge rel .nil, hd'⟩), rfl, q _ (I.hok.fresh (Nat.le_refl _))⟩
end
end NB

/-! for i, x in enumerate(t), t a tuple -/
namespace NB
open PySem PySem.Spec PyProof.Rows L2
theorem enum1_make {v : Value} {o : Obj} {Hq : Heap → Prop} (B : Begins v o Hq) :
    Meets (Builtin.«enumerate.__new__» ⟨[.type "enumerate", v], []⟩) (fun _ R s => Hq s.heap ∧
      R (.ok (.ret (.ref (s.heap.push o).objs.size))) { s with heap := (s.heap.push o).push { cls := .type "enumerate", data := .fields #[.none, .bool false, .ref s.heap.objs.size, rawInt 0, .none, .none] } }) :=
  .of_wp fun prog w A R s h => by
    obtain ⟨hp, g, d, tk, os⟩ := s
    obtain ⟨h1, h⟩ := h
    have hsub := sub_enumerate
    have q1 : ∀ {A' : Around} {E : Value → Shared → Prop} {Q : Value → Shared → Prop}, Q (.ref hp.objs.size) ⟨hp.push o, g, d, tk, os⟩ → wpAny (model prog w) A' (pyIter v) Q E ⟨hp, g, d, tk, os⟩ :=
      fun q => B.iter prog w _ _ ⟨hp, g, d, tk, os⟩ _ h1 q
    wp_walk using q1
    refine wpAny_stack_any fun st => wpAny_pure ?_
    split
    · rename_i c _ _ _ _ _
      cases (c == Value.type "enumerate")
      · wp_walk using q1
        exact ⟨_, rfl, h⟩
      · wp_walk using q1
        exact ⟨_, rfl, h⟩
    · wp_walk using q1
      exact ⟨_, rfl, h⟩
theorem call_enum1 {prog : Program} {w : World} {A : Around} {E : Value → Shared → Prop} {s : Shared} {v : Value} {o : Obj} {Hq : Heap → Prop} {Q : Value → Shared → Prop} (B : Begins v o Hq) (h1 : Hq s.heap)
    (h : ∀ h', IsEnum h' (s.heap.objs.size + 1) s.heap.objs.size 0 .none → h'.get? s.heap.objs.size = some o → (∀ b u, s.heap.get? b = some u → h'.get? b = some u) → Q (.ref (s.heap.objs.size + 1)) { s with heap := h' }) :
    wpAny (model prog w) A (call (.type "enumerate") [v]) Q E s := by
  refine callType_new F.called_enumerate (by decide) (F.typeCall_enumerate_1 _) (F.newCall_enumerate_1 _) (fun obj => F.args_object_init_2 obj _) F.entry_enumerate_new (enum1_make B) ⟨h1, ?_⟩
  have hz : (s.heap.push o).objs.size = s.heap.objs.size + 1 := Heap.size_push ..
  show _ ∧ _
  rw [hz]
  have he : IsEnum ((s.heap.push o).push { cls := .type "enumerate", data := .fields #[.none, .bool false, .ref s.heap.objs.size, rawInt 0, .none, .none] }) (s.heap.objs.size + 1) s.heap.objs.size 0 .none := by
    have := Heap.get?_push_size (s.heap.push o) (o := { cls := .type "enumerate", data := .fields #[.none, .bool false, .ref s.heap.objs.size, rawInt 0, .none, .none] }) rfl
    rw [hz] at this
    exact this
  exact ⟨⟨_, he, rfl⟩, h _ he (Heap.get?_push_of_some _ (Heap.get?_push_size _ B.free)) fun b u x => Heap.get?_push_of_some _ (Heap.get?_push_of_some _ x)⟩
/-- the tuple's items, each in a new pair with its number -/
def IeT (K : PySem.W.Frag) (a : Addr) : It :=
  ⟨fun i H => ∃ (xs : List V) (x : V), SqT K H a xs ∧ xs[i]? = some x, fun i H v H' => ∃ T x, v = .ref T ∧ H T = none ∧ H' = upd H T (.tup [.int (i : Nat), x]) ∧ ∀ xs, SqT K H a xs → xs[i]? = some x, fun i H => ∃ xs : List V, SqT K H a xs ∧ xs.length = i⟩
theorem turn_enumT {P : Program} {w : World} {K : PySem.W.Frag} {elts : List Expr} {kk : Nat} {tpos : Pos} (a e it : Addr) (hae : e ≠ a) (hai : a ≠ it) :
    Turn P w K (.Tuple elts kk tpos) (IeT K a) [e, it] e (fun i h => (∃ old, IsEnum h e it ((i : Nat) : Int) old) ∧ h.IsTupleIter it a i ∧ e ≠ it) where
  mem := by simp
  obj := fun i h st b hb => by
    obtain ⟨⟨old, he⟩, ⟨o, ho, hc, hd⟩, _⟩ := st
    have e' : b = e ∨ b = it := by simpa using hb
    rcases e' with z | z
    · rw [z]; exact ⟨_, he, fun v q => nomatch q⟩
    · rw [z]; exact ⟨o, ho, fun v q => by rw [hd] at q; cases q⟩
  keep := fun i h h' st k => let ⟨⟨old, he⟩, hi, hne⟩ := st; ⟨⟨old, k e (by simp) _ he⟩, hi.at fun o q => k it (by simp) o q, hne⟩
  item := by
    intro X hP hw hK hc i pins s σ H E I hf st hg
    subst hP hw hK
    obtain ⟨⟨old, he⟩, hit, hne⟩ := st
    obtain ⟨xs, x, hq, hx⟩ := hg
    obtain ⟨its, rv, p, hz⟩ := I.tuple hq
    obtain ⟨u, hu, ru⟩ := rv.get hx
    have hel : e < s.heap.objs.size := Heap.lt_size he
    have hil : it < s.heap.objs.size := by obtain ⟨_, q, _⟩ := hit; exact Heap.lt_size q
    have hlt : i < its.toArray.size := by
      rw [List.size_toArray]
      exact (List.getElem?_eq_some_iff.mp hu).1
    have D := Draws.tuple (prog := X.prog) (w := X.w) (A := X.A.in1) (show X.A.in1.handled = none from I.ok.hd hc) it a hai its.toArray
    refine wpAny_pyNext_enum_itemC D he ⟨hit, p⟩ hlt hne (by simp [hne, hae]) fun u' h' tk hP ho hSt hT hsz hk => ?_
    have eu : u' = u := by
      have : its.toArray[i]? = some u := by simpa using hu
      rw [this] at hP
      exact (Option.some.inj hP).symm
    subst eu
    refine ⟨_, rfl, wpAny_letOwnedTupleGo_enum (s := { s with heap := h', toks := tk + 1 }) ho fun h'' he' sb => ?_⟩
    have hT2 : h''.get? s.heap.objs.size = some { cls := .type "tuple", data := .seq #[.int i tk, u'] } := (sb.2 _ (Nat.ne_of_gt hel)).trans hT
    have new : ObjOk X.prog X.w (upd H s.heap.objs.size (.tup [.int (i : Nat), x])) h'' s.heap.objs.size (.tup [.int (i : Nat), x]) :=
      ⟨by show 2 ≤ sizeLine; decide, [.int i tk, u'], .cons ⟨_, rfl⟩ (.cons ru .nil), ⟨_, hT2, rfl, _, rfl⟩⟩
    have I1 : Inv X pins σ (upd H s.heap.objs.size (.tup [.int (i : Nat), x])) { s with heap := h'', toks := tk + 1 } :=
      I.turnedNew (ch := [e, it]) (fun b ob hb q => (sb.2 b (fun z => hb (by simp [z]))).trans (hk b ob (fun z => hb (by simp [z])) (fun z => hb (by simp [z])) q)) hf (Nat.le_refl _) new
    refine ⟨.ref s.heap.objs.size, _, I1, rfl, ⟨_, x, rfl, I.hok.fresh (Nat.le_refl _), rfl, fun ys hy => by rw [I.tuple_inj hy hq]; exact hx⟩, ⟨⟨u', ?_⟩, hSt.1.at fun o q => (sb.2 it (Ne.symm hne)).trans q, hne⟩, fun b hb => ?_⟩
    · have e1 : ((i + 1 : Nat) : Int) = (i : Int) + 1 := by omega
      rw [e1]; exact he'
    · have hb' : b < s.heap.objs.size := by
        have e' : b = e ∨ b = it := by simpa using hb
        rcases e' with z | z
        · rw [z]; exact hel
        · rw [z]; exact hil
      rw [upd_ne (Nat.ne_of_lt hb')]
      exact (hf b hb).1
  done := by
    intro X hP hw hK hc i pins s σ H E I hf st hg
    subst hP hw hK
    obtain ⟨⟨old, he⟩, hit, hne⟩ := st
    obtain ⟨xs, hq, hx⟩ := hg
    obtain ⟨its, rv, p, hz⟩ := I.tuple hq
    obtain ⟨f0, f1, f2, f3, f4, f5⟩ := hf it (by simp)
    have hl := rv.length
    have D := Draws.tuple (prog := X.prog) (w := X.w) (A := X.A.in1) (show X.A.in1.handled = none from I.ok.hd hc) it a hai its.toArray
    have hi : its.toArray.size = i := by
      rw [List.size_toArray]
      omega
    refine wpAny_pyNext_enum_endD D he (by rw [hi]; exact ⟨hit, p⟩) fun h' eb => ⟨rfl, I.turned (t' := s.toks) (fun b o hb q => eb b o hb q) f0 f1 f3 f4 f5⟩
  self := fun A i s Q E st h => let ⟨⟨_, he⟩, _⟩ := st; wpAny_pyIter_enum he h
def iEnumT (K : PySem.W.Frag) (ta : TA) : TI := fun σ H R => ta σ H fun vs H1 => ∃ a xs, vs = [.ref a] ∧ SqT K H1 a xs ∧ R (IeT K a) H1
theorem pi_enumT {X : Cx} {e : Expr} {ta : TA} {p pos tpos : Pos} {elts : List Expr} {kk : Nat} (hg : Gl X "enumerate") (hm : X.mg "enumerate" = none) (ha : PA X [e] ta) (hs : starEach [e] X.env = [(false, eval e X.env)] := by rfl) :
    PI X (.Tuple elts kk tpos) (.Call (.Name "enumerate" p) [e] [] pos) (iEnumT X.K ta) := by
  refine ⟨fun pins s σ H R I h => ?_⟩
  refine Call_ (ld_blt I hg hm boot_enumerate (PyProof.Rows.callWith_type1 (thn (ha.run pos pins s σ H _ I h) fun us s1 ⟨vs, H1, I1, r1, q1⟩ => ?_) hs rfl))
  obtain ⟨a, xs, ex, hq, q⟩ := q1
  subst ex
  cases r1 with
  | cons r rr =>
    cases rr
    cases r
    obtain ⟨its, rv, p', hz⟩ := I1.tuple hq
    have hal : a < s1.heap.objs.size := p'.lt
    refine call_enum1 (begins_tuple a its.toArray) p' fun h' he hit hk => wpAny_pyIter_enum he ?_
    have I2 : Inv X pins σ H1 { s1 with heap := h' } := I1.kept (t' := s1.toks) hk
    refine ⟨s1.heap.objs.size + 1, [s1.heap.objs.size + 1, s1.heap.objs.size], _, _, H1, rfl, I2, turn_enumT a (s1.heap.objs.size + 1) s1.heap.objs.size (Nat.ne_of_gt (Nat.lt_succ_of_lt hal)) (Nat.ne_of_lt hal), ⟨⟨.none, he⟩, ⟨_, hit, rfl, rfl⟩, Nat.succ_ne_self _⟩, fun b hb => ?_, q⟩
    have e' : b = s1.heap.objs.size + 1 ∨ b = s1.heap.objs.size := by simpa using hb
    have hle : s1.heap.objs.size ≤ b := by
      rcases e' with z | z
      · rw [z]; exact Nat.le_add_right _ _
      · rw [z]; exact Nat.le_refl _
    exact I1.fpOk hle (I1.hok.fresh hle)
end NB

/-! t[::-1], t[:0:-1] of a tuple -/
namespace NB
open PySem PySem.Spec PyProof.Rows L2 HT
section
variable {prog : Program} {w : World} {A : Around} {E : Value → Shared → Prop} {s : Shared}
/-- how many are left out ahead: t[::-1] none, t[:0:-1] the first -/
def backHi : Nat → Option Int
  | 0 => none
  | _ + 1 => some 0
theorem adjust_back {c n : Nat} (hc : c ≤ 1) (hn : c ≤ n) : Builtin.Slice.sliceAdjust none (backHi c) (-1) (n : Int) = ((n : Int) - 1, (c : Int) - 1) := by
  unfold Builtin.Slice.sliceAdjust
  match c, hc with
  | 0, _ => simp [backHi]
  | 1, _ =>
    simp [backHi]
    omega
theorem places_back {c n : Nat} (hn : c ≤ n) : Builtin.Slice.slicePlaces ((n : Int) - 1) ((c : Int) - 1) (-1) = n - c := by
  unfold Builtin.Slice.slicePlaces
  have h1 : ¬ ((-1 : Int) > 0) := by omega
  simp only [h1, if_false]
  have e : (- -1 : Int) = 1 := by decide
  rw [e, Int.ediv_one]
  split <;> omega
theorem applied_back {sl : Addr} {vu vc : Value} {c n : Nat} {Q : Int × Int × Nat → Shared → Prop} (hs : s.heap.IsSliceOf sl .none vu vc) (pu : IsPart vu (backHi c)) (pc : IsPart vc (some (-1))) (hc : c ≤ 1) (hn : c ≤ n)
    (h : Q ((n : Int) - 1, -1, n - c) s) : wpAny (model prog w) A (Builtin.Slice.sliceApplied (.ref sl) (pure (n : Int))) Q E s := by
  obtain ⟨os, hos, hcs, hds⟩ := id hs
  unfold Builtin.Slice.sliceApplied Builtin.Slice.sliceFields
  refine wpAny_bind (wpAny_bind (wpAny_field hos hds (x := .none) rfl (wpAny_bind (wpAny_field hos hds (x := vu) rfl (wpAny_bind (wpAny_field hos hds (x := vc) rfl (wpAny_pure ?_)))))))
  refine wpAny_bind (slicePart_ pc ?_)
  show wpAny _ _ (if ((-1 : Int) == 0) = true then _ else _) _ _ s
  rw [if_neg (by decide)]
  refine wpAny_bind (slicePart_none (wpAny_bind (slicePart_ pu (wpAny_bind (wpAny_pure ?_)))))
  show wpAny _ _ (match Builtin.Slice.sliceAdjust none (backHi c) (-1) (n : Int) with | (lo, hi) => pure (lo, (-1 : Int), Builtin.Slice.slicePlaces lo hi (-1))) _ _ s
  rw [adjust_back hc hn]
  show wpAny _ _ (pure (((n : Int) - 1), (-1 : Int), Builtin.Slice.slicePlaces ((n : Int) - 1) ((c : Int) - 1) (-1))) _ _ s
  rw [places_back hn]
  exact wpAny_pure h
theorem fmap_some {α β : Type} {f : α → Option β} {g : α → β} : ∀ {l : List α}, (∀ m ∈ l, f m = some (g m)) → l.filterMap f = l.map g
  | [], _ => rfl
  | a :: l, h => by
    rw [List.filterMap_cons, h a (List.mem_cons_self ..), List.map_cons]
    exact congrArg (List.cons (g a)) (fmap_some fun m hm => h m (List.mem_cons_of_mem _ hm))
theorem pick_back (xs : Array Value) (c : Nat) (hc : c ≤ xs.size) : ((List.range (xs.size - c)).filterMap fun (m : Nat) => xs[(((xs.size : Int) - 1) + (m : Int) * (-1)).toNat]?) = (xs.toList.drop c).reverse := by
  apply List.ext_getElem?
  intro i
  have e : ((List.range (xs.size - c)).filterMap fun (m : Nat) => xs[(((xs.size : Int) - 1) + (m : Int) * (-1)).toNat]?) = (List.range (xs.size - c)).map fun m => xs.toList.getD (xs.size - 1 - m) .none := by
    refine fmap_some fun m hm => ?_
    have hm' := List.mem_range.mp hm
    have z : (((xs.size : Int) - 1) + (m : Int) * (-1)).toNat = xs.size - 1 - m := by omega
    rw [z]
    have hl : xs.size - 1 - m < xs.size := by omega
    simp [hl]
  rw [e]
  by_cases hi : i < xs.size - c
  · have h2 : i < (xs.toList.drop c).length := by simp; omega
    rw [List.getElem?_map, List.getElem?_range hi, List.getElem?_reverse (by simpa using hi)]
    simp
    have h3 : xs.size - 1 - i < xs.size := by omega
    have h4 : c + (xs.size - c - 1 - i) = xs.size - 1 - i := by omega
    rw [h4]
    simp [h3]
  · rw [List.getElem?_eq_none_iff.mpr (by simp; omega), List.getElem?_eq_none_iff.mpr (by simp; omega)]
theorem getItem_back {t sl : Addr} {items : Array Value} {vu vc : Value} {c : Nat} {Q : Value → Shared → Prop} (ht : IsTup s.heap t items) (hs : s.heap.IsSliceOf sl .none vu vc) (pu : IsPart vu (backHi c)) (pc : IsPart vc (some (-1)))
    (hc : c ≤ 1) (hn : c ≤ items.size) (h : Q (.ref s.heap.objs.size) { s with heap := s.heap.push { cls := .type "tuple", data := .seq (items.toList.drop c).reverse.toArray } }) (hsz : items.size ≤ sizeLine) : wpAny (model prog w) A (getItem (.ref t) (.ref sl)) Q E s := by
  have htake : sizeOk (.seq (items.toList.drop c).reverse.toArray) := by
    show (items.toList.drop c).reverse.toArray.size ≤ sizeLine
    rw [List.size_toArray, List.length_reverse, List.length_drop, Array.length_toList]
    omega
  obtain ⟨os, hos, hcs, hds⟩ := id hs
  have hTs : s.TypeIs (.ref sl) "slice" := ⟨os, hos, hcs⟩
  unfold getItem
  try with_reducible refine wpAny_holding ?_
  first | refine wpAny_bind (wpAny_pure ?_) | skip
  refine wpAny_bind (wpAny_sequenceKey ht.typeIs (by decide) ?_)
  refine wpAny_bind (wpAny_callSpecial?_slot (name := Str.ofString "__getitem__") ht.typeIs PyProof.Rows.slot_tuple_getitem
    (wpAny_call_entry PyProof.Rows.slot_tuple_getitem ht.typeIs entry_tuple_getitem ?_ (args_tuple_getitem _ _)))
  show wpAny _ _ (Builtin.Tuple.tupleItemsOf (.ref t) >>= _) _ _ s
  refine wpAny_bind (tupleItemsOf_ ht ?_)
  refine wpAny_bind (wpAny_typeOf hTs ?_)
  rw [if_pos (by decide)]
  refine wpAny_bind (applied_back hs pu pc hc hn ?_)
  have hno : ¬ ((((items.size : Int) - 1) == 0 && (-1 : Int) == 1 && (items.size - c) == items.size) = true) := by
    rw [show ((-1 : Int) == 1) = false by decide, Bool.and_false, Bool.false_and]
    exact Bool.false_ne_true
  show wpAny _ _ (if (((items.size : Int) - 1) == 0 && (-1 : Int) == 1 && (items.size - c) == items.size) = true then _ else _) _ _ s
  rw [if_neg hno, pick_back items c hn]
  first
    | exact wpAny_bind (m := Builtin.Tuple.tupleExact _) (wpAny_newObj_type (wpAny_pure ⟨_, rfl, wpAny_pure h⟩) htake)
    | exact wpAny_bind (m := Builtin.Tuple.tupleExact _) (wpAny_newObj_type (wpAny_bind (wpAny_pure (wpAny_pure ⟨_, rfl, wpAny_pure h⟩))) htake)
    | exact wpAny_bind (wpAny_bind (m := Builtin.Tuple.tupleExact _) (wpAny_newObj_type (wpAny_pure (wpAny_pure ⟨_, rfl, wpAny_pure h⟩)) htake))
    | exact wpAny_bind (wpAny_bind (m := Builtin.Tuple.tupleExact _) (wpAny_newObj_type (wpAny_pure ⟨_, rfl, wpAny_pure h⟩) htake))
end
/-- t[::-1] (c = 0), t[:0:-1] (c = 1) -/
def tBack (K : PySem.W.Frag) (c : Nat) (te : TE) : TE := fun σ H Q => te σ H fun x H1 => ∃ a xs, x = .ref a ∧ SqT K H1 a xs ∧ c ≤ xs.length ∧ ∀ p, H1 p = none → Q (.ref p) (upd H1 p (.tup (xs.drop c).reverse))
section
variable {X : Cx}
theorem back_fin {pins : List (Addr × Obj)} {s : Shared} {σ : L2.St} {H : Hp} {a : Addr} {xs : List V} {vu vc : Value} {c : Nat} {Q : VK} (I : Inv X pins σ H s) (hx : SqT X.K H a xs) (pu : IsPart vu (backHi c)) (pc : IsPart vc (some (-1))) (hc : c ≤ 1) (hn : c ≤ xs.length)
    (q : ∀ p, H p = none → Q (.ref p) (upd H p (.tup (xs.drop c).reverse))) {value slice : Expr} {ops : List Value}
    (hw : subscripted slice false (.ref a) (.ref s.heap.objs.size) = operate ops (getItem (.ref a) (.ref s.heap.objs.size)))  :
    wpAny (model X.prog X.w) X.A (subscriptTail value slice (.ref a) (.ref s.heap.objs.size)) (EP X pins σ Q) X.xe { s with heap := s.heap.push { cls := .type "slice", data := .fields #[.none, vu, vc] } } := by
  have I5 : Inv X pins σ H { s with heap := s.heap.push { cls := .type "slice", data := .fields #[.none, vu, vc] } } := I.kept (t' := s.toks) fun b ob q => Heap.get?_push_of_some _ q
  obtain ⟨its, r, ht, hz⟩ := I5.tuple hx
  have hlen : its.toArray.size = xs.length := by rw [List.size_toArray]; exact r.length.symm
  refine tail_any (ops := ops) ht.typeIs (PyProof.Rows.slot_tuple_getitem.lookup) ?_ hw
  refine getItem_back ht (Heap.IsSliceOf.new _ _ vu vc) pu pc hc (by rw [hlen]; exact hn) ?_ (by rw [hlen]; exact hz)
  refine ⟨.ref _, _, I5.laid (t' := s.toks) (o := .tup (xs.drop c).reverse) (fun b ob q => Heap.get?_push_of_some _ q) (Nat.le_refl _) ?_, rfl, q _ (I5.hok.fresh (Nat.le_refl _))⟩
  refine ⟨?_, _, (r.drop c).reverse, IsTup.new _ _⟩
  rw [List.length_reverse, List.length_drop]
  omega
theorem pe_back0 {e : Expr} {te : TE} {k : Nat} {p1 p2 p3 pos : Pos} (he : PE X e te) : PE X (.Subscript e (.Slice none none (some (.UnaryOp .USub (.Constant (.int 1) k p1) p2)) p3) pos) (tBack X.K 0 te) := by
  refine ⟨fun pins s σ H Q I h => ?_⟩
  refine Subscript_ (thn (he.run pins s σ H _ I h) fun v s1 ⟨x, H1, I1, r1, q1⟩ => ?_)
  obtain ⟨a, xs, ex, hx, hn, q⟩ := q1
  subst ex
  cases r1
  have hst : PO X (some (.UnaryOp .USub (.Constant (.int 1) k p1) p2)) (tPart (tUn (rU fun i => .int (-i)) (tC (.int 1)))) := po_some (pe_un un_neg pe_int)
  refine wpAny_Slice (thn (po_none.run pins s1 σ H1 (fun o H2 => o = none ∧ H2 = H1) I1 ⟨rfl, rfl⟩) fun vl s2 ⟨l, H2, I2, pl, el, e2⟩ => ?_)
  subst el e2
  refine thn (po_none.run pins s2 σ H2 (fun o H3 => o = none ∧ H3 = H2) I2 ⟨rfl, rfl⟩) fun vu s3 ⟨u, H3, I3, pu, eu, e3⟩ => ?_
  subst eu e3
  refine thn (hst.run pins s3 σ H3 (fun o H4 => o = some (-1) ∧ H4 = H3) I3 ⟨1, rfl, -1, rfl, rfl, rfl⟩) fun vs s4 ⟨o, H4, I4, ps, eo, e4⟩ => ?_
  subst eo e4
  cases pl
  exact back_fin (ops := [.ref a, .ref s4.heap.objs.size]) I4 hx pu ps (Nat.zero_le _) hn q (by with_unfolding_all rfl)
theorem pe_back1 {e : Expr} {te : TE} {k j : Nat} {p0 p1 p2 p3 pos : Pos} (he : PE X e te) : PE X (.Subscript e (.Slice none (some (.Constant (.int 0) j p0)) (some (.UnaryOp .USub (.Constant (.int 1) k p1) p2)) p3) pos) (tBack X.K 1 te) := by
  refine ⟨fun pins s σ H Q I h => ?_⟩
  refine Subscript_ (thn (he.run pins s σ H _ I h) fun v s1 ⟨x, H1, I1, r1, q1⟩ => ?_)
  obtain ⟨a, xs, ex, hx, hn, q⟩ := q1
  subst ex
  cases r1
  have hst : PO X (some (.UnaryOp .USub (.Constant (.int 1) k p1) p2)) (tPart (tUn (rU fun i => .int (-i)) (tC (.int 1)))) := po_some (pe_un un_neg pe_int)
  have hu0 : PO X (some (.Constant (.int 0) j p0)) (tPart (tC (.int 0))) := po_some pe_int
  refine wpAny_Slice (thn (po_none.run pins s1 σ H1 (fun o H2 => o = none ∧ H2 = H1) I1 ⟨rfl, rfl⟩) fun vl s2 ⟨l, H2, I2, pl, el, e2⟩ => ?_)
  subst el e2
  refine thn (hu0.run pins s2 σ H2 (fun o H3 => o = some 0 ∧ H3 = H2) I2 ⟨0, rfl, rfl, rfl⟩) fun vu s3 ⟨u, H3, I3, pu, eu, e3⟩ => ?_
  subst eu e3
  refine thn (hst.run pins s3 σ H3 (fun o H4 => o = some (-1) ∧ H4 = H3) I3 ⟨1, rfl, -1, rfl, rfl, rfl⟩) fun vs s4 ⟨o, H4, I4, ps, eo, e4⟩ => ?_
  subst eo e4
  cases pl
  exact back_fin (ops := [.ref a, .ref s4.heap.objs.size]) I4 hx pu ps (Nat.le_refl _) hn q (by with_unfolding_all rfl)
end
end NB

/-! xs.extend(t), t any tuple -/
namespace NB
open PySem PySem.Spec PyProof.Rows L2
section
open PySem.AutoSeq1
set_option maxRecDepth 8000 in
theorem list_extend_tup (l : Addr) (items : Array Value) (n : Nat) (b : Addr) (db : Option Addr) (sb : Array (Option Value)) (items2 : Array Value) (n2 : Nat) (hs0 : ¬(!items.isEmpty && Builtin.List.listTooLong (items.size + items2.size)) = true) (hs1 : items.size ≤ sizeLine) (hs2 : items.size + items2.size ≤ sizeLine + 1) :
    Meets (Builtin.«list.extend» ⟨[.ref l, .ref b], []⟩) (fun _ R s => s.heap.get? l = some { cls := .type "list", dict := none, data := .seq items n, slots := #[] } ∧ s.heap.get? b = some ⟨.type "tuple", db, .seq items2 n2, sb⟩ ∧ R (.ok (.ret Value.none)) { s with heap := s.heap.update l (Obj.mapSeq fun x => x ++ items2), toks := s.toks }) :=
  .of_wp fun prog w A R s h => by
    obtain ⟨hp, g, d, tk, os⟩ := s; obtain ⟨hl, hb, h⟩ := h
    have hz' : (items ++ items2).size ≤ sizeLine + 1 := by rw [Array.size_append]; exact hs2
    wp_walk using (wpAny_updateSeq hl rfl (hz := hs1) (_hz' := hz')), wpAny_loadPart' hl, wpAny_loadPart' hb; exact ⟨_, rfl, h⟩
end
def rExtendT (K : PySem.W.Frag) : V → List V → Hp → VK → Prop := fun x vs H Q => ∃ l b xs zs, x = .ref l ∧ vs = [.ref b] ∧ H l = some (.lst xs) ∧ SqT K H b zs ∧ xs.length + zs.length ≤ sizeLine ∧ Q .non (upd H l (.lst (xs ++ zs)))
section
variable {X : Cx}
theorem mt_extendT : MtM X "list.extend" (rExtendT X.K) := by
  intro pins s σ H x vs v us Q I rx rv h
  obtain ⟨l, b, xs, zs, rfl, rfl, hH, hB, hz, q⟩ := h
  cases rx
  obtain ⟨u, rfl, ru⟩ := rv.one
  cases ru
  obtain ⟨z, its, n, r, hl, e⟩ := I.lstM hH
  obtain ⟨its2, r2, ⟨ob, ho2, hc2, n2, hd2⟩, hl2⟩ := I.tuple hB
  obtain ⟨cb, db, dd, sb⟩ := ob
  cases hc2
  cases hd2
  have e1 : its.length = xs.length := r.length.symm
  have e3 : its2.length = zs.length := r2.length.symm
  have hsz : its.toArray.size + its2.toArray.size ≤ sizeLine := by rw [List.size_toArray, List.size_toArray]; omega
  have hlong : ¬ (!its.toArray.isEmpty && Builtin.List.listTooLong (its.toArray.size + its2.toArray.size)) = true := by
    rw [notLongL hsz, Bool.and_false]
    exact Bool.false_ne_true
  refine call_meets F.slot_list_extend ⟨_, e, rfl⟩ F.entry_list_extend (F.args_list_extend_2 _ _)
    (list_extend_tup l its.toArray n b db sb its2.toArray n2 hlong (by rw [List.size_toArray]; omega) (by omega)) ⟨e, ho2, ?_⟩
  refine ⟨.non, _, I.lset (its' := its ++ its2) hH e (by simp) (r.append r2) ?_, rfl, q⟩
  rw [List.length_append]
  omega
end
end NB

/-! what stays of a heap; terms, their data -/
namespace NB
open PySem PySem.Spec PyProof.Rows L2 LamX
/-! ### what stays -/
/-- tuples stay -/
def Imm (H H' : Hp) : Prop := ∀ b xs, (H b = some (.tup xs) → H' b = some (.tup xs)) ∧ ∀ o, H b = some (.frz o (.tup xs)) → H' b = some (.frz o (.tup xs))
theorem Imm.refl (H : Hp) : Imm H H := fun _ _ => ⟨id, fun _ => id⟩
theorem Imm.trans {H H1 H2 : Hp} (a : Imm H H1) (b : Imm H1 H2) : Imm H H2 := fun c xs => ⟨fun h => (b c xs).1 ((a c xs).1 h), fun o h => (b c xs).2 o ((a c xs).2 o h)⟩
theorem Imm.of {H H' : Hp} (e : Same H H') : Imm H H' := fun b xs => ⟨fun h => e _ _ h, fun o h => e _ _ h⟩
theorem Imm.extN {H H' : Hp} (e : ExtN H H') : Imm H H' := fun b xs => ⟨fun h => e _ _ h (fun _ z => nomatch z), fun o h => e _ _ h (fun _ z => nomatch z)⟩
/-- a place that holds no tuple is written -/
theorem Imm.upd {H : Hp} {p : Addr} {o : HO} (h : (∀ xs, H p ≠ some (.tup xs)) ∧ ∀ u xs, H p ≠ some (.frz u (.tup xs))) : Imm H (upd H p o) := fun b xs => by
  by_cases e : b = p
  · subst e
    exact ⟨fun z => absurd z (h.1 xs), fun u z => absurd z (h.2 u xs)⟩
  · rw [upd_ne e]
    exact ⟨id, fun _ => id⟩
theorem Imm.new {H : Hp} {p : Addr} {o : HO} (h : H p = none) : Imm H (L2.upd H p o) := Imm.upd ⟨(fun _ z => nomatch (h.symm.trans z)), (fun _ _ z => nomatch (h.symm.trans z))⟩
theorem Imm.lst {H : Hp} {p : Addr} {xs : List V} {o : HO} (h : H p = some (.lst xs)) : Imm H (L2.upd H p o) := Imm.upd ⟨(fun _ z => nomatch (h.symm.trans z)), (fun _ _ z => nomatch (h.symm.trans z))⟩
theorem Imm.sq {K : PySem.W.Frag} {H H' : Hp} {a : Addr} {xs : List V} (i : Imm H H') (h : SqT K H a xs) : SqT K H' a xs := by
  rcases h with (h | ⟨o, h⟩) | h
  · exact .inl (.inl ((i a xs).1 h))
  · exact .inl (.inr ⟨o, (i a xs).2 o h⟩)
  · exact .inr h
theorem same_new {H : Hp} {p : Addr} {o : HO} (h : H p = none) : Same H (upd H p o) := fun b u e => by
  rw [upd_ne (ne_of_none e h)]
  exact e
/-- all but S and the tables stay -/
def Kp (S : List Addr) (H H' : Hp) : Prop := ∀ b o, H b = some o → b ∉ S → (∀ ps, o ≠ .tbl ps) → H' b = some o
theorem Kp.refl (S : List Addr) (H : Hp) : Kp S H H := fun _ _ h _ _ => h
theorem Kp.trans {S : List Addr} {H H1 H2 : Hp} (a : Kp S H H1) (b : Kp S H1 H2) : Kp S H H2 := fun c o h n t => b c o (a c o h n t) n t
theorem Kp.same {S : List Addr} {H H' : Hp} (e : Same H H') : Kp S H H' := fun b o h _ _ => e b o h
theorem Kp.extN {S : List Addr} {H H' : Hp} (e : ExtN H H') : Kp S H H' := fun b o h _ t => e b o h t
theorem Kp.mono {S S' : List Addr} {H H' : Hp} (e : Kp S H H') (s : ∀ b ∈ S, b ∈ S') : Kp S' H H' := fun b o h n t => e b o h (fun z => n (s b z)) t
theorem Kp.upd {S : List Addr} {H : Hp} {p : Addr} {o : HO} (h : p ∈ S) : Kp S H (L2.upd H p o) := fun b u e n _ => by
  have ne : b ≠ p := fun z => n (by rw [z]; exact h)
  rw [upd_ne ne]
  exact e
/-- behind H0, what S adds that H0 did not hold does not matter -/
theorem Kp.drop {S S' : List Addr} {H0 H' : Hp} (e : Kp S H0 H') (h : ∀ b ∈ S, b ∈ S' ∨ H0 b = none) : Kp S' H0 H' := fun b o hb n t => e b o hb (fun z => (h b z).elim n (fun q => by rw [q] at hb; cases hb)) t
theorem Kp.ext {H H' : Hp} (e : Kp [] H H') : ExtN H H' := fun b o h t => e b o h (fun z => nomatch z) t
/-- the places S hold lists or things told by what is true of them -/
def Mut (H : Hp) (S : List Addr) : Prop := ∀ b ∈ S, (∀ xs, H b ≠ some (.tup xs)) ∧ ∀ u xs, H b ≠ some (.frz u (.tup xs))
theorem Kp.imm {S : List Addr} {H H' : Hp} (e : Kp S H H') (m : Mut H S) : Imm H H' := fun b xs => ⟨fun h => e b _ h (fun z => (m b z).1 xs h) (fun _ z => nomatch z), fun o h => e b _ h (fun z => (m b z).2 o xs h) (fun _ z => nomatch z)⟩
structure Fr (T : List (Addr × Str)) (S : List Addr) (H H' : Hp) : Prop where
  kp : Kp S H H'
  tb : Tabs T H → Tabs T H'
theorem Fr.refl {T : List (Addr × Str)} {S : List Addr} (H : Hp) : Fr T S H H := ⟨Kp.refl S H, id⟩
theorem Fr.trans {T : List (Addr × Str)} {S : List Addr} {H H1 H2 : Hp} (a : Fr T S H H1) (b : Fr T S H1 H2) : Fr T S H H2 := ⟨a.kp.trans b.kp, fun t => b.tb (a.tb t)⟩
theorem Fr.same {T : List (Addr × Str)} {S : List Addr} {H H' : Hp} (e : Same H H') : Fr T S H H' := ⟨Kp.same e, fun t => t.ext e⟩
theorem Fr.mono {T : List (Addr × Str)} {S S' : List Addr} {H H' : Hp} (e : Fr T S H H') (s : ∀ b ∈ S, b ∈ S') : Fr T S' H H' := ⟨e.kp.mono s, e.tb⟩
theorem Fr.drop {T : List (Addr × Str)} {S S' : List Addr} {H0 H' : Hp} (e : Fr T S H0 H') (h : ∀ b ∈ S, b ∈ S' ∨ H0 b = none) : Fr T S' H0 H' := ⟨e.kp.drop h, e.tb⟩
/-- a place is written that is neither a table nor a code object -/
theorem tabs_put {T : List (Addr × Str)} {H : Hp} {p : Addr} {o : HO} (t : Tabs T H) (h1 : ∀ ps, H p ≠ some (.tbl ps)) (h2 : ∀ q, H p ≠ some (CodeO p q)) : Tabs T (upd H p o) := fun x hx => by
  obtain ⟨ps, a, b, c⟩ := t x hx
  refine ⟨ps, ?_, b, fun pos cv hc => ?_⟩
  · have n : x.1 ≠ p := fun z => h1 ps (by rw [← z]; exact a)
    rw [upd_ne n]
    exact a
  · obtain ⟨d, e1, e2⟩ := c pos cv hc
    refine ⟨d, e1, ?_⟩
    have n : d ≠ p := fun z => h2 x.2 (by rw [← z]; exact e2)
    rw [upd_ne n]
    exact e2
theorem codeO_lst {c : Addr} {q : Str} {xs : List V} : some (HO.lst xs) ≠ some (CodeO c q) := fun z => by
  unfold CodeO at z
  cases z
/-- the heap in which a code object stands at c -/
theorem codeO_not {c : Addr} {q : Str} {φ : Heap → Prop} (h : ∀ (hp : Heap) (o : Obj) (vs : Array Value), hp.get? c = some o → o.data = .fields vs → ¬ φ hp) : some (HO.ext φ) ≠ some (CodeO c q) := fun z => by
  unfold CodeO at z
  have e := HO.ext.inj (Option.some.inj z)
  let ob : Obj := { cls := .type "code", data := .fields #[.none, .str q 0] }
  let hp : Heap := { objs := (List.replicate (c + 1) ob).toArray }
  have hg : hp.get? c = some ob := by
    have e1 : hp.objs[c]? = some ob := by simp [hp]
    unfold Heap.get?
    rw [e1]
  have hq : φ hp := by
    rw [e]
    exact ⟨ob, #[.none, .str q 0], 0, hg, rfl, rfl⟩
  exact h hp ob _ hg rfl hq
theorem DN_code {P : Program} {w : World} {a : Addr} {kvs : List NE} {q : Str} : some (DN P w a kvs) ≠ some (CodeO a q) := codeO_not fun hp o vs hg hd ⟨_, _, xs, _, o', es, ep, h1, _, h2, _⟩ => by
  rw [hg] at h1
  cases h1
  rw [hd] at h2
  cases h2
theorem DN_tup {P : Program} {w : World} {a : Addr} {kvs : List NE} {xs : List V} : some (DN P w a kvs) ≠ some (.tup xs) := fun z => by
  unfold DN at z
  cases z
theorem DN_frz {P : Program} {w : World} {a : Addr} {kvs : List NE} {o : Obj} {u : HO} : some (DN P w a kvs) ≠ some (.frz o u) := fun z => by
  unfold DN at z
  cases z
theorem tabs_putL {T : List (Addr × Str)} {H : Hp} {p : Addr} {o : HO} {xs : List V} (t : Tabs T H) (h : H p = some (.lst xs)) : Tabs T (upd H p o) := tabs_put t (fun _ z => nomatch (h.symm.trans z)) (fun _ z => codeO_lst (h.symm.trans z))
theorem tabs_putN {P : Program} {w : World} {T : List (Addr × Str)} {H : Hp} {p : Addr} {o : HO} {kvs : List NE} (t : Tabs T H) (h : H p = some (DN P w p kvs)) : Tabs T (upd H p o) :=
  tabs_put t (fun _ z => by rw [h] at z; unfold DN at z; cases z) (fun _ z => DN_code (h.symm.trans z))
theorem tabs_putI {T : List (Addr × Str)} {H : Hp} {p : Addr} {o : HO} {C dx : Addr} {fs : List (Str × V)} (t : Tabs T H) (h : H p = some (.ins C dx fs)) : Tabs T (upd H p o) :=
  tabs_put t (fun _ z => nomatch (h.symm.trans z)) (fun _ z => by unfold CodeO at z; exact nomatch (h.symm.trans z))
theorem Fr.putL {T : List (Addr × Str)} {S : List Addr} {H : Hp} {p : Addr} {o : HO} {xs : List V} (h : H p = some (.lst xs)) (m : p ∈ S) : Fr T S H (upd H p o) := ⟨Kp.upd m, fun t => tabs_putL t h⟩
theorem Fr.putI {T : List (Addr × Str)} {S : List Addr} {H : Hp} {p : Addr} {o : HO} {C dx : Addr} {fs : List (Str × V)} (h : H p = some (.ins C dx fs)) (m : p ∈ S) : Fr T S H (upd H p o) := ⟨Kp.upd m, fun t => tabs_putI t h⟩
theorem Fr.putN {P : Program} {w : World} {T : List (Addr × Str)} {S : List Addr} {H : Hp} {p : Addr} {o : HO} {kvs : List NE} (h : H p = some (DN P w p kvs)) (m : p ∈ S) : Fr T S H (upd H p o) := ⟨Kp.upd m, fun t => tabs_putN t h⟩

/-! ### data without lists stay where tuples stay -/
mutual
def nl : PyData → Bool
  | .none => true
  | .bool _ => true
  | .int _ => true
  | .str _ => true
  | .tuple ds => nls ds
  | .list _ => false
  | .dict _ => false
def nls : List PyData → Bool
  | [] => true
  | d :: ds => nl d && nls ds
end
mutual
theorem Dp.imm {K : PySem.W.Frag} {H H' : Hp} (e : Imm H H') : ∀ (d : PyData) (v : V), nl d = true → Dp K H v d → Dp K H' v d
  | .none, _, _, h => by cases h; exact .non
  | .bool b, _, _, h => by cases h; exact .bl b
  | .int i, _, _, h => by cases h; exact .int i
  | .str x, _, _, h => by cases h; exact .str x
  | .list ds, _, n, h => by simp [nl] at n
  | .tuple ds, _, n, h => by
    cases h with
    | tup hs ha => exact .tup (e.sq hs) (DpAll.imm e ds _ (by simpa [nl] using n) ha)
  | .dict _, _, n, h => by simp [nl] at n
theorem DpAll.imm {K : PySem.W.Frag} {H H' : Hp} (e : Imm H H') : ∀ (ds : List PyData) (vs : List V), nls ds = true → DpAll K H vs ds → DpAll K H' vs ds
  | [], _, _, h => by cases h; exact .nil
  | d :: ds, _, n, h => by
    cases h with
    | cons h1 h2 =>
      have q := Bool.and_eq_true_iff.mp (show (nl d && nls ds) = true from n)
      exact .cons (Dp.imm e d _ q.1 h1) (DpAll.imm e ds _ q.2 h2)
end
/-- a text as data, at any heap -/
theorem Dp.tupI {K : PySem.W.Frag} {H : Hp} {a : Addr} {xs : List V} {ds : List PyData} (h : Dp K H (.ref a) (.tuple ds)) (hs : SqT K H a xs) (ha : DpAll K H xs ds) : Dp K H (.ref a) (.tuple ds) := .tup hs ha
theorem Dp.tupD {K : PySem.W.Frag} {H : Hp} {v : V} {ds : List PyData} (h : Dp K H v (.tuple ds)) : ∃ a xs, v = .ref a ∧ SqT K H a xs ∧ DpAll K H xs ds := by
  cases h with
  | tup hs ha => exact ⟨_, _, rfl, hs, ha⟩
theorem DpAll.consD {K : PySem.W.Frag} {H : Hp} {vs : List V} {d : PyData} {ds : List PyData} (h : DpAll K H vs (d :: ds)) : ∃ v ws, vs = v :: ws ∧ Dp K H v d ∧ DpAll K H ws ds := by
  cases h with
  | cons h1 h2 => exact ⟨_, _, rfl, h1, h2⟩
theorem DpAll.nilD {K : PySem.W.Frag} {H : Hp} {vs : List V} (h : DpAll K H vs []) : vs = [] := by
  cases h
  rfl
theorem Dp.strD {K : PySem.W.Frag} {H : Hp} {v : V} {x : Str} (h : Dp K H v (.str x)) : v = .str x := by
  cases h
  rfl
theorem Dp.intD {K : PySem.W.Frag} {H : Hp} {v : V} {i : Int} (h : Dp K H v (.int i)) : v = .int i := by
  cases h
  rfl
theorem DpAll.getD' {K : PySem.W.Frag} {H : Hp} : ∀ {vs : List V} {ds : List PyData} {i : Nat} {d : PyData}, DpAll K H vs ds → ds[i]? = some d → ∃ v, vs[i]? = some v ∧ Dp K H v d
  | _, _, _, _, .nil, h => by simp at h
  | _, _, 0, _, .cons h _, h2 => by
    simp at h2
    subst h2
    exact ⟨_, rfl, h⟩
  | _, _, i + 1, _, .cons _ t, h2 => by
    obtain ⟨v, h1, h3⟩ := DpAll.getD' (i := i) t (by simpa using h2)
    exact ⟨v, by simpa using h1, h3⟩
theorem DpAll.rev {K : PySem.W.Frag} {H : Hp} : ∀ {vs : List V} {ds : List PyData}, DpAll K H vs ds → DpAll K H vs.reverse ds.reverse
  | _, _, .nil => .nil
  | _, _, .cons h t => by
    rw [List.reverse_cons, List.reverse_cons]
    exact (DpAll.rev t).app (.cons h .nil)
theorem DpAll.splitD {K : PySem.W.Frag} {H : Hp} : ∀ {ds es : List PyData} {vs : List V}, DpAll K H vs (ds ++ es) → ∃ xs ys, vs = xs ++ ys ∧ DpAll K H xs ds ∧ DpAll K H ys es
  | [], _, vs, h => ⟨[], vs, rfl, .nil, h⟩
  | d :: ds, es, _, h => by
    obtain ⟨v, ws, rfl, h1, h2⟩ := DpAll.consD h
    obtain ⟨xs, ys, rfl, h3, h4⟩ := DpAll.splitD h2
    exact ⟨v :: xs, ys, rfl, .cons h1 h3, h4⟩

/-! ### terms -/
inductive Tm where
  | mk (s : Str) (ps : List Tm)
namespace Tm
def sg : Tm → Str
  | .mk s _ => s
def parts : Tm → List Tm
  | .mk _ ps => ps
mutual
def data : Tm → PyData
  | .mk s ps => .tuple (.str s :: datas ps)
def datas : List Tm → List PyData
  | [] => []
  | t :: ts => data t :: datas ts
end
mutual
/-- all terms within, a term ahead of its parts -/
def pre : Tm → List Tm
  | .mk s ps => .mk s ps :: pres ps
def pres : List Tm → List Tm
  | [] => []
  | t :: ts => pre t ++ pres ts
end
theorem datas_map : ∀ ts : List Tm, datas ts = ts.map data
  | [] => rfl
  | t :: ts => by rw [datas, List.map_cons, datas_map ts]
theorem datas_app (a b : List Tm) : datas (a ++ b) = datas a ++ datas b := by simp [datas_map]
theorem datas_rev (a : List Tm) : datas a.reverse = (datas a).reverse := by simp [datas_map]
theorem datas_len (a : List Tm) : (datas a).length = a.length := by simp [datas_map]
theorem pres_app : ∀ a b : List Tm, pres (a ++ b) = pres a ++ pres b
  | [], b => rfl
  | t :: ts, b => by rw [List.cons_append, pres, pres, pres_app ts b, List.append_assoc]
theorem pres_step (s : Str) (ps r : List Tm) : pres (.mk s ps :: r) = .mk s ps :: pres (ps ++ r) := by
  rw [pres, pre, pres_app, List.cons_append]
mutual
theorem nl_data : ∀ t : Tm, nl (data t) = true
  | .mk s ps => by rw [data, nl, nls, nl, nl_datas ps]; rfl
theorem nl_datas : ∀ ts : List Tm, nls (datas ts) = true
  | [] => rfl
  | t :: ts => by rw [datas, nls, nl_data t, nl_datas ts]; rfl
end
theorem pre_ne (t : Tm) : pre t ≠ [] := by
  cases t
  rw [pre]
  exact fun z => nomatch z
theorem pre_pos (t : Tm) : 0 < (pre t).length := List.length_pos_iff.mpr (pre_ne t)
theorem pres_len : ∀ ts : List Tm, ts.length ≤ (pres ts).length
  | [] => Nat.le_refl _
  | t :: ts => by
    rw [pres, List.length_append, List.length_cons]
    have := pre_pos t
    have := pres_len ts
    omega
end Tm
end NB

/-! own exception classes two steps below ValueError, whose __init__ calls that of the class between -/
namespace NB
open PySem PySem.Spec PyProof.Rows L2
section
variable {X : Cx} {o e : Expr} {es : List Expr} {to te : TE} {ta : TA} {f : Str} {p p' p1 p2 pos : Pos}
/-- Base.__init__(self, ..), Base an own class directly over ValueError, without an __init__ of its own -/
theorem pe_baseInit {x : Str} {L : Addr} {pl : Sem Bool} (hg : Gl X x) (hm : X.mg x = some (.ref L)) (vG : PySem.W.specialIn X.K (.ref L) "__getattribute__" = some (some (.builtin "type.__getattribute__"))) (vT : PySem.W.typeIn X.K (.ref L) = some (.type "type"))
    (vR : PySem.W.readsIn X.K L (.type "type") = true) (vV : PySem.W.findCls X.K (.ref L) (.type "type") "__init__" = some (.val (.builtin "ValueError.__init__"))) (ha : PA X (e :: es) ta)
    (hc : eval (.Call (.Attribute (.Name x p1) "__init__" p2) (e :: es) [] pos) X.env = (do
      let ov ← eval (.Name x p1) X.env
      standAt p2.atName
      let (f, first) ← holding [ov] (getMethod ov "__init__" pl)
      callWith pos f first (backTo pos (starEach (e :: es) X.env)) (backToKw pos (keywordEach [] X.env))) := by rfl) (hdb : (x == ("__debug__" : Str)) = false := by decide)
    (he : starEach (e :: es) X.env = (false, eval e X.env) :: starEach es X.env := by rfl) (hpl : (backTo pos (starEach es X.env)).any (·.1) = false := by rfl) :
    PE X (.Call (.Attribute (.Name x p1) "__init__" p2) (e :: es) [] pos) (tVeI X.K ta) := by
  refine ⟨fun pins s σ H Q I h => ?_⟩
  refine PySem.W.methodCall_KW (ld_glob I hg hm ?_ hdb) hc
  obtain ⟨m, fr⟩ := I.fr
  refine PySem.W.method_of_cls fr I.ok.mod.kin vG ?_
  refine PySem.W.cls_val fr I.ok.mod.kin vT vR vV (by decide +kernel) ?_
  show wpAny _ _ (callWith pos (Value.builtin "ValueError.__init__") [] (backTo pos (starEach (e :: es) X.env)) []) _ _ _
  refine PyProof.Rows.callWith_method1 (thn (ha.run pos pins _ σ H _ (I.tok _) h) fun us s1 ⟨vs, H1, I1, r1, a, C, ws, ev, hl, T, ea, q⟩ => ?_) he hpl
  subst ev
  cases r1 with
  | @cons _ u0 _ ur ra rw' =>
    obtain rfl : u0 = Value.ref a := ra
    have hlen : ur.length ≤ sizeLine := by
      rw [← Paired.length rw', sizeLine_eq]
      omega
    exact oinit_ok T I1 ea hlen fun s' J => ⟨.non, H1, J, rfl, q⟩
/-- the end of C(): an exception that has got no dict is let go -/
theorem mk_endN {pins : List (Addr × Obj)} {σ : L2.St} {H1 H2 : Hp} {Q : XK} {hp hp2 h2 : Heap} {g1 g2 : Array GenState} {d1 d2 : Drawn} {t1 t2 : Nat} {os1 os2 : OsState} {a C : Addr} (T : Raises X (.ref C)) (I1 : Inv X pins σ H1 ⟨hp, g1, d1, t1, os1⟩)
    (ha : hp.objs.size ≤ a) (k : ∀ b o, hp.get? b = some o → hp2.get? b = some o) (un : Un (frs X.stack) [] (upd H1 a (exo a C none)) H2 hp2 h2) (hok : HOk X.prog X.w H2 h2) (ho : os2 = os1) (hb : AllBare g2)
    (ea : H2 a = some (exo a C none)) (q : Q (.ref C) none (del H2 a)) : MkP X pins σ Q (.ref a) ⟨h2, g2, d2, t2, os2⟩ := by
  obtain ⟨t0, hoe⟩ := exo_at hok ea
  have hn : H1 a = none := I1.hok.fresh ha
  obtain ⟨G, g1', g2'⟩ := restrict h2 fun b => decide (b ≠ a)
  have gk : ∀ b, b ≠ a → G.get? b = h2.get? b := fun b hb => g1' b (decide_eq_true hb)
  have ge : G.get? a = none := g2' a (by simp)
  have nha : ∀ {b : Addr} {o : Obj}, hp.get? b = some o → b ≠ a := fun {b o} z => Nat.ne_of_lt (Nat.lt_of_lt_of_le (Heap.lt_size z) ha)
  have up : ∀ {b : Addr}, b ≠ a → H1 b = none → upd H1 a (exo a C none) b = none := fun {b} hb n => by rw [upd_ne hb]; exact n
  have U : Un (frs X.stack) [] H1 (del H2 a) hp G := {
    keep := fun b o z n hf hx => by
      rw [gk b (nha z)]
      exact un.keep b o (k b o z) (up (nha z) n) hf hx
    slot := fun b o z n hf hx => by
      rw [gk b (nha z)]
      exact un.slot b o (k b o z) (up (nha z) n) hf hx
    free := fun b o z n hx => by
      rw [del_ne (nha z)]
      exact un.free b o (k b o z) (up (nha z) n) hx
    there := fun b o z hx => by
      rw [gk b (nha z)]
      exact un.there b o (k b o z) hx
    tups := fun b xs z => by
      rw [del_ne (ne_of_none z hn)]
      exact un.tups b xs (by rw [upd_ne (ne_of_none z hn)]; exact z)
    frzs := fun b o v z => by
      rw [del_ne (ne_of_none z hn)]
      exact un.frzs b o v (by rw [upd_ne (ne_of_none z hn)]; exact z)
    tbls := fun b ps z => by
      rw [del_ne (ne_of_none z hn)]
      exact un.tbls b ps (by rw [upd_ne (ne_of_none z hn)]; exact z) }
  have hok3 : HOk X.prog X.w (del H2 a) G := fun b o z => by
    have hba : b ≠ a := fun e => by
      rw [e, del_same] at z
      cases z
    rw [del_ne hba] at z
    have noa : ∀ {c : Addr}, H2 c = some (.own b) → c ≠ a := fun {c} hc => at_ne ea hc exo_own
    exact (hok b o z).stay (fun c v hc y => by
        have hca : c ≠ a := by
          rcases hc with hc | hc
          · rw [hc]
            exact hba
          · exact noa hc
        rw [gk c hca]
        exact y)
      (fun c hc => by rw [del_ne (noa hc)]; exact hc) (fun c xs hc => by rw [del_ne (at_ne ea hc exo_tup)]; exact hc)
  have J : Inv X pins σ (del H2 a) ⟨G, g2, d2, t2, os2⟩ := I1.call' (ch := []) ho U hok3 hb (fun b z => absurd z (by simp))
  exact ⟨a, _, _, ⟨G, g2, d2, t2, os2⟩, _, .ref C, none, rfl, J, fun b o z => by
    by_cases hba : b = a
    · rw [hba, ge] at z
      cases z
    · exact (gk b hba).symm.trans z, ge, hoe, ⟨rfl, rfl⟩, rfl, rfl, del_same, rfl, hb, T, q⟩
/-- C(), C's own __init__ keeping sp and giving it no field -/
def tMkN (C : Addr) (sp : Sp) : L2.St → Hp → XK → Prop := fun σ H Q => ∀ a, H a = none → sp [.ref a] (upd H a (exo a C none)) (fun v H2 => v = .non ∧ H2 a = some (exo a C none) ∧ Q (.ref C) none (del H2 a)) (fun _ _ _ => False)
theorem pmk_oexN {CX : CXT} {x : Str} {C fI : Addr} {k : Nat} {fd : FuncData} {ps : List Str} {sp : Sp} (T : OexC X.K C) (iC : PySem.W.findIn X.K (.ref C) "__init__" = some (some (.ref fI))) (tI : PySem.W.typeIn X.K (.ref fI) = some (.type "function"))
    (F1 : FnOk X.prog X.w X.K X.mg X.base CX k fI fd ps sp) (hr : Room (k + 1) X.A) (hb : Binds X.K fd ps []) (hx : Passes CX X (fun _ _ _ => False)) (hg : Gl X x) (hm : X.mg x = some (.ref C))
    (hdb : (x == ("__debug__" : Str)) = false := by decide) :
    PMk X (.Call (.Name x p) [] [] pos) (tMkN C sp) := by
  intro pins s σ H Q I h
  obtain ⟨nm, q, N, bs, bm, sn, sub, ab, col, dd, k0, k1, k2, k3, k5, hC, hbm⟩ := T.cls
  refine wpAny_Call_Name_kw (ld_glob I hg hm ?_ hdb)
  refine PySem.W.callWith_K0 I.kIn T.kC ?_
  show wpAny _ _ (call (.ref C) []) _ _ _
  obtain ⟨hp, g, dr, tk, os⟩ := s
  have hsz : hp.objs.size ≤ hp.objs.size + 1 := Nat.le_succ _
  have hn : H (hp.objs.size + 1) = none := I.hok.fresh hsz
  have hq := h (hp.objs.size + 1) hn
  have kk : ∀ b o, hp.get? b = some o → ((hp.push (PySem.W.kdv_tup [])).push (PySem.HandSPX.excO C hp.objs.size)).get? b = some o := fun b o e => Heap.get?_push_of_some _ (Heap.get?_push_of_some _ e)
  have hget : ((hp.push (PySem.W.kdv_tup [])).push (PySem.HandSPX.excO C hp.objs.size)).get? (hp.objs.size + 1) = some (PySem.HandSPX.excO C hp.objs.size) := by heap_get
  have I2 : Inv X pins σ (upd H (hp.objs.size + 1) (exo (hp.objs.size + 1) C none)) ⟨(hp.push (PySem.W.kdv_tup [])).push (PySem.HandSPX.excO C hp.objs.size), g, dr, tk, os⟩ :=
    I.laid (t' := tk) (a := hp.objs.size + 1) (o := exo (hp.objs.size + 1) C none) (h' := (hp.push (PySem.W.kdv_tup [])).push (PySem.HandSPX.excO C hp.objs.size)) kk hsz (exo_ok hget)
  have r2 : Vals [V.ref (hp.objs.size + 1)] [Value.ref (hp.objs.size + 1)] := .cons rfl .nil
  have hl : ([Value.ref (hp.objs.size + 1)] ++ []).length = ps.length := by
    have e := r2.length
    rw [F1.len _ _ _ _ hq] at e
    exact e.symm
  refine wpAny_call (PySem.HandSPX.call_own F.excBase_ValueError (fun Y => PySem.HandSPX.refsVE_contains Y bm hbm) (I.kIn _ _ hC) (PySem.W.looks_findIn I.kIn iC) (fun self => PySem.W.bind_fn I.kIn self tI) (Nat.zero_le _)
    (codeAny_mono (F1.run _ X.stack _ _ ⟨[Value.ref (hp.objs.size + 1)], []⟩ [Value.ref (hp.objs.size + 1)] _ _ (fun _ _ _ => False) (hr.make C [] []) (I2.env0.make C [] []) (hb _ [Value.ref (hp.objs.size + 1)] I2.kIn hl) r2 hq) fun r s' hq' => ?_))
  cases r with
  | error er => exact hx pins σ _ _ er s' I2 hq'
  | ok fl =>
    cases fl with
    | ret u =>
      obtain ⟨v, H2, os2, bare2, un2, hok2, rv, ev, ea, q2⟩ := hq'
      subst ev
      obtain ⟨h2, g2, d2, t2, os'⟩ := s'
      exact ⟨rv, mk_endN (raises_own T.exC T.tyC) I hsz kk un2 hok2 os2 bare2 ea q2⟩
    | next => exact False.elim hq'
    | brk => exact False.elim hq'
    | cont => exact False.elim hq'
end
end NB

/-! isinstance(e, C) of a caught exception that has fields -/
namespace NB
open PySem PySem.Spec PyProof.Rows L2
theorem ExcC.xf {K : PySem.W.Frag} {D : Addr} (h : ExcC K D) : XfC K D := ⟨h.hg, h.hk, h.hs, h.hd⟩
def rIsX (K : PySem.W.Frag) (D a : Addr) (cls : Value) (d : Option Addr) : List V → Hp → VK → Prop := fun xs H Q => ∃ (c : V) (cv : Value) (b : Bool) (dd : Addr) (fs : List (Str × V)), cls = .ref D ∧ d = some dd ∧ H dd = some (.xd fs) ∧ xs = [.ref a, c] ∧ (∀ u, RelV c u → u = cv) ∧ PySem.W.kitOne K (.ref D) cv = some b ∧ Q (.bl b) H
theorem call_isX {X : Cx} {a D : Addr} {oe : Obj} {cls : Value} {d : Option Addr} {pn : List (Addr × Obj)} (C : ExcC X.K D) (hz : Zc cls d oe) (hf : ∃ vs, oe.data = .fields vs) : CallR (X.suite a ((a, oe) :: pn)) (.builtin "isinstance") (rIsX X.K D a cls d) := by
  intro pins s σ H xs us Q I r h
  obtain ⟨c, cv, b, dd, fs, ec, ed, ea, rfl, hcv, e, q⟩ := h
  subst ec
  subst ed
  cases r with
  | cons rx rr =>
    cases rr with
    | cons rt rr =>
      cases rr
      cases rx
      have ec := hcv _ rt
      subst ec
      obtain ⟨hget, _⟩ := I.pin (a, oe) (List.mem_append.mpr (.inl List.mem_cons_self))
      obtain ⟨vs, hv⟩ := hf
      have hx : ObjOk X.prog X.w H s.heap dd (.xd fs) := I.hok dd _ ea
      obtain ⟨mA, hns, hr⟩ := hx
      obtain ⟨od, ho, hl⟩ := lookIn_ns hns
      have J : PySem.W.InstAt s.heap a oe D (some od) := ⟨hget, hz.1, by unfold PySem.W.notCls; rw [hv] <;> rfl, by rw [hz.2]; exact ho⟩
      have hcl : (PySem.W.clsIn X.K D).isSome = true := by
        have z := C.hd
        cases q : PySem.W.clsIn X.K D with
        | some _ => rfl
        | none =>
          unfold PySem.W.hasDictIn at z
          rw [q] at z
          cases z
      exact PySem.W.kia_one (PySem.W.kitx_exc hcl C.hg C.hk C.hs C.ha C.hn C.ht C.hm) I.kIn J e (fun z => nomatch z) fun tk => ⟨.bl b, H, I.kept (t' := tk) fun _ _ z => z, rfl, q⟩
/-- C(..), whose __init__ may raise: what is wanted of the exception is the clause's -/
def tMakeS (C : Addr) (sp : Sp) (E : L2.St → XK) (t : TA) : TE := fun σ H Q => t σ H fun vs H1 => ∀ x dx, H1 x = none → H1 dx = none → dx ≠ x →
  sp (.ref x :: vs) (upd (upd H1 dx (.own x)) x (.ins C dx [])) (fun v H2 => v = .non ∧ Q (.ref x) H2) (E σ)
section
variable {X : Cx} {CX : CXT} {k : Nat} {f C : Addr} {fd : FuncData} {ps : List Str} {sp : Sp} {E : L2.St → XK} {x : Str} {p pos : Pos} {e : Expr} {es : List Expr} {t : TA}
theorem pe_makeS (M : Mk X.K C f) (F : FnOk X.prog X.w X.K X.mg X.base CX k f fd ps sp) (hr : Room (k + 1) X.A) (hg : Gl X x) (hm : X.mg x = some (.ref C)) (hb : Binds X.K fd ps []) (hx : ∀ σ, PassesAt CX X σ (E σ)) (ha : PA X (e :: es) t)
    (hdb : (x == ("__debug__" : Str)) = false := by decide) (he : starEach (e :: es) X.env = (false, eval e X.env) :: starEach es X.env := by rfl) (hpl : (backTo pos (starEach es X.env)).any (·.1) = false := by rfl) :
    PE X (.Call (.Name x p) (e :: es) [] pos) (tMakeS C sp E t) := by
  refine ⟨fun pins s σ H Q I h => ?_⟩
  refine wpAny_Call_Name_kw (ld_glob I hg hm ?_ hdb)
  refine PySem.W.callWith_K (h₀ := X.base) I.ok.mod.kin M.kp (thn (ha.run pos pins s σ H _ I h) fun us s1 ⟨vs, H1, J, r, q⟩ => ⟨J.kIn, ?_⟩) he hpl
  have q' := q (s1.heap.objs.size + 1) s1.heap.objs.size (J.hok.fresh (Nat.le_succ _)) (J.hok.fresh (Nat.le_refl _)) (Nat.ne_of_lt (Nat.lt_succ_self _))
  have J2 := Inv.made (C := C) J
  have r2 : Vals (V.ref (s1.heap.objs.size + 1) :: vs) (Value.ref (s1.heap.objs.size + 1) :: us) := .cons rfl r
  have hl : (Value.ref (s1.heap.objs.size + 1) :: us ++ []).length = ps.length := by
    rw [List.append_nil]
    exact (r2.length.symm.trans (F.len _ _ _ _ q'))
  have hbb := hb _ (Value.ref (s1.heap.objs.size + 1) :: us) J2.kIn hl
  rw [List.append_nil] at hbb
  refine wpAny_call (make_map (f := f) J.kIn M.makes M.init (beq_iff_eq.mp M.fn) (codeAny_mono (F.run _ X.stack _ _ ⟨Value.ref (s1.heap.objs.size + 1) :: us, []⟩ (Value.ref (s1.heap.objs.size + 1) :: us) _ _ (E σ) (hr.make C us [])
    (J2.env0.make C us []) hbb r2 q') fun rr s' hq' => ?_))
  cases rr with
  | error er => exact hx σ pins _ _ er s' J2 hq'
  | ok fl =>
    cases fl with
    | ret u =>
      obtain ⟨v, H', J3, rv, ev, q3⟩ := J2.after hq'
      subst ev
      exact ⟨rv, ⟨V.ref (s1.heap.objs.size + 1), H', J3, rfl, q3⟩⟩
    | next => exact False.elim hq'
    | brk => exact False.elim hq'
    | cont => exact False.elim hq'
end
end NB

namespace NB
open PySem PySem.Spec PyProof.Rows L2 LamX

/-! ### the text by places -/
def top (i : Nat) : Stmt := PySem.Challenge.pw_neatbooks_k08_whole_texts_of_terms_sign.main.body.getD i (.Pass ⟨0, 0, 0, 0⟩)
abbrev s_BadText___init__ : Stmt := inClass (top 3) 0
abbrev s_is_integer : Stmt := top 9
abbrev s_is_number_below : Stmt := top 10
abbrev s_is_tuple_of : Stmt := top 11
abbrev s_is_sign : Stmt := top 12
abbrev s_is_placed_sign : Stmt := top 13
abbrev s_are_signs : Stmt := top 14
abbrev s_fits : Stmt := top 16
abbrev s_nodes : Stmt := top 17
abbrev s_words : Stmt := top 18
abbrev s_from_within : Stmt := top 19
abbrev s_Bank___init__ : Stmt := inClass (top 20) 0
abbrev s_Bank_number_of : Stmt := inClass (top 20) 1
abbrev s_Bank_take : Stmt := inClass (top 20) 2
abbrev s_Bank_take_lines : Stmt := inClass (top 20) 3
abbrev s_Lore___init__ : Stmt := inClass (top 24) 0
abbrev s_Lore___eq__ : Stmt := inClass (top 24) 1
abbrev s_flat : Stmt := top 25
abbrev s_fits_line : Stmt := top 26
abbrev s_bank_of_told : Stmt := top 27
abbrev s_told_in : Stmt := top 28
abbrev s_beginnings : Stmt := top 30
abbrev s_TermReader___init__ : Stmt := inClass (top 31) 0
abbrev s_TermReader_takes : Stmt := inClass (top 31) 1
abbrev s_TermReader_takes_letter : Stmt := inClass (top 31) 2
abbrev s_TermReader_takes_bracket : Stmt := inClass (top 31) 3
abbrev s_TermReader_ends_part : Stmt := inClass (top 31) 4
abbrev s_TermReader_term_here : Stmt := inClass (top 31) 5
abbrev s_TermReader_finished : Stmt := inClass (top 31) 6
abbrev s_parsed : Stmt := top 32
abbrev s_read_term : Stmt := top 33
abbrev s__law_pool : Stmt := top 35
abbrev s__law_draw : Stmt := top 36
abbrev s__law_deep : Stmt := top 37
abbrev s__law_is : Stmt := top 38
abbrev s__law_signs : Stmt := top 39
abbrev s__law_term : Stmt := top 40
abbrev s__law_text : Stmt := top 41
abbrev s__law_word_at : Stmt := top 42
abbrev s__law_term_at : Stmt := top 43
abbrev s__law_read : Stmt := top 44
abbrev s__law_spoiled : Stmt := top 45
abbrev s__law_told_of : Stmt := top 46
abbrev s_law : Stmt := top 47
/-! ### what the top has made -/
structure Tx (K : PySem.W.Frag) (mg : Str → Option Value) where
  a_BadText___init__ : Addr
  d_BadText___init__ : FuncData
  F_BadText___init__ : Fun K "__init__" "BadText.__init__" s_BadText___init__ a_BadText___init__ d_BadText___init__
  b_BadText___init__ : Binds K d_BadText___init__ ["self", "place"] []
  a_is_integer : Addr
  d_is_integer : FuncData
  F_is_integer : Fun K "is_integer" "is_integer" s_is_integer a_is_integer d_is_integer
  b_is_integer : Binds K d_is_integer ["thing"] []
  m_is_integer : mg "is_integer" = some (.ref a_is_integer)
  a_is_number_below : Addr
  d_is_number_below : FuncData
  F_is_number_below : Fun K "is_number_below" "is_number_below" s_is_number_below a_is_number_below d_is_number_below
  b_is_number_below : Binds K d_is_number_below ["thing", "limit"] []
  m_is_number_below : mg "is_number_below" = some (.ref a_is_number_below)
  a_is_tuple_of : Addr
  d_is_tuple_of : FuncData
  F_is_tuple_of : Fun K "is_tuple_of" "is_tuple_of" s_is_tuple_of a_is_tuple_of d_is_tuple_of
  b_is_tuple_of : Binds K d_is_tuple_of ["thing", "many"] []
  m_is_tuple_of : mg "is_tuple_of" = some (.ref a_is_tuple_of)
  a_is_sign : Addr
  d_is_sign : FuncData
  F_is_sign : Fun K "is_sign" "is_sign" s_is_sign a_is_sign d_is_sign
  b_is_sign : Binds K d_is_sign ["thing"] []
  m_is_sign : mg "is_sign" = some (.ref a_is_sign)
  a_is_placed_sign : Addr
  d_is_placed_sign : FuncData
  F_is_placed_sign : Fun K "is_placed_sign" "is_placed_sign" s_is_placed_sign a_is_placed_sign d_is_placed_sign
  b_is_placed_sign : Binds K d_is_placed_sign ["thing"] []
  m_is_placed_sign : mg "is_placed_sign" = some (.ref a_is_placed_sign)
  a_are_signs : Addr
  d_are_signs : FuncData
  F_are_signs : Fun K "are_signs" "are_signs" s_are_signs a_are_signs d_are_signs
  b_are_signs : Binds K d_are_signs ["thing"] []
  m_are_signs : mg "are_signs" = some (.ref a_are_signs)
  a_fits : Addr
  d_fits : FuncData
  F_fits : Fun K "fits" "fits" s_fits a_fits d_fits
  b_fits : Binds K d_fits ["places", "thing"] []
  m_fits : mg "fits" = some (.ref a_fits)
  a_nodes : Addr
  d_nodes : FuncData
  F_nodes : Fun K "nodes" "nodes" s_nodes a_nodes d_nodes
  b_nodes : Binds K d_nodes ["term"] []
  m_nodes : mg "nodes" = some (.ref a_nodes)
  a_words : Addr
  d_words : FuncData
  F_words : Fun K "words" "words" s_words a_words d_words
  b_words : Binds K d_words ["term"] []
  m_words : mg "words" = some (.ref a_words)
  a_from_within : Addr
  d_from_within : FuncData
  F_from_within : Fun K "from_within" "from_within" s_from_within a_from_within d_from_within
  b_from_within : Binds K d_from_within ["term", "maker"] []
  m_from_within : mg "from_within" = some (.ref a_from_within)
  a_Bank___init__ : Addr
  d_Bank___init__ : FuncData
  F_Bank___init__ : Fun K "__init__" "Bank.__init__" s_Bank___init__ a_Bank___init__ d_Bank___init__
  b_Bank___init__ : Binds K d_Bank___init__ ["self"] []
  a_Bank_number_of : Addr
  d_Bank_number_of : FuncData
  F_Bank_number_of : Fun K "number_of" "Bank.number_of" s_Bank_number_of a_Bank_number_of d_Bank_number_of
  b_Bank_number_of : Binds K d_Bank_number_of ["self", "sign", "parts"] []
  a_Bank_take : Addr
  d_Bank_take : FuncData
  F_Bank_take : Fun K "take" "Bank.take" s_Bank_take a_Bank_take d_Bank_take
  b_Bank_take : Binds K d_Bank_take ["self", "term"] []
  a_Bank_take_lines : Addr
  d_Bank_take_lines : FuncData
  F_Bank_take_lines : Fun K "take_lines" "Bank.take_lines" s_Bank_take_lines a_Bank_take_lines d_Bank_take_lines
  b_Bank_take_lines : Binds K d_Bank_take_lines ["self", "lines"] []
  a_Lore___init__ : Addr
  d_Lore___init__ : FuncData
  F_Lore___init__ : Fun K "__init__" "Lore.__init__" s_Lore___init__ a_Lore___init__ d_Lore___init__
  b_Lore___init__ : Binds K d_Lore___init__ ["self", "signs", "lines"] []
  a_Lore___eq__ : Addr
  d_Lore___eq__ : FuncData
  F_Lore___eq__ : Fun K "__eq__" "Lore.__eq__" s_Lore___eq__ a_Lore___eq__ d_Lore___eq__
  b_Lore___eq__ : Binds K d_Lore___eq__ ["self", "other"] []
  a_flat : Addr
  d_flat : FuncData
  F_flat : Fun K "flat" "flat" s_flat a_flat d_flat
  b_flat : Binds K d_flat ["lines"] []
  m_flat : mg "flat" = some (.ref a_flat)
  a_fits_line : Addr
  d_fits_line : FuncData
  F_fits_line : Fun K "fits_line" "fits_line" s_fits_line a_fits_line d_fits_line
  b_fits_line : Binds K d_fits_line ["places", "thing"] []
  m_fits_line : mg "fits_line" = some (.ref a_fits_line)
  a_bank_of_told : Addr
  d_bank_of_told : FuncData
  F_bank_of_told : Fun K "bank_of_told" "bank_of_told" s_bank_of_told a_bank_of_told d_bank_of_told
  b_bank_of_told : Binds K d_bank_of_told ["lines"] []
  m_bank_of_told : mg "bank_of_told" = some (.ref a_bank_of_told)
  a_told_in : Addr
  d_told_in : FuncData
  F_told_in : Fun K "told_in" "told_in" s_told_in a_told_in d_told_in
  b_told_in : Binds K d_told_in ["lines"] []
  m_told_in : mg "told_in" = some (.ref a_told_in)
  a_beginnings : Addr
  d_beginnings : FuncData
  F_beginnings : Fun K "beginnings" "beginnings" s_beginnings a_beginnings d_beginnings
  b_beginnings : Binds K d_beginnings ["signs"] []
  m_beginnings : mg "beginnings" = some (.ref a_beginnings)
  a_TermReader___init__ : Addr
  d_TermReader___init__ : FuncData
  F_TermReader___init__ : Fun K "__init__" "TermReader.__init__" s_TermReader___init__ a_TermReader___init__ d_TermReader___init__
  b_TermReader___init__ : Binds K d_TermReader___init__ ["self", "places"] []
  a_TermReader_takes : Addr
  d_TermReader_takes : FuncData
  F_TermReader_takes : Fun K "takes" "TermReader.takes" s_TermReader_takes a_TermReader_takes d_TermReader_takes
  b_TermReader_takes : Binds K d_TermReader_takes ["self", "letter"] []
  a_TermReader_takes_letter : Addr
  d_TermReader_takes_letter : FuncData
  F_TermReader_takes_letter : Fun K "takes_letter" "TermReader.takes_letter" s_TermReader_takes_letter a_TermReader_takes_letter d_TermReader_takes_letter
  b_TermReader_takes_letter : Binds K d_TermReader_takes_letter ["self", "letter"] []
  a_TermReader_takes_bracket : Addr
  d_TermReader_takes_bracket : FuncData
  F_TermReader_takes_bracket : Fun K "takes_bracket" "TermReader.takes_bracket" s_TermReader_takes_bracket a_TermReader_takes_bracket d_TermReader_takes_bracket
  b_TermReader_takes_bracket : Binds K d_TermReader_takes_bracket ["self"] []
  a_TermReader_ends_part : Addr
  d_TermReader_ends_part : FuncData
  F_TermReader_ends_part : Fun K "ends_part" "TermReader.ends_part" s_TermReader_ends_part a_TermReader_ends_part d_TermReader_ends_part
  b_TermReader_ends_part : Binds K d_TermReader_ends_part ["self", "letter"] []
  a_TermReader_term_here : Addr
  d_TermReader_term_here : FuncData
  F_TermReader_term_here : Fun K "term_here" "TermReader.term_here" s_TermReader_term_here a_TermReader_term_here d_TermReader_term_here
  b_TermReader_term_here : Binds K d_TermReader_term_here ["self"] []
  a_TermReader_finished : Addr
  d_TermReader_finished : FuncData
  F_TermReader_finished : Fun K "finished" "TermReader.finished" s_TermReader_finished a_TermReader_finished d_TermReader_finished
  b_TermReader_finished : Binds K d_TermReader_finished ["self"] []
  a_parsed : Addr
  d_parsed : FuncData
  F_parsed : Fun K "parsed" "parsed" s_parsed a_parsed d_parsed
  b_parsed : Binds K d_parsed ["places", "text"] []
  m_parsed : mg "parsed" = some (.ref a_parsed)
  a_read_term : Addr
  d_read_term : FuncData
  F_read_term : Fun K "read_term" "read_term" s_read_term a_read_term d_read_term
  b_read_term : Binds K d_read_term ["lore", "text"] []
  m_read_term : mg "read_term" = some (.ref a_read_term)
  a__law_pool : Addr
  d__law_pool : FuncData
  F__law_pool : Fun K "_law_pool" "_law_pool" s__law_pool a__law_pool d__law_pool
  b__law_pool : Binds K d__law_pool ["_law_script"] []
  m__law_pool : mg "_law_pool" = some (.ref a__law_pool)
  a__law_draw : Addr
  d__law_draw : FuncData
  F__law_draw : Fun K "_law_draw" "_law_draw" s__law_draw a__law_draw d__law_draw
  b__law_draw : Binds K d__law_draw ["_law_pool_here", "_law_many"] []
  m__law_draw : mg "_law_draw" = some (.ref a__law_draw)
  a__law_deep : Addr
  d__law_deep : FuncData
  F__law_deep : Fun K "_law_deep" "_law_deep" s__law_deep a__law_deep d__law_deep
  b__law_deep : Binds K d__law_deep [] []
  m__law_deep : mg "_law_deep" = some (.ref a__law_deep)
  a__law_is : Addr
  d__law_is : FuncData
  F__law_is : Fun K "_law_is" "_law_is" s__law_is a__law_is d__law_is
  b__law_is : Binds K d__law_is ["_law_told", "_law_due"] []
  m__law_is : mg "_law_is" = some (.ref a__law_is)
  a__law_signs : Addr
  d__law_signs : FuncData
  F__law_signs : Fun K "_law_signs" "_law_signs" s__law_signs a__law_signs d__law_signs
  b__law_signs : Binds K d__law_signs ["_law_pool_here"] []
  m__law_signs : mg "_law_signs" = some (.ref a__law_signs)
  a__law_term : Addr
  d__law_term : FuncData
  F__law_term : Fun K "_law_term" "_law_term" s__law_term a__law_term d__law_term
  b__law_term : Binds K d__law_term ["_law_pool_here", "_law_signs_here", "_law_deep_here"] []
  m__law_term : mg "_law_term" = some (.ref a__law_term)
  a__law_text : Addr
  d__law_text : FuncData
  F__law_text : Fun K "_law_text" "_law_text" s__law_text a__law_text d__law_text
  b__law_text : Binds K d__law_text ["_law_term_here"] []
  m__law_text : mg "_law_text" = some (.ref a__law_text)
  a__law_word_at : Addr
  d__law_word_at : FuncData
  F__law_word_at : Fun K "_law_word_at" "_law_word_at" s__law_word_at a__law_word_at d__law_word_at
  b__law_word_at : Binds K d__law_word_at ["_law_names", "_law_text_here", "_law_at"] []
  m__law_word_at : mg "_law_word_at" = some (.ref a__law_word_at)
  a__law_term_at : Addr
  d__law_term_at : FuncData
  F__law_term_at : Fun K "_law_term_at" "_law_term_at" s__law_term_at a__law_term_at d__law_term_at
  b__law_term_at : Binds K d__law_term_at ["_law_names", "_law_text_here", "_law_at"] []
  m__law_term_at : mg "_law_term_at" = some (.ref a__law_term_at)
  a__law_read : Addr
  d__law_read : FuncData
  F__law_read : Fun K "_law_read" "_law_read" s__law_read a__law_read d__law_read
  b__law_read : Binds K d__law_read ["_law_names", "_law_text_here"] []
  m__law_read : mg "_law_read" = some (.ref a__law_read)
  a__law_spoiled : Addr
  d__law_spoiled : FuncData
  F__law_spoiled : Fun K "_law_spoiled" "_law_spoiled" s__law_spoiled a__law_spoiled d__law_spoiled
  b__law_spoiled : Binds K d__law_spoiled ["_law_pool_here", "_law_text_here", "_law_letters"] []
  m__law_spoiled : mg "_law_spoiled" = some (.ref a__law_spoiled)
  a__law_told_of : Addr
  d__law_told_of : FuncData
  F__law_told_of : Fun K "_law_told_of" "_law_told_of" s__law_told_of a__law_told_of d__law_told_of
  b__law_told_of : Binds K d__law_told_of ["_law_lore", "_law_text_here"] []
  m__law_told_of : mg "_law_told_of" = some (.ref a__law_told_of)
  a_law : Addr
  d_law : FuncData
  F_law : Fun K "law" "law" s_law a_law d_law
  b_law : Binds K d_law ["_law_script"] []
  m_law : mg "law" = some (.ref a_law)
  c_Bank : Addr
  cl_Bank : Cls K c_Bank
  m_Bank : mg "Bank" = some (.ref c_Bank)
  mk_Bank : Mk K c_Bank a_Bank___init__
  h_Bank_number_of : Meth K c_Bank "number_of" a_Bank_number_of
  h_Bank_take : Meth K c_Bank "take" a_Bank_take
  h_Bank_take_lines : Meth K c_Bank "take_lines" a_Bank_take_lines
  n_Bank_table : NoAttr K c_Bank "table"
  n_Bank_shapes : NoAttr K c_Bank "shapes"
  n_Bank_terms : NoAttr K c_Bank "terms"
  c_Lore : Addr
  cl_Lore : Cls K c_Lore
  m_Lore : mg "Lore" = some (.ref c_Lore)
  mk_Lore : Mk K c_Lore a_Lore___init__
  q_Lore : NB.OwnEqC K c_Lore a_Lore___eq__
  n_Lore_signs : NoAttr K c_Lore "signs"
  n_Lore_lines : NoAttr K c_Lore "lines"
  c_TermReader : Addr
  cl_TermReader : Cls K c_TermReader
  m_TermReader : mg "TermReader" = some (.ref c_TermReader)
  mk_TermReader : Mk K c_TermReader a_TermReader___init__
  h_TermReader_takes : Meth K c_TermReader "takes" a_TermReader_takes
  h_TermReader_takes_letter : Meth K c_TermReader "takes_letter" a_TermReader_takes_letter
  h_TermReader_takes_bracket : Meth K c_TermReader "takes_bracket" a_TermReader_takes_bracket
  h_TermReader_ends_part : Meth K c_TermReader "ends_part" a_TermReader_ends_part
  h_TermReader_term_here : Meth K c_TermReader "term_here" a_TermReader_term_here
  h_TermReader_finished : Meth K c_TermReader "finished" a_TermReader_finished
  n_TermReader_places : NoAttr K c_TermReader "places"
  n_TermReader_heads : NoAttr K c_TermReader "heads"
  n_TermReader_word : NoAttr K c_TermReader "word"
  n_TermReader_frames : NoAttr K c_TermReader "frames"
  n_TermReader_whole : NoAttr K c_TermReader "whole"
  u_LETTERS : Value
  m_LETTERS : mg "LETTERS" = some u_LETTERS
  r_LETTERS : L2.RelV (.str "abcdefghijklmnopqrstuvwxyz") u_LETTERS
  u_MOST_LETTERS : Value
  m_MOST_LETTERS : mg "MOST_LETTERS" = some u_MOST_LETTERS
  r_MOST_LETTERS : L2.RelV (.int 8) u_MOST_LETTERS
  u_MOST_PLACES : Value
  m_MOST_PLACES : mg "MOST_PLACES" = some u_MOST_PLACES
  r_MOST_PLACES : L2.RelV (.int 2) u_MOST_PLACES
  u_MOST_SIGNS : Value
  m_MOST_SIGNS : mg "MOST_SIGNS" = some u_MOST_SIGNS
  r_MOST_SIGNS : L2.RelV (.int 12) u_MOST_SIGNS
  u_MOST_LINES : Value
  m_MOST_LINES : mg "MOST_LINES" = some u_MOST_LINES
  r_MOST_LINES : L2.RelV (.int 24) u_MOST_LINES
  u_MOST_TOLD : Value
  m_MOST_TOLD : mg "MOST_TOLD" = some u_MOST_TOLD
  r_MOST_TOLD : L2.RelV (.int 60) u_MOST_TOLD
  z_ValueError : mg "ValueError" = none
  z_abs : mg "abs" = none
  z_all : mg "all" = none
  z_any : mg "any" = none
  z_bool : mg "bool" = none
  z_dict : mg "dict" = none
  z_enumerate : mg "enumerate" = none
  z_int : mg "int" = none
  z_isinstance : mg "isinstance" = none
  z_len : mg "len" = none
  z_list : mg "list" = none
  z_max : mg "max" = none
  z_range : mg "range" = none
  z_repr : mg "repr" = none
  z_reversed : mg "reversed" = none
  z_sorted : mg "sorted" = none
  z_str : mg "str" = none
  z_sum : mg "sum" = none
  z_tuple : mg "tuple" = none
  c_LoreError : Addr
  m_LoreError : mg "LoreError" = some (.ref c_LoreError)
  g_LoreError : PySem.W.specialIn K (.ref c_LoreError) "__getattribute__" = some (some (.builtin "type.__getattribute__"))
  y_LoreError : PySem.W.typeIn K (.ref c_LoreError) = some (.type "type")
  rd_LoreError : PySem.W.readsIn K c_LoreError (.type "type") = true
  v_LoreError : PySem.W.findCls K (.ref c_LoreError) (.type "type") "__init__" = some (.val (.builtin "ValueError.__init__"))
  c_BadText : Addr
  m_BadText : mg "BadText" = some (.ref c_BadText)
  o_BadText : OexC K c_BadText
  i_BadText : PySem.W.findIn K (.ref c_BadText) "__init__" = some (some (.ref a_BadText___init__))
  t_BadText : PySem.W.typeIn K (.ref a_BadText___init__) = some (.type "function")
  n_BadText_place : PySem.W.findIn K (.ref c_BadText) "place" = some none
  ex_BadText : ExcC K c_BadText
  k_BadText_LoreError : PySem.W.kitOne K (.ref c_BadText) (.ref c_LoreError) = some true
  k_BadText_ValueError : PySem.W.kitOne K (.ref c_BadText) (.type "ValueError") = some true
  e_BadText_BadText : PySem.W.exmOne K (.ref c_BadText) (.ref c_BadText) = some true
end NB

set_option maxHeartbeats 0
namespace NB
open PySem PySem.Spec PyProof.Rows L2 LamX
def dd_BadText___init__ : He.DefD := ⟨("BadText", some "__init__"), "__init__", "BadText.__init__", defArgs s_BadText___init__, defBody s_BadText___init__, defScope s_BadText___init__, [], []⟩
def dd_is_integer : He.DefD := ⟨("is_integer", none), "is_integer", "is_integer", defArgs s_is_integer, defBody s_is_integer, defScope s_is_integer, [], []⟩
def dd_is_number_below : He.DefD := ⟨("is_number_below", none), "is_number_below", "is_number_below", defArgs s_is_number_below, defBody s_is_number_below, defScope s_is_number_below, [], []⟩
def dd_is_tuple_of : He.DefD := ⟨("is_tuple_of", none), "is_tuple_of", "is_tuple_of", defArgs s_is_tuple_of, defBody s_is_tuple_of, defScope s_is_tuple_of, [], []⟩
def dd_is_sign : He.DefD := ⟨("is_sign", none), "is_sign", "is_sign", defArgs s_is_sign, defBody s_is_sign, defScope s_is_sign, [], []⟩
def dd_is_placed_sign : He.DefD := ⟨("is_placed_sign", none), "is_placed_sign", "is_placed_sign", defArgs s_is_placed_sign, defBody s_is_placed_sign, defScope s_is_placed_sign, [], []⟩
def dd_are_signs : He.DefD := ⟨("are_signs", none), "are_signs", "are_signs", defArgs s_are_signs, defBody s_are_signs, defScope s_are_signs, [], []⟩
def dd_fits : He.DefD := ⟨("fits", none), "fits", "fits", defArgs s_fits, defBody s_fits, defScope s_fits, [], []⟩
def dd_nodes : He.DefD := ⟨("nodes", none), "nodes", "nodes", defArgs s_nodes, defBody s_nodes, defScope s_nodes, [], []⟩
def dd_words : He.DefD := ⟨("words", none), "words", "words", defArgs s_words, defBody s_words, defScope s_words, [], []⟩
def dd_from_within : He.DefD := ⟨("from_within", none), "from_within", "from_within", defArgs s_from_within, defBody s_from_within, defScope s_from_within, [], []⟩
def dd_Bank___init__ : He.DefD := ⟨("Bank", some "__init__"), "__init__", "Bank.__init__", defArgs s_Bank___init__, defBody s_Bank___init__, defScope s_Bank___init__, [], []⟩
def dd_Bank_number_of : He.DefD := ⟨("Bank", some "number_of"), "number_of", "Bank.number_of", defArgs s_Bank_number_of, defBody s_Bank_number_of, defScope s_Bank_number_of, [], []⟩
def dd_Bank_take : He.DefD := ⟨("Bank", some "take"), "take", "Bank.take", defArgs s_Bank_take, defBody s_Bank_take, defScope s_Bank_take, [], []⟩
def dd_Bank_take_lines : He.DefD := ⟨("Bank", some "take_lines"), "take_lines", "Bank.take_lines", defArgs s_Bank_take_lines, defBody s_Bank_take_lines, defScope s_Bank_take_lines, [], []⟩
def dd_Lore___init__ : He.DefD := ⟨("Lore", some "__init__"), "__init__", "Lore.__init__", defArgs s_Lore___init__, defBody s_Lore___init__, defScope s_Lore___init__, [], []⟩
def dd_Lore___eq__ : He.DefD := ⟨("Lore", some "__eq__"), "__eq__", "Lore.__eq__", defArgs s_Lore___eq__, defBody s_Lore___eq__, defScope s_Lore___eq__, [], []⟩
def dd_flat : He.DefD := ⟨("flat", none), "flat", "flat", defArgs s_flat, defBody s_flat, defScope s_flat, [], []⟩
def dd_fits_line : He.DefD := ⟨("fits_line", none), "fits_line", "fits_line", defArgs s_fits_line, defBody s_fits_line, defScope s_fits_line, [], []⟩
def dd_bank_of_told : He.DefD := ⟨("bank_of_told", none), "bank_of_told", "bank_of_told", defArgs s_bank_of_told, defBody s_bank_of_told, defScope s_bank_of_told, [], []⟩
def dd_told_in : He.DefD := ⟨("told_in", none), "told_in", "told_in", defArgs s_told_in, defBody s_told_in, defScope s_told_in, [], []⟩
def dd_beginnings : He.DefD := ⟨("beginnings", none), "beginnings", "beginnings", defArgs s_beginnings, defBody s_beginnings, defScope s_beginnings, [], []⟩
def dd_TermReader___init__ : He.DefD := ⟨("TermReader", some "__init__"), "__init__", "TermReader.__init__", defArgs s_TermReader___init__, defBody s_TermReader___init__, defScope s_TermReader___init__, [], []⟩
def dd_TermReader_takes : He.DefD := ⟨("TermReader", some "takes"), "takes", "TermReader.takes", defArgs s_TermReader_takes, defBody s_TermReader_takes, defScope s_TermReader_takes, [], []⟩
def dd_TermReader_takes_letter : He.DefD := ⟨("TermReader", some "takes_letter"), "takes_letter", "TermReader.takes_letter", defArgs s_TermReader_takes_letter, defBody s_TermReader_takes_letter, defScope s_TermReader_takes_letter, [], []⟩
def dd_TermReader_takes_bracket : He.DefD := ⟨("TermReader", some "takes_bracket"), "takes_bracket", "TermReader.takes_bracket", defArgs s_TermReader_takes_bracket, defBody s_TermReader_takes_bracket, defScope s_TermReader_takes_bracket, [], []⟩
def dd_TermReader_ends_part : He.DefD := ⟨("TermReader", some "ends_part"), "ends_part", "TermReader.ends_part", defArgs s_TermReader_ends_part, defBody s_TermReader_ends_part, defScope s_TermReader_ends_part, [], []⟩
def dd_TermReader_term_here : He.DefD := ⟨("TermReader", some "term_here"), "term_here", "TermReader.term_here", defArgs s_TermReader_term_here, defBody s_TermReader_term_here, defScope s_TermReader_term_here, [], []⟩
def dd_TermReader_finished : He.DefD := ⟨("TermReader", some "finished"), "finished", "TermReader.finished", defArgs s_TermReader_finished, defBody s_TermReader_finished, defScope s_TermReader_finished, [], []⟩
def dd_parsed : He.DefD := ⟨("parsed", none), "parsed", "parsed", defArgs s_parsed, defBody s_parsed, defScope s_parsed, [], []⟩
def dd_read_term : He.DefD := ⟨("read_term", none), "read_term", "read_term", defArgs s_read_term, defBody s_read_term, defScope s_read_term, [], []⟩
def dd__law_pool : He.DefD := ⟨("_law_pool", none), "_law_pool", "_law_pool", defArgs s__law_pool, defBody s__law_pool, defScope s__law_pool, [], []⟩
def dd__law_draw : He.DefD := ⟨("_law_draw", none), "_law_draw", "_law_draw", defArgs s__law_draw, defBody s__law_draw, defScope s__law_draw, [], []⟩
def dd__law_deep : He.DefD := ⟨("_law_deep", none), "_law_deep", "_law_deep", defArgs s__law_deep, defBody s__law_deep, defScope s__law_deep, [], []⟩
def dd__law_is : He.DefD := ⟨("_law_is", none), "_law_is", "_law_is", defArgs s__law_is, defBody s__law_is, defScope s__law_is, [], []⟩
def dd__law_signs : He.DefD := ⟨("_law_signs", none), "_law_signs", "_law_signs", defArgs s__law_signs, defBody s__law_signs, defScope s__law_signs, [], []⟩
def dd__law_term : He.DefD := ⟨("_law_term", none), "_law_term", "_law_term", defArgs s__law_term, defBody s__law_term, defScope s__law_term, [], []⟩
def dd__law_text : He.DefD := ⟨("_law_text", none), "_law_text", "_law_text", defArgs s__law_text, defBody s__law_text, defScope s__law_text, [], []⟩
def dd__law_word_at : He.DefD := ⟨("_law_word_at", none), "_law_word_at", "_law_word_at", defArgs s__law_word_at, defBody s__law_word_at, defScope s__law_word_at, [], []⟩
def dd__law_term_at : He.DefD := ⟨("_law_term_at", none), "_law_term_at", "_law_term_at", defArgs s__law_term_at, defBody s__law_term_at, defScope s__law_term_at, [], []⟩
def dd__law_read : He.DefD := ⟨("_law_read", none), "_law_read", "_law_read", defArgs s__law_read, defBody s__law_read, defScope s__law_read, [], []⟩
def dd__law_spoiled : He.DefD := ⟨("_law_spoiled", none), "_law_spoiled", "_law_spoiled", defArgs s__law_spoiled, defBody s__law_spoiled, defScope s__law_spoiled, [], []⟩
def dd__law_told_of : He.DefD := ⟨("_law_told_of", none), "_law_told_of", "_law_told_of", defArgs s__law_told_of, defBody s__law_told_of, defScope s__law_told_of, [], []⟩
def dd_law : He.DefD := ⟨("law", none), "law", "law", defArgs s_law, defBody s_law, defScope s_law, [], []⟩
def hdFn_0 : List He.DefD := [dd_BadText___init__,
  dd_is_integer,
  dd_is_number_below,
  dd_is_tuple_of,
  dd_is_sign,
  dd_is_placed_sign,
  dd_are_signs,
  dd_fits,
  dd_nodes,
  dd_words,
  dd_from_within,
  dd_Bank___init__,
  dd_Bank_number_of,
  dd_Bank_take,
  dd_Bank_take_lines,
  dd_Lore___init__,
  dd_Lore___eq__,
  dd_flat,
  dd_fits_line,
  dd_bank_of_told,
  dd_told_in,
  dd_beginnings,
  dd_TermReader___init__,
  dd_TermReader_takes,
  dd_TermReader_takes_letter,
  dd_TermReader_takes_bracket,
  dd_TermReader_ends_part,
  dd_TermReader_term_here,
  dd_TermReader_finished,
  dd_parsed]
def hdFn_1 : List He.DefD := [dd_read_term,
  dd__law_pool,
  dd__law_draw,
  dd__law_deep,
  dd__law_is,
  dd__law_signs,
  dd__law_term,
  dd__law_text,
  dd__law_word_at,
  dd__law_term_at,
  dd__law_read,
  dd__law_spoiled,
  dd__law_told_of,
  dd_law]
def hdFn : List He.DefD := hdFn_0 ++ hdFn_1
def hdFa_0 : List He.Fa := [.glo "is_integer",
  .glo "is_number_below",
  .glo "is_tuple_of",
  .glo "is_sign",
  .glo "is_placed_sign",
  .glo "are_signs",
  .glo "fits",
  .glo "nodes",
  .glo "words",
  .glo "from_within",
  .glo "flat",
  .glo "fits_line",
  .glo "bank_of_told",
  .glo "told_in",
  .glo "beginnings",
  .glo "parsed",
  .glo "read_term",
  .glo "_law_pool",
  .glo "_law_draw",
  .glo "_law_deep",
  .glo "_law_is",
  .glo "_law_signs",
  .glo "_law_term",
  .glo "_law_text",
  .glo "_law_word_at",
  .glo "_law_term_at",
  .glo "_law_read",
  .glo "_law_spoiled",
  .glo "_law_told_of",
  .glo "law"]
def hdFa_1 : List He.Fa := [.glo "Bank",
  .cls "Bank",
  .mkr "Bank",
  .meth "Bank" "number_of",
  .meth "Bank" "take",
  .meth "Bank" "take_lines",
  .noat "Bank" "table",
  .noat "Bank" "shapes",
  .noat "Bank" "terms",
  .glo "Lore",
  .cls "Lore",
  .mkr "Lore",
  .noat "Lore" "signs",
  .noat "Lore" "lines",
  .glo "TermReader",
  .cls "TermReader",
  .mkr "TermReader",
  .meth "TermReader" "takes",
  .meth "TermReader" "takes_letter",
  .meth "TermReader" "takes_bracket",
  .meth "TermReader" "ends_part",
  .meth "TermReader" "term_here",
  .meth "TermReader" "finished",
  .noat "TermReader" "places",
  .noat "TermReader" "heads",
  .noat "TermReader" "word",
  .noat "TermReader" "frames",
  .noat "TermReader" "whole",
  .glo "LoreError",
  .glo "BadText"]
def hdFa_2 : List He.Fa := [.noat "BadText" "place",
  .exm "BadText" "BadText" true,
  .str "LETTERS" "abcdefghijklmnopqrstuvwxyz",
  .int "MOST_LETTERS" 8,
  .int "MOST_PLACES" 2,
  .int "MOST_SIGNS" 12,
  .int "MOST_LINES" 24,
  .int "MOST_TOLD" 60,
  .free "ValueError",
  .free "abs",
  .free "all",
  .free "any",
  .free "bool",
  .free "dict",
  .free "enumerate",
  .free "int",
  .free "isinstance",
  .free "len",
  .free "list",
  .free "max",
  .free "range",
  .free "repr",
  .free "reversed",
  .free "sorted",
  .free "str",
  .free "sum",
  .free "tuple"]
def hdFa : List He.Fa := hdFa_0 ++ hdFa_1 ++ hdFa_2
def hdLoose_0 : List Str := ["LoreError",
  "BadLore",
  "BadText",
  "LETTERS",
  "MOST_LETTERS",
  "MOST_PLACES",
  "MOST_SIGNS",
  "is_integer",
  "is_number_below",
  "is_tuple_of",
  "is_sign",
  "is_placed_sign",
  "are_signs",
  "fits",
  "nodes",
  "words",
  "from_within",
  "Bank",
  "MOST_LINES",
  "MOST_TOLD",
  "Lore",
  "flat",
  "fits_line",
  "bank_of_told",
  "told_in",
  "beginnings",
  "TermReader",
  "parsed",
  "read_term",
  "_law_pool"]
def hdLoose_1 : List Str := ["_law_draw",
  "_law_deep",
  "_law_is",
  "_law_signs",
  "_law_term",
  "_law_text",
  "_law_word_at",
  "_law_term_at",
  "_law_read",
  "_law_spoiled",
  "_law_told_of"]
def hdLoose : List Str := hdLoose_0 ++ hdLoose_1
def hdTf : List He.Defn := [("Bank", some "take")]
/-- a name of the top that is a tuple of pairs (text, int), no dicts of their own -/
def pairB (K : PySem.W.Frag) (e : Str × Int) : Value → Bool
  | .ref q => (match K.lookup q with
    | some ⟨.type c, _, .seq its _, _⟩ => decide (c = "tuple") && (decide (its.size ≤ sizeLine) && He.relAll [.str e.1, .int e.2] its.toList)
    | _ => false)
  | _ => false
def pairsB (K : PySem.W.Frag) : List (Str × Int) → List Value → Bool
  | [], [] => true
  | e :: es, u :: us => pairB K e u && pairsB K es us
  | _, _ => false
def tupPB (K : PySem.W.Frag) (x : Str) (es : List (Str × Int)) : Bool := match K.lookup (He.ga K x) with
  | some ⟨.type c, none, .seq its _, _⟩ => decide (c = "tuple") && (decide (its.size ≤ sizeLine) && pairsB K es its.toList)
  | _ => false
def ownEqB (K : PySem.W.Frag) (C : Str) : Bool :=
  He.eqO (PySem.W.findIn K (.ref (He.ga K C)) "__eq__") (some (some (.ref (He.ma K (He.ga K C) "__eq__")))) && (PySem.W.isFn K (.ref (He.ma K (He.ga K C) "__eq__")) && (He.eqO (PySem.W.findIn K (.ref (He.ga K C)) "__ne__") (some (some (.builtin "object.__ne__"))) && decide (PySem.W.mroIn K (He.ga K C) (.type "object") = some true)))
def insB (K : PySem.W.Frag) (C : Str) : Bool :=
  He.eqO (PySem.W.findIn K (.ref (He.ga K C)) "__class__") (some (some (.builtin "object.__class__"))) && (He.eqO (PySem.W.specialIn K (.builtin "object.__class__") "__get__") (some (some (.builtin "getset_descriptor.__get__"))) && (decide (PySem.W.takesIn K (.builtin "object.__class__") = some true) && decide (PySem.W.mroIn K (He.ga K C) (.type "object") = some true)))
def isVI : Option PySem.W.CFound → Bool
  | some (.val (.builtin n)) => n == "ValueError.__init__"
  | _ => false
theorem isVI_ok {o : Option PySem.W.CFound} (h : isVI o = true) : o = some (.val (.builtin "ValueError.__init__")) := by
  unfold isVI at h
  split at h
  · rw [beq_iff_eq.mp h]
  · cases h
/-- what the written part says of an exception of its own -/
def oexB (K : PySem.W.Frag) (x : Str) : Bool :=
  (match K.lookup (He.ga K x) with
    | some ⟨.type "type", _, .cls cd, sl⟩ => (match cd.mro, sl.toList with
      | .ref C' :: bm, [_, _, _, _, some (.builtin n), _] => C' == He.ga K x && (n == "ValueError.__new__" && (!cd.hasDel && (cd.hasDict && PySem.HandSPX.refsVE bm)))
      | _, _ => false)
    | _ => false) && (He.eqO (PySem.W.findIn K (.ref (He.ga K x)) "__setattr__") (some (some (.builtin "object.__setattr__"))) && (decide (PySem.W.subIn K (.ref (He.ga K x)) (.type "BaseException") = some true) && (decide (PySem.W.typeIn K (.ref (He.ga K x)) = some (.type "type")) && (PySem.W.keepIn K (.ref (He.ga K x)) &&
    (He.eqO (PySem.W.findIn K (.ref (He.ga K x)) "__init__") (some (some (.ref (He.ma K (He.ga K x) "__init__")))) && decide (PySem.W.typeIn K (.ref (He.ma K (He.ga K x) "__init__")) = some (.type "function")))))))
/-- what the written part says of a class whose caught instances are asked for theirs -/
def exiB (K : PySem.W.Frag) (x : Str) : Bool :=
  He.eqO (PySem.W.findIn K (.ref (He.ga K x)) "__getattribute__") (some (some (.builtin "BaseException.__getattribute__"))) && (He.eqO (PySem.W.findIn K (.ref (He.ga K x)) "__getattr__") (some none) && (decide (PySem.W.subIn K (.ref (He.ga K x)) (.type "BaseException") = some true) && (PySem.W.hasDictIn K (He.ga K x) &&
    (He.eqO (PySem.W.findIn K (.ref (He.ga K x)) "__class__") (some (some (.builtin "object.__class__"))) && (He.eqO (PySem.W.specialIn K (.builtin "object.__class__") "__get__") (some (some (.builtin "getset_descriptor.__get__"))) && (decide (PySem.W.takesIn K (.builtin "object.__class__") = some true) && decide (PySem.W.mroIn K (He.ga K x) (.type "object") = some true)))))))
def tabsNd (K : PySem.W.Frag) : Bool := decide ((hdTf.map fun d => (He.cT K d).2).Nodup)
def kitTwoB (K : PySem.W.Frag) (x y : Str) : Bool := decide (PySem.W.kitOne K (.ref (He.ga K x)) (.ref (He.ga K y)) = some true)
def xbaseB (K : PySem.W.Frag) (x : Str) : Bool :=
  He.eqO (PySem.W.specialIn K (.ref (He.ga K x)) "__getattribute__") (some (some (.builtin "type.__getattribute__"))) && (decide (PySem.W.typeIn K (.ref (He.ga K x)) = some (.type "type")) && (PySem.W.readsIn K (He.ga K x) (.type "type") && isVI (PySem.W.findCls K (.ref (He.ga K x)) (.type "type") "__init__")))
def kitNotB (K : PySem.W.Frag) (t : String) (C : Str) : Bool := decide (PySem.W.kitOne K (.type t) (.ref (He.ga K C)) = some false)
def kitTwoF (K : PySem.W.Frag) (x y : Str) : Bool := decide (PySem.W.kitOne K (.ref (He.ga K x)) (.ref (He.ga K y)) = some false)
def kitTwoT (K : PySem.W.Frag) (x : Str) (t : String) : Bool := decide (PySem.W.kitOne K (.ref (He.ga K x)) (.type t) = some true)
def kitTyF (K : PySem.W.Frag) (x : Str) (t : String) : Bool := decide (PySem.W.kitOne K (.ref (He.ga K x)) (.type t) = some false)
def nsTyB (K : PySem.W.Frag) (x : Str) (T : String) : Bool := He.eqO (PySem.W.nsIn K mainGlobals x) (some (some (.type T)))
def nsBiB (K : PySem.W.Frag) (x : Str) (T : String) : Bool := He.eqO (PySem.W.nsIn K mainGlobals x) (some (some (.builtin T)))
def kitB (K : PySem.W.Frag) (C : Str) : Bool := decide (PySem.W.kitOne K (.ref (He.ga K C)) (.ref (He.ga K C)) = some true)
def hdEx (K : PySem.W.Frag) : Bool := (ownEqB K "Lore" && (insB K "Lore" && (kitB K "Lore" && (oexB K "BadText" && (exiB K "BadText" && (kitTwoB K "BadText" "LoreError" && (kitTwoT K "BadText" "ValueError" && (xbaseB K "LoreError" && (kitTyF K "Lore" "str" && (tabsNd K && true))))))))))
abbrev hdR : PySem.W.OpenRow := PySem.W.OpenLaw.row PySem.Challenge.rw_neatbooks_k08_whole_texts_of_terms_sign
abbrev hdK : PySem.W.Hook := hookY 4 hdFa hdFn [] hdTf hdEx
def hdOb (s : PySem.W.SharedT) : He.AlX := seeY hdFa hdFn [] hdTf hdEx (HandSHeadRun.getT s) (placesY 4 (HandSHeadRun.getT s))
theorem hdOb_eq (s : PySem.W.SharedT) : hdOb s = hdK.obs s.abs := seeY_eq (HandSHeadRun.getT_eq s)
open HandSHeadRun PySem.W in
theorem hdRunA (w : World) (os : OsState) : ((endF (stepQ (denQ tabQ) hdR.prog w) 20000 hdR.prog w os)).map (fun x => (looksF hdR.prog (PySem.W.boot_heap w.params) x.abs, seenQ (PySem.W.view hdR.prog [47]) hdLoose (importedModules hdR.prog.main.body) (fun s => xlAt (PySem.W.view hdR.prog [47]) [] s && recOk hdR.toRowW.records s) x.abs)) = some (true, openGood (PySem.W.view hdR.prog [47]) hdLoose) := by
  kernel_rfl
open HandSHeadRun PySem.W in
theorem hdRunB (w : World) (os : OsState) : ((endF (stepQ (denQ tabQ) hdR.prog w) 20000 hdR.prog w os)).map (fun x => hdOb x) = some (hdK.val w) := by
  kernel_rfl
theorem hdRun (w : World) : HandSHeadRun.RunEq hdR (PySem.W.view hdR.prog [47]) hdK hdOb 20000 hdLoose w := fun os => run_two (hdRunA w os) (hdRunB w os)
end NB

set_option maxHeartbeats 4000000
/-! things as the judges see them -/
namespace NB
open PySem PySem.Spec PyProof.Rows L2 LamX
def othOk (K : PySem.W.Frag) (t : Value) : Prop := PySem.W.kitOne K t (.type "int") = some false ∧ PySem.W.kitOne K t (.type "bool") = some false ∧ PySem.W.kitOne K t (.type "str") = some false ∧ PySem.W.kitOne K t (.type "tuple") = some false
mutual
/-- v is seen as d; what is no int, bool, text or tuple is seen as None -/
inductive Jp (K : PySem.W.Frag) (H : Hp) : V → PyData → Prop
  | bl (b : Bool) : Jp K H (.bl b) (.bool b)
  | int (i : Int) : Jp K H (.int i) (.int i)
  | str (x : Str) : Jp K H (.str x) (.str x)
  | tup {a : Addr} {xs : List V} {ds : List PyData} : SqT K H a xs → JpAll K H xs ds → Jp K H (.ref a) (.tuple ds)
  | oth {v : V} {t : Value} : TyX K H v t → othOk K t → Jp K H v .none
inductive JpAll (K : PySem.W.Frag) (H : Hp) : List V → List PyData → Prop
  | nil : JpAll K H [] []
  | cons {v : V} {vs : List V} {d : PyData} {ds : List PyData} : Jp K H v d → JpAll K H vs ds → JpAll K H (v :: vs) (d :: ds)
end
theorem TyOf.same {K : PySem.W.Frag} {H H' : Hp} (e : Same H H') {v : V} {t : Value} (h : TyOf K H v t) : TyOf K H' v t := by
  cases h with
  | non => exact .non
  | bl => exact .bl _
  | int => exact .int _
  | str => exact .str _
  | flt => exact .flt _
  | lst q => exact .lst (e _ _ q)
  | frz q => exact .frz (e _ _ q)
  | tup q => exact .tup (e _ _ q)
  | dK q => exact .dK (e _ _ q)
  | dT q => exact .dT (e _ _ q)
  | ins q a b c d f => exact .ins (e _ _ q) a b c d f
theorem TyX.same {K : PySem.W.Frag} {H H' : Hp} (e : Same H H') {v : V} {t : Value} (h : TyX K H v t) : TyX K H' v t := by
  cases h with
  | base q => exact .base (TyOf.same e q)
  | byt b => exact .byt b
  | set q => exact .set (e _ _ q)
  | kList a c => exact .kList a c
  | kTuple a c => exact .kTuple a c
  | kDict a c => exact .kDict a c
  | fTuple q => exact .fTuple (e _ _ q)
  | fDict q => exact .fDict (e _ _ q)
mutual
theorem Jp.same {K : PySem.W.Frag} {H H' : Hp} (e : Same H H') : ∀ (d : PyData) (v : V), Jp K H v d → Jp K H' v d
  | .none, _, h => by
    cases h with
    | oth a b => exact .oth (TyX.same e a) b
  | .bool b, _, h => by cases h; exact .bl b
  | .int i, _, h => by cases h; exact .int i
  | .str x, _, h => by cases h; exact .str x
  | .list ds, _, h => by cases h
  | .tuple ds, _, h => by
    cases h with
    | tup hs ha => exact .tup (SqT.same hs e) (JpAll.same e ds _ ha)
  | .dict _, _, h => by cases h
theorem JpAll.same {K : PySem.W.Frag} {H H' : Hp} (e : Same H H') : ∀ (ds : List PyData) (vs : List V), JpAll K H vs ds → JpAll K H' vs ds
  | [], _, h => by cases h; exact .nil
  | d :: ds, _, h => by
    cases h with
    | cons h1 h2 => exact .cons (Jp.same e d _ h1) (JpAll.same e ds _ h2)
end
mutual
def jd : PyData → Bool
  | .none => false
  | .bool _ => true
  | .int _ => true
  | .str _ => true
  | .tuple ds => jds ds
  | .list _ => false
  | .dict _ => false
def jds : List PyData → Bool
  | [] => true
  | d :: ds => jd d && jds ds
end
mutual
theorem Dp.jp {K : PySem.W.Frag} {H : Hp} : ∀ (d : PyData) (v : V), jd d = true → Dp K H v d → Jp K H v d
  | .none, _, n, _ => by simp [jd] at n
  | .bool b, _, _, h => by cases h; exact .bl b
  | .int i, _, _, h => by cases h; exact .int i
  | .str x, _, _, h => by cases h; exact .str x
  | .list ds, _, n, h => by simp [jd] at n
  | .tuple ds, _, n, h => by
    cases h with
    | tup hs ha => exact .tup hs (DpAll.jp ds _ (by simpa [jd] using n) ha)
  | .dict _, _, n, h => by simp [jd] at n
theorem DpAll.jp {K : PySem.W.Frag} {H : Hp} : ∀ (ds : List PyData) (vs : List V), jds ds = true → DpAll K H vs ds → JpAll K H vs ds
  | [], _, _, h => by cases h; exact .nil
  | d :: ds, _, n, h => by
    cases h with
    | cons h1 h2 =>
      have q := Bool.and_eq_true_iff.mp (show (jd d && jds ds) = true from n)
      exact .cons (Dp.jp d _ q.1 h1) (DpAll.jp ds _ q.2 h2)
end
theorem sqT_ty {K : PySem.W.Frag} {H : Hp} {a : Addr} {xs : List V} (h : SqT K H a xs) : TyX K H (.ref a) (.type "tuple") := by
  rcases h with (h | ⟨o, h⟩) | ⟨o, its, n, h1, h2, _⟩
  · exact .base (.tup h)
  · exact .fTuple h
  · exact .kTuple h1 h2
/-! what isinstance says -/
def isIntD : PyData → Bool
  | .int _ => true
  | _ => false
def isBoolD : PyData → Bool
  | .bool _ => true
  | _ => false
def isStrD : PyData → Bool
  | .str _ => true
  | _ => false
def isTupD : PyData → Bool
  | .tuple _ => true
  | _ => false
theorem Jp.tyInt {K : PySem.W.Frag} {H : Hp} {v : V} {d : PyData} (h : Jp K H v d) : ∃ t, TyX K H v t ∧ PySem.W.kitOne K t (.type "int") = some (isIntD d || isBoolD d) := by
  cases h with
  | bl b =>
    have q : PySem.W.kitOne K (.type "bool") (.type "int") = some true := kit_ty (by decide +kernel)
    exact ⟨_, .base (.bl b), q⟩
  | int i =>
    have q : PySem.W.kitOne K (.type "int") (.type "int") = some true := kit_ty (by decide +kernel)
    exact ⟨_, .base (.int i), q⟩
  | str x =>
    have q : PySem.W.kitOne K (.type "str") (.type "int") = some false := kit_ty (by decide +kernel)
    exact ⟨_, .base (.str x), q⟩
  | tup hs _ =>
    have q : PySem.W.kitOne K (.type "tuple") (.type "int") = some false := kit_ty (by decide +kernel)
    exact ⟨_, sqT_ty hs, q⟩
  | oth a b => exact ⟨_, a, b.1⟩
theorem Jp.tyBool {K : PySem.W.Frag} {H : Hp} {v : V} {d : PyData} (h : Jp K H v d) : ∃ t, TyX K H v t ∧ PySem.W.kitOne K t (.type "bool") = some (isBoolD d) := by
  cases h with
  | bl b =>
    have q : PySem.W.kitOne K (.type "bool") (.type "bool") = some true := kit_ty (by decide +kernel)
    exact ⟨_, .base (.bl b), q⟩
  | int i =>
    have q : PySem.W.kitOne K (.type "int") (.type "bool") = some false := kit_ty (by decide +kernel)
    exact ⟨_, .base (.int i), q⟩
  | str x =>
    have q : PySem.W.kitOne K (.type "str") (.type "bool") = some false := kit_ty (by decide +kernel)
    exact ⟨_, .base (.str x), q⟩
  | tup hs _ =>
    have q : PySem.W.kitOne K (.type "tuple") (.type "bool") = some false := kit_ty (by decide +kernel)
    exact ⟨_, sqT_ty hs, q⟩
  | oth a b => exact ⟨_, a, b.2.1⟩
theorem Jp.tyStr {K : PySem.W.Frag} {H : Hp} {v : V} {d : PyData} (h : Jp K H v d) : ∃ t, TyX K H v t ∧ PySem.W.kitOne K t (.type "str") = some (isStrD d) := by
  cases h with
  | bl b =>
    have q : PySem.W.kitOne K (.type "bool") (.type "str") = some false := kit_ty (by decide +kernel)
    exact ⟨_, .base (.bl b), q⟩
  | int i =>
    have q : PySem.W.kitOne K (.type "int") (.type "str") = some false := kit_ty (by decide +kernel)
    exact ⟨_, .base (.int i), q⟩
  | str x =>
    have q : PySem.W.kitOne K (.type "str") (.type "str") = some true := kit_ty (by decide +kernel)
    exact ⟨_, .base (.str x), q⟩
  | tup hs _ =>
    have q : PySem.W.kitOne K (.type "tuple") (.type "str") = some false := kit_ty (by decide +kernel)
    exact ⟨_, sqT_ty hs, q⟩
  | oth a b => exact ⟨_, a, b.2.2.1⟩
theorem Jp.tyTup {K : PySem.W.Frag} {H : Hp} {v : V} {d : PyData} (h : Jp K H v d) : ∃ t, TyX K H v t ∧ PySem.W.kitOne K t (.type "tuple") = some (isTupD d) := by
  cases h with
  | bl b =>
    have q : PySem.W.kitOne K (.type "bool") (.type "tuple") = some false := kit_ty (by decide +kernel)
    exact ⟨_, .base (.bl b), q⟩
  | int i =>
    have q : PySem.W.kitOne K (.type "int") (.type "tuple") = some false := kit_ty (by decide +kernel)
    exact ⟨_, .base (.int i), q⟩
  | str x =>
    have q : PySem.W.kitOne K (.type "str") (.type "tuple") = some false := kit_ty (by decide +kernel)
    exact ⟨_, .base (.str x), q⟩
  | tup hs _ =>
    have q : PySem.W.kitOne K (.type "tuple") (.type "tuple") = some true := kit_ty (by decide +kernel)
    exact ⟨_, sqT_ty hs, q⟩
  | oth a b => exact ⟨_, a, b.2.2.2⟩
theorem JpAll.len {K : PySem.W.Frag} {H : Hp} : ∀ {vs : List V} {ds : List PyData}, JpAll K H vs ds → vs.length = ds.length
  | _, _, .nil => rfl
  | _, _, .cons _ t => congrArg (· + 1) (JpAll.len t)
theorem JpAll.get {K : PySem.W.Frag} {H : Hp} : ∀ {vs : List V} {ds : List PyData} {i : Nat} {v : V}, JpAll K H vs ds → vs[i]? = some v → ∃ d, ds[i]? = some d ∧ Jp K H v d
  | _, _, _, _, .nil, h => by simp at h
  | _, _, 0, _, .cons h _, h1 => by
    simp at h1
    subst h1
    exact ⟨_, rfl, h⟩
  | _, _, i + 1, _, .cons _ t, h1 => by
    obtain ⟨d, h2, h3⟩ := JpAll.get (i := i) t (by simpa using h1)
    exact ⟨d, by simpa using h2, h3⟩
theorem JpAll.app {K : PySem.W.Frag} {H : Hp} : ∀ {vs ws : List V} {ds es : List PyData}, JpAll K H vs ds → JpAll K H ws es → JpAll K H (vs ++ ws) (ds ++ es)
  | _, _, _, _, .nil, h => h
  | _, _, _, _, .cons h t, h2 => .cons h (JpAll.app t h2)
/-- ints below a limit -/
def belowD (n : Int) : PyData → Bool
  | .int i => decide (0 ≤ i) && decide (i < n)
  | _ => false
def itemsD : PyData → List PyData
  | .tuple ds => ds
  | _ => []
def intD : PyData → Int
  | .int i => i
  | _ => 0
def ascI (l : List Int) : Bool := (List.range (l.length - 1)).all fun k => decide (l.getD k 0 < l.getD (k + 1) 0)
def lotD (n : Int) (d : PyData) : Bool := isTupD d && ((itemsD d).all (belowD n) && ascI ((itemsD d).map intD))
theorem JpAll.ints {K : PySem.W.Frag} {H : Hp} {n : Int} : ∀ {vs : List V} {ds : List PyData}, JpAll K H vs ds → ds.all (belowD n) = true → vs = (ds.map intD).map V.int
  | _, _, .nil, _ => rfl
  | _, _, .cons (d := d) h t, e => by
    rw [List.all_cons, Bool.and_eq_true_iff] at e
    rw [List.map_cons, List.map_cons, ← JpAll.ints t e.2]
    cases h with
    | int i => rfl
    | _ => cases e.1
theorem take_snoc {α : Type} {xs : List α} {i : Nat} {x : α} (h : xs[i]? = some x) : xs.take (i + 1) = xs.take i ++ [x] := by
  rw [List.take_add_one, h]
  rfl
theorem _root_.L2.Same.upd {H H' : Hp} {D : Addr} {o : HO} (e : Same H H') (h : H D = none) : Same H (upd H' D o) := fun b u q => by
  rw [upd_ne (ne_of_none q h)]
  exact e _ _ q
theorem all_map {α : Type} (f : α → Bool) (xs : List α) : (xs.map f).all id = xs.all f := by
  induction xs with
  | nil => rfl
  | cons x xs ih => simp [List.all_cons]
theorem any_map {α : Type} (f : α → Bool) (xs : List α) : (xs.map f).any id = xs.any f := by
  induction xs with
  | nil => rfl
  | cons x xs ih => simp [List.any_cons]
mutual
/-- no text and no tuple within is longer than 100000 -/
def shortD : PyData → Bool
  | .str x => decide (x.length ≤ 100000)
  | .tuple ds => decide (ds.length ≤ 100000) && shortsD ds
  | _ => true
def shortsD : List PyData → Bool
  | [] => true
  | d :: ds => shortD d && shortsD ds
end
theorem shortsD_get : ∀ {ds : List PyData} {i : Nat} {d : PyData}, shortsD ds = true → ds[i]? = some d → shortD d = true
  | [], _, _, _, h => by simp at h
  | x :: xs, 0, d, h, e => by
    simp at e
    subst e
    exact (Bool.and_eq_true_iff.mp (show (shortD x && shortsD xs) = true from h)).1
  | x :: xs, i + 1, d, h, e => shortsD_get (ds := xs) (i := i) (Bool.and_eq_true_iff.mp (show (shortD x && shortsD xs) = true from h)).2 (by simpa using e)
theorem shortD_tup {ds : List PyData} (h : shortD (.tuple ds) = true) : ds.length ≤ 100000 ∧ shortsD ds = true := by
  have q := Bool.and_eq_true_iff.mp (show (decide (ds.length ≤ 100000) && shortsD ds) = true from h)
  exact ⟨of_decide_eq_true q.1, q.2⟩
theorem shortD_str {x : Str} (h : shortD (.str x) = true) : x.length ≤ 100000 := of_decide_eq_true h
def lettersZ : Str := "abcdefghijklmnopqrstuvwxyz"
def signS (x : Str) : Bool := decide (1 ≤ x.length) && (decide (x.length ≤ 8) && x.cps.toList.all fun c => decide (c ∈ lettersZ.cps.toList))
def signD : PyData → Bool
  | .str x => signS x
  | _ => false
def placedD : PyData → Bool
  | .tuple [s, n] => signD s && belowD 3 n
  | _ => false
def sgD : PyData → Str
  | .tuple [.str x, _] => x
  | _ => ""
def plD : PyData → Int
  | .tuple [_, .int n] => n
  | _ => 0
def strLt (a b : Str) : Bool := decide (a.cps.toList < b.cps.toList)
def ascS (l : List Str) : Bool := (List.range (l.length - 1)).all fun k => strLt (l.getD k "") (l.getD (k + 1) "")
def signsD (d : PyData) : Bool :=
  isTupD d && ((decide (1 ≤ (itemsD d).length) && decide ((itemsD d).length ≤ 12)) && ((itemsD d).all placedD && (ascS ((itemsD d).map sgD) && (itemsD d).any fun p => decide (plD p = 0))))
theorem JpAll.placed {K : PySem.W.Frag} {H : Hp} : ∀ {vs : List V} {ds : List PyData} {i : Nat}, JpAll K H vs ds → ds.all placedD = true → i < ds.length → ∃ b, vs[i]? = some (.ref b) ∧ SqT K H b [.str ((ds.map sgD).getD i ""), .int ((ds.map plD).getD i 0)]
  | _, _, i, .nil, _, h => absurd h (Nat.not_lt_zero _)
  | _, _, 0, .cons (d := d) h t, e, _ => by
    rw [List.all_cons, Bool.and_eq_true_iff] at e
    have e1 := e.1
    unfold placedD at e1
    split at e1
    · rename_i s n
      rw [Bool.and_eq_true_iff] at e1
      cases h with
      | tup hs ha =>
        cases ha with
        | cons h1 ha =>
          cases ha with
          | cons h2 ha =>
            cases ha
            cases h1 with
            | str x =>
              cases h2 with
              | int i => exact ⟨_, rfl, hs⟩
              | _ => cases e1.2
            | _ => cases e1.1
    · cases e1
  | _, _, i + 1, .cons (d := d) h t, e, hi => by
    rw [List.all_cons, Bool.and_eq_true_iff] at e
    obtain ⟨b, h1, h2⟩ := JpAll.placed (i := i) t e.2 (by simpa using hi)
    exact ⟨b, by simpa using h1, by simpa using h2⟩
theorem getD_lt {α : Type} {l : List α} {i : Nat} (h : i < l.length) (d : α) : l[i]? = some (l.getD i d) := by
  rw [List.getElem?_eq_getElem h]
  simp [h]
theorem placedD_ne : ∀ {ds : List PyData}, ds.length ≠ 2 → placedD (.tuple ds) = false
  | [], _ => rfl
  | [_], _ => rfl
  | [_, _], h => absurd rfl h
  | _ :: _ :: _ :: _, _ => rfl
theorem JpAll.two {K : PySem.W.Frag} {H : Hp} {xs : List V} {ds : List PyData} (h : JpAll K H xs ds) (e : ds.length = 2) : ∃ v w s n, xs = [v, w] ∧ ds = [s, n] ∧ Jp K H v s ∧ Jp K H w n := by
  cases h with
  | nil => cases e
  | cons h1 h =>
    cases h with
    | nil => cases e
    | cons h2 h =>
      cases h with
      | nil => exact ⟨_, _, _, _, rfl, rfl, h1, h2⟩
      | cons h3 h => cases e
end NB

/-! walks over nested things: stacks, terms that fit -/
namespace NB
open PySem PySem.Spec PyProof.Rows L2 LamX
/-- while, by a word that carries its measure -/
theorem while_ix {c : TT} {tb : TS} {D : Ends} {σ : L2.St} {H : Hp} (Pv : Nat → L2.St → Hp → Prop) (m0 : Nat) (h0 : Pv m0 σ H)
    (hs : ∀ m σ H, Pv m σ H → c σ H fun b H1 => if b = true then tb { D with nx := fun σ' H' => ∃ m', m' < m ∧ Pv m' σ' H', ct := fun σ' H' => ∃ m', m' < m ∧ Pv m' σ' H', bk := D.nx } σ H1 else D.nx σ H1)
    (mono : ∀ σ H Q Q', (∀ b H1, Q b H1 → Q' b H1) → c σ H Q → c σ H Q') :
    tWhile c tb D σ H := by
  refine ⟨Pv, ⟨m0, h0⟩, fun m σ H p => ?_⟩
  refine mono σ H _ _ (fun b H1 q => ?_) (hs m σ H p)
  cases b with
  | true => exact ⟨_, fun σ' H' z => z, q⟩
  | false => exact q
theorem last_rev {α : Type} (y : α) (zs : List α) : (y :: zs).reverse[(y :: zs).reverse.length - 1]? = some y := by
  rw [List.length_reverse, List.getElem?_reverse (by simp)]
  simp
theorem drop_rev {α : Type} (y : α) (zs : List α) : (y :: zs).reverse.dropLast = zs.reverse := by
  rw [List.reverse_cons, List.dropLast_concat]
theorem rev_app {α : Type} (zs ps : List α) : zs.reverse ++ ps = (ps.reverse ++ zs).reverse := by
  rw [List.reverse_append, List.reverse_reverse]
theorem rev_app' {α : Type} (zs ps : List α) : zs.reverse ++ ps.reverse = (ps ++ zs).reverse := by
  rw [List.reverse_append]
theorem isEmpty_rev {α : Type} (y : α) (zs : List α) : (y :: zs).reverse.isEmpty = false := by
  rw [List.reverse_cons]
  cases zs.reverse <;> rfl
/-- at p: a dict of texts to ints -/
def lookS (pl : List (Str × Int)) (s : Str) : Option Int := (pl.find? fun e => decide (e.1 = s)).map (·.2)
def PlcAt (H : Hp) (p : Addr) (pl : List (Str × Int)) : Prop := ∃ kvs : List (Key × V), H p = some (.dK kvs) ∧ ∀ s : Str, valV kvs (Sum.inr s) = (lookS pl s).map V.int
theorem PlcAt.same {H H' : Hp} {p : Addr} {pl : List (Str × Int)} (h : PlcAt H p pl) (e : Same H H') : PlcAt H' p pl := by
  obtain ⟨kvs, h1, h2⟩ := h
  exact ⟨kvs, e _ _ h1, h2⟩
mutual
def cntD : PyData → Nat
  | .tuple ds => 1 + cntsD ds
  | _ => 1
def cntsD : List PyData → Nat
  | [] => 0
  | d :: ds => cntD d + cntsD ds
end
theorem cntsD_len : ∀ ds : List PyData, ds.length ≤ cntsD ds
  | [] => Nat.le_refl _
  | d :: ds => by
    have h1 : 1 ≤ cntD d := by cases d <;> simp [cntD]
    have h2 := cntsD_len ds
    rw [cntsD, List.length_cons]
    omega
theorem cntsD_app : ∀ a b : List PyData, cntsD (a ++ b) = cntsD a + cntsD b
  | [], b => by rw [List.nil_append, cntsD, Nat.zero_add]
  | d :: ds, b => by rw [List.cons_append, cntsD, cntsD, cntsD_app ds b]; omega
theorem cntsD_rev (a : List PyData) : cntsD a.reverse = cntsD a := by
  induction a with
  | nil => rfl
  | cons d ds ih => rw [List.reverse_cons, cntsD_app, ih, cntsD, cntsD, cntsD]; omega
mutual
def fitsD (pl : List (Str × Int)) : PyData → Bool
  | .tuple (.str s :: ps) => (match lookS pl s with | some n => decide ((ps.length : Int) = n) | none => false) && fitsA pl ps
  | _ => false
def fitsA (pl : List (Str × Int)) : List PyData → Bool
  | [] => true
  | d :: ds => fitsD pl d && fitsA pl ds
end
theorem fitsA_all (pl : List (Str × Int)) : ∀ ds : List PyData, fitsA pl ds = ds.all (fitsD pl)
  | [] => by rw [fitsA]; rfl
  | d :: ds => by rw [fitsA, List.all_cons, fitsA_all pl ds]
theorem fitsA_app (pl : List (Str × Int)) (a b : List PyData) : fitsA pl (a ++ b) = (fitsA pl a && fitsA pl b) := by rw [fitsA_all, fitsA_all, fitsA_all, List.all_append]
theorem fitsA_rev (pl : List (Str × Int)) (a : List PyData) : fitsA pl a.reverse = fitsA pl a := by rw [fitsA_all, fitsA_all, List.all_reverse]
theorem fitsD_node (pl : List (Str × Int)) (s : Str) (ps : List PyData) : fitsD pl (.tuple (.str s :: ps)) = ((match lookS pl s with | some n => decide ((ps.length : Int) = n) | none => false) && fitsA pl ps) := by rw [fitsD]
theorem cutV_tail {α : Type} (y : V) (ys : List V) : cutV (y :: ys) (some 1) none = ys := by
  unfold cutV
  simp [HT.sIx]
  try omega
theorem JpAll.rev {K : PySem.W.Frag} {H : Hp} : ∀ {vs : List V} {ds : List PyData}, JpAll K H vs ds → JpAll K H vs.reverse ds.reverse
  | _, _, .nil => .nil
  | _, _, .cons h t => by
    rw [List.reverse_cons, List.reverse_cons]
    exact (JpAll.rev t).app (.cons h .nil)
theorem shortsD_all : ∀ ds : List PyData, shortsD ds = ds.all shortD
  | [] => rfl
  | d :: ds => by rw [shortsD, List.all_cons, shortsD_all ds]
theorem shortsD_mix {a b : List PyData} (h1 : shortsD a = true) (h2 : shortsD b = true) : shortsD (a.reverse ++ b) = true := by
  rw [shortsD_all] at h1 h2 ⊢
  rw [List.all_append, List.all_reverse, h1, h2]
  rfl
theorem whole_not (n : Nat) (hi : Option Int) : ¬ (HT.sIx (n + 1) 0 (some 1) = 0 ∧ HT.sIx (n + 1) (n + 1) hi = n + 1) := fun z => by
  have h := z.1
  unfold HT.sIx at h
  simp at h
  try omega
theorem cntD_str (x : Str) : cntD (.str x) = 1 := by
  unfold cntD
  rfl
def lineD (pl : List (Str × Int)) : PyData → Bool
  | .tuple [a, b] => fitsD pl a && fitsD pl b
  | _ => false
theorem lineD_ne {pl : List (Str × Int)} : ∀ {ds : List PyData}, ds.length ≠ 2 → lineD pl (.tuple ds) = false
  | [], _ => rfl
  | [_], _ => rfl
  | [_, _], h => absurd rfl h
  | _ :: _ :: _ :: _, _ => rfl
/-- a new place's list stands beside -/
theorem none_ne {H : Hp} {p q : Addr} {o : HO} (h : upd H p o q = none) : p ≠ q ∧ H q = none := by
  have n : p ≠ q := fun z => by
    rw [z, upd_same] at h
    cases h
  exact ⟨n, by rw [upd_ne n.symm] at h; exact h⟩
theorem DpAll.ref {K : PySem.W.Frag} {H : Hp} {t : Tm} {v : V} (h : Dp K H v t.data) : ∃ a ys, v = .ref a ∧ SqT K H a (.str t.sg :: ys) ∧ DpAll K H ys (Tm.datas t.parts) := by
  obtain ⟨s, ps⟩ := t
  rw [Tm.data] at h
  obtain ⟨a, xs, rfl, hs, ha⟩ := Dp.tupD h
  obtain ⟨x, ys, rfl, h1, h2⟩ := DpAll.consD ha
  rw [Dp.strD h1] at hs
  exact ⟨a, ys, rfl, hs, h2⟩
def keyD (t : Tm) : PyData := .tuple [.int ((Tm.pre t).length : Int), .tuple ((Tm.pre t).map fun x => .str x.sg)]
theorem DpAll.strs {K : PySem.W.Frag} {H : Hp} {α : Type} (f : α → Str) : ∀ xs : List α, DpAll K H (xs.map fun x => V.str (f x)) (xs.map fun x => PyData.str (f x))
  | [] => .nil
  | x :: xs => .cons (.str _) (DpAll.strs f xs)
end NB

/-! the forest that is left at each node of a walk; banks of terms -/
namespace NB
open PySem PySem.Spec PyProof.Rows L2 LamX
/-! ### the forests -/
def fstep : List Tm → List Tm
  | [] => []
  | .mk _ ps :: r => ps ++ r
def fore (t : Tm) : Nat → List Tm
  | 0 => [t]
  | j + 1 => fstep (fore t j)
theorem fore_drop (t : Tm) : ∀ j : Nat, (Tm.pre t).drop j = Tm.pres (fore t j)
  | 0 => by rw [fore, Tm.pres, Tm.pres, List.append_nil]; rfl
  | j + 1 => by
    have h := fore_drop t j
    have e : (Tm.pre t).drop (j + 1) = ((Tm.pre t).drop j).drop 1 := by rw [List.drop_drop]
    rw [e, h, fore]
    cases hf : fore t j with
    | nil => rfl
    | cons x r =>
      obtain ⟨s, ps⟩ := x
      rw [Tm.pres_step]
      rfl
theorem fore_head {t : Tm} {j : Nat} (h : j < (Tm.pre t).length) : ∃ s ps r, fore t j = .mk s ps :: r ∧ fore t (j + 1) = ps ++ r ∧ (Tm.pre t)[j]? = some (.mk s ps) := by
  have hd := fore_drop t j
  cases hf : fore t j with
  | nil =>
    rw [hf, Tm.pres] at hd
    have := congrArg List.length hd
    rw [List.length_drop] at this
    simp at this
    omega
  | cons x r =>
    obtain ⟨s, ps⟩ := x
    refine ⟨s, ps, r, rfl, by rw [fore, hf]; rfl, ?_⟩
    rw [hf, Tm.pres_step] at hd
    have := congrArg (·[0]?) hd
    simpa using this
theorem fore_end (t : Tm) : fore t (Tm.pre t).length = [] := by
  have h := fore_drop t (Tm.pre t).length
  rw [List.drop_length] at h
  cases hf : fore t (Tm.pre t).length with
  | nil => rfl
  | cons x r =>
    rw [hf, Tm.pres] at h
    have := Tm.pre_pos x
    have := congrArg List.length h
    rw [List.length_append] at this
    simp at this
    omega
/-! ### what stays but for lists that are not in S -/
def Kv (S : List Addr) (H H' : Hp) : Prop := ∀ b o, H b = some o → (∀ ps, o ≠ .tbl ps) → (b ∈ S ∨ ∀ xs, o ≠ .lst xs) → H' b = some o
theorem Kv.refl (S : List Addr) (H : Hp) : Kv S H H := fun _ _ h _ _ => h
theorem Kv.trans {S : List Addr} {H H1 H2 : Hp} (a : Kv S H H1) (b : Kv S H1 H2) : Kv S H H2 := fun c o h t n => b c o (a c o h t n) t n
theorem Kv.same {S : List Addr} {H H' : Hp} (e : Same H H') : Kv S H H' := fun b o h _ _ => e b o h
theorem Kv.updL {S : List Addr} {H : Hp} {p : Addr} {o : HO} {xs : List V} (h : H p = some (.lst xs)) (n : p ∉ S) : Kv S H (upd H p o) := fun b u e _ m => by
  have ne : b ≠ p := fun z => by
    rw [z] at e m
    rw [h] at e
    cases e
    rcases m with m | m
    · exact n m
    · exact m _ rfl
  rw [upd_ne ne]
  exact e
/-! ### the values of a forest -/
abbrev Rels (R : Tm → V → Prop) : List Tm → List V → Prop := Paired R
theorem Paired.splitL {α β : Type} {R : α → β → Prop} : ∀ {as bs : List α} {vs : List β}, Paired R (as ++ bs) vs → ∃ xs ys, vs = xs ++ ys ∧ Paired R as xs ∧ Paired R bs ys
  | [], bs, vs, h => ⟨[], vs, rfl, .nil, h⟩
  | a :: as, bs, _, h => by
    rw [List.cons_append] at h
    cases h with
    | cons h1 h2 =>
      obtain ⟨xs, ys, e, h3, h4⟩ := Paired.splitL h2
      exact ⟨_ :: xs, ys, by rw [e]; rfl, .cons h1 h3, h4⟩
theorem Paired.monoR {α β : Type} {R R' : α → β → Prop} (f : ∀ a b, R a b → R' a b) : ∀ {as : List α} {bs : List β}, Paired R as bs → Paired R' as bs
  | _, _, .nil => .nil
  | _, _, .cons h t => .cons (f _ _ h) (Paired.monoR f t)
/-- what from_within(term, maker) does, over what the maker promises: a state by J, what a value means by R -/
def fwTT (K : PySem.W.Frag) (T : List (Addr × Str)) (msp : List V → Hp → VK → Prop) (v : V) (H : Hp) (Q : VK) : Prop :=
  ∃ (t : Tm) (α : Type) (S : List Addr) (J : α → Hp → Prop) (R : α → Tm → V → Prop) (st : α → Tm → α) (a0 : α),
    Dp K H v (Tm.data t) ∧ (Tm.pre t).length ≤ 100000 ∧ J a0 H ∧ (∀ a H1, J a H1 → ∀ b ∈ S, H1 b ≠ none) ∧ Mut H S ∧
    (∀ a H1 H2, J a H1 → Kv S H1 H2 → J a H2) ∧ (∀ a x y v, R a x v → R (st a y) x v) ∧
    (∀ i a s ps vs pt H1, (Tm.pre t).reverse[i]? = some (.mk s ps) → a = ((Tm.pre t).reverse.take i).foldl st a0 → J a H1 → Fr T S H H1 → SqT K H1 pt vs → vs.length ≤ sizeLine → Rels (R a) ps vs →
      ∀ Q' : VK, (∀ v H2, J (st a (.mk s ps)) H2 → R (st a (.mk s ps)) (.mk s ps) v → Fr T S H1 H2 → Q' v H2) → msp [.str s, .ref pt] H1 Q') ∧
    ∀ v' H', Fr T S H H' → J ((Tm.pre t).reverse.foldl st a0) H' → R ((Tm.pre t).reverse.foldl st a0) t v' → Q v' H'
/-- all but O stays, tables too -/
def Sm (O : List Addr) (H H' : Hp) : Prop := ∀ b o, H b = some o → b ∉ O → H' b = some o
theorem Sm.refl (O : List Addr) (H : Hp) : Sm O H H := fun _ _ h _ => h
theorem Sm.trans {O : List Addr} {H H1 H2 : Hp} (a : Sm O H H1) (b : Sm O H1 H2) : Sm O H H2 := fun c o h n => b c o (a c o h n) n
theorem Sm.same {O : List Addr} {H H' : Hp} (e : Same H H') : Sm O H H' := fun b o h _ => e b o h
theorem Sm.upd {O : List Addr} {H : Hp} {p : Addr} {o : HO} (m : p ∈ O) : Sm O H (L2.upd H p o) := fun b u e n => by
  have ne : b ≠ p := fun z => n (by rw [z]; exact m)
  rw [upd_ne ne]
  exact e
/-- the places O hold lists or nothing -/
def Ow (H : Hp) (O : List Addr) : Prop := ∀ b ∈ O, H b = none ∨ ∃ xs, H b = some (.lst xs)
theorem Sm.tabs {O : List Addr} {H H' : Hp} {T : List (Addr × Str)} (e : Sm O H H') (w : Ow H O) (t : Tabs T H) : Tabs T H' := fun x hx => by
  obtain ⟨ps, a, b, c⟩ := t x hx
  have no : ∀ d o, H d = some o → (∀ xs, some o ≠ some (HO.lst xs)) → d ∉ O := fun d o h1 h2 m => by
    rcases w d m with h | ⟨xs, h⟩
    · rw [h1] at h
      cases h
    · rw [h1] at h
      exact h2 xs h
  refine ⟨ps, e _ _ a (no _ _ a fun xs z => nomatch z), b, fun pos cv hc => ?_⟩
  obtain ⟨d, e1, e2⟩ := c pos cv hc
  exact ⟨d, e1, e _ _ e2 (no _ _ e2 fun xs z => codeO_lst z.symm)⟩
theorem Sm.fr {O S : List Addr} {H H' : Hp} {T : List (Addr × Str)} (e : Sm O H H') (w : Ow H O) : Fr T O H H' := ⟨fun b o h n _ => e b o h n, e.tabs w⟩
theorem Sm.kv {O S : List Addr} {H H' : Hp} (e : Sm O H H') (w : Ow H O) (n : ∀ b ∈ O, b ∉ S) : Kv S H H' := fun b o h _ m => by
  refine e b o h fun z => ?_
  rcases m with m | m
  · exact n b z m
  · rcases w b z with q | ⟨xs, q⟩
    · rw [h] at q
      cases q
    · rw [h] at q
      cases q
      exact m _ rfl
/-- O's places were not there at H0, but for S and tables -/
def Nw (S O : List Addr) (H0 : Hp) : Prop := ∀ b ∈ O, ∀ o, H0 b = some o → b ∉ S → (∀ ps, o ≠ .tbl ps) → False
theorem Nw.nil {S O : List Addr} {H0 : Hp} (h : ∀ b ∈ O, H0 b = none) : Nw S O H0 := fun b hb o e _ _ => by
  rw [h b hb] at e
  cases e
theorem Nw.cons {S O : List Addr} {H0 H : Hp} {p : Addr} {T : List (Addr × Str)} (f : Fr T S H0 H) (h : H p = none) (n : Nw S O H0) : Nw S (p :: O) H0 := fun b hb o e m t => by
  rcases List.mem_cons.mp hb with q | q
  · rw [q] at e m
    rw [f.kp p o e m t] at h
    cases h
  · exact n b q o e m t
theorem Fr.sm {O S : List Addr} {H0 H H' : Hp} {T : List (Addr × Str)} (f : Fr T S H0 H) (e : Sm O H H') (w : Ow H O) (n : Nw S O H0) : Fr T S H0 H' :=
  ⟨fun b o h m t => e b o (f.kp b o h m t) (fun z => n b z o h m t), fun t => e.tabs w (f.tb t)⟩
theorem getD_take {α : Type} {l : List α} {q : Nat} {y : α} (h : l[q]? = some y) : l.drop q = y :: l.drop (q + 1) := by
  have hq := (List.getElem?_eq_some_iff.mp h)
  obtain ⟨h1, h2⟩ := hq
  rw [List.drop_eq_getElem_cons h1, h2]
theorem Imm.back {H : Hp} {p : Addr} {xs : List V} : Imm (L2.upd H p (.lst xs)) H := fun b ys => by
  by_cases e : b = p
  · subst e
    rw [upd_same]
    exact ⟨(fun z => nomatch z), (fun o z => nomatch z)⟩
  · rw [upd_ne e]
    exact ⟨id, fun _ => id⟩
theorem mem1 {b c : Addr} (h : b ∈ [c]) : b = c := List.mem_singleton.mp h
theorem mem2 {b c d : Addr} (h : b ∈ [c, d]) : b = c ∨ b = d := by simpa using h
end NB

/-! a bank: its terms, numbered -/
namespace NB
open PySem PySem.Spec PyProof.Rows L2 LamX
def nkey (s : Str) (ix : List Nat) : NestedKey := .tup [.text s, .tup (ix.map fun i : Nat => NestedKey.num (i : Int))]
theorem nums_inj : ∀ {a b : List Nat}, (a.map fun i : Nat => NestedKey.num (i : Int)) = (b.map fun i : Nat => NestedKey.num (i : Int)) → a = b
  | [], [], _ => rfl
  | [], _ :: _, h => nomatch h
  | _ :: _, [], h => nomatch h
  | x :: a, y :: b, h => by
    rw [List.map_cons, List.map_cons] at h
    injection h with h1 h2
    injection h1 with h1
    rw [nums_inj h2, show x = y by omega]
theorem nkey_inj {s s' : Str} {ix ix' : List Nat} (h : nkey s ix = nkey s' ix') : s = s' ∧ ix = ix' := by
  unfold nkey at h
  injection h with h
  injection h with h1 h2
  injection h1 with h1
  injection h2 with h2 _
  injection h2 with h2
  exact ⟨h1, nums_inj h2⟩
theorem datas_nums {K : PySem.W.Frag} {H : Hp} : ∀ ix : List Nat, DpAll K H (ix.map fun i : Nat => V.int (i : Int)) (NestedKey.datas (ix.map fun i : Nat => NestedKey.num (i : Int)))
  | [] => by rw [List.map_nil, List.map_nil, NestedKey.datas]; exact .nil
  | i :: ix => by
    rw [List.map_cons, List.map_cons, NestedKey.datas, NestedKey.data]
    exact .cons (.int _) (datas_nums ix)
theorem depth_nums : ∀ ix : List Nat, NestedKey.depthAll (ix.map fun i : Nat => NestedKey.num (i : Int)) = 0
  | [] => by rw [List.map_nil, NestedKey.depthAll]
  | i :: ix => by rw [List.map_cons, NestedKey.depthAll, NestedKey.depth, depth_nums ix]; rfl
theorem nkey_at {K : PySem.W.Frag} {H : Hp} {b pt : Addr} {s : Str} {ix : List Nat} (h1 : SqT K H b [.str s, .ref pt]) (h2 : SqT K H pt (ix.map fun i : Nat => V.int (i : Int))) : NKey K H b (nkey s ix) := by
  refine ⟨?_, ?_⟩
  · unfold nkey
    rw [NestedKey.data, NestedKey.datas, NestedKey.datas, NestedKey.datas, NestedKey.data, NestedKey.data]
    exact .tup h1 (.cons (.str _) (.cons (.tup h2 (datas_nums ix)) .nil))
  · unfold nkey
    rw [NestedKey.depth, NestedKey.depthAll, NestedKey.depthAll, NestedKey.depthAll, NestedKey.depth, NestedKey.depth, depth_nums]
    decide
open Classical in
noncomputable def addNew (B : List Tm) (t : Tm) : List Tm := if t ∈ B then B else B ++ [t]
theorem addNew_old {B : List Tm} {t : Tm} (h : t ∈ B) : addNew B t = B := by unfold addNew; rw [if_pos h]
theorem addNew_new {B : List Tm} {t : Tm} (h : t ∉ B) : addNew B t = B ++ [t] := by unfold addNew; rw [if_neg h]
def isAt (B : List Tm) (t : Tm) (v : V) : Prop := ∃ i : Nat, v = .int (i : Int) ∧ B[i]? = some t
theorem isAt.mono {B : List Tm} {x y : Tm} {v : V} (h : isAt B x v) : isAt (addNew B y) x v := by
  obtain ⟨i, e, h⟩ := h
  refine ⟨i, e, ?_⟩
  by_cases m : y ∈ B
  · rw [addNew_old m]
    exact h
  · rw [addNew_new m, List.getElem?_append_left (List.getElem?_eq_some_iff.mp h).1]
    exact h
/-- the numbers of a row of parts -/
theorem isAt.all {B : List Tm} : ∀ {ps : List Tm} {vs : List V}, Rels (isAt B) ps vs → ∃ ix : List Nat, vs = ix.map (fun i : Nat => V.int (i : Int)) ∧ ix.map (B[·]?) = ps.map some
  | _, _, .nil => ⟨[], rfl, rfl⟩
  | _, _, .cons h t => by
    obtain ⟨i, e, h⟩ := h
    obtain ⟨ix, e1, e2⟩ := isAt.all t
    exact ⟨i :: ix, by rw [e, e1]; rfl, by rw [List.map_cons, List.map_cons, h, e2]⟩
theorem nodup_idx {B : List Tm} (h : B.Nodup) {i j : Nat} {t : Tm} (h1 : B[i]? = some t) (h2 : B[j]? = some t) : i = j := by
  obtain ⟨a, a'⟩ := List.getElem?_eq_some_iff.mp h1
  obtain ⟨b, b'⟩ := List.getElem?_eq_some_iff.mp h2
  exact (List.getElem_inj h).mp (a'.trans b'.symm)
theorem ix_unique {B : List Tm} (h : B.Nodup) : ∀ {ix jx : List Nat} {ps : List Tm}, ix.map (B[·]?) = ps.map some → jx.map (B[·]?) = ps.map some → ix = jx
  | [], [], _, _, _ => rfl
  | [], _ :: _, [], _, h2 => nomatch h2
  | [], _ :: _, _ :: _, h1, _ => nomatch h1
  | _ :: _, [], [], h1, _ => nomatch h1
  | _ :: _, [], _ :: _, _, h2 => nomatch h2
  | _ :: _, _ :: _, [], h1, _ => nomatch h1
  | i :: ix, j :: jx, p :: ps, h1, h2 => by
    rw [List.map_cons, List.map_cons] at h1 h2
    injection h1 with a1 a2
    injection h2 with b1 b2
    rw [nodup_idx h a1 b1, ix_unique h a2 b2]
theorem ix_lt {B : List Tm} : ∀ {ix : List Nat} {ps : List Tm}, ix.map (B[·]?) = ps.map some → ∀ i ∈ ix, i < B.length
  | i :: ix, [], h, _, _ => nomatch h
  | i :: ix, p :: ps, h, j, m => by
    rw [List.map_cons, List.map_cons] at h
    injection h with a1 a2
    rcases List.mem_cons.mp m with q | q
    · rw [q]
      exact (List.getElem?_eq_some_iff.mp a1).1
    · exact ix_lt a2 j q
theorem ix_old {B : List Tm} {t : Tm} : ∀ {ix : List Nat} {ps : List Tm}, ix.map ((B ++ [t])[·]?) = ps.map some → (∀ i ∈ ix, i < B.length) → ix.map (B[·]?) = ps.map some
  | [], _, h, _ => h
  | i :: ix, [], h, _ => nomatch h
  | i :: ix, p :: ps, h, m => by
    rw [List.map_cons, List.map_cons] at h ⊢
    injection h with a1 a2
    rw [List.getElem?_append_left (m i (List.mem_cons_self ..))] at a1
    rw [a1, ix_old a2 fun j hj => m j (List.mem_cons_of_mem _ hj)]
theorem ix_new {B : List Tm} {t : Tm} : ∀ {ix : List Nat} {ps : List Tm}, ix.map ((B ++ [t])[·]?) = ps.map some → ¬ (∀ i ∈ ix, i < B.length) → t ∈ ps
  | [], _, _, m => absurd (fun i h => nomatch h) m
  | i :: ix, [], h, _ => nomatch h
  | i :: ix, p :: ps, h, m => by
    rw [List.map_cons, List.map_cons] at h
    injection h with a1 a2
    by_cases hi : i < B.length
    · refine List.mem_cons_of_mem _ (ix_new a2 fun z => m fun j hj => ?_)
      rcases List.mem_cons.mp hj with q | q
      · rw [q]
        exact hi
      · exact z j q
    · have hl := (List.getElem?_eq_some_iff.mp a1).1
      rw [List.length_append] at hl
      have e : i = B.length := by
        simp at hl
        omega
      rw [e] at a1
      simp at a1
      rw [a1]
      exact List.mem_cons_self ..
theorem mem_pre_self (t : Tm) : t ∈ Tm.pre t := by
  cases t
  rw [Tm.pre]
  exact List.mem_cons_self ..
theorem part_lt : ∀ (ps : List Tm) (p : Tm), p ∈ ps → (Tm.pre p).length ≤ (Tm.pres ps).length
  | [], _, h => nomatch h
  | x :: ps, p, h => by
    rw [Tm.pres, List.length_append]
    rcases List.mem_cons.mp h with q | q
    · rw [q]
      omega
    · have := part_lt ps p q
      omega
theorem not_part (s : Str) (ps : List Tm) (t : Tm) (e : t = .mk s ps) : t ∉ ps := fun h => by
  have := part_lt ps t h
  rw [e, Tm.pre, List.length_cons] at this
  omega
/-- the numbers that the table tells -/
structure BankOk (kvs : List NE) (B : List Tm) : Prop where
  nd : B.Nodup
  len : kvs.length ≤ B.length
  clo : ∀ x ∈ B, ∀ p ∈ x.parts, p ∈ B
  val : ∀ (s : Str) (ix : List Nat) (ps : List Tm), ix.map (B[·]?) = ps.map some → (∃ i : Nat, B[i]? = some (.mk s ps) ∧ valN kvs (nkey s ix) = some (.int (i : Int))) ∨ (Tm.mk s ps ∉ B ∧ valN kvs (nkey s ix) = none)
  low : ∀ (s : Str) (ix : List Nat) (v : V), valN kvs (nkey s ix) = some v → ∀ i ∈ ix, i < B.length
theorem BankOk.nil : BankOk [] [] := ⟨List.nodup_nil, Nat.le_refl _, (fun _ h => nomatch h), (fun s ix ps _ => .inr ⟨(fun h => nomatch h), rfl⟩), (fun _ _ _ h => nomatch h)⟩
theorem mem_of_ix {B : List Tm} : ∀ {ix : List Nat} {ps : List Tm}, ix.map (B[·]?) = ps.map some → ∀ p ∈ ps, p ∈ B
  | [], p :: ps, h, _, _ => nomatch h
  | i :: ix, p :: ps, h, q, m => by
    rw [List.map_cons, List.map_cons] at h
    injection h with a1 a2
    rcases List.mem_cons.mp m with z | z
    · rw [z]
      exact List.mem_of_getElem? a1
    · exact mem_of_ix a2 q z
theorem BankOk.add {kvs : List NE} {B : List Tm} (o : BankOk kvs B) {s : Str} {ix : List Nat} {ps : List Tm} {b : Addr} (h : ix.map (B[·]?) = ps.map some) (hn : Tm.mk s ps ∉ B) (hv : valN kvs (nkey s ix) = none) : BankOk (putN kvs (nkey s ix) b (.int (B.length : Int))) (B ++ [.mk s ps]) := by
  have hlow := ix_lt h
  refine ⟨?_, ?_, ?_, ?_, ?_⟩
  · rw [List.nodup_append]
    exact ⟨o.nd, (by simp : [Tm.mk s ps].Nodup), fun a ha c hc e => hn (by rw [← List.mem_singleton.mp hc, ← e]; exact ha)⟩
  · have := putN_len kvs (nkey s ix) b (.int (B.length : Int))
    have := o.len
    rw [List.length_append, List.length_singleton]
    omega
  · intro x hx p hp
    refine List.mem_append_left _ ?_
    rcases List.mem_append.mp hx with q | q
    · exact o.clo x q p hp
    · rw [List.mem_singleton.mp q] at hp
      exact mem_of_ix h p hp
  · intro s' ix' ps' h'
    rw [putN_new hv, valN_app hv]
    by_cases e : nkey s ix = nkey s' ix'
    · obtain ⟨rfl, rfl⟩ := nkey_inj e
      rw [if_pos rfl]
      have h2 := ix_old h' hlow
      have eps : ps' = ps := by
        have := h2.symm.trans h
        exact (List.map_inj_right (fun _ _ z => Option.some.inj z)).mp this
      rw [eps]
      exact .inl ⟨B.length, by simp, rfl⟩
    · rw [if_neg e]
      by_cases hl : ∀ i ∈ ix', i < B.length
      · have h2 := ix_old h' hl
        rcases o.val s' ix' ps' h2 with ⟨i, a1, a2⟩ | ⟨a1, a2⟩
        · refine .inl ⟨i, ?_, a2⟩
          rw [List.getElem?_append_left (List.getElem?_eq_some_iff.mp a1).1]
          exact a1
        · refine .inr ⟨fun m => ?_, a2⟩
          rcases List.mem_append.mp m with q | q
          · exact a1 q
          · have z := List.mem_singleton.mp q
            injection z with z1 z2
            subst z1 z2
            exact e (by rw [ix_unique o.nd h h2])
      · have ht := ix_new h' hl
        refine .inr ⟨fun m => ?_, ?_⟩
        · rcases List.mem_append.mp m with q | q
          · exact hn (o.clo _ q _ ht)
          · have z := List.mem_singleton.mp q
            injection z with z1 z2
            rw [z2] at ht
            exact not_part s ps _ rfl ht
        · cases q : valN kvs (nkey s' ix') with
          | none => rfl
          | some v => exact absurd (o.low s' ix' v q) hl
  · intro s' ix' v h' i hi
    rw [putN_new hv, valN_app hv] at h'
    rw [List.length_append, List.length_singleton]
    by_cases e : nkey s ix = nkey s' ix'
    · obtain ⟨rfl, rfl⟩ := nkey_inj e
      have := hlow i hi
      omega
    · rw [if_neg e] at h'
      have := o.low s' ix' v h' i hi
      omega
/-! ### where a bank stands -/
def bf (ta sh te : Addr) : List (Str × V) := putF "terms" (.ref te) (putF "shapes" (.ref sh) (putF "table" (.ref ta) []))
theorem ne_ts : ¬ (("table" : Str) = "shapes") := by decide +kernel
theorem ne_tt : ¬ (("table" : Str) = "terms") := by decide +kernel
theorem ne_st : ¬ (("shapes" : Str) = "terms") := by decide +kernel
theorem bf_table (ta sh te : Addr) : (bf ta sh te).lookup ("table" : Str) = some (.ref ta) := by
  unfold bf
  rw [lookup_putF, if_neg ne_tt, lookup_putF, if_neg ne_ts, lookup_putF, if_pos rfl]
theorem bf_shapes (ta sh te : Addr) : (bf ta sh te).lookup ("shapes" : Str) = some (.ref sh) := by
  unfold bf
  rw [lookup_putF, if_neg ne_st, lookup_putF, if_pos rfl]
theorem bf_terms (ta sh te : Addr) : (bf ta sh te).lookup ("terms" : Str) = some (.ref te) := by
  unfold bf
  rw [lookup_putF, if_pos rfl]
theorem bf_no (ta sh te : Addr) {m : Str} (h1 : ¬ m = "table") (h2 : ¬ m = "shapes") (h3 : ¬ m = "terms") : (bf ta sh te).lookup m = none := by
  unfold bf
  rw [lookup_putF, if_neg h3, lookup_putF, if_neg h2, lookup_putF, if_neg h1]
  all_goals rfl
/-- a shape: a sign and the numbers of the parts -/
def shD (x : Str × List Nat) : PyData := .tuple [.str x.1, .tuple (x.2.map fun i : Nat => PyData.int (i : Int))]
structure ShOk (B : List Tm) (shs : List (Str × List Nat)) : Prop where
  len : shs.length = B.length
  get : ∀ (i : Nat) (s : Str) (ix : List Nat), shs[i]? = some (s, ix) → ∃ ps, B[i]? = some (.mk s ps) ∧ ix.map (B[·]?) = ps.map some ∧ ∀ j ∈ ix, j < i
theorem ix_mono {B C : List Tm} : ∀ {ix : List Nat} {ps : List Tm}, ix.map (B[·]?) = ps.map some → ix.map ((B ++ C)[·]?) = ps.map some
  | [], _, h => h
  | i :: ix, [], h => nomatch h
  | i :: ix, p :: ps, h => by
    rw [List.map_cons, List.map_cons] at h ⊢
    injection h with a1 a2
    rw [ix_mono a2, List.getElem?_append_left (List.getElem?_eq_some_iff.mp a1).1, a1]
theorem ShOk.add {B : List Tm} {shs : List (Str × List Nat)} (o : ShOk B shs) {s : Str} {ix : List Nat} {ps : List Tm} (h : ix.map (B[·]?) = ps.map some) : ShOk (B ++ [.mk s ps]) (shs ++ [(s, ix)]) := by
  refine ⟨by rw [List.length_append, List.length_append, o.len]; rfl, fun i s' ix' hi => ?_⟩
  by_cases hl : i < shs.length
  · rw [List.getElem?_append_left hl] at hi
    obtain ⟨ps', h1, h2, h3⟩ := o.get i s' ix' hi
    exact ⟨ps', by rw [List.getElem?_append_left (by rw [← o.len]; exact hl)]; exact h1, ix_mono h2, h3⟩
  · have hi2 := (List.getElem?_eq_some_iff.mp hi).1
    rw [List.length_append, List.length_singleton] at hi2
    obtain rfl : i = shs.length := by omega
    rw [List.getElem?_append_right (Nat.le_refl _), Nat.sub_self] at hi
    cases hi
    exact ⟨ps, by rw [o.len, List.getElem?_append_right (Nat.le_refl _), Nat.sub_self]; rfl, ix_mono h, fun j hj => by rw [o.len]; exact ix_lt h j hj⟩
def ShpAt (K : PySem.W.Frag) (H : Hp) (vsh : List V) (B : List Tm) : Prop := ∃ shs, DpAll K H vsh (shs.map shD) ∧ ShOk B shs
theorem ShpAt.len {K : PySem.W.Frag} {H : Hp} {vsh : List V} {B : List Tm} (h : ShpAt K H vsh B) : vsh.length = B.length := by
  obtain ⟨shs, h1, h2⟩ := h
  rw [h1.len, List.length_map, h2.len]
theorem nls_ints (ix : List Nat) : nls (ix.map fun i : Nat => PyData.int (i : Int)) = true := by
  induction ix with
  | nil => rfl
  | cons i ix ih => rw [List.map_cons, nls, ih]; rfl
theorem nls_shs (shs : List (Str × List Nat)) : nls (shs.map shD) = true := by
  induction shs with
  | nil => rfl
  | cons x shs ih => rw [List.map_cons, nls, ih, shD, nl, nls, nls, nls, nl, nl, nls_ints]; rfl
theorem ShpAt.imm {K : PySem.W.Frag} {H H' : Hp} {vsh : List V} {B : List Tm} (e : Imm H H') (h : ShpAt K H vsh B) : ShpAt K H' vsh B := by
  obtain ⟨shs, h1, h2⟩ := h
  exact ⟨shs, DpAll.imm e _ _ (nls_shs shs) h1, h2⟩
theorem ShpAt.nil {K : PySem.W.Frag} {H : Hp} : ShpAt K H [] [] := ⟨[], .nil, rfl, fun i s ix h => by simp at h⟩
theorem ShpAt.add {K : PySem.W.Frag} {H : Hp} {vsh : List V} {B : List Tm} {v : V} {s : Str} {ix : List Nat} {ps : List Tm} (h : ShpAt K H vsh B) (hd : Dp K H v (shD (s, ix))) (e : ix.map (B[·]?) = ps.map some) : ShpAt K H (vsh ++ [v]) (B ++ [.mk s ps]) := by
  obtain ⟨shs, h1, h2⟩ := h
  exact ⟨shs ++ [(s, ix)], by rw [List.map_append]; exact h1.app (.cons hd .nil), h2.add e⟩
theorem nkey_data (s : Str) (ix : List Nat) : (nkey s ix).data = shD (s, ix) := by
  have h : ∀ ix : List Nat, NestedKey.datas (ix.map fun i : Nat => NestedKey.num (i : Int)) = ix.map fun i : Nat => PyData.int (i : Int) := by
    intro ix
    induction ix with
    | nil => rw [List.map_nil, List.map_nil, NestedKey.datas]
    | cons i ix ih => rw [List.map_cons, List.map_cons, NestedKey.datas, NestedKey.data, ih]
  unfold nkey shD
  rw [NestedKey.data, NestedKey.datas, NestedKey.datas, NestedKey.datas, NestedKey.data, NestedKey.data, h]
/-- a bank of the terms B at self -/
def BankAt (P : Program) (w : World) (K : PySem.W.Frag) (C self dx ta sh te : Addr) (B : List Tm) (H : Hp) : Prop :=
  H self = some (.ins C dx (bf ta sh te)) ∧ sh ≠ te ∧ ∃ (kvs : List NE) (vsh vte : List V), NDct P w K H ta kvs ∧ H sh = some (.lst vsh) ∧ H te = some (.lst vte) ∧ ShpAt K H vsh B ∧ DpAll K H vte (Tm.datas B) ∧ BankOk kvs B
def bS (ta sh te : Addr) : List Addr := [ta, sh, te]
theorem mem_bS {b ta sh te : Addr} (h : b ∈ bS ta sh te) : b = ta ∨ b = sh ∨ b = te := by simpa [bS] using h
theorem nl_key (s : Str) : True := True.intro
mutual
theorem nl_nested : ∀ k : NestedKey, nl k.data = true
  | .none => by rw [NestedKey.data]; rfl
  | .num _ => by rw [NestedKey.data]; rfl
  | .text _ => by rw [NestedKey.data]; rfl
  | .tup ks => by rw [NestedKey.data, nl]; exact nls_nested ks
theorem nls_nested : ∀ ks : List NestedKey, nls (NestedKey.datas ks) = true
  | [] => by rw [NestedKey.datas]; rfl
  | k :: ks => by rw [NestedKey.datas, nls, nl_nested k, nls_nested ks]; rfl
end
theorem NKey.imm {K : PySem.W.Frag} {H H' : Hp} {b : Addr} {k : NestedKey} (e : Imm H H') (h : NKey K H b k) : NKey K H' b k := ⟨Dp.imm e _ _ (nl_nested k) h.1, h.2⟩
theorem Kv.imm {S : List Addr} {H H' : Hp} (e : Kv S H H') : Imm H H' := fun b xs => ⟨fun h => e b _ h (fun _ z => nomatch z) (.inr fun _ z => nomatch z), fun o h => e b _ h (fun _ z => nomatch z) (.inr fun _ z => nomatch z)⟩
theorem NDct.kv {P : Program} {w : World} {K : PySem.W.Frag} {S : List Addr} {H H' : Hp} {a : Addr} {kvs : List NE} (e : Kv S H H') (h : NDct P w K H a kvs) : NDct P w K H' a kvs :=
  ⟨e a _ h.at_ (fun _ z => by unfold DN at z; cases z) (.inr fun _ z => by unfold DN at z; cases z), fun x hx => (h.keys x hx).imm e.imm⟩
theorem BankAt.kv {P : Program} {w : World} {K : PySem.W.Frag} {C self dx ta sh te : Addr} {B : List Tm} {H H' : Hp} (e : Kv (bS ta sh te) H H') (h : BankAt P w K C self dx ta sh te B H) : BankAt P w K C self dx ta sh te B H' := by
  obtain ⟨h1, h2, kvs, vsh, vte, h3, h4, h5, h6, h7, h8⟩ := h
  exact ⟨e _ _ h1 (fun _ z => nomatch z) (.inr fun _ z => nomatch z), h2, kvs, vsh, vte, h3.kv e, e _ _ h4 (fun _ z => nomatch z) (.inl (by simp [bS])), e _ _ h5 (fun _ z => nomatch z) (.inl (by simp [bS])), h6.imm e.imm, DpAll.imm e.imm _ _ (Tm.nl_datas B) h7, h8⟩
theorem BankAt.ex {P : Program} {w : World} {K : PySem.W.Frag} {C self dx ta sh te : Addr} {B : List Tm} {H : Hp} (h : BankAt P w K C self dx ta sh te B H) : ∀ b ∈ bS ta sh te, H b ≠ none := fun b hb => by
  obtain ⟨h1, h2, kvs, vsh, vte, h3, h4, h5, h6, h7, h8⟩ := h
  rcases mem_bS hb with q | q | q
  · rw [q, h3.at_]
    exact fun z => nomatch z
  · rw [q, h4]
    exact fun z => nomatch z
  · rw [q, h5]
    exact fun z => nomatch z
theorem BankAt.mut {P : Program} {w : World} {K : PySem.W.Frag} {C self dx ta sh te : Addr} {B : List Tm} {H : Hp} (h : BankAt P w K C self dx ta sh te B H) : Mut H (bS ta sh te) := fun b hb => by
  obtain ⟨h1, h2, kvs, vsh, vte, h3, h4, h5, h6, h7, h8⟩ := h
  rcases mem_bS hb with q | q | q
  · rw [q, h3.at_]
    exact ⟨fun _ => DN_tup, fun _ _ => DN_frz⟩
  · rw [q, h4]
    exact ⟨(fun _ z => nomatch z), (fun _ _ z => nomatch z)⟩
  · rw [q, h5]
    exact ⟨(fun _ z => nomatch z), (fun _ _ z => nomatch z)⟩
theorem hu16_of {A : Around} {k : Nat} (hr : Room k A) : A.units + 16 < cLine := by
  have := hr.un
  omega
theorem vals_of {K : PySem.W.Frag} {H : Hp} {vte : List V} {B : List Tm} (h : DpAll K H vte (Tm.datas B)) : ∀ {ix : List Nat} {ps : List Tm}, ix.map (B[·]?) = ps.map some → DpAll K H (ix.map fun i : Nat => vte.getD i .non) (Tm.datas ps)
  | [], [], _ => .nil
  | [], _ :: _, e => nomatch e
  | _ :: _, [], e => nomatch e
  | i :: ix, p :: ps, e => by
    rw [List.map_cons, List.map_cons] at e
    injection e with a1 a2
    rw [List.map_cons, Tm.datas]
    refine .cons ?_ (vals_of h a2)
    have hi : i < vte.length := by
      rw [h.len, Tm.datas_len]
      exact (List.getElem?_eq_some_iff.mp a1).1
    exact h.get (getD_lt hi _) (by rw [Tm.datas_map, List.getElem?_map, a1]; rfl)
theorem addNew_len (B : List Tm) (t : Tm) : (addNew B t).length ≤ B.length + 1 := by
  by_cases h : t ∈ B
  · rw [addNew_old h]
    omega
  · rw [addNew_new h, List.length_append, List.length_singleton]; exact Nat.le_refl _
theorem addAll_len : ∀ (l : List Tm) (B : List Tm), (l.foldl addNew B).length ≤ B.length + l.length
  | [], B => Nat.le_refl _
  | t :: l, B => by
    rw [List.foldl_cons, List.length_cons]
    have := addAll_len l (addNew B t)
    have := addNew_len B t
    omega
/-- a def whose code object stands at c -/
structure CodeFun (K : PySem.W.Frag) (x qual : Str) (st : Stmt) (f : Addr) (fd : FuncData) (c : Addr) : Prop where
  ex : ∃ (oc : Value) (od : Option Addr) (kV doc pm : Value) (an : Option Addr) (ct : Value) (osl : Array (Option Value)),
    fd = PySem.W.fnOf x qual (defArgs st) (defBody st) (defScope st) .none kV doc pm an (.ref c) ct ∧ K.lookup f = some ⟨oc, od, .func fd, osl⟩ ∧ PySem.W.codeIn K (.ref c) qual = true
mutual
theorem pre_mem_len : ∀ (t x : Tm), x ∈ Tm.pre t → (Tm.pre x).length ≤ (Tm.pre t).length
  | .mk s ps, x, h => by
    rw [Tm.pre] at h
    rcases List.mem_cons.mp h with q | q
    · rw [q]
      exact Nat.le_refl _
    · have := pres_mem_len ps x q
      rw [Tm.pre, List.length_cons]
      omega
theorem pres_mem_len : ∀ (ts : List Tm) (x : Tm), x ∈ Tm.pres ts → (Tm.pre x).length ≤ (Tm.pres ts).length
  | [], x, h => by rw [Tm.pres] at h; exact nomatch h
  | t :: ts, x, h => by
    rw [Tm.pres, List.length_append]
    rw [Tm.pres] at h
    rcases List.mem_append.mp h with q | q
    · have := pre_mem_len t x q
      omega
    · have := pres_mem_len ts x q
      omega
end
theorem parts_le {t : Tm} {s : Str} {ps : List Tm} (h : Tm.mk s ps ∈ Tm.pre t) : ps.length ≤ (Tm.pre t).length := by
  have h1 := pre_mem_len t _ h
  have h2 := Tm.pres_len ps
  rw [Tm.pre, List.length_cons] at h1
  omega
noncomputable def addT (B : List Tm) (t : Tm) : List Tm := (Tm.pre t).reverse.foldl addNew B
theorem addT_len (B : List Tm) (t : Tm) : (addT B t).length ≤ B.length + (Tm.pre t).length := by
  have := addAll_len (Tm.pre t).reverse B
  rw [List.length_reverse] at this
  exact this
abbrev Ln := Tm × Tm
def lnD (l : Ln) : PyData := .tuple [Tm.data l.1, Tm.data l.2]
def lnsD (ls : List Ln) : PyData := .tuple (ls.map lnD)
noncomputable def addL (B : List Tm) (l : Ln) : List Tm := addT (addT B l.1) l.2
def cntL : List Ln → Nat
  | [] => 0
  | l :: ls => (Tm.pre l.1).length + (Tm.pre l.2).length + cntL ls
theorem cntL_app : ∀ a b : List Ln, cntL (a ++ b) = cntL a + cntL b
  | [], b => by rw [List.nil_append, cntL, Nat.zero_add]
  | l :: ls, b => by rw [List.cons_append, cntL, cntL, cntL_app ls b]; omega
theorem addLs_len : ∀ (ls : List Ln) (B : List Tm), (ls.foldl addL B).length ≤ B.length + cntL ls
  | [], B => Nat.le_refl _
  | l :: ls, B => by
    rw [List.foldl_cons, cntL]
    have h1 := addLs_len ls (addL B l)
    have h2 := addT_len (addT B l.1) l.2
    have h3 := addT_len B l.1
    unfold addL at h1 ⊢
    omega
theorem cntL_get : ∀ {ls : List Ln} {i : Nat} {l : Ln}, ls[i]? = some l → cntL (ls.take i) + ((Tm.pre l.1).length + (Tm.pre l.2).length) ≤ cntL ls
  | [], i, l, h => by simp at h
  | x :: ls, 0, l, h => by
    simp at h
    subst h
    rw [List.take_zero, cntL, cntL]
    omega
  | x :: ls, i + 1, l, h => by
    have := cntL_get (ls := ls) (i := i) (l := l) (by simpa using h)
    rw [List.take_succ_cons, cntL, cntL]
    omega
theorem nl_lns (ls : List Ln) : nls (ls.map lnD) = true := by
  induction ls with
  | nil => rfl
  | cons l ls ih =>
    rw [List.map_cons, nls, ih, lnD, nl, nls, nls, Tm.nl_data, Tm.nl_data]
    rfl
theorem lnsAt {K : PySem.W.Frag} {H : Hp} {v : V} {ls : List Ln} (h : Dp K H v (lnsD ls)) : ∃ a xs, v = .ref a ∧ SqT K H a xs ∧ DpAll K H xs (ls.map lnD) := Dp.tupD h
theorem lnAt {K : PySem.W.Frag} {H : Hp} {v : V} {l : Ln} (h : Dp K H v (lnD l)) : ∃ a x y, v = .ref a ∧ SqT K H a [x, y] ∧ Dp K H x (Tm.data l.1) ∧ Dp K H y (Tm.data l.2) := by
  obtain ⟨a, xs, rfl, hs, ha⟩ := Dp.tupD h
  obtain ⟨x, ws, rfl, h1, ha⟩ := DpAll.consD ha
  obtain ⟨y, ws, rfl, h2, ha⟩ := DpAll.consD ha
  rw [DpAll.nilD ha] at hs
  exact ⟨a, x, y, rfl, hs, h1, h2⟩
end NB

/-! lores: signs, lines -/
namespace NB
open PySem PySem.Spec PyProof.Rows L2 LamX
theorem walk_enumT {K : PySem.W.Frag} {a : Addr} {xs : List V} : Walk (IeT K a) xs.length (fun H => SqT K H a xs) (YPair (fun i => some (.int (i : Nat))) (fun i => xs[i]?)) := by
  refine ⟨fun i _ hi q => ⟨xs, xs[i], q, by simp [hi]⟩, fun _ q => ⟨xs, q, rfl⟩, fun i H v H' _ q y => ?_⟩
  obtain ⟨T, x, h1, h2, h3, h4⟩ := y
  exact ⟨T, .int (i : Nat), x, h1, h2, h3, rfl, h4 xs q⟩
abbrev Sg := Str × Int
def sg1 (e : Sg) : PyData := .tuple [.str e.1, .int e.2]
def sgsD (sg : List Sg) : PyData := .tuple (sg.map sg1)
def kvS (e : Sg) : Key × V := (Sum.inr e.1, .int e.2)
theorem val_merge (j : Key) : ∀ (more kvs : List (Key × V)), valV (mergeK kvs more) j = match valV more.reverse j with | some v => some v | none => valV kvs j
  | [], kvs => rfl
  | p :: more, kvs => by
    have ih := val_merge j more (putK kvs p.1 p.2)
    show valV (mergeK (putK kvs p.1 p.2) more) j = _
    rw [ih, List.reverse_cons]
    have key : ∀ l : List (Key × V), valV (l ++ [p]) j = match valV l j with | some v => some v | none => if j = p.1 then some p.2 else none := by
      intro l
      induction l with
      | nil =>
        by_cases e : p.1 = j
        · rw [List.nil_append, valV_pos e, if_pos e.symm]
          rfl
        · rw [List.nil_append, valV_neg e, if_neg (fun z => e z.symm)]
          rfl
      | cons q l ihl =>
        by_cases e : q.1 = j
        · rw [List.cons_append, valV_pos e, valV_pos e]
        · rw [List.cons_append, valV_neg e, valV_neg e, ihl]
    rw [key]
    cases valV more.reverse j with
    | some v => rfl
    | none =>
      show valV (putK kvs p.1 p.2) j = match (if j = p.1 then some p.2 else none) with | some v => some v | none => valV kvs j
      rw [valV_put]
      by_cases e : j = p.1
      · rw [if_pos e, if_pos e]
      · rw [if_neg e, if_neg e]
theorem val_sgs (s : Str) : ∀ sg : List Sg, valV (sg.map kvS) (Sum.inr s) = (lookS sg s).map V.int
  | [] => rfl
  | e :: sg => by
    rw [List.map_cons]
    unfold lookS
    by_cases h : e.1 = s
    · rw [valV_pos (show (kvS e).1 = Sum.inr s by rw [kvS, h])]
      simp [List.find?_cons, h, kvS]
    · rw [valV_neg (show ¬ (kvS e).1 = Sum.inr s from fun z => h (Sum.inr.inj z)), val_sgs s sg]
      unfold lookS
      simp [List.find?_cons, h]
theorem plc_merge {H : Hp} {p : Addr} {sg : List Sg} (h : H p = some (.dK (mergeK [] (sg.map kvS)))) : PlcAt H p sg.reverse := by
  refine ⟨_, h, fun s => ?_⟩
  rw [val_merge, ← List.map_reverse, val_sgs]
  cases lookS sg.reverse s <;> rfl
theorem sgs_refs {K : PySem.W.Frag} {H : Hp} : ∀ {sg : List Sg} {xs : List V}, DpAll K H xs (sg.map sg1) → ∃ ps : List Addr, xs = ps.map V.ref ∧ Paired (fun p kv => SqT K H p [kV kv.1, kv.2]) ps (sg.map kvS)
  | [], xs, h => ⟨[], DpAll.nilD h, .nil⟩
  | e :: sg, xs, h => by
    obtain ⟨v, ws, rfl, h1, h2⟩ := DpAll.consD h
    obtain ⟨ps, rfl, h3⟩ := sgs_refs h2
    obtain ⟨a, ys, rfl, hs, ha⟩ := Dp.tupD h1
    obtain ⟨x, zs, rfl, g1, ha⟩ := DpAll.consD ha
    obtain ⟨y, zs, rfl, g2, ha⟩ := DpAll.consD ha
    rw [DpAll.nilD ha, Dp.strD g1, Dp.intD g2] at hs
    exact ⟨a :: ps, rfl, .cons hs h3⟩
theorem jd_sgs : ∀ sg : List Sg, jds (sg.map sg1) = true
  | [] => rfl
  | e :: sg => by rw [List.map_cons, jds, jd_sgs sg]; rfl
mutual
theorem jd_data : ∀ t : Tm, jd (Tm.data t) = true
  | .mk s ps => by rw [Tm.data, jd, jds, jd, jd_datas ps]; rfl
theorem jd_datas : ∀ ts : List Tm, jds (Tm.datas ts) = true
  | [] => rfl
  | t :: ts => by rw [Tm.datas, jds, jd_data t, jd_datas ts]; rfl
end
theorem jd_ln (l : Ln) : jd (lnD l) = true := by
  rw [lnD, jd, jds, jds, jds, jd_data, jd_data]
  rfl
theorem nls_sgs : ∀ sg : List Sg, nls (sg.map sg1) = true
  | [] => rfl
  | e :: sg => by rw [List.map_cons, nls, nls_sgs sg]; rfl
structure LnOk (sg : List Sg) (l : Ln) : Prop where
  fit : lineD sg.reverse (lnD l) = true
  short : shortD (lnD l) = true
  cnt : cntD (lnD l) ≤ 100000
def lf (sv lv : V) : List (Str × V) := putF "lines" lv (putF "signs" sv [])
theorem ne_sl : ¬ (("signs" : Str) = "lines") := by decide +kernel
theorem lf_signs (sv lv : V) : (lf sv lv).lookup ("signs" : Str) = some sv := by
  unfold lf
  rw [lookup_putF, if_neg ne_sl, lookup_putF, if_pos rfl]
theorem lf_lines (sv lv : V) : (lf sv lv).lookup ("lines" : Str) = some lv := by
  unfold lf
  rw [lookup_putF, if_pos rfl]
theorem lf_eq (sv lv : V) : lf sv lv = ([("signs", sv), ("lines", lv)] : List (Str × V)) := by
  show (if ("signs" : Str) = "lines" then [(("signs" : Str), lv)] else (("signs" : Str), sv) :: putF "lines" lv []) = ([("signs", sv), ("lines", lv)] : List (Str × V))
  rw [if_neg ne_sl]
  rfl
theorem lf_put_signs (sv lv s2 : V) : putF "signs" s2 (lf sv lv) = lf s2 lv := by
  rw [lf_eq, lf_eq]
  show (if ("signs" : Str) = "signs" then (("signs" : Str), s2) :: [(("lines" : Str), lv)] else _) = _
  rw [if_pos rfl]
theorem lf_put_lines (sv lv l2 : V) : putF "lines" l2 (lf sv lv) = lf sv l2 := by
  rw [lf_eq, lf_eq]
  show (if ("signs" : Str) = "lines" then _ else (("signs" : Str), sv) :: (if ("lines" : Str) = "lines" then [(("lines" : Str), l2)] else _)) = _
  rw [if_neg ne_sl, if_pos rfl]
/-- a tuple of signs at sa -/
def SgsAt (K : PySem.W.Frag) (H : Hp) (sa : Addr) (sg : List Sg) : Prop := ∃ xs, PlT K H sa xs ∧ DpAll K H xs (sg.map sg1)
theorem PlT.imm {K : PySem.W.Frag} {H H' : Hp} {a : Addr} {xs : List V} (e : Imm H H') (h : PlT K H a xs) : PlT K H' a xs := by
  rcases h with ⟨o, h1, h2, h⟩ | h
  · exact .inl ⟨o, h1, h2, (e a xs).2 o h⟩
  · exact .inr h
theorem SgsAt.imm {K : PySem.W.Frag} {H H' : Hp} {sa : Addr} {sg : List Sg} (e : Imm H H') (h : SgsAt K H sa sg) : SgsAt K H' sa sg := by
  obtain ⟨xs, h1, h2⟩ := h
  exact ⟨xs, h1.imm e, DpAll.imm e _ _ (nls_sgs sg) h2⟩
theorem SgsAt.dp {K : PySem.W.Frag} {H : Hp} {sa : Addr} {sg : List Sg} (h : SgsAt K H sa sg) : Dp K H (.ref sa) (sgsD sg) := by
  obtain ⟨xs, h1, h2⟩ := h
  exact .tup h1.sq h2
theorem nl_sgsD (sg : List Sg) : nl (sgsD sg) = true := by rw [sgsD, nl, nls_sgs]
theorem nl_lnsD (ls : List Ln) : nl (lnsD ls) = true := by rw [lnsD, nl, nl_lns]
/-- a lore at p -/
def LoreAt (K : PySem.W.Frag) (C : Addr) (H : Hp) (p : Addr) (sg : List Sg) (ls : List Ln) : Prop := ∃ dx sa lv, H p = some (.ins C dx (lf (.ref sa) lv)) ∧ SgsAt K H sa sg ∧ Dp K H lv (lnsD ls)
theorem LoreAt.kp {K : PySem.W.Frag} {C : Addr} {S : List Addr} {H H' : Hp} {p : Addr} {sg : List Sg} {ls : List Ln} (e : Kp S H H') (m : Mut H S) (n : p ∉ S) (h : LoreAt K C H p sg ls) : LoreAt K C H' p sg ls := by
  obtain ⟨dx, sa, lv, h1, h2, h3⟩ := h
  exact ⟨dx, sa, lv, e p _ h1 n (fun _ z => nomatch z), h2.imm (e.imm m), Dp.imm (e.imm m) _ _ (nl_lnsD ls) h3⟩
/-- the lines whose numbers are not in l -/
def keepN (l : List Int) : Nat → List Ln → List Ln
  | _, [] => []
  | i, x :: xs => if l.any (fun j => decide (j = (i : Int))) then keepN l (i + 1) xs else x :: keepN l (i + 1) xs
theorem keepN_app (l : List Int) : ∀ (a b : List Ln) (i : Nat), keepN l i (a ++ b) = keepN l i a ++ keepN l (i + a.length) b
  | [], b, i => by rw [List.nil_append, List.length_nil, Nat.add_zero]; rfl
  | x :: a, b, i => by
    rw [List.cons_append, keepN, keepN, keepN_app l a b (i + 1), List.length_cons, show i + (a.length + 1) = i + 1 + a.length by omega]
    split
    · rfl
    · rw [List.cons_append]
theorem keepN_len (l : List Int) : ∀ (a : List Ln) (i : Nat), (keepN l i a).length ≤ a.length
  | [], _ => Nat.le_refl _
  | x :: a, i => by
    rw [keepN, List.length_cons]
    have := keepN_len l a (i + 1)
    split
    · omega
    · rw [List.length_cons]
      omega
theorem inV_ints (i : Int) : ∀ l : List Int, inV (.int i) (l.map V.int) = l.any fun j => decide (j = i)
  | [] => rfl
  | j :: l => by
    have ih := inV_ints i l
    unfold inV at ih ⊢
    rw [List.map_cons, List.any_cons, List.any_cons, ih]
    rfl
theorem flat_ints (l : List Int) : (l.map V.int).all flatV = true := by
  induction l with
  | nil => rfl
  | cons j l ih => rw [List.map_cons, List.all_cons, ih]; rfl
theorem jp_ints {K : PySem.W.Frag} {H : Hp} : ∀ l : List Int, JpAll K H (l.map V.int) (l.map PyData.int)
  | [] => .nil
  | i :: l => .cons (.int i) (jp_ints l)
theorem strs_alike : ∀ a b : List Tm, PySem.W.alikeAll (a.map fun x => PyData.str x.sg) (b.map fun x => PyData.str x.sg) = true
  | [], _ => by rw [List.map_nil, PySem.W.alikeAll]
  | _ :: _, [] => by rw [List.map_cons, List.map_nil, PySem.W.alikeAll]
  | x :: a, y :: b => by rw [List.map_cons, List.map_cons, PySem.W.alikeAll, PySem.W.alike, strs_alike a b]; rfl
theorem alike_key (s t : Tm) : PySem.W.alike (keyD s) (keyD t) = true := by
  unfold keyD
  rw [PySem.W.alike, PySem.W.alikeAll, PySem.W.alikeAll, PySem.W.alike, PySem.W.alike, strs_alike, PySem.W.alikeAll]
  rfl
theorem alike_keys (B : List Tm) : PySem.W.AllAlike (B.map keyD) := fun d hd e he => by
  obtain ⟨s, _, rfl⟩ := List.mem_map.mp hd
  obtain ⟨t, _, rfl⟩ := List.mem_map.mp he
  exact alike_key s t
theorem depth_strs : ∀ a : List Tm, PyData.depthAll (a.map fun x => PyData.str x.sg) = 0
  | [] => by rw [List.map_nil, PyData.depthAll]
  | x :: a => by rw [List.map_cons, PyData.depthAll, PyData.depth, depth_strs a]; rfl
theorem depth_key (t : Tm) : (keyD t).depth ≤ 2 := by
  unfold keyD
  rw [PyData.depth, PyData.depthAll, PyData.depthAll, PyData.depthAll, PyData.depth, PyData.depth, depth_strs]
  decide
end NB

/-! the pool of drawn numbers -/
namespace NB
open PySem PySem.Spec PyProof.Rows L2 LamX
structure PoolAt (H : Hp) (p cs : Addr) (z k : Int) (cells : List Int) : Prop where
  pool : H p = some (.lst [.int z, .int k, .ref cs])
  cel : H cs = some (.lst (cells.map V.int))
  ne : p ≠ cs
  z0 : 0 ≤ z
  z1 : z < 2147483647
  k0 : 0 ≤ k
theorem PoolAt.same {H H' : Hp} {p cs : Addr} {z k : Int} {cells : List Int} (h : PoolAt H p cs z k cells) (e : Same H H') : PoolAt H' p cs z k cells := ⟨e _ _ h.pool, e _ _ h.cel, h.ne, h.z0, h.z1, h.k0⟩
theorem cutV_take (ns : List Int) (n : Nat) : cutV (ns.map V.int) none (some (n : Int)) = (ns.take n).map V.int := by
  unfold cutV
  rw [HT.sIx_none, HT.sIx_nat, List.drop_zero, Nat.sub_zero, List.map_take]
  by_cases h : n ≤ (ns.map V.int).length
  · rw [Nat.min_eq_left h]
  · rw [Nat.min_eq_right (by omega), List.take_of_length_le (Nat.le_refl _), List.take_of_length_le (by omega)]
theorem filter_take {ns : List Int} {i : Nat} {x : Int} {f : Int → Bool} (h : ns[i]? = some x) : (ns.take (i + 1)).filter f = (ns.take i).filter f ++ (if f x then [x] else []) := by
  rw [take_snoc h, List.filter_append]
  cases e : f x <;> simp [e]
def absI (i : Int) : Int := if i < 0 then -i else i
def bigI (i : Int) : Bool := decide ((10 : Int) ^ (18 : Int).toNat ≤ absI i)
theorem Sm.imm {O : List Addr} {H H' : Hp} (e : Sm O H H') (w : Ow H O) : Imm H H' := fun b xs => ⟨fun h => e b _ h (fun z => by rcases w b z with q | ⟨ys, q⟩ <;> (rw [h] at q; cases q)), fun o h => e b _ h (fun z => by rcases w b z with q | ⟨ys, q⟩ <;> (rw [h] at q; cases q))⟩
theorem PoolAt.ow {H : Hp} {p cs : Addr} {z k : Int} {cells : List Int} (h : PoolAt H p cs z k cells) : Ow H [p, cs] := fun b hb => by
  rcases mem2 hb with q | q
  · rw [q]
    exact .inr ⟨_, h.pool⟩
  · rw [q]
    exact .inr ⟨_, h.cel⟩
def sgA : List Sg := [("a", 0), ("b", 0), ("c", 0)]
def sgB : List Sg := [("f", 1), ("g", 1), ("h", 1)]
def sgC : List Sg := [("p", 2), ("q", 2)]
def sgOf (i j k : Nat) : List Sg := sgA.take i ++ sgB.take j ++ sgC.take k
theorem cutV_takeV (xs : List V) (n : Nat) : cutV xs none (some (n : Int)) = xs.take n := by
  unfold cutV
  rw [HT.sIx_none, HT.sIx_nat, List.drop_zero, Nat.sub_zero]
  by_cases h : n ≤ xs.length
  · rw [Nat.min_eq_left h]
  · rw [Nat.min_eq_right (by omega), List.take_of_length_le (Nat.le_refl _), List.take_of_length_le (by omega)]
theorem DpAll.take {K : PySem.W.Frag} {H : Hp} : ∀ {vs : List V} {ds : List PyData} (n : Nat), DpAll K H vs ds → DpAll K H (vs.take n) (ds.take n)
  | _, _, 0, _ => by rw [List.take_zero, List.take_zero]; exact .nil
  | _, _, n + 1, .nil => by rw [List.take_nil, List.take_nil]; exact .nil
  | _, _, n + 1, .cons h t => by rw [List.take_succ_cons, List.take_succ_cons]; exact .cons h (DpAll.take n t)
theorem sg_alike (a b : Sg) : PySem.W.alike (sg1 a) (sg1 b) = true := by
  unfold sg1
  rw [PySem.W.alike, PySem.W.alikeAll, PySem.W.alikeAll, PySem.W.alike, PySem.W.alike, PySem.W.alikeAll]
  rfl
theorem sgs_alike (l : List Sg) : PySem.W.AllAlike (l.map sg1) := fun d hd e he => by
  obtain ⟨s, _, rfl⟩ := List.mem_map.mp hd
  obtain ⟨t, _, rfl⟩ := List.mem_map.mp he
  exact sg_alike s t
theorem sg_sub (i j k : Nat) : List.Sublist (sgOf i j k) (sgA ++ sgB ++ sgC) := ((List.take_sublist _ _).append (List.take_sublist _ _)).append (List.take_sublist _ _)
theorem sg_pair : ((sgA ++ sgB ++ sgC).map sg1).Pairwise (fun d e => PySem.W.dataLe false (fun x : PyData => x) d e = true) := by
  decide +kernel
theorem srt_sorted {xs : List V} {ds : List PyData} (hl : xs.length = ds.length) (hp : ds.Pairwise (fun d e => PySem.W.dataLe false (fun x : PyData => x) d e = true)) : srt xs ds = xs := by
  unfold srt
  rw [List.mergeSort_of_pairwise]
  · exact List.map_fst_zip (Nat.le_of_eq hl)
  · have h2 : ((xs.zip ds).map (·.2)).Pairwise (fun d e => PySem.W.dataLe false (fun x : PyData => x) d e = true) := by
      rw [zip_snd hl]
      exact hp
    rw [List.pairwise_map] at h2
    exact h2
theorem u128_of {A : Around} {k : Nat} (hr : Room k A) : A.units + 128 < cLine := by
  have := hr.un
  omega
theorem sg_depth (e : Sg) : (sg1 e).depth ≤ 64 := by
  unfold sg1
  rw [PyData.depth, PyData.depthAll, PyData.depthAll, PyData.depth, PyData.depth, PyData.depthAll]
  decide
theorem PoolAt.nn {H : Hp} {p cs : Addr} {z k : Int} {cells : List Int} (h : PoolAt H p cs z k cells) {l : Addr} (n : H l = none) : l ∉ [p, cs] := fun m => by
  rcases mem2 m with q | q
  · rw [q, h.pool] at n
    cases n
  · rw [q, h.cel] at n
    cases n
theorem nat_of {r m : Int} (h0 : 0 ≤ r) (h1 : r < m) : ∃ n : Nat, r = (n : Int) ∧ (n : Int) < m := ⟨r.toNat, by omega, by omega⟩
theorem sg_take {K : PySem.W.Frag} {H : Hp} {vs : List V} {sg : List Sg} (n : Nat) (h : DpAll K H vs (sg.map sg1)) : DpAll K H (vs.take n) ((sg.take n).map sg1) := by
  rw [List.map_take]
  exact DpAll.take n h
theorem sg_imm {K : PySem.W.Frag} {H H' : Hp} {vs : List V} {sg : List Sg} (e : Imm H H') (h : DpAll K H vs (sg.map sg1)) : DpAll K H' vs (sg.map sg1) := DpAll.imm e _ _ (nls_sgs sg) h
theorem sg_app {K : PySem.W.Frag} {H : Hp} {vs ws : List V} {sg sh : List Sg} (h : DpAll K H vs (sg.map sg1)) (h2 : DpAll K H ws (sh.map sg1)) : DpAll K H (vs ++ ws) ((sg ++ sh).map sg1) := by
  rw [List.map_append]
  exact h.app h2
mutual
/-- how deep a term is: a leaf is 1 deep -/
def dpt : Tm → Nat
  | .mk _ ps => 1 + dpts ps
def dpts : List Tm → Nat
  | [] => 0
  | t :: ts => max (dpt t) (dpts ts)
end
theorem dpt_pos (t : Tm) : 1 ≤ dpt t := by
  cases t
  rw [dpt]
  omega
theorem dpts_mem : ∀ {ts : List Tm} {t : Tm}, t ∈ ts → dpt t ≤ dpts ts
  | x :: ts, t, h => by
    rw [dpts]
    rcases List.mem_cons.mp h with q | q
    · rw [q]
      exact Nat.le_max_left _ _
    · exact Nat.le_trans (dpts_mem q) (Nat.le_max_right _ _)
theorem FnOk.never {P : Program} {w : World} {K : PySem.W.Frag} {mg : Str → Option Value} {base : Heap} {k : Nat} {f : Addr} {fd : FuncData} {ps : List Str} {sp : Sp} (h : ∀ vs H Q E, ¬ sp vs H Q E) : FnOk P w K mg base CX0 k f fd ps sp :=
  ⟨fun vs H Q E q => (h vs H Q E q).elim, fun A outer s H args us vs Q E _ _ _ _ q => (h vs H Q E q).elim⟩
theorem sum_pres : ∀ ts : List Tm, (ts.map fun t => ((Tm.pre t).length : Int)).sum = ((Tm.pres ts).length : Int)
  | [] => by rw [Tm.pres]; rfl
  | t :: ts => by
    rw [List.map_cons, List.sum_cons, sum_pres ts, Tm.pres, List.length_append]
    omega
end NB

/-! drawn terms: what holds of them -/
namespace NB
open PySem PySem.Spec PyProof.Rows L2 LamX
mutual
theorem cnt_data : ∀ t : Tm, cntD (Tm.data t) = 2 * (Tm.pre t).length
  | .mk s ps => by
    rw [Tm.data, cntD, cntsD, cntD_str, cnts_datas ps, Tm.pre, List.length_cons]
    omega
theorem cnts_datas : ∀ ts : List Tm, cntsD (Tm.datas ts) = 2 * (Tm.pres ts).length
  | [] => by rw [Tm.datas, cntsD, Tm.pres]; rfl
  | t :: ts => by
    rw [Tm.datas, cntsD, cnt_data t, cnts_datas ts, Tm.pres, List.length_append]
    omega
end
mutual
theorem eqv_tm : ∀ s t : Tm, PyData.eqv (Tm.data s) (Tm.data t) = true ↔ s = t
  | .mk s ps, .mk s' ps' => by
    rw [Tm.data, Tm.data, PyData.eqv, PyData.eqvAll, PyData.eqv, Bool.and_eq_true_iff, eqv_tms ps ps']
    constructor
    · rintro ⟨h1, h2⟩
      rw [eq_of_beq h1, h2]
    · intro h
      injection h with h1 h2
      exact ⟨by rw [h1]; exact beq_self_eq_true _, h2⟩
theorem eqv_tms : ∀ ss ts : List Tm, PyData.eqvAll (Tm.datas ss) (Tm.datas ts) = true ↔ ss = ts
  | [], [] => by rw [Tm.datas, PyData.eqvAll]; simp
  | [], t :: ts => by rw [Tm.datas, Tm.datas, PyData.eqvAll]; simp
  | s :: ss, [] => by rw [Tm.datas, Tm.datas, PyData.eqvAll]; simp
  | s :: ss, t :: ts => by
    rw [Tm.datas, Tm.datas, PyData.eqvAll, Bool.and_eq_true_iff, eqv_tm s t, eqv_tms ss ts]
    constructor
    · rintro ⟨h1, h2⟩
      rw [h1, h2]
    · intro h
      injection h with h1 h2
      exact ⟨h1, h2⟩
end
mutual
theorem alike_tm : ∀ s t : Tm, PySem.W.alike (Tm.data s) (Tm.data t) = true
  | .mk s ps, .mk s' ps' => by
    rw [Tm.data, Tm.data, PySem.W.alike, PySem.W.alikeAll, PySem.W.alike, alike_tms ps ps']
    rfl
theorem alike_tms : ∀ ss ts : List Tm, PySem.W.alikeAll (Tm.datas ss) (Tm.datas ts) = true
  | [], _ => by rw [Tm.datas, PySem.W.alikeAll]
  | s :: ss, [] => by rw [Tm.datas, Tm.datas, PySem.W.alikeAll]
  | s :: ss, t :: ts => by
    rw [Tm.datas, Tm.datas, PySem.W.alikeAll, alike_tm s t, alike_tms ss ts]
    rfl
end
mutual
theorem depth_tm : ∀ t : Tm, (Tm.data t).depth = dpt t
  | .mk s ps => by
    rw [Tm.data, PyData.depth, PyData.depthAll, PyData.depth, depth_tms ps, dpt]
    omega
theorem depth_tms : ∀ ts : List Tm, PyData.depthAll (Tm.datas ts) = dpts ts
  | [] => by rw [Tm.datas, PyData.depthAll, dpts]
  | t :: ts => by rw [Tm.datas, PyData.depthAll, depth_tm t, depth_tms ts, dpts]
end
/-- a term of some signs -/
structure TmOk (sg : List Sg) (t : Tm) : Prop where
  fit : fitsD sg.reverse t.data = true
  short : shortD t.data = true
  lay : t.data.canLay0 = true
/-- signs as they should be -/
def okSg (sg : List Sg) : Bool :=
  signsD (sgsD sg) && (shortD (sgsD sg) && (SeqAt.shaped (sgsD sg) && ((sg.all fun e => decide (lookS sg.reverse e.1 = some e.2) && (PyData.strOk e.1 && (decide (e.1.length ≤ 100000) && (decide (0 ≤ e.2) && decide (e.2 ≤ 2))))) && ((sg.any fun e => decide (e.2 = 0)) && decide (sg.length ≤ 9)))))
structure SgOk (sg : List Sg) : Prop where
  signs : signsD (sgsD sg) = true
  short : shortD (sgsD sg) = true
  shaped : SeqAt.shaped (sgsD sg) = true
  each : ∀ e ∈ sg, lookS sg.reverse e.1 = some e.2 ∧ PyData.strOk e.1 = true ∧ e.1.length ≤ 100000 ∧ 0 ≤ e.2 ∧ e.2 ≤ 2
  leaf : ∃ e ∈ sg, e.2 = 0
  few : sg.length ≤ 9
theorem SgOk.of {sg : List Sg} (h : okSg sg = true) : SgOk sg := by
  unfold okSg at h
  simp only [Bool.and_eq_true_iff, List.all_eq_true, List.any_eq_true, decide_eq_true_eq] at h
  obtain ⟨h1, h2, h3, h4, ⟨e, h5, h6⟩, h7⟩ := h
  exact ⟨h1, h2, h3, fun e he => ⟨(h4 e he).1, (h4 e he).2.1, (h4 e he).2.2.1, (h4 e he).2.2.2.1, (h4 e he).2.2.2.2⟩, ⟨e, h5, h6⟩, h7⟩
theorem sgOf_all : ∀ i, i < 3 → ∀ j, j < 4 → ∀ l, l < 3 → okSg (sgOf (1 + i) j l) = true := by
  decide +kernel
theorem sgOf_ok {i j l : Nat} (hi : i < 3) (hj : j < 4) (hl : l < 3) : SgOk (sgOf (1 + i) j l) := SgOk.of (sgOf_all i hi j hj l hl)
theorem fitsA_tms (pl : List (Str × Int)) : ∀ ps : List Tm, (∀ p ∈ ps, fitsD pl p.data = true) → fitsA pl (Tm.datas ps) = true
  | [], _ => by rw [Tm.datas, fitsA]
  | p :: ps, h => by rw [Tm.datas, fitsA, h p (List.mem_cons_self ..), fitsA_tms pl ps fun q hq => h q (List.mem_cons_of_mem _ hq)]; rfl
theorem shortsD_tms : ∀ ps : List Tm, (∀ p ∈ ps, shortD p.data = true) → shortsD (Tm.datas ps) = true
  | [], _ => rfl
  | p :: ps, h => by rw [Tm.datas, shortsD, h p (List.mem_cons_self ..), shortsD_tms ps fun q hq => h q (List.mem_cons_of_mem _ hq)]; rfl
theorem canLay_tms : ∀ ps : List Tm, (∀ p ∈ ps, p.data.canLay0 = true) → PyData.canLayAll0 (Tm.datas ps) = true
  | [], _ => by rw [Tm.datas, PyData.canLayAll0]
  | p :: ps, h => by rw [Tm.datas, PyData.canLayAll0, h p (List.mem_cons_self ..), canLay_tms ps fun q hq => h q (List.mem_cons_of_mem _ hq)]; rfl
theorem TmOk.make {sg : List Sg} {e : Sg} {ps : List Tm} (o : SgOk sg) (he : e ∈ sg) (hl : (ps.length : Int) = e.2) (h : ∀ p ∈ ps, TmOk sg p) : TmOk sg (.mk e.1 ps) := by
  obtain ⟨h1, h2, h3, h4, h5⟩ := o.each e he
  refine ⟨?_, ?_, ?_⟩
  · rw [Tm.data, fitsD_node, h1, fitsA_tms _ _ fun p hp => (h p hp).fit]
    show (decide ((((Tm.datas ps).length : Nat) : Int) = e.2) && true) = true
    rw [Tm.datas_len, decide_eq_true hl]
    rfl
  · rw [Tm.data, shortD, shortsD, shortsD_tms _ fun p hp => (h p hp).short, shortD, List.length_cons, Tm.datas_len, decide_eq_true h3, decide_eq_true (by omega)]
    rfl
  · rw [Tm.data, PyData.canLay0, PyData.canLayAll0, PyData.canLay0, h2, canLay_tms _ fun p hp => (h p hp).lay]
    rfl
/-- how large a term is at most that is drawn d deep; how many draws it takes -/
def siz : Nat → Nat
  | 0 => 1
  | d + 1 => 1 + 2 * siz d
def drw : Nat → Nat
  | 0 => 1
  | d + 1 => 2 + 2 * drw d
theorem siz_pos (d : Nat) : 1 ≤ siz d := by cases d <;> rw [siz] <;> omega
theorem pres_le {n : Nat} : ∀ ps : List Tm, (∀ p ∈ ps, (Tm.pre p).length ≤ n) → (Tm.pres ps).length ≤ ps.length * n
  | [], _ => by rw [Tm.pres]; exact Nat.zero_le _
  | p :: ps, h => by
    have h1 := h p (List.mem_cons_self ..)
    have h2 := pres_le ps fun q hq => h q (List.mem_cons_of_mem _ hq)
    rw [Tm.pres, List.length_append, List.length_cons, Nat.add_mul]
    omega
theorem dpts_le {n : Nat} : ∀ ps : List Tm, (∀ p ∈ ps, dpt p ≤ n) → dpts ps ≤ n
  | [], _ => by rw [dpts]; exact Nat.zero_le _
  | p :: ps, h => by
    have h1 := h p (List.mem_cons_self ..)
    have h2 := dpts_le ps fun q hq => h q (List.mem_cons_of_mem _ hq)
    rw [dpts]
    omega
/-- a drawn term, d deep at most -/
structure TmDr (sg : List Sg) (d : Nat) (t : Tm) : Prop where
  ok : TmOk sg t
  dp : dpt t ≤ d + 1
  sz : (Tm.pre t).length ≤ siz d
theorem TmDr.make {sg : List Sg} {e : Sg} {ps : List Tm} {d : Nat} (o : SgOk sg) (he : e ∈ sg) (hl : (ps.length : Int) = e.2) (h0 : d = 0 → ps = []) (h : ∀ p ∈ ps, TmDr sg (d - 1) p) : TmDr sg d (.mk e.1 ps) := by
  have h5 := (o.each e he).2.2.2.2
  refine ⟨TmOk.make o he hl fun p hp => (h p hp).ok, ?_, ?_⟩
  · have := dpts_le ps fun p hp => (h p hp).dp
    rw [dpt]
    cases d with
    | zero =>
      rw [h0 rfl, dpts]
      omega
    | succ d =>
      rw [Nat.add_sub_cancel] at this
      omega
  · have := pres_le ps fun p hp => (h p hp).sz
    rw [Tm.pre, List.length_cons]
    cases d with
    | zero =>
      rw [h0 rfl, Tm.pres]
      exact Nat.le_refl _
    | succ d =>
      rw [Nat.add_sub_cancel] at this
      have h2 : ps.length * siz d ≤ 2 * siz d := Nat.mul_le_mul_right _ (by omega)
      rw [siz]
      omega
end NB
namespace NB
open PySem PySem.Spec PyProof.Rows L2 LamX
/-- what may be drawn d deep -/
def fA (d : Nat) (e : Sg) : Bool := decide (e.2 = 0) || decide (0 < (d : Int))
def fB (e : Sg) : Bool := decide (0 < e.2)
end NB
namespace NB
open PySem PySem.Spec PyProof.Rows L2 LamX
theorem sgAt {K : PySem.W.Frag} {H : Hp} {v : V} {e : Sg} (h : Dp K H v (sg1 e)) : ∃ a, v = .ref a ∧ SqT K H a [.str e.1, .int e.2] := by
  obtain ⟨a, ys, rfl, hs, ha⟩ := Dp.tupD h
  obtain ⟨x, zs, rfl, g1, ha⟩ := DpAll.consD ha
  obtain ⟨y, zs, rfl, g2, ha⟩ := DpAll.consD ha
  rw [DpAll.nilD ha, Dp.strD g1, Dp.intD g2] at hs
  exact ⟨a, rfl, hs⟩
theorem filter_takeS {α : Type} {ns : List α} {i : Nat} {x : α} {f : α → Bool} (h : ns[i]? = some x) : (ns.take (i + 1)).filter f = (ns.take i).filter f ++ (if f x then [x] else []) := by
  rw [take_snoc h, List.filter_append]
  cases e : f x <;> simp [e]
theorem upd_new_ne {H : Hp} {D : Addr} {o : HO} {p : Addr} {o' : HO} (h : H D = some o) (n : H p = none) : upd H p o' D = some o := by rw [upd_ne (ne_of_none h n)]; exact h
end NB
namespace NB
open PySem PySem.Spec PyProof.Rows L2 LamX
/-- a statement, what it leaves told by a word, and what follows -/
theorem seq_open {t u : TS} {D : Ends} {σ : L2.St} {H : Hp} (Pw : L2.St → Hp → Prop) (h1 : ∀ NX : L2.St → Hp → Prop, (∀ σ' H', Pw σ' H' → NX σ' H') → t { D with nx := NX } σ H) (h2 : ∀ σ' H', Pw σ' H' → u D σ' H') : tSeq t u D σ H := h1 _ h2
theorem fA_pos {d : Nat} (h : 0 < d) (sg : List Sg) : sg.filter (fA d) = sg := by
  refine List.filter_eq_self.mpr fun e _ => ?_
  unfold fA
  rw [decide_eq_true (show (0 : Int) < (d : Int) by omega), Bool.or_true]
theorem Dp.get' {K : PySem.W.Frag} {H : Hp} {xs : List V} {sg : List Sg} {i : Nat} {x : V} {e : Sg} (h : DpAll K H xs (sg.map sg1)) (hx : xs[i]? = some x) (he : sg[i]? = some e) : Dp K H x (sg1 e) := h.get hx (by rw [List.getElem?_map, he]; rfl)
end NB
namespace NB
open PySem PySem.Spec PyProof.Rows L2 LamX
theorem Sm.updN {O : List Addr} {H H' : Hp} {D : Addr} {o : HO} (e : Sm O H H') (n : H D = none) : Sm O H (L2.upd H' D o) := fun b u h m => by
  rw [upd_ne (ne_of_none h n)]
  exact e b u h m
theorem Sm.noneP {O : List Addr} {H H' : Hp} {p cs : Addr} {z k : Int} {cells : List Int} (hp : PoolAt H p cs z k cells) (e : Sm [p, cs] H H') {l : Addr} (n : H' l = none) (hp' : PoolAt H' p cs z k cells) : l ∉ [p, cs] := hp'.nn n
end NB
namespace NB
open PySem PySem.Spec PyProof.Rows L2 LamX
theorem siz_mono {d e : Nat} (h : d ≤ e) : siz d ≤ siz e := by
  induction h with
  | refl => exact Nat.le_refl _
  | step h ih => rw [siz]; omega
theorem drw_mono {d e : Nat} (h : d ≤ e) : drw d ≤ drw e := by
  induction h with
  | refl => exact Nat.le_refl _
  | step h ih => rw [drw]; omega
theorem TmDr.mono {sg : List Sg} {d e : Nat} {t : Tm} (h : TmDr sg d t) (l : d ≤ e) : TmDr sg e t := ⟨h.ok, by have := h.dp; omega, Nat.le_trans h.sz (siz_mono l)⟩
/-- a drawn line -/
structure LnDr (sg : List Sg) (d : Nat) (l : Ln) : Prop where
  one : TmDr sg d l.1
  two : TmDr sg d l.2
def drl (d : Nat) : Nat := 4 + 2 * drw d
end NB
namespace NB
open PySem PySem.Spec PyProof.Rows L2 LamX
theorem nl_lnD (l : Ln) : nl (lnD l) = true := by
  rw [lnD, nl, nls, nls, Tm.nl_data, Tm.nl_data]
  rfl
theorem PoolAt.updN {H : Hp} {p cs : Addr} {z k : Int} {cells : List Int} {D : Addr} {o : HO} (h : PoolAt H p cs z k cells) (n : D ∉ [p, cs]) : PoolAt (upd H D o) p cs z k cells :=
  ⟨(upd_ne fun e => n (by rw [← e]; exact List.mem_cons_self ..)).trans h.pool, (upd_ne fun e => n (by rw [← e]; exact List.mem_cons_of_mem _ (List.mem_cons_self ..))).trans h.cel, h.ne, h.z0, h.z1, h.k0⟩
end NB
namespace NB
open PySem PySem.Spec PyProof.Rows L2 LamX
theorem u65_of {A : Around} {k : Nat} (hr : Room k A) : A.units + 65 < cLine := by
  have := hr.un
  omega
/-- the law's key of a term -/
def skeyD (t : Tm) : PyData := .tuple [.int ((Tm.pre t).length : Int), Tm.data t]
theorem skey_alike (s t : Tm) : PySem.W.alike (skeyD s) (skeyD t) = true := by
  unfold skeyD
  rw [PySem.W.alike, PySem.W.alikeAll, PySem.W.alikeAll, PySem.W.alike, alike_tm, PySem.W.alikeAll]
  rfl
theorem skeys_alike (B : List Tm) : PySem.W.AllAlike (B.map skeyD) := fun d hd e he => by
  obtain ⟨s, _, rfl⟩ := List.mem_map.mp hd
  obtain ⟨t, _, rfl⟩ := List.mem_map.mp he
  exact skey_alike s t
theorem skey_depth (t : Tm) : (skeyD t).depth = dpt t + 1 := by
  unfold skeyD
  rw [PyData.depth, PyData.depthAll, PyData.depthAll, PyData.depthAll, PyData.depth, depth_tm]
  omega
theorem any_eqv (t : Tm) : ∀ F : List Tm, ((Tm.datas F).any fun z => PyData.eqv z (Tm.data t)) = true ↔ t ∈ F
  | [] => by rw [Tm.datas]; simp
  | x :: F => by
    rw [Tm.datas, List.any_cons, Bool.or_eq_true_iff, eqv_tm, any_eqv t F, List.mem_cons]
    exact ⟨fun h => h.imp Eq.symm id, fun h => h.imp Eq.symm id⟩
theorem canLay_datas : ∀ F : List Tm, (∀ t ∈ F, (Tm.data t).canLay0 = true) → PyData.canLayAll0 (Tm.datas F) = true := canLay_tms
theorem dpts_all {n : Nat} (F : List Tm) (h : ∀ t ∈ F, dpt t ≤ n) : dpts F ≤ n := dpts_le F h
theorem shaped_tm {t : Tm} (h1 : (Tm.data t).canLay0 = true) (h2 : dpt t ≤ 63) : SeqAt.shaped (Tm.data t) = true := by
  unfold SeqAt.shaped
  rw [h1, depth_tm, decide_eq_true (by omega)]
  rfl
theorem shaped_tms {F : List Tm} (h1 : ∀ t ∈ F, (Tm.data t).canLay0 = true) (h2 : ∀ t ∈ F, dpt t ≤ 63) : SeqAt.shaped (.list (Tm.datas F)) = true := by
  unfold SeqAt.shaped
  have := dpts_le F h2
  rw [PyData.canLay0, canLay_datas F h1, PyData.depth, depth_tms, decide_eq_true (by omega)]
  rfl
theorem pres_rev_len : ∀ ps : List Tm, (Tm.pres ps.reverse).length = (Tm.pres ps).length
  | [] => rfl
  | p :: ps => by
    rw [List.reverse_cons, Tm.pres_app, List.length_append, pres_rev_len ps, Tm.pres, Tm.pres, Tm.pres]
    simp only [List.length_append, List.length_nil]
    omega
theorem mem_pres {x : Tm} : ∀ {ts : List Tm}, x ∈ Tm.pres ts ↔ ∃ t ∈ ts, x ∈ Tm.pre t
  | [] => by rw [Tm.pres]; simp
  | t :: ts => by
    rw [Tm.pres, List.mem_append, mem_pres]
    constructor
    · rintro (h | ⟨y, h1, h2⟩)
      · exact ⟨t, List.mem_cons_self .., h⟩
      · exact ⟨y, List.mem_cons_of_mem _ h1, h2⟩
    · rintro ⟨y, h1, h2⟩
      rcases List.mem_cons.mp h1 with q | q
      · rw [q] at h2
        exact .inl h2
      · exact .inr ⟨y, q, h2⟩
mutual
/-- what is within something within is within -/
theorem pre_trans : ∀ (t x y : Tm), x ∈ Tm.pre t → y ∈ Tm.pre x → y ∈ Tm.pre t
  | .mk s ps, x, y, h1, h2 => by
    rw [Tm.pre] at h1
    rcases List.mem_cons.mp h1 with q | q
    · rw [q] at h2
      exact h2
    · rw [Tm.pre]
      exact List.mem_cons_of_mem _ (pres_trans ps x y q h2)
theorem pres_trans : ∀ (ts : List Tm) (x y : Tm), x ∈ Tm.pres ts → y ∈ Tm.pre x → y ∈ Tm.pres ts
  | [], x, y, h1, _ => by rw [Tm.pres] at h1; cases h1
  | t :: ts, x, y, h1, h2 => by
    rw [Tm.pres] at h1 ⊢
    rcases List.mem_append.mp h1 with q | q
    · exact List.mem_append_left _ (pre_trans t x y q h2)
    · exact List.mem_append_right _ (pres_trans ts x y q h2)
end
mutual
/-- what is closed holds all that is within -/
theorem pre_closed {F : List Tm} (c : ∀ x ∈ F, ∀ p ∈ x.parts, p ∈ F) : ∀ (t x : Tm), t ∈ F → x ∈ Tm.pre t → x ∈ F
  | .mk s ps, x, h1, h2 => by
    rw [Tm.pre] at h2
    rcases List.mem_cons.mp h2 with q | q
    · rw [q]
      exact h1
    · exact pres_closed c ps x (fun p hp => c _ h1 p hp) q
theorem pres_closed {F : List Tm} (c : ∀ x ∈ F, ∀ p ∈ x.parts, p ∈ F) : ∀ (ts : List Tm) (x : Tm), (∀ t ∈ ts, t ∈ F) → x ∈ Tm.pres ts → x ∈ F
  | [], x, _, h2 => by rw [Tm.pres] at h2; cases h2
  | t :: ts, x, h1, h2 => by
    rw [Tm.pres] at h2
    rcases List.mem_append.mp h2 with q | q
    · exact pre_closed c t x (h1 t (List.mem_cons_self ..)) q
    · exact pres_closed c ts x (fun p hp => h1 p (List.mem_cons_of_mem _ hp)) q
end
mutual
theorem pre_dpt : ∀ (t x : Tm), x ∈ Tm.pre t → dpt x ≤ dpt t
  | .mk s ps, x, h => by
    rw [Tm.pre] at h
    rcases List.mem_cons.mp h with q | q
    · rw [q]
      exact Nat.le_refl _
    · have := pres_dpt ps x q
      rw [dpt]
      omega
theorem pres_dpt : ∀ (ts : List Tm) (x : Tm), x ∈ Tm.pres ts → dpt x ≤ dpts ts
  | [], x, h => by rw [Tm.pres] at h; cases h
  | t :: ts, x, h => by
    rw [Tm.pres] at h
    rw [dpts]
    rcases List.mem_append.mp h with q | q
    · have := pre_dpt t x q
      omega
    · have := pres_dpt ts x q
      omega
end
mutual
theorem pre_lay : ∀ (t x : Tm), (Tm.data t).canLay0 = true → x ∈ Tm.pre t → (Tm.data x).canLay0 = true
  | .mk s ps, x, h1, h2 => by
    rw [Tm.pre] at h2
    rcases List.mem_cons.mp h2 with q | q
    · rw [q]
      exact h1
    · rw [Tm.data, PyData.canLay0, PyData.canLayAll0, Bool.and_eq_true_iff] at h1
      exact pres_lay ps x h1.2 q
theorem pres_lay : ∀ (ts : List Tm) (x : Tm), PyData.canLayAll0 (Tm.datas ts) = true → x ∈ Tm.pres ts → (Tm.data x).canLay0 = true
  | [], x, _, h => by rw [Tm.pres] at h; cases h
  | t :: ts, x, h1, h => by
    rw [Tm.datas, PyData.canLayAll0, Bool.and_eq_true_iff] at h1
    rw [Tm.pres] at h
    rcases List.mem_append.mp h with q | q
    · exact pre_lay t x h1.1 q
    · exact pres_lay ts x h1.2 q
end
theorem part_mem_pre {s : Str} {ps : List Tm} {p : Tm} (h : p ∈ ps) : p ∈ Tm.pre (.mk s ps) := by
  rw [Tm.pre]
  exact List.mem_cons_of_mem _ (mem_pres.mpr ⟨p, h, mem_pre_self p⟩)
end NB
namespace NB
open PySem PySem.Spec PyProof.Rows L2 LamX
theorem len_of_nodup {α : Type} : ∀ {l m : List α}, l.Nodup → (∀ x ∈ l, x ∈ m) → l.length ≤ m.length
  | [], m, _, _ => Nat.zero_le _
  | a :: l, m, h1, h2 => by
    rw [List.nodup_cons] at h1
    obtain ⟨u, v, rfl⟩ := List.append_of_mem (h2 a (List.mem_cons_self ..))
    have := len_of_nodup (l := l) (m := u ++ v) h1.2 fun x hx => by
      have hm := h2 x (List.mem_cons_of_mem _ hx)
      rcases List.mem_append.mp hm with q | q
      · exact List.mem_append_left _ q
      · rcases List.mem_cons.mp q with z | z
        · rw [z] at hx
          exact absurd hx h1.1
        · exact List.mem_append_right _ z
    rw [List.length_append] at this ⊢
    rw [List.length_cons, List.length_cons]
    omega
theorem mem_addNew {B : List Tm} {t x : Tm} : x ∈ addNew B t ↔ x ∈ B ∨ x = t := by
  by_cases h : t ∈ B
  · rw [addNew_old h]
    exact ⟨.inl, fun z => z.elim id fun e => by rw [e]; exact h⟩
  · rw [addNew_new h, List.mem_append, List.mem_singleton]
theorem mem_addAll {x : Tm} : ∀ {l B : List Tm}, x ∈ l.foldl addNew B ↔ x ∈ B ∨ x ∈ l
  | [], B => by simp
  | t :: l, B => by
    rw [List.foldl_cons, mem_addAll, mem_addNew, List.mem_cons, or_assoc]
theorem mem_addT {B : List Tm} {t x : Tm} : x ∈ addT B t ↔ x ∈ B ∨ x ∈ Tm.pre t := by
  unfold addT
  rw [mem_addAll, List.mem_reverse]
theorem mem_addLs {x : Tm} : ∀ {ls : List Ln} {B : List Tm}, x ∈ ls.foldl addL B ↔ x ∈ B ∨ ∃ l ∈ ls, x ∈ Tm.pre l.1 ∨ x ∈ Tm.pre l.2
  | [], B => by simp
  | l :: ls, B => by
    rw [List.foldl_cons, mem_addLs]
    unfold addL
    rw [mem_addT, mem_addT]
    constructor
    · rintro ((( h | h) | h) | ⟨y, h1, h2⟩)
      · exact .inl h
      · exact .inr ⟨l, List.mem_cons_self .., .inl h⟩
      · exact .inr ⟨l, List.mem_cons_self .., .inr h⟩
      · exact .inr ⟨y, List.mem_cons_of_mem _ h1, h2⟩
    · rintro (h | ⟨y, h1, h2⟩)
      · exact .inl (.inl (.inl h))
      · rcases List.mem_cons.mp h1 with q | q
        · rw [q] at h2
          rcases h2 with h2 | h2
          · exact .inl (.inl (.inr h2))
          · exact .inl (.inr h2)
        · exact .inr ⟨y, q, h2⟩
theorem nodup_addNew {B : List Tm} {t : Tm} (h : B.Nodup) : (addNew B t).Nodup := by
  by_cases m : t ∈ B
  · rw [addNew_old m]
    exact h
  · rw [addNew_new m, List.nodup_append]
    exact ⟨h, (by simp : [t].Nodup), fun x hx y hy e => m (by rw [← List.mem_singleton.mp hy, ← e]; exact hx)⟩
theorem nodup_addAll : ∀ {l B : List Tm}, B.Nodup → (l.foldl addNew B).Nodup
  | [], _, h => h
  | t :: l, B, h => by
    rw [List.foldl_cons]
    exact nodup_addAll (nodup_addNew h)
theorem nodup_addLs : ∀ {ls : List Ln} {B : List Tm}, B.Nodup → (ls.foldl addL B).Nodup
  | [], _, h => h
  | l :: ls, B, h => by
    rw [List.foldl_cons]
    exact nodup_addLs (nodup_addAll (nodup_addAll h))
/-- the sides of lines, the first ones ahead -/
def sidesL (ls : List Ln) : List Tm := ls.map (·.1) ++ ls.map (·.2)
theorem pres_sides (ls : List Ln) : (Tm.pres (sidesL ls)).length = cntL ls := by
  unfold sidesL
  rw [Tm.pres_app, List.length_append]
  induction ls with
  | nil => rw [List.map_nil, List.map_nil, Tm.pres]; rfl
  | cons l ls ih =>
    rw [List.map_cons, List.map_cons, Tm.pres, Tm.pres, List.length_append, List.length_append, cntL, ← ih]
    omega
theorem mem_sides {ls : List Ln} {x : Tm} : x ∈ Tm.pres (sidesL ls) ↔ ∃ l ∈ ls, x ∈ Tm.pre l.1 ∨ x ∈ Tm.pre l.2 := by
  rw [mem_pres]
  unfold sidesL
  constructor
  · rintro ⟨t, h1, h2⟩
    rcases List.mem_append.mp h1 with q | q
    · obtain ⟨l, h3, rfl⟩ := List.mem_map.mp q
      exact ⟨l, h3, .inl h2⟩
    · obtain ⟨l, h3, rfl⟩ := List.mem_map.mp q
      exact ⟨l, h3, .inr h2⟩
  · rintro ⟨l, h1, h2 | h2⟩
    · exact ⟨l.1, List.mem_append_left _ (List.mem_map.mpr ⟨l, h1, rfl⟩), h2⟩
    · exact ⟨l.2, List.mem_append_right _ (List.mem_map.mpr ⟨l, h1, rfl⟩), h2⟩
theorem cntL_le {n : Nat} : ∀ {ls : List Ln}, (∀ l ∈ ls, (Tm.pre l.1).length ≤ n ∧ (Tm.pre l.2).length ≤ n) → cntL ls ≤ ls.length * (2 * n)
  | [], _ => Nat.zero_le _
  | l :: ls, h => by
    have h1 := h l (List.mem_cons_self ..)
    have h2 := cntL_le fun x hx => h x (List.mem_cons_of_mem _ hx)
    rw [cntL, List.length_cons, Nat.add_mul]
    omega
theorem LnDr.ok {sg : List Sg} {d : Nat} {l : Ln} (h : LnDr sg d l) (hd : siz d ≤ 10000) : LnOk sg l := by
  obtain ⟨a, b⟩ := l
  have h1 := h.one.sz
  have h2 := h.two.sz
  refine ⟨?_, ?_, ?_⟩
  · show (fitsD sg.reverse a.data && fitsD sg.reverse b.data) = true
    rw [h.one.ok.fit, h.two.ok.fit]
    rfl
  · rw [lnD, shortD, shortsD, shortsD, shortsD, h.one.ok.short, h.two.ok.short]
    rfl
  · rw [lnD, cntD, cntsD, cntsD, cntsD, cnt_data, cnt_data]
    have h3 : (Tm.pre a).length ≤ siz d := h1
    have h4 : (Tm.pre b).length ≤ siz d := h2
    show 1 + (2 * (Tm.pre a).length + (2 * (Tm.pre b).length + 0)) ≤ 100000
    omega
end NB
namespace NB
open PySem PySem.Spec PyProof.Rows L2 LamX
theorem sIx_init (n d : Nat) : HT.sIx n d (some (-1)) = n - 1 := by
  show (if (-1 : Int) < 0 then ((-1 : Int) + (n : Int)).toNat else min (-1 : Int).toNat n) = n - 1
  rw [if_pos (by decide)]
  omega
theorem cutV_init (xs : List V) : cutV xs none (some (-1)) = xs.dropLast := by
  unfold cutV
  rw [sIx_init, HT.sIx_none, List.drop_zero, Nat.sub_zero, List.dropLast_eq_take]
theorem init_not {xs : List V} (h : 0 < xs.length) : ¬ (HT.sIx xs.length 0 none = 0 ∧ HT.sIx xs.length xs.length (some (-1)) = xs.length) := fun z => by
  rw [sIx_init] at z
  omega
theorem DpAll.init {K : PySem.W.Frag} {H : Hp} {vs : List V} {ds : List PyData} (h : DpAll K H vs ds) : DpAll K H vs.dropLast ds.dropLast := by
  rw [List.dropLast_eq_take, List.dropLast_eq_take, h.len]
  exact DpAll.take _ h
end NB

/-! what a turn of a law knows -/
namespace NB
open PySem PySem.Spec PyProof.Rows L2 LamX
theorem PoolAt.mut {H : Hp} {p cs : Addr} {z k : Int} {cells : List Int} (h : PoolAt H p cs z k cells) : Mut H [p, cs] := fun b hb => by
  rcases mem2 hb with q | q
  · rw [q, h.pool]
    exact ⟨(fun _ z => nomatch z), fun _ _ z => nomatch z⟩
  · rw [q, h.cel]
    exact ⟨(fun _ z => nomatch z), fun _ _ z => nomatch z⟩
theorem PoolAt.fr {H H' : Hp} {p cs : Addr} {z k : Int} {cells : List Int} {Tt : List (Addr × Str)} (h : PoolAt H p cs z k cells) (f : Fr Tt [] H H') : PoolAt H' p cs z k cells :=
  ⟨f.kp _ _ h.pool (fun z => nomatch z) (fun _ z => nomatch z), f.kp _ _ h.cel (fun z => nomatch z) (fun _ z => nomatch z), h.ne, h.z0, h.z1, h.k0⟩
theorem Fr.imm0 {Tt : List (Addr × Str)} {H H' : Hp} (f : Fr Tt [] H H') : Imm H H' := f.kp.imm (fun b z => nomatch z)
theorem LoreAt.fr {K : PySem.W.Frag} {C : Addr} {Tt : List (Addr × Str)} {H H' : Hp} {q : Addr} {sg : List Sg} {ls : List Ln} (h : LoreAt K C H q sg ls) (f : Fr Tt [] H H') : LoreAt K C H' q sg ls := h.kp f.kp (fun b z => nomatch z) (fun z => nomatch z)
theorem LoreAt.sm {K : PySem.W.Frag} {C : Addr} {H H' : Hp} {q p cs : Addr} {z k : Int} {cells : List Int} {sg : List Sg} {ls : List Ln} (h : LoreAt K C H q sg ls) (hp : PoolAt H p cs z k cells) (e : Sm [p, cs] H H') : LoreAt K C H' q sg ls :=
  h.kp (S := [p, cs]) (fun b o hb n _ => e b o hb n) hp.mut (fun m => by
    obtain ⟨dx, sa, lv, h1, _⟩ := h
    rcases mem2 m with q | q
    · rw [q, hp.pool] at h1
      cases h1
    · rw [q, hp.cel] at h1
      cases h1)
/-- what a turn knows of its lore -/
structure TurnAt (K : PySem.W.Frag) (C : Addr) (Tt : List (Addr × Str)) (p cs : Addr) (z : Int) (r sa : Addr) (lv : V) (sg : List Sg) (ls : List Ln) (k : Int) (H : Hp) : Prop where
  pool : ∃ c, PoolAt H p cs z k c
  spec : SqT K H r [.ref sa, lv]
  signs : SgsAt K H sa sg
  lines : Dp K H lv (lnsD ls)
  tabs : Tabs Tt H
section
variable {K : PySem.W.Frag} {C : Addr} {Tt : List (Addr × Str)} {p cs : Addr} {z : Int} {r sa : Addr} {lv : V} {sg : List Sg} {ls : List Ln} {k k' : Int} {H H' : Hp}
theorem TurnAt.fr (h : TurnAt K C Tt p cs z r sa lv sg ls k H) (f : Fr Tt [] H H') : TurnAt K C Tt p cs z r sa lv sg ls k H' := by
  obtain ⟨⟨c, h1⟩, h2, h3, h4, h5⟩ := h
  exact ⟨⟨c, h1.fr f⟩, f.imm0.sq h2, h3.imm f.imm0, Dp.imm f.imm0 _ _ (nl_lnsD ls) h4, f.tb h5⟩
theorem TurnAt.same (h : TurnAt K C Tt p cs z r sa lv sg ls k H) (s : Same H H') : TurnAt K C Tt p cs z r sa lv sg ls k H' := h.fr (Fr.same s)
theorem TurnAt.sm {c' : List Int} (h : TurnAt K C Tt p cs z r sa lv sg ls k H) (e : Sm [p, cs] H H') (hp : PoolAt H' p cs z k' c') : TurnAt K C Tt p cs z r sa lv sg ls k' H' := by
  obtain ⟨⟨c, h1⟩, h2, h3, h4, h5⟩ := h
  have i := e.imm h1.ow
  exact ⟨⟨c', hp⟩, i.sq h2, h3.imm i, Dp.imm i _ _ (nl_lnsD ls) h4, e.tabs h1.ow h5⟩
end

end NB

/-! repr of ints and texts; heaps some places of which are hidden; things and terms -/
namespace NB
open PySem PySem.Spec PyProof.Rows L2 LamX
section
variable {X : Cx}
theorem call_reprS : CallR X (.builtin "repr") (fun xs H Q => (∃ i, xs = [.int i] ∧ i.natAbs.log2 < 1920 ∧ Q (.str (toString i)) H) ∨ ∃ a, xs = [.str a] ∧ (reprText a).length ≤ sizeLine ∧ Q (.str (reprText a)) H) := by
  intro pins s σ H xs us Q I r h
  rcases h with ⟨i, rfl, hz, q⟩ | ⟨a, rfl, hz, q⟩
  · obtain ⟨u, rfl, t, rfl⟩ := vals1 r
    exact PySem.P.repr_of_int hz ⟨.str _, H, I.tok _, ⟨_, rfl⟩, q⟩
  · obtain ⟨u, rfl, t, rfl⟩ := vals1 r
    exact PySem.P.repr_of_str ⟨.str _, H, I.tok _, ⟨_, rfl⟩, q⟩ hz
end
/-- the places O are hidden -/
def hid (O : List Addr) (H : Hp) : Hp := fun b => if b ∈ O then none else H b
theorem hid_in {O : List Addr} {H : Hp} {b : Addr} (h : b ∈ O) : hid O H b = none := if_pos h
theorem hid_out {O : List Addr} {H : Hp} {b : Addr} (h : b ∉ O) : hid O H b = H b := if_neg h
theorem hid_same (O : List Addr) (H : Hp) : Same (hid O H) H := fun b o h => by
  by_cases e : b ∈ O
  · rw [hid_in e] at h
    cases h
  · rw [hid_out e] at h
    exact h
theorem Sm.hid {O : List Addr} {H H' : Hp} (e : Sm O H H') : Same (hid O H) (hid O H') := fun b o h => by
  by_cases m : b ∈ O
  · rw [hid_in m] at h
    cases h
  · rw [hid_out m] at h ⊢
    exact e b o h m
theorem Jp.sm {K : PySem.W.Frag} {O : List Addr} {H H' : Hp} {v : V} {d : PyData} (e : Sm O H H') (h : Jp K (hid O H) v d) : Jp K (hid O H') v d := Jp.same e.hid d v h
theorem Jp.out {K : PySem.W.Frag} {O : List Addr} {H : Hp} {v : V} {d : PyData} (h : Jp K (hid O H) v d) : Jp K H v d := Jp.same (hid_same O H) d v h
theorem hid_at {O : List Addr} {H : Hp} {b : Addr} {o : HO} (m : b ∉ O) (h : H b = some o) : hid O H b = some o := by rw [hid_out m]; exact h
/-! ### what fits is a term -/
mutual
theorem fits_tm (pl : List (Str × Int)) : ∀ d : PyData, fitsD pl d = true → ∃ t : Tm, d = Tm.data t
  | .tuple (.str s :: ps), h => by
    rw [fitsD_node, Bool.and_eq_true_iff] at h
    obtain ⟨ts, rfl⟩ := fitsA_tm pl ps h.2
    exact ⟨.mk s ts, by rw [Tm.data]⟩
  | .tuple [], h => by unfold fitsD at h; cases h
  | .tuple (.none :: _), h => by unfold fitsD at h; cases h
  | .tuple (.bool _ :: _), h => by unfold fitsD at h; cases h
  | .tuple (.int _ :: _), h => by unfold fitsD at h; cases h
  | .tuple (.list _ :: _), h => by unfold fitsD at h; cases h
  | .tuple (.tuple _ :: _), h => by unfold fitsD at h; cases h
  | .tuple (.dict _ :: _), h => by unfold fitsD at h; cases h
  | .none, h => by unfold fitsD at h; cases h
  | .bool _, h => by unfold fitsD at h; cases h
  | .int _, h => by unfold fitsD at h; cases h
  | .str _, h => by unfold fitsD at h; cases h
  | .list _, h => by unfold fitsD at h; cases h
  | .dict _, h => by unfold fitsD at h; cases h
theorem fitsA_tm (pl : List (Str × Int)) : ∀ ds : List PyData, fitsA pl ds = true → ∃ ts : List Tm, ds = Tm.datas ts
  | [], _ => ⟨[], by rw [Tm.datas]⟩
  | d :: ds, h => by
    rw [fitsA, Bool.and_eq_true_iff] at h
    obtain ⟨t, rfl⟩ := fits_tm pl d h.1
    obtain ⟨ts, rfl⟩ := fitsA_tm pl ds h.2
    exact ⟨t :: ts, by rw [Tm.datas]⟩
end
mutual
theorem Jp.dp {K : PySem.W.Frag} {H : Hp} : ∀ (t : Tm) (v : V), Jp K H v (Tm.data t) → Dp K H v (Tm.data t)
  | .mk s ps, v, h => by
    rw [Tm.data] at h ⊢
    cases h with
    | tup hs ha =>
      cases ha with
      | cons h1 h2 =>
        cases h1 with
        | str x => exact .tup hs (.cons (.str _) (JpAll.dp ps _ h2))
theorem JpAll.dp {K : PySem.W.Frag} {H : Hp} : ∀ (ts : List Tm) (vs : List V), JpAll K H vs (Tm.datas ts) → DpAll K H vs (Tm.datas ts)
  | [], vs, h => by
    rw [Tm.datas] at h ⊢
    cases h
    exact .nil
  | t :: ts, vs, h => by
    rw [Tm.datas] at h ⊢
    cases h with
    | cons h1 h2 => exact .cons (Jp.dp t _ h1) (JpAll.dp ts _ h2)
end
end NB
namespace NB
open PySem PySem.Spec PyProof.Rows L2 LamX
section
variable {X : Cx}
/-- x in t, t a tuple, data of any depth -/
def rInT (K : PySem.W.Frag) : R2 := fun x y H Q => ∃ d ds, Dp K H x d ∧ Dp K H y (.tuple ds) ∧ SeqAt.shaped d = true ∧ SeqAt.shaped (.tuple ds) = true ∧ Q (.bl (ds.any fun z => PyData.eqv z d)) H
theorem op_inT (hu : X.A.units + 65 < cLine) : OpR X (compareOp .In) (rInT X.K) := by
  intro pins s σ H x y v u Q I rx ry h
  obtain ⟨d, ds, hd, he, sd, se, q⟩ := h
  obtain ⟨as, r1⟩ := Dp.reads I d x v hd rx
  obtain ⟨bs, r2⟩ := Dp.reads I (.tuple ds) y u he ry
  exact SeqAt.in_tuple_reads r2 r1 (SeqAt.canLay_of_shaped se) (SeqAt.canLay_of_shaped sd) (room_in_shaped sd hu) ⟨.bl _, H, I, rfl, q⟩
end
/-- how deep tuples stand in a thing -/
theorem eqv_sg (e : Sg) (s : Str) (n : Int) : PyData.eqv (sg1 e) (.tuple [.str s, .int n]) = (decide (e.1 = s) && decide (e.2 = n)) := by
  rw [Bool.eq_iff_iff]
  unfold sg1
  rw [PyData.eqv, PyData.eqvAll, PyData.eqvAll, PyData.eqvAll, PyData.eqv, PyData.eqv]
  simp only [Bool.and_eq_true_iff, Bool.and_true, decide_eq_true_eq, beq_iff_eq]
theorem sg_in (sg : List Sg) (s : Str) (n : Int) : ((sg.map sg1).any fun z => PyData.eqv z (.tuple [.str s, .int n])) = sg.any fun e => decide (e.1 = s) && decide (e.2 = n) := by
  rw [List.any_map]
  exact congrArg (fun f => sg.any f) (funext fun e => eqv_sg e s n)
theorem lookS_mem {pl : List (Str × Int)} {s : Str} {n : Int} (h : lookS pl s = some n) : (s, n) ∈ pl := by
  unfold lookS at h
  obtain ⟨e, h1, h2⟩ := Option.map_eq_some_iff.mp h
  have h3 := List.mem_of_find?_eq_some h1
  have h4 := List.find?_some h1
  have h5 : e.1 = s := by simpa using h4
  rw [← h5, ← h2]
  exact h3
/-- a sign with so many parts is the lore's -/
theorem sg_fit {sg : List Sg} (o : SgOk sg) (s : Str) (n : Int) : (sg.any fun e => decide (e.1 = s) && decide (e.2 = n)) = (match lookS sg.reverse s with | some m => decide (n = m) | none => false) := by
  cases h : lookS sg.reverse s with
  | some m =>
    have hm := List.mem_reverse.mp (lookS_mem h)
    show _ = decide (n = m)
    by_cases e : n = m
    · rw [decide_eq_true e]
      exact List.any_eq_true.mpr ⟨(s, m), hm, by rw [decide_eq_true rfl, decide_eq_true e.symm]; rfl⟩
    · rw [decide_eq_false e]
      refine Bool.eq_false_iff.mpr fun z => ?_
      obtain ⟨y, h1, h2⟩ := List.any_eq_true.mp z
      obtain ⟨h3, h4⟩ := Bool.and_eq_true_iff.mp h2
      have h5 := (o.each y h1).1
      rw [of_decide_eq_true h3, h, of_decide_eq_true h4] at h5
      exact e (Option.some.inj h5).symm
  | none =>
    refine Bool.eq_false_iff.mpr fun z => ?_
    obtain ⟨y, h1, h2⟩ := List.any_eq_true.mp z
    obtain ⟨h3, h4⟩ := Bool.and_eq_true_iff.mp h2
    have h5 := (o.each y h1).1
    rw [of_decide_eq_true h3, h] at h5
    cases h5
end NB
namespace NB
open PySem PySem.Spec PyProof.Rows L2 LamX
theorem depthAll_mem : ∀ {ds : List PyData} {d : PyData}, d ∈ ds → d.depth ≤ PyData.depthAll ds
  | x :: ds, d, h => by
    rw [PyData.depthAll]
    rcases List.mem_cons.mp h with q | q
    · rw [q]
      exact Nat.le_max_left _ _
    · exact Nat.le_trans (depthAll_mem q) (Nat.le_max_right _ _)
theorem canLay_mem : ∀ {ds : List PyData} {d : PyData}, PyData.canLayAll0 ds = true → d ∈ ds → d.canLay0 = true
  | x :: ds, d, h, m => by
    rw [PyData.canLayAll0, Bool.and_eq_true_iff] at h
    rcases List.mem_cons.mp m with q | q
    · rw [q]
      exact h.1
    · exact canLay_mem h.2 q
end NB
namespace NB
open PySem PySem.Spec PyProof.Rows L2 LamX
def okPl (o : Option Int) (n : Int) : Bool := match o with | some m => decide (n = m) | none => false
theorem fitsD_nodeP (pl : List (Str × Int)) (s : Str) (ps : List PyData) : fitsD pl (.tuple (.str s :: ps)) = (okPl (lookS pl s) (ps.length : Int) && fitsA pl ps) := by
  rw [fitsD_node]
  cases lookS pl s <;> rfl
theorem sg_fitP {sg : List Sg} (o : SgOk sg) (s : Str) (n : Int) : (sg.any fun e => decide (e.1 = s) && decide (e.2 = n)) = okPl (lookS sg.reverse s) n := by
  rw [sg_fit o]
  cases lookS sg.reverse s <;> rfl
end NB
namespace NB
open PySem PySem.Spec PyProof.Rows L2 LamX
/-- bounds of a thing -/
structure GB (d : PyData) (c e : Nat) : Prop where
  short : shortD d = true
  lay : d.canLay0 = true
  cnt : cntD d ≤ c
  dp : d.depth ≤ e
/-- v is a thing of such bounds -/
def Gd (K : PySem.W.Frag) (O : List Addr) (c e : Nat) (H : Hp) (v : V) : Prop := ∃ d, Jp K (hid O H) v d ∧ GB d c e
def GdAll (K : PySem.W.Frag) (O : List Addr) (c e : Nat) (H : Hp) (vs : List V) : Prop := ∀ v ∈ vs, Gd K O c e H v
section
variable {K : PySem.W.Frag} {O : List Addr} {c e : Nat} {H H' : Hp} {v : V} {vs : List V}
theorem Gd.same (h : Gd K O c e H v) (s : Same H H') : Gd K O c e H' v := by
  obtain ⟨d, h1, h2⟩ := h
  exact ⟨d, h1.sm fun b o q _ => s b o q, h2⟩
theorem Gd.sm (h : Gd K O c e H v) (s : Sm O H H') : Gd K O c e H' v := by
  obtain ⟨d, h1, h2⟩ := h
  exact ⟨d, h1.sm s, h2⟩
theorem GdAll.nil : GdAll K O c e H [] := fun v h => nomatch h
theorem GdAll.same (h : GdAll K O c e H vs) (s : Same H H') : GdAll K O c e H' vs := fun v m => (h v m).same s
theorem GdAll.snoc (h : GdAll K O c e H vs) (g : Gd K O c e H v) : GdAll K O c e H (vs ++ [v]) := fun u m => by
  rcases List.mem_append.mp m with q | q
  · exact h u q
  · rw [List.mem_singleton.mp q]
    exact g
theorem oth_none : othOk K (.type "NoneType") := ⟨kit_ty (by decide +kernel), kit_ty (by decide +kernel), kit_ty (by decide +kernel), kit_ty (by decide +kernel)⟩
theorem oth_list : othOk K (.type "list") := ⟨kit_ty (by decide +kernel), kit_ty (by decide +kernel), kit_ty (by decide +kernel), kit_ty (by decide +kernel)⟩
theorem oth_dict : othOk K (.type "dict") := ⟨kit_ty (by decide +kernel), kit_ty (by decide +kernel), kit_ty (by decide +kernel), kit_ty (by decide +kernel)⟩
theorem GB.none (h1 : 1 ≤ c) : GB .none c e := ⟨rfl, rfl, h1, Nat.zero_le _⟩
theorem Gd.non (h1 : 1 ≤ c) : Gd K O c e H .non := ⟨.none, .oth (.base .non) oth_none, GB.none h1⟩
theorem Gd.str {x : Str} (h1 : 1 ≤ c) (h2 : x.length ≤ 100000) (h3 : PyData.strOk x = true) : Gd K O c e H (.str x) := ⟨.str x, .str x, by rw [shortD, decide_eq_true h2], by rw [PyData.canLay0]; exact h3, by rw [cntD_str]; exact h1, Nat.zero_le _⟩
theorem Gd.int {i : Int} (h1 : 1 ≤ c) : Gd K O c e H (.int i) := ⟨.int i, .int i, rfl, rfl, h1, Nat.zero_le _⟩
theorem Gd.bl {b : Bool} (h1 : 1 ≤ c) : Gd K O c e H (.bl b) := ⟨.bool b, .bl b, rfl, rfl, h1, Nat.zero_le _⟩
theorem Gd.lst {a : Addr} {xs : List V} (h1 : 1 ≤ c) (h : H a = some (.lst xs)) (n : a ∉ O) : Gd K O c e H (.ref a) := ⟨.none, .oth (.base (.lst (hid_at n h))) oth_list, GB.none h1⟩
theorem Gd.dct {a : Addr} {kvs : List (Key × V)} (h1 : 1 ≤ c) (h : H a = some (.dK kvs)) (n : a ∉ O) : Gd K O c e H (.ref a) := ⟨.none, .oth (.base (.dK (hid_at n h))) oth_dict, GB.none h1⟩
/-- a tuple of things -/
def JGAll (K : PySem.W.Frag) (O : List Addr) (H : Hp) (vs : List V) (n c e : Nat) : Prop := ∃ ds, JpAll K (hid O H) vs ds ∧ shortsD ds = true ∧ PyData.canLayAll0 ds = true ∧ cntsD ds ≤ c ∧ PyData.depthAll ds ≤ e ∧ ds.length ≤ n
theorem JGAll.nil {n c e : Nat} : JGAll K O H [] n c e := ⟨[], .nil, rfl, rfl, Nat.zero_le _, Nat.zero_le _, Nat.zero_le _⟩
theorem JGAll.cons {n c e c1 : Nat} (g : Gd K O c1 e H v) (h : JGAll K O H vs n c e) : JGAll K O H (v :: vs) (n + 1) (c1 + c) e := by
  obtain ⟨d, g1, g2⟩ := g
  obtain ⟨ds, h1, h2, h3, h4, h5, h6⟩ := h
  refine ⟨d :: ds, .cons g1 h1, by rw [shortsD, g2.short, h2]; rfl, by rw [PyData.canLayAll0, g2.lay, h3]; rfl, ?_, ?_, by rw [List.length_cons]; omega⟩
  · have := g2.cnt
    rw [cntsD]
    omega
  · have := g2.dp
    rw [PyData.depthAll]
    omega
theorem JGAll.app {n m c1 c2 : Nat} {ws : List V} (g : JGAll K O H vs n c1 e) (h : JGAll K O H ws m c2 e) : JGAll K O H (vs ++ ws) (n + m) (c1 + c2) e := by
  obtain ⟨ds, g1, g2, g3, g4, g5, g6⟩ := g
  obtain ⟨es, h1, h2, h3, h4, h5, h6⟩ := h
  have hdA : ∀ ds es : List PyData, PyData.depthAll (ds ++ es) = max (PyData.depthAll ds) (PyData.depthAll es) := by
    intro ds es
    induction ds with
    | nil => rw [List.nil_append, PyData.depthAll]; omega
    | cons d ds ih => rw [List.cons_append, PyData.depthAll, PyData.depthAll, ih]; omega
  refine ⟨ds ++ es, g1.app h1, ?_, ?_, by rw [cntsD_app]; omega, by rw [hdA]; omega, by rw [List.length_append]; omega⟩
  · rw [shortsD_all] at g2 h2 ⊢
    rw [List.all_append, g2, h2]
    rfl
  · clear g1 g2 g4 g5 g6 h1 h2 h4 h5 h6
    induction ds with
    | nil => exact h3
    | cons d ds ih =>
      rw [PyData.canLayAll0, Bool.and_eq_true_iff] at g3
      rw [List.cons_append, PyData.canLayAll0, g3.1, ih g3.2]
      rfl
theorem JGAll.same {n : Nat} (g : JGAll K O H vs n c e) (s : Same H H') : JGAll K O H' vs n c e := by
  obtain ⟨ds, g1, g2⟩ := g
  exact ⟨ds, JpAll.same (Sm.hid (O := O) fun b o q _ => s b o q) ds _ g1, g2⟩
theorem JGAll.sm {n : Nat} (g : JGAll K O H vs n c e) (s : Sm O H H') : JGAll K O H' vs n c e := by
  obtain ⟨ds, g1, g2⟩ := g
  exact ⟨ds, JpAll.same s.hid ds _ g1, g2⟩
theorem JGAll.mono {n m c' e' : Nat} (g : JGAll K O H vs n c e) (h1 : n ≤ m) (h2 : c ≤ c') (h3 : e ≤ e') : JGAll K O H vs m c' e' := by
  obtain ⟨ds, g1, g2, g3, g4, g5, g6⟩ := g
  exact ⟨ds, g1, g2, g3, by omega, by omega, by omega⟩
theorem Gd.mono {c' e' : Nat} (h : Gd K O c e H v) (h1 : c ≤ c') (h2 : e ≤ e') : Gd K O c' e' H v := by
  obtain ⟨d, g, a, b, h3, h4⟩ := h
  exact ⟨d, g, a, b, by omega, by omega⟩
theorem hid_sq {a : Addr} {xs : List V} (h : SqT K H a xs) (n : ∀ b ∈ O, ∃ ys, H b = some (.lst ys)) : SqT K (hid O H) a xs := by
  rcases h with (h | ⟨o, h⟩) | h
  · refine .inl (.inl (hid_at (fun m => ?_) h))
    obtain ⟨ys, z⟩ := n a m
    rw [h] at z
    cases z
  · refine .inl (.inr ⟨o, hid_at (fun m => ?_) h⟩)
    obtain ⟨ys, z⟩ := n a m
    rw [h] at z
    cases z
  · exact .inr h
theorem Gd.tup {a : Addr} {n : Nat} (hs : SqT K H a vs) (g : JGAll K O H vs n c e) (hn : n ≤ 100000) (hO : ∀ b ∈ O, ∃ ys, H b = some (.lst ys)) : Gd K O (1 + c) (e + 1) H (.ref a) := by
  obtain ⟨ds, g1, g2, g3, g4, g5, g6⟩ := g
  refine ⟨.tuple ds, .tup (hid_sq hs hO) g1, ?_, ?_, ?_, ?_⟩
  · rw [shortD, g2, decide_eq_true (by omega)]
    rfl
  · rw [PyData.canLay0]
    exact g3
  · rw [cntD]
    omega
  · rw [PyData.depth]
    omega
end
theorem PoolAt.lsts {H : Hp} {p cs : Addr} {z k : Int} {cells : List Int} (h : PoolAt H p cs z k cells) : ∀ b ∈ [p, cs], ∃ ys, H b = some (.lst ys) := fun b hb => by
  rcases mem2 hb with q | q
  · rw [q]
    exact ⟨_, h.pool⟩
  · rw [q]
    exact ⟨_, h.cel⟩
end NB
namespace NB
open PySem PySem.Spec PyProof.Rows L2 LamX
section
variable {K : PySem.W.Frag} {O : List Addr} {H H' : Hp} {v : V} {vs : List V}
theorem hid_imm (hO : ∀ b ∈ O, ∃ ys, H b = some (.lst ys)) : Imm H (hid O H) := fun b xs => ⟨fun h => hid_at (fun m => by
    obtain ⟨ys, z⟩ := hO b m
    rw [h] at z
    cases z) h, fun o h => hid_at (fun m => by
    obtain ⟨ys, z⟩ := hO b m
    rw [h] at z
    cases z) h⟩
theorem tm_gd {t : Tm} (h : Dp K H v (Tm.data t)) (h1 : shortD (Tm.data t) = true) (h2 : (Tm.data t).canLay0 = true) (hO : ∀ b ∈ O, ∃ ys, H b = some (.lst ys)) : Gd K O (2 * (Tm.pre t).length) (dpt t) H v :=
  ⟨Tm.data t, Dp.jp _ _ (jd_data t) (Dp.imm (hid_imm hO) _ _ (Tm.nl_data t) h), h1, h2, Nat.le_of_eq (cnt_data t), Nat.le_of_eq (depth_tm t)⟩
theorem tms_jg {ps : List Tm} (h : DpAll K H vs (Tm.datas ps)) (h1 : shortsD (Tm.datas ps) = true) (h2 : PyData.canLayAll0 (Tm.datas ps) = true) (hO : ∀ b ∈ O, ∃ ys, H b = some (.lst ys)) : JGAll K O H vs ps.length (2 * (Tm.pres ps).length) (dpts ps) :=
  ⟨Tm.datas ps, DpAll.jp _ _ (jd_datas ps) (DpAll.imm (hid_imm hO) _ _ (Tm.nl_datas ps) h), h1, h2, Nat.le_of_eq (cnts_datas ps), Nat.le_of_eq (depth_tms ps), Nat.le_of_eq (Tm.datas_len ps)⟩
end
/-- a term whose signs are plain texts -/
structure TmPl (t : Tm) : Prop where
  short : shortD (Tm.data t) = true
  lay : (Tm.data t).canLay0 = true
theorem TmPl.sgn {s : Str} {ps : List Tm} (h : TmPl (.mk s ps)) : s.length ≤ 100000 ∧ PyData.strOk s = true := by
  have h1 := h.short
  have h2 := h.lay
  rw [Tm.data, shortD, shortsD, Bool.and_eq_true_iff, Bool.and_eq_true_iff] at h1
  rw [Tm.data, PyData.canLay0, PyData.canLayAll0, PyData.canLay0, Bool.and_eq_true_iff] at h2
  exact ⟨shortD_str h1.2.1, h2.1⟩
theorem TmPl.parts {s : Str} {ps : List Tm} (h : TmPl (.mk s ps)) : shortsD (Tm.datas ps) = true ∧ PyData.canLayAll0 (Tm.datas ps) = true := by
  have h1 := h.short
  have h2 := h.lay
  rw [Tm.data, shortD, shortsD, Bool.and_eq_true_iff, Bool.and_eq_true_iff] at h1
  rw [Tm.data, PyData.canLay0, PyData.canLayAll0, PyData.canLay0, Bool.and_eq_true_iff] at h2
  exact ⟨h1.2.2, h2.2⟩
theorem TmPl.of {s : Str} {ps : List Tm} {p : Tm} (h : TmPl (.mk s ps)) (m : p ∈ ps) : TmPl p := by
  obtain ⟨h1, h2⟩ := h.parts
  have hm : Tm.data p ∈ Tm.datas ps := by
    rw [Tm.datas_map]
    exact List.mem_map.mpr ⟨p, m, rfl⟩
  refine ⟨?_, canLay_mem h2 hm⟩
  rw [shortsD_all, List.all_eq_true] at h1
  exact h1 _ hm
end NB
namespace NB
open PySem PySem.Spec PyProof.Rows L2 LamX
theorem shortsD_sub {ds es : List PyData} (h : shortsD ds = true) (s : ∀ d ∈ es, d ∈ ds) : shortsD es = true := by
  rw [shortsD_all, List.all_eq_true] at h ⊢
  exact fun d hd => h d (s d hd)
theorem canLay_sub {ds : List PyData} (h : PyData.canLayAll0 ds = true) : ∀ {es : List PyData}, (∀ d ∈ es, d ∈ ds) → PyData.canLayAll0 es = true
  | [], _ => rfl
  | e :: es, s => by
    rw [PyData.canLayAll0, canLay_mem h (s e (List.mem_cons_self ..)), canLay_sub h fun d hd => s d (List.mem_cons_of_mem _ hd)]
    rfl
theorem tms_take {K : PySem.W.Frag} {H : Hp} {ys : List V} {ps : List Tm} (j : Nat) (h : DpAll K H ys (Tm.datas ps)) : DpAll K H (ys.take j) (Tm.datas (ps.take j)) := by
  rw [Tm.datas_map, List.map_take, ← Tm.datas_map]
  exact DpAll.take j h
theorem DpAll.drop {K : PySem.W.Frag} {H : Hp} : ∀ {vs : List V} {ds : List PyData} (n : Nat), DpAll K H vs ds → DpAll K H (vs.drop n) (ds.drop n)
  | _, _, 0, h => by rw [List.drop_zero, List.drop_zero]; exact h
  | _, _, n + 1, .nil => by rw [List.drop_nil, List.drop_nil]; exact .nil
  | _, _, n + 1, .cons h t => by rw [List.drop_succ_cons, List.drop_succ_cons]; exact DpAll.drop n t
theorem tms_drop {K : PySem.W.Frag} {H : Hp} {ys : List V} {ps : List Tm} (j : Nat) (h : DpAll K H ys (Tm.datas ps)) : DpAll K H (ys.drop j) (Tm.datas (ps.drop j)) := by
  rw [Tm.datas_map, List.map_drop, ← Tm.datas_map]
  exact DpAll.drop j h
theorem datas_sub {ps qs : List Tm} (h : ∀ t ∈ qs, t ∈ ps) : ∀ d ∈ Tm.datas qs, d ∈ Tm.datas ps := fun d hd => by
  rw [Tm.datas_map] at hd ⊢
  obtain ⟨t, ht, rfl⟩ := List.mem_map.mp hd
  exact List.mem_map.mpr ⟨t, h t ht, rfl⟩
theorem dpts_sub {ps qs : List Tm} (h : ∀ t ∈ qs, t ∈ ps) : dpts qs ≤ dpts ps := dpts_le qs fun t ht => dpts_mem (h t ht)
theorem pres_cut {ps : List Tm} {j : Nat} {p : Tm} (h : ps[j]? = some p) : (Tm.pres ps).length = (Tm.pres (ps.take j)).length + (Tm.pre p).length + (Tm.pres (ps.drop (j + 1))).length := by
  have e : ps = ps.take j ++ p :: ps.drop (j + 1) := by
    rw [← getD_take h, List.take_append_drop]
  have := congrArg (fun l => (Tm.pres l).length) e
  simp only [Tm.pres_app, List.length_append, Tm.pres] at this
  omega
/-- a term one part of which is another thing -/
theorem bent_gd {K : PySem.W.Frag} {O : List Addr} {H : Hp} {r : Addr} {sg : Str} {ps : List Tm} {ys : List V} {v' : V} {j : Nat} {pj : Tm} (hO : ∀ b ∈ O, ∃ ys, H b = some (.lst ys)) (hs : SqT K H r ((V.str sg :: ys.take j) ++ [v'] ++ ys.drop (j + 1))) (hy : DpAll K H ys (Tm.datas ps))
    (pl : TmPl (.mk sg ps)) (hj : ps[j]? = some pj) (g : Gd K O (2 * (Tm.pre pj).length + 20) (dpt pj + 2) H v') (hz : (Tm.pre (.mk sg ps)).length ≤ 1000) : Gd K O (2 * (Tm.pre (.mk sg ps)).length + 20) (dpt (.mk sg ps) + 2) H (.ref r) := by
  have hp1 : (Tm.pre (.mk sg ps)).length = (Tm.pres ps).length + 1 := by rw [Tm.pre, List.length_cons]
  have hp2 := pres_cut hj
  have hp3 := Tm.pres_len ps
  have hp4 := dpts_mem (List.mem_of_getElem? hj)
  obtain ⟨h1, h2⟩ := pl.sgn
  obtain ⟨h3, h4⟩ := pl.parts
  have hdt : dpt (.mk sg ps) = 1 + dpts ps := by rw [dpt]
  have s1 : ∀ t ∈ ps.take j, t ∈ ps := fun t => List.mem_of_mem_take
  have s2 : ∀ t ∈ ps.drop (j + 1), t ∈ ps := fun t => List.mem_of_mem_drop
  have q1 := dpts_sub s1
  have q2 := dpts_sub s2
  have a1 := (tms_jg (tms_take j hy) (shortsD_sub h3 (datas_sub s1)) (canLay_sub h4 (datas_sub s1)) hO).mono (Nat.le_refl _) (Nat.le_refl _) (show dpts (ps.take j) ≤ dpts ps + 2 by omega)
  have a2 := (tms_jg (tms_drop (j + 1) hy) (shortsD_sub h3 (datas_sub s2)) (canLay_sub h4 (datas_sub s2)) hO).mono (Nat.le_refl _) (Nat.le_refl _) (show dpts (ps.drop (j + 1)) ≤ dpts ps + 2 by omega)
  have a3 := JGAll.cons (Gd.str (K := K) (O := O) (H := H) (c := 1) (e := dpts ps + 2) (Nat.le_refl _) h1 h2) a1
  have a4 := JGAll.cons (g.mono (Nat.le_refl _) (show dpt pj + 2 ≤ dpts ps + 2 by omega)) (JGAll.nil (K := K) (O := O) (H := H) (n := 0) (c := 0) (e := dpts ps + 2))
  have a5 := (a3.app a4).app a2
  have l1 : (ps.take j).length ≤ ps.length := by rw [List.length_take]; omega
  have l2 : (ps.drop (j + 1)).length ≤ ps.length := by rw [List.length_drop]; omega
  exact (Gd.tup hs a5 (by omega) hO).mono (by omega) (by omega)
end NB

namespace NB
open PySem PySem.Spec PyProof.Rows L2 LamX
variable {K : PySem.W.Frag}
theorem sIx_nn (n d j : Nat) : HT.sIx n d (some (j : Int)) = min j n := by
  show (if (j : Int) < 0 then ((j : Int) + (n : Int)).toNat else min (j : Int).toNat n) = _
  rw [if_neg (by omega), Int.toNat_natCast]
theorem cutV_whole {xs : List V} {lo hi : Option Int} (h : HT.sIx xs.length 0 lo = 0 ∧ HT.sIx xs.length xs.length hi = xs.length) : cutV xs lo hi = xs := by
  unfold cutV
  rw [h.1, h.2, List.drop_zero, Nat.sub_zero, List.take_length]
theorem cutV_drop (xs : List V) (j : Nat) : cutV xs (some (j : Int)) none = xs.drop j := by
  unfold cutV
  rw [sIx_nn, HT.sIx_none]
  by_cases h : j ≤ xs.length
  · rw [Nat.min_eq_left h, List.take_of_length_le (by rw [List.length_drop]; omega)]
  · rw [Nat.min_eq_right (by omega), List.drop_eq_nil_of_le (Nat.le_refl _), List.drop_eq_nil_of_le (by omega), List.take_nil]
/-- a slice of a tuple, as it may be used -/
theorem slA_any {H : Hp} {a : Addr} {xs : List V} {lo hi : Option Int} {Q : VK} (hx : SqT K H a xs) (q : ∀ H' r, Same H H' → SqT K H' r (cutV xs lo hi) → Q (.ref r) H') : rSlA K (.ref a) lo hi H Q :=
  ⟨a, xs, rfl, hx, fun h => q H a (Same.refl H) (by rw [cutV_whole h]; exact hx), fun _ p np => q _ p (same_new np) (.inl (.inl upd_same))⟩
theorem catA_any {H : Hp} {a b : Addr} {xs ys : List V} {Q : VK} (hx : SqT K H a xs) (hy : SqT K H b ys) (hz : xs.length + ys.length ≤ sizeLine) (q : ∀ H' r, Same H H' → SqT K H' r (xs ++ ys) → Q (.ref r) H') : rCatA K (.ref a) (.ref b) H Q :=
  ⟨a, b, xs, ys, rfl, rfl, hx, hy, hz, fun h => q H b (Same.refl H) (by rw [h]; exact hy), fun _ h => q H a (Same.refl H) (by rw [h, List.append_nil]; exact hx), fun _ _ p np => q _ p (same_new np) (.inl (.inl upd_same))⟩
end NB
namespace NB
open PySem PySem.Spec PyProof.Rows L2 LamX
variable {K : PySem.W.Frag} {O : List Addr} {H1 : Hp} {σ : L2.St}
/-- an expression that makes a thing which can be judged, and changes nothing -/
def GE (K : PySem.W.Frag) (O : List Addr) (H1 : Hp) (σ : L2.St) (c e : Nat) (t : TE) : Prop := ∀ (H : Hp) (Q : VK), Same H1 H → (∀ H' v, Same H H' → Gd K O c e H' v → Q v H') → t σ H Q
def GA (K : PySem.W.Frag) (O : List Addr) (H1 : Hp) (σ : L2.St) (c e n : Nat) (ts : TA) : Prop := ∀ (H : Hp) (Q : List V → Hp → Prop), Same H1 H → (∀ H' vs, Same H H' → GdAll K O c e H' vs → vs.length = n → Q vs H') → ts σ H Q
def JE (K : PySem.W.Frag) (O : List Addr) (H1 : Hp) (σ : L2.St) (n c e : Nat) (ts : TA) : Prop := ∀ (H : Hp) (Q : List V → Hp → Prop), Same H1 H → (∀ H' vs, Same H H' → JGAll K O H' vs n c e → vs.length = n → Q vs H') → ts σ H Q
variable {c e n c1 : Nat} {t : TE} {ts : TA}
theorem GA.nil : GA K O H1 σ c e 0 tNil := fun H Q _ q => q H [] (Same.refl H) GdAll.nil rfl
theorem GA.cons (h : GE K O H1 σ c e t) (g : GA K O H1 σ c e n ts) : GA K O H1 σ c e (n + 1) (tCons t ts) := fun H Q s q =>
  h H _ s fun H2 x s2 gx => g H2 _ (s.trans s2) fun H3 xs s3 gxs l3 => q H3 _ (s2.trans s3) (fun u m => by
    rcases List.mem_cons.mp m with z | z
    · rw [z]
      exact gx.same s3
    · exact gxs u z) (by rw [List.length_cons, l3])
theorem JE.nil : JE K O H1 σ 0 0 e tNil := fun H Q _ q => q H [] (Same.refl H) JGAll.nil rfl
theorem JE.cons (h : GE K O H1 σ c1 e t) (g : JE K O H1 σ n c e ts) : JE K O H1 σ (n + 1) (c1 + c) e (tCons t ts) := fun H Q s q =>
  h H _ s fun H2 x s2 gx => g H2 _ (s.trans s2) fun H3 xs s3 gxs l3 => q H3 _ (s2.trans s3) (JGAll.cons (gx.same s3) gxs) (by rw [List.length_cons, l3])
theorem GE.con {v : V} (h : ∀ H, Gd K O c e H v) : GE K O H1 σ c e (tC v) := fun H Q _ q => q H v (Same.refl H) (h H)
theorem GE.mono {c' e' : Nat} (h : GE K O H1 σ c e t) (h1 : c ≤ c') (h2 : e ≤ e') : GE K O H1 σ c' e' t := fun H Q s q => h H Q s fun H' v s' g => q H' v s' (g.mono h1 h2)
theorem GE.tup (hO : ∀ b ∈ O, ∃ ys, H1 b = some (.lst ys)) (h : JE K O H1 σ n c e ts) (hn : n ≤ 100000) : GE K O H1 σ (1 + c) (e + 1) (tTup ts) := fun H Q s q =>
  h H _ s fun H2 vs s2 g l2 => ⟨by rw [l2]; have : 100000 < sizeLine := by decide
                                   omega, fun p np => q _ _ (s2.trans (same_new np)) (Gd.tup (.inl (.inl upd_same)) (g.same (same_new np)) hn fun b hb => by
    obtain ⟨ys, hy⟩ := hO b hb
    exact ⟨ys, same_new np _ _ (s2 _ _ (s _ _ hy))⟩)⟩
theorem GE.lst (hO : ∀ b ∈ O, ∃ ys, H1 b = some (.lst ys)) (h : JE K O H1 σ n c e ts) (hn : n ≤ 100000) {c' : Nat} (h1 : 1 ≤ c') : GE K O H1 σ c' e (tLst ts) := fun H Q s q =>
  h H _ s fun H2 vs s2 g l2 => ⟨by rw [l2]; have : 100000 < sizeLine := by decide
                                   omega, fun p np => q _ _ (s2.trans (same_new np)) (Gd.lst h1 upd_same fun m => by
    obtain ⟨ys, hy⟩ := hO p m
    have z := s2 _ _ (s _ _ hy)
    rw [np] at z
    cases z)⟩
theorem GE.dct (hO : ∀ b ∈ O, ∃ ys, H1 b = some (.lst ys)) (h1 : 1 ≤ c) : GE K O H1 σ c e tDNewK := fun H Q s q p np => q _ _ (same_new np) (Gd.dct h1 upd_same fun m => by
    obtain ⟨ys, hy⟩ := hO p m
    have z := s _ _ hy
    rw [np] at z
    cases z)
theorem GA.lst (h : GA K O H1 σ c e n ts) (hn : n ≤ 100000) {H : Hp} {Q : VK} (s : Same H1 H) (q : ∀ H' vs p, Same H H' → GdAll K O c e H' vs → vs.length = n → H' p = some (.lst vs) → Q (.ref p) H') : tLst ts σ H Q :=
  h H _ s fun H2 vs s2 g l2 => ⟨by rw [l2]; have : 100000 < sizeLine := by decide
                                   omega, fun p np => q _ _ _ (s2.trans (same_new np)) (g.same (same_new np)) l2 upd_same⟩
theorem GE.strA (h1 : 1 ≤ c) {x : Str} (h2 : x.length ≤ 100000) (h3 : PyData.strOk x = true) : GE K O H1 σ c e (tC (.str x)) := GE.con fun _ => Gd.str h1 h2 h3
/-- a tuple of one text in brackets -/
theorem GE.one (hO : ∀ b ∈ O, ∃ ys, H1 b = some (.lst ys)) {x : Str} (h2 : x.length ≤ 100000) (h3 : PyData.strOk x = true) : GE K O H1 σ 2 (e + 1) (tTup (tCons (tC (.str x)) tNil)) := GE.tup hO (JE.cons (GE.strA (Nat.le_refl 1) h2 h3) JE.nil) (by decide)
theorem JGAll.tail {H : Hp} {vs : List V} {v : V} (h : JGAll K O H (v :: vs) n c e) : JGAll K O H vs n c e := by
  obtain ⟨ds, h1, h2, h3, h4, h5, h6⟩ := h
  cases h1 with
  | cons a b =>
    rw [shortsD, Bool.and_eq_true] at h2
    rw [PyData.canLayAll0, Bool.and_eq_true] at h3
    rw [cntsD] at h4
    rw [PyData.depthAll] at h5
    rw [List.length_cons] at h6
    exact ⟨_, b, h2.2, h3.2, by omega, by omega, by omega⟩
theorem JGAll.init {H : Hp} : ∀ {vs : List V} {n c e : Nat}, JGAll K O H vs n c e → JGAll K O H vs.dropLast n c e
  | [], _, _, _, h => h
  | [_], _, _, _, _ => JGAll.nil
  | v :: w :: vs, n, c, e, h => by
    obtain ⟨ds, h1, h2, h3, h4, h5, h6⟩ := h
    cases h1 with
    | cons a b =>
      rename_i d ds
      rw [shortsD, Bool.and_eq_true] at h2
      rw [PyData.canLayAll0, Bool.and_eq_true] at h3
      rw [cntsD] at h4
      rw [PyData.depthAll] at h5
      rw [List.length_cons] at h6
      obtain ⟨es, i1, i2, i3, i4, i5, i6⟩ := JGAll.init (vs := w :: vs) (n := ds.length) (c := cntsD ds) (e := PyData.depthAll ds) ⟨ds, b, h2.2, h3.2, Nat.le_refl _, Nat.le_refl _, Nat.le_refl _⟩
      rw [List.dropLast_cons_of_ne_nil (List.cons_ne_nil _ _)]
      refine ⟨d :: es, .cons a i1, ?_, ?_, ?_, ?_, ?_⟩
      · rw [shortsD, h2.1, i2]; rfl
      · rw [PyData.canLayAll0, h3.1, i3]; rfl
      · rw [cntsD]; omega
      · rw [PyData.depthAll]; omega
      · rw [List.length_cons]; omega
theorem seq_asg {te : TE} {g : TG} {u : TS} {D : Ends} {σ : L2.St} {H : Hp} (h : te σ H fun x H1 => g x σ H1 (u D)) : tSeq (tAsg te g) u D σ H := h
end NB

/-! the two keys that order terms order them alike -/
namespace NB
open PySem PySem.Spec PyProof.Rows L2 LamX PySem.W
def wd (t : Tm) : List (Int ⊕ List Nat) := (Tm.pre t).flatMap fun x => [.inl 1, .inr x.sg.cps.toList]
def wds (ps : List Tm) : List (Int ⊕ List Nat) := (Tm.pres ps).flatMap fun x => [.inl 1, .inr x.sg.cps.toList]
theorem wd_mk (s : Str) (ps : List Tm) : wd (.mk s ps) = .inl 1 :: .inr s.cps.toList :: wds ps := by
  unfold wd wds
  rw [Tm.pre, List.flatMap_cons]
  rfl
theorem wds_cons (p : Tm) (ps : List Tm) : wds (p :: ps) = wd p ++ wds ps := by
  unfold wd wds
  rw [Tm.pres, List.flatMap_append]
theorem toks_wd : ∀ ts : List Tm, keyToksAll (ts.map fun x => .str x.sg) = (ts.flatMap fun x => [.inl 1, .inr x.sg.cps.toList]) ++ [.inl 0]
  | [] => by rw [List.map_nil, keyToksAll]; rfl
  | t :: ts => by
    rw [List.map_cons, keyToksAll, toks_wd ts, List.flatMap_cons, keyToks]
    rfl
def dk (t : Tm) : List (Int ⊕ List Nat) := keyToks (Tm.data t)
def dks (ps : List Tm) : List (Int ⊕ List Nat) := keyToksAll (Tm.datas ps)
theorem dk_mk (s : Str) (ps : List Tm) : dk (.mk s ps) = .inl 1 :: .inr s.cps.toList :: dks ps := by
  unfold dk dks
  rw [Tm.data, keyToks, keyToksAll, keyToks]
  rfl
theorem dks_cons (p : Tm) (ps : List Tm) : dks (p :: ps) = .inl 1 :: (dk p ++ dks ps) := by
  unfold dk dks
  rw [Tm.datas, keyToksAll]
abbrev lx := PyProof.Rows.lexLt itemOrd
theorem lx_flip {p q : Int ⊕ List Nat} (h : p ≠ q) : itemOrd.blt q p = !itemOrd.blt p q := by
  cases e1 : itemOrd.blt p q with
  | true =>
    cases e2 : itemOrd.blt q p with
    | true =>
      have := itemOrd.trans _ _ _ e1 e2
      rw [itemOrd.irrefl] at this
      cases this
    | false => rfl
  | false =>
    cases e2 : itemOrd.blt q p with
    | true => rfl
    | false => exact absurd (itemOrd.total _ _ e1 e2) h
/-- a difference that decides both ways of comparing -/
def Cmp (a b c d : List (Int ⊕ List Nat)) : Prop := ∃ v : Bool, ∀ l m l' m', lx (a ++ l) (b ++ m) = v ∧ lx (b ++ m) (a ++ l) = (!v) ∧ lx (c ++ l') (d ++ m') = v ∧ lx (d ++ m') (c ++ l') = (!v)
theorem Cmp.pre {a b c d : List (Int ⊕ List Nat)} (p q : List (Int ⊕ List Nat)) (h : Cmp a b c d) : Cmp (p ++ a) (p ++ b) (q ++ c) (q ++ d) := by
  obtain ⟨v, h⟩ := h
  refine ⟨v, fun l m l' m' => ?_⟩
  rw [List.append_assoc, List.append_assoc, List.append_assoc, List.append_assoc]
  unfold lx
  rw [lex_pre, lex_pre, lex_pre, lex_pre]
  exact h l m l' m'
theorem Cmp.more {a b c d : List (Int ⊕ List Nat)} (a' b' c' d' : List (Int ⊕ List Nat)) (h : Cmp a b c d) : Cmp (a ++ a') (b ++ b') (c ++ c') (d ++ d') := by
  obtain ⟨v, h⟩ := h
  refine ⟨v, fun l m l' m' => ?_⟩
  rw [List.append_assoc, List.append_assoc, List.append_assoc, List.append_assoc]
  exact h _ _ _ _
theorem Cmp.atom {p q : Int ⊕ List Nat} (h : p ≠ q) (a b c d : List (Int ⊕ List Nat)) : Cmp (p :: a) (q :: b) (p :: c) (q :: d) := by
  refine ⟨itemOrd.blt p q, fun l m l' m' => ?_⟩
  rw [List.cons_append, List.cons_append, List.cons_append, List.cons_append]
  unfold lx
  rw [lex_diff h, lex_diff (Ne.symm h), lex_diff h, lex_diff (Ne.symm h)]
  exact ⟨rfl, lx_flip h, rfl, lx_flip h⟩
mutual
theorem cmp_tm (pl : List (Str × Int)) : ∀ t u : Tm, fitsD pl (Tm.data t) = true → fitsD pl (Tm.data u) = true → t = u ∨ Cmp (wd t) (wd u) (dk t) (dk u)
  | .mk s ps, .mk r qs, h1, h2 => by
    rw [wd_mk, wd_mk, dk_mk, dk_mk]
    rw [Tm.data, fitsD_nodeP, Bool.and_eq_true] at h1 h2
    by_cases e : s = r
    · subst e
      have hl : ps.length = qs.length := by
        obtain ⟨a, _⟩ := h1
        obtain ⟨b, _⟩ := h2
        unfold okPl at a b
        cases z : lookS pl s with
        | none => rw [z] at a; cases a
        | some m =>
          rw [z] at a b
          have a' := of_decide_eq_true a
          have b' := of_decide_eq_true b
          rw [Tm.datas_len] at a' b'
          omega
      rcases cmp_tms pl ps qs h1.2 h2.2 hl with z | z
      · exact .inl (by rw [z])
      · exact .inr (z.pre [.inl 1, .inr s.cps.toList] [.inl 1, .inr s.cps.toList])
    · have hne : (Sum.inr s.cps.toList : Int ⊕ List Nat) ≠ .inr r.cps.toList := fun z => e (str_of_cps (Sum.inr.inj z))
      exact .inr ((Cmp.atom hne (wds ps) (wds qs) (dks ps) (dks qs)).pre [.inl 1] [.inl 1])
theorem cmp_tms (pl : List (Str × Int)) : ∀ ps qs : List Tm, fitsA pl (Tm.datas ps) = true → fitsA pl (Tm.datas qs) = true → ps.length = qs.length → ps = qs ∨ Cmp (wds ps) (wds qs) (dks ps) (dks qs)
  | [], [], _, _, _ => .inl rfl
  | [], _ :: _, _, _, h => nomatch h
  | _ :: _, [], _, _, h => nomatch h
  | p :: ps, q :: qs, h1, h2, hl => by
    rw [wds_cons, wds_cons, dks_cons, dks_cons]
    rw [Tm.datas, fitsA, Bool.and_eq_true] at h1 h2
    rcases cmp_tm pl p q h1.1 h2.1 with z | z
    · subst z
      rcases cmp_tms pl ps qs h1.2 h2.2 (Nat.succ.inj hl) with y | y
      · exact .inl (by rw [y])
      · exact .inr (y.pre (wd p) (.inl 1 :: dk p))
    · exact .inr ((z.more _ _ _ _).pre [] [.inl 1])
end
def kt (d : PyData) : List (Int ⊕ List Nat) := keyToks d
theorem kt_key (t : Tm) : keyToks (keyD t) = .inl 1 :: .inl ((Tm.pre t).length : Int) :: .inl 1 :: (wd t ++ [.inl 0] ++ [.inl 0]) := by
  unfold keyD
  rw [keyToks, keyToksAll, keyToksAll, keyToksAll, keyToks, keyToks, toks_wd]
  rfl
theorem kt_skey (t : Tm) : keyToks (skeyD t) = .inl 1 :: .inl ((Tm.pre t).length : Int) :: .inl 1 :: (dk t ++ [.inl 0]) := by
  unfold skeyD
  rw [keyToks, keyToksAll, keyToksAll, keyToksAll, keyToks]
  rfl
theorem key_both {pl : List (Str × Int)} {t u : Tm} (h1 : fitsD pl (Tm.data t) = true) (h2 : fitsD pl (Tm.data u) = true) : t = u ∨ ∃ v : Bool, lx (keyToks (keyD t)) (keyToks (keyD u)) = v ∧ lx (keyToks (keyD u)) (keyToks (keyD t)) = (!v) ∧ lx (keyToks (skeyD t)) (keyToks (skeyD u)) = v ∧ lx (keyToks (skeyD u)) (keyToks (skeyD t)) = (!v) := by
  rw [kt_key, kt_key, kt_skey, kt_skey]
  by_cases e : (Tm.pre t).length = (Tm.pre u).length
  · rcases cmp_tm pl t u h1 h2 with z | ⟨v, z⟩
    · exact .inl z
    · refine .inr ⟨v, ?_⟩
      rw [e]
      unfold lx
      rw [lex_self, lex_self, lex_self, lex_self, lex_self, lex_self, lex_self, lex_self, lex_self, lex_self, lex_self, lex_self, List.append_assoc, List.append_assoc]
      exact z _ _ _ _
  · have hne : (Sum.inl ((Tm.pre t).length : Int) : Int ⊕ List Nat) ≠ .inl ((Tm.pre u).length : Int) := fun z => e (by have := Sum.inl.inj z; omega)
    refine .inr ⟨itemOrd.blt (Sum.inl ((Tm.pre t).length : Int)) (.inl ((Tm.pre u).length : Int)), ?_⟩
    unfold lx
    rw [lex_self, lex_self, lex_self, lex_self, lex_diff hne, lex_diff (Ne.symm hne), lex_diff hne, lex_diff (Ne.symm hne)]
    exact ⟨rfl, lx_flip hne, rfl, lx_flip hne⟩
theorem dataLe_eq {β : Type} (k : β → PyData) (a b : β) : dataLe false k a b = !lx (keyToks (k b)) (keyToks (k a)) := rfl
theorem zip_map2 {α β γ : Type} (f : β → γ) : ∀ (xs : List α) (ys : List β), xs.zip (ys.map f) = (xs.zip ys).map fun p => (p.1, f p.2)
  | [], ys => by rw [List.zip_nil_left, List.zip_nil_left]; rfl
  | x :: xs, [] => by rw [List.map_nil, List.zip_nil_right, List.zip_nil_right]; rfl
  | x :: xs, y :: ys => by rw [List.map_cons, List.zip_cons_cons, List.zip_cons_cons, List.map_cons, zip_map2 f xs ys]
theorem dp_zip {K : PySem.W.Frag} {H : Hp} : ∀ {us : List V} {B : List Tm}, DpAll K H us (Tm.datas B) → ∀ p ∈ us.zip B, Dp K H p.1 (Tm.data p.2)
  | [], _, _, p, m => by rw [List.zip_nil_left] at m; cases m
  | _ :: _, [], h, p, m => by rw [List.zip_nil_right] at m; cases m
  | u :: us, t :: B, h, p, m => by
    rw [Tm.datas] at h
    cases h with
    | cons h1 h2 =>
      rw [List.zip_cons_cons] at m
      rcases List.mem_cons.mp m with z | z
      · rw [z]
        exact h1
      · exact dp_zip h2 p z
theorem dp_maps {K : PySem.W.Frag} {H : Hp} : ∀ {zs : List (V × Tm)}, (∀ p ∈ zs, Dp K H p.1 (Tm.data p.2)) → DpAll K H (zs.map (·.1)) (Tm.datas (zs.map (·.2)))
  | [], _ => .nil
  | p :: zs, h => by
    rw [List.map_cons, List.map_cons, Tm.datas]
    exact .cons (h p (List.mem_cons_self ..)) (dp_maps fun q m => h q (List.mem_cons_of_mem _ m))
theorem srt_tm {K : PySem.W.Frag} {H : Hp} (key : Tm → PyData) {us : List V} {B : List Tm} (h : DpAll K H us (Tm.datas B)) : ∃ S : List Tm, S.Perm B ∧ S.Pairwise (fun a b => dataLe false key a b = true) ∧ DpAll K H (srt us (B.map key)) (Tm.datas S) := by
  have hl : us.length = B.length := by rw [h.len, Tm.datas_len]
  have e := sort_maps (fun p : V × Tm => (p.1, key p.2)) (r := dataLe false (fun p : V × Tm => key p.2)) (s := dataLe false (fun p : V × PyData => p.2)) (l := us.zip B) (fun _ _ _ _ => rfl)
  have pm := List.mergeSort_perm (us.zip B) (dataLe false (fun p : V × Tm => key p.2))
  have e1 : srt us (B.map key) = ((us.zip B).mergeSort (dataLe false (fun p : V × Tm => key p.2))).map (·.1) := by
    unfold srt
    rw [zip_map2, ← e, List.map_map]
    rfl
  refine ⟨((us.zip B).mergeSort (dataLe false (fun p : V × Tm => key p.2))).map (·.2), ?_, ?_, ?_⟩
  · have := pm.map (·.2)
    rw [List.map_snd_zip (Nat.le_of_eq hl.symm)] at this
    exact this
  · rw [List.pairwise_map]
    exact sort_pairwise (sortLe_total (listOrd itemOrd) false _) (us.zip B)
  · rw [e1]
    exact dp_maps fun p m => dp_zip h p (pm.mem_iff.mp m)
theorem srt_two {K : PySem.W.Frag} {H H' : Hp} {pl : List (Str × Int)} {us vs : List V} {B F : List Tm} (h : DpAll K H us (Tm.datas B)) (g : DpAll K H' vs (Tm.datas F)) (nB : B.Nodup) (nF : F.Nodup) (e : ∀ x, x ∈ F ↔ x ∈ B) (ft : ∀ x ∈ B, fitsD pl (Tm.data x) = true) :
    ∃ S : List Tm, S.Perm B ∧ DpAll K H (srt us (B.map keyD)) (Tm.datas S) ∧ DpAll K H' (srt vs (F.map skeyD)) (Tm.datas S) := by
  obtain ⟨S, p1, q1, r1⟩ := srt_tm keyD h
  obtain ⟨R, p2, q2, r2⟩ := srt_tm skeyD g
  have pf : F.Perm B := (List.perm_ext_iff_of_nodup nF nB).mpr e
  have pSR : S.Perm R := p1.trans (pf.symm.trans p2.symm)
  have q2' : R.Pairwise (fun a b => dataLe false keyD a b = true) := by
    refine q2.imp_of_mem fun {a b} ha hb hab => ?_
    have ha' := ft a ((e a).mp (p2.mem_iff.mp ha))
    have hb' := ft b ((e b).mp (p2.mem_iff.mp hb))
    rw [dataLe_eq] at hab ⊢
    rcases key_both ha' hb' with z | ⟨v, z1, z2, z3, z4⟩
    · rw [z]
      unfold lx
      rw [lex_irrefl]
      rfl
    · rw [z2]
      rw [z4] at hab
      exact hab
  have hSR : S = R := by
    refine List.Perm.eq_of_pairwise (le := fun a b => dataLe false keyD a b = true) ?_ q1 q2' pSR
    intro a b ha hb h1 h2
    have ha' := ft a (p1.mem_iff.mp ha)
    have hb' := ft b ((e b).mp (p2.mem_iff.mp hb))
    rw [dataLe_eq] at h1 h2
    rcases key_both ha' hb' with z | ⟨v, z1, z2, z3, z4⟩
    · exact z
    · rw [z2] at h1
      rw [z1] at h2
      cases v <;> simp at h1 h2
  subst hSR
  exact ⟨S, p1, r1, r2⟩
end NB
namespace NB
open PySem PySem.Spec PyProof.Rows L2 LamX
mutual
theorem pre_fit (pl : List (Str × Int)) : ∀ t x : Tm, fitsD pl (Tm.data t) = true → x ∈ Tm.pre t → fitsD pl (Tm.data x) = true
  | .mk s ps, x, h, m => by
    rw [Tm.pre] at m
    rcases List.mem_cons.mp m with z | z
    · rw [z]
      exact h
    · rw [Tm.data, fitsD_nodeP, Bool.and_eq_true] at h
      exact pres_fit pl ps x h.2 z
theorem pres_fit (pl : List (Str × Int)) : ∀ (ts : List Tm) (x : Tm), fitsA pl (Tm.datas ts) = true → x ∈ Tm.pres ts → fitsD pl (Tm.data x) = true
  | [], x, h, m => by rw [Tm.pres] at m; cases m
  | t :: ts, x, h, m => by
    rw [Tm.datas, fitsA, Bool.and_eq_true] at h
    rw [Tm.pres] at m
    rcases List.mem_append.mp m with z | z
    · exact pre_fit pl t x h.1 z
    · exact pres_fit pl ts x h.2 z
end
mutual
theorem pre_dpT : ∀ t x : Tm, x ∈ Tm.pre t → dpt x ≤ dpt t ∧ ((Tm.data t).canLay0 = true → (Tm.data x).canLay0 = true)
  | .mk s ps, x, m => by
    rw [Tm.pre] at m
    rcases List.mem_cons.mp m with z | z
    · rw [z]
      exact ⟨Nat.le_refl _, id⟩
    · have := pres_dpT ps x z
      rw [dpt, Tm.data, PyData.canLay0, PyData.canLayAll0, Bool.and_eq_true]
      exact ⟨by omega, fun h => this.2 h.2⟩
theorem pres_dpT : ∀ (ts : List Tm) (x : Tm), x ∈ Tm.pres ts → dpt x ≤ dpts ts ∧ (PyData.canLayAll0 (Tm.datas ts) = true → (Tm.data x).canLay0 = true)
  | [], x, m => by rw [Tm.pres] at m; cases m
  | t :: ts, x, m => by
    rw [Tm.pres] at m
    rw [dpts, Tm.datas, PyData.canLayAll0, Bool.and_eq_true]
    rcases List.mem_append.mp m with z | z
    · have := pre_dpT t x z
      exact ⟨by omega, fun h => this.2 h.1⟩
    · have := pres_dpT ts x z
      exact ⟨by omega, fun h => this.2 h.2⟩
end
theorem shaped_tmsT {F : List Tm} (h1 : ∀ t ∈ F, (Tm.data t).canLay0 = true) (h2 : ∀ t ∈ F, dpt t ≤ 40) : SeqAt.shaped (.tuple (Tm.datas F)) = true ∧ (PyData.tuple (Tm.datas F)).canLay0 = true := by
  have e : (PyData.tuple (Tm.datas F)).canLay0 = true := by rw [PyData.canLay0, canLay_datas F h1]
  refine ⟨?_, e⟩
  unfold SeqAt.shaped
  have := dpts_le F h2
  rw [e, PyData.depth, depth_tms, decide_eq_true (by omega)]
  rfl
end NB

/-! slices and sums of plain tuples are plain -/
namespace NB
open PySem PySem.Spec PyProof.Rows L2
theorem PlT.sm {K : PySem.W.Frag} {H H' : Hp} {a : Addr} {xs : List V} (h : PlT K H a xs) (e : Same H H') : PlT K H' a xs := h.same fun b o u q => e _ _ q
section
variable {X : Cx}
/-- t[lo:hi] of a plain tuple -/
def rSlP (K : PySem.W.Frag) : V → Option Int → Option Int → Hp → VK → Prop := fun x lo hi H Q => ∃ a xs, x = .ref a ∧ PlT K H a xs ∧ ∀ H' r, Same H H' → PlT K H' r (cutV xs lo hi) → Q (.ref r) H'
theorem cutV_wholeP {xs : List V} {lo hi : Option Int} (h : HT.sIx xs.length 0 lo = 0 ∧ HT.sIx xs.length xs.length hi = xs.length) : cutV xs lo hi = xs := by
  unfold cutV
  rw [h.1, h.2, List.drop_zero, Nat.sub_zero, List.take_length]
theorem sl_tupP : SlR X (rSlP X.K) := by
  intro pins s σ H x v vl vu lo hi sl Q I rx hs pl pu h
  obtain ⟨a, xs, rfl, hx, q⟩ := h
  cases rx
  obtain ⟨its, r, ht, hz⟩ := I.tuple hx.sq
  have hlen : its.toArray.size = xs.length := by rw [List.size_toArray]; exact r.length.symm
  refine ⟨"tuple", _, PyProof.Rows.slot_tuple_getitem.lookup, ht.typeIs, ?_⟩
  by_cases hw : HT.sIx xs.length 0 lo = 0 ∧ HT.sIx xs.length xs.length hi = xs.length
  · exact getItem_tuple_whole ht hs pl pu (by rw [hlen]; exact hw) ⟨.ref a, H, I, rfl, q H a (Same.refl H) (by rw [cutV_wholeP hw]; exact hx)⟩
  · refine HT.getItem_tuple_cut ht hs pl pu (by rw [hlen]; exact hw) ?_ (by rw [hlen]; exact hz)
    rw [hlen]
    have np := I.hok.fresh (Nat.le_refl s.heap.objs.size)
    refine ⟨.ref s.heap.objs.size, _, I.laid (t' := s.toks) (o := .frz { cls := .type "tuple", data := .seq ((its.drop (HT.sIx xs.length 0 lo)).take (HT.sIx xs.length xs.length hi - HT.sIx xs.length 0 lo)).toArray } (.tup (cutV xs lo hi))) (fun b ob q => Heap.get?_push_of_some _ q) (Nat.le_refl _) ?_, rfl, q _ _ (same_new np) (.inl ⟨_, rfl, rfl, upd_same⟩)⟩
    exact ⟨Heap.get?_push_size _ rfl, Nat.le_trans (cutV_length xs lo hi) hz, _, (r.drop (HT.sIx xs.length 0 lo)).take (HT.sIx xs.length xs.length hi - HT.sIx xs.length 0 lo), IsTup.new _ _⟩
/-- t + u of plain tuples -/
def rCatP (K : PySem.W.Frag) : R2 := fun x y H Q => ∃ a b xs ys, x = .ref a ∧ y = .ref b ∧ PlT K H a xs ∧ PlT K H b ys ∧ xs.length + ys.length ≤ sizeLine ∧ ∀ H' r, Same H H' → PlT K H' r (xs ++ ys) → Q (.ref r) H'
theorem op_catP : OpR X (binaryOp .Add) (rCatP X.K) := by
  intro pins s σ H x y v u Q I rx ry h
  obtain ⟨a, b, xs, ys, rfl, rfl, ha, hb, hz, q⟩ := h
  cases rx
  cases ry
  obtain ⟨its, r1, p1, _⟩ := I.tuple ha.sq
  obtain ⟨its2, r2, p2, _⟩ := I.tuple hb.sq
  by_cases hx : xs = []
  · subst hx
    cases r1
    exact cat_tup0 p1 p2 ⟨.ref b, H, I, rfl, q H b (Same.refl H) hb⟩
  · refine HT.cat_tup p1 p2 (fun z => hx (r1.nil_iff.mp z)) (fun z => ⟨.ref a, H, I, rfl, q H a (Same.refl H) (by rw [r2.nil_iff.mp z, List.append_nil]; exact ha)⟩) (fun z => ?_) (by rw [← r1.length, ← r2.length]; exact hz)
    have np := I.hok.fresh (Nat.le_refl s.heap.objs.size)
    refine ⟨.ref s.heap.objs.size, _, I.laid (t' := s.toks) (o := .frz { cls := .type "tuple", data := .seq (its ++ its2).toArray } (.tup (xs ++ ys))) (fun b ob q => Heap.get?_push_of_some _ q) (Nat.le_refl _) ?_, rfl, q _ _ (same_new np) (.inl ⟨_, rfl, rfl, upd_same⟩)⟩
    exact ⟨Heap.get?_push_size _ rfl, by rw [List.length_append]; exact hz, _, r1.append r2, IsTup.new _ _⟩
end
section
variable {X : Cx}
/-- t[::-1] of a plain tuple -/
def tBackP (K : PySem.W.Frag) (te : TE) : TE := fun σ H Q => te σ H fun x H1 => ∃ a xs, x = .ref a ∧ PlT K H1 a xs ∧ ∀ H' r, Same H1 H' → PlT K H' r xs.reverse → Q (.ref r) H'
theorem pe_backP {e : Expr} {te : TE} {k : Nat} {p1 p2 p3 pos : Pos} (he : PE X e te) : PE X (.Subscript e (.Slice none none (some (.UnaryOp .USub (.Constant (.int 1) k p1) p2)) p3) pos) (tBackP X.K te) := by
  refine ⟨fun pins s σ H Q I h => ?_⟩
  refine Subscript_ (thn (he.run pins s σ H _ I h) fun v s1 ⟨x, H1, I1, r1, q1⟩ => ?_)
  obtain ⟨a, xs, ex, hx, q⟩ := q1
  subst ex
  cases r1
  have hst : PO X (some (.UnaryOp .USub (.Constant (.int 1) k p1) p2)) (tPart (tUn (rU fun i => .int (-i)) (tC (.int 1)))) := po_some (pe_un un_neg pe_int)
  refine wpAny_Slice (thn (po_none.run pins s1 σ H1 (fun o H2 => o = none ∧ H2 = H1) I1 ⟨rfl, rfl⟩) fun vl s2 ⟨l, H2, I2, pl, el, e2⟩ => ?_)
  subst el e2
  refine thn (po_none.run pins s2 σ H2 (fun o H3 => o = none ∧ H3 = H2) I2 ⟨rfl, rfl⟩) fun vu s3 ⟨u, H3, I3, pu, eu, e3⟩ => ?_
  subst eu e3
  refine thn (hst.run pins s3 σ H3 (fun o H4 => o = some (-1) ∧ H4 = H3) I3 ⟨1, rfl, -1, rfl, rfl, rfl⟩) fun vs s4 ⟨o, H4, I4, ps, eo, e4⟩ => ?_
  subst eo e4
  cases pl
  have I5 : Inv X pins σ H4 { s4 with heap := s4.heap.push { cls := .type "slice", data := .fields #[.none, vu, vs] } } := I4.kept (t' := s4.toks) fun b ob q => Heap.get?_push_of_some _ q
  obtain ⟨its, r, ht, hz⟩ := I5.tuple hx.sq
  have hlen : its.toArray.size = xs.length := by rw [List.size_toArray]; exact r.length.symm
  refine tail_any (ops := [.ref a, .ref s4.heap.objs.size]) ht.typeIs (PyProof.Rows.slot_tuple_getitem.lookup) ?_ (by with_unfolding_all rfl)
  refine getItem_back (c := 0) ht (Heap.IsSliceOf.new _ _ vu vs) pu ps (Nat.zero_le _) (Nat.zero_le _) ?_ (by rw [hlen]; exact hz)
  have np := I5.hok.fresh (Nat.le_refl _)
  refine ⟨.ref _, _, I5.laid (t' := s4.toks) (o := .frz { cls := .type "tuple", data := .seq (its.drop 0).reverse.toArray } (.tup (xs.drop 0).reverse)) (fun b ob q => Heap.get?_push_of_some _ q) (Nat.le_refl _) ?_, rfl, q _ _ (same_new np) (.inl ⟨{ cls := .type "tuple", data := .seq (its.drop 0).reverse.toArray }, rfl, rfl, ?_⟩)⟩
  · refine ⟨Heap.get?_push_size _ rfl, ?_, _, (r.drop 0).reverse, IsTup.new _ _⟩
    rw [List.length_reverse, List.length_drop]
    omega
  · exact upd_same
end
end NB

/-! signs as data, exceptions with a field -/
namespace NB
open PySem PySem.Spec PyProof.Rows L2 LamX
theorem placed_sg {d : PyData} (h : placedD d = true) : ∃ e : Sg, d = sg1 e := by
  unfold placedD at h
  split at h
  · rename_i s n
    rw [Bool.and_eq_true_iff] at h
    obtain ⟨h1, h2⟩ := h
    cases s with
    | str x =>
      cases n with
      | int i => exact ⟨(x, i), rfl⟩
      | _ => cases h2
    | _ => cases h1
  · cases h
theorem placed_sgs : ∀ {its : List PyData}, its.all placedD = true → ∃ sg : List Sg, its = sg.map sg1
  | [], _ => ⟨[], rfl⟩
  | d :: its, h => by
    rw [List.all_cons, Bool.and_eq_true_iff] at h
    obtain ⟨e, he⟩ := placed_sg h.1
    obtain ⟨sg, hs⟩ := placed_sgs h.2
    exact ⟨e :: sg, by rw [he, hs]; rfl⟩
theorem signs_sg {d : PyData} (h : signsD d = true) : ∃ sg : List Sg, d = sgsD sg := by
  unfold signsD at h
  rw [Bool.and_eq_true_iff, Bool.and_eq_true_iff, Bool.and_eq_true_iff, Bool.and_eq_true_iff, Bool.and_eq_true_iff] at h
  cases d with
  | tuple its =>
    obtain ⟨sg, e⟩ := placed_sgs h.2.2.1
    exact ⟨sg, congrArg PyData.tuple e⟩
  | _ => cases h.1
theorem jp_sg1 {K : PySem.W.Frag} {H : Hp} {v : V} {e : Sg} (h : Jp K H v (sg1 e)) : Dp K H v (sg1 e) := by
  unfold sg1 at h ⊢
  cases h with
  | tup hs ha =>
    cases ha with
    | cons a ha =>
      cases ha with
      | cons b ha =>
        cases ha
        cases a
        cases b
        exact .tup hs (.cons (.str _) (.cons (.int _) .nil))
theorem jp_sgs {K : PySem.W.Frag} {H : Hp} : ∀ {vs : List V} {sg : List Sg}, JpAll K H vs (sg.map sg1) → DpAll K H vs (sg.map sg1)
  | [], [], _ => .nil
  | [], _ :: _, h => nomatch h
  | _ :: _, [], h => nomatch h
  | v :: vs, e :: sg, h => by
    rw [List.map_cons] at h ⊢
    cases h with
    | cons a b => exact .cons (jp_sg1 a) (jp_sgs b)
/-- a thing that is to be signs: a tuple of it is a plain one -/
def JoAt (K : PySem.W.Frag) (H : Hp) (v : V) (d : PyData) : Prop := Jp K H v d ∧ ∀ its, d = .tuple its → ∃ a xs, v = .ref a ∧ PlT K H a xs ∧ JpAll K H xs its
theorem JoAt.sgs {K : PySem.W.Frag} {H : Hp} {v : V} {sg : List Sg} (h : JoAt K H v (sgsD sg)) : ∃ sa, v = .ref sa ∧ SgsAt K H sa sg := by
  obtain ⟨a, xs, e, p, j⟩ := h.2 _ rfl
  exact ⟨a, e, xs, p, jp_sgs j⟩
theorem JoAt.same {K : PySem.W.Frag} {H H' : Hp} {v : V} {d : PyData} (h : JoAt K H v d) (s : Same H H') : JoAt K H' v d :=
  ⟨Jp.same s d v h.1, fun its e => by
    obtain ⟨a, xs, e1, p, j⟩ := h.2 its e
    exact ⟨a, xs, e1, p.sm s, JpAll.same s _ _ j⟩⟩
/-- what a thing is wrong with an exception's dict: the heap behind C(v) -/
theorem bad_heap {H : Hp} {a dx C : Addr} {fs : List (Str × V)} (na : H a = none) (nd : upd H a (exo a C none) dx = none) (ne : dx ≠ a) :
    H dx = none ∧ Same H (upd (del (upd (upd (upd H a (exo a C none)) dx (exd dx fs)) a (exo a C (some dx))) a) dx (.xd fs)) := by
  have nd' : H dx = none := by rw [upd_ne ne] at nd; exact nd
  refine ⟨nd', fun b o h => ?_⟩
  have b1 : b ≠ dx := fun z => by rw [z, nd'] at h; cases h
  have b2 : b ≠ a := fun z => by rw [z, na] at h; cases h
  rw [upd_ne b1, del_ne b2, upd_ne b2, upd_ne b1, upd_ne b2]
  exact h
theorem cntsD_get : ∀ {ds : List PyData} {i : Nat} {d : PyData}, ds[i]? = some d → cntD d ≤ cntsD ds
  | [], _, _, h => by simp at h
  | x :: xs, 0, d, h => by
    have e : x = d := by simpa using h
    rw [cntsD, e]
    omega
  | x :: xs, i + 1, d, h => by
    have := cntsD_get (ds := xs) (i := i) (d := d) (by simpa using h)
    rw [cntsD]
    omega
theorem line_ln {pl : List (Str × Int)} {d : PyData} (h : lineD pl d = true) : ∃ l : Ln, d = lnD l := by
  unfold lineD at h
  split at h
  · rename_i a b
    rw [Bool.and_eq_true_iff] at h
    obtain ⟨t, rfl⟩ := fits_tm pl a h.1
    obtain ⟨u, rfl⟩ := fits_tm pl b h.2
    exact ⟨(t, u), rfl⟩
  · cases h
theorem lines_lns {pl : List (Str × Int)} : ∀ {its : List PyData}, (∀ (j : Nat) e, its[j]? = some e → lineD pl e = true) → ∃ ls : List Ln, its = ls.map lnD ∧ ∀ l ∈ ls, lineD pl (lnD l) = true
  | [], _ => ⟨[], rfl, fun l m => nomatch m⟩
  | d :: its, h => by
    have h0 := h 0 d rfl
    obtain ⟨l, rfl⟩ := line_ln h0
    obtain ⟨ls, rfl, h2⟩ := lines_lns (its := its) (fun j e z => h (j + 1) e (by simpa using z))
    refine ⟨l :: ls, rfl, fun x m => ?_⟩
    rcases List.mem_cons.mp m with z | z
    · rw [z]
      exact h0
    · exact h2 x z
theorem jp_ln {K : PySem.W.Frag} {H : Hp} {v : V} {l : Ln} (h : Jp K H v (lnD l)) : Dp K H v (lnD l) := by
  unfold lnD at h ⊢
  cases h with
  | tup hs ha =>
    cases ha with
    | cons a ha =>
      cases ha with
      | cons b ha =>
        cases ha
        exact .tup hs (.cons (Jp.dp _ _ a) (.cons (Jp.dp _ _ b) .nil))
theorem jp_lns {K : PySem.W.Frag} {H : Hp} : ∀ {vs : List V} {ls : List Ln}, JpAll K H vs (ls.map lnD) → DpAll K H vs (ls.map lnD)
  | [], [], _ => .nil
  | [], _ :: _, h => nomatch h
  | _ :: _, [], h => nomatch h
  | v :: vs, e :: ls, h => by
    rw [List.map_cons] at h ⊢
    cases h with
    | cons a b => exact .cons (jp_ln a) (jp_lns b)
theorem cntL_lns : ∀ ls : List Ln, cntL ls ≤ cntsD (ls.map lnD)
  | [] => Nat.le_refl _
  | l :: ls => by
    have := cntL_lns ls
    have a := cnt_data l.1
    have b := cnt_data l.2
    rw [cntL, List.map_cons, cntsD, lnD, cntD, cntsD, cntsD, cntsD, a, b]
    omega
section
variable {X : Cx}
/-- repr of an int, a text, None -/
theorem call_reprN : CallR X (.builtin "repr") (fun xs H Q => ((∃ i, xs = [.int i] ∧ i.natAbs.log2 < 1920 ∧ Q (.str (toString i)) H) ∨ ∃ a, xs = [.str a] ∧ (reprText a).length ≤ sizeLine ∧ Q (.str (reprText a)) H) ∨ xs = [.non] ∧ Q (.str "None") H) := by
  intro pins s σ H xs us Q I r h
  rcases h with h | ⟨rfl, q⟩
  · exact call_reprS pins s σ H xs us Q I r h
  · obtain ⟨u, rfl, ru⟩ := vals1 r
    cases ru
    exact PySem.P.repr_of_none ⟨.str _, H, I.tok _, ⟨_, rfl⟩, q⟩
end
end NB

/-! signs that are right, however many -/
namespace NB
open PySem PySem.Spec PyProof.Rows L2 LamX
structure SgFit (sg : List Sg) : Prop where
  shaped : SeqAt.shaped (sgsD sg) = true
  look : ∀ e ∈ sg, lookS sg.reverse e.1 = some e.2
theorem SgOk.fit {sg : List Sg} (o : SgOk sg) : SgFit sg := ⟨o.shaped, fun e h => (o.each e h).1⟩
theorem sgF_fit {sg : List Sg} (o : SgFit sg) (s : Str) (n : Int) : (sg.any fun e => decide (e.1 = s) && decide (e.2 = n)) = okPl (lookS sg.reverse s) n := by
  cases h : lookS sg.reverse s with
  | some m =>
    have hm := List.mem_reverse.mp (lookS_mem h)
    show _ = decide (n = m)
    by_cases e : n = m
    · rw [decide_eq_true e]
      exact List.any_eq_true.mpr ⟨(s, m), hm, by rw [decide_eq_true rfl, decide_eq_true e.symm]; rfl⟩
    · rw [decide_eq_false e]
      refine Bool.eq_false_iff.mpr fun z => ?_
      obtain ⟨y, h1, h2⟩ := List.any_eq_true.mp z
      obtain ⟨h3, h4⟩ := Bool.and_eq_true_iff.mp h2
      have h5 := o.look y h1
      rw [of_decide_eq_true h3, h, of_decide_eq_true h4] at h5
      exact e (Option.some.inj h5).symm
  | none =>
    refine Bool.eq_false_iff.mpr fun z => ?_
    obtain ⟨y, h1, h2⟩ := List.any_eq_true.mp z
    obtain ⟨h3, h4⟩ := Bool.and_eq_true_iff.mp h2
    have h5 := o.look y h1
    rw [of_decide_eq_true h3, h] at h5
    cases h5
theorem lookS_nd : ∀ {pl : List (Str × Int)}, pl.Pairwise (fun a b => a.1 ≠ b.1) → ∀ e ∈ pl, lookS pl e.1 = some e.2
  | [], _, e, m => nomatch m
  | a :: pl, h, e, m => by
    rw [List.pairwise_cons] at h
    unfold lookS
    rcases List.mem_cons.mp m with z | z
    · rw [z, List.find?_cons, decide_eq_true rfl]
      rfl
    · have hne := h.1 e z
      rw [List.find?_cons, decide_eq_false hne]
      exact lookS_nd h.2 e z
theorem strLt_trans {a b c : Str} (h : strLt a b = true) (g : strLt b c = true) : strLt a c = true := by
  unfold strLt at h g ⊢
  exact decide_eq_true (List.lt_trans (of_decide_eq_true h) (of_decide_eq_true g))
theorem strLt_ne {a b : Str} (h : strLt a b = true) : a ≠ b := fun z => by
  unfold strLt at h
  rw [z] at h
  exact List.lt_irrefl _ (of_decide_eq_true h)
theorem asc_far {l : List Str} (h : ascS l = true) : ∀ d i, i + d + 1 < l.length → strLt (l.getD i "") (l.getD (i + d + 1) "") = true := by
  have adj : ∀ k, k + 1 < l.length → strLt (l.getD k "") (l.getD (k + 1) "") = true := fun k hk => by
    unfold ascS at h
    rw [List.all_eq_true] at h
    exact h k (List.mem_range.mpr (by omega))
  intro d
  induction d with
  | zero => exact fun i hi => adj i hi
  | succ d ih =>
    intro i hi
    exact strLt_trans (ih i (by omega)) (adj (i + d + 1) (by omega))
theorem asc_pair {l : List Str} (h : ascS l = true) : l.Pairwise (fun a b => a ≠ b) := by
  rw [List.pairwise_iff_getElem]
  intro i j hi hj hij
  have e : j = i + (j - i - 1) + 1 := by omega
  have := asc_far h (j - i - 1) i (by omega)
  rw [← e] at this
  have a1 : l.getD i "" = l[i] := by simp [hi]
  have a2 : l.getD j "" = l[j] := by simp [hj]
  rw [a1, a2] at this
  exact strLt_ne this
theorem sgD_sg1 : ∀ sg : List Sg, (sg.map sg1).map sgD = sg.map (·.1)
  | [] => rfl
  | e :: sg => by rw [List.map_cons, List.map_cons, List.map_cons, sgD_sg1 sg]; rfl
theorem signs_parts {sg : List Sg} (h : signsD (sgsD sg) = true) : sg.length ≤ 12 ∧ (sg.map sg1).all placedD = true ∧ ascS (sg.map (·.1)) = true := by
  unfold signsD at h
  rw [Bool.and_eq_true_iff, Bool.and_eq_true_iff, Bool.and_eq_true_iff, Bool.and_eq_true_iff, Bool.and_eq_true_iff] at h
  obtain ⟨_, ⟨_, h1⟩, h2, h3, _⟩ := h
  have h1' := of_decide_eq_true h1
  refine ⟨by simpa [sgsD, itemsD] using h1', h2, ?_⟩
  rw [← sgD_sg1]
  exact h3
theorem look_of {sg : List Sg} (h : signsD (sgsD sg) = true) : ∀ e ∈ sg, lookS sg.reverse e.1 = some e.2 := fun e m => by
  have p := asc_pair (signs_parts h).2.2
  rw [List.pairwise_map] at p
  refine lookS_nd ?_ e (List.mem_reverse.mpr m)
  rw [List.pairwise_reverse]
  exact p.imp fun z y => z y.symm
theorem letters_low : ∀ c ∈ lettersZ.cps.toList, c < 0x110000 := by decide +kernel
theorem signS_ok {x : Str} (h : signS x = true) : PyData.strOk x = true := by
  unfold signS at h
  rw [Bool.and_eq_true_iff, Bool.and_eq_true_iff, List.all_eq_true] at h
  unfold PyData.strOk
  rw [← Array.all_toList, List.all_eq_true]
  exact fun c m => decide_eq_true (letters_low c (of_decide_eq_true (h.2.2 c m)))
theorem placed_lay : ∀ sg : List Sg, (sg.map sg1).all placedD = true → PyData.canLayAll0 (sg.map sg1) = true ∧ PyData.depthAll (sg.map sg1) ≤ 1
  | [], _ => by rw [List.map_nil, PyData.canLayAll0, PyData.depthAll]; exact ⟨rfl, by omega⟩
  | e :: sg, h => by
    rw [List.map_cons, List.all_cons, Bool.and_eq_true_iff] at h
    obtain ⟨h1, h2⟩ := placed_lay sg h.2
    have h3 := h.1
    unfold sg1 placedD at h3
    rw [Bool.and_eq_true_iff] at h3
    have h4 : signS e.1 = true := h3.1
    rw [List.map_cons, PyData.canLayAll0, PyData.depthAll, h1, sg1, PyData.canLay0, PyData.canLayAll0, PyData.canLayAll0, PyData.canLayAll0, PyData.canLay0, PyData.canLay0, signS_ok h4, PyData.depth, PyData.depthAll, PyData.depthAll, PyData.depthAll, PyData.depth, PyData.depth]
    exact ⟨rfl, by omega⟩
theorem SgFit.of {sg : List Sg} (h : signsD (sgsD sg) = true) : SgFit sg := by
  obtain ⟨h1, h2⟩ := placed_lay sg (signs_parts h).2.1
  refine ⟨?_, look_of h⟩
  unfold SeqAt.shaped
  rw [sgsD, PyData.canLay0, h1, PyData.depth, decide_eq_true (by omega)]
  rfl
section
variable {X : Cx}
/-- x not in t, t a tuple, data of any depth -/
def rNotInT (K : PySem.W.Frag) : R2 := fun x y H Q => ∃ d ds, Dp K H x d ∧ Dp K H y (.tuple ds) ∧ SeqAt.shaped d = true ∧ SeqAt.shaped (.tuple ds) = true ∧ Q (.bl (!(ds.any fun z => PyData.eqv z d))) H
theorem op_notInT (hu : X.A.units + 65 < cLine) : OpR X (compareOp .NotIn) (rNotInT X.K) := by
  intro pins s σ H x y v u Q I rx ry h
  obtain ⟨d, ds, hd, he, sd, se, q⟩ := h
  obtain ⟨as, r1⟩ := Dp.reads I d x v hd rx
  obtain ⟨bs, r2⟩ := Dp.reads I (.tuple ds) y u he ry
  exact SeqAt.notIn_tuple_reads r2 r1 (SeqAt.canLay_of_shaped se) (SeqAt.canLay_of_shaped sd) (room_in_shaped sd hu) ⟨.bl _, H, I, rfl, q⟩
end
theorem ret_open {te : TE} {D : Ends} {σ : L2.St} {H : Hp} (h : te σ H D.rt) : tRet te D σ H := h
theorem op_open {r : R2} {ta tb : TE} {σ : L2.St} {H : Hp} {Q : VK} (h : ta σ H fun x H1 => tb σ H1 fun y H2 => r x y H2 Q) : tOp r ta tb σ H Q := h
theorem GA.lstN {K : PySem.W.Frag} {O : List Addr} {H1 : Hp} {σ : L2.St} {c e n : Nat} {ts : TA} (h : GA K O H1 σ c e n ts) (hn : n ≤ 100000) {H : Hp} {Q : VK} (s : Same H1 H) (q : ∀ H' vs p, Same H H' → GdAll K O c e H' vs → vs.length = n → H' p = some (.lst vs) → H p = none → Q (.ref p) H') : tLst ts σ H Q :=
  h H _ s fun H2 vs s2 g2 l2 => by
    have hzl : 100000 < sizeLine := by decide
    refine ⟨by omega, fun p np => q _ _ _ (s2.trans (same_new np)) (g2.same (same_new np)) l2 upd_same ?_⟩
    cases z : H p with
    | none => rfl
    | some o =>
      have := s2 _ _ z
      rw [np] at this
      cases this
end NB

/-! sets of keys of one kind: made of a list or tuple, counted, sorted -/
namespace NB
open PySem PySem.Spec PyProof.Rows L2
/-- what a value is as a key of a kind -/
structure KF {P : Program} {w : World} {κ : Type} [DecidableEq κ] (knd : KeyKind P w κ) where
  kf : Value → κ
  eq : ∀ k v, knd.is k v = true → kf v = k
def kfStr (P : Program) (w : World) : KF (strKind P w) := ⟨fun v => match v with | .str x _ => x | _ => "", fun k v h => by
  obtain ⟨t, rfl⟩ := Value.isStrOf_shape h
  rfl⟩
def kfInt (P : Program) (w : World) : KF (intKind P w) := ⟨fun v => match v with | .int x _ => x | _ => 0, fun k v h => by
  obtain ⟨t, rfl⟩ := Value.isInt_shape h
  rfl⟩
/-- the list without what stands ahead -/
def adds {κ : Type} [DecidableEq κ] (L : List κ) (k : κ) : List κ := if k ∈ L then L else L ++ [k]
def oncesL {κ : Type} [DecidableEq κ] (xs : List κ) : List κ := xs.foldl adds []
section
variable {P : Program} {w : World} {κ : Type} [DecidableEq κ] {knd : KeyKind P w κ} (f : KF knd)
theorem mem_adds {L : List κ} {k j : κ} : j ∈ adds L k ↔ j ∈ L ∨ j = k := by
  unfold adds
  split
  · rename_i h
    exact ⟨.inl, fun z => z.elim id fun e => by rw [e]; exact h⟩
  · rw [List.mem_append, List.mem_singleton]
theorem mem_addsAll {xs : List κ} : ∀ {L : List κ} {j : κ}, j ∈ xs.foldl adds L ↔ j ∈ L ∨ j ∈ xs := by
  induction xs with
  | nil => intro L j; simp
  | cons x xs ih => intro L j; rw [List.foldl_cons, ih, mem_adds, List.mem_cons, or_assoc]
theorem mem_onces {xs : List κ} {j : κ} : j ∈ oncesL xs ↔ j ∈ xs := by
  unfold oncesL
  rw [mem_addsAll]
  simp
theorem nodup_adds {L : List κ} {k : κ} (h : L.Nodup) : (adds L k).Nodup := by
  unfold adds
  split
  · exact h
  · rename_i n
    rw [List.nodup_append]
    exact ⟨h, by simp, fun x hx y hy e => n (by rw [← List.mem_singleton.mp hy, ← e]; exact hx)⟩
theorem nodup_addsAll {xs : List κ} : ∀ {L : List κ}, L.Nodup → (xs.foldl adds L).Nodup := by
  induction xs with
  | nil => intro L h; exact h
  | cons x xs ih => intro L h; rw [List.foldl_cons]; exact ih (nodup_adds h)
theorem nodup_onces (xs : List κ) : (oncesL xs).Nodup := nodup_addsAll List.nodup_nil
theorem len_adds (L : List κ) (k : κ) : (adds L k).length ≤ L.length + 1 ∧ L.length ≤ (adds L k).length := by
  unfold adds
  split
  · omega
  · rw [List.length_append]
    simp
theorem len_addsAll {xs : List κ} : ∀ {L : List κ}, (xs.foldl adds L).length ≤ L.length + xs.length := by
  induction xs with
  | nil => intro L; exact Nat.le_refl _
  | cons x xs ih =>
    intro L
    rw [List.foldl_cons, List.length_cons]
    have := ih (L := adds L x)
    have := (len_adds L x).1
    omega
theorem len_onces (xs : List κ) : (oncesL xs).length ≤ xs.length := by
  have := len_addsAll (xs := xs) (L := [])
  rw [List.length_nil, Nat.zero_add] at this
  exact this
theorem onces_nodup {xs : List κ} : ∀ {L : List κ}, (L ++ xs).Nodup → xs.foldl adds L = L ++ xs := by
  induction xs with
  | nil => intro L _; rw [List.append_nil]; rfl
  | cons x xs ih =>
    intro L h
    have hx : x ∉ L := fun z => (List.nodup_append.mp h).2.2 x z x (List.mem_cons_self ..) rfl
    have e : adds L x = L ++ [x] := by unfold adds; rw [if_neg hx]
    rw [List.foldl_cons, e, ih (by rw [List.append_assoc]; exact h), List.append_assoc]
    rfl
/-- as many as before just if none stands twice -/
theorem onces_len {xs : List κ} : (oncesL xs).length = xs.length ↔ xs.Nodup := by
  constructor
  · have key : ∀ (xs L : List κ), L.Nodup → (xs.foldl adds L).length = L.length + xs.length → (L ++ xs).Nodup := by
      intro xs
      induction xs with
      | nil => intro L h _; rw [List.append_nil]; exact h
      | cons x xs ih =>
        intro L h e
        rw [List.foldl_cons, List.length_cons] at e
        have h1 := len_addsAll (xs := xs) (L := adds L x)
        have hx : x ∉ L := fun z => by
          have e1 : adds L x = L := by unfold adds; rw [if_pos z]
          rw [e1] at h1 e
          omega
        have e1 : adds L x = L ++ [x] := by unfold adds; rw [if_neg hx]
        have h2 := ih (adds L x) (nodup_adds h) (by rw [e, e1, List.length_append, List.length_singleton]; omega)
        rw [e1, List.append_assoc] at h2
        exact h2
    exact fun e => key xs [] List.nodup_nil (by rw [List.length_nil, Nat.zero_add]; exact e)
  · intro h
    have := onces_nodup (xs := xs) (L := []) h
    unfold oncesL
    rw [this]
    rfl
def kysOf (es : Array (Int × Value)) : List κ := es.toList.map fun e => f.kf e.2
/-- the set at a: its keys are those of L, in some order; it can be walked -/
def SX (h : Heap) (a : Addr) (L : List κ) : Prop :=
  ∃ o es ep t, h.get? a = some o ∧ o.ExactSet ∧ o.data = .set es ep t ∧ ElemsOf knd es.toList ∧ (kysOf f es).Perm L ∧ L.Nodup ∧ es.size < scanBound ∧ t.fits es.size = true ∧ Ris t.place.toList ∧ (w.params.followText "set-order" = true ∨ t.led = true)
variable {f}
theorem SX.at {h h' : Heap} {a : Addr} {L : List κ} (R : SX f h a L) (k : ∀ o, h.get? a = some o → h'.get? a = some o) : SX f h' a L := by
  obtain ⟨o, es, ep, t, ho, r⟩ := R
  exact ⟨o, es, ep, t, k o ho, r⟩
theorem kf_is {e : Int × Value} {es : List (Int × Value)} (g : ElemsOf knd es) (he : e ∈ es) (k : κ) : knd.is k e.2 = true ↔ f.kf e.2 = k := by
  obtain ⟨⟨k0, h1, _⟩, _⟩ := g e he
  rw [f.eq k0 _ h1, KeyKind.is_eq_decide h1 k, decide_eq_true_eq]
  exact eq_comm
theorem kys_mem {es : Array (Int × Value)} (g : ElemsOf knd es.toList) (k : κ) : k ∈ kysOf f es ↔ ∃ e ∈ es.toList, knd.is k e.2 = true := by
  unfold kysOf
  rw [List.mem_map]
  constructor
  · rintro ⟨e, he, q⟩
    exact ⟨e, he, (kf_is g he k).2 q⟩
  · rintro ⟨e, he, q⟩
    exact ⟨e, he, (kf_is g he k).1 q⟩
theorem kys_len (es : Array (Int × Value)) : (kysOf f es).length = es.size := by
  unfold kysOf
  rw [List.length_map, Array.length_toList]
theorem SX.setOf {h : Heap} {a : Addr} {L : List κ} (R : SX f h a L) : h.SetOf knd a (fun k => decide (k ∈ L)) L.length := by
  obtain ⟨o, es, ep, t, ho, hx, hd, g, pm, _, hb, hf, _⟩ := R
  exact ⟨o, es, ep, t, ho, hx, hd, g, fun k => by rw [decide_eq_true_eq, ← pm.mem_iff]; exact kys_mem g k, hb, hf, by rw [← pm.length_eq, kys_len]⟩
theorem SX.fresh {h : Heap} {a : Addr} (ho : h.get? a = some { cls := .type "set", dict := none, data := .set #[] 0 (.fresh 0 0 (!w.params.followText "set-order")) }) : SX f h a [] := by
  refine ⟨_, #[], 0, _, ho, ⟨rfl, rfl, rfl⟩, rfl, (fun e he => by simp at he), ?_, List.nodup_nil, (by decide), (by rfl), List.Pairwise.nil, ?_⟩
  · show List.Perm [] []
    exact .nil
  · show _ ∨ (!w.params.followText "set-order") = true
    cases w.params.followText "set-order" <;> simp
variable {A : Around} {E : Value → Shared → Prop} {s : Shared} {a : Addr} {L : List κ}
theorem put_at {h : Heap} {o : Obj} {es es' : Array (Int × Value)} {ep : Nat} {t t' : SetTable} (ho : h.get? a = some o) (hd : o.data = .set es ep t) : (h.update a (Obj.putSet es' t')).get? a = some { o with data := .set es' (ep + 1) t' } := L2.store_at ho hd
/-- what stands behind a new key: the table is written, and laid anew if it is too full -/
theorem sx_tail {g : Bool → Sem Unit} {o : Obj} {es es1 : Array (Int × Value)} {ep : Nat} {t t2 : SetTable} {L' : List κ} {wasDummy : Bool} {R : Option Bool → Shared → Prop}
    (hg : ∀ (b : Bool) (s1 : Shared) (Q' : Unit → Shared → Prop), Q' () s1 → wpAny (model P w) A (g b) Q' E s1) (ho : s.heap.get? a = some o) (hex : o.ExactSet) (hd : o.data = .set es ep t)
    (g1 : ElemsOf knd es1.toList) (pm1 : (kysOf f es1).Perm L') (nd1 : L'.Nodup) (hb1 : es1.size < scanBound) (hf2 : t2.fits es1.size = true) (hr : Ris t2.place.toList) (hl : w.params.followText "set-order" = true ∨ t2.led = true)
    (hR : ∀ h', Heap.SameBut a s.heap h' → SX f h' a L' → R (some true) { s with heap := h' }) :
    wpAny (model P w) A (do storeSet a es1 t2; if (!wasDummy && t2.tooFull) = true then (do g (relayAll t2 es1 (SetTable.grown es1.size)).2.2; storeSet a (relayAll t2 es1 (SetTable.grown es1.size)).1 (relayAll t2 es1 (SetTable.grown es1.size)).2.1; pure (some true)) else pure (some true)) R E s := by
  have ho1 := put_at (es' := es1) (t' := t2) ho hd
  have sb1 := Heap.SameBut.update s.heap a (Obj.putSet es1 t2)
  refine wpAny_bind (wpAny_storeSet_of ho hd ?_ (fits_of_scanBound hb1))
  by_cases c : (!wasDummy && t2.tooFull) = true
  · refine L2.wp_if_pos c ?_
    have pm := relayAll_perm t2 es1 (SetTable.grown es1.size)
    have hf3 := relayAll_fits t2 es1 (SetTable.grown es1.size)
    have hr3 := relayAll_ris t2 es1 (SetTable.grown es1.size)
    have hl3 := relayAll_led t2 es1 (SetTable.grown es1.size)
    generalize relayAll t2 es1 (SetTable.grown es1.size) = Z at pm hf3 hr3 hl3 ⊢
    obtain ⟨es2, t3, gave⟩ := Z
    dsimp only at pm hf3 hr3 hl3 ⊢
    have hsz : es2.size = es1.size := by
      have := pm.length_eq
      simpa using this
    have hb2 : es2.size < scanBound := by omega
    refine wpAny_bind (hg _ _ _ (wpAny_bind (wpAny_storeSet_of ho1 rfl ?_ (fits_of_scanBound hb2))))
    refine wpAny_pure (hR _ (sb1.trans (Heap.SameBut.update _ a _)) ⟨_, es2, _, t3, put_at (es' := es2) (t' := t3) ho1 rfl, hex, rfl, fun e he => g1 e (pm.mem_iff.mp he), (pm.map _).trans pm1, nd1, hb2, hf3, hr3, ?_⟩)
    rcases hl with hl | hl
    · exact .inl hl
    · exact .inr (hl3.trans hl)
  · exact L2.wp_if_neg c (wpAny_pure (hR _ sb1 ⟨_, es1, _, t2, ho1, hex, rfl, g1, pm1, nd1, hb1, hf2, hr, hl⟩))
theorem sx_add {k : κ} {x : Value} {Q : Bool → Shared → Prop} (hk : knd.is k x = true) (hsc : x.scannable = true) (R : SX f s.heap a L) (room : L.length + 1 < scanBound)
    (hQ : ∀ h', Heap.SameBut a s.heap h' → SX f h' a (adds L k) → Q (decide (k ∉ L)) { s with heap := h' }) : wpAny (model P w) A (setAddHashed a x (knd.hash k)) Q E s := by
  obtain ⟨o, es, ep, t, ho, hex, hd, g, pm, nd, hb, hf, hr, hl⟩ := R
  have hn : es.size = L.length := by rw [← pm.length_eq, kys_len]
  unfold setAddHashed setAddHashedIn
  refine wpAny_holding (wpAny_bind (wpAny_setState_of ho hd hf ?_))
  dsimp only
  rw [byScan_of hsc hb g]
  simp only [↓reduceIte]
  unfold setAddByScan
  refine wpAny_bind (wpAny_bind (wpAny_rule (wpAny_bind (wpAny_setScan_of hk ho hd hf g ?_))))
  cases hfi : List.findIdx? (fun e => knd.is k e.2) es.toList with
  | some j =>
    dsimp only
    obtain ⟨hj, pj, _⟩ := List.findIdx?_eq_some_iff_getElem.mp hfi
    have hkL : k ∈ L := pm.mem_iff.mp ((kys_mem g k).2 ⟨es.toList[j], List.getElem_mem hj, pj⟩)
    have q := hQ s.heap (Heap.SameBut.refl a s.heap) ⟨o, es, ep, t, ho, hex, hd, g, by unfold adds; rw [if_pos hkL]; exact pm, nodup_adds nd, hb, hf, hr, hl⟩
    rw [decide_eq_false (fun z => z hkL)] at q
    exact wpAny_pure (wpAny_pure q)
  | none =>
    dsimp only
    have hnL : k ∉ L := fun z => by
      obtain ⟨e, he, q⟩ := (kys_mem g k).1 (pm.mem_iff.mpr z)
      have c := List.findIdx?_eq_none_iff.mp hfi e he
      rw [q] at c
      cases c
    have eL : adds L k = L ++ [k] := by unfold adds; rw [if_neg hnL]
    rw [eL, decide_eq_true hnL] at hQ
    have pmN := layNew_perm t es (knd.hash k) x
    have hf1 := layNew_fits t es (knd.hash k) x
    have hr1 := L2.layNew_ris t es (knd.hash k) x hr
    have hl1 := L2.layNew_led t es (knd.hash k) x
    generalize layNew t es (knd.hash k) x = Z at pmN hf1 hr1 hl1 ⊢
    obtain ⟨es1, t1, wasDummy, gave⟩ := Z
    dsimp only at pmN hf1 hr1 hl1 ⊢
    rw [Array.toList_push] at pmN
    have pc : es1.toList.Perm ((knd.hash k, x) :: es.toList) := pmN.trans (List.perm_append_singleton _ _)
    have g1 : ElemsOf knd es1.toList := fun e he => by
      rcases List.mem_cons.mp (pc.mem_iff.mp he) with z | z
      · rw [z]
        exact ⟨⟨k, hk, rfl⟩, hsc⟩
      · exact g e z
    have pm1 : (kysOf f es1).Perm (L ++ [k]) := by
      have q := pc.map fun e => f.kf e.2
      rw [List.map_cons, f.eq k x hk] at q
      exact q.trans ((pm.cons k).trans (List.perm_append_singleton _ _).symm)
    have nd1 : (L ++ [k]).Nodup := by rw [← eL]; exact nodup_adds nd
    have hsz : es1.size = L.length + 1 := by
      have := pc.length_eq
      rw [List.length_cons, Array.length_toList, Array.length_toList] at this
      omega
    have hb1 : es1.size < scanBound := by omega
    have hled : w.params.followText "set-order" = true ∨ t1.led = true := by
      rcases hl with hl | hl
      · exact .inl hl
      · exact .inr (hl1.trans hl)
    have hgw : ∀ (b : Bool) {s1 : Shared} {Q' : Unit → Shared → Prop}, Q' () s1 → wpAny (model P w) A (match b with | true => rule "set.scan.the-table-gave-way" | false => pure ()) Q' E s1 := fun b _ _ q => by
      cases b
      · exact wpAny_pure q
      · exact wpAny_rule q
    refine wpAny_bind (hgw _ ?_)
    have fin : ∀ h', Heap.SameBut a s.heap h' → SX f h' a (L ++ [k]) → Q true { s with heap := h' } := hQ
    split
    · refine wpAny_bind ?_
      rw [hashByValue_scannable 8 hsc]
      refine wpAny_pure (sx_tail (f := f) (fun b s1 Q' q => by cases b <;> first | exact wpAny_pure q | exact wpAny_rule q) ho hex hd g1 pm1 nd1 hb1 ?_ ?_ ?_ fun h' sb r => by dsimp only; exact wpAny_pure (fin h' sb r))
      · first | (split <;> first | exact hf1 | exact SetTable.fits_plain_off hf1) | exact hf1
      · first | (split <;> exact hr1) | exact hr1
      · first | (split <;> exact hled) | exact hled
    · refine wpAny_bind (wpAny_pure ?_)
      simp only [↓reduceIte]
      exact sx_tail (f := f) (fun b s1 Q' q => by cases b <;> first | exact wpAny_pure q | exact wpAny_rule q) ho hex hd g1 pm1 nd1 hb1 hf1 hr1 hled fun h' sb r => by dsimp only; exact wpAny_pure (fin h' sb r)
end
end NB

namespace NB
open PySem PySem.Spec PyProof.Rows L2
theorem adds_take {κ : Type} [DecidableEq κ] {ks : List κ} {i : Nat} {k : κ} (h : ks[i]? = some k) : oncesL (ks.take (i + 1)) = adds (oncesL (ks.take i)) k := by
  unfold oncesL
  rw [List.take_add_one, h, List.foldl_append]
  rfl
theorem LM2 {α : Type} {b c d : α} (h : b ∈ [c, d]) : b = c ∨ b = d := by simpa using h
section
variable {P : Program} {w : World} {κ : Type} [DecidableEq κ] {knd : KeyKind P w κ} {f : KF knd} {A : Around} {E : Value → Shared → Prop} {s : Shared}
/-- the loop that puts in what is walked -/
theorem sx_loop {I S : Addr} {fp wr : List Addr} {G : Array GenState → Array GenState → Prop} {n : Nat} {Pv : Nat → Value → Prop} {St : Nat → Shared → Prop} {R : Result → Shared → Prop} (W : WalksS P w A.in1 I fp wr G n Pv St)
    (hSf : S ∉ fp) (ks : List κ) (hn : n = ks.length) (hb : ks.length + 1 < scanBound) (hval : ∀ i v, Pv i v → ∃ k, ks[i]? = some k ∧ knd.is k v = true ∧ v.scannable = true) :
    ∀ (m i : Nat) (s : Shared), n - i = m → i ≤ n → St i s → SX f s.heap S (oncesL (ks.take i)) → (∀ s', Moved (S :: wr) G s s' → SX f s'.heap S (oncesL ks) → R (.ok (.ret .none)) s') → codeAny (model P w) A (.builtin "set.update.loop" ⟨[.ref S, .ref I], []⟩) R s := by
  have hSw : S ∉ wr := fun h => hSf (W.sub _ h)
  have hsub : ∀ b ∈ wr, b ∈ S :: wr := fun b hb => List.mem_cons_of_mem _ hb
  intro m
  induction m with
  | zero =>
    intro i s hk' hi hst hS hR
    obtain rfl : i = n := by omega
    refine codeAny_builtin F.entry_set_update_loop ?_
    rw [Around.under_plainId F.plain_set_update_loop _, show ks.take i = ks from List.take_of_length_le (by omega)] at *
    show wpAny _ A.in1 (pyNext (.ref I) >>= _) _ _ s
    refine wpAny_bind (W.done s _ _ hst fun s' hm => ?_)
    show wpAny _ A.in1 (ret Value.none) _ _ s'
    exact wpAny_pure (hR s' (hm.mono hsub) (hS.at fun o e => hm.heap S o hSw e))
  | succ m ih =>
    intro i s hk' hi hst hS hR
    have hlt : i < n := by omega
    refine codeAny_builtin F.entry_set_update_loop ?_
    rw [Around.under_plainId F.plain_set_update_loop _]
    show wpAny _ A.in1 (pyNext (.ref I) >>= _) _ _ s
    refine wpAny_bind (W.item i s _ _ hlt hst fun v s' hP hst' hm => ?_)
    obtain ⟨k, hk, his, hsc⟩ := hval i v hP
    have hl := len_onces (ks.take i)
    rw [List.length_take] at hl
    show wpAny _ A.in1 (holding [v] (setAdd S v) >>= _) _ _ s'
    refine wpAny_bind (wpAny_holding ?_)
    unfold setAdd
    refine wpAny_holding (wpAny_bind (knd.pyHash his ?_))
    refine sx_add (f := f) (s := { s' with toks := s'.toks + 1 }) his hsc (hS.at fun o e => hm.heap S o hSw e) (by omega) fun h' hsb hS2 => ?_
    rw [← adds_take hk] at hS2
    refine wpAny_pure ⟨plainId_quiet F.plain_set_update_loop _, ih (i + 1) _ (by omega) hlt (W.frame _ s' _ _ hst' (Nat.le_succ _) fun b hb o e => ?_) hS2 fun s2 hm2 hS3 => ?_⟩
    · rw [hsb.2 b fun h : b = S => hSf (by rw [← h]; exact hb)]
      exact e
    · refine hR s2 (Moved.trans W.gtrans ((hm.mono hsub).then_heap (Nat.le_succ _) fun b o hb e => ?_) hm2) hS3
      rw [hsb.2 b fun h : b = S => hb (by rw [h]; exact List.mem_cons_self)]
      exact e
/-- the new set's object -/
abbrev newSet (w : World) : Obj := { cls := .type "set", dict := none, data := .set #[] 0 (.fresh 0 0 (!w.params.followText "set-order")) }
/-- set(p): what the new set's own __init__ leaves -/
theorem call_set1 {p : Addr} {Φ : Heap → Prop} {Q : Value → Shared → Prop}
    (hin : ∀ (A' A2 : Around) (R : Result → Shared → Prop), A'.handled = A.handled → (∀ h' tk, Φ h' → R (.ok (.ret .none)) { s with heap := h', toks := tk }) →
      wpAny (model P w) A' (Builtin.«set.__init__» ⟨[.ref s.heap.objs.size, .ref p], []⟩) (fun fin s' => match fin with | .done g => R (.ok g) s' | .again c' => c'.quiet = true ∧ codeAny (model P w) A2 c' R s') (fun e s' => R (.error e) s') { s with heap := s.heap.push (newSet w) })
    (h : ∀ (h' : Heap) (tk : Nat), Φ h' → Q (.ref s.heap.objs.size) { s with heap := h', toks := tk }) : wpAny (model P w) A (call (.type "set") [.ref p]) Q E s := by
  obtain ⟨c, tl, hmro⟩ := F.called_set.mro
  have hmade := F.called_set.made
  have hsub := F.called_set.sub
  refine wpAny_call (codeAny_of_tree ?_)
  show wpAny _ _ (callAny (.type "set") _) _ _ _
  refine wpAny_pure ⟨Code.quiet_builtin _ (by decide +kernel), codeAny_builtin F.entry_type_call ?_⟩
  rw [Around.under_plain (weight_type_call_type "set" [.ref p] []) rfl]
  have h1 := F.called_set.notType
  have h2 := F.called_set.canCreate
  have hct := F.typeCall_set_1 (.ref p)
  repeat (any_goals (first | assumption | wp_step))
  refine codeAny_mono (L2.code_set_led1 (.ref p) (E := E) (Q₁ := fun obj s1 => obj = .ref s.heap.objs.size ∧ s1 = { s with heap := s.heap.push (newSet w) }) ⟨rfl, rfl⟩) fun r s1 hr => ?_
  cases r with
  | error e => exact hr
  | ok fl =>
    cases fl with
    | ret obj =>
      obtain ⟨rfl, rfl⟩ := hr
      have hS : (s.heap.push (newSet w)).get? s.heap.objs.size = some (newSet w) := Heap.get?_push_size _ rfl
      have hT : Shared.TypeIs { s with heap := s.heap.push (newSet w) } (.ref s.heap.objs.size) "set" := ⟨_, hS, rfl⟩
      have hli := F.called_set.init.lookup
      have hbi := F.called_set.init.bind (.ref s.heap.objs.size)
      repeat (any_goals (first | assumption | wp_step))
      refine codeAny_mono (codeAny_call_builtin (R := wants (fun r s2 => r = .none ∧ ∃ h' tk, s2 = { s with heap := h', toks := tk } ∧ Φ h') E) F.called_set.init.plain F.entry_set_init (check_set_init_1 hT (hin _ _ _ rfl fun h' tk hp => ⟨rfl, h', tk, rfl, hp⟩))) fun r2 s2 hr2 => ?_
      cases r2 with
      | error e => exact hr2
      | ok fl2 =>
        cases fl2 with
        | ret r =>
          obtain ⟨rfl, h', tk, rfl, hS'⟩ := hr2
          repeat (any_goals (first | assumption | wp_step))
          exact h _ _ hS'
        | _ => exact hr2.elim
    | _ => exact hr.elim
theorem call_setL {p : Addr} {items : Array Value} (ks : List κ) {Q : Value → Shared → Prop} (hh : A.handled = none) (hl : s.heap.IsList p items) (hsz : items.size = ks.length) (hb : ks.length + 1 < scanBound)
    (hval : ∀ (i : Nat) (v : Value), items[i]? = some v → ∃ k, ks[i]? = some k ∧ knd.is k v = true ∧ v.scannable = true)
    (h : ∀ (h' : Heap) (tk : Nat), SX f h' s.heap.objs.size (oncesL ks) ∧ (∀ b o, s.heap.get? b = some o → h'.get? b = some o) → Q (.ref s.heap.objs.size) { s with heap := h', toks := tk }) : wpAny (model P w) A (call (.type "set") [.ref p]) Q E s := by
  refine call_set1 (fun A' A2 R hA hR => ?_) h
  obtain ⟨⟨ocls, odict, odata, oslots⟩, hol, hcl, nl, hdl⟩ := hl
  simp only at hcl hdl
  subst hcl hdl
  have hS : (s.heap.push (newSet w)).get? s.heap.objs.size = some (newSet w) := Heap.get?_push_size _ rfl
  have hT : Shared.TypeIs { s with heap := s.heap.push (newSet w) } (.ref s.heap.objs.size) "set" := ⟨_, hS, rfl⟩
  have hol' : (s.heap.push (newSet w)).get? p = some { cls := .type "list", dict := odict, data := .seq items nl, slots := oslots } := Heap.get?_push_of_some _ hol
  have hsls := F.sub_list_set
  have hslf := F.sub_list_frozenset
  have hne : (Value.type "list" == Value.type "dict") = false := by decide
  have hl1 : (s.heap.push (newSet w)).IsList p items := ⟨_, hol', rfl, nl, rfl⟩
  unfold Builtin.«set.__init__» noKeywords Builtin.Frozenset.updateFrom
  generalize hPI : pyIter = PI
  wp_walk
  subst hPI
  refine wpAny_pyIter_list hl1 (wpAny_bind (wpAny_runValue ?_))
  have hlS : p < s.heap.objs.size := Heap.lt_size hol
  have hh3 : A'.in1.handled = none := by rw [← hh, ← hA] <;> rfl
  have hz1 : (s.heap.push (newSet w)).objs.size = s.heap.objs.size + 1 := Heap.size_push ..
  have hneI : p ≠ (s.heap.push (newSet w)).objs.size := by rw [hz1]; exact Nat.ne_of_lt (Nat.lt_succ_of_lt hlS)
  have hSf : s.heap.objs.size ∉ [(s.heap.push (newSet w)).objs.size, p] := by
    rw [hz1]
    intro z
    rcases LM2 z with z | z
    · exact absurd z (Nat.ne_of_lt (Nat.lt_succ_self _))
    · exact absurd z (Nat.ne_of_gt hlS)
  refine sx_loop (f := f) ((Walks.list hh3 _ p hneI items).toS) hSf ks hsz hb hval (items.size - 0) 0 _ (by omega) (Nat.zero_le _) ⟨⟨_, Heap.get?_push_size _ rfl, rfl, rfl⟩, (hl1.push _)⟩ (SX.fresh (Heap.get?_push_of_some _ hS)) fun s' hm hS' => ?_
  obtain ⟨h', g2, d', tk', os'⟩ := s'
  have eg : g2 = s.gens := hm.gens
  have ed : d' = s.drawn := hm.drawn
  have eo : os' = s.os := hm.os
  subst eg ed eo
  show wpAny _ _ _ _ _ _
  refine wpAny_pure ?_
  show wpAny _ _ (ret Value.none) _ _ _
  refine wpAny_pure (hR h' tk' ⟨hS', fun b o e => ?_⟩)
  have hb0 : b < s.heap.objs.size := Heap.lt_size e
  refine hm.heap b o (fun z => ?_) (Heap.get?_push_of_some _ (Heap.get?_push_of_some _ e))
  rcases LM2 z with z | z
  · exact absurd z (Nat.ne_of_lt hb0)
  · rw [hz1] at z
    exact absurd z (Nat.ne_of_lt (Nat.lt_succ_of_lt hb0))
theorem call_setT {p : Addr} {items : Array Value} (ks : List κ) {Q : Value → Shared → Prop} (hh : A.handled = none) (hl : s.heap.IsTuple p items) (hsz : items.size = ks.length) (hb : ks.length + 1 < scanBound)
    (hval : ∀ (i : Nat) (v : Value), items[i]? = some v → ∃ k, ks[i]? = some k ∧ knd.is k v = true ∧ v.scannable = true)
    (h : ∀ (h' : Heap) (tk : Nat), SX f h' s.heap.objs.size (oncesL ks) ∧ (∀ b o, s.heap.get? b = some o → h'.get? b = some o) → Q (.ref s.heap.objs.size) { s with heap := h', toks := tk }) : wpAny (model P w) A (call (.type "set") [.ref p]) Q E s := by
  refine call_set1 (fun A' A2 R hA hR => ?_) h
  obtain ⟨⟨ocls, odict, odata, oslots⟩, hol, hcl, nl, hdl⟩ := hl
  simp only at hcl hdl
  subst hcl hdl
  have hS : (s.heap.push (newSet w)).get? s.heap.objs.size = some (newSet w) := Heap.get?_push_size _ rfl
  have hT : Shared.TypeIs { s with heap := s.heap.push (newSet w) } (.ref s.heap.objs.size) "set" := ⟨_, hS, rfl⟩
  have hol' : (s.heap.push (newSet w)).get? p = some { cls := .type "tuple", dict := odict, data := .seq items nl, slots := oslots } := Heap.get?_push_of_some _ hol
  have hsls := F.sub_tuple_set
  have hslf := F.sub_tuple_frozenset
  have hne : (Value.type "tuple" == Value.type "dict") = false := by decide
  have hl1 : (s.heap.push (newSet w)).IsTuple p items := ⟨_, hol', rfl, nl, rfl⟩
  unfold Builtin.«set.__init__» noKeywords Builtin.Frozenset.updateFrom
  generalize hPI : pyIter = PI
  wp_walk
  subst hPI
  refine wpAny_pyIter_tuple hl1 (wpAny_bind (wpAny_runValue ?_))
  have hlS : p < s.heap.objs.size := Heap.lt_size hol
  have hh3 : A'.in1.handled = none := by rw [← hh, ← hA] <;> rfl
  have hz1 : (s.heap.push (newSet w)).objs.size = s.heap.objs.size + 1 := Heap.size_push ..
  have hneI : p ≠ (s.heap.push (newSet w)).objs.size := by rw [hz1]; exact Nat.ne_of_lt (Nat.lt_succ_of_lt hlS)
  have hSf : s.heap.objs.size ∉ [(s.heap.push (newSet w)).objs.size, p] := by
    rw [hz1]
    intro z
    rcases LM2 z with z | z
    · exact absurd z (Nat.ne_of_lt (Nat.lt_succ_self _))
    · exact absurd z (Nat.ne_of_gt hlS)
  refine sx_loop (f := f) ((Walks.tuple hh3 _ p hneI items).toS) hSf ks hsz hb hval (items.size - 0) 0 _ (by omega) (Nat.zero_le _) ⟨⟨_, Heap.get?_push_size _ rfl, rfl, rfl⟩, (hl1.push _)⟩ (SX.fresh (Heap.get?_push_of_some _ hS)) fun s' hm hS' => ?_
  obtain ⟨h', g2, d', tk', os'⟩ := s'
  have eg : g2 = s.gens := hm.gens
  have ed : d' = s.drawn := hm.drawn
  have eo : os' = s.os := hm.os
  subst eg ed eo
  show wpAny _ _ _ _ _ _
  refine wpAny_pure ?_
  show wpAny _ _ (ret Value.none) _ _ _
  refine wpAny_pure (hR h' tk' ⟨hS', fun b o e => ?_⟩)
  have hb0 : b < s.heap.objs.size := Heap.lt_size e
  refine hm.heap b o (fun z => ?_) (Heap.get?_push_of_some _ (Heap.get?_push_of_some _ e))
  rcases LM2 z with z | z
  · exact absurd z (Nat.ne_of_lt hb0)
  · rw [hz1] at z
    exact absurd z (Nat.ne_of_lt (Nat.lt_succ_of_lt hb0))
end
end NB

namespace NB
open PySem PySem.Spec PyProof.Rows L2
section
variable {P : Program} {w : World} {A : Around} {E : Value → Shared → Prop} {s : Shared} {a : Addr}
theorem strs_of {es : List (Int × Value)} (g : ElemsOf (strKind P w) es) : ∀ {vs : List Value}, (∀ v ∈ vs, v ∈ es.map (·.2)) → StrsAre vs (vs.map (kfStr P w).kf) := by
  intro vs
  induction vs with
  | nil => intro _; exact .nil
  | cons v vs ih =>
    intro h
    obtain ⟨e, he, q⟩ := List.mem_map.mp (h v (List.mem_cons_self ..))
    obtain ⟨⟨k, h1, _⟩, _⟩ := g e he
    rw [q] at h1
    obtain ⟨t, rfl⟩ := Value.isStrOf_shape h1
    exact .cons k t (ih fun u hu => h u (List.mem_cons_of_mem _ hu))
/-- sorted(a set of texts) -/
theorem sorted_setS {L : List Str} {Q : Value → Shared → Prop} (R : SX (kfStr P w) s.heap a L) (hh : A.handled = none) (h64 : L.length < 64)
    (hQ : ∀ s' p (out : Array Value) (c : Nat) (ys : List Str), (∀ b o, s.heap.get? b = some o → s'.heap.get? b = some o) → s'.gens = s.gens → s'.os = s.os → s.heap.objs.size ≤ p →
      s'.heap.get? p = some (seqObj "list" out c) → StrsAre out.toList ys → ys.Perm L → sortedS ys = true → Q (.ref p) s') : wpAny (model P w) A (call (.builtin "sorted") [.ref a]) Q E s := by
  obtain ⟨o, es, ep, t, ho, hex, hd, g, pmL, nd, hb, hf, hr, hl⟩ := R
  refine Calls.call_function_entry kind_sorted plain_sorted entry_sorted (args_sorted1 _) ?_
  unfold Builtin.«sorted»
  refine wpAny_bind (m := checkCount "sorted" 1 1 _) (wpAny_pure (wpAny_bind (L2.collect_set (A := A.in1) hh ⟨o, ho, hex.1, hd⟩ hf hb hr hl fun s1 vs k1 hz g1 o1 pm => ?_)))
  have hvl : vs.length = L.length := by
    rw [pm.length_eq, List.length_map, ← pmL.length_eq, kys_len, Array.length_toList]
  have hS := strs_of g (vs := vs) fun v hv => pm.mem_iff.mp hv
  have pk : (vs.map (kfStr P w).kf).Perm L := by
    refine List.Perm.trans ?_ pmL
    have q := pm.map (kfStr P w).kf
    rw [List.map_map] at q
    exact q
  refine wpAny_bind (wpAny_newList ?_ (by rw [hvl, sizeLine_eq]; omega))
  have hoL : (s1.heap.push (seqObj "list" vs.toArray 0)).get? s1.heap.objs.size = some (seqObj "list" vs.toArray 0) := Heap.get?_push_size _ rfl
  refine wpAny_bind (wpAny_holding (wpAny_call_entry slot_list_sort ⟨_, hoL, rfl⟩ entry_list_sort (list_sort_treeK strKind_oneLt hoL hS.keysOf (fun v₁ v₂ rest e => keyKind_strs (by rw [← e]; exact hS)) (by rw [hvl]; exact h64) fun st' hp hs => ⟨_, rfl, ?_⟩) (args_list_sort _)))
  obtain ⟨ys, y1, y2, y3⟩ := sorted_out_str hS hp hs
  obtain ⟨c, hc⟩ := sortedHeap_at (vs := vs) (out := (arrOf st').map (·.2)) hoL
  refine wpAny_pure ⟨_, rfl, hQ _ s1.heap.objs.size _ c ys (fun b u e => ?_) g1 o1 hz hc y1 (y2.trans pk) y3⟩
  have q := k1 b u e
  have hlt := Heap.lt_size q
  refine (sortedHeap_old (Nat.ne_of_lt hlt) ?_).trans (Heap.get?_push_of_some _ q)
  rw [size_push']
  exact Nat.lt_succ_of_lt hlt
end
/-- a set of keys in the heap -/
def SXO {P : Program} {w : World} {κ : Type} [DecidableEq κ] {knd : KeyKind P w κ} (f : KF knd) (a : Addr) (L : List κ) : HO := .ext fun h => SX f h a L
section
variable {X : Cx} {κ : Type} [DecidableEq κ] {knd : KeyKind X.prog X.w κ} {f : KF knd}
theorem sxo_new {H : Hp} {h : Heap} {a : Addr} {L : List κ} (R : SX f h a L) : ObjOk X.prog X.w H h a (SXO f a L) := by
  have ⟨o, _, _, _, ho, _⟩ := R
  exact ⟨R, ⟨o, ho⟩, fun h1 h2 p k => SX.at p k⟩
theorem sxo_get {pins : List (Addr × Obj)} {σ : L2.St} {H : Hp} {s : Shared} {a : Addr} {L : List κ} (I : Inv X pins σ H s) (ha : H a = some (SXO f a L)) : SX f s.heap a L := (I.hok a _ ha).1
/-- set(xs), xs a list or a tuple -/
def rSetOf {P : Program} {w : World} {κ : Type} [DecidableEq κ] {knd : KeyKind P w κ} (K : PySem.W.Frag) (f : KF knd) (toV : κ → V) : List V → Hp → VK → Prop := fun vs H Q => ∃ (p : Addr) (ks : List κ), vs = [.ref p] ∧ (SqL K H p (ks.map toV) ∨ SqT K H p (ks.map toV)) ∧ ks.length < 4000 ∧
  ∀ q, H q = none → Q (.ref q) (upd H q (SXO f q (oncesL ks)))
theorem setOf_rule {toV : κ → V} (hc : X.calm = true) (hto : ∀ k u, RelV (toV k) u → knd.is k u = true ∧ u.scannable = true) : CallR X (.type "set") (rSetOf X.K f toV) := by
  intro pins s σ H vs us Q I r h
  obtain ⟨p, ks, rfl, hs, hb, q⟩ := h
  rw [Vals.ref1 r]
  have hb' : ks.length + 1 < scanBound := by
    show ks.length + 1 < 4096
    omega
  have val : ∀ {its : List Value}, Vals (ks.map toV) its → ∀ (i : Nat) (v : Value), its.toArray[i]? = some v → ∃ k, ks[i]? = some k ∧ knd.is k v = true ∧ v.scannable = true := by
    intro its rv i v hv
    rw [List.getElem?_toArray] at hv
    have hi : i < ks.length := by
      have h1 := (List.getElem?_eq_some_iff.mp hv).1
      have h2 := rv.length
      rw [List.length_map] at h2
      omega
    have hk : ks[i]? = some ks[i] := List.getElem?_eq_getElem hi
    obtain ⟨u, hu, ru⟩ := rv.get (i := i) (x := toV ks[i]) (by rw [List.getElem?_map, hk]; rfl)
    rw [hv] at hu
    cases hu
    exact ⟨ks[i], hk, hto _ _ ru⟩
  have fin : ∀ (h' : Heap) (tk : Nat), SX f h' s.heap.objs.size (oncesL ks) ∧ (∀ b o, s.heap.get? b = some o → h'.get? b = some o) → ∃ v H', Inv X pins σ H' { s with heap := h', toks := tk } ∧ RelV v (.ref s.heap.objs.size) ∧ Q v H' := fun h' tk ⟨R, k⟩ =>
    ⟨.ref _, upd H s.heap.objs.size (SXO f s.heap.objs.size (oncesL ks)), I.laid (t' := tk) k (Nat.le_refl _) (sxo_new R), rfl, q _ (I.hok.fresh (Nat.le_refl _))⟩
  rcases hs with hs | hs
  · obtain ⟨its, rv, hl, _⟩ := I.list hs
    have hle := rv.length
    rw [List.length_map] at hle
    exact call_setL (f := f) ks (I.ok.hd hc) hl.isList (by rw [List.size_toArray]; omega) hb' (val rv) fin
  · obtain ⟨its, rv, hl, _⟩ := I.tuple hs
    have hle := rv.length
    rw [List.length_map] at hle
    exact call_setT (f := f) ks (I.ok.hd hc) hl (by rw [List.size_toArray]; omega) hb' (val rv) fin
/-- len(a set) -/
def rLenSet {P : Program} {w : World} {κ : Type} [DecidableEq κ] {knd : KeyKind P w κ} (f : KF knd) : List V → Hp → VK → Prop := fun vs H Q => ∃ (a : Addr) (L : List κ), vs = [.ref a] ∧ H a = some (SXO f a L) ∧ Q (.int (L.length : Int)) H
theorem lenSet_rule : CallR X (.builtin "len") (rLenSet f) := by
  intro pins s σ H vs us Q I r h
  obtain ⟨a, L, rfl, ha, q⟩ := h
  rw [Vals.ref1 r]
  obtain ⟨o, es, ep, t, ho, hex, hd, g, pm, nd, hb, hf, _⟩ := sxo_get I ha
  have hn : es.size = L.length := by rw [← pm.length_eq, kys_len]
  have hb2 : es.size < 4096 := hb
  exact call_len_set ho hex hd hf (by omega) ⟨.int (L.length : Int), H, I.tok _, ⟨_, by rw [hn]⟩, q⟩
end
section
variable {X : Cx}
theorem setOfS (hc : X.calm = true) : CallR X (.type "set") (rSetOf X.K (kfStr X.prog X.w) V.str) := setOf_rule hc fun k u r => by
  obtain ⟨t, rfl⟩ := r
  exact ⟨strKind_is _ _ _ _, rfl⟩
theorem setOfI (hc : X.calm = true) : CallR X (.type "set") (rSetOf X.K (kfInt X.prog X.w) V.int) := setOf_rule hc fun k u r => by
  obtain ⟨t, rfl⟩ := r
  exact ⟨intKind_is _ _ _ _, rfl⟩
/-- sorted(a set of texts) -/
def rSortSetS (P : Program) (w : World) : List V → Hp → VK → Prop := fun vs H Q => ∃ (a : Addr) (L : List Str), vs = [.ref a] ∧ H a = some (SXO (kfStr P w) a L) ∧ L.length < 64 ∧
  ∀ (ys : List Str) (p : Addr), ys.Perm L → sortedS ys = true → H p = none → Q (.ref p) (upd H p (.lst (ys.map V.str)))
theorem sortSetS (hc : X.calm = true) : CallR X (.builtin "sorted") (rSortSetS X.prog X.w) := by
  intro pins s σ H vs us Q I r h
  obtain ⟨a, L, rfl, ha, h64, q⟩ := h
  have R := sxo_get (f := kfStr X.prog X.w) I ha
  rw [Vals.ref1 r]
  refine sorted_setS R (I.ok.hd hc) h64 fun s' p out c ys k g o hp hg hi hpm hs => ?_
  have hlen : (ys.map V.str).length ≤ sizeLine := by rw [List.length_map, hpm.length_eq, sizeLine_eq]; omega
  have hn : H p = none := I.hok.fresh hp
  have J : Inv X pins σ (upd H p (.lst (ys.map V.str))) { s with heap := s'.heap, gens := s'.gens, drawn := s'.drawn, toks := s'.toks } :=
    I.call (ch := []) (Un.laid k hp hn) (I.hok.laid k hp ⟨hlen, out.toList, c, vals_of_strs hi, hg⟩) (by rw [g]; exact I.bare) (fun _ z => nomatch z)
  have e : s' = { s with heap := s'.heap, gens := s'.gens, drawn := s'.drawn, toks := s'.toks } := by
    cases s'
    cases s
    cases o
    rfl
  rw [e]
  exact ⟨.ref p, _, J, rfl, q ys p hpm hs hn⟩
end
end NB

/-! texts in order: a list is sorted(set(it)) just if it ascends -/
namespace NB
open PySem PySem.Spec PyProof.Rows L2 LamX
abbrev SLt (a b : Str) : Prop := strLt a b = true
theorem slt_irr (a : Str) : ¬ SLt a a := fun h => strLt_ne h rfl
theorem slt_tri {a b : Str} (h : ¬ SLt a b) (n : a ≠ b) : SLt b a := by
  unfold SLt strLt at *
  rw [decide_eq_true_iff] at *
  have n2 : a.cps.toList ≠ b.cps.toList := fun z => n (by
    cases a
    cases b
    simp at z
    rw [z])
  exact (List.le_iff_lt_or_eq.mp (List.not_lt.mp h)).resolve_right n2.symm
theorem strict_eq : ∀ {l m : List Str}, l.Pairwise SLt → m.Pairwise SLt → (∀ x, x ∈ l ↔ x ∈ m) → l = m
  | [], [], _, _, _ => rfl
  | [], b :: m, _, _, h => nomatch (h b).mpr (List.mem_cons_self ..)
  | a :: l, [], _, _, h => nomatch (h a).mp (List.mem_cons_self ..)
  | a :: l, b :: m, hl, hm, h => by
    rw [List.pairwise_cons] at hl hm
    have e : a = b := by
      rcases List.mem_cons.mp ((h a).mp (List.mem_cons_self ..)) with z | z
      · exact z
      · rcases List.mem_cons.mp ((h b).mpr (List.mem_cons_self ..)) with y | y
        · exact y.symm
        · exact absurd (strLt_trans (hm.1 a z) (hl.1 b y)) (slt_irr b)
    subst e
    rw [strict_eq hl.2 hm.2 fun x => ⟨fun z => ?_, fun z => ?_⟩]
    · rcases List.mem_cons.mp ((h x).mp (List.mem_cons_of_mem _ z)) with y | y
      · rw [y] at z
        exact absurd (hl.1 a z) (slt_irr a)
      · exact y
    · rcases List.mem_cons.mp ((h x).mpr (List.mem_cons_of_mem _ z)) with y | y
      · rw [y] at z
        exact absurd (hm.1 a z) (slt_irr a)
      · exact y
theorem rising_pair : ∀ {l : List Str} {p : Str}, risingS p l = true → (p :: l).Pairwise (fun a b => ¬ SLt b a)
  | [], p, _ => by simp
  | x :: l, p, h => by
    have h2 : (!ltCps x.cps.toList p.cps.toList && risingS x l) = true := h
    rw [Bool.and_eq_true_iff, Bool.not_eq_true', ltCps_eq] at h2
    have ih := rising_pair h2.2
    have hpx : ¬ SLt x p := by
      unfold SLt strLt
      rw [h2.1]
      decide
    refine List.pairwise_cons.mpr ⟨fun y hy => ?_, ih⟩
    rcases List.mem_cons.mp hy with z | z
    · rw [z]
      exact hpx
    · have hxy := (List.pairwise_cons.mp ih).1 y z
      intro q
      by_cases e : x = y
      · rw [← e] at q
        exact hpx q
      · exact hpx (strLt_trans (slt_tri hxy (fun w => e w.symm)) q)
theorem sorted_pair {l : List Str} (h : sortedS l = true) : l.Pairwise (fun a b => ¬ SLt b a) := by
  cases l with
  | nil => exact .nil
  | cons x l => exact rising_pair h
theorem sorted_strict {l : List Str} (h : sortedS l = true) (nd : l.Nodup) : l.Pairwise SLt := by
  have h1 := sorted_pair h
  have h2 : l.Pairwise (fun a b => (¬ SLt b a) ∧ a ≠ b) := List.Pairwise.and h1 nd
  exact h2.imp fun {a b} z => slt_tri z.1 z.2.symm
theorem asc_strict {l : List Str} (h : ascS l = true) : l.Pairwise SLt := by
  rw [List.pairwise_iff_getElem]
  intro i j hi hj hij
  have e : j = i + (j - i - 1) + 1 := by omega
  have := asc_far h (j - i - 1) i (by omega)
  rw [← e] at this
  have a1 : l.getD i "" = l[i] := by simp [hi]
  have a2 : l.getD j "" = l[j] := by simp [hj]
  rw [a1, a2] at this
  exact this
theorem strict_asc {l : List Str} (h : l.Pairwise SLt) : ascS l = true := by
  unfold ascS
  rw [List.all_eq_true]
  intro k hk
  have hk2 := List.mem_range.mp hk
  rw [List.pairwise_iff_getElem] at h
  have a1 : l.getD k "" = l[k]'(by omega) := by simp [show k < l.length by omega]
  have a2 : l.getD (k + 1) "" = l[k + 1]'(by omega) := by simp [show k + 1 < l.length by omega]
  rw [a1, a2]
  exact h k (k + 1) (by omega) (by omega) (by omega)
theorem asc_iff {l ys : List Str} (hp : ys.Perm (oncesL l)) (hs : sortedS ys = true) : l = ys ↔ ascS l = true := by
  have nd : ys.Nodup := hp.nodup_iff.mpr (nodup_onces l)
  have st := sorted_strict hs nd
  constructor
  · intro e
    rw [e]
    exact strict_asc st
  · intro h
    exact strict_eq (asc_strict h) st fun x => by rw [hp.mem_iff, mem_onces]
theorem eqv_strs : ∀ a b : List Str, PyData.eqvAll (a.map PyData.str) (b.map PyData.str) = true ↔ a = b
  | [], [] => by simp [PyData.eqvAll]
  | [], _ :: _ => by simp [PyData.eqvAll]
  | _ :: _, [] => by simp [PyData.eqvAll]
  | x :: a, y :: b => by
    rw [List.map_cons, List.map_cons, PyData.eqvAll, Bool.and_eq_true_iff, eqv_strs a b]
    have : PyData.eqv (.str x) (.str y) = true ↔ x = y := by
      rw [PyData.eqv]
      exact beq_iff_eq
    rw [this]
    exact ⟨fun ⟨h1, h2⟩ => by rw [h1, h2], fun h => by injection h with h1 h2; exact ⟨h1, h2⟩⟩
theorem eqv_asc {l ys : List Str} (hp : ys.Perm (oncesL l)) (hs : sortedS ys = true) : PyData.eqv (.list (l.map PyData.str)) (.list (ys.map PyData.str)) = ascS l := by
  rw [Bool.eq_iff_iff, ← asc_iff hp hs, ← eqv_strs l ys, PyData.eqv]
theorem lay_strs : ∀ {l : List Str}, (∀ x ∈ l, signS x = true) → PyData.canLayAll0 (l.map PyData.str) = true ∧ PyData.depthAll (l.map PyData.str) = 0
  | [], _ => by rw [List.map_nil, PyData.canLayAll0, PyData.depthAll]; exact ⟨rfl, rfl⟩
  | x :: l, h => by
    obtain ⟨h1, h2⟩ := lay_strs fun y hy => h y (List.mem_cons_of_mem _ hy)
    rw [List.map_cons, PyData.canLayAll0, PyData.depthAll, PyData.canLay0, PyData.depth, h1, h2, signS_ok (h x (List.mem_cons_self ..))]
    exact ⟨rfl, rfl⟩
theorem shaped_strs {l : List Str} (h : ∀ x ∈ l, signS x = true) : SeqAt.shaped (.list (l.map PyData.str)) = true := by
  obtain ⟨h1, h2⟩ := lay_strs h
  unfold SeqAt.shaped
  rw [PyData.canLay0, h1, PyData.depth, h2]
  rfl
theorem dp_strs {K : PySem.W.Frag} {H : Hp} : ∀ l : List Str, DpAll K H (l.map V.str) (l.map PyData.str)
  | [] => .nil
  | x :: l => .cons (.str x) (dp_strs l)
end NB

/-! things that are to be signs: what may be judged, its top a plain tuple if it is one -/
namespace NB
open PySem PySem.Spec PyProof.Rows L2 LamX
def Go (K : PySem.W.Frag) (O : List Addr) (c e : Nat) (H : Hp) (v : V) : Prop := ∃ d, Jp K (hid O H) v d ∧ GB d c e ∧ ∀ its, d = .tuple its → ∃ a xs, v = .ref a ∧ PlT K H a xs ∧ JpAll K (hid O H) xs its
theorem cutV_last {xs : List V} (h : 0 < xs.length) : cutV xs (some (-1)) none = xs.drop (xs.length - 1) := by
  unfold cutV
  rw [sIx_init, HT.sIx_none, List.take_of_length_le (by rw [List.length_drop]; omega)]
section
variable {K : PySem.W.Frag} {O : List Addr} {c e c' e' n : Nat} {H H' : Hp} {v : V} {vs : List V}
theorem PlT.smO {a : Addr} {xs : List V} (h : PlT K H a xs) (s : Sm O H H') (hO : ∀ b ∈ O, ∃ ys, H b = some (.lst ys)) : PlT K H' a xs := by
  rcases h with ⟨o, h1, h2, h⟩ | h
  · refine .inl ⟨o, h1, h2, s _ _ h fun m => ?_⟩
    obtain ⟨ys, z⟩ := hO a m
    rw [h] at z
    cases z
  · exact .inr h
theorem Go.same (h : Go K O c e H v) (s : Same H H') : Go K O c e H' v := by
  obtain ⟨d, h1, h2, h3⟩ := h
  refine ⟨d, h1.sm fun b o q _ => s b o q, h2, fun its z => ?_⟩
  obtain ⟨a, xs, e1, p, j⟩ := h3 its z
  exact ⟨a, xs, e1, p.sm s, JpAll.same (Sm.hid (O := O) fun b o q _ => s b o q) _ _ j⟩
theorem Go.sm (h : Go K O c e H v) (s : Sm O H H') (hO : ∀ b ∈ O, ∃ ys, H b = some (.lst ys)) : Go K O c e H' v := by
  obtain ⟨d, h1, h2, h3⟩ := h
  refine ⟨d, h1.sm s, h2, fun its z => ?_⟩
  obtain ⟨a, xs, e1, p, j⟩ := h3 its z
  exact ⟨a, xs, e1, p.smO s hO, JpAll.same s.hid _ _ j⟩
theorem Go.mono (h : Go K O c e H v) (h1 : c ≤ c') (h2 : e ≤ e') : Go K O c' e' H v := by
  obtain ⟨d, g, ⟨a, b, h3, h4⟩, q⟩ := h
  exact ⟨d, g, ⟨a, b, by omega, by omega⟩, q⟩
theorem Go.tup {a : Addr} (hs : PlT K H a vs) (g : JGAll K O H vs n c e) (hn : n ≤ 100000) (hO : ∀ b ∈ O, ∃ ys, H b = some (.lst ys)) : Go K O (1 + c) (e + 1) H (.ref a) := by
  obtain ⟨ds, g1, g2, g3, g4, g5, g6⟩ := g
  refine ⟨.tuple ds, .tup (hid_sq hs.sq hO) g1, ⟨?_, ?_, ?_, ?_⟩, fun its z => ?_⟩
  · rw [shortD, g2, decide_eq_true (by omega)]
    rfl
  · rw [PyData.canLay0]
    exact g3
  · rw [cntD]
    omega
  · rw [PyData.depth]
    omega
  · cases z
    exact ⟨a, vs, rfl, hs, g1⟩
theorem Go.non (h1 : 1 ≤ c) : Go K O c e H .non := by
  refine ⟨.none, .oth (.base .non) oth_none, GB.none h1, fun _ z => nomatch z⟩
theorem Go.str {x : Str} (h1 : 1 ≤ c) (h2 : x.length ≤ 100000) (h3 : PyData.strOk x = true) : Go K O c e H (.str x) :=
  ⟨.str x, .str x, ⟨by rw [shortD, decide_eq_true h2], by rw [PyData.canLay0]; exact h3, by rw [cntD_str]; exact h1, Nat.zero_le _⟩, fun _ z => nomatch z⟩
theorem Go.lst {a : Addr} {xs : List V} (h1 : 1 ≤ c) (h : H a = some (.lst xs)) (n : a ∉ O) : Go K O c e H (.ref a) := ⟨.none, .oth (.base (.lst (hid_at n h))) oth_list, GB.none h1, fun _ z => nomatch z⟩
theorem Go.dct {a : Addr} {kvs : List (Key × V)} (h1 : 1 ≤ c) (h : H a = some (.dK kvs)) (n : a ∉ O) : Go K O c e H (.ref a) := ⟨.none, .oth (.base (.dK (hid_at n h))) oth_dict, GB.none h1, fun _ z => nomatch z⟩
/-- what the judges get -/
theorem Go.jo (h : Go K O c e H v) : ∃ d, JoAt K H v d ∧ GB d c e := by
  obtain ⟨d, h1, h2, h3⟩ := h
  refine ⟨d, ⟨h1.out, fun its z => ?_⟩, h2⟩
  obtain ⟨a, xs, e1, p, j⟩ := h3 its z
  exact ⟨a, xs, e1, p, JpAll.same (hid_same O H) _ _ j⟩
theorem sgs_jg {sg : List Sg} (h : DpAll K H vs (sg.map sg1)) (hp : (sg.map sg1).all placedD = true) (hO : ∀ b ∈ O, ∃ ys, H b = some (.lst ys)) : JGAll K O H vs sg.length (3 * sg.length) 1 := by
  obtain ⟨l1, l2⟩ := placed_lay sg hp
  refine ⟨sg.map sg1, DpAll.jp _ _ (jd_sgs sg) (DpAll.imm (hid_imm hO) _ _ (nls_sgs sg) h), ?_, l1, ?_, l2, by rw [List.length_map]; exact Nat.le_refl _⟩
  · clear h l1 l2
    induction sg with
    | nil => rfl
    | cons e sg ih =>
      rw [List.map_cons, List.all_cons, Bool.and_eq_true_iff] at hp
      have h3 := hp.1
      unfold sg1 placedD at h3
      rw [Bool.and_eq_true_iff] at h3
      have h4 : signS e.1 = true := h3.1
      have h5 : e.1.length ≤ 100000 := by
        unfold signS at h4
        rw [Bool.and_eq_true_iff, Bool.and_eq_true_iff] at h4
        have := of_decide_eq_true h4.2.1
        omega
      rw [List.map_cons, shortsD, ih hp.2, sg1, shortD, shortsD, shortsD, shortsD, shortD, shortD, decide_eq_true h5]
      all_goals first
        | rfl
        | (intro _ z; cases z)
  · clear h hp l1 l2
    induction sg with
    | nil => exact Nat.le_refl _
    | cons e sg ih =>
      rw [List.map_cons, cntsD, sg1, cntD, cntsD, cntsD, cntsD, cntD_str, List.length_cons]
      have : cntD (.int e.2) = 1 := rfl
      omega
theorem JGAll.take : ∀ (k : Nat) {vs : List V} {n c e : Nat}, JGAll K O H vs n c e → JGAll K O H (vs.take k) n c e
  | 0, _, _, _, _, _ => by rw [List.take_zero]; exact JGAll.nil
  | k + 1, [], _, _, _, h => h
  | k + 1, v :: vs, n, c, e, h => by
    obtain ⟨ds, h1, h2, h3, h4, h5, h6⟩ := h
    cases h1 with
    | cons a b =>
      rename_i d ds
      rw [shortsD, Bool.and_eq_true] at h2
      rw [PyData.canLayAll0, Bool.and_eq_true] at h3
      rw [cntsD] at h4
      rw [PyData.depthAll] at h5
      rw [List.length_cons] at h6
      obtain ⟨es, i1, i2, i3, i4, i5, i6⟩ := JGAll.take k (vs := vs) (n := ds.length) (c := cntsD ds) (e := PyData.depthAll ds) ⟨ds, b, h2.2, h3.2, Nat.le_refl _, Nat.le_refl _, Nat.le_refl _⟩
      rw [List.take_succ_cons]
      refine ⟨d :: es, .cons a i1, ?_, ?_, ?_, ?_, ?_⟩
      · rw [shortsD, h2.1, i2]; rfl
      · rw [PyData.canLayAll0, h3.1, i3]; rfl
      · rw [cntsD]; omega
      · rw [PyData.depthAll]; omega
      · rw [List.length_cons]; omega
theorem placed_sub {sg sh : List Sg} (h : (sg.map sg1).all placedD = true) (s : ∀ e ∈ sh, e ∈ sg) : (sh.map sg1).all placedD = true := by
  rw [List.all_eq_true] at h ⊢
  intro d hd
  obtain ⟨e, he, rfl⟩ := List.mem_map.mp hd
  exact h _ (List.mem_map.mpr ⟨e, s e he, rfl⟩)
def GoAll (K : PySem.W.Frag) (O : List Addr) (c e : Nat) (H : Hp) (vs : List V) : Prop := ∀ v ∈ vs, Go K O c e H v
theorem GoAll.same (h : GoAll K O c e H vs) (s : Same H H') : GoAll K O c e H' vs := fun v m => (h v m).same s
variable {H1 : Hp} {σ : L2.St} {t : TE} {ts : TA}
def GOE (K : PySem.W.Frag) (O : List Addr) (H1 : Hp) (σ : L2.St) (c e : Nat) (t : TE) : Prop := ∀ (H : Hp) (Q : VK), Same H1 H → (∀ H' v, Same H H' → Go K O c e H' v → Q v H') → t σ H Q
def GOA (K : PySem.W.Frag) (O : List Addr) (H1 : Hp) (σ : L2.St) (c e n : Nat) (ts : TA) : Prop := ∀ (H : Hp) (Q : List V → Hp → Prop), Same H1 H → (∀ H' vs, Same H H' → GoAll K O c e H' vs → vs.length = n → Q vs H') → ts σ H Q
theorem GOA.nil : GOA K O H1 σ c e 0 tNil := fun H Q _ q => q H [] (Same.refl H) (fun _ m => nomatch m) rfl
theorem GOA.cons (h : GOE K O H1 σ c e t) (g : GOA K O H1 σ c e n ts) : GOA K O H1 σ c e (n + 1) (tCons t ts) := fun H Q s q =>
  h H _ s fun H2 x s2 gx => g H2 _ (s.trans s2) fun H3 xs s3 gxs l3 => q H3 _ (s2.trans s3) (fun u m => by
    rcases List.mem_cons.mp m with z | z
    · rw [z]
      exact gx.same s3
    · exact gxs u z) (by rw [List.length_cons, l3])
theorem GOE.con {v : V} (h : ∀ H, Go K O c e H v) : GOE K O H1 σ c e (tC v) := fun H Q _ q => q H v (Same.refl H) (h H)
theorem GOA.lst (h : GOA K O H1 σ c e n ts) (hn : n ≤ 100000) {H : Hp} {Q : VK} (s : Same H1 H) (q : ∀ H' vs p, Same H H' → GoAll K O c e H' vs → vs.length = n → H' p = some (.lst vs) → H p = none → Q (.ref p) H') : tLst ts σ H Q :=
  h H _ s fun H2 vs s2 g2 l2 => by
    have hzl : 100000 < sizeLine := by decide
    refine ⟨by omega, fun p np => q _ _ _ (s2.trans (same_new np)) (g2.same (same_new np)) l2 upd_same ?_⟩
    cases z : H p with
    | none => rfl
    | some o =>
      have := s2 _ _ z
      rw [np] at this
      cases this
/-- a written tuple, plain -/
theorem GE.tupZ (hO : ∀ b ∈ O, ∃ ys, H1 b = some (.lst ys)) (h : JE K O H1 σ n c e ts) (hn : n ≤ 100000) : GE K O H1 σ (1 + c) (e + 1) (tTupZ ts) := fun H Q s q =>
  h H _ s fun H2 vs s2 g l2 => ⟨by rw [l2]; have : 100000 < sizeLine := by decide
                                   omega, fun p o h1 h2 np => q _ _ (s2.trans (same_new np)) (Gd.tup (.inl (.inr ⟨o, upd_same⟩)) (g.same (same_new np)) hn fun b hb => by
    obtain ⟨ys, hy⟩ := hO b hb
    exact ⟨ys, same_new np _ _ (s2 _ _ (s _ _ hy))⟩)⟩
theorem GOE.tupZ0 (hO : ∀ b ∈ O, ∃ ys, H1 b = some (.lst ys)) (h1 : 1 ≤ c) (h2 : 1 ≤ e) : GOE K O H1 σ c e (tTupZ tNil) := fun H Q s q =>
  ⟨Nat.zero_le _, fun p o g1 g2 np => q _ _ (same_new np) ((Go.tup (n := 0) (c := 0) (e := 0) (vs := []) (.inl ⟨o, g1, g2, upd_same⟩) JGAll.nil (by decide) fun b hb => by
    obtain ⟨ys, hy⟩ := hO b hb
    exact ⟨ys, same_new np _ _ (s _ _ hy)⟩).mono (by omega) (by omega))⟩
end
end NB

/-! a == b, a != b by the own __eq__ of a's class, b whatever it is -/
namespace NB
open PySem PySem.Spec PyProof.Rows L2
theorem first_tuple (K : PySem.W.Frag) (C : Addr) : PySem.W.notFirst K C (.type "tuple") = true := by rfl
theorem first_none (K : PySem.W.Frag) (C : Addr) : PySem.W.notFirst K C (.type "NoneType") = true := by rfl
theorem first_own (K : PySem.W.Frag) (C : Addr) : PySem.W.notFirst K C (.ref C) = true := by simp [PySem.W.notFirst]
def rOwnG (K : PySem.W.Frag) (C : Addr) (sp : Sp) (g : Bool → Bool) : R2 := fun x y H Q => ∃ a dx fs tb, x = .ref a ∧ H a = some (.ins C dx fs) ∧ TyX K H y tb ∧ PySem.W.notFirst K C tb = true ∧ sp [.ref a, y] H (fun v H' => ∃ k, v = .bl k ∧ Q (.bl (g k)) H') L2.E0
section
variable {X : Cx} {k : Nat} {C f : Addr} {fd : FuncData} {ps : List Str} {sp : Sp}
theorem op_ownNeG (F : FnOk X.prog X.w X.K X.mg X.base L2.CX0 k f fd ps sp) (T : OwnEqC X.K C f) (hb : Binds X.K fd ps []) (hr : Room (k + 1) X.A) : OpR X (compareOp .NotEq) (rOwnG X.K C sp not) := by
  intro pins s σ H x y v u Q I rx ry h
  obtain ⟨a, dx, fs, tb, rfl, ha, ty, hn, hq⟩ := h
  cases rx
  obtain ⟨mA, J, _⟩ := ins_get I.hok ha
  obtain ⟨od, J, _⟩ := J.look
  obtain ⟨P, Z, hp, _⟩ := L2.kit_of I ry ty
  obtain ⟨m, hF⟩ := I.fr
  show wpAny (model X.prog X.w) X.A (richCompare .NotEq (.ref a) u) (EP X pins σ Q) X.xe s
  have hun := hr.un
  refine ne_own (tb := tb) (by omega) hF I.ok.mod.kin J (Z.ty _ _ I.kIn hp) hn T.eq T.fn T.ne T.ob ?_
  refine wpAny_mono (run_in F ⟨hr.in1, rfl⟩ hb I (vs := [.ref a, y]) (.cons rfl (.cons ry .nil)) hq) (fun v s' z => ?_) fun _ _ e => e
  obtain ⟨v, H', I', rv, kk, rfl, q⟩ := z
  cases rv
  exact ⟨kk, rfl, .bl _, H', I', rfl, q⟩
theorem op_ownEqG (F : FnOk X.prog X.w X.K X.mg X.base L2.CX0 k f fd ps sp) (T : OwnEqC X.K C f) (hb : Binds X.K fd ps []) (hr : Room k X.A) : OpR X (compareOp .Eq) (rOwnG X.K C sp id) := by
  intro pins s σ H x y v u Q I rx ry h
  obtain ⟨a, dx, fs, tb, rfl, ha, ty, hn, hq⟩ := h
  cases rx
  obtain ⟨mA, J, _⟩ := ins_get I.hok ha
  obtain ⟨od, J, _⟩ := J.look
  obtain ⟨P, Z, hp, _⟩ := L2.kit_of I ry ty
  obtain ⟨m, hF⟩ := I.fr
  show wpAny (model X.prog X.w) X.A (richCompare .Eq (.ref a) u) (EP X pins σ Q) X.xe s
  refine PySem.W.cmp_K (op := .Eq) (tb := tb) hr.units0 hF I.ok.mod.kin J (Z.ty _ _ I.kIn hp) hn T.eq T.fn ?_
  refine wpAny_mono (run_in F ⟨hr, rfl⟩ hb I (vs := [.ref a, y]) (.cons rfl (.cons ry .nil)) hq) (fun v s' z => ?_) fun _ _ e => e
  obtain ⟨v, H', I', rv, kk, rfl, q⟩ := z
  cases rv
  exact ⟨.bl _, H', I', rfl, q⟩
end
end NB

/-! what judges see stays where all but tables stays; specs kept in a list -/
namespace NB
open PySem PySem.Spec PyProof.Rows L2 LamX
theorem passX {X : Cx} {P : Program} {w : World} : Passes (L2.CX P w) X E0 := fun _ _ _ _ _ _ _ h => by
  obtain ⟨_, _, _, _, _, _, _, _, _, _, _, _, h⟩ := h
  exact h.elim
theorem TyOf.ext {K : PySem.W.Frag} {H H' : Hp} (e : ExtN H H') {v : V} {t : Value} (h : TyOf K H v t) : TyOf K H' v t := by
  cases h with
  | non => exact .non
  | bl => exact .bl _
  | int => exact .int _
  | str => exact .str _
  | flt => exact .flt _
  | lst q => exact .lst (e _ _ q (fun _ z => nomatch z))
  | frz q => exact .frz (e _ _ q (fun _ z => nomatch z))
  | tup q => exact .tup (e _ _ q (fun _ z => nomatch z))
  | dK q => exact .dK (e _ _ q (fun _ z => nomatch z))
  | dT q => exact .dT (e _ _ q (fun _ z => nomatch z))
  | ins q a b c d f => exact .ins (e _ _ q (fun _ z => nomatch z)) a b c d f
theorem TyX.ext {K : PySem.W.Frag} {H H' : Hp} (e : ExtN H H') {v : V} {t : Value} (h : TyX K H v t) : TyX K H' v t := by
  cases h with
  | base q => exact .base (TyOf.ext e q)
  | byt b => exact .byt b
  | set q => exact .set (e _ _ q (fun _ z => nomatch z))
  | kList a c => exact .kList a c
  | kTuple a c => exact .kTuple a c
  | kDict a c => exact .kDict a c
  | fTuple q => exact .fTuple (e _ _ q (fun _ z => nomatch z))
  | fDict q => exact .fDict (e _ _ q (fun _ z => nomatch z))
mutual
theorem Jp.ext {K : PySem.W.Frag} {H H' : Hp} (e : ExtN H H') : ∀ (d : PyData) (v : V), Jp K H v d → Jp K H' v d
  | .none, _, h => by
    cases h with
    | oth a b => exact .oth (TyX.ext e a) b
  | .bool b, _, h => by cases h; exact .bl b
  | .int i, _, h => by cases h; exact .int i
  | .str x, _, h => by cases h; exact .str x
  | .list ds, _, h => by cases h
  | .tuple ds, _, h => by
    cases h with
    | tup hs ha => exact .tup ((Imm.extN e).sq hs) (JpAll.ext e ds _ ha)
  | .dict _, _, h => by cases h
theorem JpAll.ext {K : PySem.W.Frag} {H H' : Hp} (e : ExtN H H') : ∀ (ds : List PyData) (vs : List V), JpAll K H vs ds → JpAll K H' vs ds
  | [], _, h => by cases h; exact .nil
  | d :: ds, _, h => by
    cases h with
    | cons a b => exact .cons (Jp.ext e d _ a) (JpAll.ext e ds _ b)
end
theorem JoAt.ext {K : PySem.W.Frag} {H H' : Hp} {v : V} {d : PyData} (h : JoAt K H v d) (e : ExtN H H') : JoAt K H' v d :=
  ⟨Jp.ext e d v h.1, fun its q => by
    obtain ⟨a, xs, e1, p, j⟩ := h.2 its q
    exact ⟨a, xs, e1, p.imm (Imm.extN e), JpAll.ext e _ _ j⟩⟩
/-- signs that are right as a thing that is to be signs -/
theorem sgs_jo {K : PySem.W.Frag} {H : Hp} {sa : Addr} {sg : List Sg} (h : SgsAt K H sa sg) : JoAt K H (.ref sa) (sgsD sg) := by
  obtain ⟨xs, h1, h2⟩ := h
  have j : JpAll K H xs (sg.map sg1) := DpAll.jp _ _ (jd_sgs sg) h2
  exact ⟨.tup h1.sq j, fun its e => ⟨sa, xs, rfl, h1, by unfold sgsD at e; cases e; exact j⟩⟩
theorem jd_lns : ∀ ls : List Ln, jds (ls.map lnD) = true
  | [] => rfl
  | l :: ls => by rw [List.map_cons, jds, jd_ln, jd_lns ls]; rfl
theorem lns_jp {K : PySem.W.Frag} {H : Hp} {v : V} {ls : List Ln} (h : Dp K H v (lnsD ls)) : Jp K H v (lnsD ls) := Dp.jp _ _ (by unfold lnsD; rw [jd]; exact jd_lns ls) h
/-- a spec at r -/
def SpecAt (K : PySem.W.Frag) (H : Hp) (r : V) (sg : List Sg) (ls : List Ln) : Prop := ∃ a sa lv, r = .ref a ∧ SqT K H a [.ref sa, lv] ∧ SgsAt K H sa sg ∧ Dp K H lv (lnsD ls)
theorem SpecAt.imm {K : PySem.W.Frag} {H H' : Hp} {r : V} {sg : List Sg} {ls : List Ln} (i : Imm H H') (h : SpecAt K H r sg ls) : SpecAt K H' r sg ls := by
  obtain ⟨a, sa, lv, h1, h2, h3, h4⟩ := h
  exact ⟨a, sa, lv, h1, i.sq h2, h3.imm i, Dp.imm i _ _ (nl_lnsD ls) h4⟩
theorem SpecAt.dp {K : PySem.W.Frag} {H : Hp} {a : Addr} {sa : Addr} {lv : V} {sg : List Sg} {ls : List Ln} (h2 : SqT K H a [.ref sa, lv]) (h3 : SgsAt K H sa sg) (h4 : Dp K H lv (lnsD ls)) : Dp K H (.ref a) (.tuple [sgsD sg, lnsD ls]) := .tup h2 (.cons h3.dp (.cons h4 .nil))
theorem PoolAt.putL {H : Hp} {p cs S : Addr} {z k : Int} {cells : List Int} (h : PoolAt H p cs z k cells) (n : S ∉ [p, cs]) {o : HO} : PoolAt (upd H S o) p cs z k cells := by
  have n1 : p ≠ S := fun e => n (by rw [e]; exact List.mem_cons_self ..)
  have n2 : cs ≠ S := fun e => n (by rw [e]; exact List.mem_cons_of_mem _ (List.mem_cons_self ..))
  exact ⟨by rw [upd_ne n1]; exact h.pool, by rw [upd_ne n2]; exact h.cel, h.ne, h.z0, h.z1, h.k0⟩
theorem least {p : Nat → Prop} : ∀ n, p n → ∃ m, p m ∧ ∀ j, j < m → ¬ p j := fun n => by
  induction n using Nat.strongRecOn with
  | ind n ih =>
    intro h
    by_cases q : ∃ m, m < n ∧ p m
    · obtain ⟨m, hm, pm⟩ := q
      exact ih m hm pm
    · exact ⟨n, h, fun j hj pj => q ⟨j, hj, pj⟩⟩
end NB

/-! what a def keeps where no repr is under way -/
namespace NB
open PySem PySem.Spec PyProof.Rows L2 LamX
/-- a def that is called where no repr is under way -/
structure FnG (P : Program) (w : World) (K : PySem.W.Frag) (mg : Str → Option Value) (base : Heap) (CX : CXT) (k : Nat) (f : Addr) (fd : FuncData) (ps : List Str) (sp : Sp) : Prop where
  size : ∀ vs H Q E, sp vs H Q E → vs.length = ps.length
  goes : ∀ (A : Around) (outer : List Env) (s : Shared) (H : Hp) (args : Args) (us : List Value) (vs : List V) (Q : VK) (E : XK), A.guards = some [] → Room k A → Env0 P w K mg base A outer s H → BindsTo s fd args (ps.zip us) → Vals vs us → sp vs H Q E → codeAny (model P w) A (.call (.ref f) args) (CR CX outer P w H s Q E) s
theorem FnG.of {P : Program} {w : World} {K : PySem.W.Frag} {mg : Str → Option Value} {base : Heap} {CX : CXT} {k : Nat} {f : Addr} {fd : FuncData} {ps : List Str} {sp : Sp} (F : FnOk P w K mg base CX k f fd ps sp) : FnG P w K mg base CX k f fd ps sp :=
  ⟨F.len, fun A outer s H args us vs Q E _ rm e b v h => F.run A outer s H args us vs Q E rm e b v h⟩
theorem FnG.up {P : Program} {w : World} {K : PySem.W.Frag} {mg : Str → Option Value} {base : Heap} {CX : CXT} {j k : Nat} {f : Addr} {fd : FuncData} {ps : List Str} {sp : Sp} (F : FnG P w K mg base CX j f fd ps sp) (jk : j ≤ k) : FnG P w K mg base CX k f fd ps sp :=
  ⟨F.size, fun A outer s H args us vs Q E g rm e b v h => F.goes A outer s H args us vs Q E g (rm.mono jk) e b v h⟩
section
variable {X : Cx} {CX : CXT} {k : Nat} {f : Addr} {fd : FuncData} {ps : List Str} {sp : Sp} {E : XK} {x : Str} {e : Expr} {es : List Expr} {t : TA} {p pos : Pos}
theorem FnG.called {pins : List (Addr × Obj)} {σ : L2.St} {H : Hp} {s : Shared} {Q : VK} {us : List Value} {vs : List V} (F : FnG X.prog X.w X.K X.mg X.base CX k f fd ps sp) (g : X.A.guards = some []) (rm : Room k X.A) (bd : L2.Binds X.K fd ps []) (px : Passes CX X E)
    (J : L2.Inv X pins σ H s) (r : Vals vs us) (h : sp vs H Q E) : wpAny (model X.prog X.w) X.A (call (.ref f) us) (EP X pins σ Q) X.xe s := by
  have n1 : us.length = ps.length := by rw [← F.size _ _ _ _ h, r.length]
  have b1 := bd s us J.kIn (by rw [List.append_nil]; exact n1)
  rw [List.append_nil] at b1
  refine wpAny_call (codeAny_mono (F.goes X.A X.stack s H ⟨us, []⟩ us vs Q E g rm J.env0 b1 r h) fun out s2 z => ?_)
  match out, z with
  | .error e2, z => exact px pins σ H s e2 s2 J z
  | .ok (.ret u), z => exact J.after z
  | .ok .next, z => exact z.elim
  | .ok .brk, z => exact z.elim
  | .ok .cont, z => exact z.elim
theorem pe_callG (F : FnG X.prog X.w X.K X.mg X.base CX k f fd ps sp) (g : X.A.guards = some []) (rm : Room k X.A) (gl : Gl X x) (xm : X.mg x = some (.ref f)) (kp : PySem.W.keepIn X.K (.ref f) = true) (bd : L2.Binds X.K fd ps []) (px : Passes CX X E)
    (ha : PA X (e :: es) t) (db : (x == ("__debug__" : Str)) = false := by decide) (st : starEach (e :: es) X.env = (false, eval e X.env) :: starEach es X.env := by rfl) (pl : (backTo pos (starEach es X.env)).any (·.1) = false := by rfl) :
    PE X (.Call (.Name x p) (e :: es) [] pos) (tCall sp [] E t) := by
  constructor
  intro pins s σ H Q J h
  refine wpAny_Call_Name_kw (ld_glob J gl xm ?_ db)
  refine PySem.W.callWith_K (h₀ := X.base) J.ok.mod.kin kp (thn (ha.run pos pins s σ H _ J h) fun us s2 ⟨vs, H2, J2, r2, q2⟩ => ⟨J2.kIn, ?_⟩) st pl
  have q3 : sp (vs ++ []) H2 Q E := q2
  rw [List.append_nil] at q3
  exact F.called g rm bd px J2 r2 q3
end
section
variable {P : Program} {w : World} {K : PySem.W.Frag} {mg : Str → Option Value} {base : Heap}
/-- a def's body, read where no repr is under way -/
theorem fnG_of {CX : CXT} {k : Nat} {f : Addr} {nm ql : Str} {pr : Arguments} {bd : List Stmt} {sc : Scope} {dV kV doc pm cdv ct oc : Value} {an od : Option Addr} {osl : Array (Option Value)} {N ps : List Str} {sp : Sp}
    (lk : K.lookup f = some ⟨oc, od, .func (PySem.W.fnOf nm ql pr bd sc dV kV doc pm an cdv ct), osl⟩) (hcd : PySem.W.codeIn K cdv ql = true) (S : FnScope N ps sc) (sz : ∀ vs H Q E, sp vs H Q E → vs.length = ps.length)
    (body : ∀ (A : Around) (outer : List Env) (s : Shared) (H : Hp) (vs : List V) (Q : VK) (E : XK), (A.deeper (envOfC ql sc s.heap.objs.size f cdv)).guards = some [] → Room k (A.deeper (envOfC ql sc s.heap.objs.size f cdv)) → sp vs H Q E →
      ∃ t, PSs (cxOf CX P w K mg base N ql sc f cdv A outer s H E) bd t ∧ t { nx := fun _ H' => Q .non H', rt := Q } (L2.start N vs) H) :
    FnG P w K mg base CX (k + 1) f (PySem.W.fnOf nm ql pr bd sc dV kV doc pm an cdv ct) ps sp := by
  constructor
  · exact sz
  intro A outer s H args us vs Q E g rm e0 hb r h
  have e1 : ∀ b o, base.get? b = some o → s.heap.get? b = some o := fun b o z => (e0.bs b o z).1
  have inK : K.In s.heap := e0.mod.kin.keeps e1
  have par : ∀ y ∈ ps.zip us, sc.names.lookup y.1 = some .local ∨ (sc.names.lookup y.1 = some .cell ∧ ((cellsFrom (s.heap.objs.size + 1) sc.names []).lookup y.1).isSome = true) := by
    rintro ⟨n, v⟩ m
    exact (S.par n (List.of_mem_zip m).1).imp id fun z => ⟨z, PySem.W.cellsFrom_some _ _ _ (.inl z)⟩
  refine codeAny_call_function rm.depth (inK _ _ lk) rfl S.co S.gen rfl (PySem.W.codeRec_of inK hcd) (hb _ _ _ _ ?_)
  refine wpAny_newFunctionEnv_cells S.kind par fun env ee s2 x2 => ?_
  subst ee
  refine ⟨(e0.mod.nolimit.keeps e1).keeps x2.toInCall.keep, codeAny_func ?_⟩
  obtain ⟨t, rd, go⟩ := body A outer s H vs Q E g (rm.deeper _) h
  have J := inv_start (CX := CX) (E := E) S rm.hd e0 (sz _ _ _ _ h) r x2
  refine wpAny_mono (rd.run [] s2 (L2.start N vs) H _ J go) (fun fl s3 z => ?_) fun _ _ z => z
  match fl, z with
  | .ret u, ⟨v, σ3, H3, J3, r3, q3⟩ => exact ⟨v, H3, J3.os, J3.bare, J3.base, J3.hok, r3, q3⟩
  | .next, ⟨σ3, H3, J3, q3⟩ => exact ⟨V.non, H3, J3.os, J3.bare, J3.base, J3.hok, rfl, q3⟩
  | .brk, ⟨_, _, _, q3⟩ => exact q3.elim
  | .cont, ⟨_, _, _, q3⟩ => exact q3.elim
end
theorem fun_okG {P : Program} {w : World} {K : PySem.W.Frag} {mg : Str → Option Value} {base : Heap} {x ql : Str} {st : Stmt} {f : Addr} {fd : FuncData} {N ps : List Str} {k : Nat} {sp : Sp} (F : L2.Fun K x ql st f fd) (S : FnScope N ps (defScope st)) (sz : ∀ vs H Q E, sp vs H Q E → vs.length = ps.length)
    (body : ∀ (cdv : Value) (A : Around) (outer : List Env) (s : Shared) (H : Hp) (vs : List V) (Q : VK) (E : XK), (A.deeper (envOfC ql (defScope st) s.heap.objs.size f cdv)).guards = some [] → Room k (A.deeper (envOfC ql (defScope st) s.heap.objs.size f cdv)) → sp vs H Q E →
      ∃ t, PSs (cxOf CX0 P w K mg base N ql (defScope st) f cdv A outer s H E).nox (defBody st) t ∧ t { nx := fun _ H' => Q .non H', rt := Q } (L2.start N vs) H) : FnG P w K mg base CX0 (k + 1) f fd ps sp := by
  obtain ⟨oc, od, kV, doc, pm, an, cdv, ct, osl, rfl, lk, hcd⟩ := F.ex
  exact fnG_of lk hcd S sz fun A outer s H vs Q E g rm h => (body cdv A outer s H vs Q E g rm h).elim fun t z => ⟨t, z.1.nox, z.2⟩
/-- the script's list and the tables: all else is out of sight -/
noncomputable def scrH (K : PySem.W.Frag) (cs : List (Addr × Addr)) (a : Addr) (o : Obj) (ns : List Int) : Hp := fun b =>
  open Classical in if b = a ∧ K.lookup a = none then some (.frz o (.lst (ns.map V.int))) else if b ∈ cs.map (·.2) then some (.tbl #[]) else none
theorem scrH_list {K : PySem.W.Frag} {cs : List (Addr × Addr)} {a : Addr} {o : Obj} {ns : List Int} (h : K.lookup a = none) : scrH K cs a o ns a = some (.frz o (.lst (ns.map V.int))) := if_pos ⟨rfl, h⟩
theorem scrH_cases {K : PySem.W.Frag} {cs : List (Addr × Addr)} {a : Addr} {o : Obj} {ns : List Int} (b : Addr) :
    (b = a ∧ K.lookup a = none ∧ scrH K cs a o ns b = some (.frz o (.lst (ns.map V.int)))) ∨ (b ∈ cs.map (·.2) ∧ scrH K cs a o ns b = some (.tbl #[])) ∨ scrH K cs a o ns b = none := by
  unfold scrH
  split
  · rename_i h
    exact .inl ⟨h.1, h.2, rfl⟩
  · split
    · rename_i h
      exact .inr (.inl ⟨h, rfl⟩)
    · exact .inr (.inr rfl)
theorem scrH_tab {K : PySem.W.Frag} {cs : List (Addr × Addr)} {a : Addr} {o : Obj} {ns : List Int} {b : Addr} (m : b ∈ cs.map (·.2)) (n : b ≠ a) : scrH K cs a o ns b = some (.tbl #[]) :=
  (if_neg (fun z => n z.1)).trans (if_pos m)
/-- a law that is called by the caller of claims -/
theorem law_callG {P : Program} {w : World} {K : PySem.W.Frag} {mg mb : Str → Option Value} {CX : CXT} {k : Nat} {fa a : Addr} {cs : List (Addr × Addr)} {fd : FuncData} {x : Str} {sp : Sp} {s : Shared} {vs : List Value} {ns : List Int}
    (hK : K.In s.heap) (hN : s.heap.Ns mainGlobals mg) (hB : s.heap.Ns builtinsNs mb) (hU : ∀ x : Str, x ≠ "__name__" → mb x = bootBuiltins x) (hL : s.heap.NoLimit) (hG : s.gens = #[])
    (hT : ∀ p ∈ cs, s.heap.get? p.2 = some { cls := .none, data := .fields #[] }) (nT : ∀ p ∈ cs, K.lookup p.2 = none) (hC : ∀ p ∈ cs, PySem.W.CodeHd s.heap p.1 p.2)
    (hM : ∃ (bm : Addr) (ob : Obj), mg "__builtins__" = some (.ref bm) ∧ bm ≠ builtinsNs ∧ s.heap.get? bm = some ob ∧ ob.cls = .type "module" ∧ ob.dict = some builtinsNs ∧ ob.data = .plain)
    (ha : s.heap.get? a = some { cls := .type "list", data := .seq vs.toArray }) (hi : IntsAre vs ns) (hl : ns.length ≤ sizeLine) (rm : Room k callerA)
    (F : ∀ base : Heap, K.In base → base.Ns mainGlobals mg → (∀ p ∈ cs, TabB base mg p.1 p.2) → FnG P w K mg base CX k fa fd [x] sp) (bd : ∀ (s : Shared) (u : Value), BindsTo s fd ⟨[u], []⟩ [(x, u)])
    (go : ∀ H : Hp, (∀ p ∈ cs, H p.2 = some (.tbl #[])) → SqL K H a (ns.map V.int) → sp [.ref a] H (fun v _ => v = .bl true) fun _ _ _ => False)
    (nx : ∀ H e s', CX [] H s (fun _ _ _ => False) e s' → False) :
    codeAny (model P w) callerA (.call (.ref fa) ⟨[.ref a], []⟩) (fun r s' => r = .ok (.ret (.bool true)) ∧ OldK s.heap s'.heap ∧ s'.os = s.os ∧ AllBare s'.gens) s := by
  have rv := vals_ints hi
  have tabAt : ∀ b ∈ cs.map (·.2), s.heap.get? b = some { cls := .none, data := .fields #[] } := fun b m => by
    obtain ⟨p, pm, rfl⟩ := List.mem_map.mp m
    exact hT p pm
  have aNot : ∀ b ∈ cs.map (·.2), b ≠ a := fun b m z => by
    have t := tabAt b m
    rw [z, ha] at t
    exact nomatch congrArg Obj.data (Option.some.inj t)
  let o0 : Obj := { cls := .type "list", data := .seq vs.toArray }
  let H := scrH K cs a o0 ns
  have seen : ∀ {b : Addr} {o : Obj}, s.heap.get? b = some o → (∀ us n, o.data ≠ .seq us n) → o.data ≠ .fields #[] → H b = none := fun {b o} e n1 n2 => by
    rcases scrH_cases (K := K) (cs := cs) (a := a) (o := o0) (ns := ns) b with ⟨z, _⟩ | ⟨m, _⟩ | z
    · rw [z, ha] at e
      cases e
      exact absurd rfl (n1 _ _)
    · rw [tabAt b m] at e
      cases e
      exact absurd rfl n2
    · exact z
  have keepB : ∀ {b : Addr} {o : Obj}, s.heap.get? b = some o → H b = none → (hidT s.heap H).get? b = some o := fun e n => hidT_get e n
  have keepN : ∀ {b : Addr} {m : Str → Option Value}, s.heap.Ns b m → (hidT s.heap H).Ns b m := fun {b m} ⟨o, es, ep, e, d, rest⟩ =>
    ⟨o, es, ep, keepB e (seen e (fun us n z => nomatch d.symm.trans z) fun z => nomatch d.symm.trans z), d, rest⟩
  have tabH : ∀ p ∈ cs, H p.2 = some (.tbl #[]) := fun p pm => scrH_tab (List.mem_map.mpr ⟨p, pm, rfl⟩) (aNot _ (List.mem_map.mpr ⟨p, pm, rfl⟩))
  have keepK : K.In (hidT s.heap H) := fun b o e => keepB (hK b o e) (by
    rcases scrH_cases (K := K) (cs := cs) (a := a) (o := o0) (ns := ns) b with ⟨z, z2, _⟩ | ⟨m, _⟩ | z
    · rw [z, z2] at e
      cases e
    · obtain ⟨p, pm, rfl⟩ := List.mem_map.mp m
      rw [nT p pm] at e
      cases e
    · exact z)
  have okH : HOk P w H s.heap := fun b u e => by
    rcases scrH_cases (K := K) (cs := cs) (a := a) (o := o0) (ns := ns) b with ⟨z, _, z2⟩ | ⟨m, z2⟩ | z
    · have e2 := z2.symm.trans e
      cases e2
      rw [z]
      exact ⟨ha, by rw [List.length_map]; exact hl, vs, _, rv, ha⟩
    · have e2 := z2.symm.trans e
      cases e2
      exact tabAt b m
    · exact nomatch z.symm.trans e
  have md : L2.Mod K mg (hidT s.heap H) := ⟨keepK, keepN hN, ⟨mb, keepN hB, hU⟩, hL.elim fun mc z => ⟨mc, keepN z.1, z.2⟩⟩
  have tB : ∀ p ∈ cs, TabB (hidT s.heap H) mg p.1 p.2 := fun p pm => by
    have tp := hT p pm
    obtain ⟨og, esg, epg, eg, dg, _⟩ := hN
    have fst : PySem.W.CodeHd (hidT s.heap H) p.1 p.2 := by
      obtain ⟨o, us, file, tf, flags, tg, inF, text, tt, g1, g0, g2, g3, rest⟩ := hC p pm
      exact ⟨o, us, file, tf, flags, tg, inF, text, tt, keepB g1 (seen g1 (fun us n z => nomatch g2.symm.trans z) fun z => by
        have z2 := g2.symm.trans z
        cases z2
        simp at g3), g0, g2, g3, rest⟩
    refine ⟨fst, ?_, fun z => ?_⟩
    · obtain ⟨bm, ob, b1, b2, b3, b4, b5, b6⟩ := hM
      have g1 : bm ≠ mainGlobals := fun z => by
        rw [z, eg] at b3
        cases b3
        exact nomatch dg.symm.trans b6
      have g2 : bm ≠ p.2 := fun z => by
        rw [z, tp] at b3
        cases b3
        cases b6
      exact ⟨bm, ob, b1, b2, g1, g2, keepB b3 (seen b3 (fun us n z => nomatch b6.symm.trans z) fun z => nomatch b6.symm.trans z), b4, b5, b6⟩
    · rw [z, tp] at eg
      cases eg
      cases dg
  have sq : SqL K H a (ns.map V.int) := by
    cases kk : K.lookup a with
    | none => exact .inl (.inr ⟨o0, scrH_list kk⟩)
    | some o =>
      have e := hK a o kk
      rw [ha] at e
      cases e
      exact .inr ⟨_, vs.toArray, _, kk, rfl, rfl, rfl, by rw [List.size_toArray, hi.length]; exact hl, by simpa using rv⟩
  have env : Env0 P w K mg (hidT s.heap H) callerA [] s H := ⟨rfl, md, fun b o e => of_hidT e, Nat.le_of_eq (hidT_size _ _), trivial, (fun b m => nomatch m), okH, .of_eq hG⟩
  refine codeAny_mono ((F _ keepK (keepN hN) tB).goes callerA [] s H ⟨[.ref a], []⟩ [.ref a] [.ref a] _ _ rfl rm env (bd s (.ref a)) (.cons rfl .nil) (go H tabH sq)) fun out s2 z => ?_
  match out, z with
  | .error e, z => exact (nx H e s2 z).elim
  | .ok .next, z => exact z.elim
  | .ok .brk, z => exact z.elim
  | .ok .cont, z => exact z.elim
  | .ok (.ret u), z =>
    obtain ⟨v, H2, hos, hbare, un, hok2, hr2, q⟩ := z
    have q2 : v = .bl true := q
    subst q2
    obtain rfl : u = Value.bool true := hr2
    have stay : ∀ b o, b ∉ cs.map (·.2) → s.heap.get? b = some o → s2.heap.get? b = some o := fun b o nb e => by
      rcases scrH_cases (K := K) (cs := cs) (a := a) (o := o0) (ns := ns) b with ⟨_, _, z⟩ | ⟨m, _⟩ | z
      · have z2 := un.frzs b o0 _ z
        have t1 := (okH b _ z).1
        have t2 := (hok2 b _ z2).1
        exact t2.trans (t1.symm.trans e)
      · exact absurd m nb
      · exact un.keep b o e z (fun m => nomatch m) (by simp)
    have more : ∀ p ∈ cs, ∃ xs : Array Value, s2.heap.get? p.2 = some { cls := .none, data := .fields xs } := fun p pm => by
      obtain ⟨xs, z⟩ := un.tbls p.2 #[] (tabH p pm)
      exact ⟨_, hok2 p.2 _ z⟩
    refine ⟨rfl, ⟨fun b o e => ?_, fun b o e => ?_⟩, hos, hbare⟩
    · by_cases m : b ∈ cs.map (·.2)
      · obtain ⟨p, pm, rfl⟩ := List.mem_map.mp m
        obtain ⟨xs, ex⟩ := more p pm
        rw [hT p pm] at e
        cases e
        exact .inr (.inl ⟨((hC p pm).tab (hT p pm)).isCodeTable, rfl, #[], xs, rfl, by rw [Array.empty_append]; exact ex⟩)
      · exact .inl (stay b o m e)
    · by_cases m : b ∈ cs.map (·.2)
      · obtain ⟨p, pm, rfl⟩ := List.mem_map.mp m
        exact (more p pm).elim fun xs ex => ⟨_, ex⟩
      · exact ⟨o, stay b o m e⟩
/-- what is asked of a law's def -/
def LawG (l : PySem.W.OpenLaw) (w : World) (K : PySem.W.Frag) (CX : CXT) (k n : Nat) (x : Str) (mg : Str → Option Value) (fa : Addr) (h : Heap) : Prop :=
  ∃ (fd : FuncData) (cs : List (Addr × Addr)) (sp : Sp), (∀ p ∈ cs, h.get? p.2 = some { cls := .none, data := .fields #[] }) ∧ (∀ p ∈ cs, K.lookup p.2 = none) ∧ (∀ p ∈ cs, PySem.W.CodeHd h p.1 p.2) ∧ (∀ (s : Shared) (u : Value), BindsTo s fd ⟨[u], []⟩ [(x, u)]) ∧
    (∀ (H : Hp) (a : Addr) (ns : List Int), ns.length ≤ n → (∀ z ∈ ns, Builtin.Int.intBits z ≤ 1048576) → (∀ p ∈ cs, H p.2 = some (.tbl #[])) → SqL K H a (ns.map V.int) → sp [.ref a] H (fun v _ => v = .bl true) fun _ _ _ => False) ∧
    ∀ base : Heap, K.In base → base.Ns mainGlobals mg → (∀ p ∈ cs, TabB base mg p.1 p.2) → FnG l.prog w K mg base CX k fa fd [x] sp
theorem walk_G {l : PySem.W.OpenLaw} {n k : Nat} {q : Program} {loose : List Str} {XP : (Str → Option Value) → Heap → Prop} {YP : World → Heap → Prop} {d : DefRec} {CX : World → CXT} {x : Str} (hn : l.most = some n) (hn2 : n ≤ sizeLine) (hdf : d.params.defaults = []) (rm : Room k callerA)
    (F : ∀ (w : World) (mg : Str → Option Value) (fa : Addr) (h : Heap), YP w h → h.Ns mainGlobals mg → mg d.name = some (.ref fa) → ∃ K : PySem.W.Frag, K.In h ∧ LawG l w K (CX w) k n x mg fa h)
    (nx : ∀ (w : World) (H : Hp) (s : Shared) (e : Value) (s' : Shared), CX w [] H s (fun _ _ _ => False) e s' → False) : PySem.W.WalkO q loose XP YP l.row.toRowW d [] (fun f vs => PySem.call f vs) := by
  refine Att.attach_callB hn hdf ?_
  intro w s0 s1 mg mb fa o pm cd doc a vs ns G Y ho hd hcd hmg hobj hints hlen hbits hg
  obtain ⟨K, inK, fd, cs, sp, c1, c2, c3, c4, c5, c6⟩ := F w mg fa _ Y G.T.g hmg
  exact law_callG inK G.T.g G.T.b G.T.builtins G.T.nolimit hg c1 c2 c3 G.T.bmain hobj hints (Nat.le_trans hlen hn2) rm c6 c4 (fun H t1 t2 => c5 H a ns hlen hbits t1 t2) fun H e s' => nx w H s1 e s'
end NB

/-! repr of signs; texts in order -/
namespace NB
open PySem PySem.Spec PyProof.Rows L2 LamX PySem.Builtin.Str
theorem rep_char : ∀ c ∈ lettersZ.cps.toList, reprChar 39 c = [c] ∧ c ≠ 39 := by decide +kernel
theorem sign_letters {x : Str} (h : signS x = true) : ∀ c ∈ x.cps.toList, c ∈ lettersZ.cps.toList := by
  unfold signS at h
  rw [Bool.and_eq_true_iff, Bool.and_eq_true_iff, List.all_eq_true] at h
  exact fun c m => of_decide_eq_true (h.2.2 c m)
theorem rep_fold : ∀ (l : List Nat) (acc : Array Nat), (∀ c ∈ l, c ∈ lettersZ.cps.toList) → (l.foldl (fun out c => out ++ (reprChar 39 c).toArray) acc).toList = acc.toList ++ l
  | [], acc, _ => by simp
  | c :: l, acc, h => by
    rw [List.foldl_cons, rep_fold l _ fun y m => h y (List.mem_cons_of_mem _ m), (rep_char c (h c (List.mem_cons_self ..))).1]
    simp
theorem rep_sign {x : Str} (h : signS x = true) : (reprText x).cps.toList = 39 :: (x.cps.toList ++ [39]) := by
  have hl := sign_letters h
  have hq : reprQuote x = 39 := by
    unfold reprQuote
    have : x.cps.contains 39 = false := by
      cases e : x.cps.contains 39 with
      | false => rfl
      | true =>
        have m : 39 ∈ x.cps.toList := by simpa using e
        exact absurd rfl (rep_char 39 (hl 39 m)).2
    rw [this]
    rfl
  unfold reprText
  rw [hq, Array.toList_push, ← Array.foldl_toList, rep_fold _ _ hl]
  rfl
theorem rep_inj {x y : Str} (hx : signS x = true) (hy : signS y = true) (h : reprText x = reprText y) : x = y := by
  have e : (reprText x).cps.toList = (reprText y).cps.toList := by rw [h]
  rw [rep_sign hx, rep_sign hy] at e
  injection e with _ e
  have e2 := List.append_cancel_right e
  obtain ⟨a⟩ := x
  obtain ⟨b⟩ := y
  have : a = b := Array.toList_inj.mp e2
  rw [this]
theorem rep_len {x : Str} (h : signS x = true) : (reprText x).length ≤ 100 := by
  have e := congrArg List.length (rep_sign h)
  unfold signS at h
  rw [Bool.and_eq_true_iff, Bool.and_eq_true_iff] at h
  have h8 := of_decide_eq_true h.2.1
  have h9 : x.cps.toList.length = x.length := by simp [Str.length]
  rw [List.length_cons, List.length_append, List.length_singleton, h9] at e
  show (reprText x).cps.size ≤ 100
  rw [← Array.length_toList, e]
  omega
open PySem.W
theorem srt_str (R : List Str) : ∃ S : List Str, S.Perm R ∧ S.Pairwise (fun a b => dataLe false PyData.str a b = true) ∧ srt (R.map V.str) (R.map PyData.str) = S.map V.str := by
  have e := sort_maps (fun x : Str => (V.str x, PyData.str x)) (r := dataLe false PyData.str) (s := dataLe false (fun p : V × PyData => p.2)) (l := R) (fun _ _ _ _ => rfl)
  refine ⟨R.mergeSort (dataLe false PyData.str), List.mergeSort_perm _ _, sort_pairwise (sortLe_total (listOrd itemOrd) false _) R, ?_⟩
  unfold srt
  have z : (R.map V.str).zip (R.map PyData.str) = R.map fun x => (V.str x, PyData.str x) := by
    clear e
    induction R with
    | nil => rfl
    | cons x R ih => rw [List.map_cons, List.map_cons, List.zip_cons_cons, ih, List.map_cons]
  rw [z, ← e, List.map_map]
  rfl
theorem str_anti {a b : Str} (h1 : dataLe false PyData.str a b = true) (h2 : dataLe false PyData.str b a = true) : a = b := by
  rw [dataLe_eq] at h1 h2
  have ka : ∀ x : Str, keyToks (PyData.str x) = [.inr x.cps.toList] := fun x => by rw [keyToks]
  rw [ka, ka] at h1 h2
  by_cases e : (Sum.inr a.cps.toList : Int ⊕ List Nat) = .inr b.cps.toList
  · have e2 := Sum.inr.inj e
    obtain ⟨x⟩ := a
    obtain ⟨y⟩ := b
    have : x = y := Array.toList_inj.mp e2
    rw [this]
  · unfold lx at h1 h2
    rw [lex_diff (Ne.symm e)] at h1
    rw [lex_diff e] at h2
    rw [Bool.not_eq_true'] at h1 h2
    exact absurd (itemOrd.total _ _ h2 h1) e
theorem sorted_perm {R1 R2 S1 S2 : List Str} (p1 : S1.Perm R1) (p2 : S2.Perm R2) (h1 : S1.Pairwise (fun a b => dataLe false PyData.str a b = true)) (h2 : S2.Pairwise (fun a b => dataLe false PyData.str a b = true)) :
    PyData.eqv (.list (S1.map PyData.str)) (.list (S2.map PyData.str)) = true ↔ R1.Perm R2 := by
  rw [PyData.eqv, eqv_strs]
  constructor
  · intro e
    rw [e] at p1
    exact p1.symm.trans p2
  · intro p
    exact List.Perm.eq_of_pairwise (le := fun a b => dataLe false PyData.str a b = true) (fun a b _ _ g1 g2 => str_anti g1 g2) h1 h2 ((p1.trans p).trans p2.symm)
end NB

/-! repr of terms: the rule, and that unlike terms have unlike texts -/
namespace NB
open PySem PySem.Spec PyProof.Rows L2 LamX
def rReprD (K : PySem.W.Frag) : List V → Hp → VK → Prop := fun xs H Q => ∃ a d, xs = [V.ref a] ∧ Dp K H (.ref a) d ∧ d.showable = true ∧ d.hasDict = false ∧ d.depth ≤ 60 ∧ d.shown.length ≤ sizeLine ∧ Q (.str d.shown) H
section
variable {X : Cx}
/-- repr(t), t a tuple of texts and of such tuples -/
theorem call_reprD (g : X.A.guards = some []) (hu : X.A.units + 64 < cLine) : CallR X (.builtin "repr") (rReprD X.K) := by
  intro pins s σ H xs us Q I r h
  obtain ⟨a, d, rfl, hd, hs, hn, hp, hz, q⟩ := h
  obtain rfl := Vals.ref1 r
  obtain ⟨as, rd⟩ := Dp.reads I d _ _ hd (show RelV (V.ref a) (Value.ref a) from rfl)
  exact repr_of_reads' rd hs (PyData.noDict_hsm hn) g (by omega) (fun _ _ e => e) (fun h' u tk kp => ⟨.str d.shown, H, I.kept kp, ⟨_, rfl⟩, q⟩) hz
end
mutual
theorem sh_data : ∀ t : Tm, (Tm.data t).showable = true ∧ (Tm.data t).hasDict = false
  | .mk s ps => by
    obtain ⟨h1, h2⟩ := sh_datas ps
    rw [Tm.data]
    refine ⟨?_, ?_⟩
    · rw [PyData.showable, PyData.showableAll, PyData.showable, h1]
      rfl
    · rw [PyData.hasDict, PyData.hasDictAll, PyData.hasDict, h2]
      rfl
theorem sh_datas : ∀ ps : List Tm, PyData.showableAll (Tm.datas ps) = true ∧ PyData.hasDictAll (Tm.datas ps) = false
  | [] => by
    rw [Tm.datas]
    exact ⟨rfl, rfl⟩
  | p :: ps => by
    obtain ⟨h1, h2⟩ := sh_data p
    obtain ⟨h3, h4⟩ := sh_datas ps
    rw [Tm.datas]
    refine ⟨?_, ?_⟩
    · rw [PyData.showableAll, h1, h3]
      rfl
    · rw [PyData.hasDictAll, h2, h4]
      rfl
end
mutual
/-- the signs of a term's text, in order -/
def tx : Tm → List Nat
  | .mk s ps => 40 :: 39 :: (s.cps.toList ++ 39 :: (mo ps ++ if ps.isEmpty then [44, 41] else [41]))
def mo : List Tm → List Nat
  | [] => []
  | p :: ps => 44 :: 32 :: (tx p ++ mo ps)
end
/-- all its signs are words -/
def Wd (t : Tm) : Prop := ∀ s ps, Tm.mk s ps ∈ Tm.pre t → signS s = true
def Wds (ps : List Tm) : Prop := ∀ p ∈ ps, Wd p
theorem Wd.parts {s : Str} {ps : List Tm} (h : Wd (.mk s ps)) : signS s = true ∧ Wds ps := by
  refine ⟨h s ps (by rw [Tm.pre]; exact List.mem_cons_self ..), fun p hp s' ps' m => h s' ps' ?_⟩
  rw [Tm.pre]
  exact List.mem_cons_of_mem _ (mem_pres.mpr ⟨p, hp, m⟩)
theorem join_list (a : Str) : ∀ l : List Str, (Str.join ", " (a :: l)).cps.toList = a.cps.toList ++ l.flatMap fun x => 44 :: 32 :: x.cps.toList
  | [] => by
    show a.cps.toList = _
    rw [List.flatMap_nil, List.append_nil]
  | b :: l => by
    show (a ++ (", " : Str) ++ Str.join ", " (b :: l)).cps.toList = _
    rw [Str.cps_append, Str.cps_append, Array.toList_append, Array.toList_append, join_list b l, List.flatMap_cons]
    show a.cps.toList ++ [44, 32] ++ _ = _
    simp
mutual
theorem shown_tx : ∀ t : Tm, Wd t → (Tm.data t).shown.cps.toList = tx t
  | .mk s ps, h => by
    obtain ⟨h1, h2⟩ := h.parts
    rw [Tm.data, PyData.shown, PyData.shownAll, PyData.shown, tx]
    unfold tupleText
    rw [Str.cps_append, Str.cps_append, Array.toList_append, Array.toList_append, join_list, shown_mo ps h2, rep_sign h1]
    cases ps with
    | nil =>
      show [40] ++ (39 :: (s.cps.toList ++ [39]) ++ mo []) ++ [44, 41] = _
      rw [mo]
      simp
    | cons p ps =>
      rw [Tm.datas, PyData.shownAll]
      show [40] ++ (39 :: (s.cps.toList ++ [39]) ++ mo (p :: ps)) ++ [41] = _
      simp
theorem shown_mo : ∀ ps : List Tm, Wds ps → ((PyData.shownAll (Tm.datas ps)).flatMap fun x => 44 :: 32 :: x.cps.toList) = mo ps
  | [], _ => by
    rw [Tm.datas, PyData.shownAll, mo]
    rfl
  | p :: ps, h => by
    rw [Tm.datas, PyData.shownAll, List.flatMap_cons, shown_tx p (h p (List.mem_cons_self ..)), shown_mo ps fun q m => h q (List.mem_cons_of_mem _ m), mo]
    rfl
end
theorem cut39 : ∀ {a b r r' : List Nat}, (∀ c ∈ a, c ≠ 39) → (∀ c ∈ b, c ≠ 39) → a ++ 39 :: r = b ++ 39 :: r' → a = b ∧ r = r'
  | [], [], r, r', _, _, e => by
    injection e with _ e
    exact ⟨rfl, e⟩
  | [], y :: b, r, r', _, h, e => by
    injection e with e _
    exact absurd e.symm (h y (List.mem_cons_self ..))
  | x :: a, [], r, r', h, _, e => by
    injection e with e _
    exact absurd e (h x (List.mem_cons_self ..))
  | x :: a, y :: b, r, r', h1, h2, e => by
    injection e with e1 e2
    obtain ⟨e3, e4⟩ := cut39 (fun c m => h1 c (List.mem_cons_of_mem _ m)) (fun c m => h2 c (List.mem_cons_of_mem _ m)) e2
    exact ⟨by rw [e1, e3], e4⟩
theorem no39 {s : Str} (h : signS s = true) : ∀ c ∈ s.cps.toList, c ≠ 39 := fun c m => (rep_char c (sign_letters h c m)).2
mutual
theorem tx_cut : ∀ (t t' : Tm) (r r' : List Nat), Wd t → Wd t' → tx t ++ r = tx t' ++ r' → t = t' ∧ r = r'
  | .mk s ps, .mk s' ps', r, r', h, h', e => by
    obtain ⟨h1, h2⟩ := h.parts
    obtain ⟨h1', h2'⟩ := h'.parts
    rw [tx, tx, List.cons_append, List.cons_append, List.cons_append, List.cons_append, List.append_assoc, List.append_assoc] at e
    injection e with _ e
    injection e with _ e
    rw [List.cons_append, List.cons_append] at e
    obtain ⟨e1, e2⟩ := cut39 (no39 h1) (no39 h1') e
    have es : s = s' := by
      obtain ⟨a⟩ := s
      obtain ⟨b⟩ := s'
      have : a = b := Array.toList_inj.mp e1
      rw [this]
    subst es
    match ps, ps', e2 with
    | [], [], e2 =>
      rw [mo] at e2
      injection e2 with _ e2
      injection e2 with _ e2
      exact ⟨rfl, e2⟩
    | [], p :: ps', e2 =>
      rw [mo, mo] at e2
      injection e2 with _ e2
      injection e2 with e2 _
      exact absurd e2 (by decide)
    | p :: ps, [], e2 =>
      rw [mo, mo] at e2
      injection e2 with _ e2
      injection e2 with e2 _
      exact absurd e2 (by decide)
    | p :: ps, p' :: ps', e2 =>
      have e3 : mo (p :: ps) ++ 41 :: r = mo (p' :: ps') ++ 41 :: r' := by
        simpa using e2
      obtain ⟨e4, e5⟩ := mo_cut (p :: ps) (p' :: ps') r r' h2 h2' e3
      exact ⟨by rw [e4], e5⟩
theorem mo_cut : ∀ (ps ps' : List Tm) (r r' : List Nat), Wds ps → Wds ps' → mo ps ++ 41 :: r = mo ps' ++ 41 :: r' → ps = ps' ∧ r = r'
  | [], [], r, r', _, _, e => by
    rw [mo] at e
    injection e with _ e
    exact ⟨rfl, e⟩
  | [], p :: ps, r, r', _, _, e => by
    rw [mo, mo] at e
    injection e with e _
    exact absurd e (by decide)
  | p :: ps, [], r, r', _, _, e => by
    rw [mo, mo] at e
    injection e with e _
    exact absurd e (by decide)
  | p :: ps, p' :: ps', r, r', h, h', e => by
    rw [mo, mo, List.cons_append, List.cons_append, List.cons_append, List.cons_append, List.append_assoc, List.append_assoc] at e
    injection e with _ e
    injection e with _ e
    obtain ⟨e1, e2⟩ := tx_cut p p' _ _ (h p (List.mem_cons_self ..)) (h' p' (List.mem_cons_self ..)) e
    obtain ⟨e3, e4⟩ := mo_cut ps ps' r r' (fun q m => h q (List.mem_cons_of_mem _ m)) (fun q m => h' q (List.mem_cons_of_mem _ m)) e2
    exact ⟨by rw [e1, e3], e4⟩
end
/-- unlike terms have unlike texts -/
theorem shown_inj {t t' : Tm} (h : Wd t) (h' : Wd t') (e : (Tm.data t).shown = (Tm.data t').shown) : t = t' := by
  have e1 : tx t ++ [] = tx t' ++ [] := by rw [← shown_tx t h, ← shown_tx t' h', e]
  exact (tx_cut t t' [] [] h h' e1).1
mutual
theorem tx_len : ∀ t : Tm, Wd t → (tx t).length + 2 ≤ 16 * (Tm.pre t).length
  | .mk s ps, h => by
    obtain ⟨h1, h2⟩ := h.parts
    have h3 := mo_len ps h2
    have h4 : s.cps.toList.length ≤ 8 := by
      unfold signS at h1
      rw [Bool.and_eq_true_iff, Bool.and_eq_true_iff] at h1
      have h5 := of_decide_eq_true h1.2.1
      have h6 : s.cps.toList.length = s.length := by simp [Str.length]
      omega
    rw [tx, Tm.pre, List.length_cons, List.length_cons, List.length_append, List.length_cons, List.length_append, List.length_cons]
    cases ps with
    | nil =>
      show _ + (_ + 2 + 1) + 1 + 1 + 2 ≤ _
      omega
    | cons p ps =>
      show _ + (_ + 1 + 1) + 1 + 1 + 2 ≤ _
      omega
theorem mo_len : ∀ ps : List Tm, Wds ps → (mo ps).length ≤ 16 * (Tm.pres ps).length
  | [], _ => by
    rw [mo]
    exact Nat.zero_le _
  | p :: ps, h => by
    have h1 := tx_len p (h p (List.mem_cons_self ..))
    have h2 := mo_len ps fun q m => h q (List.mem_cons_of_mem _ m)
    rw [mo, Tm.pres, List.length_cons, List.length_cons, List.length_append, List.length_append]
    omega
end
theorem shown_len {t : Tm} (h : Wd t) : (Tm.data t).shown.length ≤ 16 * (Tm.pre t).length := by
  have h1 := tx_len t h
  rw [← shown_tx t h] at h1
  have h2 : (Tm.data t).shown.cps.toList.length = (Tm.data t).shown.length := by simp [Str.length]
  omega
end NB

/-! for i, x in enumerate(a text) -/
namespace NB
open PySem PySem.Spec PyProof.Rows L2
/-- the letters, each in a new pair with its number -/
def IeS (z : Str) : It :=
  ⟨fun i _ => i < z.cps.size, fun i H v H' => ∃ T c, v = .ref T ∧ H T = none ∧ H' = upd H T (.tup [.int (i : Nat), .str ⟨#[c]⟩]) ∧ z.cps[i]? = some c, fun i _ => z.cps.size = i⟩
theorem draws_text {prog : Program} {w : World} {A : Around} (hh : A.handled = none) (it : Addr) (x : Str) (t : Tok) {ty : String} (hty : ty = "str_ascii_iterator" ∨ ty = "str_iterator") :
    Draws prog w A it [it] x.cps.size (fun i v => ∃ c u, x.cps[i]? = some c ∧ v = .str ⟨#[c]⟩ u) (fun i h => h.IsStrIter it ty x t i) := by
  rcases hty with rfl | rfl
  · exact Draws.strAscii hh it x t
  · exact Draws.strWide hh it x t
theorem turn_enumS {P : Program} {w : World} {K : PySem.W.Frag} {elts : List Expr} {kk : Nat} {tpos : Pos} (x : Str) (t : Tok) (e it : Addr) {ty : String} (hty : ty = "str_ascii_iterator" ∨ ty = "str_iterator") :
    Turn P w K (.Tuple elts kk tpos) (IeS x) [e, it] e (fun i h => (∃ old, IsEnum h e it ((i : Nat) : Int) old) ∧ h.IsStrIter it ty x t i ∧ e ≠ it) where
  mem := by simp
  obj := fun i h st b hb => by
    obtain ⟨⟨old, he⟩, ⟨o, ho, hc, hd⟩, _⟩ := st
    have e' : b = e ∨ b = it := by simpa using hb
    rcases e' with z | z
    · rw [z]; exact ⟨_, he, fun v q => nomatch q⟩
    · rw [z]; exact ⟨o, ho, fun v q => by rw [hd] at q; cases q⟩
  keep := fun i h h' st k => let ⟨⟨old, he⟩, ⟨o, ho, r⟩, hne⟩ := st; ⟨⟨old, k e (by simp) _ he⟩, ⟨o, k it (by simp) o ho, r⟩, hne⟩
  item := by
    intro X hP hw hK hc i pins s σ H E I hf st hg
    subst hP hw hK
    obtain ⟨⟨old, he⟩, hit, hne⟩ := st
    have hel : e < s.heap.objs.size := Heap.lt_size he
    have hil : it < s.heap.objs.size := by obtain ⟨_, q, _⟩ := hit; exact Heap.lt_size q
    have D := draws_text (prog := X.prog) (w := X.w) (A := X.A.in1) (show X.A.in1.handled = none from I.ok.hd hc) it x t hty
    refine wpAny_pyNext_enum_itemC D he hit hg hne (by simp [hne]) fun u' h' tk hP ho hSt hT hsz hk => ?_
    obtain ⟨c, tu, hcx, rfl⟩ := hP
    refine ⟨_, rfl, wpAny_letOwnedTupleGo_enum (s := { s with heap := h', toks := tk + 1 }) ho fun h'' he' sb => ?_⟩
    have hT2 : h''.get? s.heap.objs.size = some { cls := .type "tuple", data := .seq #[.int i tk, .str ⟨#[c]⟩ tu] } := (sb.2 _ (Nat.ne_of_gt hel)).trans hT
    have new : ObjOk X.prog X.w (upd H s.heap.objs.size (.tup [.int (i : Nat), .str ⟨#[c]⟩])) h'' s.heap.objs.size (.tup [.int (i : Nat), .str ⟨#[c]⟩]) :=
      ⟨by show 2 ≤ sizeLine; decide, [.int i tk, .str ⟨#[c]⟩ tu], .cons ⟨_, rfl⟩ (.cons ⟨_, rfl⟩ .nil), ⟨_, hT2, rfl, _, rfl⟩⟩
    have I1 : Inv X pins σ (upd H s.heap.objs.size (.tup [.int (i : Nat), .str ⟨#[c]⟩])) { s with heap := h'', toks := tk + 1 } :=
      I.turnedNew (ch := [e, it]) (fun b ob hb q => (sb.2 b (fun z => hb (by simp [z]))).trans (hk b ob (fun z => hb (by simp [z])) (fun z => hb (by simp [z])) q)) hf (Nat.le_refl _) new
    refine ⟨.ref s.heap.objs.size, _, I1, rfl, ⟨_, c, rfl, I.hok.fresh (Nat.le_refl _), rfl, hcx⟩, ⟨⟨.str ⟨#[c]⟩ tu, ?_⟩, ?_, hne⟩, fun b hb => ?_⟩
    · have e1 : ((i + 1 : Nat) : Int) = (i : Int) + 1 := by omega
      rw [e1]; exact he'
    · obtain ⟨o, ho2, r⟩ := hSt
      exact ⟨o, (sb.2 it (Ne.symm hne)).trans ho2, r⟩
    · have hb' : b < s.heap.objs.size := by
        have e' : b = e ∨ b = it := by simpa using hb
        rcases e' with z | z
        · rw [z]; exact hel
        · rw [z]; exact hil
      rw [upd_ne (Nat.ne_of_lt hb')]
      exact (hf b hb).1
  done := by
    intro X hP hw hK hc i pins s σ H E I hf st hg
    subst hP hw hK
    obtain ⟨⟨old, he⟩, hit, hne⟩ := st
    obtain ⟨f0, f1, f2, f3, f4, f5⟩ := hf it (by simp)
    have D := draws_text (prog := X.prog) (w := X.w) (A := X.A.in1) (show X.A.in1.handled = none from I.ok.hd hc) it x t hty
    have hg : x.cps.size = i := hg
    refine wpAny_pyNext_enum_endD D he (by rw [hg]; exact hit) fun h' eb => ⟨rfl, I.turned (t' := s.toks) (fun b o hb q => eb b o hb q) f0 f1 f3 f4 f5⟩
  self := fun A i s Q E st h => let ⟨⟨_, he⟩, _⟩ := st; wpAny_pyIter_enum he h
def iEnumS (ta : TA) : TI := fun σ H R => ta σ H fun vs H1 => ∃ x, vs = [.str x] ∧ R (IeS x) H1
theorem pi_enumS {X : Cx} {e : Expr} {ta : TA} {p pos tpos : Pos} {elts : List Expr} {kk : Nat} (hg : Gl X "enumerate") (hm : X.mg "enumerate" = none) (ha : PA X [e] ta) (hs : starEach [e] X.env = [(false, eval e X.env)] := by rfl) :
    PI X (.Tuple elts kk tpos) (.Call (.Name "enumerate" p) [e] [] pos) (iEnumS ta) := by
  refine ⟨fun pins s σ H R I h => ?_⟩
  refine Call_ (ld_blt I hg hm boot_enumerate (PyProof.Rows.callWith_type1 (thn (ha.run pos pins s σ H _ I h) fun us s1 ⟨vs, H1, I1, r1, q1⟩ => ?_) hs rfl))
  obtain ⟨x, ex, q⟩ := q1
  subst ex
  cases r1 with
  | cons r rr =>
    cases rr
    obtain ⟨t, rfl⟩ := r
    refine call_enum1 (begins_text x t) trivial fun h' he hit hk => wpAny_pyIter_enum he ?_
    have I2 : Inv X pins σ H1 { s1 with heap := h' } := I1.kept (t' := s1.toks) hk
    have hty : strIterType x = "str_ascii_iterator" ∨ strIterType x = "str_iterator" := by
      unfold strIterType
      split
      · exact .inl rfl
      · exact .inr rfl
    refine ⟨s1.heap.objs.size + 1, [s1.heap.objs.size + 1, s1.heap.objs.size], _, _, H1, rfl, I2, turn_enumS x t (s1.heap.objs.size + 1) s1.heap.objs.size hty, ⟨⟨.none, he⟩, ⟨_, hit, rfl, rfl⟩, Nat.succ_ne_self _⟩, fun b hb => ?_, q⟩
    have e' : b = s1.heap.objs.size + 1 ∨ b = s1.heap.objs.size := by simpa using hb
    have hle : s1.heap.objs.size ≤ b := by
      rcases e' with z | z
      · rw [z]; exact Nat.le_add_right _ _
      · rw [z]; exact Nat.le_refl _
    exact I1.fpOk hle (I1.hok.fresh hle)
/-- its walk -/
theorem walk_enumS {z : Str} : Walk (IeS z) z.cps.size (fun _ => True) (YPair (fun i => some (.int (i : Nat))) (fun i => z.cps[i]?.map fun c => V.str ⟨#[c]⟩)) := by
  refine ⟨fun _ _ hi _ => hi, fun _ _ => rfl, fun i H v H' _ _ y => ?_⟩
  obtain ⟨T, c, h1, h2, h3, h4⟩ := y
  exact ⟨T, .int (i : Nat), .str ⟨#[c]⟩, h1, h2, h3, rfl, by show Option.map _ z.cps[i]? = _; rw [h4]; rfl⟩
end NB

/-! a text turned round -/
namespace NB
open PySem PySem.Spec PyProof.Rows L2
def revS (z : Str) : Str := ⟨z.cps.toList.reverse.toArray⟩
theorem revS_len (z : Str) : (revS z).length = z.length := by
  show z.cps.toList.reverse.toArray.size = z.cps.size
  rw [List.size_toArray, List.length_reverse, Array.length_toList]
def tRevS (te : TE) : TE := fun σ H Q => te σ H fun v H1 => ∃ z, v = .str z ∧ z.length ≤ sizeLine ∧ Q (.str (revS z)) H1
theorem pe_revS {X : Cx} {e : Expr} {te : TE} {k : Nat} {p1 p2 p3 pos : Pos} (he : PE X e te) : PE X (.Subscript e (.Slice none none (some (.UnaryOp .USub (.Constant (.int 1) k p1) p2)) p3) pos) (tRevS te) := by
  refine ⟨fun pins s σ H Q I h => ?_⟩
  refine Subscript_ (thn (he.run pins s σ H _ I h) fun v s1 ⟨x, H1, I1, r1, q1⟩ => ?_)
  obtain ⟨z, ex, hz, q⟩ := q1
  subst ex
  obtain ⟨t, rfl⟩ := r1
  have hst : PO X (some (.UnaryOp .USub (.Constant (.int 1) k p1) p2)) (tPart (tUn (rU fun i => .int (-i)) (tC (.int 1)))) := po_some (pe_un un_neg pe_int)
  refine wpAny_Slice (thn (po_none.run pins s1 σ H1 (fun o H2 => o = none ∧ H2 = H1) I1 ⟨rfl, rfl⟩) fun vl s2 ⟨l, H2, I2, pl, el, e2⟩ => ?_)
  subst el e2
  refine thn (po_none.run pins s2 σ H2 (fun o H3 => o = none ∧ H3 = H2) I2 ⟨rfl, rfl⟩) fun vu s3 ⟨u, H3, I3, pu, eu, e3⟩ => ?_
  subst eu e3
  refine thn (hst.run pins s3 σ H3 (fun o H4 => o = some (-1) ∧ H4 = H3) I3 ⟨1, rfl, -1, rfl, rfl, rfl⟩) fun vs s4 ⟨o, H4, I4, ps, eo, e4⟩ => ?_
  subst eo e4
  have I5 : Inv X pins σ H4 { s4 with heap := s4.heap.push { cls := .type "slice", data := .fields #[vl, vu, vs] } } := I4.kept (t' := s4.toks) fun b ob q => Heap.get?_push_of_some _ q
  obtain ⟨l, rfl, el⟩ := IsPart.raw pl
  obtain ⟨u, rfl, eu⟩ := IsPart.raw pu
  obtain ⟨st, rfl, es⟩ := IsPart.raw ps
  show wpAny (model X.prog X.w) X.A (subscriptTail e (.Slice none none (some (.UnaryOp .USub (.Constant (.int 1) k p1) p2)) p3) (.str z t) (.ref s4.heap.objs.size)) (EP X pins σ Q) X.xe { s4 with heap := s4.heap.push { cls := .type "slice", data := .fields #[partValue l, partValue u, partValue st] } }
  refine tail_any (ops := [.str z t, .ref s4.heap.objs.size]) (typeIs_str _ _ _) F.slot_str_getitem.lookup ?_ (by with_unfolding_all rfl)
  refine wpAny_getItem_str_slice (l := l) (u := u) (st := st) ⟨_, Heap.get?_push_size _ rfl, rfl, rfl⟩ (by rw [es]; rfl) ?_
  have ev : slicePicked z l u st = (List.range z.cps.size).reverse := by
    unfold slicePicked
    rw [el, eu, es]
    show Builtin.Str.strSliceIndices none none (-1) z.cps.size = _
    have := PySem.W.krv_sliceRange z.cps.size
    rw [PySem.W.krv_range] at this
    exact this
  unfold sliceMade
  rw [es, ev]
  have el2 : (List.range z.cps.size).reverse.filterMap (z.cps[·]?) = z.cps.toList.reverse := by
    rw [List.filterMap_reverse, PySem.W.krv_all]
  rw [el2]
  have eb : ((((some (-1) : Option Int).getD 1) == 1) && ((List.range z.cps.size).reverse.length == z.length)) = false := rfl
  rw [eb]
  refine ⟨by show (revS z).length ≤ _; rw [revS_len]; exact hz, .str (revS z), H4, I5.tok _, ⟨_, rfl⟩, q⟩
end NB

/-! a text some times -/
namespace NB
open PySem PySem.Spec PyProof.Rows L2
def repS (z : Str) (k : Nat) : Str := ⟨(List.replicate k z.cps).foldl (· ++ ·) #[]⟩
theorem repS_list (z : Str) (k : Nat) : (repS z k).cps.toList = (List.replicate k z.cps.toList).flatten := by
  unfold repS
  have g : ∀ (k : Nat) (acc : Array Nat), ((List.replicate k z.cps).foldl (· ++ ·) acc).toList = acc.toList ++ (List.replicate k z.cps.toList).flatten := by
    intro k
    induction k with
    | zero => intro acc; simp
    | succ k ih =>
      intro acc
      rw [List.replicate_succ, List.foldl_cons, ih, List.replicate_succ, List.flatten_cons, Array.toList_append, List.append_assoc]
  rw [g]
  rfl
theorem repS_len (z : Str) (k : Nat) : (repS z k).length = k * z.length := by
  have h := congrArg List.length (repS_list z k)
  rw [List.length_flatten, List.map_replicate, List.sum_replicate_nat, Array.length_toList, Array.length_toList] at h
  exact h
def rRepS : R2 := fun x y H Q => ∃ (z : Str) (k : Int), x = .str z ∧ y = .int k ∧ 1 ≤ k ∧ k ≤ 1000000 ∧ k.toNat * z.length ≤ sizeLine ∧ Q (.str (repS z k.toNat)) H
theorem op_repS {X : Cx} : OpR X (binaryOp .Mult) rRepS := by
  intro pins s σ H x y v u Q I rx ry h
  obtain ⟨z, k, rfl, rfl, h1, h2, hz, q⟩ := h
  obtain ⟨t, rfl⟩ := rx
  obtain ⟨t', rfl⟩ := ry
  have hl := repS_len z k.toNat
  have hzl : sizeLine = 16777216 := rfl
  refine P.mul_str (by rw [decide_eq_false (by omega), decide_eq_false (by omega)]; rfl) (fun _ _ => ?_) (fun _ _ => ?_) ?_
  · have h3 : (z.length : Int) * k ≤ 2 ^ 63 - 1 := by
      have h4 : ((k.toNat * z.length : Nat) : Int) ≤ 16777216 := by omega
      rw [Int.natCast_mul, Int.toNat_of_nonneg (by omega), Int.mul_comm] at h4
      omega
    have := Int.le_ediv_of_mul_le (by omega : 0 < k) h3
    omega
  · show decide (z.length * k.toNat > sizeLine) = false
    rw [Nat.mul_comm]
    exact decide_eq_false (by omega)
  · rw [if_neg (by omega)]
    by_cases e : (k == 1 || z.length == 0) = true
    · rw [if_pos e]
      have ez : z = repS z k.toNat := by
        have e2 : z.cps.toList = (repS z k.toNat).cps.toList := by
          rw [repS_list]
          rcases Bool.or_eq_true_iff.mp e with w | w
          · have : k.toNat = 1 := by
              have := eq_of_beq w
              omega
            rw [this]
            simp
          · have w := eq_of_beq w
            have w2 : z.cps.toList = [] := List.eq_nil_of_length_eq_zero (by rw [Array.length_toList]; exact w)
            rw [w2]
            simp
        have e3 := congrArg List.toArray e2
        rw [Array.toArray_toList, Array.toArray_toList] at e3
        show (⟨z.cps⟩ : Str) = _
        rw [e3]
      rw [← ez] at q
      exact ⟨.str z, H, I, ⟨t, rfl⟩, q⟩
    · rw [if_neg e]
      exact ⟨by show (repS z k.toNat).length ≤ _; rw [hl]; exact hz, .str (repS z k.toNat), H, I.tok _, ⟨_, rfl⟩, q⟩
end NB

/-! comprehensions that make a list of data -/
namespace NB
open PySem PySem.Spec PyProof.Rows L2 LamX
theorem nls_all : ∀ {ds : List PyData}, (∀ d ∈ ds, nl d = true) → nls ds = true
  | [], _ => rfl
  | d :: ds, h => by rw [nls, h d (List.mem_cons_self ..), nls_all fun e m => h e (List.mem_cons_of_mem _ m)]; rfl
theorem nls_rg {F : Nat → PyData} {n : Nat} (h : ∀ i, i < n → nl (F i) = true) : nls ((List.range n).map F) = true := nls_all fun d m => by
  obtain ⟨i, hi, rfl⟩ := List.mem_map.mp m
  exact h i (List.mem_range.mp hi)
/-- what a list of data is while it grows -/
def LcD (K : PySem.W.Frag) (D : Addr) (F : Nat → PyData) (i : Nat) (G : Hp) : Prop := ∃ us, G D = some (.lst us) ∧ us.length = i ∧ DpAll K G us ((List.range i).map F)
theorem LcD.nil {K : PySem.W.Frag} {D : Addr} {F : Nat → PyData} {H : Hp} : LcD K D F 0 (upd H D (.lst [])) := ⟨[], upd_same, rfl, .nil⟩
theorem LcD.put {K : PySem.W.Frag} {D : Addr} {F : Nat → PyData} {i : Nat} {G G' : Hp} {us : List V} {y : V} (nls_ : ∀ j, j < i + 1 → nl (F j) = true) (im : Imm G G') (h' : G' D = some (.lst us)) (hl : us.length = i) (hd : DpAll K G us ((List.range i).map F)) (d : Dp K G' y (F i)) : LcD K D F (i + 1) (upd G' D (.lst (us ++ [y]))) := by
  have iL := Imm.lst (o := .lst (us ++ [y])) h'
  refine ⟨_, upd_same, by rw [List.length_append, hl]; rfl, ?_⟩
  rw [List.range_succ, List.map_append]
  exact DpAll.app (DpAll.imm (im.trans iL) _ _ (nls_rg fun j hj => nls_ j (by omega)) hd) (.cons (Dp.imm iL _ _ (nls_ i (by omega)) d) .nil)
section
variable {K : PySem.W.Frag} {a : Addr} {xs : List V} {g : TG} {te : TE} {vs : List Nat} {σ : L2.St} {H1 : Hp} {D : Addr} {Qd : Hp → Prop}
theorem lcd_core (F : Nat → PyData) {n : Nat} (hf : ∀ i, i < n → nl (F i) = true) (hn : n < sizeLine) (hD : H1 D = none) {i : Nat} (hi : i < n) {σ2 : L2.St} {G : Hp} (z : Same H1 G ∧ LcD K D F i G)
    (h : (∀ y G', Same G G' → Dp K G' y (F i) → ∃ acc, G' D = some (.lst acc) ∧ acc.length < sizeLine ∧ (Same H1 (upd G' D (.lst (acc ++ [y]))) ∧ LcD K D F (i + 1) (upd G' D (.lst (acc ++ [y]))))) → te σ2 G fun y G' => ∃ acc, G' D = some (.lst acc) ∧ acc.length < sizeLine ∧ (Same H1 (upd G' D (.lst (acc ++ [y]))) ∧ LcD K D F (i + 1) (upd G' D (.lst (acc ++ [y]))))) :
    te σ2 G fun y G' => ∃ acc, G' D = some (.lst acc) ∧ acc.length < sizeLine ∧ (Same H1 (upd G' D (.lst (acc ++ [y]))) ∧ LcD K D F (i + 1) (upd G' D (.lst (acc ++ [y])))) := by
  obtain ⟨s, us, h1, h2, h3⟩ := z
  refine h fun y G' s' d => ⟨us, s' _ _ h1, by omega, (s.trans s').upd hD, ?_⟩
  exact LcD.put (fun j hj => hf j (by omega)) (Imm.of s') (s' _ _ h1) h2 h3 d
/-- [.. for x in xs], xs a list -/
theorem lcd_list (F : Nat → PyData) (hf : ∀ i, i < xs.length → nl (F i) = true) (hn : xs.length < sizeLine) (hD : H1 D = none) (hl : SqL K H1 a xs)
    (hs : ∀ i x G R, xs[i]? = some x → Same H1 G → (∀ y G', Same G G' → Dp K G' y (F i) → R y G') → g x (wipe σ vs) G fun σ2 G2 => wipe σ2 vs = wipe σ vs ∧ te σ2 G2 R)
    (q : ∀ H' us, Same H1 H' → H' D = some (.lst us) → DpAll K H' us ((List.range xs.length).map F) → Qd H') :
    ∃ W : Nat → Nat → Hp → Prop, (∃ m, W 0 m (upd H1 D (.lst []))) ∧ ∀ i m H, W i m H →
      ((Itl K a).stop i H ∧ Qd H) ∨ ((Itl K a).go i H ∧ ∃ Nx : Hp → Prop, (∀ H', Nx H' → ∃ m', m' < m ∧ W (i + 1) m' H') ∧ ∀ x H', (Itl K a).yld i H x H' → g x (wipe σ vs) H' fun σ2 H2 => wipe σ2 vs = wipe σ vs ∧ tYes σ2 H2 fun b H3 =>
        if b = true then te σ2 H3 fun y H4 => ∃ acc, H4 D = some (.lst acc) ∧ acc.length < sizeLine ∧ Nx (upd H4 D (.lst (acc ++ [y]))) else Nx H3) := by
  refine lc_list (K := K) (a := a) (xs := xs) (fun i G => Same H1 G ∧ LcD K D F i G) ⟨same_new hD, .nil⟩ (fun i G _ z => SqL.same hl z.1) (fun i x G hx z => ?_) (fun G ⟨s, us, h1, h2, h3⟩ => q G us s h1 h3)
  have hi : i < xs.length := (List.getElem?_eq_some_iff.mp hx).1
  obtain ⟨s, us, h1, h2, h3⟩ := z
  exact hs i x G _ hx s fun y G' s' d => ⟨us, s' _ _ h1, by omega, (s.trans s').upd hD, LcD.put (fun j hj => hf j (by omega)) (Imm.of s') (s' _ _ h1) h2 h3 d⟩
/-- [.. for x in xs], xs a tuple -/
theorem lcd_tup (F : Nat → PyData) (hf : ∀ i, i < xs.length → nl (F i) = true) (hn : xs.length < sizeLine) (hD : H1 D = none) (hl : SqT K H1 a xs)
    (hs : ∀ i x G R, xs[i]? = some x → Same H1 G → (∀ y G', Same G G' → Dp K G' y (F i) → R y G') → g x (wipe σ vs) G fun σ2 G2 => wipe σ2 vs = wipe σ vs ∧ te σ2 G2 R)
    (q : ∀ H' us, Same H1 H' → H' D = some (.lst us) → DpAll K H' us ((List.range xs.length).map F) → Qd H') :
    ∃ W : Nat → Nat → Hp → Prop, (∃ m, W 0 m (upd H1 D (.lst []))) ∧ ∀ i m H, W i m H →
      ((Itt K a).stop i H ∧ Qd H) ∨ ((Itt K a).go i H ∧ ∃ Nx : Hp → Prop, (∀ H', Nx H' → ∃ m', m' < m ∧ W (i + 1) m' H') ∧ ∀ x H', (Itt K a).yld i H x H' → g x (wipe σ vs) H' fun σ2 H2 => wipe σ2 vs = wipe σ vs ∧ tYes σ2 H2 fun b H3 =>
        if b = true then te σ2 H3 fun y H4 => ∃ acc, H4 D = some (.lst acc) ∧ acc.length < sizeLine ∧ Nx (upd H4 D (.lst (acc ++ [y]))) else Nx H3) := by
  refine lc_tup (K := K) (a := a) (xs := xs) (fun i G => Same H1 G ∧ LcD K D F i G) ⟨same_new hD, .nil⟩ (fun i G _ z => SqT.same hl z.1) (fun i x G hx z => ?_) (fun G ⟨s, us, h1, h2, h3⟩ => q G us s h1 h3)
  have hi : i < xs.length := (List.getElem?_eq_some_iff.mp hx).1
  obtain ⟨s, us, h1, h2, h3⟩ := z
  exact hs i x G _ hx s fun y G' s' d => ⟨us, s' _ _ h1, by omega, (s.trans s').upd hD, LcD.put (fun j hj => hf j (by omega)) (Imm.of s') (s' _ _ h1) h2 h3 d⟩
/-- [.. for k in range(n)] -/
theorem lcd_range {lo : Int} {n : Nat} (F : Nat → PyData) (hf : ∀ i, i < n → nl (F i) = true) (hn : n < sizeLine) (hD : H1 D = none)
    (hs : ∀ i G R, i < n → Same H1 G → (∀ y G', Same G G' → Dp K G' y (F i) → R y G') → g (.int (lo + i)) (wipe σ vs) G fun σ2 G2 => wipe σ2 vs = wipe σ vs ∧ te σ2 G2 R)
    (q : ∀ H' us, Same H1 H' → H' D = some (.lst us) → DpAll K H' us ((List.range n).map F) → Qd H') :
    ∃ W : Nat → Nat → Hp → Prop, (∃ m, W 0 m (upd H1 D (.lst []))) ∧ ∀ i m H, W i m H →
      ((Itr lo n).stop i H ∧ Qd H) ∨ ((Itr lo n).go i H ∧ ∃ Nx : Hp → Prop, (∀ H', Nx H' → ∃ m', m' < m ∧ W (i + 1) m' H') ∧ ∀ x H', (Itr lo n).yld i H x H' → g x (wipe σ vs) H' fun σ2 H2 => wipe σ2 vs = wipe σ vs ∧ tYes σ2 H2 fun b H3 =>
        if b = true then te σ2 H3 fun y H4 => ∃ acc, H4 D = some (.lst acc) ∧ acc.length < sizeLine ∧ Nx (upd H4 D (.lst (acc ++ [y]))) else Nx H3) := by
  refine lc_range (fun i G => Same H1 G ∧ LcD K D F i G) ⟨same_new hD, .nil⟩ (fun i G hi z => ?_) (fun G ⟨s, us, h1, h2, h3⟩ => q G us s h1 h3)
  obtain ⟨s, us, h1, h2, h3⟩ := z
  exact hs i G _ hi s fun y G' s' d => ⟨us, s' _ _ h1, by omega, (s.trans s').upd hD, LcD.put (fun j hj => hf j (by omega)) (Imm.of s') (s' _ _ h1) h2 h3 d⟩
/-- [.. for c in z], z a text -/
theorem lcd_str {z : Str} (F : Nat → PyData) (hf : ∀ i, i < z.cps.size → nl (F i) = true) (hn : z.cps.size < sizeLine) (hD : H1 D = none)
    (hs : ∀ i c G R, z.cps[i]? = some c → Same H1 G → (∀ y G', Same G G' → Dp K G' y (F i) → R y G') → g (.str ⟨#[c]⟩) (wipe σ vs) G fun σ2 G2 => wipe σ2 vs = wipe σ vs ∧ te σ2 G2 R)
    (q : ∀ H' us, Same H1 H' → H' D = some (.lst us) → DpAll K H' us ((List.range z.cps.size).map F) → Qd H') :
    ∃ W : Nat → Nat → Hp → Prop, (∃ m, W 0 m (upd H1 D (.lst []))) ∧ ∀ i m H, W i m H →
      ((Its z).stop i H ∧ Qd H) ∨ ((Its z).go i H ∧ ∃ Nx : Hp → Prop, (∀ H', Nx H' → ∃ m', m' < m ∧ W (i + 1) m' H') ∧ ∀ x H', (Its z).yld i H x H' → g x (wipe σ vs) H' fun σ2 H2 => wipe σ2 vs = wipe σ vs ∧ tYes σ2 H2 fun b H3 =>
        if b = true then te σ2 H3 fun y H4 => ∃ acc, H4 D = some (.lst acc) ∧ acc.length < sizeLine ∧ Nx (upd H4 D (.lst (acc ++ [y]))) else Nx H3) := by
  refine lc_it (walk_str (z := z)) (fun i G => Same H1 G ∧ LcD K D F i G) ⟨same_new hD, .nil⟩ (fun _ _ _ _ => trivial) (fun i x G G2 hi w hy => ?_) (fun G ⟨s, us, h1, h2, h3⟩ => q G us s h1 h3)
  obtain ⟨rfl, c, hc, rfl⟩ := hy
  obtain ⟨s, us, h1, h2, h3⟩ := w
  exact hs i c _ _ hc s fun y G' s' d => ⟨us, s' _ _ h1, by omega, (s.trans s').upd hD, LcD.put (fun j hj => hf j (by omega)) (Imm.of s') (s' _ _ h1) h2 h3 d⟩
end
end NB

/-! terms written as texts: unlike terms have unlike texts -/
namespace NB
open PySem PySem.Spec PyProof.Rows L2 LamX
noncomputable def txS (s : Str) (xs : List Str) : Str := if xs.length = 0 then s else s ++ "(" ++ Txt.join "," xs ++ ")"
theorem txJ_list (a : Str) : ∀ l : List Str, (Txt.join "," (a :: l)).cps.toList = a.cps.toList ++ l.flatMap fun x => 44 :: x.cps.toList := fun l => by
  have g : ∀ (l : List Str) (acc : Array Nat), (l.foldl (fun acc (p : Str) => acc ++ (",":Str).cps ++ p.cps) acc).toList = acc.toList ++ l.flatMap fun x => 44 :: x.cps.toList := by
    intro l
    induction l with
    | nil => intro acc; simp
    | cons x l ih =>
      intro acc
      rw [List.foldl_cons, ih, List.flatMap_cons, Array.toList_append, Array.toList_append]
      show acc.toList ++ [44] ++ x.cps.toList ++ _ = _
      simp
  exact g l a.cps
theorem txJ_len (sep : Str) (xs : List Str) : (Txt.join sep xs).length ≤ (xs.map (·.length)).sum + xs.length * sep.length := by
  have g : ∀ (l : List Str) (a : Array Nat), (l.foldl (fun acc (p : Str) => acc ++ sep.cps ++ p.cps) a).size = a.size + (l.map (·.length)).sum + l.length * sep.length := fun l => by
    induction l with
    | nil => intro a; simp
    | cons x l ih =>
      intro a
      rw [List.foldl_cons, ih, List.map_cons, List.sum_cons, List.length_cons, Array.size_append, Array.size_append, Nat.add_mul]
      show a.size + sep.length + x.length + _ + _ = _
      omega
  cases xs with
  | nil => exact Nat.zero_le _
  | cons x l =>
    have := g l x.cps
    show (l.foldl (fun acc (p : Str) => acc ++ sep.cps ++ p.cps) x.cps).size ≤ _
    rw [this, List.map_cons, List.sum_cons, List.length_cons, Nat.add_mul]
    show x.length + _ + _ ≤ _
    omega
mutual
noncomputable def txT : Tm → Str
  | .mk s ps => txS s (txTs ps)
noncomputable def txTs : List Tm → List Str
  | [] => []
  | t :: ts => txT t :: txTs ts
end
theorem txTs_map : ∀ ps : List Tm, txTs ps = ps.map txT
  | [] => rfl
  | t :: ps => by rw [txTs, txTs_map ps]; rfl
/-- no sign is long -/
def Sh100 (l : List Tm) : Prop := ∀ s ps, Tm.mk s ps ∈ l → s.length ≤ 100
theorem txS_len {s : Str} {xs : List Str} : (txS s xs).length ≤ s.length + (xs.map (·.length)).sum + xs.length + 2 := by
  have hj := txJ_len "," xs
  have e1 : (",":Str).length = 1 := by decide +kernel
  have e2 : ("(":Str).length = 1 := by decide +kernel
  have e3 : (")":Str).length = 1 := by decide +kernel
  rw [e1] at hj
  unfold txS
  split
  · omega
  · rw [PySem.Str.length_append, PySem.Str.length_append, PySem.Str.length_append, e2, e3]
    omega
mutual
theorem txT_len : ∀ t : Tm, Sh100 (Tm.pre t) → (txT t).length + 1 ≤ 103 * (Tm.pre t).length
  | .mk s ps, h => by
    rw [Tm.pre] at h ⊢
    have h1 := h s ps (List.mem_cons_self ..)
    have h2 := txTs_len ps fun s' ps' m => h s' ps' (List.mem_cons_of_mem _ m)
    have h3 := @txS_len s (txTs ps)
    rw [txT, List.length_cons]
    omega
theorem txTs_len : ∀ ps : List Tm, Sh100 (Tm.pres ps) → ((txTs ps).map (·.length)).sum + (txTs ps).length ≤ 103 * (Tm.pres ps).length
  | [], _ => Nat.le_refl _
  | t :: ps, h => by
    rw [Tm.pres] at h ⊢
    have h1 := txT_len t fun s' ps' m => h s' ps' (List.mem_append_left _ m)
    have h2 := txTs_len ps fun s' ps' m => h s' ps' (List.mem_append_right _ m)
    rw [txTs, List.map_cons, List.sum_cons, List.length_cons, List.length_append]
    omega
end
theorem Wd.sh {t : Tm} (h : Wd t) : Sh100 (Tm.pre t) := fun s ps m => by
  have z := h s ps m
  unfold signS at z
  rw [Bool.and_eq_true_iff, Bool.and_eq_true_iff] at z
  have := of_decide_eq_true z.2.1
  omega
mutual
def ct : Tm → List Nat
  | .mk s ps => s.cps.toList ++ cb ps
def cb : List Tm → List Nat
  | [] => []
  | p :: ps => 40 :: (ct p ++ (cm ps ++ [41]))
def cm : List Tm → List Nat
  | [] => []
  | p :: ps => 44 :: (ct p ++ cm ps)
end
mutual
theorem txT_ct : ∀ t : Tm, (txT t).cps.toList = ct t
  | .mk s ps => by
    rw [txT, ct]
    unfold txS
    cases ps with
    | nil =>
      rw [txTs, cb, if_pos (show ([] : List Str).length = 0 from rfl), List.append_nil]
    | cons p ps =>
      rw [txTs, if_neg (by rw [List.length_cons]; omega), cb, PySem.Str.cps_append, PySem.Str.cps_append, PySem.Str.cps_append, Array.toList_append, Array.toList_append, Array.toList_append, txJ_list, txT_ct p, txTs_cm ps]
      show s.cps.toList ++ [40] ++ (ct p ++ cm ps) ++ [41] = _
      simp
theorem txTs_cm : ∀ ps : List Tm, ((txTs ps).flatMap fun x => 44 :: x.cps.toList) = cm ps
  | [] => by
    rw [txTs, cm]
    rfl
  | p :: ps => by
    rw [txTs, List.flatMap_cons, txT_ct p, txTs_cm ps, cm]
    rfl
end
/-- what may stand behind a text: no letter, no bracket that opens -/
def Beh (r : List Nat) : Prop := ∀ c rest, r = c :: rest → c = 41 ∨ c = 44
theorem letter_not : ∀ c ∈ lettersZ.cps.toList, c ≠ 40 ∧ c ≠ 41 ∧ c ≠ 44 := by decide +kernel
theorem cutL : ∀ {a b x y : List Nat}, (∀ c ∈ a, c ∈ lettersZ.cps.toList) → (∀ c ∈ b, c ∈ lettersZ.cps.toList) → (∀ c r, x = c :: r → c ∉ lettersZ.cps.toList) → (∀ c r, y = c :: r → c ∉ lettersZ.cps.toList) → a ++ x = b ++ y → a = b ∧ x = y
  | [], [], x, y, _, _, _, _, e => ⟨rfl, e⟩
  | [], c :: b, x, y, _, hb, hx, _, e => absurd (hb c (List.mem_cons_self ..)) (hx c (b ++ y) e)
  | c :: a, [], x, y, ha, _, _, hy, e => absurd (ha c (List.mem_cons_self ..)) (hy c (a ++ x) e.symm)
  | c :: a, d :: b, x, y, ha, hb, hx, hy, e => by
    injection e with e1 e2
    obtain ⟨e3, e4⟩ := cutL (fun c m => ha c (List.mem_cons_of_mem _ m)) (fun c m => hb c (List.mem_cons_of_mem _ m)) hx hy e2
    exact ⟨by rw [e1, e3], e4⟩
theorem Beh.not {r : List Nat} (h : Beh r) : ∀ c rest, r = c :: rest → c ∉ lettersZ.cps.toList := fun c rest e m => by
  have := letter_not c m
  rcases h c rest e with z | z
  · exact this.2.1 z
  · exact this.2.2 z
theorem cb_not (ps : List Tm) {r : List Nat} (h : Beh r) : ∀ c rest, cb ps ++ r = c :: rest → c ∉ lettersZ.cps.toList := fun c rest e m => by
  cases ps with
  | nil =>
    rw [cb] at e
    exact h.not c rest e m
  | cons p ps =>
    rw [cb] at e
    injection e with e _
    exact (letter_not c m).1 e.symm
theorem cm_beh (ps : List Tm) (r : List Nat) : Beh (cm ps ++ 41 :: r) := fun c rest e => by
  cases ps with
  | nil =>
    rw [cm] at e
    injection e with e _
    exact .inl e.symm
  | cons p ps =>
    rw [cm] at e
    injection e with e _
    exact .inr e.symm
mutual
theorem ct_cut : ∀ (t t' : Tm) (r r' : List Nat), Wd t → Wd t' → Beh r → Beh r' → ct t ++ r = ct t' ++ r' → t = t' ∧ r = r'
  | .mk s ps, .mk s' ps', r, r', h, h', hr, hr', e => by
    obtain ⟨h1, h2⟩ := h.parts
    obtain ⟨h1', h2'⟩ := h'.parts
    rw [ct, ct, List.append_assoc, List.append_assoc] at e
    obtain ⟨e1, e2⟩ := cutL (sign_letters h1) (sign_letters h1') (cb_not ps hr) (cb_not ps' hr') e
    have es : s = s' := by
      obtain ⟨a⟩ := s
      obtain ⟨b⟩ := s'
      have : a = b := Array.toList_inj.mp e1
      rw [this]
    subst es
    match ps, ps', e2 with
    | [], [], e2 =>
      rw [cb] at e2
      exact ⟨rfl, e2⟩
    | [], p :: ps', e2 =>
      rw [cb, cb] at e2
      rcases hr 40 _ e2 with z | z
      · exact absurd z (by decide)
      · exact absurd z (by decide)
    | p :: ps, [], e2 =>
      rw [cb, cb] at e2
      rcases hr' 40 _ e2.symm with z | z
      · exact absurd z (by decide)
      · exact absurd z (by decide)
    | p :: ps, p' :: ps', e2 =>
      rw [cb, cb, List.cons_append, List.cons_append, List.append_assoc, List.append_assoc, List.append_assoc, List.append_assoc] at e2
      injection e2 with _ e2
      obtain ⟨e4, e5⟩ := ct_cut p p' (cm ps ++ 41 :: r) (cm ps' ++ 41 :: r') (h2 p (List.mem_cons_self ..)) (h2' p' (List.mem_cons_self ..)) (cm_beh ps r) (cm_beh ps' r') e2
      obtain ⟨e6, e7⟩ := cm_cut ps ps' r r' (fun q m => h2 q (List.mem_cons_of_mem _ m)) (fun q m => h2' q (List.mem_cons_of_mem _ m)) e5
      exact ⟨by rw [e4, e6], e7⟩
theorem cm_cut : ∀ (ps ps' : List Tm) (r r' : List Nat), Wds ps → Wds ps' → cm ps ++ 41 :: r = cm ps' ++ 41 :: r' → ps = ps' ∧ r = r'
  | [], [], r, r', _, _, e => by
    rw [cm] at e
    injection e with _ e
    exact ⟨rfl, e⟩
  | [], p :: ps, r, r', _, _, e => by
    rw [cm, cm] at e
    injection e with e _
    exact absurd e (by decide)
  | p :: ps, [], r, r', _, _, e => by
    rw [cm, cm] at e
    injection e with e _
    exact absurd e (by decide)
  | p :: ps, p' :: ps', r, r', h, h', e => by
    rw [cm, cm, List.cons_append, List.cons_append, List.append_assoc, List.append_assoc] at e
    injection e with _ e
    obtain ⟨e1, e2⟩ := ct_cut p p' (cm ps ++ 41 :: r) (cm ps' ++ 41 :: r') (h p (List.mem_cons_self ..)) (h' p' (List.mem_cons_self ..)) (cm_beh ps r) (cm_beh ps' r') e
    obtain ⟨e3, e4⟩ := cm_cut ps ps' r r' (fun q m => h q (List.mem_cons_of_mem _ m)) (fun q m => h' q (List.mem_cons_of_mem _ m)) e2
    exact ⟨by rw [e1, e3], e4⟩
end
/-- unlike terms have unlike texts -/
theorem txT_inj {t t' : Tm} (h : Wd t) (h' : Wd t') (e : txT t = txT t') : t = t' := by
  have e1 : ct t ++ [] = ct t' ++ [] := by rw [← txT_ct t, ← txT_ct t', e]
  exact (ct_cut t t' [] [] h h' (fun c rest z => nomatch z) (fun c rest z => nomatch z) e1).1
/-- what goes over a list or a tuple -/
def SqE (K : PySem.W.Frag) (H : Hp) (a : Addr) (xs : List V) : Prop := SqL K H a xs ∨ SqT K H a xs
def iSeq (K : PySem.W.Frag) (tl : TE) : TI := fun σ H R => tl σ H fun x H1 => ∃ a, x = .ref a ∧ (((∃ xs, SqL K H1 a xs) ∧ R (Itl K a) H1) ∨ ((∃ xs, SqT K H1 a xs) ∧ R (Itt K a) H1))
theorem SqL.sm {K : PySem.W.Frag} {O : List Addr} {H H' : Hp} {a : Addr} {xs : List V} (e : Sm O H H') (n : a ∉ O) (h : SqL K H a xs) : SqL K H' a xs := by
  rcases h with (h | ⟨o, h⟩) | h
  · exact .inl (.inl (e _ _ h n))
  · exact .inl (.inr ⟨o, e _ _ h n⟩)
  · exact .inr h
theorem SqE.same {K : PySem.W.Frag} {H H' : Hp} {a : Addr} {xs : List V} (h : SqE K H a xs) (s : Same H H') : SqE K H' a xs := h.imp (fun z => SqL.same z s) fun z => SqT.same z s
theorem SqE.len {K : PySem.W.Frag} {H : Hp} {a : Addr} {xs : List V} (h : SqE K H a xs) : LenV K (.ref a) H xs.length := h.imp (fun z => ⟨xs, z, rfl⟩) fun z => ⟨xs, z, rfl⟩
section
variable {X : Cx} {tg : Expr}
theorem pi_seq {l : Expr} {tl : TE} (hl : PE X l tl) : PI X tg l (iSeq X.K tl) := by
  refine ⟨fun pins s σ H R I h => ?_⟩
  refine thn (hl.run pins s σ H _ I h) fun v s1 ⟨x, H1, I1, r1, q1⟩ => ?_
  obtain ⟨a, e, ⟨⟨xs, hq⟩, q⟩ | ⟨⟨xs, hq⟩, q⟩⟩ := q1
  · subst e
    cases r1
    obtain ⟨its, rv, p, hz⟩ := I1.list hq
    refine wpAny_pyIter_list p.isList ?_
    refine ⟨s1.heap.objs.size, [s1.heap.objs.size], _, _, H1, rfl, I1.kept (t' := s1.toks) fun b o e => Heap.get?_push_of_some _ e, turn_list a _, ⟨_, Heap.get?_push_size _ rfl, rfl, rfl⟩, fun b hb => ?_, q⟩
    have e : b = s1.heap.objs.size := by simpa using hb
    subst e
    exact I1.fpOk (Nat.le_refl _) (I1.hok.fresh (Nat.le_refl _))
  · subst e
    cases r1
    obtain ⟨its, rv, p, hz⟩ := I1.tuple hq
    refine wpAny_pyIter_tuple (show s1.heap.IsTuple a its.toArray from p) ?_
    refine ⟨s1.heap.objs.size, [s1.heap.objs.size], _, _, H1, rfl, I1.kept (t' := s1.toks) fun b o e => Heap.get?_push_of_some _ e, turn_tuple a _, ⟨_, Heap.get?_push_size _ rfl, rfl, rfl⟩, fun b hb => ?_, q⟩
    have e : b = s1.heap.objs.size := by simpa using hb
    subst e
    exact I1.fpOk (Nat.le_refl _) (I1.hok.fresh (Nat.le_refl _))
end
/-- a comprehension over a list or a tuple that makes data -/
theorem lcd_seq {K : PySem.W.Frag} {a : Addr} {xs : List V} {g : TG} {te : TE} {vs : List Nat} {σ : L2.St} {H1 : Hp} {Q : Addr → Hp → Prop} (F : Nat → PyData) (hf : ∀ i, i < xs.length → nl (F i) = true) (hn : xs.length < sizeLine) (hl : SqE K H1 a xs)
    (hs : ∀ i x G R, xs[i]? = some x → Same H1 G → (∀ y G', Same G G' → Dp K G' y (F i) → R y G') → g x (wipe σ vs) G fun σ2 G2 => wipe σ2 vs = wipe σ vs ∧ te σ2 G2 R)
    (q : ∀ D H' us, H1 D = none → Same H1 H' → H' D = some (.lst us) → DpAll K H' us ((List.range xs.length).map F) → Q D H') :
    ((∃ xs, SqL K H1 a xs) ∧ ∀ D, H1 D = none → ∃ W : Nat → Nat → Hp → Prop, (∃ m, W 0 m (upd H1 D (.lst []))) ∧ ∀ i m H, W i m H →
      ((Itl K a).stop i H ∧ Q D H) ∨ ((Itl K a).go i H ∧ ∃ Nx : Hp → Prop, (∀ H', Nx H' → ∃ m', m' < m ∧ W (i + 1) m' H') ∧ ∀ x H', (Itl K a).yld i H x H' → g x (wipe σ vs) H' fun σ2 H2 => wipe σ2 vs = wipe σ vs ∧ tYes σ2 H2 fun b H3 =>
        if b = true then te σ2 H3 fun y H4 => ∃ acc, H4 D = some (.lst acc) ∧ acc.length < sizeLine ∧ Nx (upd H4 D (.lst (acc ++ [y]))) else Nx H3)) ∨
    ((∃ xs, SqT K H1 a xs) ∧ ∀ D, H1 D = none → ∃ W : Nat → Nat → Hp → Prop, (∃ m, W 0 m (upd H1 D (.lst []))) ∧ ∀ i m H, W i m H →
      ((Itt K a).stop i H ∧ Q D H) ∨ ((Itt K a).go i H ∧ ∃ Nx : Hp → Prop, (∀ H', Nx H' → ∃ m', m' < m ∧ W (i + 1) m' H') ∧ ∀ x H', (Itt K a).yld i H x H' → g x (wipe σ vs) H' fun σ2 H2 => wipe σ2 vs = wipe σ vs ∧ tYes σ2 H2 fun b H3 =>
        if b = true then te σ2 H3 fun y H4 => ∃ acc, H4 D = some (.lst acc) ∧ acc.length < sizeLine ∧ Nx (upd H4 D (.lst (acc ++ [y]))) else Nx H3)) := by
  rcases hl with hl | hl
  · exact .inl ⟨⟨_, hl⟩, fun D hD => lcd_list F hf hn hD hl hs fun H' us => q D H' us hD⟩
  · exact .inr ⟨⟨_, hl⟩, fun D hD => lcd_tup F hf hn hD hl hs fun H' us => q D H' us hD⟩
theorem rg_map {α β : Type} {f : α → β} (F : Nat → β) {l : List α} {n : Nat} (hn : n = l.length) (h : ∀ i a, l[i]? = some a → F i = f a) : (List.range n).map F = l.map f := by
  subst hn
  refine List.ext_getElem? fun i => ?_
  rw [List.getElem?_map, List.getElem?_map]
  rcases Nat.lt_or_ge i l.length with z | z
  · rw [List.getElem?_range z, List.getElem?_eq_getElem z]
    exact congrArg some (h i _ (List.getElem?_eq_getElem z))
  · rw [List.getElem?_eq_none (by rw [List.length_range]; exact z), List.getElem?_eq_none z]
    rfl
/-- a comprehension over a list or a tuple -/
theorem lc_seq {K : PySem.W.Frag} {a : Addr} {xs : List V} {g : TG} {tt : TT} {te : TE} {vs : List Nat} {σ : L2.St} {H1 : Hp} {Q : Addr → Hp → Prop} (Pv : Addr → Nat → Hp → Prop) (hl : SqE K H1 a xs) (hk : ∀ D i H, Pv D i H → Same H1 H) (h0 : ∀ D, H1 D = none → Pv D 0 (upd H1 D (.lst [])))
    (hs : ∀ D i x H, H1 D = none → xs[i]? = some x → Pv D i H → g x (wipe σ vs) H fun σ2 H2 => wipe σ2 vs = wipe σ vs ∧ tt σ2 H2 fun b H3 =>
      if b = true then te σ2 H3 fun y H4 => ∃ acc, H4 D = some (.lst acc) ∧ acc.length < sizeLine ∧ Pv D (i + 1) (upd H4 D (.lst (acc ++ [y]))) else Pv D (i + 1) H3) (hd : ∀ D H, H1 D = none → Pv D xs.length H → Q D H) :
    ((∃ xs, SqL K H1 a xs) ∧ ∀ D, H1 D = none → ∃ W : Nat → Nat → Hp → Prop, (∃ m, W 0 m (upd H1 D (.lst []))) ∧ ∀ i m H, W i m H →
      ((Itl K a).stop i H ∧ Q D H) ∨ ((Itl K a).go i H ∧ ∃ Nx : Hp → Prop, (∀ H', Nx H' → ∃ m', m' < m ∧ W (i + 1) m' H') ∧ ∀ x H', (Itl K a).yld i H x H' → g x (wipe σ vs) H' fun σ2 H2 => wipe σ2 vs = wipe σ vs ∧ tt σ2 H2 fun b H3 =>
        if b = true then te σ2 H3 fun y H4 => ∃ acc, H4 D = some (.lst acc) ∧ acc.length < sizeLine ∧ Nx (upd H4 D (.lst (acc ++ [y]))) else Nx H3)) ∨
    ((∃ xs, SqT K H1 a xs) ∧ ∀ D, H1 D = none → ∃ W : Nat → Nat → Hp → Prop, (∃ m, W 0 m (upd H1 D (.lst []))) ∧ ∀ i m H, W i m H →
      ((Itt K a).stop i H ∧ Q D H) ∨ ((Itt K a).go i H ∧ ∃ Nx : Hp → Prop, (∀ H', Nx H' → ∃ m', m' < m ∧ W (i + 1) m' H') ∧ ∀ x H', (Itt K a).yld i H x H' → g x (wipe σ vs) H' fun σ2 H2 => wipe σ2 vs = wipe σ vs ∧ tt σ2 H2 fun b H3 =>
        if b = true then te σ2 H3 fun y H4 => ∃ acc, H4 D = some (.lst acc) ∧ acc.length < sizeLine ∧ Nx (upd H4 D (.lst (acc ++ [y]))) else Nx H3)) := by
  rcases hl with hl | hl
  · exact .inl ⟨⟨_, hl⟩, fun D hD => lc_list (K := K) (a := a) (xs := xs) (Pv D) (h0 D hD) (fun i G _ z => SqL.same hl (hk D i G z)) (fun i x G hx z => hs D i x G hD hx z) fun G z => hd D G hD z⟩
  · exact .inr ⟨⟨_, hl⟩, fun D hD => lc_tup (K := K) (a := a) (xs := xs) (Pv D) (h0 D hD) (fun i G _ z => SqT.same hl (hk D i G z)) (fun i x G hx z => hs D i x G hD hx z) fun G z => hd D G hD z⟩
end NB

/-! a dict that was locked for a while -/
namespace NB
open PySem PySem.Spec PyProof.Rows L2
theorem same_lk {H1 H' : Hp} {d : Addr} {o : Obj} {u : HO} (h : H1 d = some u) (q : Same (upd H1 d (.frz o u)) H') : Same H1 (upd H' d u) := fun b x e => by
  by_cases z : b = d
  · subst z
    rw [h] at e
    rw [upd_same]
    exact e
  · rw [upd_ne z]
    exact q _ _ (by rw [upd_ne z]; exact e)
end NB

/-! except clauses of both kinds, one behind the other: each clause by itself -/
namespace NB
open PySem PySem.Spec PyProof.Rows L2
/-- the exception a is in the hand of the clauses -/
structure Cau (X : Cx) (pins : List (Addr × Obj)) (a : Addr) (B : Heap) (sI s : Shared) (σ : L2.St) (H : Hp) (cls : Value) (d : Option Addr) : Prop where
  inv : Inv X pins σ H sI
  base : ∀ b o, sI.heap.get? b = some o → b ∉ L2.frs X.stack → B.get? b = some o
  up : sI.heap.UpToSlots s.heap
  fl : HandSPX.FlyingZ B (X.env :: X.outer) a (Zc cls d) s.heap
  no : H a = none
  os : s.os = sI.os
  bare : AllBare s.gens
section
variable {X : Cx} {pins : List (Addr × Obj)} {a : Addr} {B : Heap} {sI s : Shared} {σ : L2.St} {H : Hp} {cls : Value} {d : Option Addr}
theorem Cau.now (h : Cau X pins a B sI s σ H cls d) : Inv X pins σ H s := h.inv.landed h.base h.fl.1 h.up h.os h.bare
theorem Cau.suite (h : Cau X pins a B sI s σ H cls d) (hf : X.env.frame = some X.env.locals) : ∃ oe vs, s.heap.get? a = some oe ∧ Zc cls d oe ∧ oe.data = .fields vs ∧ Inv (X.suite a ((a, oe) :: (X.pn ++ pins))) [] σ H s := by
  obtain ⟨oe, vs, e, z, dd⟩ := h.fl.there
  have nfr : a ∉ L2.frs (X.env :: X.outer) := fun m => by
    obtain ⟨_, o', e', q⟩ := h.fl.2.2.1.mem m
    rw [e] at e'
    cases e'
    exact q _ dd
  refine ⟨oe, vs, e, z, dd, h.now.suite e dd h.no (fun q => nfr ?_) fun m => ?_⟩
  · exact List.mem_filterMap.mpr ⟨X.env, List.mem_cons_self, by rw [hf, q]⟩
  · obtain ⟨e', m', q⟩ := List.mem_filterMap.mp m
    exact nfr (List.mem_filterMap.mpr ⟨e', List.mem_cons_of_mem _ m', q⟩)
theorem Cau.again {M : Model} {A : Around} {E : Value → Shared → Prop} {Q : Unit → Shared → Prop} (h : Cau X pins a B sI s σ H cls d) (q : ∀ s', Cau X pins a B sI s' σ H cls d → Q () s') : wpAny M A (setFlight (.ref a) none) Q E s :=
  HandSPX.lands_againZ h.fl fun h4 f4 u4 => q _ ⟨h.inv, h.base, h.up.trans u4, f4, h.no, h.os, h.bare⟩
/-- no clause is left -/
theorem Cau.past {D : Ends} {Wout : WX} (h : Cau X pins a B sI s σ H cls d) (hs : X.stack = X.env :: X.outer) (hf : X.env.frame = some X.env.locals) (tk : Takes X Wout) (w : Wout cls d σ H) :
    wpAny (model X.prog X.w) X.A (handleBy (.ref a) X.env []) (SP X pins D) X.xe s := by
  refine wpAny_handleBy_nil ?_
  obtain ⟨_, _, _, _, _, T, _, _, he, _, hd, h1, _⟩ := id h.fl
  unfold PySem.passOn
  refine wpAny_bind (wpAny_field he hd h1 ?_)
  rw [if_neg (by simp)]
  have g : wpAny (model X.prog X.w) X.A (setFlight (.ref a) X.env.frame) (fun _ s4 => wpAny (model X.prog X.w) X.A (throw (.ref a) : Sem Flow) (SP X pins D) X.xe s4) X.xe s := by
    rw [hf]
    refine HandSPX.setFlight_upZ h.fl fun h4 k4 u4 => wpAny_throw (tk _ _ ?_)
    exact ⟨a, B, sI, pins, σ, H, cls, d, rfl, h.inv, h.base, h.up.trans u4, .inr (.inr (by rw [hs]; exact k4)), h.no, h.os, h.bare, w⟩
  first
    | exact wpAny_bind (wpAny_pure (wpAny_bind g))
    | exact wpAny_bind g
/-- a clause is asked -/
theorem Cau.ask {x : Str} {c : Value} {np : Pos} {b : Bool} {Q : Bool → Shared → Prop} {E : Value → Shared → Prop} (h : Cau X pins a B sI s σ H cls d) (hf : X.env.frame = some X.env.locals) (hc : Names X x c) (hb : PySem.W.exmOne X.K cls c = some b) (q : Q b s) :
    wpAny (model X.prog X.w) (X.A.mark (some (.ref a))) (eval (.Name x np) X.env) (fun c' s1 => wpAny (model X.prog X.w) (X.A.mark (some (.ref a))) (excMatches (.ref a) c') Q E s1) E s := by
  obtain ⟨oe, vs, e, z, dd, S⟩ := h.suite hf
  have LT : PySem.W.Looks (model X.prog X.w) s.heap (typeOf (.ref a)) cls := fun A Q E s k q => wpAny_typeOf_ref (k _ _ e) (by rw [z.1]; exact q)
  have LM := PySem.W.exm_one (M := model X.prog X.w) h.now.kIn LT hb
  obtain ⟨hg, hdbg, hm | ⟨hm, hv, hnn⟩⟩ := hc
  · exact ld_glob (X := X.suite a ((a, oe) :: (X.pn ++ pins))) S hg hm (LM.here q) hdbg
  · exact ld_blt (X := X.suite a ((a, oe) :: (X.pn ++ pins))) S hg hm hv (LM.here q) hnn hdbg
end
/-- what a clause wishes: i the slot of its name, if it has one -/
def wOne (K : PySem.W.Frag) (c : Value) (i : Option Nat) (ts : Addr → Value → Option Addr → TS) (Wout : WX) (D : Ends) : WX := fun cls d σ H => ∃ b, PySem.W.exmOne K cls c = some b ∧
  (b = true → ∀ a, H a = none → match i with
    | none => ts a cls d D σ H
    | some i => ts a cls d { nx := fun σ' H' => D.nx (σ'.set i none) H', rt := D.rt, bk := fun σ' H' => D.bk (σ'.set i none) H', ct := fun σ' H' => D.ct (σ'.set i none) H' } (σ.set i (some (.ref a))) H) ∧ (b = false → Wout cls d σ H)
/-- clauses: W is what is wished of the exception -/
inductive Cls4 (X : Cx) (Wout : WX) (D : Ends) : List ExceptHandler → WX → Prop
  | nil : Cls4 X Wout D [] Wout
  | bare {x : Str} {c : Value} {ts : Addr → Value → Option Addr → TS} {b₀ : Stmt} {suite : List Stmt} {np pos' : Pos} {hds : List ExceptHandler} {W : WX} (hc : Names X x c)
      (hsu : ∀ (a : Addr) (oe : Obj) (cls : Value) (d : Option Addr) (pn : List (Addr × Obj)), Zc cls d oe → (∃ vs, oe.data = .fields vs) → PSs (X.suite a ((a, oe) :: pn)) (b₀ :: suite) (ts a cls d)) (r : Cls4 X Wout D hds W) :
      Cls4 X Wout D (.ExceptHandler (some (.Name x np)) none (b₀ :: suite) pos' :: hds) (wOne X.K c none ts W D)
  | named {x n : Str} {i : Nat} {c : Value} {ts : Addr → Value → Option Addr → TS} {b₀ : Stmt} {suite : List Stmt} {np pos' : Pos} {hds : List ExceptHandler} {W : WX} (hN : X.N.Nodup) (hi : X.N[i]? = some n) (hln : X.env.kindOf n = some .local) (hc : Names X x c)
      (hsu : ∀ (a : Addr) (oe : Obj) (cls : Value) (d : Option Addr) (pn : List (Addr × Obj)), Zc cls d oe → (∃ vs, oe.data = .fields vs) → PSs (X.suite a ((a, oe) :: pn)) (b₀ :: suite) (ts a cls d)) (r : Cls4 X Wout D hds W) :
      Cls4 X Wout D (.ExceptHandler (some (.Name x np)) (some n) (b₀ :: suite) pos' :: hds) (wOne X.K c (some i) ts W D)
theorem clauses {X : Cx} {pins : List (Addr × Obj)} {a : Addr} {B : Heap} {sI : Shared} {σ : L2.St} {H : Hp} {cls : Value} {d : Option Addr} {D : Ends} {Wout : WX} (hs : X.stack = X.env :: X.outer) (hf : X.env.frame = some X.env.locals) (tk : Takes X Wout) (ok : X.Ok) :
    ∀ {hds : List ExceptHandler} {W : WX}, Cls4 X Wout D hds W → ∀ {s : Shared}, Cau X pins a B sI s σ H cls d → W cls d σ H → wpAny (model X.prog X.w) X.A (handleBy (.ref a) X.env hds) (SP X pins D) X.xe s := by
  intro hds W hk
  induction hk with
  | nil => exact fun h w => h.past hs hf tk w
  | bare hc hsu r ih =>
    intro s h w
    obtain ⟨b, hb, hy, hn⟩ := w
    refine wpAny_handleBy_cons (codeAny_handlers_test (h.ask hf hc hb ?_)) (by intro q; cases q)
    cases b with
    | false => exact ih h (hn rfl)
    | true =>
      refine codeAny_handlers_suite (h.again fun s4 h4 => ?_)
      obtain ⟨oe, vs, e, z, dd, S⟩ := h4.suite hf
      refine wpAny_mono ((hsu a oe cls d (X.pn ++ pins) z ⟨_, dd⟩).run [] _ _ H _ S (hy rfl a h4.no)) (fun f s6 hsp => ?_) (fun _ _ z => False.elim z)
      cases f with
      | ret u =>
        obtain ⟨_, _, _, S6, r6, q6⟩ := hsp
        exact ⟨_, _, _, S6.unsuite ok, r6, q6⟩
      | next => exact let ⟨_, _, S6, q6⟩ := hsp; ⟨_, _, S6.unsuite ok, q6⟩
      | brk => exact let ⟨_, _, S6, q6⟩ := hsp; ⟨_, _, S6.unsuite ok, q6⟩
      | cont => exact let ⟨_, _, S6, q6⟩ := hsp; ⟨_, _, S6.unsuite ok, q6⟩
  | @named x n i c ts b₀ suite np pos' hds W hN hi hln hc hsu r ih =>
    intro s h w
    obtain ⟨b, hb, hy, hn⟩ := w
    refine wpAny_handleBy_cons (codeAny_handlers_test (h.ask hf hc hb ?_)) (by intro q; cases q)
    cases b with
    | false => exact ih h (hn rfl)
    | true =>
      refine codeAny_handlers_suite_as (h.again fun s4 h4 => ?_)
      obtain ⟨oe, vs, e, z, dd, S⟩ := h4.suite hf
      refine store_ok (X := X.suite a ((a, oe) :: (X.pn ++ pins))) (v := .ref a) S hN hi (.inl hln) rfl (fun s5 S5 => ?_) (.inr hln)
      refine wpAny_mono ((hsu a oe cls d (X.pn ++ pins) z ⟨_, dd⟩).run [] s5 _ H _ S5 (hy rfl a h4.no)) (fun f s6 hsp => ?_) (fun _ _ z => False.elim z)
      have last : ∀ {σ6 : L2.St} {H6 : Hp} {Q : Shared → Prop}, Inv (X.suite a ((a, oe) :: (X.pn ++ pins))) [] σ6 H6 s6 → (∀ s7, Inv X pins (σ6.set i none) H6 s7 → Q s7) →
          wpAny (model X.prog X.w) X.A (do bindName X.env n .none; unbindBehindTheSuite X.env n pos') (fun _ s7 => Q s7) X.xe s6 := fun {σ6 H6 Q} S6 hq => gone_ok (S6.unsuite ok) hN hi hln hq
      cases f with
      | ret u =>
        obtain ⟨_, _, _, S6, r6, q6⟩ := hsp
        exact last S6 fun s7 J7 => ⟨_, _, _, J7, r6, q6⟩
      | next => exact let ⟨_, _, S6, q6⟩ := hsp; last S6 fun s7 J7 => ⟨_, _, J7, q6⟩
      | brk => exact let ⟨_, _, S6, q6⟩ := hsp; last S6 fun s7 J7 => ⟨_, _, J7, q6⟩
      | cont => exact let ⟨_, _, S6, q6⟩ := hsp; last S6 fun s7 J7 => ⟨_, _, J7, q6⟩
/-- try, and clauses of both kinds -/
theorem ps_try_cls {X : Cx} {body : List Stmt} {h₀ : ExceptHandler} {hds : List ExceptHandler} {pos : Pos} {tb : WX → TS} {Wout : WX} {wf : Ends → WX} (hs : X.stack = X.env :: X.outer) (hf : X.env.frame = some X.env.locals) (tk : Takes X Wout)
    (hb : ∀ (W : WX) (pn : List (Addr × Obj)) (xe : Value → Shared → Prop), Takes (X.tr pn xe) W → PassesOwn (model X.prog X.w) X.A X.env xe → PSs (X.tr pn xe) body (tb W))
    (hh : ∀ D, Cls4 X Wout D (h₀ :: hds) (wf D)) : PS X (.Try body (h₀ :: hds) [] [] pos) (fun D σ H => tb (wf D) D σ H) := by
  refine ⟨fun pins s σ H D I h => ?_⟩
  have ok := I.ok
  refine wpAny_Try_except ?_
  refine wpAny_mono ((hb (wf D) (X.pn ++ pins) (fun e s₁ => wpAny (model X.prog X.w) X.A (noteFrame e X.env) (fun _ s₂ => wpAny (model X.prog X.w) X.A (setFlight e none) (fun _ s₃ =>
    wpAny (model X.prog X.w) X.A (handleBy e X.env (h₀ :: hds)) (SP X pins D) X.xe s₃) X.xe s₂) X.xe s₁) (fun u s' xx => ?_) PassesOwn.looking).run [] s σ H D (I.toTry _) h) (fun f s1 hsp => ?_) (fun e s1 he => he)
  · obtain ⟨a, B, sI, pins', σ', H', cls, d, rfl, J, nb, up, sky, na, os, ag, w⟩ := xx
    have sky' : Sky B (X.env :: X.outer) a (Zc cls d) X.env.locals s'.heap := by rw [← hs]; exact sky
    exact Sky.land Zc.steady (by rw [ok.frames, hs]) hf sky' fun h3 fl3 up3 => clauses hs hf tk ok (hh D) ⟨J.ofTry ok, nb, up.trans up3, fl3, na, os, ag⟩ w
  · cases f with
    | next => exact let ⟨_, _, J, q⟩ := hsp; wpAny_execs_nil ⟨_, _, J.ofTry ok, q⟩
    | brk => exact let ⟨_, _, J, q⟩ := hsp; ⟨_, _, J.ofTry ok, q⟩
    | cont => exact let ⟨_, _, J, q⟩ := hsp; ⟨_, _, J.ofTry ok, q⟩
    | ret u => exact let ⟨_, _, _, J, r, q⟩ := hsp; ⟨_, _, _, J.ofTry ok, r, q⟩
end NB

namespace NB
open PySem PySem.Spec PyProof.Rows L2 LamX
/-! ### is_integer -/
theorem sc_is_integer : FnScope ["thing"] ["thing"] (defScope s_is_integer) := ⟨rfl, rfl, rfl, by decide +kernel, rfl, by decide +kernel, by decide +kernel⟩
def sp_is_integer (K : PySem.W.Frag) : Sp := fun vs H Q _ => ∃ v d, vs = [v] ∧ Jp K H v d ∧ Q (.bl (isIntD d)) H
theorem ok_is_integer {P : Program} {w : World} {K : PySem.W.Frag} {mg : Str → Option Value} {base : Heap} (T : Tx K mg)  : FnOk P w K mg base CX0 1 T.a_is_integer T.d_is_integer ["thing"] (sp_is_integer K) := by
  refine T.F_is_integer.ok sc_is_integer (fun vs H Q E h => ?_) (fun cdv A outer s H vs Q E hr h => ?_)
  · obtain ⟨v, d, rfl, _⟩ := h
    rfl
  · obtain ⟨v, d, rfl, j, k⟩ := h
    refine ⟨_, (pss_one (ps_ret (pe_and (pe_callB call_isi (by rfl) T.z_isinstance (by decide +kernel) (pa_cons (pv 0) (pa_cons (pe_bltn (v := .ty "int") (u := .type "int") (by rfl) T.z_int (by decide +kernel) rfl) pa_nil))) (pe_one (pe_not (pe_callB call_isi (by rfl) T.z_isinstance (by decide +kernel) (pa_cons (pv 0) (pa_cons (pe_bltn (v := .ty "bool") (u := .type "bool") (by rfl) T.z_bool (by decide +kernel) rfl) pa_nil)))))))), ?_⟩
    obtain ⟨t, t1, t2⟩ := j.tyInt
    obtain ⟨u, u1, u2⟩ := j.tyBool
    refine ⟨_, rfl, _, _, t, _, _, rfl, .ty "int", t1, t2, _, rfl, ?_⟩
    cases d <;> first
      | exact k
      | exact ⟨_, _, rfl, _, _, u, _, _, rfl, .ty "bool", u1, u2, rfl, k⟩
      | exact ⟨_, rfl, _, _, u, _, _, rfl, .ty "bool", u1, u2, _, rfl, k⟩
      | exact ⟨_, ⟨_, rfl, _, _, u, _, _, rfl, .ty "bool", u1, u2, rfl, k⟩⟩

end NB

namespace NB
open PySem PySem.Spec PyProof.Rows L2 LamX
/-! ### is_number_below -/
theorem sc_is_number_below : FnScope ["thing", "limit"] ["thing", "limit"] (defScope s_is_number_below) := ⟨rfl, rfl, rfl, by decide +kernel, rfl, by decide +kernel, by decide +kernel⟩
def sp_is_number_below (K : PySem.W.Frag) : Sp := fun vs H Q _ => ∃ v d n, vs = [v, .int n] ∧ Jp K H v d ∧ Q (.bl (belowD n d)) H
theorem ok_is_number_below {P : Program} {w : World} {K : PySem.W.Frag} {mg : Str → Option Value} {base : Heap} (T : Tx K mg)  : FnOk P w K mg base CX0 2 T.a_is_number_below T.d_is_number_below ["thing", "limit"] (sp_is_number_below K) := by
  refine T.F_is_number_below.ok sc_is_number_below (fun vs H Q E h => ?_) (fun cdv A outer s H vs Q E hr h => ?_)
  · obtain ⟨v, d, n, rfl, _⟩ := h
    rfl
  · obtain ⟨v, d, n, rfl, j, k⟩ := h
    refine ⟨_, (pss_one (ps_ret (pe_and (pe_call (ok_is_integer T) (hr.mono (by first | decide | omega)) rfl T.m_is_integer T.F_is_integer.kp T.b_is_integer .nil pass0 (pa_cons (pv 0) pa_nil)) (pe_one (pe_chain op_le op_lt pe_int (pv 0) (pv 1)))))), ?_⟩
    refine ⟨_, rfl, v, d, rfl, j, _, rfl, ?_⟩
    cases j with
    | int i =>
      refine ⟨_, rfl, _, _, rfl, rfl, _, rfl, ?_⟩
      have k : Q (.bl (decide (0 ≤ i) && decide (i < n))) H := k
      by_cases h0 : (0 : Int) ≤ i
      · rw [decide_eq_true h0] at k ⊢
        exact ⟨_, rfl, _, _, rfl, rfl, k⟩
      · rw [decide_eq_false h0] at k ⊢
        exact k
    | _ => exact k

/-! ### is_tuple_of -/
theorem sc_is_tuple_of : FnScope ["thing", "many"] ["thing", "many"] (defScope s_is_tuple_of) := ⟨rfl, rfl, rfl, by decide +kernel, rfl, by decide +kernel, by decide +kernel⟩
def sp_is_tuple_of (K : PySem.W.Frag) : Sp := fun vs H Q _ => ∃ v d n, vs = [v, .int n] ∧ Jp K H v d ∧ Q (.bl (isTupD d && decide (((itemsD d).length : Int) = n))) H
theorem ok_is_tuple_of {P : Program} {w : World} {K : PySem.W.Frag} {mg : Str → Option Value} {base : Heap} (T : Tx K mg)  : FnOk P w K mg base CX0 1 T.a_is_tuple_of T.d_is_tuple_of ["thing", "many"] (sp_is_tuple_of K) := by
  refine T.F_is_tuple_of.ok sc_is_tuple_of (fun vs H Q E h => ?_) (fun cdv A outer s H vs Q E hr h => ?_)
  · obtain ⟨v, d, n, rfl, _⟩ := h
    rfl
  · obtain ⟨v, d, n, rfl, j, k⟩ := h
    refine ⟨_, (pss_one (ps_ret (pe_and (pe_callB call_isi (by rfl) T.z_isinstance (by decide +kernel) (pa_cons (pv 0) (pa_cons (pe_bltn (v := .ty "tuple") (u := .type "tuple") (by rfl) T.z_tuple (by decide +kernel) rfl) pa_nil))) (pe_one (pe_cmpR op_eq (pe_callB call_len_seq (by rfl) T.z_len (by decide +kernel) (pa_cons (pv 0) pa_nil)) (pv 1) (nomark _)))))), ?_⟩
    obtain ⟨t, t1, t2⟩ := j.tyTup
    refine ⟨_, rfl, _, _, t, _, _, rfl, .ty "tuple", t1, t2, _, rfl, ?_⟩
    cases j with
    | @tup a xs ds hs ha =>
      refine ⟨_, rfl, a, xs, rfl, .inr hs, _, rfl, rfl, ?_⟩
      have e : decide (V.int ((xs.length : Nat) : Int) = V.int n) = decide ((ds.length : Int) = n) := by
        rw [← ha.len]
        exact decide_eq_decide.mpr ⟨V.int.inj, congrArg V.int⟩
      show Q (.bl (decide (V.int ((xs.length : Nat) : Int) = V.int n))) H
      rw [e]
      exact k
    | _ => exact k

end NB

namespace NB
open PySem PySem.Spec PyProof.Rows L2 LamX
/-! ### is_sign -/
theorem sc_is_sign : FnScope ["thing", "letter"] ["thing"] (defScope s_is_sign) := ⟨rfl, rfl, rfl, by decide +kernel, rfl, by decide +kernel, by decide +kernel⟩
def sp_is_sign (K : PySem.W.Frag) : Sp := fun vs H Q _ => ∃ v d, vs = [v] ∧ Jp K H v d ∧ shortD d = true ∧ ∀ H', Same H H' → Q (.bl (signD d)) H'
theorem ok_is_sign {P : Program} {w : World} {K : PySem.W.Frag} {mg : Str → Option Value} {base : Heap} (T : Tx K mg)  : FnOk P w K mg base CX0 1 T.a_is_sign T.d_is_sign ["thing"] (sp_is_sign K) := by
  refine T.F_is_sign.ok sc_is_sign (fun vs H Q E h => ?_) (fun cdv A outer s H vs Q E hr h => ?_)
  · obtain ⟨v, d, rfl, _⟩ := h
    rfl
  · obtain ⟨v, d, rfl, j, hz, k⟩ := h
    refine ⟨_, (pss_cons (ps_if (PW.pt (pw_or (pt_not (pt_val (pe_callB call_isi (by rfl) T.z_isinstance (by decide +kernel) (pa_cons (pv 0) (pa_cons (pe_bltn (v := .ty "str") (u := .type "str") (by rfl) T.z_str (by decide +kernel) rfl) pa_nil))))) (pw_or1 (pt_not (pt_chain op_le op_le pe_int (pe_callB call_len_str (by rfl) T.z_len (by decide +kernel) (pa_cons (pv 0) pa_nil)) (pe_glob rfl T.m_MOST_LETTERS T.r_MOST_LETTERS)))))) (pss_one (ps_ret pe_bl)) pss_nil) (pss_one (ps_ret (pe_callB (cr_all rfl) (by rfl) T.z_all (by decide +kernel) (pa_cons (pe_lc (own := [("letter", 1)]) rfl sc_is_sign.nd (pi_str (pv 0)) (blkOk_by (own := [("letter", 1)]) (N := ["thing", "letter"]) (sc := defScope s_is_sign) (by decide +kernel)) (fun _ _ _ _ _ => (pg_name (i := 1) sc_is_sign.nd rfl (by first | exact Or.inl rfl | exact Or.inr rfl))) (fun _ _ _ _ _ => pts_nil) (fun _ _ _ _ _ => (pe_cmpR op_in_sign (pv 1) (pe_glob rfl T.m_LETTERS T.r_LETTERS) (by rfl)))) pa_nil))))), ?_⟩
    obtain ⟨t, t1, t2⟩ := j.tyStr
    refine ⟨_, rfl, _, _, t, _, _, rfl, .ty "str", t1, t2, _, rfl, ?_⟩
    have k0 : signD d = false → Q (.bl false) H := fun e => e ▸ k H (Same.refl H)
    cases j with
    | str x =>
      have hx := shortD_str hz
      have hzl : 100000 < sizeLine := by decide
      refine ⟨_, rfl, x, rfl, by omega, _, _, rfl, rfl, _, rfl, ?_⟩
      have hn : (x.length : Int) = ((x.length : Nat) : Int) := rfl
      by_cases h1 : (1 : Int) ≤ (x.length : Int)
      · rw [decide_eq_true h1]
        refine ⟨_, _, rfl, rfl, _, rfl, ?_⟩
        by_cases h8 : (x.length : Int) ≤ 8
        · rw [decide_eq_true h8]
          refine ⟨_, rfl, x, rfl, fun D hD => lc_it (walk_str (z := x)) (fun i H' => Same H H' ∧ H' D = some (.lst ((x.cps.toList.take i).map fun c => V.bl (decide (c ∈ lettersZ.cps.toList)))))
            ⟨same_new hD, upd_same⟩ (fun _ _ _ _ => True.intro) (fun i y H1 H' hi q ⟨e, c, hc, ey⟩ => ?_) (fun H' q => ?_)⟩
          · subst e ey
            have hc' : x.cps.toList[i]? = some c := by rw [Array.getElem?_toList]; exact hc
            refine ⟨rfl, _, rfl, c, lettersZ, rfl, rfl, _, q.2, ?_, q.1.upd hD, ?_⟩
            · rw [List.length_map, List.length_take]
              have : x.cps.size = x.length := rfl
              omega
            · rw [upd_same, take_snoc hc', List.map_append]
              rfl
          · have e1 : x.cps.toList.take x.cps.size = x.cps.toList := by rw [← Array.length_toList, List.take_length]
            rw [e1] at q
            refine ⟨D, x.cps.toList.map fun c => decide (c ∈ lettersZ.cps.toList), rfl, .inl (.inl (by rw [q.2, List.map_map]; rfl)), ?_⟩
            rw [all_map]
            have e2 : signD (.str x) = x.cps.toList.all fun c => decide (c ∈ lettersZ.cps.toList) := by
              show (decide (1 ≤ x.length) && (decide (x.length ≤ 8) && _)) = _
              rw [decide_eq_true (by omega : 1 ≤ x.length), decide_eq_true (by omega : x.length ≤ 8)]
              rfl
            have z := k _ q.1
            rw [e2] at z
            exact z
        · rw [decide_eq_false h8]
          refine k0 ?_
          show (decide (1 ≤ x.length) && (decide (x.length ≤ 8) && _)) = _
          rw [decide_eq_false (by omega : ¬ x.length ≤ 8), Bool.false_and, Bool.and_false]
      · rw [decide_eq_false h1]
        refine ⟨_, rfl, k0 ?_⟩
        show (decide (1 ≤ x.length) && (decide (x.length ≤ 8) && _)) = _
        rw [decide_eq_false (by omega : ¬ 1 ≤ x.length), Bool.false_and]
    | _ => exact k0 rfl

end NB

namespace NB
open PySem PySem.Spec PyProof.Rows L2 LamX
/-! ### is_placed_sign -/
theorem sc_is_placed_sign : FnScope ["thing"] ["thing"] (defScope s_is_placed_sign) := ⟨rfl, rfl, rfl, by decide +kernel, rfl, by decide +kernel, by decide +kernel⟩
def sp_is_placed_sign (K : PySem.W.Frag) : Sp := fun vs H Q _ => ∃ v d, vs = [v] ∧ Jp K H v d ∧ shortD d = true ∧ ∀ H', Same H H' → Q (.bl (placedD d)) H'
theorem ok_is_placed_sign {P : Program} {w : World} {K : PySem.W.Frag} {mg : Str → Option Value} {base : Heap} (T : Tx K mg)  : FnOk P w K mg base CX0 3 T.a_is_placed_sign T.d_is_placed_sign ["thing"] (sp_is_placed_sign K) := by
  refine T.F_is_placed_sign.ok sc_is_placed_sign (fun vs H Q E h => ?_) (fun cdv A outer s H vs Q E hr h => ?_)
  · obtain ⟨v, d, rfl, _⟩ := h
    rfl
  · obtain ⟨v, d, rfl, j, hz, k⟩ := h
    refine ⟨_, (pss_one (ps_ret (pe_and (pe_call (ok_is_tuple_of T) (hr.mono (by first | decide | omega)) rfl T.m_is_tuple_of T.F_is_tuple_of.kp T.b_is_tuple_of .nil pass0 (pa_cons (pv 0) (pa_cons pe_int pa_nil))) (pe_and (pe_call (ok_is_sign T) (hr.mono (by first | decide | omega)) rfl T.m_is_sign T.F_is_sign.kp T.b_is_sign .nil pass0 (pa_cons (pe_ix ix_tup (pv 0) pe_int (fun _ _ => rfl)) pa_nil)) (pe_one (pe_call (ok_is_number_below T) (hr.mono (by first | decide | omega)) rfl T.m_is_number_below T.F_is_number_below.kp T.b_is_number_below .nil pass0 (pa_cons (pe_ix ix_tup (pv 0) pe_int (fun _ _ => rfl)) (pa_cons (pe_op op_add (pe_glob rfl T.m_MOST_PLACES T.r_MOST_PLACES) pe_int) pa_nil)))))))), ?_⟩
    refine ⟨_, rfl, v, d, 2, rfl, j, _, rfl, ?_⟩
    have k0 : placedD d = false → Q (.bl false) H := fun e => e ▸ k H (Same.refl H)
    cases j with
    | @tup a xs ds hs ha =>
      by_cases hl : ds.length = 2
      · obtain ⟨vs, vn, s, n, rfl, rfl, h1, h2⟩ := ha.two hl
        have q := (shortD_tup hz).2
        refine ⟨_, rfl, a, _, _, _, rfl, rfl, hs, atI_nat (j := 0) rfl, vs, s, rfl, h1, shortsD_get (i := 0) q rfl, fun H1 s1 => ⟨_, rfl, ?_⟩⟩
        have kk := k H1 s1
        have e : placedD (.tuple [s, n]) = (signD s && belowD 3 n) := rfl
        rw [e] at kk
        cases e1 : signD s with
        | false =>
          rw [e1] at kk
          exact kk
        | true =>
          rw [e1] at kk
          refine ⟨_, rfl, a, _, _, _, rfl, rfl, SqT.same hs s1, atI_nat (j := 1) rfl, _, _, rfl, rfl, vn, n, 3, rfl, Jp.same s1 _ _ h2, ?_⟩
          exact kk
      · have e1 : (isTupD (.tuple ds) && decide (((itemsD (.tuple ds)).length : Int) = 2)) = false := by
          show (true && decide ((ds.length : Int) = 2)) = false
          rw [decide_eq_false (by omega)]
          rfl
        rw [e1]
        exact k0 (placedD_ne hl)
    | _ => exact k0 rfl

end NB

namespace NB
open PySem PySem.Spec PyProof.Rows L2 LamX
/-! ### are_signs -/
theorem sc_are_signs : FnScope ["thing", "pair", "k", "_", "places"] ["thing"] (defScope s_are_signs) := ⟨rfl, rfl, rfl, by decide +kernel, rfl, by decide +kernel, by decide +kernel⟩
def sp_are_signs (K : PySem.W.Frag) : Sp := fun vs H Q _ => ∃ v d, vs = [v] ∧ Jp K H v d ∧ shortD d = true ∧ ∀ H', Same H H' → Q (.bl (signsD d)) H'
theorem ok_are_signs {P : Program} {w : World} {K : PySem.W.Frag} {mg : Str → Option Value} {base : Heap} (T : Tx K mg)  : FnOk P w K mg base CX0 4 T.a_are_signs T.d_are_signs ["thing"] (sp_are_signs K) := by
  refine T.F_are_signs.ok sc_are_signs (fun vs H Q E h => ?_) (fun cdv A outer s H vs Q E hr h => ?_)
  · obtain ⟨v, d, rfl, _⟩ := h
    rfl
  · obtain ⟨v, d, rfl, j, hz, k⟩ := h
    refine ⟨_, (pss_cons (ps_if (PW.pt (pw_or (pt_not (pt_val (pe_callB call_isi (by rfl) T.z_isinstance (by decide +kernel) (pa_cons (pv 0) (pa_cons (pe_bltn (v := .ty "tuple") (u := .type "tuple") (by rfl) T.z_tuple (by decide +kernel) rfl) pa_nil))))) (pw_or1 (pt_not (pt_chain op_le op_le pe_int (pe_callB call_len_seq (by rfl) T.z_len (by decide +kernel) (pa_cons (pv 0) pa_nil)) (pe_glob rfl T.m_MOST_SIGNS T.r_MOST_SIGNS)))))) (pss_one (ps_ret pe_bl)) pss_nil) (pss_cons (ps_if (pt_not (pt_val (pe_callB (cr_all rfl) (by rfl) T.z_all (by decide +kernel) (pa_cons (pe_lc (own := [("pair", 1)]) rfl sc_are_signs.nd (pi_tup (pv 0)) (blkOk_by (own := [("pair", 1)]) (N := ["thing", "pair", "k", "_", "places"]) (sc := defScope s_are_signs) (by decide +kernel)) (fun _ _ _ _ _ => (pg_name (i := 1) sc_are_signs.nd rfl (by first | exact Or.inl rfl | exact Or.inr rfl))) (fun _ _ _ _ _ => pts_nil) (fun _ _ _ _ _ => (pe_call (ok_is_placed_sign T) (hr.mono (by first | decide | omega)) rfl T.m_is_placed_sign T.F_is_placed_sign.kp T.b_is_placed_sign .nil pass0 (pa_cons (pv 1) pa_nil)))) pa_nil)))) (pss_one (ps_ret pe_bl)) pss_nil) (pss_cons (ps_if (pt_not (pt_val (pe_callB (cr_all rfl) (by rfl) T.z_all (by decide +kernel) (pa_cons (pe_lc (own := [("k", 2)]) rfl sc_are_signs.nd (pi_range1 (by rfl) T.z_range (pa_cons (pe_op op_sub (pe_callB call_len_seq (by rfl) T.z_len (by decide +kernel) (pa_cons (pv 0) pa_nil)) pe_int) pa_nil)) (blkOk_by (own := [("k", 2)]) (N := ["thing", "pair", "k", "_", "places"]) (sc := defScope s_are_signs) (by decide +kernel)) (fun _ _ _ _ _ => (pg_name (i := 2) sc_are_signs.nd rfl (by first | exact Or.inl rfl | exact Or.inr rfl))) (fun _ _ _ _ _ => pts_nil) (fun _ _ _ _ _ => (pe_cmpR op_lt_str (pe_ix (show IxR _ (rIxT K) from ix_tup) (pe_ix (show IxR _ (rIxT K) from ix_tup) (pv 0) (pv 2) (fun _ _ => rfl)) pe_int (fun _ _ => rfl)) (pe_ix (show IxR _ (rIxT K) from ix_tup) (pe_ix (show IxR _ (rIxT K) from ix_tup) (pv 0) (pe_op op_add (pv 2) pe_int) (fun _ _ => rfl)) pe_int (fun _ _ => rfl)) (nomark _)))) pa_nil)))) (pss_one (ps_ret pe_bl)) pss_nil) (pss_one (ps_ret (pe_callB (cr_any rfl) (by rfl) T.z_any (by decide +kernel) (pa_cons (pe_lc (own := [("_", 3), ("places", 4)]) rfl sc_are_signs.nd (pi_tup (pv 0)) (blkOk_by (own := [("_", 3), ("places", 4)]) (N := ["thing", "pair", "k", "_", "places"]) (sc := defScope s_are_signs) (by decide +kernel)) (fun _ _ _ _ _ => (show PG _ _ (gTup K 2 (gCons (gName 3) (gCons (gName 4) gNil))) from pg_tup rfl (pgs_cons (pg_name (i := 3) sc_are_signs.nd rfl (by first | exact Or.inl rfl | exact Or.inr rfl)) (pgs_cons (pg_name (i := 4) sc_are_signs.nd rfl (by first | exact Or.inl rfl | exact Or.inr rfl)) pgs_nil)))) (fun _ _ _ _ _ => pts_nil) (fun _ _ _ _ _ => (pe_cmpR op_eq (pv 4) pe_int (nomark _)))) pa_nil))))))), ?_⟩
    obtain ⟨t, t1, t2⟩ := j.tyTup
    refine ⟨_, rfl, _, _, t, _, _, rfl, .ty "tuple", t1, t2, _, rfl, ?_⟩
    have k0 : ∀ H', Same H H' → signsD d = false → Q (.bl false) H' := fun H' s' e => e ▸ k H' s'
    cases j with
    | @tup a xs ds hs ha =>
      have hzl : 100000 < sizeLine := by decide
      have hd := (shortD_tup hz).1
      have hlen := ha.len
      have ef : signsD (.tuple ds) = ((decide (1 ≤ ds.length) && decide (ds.length ≤ 12)) && (ds.all placedD && (ascS (ds.map sgD) && ds.any fun p => decide (plD p = 0)))) := rfl
      refine ⟨_, rfl, a, xs, rfl, .inr hs, _, _, rfl, rfl, _, rfl, ?_⟩
      by_cases h1 : (1 : Int) ≤ (xs.length : Int)
      · rw [decide_eq_true h1]
        refine ⟨_, _, rfl, rfl, _, rfl, ?_⟩
        by_cases h12 : (xs.length : Int) ≤ 12
        · rw [decide_eq_true h12]
          rw [decide_eq_true (by omega : 1 ≤ ds.length), decide_eq_true (by omega : ds.length ≤ 12)] at ef
          -- all are placed signs
          refine ⟨_, rfl, a, rfl, ⟨_, hs⟩, fun D hD => lc_tup (K := K) (a := a) (xs := xs) (fun i H' => Same H H' ∧ H' D = some (.lst ((ds.take i).map fun d => V.bl (placedD d))))
            ⟨same_new hD, upd_same⟩ (fun i H' _ q => SqT.same hs q.1) (fun i x H' hx q => ?_) (fun H1 q1 => ?_)⟩
          · obtain ⟨d, hd, jd⟩ := ha.get hx
            have hi : i < xs.length := (List.getElem?_eq_some_iff.mp hx).1
            refine ⟨rfl, _, rfl, x, d, rfl, Jp.same q.1 _ _ jd, shortsD_get (shortD_tup hz).2 hd, fun H2 s2 => ⟨_, s2 _ _ q.2, ?_, (q.1.trans s2).upd hD, ?_⟩⟩
            · rw [List.length_map, List.length_take]
              omega
            · rw [upd_same, take_snoc hd, List.map_append]
              rfl
          · rw [hlen, List.take_length] at q1
            refine ⟨D, ds.map placedD, rfl, .inl (.inl (by rw [q1.2, List.map_map]; rfl)), _, rfl, ?_⟩
            rw [all_map]
            cases ep : ds.all placedD with
            | false => exact k0 _ q1.1 (by rw [ef, ep]; rfl)
            | true =>
              rw [ep] at ef
              have g : ∀ i : Nat, i < ds.length → ∃ b, atI xs ((i : Nat) : Int) = some (.ref b) ∧ SqT K H b [.str ((ds.map sgD).getD i ""), .int ((ds.map plD).getD i 0)] := fun i hi => by
                obtain ⟨b, b1, b2⟩ := ha.placed ep hi
                exact ⟨b, atI_nat b1, b2⟩
              -- the signs ascend
              have en : ((xs.length : Int) - 1).toNat = (ds.map sgD).length - 1 := by rw [List.length_map]; omega
              have hsl : (ds.map sgD).length = ds.length := List.length_map _
              refine ⟨_, rfl, a, _, rfl, .inr (SqT.same hs q1.1), _, _, rfl, rfl, _, rfl, by omega, by omega, fun D2 hD2 => ?_⟩
              have hD20 : H D2 = none := q1.1.free hD2
              rw [en]
              refine lc_range (lo := 0) (n := (ds.map sgD).length - 1) (fun i H' => Same H H' ∧ H' D2 = some (.lst ((List.range i).map fun k => V.bl (strLt ((ds.map sgD).getD k "") ((ds.map sgD).getD (k + 1) "")))))
                ⟨q1.1.upd hD20, upd_same⟩ (fun i H' hi q => ?_) (fun H2 q2 => ?_)
              · obtain ⟨b, b1, b2⟩ := g i (by omega)
                obtain ⟨c, c1, c2⟩ := g (i + 1) (by omega)
                have e0 : (0 : Int) + (i : Int) = ((i : Nat) : Int) := by omega
                have e1 : (0 : Int) + (i : Int) + 1 = ((i + 1 : Nat) : Int) := by omega
                refine ⟨rfl, _, rfl, _, rfl, a, _, _, _, rfl, rfl, SqT.same hs q.1, (by rw [e0]; exact b1), b, _, _, _, rfl, rfl, SqT.same b2 q.1, atI_nat (j := 0) rfl,
                  _, rfl, _, rfl, _, _, rfl, rfl, a, _, _, _, rfl, rfl, SqT.same hs q.1, (by rw [e1]; exact c1), c, _, _, _, rfl, rfl, SqT.same c2 q.1, atI_nat (j := 0) rfl, _, _, rfl, rfl, _, q.2, ?_, q.1.upd hD20, ?_⟩
                · rw [List.length_map, List.length_range]
                  omega
                · rw [upd_same, List.range_succ, List.map_append]
                  rfl
              · refine ⟨D2, (List.range ((ds.map sgD).length - 1)).map fun k => strLt ((ds.map sgD).getD k "") ((ds.map sgD).getD (k + 1) ""), rfl, .inl (.inl (by rw [q2.2, List.map_map]; rfl)), _, rfl, ?_⟩
                rw [all_map]
                cases ea : ascS (ds.map sgD) with
                | false =>
                  have ea' := ea
                  unfold ascS at ea'
                  rw [ea']
                  exact k0 _ q2.1 (by rw [ef, ea]; rfl)
                | true =>
                  rw [ea] at ef
                  unfold ascS at ea
                  rw [ea]
                  -- one has no places
                  refine ⟨_, rfl, a, rfl, ⟨_, SqT.same hs q2.1⟩, fun D3 hD3 => ?_⟩
                  have hD30 : H D3 = none := q2.1.free hD3
                  refine lc_tup (K := K) (a := a) (xs := xs) (fun i H' => Same H H' ∧ H' D3 = some (.lst ((ds.take i).map fun d => V.bl (decide (plD d = 0)))))
                    ⟨q2.1.upd hD30, upd_same⟩ (fun i H' _ q => SqT.same hs q.1) (fun i x H' hx q => ?_) (fun H3 q3 => ?_)
                  · have hi : i < ds.length := by
                      have := (List.getElem?_eq_some_iff.mp hx).1
                      omega
                    obtain ⟨b, b1, b2⟩ := ha.placed ep hi
                    rw [hx] at b1
                    cases b1
                    have hdi : ds[i]? = some ds[i] := List.getElem?_eq_getElem hi
                    have epl : (ds.map plD).getD i 0 = plD ds[i] := by simp [hi]
                    rw [epl] at b2
                    have ey : decide (V.int (plD ds[i]) = V.int 0) = decide (plD ds[i] = 0) := decide_eq_decide.mpr ⟨V.int.inj, congrArg V.int⟩
                    refine ⟨b, _, rfl, SqT.same b2 q.1, rfl, _, _, rfl, _, _, rfl, rfl, rfl, _, rfl, rfl, _, q.2, ?_, q.1.upd hD30, ?_⟩
                    · rw [List.length_map, List.length_take]
                      omega
                    · rw [upd_same, take_snoc hdi, List.map_append, ey]
                      rfl
                  · rw [hlen, List.take_length] at q3
                    refine ⟨D3, ds.map fun d => decide (plD d = 0), rfl, .inl (.inl (by rw [q3.2, List.map_map]; rfl)), ?_⟩
                    rw [any_map]
                    have z := k _ q3.1
                    rw [ef] at z
                    exact z
        · rw [decide_eq_false h12]
          exact k0 _ (Same.refl H) (by rw [ef, decide_eq_false (by omega : ¬ ds.length ≤ 12), Bool.and_false, Bool.false_and])
      · rw [decide_eq_false h1]
        exact ⟨_, rfl, k0 _ (Same.refl H) (by rw [ef, decide_eq_false (by omega : ¬ 1 ≤ ds.length), Bool.false_and, Bool.false_and])⟩
    | _ => exact k0 _ (Same.refl H) rfl

end NB

namespace NB
open PySem PySem.Spec PyProof.Rows L2 LamX
/-! ### fits -/
theorem sc_fits : FnScope ["places", "thing", "left", "node", "sign"] ["places", "thing"] (defScope s_fits) := ⟨rfl, rfl, rfl, by decide +kernel, rfl, by decide +kernel, by decide +kernel⟩
def sp_fits (K : PySem.W.Frag) : Sp := fun vs H Q _ => ∃ pa v d pl, vs = [.ref pa, v] ∧ PlcAt H pa pl ∧ Jp K H v d ∧ shortD d = true ∧ cntD d ≤ 100000 ∧ ∀ H', Same H H' → Q (.bl (fitsD pl d)) H'
def fitsW (K : PySem.W.Frag) (pa : Addr) (v : V) (l : Addr) (pl : List (Str × Int)) (d : PyData) (H : Hp) (m : Nat) (σ : L2.St) (H' : Hp) : Prop :=
  ∃ zs es w1 w2, σ = [some (.ref pa), some v, some (.ref l), w1, w2] ∧ Same H H' ∧ H' l = some (.lst zs.reverse) ∧ JpAll K H zs es ∧ shortsD es = true ∧ m = cntsD es ∧ cntsD es ≤ 100000 ∧ fitsA pl es = fitsD pl d
theorem ok_fits {P : Program} {w : World} {K : PySem.W.Frag} {mg : Str → Option Value} {base : Heap} (T : Tx K mg)  : FnOk P w K mg base CX0 1 T.a_fits T.d_fits ["places", "thing"] (sp_fits K) := by
  refine T.F_fits.ok sc_fits (fun vs H Q E h => ?_) (fun cdv A outer s H vs Q E hr h => ?_)
  · obtain ⟨pa, v, d, pl, rfl, _⟩ := h
    rfl
  · obtain ⟨pa, v, d, pl, rfl, hp, j, hsh, hz, k⟩ := h
    have hu := hu_of hr
    have hzl : 100000 < sizeLine := by decide
    refine ⟨_, (pss_cons (ps_set (i := 2) sc_fits.nd rfl (by first | exact Or.inl rfl | exact Or.inr rfl) (pe_lst (pa_cons (pv 1) pa_nil))) (pss_cons (ps_while PassesOwn.never (pt_truth (pv 2) (by intro _; rfl)) (pss_cons (ps_set (i := 3) sc_fits.nd rfl (by first | exact Or.inl rfl | exact Or.inr rfl) (pe_bm0 PySem.F.plainAttrs_list PySem.F.slot_list_pop PySem.F.type_list_pop mt_pop (pv 2))) (pss_cons (ps_if (PW.pt (pw_or (pt_not (pt_val (pe_callB call_isi (by rfl) T.z_isinstance (by decide +kernel) (pa_cons (pv 3) (pa_cons (pe_bltn (v := .ty "tuple") (u := .type "tuple") (by rfl) T.z_tuple (by decide +kernel) rfl) pa_nil))))) (pw_or1 (pt_cmpR op_eq (pe_callB call_len_seq (by rfl) T.z_len (by decide +kernel) (pa_cons (pv 3) pa_nil)) pe_int (nomark _))))) (pss_one (ps_ret pe_bl)) pss_nil) (pss_cons (ps_set (i := 4) sc_fits.nd rfl (by first | exact Or.inl rfl | exact Or.inr rfl) (pe_ix ix_tup (pv 3) pe_int (fun _ _ => rfl))) (pss_cons (ps_if (PW.pt (pw_or (pt_not (pt_val (pe_callB call_isi (by rfl) T.z_isinstance (by decide +kernel) (pa_cons (pv 4) (pa_cons (pe_bltn (v := .ty "str") (u := .type "str") (by rfl) T.z_str (by decide +kernel) rfl) pa_nil))))) (pw_or (pt_cmp (pc_dnotin hu (pv 4) (pv 0)) (by rfl)) (pw_or1 (pt_cmpR op_ne (pe_callB call_len_seq (by rfl) T.z_len (by decide +kernel) (pa_cons (pv 3) pa_nil)) (pe_op op_add (pe_dget hu (pv 0) (pv 4) (fun _ _ => rfl)) pe_int) (nomark _)))))) (pss_one (ps_ret pe_bl)) pss_nil) (pss_one (ps_expr (pe_bm PySem.F.plainAttrs_list PySem.F.slot_list_extend PySem.F.type_list_extend mt_extendT (pv 2) (pa_cons (pe_slice sl_tupA (pv 3) (po_some pe_int) po_none) pa_nil))))))))) (pss_one (ps_ret pe_bl)))), ?_⟩
    refine ⟨_, rfl, (by show 1 ≤ sizeLine; decide), fun l hl => ?_⟩
    refine ⟨fitsW K pa v l pl d H, ⟨cntsD [d], [v], [d], none, none, rfl, same_new hl, upd_same, .cons j .nil, by rw [shortsD, hsh, shortsD]; rfl, rfl, by rw [cntsD, cntsD]; exact hz, by rw [fitsA, fitsA, Bool.and_true]⟩, ?_⟩
    rintro m σ H' ⟨zs, es, w1, w2, rfl, s1, h1, ja, hss, rfl, hc, hf⟩
    refine ⟨_, rfl, _, .inl ⟨zs.reverse, .inl (.inl h1), rfl⟩, ?_⟩
    cases ja with
    | nil =>
      refine k _ s1 |> fun z => ?_
      have e : fitsD pl d = true := hf.symm.trans (by rw [fitsA])
      rw [e] at z
      exact z
    | @cons y zs e es j1 ja =>
      have eb : (!((y :: zs).reverse.isEmpty)) = true := by rw [isEmpty_rev]; rfl
      rw [eb]
      refine ⟨fun σ' H' => ∃ m', m' < cntsD (e :: es) ∧ fitsW K pa v l pl d H m' σ' H', fun _ _ z => z, ?_⟩
      have k0 : fitsD pl e = false → ∀ H', Same H H' → Q (.bl false) H' := fun q H' s' => by
        have z := k H' s'
        rw [← hf, fitsA, q] at z
        exact z
      have hsh1 : shortD e = true ∧ shortsD es = true := Bool.and_eq_true_iff.mp (show (shortD e && shortsD es) = true from hss)
      refine ⟨_, rfl, .inl ⟨rfl, _, .inl (.inl h1)⟩, l, _, y, rfl, rfl, h1, last_rev y zs, ?_⟩
      rw [drop_rev]
      have s2 : Same H (upd H' l (.lst zs.reverse)) := s1.upd hl
      have j2 := Jp.same s2 _ _ j1
      obtain ⟨t, t1, t2⟩ := j2.tyTup
      refine ⟨_, rfl, _, _, t, _, _, rfl, .ty "tuple", t1, t2, _, rfl, ?_⟩
      cases j1 with
      | @tup a xs ds hs ha =>
        refine ⟨_, rfl, a, xs, rfl, .inr (SqT.same hs s2), rfl, _, rfl, ?_⟩
        cases ha with
        | nil => exact k0 (by unfold fitsD; rfl) _ s2
        | @cons y0 ys d0 ps j0 ha =>
          have e0 : decide (V.int (((y0 :: ys).length : Nat) : Int) = V.int 0) = false := decide_eq_false fun z => by
            have := V.int.inj z
            rw [List.length_cons] at this
            omega
          rw [e0]
          refine ⟨_, rfl, a, _, _, _, rfl, rfl, SqT.same hs s2, atI_nat (j := 0) rfl, ?_⟩
          obtain ⟨u, u1, u2⟩ := (Jp.same s2 _ _ j0).tyStr
          refine ⟨_, rfl, _, _, u, _, _, rfl, .ty "str", u1, u2, _, rfl, ?_⟩
          cases j0 with
          | str x =>
            obtain ⟨kvs, hk1, hk2⟩ := hp.same s2
            refine ⟨_, rfl, _, rfl, pa, _, rfl, DGet.k (k := Sum.inr x) hk1, _, rfl, ?_⟩
            rw [hk2]
            rw [fitsD_node] at k0
            cases e1 : lookS pl x with
            | none =>
              rw [e1] at k0
              exact k0 rfl _ s2
            | some n =>
              have hg : DGet (upd H' l (.lst zs.reverse)) pa (.str x) (some (.int n)) := by
                have g := DGet.k (k := Sum.inr x) hk1
                rw [hk2, e1] at g
                exact g
              refine ⟨_, rfl, a, _, rfl, .inr (SqT.same hs s2), _, rfl, _, rfl, pa, _, rfl, hg, _, _, rfl, rfl, rfl, _, rfl, ?_⟩
              rw [e1] at k0
              by_cases hn : (ps.length : Int) = n
              · have e2 : (!decide (V.int (((V.str x :: ys).length : Nat) : Int) = V.int (n + 1))) = false := by
                  have := ha.len
                  rw [decide_eq_true]
                  · rfl
                  · rw [List.length_cons, this, ← hn]
                    rfl
                show if (!decide (V.int (((V.str x :: ys).length : Nat) : Int) = V.int (n + 1))) = true then _ else _
                rw [e2]
                refine ⟨_, rfl, .inl ⟨rfl, _, .inl (.inl upd_same)⟩, _, rfl, 1, rfl, a, _, rfl, SqT.same hs s2, fun z => absurd z (whole_not ys.length none), fun _ p np => ?_⟩
                have nlp : l ≠ p := fun q => by
                  rw [q, upd_same] at np
                  cases np
                have hsz : cntsD (.tuple (.str x :: ps) :: es) = 1 + (1 + cntsD ps) + cntsD es := by rw [cntsD, cntD, cntsD, cntD_str]
                have hl1 := cntsD_len ps
                have hl2 := cntsD_len es
                have hl3 := ja.len
                have hl4 := ha.len
                rw [cutV_tail (α := V)]
                refine ⟨l, p, zs.reverse, ys, rfl, rfl, Eq.trans (upd_ne nlp) upd_same, .inl (.inl upd_same), ?_, ?_⟩
                · rw [List.length_reverse]
                  omega
                have hm : cntsD (ps.reverse ++ es) = cntsD ps + cntsD es := by rw [cntsD_app, cntsD_rev]
                refine ⟨cntsD (ps.reverse ++ es), by omega, ys.reverse ++ zs, ps.reverse ++ es, _, _, rfl, (s2.trans (same_new np)).upd hl, ?_, ha.rev.app ja, ?_, rfl, by omega, ?_⟩
                · rw [upd_same, rev_app]
                · have q := (shortD_tup hsh1.1).2
                  exact shortsD_mix (Bool.and_eq_true_iff.mp (show (shortD (.str x) && shortsD ps) = true from q)).2 hsh1.2
                · rw [← hf, fitsA_app, fitsA_rev, fitsA, fitsD_node, e1]
                  show _ = ((decide ((ps.length : Int) = n) && fitsA pl ps) && fitsA pl es)
                  rw [decide_eq_true hn, Bool.true_and]
              · have e2 : (!decide (V.int (((V.str x :: ys).length : Nat) : Int) = V.int (n + 1))) = true := by
                  have := ha.len
                  rw [decide_eq_false]
                  · rfl
                  · intro z
                    have z := V.int.inj z
                    rw [List.length_cons] at z
                    omega
                show if (!decide (V.int (((V.str x :: ys).length : Nat) : Int) = V.int (n + 1))) = true then _ else _
                rw [e2]
                refine k0 ?_ _ s2
                show (decide ((ps.length : Int) = n) && fitsA pl ps) = false
                rw [decide_eq_false hn, Bool.false_and]
          | _ => exact k0 (by unfold fitsD; rfl) _ s2
      | _ => exact k0 (by unfold fitsD; rfl) _ s2

end NB

namespace NB
open PySem PySem.Spec PyProof.Rows L2 LamX
/-! ### fits_line -/
theorem sc_fits_line : FnScope ["places", "thing"] ["places", "thing"] (defScope s_fits_line) := ⟨rfl, rfl, rfl, by decide +kernel, rfl, by decide +kernel, by decide +kernel⟩
def sp_fits_line (K : PySem.W.Frag) : Sp := fun vs H Q _ => ∃ pa v d pl, vs = [.ref pa, v] ∧ PlcAt H pa pl ∧ Jp K H v d ∧ shortD d = true ∧ cntD d ≤ 100000 ∧ ∀ H', Same H H' → Q (.bl (lineD pl d)) H'
theorem ok_fits_line {P : Program} {w : World} {K : PySem.W.Frag} {mg : Str → Option Value} {base : Heap} (T : Tx K mg)  : FnOk P w K mg base CX0 2 T.a_fits_line T.d_fits_line ["places", "thing"] (sp_fits_line K) := by
  refine T.F_fits_line.ok sc_fits_line (fun vs H Q E h => ?_) (fun cdv A outer s H vs Q E hr h => ?_)
  · obtain ⟨pa, v, d, pl, rfl, _⟩ := h
    rfl
  · obtain ⟨pa, v, d, pl, rfl, hp, j, hz, hc, k⟩ := h
    refine ⟨_, (pss_one (ps_ret (pe_and (pe_call (ok_is_tuple_of T) (hr.mono (by first | decide | omega)) rfl T.m_is_tuple_of T.F_is_tuple_of.kp T.b_is_tuple_of .nil pass0 (pa_cons (pv 1) (pa_cons pe_int pa_nil))) (pe_and (pe_call (ok_fits T) (hr.mono (by first | decide | omega)) rfl T.m_fits T.F_fits.kp T.b_fits .nil pass0 (pa_cons (pv 0) (pa_cons (pe_ix ix_tup (pv 1) pe_int (fun _ _ => rfl)) pa_nil))) (pe_one (pe_call (ok_fits T) (hr.mono (by first | decide | omega)) rfl T.m_fits T.F_fits.kp T.b_fits .nil pass0 (pa_cons (pv 0) (pa_cons (pe_ix ix_tup (pv 1) pe_int (fun _ _ => rfl)) pa_nil)))))))), ?_⟩
    refine ⟨_, rfl, v, d, 2, rfl, j, _, rfl, ?_⟩
    have k0 : lineD pl d = false → Q (.bl false) H := fun e => e ▸ k H (Same.refl H)
    cases j with
    | @tup a xs ds hs ha =>
      by_cases hl : ds.length = 2
      · obtain ⟨va, vb, s, n, rfl, rfl, h1, h2⟩ := ha.two hl
        have q := (shortD_tup hz).2
        have hc2 : 1 + (cntD s + (cntD n + 0)) ≤ 100000 := by
          rw [cntD, cntsD, cntsD, cntsD] at hc
          exact hc
        refine ⟨_, rfl, _, rfl, a, _, _, _, rfl, rfl, hs, atI_nat (j := 0) rfl, pa, va, s, pl, rfl, hp, h1, shortsD_get (i := 0) q rfl, by omega, fun H1 s1 => ⟨_, rfl, ?_⟩⟩
        have e : lineD pl (.tuple [s, n]) = (fitsD pl s && fitsD pl n) := rfl
        rw [e] at k
        cases e1 : fitsD pl s with
        | false =>
          have kk := k H1 s1
          rw [e1] at kk
          exact kk
        | true =>
          rw [e1] at k
          exact ⟨_, rfl, _, rfl, a, _, _, _, rfl, rfl, SqT.same hs s1, atI_nat (j := 1) rfl, pa, vb, n, pl, rfl, hp.same s1, Jp.same s1 _ _ h2, shortsD_get (i := 1) q rfl, by omega, fun H2 s2 => k H2 (s1.trans s2)⟩
      · have e1 : (isTupD (.tuple ds) && decide (((itemsD (.tuple ds)).length : Int) = 2)) = false := by
          show (true && decide ((ds.length : Int) = 2)) = false
          rw [decide_eq_false (by omega)]
          rfl
        rw [e1]
        exact k0 (lineD_ne hl)
    | _ => exact k0 rfl

end NB

namespace NB
open PySem PySem.Spec PyProof.Rows L2 LamX
/-! ### nodes -/
theorem sc_nodes : FnScope ["term", "found", "left", "node"] ["term"] (defScope s_nodes) := ⟨rfl, rfl, rfl, by decide +kernel, rfl, by decide +kernel, by decide +kernel⟩
def sp_nodes (K : PySem.W.Frag) : Sp := fun vs H Q _ => ∃ v t, vs = [v] ∧ Dp K H v (Tm.data t) ∧ (Tm.pre t).length ≤ 100000 ∧ ∀ H' p us, Same H H' → H p = none → H' p = some (.lst us) → DpAll K H us (Tm.datas (Tm.pre t)) → Q (.ref p) H'
def nodesW (K : PySem.W.Frag) (v : V) (fo l : Addr) (t : Tm) (H : Hp) (m : Nat) (σ : L2.St) (H' : Hp) : Prop :=
  ∃ zs ts us fs w, σ = [some v, some (.ref fo), some (.ref l), w] ∧ Same H H' ∧ H' fo = some (.lst us) ∧ H' l = some (.lst zs.reverse) ∧ DpAll K H zs (Tm.datas ts) ∧ DpAll K H us (Tm.datas fs) ∧ fs ++ Tm.pres ts = Tm.pre t ∧ m = (Tm.pres ts).length
theorem ok_nodes {P : Program} {w : World} {K : PySem.W.Frag} {mg : Str → Option Value} {base : Heap} (T : Tx K mg)  : FnOk P w K mg base CX0 1 T.a_nodes T.d_nodes ["term"] (sp_nodes K) := by
  refine T.F_nodes.ok sc_nodes (fun vs H Q E h => ?_) (fun cdv A outer s H vs Q E hr h => ?_)
  · obtain ⟨v, t, rfl, _⟩ := h
    rfl
  · obtain ⟨v, t, rfl, hd, hn, k⟩ := h
    have hzl : 100000 < sizeLine := by decide
    refine ⟨_, (pss_cons (ps_set (i := 1) sc_nodes.nd rfl (by first | exact Or.inl rfl | exact Or.inr rfl) (pe_lst pa_nil)) (pss_cons (ps_set (i := 2) sc_nodes.nd rfl (by first | exact Or.inl rfl | exact Or.inr rfl) (pe_lst (pa_cons (pv 0) pa_nil))) (pss_cons (ps_while PassesOwn.never (pt_truth (pv 2) (by intro _; rfl)) (pss_cons (ps_set (i := 3) sc_nodes.nd rfl (by first | exact Or.inl rfl | exact Or.inr rfl) (pe_bm0 PySem.F.plainAttrs_list PySem.F.slot_list_pop PySem.F.type_list_pop mt_pop (pv 2))) (pss_cons (ps_expr (pe_bm PySem.F.plainAttrs_list PySem.F.slot_list_append PySem.F.type_list_append mt_append (pv 1) (pa_cons (pv 3) pa_nil))) (pss_one (ps_expr (pe_bm PySem.F.plainAttrs_list PySem.F.slot_list_extend PySem.F.type_list_extend mt_extendT (pv 2) (pa_cons (pe_back1 (pv 3)) pa_nil))))))) (pss_one (ps_ret (pv 1)))))), ?_⟩
    refine ⟨Nat.zero_le _, fun fo nfo => ⟨_, rfl, (by show 1 ≤ sizeLine; decide), fun l nl => ?_⟩⟩
    obtain ⟨nfl, nl0⟩ := none_ne nl
    refine ⟨nodesW K v fo l t H, ⟨(Tm.pres [t]).length, [v], [t], [], [], none, rfl, (same_new nfo).upd nl0, by rw [upd_ne nfl, upd_same], upd_same, .cons hd .nil, .nil, by rw [Tm.pres, Tm.pres, List.append_nil]; rfl, rfl⟩, ?_⟩
    rintro m σ H' ⟨zs, ts, us, fs, w1, rfl, s1, h1, h2, dz, du, he, rfl⟩
    refine ⟨_, rfl, _, .inl ⟨zs.reverse, .inl (.inl h2), rfl⟩, ?_⟩
    match ts, zs, dz, he with
    | [], zs, dz, he =>
      have ez := DpAll.nilD dz
      subst ez
      refine ⟨_, rfl, k _ fo us s1 nfo h1 ?_⟩
      rw [← he, Tm.pres, List.append_nil]
      exact du
    | t1 :: ts, zs, dz, he =>
      obtain ⟨y, zs, rfl, d1, dz2⟩ := DpAll.consD (by rw [Tm.datas] at dz; exact dz)
      have eb : (!((y :: zs).reverse.isEmpty)) = true := by rw [isEmpty_rev]; rfl
      rw [eb]
      refine ⟨fun σ' H' => ∃ m', m' < (Tm.pres (t1 :: ts)).length ∧ nodesW K v fo l t H m' σ' H', fun _ _ z => z, ?_⟩
      obtain ⟨a, ys, rfl, hsq, hys⟩ := DpAll.ref d1
      obtain ⟨sg, ps⟩ := t1
      have hp : Tm.pres (.mk sg ps :: ts) = .mk sg ps :: Tm.pres (ps ++ ts) := Tm.pres_step sg ps ts
      have hlen : fs.length + (1 + (Tm.pres (ps ++ ts)).length) ≤ 100000 := by
        have := congrArg List.length he
        rw [hp, List.length_append, List.length_cons] at this
        omega
      have hus : us.length = fs.length := by rw [du.len, Tm.datas_len]
      have hzs : zs.length = ts.length := by rw [dz2.len, Tm.datas_len]
      have hyl : ys.length = ps.length := by rw [hys.len, Tm.datas_len]; rfl
      have hpl := Tm.pres_len (ps ++ ts)
      rw [List.length_append] at hpl
      refine ⟨_, rfl, .inl ⟨rfl, _, .inl (.inl h2)⟩, l, _, _, rfl, rfl, h2, last_rev (.ref a) zs, ?_⟩
      rw [drop_rev]
      have s2 : Same H (upd H' l (.lst zs.reverse)) := s1.upd nl0
      have h1' : upd H' l (.lst zs.reverse) fo = some (.lst us) := by rw [upd_ne nfl]; exact h1
      refine ⟨_, rfl, .inl ⟨rfl, _, .inl (.inl h1')⟩, _, rfl, fo, _, _, rfl, rfl, h1', by omega, ?_⟩
      have s3 := s2.upd (o := .lst (us ++ [.ref a])) nfo
      have h2' : upd (upd H' l (.lst zs.reverse)) fo (.lst (us ++ [.ref a])) l = some (.lst zs.reverse) := by rw [upd_ne nfl.symm, upd_same]
      refine ⟨_, rfl, .inl ⟨rfl, _, .inl (.inl h2')⟩, _, rfl, a, _, rfl, SqT.same hsq s3, by rw [List.length_cons]; omega, fun p np => ?_⟩
      have nlp : l ≠ p := ne_of_none h2' np
      have nfp : fo ≠ p := ne_of_none upd_same np
      refine ⟨l, p, zs.reverse, ys.reverse, rfl, rfl, Eq.trans (upd_ne nlp) h2', .inl (.inl upd_same), ?_, ?_⟩
      · rw [List.length_reverse, List.length_reverse]
        omega
      refine ⟨(Tm.pres (ps ++ ts)).length, by rw [hp, List.length_cons]; omega, ys ++ zs, ps ++ ts, us ++ [.ref a], fs ++ [.mk sg ps], _, rfl, (s3.trans (same_new np)).upd nl0, ?_, ?_, ?_, ?_, ?_, rfl⟩
      · rw [upd_ne nfl, upd_ne nfp, upd_same]
      · rw [upd_same, rev_app']
      · rw [Tm.datas_app]
        exact hys.app dz2
      · rw [Tm.datas_app]
        exact du.app (.cons d1 .nil)
      · rw [← he, hp, List.append_assoc]
        rfl

end NB

namespace NB
open PySem PySem.Spec PyProof.Rows L2 LamX
/-! ### words -/
theorem sc_words : FnScope ["term", "node"] ["term"] (defScope s_words) := ⟨rfl, rfl, rfl, by decide +kernel, rfl, by decide +kernel, by decide +kernel⟩
def sp_words (K : PySem.W.Frag) : Sp := fun vs H Q _ => ∃ v t, vs = [v] ∧ Dp K H v (Tm.data t) ∧ (Tm.pre t).length ≤ 100000 ∧ ∀ H' p, Same H H' → H p = none → H' p = some (.tup ((Tm.pre t).map fun x => V.str x.sg)) → Q (.ref p) H'
theorem ok_words {P : Program} {w : World} {K : PySem.W.Frag} {mg : Str → Option Value} {base : Heap} (T : Tx K mg)  : FnOk P w K mg base CX0 2 T.a_words T.d_words ["term"] (sp_words K) := by
  refine T.F_words.ok sc_words (fun vs H Q E h => ?_) (fun cdv A outer s H vs Q E hr h => ?_)
  · obtain ⟨v, t, rfl, _⟩ := h
    rfl
  · obtain ⟨v, t, rfl, hd, hn, k⟩ := h
    have hzl : 100000 < sizeLine := by decide
    refine ⟨_, (pss_one (ps_ret (pe_callTy call_tuple_of (by rfl) T.z_tuple (by decide +kernel) (pa_cons (pe_lc (own := [("node", 1)]) rfl sc_words.nd (pi_list (pe_call (ok_nodes T) (hr.mono (by first | decide | omega)) rfl T.m_nodes T.F_nodes.kp T.b_nodes .nil pass0 (pa_cons (pv 0) pa_nil))) (blkOk_by (own := [("node", 1)]) (N := ["term", "node"]) (sc := defScope s_words) (by decide +kernel)) (fun _ _ _ _ _ => (pg_name (i := 1) sc_words.nd rfl (by first | exact Or.inl rfl | exact Or.inr rfl))) (fun _ _ _ _ _ => pts_nil) (fun _ _ _ _ _ => (pe_ix (show IxR _ (rIxT K) from ix_tup) (pv 1) pe_int (fun _ _ => rfl)))) pa_nil)))), ?_⟩
    refine ⟨_, rfl, v, t, rfl, hd, hn, fun H1 p us s1 np hp du => ⟨p, rfl, ⟨_, .inl (.inl hp)⟩, fun D hD => ?_⟩⟩
    have hD0 : H D = none := s1.free hD
    have npD : p ≠ D := ne_of_none hp hD
    refine lc_list (K := K) (a := p) (xs := us) (fun i H' => Same H H' ∧ H' p = some (.lst us) ∧ H' D = some (.lst (((Tm.pre t).take i).map fun x => V.str x.sg)))
      ⟨s1.upd hD0, by rw [upd_ne npD]; exact hp, upd_same⟩ (fun i H' _ q => .inl (.inl q.2.1)) (fun i x H' hx q => ?_) (fun H2 q => ?_)
    · have hi : i < us.length := (List.getElem?_eq_some_iff.mp hx).1
      have hul : us.length = (Tm.pre t).length := by rw [du.len, Tm.datas_len]
      have hti : (Tm.pre t)[i]? = some (Tm.pre t)[i] := List.getElem?_eq_getElem (by omega)
      have hdi : (Tm.datas (Tm.pre t))[i]? = some (Tm.pre t)[i].data := by rw [Tm.datas_map, List.getElem?_map, hti]; rfl
      obtain ⟨a, ys, rfl, hsq, _⟩ := DpAll.ref (du.get hx hdi)
      refine ⟨rfl, _, rfl, a, _, _, _, rfl, rfl, SqT.same hsq q.1, atI_nat (j := 0) rfl, _, q.2.2, ?_, q.1.upd hD0, by rw [upd_ne npD]; exact q.2.1, ?_⟩
      · rw [List.length_map, List.length_take]
        omega
      · rw [upd_same, take_snoc hti, List.map_append]
        rfl
    · have hul : us.length = (Tm.pre t).length := by rw [du.len, Tm.datas_len]
      rw [hul, List.take_length] at q
      refine ⟨D, _, rfl, .inl ⟨.inl (.inl q.2.2), fun r nr => ?_⟩⟩
      exact k _ r (q.1.upd (q.1.free nr)) (q.1.free nr) upd_same

end NB

namespace NB
open PySem PySem.Spec PyProof.Rows L2 LamX
/-! ### from_within -/
theorem sc_from_within : FnScope ["term", "maker", "made", "node", "parts", "_"] ["term", "maker"] (defScope s_from_within) := ⟨rfl, rfl, rfl, by decide +kernel, rfl, by decide +kernel, by decide +kernel⟩
def fwW (K : PySem.W.Frag) (Tt : List (Addr × Str)) (v : V) (f mo p : Addr) (t : Tm) {α : Type} (S : List Addr) (J : α → Hp → Prop) (R : α → Tm → V → Prop) (st : α → Tm → α) (a0 : α) (H : Hp) (us : List V) (i : Nat) (σ : L2.St) (H' : Hp) : Prop :=
  ∃ zs w1 w2 w3, σ = [some v, some (.ref f), some (.ref mo), w1, w2, w3] ∧ Fr Tt S H H' ∧ H' p = some (.lst us) ∧ H' mo = some (.lst zs.reverse) ∧ J (((Tm.pre t).reverse.take i).foldl st a0) H' ∧ Rels (R (((Tm.pre t).reverse.take i).foldl st a0)) (fore t ((Tm.pre t).length - i)) zs
theorem gives_from_within {X : Cx} (T : Tx X.K X.mg) (cdg : Value) (hr0 : Room 2 X.A) (Tt : List (Addr × Str)) :
    GivesM X ["term", "maker", "made", "node", "parts", "_"] "from_within" (defScope s_from_within) T.a_from_within cdg (defBody s_from_within) "maker" (fwTT X.K Tt) := by
  intro f c q s H v Q msp MK hco h
  obtain ⟨t, α, S, J, R, st, a0, hd, hn, hJ, hS, hM, hst, hmo, hmake, k⟩ := h
  have hr : Room 1 (gcx X ["term", "maker", "made", "node", "parts", "_"] "from_within" (defScope s_from_within) T.a_from_within cdg s H).A := hr0.deeper _
  have hzl : 100000 < sizeLine := by decide
  refine ⟨_, (pss_cons (ps_set (i := 2) sc_from_within.nd rfl (by first | exact Or.inl rfl | exact Or.inr rfl) (pe_lst pa_nil)) (pss_cons (ps_for PassesOwn.never rfl (RT.pi_revA (by rfl) T.z_reversed (pe_call (ok_nodes T) (hr.mono (by first | decide | omega)) rfl T.m_nodes T.F_nodes.kp T.b_nodes .nil pass0 (pa_cons (pv 0) pa_nil))) (pg_name (i := 3) sc_from_within.nd rfl (by first | exact Or.inl rfl | exact Or.inr rfl)) (pss_cons (ps_set (i := 4) sc_from_within.nd rfl (by first | exact Or.inl rfl | exact Or.inr rfl) (pe_lst pa_nil)) (pss_cons (ps_for PassesOwn.never rfl (pi_range1 (by rfl) T.z_range (pa_cons (pe_op op_sub (pe_callB call_len_seq (by rfl) T.z_len (by decide +kernel) (pa_cons (pv 3) pa_nil)) pe_int) pa_nil)) (pg_name (i := 5) sc_from_within.nd rfl (by first | exact Or.inl rfl | exact Or.inr rfl)) (pss_one (ps_expr (pe_bm PySem.F.plainAttrs_list PySem.F.slot_list_append PySem.F.type_list_append mt_append (pv 4) (pa_cons (pe_bm0 PySem.F.plainAttrs_list PySem.F.slot_list_pop PySem.F.type_list_pop mt_pop (pv 2)) pa_nil))))) (pss_one (ps_expr (pe_bm PySem.F.plainAttrs_list PySem.F.slot_list_append PySem.F.type_list_append mt_append (pv 2) (pa_cons (MK _ _ _ _ _ (pa_cons (pe_ix ix_tup (pv 3) pe_int (fun _ _ => rfl)) (pa_cons (pe_callTy call_tuple_of (by rfl) T.z_tuple (by decide +kernel) (pa_cons (pv 4) pa_nil)) pa_nil)) rfl rfl) pa_nil))))))) (pss_one (ps_ret (pe_bm0 PySem.F.plainAttrs_list PySem.F.slot_list_pop PySem.F.type_list_pop mt_pop (pv 2)))))), ?_⟩
  refine ⟨Nat.zero_le _, fun mo nmo => ?_⟩
  have nS : mo ∉ S := fun z => hS _ _ hJ mo z nmo
  refine ⟨_, rfl, v, t, rfl, Dp.same (same_new nmo) _ _ hd, hn, fun H1 p us s1 np hp du => ⟨p, us, rfl, .inl ⟨.inl (.inl hp), ?_⟩⟩⟩
  obtain ⟨nmp, np0⟩ := none_ne np
  have pS : p ∉ S := fun z => hS _ _ hJ p z np0
  have hul : us.length = (Tm.pre t).length := by rw [du.len, Tm.datas_len]
  have s01 : Same H H1 := fun b o e => s1 b o (same_new nmo b o e)
  have hmo1 : H1 mo = some (.lst []) := s1 _ _ upd_same
  refine RT.for_Itv (fwW X.K Tt v f mo p t S J R st a0 H us) ⟨[], none, none, none, rfl, Fr.same s01, hp, hmo1, hst _ _ _ hJ (Kv.same s01), ?_⟩ (fun i σ H' ⟨_, _, _, _, _, _, h, _⟩ => .inl (.inl h)) ?_ ?_
  · rw [Nat.sub_zero, fore_end]
    exact .nil
  · rintro i x σ H' hi hx ⟨zs, w1, w2, w3, rfl, fr, h1, h2, hj, hR⟩
    have hi' : i < (Tm.pre t).length := by omega
    obtain ⟨sg, ps, r, f1, f2, f3⟩ := fore_head (t := t) (j := (Tm.pre t).length - 1 - i) (by omega)
    have e1 : (Tm.pre t).length - i = (Tm.pre t).length - 1 - i + 1 := by omega
    rw [e1, f2] at hR
    obtain ⟨vp, vr, rfl, hp1, hr1⟩ := Paired.splitL hR
    rw [hul] at hx
    have hdi : (Tm.datas (Tm.pre t))[(Tm.pre t).length - 1 - i]? = some (Tm.data (.mk sg ps)) := by rw [Tm.datas_map, List.getElem?_map, f3]; rfl
    obtain ⟨b, ys, rfl, hsq, hys⟩ := DpAll.ref (du.get hx hdi)
    have hyl : ys.length = ps.length := by rw [hys.len, Tm.datas_len]; rfl
    have hvl : ps.length = vp.length := hp1.length
    have hpl := Tm.pres_len (ps ++ r)
    have hpn : (Tm.pres (ps ++ r)).length ≤ 100000 := by
      rw [← f2, ← fore_drop, List.length_drop]
      omega
    rw [List.length_append] at hpl
    have hsq0 : SqT X.K H b (.str sg :: ys) := Imm.sq Imm.back hsq
    have sq_ : ∀ {H2 : Hp}, Fr Tt S H H2 → SqT X.K H2 b (.str sg :: ys) := fun g => Imm.sq (g.kp.imm hM) hsq0
    have hrl : r.length = vr.length := hr1.length
    refine ⟨Nat.zero_le _, fun po npo => ?_⟩
    have nmo' : mo ≠ po := ne_of_none h2 npo
    have np' : p ≠ po := ne_of_none h1 npo
    have nmp' : mo ≠ p := nmp
    have poS : po ∉ S := fun z => hS _ _ hj po z npo
    have nw : Nw S [po, mo] H := Nw.cons fr npo (Nw.nil fun b hb => by rw [mem1 hb]; exact nmo)
    have ow : Ow H' [po, mo] := fun b hb => by
      rcases mem2 hb with z | z
      · rw [z]
        exact .inl npo
      · rw [z]
        exact .inr ⟨_, h2⟩
    have noS : ∀ b ∈ [po, mo], b ∉ S := fun b hb => by
      rcases mem2 hb with z | z
      · rw [z]
        exact poS
      · rw [z]
        exact nS
    have m1 : po ∈ [po, mo] := List.mem_cons_self ..
    have m2 : mo ∈ [po, mo] := List.mem_cons_of_mem _ (List.mem_cons_self ..)
    have en : ((((V.str sg :: ys).length : Nat) : Int) - 1).toNat = ps.length := by
      rw [List.length_cons]
      omega
    refine ⟨_, rfl, b, _, rfl, .inr (sq_ (fr.sm (Sm.upd m1) ow nw)), _, _, rfl, rfl, _, rfl, by omega, (by rw [List.length_cons]; omega), ?_⟩
    rw [en]
    refine for_range (lo := 0) (n := ps.length) (fun q σ H2 => ∃ w, σ = [some v, some (.ref f), some (.ref mo), some (.ref b), some (.ref po), w] ∧ Sm [po, mo] H' H2 ∧ H2 po = some (.lst (vp.take q)) ∧ H2 mo = some (.lst ((vp.drop q ++ vr).reverse)))
      ⟨_, rfl, Sm.upd m1, upd_same, by rw [upd_ne nmo']; exact h2⟩ ?_ ?_
    · rintro q σ H2 hq ⟨w, rfl, sm, k1, k2⟩
      have hvq : vp[q]? = some (vp.getD q .non) := getD_lt (by omega) _
      rw [getD_take hvq, List.cons_append] at k2
      refine ⟨_, rfl, .inl ⟨rfl, _, .inl (.inl k1)⟩, _, rfl, .inl ⟨rfl, _, .inl (.inl k2)⟩, mo, _, _, rfl, rfl, k2, last_rev _ _, ?_⟩
      rw [drop_rev]
      refine ⟨po, _, _, rfl, rfl, Eq.trans (upd_ne nmo'.symm) k1, ?_, ?_⟩
      · rw [List.length_take]
        omega
      refine ⟨_, rfl, (sm.trans (Sm.upd m2)).trans (Sm.upd m1), ?_, ?_⟩
      · rw [upd_same, take_snoc hvq]
      · rw [upd_ne nmo', upd_same]
    · rintro σ H2 ⟨w, rfl, sm, k1, k2⟩
      rw [hvl, List.take_length] at k1
      rw [hvl, List.drop_length, List.nil_append] at k2
      have fr2 : Fr Tt S H H2 := fr.sm sm ow nw
      have hj2 := hst _ _ _ hj (sm.kv ow noS)
      refine ⟨_, rfl, .inl ⟨rfl, _, .inl (.inl k2)⟩, rfl, _, rfl, b, _, _, _, rfl, rfl, sq_ fr2, atI_nat (j := 0) rfl, _, rfl, po, _, rfl, .inl ⟨.inl (.inl k1), fun pt npt => ?_⟩⟩
      have fr3 : Fr Tt S H (upd H2 pt (.tup vp)) := fr2.trans (Fr.same (same_new npt))
      have hj3 := hst _ _ _ hj2 (Kv.same (same_new (o := .tup vp) npt))
      have nmpt : mo ≠ pt := ne_of_none k2 npt
      have nppt : p ≠ pt := ne_of_none (sm _ _ h1 (fun z => by
        rcases mem2 z with z | z
        · exact np' z
        · exact nmp' z.symm)) npt
      have hrev : (Tm.pre t).reverse[i]? = some (.mk sg ps) := by
        rw [List.getElem?_reverse (by omega)]
        exact f3
      refine hmake i _ sg ps vp pt _ hrev rfl hj3 fr3 (.inl (.inl upd_same)) (by omega) hp1 _ fun val H4 hj4 hr4 fr4 => ?_
      have k4 : H4 mo = some (.lst vr.reverse) := fr4.kp mo _ (Eq.trans (upd_ne nmpt) k2) nS (fun _ z => nomatch z)
      have p4 : H4 p = some (.lst us) := fr4.kp p _ (Eq.trans (upd_ne nppt) (sm _ _ h1 (fun z => by
        rcases mem2 z with z | z
        · exact np' z
        · exact nmp' z.symm))) pS (fun _ z => nomatch z)
      refine ⟨mo, _, _, rfl, rfl, k4, by rw [List.length_reverse]; omega, ?_⟩
      have ow4 : Ow H4 [mo] := fun b hb => by
        rw [mem1 hb]
        exact .inr ⟨_, k4⟩
      have sm4 : Sm [mo] H4 (upd H4 mo (.lst (vr.reverse ++ [val]))) := Sm.upd (List.mem_singleton.mpr rfl)
      have ef : ((Tm.pre t).reverse.take (i + 1)).foldl st a0 = st (((Tm.pre t).reverse.take i).foldl st a0) (.mk sg ps) := by
        rw [take_snoc hrev, List.foldl_append]
        rfl
      refine ⟨val :: vr, _, _, _, rfl, (fr3.trans fr4).sm sm4 ow4 (Nw.nil fun b hb => by rw [mem1 hb]; exact nmo), ?_, ?_, ?_, ?_⟩
      · rw [upd_ne nmp.symm]
        exact p4
      · rw [upd_same, List.reverse_cons]
      · rw [ef]
        exact hst _ _ _ hj4 (sm4.kv ow4 fun b hb => by rw [mem1 hb]; exact nS)
      · have e2 : (Tm.pre t).length - (i + 1) = (Tm.pre t).length - 1 - i := by omega
        rw [ef, e2, f1]
        exact .cons hr4 (Paired.monoR (fun a b z => hmo _ _ _ _ z) hr1)
  · rintro σ H' ⟨zs, w1, w2, w3, rfl, fr, h1, h2, hj, hR⟩
    rw [hul, Nat.sub_self] at hR
    have e : (Tm.pre t).reverse.take us.length = (Tm.pre t).reverse := by rw [hul, ← List.length_reverse, List.take_length]
    rw [e] at hj
    rw [hul] at e
    rw [e] at hR
    obtain ⟨vr, rfl, r1⟩ : ∃ vr, zs = [vr] ∧ R ((Tm.pre t).reverse.foldl st a0) t vr := by
      rw [fore] at hR
      cases hR with
      | cons r1 r2 =>
        cases r2
        exact ⟨_, rfl, r1⟩
    refine ⟨_, rfl, .inl ⟨rfl, _, .inl (.inl h2)⟩, mo, _, _, rfl, rfl, h2, last_rev vr [], ?_⟩
    have ow : Ow H' [mo] := fun b hb => by
      rw [mem1 hb]
      exact .inr ⟨_, h2⟩
    have sm : Sm [mo] H' (upd H' mo (.lst [vr].reverse.dropLast)) := Sm.upd (List.mem_singleton.mpr rfl)
    exact k vr _ (fr.sm sm ow (Nw.nil fun b hb => by rw [mem1 hb]; exact nmo)) (hst _ _ _ hj (sm.kv ow fun b hb => by rw [mem1 hb]; exact nS)) r1

end NB

namespace NB
open PySem PySem.Spec PyProof.Rows L2 LamX
/-! ### Bank.__init__ -/
theorem sc_Bank___init__ : FnScope ["self"] ["self"] (defScope s_Bank___init__) := ⟨rfl, rfl, rfl, by decide +kernel, rfl, by decide +kernel, by decide +kernel⟩
def sp_Bank___init__ (P : Program) (w : World) (K : PySem.W.Frag) (C : Addr) : Sp := fun vs H Q _ => ∃ p dx, vs = [.ref p] ∧ H p = some (.ins C dx []) ∧
  ∀ H' ta sh te, Sm [p] H H' → H ta = none → H sh = none → H te = none → BankAt P w K C p dx ta sh te [] H' → Q .non H'
theorem ok_Bank___init__ {P : Program} {w : World} {K : PySem.W.Frag} {mg : Str → Option Value} {base : Heap} (T : Tx K mg)  : FnOk P w K mg base CX0 1 T.a_Bank___init__ T.d_Bank___init__ ["self"] (sp_Bank___init__ P w K T.c_Bank) := by
  refine T.F_Bank___init__.ok sc_Bank___init__ (fun vs H Q E h => ?_) (fun cdv A outer s H vs Q E hr h => ?_)
  · obtain ⟨p, dx, rfl, _⟩ := h
    rfl
  · obtain ⟨p, dx, rfl, hp, k⟩ := h
    refine ⟨_, (pss_cons (ps_fld (pv 0) pe_nnew rfl) (pss_cons (ps_fld (pv 0) (pe_lst pa_nil) rfl) (pss_one (ps_fld (pv 0) (pe_lst pa_nil) rfl)))), ?_⟩
    intro ta nta
    have npa : p ≠ ta := ne_of_none hp nta
    refine ⟨_, rfl, p, T.c_Bank, dx, [], rfl, (by rw [upd_ne npa]; exact hp), T.cl_Bank, T.n_Bank_table, (by show 0 < 1000; decide), ?_⟩
    refine ⟨Nat.zero_le _, fun sh nsh => ?_⟩
    have nps : p ≠ sh := ne_of_none upd_same nsh
    have nas : ta ≠ sh := ne_of_none (Eq.trans (upd_ne npa.symm) upd_same) nsh
    refine ⟨_, rfl, p, T.c_Bank, dx, _, rfl, (by rw [upd_ne nps]; exact upd_same), T.cl_Bank, T.n_Bank_shapes, (by show 1 < 1000; decide), ?_⟩
    refine ⟨Nat.zero_le _, fun te nte => ?_⟩
    have npt : p ≠ te := ne_of_none upd_same nte
    have nst : sh ≠ te := ne_of_none (Eq.trans (upd_ne nps.symm) upd_same) nte
    have nat : ta ≠ te := ne_of_none (Eq.trans (upd_ne npa.symm) (Eq.trans (upd_ne nas) (Eq.trans (upd_ne npa.symm) upd_same))) nte
    refine ⟨_, rfl, p, T.c_Bank, dx, _, rfl, (by rw [upd_ne npt]; exact upd_same), T.cl_Bank, T.n_Bank_terms, (by show 2 < 1000; decide), ?_⟩
    rw [upd_ne nps.symm, upd_ne nas.symm] at nsh
    rw [upd_ne npt.symm, upd_ne nst.symm, upd_ne npt.symm, upd_ne nat.symm] at nte
    refine k _ ta sh te (fun b o e n => ?_) nta nsh nte ⟨upd_same, nst, [], [], [], ⟨?_, fun _ h => nomatch h⟩, ?_, ?_, .nil, .nil, BankOk.nil⟩
    · have nb : b ≠ p := fun z => n (List.mem_singleton.mpr z)
      rw [upd_ne nb, upd_ne (ne_of_none e nte), upd_ne nb, upd_ne (ne_of_none e nsh), upd_ne nb, upd_ne (ne_of_none e nta)]
      exact e
    · rw [upd_ne npa.symm, upd_ne nat, upd_ne npa.symm, upd_ne nas, upd_ne npa.symm, upd_same]
      rfl
    · rw [upd_ne nps.symm, upd_ne nst, upd_ne nps.symm, upd_same]
    · rw [upd_ne npt.symm, upd_same]

end NB

namespace NB
open PySem PySem.Spec PyProof.Rows L2 LamX
/-! ### Bank.number_of -/
theorem sc_Bank_number_of : FnScope ["self", "sign", "parts", "shape", "part"] ["self", "sign", "parts"] (defScope s_Bank_number_of) := ⟨rfl, rfl, rfl, by decide +kernel, rfl, by decide +kernel, by decide +kernel⟩
def sp_Bank_number_of (P : Program) (w : World) (K : PySem.W.Frag) (C : Addr) (Tt : List (Addr × Str)) : Sp := fun vs H Q _ => ∃ self dx ta sh te B s pt pvs ps, vs = [.ref self, .str s, .ref pt] ∧
  BankAt P w K C self dx ta sh te B H ∧ SqT K H pt pvs ∧ Rels (isAt B) ps pvs ∧ B.length ≤ 100000 ∧ pvs.length ≤ 100000 ∧
  ∀ H' v, BankAt P w K C self dx ta sh te (addNew B (.mk s ps)) H' → isAt (addNew B (.mk s ps)) (.mk s ps) v → Fr Tt (bS ta sh te) H H' → Q v H'
theorem ok_Bank_number_of {P : Program} {w : World} {K : PySem.W.Frag} {mg : Str → Option Value} {base : Heap} (T : Tx K mg) (Tt : List (Addr × Str)) : FnOk P w K mg base CX0 1 T.a_Bank_number_of T.d_Bank_number_of ["self", "sign", "parts"] (sp_Bank_number_of P w K T.c_Bank Tt) := by
  refine T.F_Bank_number_of.ok sc_Bank_number_of (fun vs H Q E h => ?_) (fun cdv A outer s H vs Q E hr h => ?_)
  · obtain ⟨self, dx, ta, sh, te, B, s, pt, pvs, ps, rfl, _⟩ := h
    rfl
  · obtain ⟨self, dx, ta, sh, te, B, s, pt, pvs, ps, rfl, hb, hs, hR, hB, hpl, k⟩ := h
    have hu16 := hu16_of hr
    refine ⟨_, (pss_cons (ps_set (i := 3) sc_Bank_number_of.nd rfl (by first | exact Or.inl rfl | exact Or.inr rfl) (pe_tup (pa_cons (pv 1) (pa_cons (pv 2) pa_nil)))) (pss_cons (ps_if (pt_cmp (pc_nnotin hu16 (pv 3) (pe_fld (pv 0) rfl)) (by rfl)) (pss_cons (ps_nput hu16 (pe_fld (pv 0) rfl) (pv 3) (pe_callB call_len_seq (by rfl) T.z_len (by decide +kernel) (pa_cons (pe_fld (pv 0) rfl) pa_nil)) rfl) (pss_cons (ps_expr (pe_bm PySem.F.plainAttrs_list PySem.F.slot_list_append PySem.F.type_list_append mt_append (pe_fld (pv 0) rfl) (pa_cons (pv 3) pa_nil))) (pss_one (ps_expr (pe_bm PySem.F.plainAttrs_list PySem.F.slot_list_append PySem.F.type_list_append mt_append (pe_fld (pv 0) rfl) (pa_cons (pe_op op_catA (pe_tup (pa_cons (pv 1) pa_nil)) (pe_callTy call_tuple_of (by rfl) T.z_tuple (by decide +kernel) (pa_cons (pe_lc (own := [("part", 4)]) rfl sc_Bank_number_of.nd (pi_tup (pv 2)) (blkOk_by (own := [("part", 4)]) (N := ["self", "sign", "parts", "shape", "part"]) (sc := defScope s_Bank_number_of) (by decide +kernel)) (fun _ _ _ _ _ => (pg_name (i := 4) sc_Bank_number_of.nd rfl (by first | exact Or.inl rfl | exact Or.inr rfl))) (fun _ _ _ _ _ => pts_nil) (fun _ _ _ _ _ => (pe_ix (show IxR _ (rIxL K) from ix_list) (show PE _ _ (tFld K (tVar 0) "terms") from pe_fld (pv 0) rfl) (pv 4) (fun _ _ => rfl)))) pa_nil))) pa_nil)))))) pss_nil) (pss_one (ps_ret (pe_nget hu16 (pe_fld (pv 0) rfl) (pv 3) (fun _ _ => rfl)))))), ?_⟩
    obtain ⟨hself, nse, kvs, vsh, vte, hnd, hsh, hte, hsp, hdt, ok⟩ := id hb
    have hvl := hsp.len
    obtain ⟨ix, rfl, hix⟩ := isAt.all hR
    have hzl : 100000 < sizeLine := by decide
    refine ⟨_, rfl, _, rfl, (by show 2 ≤ sizeLine; decide), fun b nb => ?_⟩
    have s1 : Same H (upd H b (.tup [.str s, .ref pt])) := same_new nb
    have nk1 : NKey K (upd H b (.tup [.str s, .ref pt])) b (nkey s ix) := nkey_at (.inl (.inl upd_same)) (SqT.same hs s1)
    refine ⟨_, rfl, _, rfl, self, T.c_Bank, dx, _, _, rfl, s1 _ _ hself, T.cl_Bank, T.n_Bank_table, bf_table _ _ _, ta, b, kvs, nkey s ix, rfl, rfl, hnd.kv (Kv.same (S := []) s1), nk1, _, rfl, ?_⟩
    rcases ok.val s ix ps hix with ⟨i, a1, a2⟩ | ⟨a1, a2⟩
    · rw [a2]
      refine ⟨_, rfl, self, T.c_Bank, dx, _, _, rfl, s1 _ _ hself, T.cl_Bank, T.n_Bank_table, bf_table _ _ _, _, rfl, ta, b, kvs, nkey s ix, _, rfl, rfl, hnd.kv (Kv.same (S := []) s1), nk1, a2, ?_⟩
      have eB : addNew B (.mk s ps) = B := addNew_old (List.mem_of_getElem? a1)
      rw [eB] at k
      exact k _ _ (hb.kv (Kv.same s1)) ⟨i, rfl, a1⟩ (Fr.same s1)
    · rw [a2]
      have kl : kvs.length < sizeLine := by have := ok.len; omega
      have nst : self ≠ ta := ne_of hself hnd.at_ (by intro z; unfold DN at z; cases z)
      have nht : sh ≠ ta := ne_of hsh hnd.at_ (by intro z; unfold DN at z; cases z)
      have net : te ≠ ta := ne_of hte hnd.at_ (by intro z; unfold DN at z; cases z)
      have nsh : self ≠ sh := ne_of hself hsh (by intro z; cases z)
      have nte : self ≠ te := ne_of hself hte (by intro z; cases z)
      refine ⟨_, rfl, self, T.c_Bank, dx, _, _, rfl, s1 _ _ hself, T.cl_Bank, T.n_Bank_shapes, bf_shapes _ _ _, sh, vsh, rfl, .inl (.inl (.inl (s1 _ _ hsh))),
        _, rfl, self, T.c_Bank, dx, _, _, rfl, s1 _ _ hself, T.cl_Bank, T.n_Bank_table, bf_table _ _ _, _, rfl, ta, b, kvs, nkey s ix, rfl, rfl, hnd.kv (Kv.same (S := []) s1), nk1, kl, ?_⟩
      obtain ⟨H2, e2⟩ : ∃ H2, H2 = upd (upd H b (.tup [.str s, .ref pt])) ta (DN P w ta (putN kvs (nkey s ix) b (.int (vsh.length : Int)))) := ⟨_, rfl⟩
      have at2 : ∀ x o, H x = some o → x ≠ ta → H2 x = some o := fun x o h n => by
        rw [e2, upd_ne n]
        exact s1 _ _ h
      have h2self := at2 _ _ hself nst
      have h2sh := at2 _ _ hsh nht
      have h2te := at2 _ _ hte net
      have i1 : Imm H (upd H b (.tup [.str s, .ref pt])) := Imm.of s1
      have h1ta : upd H b (.tup [.str s, .ref pt]) ta = some (DN P w ta kvs) := s1 _ _ hnd.at_
      have i2 : Imm (upd H b (.tup [.str s, .ref pt])) H2 := by
        rw [e2]
        exact Imm.upd ⟨fun _ => by rw [h1ta]; exact DN_tup, fun _ _ => by rw [h1ta]; exact DN_frz⟩
      have f2 : Fr Tt (bS ta sh te) H H2 := (Fr.same s1).trans (by rw [e2]; exact Fr.putN h1ta (by simp [bS]))
      have h2ta : H2 ta = some (DN P w ta (putN kvs (nkey s ix) b (.int (vsh.length : Int)))) := by rw [e2, upd_same]
      -- self.shapes.append(shape)
      obtain ⟨H3, e3⟩ : ∃ H3, H3 = upd H2 sh (.lst (vsh ++ [.ref b])) := ⟨_, rfl⟩
      have at3 : ∀ x o, H2 x = some o → x ≠ sh → H3 x = some o := fun x o h n => by
        rw [e3, upd_ne n]
        exact h
      have h3self := at3 _ _ h2self nsh
      have h3te := at3 _ _ h2te nse.symm
      have h3ta := at3 _ _ h2ta nht.symm
      have h3sh : H3 sh = some (.lst (vsh ++ [.ref b])) := by rw [e3, upd_same]
      have f3 : Fr Tt (bS ta sh te) H H3 := f2.trans (by rw [e3]; exact Fr.putL h2sh (by simp [bS]))
      have i3 : Imm H2 H3 := by rw [e3]; exact Imm.lst h2sh
      -- the term that is put in
      have fin : ∀ H7 tm, Same H3 H7 → SqT K H7 tm (.str s :: ix.map fun i : Nat => vte.getD i .non) → H7 te = some (.lst vte) ∧ upd H7 te (.lst (vte ++ [.ref tm])) self = some (.ins T.c_Bank dx (bf ta sh te)) ∧
          NDct P w K (upd H7 te (.lst (vte ++ [.ref tm]))) ta (putN kvs (nkey s ix) b (.int (vsh.length : Int))) ∧ NKey K (upd H7 te (.lst (vte ++ [.ref tm]))) b (nkey s ix) ∧
          valN (putN kvs (nkey s ix) b (.int (vsh.length : Int))) (nkey s ix) = some (.int (vsh.length : Int)) ∧ BankAt P w K T.c_Bank self dx ta sh te (addNew B (.mk s ps)) (upd H7 te (.lst (vte ++ [.ref tm]))) ∧ Fr Tt (bS ta sh te) H (upd H7 te (.lst (vte ++ [.ref tm]))) := by
        intro H7 tm s7 hq
        have h7te := s7 _ _ h3te
        have i7 : Imm H7 (upd H7 te (.lst (vte ++ [.ref tm]))) := Imm.lst h7te
        have iA : Imm (upd H b (.tup [.str s, .ref pt])) (upd H7 te (.lst (vte ++ [.ref tm]))) := i2.trans (i3.trans ((Imm.of s7).trans i7))
        have iH := i1.trans iA
        have hk8 := nk1.imm iA
        have h8self : upd H7 te (.lst (vte ++ [.ref tm])) self = some (.ins T.c_Bank dx (bf ta sh te)) := by rw [upd_ne nte]; exact s7 _ _ h3self
        have eput := putN_new (b := b) (v := .int (vsh.length : Int)) a2
        have hnd8 : NDct P w K (upd H7 te (.lst (vte ++ [.ref tm]))) ta (putN kvs (nkey s ix) b (.int (vsh.length : Int))) := by
          refine ⟨by rw [upd_ne net.symm]; exact s7 _ _ h3ta, fun e he => ?_⟩
          rw [eput] at he
          rcases List.mem_append.mp he with q | q
          · exact (hnd.keys e q).imm iH
          · rw [List.mem_singleton.mp q]
            exact hk8
        have ok8 : BankOk (putN kvs (nkey s ix) b (.int (vsh.length : Int))) (B ++ [.mk s ps]) := by
          rw [hvl]
          exact ok.add hix a1 a2
        refine ⟨h7te, h8self, hnd8, hk8, by rw [eput, valN_app a2, if_pos rfl], ?_, ?_⟩
        · rw [addNew_new a1]
          refine ⟨h8self, nse, _, _, _, hnd8, by rw [upd_ne nse]; exact s7 _ _ h3sh, upd_same, (hsp.imm iH).add (by rw [← nkey_data]; exact hk8.1) hix, ?_, ok8⟩
          rw [Tm.datas_app]
          refine (DpAll.imm iH _ _ (Tm.nl_datas B) hdt).app (.cons ?_ .nil)
          rw [Tm.data]
          exact .tup (i7.sq hq) (.cons (.str _) (DpAll.imm iH _ _ (Tm.nl_datas ps) (vals_of hdt hix)))
        · exact (f3.trans (Fr.same s7)).trans (Fr.putL h7te (by simp [bS]))
      have kfin : ∀ H8, BankAt P w K T.c_Bank self dx ta sh te (addNew B (.mk s ps)) H8 → Fr Tt (bS ta sh te) H H8 → Q (.int (vsh.length : Int)) H8 := fun H8 a b => k H8 _ a ⟨vsh.length, rfl, by rw [addNew_new a1, hvl]; simp⟩ b
      have i3H := i1.trans (i2.trans i3)
      subst e3
      subst e2
      refine ⟨_, rfl, self, T.c_Bank, dx, _, _, rfl, h2self, T.cl_Bank, T.n_Bank_shapes, bf_shapes _ _ _, .inl ⟨rfl, _, .inl (.inl h2sh)⟩, _, rfl, sh, _, _, rfl, rfl, h2sh, by omega, ?_⟩
      refine ⟨_, rfl, self, T.c_Bank, dx, _, _, rfl, h3self, T.cl_Bank, T.n_Bank_terms, bf_terms _ _ _, .inl ⟨rfl, _, .inl (.inl h3te)⟩, _, rfl, (by show 1 ≤ sizeLine; decide), fun q1 nq1 => ?_⟩
      have s4 := same_new (o := .tup [.str s]) nq1
      refine ⟨_, rfl, pt, rfl, ⟨_, SqT.same (i3H.sq hs) s4⟩, fun D nD => ?_⟩
      have hlv : (ix.map fun i : Nat => V.int (i : Int)).length = ix.length := List.length_map _
      have hvt : vte.length = B.length := by rw [hdt.len, Tm.datas_len]
      refine lc_tup (K := K) (a := pt) (xs := ix.map fun i : Nat => V.int (i : Int)) (fun i H' => Same (upd _ q1 (.tup [.str s])) H' ∧ H' D = some (.lst ((ix.take i).map fun j : Nat => vte.getD j .non)))
        ⟨same_new nD, upd_same⟩ (fun i H' _ q => SqT.same (SqT.same (i3H.sq hs) s4) q.1) (fun i x H' hx q => ?_) (fun H5 q5 => ?_)
      · have hi : i < ix.length := by
          have := (List.getElem?_eq_some_iff.mp hx).1
          omega
        have hxi : ix[i]? = some ix[i] := List.getElem?_eq_getElem hi
        rw [List.getElem?_map, hxi] at hx
        cases hx
        have hj : ix[i] < vte.length := by
          rw [hvt]
          exact ix_lt hix _ (List.getElem_mem hi)
        refine ⟨rfl, _, rfl, self, T.c_Bank, dx, _, _, rfl, q.1 _ _ (s4 _ _ h3self), T.cl_Bank, T.n_Bank_terms, bf_terms _ _ _, _, rfl, te, _, _, _, rfl, rfl, .inl (.inl (q.1 _ _ (s4 _ _ h3te))), atI_nat (getD_lt hj .non), _, q.2, ?_, q.1.upd nD, ?_⟩
        · rw [List.length_map, List.length_take]
          omega
        · rw [upd_same, take_snoc hxi, List.map_append]
          rfl
      · rw [hlv, List.take_length] at q5
        refine ⟨D, _, rfl, .inl ⟨.inl (.inl q5.2), fun q2 nq2 => ?_⟩⟩
        have h5q1 := q5.1 _ _ upd_same
        have n12 : q1 ≠ q2 := ne_of_none h5q1 nq2
        have s6 := (s4.trans q5.1).trans (same_new (o := .tup (ix.map fun i : Nat => vte.getD i .non)) nq2)
        have hvs : vte.length < sizeLine := by omega
        refine ⟨q1, q2, [.str s], _, rfl, rfl, .inl (.inl (Eq.trans (upd_ne n12) h5q1)), .inl (.inl upd_same), ?_, (fun z => nomatch z), fun _ hv => ?_, fun _ hv p np => ?_⟩
        · rw [List.length_map, List.length_singleton]
          rw [hlv] at hpl
          omega
        · obtain ⟨g1, g2, g3, g4, g5, g6, g7⟩ := fin _ q1 s6 (by rw [hv]; exact .inl (.inl (Eq.trans (upd_ne n12) h5q1)))
          exact ⟨te, _, _, rfl, rfl, g1, hvs, _, rfl, self, T.c_Bank, dx, _, _, rfl, g2, T.cl_Bank, T.n_Bank_table, bf_table _ _ _, _, rfl, ta, b, _, nkey s ix, _, rfl, rfl, g3, g4, g5, kfin _ g6 g7⟩
        · obtain ⟨g1, g2, g3, g4, g5, g6, g7⟩ := fin _ p (s6.trans (same_new np)) (.inl (.inl upd_same))
          exact ⟨te, _, _, rfl, rfl, g1, hvs, _, rfl, self, T.c_Bank, dx, _, _, rfl, g2, T.cl_Bank, T.n_Bank_table, bf_table _ _ _, _, rfl, ta, b, _, nkey s ix, _, rfl, rfl, g3, g4, g5, kfin _ g6 g7⟩

end NB

namespace NB
open PySem PySem.Spec PyProof.Rows L2 LamX
/-! ### Bank.take -/
theorem sc_Bank_take : FnScope ["self", "term"] ["self", "term"] (defScope s_Bank_take) := ⟨rfl, rfl, rfl, by decide +kernel, rfl, by decide +kernel, by decide +kernel⟩
def sp_Bank_take (P : Program) (w : World) (K : PySem.W.Frag) (C : Addr) (Tt : List (Addr × Str)) : Sp := fun vs H Q _ => ∃ self dx ta sh te B v t, vs = [.ref self, v] ∧
  BankAt P w K C self dx ta sh te B H ∧ Dp K H v (Tm.data t) ∧ B.length + (Tm.pre t).length ≤ 100000 ∧ Tabs Tt H ∧
  ∀ H' v', BankAt P w K C self dx ta sh te ((Tm.pre t).reverse.foldl addNew B) H' → isAt ((Tm.pre t).reverse.foldl addNew B) t v' → Fr Tt (bS ta sh te) H H' → Q v' H'
def lamTake : Str := "Bank.take.<locals>.<lambda>"
theorem ok_Bank_take {P : Program} {w : World} {K : PySem.W.Frag} {mg : Str → Option Value} {base : Heap} (T : Tx K mg) (Tt : List (Addr × Str)) (c Pt : Addr) (CF : CodeFun K "take" "Bank.take" s_Bank_take T.a_Bank_take T.d_Bank_take c) (TB : TabB base mg c Pt)
    (hmT : (Pt, lamTake) ∈ Tt) (hu : ∀ p ∈ Tt, p.1 = Pt → p.2 = lamTake) : FnOk P w K mg base CX0 4 T.a_Bank_take T.d_Bank_take ["self", "term"] (sp_Bank_take P w K T.c_Bank Tt) := by
  obtain ⟨oc, od, kV, doc, pm, an, ct, osl, efd, lk, hcd⟩ := CF.ex
  rw [efd] at lk ⊢
  refine fn_of (k := 3) lk hcd sc_Bank_take (fun vs H Q E h => ?_) (fun A outer s H vs Q E hr h => ?_)
  · obtain ⟨self, dx, ta, sh, te, B, v, t, rfl, _⟩ := h
    rfl
  · obtain ⟨self, dx, ta, sh, te, B, v, t, rfl, hb, hd, hn, hT, k⟩ := h
    obtain ⟨goc, god, gkV, gdoc, gpm, gan, gcdv, gct, gosl, gefd, glk, gcd⟩ := T.F_from_within.ex
    have gb := T.b_from_within
    rw [gefd] at glk gb
    let X : Cx := (cxOf CX0 P w K mg base ["self", "term"] "Bank.take" (defScope s_Bank_take) T.a_Bank_take (.ref c) A outer s H E).nox
    have hrX : Room 3 X.A := hr
    have hG := gives_from_within (X := X) T gcdv (hrX.mono (by decide)) Tt
    suffices hh : ∃ t, PSs X (defBody s_Bank_take) t ∧ t { nx := fun _ H' => Q .non H', rt := Q } (L2.start ["self", "term"] [.ref self, v]) H by
      obtain ⟨t, h1, h2⟩ := hh
      exact ⟨t, h1.nox, h2⟩
    refine ⟨_, pss_one (ps_ret (pe_lamP (X := X) (T := Tt) (TT := fwTT K Tt) (x := "from_within") (a := "maker") (ag := "term") (k := 1) (fr := ["self"]) (ps := ["sign", "parts"]) (N := ["sign", "parts", "self"]) (js := [0])
      (msp := fun ws vs H Q => ∃ self s pt dx, ws = [some (.ref self)] ∧ vs = [.str s, .ref pt] ∧ H self = some (.ins T.c_Bank dx (bf ta sh te)) ∧ sp_Bank_number_of P w K T.c_Bank Tt [.ref self, .str s, .ref pt] H Q E0)
      (by rfl) T.m_from_within T.F_from_within.kp glk gcd gb sc_from_within rfl (.inl rfl) hG TB rfl hmT hu (hrX.mono (by decide)) rfl (show NdefX.ndefB (defScope s_Bank_take) _ ["self"] = true from by decide +kernel) rfl (NdefX.nscope_by (by decide +kernel))
      ?hbind ?hsp ?hbody (pv 1))), ?_⟩
    case hbind =>
      intro q cl pm cv ct us hl
      match us, hl with
      | [_, _], _ => rfl
    case hsp =>
      rintro ws vs H Q ⟨self, s, pt, dx, _, rfl, _⟩
      rfl
    case hbody =>
      rintro A' outer' s' H' f' c' cl ws vs Q' hr' ⟨self, sg, pt, dx', rfl, rfl, hs, h⟩
      refine ⟨_, pe_meth (pv 2) T.cl_Bank T.h_Bank_number_of (ok_Bank_number_of T Tt) hr' T.b_Bank_number_of .nil pass0 (pa_cons (pv 0) (pa_cons (pv 1) pa_nil)), ?_⟩
      exact ⟨_, rfl, self, dx', _, rfl, hs, bf_no _ _ _ (by decide +kernel) (by decide +kernel) (by decide +kernel), _, rfl, _, rfl, h⟩
    refine ⟨_, rfl, hT, fun H2 c' eN T2 hc => ?_⟩
    have kv2 : Kv (bS ta sh te) H H2 := fun b o h t _ => eN b o h t
    have hb2 := hb.kv kv2
    have hcS : c' ∉ bS ta sh te := fun z => by
      obtain ⟨_, _, kvs, vsh, vte, h3, h4, h5, _⟩ := hb2
      rcases mem_bS z with z | z | z
      · subst z
        exact DN_code (h3.at_.symm.trans hc)
      · subst z
        exact codeO_lst (h4.symm.trans hc)
      · subst z
        exact codeO_lst (h5.symm.trans hc)
    refine ⟨t, List Tm, bS ta sh te, fun B H => BankAt P w K T.c_Bank self dx ta sh te B H, isAt, addNew, B, Dp.imm (Imm.extN eN) _ _ (Tm.nl_data t) hd, by omega, hb2, fun a H1 h => h.ex, hb2.mut, fun a H1 H2 h e => h.kv e, fun a x y v h => h.mono, ?_,
      fun v' H' fr hj hr => k H' v' hj hr ((Fr.mk (Kp.extN eN) (fun _ => T2)).trans fr)⟩
    rintro i a sg ps vs pt H1 hi ea hj fr hs hl hR Q' q
    refine ⟨fr.kp c' _ hc hcS (fun ps z => codeO_ne ps z), self, sg, pt, dx, rfl, rfl, hj.1, self, dx, ta, sh, te, a, sg, pt, vs, ps, rfl, hj, hs, hR, ?_, ?_, fun H' v' b1 b2 b3 => q v' H' b1 b2 b3⟩
    · rw [ea]
      have := addAll_len ((Tm.pre t).reverse.take i) B
      rw [List.length_take, List.length_reverse] at this
      omega
    · have e : ps.length = vs.length := hR.length
      have hm : Tm.mk sg ps ∈ Tm.pre t := List.mem_reverse.mp (List.mem_of_getElem? hi)
      have := parts_le hm
      omega

end NB

namespace NB
open PySem PySem.Spec PyProof.Rows L2 LamX
/-! ### Bank.take_lines -/
theorem sc_Bank_take_lines : FnScope ["self", "lines", "one", "other"] ["self", "lines"] (defScope s_Bank_take_lines) := ⟨rfl, rfl, rfl, by decide +kernel, rfl, by decide +kernel, by decide +kernel⟩
def sp_Bank_take_lines (P : Program) (w : World) (K : PySem.W.Frag) (C : Addr) (Tt : List (Addr × Str)) : Sp := fun vs H Q _ => ∃ self dx ta sh te B v ls, vs = [.ref self, v] ∧
  BankAt P w K C self dx ta sh te B H ∧ Dp K H v (lnsD ls) ∧ B.length + cntL ls ≤ 100000 ∧ ls.length ≤ 100000 ∧ Tabs Tt H ∧
  ∀ H' v', BankAt P w K C self dx ta sh te (ls.foldl addL B) H' → Fr Tt (bS ta sh te) H H' → Q v' H'
theorem ok_Bank_take_lines {P : Program} {w : World} {K : PySem.W.Frag} {mg : Str → Option Value} {base : Heap} (T : Tx K mg) (Tt : List (Addr × Str)) (GT : FnOk P w K mg base CX0 4 T.a_Bank_take T.d_Bank_take ["self", "term"] (sp_Bank_take P w K T.c_Bank Tt)) : FnOk P w K mg base CX0 5 T.a_Bank_take_lines T.d_Bank_take_lines ["self", "lines"] (sp_Bank_take_lines P w K T.c_Bank Tt) := by
  refine T.F_Bank_take_lines.ok sc_Bank_take_lines (fun vs H Q E h => ?_) (fun cdv A outer s H vs Q E hr h => ?_)
  · obtain ⟨self, dx, ta, sh, te, B, v, ls, rfl, _⟩ := h
    rfl
  · obtain ⟨self, dx, ta, sh, te, B, v, ls, rfl, hb, hd, hn, hll, hT, k⟩ := h
    have hzl : 100000 < sizeLine := by decide
    obtain ⟨a, xs, rfl, hs, ha⟩ := lnsAt hd
    have hxl : xs.length = ls.length := by rw [ha.len, List.length_map]
    refine ⟨_, (pss_one (ps_ret (pe_lc (own := [("one", 2), ("other", 3)]) rfl sc_Bank_take_lines.nd (pi_tup (pv 1)) (blkOk_by (own := [("one", 2), ("other", 3)]) (N := ["self", "lines", "one", "other"]) (sc := defScope s_Bank_take_lines) (by decide +kernel)) (fun _ _ _ _ _ => (show PG _ _ (gTup K 2 (gCons (gName 2) (gCons (gName 3) gNil))) from pg_tup rfl (pgs_cons (pg_name (i := 2) sc_Bank_take_lines.nd rfl (by first | exact Or.inl rfl | exact Or.inr rfl)) (pgs_cons (pg_name (i := 3) sc_Bank_take_lines.nd rfl (by first | exact Or.inl rfl | exact Or.inr rfl)) pgs_nil)))) (fun _ _ _ _ _ => pts_nil) (fun _ _ _ _ _ => (pe_tup (pa_cons (pe_meth (pv 0) T.cl_Bank T.h_Bank_take GT (hr.mono (by first | decide | omega)) T.b_Bank_take .nil pass0 (pa_cons (pv 2) pa_nil)) (pa_cons (pe_meth (pv 0) T.cl_Bank T.h_Bank_take GT (hr.mono (by first | decide | omega)) T.b_Bank_take .nil pass0 (pa_cons (pv 3) pa_nil)) pa_nil))))))), ?_⟩
    refine ⟨_, rfl, a, rfl, ⟨_, hs⟩, fun D nD => ?_⟩
    have nDS : D ∉ bS ta sh te := fun z => hb.ex D z nD
    have im : ∀ {H'}, Fr Tt (bS ta sh te) H H' → Imm H H' := fun f => f.kp.imm hb.mut
    refine lc_tup (K := K) (a := a) (xs := xs) (fun i H' => BankAt P w K T.c_Bank self dx ta sh te ((ls.take i).foldl addL B) H' ∧ Fr Tt (bS ta sh te) H H' ∧ ∃ us, H' D = some (.lst us) ∧ us.length = i)
      ⟨hb.kv (Kv.same (same_new nD)), Fr.same (same_new nD), [], upd_same, rfl⟩ (fun i H' _ q => Imm.sq (im q.2.1) hs) (fun i x H' hx q => ?_) (fun H' q => ?_)
    · have hi : i < ls.length := by
        have := (List.getElem?_eq_some_iff.mp hx).1
        omega
      have hli : ls[i]? = some ls[i] := List.getElem?_eq_getElem hi
      have hdi : (ls.map lnD)[i]? = some (lnD ls[i]) := by rw [List.getElem?_map, hli]; rfl
      obtain ⟨b, x1, x2, rfl, hsb, d1, d2⟩ := lnAt (ha.get hx hdi)
      obtain ⟨qb, qf, us, qd, ql⟩ := q
      refine ⟨b, _, rfl, Imm.sq (im qf) hsb, rfl, _, _, rfl, _, _, rfl, rfl, rfl, ?_⟩
      have hcl := cntL_get hli
      have hBi := addLs_len (ls.take i) B
      have hB1 := addT_len ((ls.take i).foldl addL B) ls[i].1
      have hno : (bf ta sh te).lookup ("take" : Str) = none := bf_no _ _ _ (by decide +kernel) (by decide +kernel) (by decide +kernel)
      refine ⟨_, rfl, self, dx, _, rfl, qb.1, hno, _, rfl, self, dx, ta, sh, te, _, x1, ls[i].1, rfl, qb, Dp.imm (im qf) _ _ (Tm.nl_data _) d1, by omega, qf.tb hT, fun H1 v1 b1 _ f1 => ?_⟩
      have g1 := qf.trans f1
      refine ⟨_, rfl, self, dx, _, rfl, b1.1, hno, _, rfl, self, dx, ta, sh, te, _, x2, ls[i].2, rfl, b1, Dp.imm (im g1) _ _ (Tm.nl_data _) d2, ?_, g1.tb hT, fun H2 v2 b2 _ f2 => ?_⟩
      · show (addT ((ls.take i).foldl addL B) ls[i].1).length + _ ≤ _
        omega
      have g2 := g1.trans f2
      refine ⟨(by show 2 ≤ sizeLine; decide), fun q nq => ?_⟩
      have d2' : H2 D = some (.lst us) := f2.kp D _ (f1.kp D _ qd nDS (fun _ z => nomatch z)) nDS (fun _ z => nomatch z)
      have nDq : D ≠ q := ne_of_none d2' nq
      have d3 : upd H2 q (.tup [v1, v2]) D = some (.lst us) := (upd_ne nDq).trans d2'
      have b3 := b2.kv (Kv.same (same_new (o := .tup [v1, v2]) nq))
      have g3 := g2.trans (Fr.same (same_new (o := .tup [v1, v2]) nq))
      have ow : Ow (upd H2 q (.tup [v1, v2])) [D] := fun b hb => by
        rw [mem1 hb]
        exact .inr ⟨_, d3⟩
      have sm : Sm [D] (upd H2 q (.tup [v1, v2])) (upd (upd H2 q (.tup [v1, v2])) D (.lst (us ++ [.ref q]))) := Sm.upd (List.mem_singleton.mpr rfl)
      have ef : (ls.take (i + 1)).foldl addL B = addT (addT ((ls.take i).foldl addL B) ls[i].1) ls[i].2 := by
        rw [take_snoc hli, List.foldl_append]
        rfl
      refine ⟨us, d3, by omega, ?_, g3.sm sm ow (Nw.nil fun b hb => by rw [mem1 hb]; exact nD), _, upd_same, by rw [List.length_append, ql]; rfl⟩
      rw [ef]
      exact b3.kv (Kv.updL d3 nDS)
    · rw [hxl, List.take_length] at q
      exact k _ _ q.1 q.2.1

end NB

namespace NB
open PySem PySem.Spec PyProof.Rows L2 LamX
/-! ### bank_of_told -/
theorem sc_bank_of_told : FnScope ["lines", "bank"] ["lines"] (defScope s_bank_of_told) := ⟨rfl, rfl, rfl, by decide +kernel, rfl, by decide +kernel, by decide +kernel⟩
noncomputable def toldB (ls : List Ln) : List Tm := ls.foldl addL []
def sp_bank_of_told (P : Program) (w : World) (K : PySem.W.Frag) (C : Addr) (Tt : List (Addr × Str)) : Sp := fun vs H Q _ => ∃ v ls, vs = [v] ∧ Dp K H v (lnsD ls) ∧ cntL ls ≤ 100000 ∧ ls.length ≤ 100000 ∧ Tabs Tt H ∧
  ∀ H' p dx ta sh te, Fr Tt [] H H' → H p = none → H ta = none → H sh = none → H te = none → BankAt P w K C p dx ta sh te (toldB ls) H' → Q (.ref p) H'
theorem ok_bank_of_told {P : Program} {w : World} {K : PySem.W.Frag} {mg : Str → Option Value} {base : Heap} (T : Tx K mg) (Tt : List (Addr × Str)) (GT : FnOk P w K mg base CX0 4 T.a_Bank_take T.d_Bank_take ["self", "term"] (sp_Bank_take P w K T.c_Bank Tt)) : FnOk P w K mg base CX0 6 T.a_bank_of_told T.d_bank_of_told ["lines"] (sp_bank_of_told P w K T.c_Bank Tt) := by
  refine T.F_bank_of_told.ok sc_bank_of_told (fun vs H Q E h => ?_) (fun cdv A outer s H vs Q E hr h => ?_)
  · obtain ⟨v, ls, rfl, _⟩ := h
    rfl
  · obtain ⟨v, ls, rfl, hd, hn, hll, hT, k⟩ := h
    refine ⟨_, (pss_cons (ps_set (i := 1) sc_bank_of_told.nd rfl (by first | exact Or.inl rfl | exact Or.inr rfl) (pe_make0 T.mk_Bank (ok_Bank___init__ T) (hr.mono (by first | decide | omega)) rfl T.m_Bank T.b_Bank___init__ .nil pass0)) (pss_cons (ps_expr (pe_meth (pv 1) T.cl_Bank T.h_Bank_take_lines (ok_Bank_take_lines (P := P) (w := w) T Tt GT) (hr.mono (by first | decide | omega)) T.b_Bank_take_lines .nil pass0 (pa_cons (pv 0) pa_nil))) (pss_one (ps_ret (pv 1))))), ?_⟩
    intro p dx np ndp nex
    have s0 : Same H (upd (upd H dx (.own p)) p (.ins T.c_Bank dx [])) := fun b o e => by
      rw [upd_ne (ne_of_none e np), upd_ne (ne_of_none e ndp)]
      exact e
    refine ⟨p, dx, rfl, upd_same, fun H1 ta sh te sm nta nsh nte hb => ?_⟩
    have n0 : ∀ x, upd (upd H dx (.own p)) p (.ins T.c_Bank dx []) x = none → H x = none := fun x z => s0.free z
    have k1 : Same H H1 := fun b o e => sm b o (s0 b o e) (fun z => by rw [mem1 z, np] at e; cases e)
    have hno : (bf ta sh te).lookup ("take_lines" : Str) = none := bf_no _ _ _ (by decide +kernel) (by decide +kernel) (by decide +kernel)
    refine ⟨rfl, _, rfl, p, dx, _, rfl, hb.1, hno, _, rfl, p, dx, ta, sh, te, [], v, ls, rfl, hb, Dp.same k1 _ _ hd, by rw [List.length_nil]; omega, hll, hT.ext k1, fun H2 v2 hb2 f2 => ?_⟩
    refine ⟨_, rfl, k _ p dx ta sh te ?_ np (n0 _ nta) (n0 _ nsh) (n0 _ nte) hb2⟩
    refine ((Fr.same k1).trans f2).drop fun b hb => .inr ?_
    rcases mem_bS hb with z | z | z
    · rw [z]
      exact n0 _ nta
    · rw [z]
      exact n0 _ nsh
    · rw [z]
      exact n0 _ nte

/-! ### told_in -/
theorem sc_told_in : FnScope ["lines"] ["lines"] (defScope s_told_in) := ⟨rfl, rfl, rfl, by decide +kernel, rfl, by decide +kernel, by decide +kernel⟩
def sp_told_in (P : Program) (w : World) (K : PySem.W.Frag) (C : Addr) (Tt : List (Addr × Str)) : Sp := fun vs H Q _ => ∃ v ls, vs = [v] ∧ Dp K H v (lnsD ls) ∧ cntL ls ≤ 100000 ∧ ls.length ≤ 100000 ∧ Tabs Tt H ∧
  ∀ H' te us, Fr Tt [] H H' → H te = none → H' te = some (.lst us) → DpAll K H' us (Tm.datas (toldB ls)) → (toldB ls).Nodup → Q (.ref te) H'
theorem ok_told_in {P : Program} {w : World} {K : PySem.W.Frag} {mg : Str → Option Value} {base : Heap} (T : Tx K mg) (Tt : List (Addr × Str)) (GT : FnOk P w K mg base CX0 4 T.a_Bank_take T.d_Bank_take ["self", "term"] (sp_Bank_take P w K T.c_Bank Tt)) : FnOk P w K mg base CX0 7 T.a_told_in T.d_told_in ["lines"] (sp_told_in P w K T.c_Bank Tt) := by
  refine T.F_told_in.ok sc_told_in (fun vs H Q E h => ?_) (fun cdv A outer s H vs Q E hr h => ?_)
  · obtain ⟨v, ls, rfl, _⟩ := h
    rfl
  · obtain ⟨v, ls, rfl, hd, hn, hll, hT, k⟩ := h
    refine ⟨_, (pss_one (ps_ret (pe_fld (pe_call (ok_bank_of_told (P := P) (w := w) T Tt GT) (hr.mono (by first | decide | omega)) rfl T.m_bank_of_told T.F_bank_of_told.kp T.b_bank_of_told .nil pass0 (pa_cons (pv 0) pa_nil)) rfl))), ?_⟩
    refine ⟨_, rfl, v, ls, rfl, hd, hn, hll, hT, fun H1 p dx ta sh te f1 np nta nsh nte hb => ?_⟩
    obtain ⟨g1, g2, kvs, vsh, vte, g3, g4, g5, g6, g7, g8⟩ := hb
    exact ⟨p, T.c_Bank, dx, _, _, rfl, g1, T.cl_Bank, T.n_Bank_terms, bf_terms _ _ _, k _ te vte f1 nte g5 g7 g8.nd⟩

end NB

namespace NB
open PySem PySem.Spec PyProof.Rows L2 LamX
/-! ### flat -/
theorem sc_flat : FnScope ["lines", "one", "other"] ["lines"] (defScope s_flat) := ⟨rfl, rfl, rfl, by decide +kernel, rfl, by decide +kernel, by decide +kernel⟩
def wordsD (t : Tm) : PyData := .tuple ((Tm.pre t).map fun x => .str x.sg)
def flatD (ls : List Ln) : PyData := .list (ls.map fun l => .tuple [wordsD l.1, wordsD l.2])
theorem nls_strs : ∀ ts : List Tm, nls (ts.map fun x => PyData.str x.sg) = true
  | [] => rfl
  | t :: ts => by rw [List.map_cons, nls, nls_strs ts]; rfl
theorem nl_flat : ∀ ls : List Ln, nls (ls.map fun l => PyData.tuple [wordsD l.1, wordsD l.2]) = true
  | [] => rfl
  | l :: ls => by
    rw [List.map_cons, nls, nl_flat ls, nl, nls, nls, wordsD, wordsD, nl, nl, nls_strs, nls_strs]
    rfl
def sp_flat (K : PySem.W.Frag) : Sp := fun vs H Q _ => ∃ v ls, vs = [v] ∧ Dp K H v (lnsD ls) ∧ cntL ls ≤ 100000 ∧ ls.length ≤ 100000 ∧ ∀ H' p, Same H H' → H p = none → Dp K H' (.ref p) (flatD ls) → Q (.ref p) H'
theorem ok_flat {P : Program} {w : World} {K : PySem.W.Frag} {mg : Str → Option Value} {base : Heap} (T : Tx K mg)  : FnOk P w K mg base CX0 3 T.a_flat T.d_flat ["lines"] (sp_flat K) := by
  refine T.F_flat.ok sc_flat (fun vs H Q E h => ?_) (fun cdv A outer s H vs Q E hr h => ?_)
  · obtain ⟨v, ls, rfl, _⟩ := h
    rfl
  · obtain ⟨v, ls, rfl, hd, hn, hll, k⟩ := h
    have hzl : 100000 < sizeLine := by decide
    obtain ⟨a, xs, rfl, hs, ha⟩ := lnsAt hd
    have hxl : xs.length = ls.length := by rw [ha.len, List.length_map]
    refine ⟨_, (pss_one (ps_ret (pe_lc (own := [("one", 1), ("other", 2)]) rfl sc_flat.nd (pi_tup (pv 0)) (blkOk_by (own := [("one", 1), ("other", 2)]) (N := ["lines", "one", "other"]) (sc := defScope s_flat) (by decide +kernel)) (fun _ _ _ _ _ => (show PG _ _ (gTup K 2 (gCons (gName 1) (gCons (gName 2) gNil))) from pg_tup rfl (pgs_cons (pg_name (i := 1) sc_flat.nd rfl (by first | exact Or.inl rfl | exact Or.inr rfl)) (pgs_cons (pg_name (i := 2) sc_flat.nd rfl (by first | exact Or.inl rfl | exact Or.inr rfl)) pgs_nil)))) (fun _ _ _ _ _ => pts_nil) (fun _ _ _ _ _ => (pe_tup (pa_cons (pe_call (ok_words T) (hr.mono (by first | decide | omega)) rfl T.m_words T.F_words.kp T.b_words .nil pass0 (pa_cons (pv 1) pa_nil)) (pa_cons (pe_call (ok_words T) (hr.mono (by first | decide | omega)) rfl T.m_words T.F_words.kp T.b_words .nil pass0 (pa_cons (pv 2) pa_nil)) pa_nil))))))), ?_⟩
    refine ⟨_, rfl, a, rfl, ⟨_, hs⟩, fun D nD => ?_⟩
    refine lc_tup (K := K) (a := a) (xs := xs) (fun i H' => Same H H' ∧ ∃ us, H' D = some (.lst us) ∧ us.length = i ∧ DpAll K H' us ((ls.take i).map fun l => .tuple [wordsD l.1, wordsD l.2]))
      ⟨same_new nD, [], upd_same, rfl, .nil⟩ (fun i H' _ q => SqT.same hs q.1) (fun i x H' hx q => ?_) (fun H' q => ?_)
    · have hi : i < ls.length := by
        have := (List.getElem?_eq_some_iff.mp hx).1
        omega
      have hli : ls[i]? = some ls[i] := List.getElem?_eq_getElem hi
      have hdi : (ls.map lnD)[i]? = some (lnD ls[i]) := by rw [List.getElem?_map, hli]; rfl
      obtain ⟨b, x1, x2, rfl, hsb, d1, d2⟩ := lnAt (ha.get hx hdi)
      obtain ⟨qs, us, qd, ql, qa⟩ := q
      have hcl := cntL_get hli
      refine ⟨b, _, rfl, SqT.same hsb qs, rfl, _, _, rfl, _, _, rfl, rfl, rfl, ?_⟩
      refine ⟨_, rfl, x1, ls[i].1, rfl, Dp.same qs _ _ d1, by omega, fun H1 p1 s1 np1 hp1 => ⟨_, rfl, x2, ls[i].2, rfl, Dp.same (qs.trans s1) _ _ d2, by omega, fun H2 p2 s2 np2 hp2 => ⟨(by show 2 ≤ sizeLine; decide), fun q nq => ?_⟩⟩⟩
      have d2' : H2 D = some (.lst us) := s2 _ _ (s1 _ _ qd)
      have nDq : D ≠ q := ne_of_none d2' nq
      have d3 : upd H2 q (.tup [.ref p1, .ref p2]) D = some (.lst us) := (upd_ne nDq).trans d2'
      have sN : Same H' (upd H2 q (.tup [.ref p1, .ref p2])) := (s1.trans s2).trans (same_new nq)
      have iN : Imm (upd H2 q (.tup [.ref p1, .ref p2])) (upd (upd H2 q (.tup [.ref p1, .ref p2])) D (.lst (us ++ [.ref q]))) := Imm.lst d3
      have w1 : SqT K (upd (upd H2 q (.tup [.ref p1, .ref p2])) D (.lst (us ++ [.ref q]))) p1 ((Tm.pre ls[i].1).map fun x => V.str x.sg) := iN.sq (SqT.same (SqT.same (.inl (.inl hp1)) s2) (same_new nq))
      have w2 : SqT K (upd (upd H2 q (.tup [.ref p1, .ref p2])) D (.lst (us ++ [.ref q]))) p2 ((Tm.pre ls[i].2).map fun x => V.str x.sg) := iN.sq (SqT.same (.inl (.inl hp2)) (same_new nq))
      refine ⟨us, d3, by omega, (qs.trans sN).upd nD, us ++ [.ref q], upd_same, by rw [List.length_append, ql]; rfl, ?_⟩
      rw [take_snoc hli, List.map_append]
      refine (DpAll.imm ((Imm.of sN).trans iN) _ _ (nl_flat _) qa).app (.cons (.tup (iN.sq (.inl (.inl upd_same))) (.cons (.tup w1 (DpAll.strs _ _)) (.cons (.tup w2 (DpAll.strs _ _)) .nil))) .nil)
    · rw [hxl, List.take_length] at q
      obtain ⟨qs, us, qd, ql, qa⟩ := q
      exact k _ _ qs nD (.lst (.inl (.inl qd)) qa)

end NB

namespace NB
open PySem PySem.Spec PyProof.Rows L2 LamX
/-! ### BadText.__init__ -/
theorem sc_BadText___init__ : FnScope ["self", "place"] ["self", "place"] (defScope s_BadText___init__) := ⟨rfl, rfl, rfl, by decide +kernel, rfl, by decide +kernel, by decide +kernel⟩
def sp_BadText___init__ (K : PySem.W.Frag) : Sp := fun vs H Q _ => ∃ a C v, vs = [.ref a, v] ∧ OexC K C ∧ PySem.W.findIn K (.ref C) "place" = some none ∧ H a = some (exo a C none) ∧ ∀ dx, H dx = none → dx ≠ a → Q .non (upd (upd H dx (exd dx [("place", v)])) a (exo a C (some dx)))
theorem ok_BadText___init__ {P : Program} {w : World} {K : PySem.W.Frag} {mg : Str → Option Value} {base : Heap} (T : Tx K mg)  : FnOk P w K mg base CX0 1 T.a_BadText___init__ T.d_BadText___init__ ["self", "place"] (sp_BadText___init__ K) := by
  refine T.F_BadText___init__.ok sc_BadText___init__ (fun vs H Q E h => ?_) (fun cdv A outer s H vs Q E hr h => ?_)
  · obtain ⟨a, C, v, rfl, _⟩ := h
    rfl
  · obtain ⟨a, C, v, rfl, hC, hno, ha, k⟩ := h
    refine ⟨_, (pss_cons (ps_expr (pe_baseInit (by rfl) T.m_LoreError T.g_LoreError T.y_LoreError T.rd_LoreError T.v_LoreError (pa_cons (pv 0) (pa_cons pe_str pa_nil)))) (pss_one (ps_ost (pv 0) (pv 1)))), ?_⟩
    exact ⟨_, rfl, a, C, _, rfl, by show 1 ≤ 1000; decide, hC, ha, ⟨_, rfl, _, rfl, a, C, rfl, hC, hno, .inl ⟨ha, fun dx n1 n2 => k dx n1 n2⟩⟩⟩

end NB

namespace NB
open PySem PySem.Spec PyProof.Rows L2 LamX
/-! ### Lore.__init__ -/
theorem sc_Lore___init__ : FnScope ["self", "signs", "lines", "places", "number", "line"] ["self", "signs", "lines"] (defScope s_Lore___init__) := ⟨rfl, rfl, rfl, by decide +kernel, rfl, by decide +kernel, by decide +kernel⟩
def sp_Lore___init__ (K : PySem.W.Frag) (C : Addr) (Tt : List (Addr × Str)) : Sp := fun vs H Q _ => ∃ p dx sa lv sg ls, vs = [.ref p, .ref sa, lv] ∧ H p = some (.ins C dx []) ∧
  SgsAt K H sa sg ∧ signsD (sgsD sg) = true ∧ shortD (sgsD sg) = true ∧ Dp K H lv (lnsD ls) ∧ ls.length ≤ 24 ∧ (∀ l ∈ ls, LnOk sg l) ∧ cntL ls ≤ 100000 ∧ (toldB ls).length ≤ 60 ∧ Tabs Tt H ∧
  ∀ H', Fr Tt [p] H H' → H' p = some (.ins C dx (lf (.ref sa) lv)) → Q .non H'
theorem ok_Lore___init__ {P : Program} {w : World} {K : PySem.W.Frag} {mg : Str → Option Value} {base : Heap} (T : Tx K mg) (Tt : List (Addr × Str)) (GT : FnOk P w K mg base CX0 4 T.a_Bank_take T.d_Bank_take ["self", "term"] (sp_Bank_take P w K T.c_Bank Tt)) : FnOk P w K mg base CX0 8 T.a_Lore___init__ T.d_Lore___init__ ["self", "signs", "lines"] (sp_Lore___init__ K T.c_Lore Tt) := by
  refine T.F_Lore___init__.ok sc_Lore___init__ (fun vs H Q E h => ?_) (fun cdv A outer s H vs Q E hr h => ?_)
  · obtain ⟨p, dx, sa, lv, sg, ls, rfl, _⟩ := h
    rfl
  · obtain ⟨p, dx, sa, lv, sg, ls, rfl, hp, hsg, hok, hsh, hl, hll, hln, hcn, hto, hT, k⟩ := h
    obtain ⟨la, xs, rfl, hs, ha⟩ := lnsAt hl
    have hxl : xs.length = ls.length := by rw [ha.len, List.length_map]
    refine ⟨_, (pss_cons (ps_if (pt_not (pt_val (pe_call (ok_are_signs T) (hr.mono (by first | decide | omega)) rfl T.m_are_signs T.F_are_signs.kp T.b_are_signs .nil pass0 (pa_cons (pv 1) pa_nil)))) (pss_one ps_never) pss_nil) (pss_cons (ps_if (PW.pt (pw_or (pt_not (pt_val (pe_callB call_isi (by rfl) T.z_isinstance (by decide +kernel) (pa_cons (pv 2) (pa_cons (pe_bltn (v := .ty "tuple") (u := .type "tuple") (by rfl) T.z_tuple (by decide +kernel) rfl) pa_nil))))) (pw_or1 (pt_cmpR op_gt (pe_callB call_len_seq (by rfl) T.z_len (by decide +kernel) (pa_cons (pv 2) pa_nil)) (pe_glob rfl T.m_MOST_LINES T.r_MOST_LINES) (nomark _))))) (pss_one ps_never) pss_nil) (pss_cons (ps_set (i := 3) sc_Lore___init__.nd rfl (by first | exact Or.inl rfl | exact Or.inr rfl) (pe_callTy (call_dictT rfl) (by rfl) T.z_dict (by decide +kernel) (pa_cons (pv 1) pa_nil))) (pss_cons (ps_for PassesOwn.never rfl (pi_enumT (by rfl) T.z_enumerate (pa_cons (pv 2) pa_nil)) (pg_tup rfl (pgs_cons (pg_name (i := 4) sc_Lore___init__.nd rfl (by first | exact Or.inl rfl | exact Or.inr rfl)) (pgs_cons (pg_name (i := 5) sc_Lore___init__.nd rfl (by first | exact Or.inl rfl | exact Or.inr rfl)) pgs_nil))) (pss_one (ps_if (pt_not (pt_val (pe_call (ok_fits_line T) (hr.mono (by first | decide | omega)) rfl T.m_fits_line T.F_fits_line.kp T.b_fits_line .nil pass0 (pa_cons (pv 3) (pa_cons (pv 5) pa_nil))))) (pss_one ps_never) pss_nil))) (pss_cons (ps_if (pt_cmpR op_gt (pe_callB call_len_seq (by rfl) T.z_len (by decide +kernel) (pa_cons (pe_call (ok_told_in (P := P) (w := w) T Tt GT) (hr.mono (by first | decide | omega)) rfl T.m_told_in T.F_told_in.kp T.b_told_in .nil pass0 (pa_cons (pv 2) pa_nil)) pa_nil)) (pe_glob rfl T.m_MOST_TOLD T.r_MOST_TOLD) (nomark _)) (pss_one ps_never) pss_nil) (pss_cons (ps_fld (pv 0) (pv 1) rfl) (pss_one (ps_fld (pv 0) (pv 2) rfl)))))))), ?_⟩
    refine ⟨_, rfl, .ref sa, sgsD sg, rfl, Dp.jp _ _ (by rw [sgsD, jd, jd_sgs]) hsg.dp, hsh, fun H1 s1 => ⟨_, rfl, ?_⟩⟩
    rw [hok]
    have kt : PySem.W.kitOne K (.type "tuple") (.type "tuple") = some true := kit_ty (by decide +kernel)
    refine ⟨_, rfl, _, _, _, _, _, rfl, .ty "tuple", sqT_ty (SqT.same hs s1), kt, _, rfl, ?_⟩
    refine ⟨_, rfl, la, xs, rfl, .inr (SqT.same hs s1), _, _, rfl, rfl, _, rfl, ?_⟩
    have e24 : decide (((xs.length : Nat) : Int) > 24) = false := decide_eq_false (by omega)
    rw [e24]
    obtain ⟨sxs, hpl, hds⟩ := hsg.imm (Imm.of s1)
    obtain ⟨ps, rfl, hps⟩ := sgs_refs hds
    refine ⟨_, rfl, sa, ps, sg.map kvS, rfl, hpl, hps, fun pl npl => ?_⟩
    have s2 : Same H (upd H1 pl (.dK (mergeK [] (sg.map kvS)))) := s1.trans (same_new npl)
    have hplc : PlcAt (upd H1 pl (.dK (mergeK [] (sg.map kvS)))) pl sg.reverse := plc_merge upd_same
    refine ⟨_, rfl, la, xs, rfl, SqT.same hs s2, ?_⟩
    refine for_it (walk_enumT (K := K) (a := la) (xs := xs)) (fun i σ H' => ∃ w1 w2, σ = [some (.ref p), some (.ref sa), some (.ref la), some (.ref pl), w1, w2] ∧ Same (upd H1 pl (.dK (mergeK [] (sg.map kvS)))) H')
      ⟨_, _, rfl, Same.refl _⟩ (fun i σ H' _ ⟨_, _, _, q⟩ => SqT.same hs (s2.trans q)) (fun i x σ H' H2 hi ⟨w1, w2, e1, q⟩ ⟨T1, x1, y1, e2, nT, e3, e4, e5⟩ => ?_) (fun σ H' ⟨w1, w2, e1, q⟩ => ?_)
    · subst e1 e2 e3
      cases e4
      have hil : i < ls.length := by omega
      have hli : ls[i]? = some ls[i] := List.getElem?_eq_getElem hil
      have hdi : (ls.map lnD)[i]? = some (lnD ls[i]) := by rw [List.getElem?_map, hli]; rfl
      have hd1 := ha.get e5 hdi
      have q2 := q.trans (same_new (o := .tup [.int (i : Nat), y1]) nT)
      have lo := hln ls[i] (List.getElem_mem hil)
      refine ⟨T1, _, rfl, .inl (.inl upd_same), rfl, _, _, rfl, _, _, rfl, rfl, ?_⟩
      refine ⟨_, rfl, _, rfl, pl, y1, lnD ls[i], sg.reverse, rfl, hplc.same q2, Dp.jp _ _ (jd_ln _) (Dp.same (s2.trans q2) _ _ hd1), lo.short, lo.cnt, fun H3 s3 => ⟨_, rfl, ?_⟩⟩
      rw [lo.fit]
      exact ⟨_, _, rfl, q2.trans s3⟩
    · subst e1
      have s3 := s2.trans q
      refine ⟨_, rfl, .ref la, ls, rfl, Dp.same s3 _ _ hl, hcn, by omega, hT.ext s3, fun H4 te us fr nte h4 dus nd => ?_⟩
      have hul : us.length = (toldB ls).length := by rw [dus.len, Tm.datas_len]
      refine ⟨te, us, rfl, .inl (.inl (.inl h4)), _, _, rfl, rfl, _, rfl, ?_⟩
      have e60 : decide (((us.length : Nat) : Int) > 60) = false := decide_eq_false (by omega)
      rw [e60]
      have f4 : Fr Tt [] H H4 := (Fr.same s3).trans fr
      have h4p : H4 p = some (.ins T.c_Lore dx []) := f4.kp p _ hp (fun z => nomatch z) (fun _ z => nomatch z)
      refine ⟨_, rfl, _, rfl, p, T.c_Lore, dx, [], rfl, h4p, T.cl_Lore, T.n_Lore_signs, (by show 0 < 1000; decide), ?_⟩
      refine ⟨_, rfl, _, rfl, p, T.c_Lore, dx, _, rfl, upd_same, T.cl_Lore, T.n_Lore_lines, (by show 1 < 1000; decide), ?_⟩
      refine k _ ?_ upd_same
      have m : p ∈ [p] := List.mem_cons_self ..
      exact ((f4.mono (fun b z => nomatch z)).trans (Fr.putI h4p m)).trans (Fr.putI upd_same m)

end NB

namespace NB
open PySem PySem.Spec PyProof.Rows L2 LamX
/-! the reader, letter by letter -/
theorem ifT {A B : Prop} (a : A) : if true = true then A else B := by
  rw [if_pos rfl]
  exact a
theorem ifN {c : Prop} [Decidable c] {A B : Prop} (h : ¬ c) (b : B) : if c then A else B := by
  rw [if_neg h]
  exact b
theorem seq_nx {g : Ends → L2.St → Hp → Prop} {D : Ends} {σ : L2.St} {H : Hp} (h : g D σ H) : tSeq Ends.nx g D σ H := h
structure RdS where
  word : Str
  frames : List (Str × List Tm)
  whole : Option Tm
def one1 (c : Nat) : Str := ⟨#[c]⟩
def letL : List Nat := (("abcdefghijklmnopqrstuvwxyz" : Str)).cps.toList
/-- what some sign begins with -/
def isHead (pl : List (Str × Int)) (s : Str) : Bool := pl.any fun e => (List.range e.1.length).any fun n => decide (cutS e.1 none (some ((n + 1 : Nat) : Int)) = s)
def hereS (pl : List (Str × Int)) (S : RdS) : Option Tm := if lookS pl S.word = some 0 then some (.mk S.word []) else S.whole
def letS (pl : List (Str × Int)) (S : RdS) (c : Nat) : Option RdS := if S.whole.isSome = true ∨ isHead pl (S.word ++ one1 c) = false then none else some ⟨S.word ++ one1 c, S.frames, S.whole⟩
def braS (pl : List (Str × Int)) (S : RdS) : Option RdS := if (lookS pl S.word).getD 0 = 0 then none else some ⟨"", S.frames ++ [(S.word, [])], S.whole⟩
/-- what is awaited behind a part -/
def wantS (pl : List (Str × Int)) (e : Str × List Tm) : Nat := if 0 < (lookS pl e.1).getD 0 - (1 + (e.2.length : Int)) then 44 else 41
def endS (pl : List (Str × Int)) (S : RdS) (c : Nat) : Option RdS := match hereS pl S, S.frames.getLast? with
  | some t, some e => if c = wantS pl e then (if c = 41 then some ⟨"", S.frames.dropLast, some (.mk e.1 (e.2 ++ [t]))⟩ else some ⟨"", S.frames.dropLast ++ [(e.1, e.2 ++ [t])], none⟩) else none
  | _, _ => none
def stepS (pl : List (Str × Int)) (S : RdS) (c : Nat) : Option RdS := if c ∈ letL then letS pl S c else if c = 40 then braS pl S else endS pl S c
def FrAt (K : PySem.W.Frag) (H0 H : Hp) (a : Addr) (e : Str × List Tm) : Prop := H0 a = none ∧ ∃ vs, H a = some (.lst (V.str e.1 :: vs)) ∧ DpAll K H vs (Tm.datas e.2)
def WhAt (K : PySem.W.Frag) (H : Hp) (v : V) : Option Tm → Prop
  | none => v = .non
  | some t => Dp K H v (Tm.data t)
/-- signs with open brackets have places -/
def FrOk (pl : List (Str × Int)) (S : RdS) : Prop := ∀ e ∈ S.frames, ∃ n, lookS pl e.1 = some n
def nmL : List Str := ["places", "heads", "word", "frames", "whole"]
structure RdX (K : PySem.W.Frag) (C : Addr) (H0 H : Hp) (r : Addr) (pl : List (Str × Int)) (S : RdS) (dx : Addr) (fs : List (Str × V)) (pd hd L : Addr) (as : List Addr) (wv : V) (kvs : List (Key × V)) : Prop where
  same : Same H0 H
  nr : H0 r = none
  ins : H r = some (.ins C dx fs)
  len : fs.length ≤ 5
  f1 : fs.lookup ("places" : Str) = some (V.ref pd)
  f2 : fs.lookup ("heads" : Str) = some (V.ref hd)
  f3 : fs.lookup ("word" : Str) = some (V.str S.word)
  f4 : fs.lookup ("frames" : Str) = some (V.ref L)
  f5 : fs.lookup ("whole" : Str) = some wv
  wh : WhAt K H wv S.whole
  plc : PlcAt H0 pd pl
  hk : H hd = some (.dK kvs)
  hv : ∀ s : Str, (valV kvs (Sum.inr s)).isSome = isHead pl s
  nL : H0 L = none
  fr : H L = some (.lst (as.map V.ref))
  frs : Paired (FrAt K H0 H) as S.frames
  nd : as.Nodup
  nl : L ∉ as
  ok : FrOk pl S
  no : ∀ f : Str, f ∉ nmL → fs.lookup f = none
def RdAt (K : PySem.W.Frag) (C : Addr) (H0 H : Hp) (r : Addr) (pl : List (Str × Int)) (S : RdS) : Prop := ∃ dx fs pd hd L as wv kvs, RdX K C H0 H r pl S dx fs pd hd L as wv kvs
theorem putF_len (f : Str) (v : V) : ∀ fs : List (Str × V), (fs.lookup f).isSome = true → (putF f v fs).length = fs.length
  | [], h => nomatch h
  | (g, x) :: r, h => by
    show (if g = f then (g, v) :: r else (g, x) :: putF f v r).length = _
    by_cases e : g = f
    · rw [if_pos e]
      rfl
    · rw [if_neg e, List.length_cons, List.length_cons, putF_len f v r]
      rw [List.lookup_cons] at h
      have : (f == g) = false := by
        rw [beq_eq_false_iff_ne]
        exact Ne.symm e
      rw [this] at h
      exact h
theorem Imm.ins {H : Hp} {r C dx : Addr} {fs : List (Str × V)} {o : HO} (h : H r = some (.ins C dx fs)) : Imm H (L2.upd H r o) := Imm.upd ⟨(fun _ z => nomatch (h.symm.trans z)), (fun _ _ z => nomatch (h.symm.trans z))⟩
theorem WhAt.imm {K : PySem.W.Frag} {H H' : Hp} {v : V} : ∀ {o : Option Tm}, Imm H H' → WhAt K H v o → WhAt K H' v o
  | none, _, h => h
  | some t, i, h => Dp.imm i _ _ (Tm.nl_data t) h
theorem FrAt.imm {K : PySem.W.Frag} {H0 H H' : Hp} {a : Addr} {e : Str × List Tm} (h : FrAt K H0 H a e) (i : Imm H H') (k : ∀ xs, H a = some (.lst xs) → H' a = some (.lst xs)) : FrAt K H0 H' a e := by
  obtain ⟨h1, vs, h2, h3⟩ := h
  exact ⟨h1, vs, k _ h2, DpAll.imm i _ _ (Tm.nl_datas _) h3⟩
theorem paired_imp {α β : Type} {F G : α → β → Prop} : ∀ {l : List α} {m : List β}, Paired F l m → (∀ a ∈ l, ∀ b, F a b → G a b) → Paired G l m
  | _, _, .nil, _ => .nil
  | _, _, .cons a b, h => .cons (h _ (List.mem_cons_self ..) _ a) (paired_imp b fun x m y => h x (List.mem_cons_of_mem _ m) y)
section
variable {K : PySem.W.Frag} {C : Addr} {H0 H H' : Hp} {r : Addr} {pl : List (Str × Int)} {S : RdS} {dx : Addr} {fs : List (Str × V)} {pd hd L : Addr} {as : List Addr} {wv : V} {kvs : List (Key × V)}
theorem RdX.nas (R : RdX K C H0 H r pl S dx fs pd hd L as wv kvs) : ∀ a ∈ as, ∃ xs, H a = some (.lst xs) ∧ H0 a = none := fun a m => by
  have : ∀ {l : List Addr} {F : List (Str × List Tm)}, Paired (FrAt K H0 H) l F → ∀ a ∈ l, ∃ xs, H a = some (.lst xs) ∧ H0 a = none := by
    intro l F p
    induction p with
    | nil => intro a m; cases m
    | cons h _ ih =>
      intro a m
      rcases List.mem_cons.mp m with e | m
      · obtain ⟨h1, vs, h2, _⟩ := h
        rw [e]
        exact ⟨_, h2, h1⟩
      · exact ih a m
  exact this R.frs a m
theorem RdX.neq (R : RdX K C H0 H r pl S dx fs pd hd L as wv kvs) : r ≠ L ∧ r ≠ hd ∧ L ≠ hd ∧ r ∉ as ∧ hd ∉ as := by
  have h1 := R.ins
  have h2 := R.fr
  have h3 := R.hk
  refine ⟨fun e => ?_, fun e => ?_, fun e => ?_, fun m => ?_, fun m => ?_⟩
  · rw [e, h2] at h1; cases h1
  · rw [e, h3] at h1; cases h1
  · rw [e, h3] at h2; cases h2
  · obtain ⟨xs, e, _⟩ := R.nas _ m
    rw [e] at h1; cases h1
  · obtain ⟨xs, e, _⟩ := R.nas _ m
    rw [e] at h3; cases h3
theorem RdX.ext (R : RdX K C H0 H r pl S dx fs pd hd L as wv kvs) (s : Same H H') : RdX K C H0 H' r pl S dx fs pd hd L as wv kvs :=
  ⟨R.same.trans s, R.nr, s _ _ R.ins, R.len, R.f1, R.f2, R.f3, R.f4, R.f5, R.wh.imm (Imm.of s), R.plc, s _ _ R.hk, R.hv, R.nL, s _ _ R.fr, paired_imp R.frs fun a m b f => f.imm (Imm.of s) fun xs e => s _ _ e, R.nd, R.nl, R.ok, R.no⟩
/-- another word -/
theorem RdX.word (R : RdX K C H0 H r pl S dx fs pd hd L as wv kvs) (w : Str) : RdX K C H0 (L2.upd H r (.ins C dx (putF ("word" : Str) (.str w) fs))) r pl ⟨w, S.frames, S.whole⟩ dx (putF ("word" : Str) (.str w) fs) pd hd L as wv kvs := by
  obtain ⟨n1, n2, n3, n4, n5⟩ := R.neq
  have im := Imm.ins (o := .ins C dx (putF ("word" : Str) (.str w) fs)) R.ins
  refine ⟨fun b o e => by rw [upd_ne (ne_of_none e R.nr)]; exact R.same b o e, R.nr, upd_same, by rw [putF_len _ _ _ (by rw [R.f3]; rfl)]; exact R.len, ?_, ?_, ?_, ?_, ?_, R.wh.imm im, R.plc, by rw [upd_ne (Ne.symm n2)]; exact R.hk, R.hv, R.nL, by rw [upd_ne (Ne.symm n1)]; exact R.fr, paired_imp R.frs fun a m b f => f.imm im fun xs e => by rw [upd_ne (show a ≠ r from fun z => n4 (by rw [← z]; exact m))]; exact e, R.nd, R.nl, R.ok, fun f nf => by rw [lookup_putF, if_neg (fun z => nf (by rw [z]; decide +kernel))]; exact R.no f nf⟩
  · rw [lookup_putF, if_neg (by decide +kernel)]; exact R.f1
  · rw [lookup_putF, if_neg (by decide +kernel)]; exact R.f2
  · rw [lookup_putF, if_pos rfl]
  · rw [lookup_putF, if_neg (by decide +kernel)]; exact R.f4
  · rw [lookup_putF, if_neg (by decide +kernel)]; exact R.f5
/-- another whole term -/
theorem RdX.whole (R : RdX K C H0 H r pl S dx fs pd hd L as wv kvs) {v : V} {o : Option Tm} (hv : WhAt K H v o) : RdX K C H0 (L2.upd H r (.ins C dx (putF ("whole" : Str) v fs))) r pl ⟨S.word, S.frames, o⟩ dx (putF ("whole" : Str) v fs) pd hd L as v kvs := by
  obtain ⟨n1, n2, n3, n4, n5⟩ := R.neq
  have im := Imm.ins (o := .ins C dx (putF ("whole" : Str) v fs)) R.ins
  refine ⟨fun b o e => by rw [upd_ne (ne_of_none e R.nr)]; exact R.same b o e, R.nr, upd_same, by rw [putF_len _ _ _ (by rw [R.f5]; rfl)]; exact R.len, ?_, ?_, ?_, ?_, ?_, hv.imm im, R.plc, by rw [upd_ne (Ne.symm n2)]; exact R.hk, R.hv, R.nL, by rw [upd_ne (Ne.symm n1)]; exact R.fr, paired_imp R.frs fun a m b f => f.imm im fun xs e => by rw [upd_ne (show a ≠ r from fun z => n4 (by rw [← z]; exact m))]; exact e, R.nd, R.nl, R.ok, fun f nf => by rw [lookup_putF, if_neg (fun z => nf (by rw [z]; decide +kernel))]; exact R.no f nf⟩
  · rw [lookup_putF, if_neg (by decide +kernel)]; exact R.f1
  · rw [lookup_putF, if_neg (by decide +kernel)]; exact R.f2
  · rw [lookup_putF, if_neg (by decide +kernel)]; exact R.f3
  · rw [lookup_putF, if_neg (by decide +kernel)]; exact R.f4
  · rw [lookup_putF, if_pos rfl]
/-- one frame more -/
theorem RdX.push (R : RdX K C H0 H r pl S dx fs pd hd L as wv kvs) {a : Addr} {s : Str} (ha : H a = some (.lst [V.str s])) (na : H0 a = none) (nas : a ∉ as) (nL : a ≠ L) (hs : ∃ n, lookS pl s = some n) :
    RdX K C H0 (L2.upd H L (.lst (as.map V.ref ++ [.ref a]))) r pl ⟨S.word, S.frames ++ [(s, [])], S.whole⟩ dx fs pd hd L (as ++ [a]) wv kvs := by
  obtain ⟨n1, n2, n3, n4, n5⟩ := R.neq
  have im := Imm.lst (o := .lst (as.map V.ref ++ [.ref a])) R.fr
  have nLas := R.nl
  refine ⟨fun b o e => by rw [upd_ne (ne_of_none e R.nL)]; exact R.same b o e, R.nr, by rw [upd_ne n1]; exact R.ins, R.len, R.f1, R.f2, R.f3, R.f4, R.f5, R.wh.imm im, R.plc, by rw [upd_ne (Ne.symm n3)]; exact R.hk, R.hv, R.nL, by rw [upd_same, List.map_append]; rfl, ?_, ?_, fun m => ?_, fun e m => ?_, R.no⟩
  · refine Paired.snoc (paired_imp R.frs fun b m e f => f.imm im fun xs q => by rw [upd_ne (show b ≠ L from fun z => nLas (by rw [← z]; exact m))]; exact q) ⟨na, [], by rw [upd_ne nL]; exact ha, .nil⟩
  · rw [List.nodup_append]
    exact ⟨R.nd, List.pairwise_singleton _ _, fun x hx y hy e => nas (by rw [List.mem_singleton.mp hy] at e; rw [← e]; exact hx)⟩
  · rcases List.mem_append.mp m with m | m
    · exact nLas m
    · exact nL (List.mem_singleton.mp m).symm
  · rcases List.mem_append.mp m with m | m
    · exact R.ok e m
    · rw [List.mem_singleton.mp m]
      exact hs
theorem paired_snocD {α β : Type} {F : α → β → Prop} : ∀ {l : List α} {m : List β} {a : α} {b : β}, Paired F (l ++ [a]) (m ++ [b]) → Paired F l m ∧ F a b
  | [], [], _, _, .cons h _ => ⟨.nil, h⟩
  | [], [_], _, _, .cons _ t => nomatch t.length
  | [], _ :: _ :: _, _, _, .cons _ t => nomatch t.length
  | [_], [], _, _, .cons _ t => nomatch t.length
  | _ :: _ :: _, [], _, _, .cons _ t => nomatch t.length
  | _ :: _, _ :: _, _, _, .cons h t => by
    obtain ⟨a, b⟩ := paired_snocD t
    exact ⟨.cons h a, b⟩
/-- a part more in the last frame -/
theorem RdX.part {bs : List Addr} {a : Addr} {F : List (Str × List Tm)} {s : Str} {qs : List Tm} {t : Tm} {v : V} (R : RdX K C H0 H r pl ⟨S.word, F ++ [(s, qs)], S.whole⟩ dx fs pd hd L (bs ++ [a]) wv kvs) {vs : List V} (ha : H a = some (.lst (V.str s :: vs))) (hv : Dp K H v (Tm.data t)) :
    RdX K C H0 (L2.upd H a (.lst (V.str s :: vs ++ [v]))) r pl ⟨S.word, F ++ [(s, qs ++ [t])], S.whole⟩ dx fs pd hd L (bs ++ [a]) wv kvs := by
  obtain ⟨n1, n2, n3, n4, n5⟩ := R.neq
  have im := Imm.lst (o := .lst (V.str s :: vs ++ [v])) ha
  obtain ⟨p1, na, us, hu, du⟩ := paired_snocD R.frs
  have ma : a ∈ bs ++ [a] := List.mem_append_right _ (List.mem_cons_self ..)
  rw [ha] at hu
  injection hu with hu
  injection hu with hu
  injection hu with _ hu
  subst hu
  have nd := R.nd
  rw [List.nodup_append] at nd
  have nab : a ∉ bs := fun m => nd.2.2 a m a (List.mem_cons_self ..) rfl
  refine ⟨fun b o e => by rw [upd_ne (ne_of_none e na)]; exact R.same b o e, R.nr, by rw [upd_ne (show r ≠ a from fun z => n4 (by rw [z]; exact ma))]; exact R.ins, R.len, R.f1, R.f2, R.f3, R.f4, R.f5, R.wh.imm im, R.plc, by rw [upd_ne (show hd ≠ a from fun z => n5 (by rw [z]; exact ma))]; exact R.hk, R.hv, R.nL, by rw [upd_ne (show L ≠ a from fun z => R.nl (by rw [z]; exact ma))]; exact R.fr, ?_, R.nd, R.nl, fun e m => ?_, R.no⟩
  · refine Paired.snoc (paired_imp p1 fun b m e f => f.imm im fun xs q => by rw [upd_ne (show b ≠ a from fun z => nab (by rw [← z]; exact m))]; exact q) ⟨na, _, upd_same, ?_⟩
    have e1 : Tm.datas (qs ++ [t]) = Tm.datas qs ++ [Tm.data t] := by
      rw [Tm.datas_map, Tm.datas_map, List.map_append]
      rfl
    rw [e1]
    exact DpAll.app (DpAll.imm im _ _ (Tm.nl_datas _) du) (.cons (Dp.imm im _ _ (Tm.nl_data t) hv) .nil)
  · rcases List.mem_append.mp m with m | m
    · exact R.ok e (List.mem_append_left _ m)
    · obtain ⟨n, h⟩ := R.ok (s, qs) (List.mem_append_right _ (List.mem_cons_self ..))
      rw [List.mem_singleton.mp m]
      exact ⟨n, h⟩
/-- the last frame taken away -/
theorem RdX.pop {bs : List Addr} {a : Addr} {F : List (Str × List Tm)} {e : Str × List Tm} (R : RdX K C H0 H r pl ⟨S.word, F ++ [e], S.whole⟩ dx fs pd hd L (bs ++ [a]) wv kvs) :
    RdX K C H0 (L2.upd H L (.lst (bs.map V.ref))) r pl ⟨S.word, F, S.whole⟩ dx fs pd hd L bs wv kvs := by
  obtain ⟨n1, n2, n3, n4, n5⟩ := R.neq
  have im := Imm.lst (o := .lst (bs.map V.ref)) R.fr
  obtain ⟨p1, _⟩ := paired_snocD R.frs
  have nd := R.nd
  rw [List.nodup_append] at nd
  have nlb : L ∉ bs := fun m => R.nl (List.mem_append_left _ m)
  exact ⟨fun b o e => by rw [upd_ne (ne_of_none e R.nL)]; exact R.same b o e, R.nr, by rw [upd_ne n1]; exact R.ins, R.len, R.f1, R.f2, R.f3, R.f4, R.f5, R.wh.imm im, R.plc, by rw [upd_ne (Ne.symm n3)]; exact R.hk, R.hv, R.nL, upd_same, paired_imp p1 fun b m e f => f.imm im fun xs q => by rw [upd_ne (show b ≠ L from fun z => nlb (by rw [← z]; exact m))]; exact q, nd.1, nlb, fun e m => R.ok e (List.mem_append_left _ m), R.no⟩
end

end NB

namespace NB
open PySem PySem.Spec PyProof.Rows L2 LamX
/-! ### beginnings -/
theorem sc_beginnings : FnScope ["signs", "found", "sign", "end"] ["signs"] (defScope s_beginnings) := ⟨rfl, rfl, rfl, by decide +kernel, rfl, by decide +kernel, by decide +kernel⟩
/-- what some of these begin with -/
def headsL (ss : List Str) (s : Str) : Bool := ss.any fun z => (List.range z.length).any fun n => decide (cutS z none (some ((n + 1 : Nat) : Int)) = s)
def headsN (z : Str) (n : Nat) (s : Str) : Bool := (List.range n).any fun n => decide (cutS z none (some ((n + 1 : Nat) : Int)) = s)
theorem headsL_snoc (ss : List Str) (z : Str) (s : Str) : headsL (ss ++ [z]) s = (headsL ss s || headsN z z.length s) := by
  unfold headsL headsN
  rw [List.any_append]
  simp
theorem headsN_succ (z : Str) (n : Nat) (s : Str) : headsN z (n + 1) s = (headsN z n s || decide (cutS z none (some ((n + 1 : Nat) : Int)) = s)) := by
  unfold headsN
  rw [List.range_succ, List.any_append]
  simp
theorem headsL_congr {ss ts : List Str} (h : ∀ z, z ∈ ss ↔ z ∈ ts) (s : Str) : headsL ss s = headsL ts s := by
  unfold headsL
  rw [Bool.eq_iff_iff, List.any_eq_true, List.any_eq_true]
  exact ⟨fun ⟨z, m, e⟩ => ⟨z, (h z).mp m, e⟩, fun ⟨z, m, e⟩ => ⟨z, (h z).mpr m, e⟩⟩
theorem isHead_L (pl : List (Str × Int)) (s : Str) : isHead pl s = headsL (pl.map (·.1)) s := by
  unfold isHead headsL
  rw [List.any_map]
  rfl
def sp_beginnings (K : PySem.W.Frag) : Sp := fun vs H Q _ => ∃ a ss, vs = [.ref a] ∧ SqL K H a ((ss : List Str).map V.str) ∧ ss.length ≤ 1000 ∧ (∀ z ∈ ss, z.length ≤ 1000) ∧
  ∀ H' D kvs, Same H H' → H D = none → H' D = some (.dK kvs) → (∀ s : Str, (valV kvs (Sum.inr s)).isSome = headsL ss s) → Q (.ref D) H'
theorem ok_beginnings {P : Program} {w : World} {K : PySem.W.Frag} {mg : Str → Option Value} {base : Heap} (T : Tx K mg)  : FnOk P w K mg base CX0 1 T.a_beginnings T.d_beginnings ["signs"] (sp_beginnings K) := by
  refine T.F_beginnings.ok sc_beginnings (fun vs H Q E h => ?_) (fun cdv A outer s H vs Q E hr h => ?_)
  · obtain ⟨a, ss, rfl, _⟩ := h
    rfl
  · obtain ⟨a, ss, rfl, ha, hl, hz, k⟩ := h
    have hu := hu_of hr
    have hzl : sizeLine = 16777216 := rfl
    refine ⟨_, (pss_cons (ps_set (i := 1) sc_beginnings.nd rfl (by first | exact Or.inl rfl | exact Or.inr rfl) pe_dnewK) (pss_cons (ps_for PassesOwn.never rfl (pi_list (pv 0)) (pg_name (i := 2) sc_beginnings.nd rfl (by first | exact Or.inl rfl | exact Or.inr rfl)) (pss_one (ps_for PassesOwn.never rfl (pi_range2 (by rfl) T.z_range (pa_cons pe_int (pa_cons (pe_op op_add (pe_callB call_len_str (by rfl) T.z_len (by decide +kernel) (pa_cons (pv 2) pa_nil)) pe_int) pa_nil))) (pg_name (i := 3) sc_beginnings.nd rfl (by first | exact Or.inl rfl | exact Or.inr rfl)) (pss_one (ps_dput hu (pv 1) (pe_slice sl_str (pv 2) po_none (po_some (pv 3))) pe_bl rfl))))) (pss_one (ps_ret (pv 1))))), ?_⟩
    refine seq_asg ?_
    intro D nD
    dsimp only [gName]
    show tSeq _ _ _ [some (.ref a), some (.ref D), none, none] _
    refine seq_open (fun σ' G => ∃ w2 w3 kvs, σ' = [some (.ref a), some (.ref D), w2, w3] ∧ Same H G ∧ G D = some (.dK kvs) ∧ ∀ s : Str, (valV kvs (Sum.inr s)).isSome = headsL ss s) (fun NX hNX => ?_) (fun σ' G h => ?_)
    · have s0 := same_new (o := .dK []) nD
      refine ⟨_, rfl, a, rfl, ⟨_, SqL.same ha s0⟩, ?_⟩
      refine for_list (K := K) (a := a) (xs := ss.map V.str) (fun i σ G => ∃ w2 w3 kvs, σ = [some (.ref a), some (.ref D), w2, w3] ∧ Same H G ∧ G D = some (.dK kvs) ∧ kvs.length ≤ 1000 * i ∧ ∀ s : Str, (valV kvs (Sum.inr s)).isSome = headsL (ss.take i) s)
        ⟨none, none, [], rfl, s0, upd_same, Nat.zero_le _, fun s => rfl⟩ (fun i σ G _ ⟨_, _, _, _, q, _⟩ => SqL.same ha q) (fun i y σ G hy z => ?_) (fun σ G z => ?_)
      · obtain ⟨w2, w3, kvs, rfl, sG, hD, hkl, hv⟩ := z
        have hi : i < ss.length := by
          have := (List.getElem?_eq_some_iff.mp hy).1
          rw [List.length_map] at this
          exact this
        obtain ⟨x, hx⟩ : ∃ x, ss[i]? = some x := ⟨_, List.getElem?_eq_getElem hi⟩
        rw [List.getElem?_map, hx] at hy
        cases hy
        have hxl := hz x (List.mem_of_getElem? hx)
        refine ⟨_, rfl, x, rfl, by omega, _, _, rfl, rfl, ?_⟩
        refine ⟨_, _, rfl, ⟨by omega, by omega, by omega, by omega⟩, ?_⟩
        have en : ((x.length : Int) + 1 - 1).toNat = x.length := by omega
        show ∃ W, _
        rw [en]
        refine for_range (lo := 1) (n := x.length) (fun j σ G => ∃ w3 kvs, σ = [some (.ref a), some (.ref D), some (.str x), w3] ∧ Same H G ∧ G D = some (.dK kvs) ∧ kvs.length ≤ 1000 * i + j ∧ ∀ s : Str, (valV kvs (Sum.inr s)).isSome = (headsL (ss.take i) s || headsN x j s))
          ⟨w3, kvs, rfl, sG, hD, hkl, fun s => by rw [hv s]; show _ = (_ || false); rw [Bool.or_false]⟩ (fun j σ G hj z => ?_) (fun σ G z => ?_)
        · obtain ⟨w3, kvs, rfl, sG, hD, hkl, hv⟩ := z
          refine ⟨_, rfl, _, rfl, ?_⟩
          dsimp only [tNoPart]
          have hk2 : kvs.length < sizeLine := by omega
          refine ⟨_, rfl, _, rfl, x, rfl, by omega, D, _, rfl, DPut.k (k := Sum.inr (cutS x none (some (1 + (j : Int))))) hD hk2, ?_⟩
          have := length_putK kvs (Sum.inr (cutS x none (some (1 + (j : Int))))) (.bl true)
          refine ⟨_, _, rfl, fun c o e => by rw [upd_ne (ne_of_none e nD)]; exact sG c o e, upd_same, by omega, fun s => ?_⟩
          rw [valV_put, headsN_succ, ← Bool.or_assoc, ← hv s]
          have ej : (1 + (j : Int)) = ((j + 1 : Nat) : Int) := by omega
          rw [ej]
          by_cases e : (Sum.inr s : Key) = Sum.inr (cutS x none (some ((j + 1 : Nat) : Int)))
          · rw [if_pos e]
            have e2 := Sum.inr.inj e
            rw [decide_eq_true e2.symm, Bool.or_true]
            rfl
          · rw [if_neg e, decide_eq_false (fun z => e (by rw [z])), Bool.or_false]
        · obtain ⟨w3, kvs, rfl, sG, hD, hkl, hv⟩ := z
          refine ⟨_, _, kvs, rfl, sG, hD, by omega, fun s => ?_⟩
          rw [hv s, take_snoc hx, headsL_snoc]
      · obtain ⟨w2, w3, kvs, rfl, sG, hD, hkl, hv⟩ := z
        rw [List.length_map, List.take_length] at hv
        exact hNX _ _ ⟨w2, w3, kvs, rfl, sG, hD, hv⟩
    · obtain ⟨w2, w3, kvs, rfl, sG, hD, hv⟩ := h
      exact ⟨_, rfl, k G D kvs sG nD hD hv⟩

end NB

namespace NB
open PySem PySem.Spec PyProof.Rows L2 LamX
/-! ### TermReader.__init__ -/
theorem sc_TermReader___init__ : FnScope ["self", "places"] ["self", "places"] (defScope s_TermReader___init__) := ⟨rfl, rfl, rfl, by decide +kernel, rfl, by decide +kernel, by decide +kernel⟩
/-- a dict of places, its names -/
def NmAt (H : Hp) (pd : Addr) (pl : List (Str × Int)) : Prop := ∃ (kvp : List (Key × V)) (ns : List Str), H pd = some (.dK kvp) ∧ (∀ s : Str, valV kvp (Sum.inr s) = (lookS pl s).map V.int) ∧ kvp.map (·.1) = ns.map (Sum.inr : Str → Key) ∧ ns.length ≤ 1000 ∧ (∀ z ∈ ns, z.length ≤ 1000)
theorem NmAt.plc {H : Hp} {pd : Addr} {pl : List (Str × Int)} (h : NmAt H pd pl) : PlcAt H pd pl := by
  obtain ⟨kvp, ns, h1, h2, _⟩ := h
  exact ⟨kvp, h1, h2⟩
theorem lookS_some {pl : List (Str × Int)} {s : Str} : (lookS pl s).isSome = true ↔ s ∈ pl.map (·.1) := by
  unfold lookS
  rw [Option.isSome_map, List.find?_isSome, List.mem_map]
  exact ⟨fun ⟨e, m, h⟩ => ⟨e, m, of_decide_eq_true h⟩, fun ⟨e, m, h⟩ => ⟨e, m, decide_eq_true h⟩⟩
theorem valV_some {kvs : List (Key × V)} {k : Key} : (valV kvs k).isSome = true ↔ k ∈ kvs.map (·.1) := by
  unfold valV
  rw [Option.isSome_map, List.find?_isSome, List.mem_map]
  exact ⟨fun ⟨e, m, h⟩ => ⟨e, m, of_decide_eq_true h⟩, fun ⟨e, m, h⟩ => ⟨e, m, decide_eq_true h⟩⟩
def sp_TermReader___init__ (K : PySem.W.Frag) (C : Addr) : Sp := fun vs H Q _ => ∃ x dx pd pl H0, vs = [.ref x, .ref pd] ∧ Same H0 H ∧ H0 x = none ∧ H x = some (.ins C dx []) ∧ NmAt H0 pd pl ∧ ∀ H', RdAt K C H0 H' x pl ⟨"", [], none⟩ → Q .non H'
theorem ok_TermReader___init__ {P : Program} {w : World} {K : PySem.W.Frag} {mg : Str → Option Value} {base : Heap} (T : Tx K mg)  : FnOk P w K mg base CX0 2 T.a_TermReader___init__ T.d_TermReader___init__ ["self", "places"] (sp_TermReader___init__ K T.c_TermReader) := by
  refine T.F_TermReader___init__.ok sc_TermReader___init__ (fun vs H Q E h => ?_) (fun cdv A outer s H vs Q E hr h => ?_)
  · obtain ⟨x, dx, pd, pl, H0, rfl, _⟩ := h
    rfl
  · obtain ⟨x, dx, pd, pl, H0, rfl, s0, nx, hx, hp, k⟩ := h
    have hu := hu_of hr
    have hzl : sizeLine = 16777216 := rfl
    refine ⟨_, (pss_cons (ps_fld (pv 0) (pv 1) rfl) (pss_cons (ps_fld (pv 0) (pe_call (ok_beginnings T) (hr.mono (by first | decide | omega)) rfl T.m_beginnings T.F_beginnings.kp T.b_beginnings .nil pass0 (pa_cons (pe_callTy (L2.call_listD rfl) (by rfl) T.z_list (by decide +kernel) (pa_cons (pv 1) pa_nil)) pa_nil)) rfl) (pss_cons (ps_fld (pv 0) pe_str rfl) (pss_cons (ps_fld (pv 0) (pe_lst pa_nil) rfl) (pss_one (ps_fld (pv 0) pe_non rfl)))))), ?_⟩
    have plc := hp.plc
    obtain ⟨kvp, ns, hpd, hv, hkn, hnl, hnz⟩ := hp
    have hpd1 := s0 _ _ hpd
    have npx : pd ≠ x := fun z => by rw [z, nx] at hpd; cases hpd
    refine ⟨_, rfl, _, rfl, x, T.c_TermReader, dx, [], rfl, hx, T.cl_TermReader, T.n_TermReader_places, (by show 0 < 1000; decide), ?_⟩
    have s1 : Same H0 (upd H x (.ins T.c_TermReader dx (putF ("places" : Str) (.ref pd) []))) := fun b o e => by rw [upd_ne (ne_of_none e nx)]; exact s0 b o e
    have hx1 := upd_same (H := H) (a := x) (o := .ins T.c_TermReader dx (putF ("places" : Str) (.ref pd) []))
    generalize upd H x (.ins T.c_TermReader dx (putF ("places" : Str) (.ref pd) [])) = H1 at s1 hx1 ⊢
    have ek : (kvp.map fun kv => kV kv.1) = ns.map V.str := by
      have : (kvp.map fun kv => kV kv.1) = (kvp.map (·.1)).map kV := by rw [List.map_map]; rfl
      rw [this, hkn, List.map_map]
      rfl
    refine ⟨_, rfl, pd, kvp, rfl, .inl (s1 _ _ hpd), fun p np => ?_⟩
    rw [ek]
    have sp := same_new (o := .lst (ns.map V.str)) np
    refine ⟨p, ns, rfl, .inl (.inl upd_same), hnl, hnz, fun H2 D kvs s2 nD hD hhd => ?_⟩
    have s12 := sp.trans s2
    have hx2 := s12 _ _ hx1
    have s02 := s1.trans s12
    refine ⟨_, rfl, x, T.c_TermReader, dx, _, rfl, hx2, T.cl_TermReader, T.n_TermReader_heads, (by show 1 < 1000; decide), ?_⟩
    have nDx : D ≠ x := fun z => by rw [z, hx2] at hD; cases hD
    have s3 : Same H0 (upd H2 x (.ins T.c_TermReader dx (putF ("heads" : Str) (.ref D) (putF ("places" : Str) (.ref pd) [])))) := fun b o e => by rw [upd_ne (ne_of_none e nx)]; exact s02 b o e
    have hD3 : upd H2 x (.ins T.c_TermReader dx (putF ("heads" : Str) (.ref D) (putF ("places" : Str) (.ref pd) []))) D = some (.dK kvs) := by rw [upd_ne nDx]; exact hD
    have hx3 := upd_same (H := H2) (a := x) (o := .ins T.c_TermReader dx (putF ("heads" : Str) (.ref D) (putF ("places" : Str) (.ref pd) [])))
    generalize upd H2 x (.ins T.c_TermReader dx (putF ("heads" : Str) (.ref D) (putF ("places" : Str) (.ref pd) []))) = H3 at s3 hD3 hx3 ⊢
    refine ⟨_, rfl, x, T.c_TermReader, dx, _, rfl, hx3, T.cl_TermReader, T.n_TermReader_word, (by show 2 < 1000; decide), ?_⟩
    have s4 : Same H0 (upd H3 x (.ins T.c_TermReader dx (putF ("word" : Str) (.str "") (putF ("heads" : Str) (.ref D) (putF ("places" : Str) (.ref pd) []))))) := fun b o e => by rw [upd_ne (ne_of_none e nx)]; exact s3 b o e
    have hD4 : upd H3 x (.ins T.c_TermReader dx (putF ("word" : Str) (.str "") (putF ("heads" : Str) (.ref D) (putF ("places" : Str) (.ref pd) [])))) D = some (.dK kvs) := by rw [upd_ne nDx]; exact hD3
    have hx4 := upd_same (H := H3) (a := x) (o := .ins T.c_TermReader dx (putF ("word" : Str) (.str "") (putF ("heads" : Str) (.ref D) (putF ("places" : Str) (.ref pd) []))))
    generalize upd H3 x (.ins T.c_TermReader dx (putF ("word" : Str) (.str "") (putF ("heads" : Str) (.ref D) (putF ("places" : Str) (.ref pd) [])))) = H4 at s4 hD4 hx4 ⊢
    refine ⟨Nat.zero_le _, fun L nL => ?_⟩
    have s5 := same_new (o := .lst []) nL
    have hD5 := s5 _ _ hD4
    have hx5 := s5 _ _ hx4
    have hL5 := upd_same (H := H4) (a := L) (o := .lst [])
    have s05 := s4.trans s5
    have nL0 := s4.free nL
    generalize upd H4 L (.lst []) = H5 at s5 hD5 hx5 hL5 s05 ⊢
    have nLx : L ≠ x := fun z => by rw [z, hx4] at nL; cases nL
    have nLD : L ≠ D := fun z => by rw [z, hD4] at nL; cases nL
    refine ⟨_, rfl, x, T.c_TermReader, dx, _, rfl, hx5, T.cl_TermReader, T.n_TermReader_frames, (by show 3 < 1000; decide), ?_⟩
    have s6 : Same H0 (upd H5 x (.ins T.c_TermReader dx (putF ("frames" : Str) (.ref L) (putF ("word" : Str) (.str "") (putF ("heads" : Str) (.ref D) (putF ("places" : Str) (.ref pd) [])))))) := fun b o e => by rw [upd_ne (ne_of_none e nx)]; exact s05 b o e
    have hD6 : upd H5 x (.ins T.c_TermReader dx (putF ("frames" : Str) (.ref L) (putF ("word" : Str) (.str "") (putF ("heads" : Str) (.ref D) (putF ("places" : Str) (.ref pd) []))))) D = some (.dK kvs) := by rw [upd_ne nDx]; exact hD5
    have hL6 : upd H5 x (.ins T.c_TermReader dx (putF ("frames" : Str) (.ref L) (putF ("word" : Str) (.str "") (putF ("heads" : Str) (.ref D) (putF ("places" : Str) (.ref pd) []))))) L = some (.lst []) := by rw [upd_ne nLx]; exact hL5
    have hx6 := upd_same (H := H5) (a := x) (o := .ins T.c_TermReader dx (putF ("frames" : Str) (.ref L) (putF ("word" : Str) (.str "") (putF ("heads" : Str) (.ref D) (putF ("places" : Str) (.ref pd) [])))))
    generalize upd H5 x (.ins T.c_TermReader dx (putF ("frames" : Str) (.ref L) (putF ("word" : Str) (.str "") (putF ("heads" : Str) (.ref D) (putF ("places" : Str) (.ref pd) []))))) = H6 at s6 hD6 hL6 hx6 ⊢
    refine ⟨_, rfl, x, T.c_TermReader, dx, _, rfl, hx6, T.cl_TermReader, T.n_TermReader_whole, (by show 4 < 1000; decide), ?_⟩
    have mem : ∀ z, z ∈ ns ↔ z ∈ pl.map (·.1) := fun z => by
      rw [← lookS_some, ← Option.isSome_map (f := V.int), ← hv z, valV_some, hkn, List.mem_map]
      exact ⟨fun m => ⟨z, m, rfl⟩, fun ⟨y, m, e⟩ => by rw [← Sum.inr.inj e]; exact m⟩
    refine k _ ⟨dx, _, pd, D, L, [], .non, kvs, fun b o e => by rw [upd_ne (ne_of_none e nx)]; exact s6 b o e, nx, upd_same, Nat.le_trans (length_putF _ _ _) (Nat.succ_le_succ (Nat.le_trans (length_putF _ _ _) (Nat.succ_le_succ (Nat.le_trans (length_putF _ _ _) (Nat.succ_le_succ (Nat.le_trans (length_putF _ _ _) (Nat.succ_le_succ (length_putF _ _ [])))))))), ?_, ?_, ?_, ?_, ?_, rfl, plc, by rw [upd_ne nDx]; exact hD6, fun s => by rw [hhd s, isHead_L]; exact headsL_congr mem s, nL0, by rw [upd_ne nLx]; exact hL6, .nil, List.nodup_nil, (fun m => nomatch m), (fun e m => nomatch m), fun f nf => ?_⟩
    · rw [lookup_putF, if_neg (by decide +kernel), lookup_putF, if_neg (by decide +kernel), lookup_putF, if_neg (by decide +kernel), lookup_putF, if_neg (by decide +kernel), lookup_putF, if_pos rfl]
    · rw [lookup_putF, if_neg (by decide +kernel), lookup_putF, if_neg (by decide +kernel), lookup_putF, if_neg (by decide +kernel), lookup_putF, if_pos rfl]
    · rw [lookup_putF, if_neg (by decide +kernel), lookup_putF, if_neg (by decide +kernel), lookup_putF, if_pos rfl]
    · rw [lookup_putF, if_neg (by decide +kernel), lookup_putF, if_pos rfl]
    · rw [lookup_putF, if_pos rfl]
    · have ne : ∀ g : Str, g ∈ nmL → ¬ (f = g) := fun g m e => nf (by rw [e]; exact m)
      rw [lookup_putF, if_neg (ne _ (by decide +kernel)), lookup_putF, if_neg (ne _ (by decide +kernel)), lookup_putF, if_neg (ne _ (by decide +kernel)), lookup_putF, if_neg (ne _ (by decide +kernel)), lookup_putF, if_neg (ne _ (by decide +kernel))]
      rfl

end NB

namespace NB
open PySem PySem.Spec PyProof.Rows L2 LamX
/-! ### TermReader.takes_letter -/
theorem sc_TermReader_takes_letter : FnScope ["self", "letter"] ["self", "letter"] (defScope s_TermReader_takes_letter) := ⟨rfl, rfl, rfl, by decide +kernel, rfl, by decide +kernel, by decide +kernel⟩
def sp_TermReader_takes_letter (K : PySem.W.Frag) (C : Addr) : Sp := fun vs H Q _ => ∃ r c pl S H0, vs = [.ref r, .str (one1 c)] ∧ RdAt K C H0 H r pl S ∧ S.word.length ≤ 100000 ∧ (∀ S', letS pl S c = some S' → ∀ H', RdAt K C H0 H' r pl S' → Q (.bl true) H') ∧ (letS pl S c = none → ∀ H', Same H0 H' → Q (.bl false) H')
theorem ok_TermReader_takes_letter {P : Program} {w : World} {K : PySem.W.Frag} {mg : Str → Option Value} {base : Heap} (T : Tx K mg)  : FnOk P w K mg base CX0 1 T.a_TermReader_takes_letter T.d_TermReader_takes_letter ["self", "letter"] (sp_TermReader_takes_letter K T.c_TermReader) := by
  refine T.F_TermReader_takes_letter.ok sc_TermReader_takes_letter (fun vs H Q E h => ?_) (fun cdv A outer s H vs Q E hr h => ?_)
  · obtain ⟨r, c, pl, S, H0, rfl, _⟩ := h
    rfl
  · obtain ⟨r, c, pl, S, H0, rfl, ⟨dx, fs, pd, hd, L, as, wv, kvs, R⟩, hwl, k1, k2⟩ := h
    have hu := hu_of hr
    have hzl : sizeLine = 16777216 := rfl
    refine ⟨_, (pss_cons (ps_if (PW.pt (pw_or (pt_cmpR op_notN (pe_fld (pv 0) rfl) pe_non (nomark _)) (pw_or1 (pt_cmp (pc_dnotin hu (pe_op op_add_str (pe_fld (pv 0) rfl) (pv 1)) (pe_fld (pv 0) rfl)) (by rfl))))) (pss_one (ps_ret pe_bl)) pss_nil) (pss_cons (ps_fld (pv 0) (pe_op op_add_str (pe_fld (pv 0) rfl) (pv 1)) rfl) (pss_one (ps_ret pe_bl)))), ?_⟩
    have l1 : (one1 c).length = 1 := rfl
    have fls := R.len
    refine ⟨_, rfl, r, T.c_TermReader, dx, fs, _, rfl, R.ins, T.cl_TermReader, T.n_TermReader_whole, R.f5, rfl, _, rfl, ?_⟩
    cases ew : S.whole with
    | some t =>
      have wh := R.wh
      rw [ew] at wh
      obtain ⟨b, ys, eb, _⟩ := DpAll.ref (show Dp K H wv (Tm.data t) from wh)
      subst eb
      rw [show decide (V.ref b = V.non) = false from decide_eq_false fun z => nomatch z]
      exact k2 (by unfold letS; rw [ew, if_pos (.inl rfl)]) H R.same
    | none =>
      have wh := R.wh
      rw [ew] at wh
      have wh : wv = .non := wh
      rw [wh, decide_eq_true rfl]
      refine ⟨_, rfl, r, T.c_TermReader, dx, fs, _, rfl, R.ins, T.cl_TermReader, T.n_TermReader_word, R.f3, _, rfl, S.word, one1 c, rfl, rfl, by omega, ?_⟩
      refine ⟨_, rfl, r, T.c_TermReader, dx, fs, _, rfl, R.ins, T.cl_TermReader, T.n_TermReader_heads, R.f2, hd, _, rfl, DGet.k (k := Sum.inr (S.word ++ one1 c)) R.hk, ?_⟩
      rw [R.hv]
      cases eh : isHead pl (S.word ++ one1 c) with
      | false => exact ⟨_, rfl, k2 (by unfold letS; rw [if_pos (.inr eh)]) H R.same⟩
      | true =>
        refine ⟨_, rfl, ?_⟩
        refine ⟨_, rfl, r, T.c_TermReader, dx, fs, _, rfl, R.ins, T.cl_TermReader, T.n_TermReader_word, R.f3, _, rfl, S.word, one1 c, rfl, rfl, by omega, _, rfl, r, T.c_TermReader, dx, fs, rfl, R.ins, T.cl_TermReader, T.n_TermReader_word, by omega, ?_⟩
        refine k1 ⟨S.word ++ one1 c, S.frames, S.whole⟩ ?_ _ ⟨dx, _, pd, hd, L, as, wv, kvs, R.word _⟩
        unfold letS
        rw [if_neg (by rw [ew, eh]; decide)]

end NB

namespace NB
open PySem PySem.Spec PyProof.Rows L2 LamX
/-! ### TermReader.takes_bracket -/
theorem sc_TermReader_takes_bracket : FnScope ["self"] ["self"] (defScope s_TermReader_takes_bracket) := ⟨rfl, rfl, rfl, by decide +kernel, rfl, by decide +kernel, by decide +kernel⟩
def sp_TermReader_takes_bracket (K : PySem.W.Frag) (C : Addr) : Sp := fun vs H Q _ => ∃ r pl S H0, vs = [.ref r] ∧ RdAt K C H0 H r pl S ∧ S.frames.length ≤ 100000 ∧ (∀ S', braS pl S = some S' → ∀ H', RdAt K C H0 H' r pl S' → Q (.bl true) H') ∧ (braS pl S = none → ∀ H', Same H0 H' → Q (.bl false) H')
theorem ok_TermReader_takes_bracket {P : Program} {w : World} {K : PySem.W.Frag} {mg : Str → Option Value} {base : Heap} (T : Tx K mg)  : FnOk P w K mg base CX0 1 T.a_TermReader_takes_bracket T.d_TermReader_takes_bracket ["self"] (sp_TermReader_takes_bracket K T.c_TermReader) := by
  refine T.F_TermReader_takes_bracket.ok sc_TermReader_takes_bracket (fun vs H Q E h => ?_) (fun cdv A outer s H vs Q E hr h => ?_)
  · obtain ⟨r, pl, S, H0, rfl, _⟩ := h
    rfl
  · obtain ⟨r, pl, S, H0, rfl, ⟨dx, fs, pd, hd, L, as, wv, kvs, R⟩, hfl, k1, k2⟩ := h
    have hu := hu_of hr
    have hzl : sizeLine = 16777216 := rfl
    refine ⟨_, (pss_cons (ps_if (pt_cmpR (op_eqD hr.units) (pe_dget2 hu (pe_fld (pv 0) rfl) (pe_fld (pv 0) rfl) pe_int ⟨rfl, rfl, rfl, rfl⟩) pe_int (nomark _)) (pss_one (ps_ret pe_bl)) pss_nil) (pss_cons (ps_expr (pe_bm PySem.F.plainAttrs_list PySem.F.slot_list_append PySem.F.type_list_append mt_append (pe_fld (pv 0) rfl) (pa_cons (pe_lst (pa_cons (pe_fld (pv 0) rfl) pa_nil)) pa_nil))) (pss_cons (ps_fld (pv 0) pe_str rfl) (pss_one (ps_ret pe_bl))))), ?_⟩
    have fls := R.len
    obtain ⟨kvp, hpd, hpv⟩ := R.plc
    have hpd1 := R.same _ _ hpd
    have lal := R.frs.length
    refine ⟨_, rfl, r, T.c_TermReader, dx, fs, _, rfl, R.ins, T.cl_TermReader, T.n_TermReader_places, R.f1, pd, rfl, .inl ⟨_, .inl hpd1⟩, _, rfl, r, T.c_TermReader, dx, fs, _, rfl, R.ins, T.cl_TermReader, T.n_TermReader_word, R.f3, _, DGet.k (k := Sum.inr S.word) hpd1, ?_⟩
    have eg : (valV kvp (Sum.inr S.word)).getD (V.int 0) = V.int ((lookS pl S.word).getD 0) := by
      rw [hpv]
      cases lookS pl S.word <;> rfl
    rw [eg]
    obtain ⟨m, em⟩ : ∃ m, m = (lookS pl S.word).getD 0 := ⟨_, rfl⟩
    rw [← em]
    refine ⟨.int m, .int 0, .int _, .int _, rfl, rfl, _, rfl, ?_⟩
    rw [PyData.eqv]
    by_cases e : m = 0
    · rw [show (m == 0) = true from beq_iff_eq.mpr e]
      exact k2 (by unfold braS; rw [if_pos (by rw [← em, e])]) H R.same
    · rw [show (m == 0) = false from beq_eq_false_iff_ne.mpr e]
      have hs : ∃ n, lookS pl S.word = some n := by
        cases h : lookS pl S.word with
        | some n => exact ⟨n, rfl⟩
        | none =>
          rw [h] at em
          exact absurd em e
      refine ⟨_, rfl, r, T.c_TermReader, dx, fs, _, rfl, R.ins, T.cl_TermReader, T.n_TermReader_frames, R.f4, .inl ⟨rfl, _, .inl (.inl R.fr)⟩, _, rfl, r, T.c_TermReader, dx, fs, _, rfl, R.ins, T.cl_TermReader, T.n_TermReader_word, R.f3, (by show 1 ≤ sizeLine; decide), fun a na => ?_⟩
      have sa := same_new (o := .lst [V.str S.word]) na
      have Ra := R.ext sa
      have nas : a ∉ as := fun m => by
        obtain ⟨xs, h1, _⟩ := R.nas a m
        rw [na] at h1
        cases h1
      have naL : a ≠ L := fun z => by rw [z, R.fr] at na; cases na
      refine ⟨L, _, .ref a, rfl, rfl, Ra.fr, by rw [List.length_map]; omega, ?_⟩
      have Rp := Ra.push upd_same (R.same.free na) nas naL hs
      refine ⟨_, rfl, r, T.c_TermReader, dx, fs, rfl, Rp.ins, T.cl_TermReader, T.n_TermReader_word, by omega, ?_⟩
      refine k1 ⟨"", S.frames ++ [(S.word, [])], S.whole⟩ ?_ _ ⟨dx, _, pd, hd, L, _, wv, kvs, Rp.word ""⟩
      unfold braS
      rw [if_neg (by rw [← em]; exact e)]

end NB

namespace NB
open PySem PySem.Spec PyProof.Rows L2 LamX
/-! ### TermReader.term_here -/
theorem sc_TermReader_term_here : FnScope ["self"] ["self"] (defScope s_TermReader_term_here) := ⟨rfl, rfl, rfl, by decide +kernel, rfl, by decide +kernel, by decide +kernel⟩
def sp_TermReader_term_here (K : PySem.W.Frag) (C : Addr) : Sp := fun vs H Q _ => ∃ r pl S H0, vs = [.ref r] ∧ RdAt K C H0 H r pl S ∧ ∀ v H', Same H H' → WhAt K H' v (hereS pl S) → Q v H'
theorem ok_TermReader_term_here {P : Program} {w : World} {K : PySem.W.Frag} {mg : Str → Option Value} {base : Heap} (T : Tx K mg)  : FnOk P w K mg base CX0 1 T.a_TermReader_term_here T.d_TermReader_term_here ["self"] (sp_TermReader_term_here K T.c_TermReader) := by
  refine T.F_TermReader_term_here.ok sc_TermReader_term_here (fun vs H Q E h => ?_) (fun cdv A outer s H vs Q E hr h => ?_)
  · obtain ⟨r, pl, S, H0, rfl, _⟩ := h
    rfl
  · obtain ⟨r, pl, S, H0, rfl, ⟨dx, fs, pd, hd, L, as, wv, kvs, R⟩, k⟩ := h
    have hu := hu_of hr
    have hzl : sizeLine = 16777216 := rfl
    refine ⟨_, (pss_cons (ps_if (pt_cmpR (op_eqD hr.units) (pe_dget2 hu (pe_fld (pv 0) rfl) (pe_fld (pv 0) rfl) pe_int ⟨rfl, rfl, rfl, rfl⟩) pe_int (nomark _)) (pss_one (ps_ret (pe_tup (pa_cons (pe_fld (pv 0) rfl) pa_nil)))) pss_nil) (pss_one (ps_ret (pe_fld (pv 0) rfl)))), ?_⟩
    have fls := R.len
    obtain ⟨kvp, hpd, hpv⟩ := R.plc
    have hpd1 := R.same _ _ hpd
    refine ⟨_, rfl, r, T.c_TermReader, dx, fs, _, rfl, R.ins, T.cl_TermReader, T.n_TermReader_places, R.f1, pd, rfl, .inl ⟨_, .inl hpd1⟩, _, rfl, r, T.c_TermReader, dx, fs, _, rfl, R.ins, T.cl_TermReader, T.n_TermReader_word, R.f3, _, DGet.k (k := Sum.inr S.word) hpd1, ?_⟩
    have eg : (valV kvp (Sum.inr S.word)).getD (V.int 2) = V.int ((lookS pl S.word).getD 2) := by
      rw [hpv]
      cases lookS pl S.word <;> rfl
    rw [eg]
    obtain ⟨m, em⟩ : ∃ m, m = (lookS pl S.word).getD 2 := ⟨_, rfl⟩
    rw [← em]
    refine ⟨.int m, .int 0, .int _, .int _, rfl, rfl, _, rfl, ?_⟩
    rw [PyData.eqv]
    by_cases e : m = 0
    · rw [show (m == 0) = true from beq_iff_eq.mpr e]
      refine ⟨_, rfl, r, T.c_TermReader, dx, fs, _, rfl, R.ins, T.cl_TermReader, T.n_TermReader_word, R.f3, (by show 1 ≤ sizeLine; decide), fun t nt => ?_⟩
      refine k _ _ (same_new nt) ?_
      have eh : hereS pl S = some (.mk S.word []) := by
        unfold hereS
        rw [if_pos]
        cases h : lookS pl S.word with
        | some n =>
          rw [h] at em
          have em : m = n := em
          rw [← em, e]
        | none =>
          rw [h] at em
          have em : m = 2 := em
          omega
      rw [eh]
      exact .tup (.inl (.inl upd_same)) (.cons (.str _) .nil)
    · rw [show (m == 0) = false from beq_eq_false_iff_ne.mpr e]
      refine ⟨_, rfl, r, T.c_TermReader, dx, fs, _, rfl, R.ins, T.cl_TermReader, T.n_TermReader_whole, R.f5, ?_⟩
      refine k _ _ (Same.refl H) ?_
      have eh : hereS pl S = S.whole := by
        unfold hereS
        rw [if_neg]
        intro h
        rw [h] at em
        exact e em
      rw [eh]
      exact R.wh

end NB

namespace NB
open PySem PySem.Spec PyProof.Rows L2 LamX
/-! ### TermReader.ends_part -/
theorem sc_TermReader_ends_part : FnScope ["self", "letter", "part", "frame", "missing"] ["self", "letter"] (defScope s_TermReader_ends_part) := ⟨rfl, rfl, rfl, by decide +kernel, rfl, by decide +kernel, by decide +kernel⟩
def sp_TermReader_ends_part (K : PySem.W.Frag) (C : Addr) : Sp := fun vs H Q _ => ∃ r c pl S H0, vs = [.ref r, .str (one1 c)] ∧ RdAt K C H0 H r pl S ∧ S.frames.length ≤ 100000 ∧ (∀ e ∈ S.frames, e.2.length ≤ 100000) ∧ (∀ S', endS pl S c = some S' → ∀ H', RdAt K C H0 H' r pl S' → Q (.bl true) H') ∧ (endS pl S c = none → ∀ H', Same H0 H' → Q (.bl false) H')
theorem ok_TermReader_ends_part {P : Program} {w : World} {K : PySem.W.Frag} {mg : Str → Option Value} {base : Heap} (T : Tx K mg)  : FnOk P w K mg base CX0 2 T.a_TermReader_ends_part T.d_TermReader_ends_part ["self", "letter"] (sp_TermReader_ends_part K T.c_TermReader) := by
  refine T.F_TermReader_ends_part.ok sc_TermReader_ends_part (fun vs H Q E h => ?_) (fun cdv A outer s H vs Q E hr h => ?_)
  · obtain ⟨r, c, pl, S, H0, rfl, _⟩ := h
    rfl
  · obtain ⟨r, c, pl, S, H0, rfl, hR, hfl, hfq, k1, k2⟩ := h
    have hu := hu_of hr
    have hzl : sizeLine = 16777216 := rfl
    refine ⟨_, (pss_cons (ps_set (i := 2) sc_TermReader_ends_part.nd rfl (by first | exact Or.inl rfl | exact Or.inr rfl) (pe_meth0 (pv 0) T.cl_TermReader T.h_TermReader_term_here (ok_TermReader_term_here T) (hr.mono (by first | decide | omega)) T.b_TermReader_term_here .nil pass0)) (pss_cons (ps_if (PW.pt (pw_or (pt_cmpR op_isN (pv 2) pe_non (nomark _)) (pw_or1 (pt_cmpR op_eq (pe_callB call_len_seq (by rfl) T.z_len (by decide +kernel) (pa_cons (pe_fld (pv 0) rfl) pa_nil)) pe_int (nomark _))))) (pss_one (ps_ret pe_bl)) pss_nil) (pss_cons (ps_set (i := 3) sc_TermReader_ends_part.nd rfl (by first | exact Or.inl rfl | exact Or.inr rfl) (pe_ix ix_list (pe_fld (pv 0) rfl) (pe_un un_neg pe_int) (fun _ _ => rfl))) (pss_cons (ps_set (i := 4) sc_TermReader_ends_part.nd rfl (by first | exact Or.inl rfl | exact Or.inr rfl) (pe_op op_sub (pe_dget hu (pe_fld (pv 0) rfl) (pe_ix ix_list (pv 3) pe_int (fun _ _ => rfl)) (fun _ _ => rfl)) (pe_callB call_len_seq (by rfl) T.z_len (by decide +kernel) (pa_cons (pv 3) pa_nil)))) (pss_cons (ps_if (pt_cmpR op_ne (pv 1) (pe_ifExp (pt_cmpR op_gt (pv 4) pe_int (nomark _)) pe_str pe_str) (nomark _)) (pss_one (ps_ret pe_bl)) pss_nil) (pss_cons (ps_expr (pe_bm PySem.F.plainAttrs_list PySem.F.slot_list_append PySem.F.type_list_append mt_append (pv 3) (pa_cons (pv 2) pa_nil))) (pss_cons (ps_fld (pv 0) pe_str rfl) (pss_cons (ps_fld (pv 0) pe_non rfl) (pss_cons (ps_if (pt_cmpR op_eq (pv 1) pe_str (nomark _)) (pss_one (ps_fld (pv 0) (pe_callTy call_tuple_of (by rfl) T.z_tuple (by decide +kernel) (pa_cons (pe_bm0 PySem.F.plainAttrs_list PySem.F.slot_list_pop PySem.F.type_list_pop mt_pop (pe_fld (pv 0) rfl)) pa_nil)) rfl)) pss_nil) (pss_one (ps_ret pe_bl))))))))))), ?_⟩
    refine seq_asg ?_
    obtain ⟨dx, fs, pd, hd, L, as, wv, kvs, R0⟩ := id hR
    refine ⟨_, rfl, r, dx, fs, rfl, R0.ins, R0.no _ (by decide +kernel), r, pl, S, H0, rfl, hR, fun v H1 s1 hw => ?_⟩
    have R := R0.ext s1
    clear R0
    have fls := R.len
    have lal := R.frs.length
    dsimp only [gName]
    show tSeq _ _ _ [some (.ref r), some (.str (one1 c)), some v, none, none] _
    cases eh : hereS pl S with
    | none =>
      rw [eh] at hw
      have hw : v = .non := hw
      rw [hw]
      refine ⟨_, rfl, rfl, _, rfl, ?_⟩
      rw [decide_eq_true rfl]
      exact k2 (by unfold endS; rw [eh]) H1 R.same
    | some t =>
      rw [eh] at hw
      have dv : Dp K H1 v (Tm.data t) := hw
      obtain ⟨b, ys, eb, _⟩ := DpAll.ref dv
      refine ⟨_, rfl, rfl, _, rfl, ?_⟩
      rw [show decide (v = V.non) = false from decide_eq_false fun z => by rw [eb] at z; cases z]
      refine ⟨_, rfl, r, T.c_TermReader, dx, fs, _, rfl, R.ins, T.cl_TermReader, T.n_TermReader_frames, R.f4, L, _, rfl, .inl (.inl (.inl R.fr)), rfl, _, rfl, ?_⟩
      rw [List.length_map]
      rcases List.eq_nil_or_concat S.frames with e0 | ⟨F, e, eF⟩
      · have : as.length = 0 := by rw [lal, e0]; rfl
        rw [this, show decide (V.int ((0 : Nat) : Int) = V.int 0) = true from decide_eq_true rfl]
        exact k2 (by unfold endS; rw [eh, e0]; rfl) H1 R.same
      · rcases List.eq_nil_or_concat as with e1 | ⟨bs, a, ea⟩
        · rw [e1, eF, List.concat_eq_append, List.length_append] at lal
          exact absurd lal (by show ¬ 0 = _ + 1; omega)
        rw [List.concat_eq_append] at eF ea
        subst ea
        obtain ⟨w0, wh0, Sw, Sf, Sh⟩ : ∃ x y, S.word = x ∧ S.whole = y ∧ True := ⟨_, _, rfl, rfl, trivial⟩
        have RF : RdX K T.c_TermReader H0 H1 r pl ⟨S.word, F ++ [e], S.whole⟩ dx fs pd hd L (bs ++ [a]) wv kvs := by
          rw [← eF]
          exact R
        have el : (bs ++ [a]).length ≠ 0 := by rw [List.length_append]; show _ + 1 ≠ 0; omega
        rw [show decide (V.int (((bs ++ [a]).length : Nat) : Int) = V.int 0) = false from decide_eq_false fun z => by injection z with z; omega]
        refine ifN (by decide) ?_
        obtain ⟨p1, na, us, hau, dus⟩ := paired_snocD RF.frs
        obtain ⟨n, hn⟩ := RF.ok e (List.mem_append_right _ (List.mem_cons_self ..))
        have hel := hfq e (by rw [eF]; exact List.mem_append_right _ (List.mem_cons_self ..))
        have usl : us.length = e.2.length := by rw [dus.len, Tm.datas_len]
        obtain ⟨kvp, hpd, hpv⟩ := RF.plc
        have hpd1 := RF.same _ _ hpd
        have hfr := RF.fr
        rw [List.map_append] at hfr
        show tSeq _ _ _ [some (.ref r), some (.str (one1 c)), some v, none, none] _
        refine seq_nx ?_
        refine seq_asg ?_
        refine ⟨_, rfl, r, T.c_TermReader, dx, fs, _, rfl, RF.ins, T.cl_TermReader, T.n_TermReader_frames, RF.f4, 1, rfl, L, _, _, _, rfl, rfl, .inl (.inl hfr), atI_last _ _, ?_⟩
        dsimp only [gName]
        refine seq_asg ?_
        refine ⟨_, rfl, r, T.c_TermReader, dx, fs, _, rfl, RF.ins, T.cl_TermReader, T.n_TermReader_places, RF.f1, _, rfl, a, _, _, _, rfl, rfl, .inl (.inl hau), atI_nat (j := 0) rfl, pd, .int n, rfl, ?_, _, rfl, a, _, rfl, .inl (.inl (.inl hau)), _, _, rfl, rfl, ?_⟩
        · have g := DGet.k (k := Sum.inr e.1) hpd1
          rw [hpv, hn] at g
          exact g
        dsimp only [gName]
        obtain ⟨m, em⟩ : ∃ m : Int, m = n - ((V.str e.1 :: us).length : Int) := ⟨_, rfl⟩
        show tSeq _ _ _ [some (.ref r), some (.str (one1 c)), some v, some (.ref a), some (.int (n - ((V.str e.1 :: us).length : Int)))] _
        rw [← em]
        have ew : wantS pl e = if 0 < m then 44 else 41 := by
          have e1 : n - (1 + (e.2.length : Int)) = m := by
            rw [em, List.length_cons, usl]
            omega
          unfold wantS
          rw [hn]
          show (if 0 < n - (1 + (e.2.length : Int)) then 44 else 41) = _
          rw [e1]
        have hif : ∀ (te : TE) (Kt : VK), te = tIf (tTest (tOp (rI0 fun i j => V.bl (decide (j < i))) (tVar 4) (tC (V.int 0)))) (tC (V.str (","))) (tC (V.str (")"))) → Kt (V.str (one1 (wantS pl e))) H1 → te [some (.ref r), some (.str (one1 c)), some v, some (.ref a), some (.int m)] H1 Kt := fun te Kt et hk => by
          rw [et]
          refine ⟨_, rfl, _, _, rfl, rfl, _, rfl, ?_⟩
          by_cases hm : 0 < m
          · rw [if_pos hm] at ew
            rw [ew] at hk
            rw [decide_eq_true hm]
            exact hk
          · rw [if_neg hm] at ew
            rw [ew] at hk
            rw [decide_eq_false hm]
            exact hk
        refine ⟨_, rfl, hif _ _ rfl ⟨rfl, _, rfl, ?_⟩⟩
        have eo : ∀ x y : Nat, V.str (one1 x) = V.str (one1 y) ↔ x = y := fun x y => ⟨fun z => by
          injection z with z
          unfold one1 at z
          injection z with z
          have z := congrArg Array.toList z
          injection z, fun z => by rw [z]⟩
        have eS : endS pl S c = if c = wantS pl e then (if c = 41 then some ⟨"", F, some (.mk e.1 (e.2 ++ [t]))⟩ else some ⟨"", F ++ [(e.1, e.2 ++ [t])], none⟩) else none := by
          unfold endS
          rw [eh, eF, List.getLast?_concat, List.dropLast_concat]
        by_cases hc : c = wantS pl e
        · rw [show decide (V.str (one1 c) = V.str (one1 (wantS pl e))) = true from decide_eq_true ((eo _ _).mpr hc)]
          rw [if_pos hc] at eS
          refine ifN (by decide) ?_
          refine ⟨_, rfl, .inl ⟨rfl, _, .inl (.inl hau)⟩, _, rfl, a, _, v, rfl, rfl, hau, by rw [List.length_cons]; omega, ?_⟩
          have R2 := RF.part hau dv
          have R3 := R2.word ""
          have R4 := R3.whole (v := .non) (o := none) rfl
          refine ⟨_, rfl, r, T.c_TermReader, dx, fs, rfl, R2.ins, T.cl_TermReader, T.n_TermReader_word, by omega, ?_⟩
          have l3 := R3.len
          refine ⟨_, rfl, r, T.c_TermReader, dx, _, rfl, R3.ins, T.cl_TermReader, T.n_TermReader_whole, by omega, ?_⟩
          have h41 : (")" : Str) = one1 41 := by decide +kernel
          refine ⟨_, rfl, rfl, _, rfl, ?_⟩
          by_cases h4 : c = 41
          · rw [show decide (V.str (one1 c) = V.str ")") = true from decide_eq_true (by rw [h41]; exact (eo _ _).mpr h4)]
            rw [if_pos h4] at eS
            have l4 := R4.len
            have hfr4 := R4.fr
            rw [List.map_append] at hfr4
            have R4' : RdX K T.c_TermReader H0 _ r pl ⟨"", F ++ [(e.1, e.2 ++ [t])], none⟩ dx _ pd hd L (bs ++ [a]) .non kvs := R4
            have R5 := RdX.pop (S := ⟨"", [], none⟩) R4'
            obtain ⟨_, na4, vs4, ha4, da4⟩ := paired_snocD R4'.frs
            have naL : a ≠ L := fun z => R4.nl (by rw [← z]; exact List.mem_append_right _ (List.mem_cons_self ..))
            refine ifT ?_
            refine ⟨_, rfl, r, T.c_TermReader, dx, _, _, rfl, R4.ins, T.cl_TermReader, T.n_TermReader_frames, R4.f4, .inl ⟨rfl, _, .inl (.inl hfr4)⟩, L, _, .ref a, rfl, rfl, hfr4, ?_, ?_⟩
            · rw [List.length_append]
              show (bs.map V.ref ++ [V.ref a])[(bs.map V.ref).length + 1 - 1]? = _
              rw [Nat.add_sub_cancel, List.getElem?_append_right (Nat.le_refl _), Nat.sub_self]
              rfl
            · rw [show (bs.map V.ref ++ [a].map V.ref).dropLast = bs.map V.ref from List.dropLast_concat]
              have im5 := Imm.lst (o := .lst (bs.map V.ref)) hfr4
              have ha5 : L2.upd (L2.upd (L2.upd (L2.upd H1 a (.lst (V.str e.1 :: us ++ [v]))) r (.ins T.c_TermReader dx (putF ("word" : Str) (.str "") fs))) r (.ins T.c_TermReader dx (putF ("whole" : Str) V.non (putF ("word" : Str) (.str "") fs)))) L (.lst (bs.map V.ref)) a = some (.lst (V.str e.1 :: vs4)) := by
                rw [upd_ne naL]
                exact ha4
              have da5 := DpAll.imm im5 _ _ (Tm.nl_datas _) da4
              generalize L2.upd (L2.upd (L2.upd (L2.upd H1 a (.lst (V.str e.1 :: us ++ [v]))) r (.ins T.c_TermReader dx (putF ("word" : Str) (.str "") fs))) r (.ins T.c_TermReader dx (putF ("whole" : Str) V.non (putF ("word" : Str) (.str "") fs)))) L (.lst (bs.map V.ref)) = H5 at R5 ha5 da5 ⊢
              refine ⟨a, _, rfl, .inl ⟨.inl (.inl ha5), fun q nq => ?_⟩⟩
              have sq := same_new (o := .tup (V.str e.1 :: vs4)) nq
              have R6 := R5.ext sq
              refine ⟨_, rfl, r, T.c_TermReader, dx, _, rfl, R6.ins, T.cl_TermReader, T.n_TermReader_whole, by omega, ?_⟩
              refine k1 _ eS _ ⟨dx, _, pd, hd, L, _, _, kvs, R6.whole (o := some (.mk e.1 (e.2 ++ [t]))) ?_⟩
              show Dp K _ (.ref q) (Tm.data (.mk e.1 (e.2 ++ [t])))
              rw [Tm.data]
              exact .tup (.inl (.inl upd_same)) (.cons (.str _) (DpAll.same sq _ _ da5))
          · rw [show decide (V.str (one1 c) = V.str ")") = false from decide_eq_false (by rw [h41]; exact fun z => h4 ((eo _ _).mp z))]
            rw [if_neg h4] at eS
            exact k1 _ eS _ ⟨dx, _, pd, hd, L, _, _, kvs, R4⟩
        · rw [show decide (V.str (one1 c) = V.str (one1 (wantS pl e))) = false from decide_eq_false fun z => hc ((eo _ _).mp z)]
          rw [if_neg hc] at eS
          exact k2 eS H1 R.same

end NB

namespace NB
open PySem PySem.Spec PyProof.Rows L2 LamX
/-! ### TermReader.takes -/
theorem sc_TermReader_takes : FnScope ["self", "letter"] ["self", "letter"] (defScope s_TermReader_takes) := ⟨rfl, rfl, rfl, by decide +kernel, rfl, by decide +kernel, by decide +kernel⟩
def RdFew (S : RdS) : Prop := S.word.length ≤ 100000 ∧ S.frames.length ≤ 100000 ∧ ∀ e ∈ S.frames, e.2.length ≤ 100000
def sp_TermReader_takes (K : PySem.W.Frag) (C : Addr) : Sp := fun vs H Q _ => ∃ r c pl S H0, vs = [.ref r, .str (one1 c)] ∧ RdAt K C H0 H r pl S ∧ RdFew S ∧ (∀ S', stepS pl S c = some S' → ∀ H', RdAt K C H0 H' r pl S' → Q (.bl true) H') ∧ (stepS pl S c = none → ∀ H', Same H0 H' → Q (.bl false) H')
theorem ok_TermReader_takes {P : Program} {w : World} {K : PySem.W.Frag} {mg : Str → Option Value} {base : Heap} (T : Tx K mg)  : FnOk P w K mg base CX0 3 T.a_TermReader_takes T.d_TermReader_takes ["self", "letter"] (sp_TermReader_takes K T.c_TermReader) := by
  refine T.F_TermReader_takes.ok sc_TermReader_takes (fun vs H Q E h => ?_) (fun cdv A outer s H vs Q E hr h => ?_)
  · obtain ⟨r, c, pl, S, H0, rfl, _⟩ := h
    rfl
  · obtain ⟨r, c, pl, S, H0, rfl, hR, ⟨w1, w2, w3⟩, k1, k2⟩ := h
    have hu := hu_of hr
    have hzl : sizeLine = 16777216 := rfl
    refine ⟨_, (pss_cons (ps_if (pt_cmpR op_in_sign (pv 1) (pe_glob rfl T.m_LETTERS T.r_LETTERS) (by rfl)) (pss_one (ps_ret (pe_meth (pv 0) T.cl_TermReader T.h_TermReader_takes_letter (ok_TermReader_takes_letter T) (hr.mono (by first | decide | omega)) T.b_TermReader_takes_letter .nil pass0 (pa_cons (pv 1) pa_nil)))) pss_nil) (pss_cons (ps_if (pt_cmpR op_eq (pv 1) pe_str (nomark _)) (pss_one (ps_ret (pe_meth0 (pv 0) T.cl_TermReader T.h_TermReader_takes_bracket (ok_TermReader_takes_bracket T) (hr.mono (by first | decide | omega)) T.b_TermReader_takes_bracket .nil pass0))) pss_nil) (pss_one (ps_ret (pe_meth (pv 0) T.cl_TermReader T.h_TermReader_ends_part (ok_TermReader_ends_part T) (hr.mono (by first | decide | omega)) T.b_TermReader_ends_part .nil pass0 (pa_cons (pv 1) pa_nil)))))), ?_⟩
    obtain ⟨dx, fs, pd, hd, L, as, wv, kvs, R⟩ := id hR
    refine ⟨_, rfl, c, _, rfl, rfl, _, rfl, ?_⟩
    by_cases h1 : c ∈ letL
    · rw [show decide (c ∈ (("abcdefghijklmnopqrstuvwxyz" : Str)).cps.toList) = true from decide_eq_true h1]
      have e : stepS pl S c = letS pl S c := by unfold stepS; rw [if_pos h1]
      rw [e] at k1 k2
      exact ⟨_, rfl, r, dx, fs, rfl, R.ins, R.no _ (by decide +kernel), _, rfl, r, c, pl, S, H0, rfl, hR, w1, k1, k2⟩
    · rw [show decide (c ∈ (("abcdefghijklmnopqrstuvwxyz" : Str)).cps.toList) = false from decide_eq_false h1]
      refine ifN (by decide) ?_
      have h40 : ("(" : Str) = one1 40 := by decide +kernel
      have eo : ∀ x y : Nat, V.str (one1 x) = V.str (one1 y) ↔ x = y := fun x y => ⟨fun z => by
        injection z with z
        unfold one1 at z
        injection z with z
        have z := congrArg Array.toList z
        injection z, fun z => by rw [z]⟩
      refine ⟨_, rfl, rfl, _, rfl, ?_⟩
      rw [h40]
      by_cases h2 : c = 40
      · rw [show decide (V.str (one1 c) = V.str (one1 40)) = true from decide_eq_true ((eo _ _).mpr h2)]
        have e : stepS pl S c = braS pl S := by unfold stepS; rw [if_neg h1, if_pos h2]
        rw [e] at k1 k2
        exact ⟨_, rfl, r, dx, fs, rfl, R.ins, R.no _ (by decide +kernel), r, pl, S, H0, rfl, hR, w2, k1, k2⟩
      · rw [show decide (V.str (one1 c) = V.str (one1 40)) = false from decide_eq_false fun z => h2 ((eo _ _).mp z)]
        have e : stepS pl S c = endS pl S c := by unfold stepS; rw [if_neg h1, if_neg h2]
        rw [e] at k1 k2
        exact ⟨_, rfl, r, dx, fs, rfl, R.ins, R.no _ (by decide +kernel), _, rfl, r, c, pl, S, H0, rfl, hR, w2, w3, k1, k2⟩

end NB

namespace NB
open PySem PySem.Spec PyProof.Rows L2 LamX
/-! ### TermReader.finished -/
theorem sc_TermReader_finished : FnScope ["self"] ["self"] (defScope s_TermReader_finished) := ⟨rfl, rfl, rfl, by decide +kernel, rfl, by decide +kernel, by decide +kernel⟩
def finS (pl : List (Str × Int)) (S : RdS) : Option Tm := if S.frames.length = 0 then hereS pl S else none
def sp_TermReader_finished (K : PySem.W.Frag) (C : Addr) : Sp := fun vs H Q _ => ∃ r pl S H0, vs = [.ref r] ∧ RdAt K C H0 H r pl S ∧ ∀ v H', Same H0 H' → WhAt K H' v (finS pl S) → Q v H'
theorem ok_TermReader_finished {P : Program} {w : World} {K : PySem.W.Frag} {mg : Str → Option Value} {base : Heap} (T : Tx K mg)  : FnOk P w K mg base CX0 2 T.a_TermReader_finished T.d_TermReader_finished ["self"] (sp_TermReader_finished K T.c_TermReader) := by
  refine T.F_TermReader_finished.ok sc_TermReader_finished (fun vs H Q E h => ?_) (fun cdv A outer s H vs Q E hr h => ?_)
  · obtain ⟨r, pl, S, H0, rfl, _⟩ := h
    rfl
  · obtain ⟨r, pl, S, H0, rfl, hR, k⟩ := h
    have hzl : sizeLine = 16777216 := rfl
    refine ⟨_, (pss_cons (ps_if (pt_cmpR op_gt (pe_callB call_len_seq (by rfl) T.z_len (by decide +kernel) (pa_cons (pe_fld (pv 0) rfl) pa_nil)) pe_int (nomark _)) (pss_one (ps_ret pe_non)) pss_nil) (pss_one (ps_ret (pe_meth0 (pv 0) T.cl_TermReader T.h_TermReader_term_here (ok_TermReader_term_here T) (hr.mono (by first | decide | omega)) T.b_TermReader_term_here .nil pass0)))), ?_⟩
    obtain ⟨dx, fs, pd, hd, L, as, wv, kvs, R⟩ := id hR
    have lal := R.frs.length
    refine ⟨_, rfl, r, T.c_TermReader, dx, fs, _, rfl, R.ins, T.cl_TermReader, T.n_TermReader_frames, R.f4, L, _, rfl, .inl (.inl (.inl R.fr)), _, _, rfl, rfl, _, rfl, ?_⟩
    rw [List.length_map, lal]
    by_cases e : S.frames.length = 0
    · rw [decide_eq_false (by omega)]
      refine ⟨_, rfl, r, dx, fs, rfl, R.ins, R.no _ (by decide +kernel), r, pl, S, H0, rfl, hR, fun v H1 s1 hw => ?_⟩
      refine k v H1 (R.same.trans s1) ?_
      unfold finS
      rw [if_pos e]
      exact hw
    · rw [decide_eq_true (by omega)]
      refine k _ H R.same ?_
      unfold finS
      rw [if_neg e]
      rfl

end NB

namespace NB
open PySem PySem.Spec PyProof.Rows L2 LamX
/-! ### parsed -/
theorem sc_parsed : FnScope ["places", "text", "reader", "number", "letter"] ["places", "text"] (defScope s_parsed) := ⟨rfl, rfl, rfl, by decide +kernel, rfl, by decide +kernel, by decide +kernel⟩
/-- what a text comes to: a term, or none and a place -/
def goS (pl : List (Str × Int)) : RdS → List Nat → Nat → Option Tm × Nat
  | S, [], k => (finS pl S, k + 1)
  | S, c :: l, k => match stepS pl S c with
    | some S' => goS pl S' l (k + 1)
    | none => (none, k + 1)
def parseS (pl : List (Str × Int)) (z : Str) : Option Tm × Nat := goS pl ⟨"", [], none⟩ z.cps.toList 0
def RdN (S : RdS) (n : Nat) : Prop := S.word.length ≤ n ∧ S.frames.length ≤ n ∧ ∀ e ∈ S.frames, e.2.length ≤ n
theorem str_app_len (a b : Str) : (a ++ b).length = a.length + b.length := strLen_append a b
theorem RdN.step {pl : List (Str × Int)} {S S' : RdS} {c n : Nat} (h : RdN S n) (e : stepS pl S c = some S') : RdN S' (n + 1) := by
  obtain ⟨h1, h2, h3⟩ := h
  unfold stepS at e
  split at e
  · unfold letS at e
    split at e
    · cases e
    · cases e
      refine ⟨?_, by show S.frames.length ≤ _; omega, fun x m => Nat.le_succ_of_le (h3 x m)⟩
      show (S.word ++ one1 c).length ≤ _
      rw [str_app_len]
      have : (one1 c).length = 1 := rfl
      omega
  · split at e
    · unfold braS at e
      split at e
      · cases e
      · cases e
        refine ⟨Nat.zero_le _, ?_, fun x m => ?_⟩
        · show (S.frames ++ [(S.word, [])]).length ≤ _
          rw [List.length_append]
          show _ + 1 ≤ _
          omega
        · rcases List.mem_append.mp m with m | m
          · exact Nat.le_succ_of_le (h3 x m)
          · rw [List.mem_singleton.mp m]
            exact Nat.zero_le _
    · unfold endS at e
      split at e
      · rename_i t f eh ef
        have mf := List.mem_of_getLast? ef
        have fl := h3 f mf
        split at e
        · split at e
          · cases e
            exact ⟨Nat.zero_le _, by show S.frames.dropLast.length ≤ _; rw [List.length_dropLast]; omega, fun x m => Nat.le_succ_of_le (h3 x (List.mem_of_mem_take (by rw [List.dropLast_eq_take] at m; exact m)))⟩
          · cases e
            refine ⟨Nat.zero_le _, ?_, fun x m => ?_⟩
            · show (S.frames.dropLast ++ [(f.1, f.2 ++ [t])]).length ≤ _
              rw [List.length_append, List.length_dropLast]
              show _ + 1 ≤ _
              omega
            · rcases List.mem_append.mp m with m | m
              · exact Nat.le_succ_of_le (h3 x (List.mem_of_mem_take (by rw [List.dropLast_eq_take] at m; exact m)))
              · rw [List.mem_singleton.mp m]
                show (f.2 ++ [t]).length ≤ _
                rw [List.length_append]
                show _ + 1 ≤ _
                omega
        · cases e
      · cases e
def sp_parsed (K : PySem.W.Frag) : Sp := fun vs H Q _ => ∃ pd pl z, vs = [.ref pd, .str z] ∧ NmAt H pd pl ∧ z.length ≤ 100000 ∧
  ∀ H' t v, Same H H' → SqT K H' t [v, .int ((parseS pl z).2 : Int)] → WhAt K H' v (parseS pl z).1 → Q (.ref t) H'
theorem ok_parsed {P : Program} {w : World} {K : PySem.W.Frag} {mg : Str → Option Value} {base : Heap} (T : Tx K mg)  : FnOk P w K mg base CX0 4 T.a_parsed T.d_parsed ["places", "text"] (sp_parsed K) := by
  refine T.F_parsed.ok sc_parsed (fun vs H Q E h => ?_) (fun cdv A outer s H vs Q E hr h => ?_)
  · obtain ⟨pd, pl, z, rfl, _⟩ := h
    rfl
  · obtain ⟨pd, pl, z, rfl, hp, hzl2, k⟩ := h
    have hu := hu_of hr
    have hzl : sizeLine = 16777216 := rfl
    refine ⟨_, (pss_cons (ps_set (i := 2) sc_parsed.nd rfl (by first | exact Or.inl rfl | exact Or.inr rfl) (pe_make T.mk_TermReader (ok_TermReader___init__ T) (hr.mono (by first | decide | omega)) rfl T.m_TermReader T.b_TermReader___init__ .nil pass0 (pa_cons (pv 0) pa_nil))) (pss_cons (ps_for PassesOwn.never rfl (pi_enumS (by rfl) T.z_enumerate (pa_cons (pv 1) pa_nil)) (pg_tup rfl (pgs_cons (pg_name (i := 3) sc_parsed.nd rfl (by first | exact Or.inl rfl | exact Or.inr rfl)) (pgs_cons (pg_name (i := 4) sc_parsed.nd rfl (by first | exact Or.inl rfl | exact Or.inr rfl)) pgs_nil))) (pss_one (ps_if (pt_not (pt_val (pe_meth (pv 2) T.cl_TermReader T.h_TermReader_takes (ok_TermReader_takes T) (hr.mono (by first | decide | omega)) T.b_TermReader_takes .nil pass0 (pa_cons (pv 4) pa_nil)))) (pss_one (ps_ret (pe_tup (pa_cons pe_non (pa_cons (pe_op op_add (pv 3) pe_int) pa_nil))))) pss_nil))) (pss_one (ps_ret (pe_tup (pa_cons (pe_meth0 (pv 2) T.cl_TermReader T.h_TermReader_finished (ok_TermReader_finished T) (hr.mono (by first | decide | omega)) T.b_TermReader_finished .nil pass0) (pa_cons (pe_op op_add (pe_callB call_len_str (by rfl) T.z_len (by decide +kernel) (pa_cons (pv 1) pa_nil)) pe_int) pa_nil))))))), ?_⟩
    refine seq_asg ?_
    refine ⟨_, rfl, fun x dx nx ndx nex => ?_⟩
    have s2 : Same H (upd (upd H dx (.own x)) x (.ins T.c_TermReader dx [])) := fun b o e => by
      rw [upd_ne (ne_of_none e nx), upd_ne (ne_of_none e ndx)]
      exact e
    refine ⟨x, dx, pd, pl, H, rfl, s2, nx, upd_same, hp, fun H1 hR => ⟨rfl, ?_⟩⟩
    dsimp only [gName]
    show tSeq _ _ _ [some (.ref pd), some (.str z), some (.ref x), none, none] _
    refine seq_open (fun σ' G => ∃ w3 w4 S, σ' = [some (.ref pd), some (.str z), some (.ref x), w3, w4] ∧ RdAt K T.c_TermReader H G x pl S ∧ parseS pl z = (finS pl S, z.length + 1)) (fun NX hNX => ?_) (fun σ' G h => ?_)
    · refine ⟨_, rfl, z, rfl, ?_⟩
      have zs : z.cps.size = z.length := rfl
      refine for_it (walk_enumS (z := z)) (fun j σ G => ∃ w3 w4 S, σ = [some (.ref pd), some (.str z), some (.ref x), w3, w4] ∧ RdAt K T.c_TermReader H G x pl S ∧ RdN S j ∧ parseS pl z = goS pl S (z.cps.toList.drop j) j)
        ⟨none, none, _, rfl, hR, ⟨Nat.zero_le _, Nat.zero_le _, (fun e m => nomatch m)⟩, rfl⟩ (fun _ _ _ _ _ => trivial) (fun j y σ G G2 hj h1 h2 => ?_) (fun σ G h => ?_)
      · obtain ⟨w3, w4, S, rfl, hR, hN, eP⟩ := h1
        obtain ⟨T1, x1, y1, rfl, nT, rfl, e4, e5⟩ := h2
        cases e4
        obtain ⟨c, hc, ey⟩ := Option.map_eq_some_iff.mp e5
        subst ey
        have sT := same_new (o := .tup [.int (j : Nat), .str ⟨#[c]⟩]) nT
        obtain ⟨dx', fs, pd', hd, L, as, wv, kvs, R⟩ := id hR
        have R2 := R.ext sT
        have hcl : z.cps.toList[j]? = some c := by rw [Array.getElem?_toList]; exact hc
        have hdr : z.cps.toList.drop j = c :: z.cps.toList.drop (j + 1) := by
          have hjl : j < z.cps.toList.length := (List.getElem?_eq_some_iff.mp hcl).1
          rw [List.drop_eq_getElem_cons hjl]
          congr 1
          exact (List.getElem?_eq_some_iff.mp hcl).2
        rw [hdr] at eP
        refine ⟨T1, _, rfl, .inl (.inl upd_same), rfl, _, _, rfl, _, _, rfl, rfl, ?_⟩
        show tIfS _ _ _ _ [some (.ref pd), some (.str z), some (.ref x), some (.int (j : Nat)), some (.str ⟨#[c]⟩)] _
        have hN' := hN
        obtain ⟨n1, n2, n3⟩ := hN'
        refine ⟨_, rfl, x, dx', fs, rfl, R2.ins, R2.no _ (by decide +kernel), _, rfl, x, c, pl, S, H, rfl, ⟨dx', fs, pd', hd, L, as, wv, kvs, R2⟩, ⟨by omega, by omega, fun e m => by have := n3 e m; omega⟩, fun S' eS G3 hR3 => ⟨_, rfl, ?_⟩, fun eS G3 s3 => ⟨_, rfl, ?_⟩⟩
        · refine ⟨_, _, S', rfl, hR3, hN.step eS, ?_⟩
          rw [eP]
          show (match stepS pl S c with | some S' => goS pl S' (z.cps.toList.drop (j + 1)) (j + 1) | none => (none, j + 1)) = _
          rw [eS]
        · have eR : parseS pl z = (none, j + 1) := by
            rw [eP]
            show (match stepS pl S c with | some S' => goS pl S' (z.cps.toList.drop (j + 1)) (j + 1) | none => (none, j + 1)) = _
            rw [eS]
          refine ⟨_, rfl, _, _, rfl, rfl, (by show 2 ≤ sizeLine; decide), fun t nt => ?_⟩
          have st := same_new (o := .tup [V.non, V.int ((j : Nat) + 1 : Int)]) nt
          refine k _ t .non (s3.trans st) ?_ (by rw [eR]; rfl)
          rw [eR]
          exact .inl (.inl upd_same)
      · obtain ⟨w3, w4, S, rfl, hR, hN, eP⟩ := h
        have e0 : z.cps.toList.drop z.cps.size = [] := List.drop_of_length_le (by rw [Array.length_toList]; exact Nat.le_refl _)
        rw [e0] at eP
        exact hNX _ _ ⟨w3, w4, S, rfl, hR, eP⟩
    · obtain ⟨w3, w4, S, rfl, hR, eP⟩ := h
      obtain ⟨dx', fs, pd', hd, L, as, wv, kvs, R⟩ := id hR
      refine ⟨_, rfl, x, dx', fs, rfl, R.ins, R.no _ (by decide +kernel), x, pl, S, H, rfl, hR, fun v G2 s2 hw => ?_⟩
      refine ⟨_, rfl, z, rfl, by omega, _, _, rfl, rfl, (by show 2 ≤ sizeLine; decide), fun t nt => ?_⟩
      have st := same_new (o := .tup [v, V.int ((z.length : Nat) + 1 : Int)]) nt
      refine k _ t v (s2.trans st) ?_ ?_
      · rw [eP]
        exact .inl (.inl upd_same)
      · rw [eP]
        exact hw.imm (Imm.of st)

end NB

namespace NB
open PySem PySem.Spec PyProof.Rows L2 LamX
/-! ### read_term -/
theorem sc_read_term : FnScope ["lore", "text", "term", "place"] ["lore", "text"] (defScope s_read_term) := ⟨rfl, rfl, rfl, by decide +kernel, rfl, by decide +kernel, by decide +kernel⟩
theorem put_keys {kvs : List (Key × V)} {ns : List Str} {s : Str} {v : V} (h : kvs.map (·.1) = ns.map (Sum.inr : Str → Key)) : ∃ ms : List Str, (putK kvs (Sum.inr s) v).map (·.1) = ms.map (Sum.inr : Str → Key) ∧ (∀ z ∈ ms, z ∈ ns ∨ z = s) ∧ ms.length ≤ ns.length + 1 := by
  unfold putK
  split
  · refine ⟨ns, ?_, fun z m => .inl m, Nat.le_succ _⟩
    rw [List.map_map, ← h]
    refine List.map_congr_left fun e _ => ?_
    show (if e.1 = Sum.inr s then (e.1, v) else e).1 = e.1
    split <;> rfl
  · refine ⟨ns ++ [s], by rw [List.map_append, List.map_append, h]; rfl, fun z m => ?_, by rw [List.length_append]; exact Nat.le_refl _⟩
    rcases List.mem_append.mp m with m | m
    · exact .inl m
    · exact .inr (List.mem_singleton.mp m)
theorem merge_keys : ∀ (sg : List Sg) (kvs : List (Key × V)) (ns : List Str), kvs.map (·.1) = ns.map (Sum.inr : Str → Key) → ∃ ms : List Str, (mergeK kvs (sg.map kvS)).map (·.1) = ms.map (Sum.inr : Str → Key) ∧ (∀ z ∈ ms, z ∈ ns ∨ z ∈ sg.map (·.1)) ∧ ms.length ≤ ns.length + sg.length
  | [], kvs, ns, h => ⟨ns, h, fun z m => .inl m, Nat.le_refl _⟩
  | e :: sg, kvs, ns, h => by
    obtain ⟨ms, h1, h2, h3⟩ := put_keys (s := e.1) (v := (kvS e).2) h
    obtain ⟨ks, g1, g2, g3⟩ := merge_keys sg (putK kvs (Sum.inr e.1) (kvS e).2) ms h1
    refine ⟨ks, g1, fun z m => ?_, by rw [List.length_cons]; omega⟩
    rcases g2 z m with w | w
    · rcases h2 z w with y | y
      · exact .inl y
      · exact .inr (by rw [y]; exact List.mem_cons_self ..)
    · exact .inr (List.mem_cons_of_mem _ w)
theorem nm_merge {H : Hp} {p : Addr} {sg : List Sg} (h : H p = some (.dK (mergeK [] (sg.map kvS)))) (hl : sg.length ≤ 1000) (hz : ∀ e ∈ sg, e.1.length ≤ 1000) : NmAt H p sg.reverse := by
  obtain ⟨kvp, h1, h2⟩ := plc_merge h
  rw [h] at h1
  obtain rfl := HO.dK.inj (Option.some.inj h1)
  obtain ⟨ms, g1, g2, g3⟩ := merge_keys sg [] [] rfl
  refine ⟨_, ms, h, h2, g1, by rw [List.length_nil] at g3; omega, fun z m => ?_⟩
  rcases g2 z m with w | w
  · exact nomatch w
  · obtain ⟨e, me, rfl⟩ := List.mem_map.mp w
    exact hz e me
/-- what is raised: BadText with a place -/
theorem mk_place {K : PySem.W.Frag} {B : Addr} {H : Hp} {E : XK} {x : V} {σ : L2.St} (o : OexC K B) (n : PySem.W.findIn K (.ref B) "place" = some none) (h : ∀ H' dd, Same H H' → H' dd = some (.xd [("place", x)]) → E (.ref B) (some dd) H') {t : TE} (ht : ∀ Q : VK, Q x H → t σ H Q) :
    tMkO B (sp_BadText___init__ K) [] (tCons t tNil) σ H E :=
  ht _ ⟨by show 1 ≤ 1000; decide, fun a na => ⟨a, B, x, rfl, o, n, upd_same, fun dx nd ne => ⟨rfl, dx, _, upd_same, (by rw [upd_ne ne, upd_same]), (bad_heap (fs := [("place", x)]) na nd ne).1, h _ _ (bad_heap na nd ne).2 upd_same⟩⟩⟩
def StrV (K : PySem.W.Frag) (H : Hp) (v : V) (b : Bool) : Prop := ∃ t, TyX K H v t ∧ PySem.W.kitOne K t (.type "str") = some b
def SgFew (sg : List Sg) : Prop := sg.length ≤ 1000 ∧ ∀ e ∈ sg, e.1.length ≤ 1000
def sp_read_term (K : PySem.W.Frag) (C B : Addr) : Sp := fun vs H Q E => ∃ p v sg ls b, vs = [.ref p, v] ∧ LoreAt K C H p sg ls ∧ SgFew sg ∧ StrV K H v b ∧
  (b = true → ∃ z, v = .str z ∧ z.length ≤ 100000 ∧ (∀ t, (parseS sg.reverse z).1 = some t → ∀ H' u, Same H H' → Dp K H' u (Tm.data t) → Q u H') ∧ ((parseS sg.reverse z).1 = none → ∀ H' dd, Same H H' → H' dd = some (.xd [("place", .int ((parseS sg.reverse z).2 : Int))]) → E (.ref B) (some dd) H')) ∧
  (b = false → ∀ H' dd, Same H H' → H' dd = some (.xd [("place", .int 0)]) → E (.ref B) (some dd) H')
theorem ok_read_term {P : Program} {w : World} {K : PySem.W.Frag} {mg : Str → Option Value} {base : Heap} (T : Tx K mg)  : FnOk P w K mg base (L2.CX P w) 5 T.a_read_term T.d_read_term ["lore", "text"] (sp_read_term K T.c_Lore T.c_BadText) := by
  refine T.F_read_term.okX sc_read_term (fun vs H Q E h => ?_) (fun cdv A outer s H vs Q E hr h => ?_)
  · obtain ⟨p, v, sg, ls, b, rfl, _⟩ := h
    rfl
  · obtain ⟨p, v, sg, ls, b, rfl, hp, hfew, ⟨t, t1, t2⟩, k1, k2⟩ := h
    have hu := hu_of hr
    have hzl : sizeLine = 16777216 := rfl
    refine ⟨_, (pss_cons (ps_if (pt_not (pt_val (pe_callB call_isi (by rfl) T.z_isinstance (by decide +kernel) (pa_cons (pv 1) (pa_cons (pe_bltn (v := .ty "str") (u := .type "str") (by rfl) T.z_str (by decide +kernel) rfl) pa_nil))))) (pss_one (ps_raise rfl (takes_of rfl rfl rfl rfl) (pmk_oex T.o_BadText T.i_BadText T.t_BadText (ok_BadText___init__ T) (hr.mono (by first | decide | omega)) T.b_BadText___init__ .nil pass0 (by rfl) T.m_BadText (pa_cons pe_int pa_nil)))) pss_nil) (pss_cons (ps_asg (pe_call (ok_parsed T) (hr.mono (by first | decide | omega)) rfl T.m_parsed T.F_parsed.kp T.b_parsed .nil pass0 (pa_cons (pe_callTy (call_dictT rfl) (by rfl) T.z_dict (by decide +kernel) (pa_cons (pe_fld (pv 0) rfl) pa_nil)) (pa_cons (pv 1) pa_nil))) (pg_tup rfl (pgs_cons (pg_name (i := 2) sc_read_term.nd rfl (by first | exact Or.inl rfl | exact Or.inr rfl)) (pgs_cons (pg_name (i := 3) sc_read_term.nd rfl (by first | exact Or.inl rfl | exact Or.inr rfl)) pgs_nil)))) (pss_cons (ps_if (pt_cmpR op_isN (pv 2) pe_non (nomark _)) (pss_one (ps_raise rfl (takes_of rfl rfl rfl rfl) (pmk_oex T.o_BadText T.i_BadText T.t_BadText (ok_BadText___init__ T) (hr.mono (by first | decide | omega)) T.b_BadText___init__ .nil pass0 (by rfl) T.m_BadText (pa_cons (pv 3) pa_nil)))) pss_nil) (pss_one (ps_ret (pv 2)))))), ?_⟩
    refine ⟨_, rfl, _, _, t, _, _, rfl, .ty "str", t1, t2, _, rfl, ?_⟩
    cases b with
    | false => exact mk_place T.o_BadText T.n_BadText_place (fun H' dd s e => k2 rfl H' dd s e) fun Q q => q
    | true =>
      obtain ⟨z, rfl, hz, g1, g2⟩ := k1 rfl
      obtain ⟨dxl, sa, lv, hlo, hsg, hl⟩ := id hp
      obtain ⟨sxs, hpl, hds⟩ := id hsg
      obtain ⟨ps, rfl, hps⟩ := sgs_refs hds
      refine ifN (by decide) ?_
      show tSeq _ _ _ [some (.ref p), some (.str z), none, none] _
      refine seq_nx ?_
      refine seq_asg ?_
      refine ⟨_, rfl, p, T.c_Lore, dxl, _, _, rfl, hlo, T.cl_Lore, T.n_Lore_signs, lf_signs _ _, sa, ps, sg.map kvS, rfl, hpl, hps, fun pd npd => ?_⟩
      have s1 := same_new (o := .dK (mergeK [] (sg.map kvS))) npd
      refine ⟨_, rfl, pd, sg.reverse, z, rfl, nm_merge upd_same hfew.1 hfew.2, hz, fun H2 t v s2 ht hw => ?_⟩
      have s12 := s1.trans s2
      refine ⟨t, _, rfl, ht, rfl, _, _, rfl, _, _, rfl, rfl, ?_⟩
      show tSeq _ _ _ [some (.ref p), some (.str z), some v, some (.int ((parseS sg.reverse z).2 : Int))] _
      refine ⟨_, rfl, rfl, _, rfl, ?_⟩
      cases ep : (parseS sg.reverse z).1 with
      | none =>
        rw [ep] at hw
        have hw : v = .non := hw
        rw [hw, decide_eq_true rfl]
        refine ifT ?_
        exact mk_place T.o_BadText T.n_BadText_place (fun H' dd s e => g2 ep H' dd (s12.trans s) e) fun Q q => ⟨_, rfl, q⟩
      | some u =>
        rw [ep] at hw
        have dv : Dp K H2 v (Tm.data u) := hw
        obtain ⟨b, ys, eb, _⟩ := DpAll.ref dv
        rw [show decide (v = V.non) = false from decide_eq_false fun y => by rw [eb] at y; cases y]
        exact ⟨_, rfl, g1 u ep H2 v s12 dv⟩

end NB

namespace NB
open PySem PySem.Spec PyProof.Rows L2 LamX
/-! ### _law_draw -/
theorem sc__law_draw : FnScope ["_law_pool_here", "_law_many", "_law_cells", "_law_digit", "_law_mixed"] ["_law_pool_here", "_law_many"] (defScope s__law_draw) := ⟨rfl, rfl, rfl, by decide +kernel, rfl, by decide +kernel, by decide +kernel⟩
def sp__law_draw (K : PySem.W.Frag) : Sp := fun vs H Q _ => ∃ p cs z k cells m, vs = [.ref p, .int m] ∧ 1 ≤ m ∧ m < 1000000 ∧ PoolAt H p cs z k cells ∧ k ≤ 1000000000 ∧
  ∀ H' r cells', Sm [p, cs] H H' → PoolAt H' p cs z (k + 1) cells' → 0 ≤ r → r < m → Q (.int r) H'
theorem ok__law_draw {P : Program} {w : World} {K : PySem.W.Frag} {mg : Str → Option Value} {base : Heap} (T : Tx K mg)  : FnOk P w K mg base CX0 1 T.a__law_draw T.d__law_draw ["_law_pool_here", "_law_many"] (sp__law_draw K) := by
  refine T.F__law_draw.ok sc__law_draw (fun vs H Q E h => ?_) (fun cdv A outer s H vs Q E hr h => ?_)
  · obtain ⟨p, cs, z, k, cells, m, rfl, _⟩ := h
    rfl
  · obtain ⟨p, cs, z, k, cells, m, rfl, m1, m2, hp, hk, q⟩ := h
    have z0 := hp.z0
    have z1 := hp.z1
    have k0 := hp.k0
    refine ⟨_, (pss_cons (ps_asg (pe_op op_add (pe_ix ix_list (pv 0) pe_int (fun _ _ => rfl)) pe_int) (pg_sub (pv 0) pe_int set_list)) (pss_cons (ps_set (i := 2) sc__law_draw.nd rfl (by first | exact Or.inl rfl | exact Or.inr rfl) (pe_ix ix_list (pv 0) pe_int (fun _ _ => rfl))) (pss_cons (ps_if (pt_cmpR op_gt (pe_callB call_len_seq (by rfl) T.z_len (by decide +kernel) (pa_cons (pv 2) pa_nil)) pe_int (nomark _)) (pss_cons (ps_set (i := 3) sc__law_draw.nd rfl (by first | exact Or.inl rfl | exact Or.inr rfl) (pe_op op_mod (pe_callTy call_int1 (by rfl) T.z_int (by decide +kernel) (pa_cons (pe_ix ix_list (pv 2) pe_int (fun _ _ => rfl)) pa_nil)) (pv 1))) (pss_cons (ps_asg (pe_op op_fdiv (pe_callTy call_int1 (by rfl) T.z_int (by decide +kernel) (pa_cons (pe_ix ix_list (pv 2) pe_int (fun _ _ => rfl)) pa_nil)) (pv 1)) (pg_sub (pv 2) pe_int set_list)) (pss_cons (ps_if (pt_cmpR op_eq (pe_ix ix_list (pv 2) pe_int (fun _ _ => rfl)) pe_int (nomark _)) (pss_one (ps_expr (pe_bm PySem.F.plainAttrs_list PySem.F.slot_list_pop PySem.F.type_list_pop mt_popAt (pv 2) (pa_cons pe_int pa_nil)))) pss_nil) (pss_one (ps_ret (pv 3)))))) pss_nil) (pss_cons (ps_set (i := 4) sc__law_draw.nd rfl (by first | exact Or.inl rfl | exact Or.inr rfl) (pe_op op_mod (pe_callTy call_int1 (by rfl) T.z_int (by decide +kernel) (pa_cons (pe_op op_mul (pe_op op_add (pe_ix ix_list (pv 0) pe_int (fun _ _ => rfl)) (pe_op op_mul pe_int (pe_ix ix_list (pv 0) pe_int (fun _ _ => rfl)))) pe_int) pa_nil)) pe_int)) (pss_cons (ps_set (i := 4) sc__law_draw.nd rfl (by first | exact Or.inl rfl | exact Or.inr rfl) (pe_op op_mod (pe_callTy call_int1 (by rfl) T.z_int (by decide +kernel) (pa_cons (pe_op op_mul (pv 4) (pe_op op_add (pe_op op_fdiv (pv 4) pe_int) pe_int)) pa_nil)) pe_int)) (pss_cons (ps_set (i := 4) sc__law_draw.nd rfl (by first | exact Or.inl rfl | exact Or.inr rfl) (pe_op op_mod (pe_callTy call_int1 (by rfl) T.z_int (by decide +kernel) (pa_cons (pe_op op_mul (pv 4) (pe_op op_add (pe_op op_fdiv (pv 4) pe_int) pe_int)) pa_nil)) pe_int)) (pss_one (ps_ret (pe_op op_mod (pe_callTy call_int1 (by rfl) T.z_int (by decide +kernel) (pa_cons (pe_op op_fdiv (pv 4) pe_int) pa_nil)) (pv 1)))))))))), ?_⟩
    refine ⟨_, rfl, p, _, _, _, rfl, rfl, .inl (.inl hp.pool), atI_nat (j := 1) rfl, _, _, rfl, rfl, _, rfl, p, _, _, 1, rfl, rfl, hp.pool, rfl, ?_⟩
    have h1 : upd H p (.lst ([V.int z, .int k, .ref cs].set 1 (.int (k + 1)))) p = some (.lst [.int z, .int (k + 1), .ref cs]) := upd_same
    have h2 : upd H p (.lst ([V.int z, .int k, .ref cs].set 1 (.int (k + 1)))) cs = some (.lst (cells.map V.int)) := (upd_ne hp.ne.symm).trans hp.cel
    have sm1 : Sm [p, cs] H (upd H p (.lst ([V.int z, .int k, .ref cs].set 1 (.int (k + 1))))) := Sm.upd (List.mem_cons_self ..)
    refine ⟨_, rfl, p, _, _, _, rfl, rfl, .inl (.inl h1), atI_nat (j := 2) rfl, ?_⟩
    refine ⟨_, rfl, cs, _, rfl, .inl (.inl (.inl h2)), _, _, rfl, rfl, _, rfl, ?_⟩
    cases cells with
    | nil =>
      refine ⟨_, rfl, p, _, _, _, rfl, rfl, .inl (.inl h1), atI_nat (j := 0) rfl, _, rfl, p, _, _, _, rfl, rfl, .inl (.inl h1), atI_nat (j := 1) rfl, _, _, rfl, rfl, .inl ⟨by decide, by decide⟩, _, _, rfl, rfl,
        _, _, rfl, rfl, .inl ⟨by omega, by omega⟩, .inl ⟨_, rfl, _, _, rfl, rfl, (by decide : (0 : Int) < 2147483647), ?_⟩⟩
      generalize (z + 7919 * (k + 1)) * 48271 = a0
      have b1 : 0 ≤ a0 % 2147483647 ∧ a0 % 2147483647 < 2147483647 := ⟨Int.emod_nonneg _ (by decide), Int.emod_lt_of_pos _ (by decide)⟩
      generalize a0 % 2147483647 = a1 at b1
      refine ⟨_, rfl, _, rfl, _, _, rfl, rfl, ⟨by decide, by decide⟩, _, _, rfl, rfl, _, _, rfl, rfl, .inl ⟨by omega, by omega⟩, .inl ⟨_, rfl, _, _, rfl, rfl, (by decide : (0 : Int) < 2147483647), ?_⟩⟩
      generalize a1 * (a1 / 1009 + 69621) = a2
      have b2 : 0 ≤ a2 % 2147483647 ∧ a2 % 2147483647 < 2147483647 := ⟨Int.emod_nonneg _ (by decide), Int.emod_lt_of_pos _ (by decide)⟩
      generalize a2 % 2147483647 = a3 at b2
      refine ⟨_, rfl, _, rfl, _, _, rfl, rfl, ⟨by decide, by decide⟩, _, _, rfl, rfl, _, _, rfl, rfl, .inl ⟨by omega, by omega⟩, .inl ⟨_, rfl, _, _, rfl, rfl, (by decide : (0 : Int) < 2147483399), ?_⟩⟩
      generalize a3 * (a3 / 2003 + 40692) % 2147483399 = a4
      refine ⟨_, rfl, _, _, rfl, rfl, ⟨by decide, by decide⟩, .inl ⟨_, rfl, _, rfl, _, _, rfl, rfl, (by omega : (0 : Int) < m), ?_⟩⟩
      exact q _ _ [] sm1 ⟨h1, h2, hp.ne, z0, z1, by omega⟩ (Int.emod_nonneg _ (by omega)) (Int.emod_lt_of_pos _ (by omega))
    | cons c cells =>
      have e0 : decide ((0 : Int) < ((((c :: cells).map V.int).length : Nat) : Int)) = true := decide_eq_true (by rw [List.map_cons, List.length_cons]; omega)
      rw [e0]
      refine ⟨_, rfl, cs, _, _, _, rfl, rfl, .inl (.inl h2), atI_nat (j := 0) rfl, .inl ⟨_, rfl, _, rfl, _, _, rfl, rfl, (by omega : (0 : Int) < m), ?_⟩⟩
      have ix0 : ixN ((c :: cells).map V.int).length 0 = some 0 := by
        rw [List.map_cons, List.length_cons]
        unfold ixN
        rw [if_pos (by decide), if_pos (by omega)]
        rfl
      refine ⟨_, rfl, cs, _, _, _, rfl, rfl, .inl (.inl h2), atI_nat (j := 0) rfl, .inl ⟨_, rfl, _, rfl, _, _, rfl, rfl, ⟨by omega, by omega⟩, _, rfl, cs, _, _, 0, rfl, rfl, h2, ix0, ?_⟩⟩
      have m2' : cs ∈ [p, cs] := List.mem_cons_of_mem _ (List.mem_cons_self ..)
      obtain ⟨H1, e1⟩ : ∃ H1, H1 = upd H p (.lst ([V.int z, .int k, .ref cs].set 1 (.int (k + 1)))) := ⟨_, rfl⟩
      rw [← e1] at sm1 h1 h2
      have h3 : upd H1 cs (.lst (((c :: cells).map V.int).set 0 (.int (c / m)))) cs = some (.lst (V.int (c / m) :: cells.map V.int)) := upd_same
      have h3p : ∀ o, upd H1 cs o p = some (.lst [.int z, .int (k + 1), .ref cs]) := fun o => (upd_ne hp.ne).trans h1
      have sm3 := sm1.trans (Sm.upd (o := .lst (((c :: cells).map V.int).set 0 (.int (c / m)))) m2')
      have r0 := Int.emod_nonneg c (by omega : m ≠ 0)
      have r1 := Int.emod_lt_of_pos c (by omega : 0 < m)
      subst e1
      refine ⟨_, rfl, cs, _, _, _, rfl, rfl, .inl (.inl h3), atI_nat (j := 0) rfl, rfl, _, rfl, ?_⟩
      by_cases hz : c / m = 0
      · have sx0 : seqIndex? 0 (V.int (c / m) :: cells.map V.int).length = some 0 := by
          rw [List.length_cons]
          unfold seqIndex?
          simp
          try omega
        have e2 : decide (V.int (c / m) = V.int 0) = true := decide_eq_true (by rw [hz])
        rw [e2]
        refine ⟨_, rfl, .inl ⟨rfl, _, .inl (.inl h3)⟩, cs, _, 0, 0, _, rfl, rfl, h3, by decide, by decide, sx0, rfl, ?_⟩
        refine ⟨_, rfl, q _ _ cells (sm3.trans (Sm.upd m2')) ⟨?_, upd_same, hp.ne, z0, z1, by omega⟩ r0 r1⟩
        exact (upd_ne hp.ne).trans (h3p _)
      · have e2 : decide (V.int (c / m) = V.int 0) = false := decide_eq_false fun z => hz (V.int.inj z)
        rw [e2]
        exact ⟨_, rfl, q _ _ (c / m :: cells) sm3 ⟨h3p _, h3, hp.ne, z0, z1, by omega⟩ r0 r1⟩

end NB

namespace NB
open PySem PySem.Spec PyProof.Rows L2 LamX
/-! ### _law_pool -/
theorem sc__law_pool : FnScope ["_law_script", "_law_seed", "_law_cell"] ["_law_script"] (defScope s__law_pool) := ⟨rfl, rfl, rfl, by decide +kernel, rfl, by decide +kernel, by decide +kernel⟩
def sp__law_pool (K : PySem.W.Frag) : Sp := fun vs H Q _ => ∃ (a : Addr) (ns : List Int), vs = [.ref a] ∧ SqL K H a (ns.map V.int) ∧ ns.length ≤ 63 ∧ ∀ H' p cs z cells, Same H H' → H p = none → H cs = none → PoolAt H' p cs z 0 cells → Q (.ref p) H'
theorem ok__law_pool {P : Program} {w : World} {K : PySem.W.Frag} {mg : Str → Option Value} {base : Heap} (T : Tx K mg)  : FnOk P w K mg base CX0 1 T.a__law_pool T.d__law_pool ["_law_script"] (sp__law_pool K) := by
  refine T.F__law_pool.ok sc__law_pool (fun vs H Q E h => ?_) (fun cdv A outer s H vs Q E hr h => ?_)
  · obtain ⟨a, ns, rfl, _⟩ := h
    rfl
  · obtain ⟨a, ns, rfl, hs, hl, k⟩ := h
    have hzl : 100000 < sizeLine := by decide
    refine ⟨_, (pss_cons (ps_set (i := 1) sc__law_pool.nd rfl (by first | exact Or.inl rfl | exact Or.inr rfl) (pe_op op_add (pe_op op_add (pe_op op_mod (pe_callTy call_int1 (by rfl) T.z_int (by decide +kernel) (pa_cons (pe_callB (cr_sum rfl) (by rfl) T.z_sum (by decide +kernel) (pa_cons (pe_slice sl_list (pv 0) po_none (po_some pe_int)) pa_nil)) pa_nil)) pe_int) (pe_callB call_len_seq (by rfl) T.z_len (by decide +kernel) (pa_cons (pv 0) pa_nil))) pe_int)) (pss_cons (ps_for PassesOwn.never rfl (pi_list (pe_slice sl_list (pv 0) po_none (po_some pe_int))) (pg_name (i := 2) sc__law_pool.nd rfl (by first | exact Or.inl rfl | exact Or.inr rfl)) (pss_one (ps_set (i := 1) sc__law_pool.nd rfl (by first | exact Or.inl rfl | exact Or.inr rfl) (pe_op op_mod (pe_callTy call_int1 (by rfl) T.z_int (by decide +kernel) (pa_cons (pe_op op_add (pe_op op_add (pe_op op_mul (pv 1) pe_int) (pe_op op_mod (pe_callTy call_int1 (by rfl) T.z_int (by decide +kernel) (pa_cons (pv 2) pa_nil)) pe_int)) pe_int) pa_nil)) pe_int)))) (pss_one (ps_ret (pe_lst (pa_cons (pv 1) (pa_cons pe_int (pa_cons (pe_lc (own := [("_law_cell", 2)]) rfl sc__law_pool.nd (pi_list (pe_slice sl_list (pv 0) po_none (po_some pe_int))) (blkOk_by (own := [("_law_cell", 2)]) (N := ["_law_script", "_law_seed", "_law_cell"]) (sc := defScope s__law_pool) (by decide +kernel)) (fun _ _ _ _ _ => (pg_name (i := 2) sc__law_pool.nd rfl (by first | exact Or.inl rfl | exact Or.inr rfl))) (fun _ _ _ _ _ => (pts_one (pt_cmpR op_ge (pe_callB call_abs (by rfl) T.z_abs (by decide +kernel) (pa_cons (pv 2) pa_nil)) (pe_op op_pow pe_int pe_int) (nomark _)))) (fun _ _ _ _ _ => (pe_callB call_abs (by rfl) T.z_abs (by decide +kernel) (pa_cons (pv 2) pa_nil)))) pa_nil)))))))), ?_⟩
    refine ⟨_, rfl, 1, rfl, a, _, rfl, hs, fun p np => ?_⟩
    have c1 := cutV_take ns 1
    have s1 := same_new (o := .lst (cutV (ns.map V.int) none (some 1))) np
    refine ⟨p, ns.take 1, rfl, .inl (.inl (by rw [← c1]; exact upd_same)), .inl ⟨_, rfl, _, _, rfl, rfl, (by decide : (0 : Int) < 1000003), _, rfl, a, _, rfl, .inl (L2.Same.seq s1 hs), _, _, rfl, rfl, _, _, rfl, rfl, ?_⟩⟩
    have b0 : 0 ≤ (ns.take 1).sum % 1000003 ∧ (ns.take 1).sum % 1000003 < 1000003 := ⟨Int.emod_nonneg _ (by decide), Int.emod_lt_of_pos _ (by decide)⟩
    generalize (ns.take 1).sum % 1000003 = s0 at b0
    refine ⟨_, rfl, 63, rfl, a, _, rfl, L2.Same.seq s1 hs, fun q nq => ?_⟩
    have c63 := cutV_take ns 63
    have e63 : ns.take 63 = ns := List.take_of_length_le hl
    rw [e63] at c63
    have s2 := s1.trans (same_new (o := .lst (cutV (ns.map V.int) none (some 63))) nq)
    have hq : upd (upd H p (.lst (cutV (ns.map V.int) none (some 1)))) q (.lst (cutV (ns.map V.int) none (some 63))) q = some (.lst (ns.map V.int)) := by rw [upd_same]; exact congrArg (fun l => some (HO.lst l)) c63
    refine ⟨q, rfl, ⟨_, .inl (.inl hq)⟩, for_list (K := K) (a := q) (xs := ns.map V.int) (fun i σ H' => H' = upd (upd H p (.lst (cutV (ns.map V.int) none (some 1)))) q (.lst (cutV (ns.map V.int) none (some 63))) ∧ ∃ z w, σ = [some (.ref a), some (.int z), w] ∧ 0 ≤ z ∧ z < 2147483647)
      ⟨rfl, _, _, rfl, by omega, by rw [List.length_map]; omega⟩ (fun i σ H' _ ⟨e, _⟩ => by rw [e]; exact .inl (.inl hq)) (fun i x σ H' hx ⟨e, z, w, e1, z0, z1⟩ => ?_) (fun σ H' ⟨e, z, w, e1, z0, z1⟩ => ?_)⟩
    · subst e e1
      obtain ⟨c, rfl⟩ : ∃ c, x = V.int c := by
        rw [List.getElem?_map] at hx
        cases e : ns[i]? with
        | none => rw [e] at hx; cases hx
        | some u => rw [e] at hx; exact ⟨u, (Option.some.inj hx).symm⟩
      refine ⟨_, rfl, _, _, rfl, rfl, .inl ⟨by omega, by omega⟩, _, rfl, .inl ⟨_, rfl, _, _, rfl, rfl, (by decide : (0 : Int) < 2147483629), _, _, rfl, rfl, _, _, rfl, rfl, .inl ⟨_, rfl, _, _, rfl, rfl, (by decide : (0 : Int) < 2147483647), ?_⟩⟩⟩
      exact ⟨rfl, _, _, rfl, Int.emod_nonneg _ (by decide), Int.emod_lt_of_pos _ (by decide)⟩
    · subst e e1
      refine ⟨_, rfl, _, rfl, 63, rfl, a, _, rfl, L2.Same.seq s2 hs, fun r nr => ?_⟩
      have s3 := s2.trans (same_new (o := .lst (cutV (ns.map V.int) none (some 63))) nr)
      refine ⟨r, rfl, ⟨_, .inl (.inl upd_same)⟩, fun D nD => ?_⟩
      have hr4 : upd (upd (upd H p (.lst (cutV (ns.map V.int) none (some 1)))) q (.lst (cutV (ns.map V.int) none (some 63)))) r (.lst (cutV (ns.map V.int) none (some 63))) r = some (.lst (ns.map V.int)) := by rw [upd_same]; exact congrArg (fun l => some (HO.lst l)) c63
      have hlm : (ns.map V.int).length = ns.length := List.length_map _
      have nrD : r ≠ D := ne_of_none hr4 nD
      have hD0 := s3.free nD
      refine lc_list (K := K) (a := r) (xs := ns.map V.int) (fun i H' => Same H H' ∧ H' r = some (.lst (ns.map V.int)) ∧ H' D = some (.lst (((ns.take i).filter bigI).map fun c => V.int (absI c))))
        ⟨s3.upd hD0, (upd_ne nrD).trans hr4, upd_same⟩ (fun i H' _ q => .inl (.inl q.2.1)) (fun i x H' hx q => ?_) (fun H' q => ?_)
      · obtain ⟨c, hc, rfl⟩ : ∃ c, ns[i]? = some c ∧ x = V.int c := by
          rw [List.getElem?_map] at hx
          cases e : ns[i]? with
          | none => rw [e] at hx; cases hx
          | some u => rw [e] at hx; exact ⟨u, rfl, (Option.some.inj hx).symm⟩
        refine ⟨rfl, _, rfl, c, rfl, _, _, rfl, rfl, ⟨by decide, by decide, by decide⟩, _, _, rfl, rfl, _, rfl, ?_⟩
        show if bigI c = true then _ else _
        have hft := filter_take (f := bigI) hc
        have hi : i < ns.length := (List.getElem?_eq_some_iff.mp hc).1
        cases e : bigI c with
        | true =>
          rw [e, if_pos rfl] at hft
          refine ⟨_, rfl, c, rfl, _, q.2.2, ?_, q.1.upd hD0, (upd_ne nrD).trans q.2.1, ?_⟩
          · have h1 := List.length_filter_le bigI (ns.take i)
            rw [List.length_map]
            rw [List.length_take] at h1
            omega
          · rw [upd_same, hft, List.map_append]
            rfl
        | false =>
          rw [e, if_neg (by decide), List.append_nil] at hft
          refine ⟨q.1, q.2.1, ?_⟩
          rw [hft]
          exact q.2.2
      · rw [hlm, List.take_length] at q
        refine ⟨(by show 3 ≤ sizeLine; decide), fun l nl => ?_⟩
        have nlD : D ≠ l := ne_of_none q.2.2 nl
        exact k _ l D z ((ns.filter bigI).map absI) (q.1.upd (q.1.free nl)) (q.1.free nl) hD0 ⟨upd_same, by rw [upd_ne nlD, q.2.2, List.map_map]; rfl, nlD.symm, z0, z1, Int.le_refl _⟩

end NB

namespace NB
open PySem PySem.Spec PyProof.Rows L2 LamX
/-! ### _law_deep -/
theorem sc__law_deep : FnScope ["_law_thing", "_law_turn"] [] (defScope s__law_deep) := ⟨rfl, rfl, rfl, by decide +kernel, rfl, by decide +kernel, by decide +kernel⟩
def sp__law_deep (K : PySem.W.Frag) : Sp := fun vs H Q _ => vs = [] ∧ ∀ H' p xs, Same H H' → H p = none → H' p = some (.lst xs) → Q (.ref p) H'
theorem ok__law_deep {P : Program} {w : World} {K : PySem.W.Frag} {mg : Str → Option Value} {base : Heap} (T : Tx K mg)  : FnOk P w K mg base CX0 1 T.a__law_deep T.d__law_deep [] (sp__law_deep K) := by
  refine T.F__law_deep.ok sc__law_deep (fun vs H Q E h => ?_) (fun cdv A outer s H vs Q E hr h => ?_)
  · obtain ⟨rfl, _⟩ := h
    rfl
  · obtain ⟨rfl, k⟩ := h
    refine ⟨_, (pss_cons (ps_set (i := 0) sc__law_deep.nd rfl (by first | exact Or.inl rfl | exact Or.inr rfl) (pe_lst (pa_cons pe_non pa_nil))) (pss_cons (ps_for PassesOwn.never rfl (pi_range1 (by rfl) T.z_range (pa_cons pe_int pa_nil)) (pg_name (i := 1) sc__law_deep.nd rfl (by first | exact Or.inl rfl | exact Or.inr rfl)) (pss_one (ps_set (i := 0) sc__law_deep.nd rfl (by first | exact Or.inl rfl | exact Or.inr rfl) (pe_lst (pa_cons (pv 0) pa_nil))))) (pss_one (ps_ret (pv 0))))), ?_⟩
    refine ⟨(by show 1 ≤ sizeLine; decide), fun p np => ?_⟩
    refine ⟨35, rfl, by decide, by decide, for_range (lo := 0) (n := 35) (fun i σ H' => ∃ w q xs, σ = [some (.ref q), w] ∧ Same H H' ∧ H q = none ∧ H' q = some (.lst xs)) ⟨none, p, _, rfl, same_new np, np, upd_same⟩ ?_ ?_⟩
    · rintro i σ H' hi ⟨w, q, xs, rfl, s1, nq, hq⟩
      refine ⟨_, rfl, (by show 1 ≤ sizeLine; decide), fun r nr => ?_⟩
      exact ⟨_, r, _, rfl, s1.trans (same_new nr), s1.free nr, upd_same⟩
    · rintro σ H' ⟨w, q, xs, rfl, s1, nq, hq⟩
      exact ⟨_, rfl, k H' q xs s1 nq hq⟩

end NB

namespace NB
open PySem PySem.Spec PyProof.Rows L2 LamX
/-! ### _law_is -/
theorem sc__law_is : FnScope ["_law_told", "_law_due"] ["_law_told", "_law_due"] (defScope s__law_is) := ⟨rfl, rfl, rfl, by decide +kernel, rfl, by decide +kernel, by decide +kernel⟩
theorem callR_or {X : Cx} {f : Value} {r1 r2 : List V → Hp → VK → Prop} (h1 : CallR X f r1) (h2 : CallR X f r2) : CallR X f (fun vs H Q => r1 vs H Q ∨ r2 vs H Q) := by
  intro pins s σ H xs us Q I r h
  rcases h with h | h
  · exact h1 pins s σ H xs us Q I r h
  · exact h2 pins s σ H xs us Q I r h
def sp__law_is (K : PySem.W.Frag) : Sp := fun vs H Q _ => ∃ a b, vs = [a, b] ∧ ((∃ i : Int, a = .int i ∧ b = .int i ∧ i.natAbs.log2 < 1920) ∨ ∃ x y d, a = .ref x ∧ b = .ref y ∧ Dp K H a d ∧ Dp K H b d ∧ d.showable = true ∧ d.hasDict = false ∧ d.depth ≤ 60 ∧ d.shown.length ≤ sizeLine) ∧ Q (.bl true) H
theorem ok__law_is {P : Program} {w : World} {K : PySem.W.Frag} {mg : Str → Option Value} {base : Heap} (T : Tx K mg)  : FnG P w K mg base CX0 1 T.a__law_is T.d__law_is ["_law_told", "_law_due"] (sp__law_is K) := by
  refine fun_okG T.F__law_is sc__law_is (fun vs H Q E h => ?_) (fun cdv A outer s H vs Q E hg hr h => ?_)
  · obtain ⟨a, b, rfl, _⟩ := h
    rfl
  · obtain ⟨a, b, rfl, hv, k⟩ := h
    refine ⟨_, (pss_one (ps_ret (pe_cmpR op_eq (pe_callB (callR_or call_reprS (show CallR _ (.builtin "repr") (rReprD K) from call_reprD hg hr.units)) (by rfl) T.z_repr (by decide +kernel) (pa_cons (pv 0) pa_nil)) (pe_callB (callR_or call_reprS (show CallR _ (.builtin "repr") (rReprD K) from call_reprD hg hr.units)) (by rfl) T.z_repr (by decide +kernel) (pa_cons (pv 1) pa_nil)) (nomark _)))), ?_⟩
    have fin : ∀ s : Str, Q (.bl (decide (V.str s = V.str s))) H := fun s => by
      rw [decide_eq_true rfl]
      exact k
    rcases hv with ⟨i, rfl, rfl, hz⟩ | ⟨x, y, d, rfl, rfl, d1, d2, h1, h2, h3, h4⟩
    · exact ⟨_, rfl, .inl (.inl ⟨_, rfl, hz, _, rfl, .inl (.inl ⟨_, rfl, hz, rfl, fin _⟩)⟩)⟩
    · exact ⟨_, rfl, .inr ⟨x, d, rfl, d1, h1, h2, h3, h4, _, rfl, .inr ⟨y, d, rfl, d2, h1, h2, h3, h4, rfl, fin _⟩⟩⟩

end NB

namespace NB
open PySem PySem.Spec PyProof.Rows L2 LamX
/-! ### _law_signs -/
theorem sc__law_signs : FnScope ["_law_pool_here", "_law_some"] ["_law_pool_here"] (defScope s__law_signs) := ⟨rfl, rfl, rfl, by decide +kernel, rfl, by decide +kernel, by decide +kernel⟩
def sp__law_signs (K : PySem.W.Frag) : Sp := fun vs H Q _ => ∃ p cs z k cells, vs = [.ref p] ∧ PoolAt H p cs z k cells ∧ k ≤ 999999990 ∧
  ∀ H' r i j l cells', Sm [p, cs] H H' → SgsAt K H' r (sgOf (1 + i) j l) → i < 3 → j < 4 → l < 3 → PoolAt H' p cs z (k + 3) cells' → Q (.ref r) H'
theorem ok__law_signs {P : Program} {w : World} {K : PySem.W.Frag} {mg : Str → Option Value} {base : Heap} (T : Tx K mg)  : FnOk P w K mg base CX0 2 T.a__law_signs T.d__law_signs ["_law_pool_here"] (sp__law_signs K) := by
  refine T.F__law_signs.ok sc__law_signs (fun vs H Q E h => ?_) (fun cdv A outer s H vs Q E hr h => ?_)
  · obtain ⟨p, cs, z, k, cells, rfl, _⟩ := h
    rfl
  · obtain ⟨p, cs, z, k, cells, rfl, hp, hk, q⟩ := h
    refine ⟨_, (pss_cons (ps_set (i := 1) sc__law_signs.nd rfl (by first | exact Or.inl rfl | exact Or.inr rfl) (pe_slice sl_list (pe_lst (pa_cons (pe_tup (pa_cons pe_str (pa_cons pe_int pa_nil))) (pa_cons (pe_tup (pa_cons pe_str (pa_cons pe_int pa_nil))) (pa_cons (pe_tup (pa_cons pe_str (pa_cons pe_int pa_nil))) pa_nil)))) po_none (po_some (pe_op op_add pe_int (pe_call (ok__law_draw T) (hr.mono (by first | decide | omega)) rfl T.m__law_draw T.F__law_draw.kp T.b__law_draw .nil pass0 (pa_cons (pv 0) (pa_cons pe_int pa_nil))))))) (pss_cons (ps_set (i := 1) sc__law_signs.nd rfl (by first | exact Or.inl rfl | exact Or.inr rfl) (pe_op op_cat (pv 1) (pe_slice sl_list (pe_lst (pa_cons (pe_tup (pa_cons pe_str (pa_cons pe_int pa_nil))) (pa_cons (pe_tup (pa_cons pe_str (pa_cons pe_int pa_nil))) (pa_cons (pe_tup (pa_cons pe_str (pa_cons pe_int pa_nil))) pa_nil)))) po_none (po_some (pe_call (ok__law_draw T) (hr.mono (by first | decide | omega)) rfl T.m__law_draw T.F__law_draw.kp T.b__law_draw .nil pass0 (pa_cons (pv 0) (pa_cons pe_int pa_nil))))))) (pss_cons (ps_set (i := 1) sc__law_signs.nd rfl (by first | exact Or.inl rfl | exact Or.inr rfl) (pe_op op_cat (pv 1) (pe_slice sl_list (pe_lst (pa_cons (pe_tup (pa_cons pe_str (pa_cons pe_int pa_nil))) (pa_cons (pe_tup (pa_cons pe_str (pa_cons pe_int pa_nil))) pa_nil))) po_none (po_some (pe_callB (call_max2 rfl) (by rfl) T.z_max (by decide +kernel) (pa_cons pe_int (pa_cons (pe_op op_sub (pe_call (ok__law_draw T) (hr.mono (by first | decide | omega)) rfl T.m__law_draw T.F__law_draw.kp T.b__law_draw .nil pass0 (pa_cons (pv 0) (pa_cons pe_int pa_nil))) pe_int) pa_nil))))))) (pss_one (ps_ret (pe_callTy call_tupleZ (by rfl) T.z_tuple (by decide +kernel) (pa_cons (pe_callB (call_sortD (u128_of hr)) (by rfl) T.z_sorted (by decide +kernel) (pa_cons (pv 1) pa_nil)) pa_nil))))))), ?_⟩
    refine ⟨(by show 2 ≤ sizeLine; decide), fun t1 n1 => ⟨(by show 2 ≤ sizeLine; decide), fun t2 n2 => ⟨(by show 2 ≤ sizeLine; decide), fun t3 n3 => ⟨(by show 3 ≤ sizeLine; decide), fun l1 nl1 => ?_⟩⟩⟩⟩
    have sA : Same H (upd (upd (upd (upd H t1 (.tup [.str "a", .int 0])) t2 (.tup [.str "b", .int 0])) t3 (.tup [.str "c", .int 0])) l1 (.lst [.ref t1, .ref t2, .ref t3])) := (((same_new n1).trans (same_new n2)).trans (same_new n3)).trans (same_new nl1)
    have n12 : t1 ≠ t2 := ne_of_none upd_same n2
    have n13 : t1 ≠ t3 := ne_of_none ((upd_ne n12).trans upd_same) n3
    have n23 : t2 ≠ t3 := ne_of_none upd_same n3
    have a1 := (same_new (o := .lst [.ref t1, .ref t2, .ref t3]) nl1) t1 _ ((upd_ne n13).trans ((upd_ne n12).trans upd_same))
    have a2 := (same_new (o := .lst [.ref t1, .ref t2, .ref t3]) nl1) t2 _ ((upd_ne n23).trans upd_same)
    have a3 := (same_new (o := .lst [.ref t1, .ref t2, .ref t3]) nl1) t3 _ upd_same
    have dA : DpAll K _ [.ref t1, .ref t2, .ref t3] (sgA.map sg1) := .cons (.tup (.inl (.inl a1)) (.cons (.str _) (.cons (.int _) .nil))) (.cons (.tup (.inl (.inl a2)) (.cons (.str _) (.cons (.int _) .nil))) (.cons (.tup (.inl (.inl a3)) (.cons (.str _) (.cons (.int _) .nil))) .nil))
    have hA1 : upd (upd (upd (upd H t1 (.tup [.str "a", .int 0])) t2 (.tup [.str "b", .int 0])) t3 (.tup [.str "c", .int 0])) l1 (.lst [.ref t1, .ref t2, .ref t3]) l1 = some (.lst [.ref t1, .ref t2, .ref t3]) := upd_same
    have hl1 : l1 ∉ [p, cs] := hp.nn ((((same_new n1).trans (same_new n2)).trans (same_new n3)).free nl1)
    have hpA := hp.same sA
    generalize upd (upd (upd (upd H t1 (.tup [.str "a", .int 0])) t2 (.tup [.str "b", .int 0])) t3 (.tup [.str "c", .int 0])) l1 (.lst [.ref t1, .ref t2, .ref t3]) = HA at sA dA hA1 hpA ⊢
    clear a1 a2 a3 n12 n13 n23 nl1 n1 n2 n3
    refine ⟨_, rfl, p, cs, z, k, cells, 3, rfl, by decide, by decide, hpA, by omega, fun H1 r1 c1 m1 hp1 r10 r11 => ?_⟩
    obtain ⟨i, rfl, hi⟩ := nat_of r10 r11
    have d1 := DpAll.imm (m1.imm hpA.ow) _ _ (nls_sgs sgA) dA
    have h1 := m1 _ _ hA1 hl1
    have g1 : Sm [p, cs] H H1 := (Sm.same sA).trans m1
    refine ⟨_, _, rfl, rfl, _, rfl, l1, _, rfl, .inl (.inl h1), fun l2 nl2 => ?_⟩
    have e1 : cutV [V.ref t1, .ref t2, .ref t3] none (some (1 + (i : Int))) = [V.ref t1, .ref t2, .ref t3].take (1 + i) := by
      rw [show (1 : Int) + (i : Int) = ((1 + i : Nat) : Int) by omega, cutV_takeV]
    rw [e1]
    have d2 := sg_imm (Imm.of (same_new (o := .lst ([V.ref t1, .ref t2, .ref t3].take (1 + i))) nl2)) (sg_take (1 + i) d1)
    have hl2 : l2 ∉ [p, cs] := hp1.nn nl2
    have hp2 := hp1.same (same_new (o := .lst ([V.ref t1, .ref t2, .ref t3].take (1 + i))) nl2)
    have g2 := g1.trans (Sm.same (same_new (o := .lst ([V.ref t1, .ref t2, .ref t3].take (1 + i))) nl2))
    have h2 : upd H1 l2 (.lst ([V.ref t1, .ref t2, .ref t3].take (1 + i))) l2 = some (.lst ([V.ref t1, .ref t2, .ref t3].take (1 + i))) := upd_same
    generalize upd H1 l2 (.lst ([V.ref t1, .ref t2, .ref t3].take (1 + i))) = H2 at d2 hp2 g2 h2 ⊢
    have hx2 : ([V.ref t1, .ref t2, .ref t3].take (1 + i)).length ≤ 3 := by rw [List.length_take]; exact Nat.min_le_right _ _
    generalize [V.ref t1, .ref t2, .ref t3].take (1 + i) = x2 at d2 h2 hx2 ⊢
    clear d1 h1 g1 e1 dA hA1 hpA sA m1 nl2 hp1
    -- some + [('f', 1), ('g', 1), ('h', 1)][:draw(4)]
    refine ⟨_, rfl, (by show 2 ≤ sizeLine; decide), fun t4 n4 => ⟨(by show 2 ≤ sizeLine; decide), fun t5 n5 => ⟨(by show 2 ≤ sizeLine; decide), fun t6 n6 => ⟨(by show 3 ≤ sizeLine; decide), fun l3 nl3 => ?_⟩⟩⟩⟩
    have sB : Same H2 (upd (upd (upd (upd H2 t4 (.tup [.str "f", .int 1])) t5 (.tup [.str "g", .int 1])) t6 (.tup [.str "h", .int 1])) l3 (.lst [.ref t4, .ref t5, .ref t6])) := (((same_new n4).trans (same_new n5)).trans (same_new n6)).trans (same_new nl3)
    have n45 : t4 ≠ t5 := ne_of_none upd_same n5
    have n46 : t4 ≠ t6 := ne_of_none ((upd_ne n45).trans upd_same) n6
    have n56 : t5 ≠ t6 := ne_of_none upd_same n6
    have a4 := (same_new (o := .lst [.ref t4, .ref t5, .ref t6]) nl3) t4 _ ((upd_ne n46).trans ((upd_ne n45).trans upd_same))
    have a5 := (same_new (o := .lst [.ref t4, .ref t5, .ref t6]) nl3) t5 _ ((upd_ne n56).trans upd_same)
    have a6 := (same_new (o := .lst [.ref t4, .ref t5, .ref t6]) nl3) t6 _ upd_same
    have dB : DpAll K _ [.ref t4, .ref t5, .ref t6] (sgB.map sg1) := .cons (.tup (.inl (.inl a4)) (.cons (.str _) (.cons (.int _) .nil))) (.cons (.tup (.inl (.inl a5)) (.cons (.str _) (.cons (.int _) .nil))) (.cons (.tup (.inl (.inl a6)) (.cons (.str _) (.cons (.int _) .nil))) .nil))
    have hB1 : upd (upd (upd (upd H2 t4 (.tup [.str "f", .int 1])) t5 (.tup [.str "g", .int 1])) t6 (.tup [.str "h", .int 1])) l3 (.lst [.ref t4, .ref t5, .ref t6]) l3 = some (.lst [.ref t4, .ref t5, .ref t6]) := upd_same
    have hl3 : l3 ∉ [p, cs] := hp2.nn ((((same_new n4).trans (same_new n5)).trans (same_new n6)).free nl3)
    have hpB := hp2.same sB
    generalize upd (upd (upd (upd H2 t4 (.tup [.str "f", .int 1])) t5 (.tup [.str "g", .int 1])) t6 (.tup [.str "h", .int 1])) l3 (.lst [.ref t4, .ref t5, .ref t6]) = HB at sB dB hB1 hpB ⊢
    clear a4 a5 a6 n45 n46 n56 nl3 n4 n5 n6
    refine ⟨_, rfl, p, cs, z, k + 1, c1, 4, rfl, by decide, by decide, hpB, by omega, fun H3 r2 c2 m3 hp3 r20 r21 => ?_⟩
    obtain ⟨j, rfl, hj⟩ := nat_of r20 r21
    have d3 := sg_imm (m3.imm hpB.ow) dB
    have d2' := sg_imm ((Imm.of sB).trans (m3.imm hpB.ow)) d2
    have h3 := m3 _ _ hB1 hl3
    have h2' := m3 _ _ (sB _ _ h2) hl2
    have g3 := (g2.trans (Sm.same sB)).trans m3
    refine ⟨_, rfl, l3, _, rfl, .inl (.inl h3), fun l4 nl4 => ?_⟩
    rw [cutV_takeV]
    have d4 := sg_imm (Imm.of (same_new (o := .lst ([V.ref t4, .ref t5, .ref t6].take j)) nl4)) (sg_take j d3)
    have d4' := sg_imm (Imm.of (same_new (o := .lst ([V.ref t4, .ref t5, .ref t6].take j)) nl4)) d2'
    have h4' := same_new (o := .lst ([V.ref t4, .ref t5, .ref t6].take j)) nl4 _ _ h2'
    have hp4 := hp3.same (same_new (o := .lst ([V.ref t4, .ref t5, .ref t6].take j)) nl4)
    have g4 := g3.trans (Sm.same (same_new (o := .lst ([V.ref t4, .ref t5, .ref t6].take j)) nl4))
    have h4 : upd H3 l4 (.lst ([V.ref t4, .ref t5, .ref t6].take j)) l4 = some (.lst ([V.ref t4, .ref t5, .ref t6].take j)) := upd_same
    have hx4 : ([V.ref t4, .ref t5, .ref t6].take j).length ≤ 3 := by rw [List.length_take]; exact Nat.min_le_right _ _
    have hz3 : 8 ≤ sizeLine := by decide
    refine ⟨l2, l4, _, _, rfl, rfl, h4', h4, by omega, fun l5 nl5 => ?_⟩
    generalize upd H3 l4 (.lst ([V.ref t4, .ref t5, .ref t6].take j)) = H4 at d4 d4' h4' hp4 g4 h4 nl5 ⊢
    generalize [V.ref t4, .ref t5, .ref t6].take j = x4 at d4 h4 hx4 ⊢
    have d5 := sg_imm (Imm.of (same_new (o := .lst (x2 ++ x4)) nl5)) (sg_app d4' d4)
    have h5 : upd H4 l5 (.lst (x2 ++ x4)) l5 = some (.lst (x2 ++ x4)) := upd_same
    have hp5 := hp4.same (same_new (o := .lst (x2 ++ x4)) nl5)
    have g5 := g4.trans (Sm.same (same_new (o := .lst (x2 ++ x4)) nl5))
    have hl5 : l5 ∉ [p, cs] := hp4.nn nl5
    have hx5 : (x2 ++ x4).length ≤ 6 := by rw [List.length_append]; omega
    generalize upd H4 l5 (.lst (x2 ++ x4)) = H5 at d5 h5 hp5 g5 ⊢
    generalize x2 ++ x4 = x5 at d5 h5 hx5 ⊢
    clear d2 d3 d2' h3 h2' g3 d4 d4' h4' hp4 g4 h4 nl5 dB hB1 hpB sB m3 hp3 g2 hp2 h2 nl4
    refine ⟨_, rfl, (by show 2 ≤ sizeLine; decide), fun t7 n7 => ⟨(by show 2 ≤ sizeLine; decide), fun t8 n8 => ⟨(by show 2 ≤ sizeLine; decide), fun l6 nl6 => ?_⟩⟩⟩
    have sC : Same H5 (upd (upd (upd H5 t7 (.tup [.str "p", .int 2])) t8 (.tup [.str "q", .int 2])) l6 (.lst [.ref t7, .ref t8])) := ((same_new n7).trans (same_new n8)).trans (same_new nl6)
    have n78 : t7 ≠ t8 := ne_of_none upd_same n8
    have a7 := (same_new (o := .lst [.ref t7, .ref t8]) nl6) t7 _ ((upd_ne n78).trans upd_same)
    have a8 := (same_new (o := .lst [.ref t7, .ref t8]) nl6) t8 _ upd_same
    have dC : DpAll K _ [.ref t7, .ref t8] (sgC.map sg1) := .cons (.tup (.inl (.inl a7)) (.cons (.str _) (.cons (.int _) .nil))) (.cons (.tup (.inl (.inl a8)) (.cons (.str _) (.cons (.int _) .nil))) .nil)
    have hC1 : upd (upd (upd H5 t7 (.tup [.str "p", .int 2])) t8 (.tup [.str "q", .int 2])) l6 (.lst [.ref t7, .ref t8]) l6 = some (.lst [.ref t7, .ref t8]) := upd_same
    have hl6 : l6 ∉ [p, cs] := hp5.nn (((same_new n7).trans (same_new n8)).free nl6)
    have hpC := hp5.same sC
    generalize upd (upd (upd H5 t7 (.tup [.str "p", .int 2])) t8 (.tup [.str "q", .int 2])) l6 (.lst [.ref t7, .ref t8]) = HC at sC dC hC1 hpC ⊢
    clear a7 a8 n78 nl6 n7 n8
    refine ⟨_, rfl, p, cs, z, k + 1 + 1, c2, 4, rfl, by decide, by decide, hpC, by omega, fun H6 r3 c3 m6 hp6 r30 r31 => ?_⟩
    obtain ⟨e, re, he⟩ : ∃ e : Nat, (if r3 - 1 > 0 then r3 - 1 else 0) = (e : Int) ∧ e < 3 := by
      by_cases h : r3 - 1 > 0
      · exact ⟨(r3 - 1).toNat, by rw [if_pos h]; omega, by omega⟩
      · exact ⟨0, by rw [if_neg h]; rfl, by omega⟩
    refine ⟨_, _, rfl, rfl, _, _, rfl, ?_⟩
    rw [re]
    have d6 := sg_imm (m6.imm hpC.ow) dC
    have d6' := sg_imm ((Imm.of sC).trans (m6.imm hpC.ow)) d5
    have h6 := m6 _ _ hC1 hl6
    have h6' := m6 _ _ (sC _ _ h5) hl5
    have g6 := (g5.trans (Sm.same sC)).trans m6
    refine ⟨_, rfl, l6, _, rfl, .inl (.inl h6), fun l7 nl7 => ?_⟩
    rw [cutV_takeV]
    have s7 := same_new (o := .lst ([V.ref t7, .ref t8].take e)) nl7
    have d7 := sg_imm (Imm.of s7) (sg_take e d6)
    have d7' := sg_imm (Imm.of s7) d6'
    have h7' := s7 _ _ h6'
    have h7 : upd H6 l7 (.lst ([V.ref t7, .ref t8].take e)) l7 = some (.lst ([V.ref t7, .ref t8].take e)) := upd_same
    have hx7 : ([V.ref t7, .ref t8].take e).length ≤ 2 := by rw [List.length_take]; exact Nat.min_le_right _ _
    refine ⟨l5, l7, _, _, rfl, rfl, h7', h7, by omega, fun l8 nl8 => ?_⟩
    have s8 := s7.trans (same_new (o := .lst (x5 ++ [V.ref t7, .ref t8].take e)) nl8)
    have d8 : DpAll K (upd (upd H6 l7 (.lst ([V.ref t7, .ref t8].take e))) l8 (.lst (x5 ++ [V.ref t7, .ref t8].take e))) (x5 ++ [V.ref t7, .ref t8].take e) ((sgOf (1 + i) j e).map sg1) := sg_imm (Imm.of (same_new (o := .lst (x5 ++ [V.ref t7, .ref t8].take e)) nl8)) (sg_app d7' d7)
    have hpw : ((sgOf (1 + i) j e).map sg1).Pairwise (fun d e => PySem.W.dataLe false (fun x : PyData => x) d e = true) := sg_pair.sublist ((sg_sub (1 + i) j e).map sg1)
    refine ⟨_, rfl, l8, _, (sgOf (1 + i) j e).map sg1, rfl, .inl (.inl upd_same), d8, sgs_alike _, .inl (fun d hd => ?_), (fun d hd => ?_), fun l9 nl9 => ?_⟩
    · obtain ⟨y, _, rfl⟩ := List.mem_map.mp hd
      exact ⟨_, _, rfl⟩
    · obtain ⟨y, _, rfl⟩ := List.mem_map.mp hd
      exact sg_depth y
    · rw [srt_sorted d8.len hpw]
      refine ⟨l9, _, rfl, .inl (.inl upd_same), fun r o o1 o2 nr => ?_⟩
      have s9 := (s8.trans (same_new (o := .lst (x5 ++ [V.ref t7, .ref t8].take e)) nl9)).trans (same_new (o := .frz o (.tup (x5 ++ [V.ref t7, .ref t8].take e))) nr)
      refine q _ r i j e c3 (g6.trans (Sm.same s9)) ⟨_, .inl ⟨o, o1, o2, upd_same⟩, sg_imm (Imm.of ((same_new nl9).trans (same_new nr))) d8⟩ (by omega) (by omega) he ?_
      have hp9 := hp6.same s9
      rw [show k + 1 + 1 + 1 = k + 3 by omega] at hp9
      exact hp9

end NB

namespace NB
open PySem PySem.Spec PyProof.Rows L2 LamX
/-! ### _law_term -/
theorem sc__law_term : FnScope ["_law_pool_here", "_law_signs_here", "_law_deep_here", "_law_pair", "_law_some", "_law_sign", "_law_places", "_law_place"] ["_law_pool_here", "_law_signs_here", "_law_deep_here"] (defScope s__law_term) := ⟨rfl, rfl, rfl, by decide +kernel, rfl, by decide +kernel, by decide +kernel⟩
def sp__law_term (K : PySem.W.Frag) (n : Nat) : Sp := fun vs H Q _ => ∃ p cs z k cells sa sg, ∃ d : Nat, vs = [.ref p, .ref sa, .int (d : Int)] ∧ PoolAt H p cs z k cells ∧ SgsAt K H sa sg ∧ SgOk sg ∧ d < n ∧ k + (drw d : Nat) ≤ 1000000000 ∧
  ∀ H' v t k' cells', Sm [p, cs] H H' → PoolAt H' p cs z k' cells' → k ≤ k' → k' ≤ k + (drw d : Nat) → Dp K H' v (Tm.data t) → TmDr sg d t → Q v H'
theorem ok__law_term {P : Program} {w : World} {K : PySem.W.Frag} {mg : Str → Option Value} {base : Heap} (T : Tx K mg) : ∀ n : Nat, FnOk P w K mg base CX0 (n + 1) T.a__law_term T.d__law_term ["_law_pool_here", "_law_signs_here", "_law_deep_here"] (sp__law_term K n)
  | 0 => FnOk.never fun vs H Q E ⟨p, cs, z, k, cells, sa, sg, d, _, _, _, _, h, _⟩ => absurd h (Nat.not_lt_zero _)
  | n + 1 => by
    have GTerm := ok__law_term (P := P) (w := w) (base := base) T n
    refine T.F__law_term.ok (k := n + 1) sc__law_term (fun vs H Q E h => ?_) (fun cdv A outer s H vs Q E hr h => ?_)
    · obtain ⟨p, cs, z, k, cells, sa, sg, d, rfl, _⟩ := h
      rfl
    · obtain ⟨p, cs, z, k, cells, sa, sg, d, rfl, hp, hsg, ok, hdn, hk, q⟩ := h
      refine ⟨_, (pss_cons (ps_setLc (i := 4) (own := [("_law_pair", 3)]) rfl sc__law_term.nd rfl rfl (sw_true rfl rfl rfl (by decide +kernel)) (pi_tup (pv 1)) (blkOk_by (own := [("_law_pair", 3)]) (N := ["_law_pool_here", "_law_signs_here", "_law_deep_here", "_law_pair", "_law_some", "_law_sign", "_law_places", "_law_place"]) (sc := defScope s__law_term) (by decide +kernel)) (fun _ _ _ _ _ => (pg_name (i := 3) sc__law_term.nd rfl (by first | exact Or.inl rfl | exact Or.inr rfl))) (fun _ _ _ _ _ => (pts_one (PW.pt (pw_or (pt_cmpR op_eq (pe_ix (show IxR _ (rIxT K) from ix_tup) (pv 3) pe_int (fun _ _ => rfl)) pe_int (nomark _)) (pw_or1 (pt_cmpR op_gt (pv 2) pe_int (nomark _))))))) (fun _ _ _ _ _ => (pv 3))) (pss_cons (ps_if (PW.pt (pw_and (pt_cmpR op_gt (pv 2) pe_int (nomark _)) (pw_and1 (pt_cmpR op_gt (pe_call (ok__law_draw T) (hr.mono (by first | decide | omega)) rfl T.m__law_draw T.F__law_draw.kp T.b__law_draw .nil pass0 (pa_cons (pv 0) (pa_cons pe_int pa_nil))) pe_int (nomark _))))) (pss_one (ps_set (i := 4) sc__law_term.nd rfl (by first | exact Or.inl rfl | exact Or.inr rfl) (pe_op op_cat (pe_lc (own := [("_law_pair", 3)]) rfl sc__law_term.nd (pi_tup (pv 1)) (blkOk_by (own := [("_law_pair", 3)]) (N := ["_law_pool_here", "_law_signs_here", "_law_deep_here", "_law_pair", "_law_some", "_law_sign", "_law_places", "_law_place"]) (sc := defScope s__law_term) (by decide +kernel)) (fun _ _ _ _ _ => (pg_name (i := 3) sc__law_term.nd rfl (by first | exact Or.inl rfl | exact Or.inr rfl))) (fun _ _ _ _ _ => (pts_one (pt_cmpR op_gt (pe_ix (show IxR _ (rIxT K) from ix_tup) (pv 3) pe_int (fun _ _ => rfl)) pe_int (nomark _)))) (fun _ _ _ _ _ => (pv 3))) (pe_slice sl_list (pv 4) po_none (po_some pe_int))))) pss_nil) (pss_cons (ps_asg (pe_ix ix_list (pv 4) (pe_call (ok__law_draw T) (hr.mono (by first | decide | omega)) rfl T.m__law_draw T.F__law_draw.kp T.b__law_draw .nil pass0 (pa_cons (pv 0) (pa_cons (pe_callB call_len_seq (by rfl) T.z_len (by decide +kernel) (pa_cons (pv 4) pa_nil)) pa_nil))) (fun _ _ => rfl)) (pg_tup rfl (pgs_cons (pg_name (i := 5) sc__law_term.nd rfl (by first | exact Or.inl rfl | exact Or.inr rfl)) (pgs_cons (pg_name (i := 6) sc__law_term.nd rfl (by first | exact Or.inl rfl | exact Or.inr rfl)) pgs_nil)))) (pss_one (ps_ret (pe_op op_catA (pe_tup (pa_cons (pv 5) pa_nil)) (pe_callTy call_tuple_of (by rfl) T.z_tuple (by decide +kernel) (pa_cons (pe_lc (own := [("_law_place", 7)]) rfl sc__law_term.nd (pi_range1 (by rfl) T.z_range (pa_cons (pv 6) pa_nil)) (blkOk_by (own := [("_law_place", 7)]) (N := ["_law_pool_here", "_law_signs_here", "_law_deep_here", "_law_pair", "_law_some", "_law_sign", "_law_places", "_law_place"]) (sc := defScope s__law_term) (by decide +kernel)) (fun _ _ _ _ _ => (pg_name (i := 7) sc__law_term.nd rfl (by first | exact Or.inl rfl | exact Or.inr rfl))) (fun _ _ _ _ _ => pts_nil) (fun _ _ _ _ _ => (pe_call GTerm (hr.mono (by first | decide | omega)) rfl T.m__law_term T.F__law_term.kp T.b__law_term .nil pass0 (pa_cons (pv 0) (pa_cons (pv 1) (pa_cons (pe_op op_sub (pv 2) pe_int) pa_nil)))))) pa_nil)))))))), ?_⟩
      obtain ⟨xs, hpl, hxs⟩ := hsg
      have hsT := hpl.sq
      have hxl : xs.length = sg.length := by rw [hxs.len, List.length_map]
      have hfew := ok.few
      have hzl : 100000 < sizeLine := by decide
      have hdw : 1 ≤ drw d := by cases d <;> rw [drw] <;> omega
      have hsgA : SgsAt K H sa sg := ⟨xs, hpl, hxs⟩
      refine ⟨_, rfl, sa, rfl, ⟨_, hsT⟩, fun D nD => ?_⟩
      refine lc_tup (K := K) (a := sa) (xs := xs) (fun i H' => Same H H' ∧ ∃ us, H' D = some (.lst us) ∧ DpAll K H' us (((sg.take i).filter (fA d)).map sg1) ∧ us.length ≤ i)
        ⟨same_new nD, [], upd_same, .nil, Nat.le_refl _⟩ (fun i H' _ h => SqT.same hsT h.1) (fun i x H' hx ⟨h1, us, h2, h3, h4⟩ => ?_) (fun H1 ⟨s1, us, hD, hus, hul⟩ => ?_)
      · have hi : i < sg.length := by
          have := (List.getElem?_eq_some_iff.mp hx).1
          omega
        obtain ⟨e, he⟩ : ∃ e, sg[i]? = some e := ⟨_, List.getElem?_eq_getElem hi⟩
        have hde := hxs.get hx (show (sg.map sg1)[i]? = some (sg1 e) by rw [List.getElem?_map, he]; rfl)
        obtain ⟨a, rfl, ha⟩ := sgAt hde
        have hft := filter_takeS (f := fA d) he
        refine ⟨rfl, _, rfl, a, _, _, _, rfl, rfl, SqT.same ha h1, atI_nat (j := 1) rfl, rfl, _, rfl, ?_⟩
        have fin : ∀ b : Bool, fA d e = b → (if b = true then tVar 3 (L2.start ["_law_pool_here", "_law_signs_here", "_law_deep_here", "_law_pair", "_law_some", "_law_sign", "_law_places", "_law_place"] [.ref p, .ref sa, .int (d : Int)] |>.set 3 (some (.ref a))) H' (fun y H4 => ∃ acc, H4 D = some (.lst acc) ∧ acc.length < sizeLine ∧ (Same H (upd H4 D (.lst (acc ++ [y]))) ∧ ∃ us, upd H4 D (.lst (acc ++ [y])) D = some (.lst us) ∧ DpAll K (upd H4 D (.lst (acc ++ [y]))) us (((sg.take (i + 1)).filter (fA d)).map sg1) ∧ us.length ≤ i + 1)) else (Same H H' ∧ ∃ us, H' D = some (.lst us) ∧ DpAll K H' us (((sg.take (i + 1)).filter (fA d)).map sg1) ∧ us.length ≤ i + 1)) := fun b hb => by
          rw [hb] at hft
          cases b with
          | true =>
            rw [if_pos rfl] at hft ⊢
            refine ⟨_, rfl, us, h2, by omega, h1.upd nD, _, upd_same, ?_, by rw [List.length_append]; show _ + 1 ≤ _; omega⟩
            rw [hft, List.map_append]
            exact (sg_imm (Imm.lst h2) h3).app (.cons (Dp.imm ((Imm.of h1).trans (Imm.lst h2)) _ _ rfl hde) .nil)
          | false =>
            rw [if_neg (by decide), List.append_nil] at hft
            rw [if_neg (by decide), hft]
            exact ⟨h1, us, h2, h3, by omega⟩
        by_cases c1 : e.2 = 0
        · have e1 : decide (V.int e.2 = V.int 0) = true := decide_eq_true (by rw [c1])
          rw [e1]
          exact fin true (by unfold fA; rw [decide_eq_true c1]; rfl)
        · have e1 : decide (V.int e.2 = V.int 0) = false := decide_eq_false fun z => c1 (V.int.inj z)
          rw [e1]
          refine ⟨_, rfl, _, _, rfl, rfl, _, rfl, ?_⟩
          exact fin _ (by unfold fA; rw [decide_eq_false c1]; rfl)
      · rw [hxl, List.take_length] at hus
        have nDp := hp.nn nD
        dsimp only [gName]
        refine seq_open (fun σ' H' => ∃ L us sel k2 c2, σ' = [some (.ref p), some (.ref sa), some (.int (d : Int)), none, some (.ref L), none, none, none] ∧ Sm [p, cs] H H' ∧ PoolAt H' p cs z k2 c2 ∧ k ≤ k2 ∧ (d = 0 → k2 = k) ∧ k2 ≤ k + 1 ∧ H' L = some (.lst us) ∧ L ∉ [p, cs] ∧ DpAll K H' us (sel.map sg1) ∧ sel ≠ [] ∧ (∀ e ∈ sel, e ∈ sg ∧ (d = 0 → e.2 = 0)) ∧ sel.length ≤ 16)
          (fun NX hNX => ?_) (fun σ' H2 h => ?_)
        · obtain ⟨e0, he0, he00⟩ := ok.leaf
          have hsel0 : sg.filter (fA d) ≠ [] := fun z => by
            have : e0 ∈ sg.filter (fA d) := List.mem_filter.mpr ⟨he0, by unfold fA; rw [decide_eq_true he00]; rfl⟩
            rw [z] at this
            cases this
          have hself : ∀ e ∈ sg.filter (fA d), e ∈ sg ∧ (d = 0 → e.2 = 0) := fun e he => by
            obtain ⟨h1, h2⟩ := List.mem_filter.mp he
            refine ⟨h1, fun z => ?_⟩
            unfold fA at h2
            rw [z] at h2
            simpa using h2
          have hsell : (sg.filter (fA d)).length ≤ 9 := Nat.le_trans (List.length_filter_le _ _) hfew
          refine ⟨_, rfl, _, _, rfl, rfl, _, rfl, ?_⟩
          by_cases d0 : 0 < (d : Int)
          · rw [decide_eq_true d0]
            refine ⟨_, rfl, p, cs, z, k, cells, 3, rfl, by decide, by decide, hp.same s1, by omega, fun H2 r c2 sm2 hp2 r0 r1 => ⟨_, _, rfl, rfl, _, rfl, ?_⟩⟩
            have owp := (hp.same s1).ow
            have im2 := (Imm.of s1).trans (sm2.imm owp)
            have hD2 := sm2 _ _ hD nDp
            have sm02 : Sm [p, cs] H H2 := (Sm.same s1).trans sm2
            have hus2 := sg_imm (sm2.imm owp) hus
            by_cases r0' : 0 < r
            · rw [decide_eq_true r0']
              refine ⟨_, rfl, sa, rfl, ⟨_, im2.sq hsT⟩, fun D2 nD2 => ?_⟩
              have hxs2 := sg_imm im2 hxs
              refine lc_tup (K := K) (a := sa) (xs := xs) (fun i H' => Same H2 H' ∧ ∃ us, H' D2 = some (.lst us) ∧ DpAll K H' us (((sg.take i).filter fB).map sg1) ∧ us.length ≤ i)
                ⟨same_new nD2, [], upd_same, .nil, Nat.le_refl _⟩ (fun i H' _ h => SqT.same (im2.sq hsT) h.1) (fun i x H' hx ⟨h1, vs, h2, h3, h4⟩ => ?_) (fun H3 ⟨s3, vs, hV, hvs, hvl⟩ => ?_)
              · have hi : i < sg.length := by
                  have := (List.getElem?_eq_some_iff.mp hx).1
                  omega
                obtain ⟨e, he⟩ : ∃ e, sg[i]? = some e := ⟨_, List.getElem?_eq_getElem hi⟩
                have hde := hxs2.get hx (show (sg.map sg1)[i]? = some (sg1 e) by rw [List.getElem?_map, he]; rfl)
                obtain ⟨a, rfl, ha⟩ := sgAt hde
                have hft := filter_takeS (f := fB) he
                refine ⟨rfl, _, rfl, a, _, _, _, rfl, rfl, SqT.same ha h1, atI_nat (j := 1) rfl, _, _, rfl, rfl, _, rfl, ?_⟩
                by_cases c1 : 0 < e.2
                · have e1 : fB e = true := decide_eq_true c1
                  rw [decide_eq_true c1]
                  rw [e1, if_pos rfl] at hft
                  refine ⟨_, rfl, vs, h2, by omega, h1.upd nD2, _, upd_same, ?_, by rw [List.length_append]; show _ + 1 ≤ _; omega⟩
                  rw [hft, List.map_append]
                  exact (sg_imm (Imm.lst h2) h3).app (.cons (Dp.imm ((Imm.of h1).trans (Imm.lst h2)) _ _ rfl hde) .nil)
                · have e1 : fB e = false := decide_eq_false c1
                  rw [decide_eq_false c1]
                  rw [e1, if_neg (by decide), List.append_nil] at hft
                  refine ⟨h1, vs, h2, ?_, by omega⟩
                  rw [hft]
                  exact h3
              · rw [hxl, List.take_length] at hvs
                have c1e : cutV us none (some 1) = us.take 1 := cutV_takeV us 1
                refine ⟨_, rfl, _, rfl, D, us, rfl, .inl (.inl (s3 _ _ hD2)), fun q1 nq1 => ?_⟩
                have s4 := s3.trans (same_new (o := .lst (cutV us none (some 1))) nq1)
                have hus4 := sg_imm (Imm.of s4) hus2
                refine ⟨D2, q1, _, _, rfl, rfl, upd_new_ne hV nq1, upd_same, ?_, fun l nl => ?_⟩
                · rw [c1e, List.length_take]
                  omega
                · rw [c1e]
                  rw [c1e] at nl s4 hus4
                  have s5 := s4.trans (same_new (o := .lst (vs ++ us.take 1)) nl)
                  have hp5 := hp2.same s5
                  have nl5 : l ∉ [p, cs] := (hp2.same s4).nn nl
                  have snl := same_new (o := .lst (vs ++ us.take 1)) nl
                  have dA := sg_app (sg_imm (Imm.of ((same_new nq1).trans snl)) hvs) (sg_take 1 (sg_imm (Imm.of snl) hus4))
                  refine hNX _ _ ⟨l, vs ++ us.take 1, _, k + 1, c2, rfl, sm02.trans (Sm.same s5), hp5, by omega, fun z => by omega, by omega, upd_same, nl5, dA, fun z => ?_, fun e he => ?_, ?_⟩
                  · have z2 := (List.append_eq_nil_iff.mp z).2
                    cases hq : sg.filter (fA d) with
                    | nil => exact hsel0 hq
                    | cons y ys => rw [hq] at z2; cases z2
                  · rcases List.mem_append.mp he with h | h
                    · exact ⟨(List.mem_filter.mp h).1, fun z => by omega⟩
                    · exact hself e (List.mem_of_mem_take h)
                  · have := List.length_filter_le fB sg
                    rw [List.length_append, List.length_take]
                    omega
            · rw [decide_eq_false r0']
              exact hNX _ _ ⟨D, us, _, k + 1, c2, rfl, sm02, hp2, by omega, fun z => by omega, by omega, hD2, nDp, hus2, hsel0, hself, by omega⟩
          · rw [decide_eq_false d0]
            exact hNX _ _ ⟨D, us, _, k, cells, rfl, Sm.same s1, hp.same s1, by omega, fun _ => rfl, by omega, hD, nDp, hus, hsel0, hself, by omega⟩
        · obtain ⟨L, us2, sel, k2, c2, rfl, sm2, hp2, k21, k22, k23, hL, nL, hus2, hsel, hself, hsell⟩ := h
          have hul2 : us2.length = sel.length := by rw [hus2.len, List.length_map]
          have hsp : 0 < sel.length := List.length_pos_iff.mpr hsel
          refine ⟨_, rfl, _, rfl, _, rfl, L, us2, rfl, .inl (.inl (.inl hL)), p, cs, z, k2, c2, _, rfl, by omega, by omega, hp2, by omega, fun H3 r c3 sm3 hp3 r0 r1 => ?_⟩
          have im3 := sm3.imm hp2.ow
          have hL3 := sm3 _ _ hL nL
          have hus3 := sg_imm im3 hus2
          have sm03 := sm2.trans sm3
          have im03 := sm03.imm hp.ow
          obtain ⟨j, rfl, hj⟩ := nat_of r0 r1
          have hjl : j < sel.length := by omega
          obtain ⟨e, he⟩ : ∃ e, sel[j]? = some e := ⟨_, List.getElem?_eq_getElem hjl⟩
          obtain ⟨v, hv⟩ : ∃ v, us2[j]? = some v := ⟨_, List.getElem?_eq_getElem (by omega)⟩
          obtain ⟨a, rfl, ha⟩ := sgAt (Dp.get' hus3 hv he)
          obtain ⟨hes, hed⟩ := hself e (List.mem_of_getElem? he)
          obtain ⟨o1, o2, o3, o4, o5⟩ := ok.each e hes
          refine ⟨L, us2, _, _, rfl, rfl, .inl (.inl hL3), atI_nat hv, a, _, rfl, ha, rfl, _, _, rfl, _, _, rfl, rfl, ?_⟩
          refine ⟨_, rfl, (by show 1 ≤ sizeLine; decide), fun q1 nq1 => ?_⟩
          have sq1 := same_new (o := .tup [.str e.1]) nq1
          have hp4 := hp3.same sq1
          have sm04 := sm03.trans (Sm.same (O := [p, cs]) sq1)
          have hq1 : upd H3 q1 (.tup [.str e.1]) q1 = some (.tup [.str e.1]) := upd_same
          have nq1p := hp3.nn nq1
          generalize upd H3 q1 (.tup [.str e.1]) = H4 at sq1 hp4 sm04 hq1 ⊢
          refine ⟨_, rfl, e.2, rfl, by omega, by omega, fun D3 nD3 => ?_⟩
          have nD3p := hp4.nn nD3
          refine lc_range (n := e.2.toNat) (fun i H' => Sm [p, cs] H4 H' ∧ ∃ ts us k' c', ts.length = i ∧ H' D3 = some (.lst us) ∧ DpAll K H' us (Tm.datas ts) ∧ (∀ t ∈ ts, TmDr sg (d - 1) t) ∧ PoolAt H' p cs z k' c' ∧ k2 + 1 ≤ k' ∧ k' ≤ k2 + 1 + ((i * drw (d - 1) : Nat) : Int))
            ⟨Sm.same (same_new nD3), [], [], k2 + 1, c3, rfl, upd_same, .nil, (fun t h => nomatch h), hp4.same (same_new nD3), Int.le_refl _, by omega⟩ (fun i H' hi ⟨h1, ts, us, k', c', h2, h3, h4, h5, h6, h7, h8⟩ => ?_) (fun H' ⟨h1, ts, us, k', c', h2, h3, h4, h5, h6, h7, h8⟩ => ?_)
          · have hi2 : i < 2 := by omega
            have hd0 : d ≠ 0 := fun z => by
              have := hed z
              omega
            have im4 := h1.imm hp4.ow
            have imH := ((sm04.trans h1).imm hp.ow)
            have hdr : drw d = 2 + 2 * drw (d - 1) := by
              cases d with
              | zero => exact absurd rfl hd0
              | succ d => rfl
            have hil : i * drw (d - 1) ≤ 1 * drw (d - 1) := Nat.mul_le_mul_right _ (by omega)
            have ei1 : (i + 1) * drw (d - 1) = i * drw (d - 1) + drw (d - 1) := by rw [Nat.add_mul, Nat.one_mul]
            refine ⟨rfl, _, rfl, _, rfl, _, rfl, _, _, rfl, rfl, p, cs, z, k', c', sa, sg, d - 1, ?_, h6, hsgA.imm imH, ok, by omega, by omega, fun H5 v t k5 c5 sm5 hp5 k51 k52 dv dr => ?_⟩
            · rw [show ((d - 1 : Nat) : Int) = (d : Int) - 1 by omega]
              rfl
            · have nD3H := nD3p
              have hD5 := sm5 _ _ h3 nD3p
              have iL := Imm.lst (o := .lst (us ++ [v])) hD5
              have hul5 : us.length = i := by rw [h4.len, Tm.datas_len, h2]
              refine ⟨us, hD5, by omega, (h1.trans sm5).updN nD3, ts ++ [t], us ++ [v], k5, c5, by rw [List.length_append, h2]; rfl, upd_same, ?_, ?_, ?_, by omega, by omega⟩
              · rw [Tm.datas_app]
                exact (DpAll.imm ((sm5.imm h6.ow).trans iL) _ _ (Tm.nl_datas ts) h4).app (.cons (Dp.imm iL _ _ (Tm.nl_data t) dv) .nil)
              · intro x hx
                rcases List.mem_append.mp hx with h | h
                · exact h5 x h
                · rw [List.mem_singleton.mp h]
                  exact dr
              · have hpD : p ≠ D3 := fun z => nD3p (by rw [z]; exact List.mem_cons_self ..)
                have hcD : cs ≠ D3 := fun z => nD3p (by rw [z]; exact List.mem_cons_of_mem _ (List.mem_cons_self ..))
                exact ⟨(upd_ne hpD).trans hp5.pool, (upd_ne hcD).trans hp5.cel, hp5.ne, hp5.z0, hp5.z1, hp5.k0⟩
          · have hul : us.length = ts.length := by rw [h4.len, Tm.datas_len]
            have hdr : d ≠ 0 → drw d = 2 + 2 * drw (d - 1) := fun hd0 => by
              cases d with
              | zero => exact absurd rfl hd0
              | succ d => rfl
            have hkk : k' ≤ k + (drw d : Nat) := by
              by_cases hd0 : d = 0
              · have hts : e.2.toNat = 0 := by
                  have := hed hd0
                  omega
                rw [hts, Nat.zero_mul] at h8
                have := k22 hd0
                have : drw d = 1 := by rw [hd0]; rfl
                omega
              · have h9 : e.2.toNat * drw (d - 1) ≤ 2 * drw (d - 1) := Nat.mul_le_mul_right _ (by omega)
                have := hdr hd0
                omega
            have htm : TmDr sg d (.mk e.1 ts) := TmDr.make ok hes (by omega) (fun hd0 => by
              have := hed hd0
              exact List.length_eq_zero_iff.mp (by omega)) h5
            have smH := sm04.trans h1
            have hq1H := h1 _ _ hq1 nq1p
            refine ⟨D3, us, rfl, .inl ⟨.inl (.inl h3), fun l nl => ?_⟩⟩
            have sl := same_new (o := .tup us) nl
            have hp7 := h6.same sl
            have h4l := DpAll.same sl _ _ h4
            refine ⟨q1, l, [.str e.1], us, rfl, rfl, .inl (.inl (sl _ _ hq1H)), .inl (.inl upd_same), by show 1 + _ ≤ _; omega, (fun z => nomatch z), fun _ hz => ?_, fun _ _ r nr => ?_⟩
            · refine q _ _ _ k' c' (smH.trans (Sm.same sl)) hp7 (by omega) hkk ?_ htm
              rw [Tm.data]
              subst hz
              exact .tup (.inl (.inl (sl _ _ hq1H))) (.cons (.str _) h4l)
            · have sr := sl.trans (same_new (o := .tup ([.str e.1] ++ us)) nr)
              refine q _ _ _ k' c' (smH.trans (Sm.same sr)) (h6.same sr) (by omega) hkk ?_ htm
              rw [Tm.data]
              exact .tup (.inl (.inl upd_same)) (.cons (.str _) (DpAll.same sr _ _ h4))

end NB

namespace NB
open PySem PySem.Spec PyProof.Rows L2 LamX
/-! ### _law_text -/
theorem sc__law_text : FnScope ["_law_term_here", "_law_part"] ["_law_term_here"] (defScope s__law_text) := ⟨rfl, rfl, rfl, by decide +kernel, rfl, by decide +kernel, by decide +kernel⟩
theorem strs_v {K : PySem.W.Frag} {G : Hp} : ∀ {xs : List V} {ss : List Str}, DpAll K G xs (ss.map PyData.str) → xs = ss.map V.str
  | _, [], h => DpAll.nilD h
  | _, s :: ss, h => by
    obtain ⟨v, ws, rfl, h1, h2⟩ := DpAll.consD h
    rw [Dp.strD h1, strs_v h2]
    rfl
def sp__law_text (K : PySem.W.Frag) (n : Nat) : Sp := fun vs H Q _ => ∃ v t, vs = [v] ∧ Dp K H v (Tm.data t) ∧ dpt t ≤ n ∧ (Tm.pre t).length ≤ 100000 ∧ Wd t ∧ ∀ H', Same H H' → Q (.str (txT t)) H'
theorem ok__law_text {P : Program} {w : World} {K : PySem.W.Frag} {mg : Str → Option Value} {base : Heap} (T : Tx K mg) : ∀ n : Nat, FnOk P w K mg base CX0 n T.a__law_text T.d__law_text ["_law_term_here"] (sp__law_text K n)
  | 0 => FnOk.never fun vs H Q E ⟨v, t, _, _, h, _⟩ => by
    have := dpt_pos t
    omega
  | n + 1 => by
    have GText := ok__law_text (P := P) (w := w) (base := base) T n
    refine T.F__law_text.ok (k := n) sc__law_text (fun vs H Q E h => ?_) (fun cdv A outer s H vs Q E hr h => ?_)
    · obtain ⟨v, t, rfl, _⟩ := h
      rfl
    · obtain ⟨v, t, rfl, hd, hn, hl, hw, k⟩ := h
      have hzl : 100000 < sizeLine := by decide
      refine ⟨_, (pss_cons (ps_if (pt_cmpR op_eq (pe_callB call_len_seq (by rfl) T.z_len (by decide +kernel) (pa_cons (pv 0) pa_nil)) pe_int (nomark _)) (pss_one (ps_ret (pe_ix ix_tup (pv 0) pe_int (fun _ _ => rfl)))) pss_nil) (pss_one (ps_ret (pe_op op_add_str (pe_op op_add_str (pe_op op_add_str (pe_ix ix_tup (pv 0) pe_int (fun _ _ => rfl)) pe_str) (pe_join pe_str (pe_lc (own := [("_law_part", 1)]) rfl sc__law_text.nd (pi_tup (pe_slice sl_tupA (pv 0) (po_some pe_int) po_none)) (blkOk_by (own := [("_law_part", 1)]) (N := ["_law_term_here", "_law_part"]) (sc := defScope s__law_text) (by decide +kernel)) (fun _ _ _ _ _ => (pg_name (i := 1) sc__law_text.nd rfl (by first | exact Or.inl rfl | exact Or.inr rfl))) (fun _ _ _ _ _ => pts_nil) (fun _ _ _ _ _ => (pe_call GText (hr.mono (by first | decide | omega)) rfl T.m__law_text T.F__law_text.kp T.b__law_text .nil pass0 (pa_cons (pv 1) pa_nil)))))) pe_str)))), ?_⟩
      obtain ⟨a, ys, rfl, hs, hy⟩ := DpAll.ref hd
      obtain ⟨sg, ps⟩ := t
      have hyl : ys.length = ps.length := by rw [hy.len, Tm.datas_len]; rfl
      have hpl := Tm.pres_len ps
      have hpre : (Tm.pre (.mk sg ps)).length = (Tm.pres ps).length + 1 := by rw [Tm.pre, List.length_cons]
      rw [dpt] at hn
      have hsh := hw.sh
      have hlen := txT_len _ hsh
      have hz : sizeLine = 16777216 := by decide
      have e2 : ("(":Str).length = 1 := by decide +kernel
      have e3 : (")":Str).length = 1 := by decide +kernel
      have e1 : (",":Str).length = 1 := by decide +kernel
      refine ⟨_, rfl, a, _, rfl, .inr hs, rfl, _, rfl, ?_⟩
      cases ps with
      | nil =>
        have ey : ys = [] := List.length_eq_zero_iff.mp hyl
        subst ey
        dsimp only
        rw [if_pos (show decide (V.int (((V.str (Tm.mk sg []).sg :: []).length : Nat) : Int) = V.int 1) = true from rfl)]
        refine ⟨_, rfl, a, _, _, _, rfl, rfl, hs, atI_nat (j := 0) rfl, ?_⟩
        have kk := k _ (Same.refl _)
        rw [txT, txTs] at kk
        unfold txS at kk
        rw [if_pos (show ([] : List Str).length = 0 from rfl)] at kk
        exact kk
      | cons p0 ps0 =>
        dsimp only
        rw [if_neg (show ¬ decide (V.int (((V.str (Tm.mk sg (p0 :: ps0)).sg :: ys).length : Nat) : Int) = V.int 1) = true from by
          intro q
          have q := of_decide_eq_true q
          injection q with q
          rw [List.length_cons, hyl, List.length_cons] at q
          omega)]
        generalize hps : p0 :: ps0 = ps at *
        have hne : ps.length ≠ 0 := by
          rw [← hps, List.length_cons]
          omega
        have hsl : sg.length ≤ 100 := hsh sg ps (mem_pre_self _)
        have hsp : Sh100 (Tm.pres ps) := fun s' ps' m => hsh s' ps' (by rw [Tm.pre]; exact List.mem_cons_of_mem _ m)
        have hts := txTs_len ps hsp
        have htl : (txTs ps).length = ps.length := by rw [txTs_map, List.length_map]
        refine ⟨_, rfl, a, _, _, _, rfl, rfl, hs, atI_nat (j := 0) rfl, _, _, rfl, rfl, by rw [e2]; show sg.length + 1 ≤ _; omega, ⟨_, rfl⟩, _, rfl, 1, rfl, a, _, rfl, hs, fun z => absurd z (whole_not ys.length none), fun _ p np => ⟨p, rfl, ⟨_, .inl (.inl upd_same)⟩, fun D nD => ?_⟩⟩
        rw [cutV_tail (α := V)] at nD ⊢
        have s1 := same_new (o := .tup ys) np
        refine lcd_tup (K := K) (xs := ys) (fun i => PyData.str (txT (ps.getD i (.mk "" [])))) (fun i _ => rfl) (by omega) nD (.inl (.inl upd_same)) (fun i x G R hx sG hR => ?_) (fun G us sG hD dG => ?_)
        · have hi : i < ps.length := by
            have := (List.getElem?_eq_some_iff.mp hx).1
            omega
          have hti : ps[i]? = some ps[i] := List.getElem?_eq_getElem hi
          have hm : ps[i] ∈ ps := List.getElem_mem hi
          have hdi : (Tm.datas ps)[i]? = some ps[i].data := by rw [Tm.datas_map, List.getElem?_map, hti]; rfl
          have hpd := dpts_mem hm
          have hpt := part_lt ps _ hm
          have eg : ps.getD i (.mk "" []) = ps[i] := by rw [List.getD_eq_getElem?_getD, hti]; rfl
          rw [eg] at hR
          exact ⟨rfl, _, rfl, x, ps[i], rfl, Dp.same (s1.trans sG) _ _ (hy.get hx hdi), by omega, by omega, hw.parts.2 _ hm, fun H2 s2 => hR _ _ s2 (.str _)⟩
        · have er : ((List.range ys.length).map fun i => PyData.str (txT (ps.getD i (.mk "" [])))) = (txTs ps).map PyData.str := by
            rw [hyl, txTs_map, List.map_map]
            refine List.ext_getElem? fun i => ?_
            rw [List.getElem?_map, List.getElem?_map]
            rcases Nat.lt_or_ge i ps.length with z | z
            · rw [List.getElem?_range z, List.getElem?_eq_getElem z]
              have eg : ps.getD i (.mk "" []) = ps[i] := by rw [List.getD_eq_getElem?_getD, List.getElem?_eq_getElem z]; rfl
              show some (PyData.str (txT (ps.getD i (.mk "" [])))) = some (PyData.str (txT ps[i]))
              rw [eg]
            · rw [List.getElem?_eq_none (by rw [List.length_range]; exact z), List.getElem?_eq_none z]
              rfl
          rw [er] at dG
          have eu := strs_v dG
          subst eu
          have hj := txJ_len "," (txTs ps)
          rw [e1] at hj
          refine ⟨_, D, txTs ps, rfl, rfl, .inl (.inl (.inl hD)), by rw [e1]; omega, _, _, rfl, rfl, ?_, _, _, rfl, rfl, ?_, ?_⟩
          · rw [PySem.Str.length_append, e2, hz]
            show sg.length + 1 + _ ≤ _
            omega
          · rw [PySem.Str.length_append, PySem.Str.length_append, e2, e3, hz]
            show sg.length + 1 + _ + 1 ≤ _
            omega
          · have kk := k _ (s1.trans sG)
            rw [txT] at kk
            unfold txS at kk
            rw [if_neg (by rw [htl]; exact hne)] at kk
            exact kk

end NB

namespace NB
open PySem PySem.Spec PyProof.Rows L2 LamX
/-! a text read part by part, and letter by letter -/
structure PlOk (pl : List (Str × Int)) : Prop where
  ne : lookS pl "" = none
  pos : ∀ s n, lookS pl s = some n → 0 ≤ n
inductive RR (α : Type) where
  | bad (w : Nat)
  | good (a : α) (l : List Nat) (k : Nat)
def rdWord (pl : List (Str × Int)) : Str → List Nat → Nat → RR Str
  | w, [], k => if (lookS pl w).isSome = true then .good w [] k else .bad (k + 1)
  | w, c :: l, k => if c ∈ letL then (if isHead pl (w ++ one1 c) = true then rdWord pl (w ++ one1 c) l (k + 1) else .bad (k + 1)) else if (lookS pl w).isSome = true then .good w (c :: l) k else .bad (k + 1)
def rdParts (rt : List Nat → Nat → RR Tm) : Nat → Nat → List Tm → List Nat → Nat → RR (List Tm)
  | 0, _, qs, l, k => .good qs l k
  | _ + 1, _, _, [], k => .bad (k + 1)
  | n + 1, d, qs, c :: l, k => if c = d then (match rt l (k + 1) with | .bad w => .bad w | .good t l2 k2 => rdParts rt n 44 (qs ++ [t]) l2 k2) else .bad (k + 1)
/-- what stands behind the parts -/
def rdEnd (s : Str) (n : Nat) (qs : List Tm) : List Nat → Nat → RR Tm
  | [], k => if n = 0 then .good (.mk s []) [] k else .bad (k + 1)
  | c :: l, k => if n = 0 then .good (.mk s []) (c :: l) k else if c = 41 then .good (.mk s qs) l (k + 1) else .bad (k + 1)
def rdTerm (pl : List (Str × Int)) : Nat → List Nat → Nat → RR Tm
  | 0, _, _ => .bad 0
  | f + 1, l, k => match rdWord pl "" l k with
    | .bad w => .bad w
    | .good s l1 k1 => match rdParts (rdTerm pl f) ((lookS pl s).getD 0).toNat 40 [] l1 k1 with
      | .bad w => .bad w
      | .good qs l2 k2 => rdEnd s ((lookS pl s).getD 0).toNat qs l2 k2
theorem wordS (s : Str) : ("" : Str) ++ s = s := by
  have h : (("" : Str) ++ s).cps = s.cps := by
    show #[] ++ s.cps = s.cps
    simp
  cases s
  exact congrArg Str.mk h
theorem go_cons {pl : List (Str × Int)} {S : RdS} {c : Nat} {l : List Nat} {k : Nat} : goS pl S (c :: l) k = match stepS pl S c with | some S' => goS pl S' l (k + 1) | none => (none, k + 1) := rfl
theorem go_some {pl : List (Str × Int)} {S S' : RdS} {c : Nat} {l : List Nat} {k : Nat} (h : stepS pl S c = some S') : goS pl S (c :: l) k = goS pl S' l (k + 1) := by rw [go_cons, h]
theorem go_none {pl : List (Str × Int)} {S : RdS} {c : Nat} {l : List Nat} {k : Nat} (h : stepS pl S c = none) : goS pl S (c :: l) k = (none, k + 1) := by rw [go_cons, h]
/-- no letter follows a word -/
def NoLet (l : List Nat) : Prop := ∀ c r, l = c :: r → c ∉ letL
/-- the word is taken letter by letter -/
theorem word_go {pl : List (Str × Int)} {F : List (Str × List Tm)} : ∀ (l : List Nat) (w : Str) (k : Nat),
    (∀ x, rdWord pl w l k = .bad x → goS pl ⟨w, F, none⟩ l k = (none, x)) ∧ ∀ s l' k', rdWord pl w l k = .good s l' k' → goS pl ⟨w, F, none⟩ l k = goS pl ⟨s, F, none⟩ l' k' ∧ NoLet l' ∧ (lookS pl s).isSome = true
  | [], w, k => by
    rw [rdWord]
    by_cases h : (lookS pl w).isSome = true
    · rw [if_pos h]
      refine ⟨(fun x e => by cases e), fun s l' k' e => ?_⟩
      cases e
      exact ⟨rfl, (fun c r e => by cases e), h⟩
    · rw [if_neg h]
      refine ⟨fun x e => ?_, (fun s l' k' e => by cases e)⟩
      cases e
      have hn : lookS pl w = none := by
        cases e : lookS pl w with
        | none => rfl
        | some n => rw [e] at h; exact absurd rfl h
      show (finS pl _, k + 1) = (none, k + 1)
      unfold finS hereS
      rw [hn]
      split <;> rfl
  | c :: l, w, k => by
    rw [rdWord]
    by_cases hc : c ∈ letL
    · rw [if_pos hc]
      by_cases hh : isHead pl (w ++ one1 c) = true
      · rw [if_pos hh]
        have hs : stepS pl ⟨w, F, none⟩ c = some ⟨w ++ one1 c, F, none⟩ := by
          unfold stepS letS
          rw [if_pos hc, if_neg (fun z => z.elim (fun y => nomatch y) fun y => by rw [hh] at y; cases y)]
        obtain ⟨a, b⟩ := word_go (pl := pl) (F := F) l (w ++ one1 c) (k + 1)
        rw [go_some hs]
        exact ⟨a, b⟩
      · rw [if_neg hh]
        refine ⟨fun x e => ?_, (fun s l' k' e => by cases e)⟩
        cases e
        refine go_none ?_
        unfold stepS letS
        rw [if_pos hc, if_pos (.inr (by simpa using hh))]
    · rw [if_neg hc]
      by_cases h : (lookS pl w).isSome = true
      · rw [if_pos h]
        refine ⟨(fun x e => by cases e), fun s l' k' e => ?_⟩
        cases e
        exact ⟨rfl, (fun c' r e => by cases e; exact hc), h⟩
      · rw [if_neg h]
        refine ⟨fun x e => ?_, (fun s l' k' e => by cases e)⟩
        cases e
        have hn : lookS pl w = none := by
          cases e : lookS pl w with
          | none => rfl
          | some n => rw [e] at h; exact absurd rfl h
        refine go_none ?_
        unfold stepS
        rw [if_neg hc]
        split
        · unfold braS
          rw [hn]
          rfl
        · unfold endS hereS
          rw [hn]
          rfl
/-- a state behind a term -/
structure ClsS (pl : List (Str × Int)) (S : RdS) (t : Tm) (l : List Nat) : Prop where
  here : hereS pl S = some t
  noL : ∀ c r, l = c :: r → c ∈ letL → stepS pl S c = none
  noB : braS pl S = none
theorem ClsS.step {pl : List (Str × Int)} {S : RdS} {t : Tm} {l r : List Nat} {c : Nat} (h : ClsS pl S t l) (e : l = c :: r) : stepS pl S c = if c ∈ letL ∨ c = 40 then none else endS pl S c := by
  by_cases hc : c ∈ letL
  · rw [if_pos (.inl hc)]
    exact h.noL c r e hc
  · by_cases h4 : c = 40
    · rw [if_pos (.inr h4)]
      unfold stepS
      rw [if_neg hc, if_pos h4]
      exact h.noB
    · rw [if_neg (fun z => z.elim hc h4)]
      unfold stepS
      rw [if_neg hc, if_neg h4]
/-- behind a part: what is awaited, or nothing -/
theorem ClsS.end_ {pl : List (Str × Int)} {S : RdS} {t : Tm} {l r : List Nat} {c : Nat} {F : List (Str × List Tm)} {e : Str × List Tm} (h : ClsS pl S t l) (el : l = c :: r) (eF : S.frames = F ++ [e]) :
    stepS pl S c = if c = wantS pl e then (if c = 41 then some ⟨"", F, some (.mk e.1 (e.2 ++ [t]))⟩ else some ⟨"", F ++ [(e.1, e.2 ++ [t])], none⟩) else none := by
  have hw : wantS pl e = 44 ∨ wantS pl e = 41 := by
    unfold wantS
    split
    · exact .inl rfl
    · exact .inr rfl
  rw [h.step el]
  by_cases hc : c ∈ letL ∨ c = 40
  · rw [if_pos hc, if_neg]
    intro z
    have n44 : 44 ∉ letL := by decide +kernel
    have n41 : 41 ∉ letL := by decide +kernel
    rcases hc with hc | hc
    · rcases hw with w | w
      · exact n44 (by rw [← w, ← z]; exact hc)
      · exact n41 (by rw [← w, ← z]; exact hc)
    · rcases hw with w | w
      · omega
      · omega
  · rw [if_neg hc]
    unfold endS
    rw [h.here, eF, List.getLast?_concat, List.dropLast_concat]
theorem want_more {pl : List (Str × Int)} {s : Str} {n : Int} {qs : List Tm} (hn : lookS pl s = some n) (h : ((qs.length + 1 : Nat) : Int) < n) : wantS pl (s, qs) = 44 := by
  unfold wantS
  rw [hn]
  show (if 0 < n - (1 + (qs.length : Int)) then 44 else 41) = 44
  rw [if_pos (by omega)]
theorem want_last {pl : List (Str × Int)} {s : Str} {n : Int} {qs : List Tm} (hn : lookS pl s = some n) (h : n ≤ ((qs.length + 1 : Nat) : Int)) : wantS pl (s, qs) = 41 := by
  unfold wantS
  rw [hn]
  show (if 0 < n - (1 + (qs.length : Int)) then 44 else 41) = 41
  rw [if_neg (by omega)]
def GoRt (pl : List (Str × Int)) (rt : List Nat → Nat → RR Tm) (f : Nat) : Prop := ∀ (l : List Nat) (k : Nat) (F : List (Str × List Tm)), l.count 40 < f →
  (∀ w, rt l k = .bad w → goS pl ⟨"", F, none⟩ l k = (none, w)) ∧ ∀ t l' k', rt l k = .good t l' k' → (∃ S', S'.frames = F ∧ ClsS pl S' t l' ∧ goS pl ⟨"", F, none⟩ l k = goS pl S' l' k') ∧ ∃ m, l' = l.drop m
/-- the parts behind the first one -/
theorem parts_go {pl : List (Str × Int)} {rt : List Nat → Nat → RR Tm} {f : Nat} (hrt : GoRt pl rt f) {s : Str} {n : Int} (hn : lookS pl s = some n) {F : List (Str × List Tm)} : ∀ (m : Nat) (qs : List Tm) (t : Tm) (l : List Nat) (k : Nat) (S : RdS), ((qs.length + 1 + m : Nat) : Int) = n → S.frames = F ++ [(s, qs)] → ClsS pl S t l → l.count 40 < f →
    (∀ w, rdParts rt m 44 (qs ++ [t]) l k = .bad w → goS pl S l k = (none, w)) ∧ ∀ rs l' k', rdParts rt m 44 (qs ++ [t]) l k = .good rs l' k' → (∃ S' qs' t', rs = qs' ++ [t'] ∧ ((qs'.length + 1 : Nat) : Int) = n ∧ S'.frames = F ++ [(s, qs')] ∧ ClsS pl S' t' l' ∧ goS pl S l k = goS pl S' l' k') ∧ ∃ j, l' = l.drop j
  | 0, qs, t, l, k, S, hm, hF, hC, hc => by
    rw [rdParts]
    refine ⟨(fun w e => by cases e), fun rs l' k' e => ?_⟩
    cases e
    exact ⟨⟨S, qs, t, rfl, hm, hF, hC, rfl⟩, 0, rfl⟩
  | m + 1, qs, t, [], k, S, hm, hF, hC, hc => by
    rw [rdParts]
    refine ⟨fun w e => ?_, (fun rs l' k' e => by cases e)⟩
    cases e
    show (finS pl S, k + 1) = _
    unfold finS
    rw [hF, if_neg (by rw [List.length_append]; show ¬ _ + 1 = 0; omega)]
  | m + 1, qs, t, c :: l, k, S, hm, hF, hC, hc => by
    have hw : wantS pl (s, qs) = 44 := want_more hn (by omega)
    have hs := hC.end_ rfl hF
    rw [hw] at hs
    rw [rdParts]
    by_cases h4 : c = 44
    · rw [if_pos h4] at hs ⊢
      rw [if_neg (by omega)] at hs
      rw [go_some hs]
      have cc : l.count 40 < f := by
        rw [List.count_cons] at hc
        omega
      obtain ⟨a, b⟩ := hrt l (k + 1) (F ++ [(s, qs ++ [t])]) cc
      cases e : rt l (k + 1) with
      | bad w =>
        refine ⟨fun x y => ?_, (fun rs l' k' y => by cases y)⟩
        cases y
        exact a w e
      | good t2 l2 k2 =>
        obtain ⟨⟨S2, f2, c2, g2⟩, j, hj⟩ := b t2 l2 k2 e
        have cc2 : l2.count 40 < f := by
          have := (List.drop_sublist j l).count_le 40
          rw [← hj] at this
          omega
        obtain ⟨x, y⟩ := parts_go hrt hn m (qs ++ [t]) t2 l2 k2 S2 (by rw [List.length_append]; show ((qs.length + 1 + 1 + m : Nat) : Int) = n; omega) f2 c2 cc2
        rw [g2]
        refine ⟨x, fun rs l' k' z => ?_⟩
        obtain ⟨z1, i, hi⟩ := y rs l' k' z
        exact ⟨z1, 1 + (j + i), by rw [hi, hj, List.drop_drop, Nat.add_comm 1, List.drop_succ_cons]⟩
    · rw [if_neg h4] at hs ⊢
      refine ⟨fun w e => ?_, (fun rs l' k' e => by cases e)⟩
      cases e
      exact go_none hs
theorem term_go {pl : List (Str × Int)} (ok : PlOk pl) : ∀ f : Nat, GoRt pl (rdTerm pl f) f
  | 0 => fun l k F h => absurd h (by omega)
  | f + 1 => fun l k F hc => by
    have ih := term_go ok f
    obtain ⟨wa, wb⟩ := word_go (pl := pl) (F := F) l "" k
    have wl : ∀ (l : List Nat) (w : Str) (k : Nat) s l1 k1, rdWord pl w l k = .good s l1 k1 → ∃ j, l1 = l.drop j := by
      intro l
      induction l with
      | nil =>
        intro w k s l1 k1 e
        rw [rdWord] at e
        split at e
        · cases e
          exact ⟨0, rfl⟩
        · cases e
      | cons c l ihl =>
        intro w k s l1 k1 e
        rw [rdWord] at e
        split at e
        · split at e
          · obtain ⟨j, hj⟩ := ihl _ _ _ _ _ e
            exact ⟨j + 1, by rw [hj]; rfl⟩
          · cases e
        · split at e
          · cases e
            exact ⟨0, rfl⟩
          · cases e
    rw [rdTerm]
    cases ew : rdWord pl "" l k with
    | bad w =>
      refine ⟨fun x y => ?_, (fun t l' k' y => by cases y)⟩
      cases y
      exact wa w ew
    | good s l1 k1 =>
      obtain ⟨g1, nl, hs⟩ := wb s l1 k1 ew
      obtain ⟨j1, hj1⟩ := wl _ _ _ _ _ _ ew
      obtain ⟨n, hn⟩ := Option.isSome_iff_exists.mp hs
      have npos := ok.pos s n hn
      have c1 : l1.count 40 < f + 1 := by
        have := (List.drop_sublist j1 l).count_le 40
        rw [← hj1] at this
        omega
      rw [g1]
      have en : (lookS pl s).getD 0 = n := by rw [hn]; rfl
      dsimp only
      rw [en]
      -- without places
      by_cases h0 : n = 0
      · subst h0
        show (∀ w, (rdEnd s 0 [] l1 k1) = .bad w → _) ∧ ∀ t l' k', (rdEnd s 0 [] l1 k1) = .good t l' k' → _
        have eE : rdEnd s 0 [] l1 k1 = .good (.mk s []) l1 k1 := by cases l1 <;> rfl
        rw [eE]
        refine ⟨(fun w e => by cases e), fun t l' k' e => ?_⟩
        cases e
        refine ⟨⟨⟨s, F, none⟩, rfl, ⟨?_, fun c r e hc => absurd hc (nl c r e), ?_⟩, rfl⟩, j1, hj1⟩
        · unfold hereS
          rw [hn, if_pos rfl]
        · unfold braS
          rw [hn]
          rfl
      · obtain ⟨m, hm⟩ : ∃ m : Nat, n.toNat = m + 1 := ⟨n.toNat - 1, by omega⟩
        rw [hm]
        cases l1 with
        | nil =>
          rw [rdParts]
          refine ⟨fun x y => ?_, (fun t l' k' y => by cases y)⟩
          cases y
          show (finS pl _, k1 + 1) = (none, k1 + 1)
          unfold finS hereS
          rw [hn, if_neg (fun z => h0 (Option.some.inj z))]
          split <;> rfl
        | cons c l1 =>
          have hcl := nl c l1 rfl
          rw [rdParts]
          by_cases h4 : c = 40
          · rw [if_pos h4]
            subst h4
            have c2 : l1.count 40 < f := by
              rw [List.count_cons_self] at c1
              omega
            have hst : stepS pl ⟨s, F, none⟩ 40 = some ⟨"", F ++ [(s, [])], none⟩ := by
              unfold stepS braS
              rw [if_neg hcl, if_pos rfl, hn, show (some n).getD 0 = n from rfl, if_neg h0]
            rw [go_some hst]
            obtain ⟨a, b⟩ := ih l1 (k1 + 1) (F ++ [(s, [])]) c2
            cases e : rdTerm pl f l1 (k1 + 1) with
            | bad w =>
              refine ⟨fun x y => ?_, (fun t l' k' y => by cases y)⟩
              cases y
              exact a w e
            | good t l2 k2 =>
              obtain ⟨⟨S2, f2, cl2, g2⟩, j2, hj2⟩ := b t l2 k2 e
              have c3 : l2.count 40 < f := by
                have := (List.drop_sublist j2 l1).count_le 40
                rw [← hj2] at this
                omega
              rw [g2]
              obtain ⟨x, y⟩ := parts_go ih hn (F := F) m [] t l2 k2 S2 (by show ((0 + 1 + m : Nat) : Int) = n; omega) f2 cl2 c3
              dsimp only
              rw [List.nil_append] at x y ⊢
              cases e2 : rdParts (rdTerm pl f) m 44 [t] l2 k2 with
              | bad w =>
                refine ⟨fun x2 y2 => ?_, (fun t l' k' y => by cases y)⟩
                cases y2
                exact x w e2
              | good rs l3 k3 =>
                obtain ⟨⟨S3, qs, t3, ers, hl3, f3, cl3, g3⟩, j3, hj3⟩ := y rs l3 k3 e2
                rw [g3]
                have hw : wantS pl (s, qs) = 41 := want_last hn (by omega)
                dsimp only
                cases l3 with
                | nil =>
                  rw [rdEnd, if_neg (by omega)]
                  refine ⟨fun x y => ?_, (fun t l' k' y => by cases y)⟩
                  cases y
                  show (finS pl S3, k3 + 1) = (none, k3 + 1)
                  unfold finS
                  rw [f3, if_neg (by rw [List.length_append]; show ¬ _ + 1 = 0; omega)]
                | cons d l3 =>
                  have hs3 := cl3.end_ rfl f3
                  rw [hw] at hs3
                  rw [rdEnd, if_neg (by omega)]
                  by_cases h41 : d = 41
                  · rw [if_pos h41] at hs3 ⊢
                    rw [if_pos h41] at hs3
                    rw [go_some hs3]
                    refine ⟨(fun w e => by cases e), fun t' l' k' e => ?_⟩
                    cases e
                    subst ers
                    refine ⟨⟨⟨"", F, some (.mk s (qs ++ [t3]))⟩, rfl, ⟨?_, fun c r e hc => ?_, ?_⟩, rfl⟩, j1 + (1 + (j2 + (j3 + 1))), ?_⟩
                    · unfold hereS
                      rw [if_neg (by rw [show lookS pl ("" : Str) = none from ok.ne]; exact fun z => nomatch z)]
                    · unfold stepS letS
                      rw [if_pos hc, if_pos (.inl rfl)]
                    · unfold braS
                      rw [show lookS pl ("" : Str) = none from ok.ne]
                      rfl
                    · have a1 : l1 = l.drop (j1 + 1) := by rw [← List.drop_drop, ← hj1]; rfl
                      have a2 : l3 = l2.drop (j3 + 1) := by rw [← List.drop_drop, ← hj3]; rfl
                      rw [a2, hj2, a1, List.drop_drop, List.drop_drop]
                      congr 1
                      omega
                  · rw [if_neg h41] at hs3 ⊢
                    refine ⟨fun w e => ?_, (fun t l' k' e => by cases e)⟩
                    cases e
                    exact go_none hs3
          · rw [if_neg h4]
            refine ⟨fun x y => ?_, (fun t l' k' y => by cases y)⟩
            cases y
            refine go_none ?_
            unfold stepS
            rw [if_neg hcl, if_neg h4]
            unfold endS hereS
            rw [hn, if_neg (fun z => h0 (Option.some.inj z))]
/-- what the law reads: a term, or the wrong place -/
def readL (pl : List (Str × Int)) (f : Nat) (z : Str) : Tm ⊕ Nat := match rdTerm pl f z.cps.toList 0 with
  | .bad w => .inr w
  | .good t l k => if l = [] then .inl t else .inr (k + 1)
theorem read_parse {pl : List (Str × Int)} (ok : PlOk pl) {f : Nat} {z : Str} (h : z.cps.toList.count 40 < f) : (∀ t, readL pl f z = .inl t → (parseS pl z).1 = some t) ∧ ∀ w, readL pl f z = .inr w → parseS pl z = (none, w) := by
  obtain ⟨a, b⟩ := term_go ok f z.cps.toList 0 [] h
  unfold readL parseS
  cases e : rdTerm pl f z.cps.toList 0 with
  | bad w =>
    refine ⟨(fun t y => by cases y), fun x y => ?_⟩
    cases y
    exact a w e
  | good t l k =>
    obtain ⟨⟨S, fS, cS, g⟩, _⟩ := b t l k e
    rw [g]
    dsimp only
    cases l with
    | nil =>
      rw [if_pos rfl]
      refine ⟨fun x y => ?_, (fun w y => by cases y)⟩
      cases y
      show finS pl S = some t
      unfold finS
      rw [fS]
      exact (if_pos rfl).trans cS.here
    | cons c r =>
      rw [if_neg (fun z => by cases z)]
      refine ⟨(fun t y => by cases y), fun w y => ?_⟩
      cases y
      refine go_none ?_
      rw [cS.step rfl]
      split
      · rfl
      · unfold endS
        rw [cS.here, fS]
        rfl

end NB

namespace NB
open PySem PySem.Spec PyProof.Rows L2 LamX
/-! parts of texts -/
theorem cut_mid {z : Str} {a b : Nat} (h : a ≤ b) (hb : b ≤ z.length) : cutS z (some (a : Int)) (some (b : Int)) = ⟨((z.cps.toList.drop a).take (b - a)).toArray⟩ := by
  unfold cutS
  rw [HT.sIx_nat, HT.sIx_nat, Nat.min_eq_left hb, Nat.min_eq_left (Nat.le_trans h hb)]
theorem cut_head (z : Str) (b : Nat) : cutS z none (some (b : Int)) = ⟨(z.cps.toList.take (min b z.length)).toArray⟩ := by
  unfold cutS
  rw [HT.sIx_nat, HT.sIx_none, List.drop_zero, Nat.sub_zero]
theorem cut_head_len (z : Str) (b : Nat) : (cutS z none (some (b : Int))).length = min b z.length := by
  rw [cut_head]
  show ((z.cps.toList.take (min b z.length)).toArray).size = _
  rw [List.size_toArray, List.length_take, Array.length_toList]
  show min (min b z.length) z.length = _
  omega
theorem cut_mid_len {z : Str} {a b : Nat} (h : a ≤ b) (hb : b ≤ z.length) : (cutS z (some (a : Int)) (some (b : Int))).length = b - a := by
  rw [cut_mid h hb]
  show (((z.cps.toList.drop a).take (b - a)).toArray).size = _
  rw [List.size_toArray, List.length_take, List.length_drop, Array.length_toList]
  show min (b - a) (z.length - a) = _
  omega
theorem cut_nil {z : Str} {a : Nat} (ha : a ≤ z.length) : cutS z (some (a : Int)) (some (a : Int)) = "" := by
  rw [cut_mid (Nat.le_refl a) ha, Nat.sub_self, List.take_zero]
  rfl
theorem cut_snoc {z : Str} {a b c : Nat} (h : a ≤ b) (hc : z.cps.toList[b]? = some c) : cutS z (some (a : Int)) (some ((b + 1 : Nat) : Int)) = cutS z (some (a : Int)) (some (b : Int)) ++ one1 c := by
  have hb : b < z.length := by
    have := (List.getElem?_eq_some_iff.mp hc).1
    rw [Array.length_toList] at this
    exact this
  rw [cut_mid (by omega) (by omega), cut_mid h (by omega)]
  have e : (z.cps.toList.drop a).take (b + 1 - a) = (z.cps.toList.drop a).take (b - a) ++ [c] := by
    rw [show b + 1 - a = (b - a) + 1 by omega]
    refine take_snoc ?_
    rw [List.getElem?_drop, show a + (b - a) = b by omega]
    exact hc
  rw [e]
  show (⟨_⟩ : Str) = ⟨_ ++ #[c]⟩
  congr 1
  simp
/-- a name begins with a word -/
theorem head_iff {pl : List (Str × Int)} {ns : List Str} (hm : ∀ z, z ∈ ns ↔ z ∈ pl.map (·.1)) {w : Str} {k : Nat} (hw : w.length = k) (hk : 1 ≤ k) : (∃ x ∈ ns, cutS x none (some (k : Int)) = w) ↔ isHead pl w = true := by
  unfold isHead
  rw [List.any_eq_true]
  constructor
  · rintro ⟨x, mx, e⟩
    obtain ⟨p, mp, rfl⟩ := List.mem_map.mp ((hm x).mp mx)
    have hl := cut_head_len p.1 k
    rw [e, hw] at hl
    refine ⟨p, mp, List.any_eq_true.mpr ⟨k - 1, List.mem_range.mpr (by omega), decide_eq_true ?_⟩⟩
    rw [show k - 1 + 1 = k by omega]
    exact e
  · rintro ⟨p, mp, h⟩
    obtain ⟨n, mn, e⟩ := List.any_eq_true.mp h
    have e := of_decide_eq_true e
    have mn := List.mem_range.mp mn
    have hl := cut_head_len p.1 (n + 1)
    rw [e, hw] at hl
    refine ⟨p.1, (hm _).mpr (List.mem_map.mpr ⟨p, mp, rfl⟩), ?_⟩
    rw [show k = n + 1 by omega]
    exact e
theorem nm_mem {H : Hp} {pd : Addr} {pl : List (Str × Int)} (h : NmAt H pd pl) : ∃ (kvp : List (Key × V)) (ns : List Str), H pd = some (.dK kvp) ∧ (∀ s : Str, valV kvp (Sum.inr s) = (lookS pl s).map V.int) ∧ kvp.map (·.1) = ns.map (Sum.inr : Str → Key) ∧ ns.length ≤ 1000 ∧ (∀ z ∈ ns, z.length ≤ 1000) ∧ ∀ z, z ∈ ns ↔ z ∈ pl.map (·.1) := by
  obtain ⟨kvp, ns, h1, hv, hkn, h3, h4⟩ := h
  refine ⟨kvp, ns, h1, hv, hkn, h3, h4, fun z => ?_⟩
  rw [← lookS_some, ← Option.isSome_map (f := V.int), ← hv z, valV_some, hkn, List.mem_map]
  exact ⟨fun m => ⟨z, m, rfl⟩, fun ⟨y, m, e⟩ => by rw [← Sum.inr.inj e]; exact m⟩
theorem NmAt.same {H H' : Hp} {pd : Addr} {pl : List (Str × Int)} (h : NmAt H pd pl) (s : Same H H') : NmAt H' pd pl := by
  obtain ⟨kvp, ns, h1, h2⟩ := h
  exact ⟨kvp, ns, s _ _ h1, h2⟩
theorem same_lst {H H' : Hp} {D : Addr} {o : HO} (e : Same H H') (n : H D = none) : Same H (L2.upd H' D o) := fun b u z => by
  rw [upd_ne (ne_of_none z n)]
  exact e b u z
/-- one letter, or none -/
theorem cut_one {z : Str} {e : Nat} (h : e ≤ z.length) : cutS z (some (e : Int)) (some ((e : Int) + 1)) = match z.cps.toList[e]? with | some c => one1 c | none => "" := by
  have e1 : ((e : Int) + 1) = ((e + 1 : Nat) : Int) := by omega
  rw [e1]
  cases hc : z.cps.toList[e]? with
  | some c =>
    have hl : e < z.length := by
      have := (List.getElem?_eq_some_iff.mp hc).1
      rw [Array.length_toList] at this
      exact this
    rw [cut_snoc (Nat.le_refl e) hc, cut_nil h]
    exact wordS _
  | none =>
    have hl : z.length ≤ e := by
      have := List.getElem?_eq_none_iff.mp hc
      rw [Array.length_toList] at this
      exact this
    unfold cutS
    rw [HT.sIx_nat, HT.sIx_nat, Nat.min_eq_left h, Nat.min_eq_right (by omega), List.drop_of_length_le (by rw [Array.length_toList]; exact hl), List.take_nil]
    rfl
theorem one_eq (x y : Nat) : V.str (one1 x) = V.str (one1 y) ↔ x = y := ⟨fun z => by
  injection z with z
  unfold one1 at z
  injection z with z
  have z := congrArg Array.toList z
  injection z, fun z => by rw [z]⟩
theorem cut_is {z : Str} {e d : Nat} (h : e ≤ z.length) : decide (V.str (cutS z (some (e : Int)) (some ((e : Int) + 1))) = V.str (one1 d)) = decide (z.cps.toList[e]? = some d) := by
  rw [cut_one h]
  cases z.cps.toList[e]? with
  | some c => exact decide_eq_decide.mpr ((one_eq c d).trans ⟨fun x => by rw [x], fun x => Option.some.inj x⟩)
  | none =>
    refine (decide_eq_false fun x => ?_).trans (decide_eq_false fun x => nomatch x).symm
    injection x with x
    have := congrArg (fun s : Str => s.length) x
    exact absurd (show (0 : Nat) = 1 from this) (by decide)

end NB

namespace NB
open PySem PySem.Spec PyProof.Rows L2 LamX
/-! ### _law_word_at -/
theorem sc__law_word_at : FnScope ["_law_names", "_law_text_here", "_law_at", "_law_end", "_law_name"] ["_law_names", "_law_text_here", "_law_at"] (defScope s__law_word_at) := ⟨rfl, rfl, rfl, by decide +kernel, rfl, by decide +kernel, by decide +kernel⟩
def WdAt (K : PySem.W.Frag) (H : Hp) (t : Addr) : RR Str → Prop
  | .bad w => SqT K H t [.non, .non, .int (w : Int)]
  | .good s _ k => SqT K H t [.int (k : Int), .str s, .non]
def sp__law_word_at (K : PySem.W.Frag) : Sp := fun vs H Q _ => ∃ pd pl z, ∃ a : Nat, vs = [.ref pd, .str z, .int (a : Int)] ∧ NmAt H pd pl ∧ z.length ≤ 100000 ∧ a ≤ z.length ∧
  ∀ H' t, Same H H' → WdAt K H' t (rdWord pl "" (z.cps.toList.drop a) a) → Q (.ref t) H'
theorem ok__law_word_at {P : Program} {w : World} {K : PySem.W.Frag} {mg : Str → Option Value} {base : Heap} (T : Tx K mg)  : FnOk P w K mg base CX0 1 T.a__law_word_at T.d__law_word_at ["_law_names", "_law_text_here", "_law_at"] (sp__law_word_at K) := by
  refine T.F__law_word_at.ok sc__law_word_at (fun vs H Q E h => ?_) (fun cdv A outer s H vs Q E hr h => ?_)
  · obtain ⟨pd, pl, z, a, rfl, _⟩ := h
    rfl
  · obtain ⟨pd, pl, z, a, rfl, hp, hz, ha, k⟩ := h
    have hu := hu_of hr
    have hzl : sizeLine = 16777216 := rfl
    refine ⟨_, (pss_cons (ps_set (i := 3) sc__law_word_at.nd rfl (by first | exact Or.inl rfl | exact Or.inr rfl) (pv 2)) (pss_cons (ps_while PassesOwn.never (PW.pt (pw_and (pt_cmpR op_lt (pv 3) (pe_callB call_len_str (by rfl) T.z_len (by decide +kernel) (pa_cons (pv 1) pa_nil)) (nomark _)) (pw_and1 (pt_cmpR op_in_sign (pe_ix ix_str (pv 1) (pv 3) (fun _ _ => rfl)) pe_str (by rfl))))) (pss_cons (ps_set (i := 3) sc__law_word_at.nd rfl (by first | exact Or.inl rfl | exact Or.inr rfl) (pe_op op_add (pv 3) pe_int)) (pss_one (ps_if (pt_cmpR op_eq (pe_callB call_len_seq (by rfl) T.z_len (by decide +kernel) (pa_cons (pe_lock (pe_lc (own := [("_law_name", 4)]) rfl sc__law_word_at.nd (pi_keys (pv 0)) (blkOk_by (own := [("_law_name", 4)]) (N := ["_law_names", "_law_text_here", "_law_at", "_law_end", "_law_name"]) (sc := defScope s__law_word_at) (by decide +kernel)) (fun _ _ _ _ _ => (pg_name (i := 4) sc__law_word_at.nd rfl (by first | exact Or.inl rfl | exact Or.inr rfl))) (fun _ _ _ _ _ => (pts_one (pt_cmpR op_eq (pe_slice sl_str (pv 4) po_none (po_some (pe_op op_sub (pv 3) (pv 2)))) (pe_slice sl_str (pv 1) (po_some (pv 2)) (po_some (pv 3))) (nomark _)))) (fun _ _ _ _ _ => (pv 4)))) pa_nil)) pe_int (nomark _)) (pss_one (ps_ret (pe_tup (pa_cons pe_non (pa_cons pe_non (pa_cons (pv 3) pa_nil)))))) pss_nil)))) (pss_cons (ps_if (pt_cmp (pc_dnotin hu (pe_slice sl_str (pv 1) (po_some (pv 2)) (po_some (pv 3))) (pv 0)) (by rfl)) (pss_one (ps_ret (pe_tup (pa_cons pe_non (pa_cons pe_non (pa_cons (pe_op op_add (pv 3) pe_int) pa_nil)))))) pss_nil) (pss_one (ps_ret (pe_tup (pa_cons (pv 3) (pa_cons (pe_slice sl_str (pv 1) (po_some (pv 2)) (po_some (pv 3))) (pa_cons pe_non pa_nil))))))))), ?_⟩
    obtain ⟨kvp, ns, hpd, hv, hkn, hnl, hnz, hmem⟩ := nm_mem hp
    refine seq_asg ?_
    refine ⟨_, rfl, ?_⟩
    dsimp only [gName]
    show tSeq _ _ _ [some (.ref pd), some (.str z), some (.int (a : Int)), some (.int (a : Int)), none] _
    refine seq_open (fun σ' G => ∃ b : Nat, σ' = [some (.ref pd), some (.str z), some (.int (a : Int)), some (.int (b : Int)), none] ∧ Same H G ∧ a ≤ b ∧ b ≤ z.length ∧ rdWord pl "" (z.cps.toList.drop a) a = if (lookS pl (cutS z (some (a : Int)) (some (b : Int)))).isSome = true then .good (cutS z (some (a : Int)) (some (b : Int))) (z.cps.toList.drop b) b else .bad (b + 1)) (fun NX hNX => ?_) (fun σ' G h => ?_)
    · refine ⟨fun m σ G => ∃ b : Nat, σ = [some (.ref pd), some (.str z), some (.int (a : Int)), some (.int (b : Int)), none] ∧ Same H G ∧ a ≤ b ∧ b ≤ z.length ∧ m = z.length - b ∧ rdWord pl "" (z.cps.toList.drop a) a = rdWord pl (cutS z (some (a : Int)) (some (b : Int))) (z.cps.toList.drop b) b, ⟨_, a, rfl, Same.refl H, Nat.le_refl _, ha, rfl, by rw [cut_nil ha]⟩, ?_⟩
      rintro m σ G ⟨b, rfl, sG, hab, hbz, rfl, eR⟩
      refine ⟨_, rfl, _, rfl, z, rfl, by omega, _, _, rfl, rfl, _, rfl, ?_⟩
      by_cases hb : b < z.length
      · rw [decide_eq_true (show (b : Int) < (z.length : Int) by omega)]
        refine ifT ?_
        have hbl : b < z.cps.toList.length := by rw [Array.length_toList]; exact hb
        have hcb : z.cps.toList[b]? = some z.cps.toList[b] := List.getElem?_eq_getElem hbl
        have hdr : z.cps.toList.drop b = z.cps.toList[b] :: z.cps.toList.drop (b + 1) := List.drop_eq_getElem_cons hbl
        generalize z.cps.toList[b] = c at hcb hdr
        rw [hdr, rdWord] at eR
        refine ⟨_, rfl, _, rfl, z, _, c, rfl, rfl, by omega, atI_nat hcb, c, _, rfl, rfl, _, rfl, ?_⟩
        by_cases hc : c ∈ letL
        · rw [if_pos hc] at eR
          rw [show decide (c ∈ (("abcdefghijklmnopqrstuvwxyz" : Str)).cps.toList) = true from decide_eq_true hc]
          refine ifT ⟨fun σ G => σ = [some (.ref pd), some (.str z), some (.int (a : Int)), some (.int ((b : Int) + 1)), none] ∧ Same H G ∧ rdWord pl "" (z.cps.toList.drop a) a = rdWord pl (cutS z (some (a : Int)) (some ((b + 1 : Nat) : Int))) (z.cps.toList.drop (b + 1)) (b + 1), fun σ' G' w => ?_, ?_⟩
          · obtain ⟨e1, e2, e3⟩ := w
            exact ⟨z.length - (b + 1), by omega, b + 1, by rw [e1]; rfl, e2, by omega, by omega, rfl, e3⟩
          have hsn := cut_snoc hab hcb
          have hlw := cut_mid_len (z := z) (a := a) (b := b + 1) (by omega) (by omega)
          rw [← hsn] at eR
          have hpd2 := sG _ _ hpd
          refine seq_asg ?_
          refine ⟨_, rfl, _, _, rfl, rfl, ?_⟩
          dsimp only [gName]
          show tIfS _ _ _ _ [some (.ref pd), some (.str z), some (.int (a : Int)), some (.int ((b : Int) + 1)), none] _
          refine ⟨pd, _, hpd2, True.intro, fun od => ?_⟩
          refine ⟨_, rfl, pd, od, rfl, .inl ⟨kvp, upd_same, fun E nE => ?_⟩⟩
          have lk : kvp.length = ns.length := by
            have := congrArg List.length hkn
            rw [List.length_map, List.length_map] at this
            exact this
          obtain ⟨fP, efP⟩ : ∃ fP : Str → Bool, fP = fun x => decide (V.str (cutS x none (some ((b : Int) + 1 - (a : Int)))) = V.str (cutS z (some (a : Int)) (some ((b : Int) + 1)))) := ⟨_, rfl⟩
          refine lc_it (walk_keys (d := pd) (o := od) (kvs := kvp)) (fun i G2 => Same (upd G pd (.frz od (.dK kvp))) G2 ∧ G2 E = some (.lst (((ns.take i).filter fP).map V.str)))
            ⟨same_new nE, upd_same⟩ (fun i G2 _ q => q.1 _ _ upd_same) (fun i x G2 G3 hi q y => ?_) (fun G2 q => ?_)
          · obtain ⟨s2, hE⟩ := q
            obtain ⟨rfl, ky, vy, hy, rfl⟩ := y
            have hin : i < ns.length := by omega
            obtain ⟨x, hx⟩ : ∃ x, ns[i]? = some x := ⟨_, List.getElem?_eq_getElem hin⟩
            have hky : ky = Sum.inr x := by
              have : (kvp.map (·.1))[i]? = (ns.map (Sum.inr : Str → Key))[i]? := by rw [hkn]
              rw [List.getElem?_map, List.getElem?_map, hy, hx] at this
              exact Option.some.inj this
            subst hky
            have hxl := hnz x (List.mem_of_getElem? hx)
            refine ⟨rfl, _, rfl, ?_⟩
            dsimp only [tNoPart]
            refine ⟨_, rfl, _, rfl, _, _, rfl, rfl, _, rfl, x, rfl, by omega, _, rfl, _, rfl, _, rfl, _, rfl, _, rfl, z, rfl, by omega, rfl, _, rfl, ?_⟩
            have eT := take_snoc hx
            have efx : fP x = decide (V.str (cutS x none (some ((b : Int) + 1 - (a : Int)))) = V.str (cutS z (some (a : Int)) (some ((b : Int) + 1)))) := by rw [efP]
            rw [← efx]
            by_cases hf : fP x = true
            · rw [if_pos hf]
              refine ⟨_, rfl, _, hE, ?_, same_lst s2 nE, ?_⟩
              · rw [List.length_map]
                have h1 := List.length_filter_le fP (ns.take i)
                rw [List.length_take] at h1
                omega
              · rw [upd_same, eT, List.filter_append, List.map_append]
                simp only [List.filter_cons, hf, if_true, List.filter_nil]
                rfl
            · rw [if_neg hf]
              refine ⟨s2, ?_⟩
              rw [eT, List.filter_append, List.map_append]
              simp only [List.filter_cons, hf, List.filter_nil]
              simp
              exact hE
          · obtain ⟨s2, hE⟩ := q
            rw [lk, List.take_length] at hE
            have s3 := same_lk hpd2 s2
            have nEp : E ≠ pd := fun y => by rw [y, upd_same] at nE; cases nE
            have hE3 : upd G2 pd (.dK kvp) E = some (.lst ((ns.filter fP).map V.str)) := by rw [upd_ne nEp]; exact hE
            refine ⟨s2 _ _ upd_same, ?_⟩
            refine ⟨E, _, rfl, .inl (.inl (.inl hE3)), rfl, _, rfl, ?_⟩
            rw [List.length_map]
            have hk1 : ((b : Int) + 1 - (a : Int)) = ((b + 1 - a : Nat) : Int) := by omega
            have hh : ((ns.filter fP).length = 0) ↔ isHead pl (cutS z (some (a : Int)) (some ((b + 1 : Nat) : Int))) = false := by
              have hi := head_iff hmem (w := cutS z (some (a : Int)) (some ((b + 1 : Nat) : Int))) hlw (by omega)
              rw [List.length_eq_zero_iff, List.filter_eq_nil_iff]
              constructor
              · intro h
                cases e : isHead pl (cutS z (some (a : Int)) (some ((b + 1 : Nat) : Int))) with
                | false => rfl
                | true =>
                  obtain ⟨x, mx, ex⟩ := hi.mpr e
                  refine absurd ?_ (h x mx)
                  rw [efP]
                  exact decide_eq_true (by rw [hk1, ex]; rfl)
              · intro h x mx hx
                rw [efP] at hx
                have hx := of_decide_eq_true hx
                injection hx with hx
                rw [hk1] at hx
                have := hi.mp ⟨x, mx, hx⟩
                rw [h] at this
                cases this
            cases hd : isHead pl (cutS z (some (a : Int)) (some ((b + 1 : Nat) : Int))) with
            | false =>
              rw [hd, if_neg (by decide)] at eR
              have h0 := hh.mpr hd
              rw [h0, show decide (V.int ((0 : Nat) : Int) = V.int 0) = true from decide_eq_true rfl]
              refine ifT ?_
              refine ⟨_, rfl, (by show 3 ≤ sizeLine; decide), fun t nt => ?_⟩
              have st := same_new (o := .tup [V.non, V.non, V.int ((b : Int) + 1)]) nt
              refine k _ t ((sG.trans s3).trans st) ?_
              rw [eR]
              exact .inl (.inl upd_same)
            | true =>
              rw [hd, if_pos rfl] at eR
              rw [show decide (V.int (((ns.filter fP).length : Nat) : Int) = V.int 0) = false from decide_eq_false fun y => by
                injection y with y
                have := hh.mp (by omega)
                rw [hd] at this
                cases this]
              exact ifN (by decide) ⟨rfl, sG.trans s3, eR⟩
        · rw [if_neg hc] at eR
          rw [show decide (c ∈ (("abcdefghijklmnopqrstuvwxyz" : Str)).cps.toList) = false from decide_eq_false hc]
          refine hNX _ _ ⟨b, rfl, sG, hab, hbz, ?_⟩
          rw [eR, hdr]
      · rw [decide_eq_false (show ¬ (b : Int) < (z.length : Int) by omega)]
        have e0 : z.cps.toList.drop b = [] := List.drop_of_length_le (by rw [Array.length_toList]; show z.length ≤ b; omega)
        refine ifN (by decide) ?_
        rw [e0, rdWord] at eR
        refine hNX _ _ ⟨b, rfl, sG, hab, hbz, ?_⟩
        rw [eR, e0]
    · obtain ⟨b, rfl, sG, hab, hbz, eR⟩ := h
      have hpd2 := sG _ _ hpd
      have g := DGet.k (k := Sum.inr (cutS z (some (a : Int)) (some (b : Int)))) hpd2
      rw [hv] at g
      refine ⟨_, rfl, _, rfl, _, rfl, _, rfl, _, rfl, z, rfl, by omega, _, rfl, pd, _, rfl, g, ?_⟩
      rw [Option.isSome_map]
      cases hs : (lookS pl (cutS z (some (a : Int)) (some (b : Int)))).isSome with
      | false =>
        rw [hs, if_neg (by decide)] at eR
        refine ⟨_, rfl, ?_⟩
        refine ifT ?_
        refine ⟨_, rfl, _, _, rfl, rfl, (by show 3 ≤ sizeLine; decide), fun t nt => ?_⟩
        have st := same_new (o := .tup [V.non, V.non, V.int ((b : Int) + 1)]) nt
        refine k _ t (sG.trans st) ?_
        rw [eR]
        exact .inl (.inl upd_same)
      | true =>
        rw [hs, if_pos rfl] at eR
        refine ⟨_, rfl, ?_⟩
        refine ifN (by decide) ?_
        refine ⟨_, rfl, _, rfl, _, rfl, _, rfl, _, rfl, _, rfl, z, rfl, by omega, (by show 3 ≤ sizeLine; decide), fun t nt => ?_⟩
        have st := same_new (o := .tup [V.int (b : Int), V.str (cutS z (some (a : Int)) (some (b : Int))), V.non]) nt
        refine k _ t (sG.trans st) ?_
        rw [eR]
        exact .inl (.inl upd_same)

end NB

namespace NB
open PySem PySem.Spec PyProof.Rows L2 LamX
/-! ### _law_term_at -/
theorem sc__law_term_at : FnScope ["_law_names", "_law_text_here", "_law_at", "_law_end", "_law_sign", "_law_wrong", "_law_found", "_law_number", "_law_part"] ["_law_names", "_law_text_here", "_law_at"] (defScope s__law_term_at) := ⟨rfl, rfl, rfl, by decide +kernel, rfl, by decide +kernel, by decide +kernel⟩
theorem asgQ {te : TE} {g : TG} {D : Ends} {σ : L2.St} {H : Hp} (h : te σ H fun x H1 => g x σ H1 D.nx) : tAsg te g D σ H := h
theorem nxQ {D : Ends} {σ : L2.St} {H : Hp} (h : D.nx σ H) : tNext D σ H := h
def TmAt (K : PySem.W.Frag) (H : Hp) (t : Addr) : RR Tm → Prop
  | .bad w => SqT K H t [.non, .non, .int (w : Int)]
  | .good x _ k => ∃ u, SqT K H t [.int (k : Int), u, .non] ∧ Dp K H u (Tm.data x)
theorem word_suf {pl : List (Str × Int)} {L : List Nat} : ∀ (l : List Nat) (w : Str) (a : Nat) s l' k, l = L.drop a → a ≤ L.length → rdWord pl w l a = .good s l' k → l' = L.drop k ∧ a ≤ k ∧ k ≤ L.length
  | [], w, a, s, l', k, hl, ha, e => by
    rw [rdWord] at e
    split at e
    · cases e
      exact ⟨hl, Nat.le_refl _, ha⟩
    · cases e
  | c :: l, w, a, s, l', k, hl, ha, e => by
    have hlt : a < L.length := by
      have := congrArg List.length hl
      rw [List.length_cons, List.length_drop] at this
      omega
    have hl2 : l = L.drop (a + 1) := by
      rw [List.drop_eq_getElem_cons hlt] at hl
      injection hl
    rw [rdWord] at e
    split at e
    · split at e
      · obtain ⟨x, y, z⟩ := word_suf l _ (a + 1) s l' k hl2 hlt e
        exact ⟨x, by omega, z⟩
      · cases e
    · split at e
      · cases e
        exact ⟨hl, Nat.le_refl _, ha⟩
      · cases e
def SufRt (rt : List Nat → Nat → RR Tm) (L : List Nat) : Prop := ∀ a t l k, a ≤ L.length → rt (L.drop a) a = .good t l k → l = L.drop k ∧ a ≤ k ∧ k ≤ L.length
theorem parts_suf {rt : List Nat → Nat → RR Tm} {L : List Nat} (h : SufRt rt L) : ∀ (n d : Nat) (qs : List Tm) (a : Nat) rs l k, a ≤ L.length → rdParts rt n d qs (L.drop a) a = .good rs l k → l = L.drop k ∧ a ≤ k ∧ k ≤ L.length
  | 0, d, qs, a, rs, l, k, ha, e => by
    rw [rdParts] at e
    cases e
    exact ⟨rfl, Nat.le_refl _, ha⟩
  | n + 1, d, qs, a, rs, l, k, ha, e => by
    rcases Nat.lt_or_ge a L.length with hlt | hge
    · rw [List.drop_eq_getElem_cons hlt, rdParts] at e
      split at e
      · cases er : rt (L.drop (a + 1)) (a + 1) with
        | bad w =>
          rw [er] at e
          cases e
        | good t l2 k2 =>
          rw [er] at e
          obtain ⟨x, y, z⟩ := h (a + 1) t l2 k2 hlt er
          dsimp only at e
          rw [x] at e
          obtain ⟨x2, y2, z2⟩ := parts_suf h n 44 _ k2 rs l k z e
          exact ⟨x2, by omega, z2⟩
      · cases e
    · rw [List.drop_of_length_le hge, rdParts] at e
      cases e
theorem term_suf {pl : List (Str × Int)} {L : List Nat} : ∀ f : Nat, SufRt (rdTerm pl f) L
  | 0 => fun a t l k ha e => by
    rw [rdTerm] at e
    cases e
  | f + 1 => fun a t l k ha e => by
    rw [rdTerm] at e
    cases ew : rdWord pl "" (L.drop a) a with
    | bad w =>
      rw [ew] at e
      cases e
    | good s l1 k1 =>
      rw [ew] at e
      obtain ⟨x1, y1, z1⟩ := word_suf _ _ a s l1 k1 rfl ha ew
      dsimp only at e
      rw [x1] at e
      cases ep : rdParts (rdTerm pl f) ((lookS pl s).getD 0).toNat 40 [] (L.drop k1) k1 with
      | bad w =>
        rw [ep] at e
        cases e
      | good qs l2 k2 =>
        rw [ep] at e
        obtain ⟨x2, y2, z2⟩ := parts_suf (term_suf f) _ _ _ k1 qs l2 k2 z1 ep
        dsimp only at e
        cases l2 with
        | nil =>
          rw [rdEnd] at e
          split at e
          · cases e
            exact ⟨x2, by omega, z2⟩
          · cases e
        | cons c l2 =>
          rw [rdEnd] at e
          split at e
          · cases e
            exact ⟨x2, by omega, z2⟩
          · split at e
            · cases e
              have hlt : k2 < L.length := by
                have := congrArg List.length x2
                rw [List.length_cons, List.length_drop] at this
                omega
              rw [List.drop_eq_getElem_cons hlt] at x2
              injection x2 with _ x3
              exact ⟨x3, by omega, hlt⟩
            · cases e
def sp__law_term_at (K : PySem.W.Frag) (n : Nat) : Sp := fun vs H Q _ => ∃ pd pl z, ∃ a : Nat, vs = [.ref pd, .str z, .int (a : Int)] ∧ NmAt H pd pl ∧ PlOk pl ∧ (∀ s m, lookS pl s = some m → m ≤ 100) ∧ z.length ≤ 100000 ∧ a ≤ z.length ∧ (z.cps.toList.drop a).count 40 < n ∧
  ∀ H' t, Same H H' → TmAt K H' t (rdTerm pl n (z.cps.toList.drop a) a) → Q (.ref t) H'
theorem ok__law_term_at {P : Program} {w : World} {K : PySem.W.Frag} {mg : Str → Option Value} {base : Heap} (T : Tx K mg) : ∀ n : Nat, FnOk P w K mg base CX0 (n + 1) T.a__law_term_at T.d__law_term_at ["_law_names", "_law_text_here", "_law_at"] (sp__law_term_at K n)
  | 0 => FnOk.never fun vs H Q E ⟨pd, pl, z, a, _, _, _, _, _, _, h, _⟩ => absurd h (Nat.not_lt_zero _)
  | n + 1 => by
    have GAt := ok__law_term_at (P := P) (w := w) (base := base) T n
    refine T.F__law_term_at.ok (k := n + 1) sc__law_term_at (fun vs H Q E h => ?_) (fun cdv A outer s H vs Q E hr h => ?_)
    · obtain ⟨pd, pl, z, a, rfl, _⟩ := h
      rfl
    · obtain ⟨pd, pl, z, a, rfl, hp, ok, hpm, hz, ha, hcn, k⟩ := h
      have hu := hu_of hr
      have hzl : sizeLine = 16777216 := rfl
      refine ⟨_, (pss_cons (ps_asg (pe_call (ok__law_word_at T) (hr.mono (by first | decide | omega)) rfl T.m__law_word_at T.F__law_word_at.kp T.b__law_word_at .nil pass0 (pa_cons (pv 0) (pa_cons (pv 1) (pa_cons (pv 2) pa_nil)))) (pg_tup rfl (pgs_cons (pg_name (i := 3) sc__law_term_at.nd rfl (by first | exact Or.inl rfl | exact Or.inr rfl)) (pgs_cons (pg_name (i := 4) sc__law_term_at.nd rfl (by first | exact Or.inl rfl | exact Or.inr rfl)) (pgs_cons (pg_name (i := 5) sc__law_term_at.nd rfl (by first | exact Or.inl rfl | exact Or.inr rfl)) pgs_nil))))) (pss_cons (ps_if (pt_cmpR op_notN (pv 5) pe_non (nomark _)) (pss_one (ps_ret (pe_tup (pa_cons pe_non (pa_cons pe_non (pa_cons (pv 5) pa_nil)))))) pss_nil) (pss_cons (ps_set (i := 6) sc__law_term_at.nd rfl (by first | exact Or.inl rfl | exact Or.inr rfl) (pe_tup (pa_cons (pv 4) pa_nil))) (pss_cons (ps_for PassesOwn.never rfl (pi_range1 (by rfl) T.z_range (pa_cons (pe_dget hu (pv 0) (pv 4) (fun _ _ => rfl)) pa_nil)) (pg_name (i := 7) sc__law_term_at.nd rfl (by first | exact Or.inl rfl | exact Or.inr rfl)) (pss_cons (ps_if (pt_cmpR op_ne (pe_slice sl_str (pv 1) (po_some (pv 3)) (po_some (pe_op op_add (pv 3) pe_int))) (pe_ifExp (pt_cmpR op_eq (pv 7) pe_int (nomark _)) pe_str pe_str) (nomark _)) (pss_one (ps_ret (pe_tup (pa_cons pe_non (pa_cons pe_non (pa_cons (pe_op op_add (pv 3) pe_int) pa_nil)))))) pss_nil) (pss_cons (ps_asg (pe_call GAt (hr.mono (by first | decide | omega)) rfl T.m__law_term_at T.F__law_term_at.kp T.b__law_term_at .nil pass0 (pa_cons (pv 0) (pa_cons (pv 1) (pa_cons (pe_op op_add (pv 3) pe_int) pa_nil)))) (pg_tup rfl (pgs_cons (pg_name (i := 3) sc__law_term_at.nd rfl (by first | exact Or.inl rfl | exact Or.inr rfl)) (pgs_cons (pg_name (i := 8) sc__law_term_at.nd rfl (by first | exact Or.inl rfl | exact Or.inr rfl)) (pgs_cons (pg_name (i := 5) sc__law_term_at.nd rfl (by first | exact Or.inl rfl | exact Or.inr rfl)) pgs_nil))))) (pss_cons (ps_if (pt_cmpR op_notN (pv 5) pe_non (nomark _)) (pss_one (ps_ret (pe_tup (pa_cons pe_non (pa_cons pe_non (pa_cons (pv 5) pa_nil)))))) pss_nil) (pss_one (ps_set (i := 6) sc__law_term_at.nd rfl (by first | exact Or.inl rfl | exact Or.inr rfl) (pe_op op_catA (pv 6) (pe_tup (pa_cons (pv 8) pa_nil))))))))) (pss_cons (ps_if (pt_cmpR op_eq (pe_dget hu (pv 0) (pv 4) (fun _ _ => rfl)) pe_int (nomark _)) (pss_one (ps_ret (pe_tup (pa_cons (pv 3) (pa_cons (pv 6) (pa_cons pe_non pa_nil)))))) pss_nil) (pss_cons (ps_if (pt_cmpR op_ne (pe_slice sl_str (pv 1) (po_some (pv 3)) (po_some (pe_op op_add (pv 3) pe_int))) pe_str (nomark _)) (pss_one (ps_ret (pe_tup (pa_cons pe_non (pa_cons pe_non (pa_cons (pe_op op_add (pv 3) pe_int) pa_nil)))))) pss_nil) (pss_one (ps_ret (pe_tup (pa_cons (pe_op op_add (pv 3) pe_int) (pa_cons (pv 6) (pa_cons pe_non pa_nil)))))))))))), ?_⟩
      refine seq_asg ?_
      refine ⟨_, rfl, _, rfl, _, rfl, pd, pl, z, a, rfl, hp, hz, ha, fun H1 t1 s1 hw1 => ?_⟩
      rw [rdTerm] at k
      cases ew : rdWord pl "" (z.cps.toList.drop a) a with
      | bad w0 =>
        rw [ew] at hw1 k
        have hw1 : SqT K H1 t1 [.non, .non, .int (w0 : Int)] := hw1
        refine ⟨t1, _, rfl, hw1, rfl, _, _, rfl, _, _, rfl, _, _, rfl, rfl, ?_⟩
        refine ⟨_, rfl, rfl, _, rfl, ?_⟩
        rw [show decide (V.int (w0 : Int) = V.non) = false from decide_eq_false fun y => nomatch y]
        refine ifT ?_
        refine ⟨_, rfl, (by show 3 ≤ sizeLine; decide), fun t nt => ?_⟩
        have st := same_new (o := .tup [V.non, V.non, V.int (w0 : Int)]) nt
        exact k _ t (s1.trans st) (.inl (.inl upd_same))
      | good s l1 k1 =>
        rw [ew] at hw1 k
        have hw1 : SqT K H1 t1 [.int (k1 : Int), .str s, .non] := hw1
        obtain ⟨x1, y1, z1⟩ := word_suf (L := z.cps.toList) _ _ a s l1 k1 rfl (by rw [Array.length_toList]; exact ha) ew
        rw [Array.length_toList] at z1
        have z1 : k1 ≤ z.length := z1
        obtain ⟨_, wg⟩ := word_go (pl := pl) (F := []) (z.cps.toList.drop a) "" a
        obtain ⟨_, _, hls⟩ := wg s l1 k1 ew
        obtain ⟨m, hm⟩ := Option.isSome_iff_exists.mp hls
        have m0 := ok.pos s m hm
        have m1 := hpm s m hm
        obtain ⟨N, eN⟩ : ∃ N : Nat, m = (N : Int) := ⟨m.toNat, by omega⟩
        subst eN
        have eg : ((lookS pl s).getD 0).toNat = N := by rw [hm]; rfl
        dsimp only at k
        rw [eg, x1] at k
        have cn1 : (z.cps.toList.drop k1).count 40 < n + 1 := by
          have : z.cps.toList.drop k1 = (z.cps.toList.drop a).drop (k1 - a) := by rw [List.drop_drop]; congr 1; omega
          rw [this]
          exact Nat.lt_of_le_of_lt ((List.drop_sublist _ _).count_le 40) hcn
        obtain ⟨kvp, ns, hpd, hv, hkn, hnl, hnz, hmem⟩ := nm_mem hp
        have place : ∀ {G : Hp}, Same H G → DGet G pd (.str s) (some (.int (N : Int))) := fun {G} sg => by
          have g := DGet.k (k := Sum.inr s) (sg _ _ hpd)
          rw [hv, hm] at g
          exact g
        refine ⟨t1, _, rfl, hw1, rfl, _, _, rfl, _, _, rfl, _, _, rfl, rfl, ?_⟩
        refine ⟨_, rfl, rfl, _, rfl, ?_⟩
        rw [show decide (V.non = V.non) = true from decide_eq_true rfl]
        refine ifN (by decide) ?_
        show tSeq _ _ _ [some (.ref pd), some (.str z), some (.int (a : Int)), some (.int (k1 : Int)), some (.str s), some .non, none, none, none] _
        refine seq_nx ?_
        refine seq_asg ?_
        refine ⟨_, rfl, (by show 1 ≤ sizeLine; decide), fun t2 n2 => ?_⟩
        have s2 := same_new (o := .tup [V.str s]) n2
        have d2 : Dp K (upd H1 t2 (.tup [V.str s])) (.ref t2) (Tm.data (.mk s [])) := .tup (.inl (.inl upd_same)) (.cons (.str _) .nil)
        dsimp only [gName]
        show tSeq _ _ _ [some (.ref pd), some (.str z), some (.int (a : Int)), some (.int (k1 : Int)), some (.str s), some .non, some (.ref t2), none, none] _
        refine seq_open (fun σ' G => ∃ fnd w7 w8 qs, ∃ e : Nat, σ' = [some (.ref pd), some (.str z), some (.int (a : Int)), some (.int (e : Int)), some (.str s), some .non, some fnd, w7, w8] ∧ Same H G ∧ Dp K G fnd (Tm.data (.mk s qs)) ∧ e ≤ z.length ∧ qs.length = N ∧ rdParts (rdTerm pl n) N 40 [] (z.cps.toList.drop k1) k1 = .good qs (z.cps.toList.drop e) e) (fun NX hNX => ?_) (fun σ' G h => ?_)
        · refine ⟨_, rfl, _, rfl, pd, .int (N : Int), rfl, place (s1.trans s2), _, rfl, by omega, by omega, ?_⟩
          rw [show ((N : Nat) : Int).toNat = N by omega]
          refine for_range (lo := 0) (n := N) (fun i σ' G => ∃ fnd w7 w8 qs, ∃ e : Nat, σ' = [some (.ref pd), some (.str z), some (.int (a : Int)), some (.int (e : Int)), some (.str s), some .non, some fnd, w7, w8] ∧ Same H G ∧ Dp K G fnd (Tm.data (.mk s qs)) ∧ e ≤ z.length ∧ qs.length = i ∧ (z.cps.toList.drop e).count 40 < (if i = 0 then n + 1 else n) ∧ rdParts (rdTerm pl n) N 40 [] (z.cps.toList.drop k1) k1 = rdParts (rdTerm pl n) (N - i) (if i = 0 then 40 else 44) qs (z.cps.toList.drop e) e)
            ⟨.ref t2, none, none, [], k1, rfl, s1.trans s2, d2, z1, rfl, cn1, rfl⟩ (fun i σ G hi h => ?_) (fun σ G h => ?_)
          · obtain ⟨fnd, w7, w8, qs, e, rfl, sG, df, he, hq, hc, eR⟩ := h
            show tSeq _ _ _ [some (.ref pd), some (.str z), some (.int (a : Int)), some (.int (e : Int)), some (.str s), some .non, some fnd, some (.int (0 + (i : Int))), w8] _
            have hsucc : N - i = (N - (i + 1)) + 1 := by omega
            rw [hsucc] at eR
            obtain ⟨d, ed⟩ : ∃ d : Nat, d = if i = 0 then 40 else 44 := ⟨_, rfl⟩
            rw [← ed] at eR
            have hif : ∀ (te : TE) (Kt : VK), te = tIf (tTest (tOp rEq (tVar 7) (tC (V.int 0)))) (tC (V.str ("("))) (tC (V.str (","))) → Kt (V.str (one1 d)) G → te [some (.ref pd), some (.str z), some (.int (a : Int)), some (.int (e : Int)), some (.str s), some .non, some fnd, some (.int (0 + (i : Int))), w8] G Kt := fun te Kt et hk => by
              rw [et]
              refine ⟨_, rfl, rfl, _, rfl, ?_⟩
              by_cases h0 : i = 0
              · rw [if_pos h0] at ed
                rw [ed] at hk
                rw [show decide (V.int (0 + (i : Int)) = V.int 0) = true from decide_eq_true (by rw [h0]; rfl)]
                exact hk
              · rw [if_neg h0] at ed
                rw [ed] at hk
                rw [show decide (V.int (0 + (i : Int)) = V.int 0) = false from decide_eq_false fun y => by injection y with y; omega]
                exact hk
            refine ⟨_, rfl, _, rfl, _, rfl, _, rfl, _, _, rfl, rfl, _, rfl, z, rfl, by omega, hif _ _ rfl ⟨rfl, _, rfl, ?_⟩⟩
            rw [cut_is he]
            by_cases hcd : z.cps.toList[e]? = some d
            · rw [decide_eq_true hcd]
              refine ifN (by decide) ?_
              have hlt : e < z.cps.toList.length := (List.getElem?_eq_some_iff.mp hcd).1
              have hel : e < z.length := by rw [Array.length_toList] at hlt; exact hlt
              have hdr : z.cps.toList.drop e = d :: z.cps.toList.drop (e + 1) := by
                rw [List.drop_eq_getElem_cons hlt]
                congr 1
                exact (List.getElem?_eq_some_iff.mp hcd).2
              rw [hdr, rdParts, if_pos rfl] at eR
              have hc2 : (z.cps.toList.drop (e + 1)).count 40 < n := by
                rw [hdr] at hc
                by_cases h0 : i = 0
                · rw [if_pos h0] at hc ed
                  rw [ed, List.count_cons_self] at hc
                  omega
                · rw [if_neg h0] at hc
                  rw [List.count_cons] at hc
                  omega
              show tSeq _ _ _ [some (.ref pd), some (.str z), some (.int (a : Int)), some (.int (e : Int)), some (.str s), some .non, some fnd, some (.int (0 + (i : Int))), w8] _
              refine seq_nx ?_
              refine seq_asg ?_
              refine ⟨_, rfl, _, rfl, _, rfl, _, _, rfl, rfl, pd, pl, z, e + 1, rfl, hp.same sG, ok, hpm, hz, by omega, hc2, fun G2 t3 s3 ht3 => ?_⟩
              cases er : rdTerm pl n (z.cps.toList.drop (e + 1)) (e + 1) with
              | bad w0 =>
                rw [er] at eR ht3
                have ht3 : SqT K G2 t3 [.non, .non, .int (w0 : Int)] := ht3
                rw [eR] at k
                refine ⟨t3, _, rfl, ht3, rfl, _, _, rfl, _, _, rfl, _, _, rfl, rfl, ?_⟩
                refine ⟨_, rfl, rfl, _, rfl, ?_⟩
                rw [show decide (V.int (w0 : Int) = V.non) = false from decide_eq_false fun y => nomatch y]
                refine ifT ?_
                refine ⟨_, rfl, (by show 3 ≤ sizeLine; decide), fun t nt => ?_⟩
                have st := same_new (o := .tup [V.non, V.non, V.int (w0 : Int)]) nt
                exact k _ t ((sG.trans s3).trans st) (.inl (.inl upd_same))
              | good x l2 k2 =>
                rw [er] at eR ht3
                obtain ⟨u, ht3, du⟩ := ht3
                obtain ⟨x2, y2, z2⟩ := term_suf (pl := pl) (L := z.cps.toList) n (e + 1) x l2 k2 (by rw [Array.length_toList]; exact hel) er
                rw [Array.length_toList] at z2
                have z2 : k2 ≤ z.length := z2
                dsimp only at eR
                rw [x2] at eR
                refine ⟨t3, _, rfl, ht3, rfl, _, _, rfl, _, _, rfl, _, _, rfl, rfl, ?_⟩
                refine ⟨_, rfl, rfl, _, rfl, ?_⟩
                rw [show decide (V.non = V.non) = true from decide_eq_true rfl]
                refine ifN (by decide) ?_
                show tNext _ [some (.ref pd), some (.str z), some (.int (a : Int)), some (.int (k2 : Int)), some (.str s), some .non, some fnd, some (.int (0 + (i : Int))), some u] _
                have df2 : Dp K G2 fnd (.tuple (.str s :: Tm.datas qs)) := Dp.same s3 _ _ df
                obtain ⟨fa, fxs, rfl, hfa, dfa⟩ := Dp.tupD df2
                have lfa : fxs.length = qs.length + 1 := by rw [dfa.len, List.length_cons, Tm.datas_len]
                refine nxQ ?_
                dsimp only
                refine asgQ ?_
                refine ⟨_, rfl, _, rfl, (by show 1 ≤ sizeLine; decide), fun ta nta => ?_⟩
                have sta := same_new (o := .tup [u]) nta
                refine catA_any (SqT.same hfa sta) (.inl (.inl upd_same)) (by rw [lfa]; show _ + 1 ≤ _; omega) fun G4 t4 s4 ht4 => ?_
                refine ⟨.ref t4, _, _, qs ++ [x], k2, rfl, ((sG.trans s3).trans sta).trans s4, ?_, z2, by rw [List.length_append, hq]; rfl, ?_, ?_⟩
                · show Dp K G4 (.ref t4) (Tm.data (.mk s (qs ++ [x])))
                  rw [Tm.data, Tm.datas_app, ← List.cons_append]
                  exact .tup ht4 ((DpAll.same (sta.trans s4) _ _ dfa).app (.cons (Dp.same (sta.trans s4) _ _ du) .nil))
                · rw [if_neg (Nat.succ_ne_zero i)]
                  have : z.cps.toList.drop k2 = (z.cps.toList.drop (e + 1)).drop (k2 - (e + 1)) := by rw [List.drop_drop]; congr 1; omega
                  rw [this]
                  exact Nat.lt_of_le_of_lt ((List.drop_sublist _ _).count_le 40) hc2
                · rw [if_neg (Nat.succ_ne_zero i)]
                  exact eR
            · rw [decide_eq_false hcd]
              refine ifT ?_
              have eB : rdParts (rdTerm pl n) N 40 [] (z.cps.toList.drop k1) k1 = .bad (e + 1) := by
                rw [eR]
                rcases Nat.lt_or_ge e z.cps.toList.length with hlt | hge
                · rw [List.drop_eq_getElem_cons hlt, rdParts, if_neg]
                  intro y
                  exact hcd (by rw [List.getElem?_eq_getElem hlt, y])
                · rw [List.drop_of_length_le hge, rdParts]
              rw [eB] at k
              refine ⟨_, rfl, _, _, rfl, rfl, (by show 3 ≤ sizeLine; decide), fun t nt => ?_⟩
              have st := same_new (o := .tup [V.non, V.non, V.int ((e : Int) + 1)]) nt
              exact k _ t (sG.trans st) (.inl (.inl upd_same))
          · obtain ⟨fnd, w7, w8, qs, e, rfl, sG, df, he, hq, hc, eR⟩ := h
            rw [Nat.sub_self, rdParts] at eR
            exact hNX _ _ ⟨fnd, w7, w8, qs, e, rfl, sG, df, he, hq, eR⟩
        · obtain ⟨fnd, w7, w8, qs, e, rfl, sG, df, he, hq, eR⟩ := h
          rw [eR] at k
          dsimp only at k
          refine ⟨_, rfl, _, rfl, pd, .int (N : Int), rfl, place sG, rfl, _, rfl, ?_⟩
          have h41 : (")" : Str) = one1 41 := by decide +kernel
          by_cases hN : N = 0
          · subst hN
            rw [show decide (V.int ((0 : Nat) : Int) = V.int 0) = true from decide_eq_true rfl]
            refine ifT ?_
            refine ⟨_, rfl, _, rfl, (by show 3 ≤ sizeLine; decide), fun t nt => ?_⟩
            have st := same_new (o := .tup [V.int (e : Int), fnd, V.non]) nt
            have hq0 : qs = [] := List.eq_nil_of_length_eq_zero hq
            subst hq0
            refine k _ t (sG.trans st) ?_
            cases hdr : z.cps.toList.drop e with
            | nil => exact ⟨fnd, .inl (.inl upd_same), Dp.same st _ _ df⟩
            | cons c l => exact ⟨fnd, .inl (.inl upd_same), Dp.same st _ _ df⟩
          · rw [show decide (V.int (N : Int) = V.int 0) = false from decide_eq_false fun y => by injection y with y; omega]
            refine ifN (by decide) ?_
            show tSeq _ _ _ [some (.ref pd), some (.str z), some (.int (a : Int)), some (.int (e : Int)), some (.str s), some .non, some fnd, w7, w8] _
            refine seq_nx ?_
            refine ⟨_, rfl, _, rfl, _, rfl, _, rfl, _, _, rfl, rfl, _, rfl, z, rfl, by omega, rfl, _, rfl, ?_⟩
            rw [h41, cut_is he]
            by_cases hcd : z.cps.toList[e]? = some 41
            · rw [decide_eq_true hcd]
              refine ifN (by decide) ?_
              have hlt : e < z.cps.toList.length := (List.getElem?_eq_some_iff.mp hcd).1
              have hdr : z.cps.toList.drop e = 41 :: z.cps.toList.drop (e + 1) := by
                rw [List.drop_eq_getElem_cons hlt]
                congr 1
                exact (List.getElem?_eq_some_iff.mp hcd).2
              rw [hdr, rdEnd, if_neg hN, if_pos rfl] at k
              refine ⟨_, rfl, _, _, rfl, rfl, _, rfl, (by show 3 ≤ sizeLine; decide), fun t nt => ?_⟩
              have st := same_new (o := .tup [V.int ((e : Int) + 1), fnd, V.non]) nt
              exact k _ t (sG.trans st) ⟨fnd, .inl (.inl upd_same), Dp.same st _ _ df⟩
            · rw [decide_eq_false hcd]
              refine ifT ?_
              have eB : rdEnd s N qs (z.cps.toList.drop e) e = .bad (e + 1) := by
                rcases Nat.lt_or_ge e z.cps.toList.length with hlt | hge
                · rw [List.drop_eq_getElem_cons hlt, rdEnd, if_neg hN, if_neg]
                  intro y
                  exact hcd (by rw [List.getElem?_eq_getElem hlt, y])
                · rw [List.drop_of_length_le hge, rdEnd, if_neg hN]
              rw [eB] at k
              refine ⟨_, rfl, _, _, rfl, rfl, (by show 3 ≤ sizeLine; decide), fun t nt => ?_⟩
              have st := same_new (o := .tup [V.non, V.non, V.int ((e : Int) + 1)]) nt
              exact k _ t (sG.trans st) (.inl (.inl upd_same))

end NB

namespace NB
open PySem PySem.Spec PyProof.Rows L2 LamX
/-! how long what was read is -/
theorem word_len {pl : List (Str × Int)} : ∀ (l : List Nat) (w : Str) (a : Nat), (∀ x, rdWord pl w l a = .bad x → x ≤ a + l.length + 1) ∧ ∀ s l' k, rdWord pl w l a = .good s l' k → k + l'.length = a + l.length ∧ s.length + l'.length = w.length + l.length ∧ (lookS pl s).isSome = true
  | [], w, a => by
    rw [rdWord]
    split
    case isTrue h =>
      refine ⟨(fun x e => by cases e), fun s l' k e => ?_⟩
      cases e
      exact ⟨rfl, rfl, h⟩
    case isFalse h =>
      refine ⟨fun x e => ?_, (fun s l' k e => by cases e)⟩
      cases e
      rw [List.length_nil]
      omega
  | c :: l, w, a => by
    rw [rdWord]
    split
    case isTrue h =>
      split
      case isTrue h2 =>
        obtain ⟨i1, i2⟩ := word_len l (w ++ one1 c) (a + 1)
        refine ⟨fun x e => ?_, fun s l' k e => ?_⟩
        · have := i1 x e
          rw [List.length_cons]
          omega
        · obtain ⟨j1, j2, j3⟩ := i2 s l' k e
          rw [strLen_append] at j2
          have o1 : (one1 c).length = 1 := rfl
          rw [List.length_cons]
          exact ⟨by omega, by omega, j3⟩
      case isFalse h2 =>
        refine ⟨fun x e => ?_, (fun s l' k e => by cases e)⟩
        cases e
        omega
    case isFalse h =>
      split
      case isTrue h2 =>
        refine ⟨(fun x e => by cases e), fun s l' k e => ?_⟩
        cases e
        exact ⟨rfl, rfl, h2⟩
      case isFalse h2 =>
        refine ⟨fun x e => ?_, (fun s l' k e => by cases e)⟩
        cases e
        omega
def LenRt (rt : List Nat → Nat → RR Tm) (f : Nat) : Prop := ∀ (l : List Nat) (a : Nat), (∀ x, rt l a = .bad x → x ≤ a + l.length + 1) ∧ ∀ t l' k, rt l a = .good t l' k → k + l'.length = a + l.length ∧ (Tm.pre t).length + l'.length ≤ l.length ∧ Wd t ∧ dpt t ≤ f
theorem parts_len {rt : List Nat → Nat → RR Tm} {f : Nat} (h : LenRt rt f) : ∀ (n d : Nat) (qs : List Tm) (l : List Nat) (a : Nat), Wds qs → (∀ q ∈ qs, dpt q ≤ f) → (∀ x, rdParts rt n d qs l a = .bad x → x ≤ a + l.length + 1) ∧ ∀ ps l' k, rdParts rt n d qs l a = .good ps l' k → k + l'.length = a + l.length ∧ (Tm.pres ps).length + l'.length ≤ (Tm.pres qs).length + l.length ∧ Wds ps ∧ ∀ q ∈ ps, dpt q ≤ f
  | 0, d, qs, l, a, w, dq => by
    rw [rdParts]
    refine ⟨(fun x e => by cases e), fun ps l' k e => ?_⟩
    cases e
    exact ⟨rfl, Nat.le_refl _, w, dq⟩
  | n + 1, d, qs, [], a, w, dq => by
    rw [rdParts]
    refine ⟨fun x e => ?_, (fun s l' k e => by cases e)⟩
    cases e
    rw [List.length_nil]
    omega
  | n + 1, d, qs, c :: l, a, w, dq => by
    rw [rdParts]
    split
    case isTrue hc =>
      obtain ⟨i1, i2⟩ := h l (a + 1)
      cases er : rt l (a + 1) with
      | bad w0 =>
        refine ⟨fun x e => ?_, (fun s l' k e => by cases e)⟩
        cases e
        have := i1 w0 er
        rw [List.length_cons]
        omega
      | good t l2 k2 =>
        obtain ⟨j1, j2, j3, j4⟩ := i2 t l2 k2 er
        have e2 : (Tm.pres (qs ++ [t])).length = (Tm.pres qs).length + (Tm.pre t).length := by
          rw [Tm.pres_app, List.length_append, Tm.pres, Tm.pres, List.append_nil]
        obtain ⟨g1, g2⟩ := parts_len h n 44 (qs ++ [t]) l2 k2 (fun p m => by
          rcases List.mem_append.mp m with m | m
          · exact w p m
          · rw [List.mem_singleton.mp m]
            exact j3) (fun p m => by
          rcases List.mem_append.mp m with m | m
          · exact dq p m
          · rw [List.mem_singleton.mp m]
            exact j4)
        dsimp only
        rw [List.length_cons]
        refine ⟨fun x e => ?_, fun ps l' k e => ?_⟩
        · have := g1 x e
          omega
        · obtain ⟨r1, r2, r3, r4⟩ := g2 ps l' k e
          rw [e2] at r2
          exact ⟨by omega, by omega, r3, r4⟩
    case isFalse hc =>
      refine ⟨fun x e => ?_, (fun s l' k e => by cases e)⟩
      cases e
      omega
theorem wd_made {s : Str} {ps : List Tm} (h : signS s = true) (w : Wds ps) : Wd (.mk s ps) := fun s' ps' m => by
  rw [Tm.pre] at m
  rcases List.mem_cons.mp m with z | z
  · cases z
    exact h
  · obtain ⟨p, hp, m⟩ := mem_pres.mp z
    exact w p hp s' ps' m
theorem term_len {pl : List (Str × Int)} (ok : PlOk pl) (hs : ∀ s m, lookS pl s = some m → signS s = true) : ∀ f : Nat, LenRt (rdTerm pl f) f
  | 0 => fun l a => by
    rw [rdTerm]
    refine ⟨fun x e => ?_, (fun s l' k e => by cases e)⟩
    cases e
    exact Nat.zero_le _
  | f + 1 => fun l a => by
    rw [rdTerm]
    obtain ⟨i1, i2⟩ := word_len (pl := pl) l "" a
    cases ew : rdWord pl "" l a with
    | bad w =>
      refine ⟨fun x e => ?_, (fun s l' k e => by cases e)⟩
      cases e
      exact i1 w ew
    | good s l1 k1 =>
      obtain ⟨j1, j2, j3⟩ := i2 s l1 k1 ew
      have e0 : ("" : Str).length = 0 := rfl
      obtain ⟨m, hm⟩ := Option.isSome_iff_exists.mp j3
      have sl : 1 ≤ s.length := by
        rcases Nat.eq_zero_or_pos s.length with z | z
        · have : s = "" := by
            cases s with
            | mk cps =>
              have q : cps = #[] := Array.size_eq_zero_iff.mp z
              rw [q]
              rfl
          rw [this, ok.ne] at hm
          exact nomatch hm
        · exact z
      have ss := hs s m hm
      dsimp only
      generalize ((lookS pl s).getD 0).toNat = N
      obtain ⟨g1, g2⟩ := parts_len (term_len ok hs f) N 40 [] l1 k1 (fun p m => nomatch m) (fun p m => nomatch m)
      cases ep : rdParts (rdTerm pl f) N 40 [] l1 k1 with
      | bad w =>
        refine ⟨fun x e => ?_, (fun s l' k e => by cases e)⟩
        cases e
        have := g1 w ep
        omega
      | good qs l2 k2 =>
        obtain ⟨r1, r2, r3, r4⟩ := g2 qs l2 k2 ep
        have e3 : (Tm.pres []).length = 0 := rfl
        have epre : ∀ qs : List Tm, (Tm.pre (.mk s qs)).length = 1 + (Tm.pres qs).length := fun qs => by rw [Tm.pre, List.length_cons]; omega
        have edp : ∀ qs : List Tm, (∀ q ∈ qs, dpt q ≤ f) → dpt (.mk s qs) ≤ f + 1 := fun qs h => by
          have := dpts_le qs h
          rw [dpt]
          omega
        dsimp only
        cases l2 with
        | nil =>
          rw [rdEnd]
          split
          case isTrue h0 =>
            refine ⟨(fun x e => by cases e), fun t l' k e => ?_⟩
            cases e
            have := epre []
            rw [List.length_nil] at *
            exact ⟨by omega, by omega, wd_made ss (fun p m => nomatch m), edp [] (fun p m => nomatch m)⟩
          case isFalse h0 =>
            refine ⟨fun x e => ?_, (fun s l' k e => by cases e)⟩
            cases e
            rw [List.length_nil] at *
            omega
        | cons c l2 =>
          rw [rdEnd]
          rw [List.length_cons] at *
          split
          case isTrue h0 =>
            refine ⟨(fun x e => by cases e), fun t l' k e => ?_⟩
            cases e
            have := epre []
            rw [List.length_cons]
            exact ⟨by omega, by omega, wd_made ss (fun p m => nomatch m), edp [] (fun p m => nomatch m)⟩
          case isFalse h0 =>
            split
            case isTrue h1 =>
              refine ⟨(fun x e => by cases e), fun t l' k e => ?_⟩
              cases e
              have := epre qs
              exact ⟨by omega, by omega, wd_made ss r3, edp qs r4⟩
            case isFalse h1 =>
              refine ⟨fun x e => ?_, (fun s l' k e => by cases e)⟩
              cases e
              omega
/-- what is told of a reading -/
def gotD : Tm ⊕ Nat → PyData
  | .inl t => .tuple [.str "term", Tm.data t]
  | .inr w => .tuple [.str "text", .int (w : Int)]
theorem tupT2 (ts : List Str) : (tupleText ts).length ≤ piled ts + 3 := by
  unfold tupleText
  rw [strLen_append, strLen_append]
  have e1 : ((("(" : String) : Str)).length = 1 := rfl
  have e3 : (((if ts.length == 1 then ",)" else ")" : String) : Str)).length ≤ 2 := by split <;> decide
  rw [e1]
  by_cases e : ts = []
  · rw [e] at e3 ⊢
    have : (Str.join ", " []).length = 0 := rfl
    omega
  · have := join_length_add ts e
    omega
theorem num_short {n k : Nat} (k0 : 0 < k) (h : n < 10 ^ k) : (Str.ofString (toString (n : Int))).length ≤ k := by
  have e : (toString (n : Int)).toList = Nat.toDigits 10 n := by
    show (Nat.repr n).toList = _
    exact Nat.toList_repr
  have e2 : (Str.ofString (toString (n : Int))).length = ((toString (n : Int)).toList.map Char.toNat).length := by
    rw [← PySem.cpsOfBytes_string]
    exact List.size_toArray
  rw [e2, e, List.length_map]
  exact (Nat.length_toDigits_le_iff (by decide) k0).mpr h
theorem got_good {pl : List (Str × Int)} (ok : PlOk pl) (hs : ∀ s m, lookS pl s = some m → signS s = true) {f : Nat} (hf : f ≤ 50) {z : Str} (hz : z.length ≤ 100000) : (gotD (readL pl f z)).showable = true ∧ (gotD (readL pl f z)).hasDict = false ∧ (gotD (readL pl f z)).depth ≤ 60 ∧ (gotD (readL pl f z)).shown.length ≤ sizeLine := by
  have hzl : sizeLine = 16777216 := rfl
  have zl : z.cps.toList.length = z.length := Array.length_toList
  obtain ⟨i1, i2⟩ := term_len ok hs f z.cps.toList 0
  have bad : ∀ w : Nat, w ≤ 100001 → (gotD (.inr w)).showable = true ∧ (gotD (.inr w)).hasDict = false ∧ (gotD (.inr w)).depth ≤ 60 ∧ (gotD (.inr w)).shown.length ≤ sizeLine := fun w hw => by
    have hl : ((w : Int)).natAbs.log2 < 1920 := by
      have a := Nat.log2_le_self ((w : Int)).natAbs
      have b : ((w : Int)).natAbs.log2 ≤ w := a
      have : ((w : Int)).natAbs < 2 ^ 1920 := Nat.lt_of_le_of_lt (show ((w : Int)).natAbs ≤ 100001 from hw) (by decide +kernel)
      by_cases h0 : ((w : Int)).natAbs = 0
      · rw [h0]; decide
      · exact (Nat.log2_lt h0).mpr this
    have c := tupT2 [reprText "text", ((toString (w : Int) : String) : Str)]
    rw [piled_cons, piled_cons, piled_nil] at c
    have e2 : (reprText "text").length = 6 := by decide +kernel
    have e3 : (((toString (w : Int) : String) : Str)).length ≤ 6 := num_short (by decide) (by omega)
    have e1 : gotD (.inr w) = .tuple [.str "text", .int (w : Int)] := rfl
    rw [e1, PyData.showable, PyData.showableAll, PyData.showableAll, PyData.showableAll, PyData.showable, PyData.showable, decide_eq_true hl, PyData.hasDict, PyData.hasDictAll, PyData.hasDictAll, PyData.hasDictAll, PyData.hasDict, PyData.hasDict, PyData.depth, PyData.depthAll, PyData.depthAll, PyData.depthAll, PyData.depth, PyData.depth, PyData.shown, PyData.shownAll, PyData.shownAll, PyData.shownAll, PyData.shown, PyData.shown]
    exact ⟨rfl, rfl, by decide, by omega⟩
  unfold readL
  cases e : rdTerm pl f z.cps.toList 0 with
  | bad w =>
    have := i1 w e
    exact bad w (by omega)
  | good t l k =>
    obtain ⟨j1, j2, j3, j4⟩ := i2 t l k e
    dsimp only
    split
    · obtain ⟨b1, b2⟩ := sh_data t
      have c4 := shown_len j3
      have c5 := depth_tm t
      have c := tupT2 [reprText "term", (Tm.data t).shown]
      rw [piled_cons, piled_cons, piled_nil] at c
      have e2 : (reprText "term").length = 6 := by decide +kernel
      have e1 : gotD (.inl t) = .tuple [.str "term", Tm.data t] := rfl
      rw [e1, PyData.showable, PyData.showableAll, PyData.showableAll, PyData.showableAll, PyData.showable, b1, PyData.hasDict, PyData.hasDictAll, PyData.hasDictAll, PyData.hasDictAll, PyData.hasDict, b2, PyData.depth, PyData.depthAll, PyData.depthAll, PyData.depthAll, PyData.depth, PyData.shown, PyData.shownAll, PyData.shownAll, PyData.shownAll, PyData.shown]
      exact ⟨rfl, rfl, by omega, by omega⟩
    · exact bad (k + 1) (by omega)

end NB

namespace NB
open PySem PySem.Spec PyProof.Rows L2 LamX
/-! ### _law_read -/
theorem sc__law_read : FnScope ["_law_names", "_law_text_here", "_law_end", "_law_term_here", "_law_wrong"] ["_law_names", "_law_text_here"] (defScope s__law_read) := ⟨rfl, rfl, rfl, by decide +kernel, rfl, by decide +kernel, by decide +kernel⟩
def sp__law_read (K : PySem.W.Frag) : Sp := fun vs H Q _ => ∃ pd pl z, vs = [.ref pd, .str z] ∧ NmAt H pd pl ∧ PlOk pl ∧ (∀ s m, lookS pl s = some m → m ≤ 100) ∧ z.length ≤ 100000 ∧ z.cps.toList.count 40 < 40 ∧
  ∀ H' t, Same H H' → Dp K H' (.ref t) (gotD (readL pl 40 z)) → Q (.ref t) H'
theorem ok__law_read {P : Program} {w : World} {K : PySem.W.Frag} {mg : Str → Option Value} {base : Heap} (T : Tx K mg)  : FnOk P w K mg base CX0 42 T.a__law_read T.d__law_read ["_law_names", "_law_text_here"] (sp__law_read K) := by
  refine T.F__law_read.ok sc__law_read (fun vs H Q E h => ?_) (fun cdv A outer s H vs Q E hr h => ?_)
  · obtain ⟨pd, pl, z, rfl, _⟩ := h
    rfl
  · obtain ⟨pd, pl, z, rfl, hp, ok, hpm, hz, hcn, k⟩ := h
    have hu := hu_of hr
    have hzl : sizeLine = 16777216 := rfl
    have GAt := ok__law_term_at (P := P) (w := w) (base := base) T 40
    refine ⟨_, (pss_cons (ps_asg (pe_call GAt (hr.mono (by first | decide | omega)) rfl T.m__law_term_at T.F__law_term_at.kp T.b__law_term_at .nil pass0 (pa_cons (pv 0) (pa_cons (pv 1) (pa_cons pe_int pa_nil)))) (pg_tup rfl (pgs_cons (pg_name (i := 2) sc__law_read.nd rfl (by first | exact Or.inl rfl | exact Or.inr rfl)) (pgs_cons (pg_name (i := 3) sc__law_read.nd rfl (by first | exact Or.inl rfl | exact Or.inr rfl)) (pgs_cons (pg_name (i := 4) sc__law_read.nd rfl (by first | exact Or.inl rfl | exact Or.inr rfl)) pgs_nil))))) (pss_cons (ps_if (PW.pt (pw_and (pt_cmpR op_isN (pv 4) pe_non (nomark _)) (pw_and1 (pt_cmpR op_lt (pv 2) (pe_callB call_len_str (by rfl) T.z_len (by decide +kernel) (pa_cons (pv 1) pa_nil)) (nomark _))))) (pss_one (ps_set (i := 4) sc__law_read.nd rfl (by first | exact Or.inl rfl | exact Or.inr rfl) (pe_op op_add (pv 2) pe_int))) pss_nil) (pss_one (ps_ret (pe_ifExp (pt_cmpR op_notN (pv 4) pe_non (nomark _)) (pe_tup (pa_cons pe_str (pa_cons (pv 4) pa_nil))) (pe_tup (pa_cons pe_str (pa_cons (pv 3) pa_nil)))))))), ?_⟩
    refine seq_asg ?_
    refine ⟨_, rfl, _, rfl, pd, pl, z, 0, rfl, hp, ok, hpm, hz, Nat.zero_le _, hcn, fun H1 t1 s1 ht1 => ?_⟩
    rw [List.drop_zero] at ht1
    have em : z.length = z.cps.toList.length := rfl
    cases er : rdTerm pl 40 z.cps.toList 0 with
    | bad w0 =>
      rw [er] at ht1
      have ht1 : SqT K H1 t1 [.non, .non, .int (w0 : Int)] := ht1
      have eG : readL pl 40 z = .inr w0 := by
        unfold readL
        rw [er]
      refine ⟨t1, _, rfl, ht1, rfl, _, _, rfl, _, _, rfl, _, _, rfl, rfl, ?_⟩
      show tSeq _ _ _ [some (.ref pd), some (.str z), some .non, some .non, some (.int (w0 : Int))] _
      refine seq_open (fun σ' G => σ' = [some (.ref pd), some (.str z), some .non, some .non, some (.int (w0 : Int))] ∧ G = H1) (fun NX hNX => ?_) (fun σ' G h => ?_)
      · refine ⟨_, rfl, rfl, _, rfl, ?_⟩
        rw [show decide (V.int (w0 : Int) = V.non) = false from decide_eq_false fun y => nomatch y]
        refine ifN (by decide) ?_
        refine ifN (by decide) ?_
        exact hNX _ _ ⟨rfl, rfl⟩
      · obtain ⟨rfl, rfl⟩ := h
        refine ⟨_, rfl, rfl, _, rfl, ?_⟩
        rw [show decide (V.int (w0 : Int) = V.non) = false from decide_eq_false fun y => nomatch y]
        refine ⟨_, rfl, (by show 2 ≤ sizeLine; decide), fun t nt => ?_⟩
        have st := same_new (o := .tup [V.str "text", V.int (w0 : Int)]) nt
        refine k _ t (s1.trans st) ?_
        rw [eG]
        exact .tup (.inl (.inl upd_same)) (.cons (.str _) (.cons (.int _) .nil))
    | good x l2 k2 =>
      rw [er] at ht1
      obtain ⟨u, ht1, du⟩ := ht1
      obtain ⟨x2, y2, z2⟩ := term_suf (pl := pl) (L := z.cps.toList) 40 0 x l2 k2 (Nat.zero_le _) (by rw [List.drop_zero]; exact er)
      refine ⟨t1, _, rfl, ht1, rfl, _, _, rfl, _, _, rfl, _, _, rfl, rfl, ?_⟩
      show tSeq _ _ _ [some (.ref pd), some (.str z), some (.int (k2 : Int)), some u, some .non] _
      by_cases hk : k2 < z.length
      · have eG : readL pl 40 z = .inr (k2 + 1) := by
          unfold readL
          rw [er]
          refine if_neg fun e => ?_
          have := congrArg List.length (x2.symm.trans e)
          rw [List.length_drop, List.length_nil] at this
          omega
        refine seq_open (fun σ' G => σ' = [some (.ref pd), some (.str z), some (.int (k2 : Int)), some u, some (.int ((k2 : Int) + 1))] ∧ G = H1) (fun NX hNX => ?_) (fun σ' G h => ?_)
        · refine ⟨_, rfl, rfl, _, rfl, ?_⟩
          rw [show decide (V.non = V.non) = true from decide_eq_true rfl]
          refine ifT ?_
          refine ⟨_, rfl, _, rfl, z, rfl, by omega, _, _, rfl, rfl, _, rfl, ?_⟩
          rw [decide_eq_true (show (k2 : Int) < (z.length : Int) by omega)]
          refine ifT ?_
          refine ⟨_, rfl, _, _, rfl, rfl, ?_⟩
          exact hNX _ _ ⟨rfl, rfl⟩
        · obtain ⟨rfl, rfl⟩ := h
          refine ⟨_, rfl, rfl, _, rfl, ?_⟩
          rw [show decide (V.int ((k2 : Int) + 1) = V.non) = false from decide_eq_false fun y => nomatch y]
          refine ⟨_, rfl, (by show 2 ≤ sizeLine; decide), fun t nt => ?_⟩
          have st := same_new (o := .tup [V.str "text", V.int ((k2 : Int) + 1)]) nt
          refine k _ t (s1.trans st) ?_
          rw [eG]
          exact .tup (.inl (.inl upd_same)) (.cons (.str _) (.cons (.int _) .nil))
      · have eG : readL pl 40 z = .inl x := by
          unfold readL
          rw [er]
          refine if_pos ?_
          rw [x2]
          exact List.drop_of_length_le (by omega)
        refine seq_open (fun σ' G => σ' = [some (.ref pd), some (.str z), some (.int (k2 : Int)), some u, some .non] ∧ G = H1) (fun NX hNX => ?_) (fun σ' G h => ?_)
        · refine ⟨_, rfl, rfl, _, rfl, ?_⟩
          rw [show decide (V.non = V.non) = true from decide_eq_true rfl]
          refine ifT ?_
          refine ⟨_, rfl, _, rfl, z, rfl, by omega, _, _, rfl, rfl, _, rfl, ?_⟩
          rw [decide_eq_false (show ¬ (k2 : Int) < (z.length : Int) by omega)]
          refine ifN (by decide) ?_
          exact hNX _ _ ⟨rfl, rfl⟩
        · obtain ⟨rfl, rfl⟩ := h
          refine ⟨_, rfl, rfl, _, rfl, ?_⟩
          rw [show decide (V.non = V.non) = true from decide_eq_true rfl]
          refine ⟨_, rfl, (by show 2 ≤ sizeLine; decide), fun t nt => ?_⟩
          have st := same_new (o := .tup [V.str "term", u]) nt
          refine k _ t (s1.trans st) ?_
          rw [eG]
          exact .tup (.inl (.inl upd_same)) (.cons (.str _) (.cons (Dp.same st _ _ du) .nil))

end NB

namespace NB
open PySem PySem.Spec PyProof.Rows L2 LamX
/-! ### _law_spoiled -/
theorem sc__law_spoiled : FnScope ["_law_pool_here", "_law_text_here", "_law_letters", "_law_at", "_law_letter", "_law_some"] ["_law_pool_here", "_law_text_here", "_law_letters"] (defScope s__law_spoiled) := ⟨rfl, rfl, rfl, by decide +kernel, rfl, by decide +kernel, by decide +kernel⟩
/-- a text at most twice as long, and one letter -/
def Twice (z z' : Str) : Prop := z'.length ≤ 2 * z.length + 1 ∧ z'.cps.toList.count 40 ≤ 2 * z.cps.toList.count 40 + 1
theorem cut_cnt (z : Str) (lo hi : Option Int) : (cutS z lo hi).length ≤ z.length ∧ (cutS z lo hi).cps.toList.count 40 ≤ z.cps.toList.count 40 := by
  refine ⟨cutS_length z lo hi, ?_⟩
  unfold cutS
  rw [List.toList_toArray]
  exact ((List.take_sublist _ _).trans (List.drop_sublist _ _)).count_le 40
theorem app_cnt (a b : Str) : (a ++ b).length = a.length + b.length ∧ (a ++ b).cps.toList.count 40 = a.cps.toList.count 40 + b.cps.toList.count 40 := by
  refine ⟨strLen_append a b, ?_⟩
  show (a.cps ++ b.cps).toList.count 40 = _
  rw [Array.toList_append, List.count_append]
theorem one_cnt (c : Nat) : (one1 c).length = 1 ∧ (one1 c).cps.toList.count 40 ≤ 1 := ⟨rfl, List.count_le_length⟩
theorem rev_cnt (z : Str) : (revS z).length = z.length ∧ (revS z).cps.toList.count 40 = z.cps.toList.count 40 := by
  refine ⟨revS_len z, ?_⟩
  show z.cps.toList.reverse.toArray.toList.count 40 = _
  rw [List.toList_toArray, List.count_reverse]
theorem part_cnt (x : Str) (a : Nat) (lo : Nat) (h : a ≤ lo) : (cutS x none (some (a : Int))).length + (cutS x (some (lo : Int)) none).length ≤ x.length ∧ (cutS x none (some (a : Int))).cps.toList.count 40 + (cutS x (some (lo : Int)) none).cps.toList.count 40 ≤ x.cps.toList.count 40 := by
  have xl : x.length = x.cps.toList.length := by rw [Array.length_toList]; rfl
  unfold cutS
  rw [HT.sIx_nat, HT.sIx_nat]
  show (Array.size _) + (Array.size _) ≤ _ ∧ _
  rw [List.toList_toArray, List.toList_toArray, List.size_toArray, List.size_toArray]
  show (List.take (min a x.length - 0) (List.drop 0 x.cps.toList)).length + (List.take (x.length - min lo x.length) (List.drop (min lo x.length) x.cps.toList)).length ≤ _ ∧ (List.take (min a x.length - 0) (List.drop 0 x.cps.toList)).count 40 + (List.take (x.length - min lo x.length) (List.drop (min lo x.length) x.cps.toList)).count 40 ≤ x.cps.toList.count 40
  rw [Nat.sub_zero, List.drop_zero]
  have e : x.cps.toList = x.cps.toList.take (min a x.length) ++ x.cps.toList.drop (min a x.length) := (List.take_append_drop _ _).symm
  have e2 : x.cps.toList.drop (min lo x.length) = (x.cps.toList.drop (min a x.length)).drop (min lo x.length - min a x.length) := by
    rw [List.drop_drop]
    congr 1
    omega
  have c1 := ((List.take_sublist (x.length - min lo x.length) (List.drop (min lo x.length) x.cps.toList)).count_le 40)
  have c2 := (List.drop_sublist (min lo x.length - min a x.length) (x.cps.toList.drop (min a x.length))).count_le 40
  rw [← e2] at c2
  have c3 : x.cps.toList.count 40 = (x.cps.toList.take (min a x.length)).count 40 + (x.cps.toList.drop (min a x.length)).count 40 := by
    rw [← List.count_append, List.take_append_drop]
  refine ⟨?_, by omega⟩
  rw [List.length_take, List.length_take, List.length_drop, xl]
  omega
theorem glue_cnt (x : Str) (a lo c : Nat) (h : a ≤ lo) : Twice x (cutS x none (some (a : Int)) ++ one1 c ++ cutS x (some (lo : Int)) none) := by
  obtain ⟨h1, h2⟩ := part_cnt x a lo h
  obtain ⟨o1, o2⟩ := one_cnt c
  obtain ⟨p1, p2⟩ := app_cnt (cutS x none (some (a : Int))) (one1 c)
  obtain ⟨q1, q2⟩ := app_cnt (cutS x none (some (a : Int)) ++ one1 c) (cutS x (some (lo : Int)) none)
  exact ⟨by omega, by omega⟩
theorem glue_cnt0 (x : Str) (a lo : Nat) (h : a ≤ lo) : Twice x (cutS x none (some (a : Int)) ++ cutS x (some (lo : Int)) none) := by
  obtain ⟨h1, h2⟩ := part_cnt x a lo h
  obtain ⟨q1, q2⟩ := app_cnt (cutS x none (some (a : Int))) (cutS x (some (lo : Int)) none)
  exact ⟨by omega, by omega⟩
theorem cut_tw (x : Str) (lo hi : Option Int) : Twice x (cutS x lo hi) := by
  obtain ⟨h1, h2⟩ := cut_cnt x lo hi
  exact ⟨by omega, by omega⟩
theorem app_tw (x : Str) (c : Nat) : Twice x (x ++ one1 c) := by
  obtain ⟨o1, o2⟩ := one_cnt c
  obtain ⟨p1, p2⟩ := app_cnt x (one1 c)
  exact ⟨by omega, by omega⟩
theorem two_tw (x : Str) : Twice x (x ++ x) := by
  obtain ⟨p1, p2⟩ := app_cnt x x
  exact ⟨by omega, by omega⟩
theorem rev_tw (x : Str) : Twice x (revS x) := by
  obtain ⟨p1, p2⟩ := rev_cnt x
  exact ⟨by omega, by omega⟩
def sp__law_spoiled (K : PySem.W.Frag) : Sp := fun vs H Q _ => ∃ p cs z k cells x y, vs = [.ref p, .str x, .str y] ∧ PoolAt H p cs z k cells ∧ k ≤ 999999990 ∧ x.length ≤ 100000 ∧ 1 ≤ y.length ∧ y.length ≤ 100 ∧
  ∀ H' x' cells', Sm [p, cs] H H' → PoolAt H' p cs z (k + 3) cells' → Twice x x' → Q (.str x') H'
theorem ok__law_spoiled {P : Program} {w : World} {K : PySem.W.Frag} {mg : Str → Option Value} {base : Heap} (T : Tx K mg)  : FnOk P w K mg base CX0 2 T.a__law_spoiled T.d__law_spoiled ["_law_pool_here", "_law_text_here", "_law_letters"] (sp__law_spoiled K) := by
  refine T.F__law_spoiled.ok sc__law_spoiled (fun vs H Q E h => ?_) (fun cdv A outer s H vs Q E hr h => ?_)
  · obtain ⟨p, cs, z, k, cells, x, y, rfl, _⟩ := h
    rfl
  · obtain ⟨p, cs, z, k, cells, x, y, rfl, hp, hk, hx, hy1, hy, q⟩ := h
    have hu := hu_of hr
    have hzl : sizeLine = 16777216 := rfl
    refine ⟨_, (pss_cons (ps_set (i := 3) sc__law_spoiled.nd rfl (by first | exact Or.inl rfl | exact Or.inr rfl) (pe_call (ok__law_draw T) (hr.mono (by first | decide | omega)) rfl T.m__law_draw T.F__law_draw.kp T.b__law_draw .nil pass0 (pa_cons (pv 0) (pa_cons (pe_op op_add (pe_callB call_len_str (by rfl) T.z_len (by decide +kernel) (pa_cons (pv 1) pa_nil)) pe_int) pa_nil)))) (pss_cons (ps_set (i := 4) sc__law_spoiled.nd rfl (by first | exact Or.inl rfl | exact Or.inr rfl) (pe_ix ix_str (pv 2) (pe_call (ok__law_draw T) (hr.mono (by first | decide | omega)) rfl T.m__law_draw T.F__law_draw.kp T.b__law_draw .nil pass0 (pa_cons (pv 0) (pa_cons (pe_callB call_len_str (by rfl) T.z_len (by decide +kernel) (pa_cons (pv 2) pa_nil)) pa_nil))) (fun _ _ => rfl))) (pss_cons (ps_set (i := 5) sc__law_spoiled.nd rfl (by first | exact Or.inl rfl | exact Or.inr rfl) (pe_lst (pa_cons (pe_op op_add_str (pe_op op_add_str (pe_slice sl_str (pv 1) po_none (po_some (pv 3))) (pv 4)) (pe_slice sl_str (pv 1) (po_some (pv 3)) po_none)) (pa_cons (pe_op op_add_str (pe_slice sl_str (pv 1) po_none (po_some (pv 3))) (pe_slice sl_str (pv 1) (po_some (pe_op op_add (pv 3) pe_int)) po_none)) (pa_cons (pe_op op_add_str (pe_op op_add_str (pe_slice sl_str (pv 1) po_none (po_some (pv 3))) (pv 4)) (pe_slice sl_str (pv 1) (po_some (pe_op op_add (pv 3) pe_int)) po_none)) pa_nil))))) (pss_cons (ps_set (i := 5) sc__law_spoiled.nd rfl (by first | exact Or.inl rfl | exact Or.inr rfl) (pe_op op_cat (pv 5) (pe_lst (pa_cons (pe_slice sl_str (pv 1) po_none (po_some (pv 3))) (pa_cons (pe_op op_add_str (pv 1) (pv 4)) (pa_cons (pe_op op_add_str (pv 1) (pv 1)) (pa_cons (NB.pe_revS (pv 1)) (pa_cons (pe_slice sl_str (pv 1) (po_some (pv 3)) po_none) pa_nil)))))))) (pss_one (ps_ret (pe_ix ix_list (pv 5) (pe_call (ok__law_draw T) (hr.mono (by first | decide | omega)) rfl T.m__law_draw T.F__law_draw.kp T.b__law_draw .nil pass0 (pa_cons (pv 0) (pa_cons pe_int pa_nil))) (fun _ _ => rfl)))))))), ?_⟩
    refine seq_asg ?_
    refine ⟨_, rfl, _, rfl, x, rfl, by omega, _, _, rfl, rfl, p, cs, z, k, cells, _, rfl, by omega, by omega, hp, by omega, fun H1 r1 c1 m1 hp1 r10 r11 => ?_⟩
    obtain ⟨a, rfl, ha⟩ : ∃ a : Nat, r1 = (a : Int) ∧ a ≤ x.length := ⟨r1.toNat, by omega, by omega⟩
    dsimp only [gName]
    refine seq_asg ?_
    refine ⟨_, rfl, _, rfl, _, rfl, y, rfl, by omega, p, cs, z, k + 1, c1, _, rfl, by omega, by omega, hp1, by omega, fun H2 r2 c2 m2 hp2 r20 r21 => ?_⟩
    obtain ⟨b, rfl, hb⟩ : ∃ b : Nat, r2 = (b : Int) ∧ b < y.length := ⟨r2.toNat, by omega, by omega⟩
    obtain ⟨c, hc⟩ : ∃ c, y.cps.toList[b]? = some c := ⟨_, List.getElem?_eq_getElem (by rw [Array.length_toList]; exact hb)⟩
    refine ⟨y, _, c, rfl, rfl, by omega, atI_nat hc, ?_⟩
    dsimp only [gName]
    show tSeq _ _ _ [some (.ref p), some (.str x), some (.str y), some (.int (a : Int)), some (.str (one1 c)), none] _
    obtain ⟨A1, A2⟩ := cut_cnt x none (some (a : Int))
    obtain ⟨B1, B2⟩ := cut_cnt x (some (a : Int)) none
    obtain ⟨C1, C2⟩ := cut_cnt x (some ((a : Int) + 1)) none
    have o1 : (one1 c).length = 1 := rfl
    refine seq_asg ?_
    have g1 := app_cnt (cutS x none (some (a : Int))) (one1 c)
    have ea : (a : Int) + 1 = ((a + 1 : Nat) : Int) := by omega
    refine ⟨_, rfl, _, rfl, _, rfl, x, rfl, by omega, _, rfl, _, _, rfl, rfl, by omega, _, rfl, _, rfl, _, rfl, x, rfl, by omega, _, _, rfl, rfl, by omega, ?_⟩
    refine ⟨_, rfl, _, rfl, _, rfl, x, rfl, by omega, _, rfl, _, rfl, _, _, rfl, rfl, _, rfl, x, rfl, by omega, _, _, rfl, rfl, by omega, ?_⟩
    refine ⟨_, rfl, _, rfl, _, rfl, x, rfl, by omega, _, rfl, _, _, rfl, rfl, by omega, _, rfl, _, rfl, _, _, rfl, rfl, _, rfl, x, rfl, by omega, _, _, rfl, rfl, by omega, ?_⟩
    refine ⟨(by show 3 ≤ sizeLine; decide), fun l1 n1 => ?_⟩
    rw [ea]
    have s1 := same_new (o := .lst [V.str (cutS x none (some (a : Int)) ++ one1 c ++ cutS x (some (a : Int)) none), .str (cutS x none (some (a : Int)) ++ cutS x (some ((a + 1 : Nat) : Int)) none), .str (cutS x none (some (a : Int)) ++ one1 c ++ cutS x (some ((a + 1 : Nat) : Int)) none)]) n1
    have hl1 : upd H2 l1 (.lst [V.str (cutS x none (some (a : Int)) ++ one1 c ++ cutS x (some (a : Int)) none), .str (cutS x none (some (a : Int)) ++ cutS x (some ((a + 1 : Nat) : Int)) none), .str (cutS x none (some (a : Int)) ++ one1 c ++ cutS x (some ((a + 1 : Nat) : Int)) none)]) l1 = some (.lst [V.str (cutS x none (some (a : Int)) ++ one1 c ++ cutS x (some (a : Int)) none), .str (cutS x none (some (a : Int)) ++ cutS x (some ((a + 1 : Nat) : Int)) none), .str (cutS x none (some (a : Int)) ++ one1 c ++ cutS x (some ((a + 1 : Nat) : Int)) none)]) := upd_same
    have t1 := glue_cnt x a a c (Nat.le_refl _)
    have t2 := glue_cnt0 x a (a + 1) (Nat.le_succ _)
    have t3 := glue_cnt x a (a + 1) c (Nat.le_succ _)
    generalize cutS x none (some (a : Int)) ++ one1 c ++ cutS x (some (a : Int)) none = y1 at s1 hl1 t1 ⊢
    generalize cutS x none (some (a : Int)) ++ cutS x (some ((a + 1 : Nat) : Int)) none = y2 at s1 hl1 t2 ⊢
    generalize cutS x none (some (a : Int)) ++ one1 c ++ cutS x (some ((a + 1 : Nat) : Int)) none = y3 at s1 hl1 t3 ⊢
    generalize upd H2 l1 (.lst [V.str y1, .str y2, .str y3]) = H3 at s1 hl1 ⊢
    dsimp only [gName]
    show tSeq _ _ _ [some (.ref p), some (.str x), some (.str y), some (.int (a : Int)), some (.str (one1 c)), some (.ref l1)] _
    refine seq_asg ?_
    have g3 := app_cnt x x
    have g4 := app_cnt x (one1 c)
    refine ⟨_, rfl, _, rfl, _, rfl, _, rfl, x, rfl, by omega, _, rfl, _, rfl, _, _, rfl, rfl, by omega, _, rfl, _, rfl, _, _, rfl, rfl, by omega, _, rfl, x, rfl, by omega, _, rfl, _, rfl, _, rfl, x, rfl, by omega, (by show 5 ≤ sizeLine; decide), fun l2 n2 => ?_⟩
    have u1 := cut_tw x none (some (a : Int))
    have u2 := app_tw x c
    have u3 := two_tw x
    have u4 := rev_tw x
    have u5 := cut_tw x (some (a : Int)) none
    have s2 := same_new (o := .lst [V.str (cutS x none (some (a : Int))), .str (x ++ one1 c), .str (x ++ x), .str (revS x), .str (cutS x (some (a : Int)) none)]) n2
    have hl2 : upd H3 l2 (.lst [V.str (cutS x none (some (a : Int))), .str (x ++ one1 c), .str (x ++ x), .str (revS x), .str (cutS x (some (a : Int)) none)]) l2 = some (.lst [V.str (cutS x none (some (a : Int))), .str (x ++ one1 c), .str (x ++ x), .str (revS x), .str (cutS x (some (a : Int)) none)]) := upd_same
    generalize cutS x none (some (a : Int)) = y4 at s2 hl2 u1 ⊢
    generalize x ++ one1 c = y5 at s2 hl2 u2 ⊢
    generalize x ++ x = y6 at s2 hl2 u3 ⊢
    generalize revS x = y7 at s2 hl2 u4 ⊢
    generalize cutS x (some (a : Int)) none = y8 at s2 hl2 u5 ⊢
    generalize upd H3 l2 (.lst [V.str y4, .str y5, .str y6, .str y7, .str y8]) = H4 at s2 hl2 ⊢
    have hp4 := (hp2.same s1).same s2
    refine ⟨l1, l2, _, _, rfl, rfl, s2 _ _ hl1, hl2, (by show 8 ≤ sizeLine; decide), fun l3 n3 => ?_⟩
    dsimp only [gName]
    show tRet _ _ [some (.ref p), some (.str x), some (.str y), some (.int (a : Int)), some (.str (one1 c)), some (.ref l3)] _
    have s3 := same_new (o := .lst ([V.str y1, .str y2, .str y3] ++ [V.str y4, .str y5, .str y6, .str y7, .str y8])) n3
    have hl3 : upd H4 l3 (.lst ([V.str y1, .str y2, .str y3] ++ [V.str y4, .str y5, .str y6, .str y7, .str y8])) l3 = some (.lst ([V.str y1, .str y2, .str y3] ++ [V.str y4, .str y5, .str y6, .str y7, .str y8])) := upd_same
    have nl3 : l3 ∉ [p, cs] := hp4.nn n3
    refine ⟨_, rfl, _, rfl, p, cs, z, k + 2, c2, 8, rfl, by decide, by decide, ?_, by omega, fun H5 r5 c5 m5 hp5 r50 r51 => ?_⟩
    · rw [show k + 1 + 1 = k + 2 by omega] at hp4
      exact hp4.same s3
    obtain ⟨i, rfl, hi⟩ := nat_of r50 r51
    have fin : ∀ x', Twice x x' → Q (.str x') H5 := fun x' tw => q H5 x' c5 ((((((m1.trans m2).trans (Sm.same s1)).trans (Sm.same s2)).trans (Sm.same s3)).trans m5)) (by rw [show k + 3 = k + 2 + 1 by omega]; exact hp5) tw
    have hl5 := m5 _ _ hl3 nl3
    obtain ⟨x', hx', tw⟩ : ∃ x', ([V.str y1, V.str y2, V.str y3] ++ [V.str y4, V.str y5, V.str y6, V.str y7, V.str y8])[i]? = some (V.str x') ∧ Twice x x' := by
      rcases i with _ | _ | _ | _ | _ | _ | _ | _ | i
      · exact ⟨_, rfl, t1⟩
      · exact ⟨_, rfl, t2⟩
      · exact ⟨_, rfl, t3⟩
      · exact ⟨_, rfl, u1⟩
      · exact ⟨_, rfl, u2⟩
      · exact ⟨_, rfl, u3⟩
      · exact ⟨_, rfl, u4⟩
      · exact ⟨_, rfl, u5⟩
      · omega
    exact ⟨l3, _, _, _, rfl, rfl, .inl (.inl hl5), atI_nat hx', fin x' tw⟩

end NB

namespace NB
open PySem PySem.Spec PyProof.Rows L2 LamX
/-! ### _law_told_of -/
theorem sc__law_told_of : FnScope ["_law_lore", "_law_text_here", "_law_found", "e"] ["_law_lore", "_law_text_here"] (defScope s__law_told_of) := ⟨rfl, rfl, rfl, by decide +kernel, rfl, by decide +kernel, by decide +kernel⟩
/-- what reading gives, letter by letter -/
def prR (pl : List (Str × Int)) (z : Str) : Tm ⊕ Nat := match (parseS pl z).1 with
  | some t => .inl t
  | none => .inr (parseS pl z).2
theorem prR_read {pl : List (Str × Int)} (ok : PlOk pl) {f : Nat} {z : Str} (h : z.cps.toList.count 40 < f) : prR pl z = readL pl f z := by
  obtain ⟨a, b⟩ := read_parse ok h
  unfold prR
  cases e : readL pl f z with
  | inl t => rw [a t e]
  | inr w => rw [b w e]
def sp__law_told_of (K : PySem.W.Frag) (C : Addr) : Sp := fun vs H Q _ => ∃ p v sg ls b, vs = [.ref p, v] ∧ LoreAt K C H p sg ls ∧ SgFew sg ∧ StrV K H v b ∧
  (b = true → ∃ z, v = .str z ∧ z.length ≤ 100000 ∧ ∀ H' t, Same H H' → Dp K H' (.ref t) (gotD (prR sg.reverse z)) → Q (.ref t) H') ∧
  (b = false → ∀ H' t, Same H H' → Dp K H' (.ref t) (gotD (.inr 0)) → Q (.ref t) H')
theorem ok__law_told_of {P : Program} {w : World} {K : PySem.W.Frag} {mg : Str → Option Value} {base : Heap} (T : Tx K mg)  : FnOk P w K mg base CX0 6 T.a__law_told_of T.d__law_told_of ["_law_lore", "_law_text_here"] (sp__law_told_of K T.c_Lore) := by
  refine T.F__law_told_of.ok sc__law_told_of (fun vs H Q E h => ?_) (fun cdv A outer s H vs Q E hr h => ?_)
  · obtain ⟨p, v, sg, ls, b, rfl, _⟩ := h
    rfl
  · obtain ⟨p, v, sg, ls, b, rfl, hp, hfew, hv, k1, k2⟩ := h
    have hu := hu_of hr
    have hzl : sizeLine = 16777216 := rfl
    refine ⟨_, (pss_cons (ps_set (i := 2) sc__law_told_of.nd rfl (by first | exact Or.inl rfl | exact Or.inr rfl) (pe_tup (pa_cons pe_str pa_nil))) (pss_cons (ps_try_as (i := 3) rfl rfl sc__law_told_of.nd rfl rfl ⟨rfl, by decide, .inl T.m_BadText⟩ L2.takes0 (fun W pn xe tk po => by exact (pss_one (ps_set (i := 2) sc__law_told_of.nd rfl (by first | exact Or.inl rfl | exact Or.inr rfl) (pe_tup (pa_cons pe_str (pa_cons (pe_callS (ok_read_term T) (hr.mono (by first | decide | omega)) rfl T.m_read_term T.F_read_term.kp T.b_read_term (fun σ => passAt tk σ) (pa_cons (pv 0) (pa_cons (pv 1) pa_nil))) pa_nil)))))) (fun a oe cls d pn hz hf => by exact (pss_one (ps_set (i := 2) sc__law_told_of.nd rfl (by first | exact Or.inl rfl | exact Or.inr rfl) (pe_ifExp (PW.pt (pw_and (pt_val (pe_callB (call_isX T.ex_BadText hz hf) (by rfl) T.z_isinstance (by decide +kernel) (by exact (pa_cons (pv 3) (pa_cons (pe_glob (v := .ref T.c_LoreError) rfl T.m_LoreError rfl) pa_nil))))) (pw_and1 (pt_val (pe_callB (call_isX T.ex_BadText hz hf) (by rfl) T.z_isinstance (by decide +kernel) (by exact (pa_cons (pv 3) (pa_cons (pe_bltn (v := .ty "ValueError") (u := .type "ValueError") (by rfl) T.z_ValueError (by decide +kernel) rfl) pa_nil)))))))) (pe_tup (pa_cons pe_str (pa_cons (pe_xf (NB.ExcC.xf T.ex_BadText) T.n_BadText_place hz hf (by exact (pv 3))) pa_nil))) (pe_tup (pa_cons pe_str pa_nil))))))) (pss_one (ps_ret (pv 2))))), ?_⟩
    refine seq_asg ?_
    refine ⟨(by show 1 ≤ sizeLine; decide), fun t0 n0 => ?_⟩
    have s0 := same_new (o := .tup [V.str "other"]) n0
    dsimp only [gName]
    refine seq_open (fun σ' G => ∃ t, ∃ w3, σ' = [some (.ref p), some v, some (.ref t), w3] ∧ Q (.ref t) G) (fun NX hNX => ?_) (fun σ' G h => ?_)
    · obtain ⟨t, t1, t2⟩ := id hv
      have sv : StrV K (upd H t0 (.tup [V.str "other"])) v b := ⟨t, NB.TyX.same s0 t1, t2⟩
      have hp0 : LoreAt K T.c_Lore (upd H t0 (.tup [V.str "other"])) p sg ls := by
        obtain ⟨dx, sa, lv, h1, h2, h3⟩ := id hp
        exact ⟨dx, sa, lv, s0 _ _ h1, SgsAt.imm (Imm.of s0) h2, Dp.same s0 _ _ h3⟩
      refine ⟨_, rfl, _, rfl, p, v, sg, ls, b, rfl, hp0, hfew, sv, fun hb => ?_, fun hb => ?_⟩
      · obtain ⟨z, rfl, hz, g⟩ := k1 hb
        refine ⟨z, rfl, hz, fun t ht H' u s1 du => ?_, fun hn H' dd s1 e => ?_⟩
        · refine ⟨(by show 2 ≤ sizeLine; decide), fun t3 n3 => ?_⟩
          have s3 := same_new (o := .tup [V.str "term", u]) n3
          dsimp only [gName]
          refine hNX _ _ ⟨t3, none, rfl, g _ t3 ((s0.trans s1).trans s3) ?_⟩
          unfold prR
          rw [ht]
          exact .tup (.inl (.inl upd_same)) (.cons (.str _) (.cons (Dp.same s3 _ _ du) .nil))
        · refine ⟨true, T.e_BadText_BadText, fun _ a na => ?_, fun z => absurd z (by decide)⟩
          refine ⟨_, rfl, _, _, true, dd, _, rfl, rfl, e, rfl, (fun u hu => hu), T.k_BadText_LoreError, _, rfl, ?_⟩
          refine ifT ?_
          refine ⟨_, rfl, _, _, true, dd, _, rfl, rfl, e, rfl, (fun u hu => hu), T.k_BadText_ValueError, _, rfl, ?_⟩
          refine ifT ?_
          refine ⟨_, rfl, rfl, rfl, dd, _, _, rfl, e, rfl, (by show 2 ≤ sizeLine; decide), fun t3 n3 => ?_⟩
          have s3 := same_new (o := .tup [V.str "text", V.int ((parseS sg.reverse z).2 : Int)]) n3
          dsimp only [gName]
          refine hNX _ _ ⟨t3, none, rfl, g _ t3 ((s0.trans s1).trans s3) ?_⟩
          unfold prR
          rw [hn]
          exact .tup (.inl (.inl upd_same)) (.cons (.str _) (.cons (.int _) .nil))
      · intro H' dd s1 e
        refine ⟨true, T.e_BadText_BadText, fun _ a na => ?_, fun z => absurd z (by decide)⟩
        refine ⟨_, rfl, _, _, true, dd, _, rfl, rfl, e, rfl, (fun u hu => hu), T.k_BadText_LoreError, _, rfl, ?_⟩
        refine ifT ?_
        refine ⟨_, rfl, _, _, true, dd, _, rfl, rfl, e, rfl, (fun u hu => hu), T.k_BadText_ValueError, _, rfl, ?_⟩
        refine ifT ?_
        refine ⟨_, rfl, rfl, rfl, dd, _, _, rfl, e, rfl, (by show 2 ≤ sizeLine; decide), fun t3 n3 => ?_⟩
        have s3 := same_new (o := .tup [V.str "text", V.int 0]) n3
        dsimp only [gName]
        refine hNX _ _ ⟨t3, none, rfl, k2 hb _ t3 ((s0.trans s1).trans s3) ?_⟩
        exact .tup (.inl (.inl upd_same)) (.cons (.str _) (.cons (.int _) .nil))
    · obtain ⟨t, w3, rfl, h⟩ := h
      exact ⟨_, rfl, h⟩

end NB

namespace NB
open PySem PySem.Spec PyProof.Rows L2 LamX
/-! what is read: names, terms' texts -/
theorem mem_of_look {sg : List Sg} {s : Str} {m : Int} (h : lookS sg.reverse s = some m) : (s, m) ∈ sg := List.mem_reverse.mp (lookS_mem h)
theorem sign_of {sg : List Sg} (ok : SgOk sg) {e : Sg} (h : e ∈ sg) : signS e.1 = true := by
  obtain ⟨_, hall, _⟩ := signs_parts ok.signs
  have q1 := List.all_eq_true.mp hall (sg1 e) (List.mem_map.mpr ⟨e, h, rfl⟩)
  obtain ⟨s, n⟩ := e
  unfold sg1 placedD at q1
  rw [Bool.and_eq_true_iff] at q1
  exact q1.1
theorem sign_len {s : Str} (h : signS s = true) : 1 ≤ s.length ∧ s.length ≤ 8 := by
  unfold signS at h
  rw [Bool.and_eq_true_iff, Bool.and_eq_true_iff] at h
  exact ⟨of_decide_eq_true h.1, of_decide_eq_true h.2.1⟩
structure NmOk (sg : List Sg) : Prop where
  pl : PlOk sg.reverse
  word : ∀ s m, lookS sg.reverse s = some m → signS s = true
  two : ∀ s m, lookS sg.reverse s = some m → m ≤ 2
  few : SgFew sg
theorem NmOk.of {sg : List Sg} (ok : SgOk sg) : NmOk sg := by
  have few := ok.few
  refine ⟨⟨?_, fun s n h => ((ok.each _ (mem_of_look h)).2.2.2.1 : 0 ≤ n)⟩, fun s m h => sign_of ok (mem_of_look h), fun s m h => ((ok.each _ (mem_of_look h)).2.2.2.2 : m ≤ 2), by omega, fun e h => ?_⟩
  · cases h : lookS sg.reverse "" with
    | none => rfl
    | some m =>
      have z := (sign_len (sign_of ok (mem_of_look h))).1
      exact absurd (show 1 ≤ 0 from z) (by decide)
  · have := (sign_len (sign_of ok h)).2
    omega
theorem NmOk.hund {sg : List Sg} (o : NmOk sg) : ∀ s m, lookS sg.reverse s = some m → m ≤ 100 := fun s m h => by
  have := o.two s m h
  omega
theorem fits_each {pl : List (Str × Int)} : ∀ ps : List Tm, fitsA pl (Tm.datas ps) = true → ∀ p ∈ ps, fitsD pl (Tm.data p) = true
  | [], _, p, m => nomatch m
  | q :: ps, h, p, m => by
    rw [Tm.datas, fitsA, Bool.and_eq_true_iff] at h
    rcases List.mem_cons.mp m with z | z
    · rw [z]
      exact h.1
    · exact fits_each ps h.2 p z
theorem fit_node {pl : List (Str × Int)} {s : Str} {ps : List Tm} (h : fitsD pl (Tm.data (.mk s ps)) = true) : (∃ m, lookS pl s = some m ∧ (ps.length : Int) = m) ∧ ∀ p ∈ ps, fitsD pl (Tm.data p) = true := by
  rw [Tm.data, fitsD_node, Bool.and_eq_true_iff] at h
  refine ⟨?_, fits_each ps h.2⟩
  cases e : lookS pl s with
  | none =>
    rw [e] at h
    exact absurd h.1 (fun z => nomatch z)
  | some n =>
    rw [e] at h
    have := of_decide_eq_true h.1
    rw [Tm.datas_len] at this
    exact ⟨n, rfl, this⟩
/-- what fits is made of words -/
theorem fit_wd {pl : List (Str × Int)} (hs : ∀ s m, lookS pl s = some m → signS s = true) : ∀ (d : Nat) (t : Tm), dpt t ≤ d → fitsD pl (Tm.data t) = true → Wd t
  | 0, t, hd, _ => by
    have := dpt_pos t
    omega
  | d + 1, .mk s ps, hd, h => by
    obtain ⟨⟨m, e, _⟩, hp⟩ := fit_node h
    rw [dpt] at hd
    exact wd_made (hs s m e) fun p mp => fit_wd hs d p (by have := dpts_mem mp; omega) (hp p mp)
def inn : Nat → Nat
  | 0 => 0
  | d + 1 => 1 + 2 * inn d
theorem let_no40 : ∀ c ∈ lettersZ.cps.toList, c ≠ 40 := by decide +kernel
theorem sign_no40 {s : Str} (h : signS s = true) : s.cps.toList.count 40 = 0 := List.count_eq_zero.mpr fun m => let_no40 40 (sign_letters h 40 m) rfl
/-- how many brackets a term's text has -/
theorem ct_cnt {pl : List (Str × Int)} (hs : ∀ s m, lookS pl s = some m → signS s = true) (h2 : ∀ s m, lookS pl s = some m → m ≤ 2) : ∀ (d : Nat) (t : Tm), dpt t ≤ d + 1 → fitsD pl (Tm.data t) = true → (ct t).count 40 ≤ inn d
  | d, .mk s [], hd, h => by
    obtain ⟨⟨m, e, _⟩, hp⟩ := fit_node h
    rw [ct, cb, List.append_nil, sign_no40 (hs s m e)]
    exact Nat.zero_le _
  | 0, .mk s (p :: ps), hd, h => by
    rw [dpt, dpts] at hd
    have := dpt_pos p
    omega
  | d + 1, .mk s [p], hd, h => by
    obtain ⟨⟨m, e, _⟩, hp⟩ := fit_node h
    rw [dpt, dpts] at hd
    have i1 := ct_cnt hs h2 d p (by omega) (hp p (List.mem_cons_self ..))
    rw [ct, cb, cm, List.count_append, sign_no40 (hs s m e), List.count_cons, List.count_append, List.count_append, inn]
    have e1 : List.count 40 ([] : List Nat) = 0 := rfl
    have e2 : List.count 40 [41] = 0 := rfl
    have e3 : (if (40 : Nat) == 40 then 1 else 0) = 1 := rfl
    omega
  | d + 1, .mk s [p, q], hd, h => by
    obtain ⟨⟨m, e, _⟩, hp⟩ := fit_node h
    rw [dpt, dpts, dpts] at hd
    have i1 := ct_cnt hs h2 d p (by omega) (hp p (List.mem_cons_self ..))
    have i2 := ct_cnt hs h2 d q (by omega) (hp q (List.mem_cons_of_mem _ (List.mem_cons_self ..)))
    rw [ct, cb, cm, cm, List.count_append, sign_no40 (hs s m e), List.count_cons, List.count_append, List.count_append, List.count_cons, List.count_append, inn]
    have e1 : List.count 40 ([] : List Nat) = 0 := rfl
    have e2 : List.count 40 [41] = 0 := rfl
    have e3 : (if (40 : Nat) == 40 then 1 else 0) = 1 := rfl
    have e4 : (if (44 : Nat) == 40 then 1 else 0) = 0 := rfl
    omega
  | d + 1, .mk s (p :: q :: r :: ps), hd, h => by
    obtain ⟨⟨m, e, em⟩, hp⟩ := fit_node h
    have := h2 s m e
    rw [List.length_cons, List.length_cons, List.length_cons] at em
    omega
/-- a text that can be read -/
structure TxOk (z : Str) (n m : Nat) : Prop where
  len : z.length ≤ n
  cnt : z.cps.toList.count 40 ≤ m
theorem TxOk.twice {z z' : Str} {n m : Nat} (h : TxOk z n m) (w : Twice z z') : TxOk z' (2 * n + 1) (2 * m + 1) := by
  obtain ⟨a, b⟩ := h
  obtain ⟨c, d⟩ := w
  exact ⟨by omega, by omega⟩
theorem TxOk.le {z : Str} {n m n' m' : Nat} (h : TxOk z n m) (a : n ≤ n') (b : m ≤ m') : TxOk z n' m' := by
  obtain ⟨c, d⟩ := h
  exact ⟨by omega, by omega⟩
theorem text_ok {sg : List Sg} (ok : SgOk sg) {d : Nat} (hd : d ≤ 3) {t : Tm} (h : TmDr sg d t) : Wd t ∧ TxOk (txT t) 1600 7 := by
  have o := NmOk.of ok
  have dp := h.dp
  have w := fit_wd o.word 4 t (by omega) h.ok.fit
  have l := txT_len t w.sh
  have s1 := h.sz
  have s2 := siz_mono hd
  have s3 : siz 3 = 15 := by decide
  refine ⟨w, by omega, ?_⟩
  rw [txT_ct]
  have c := ct_cnt o.word o.two 3 t (by omega) h.ok.fit
  have e : inn 3 = 7 := by decide
  omega
theorem six_ok : SgOk [("a", 0), ("ab", 1), ("abc", 0), ("b", 2), ("bab", 1), ("c", 0)] := SgOk.of (by decide +kernel)
theorem af_ok : SgOk [("a", 0), ("f", 1)] := SgOk.of (by decide +kernel)
theorem make_lore {K : PySem.W.Frag} {C : Addr} {H : Hp} {sg : List Sg} {ls : List Ln} {Tt : List (Addr × Str)} {sa x dx : Addr} {lv : V} {R : VK} (nx : H x = none) (ndx : H dx = none) (hsg : SgsAt K H sa sg) (hok : signsD (sgsD sg) = true) (hsh : shortD (sgsD sg) = true) (hl : Dp K H lv (lnsD ls)) (hll : ls.length ≤ 24) (hln : ∀ l ∈ ls, LnOk sg l) (hcn : cntL ls ≤ 100000) (hto : (toldB ls).length ≤ 60) (hT : Tabs Tt H)
    (k : ∀ H', Fr Tt [] H H' → LoreAt K C H' x sg ls → R .non H') : sp_Lore___init__ K C Tt (.ref x :: ([.ref sa, lv] ++ [])) (upd (upd H dx (.own x)) x (.ins C dx [])) R E0 := by
  have s2 : Same H (upd (upd H dx (.own x)) x (.ins C dx [])) := fun b o e => by
    rw [upd_ne (ne_of_none e nx), upd_ne (ne_of_none e ndx)]
    exact e
  refine ⟨x, dx, sa, lv, sg, ls, rfl, upd_same, hsg.imm (Imm.of s2), hok, hsh, Dp.same s2 _ _ hl, hll, hln, hcn, hto, hT.ext s2, fun H2 f2 h2 => ?_⟩
  have f3 : Fr Tt [x] H H2 := (Fr.mono (S := []) (Fr.same s2) (fun b z => nomatch z)).trans f2
  have f4 : Fr Tt [] H H2 := f3.drop fun b hb => .inr (by rw [mem1 hb]; exact nx)
  have i4 := f4.kp.imm (fun b z => nomatch z)
  exact k H2 f4 ⟨dx, sa, lv, h2, hsg.imm i4, Dp.imm i4 _ _ (nl_lnsD ls) hl⟩
theorem strV_str {K : PySem.W.Frag} {H : Hp} (z : Str) : StrV K H (.str z) true := (Jp.str z).tyStr
/-- both are asked for one text -/
theorem asked {K : PySem.W.Frag} {C : Addr} {H : Hp} {lo : Addr} {sg : List Sg} {z : Str} {n m : Nat} (o : NmOk sg) (hlo : LoreAt K C H lo sg []) (tx : TxOk z n m) (hn : n ≤ 100000) (hm : m < 40) {R : V → Hp → Prop}
    (h : ∀ H1 t1, Same H H1 → Dp K H1 (.ref t1) (gotD (readL sg.reverse 40 z)) → R (.ref t1) H1) : sp__law_told_of K C [.ref lo, .str z] H (fun v H1 => R v H1) E0 := by
  refine ⟨lo, .str z, sg, [], true, rfl, hlo, o.few, strV_str z, fun _ => ⟨z, rfl, Nat.le_trans tx.len hn, fun H' t s d => ?_⟩, fun y => nomatch y⟩
  rw [prR_read o.pl (Nat.lt_of_le_of_lt tx.cnt hm)] at d
  exact h H' t s d
/-- a display of signs -/
def sgTA : List Sg → TA
  | [] => tNil
  | e :: r => tCons (tTupZ (tCons (tC (.str e.1)) (tCons (tC (.int e.2)) tNil))) (sgTA r)
theorem sgs_lit {K : PySem.W.Frag} : ∀ (sg : List Sg) (σ : L2.St) (H : Hp) (Q : List V → Hp → Prop), (∀ H' xs, Same H H' → DpAll K H' xs (sg.map sg1) → Q xs H') → sgTA sg σ H Q
  | [], σ, H, Q, k => k H [] (Same.refl H) .nil
  | e :: r, σ, H, Q, k => by
    refine ⟨(by show 2 ≤ sizeLine; decide), fun a o o1 o2 n => ?_⟩
    have s1 := same_new (o := .frz o (.tup [.str e.1, .int e.2])) n
    refine sgs_lit (K := K) r σ _ _ fun H' xs s2 d => k H' (.ref a :: xs) (s1.trans s2) ?_
    rw [List.map_cons]
    exact .cons (.tup (.inl (.inr ⟨o, s2 _ _ upd_same⟩)) (.cons (.str _) (.cons (.int _) .nil))) d
theorem sgs_tup {K : PySem.W.Frag} {sg : List Sg} (hl : sg.length ≤ 100) {σ : L2.St} {H : Hp} {Q : VK} (k : ∀ H' sa, Same H H' → SgsAt K H' sa sg → Q (.ref sa) H') : tTupZ (sgTA sg) σ H Q := by
  refine sgs_lit (K := K) sg σ H _ fun H' xs s d => ⟨?_, fun a o o1 o2 n => ?_⟩
  · have := d.len
    rw [List.length_map] at this
    show _ ≤ 16777216
    omega
  · have s2 := same_new (o := .frz o (.tup xs)) n
    exact k _ a (s.trans s2) ⟨xs, .inl ⟨o, o1, o2, upd_same⟩, DpAll.same s2 _ _ d⟩
theorem lns_tup {K : PySem.W.Frag} {σ : L2.St} {H : Hp} {Q : VK} (k : ∀ H' v, Same H H' → Dp K H' v (lnsD []) → Q v H') : tTupZ tNil σ H Q :=
  ⟨(by show 0 ≤ sizeLine; decide), fun a o o1 o2 n => k _ _ (same_new n) (.tup (.inl (.inr ⟨o, upd_same⟩)) .nil)⟩
/-- what stands through a turn -/
structure L8 (K : PySem.W.Frag) (C : Addr) (Tt : List (Addr × Str)) (p cs : Addr) (z : Int) (sa lo pd : Addr) (sg : List Sg) (k : Int) (G : Hp) : Prop where
  pool : ∃ c, PoolAt G p cs z k c
  sgs : SgsAt K G sa sg
  lore : LoreAt K C G lo sg []
  dict : G pd = some (.dK (mergeK [] (sg.map kvS)))
  out : pd ∉ [p, cs]
  tabs : Tabs Tt G
theorem L8.same {K : PySem.W.Frag} {C : Addr} {Tt : List (Addr × Str)} {p cs : Addr} {z : Int} {sa lo pd : Addr} {sg : List Sg} {k : Int} {G G' : Hp} (h : L8 K C Tt p cs z sa lo pd sg k G) (s : Same G G') : L8 K C Tt p cs z sa lo pd sg k G' := by
  obtain ⟨⟨c, h1⟩, h2, h3, h4, h5, h6⟩ := h
  exact ⟨⟨c, h1.same s⟩, h2.imm (Imm.of s), h3.fr (Fr.same (T := Tt) (S := []) s), s _ _ h4, h5, h6.ext s⟩
theorem L8.sm {K : PySem.W.Frag} {C : Addr} {Tt : List (Addr × Str)} {p cs : Addr} {z : Int} {sa lo pd : Addr} {sg : List Sg} {k k' : Int} {c c' : List Int} {G G' : Hp} (h : L8 K C Tt p cs z sa lo pd sg k G) (hp : PoolAt G p cs z k c) (m : Sm [p, cs] G G') (hp' : PoolAt G' p cs z k' c') : L8 K C Tt p cs z sa lo pd sg k' G' := by
  obtain ⟨_, h2, h3, h4, h5, h6⟩ := h
  exact ⟨⟨c', hp'⟩, h2.imm (m.imm hp.ow), h3.sm hp m, m _ _ h4 h5, h5, m.tabs hp.ow h6⟩
theorem L8.fr {K : PySem.W.Frag} {C : Addr} {Tt : List (Addr × Str)} {p cs : Addr} {z : Int} {sa lo pd : Addr} {sg : List Sg} {k : Int} {G G' : Hp} (h : L8 K C Tt p cs z sa lo pd sg k G) (f : Fr Tt [] G G') : L8 K C Tt p cs z sa lo pd sg k G' := by
  obtain ⟨⟨c, h1⟩, h2, h3, h4, h5, h6⟩ := h
  exact ⟨⟨c, h1.fr f⟩, h2.imm f.imm0, h3.fr f, f.kp _ _ h4 (fun z => nomatch z) (fun _ z => nomatch z), h5, f.tb h6⟩
theorem L8.nm {K : PySem.W.Frag} {C : Addr} {Tt : List (Addr × Str)} {p cs : Addr} {z : Int} {sa lo pd : Addr} {sg : List Sg} {k : Int} {G : Hp} (h : L8 K C Tt p cs z sa lo pd sg k G) (o : NmOk sg) : NmAt G pd sg.reverse := nm_merge h.dict o.few.1 o.few.2
def dbl : Nat → Nat → Nat
  | n, 0 => n
  | n, j + 1 => 2 * dbl n j + 1
theorem dbl_3 {m : Nat} (h : m < 3) : dbl 1600 m ≤ 6403 ∧ dbl 7 m ≤ 31 := by
  rcases m with _ | _ | _ | m
  · decide
  · decide
  · decide
  · omega
theorem join_ok {ss : List Str} (h : ∀ s ∈ ss, s.length = 1) (hl : ss.length ≤ 7) : TxOk (Txt.join "" ss) 7 7 ∧ (ss.map fun x => x.length).sum + ss.length * ("" : Str).length ≤ 16777216 := by
  have e : (ss.map fun x => x.length).sum = ss.length := by
    have : (ss.map fun x => x.length) = List.replicate ss.length 1 := List.eq_replicate_iff.mpr ⟨List.length_map .., fun b m => by
      obtain ⟨s, ms, rfl⟩ := List.mem_map.mp m
      exact h s ms⟩
    rw [this, List.sum_replicate_nat]
    omega
  have e0 : ("" : Str).length = 0 := rfl
  have l := txJ_len "" ss
  have l2 : (ss.map (·.length)).sum = ss.length := e
  rw [e0] at l ⊢
  have c := List.count_le_length (a := 40) (l := (Txt.join "" ss).cps.toList)
  rw [Array.length_toList] at c
  have c : List.count 40 (Txt.join "" ss).cps.toList ≤ (Txt.join "" ss).length := c
  exact ⟨⟨by omega, by omega⟩, by omega⟩
theorem rep_cnt (x : Str) (k : Nat) : (repS x k).cps.toList.count 40 = k * x.cps.toList.count 40 := by
  rw [repS_list, List.count_flatten, List.map_replicate, List.sum_replicate_nat]
theorem f_text {n : Nat} (h : n ≤ 30) : TxOk (repS "f(" n ++ "a" ++ repS ")" n) 91 30 := by
  obtain ⟨a1, a2⟩ := app_cnt (repS "f(" n) "a"
  obtain ⟨b1, b2⟩ := app_cnt (repS "f(" n ++ "a") (repS ")" n)
  rw [repS_len] at a1
  rw [repS_len] at b1
  rw [rep_cnt] at a2
  rw [rep_cnt] at b2
  have e1 : ("f(" : Str).length = 2 := by decide +kernel
  have e2 : (")" : Str).length = 1 := by decide +kernel
  have e3 : ("a" : Str).length = 1 := by decide +kernel
  have e4 : ("f(" : Str).cps.toList.count 40 = 1 := by decide +kernel
  have e5 : (")" : Str).cps.toList.count 40 = 0 := by decide +kernel
  have e6 : ("a" : Str).cps.toList.count 40 = 0 := by decide +kernel
  rw [e1, e3] at a1
  rw [e2] at b1
  rw [e4, e6] at a2
  rw [e5] at b2
  exact ⟨by omega, by omega⟩
theorem f_cut {x : Str} (h : TxOk x 91 30) (lo hi : Option Int) : TxOk (cutS x lo hi) 92 31 := by
  obtain ⟨a, b⟩ := h
  obtain ⟨c, d⟩ := cut_cnt x lo hi
  exact ⟨by omega, by omega⟩
theorem f_app {x y : Str} (h : TxOk x 91 30) (hy : y.length = 1) : TxOk (x ++ y) 92 31 := by
  obtain ⟨a, b⟩ := h
  obtain ⟨c, d⟩ := app_cnt x y
  have e := List.count_le_length (a := 40) (l := y.cps.toList)
  rw [Array.length_toList] at e
  have e : List.count 40 y.cps.toList ≤ y.length := e
  exact ⟨by omega, by omega⟩
theorem f_glue {x y : Str} (h : TxOk x 91 30) (hy : y.length = 1) (a : Nat) : TxOk (cutS x none (some (a : Int)) ++ y ++ cutS x (some ((a + 1 : Nat) : Int)) none) 92 31 := by
  obtain ⟨h1, h2⟩ := part_cnt x a (a + 1) (Nat.le_succ _)
  obtain ⟨p1, p2⟩ := app_cnt (cutS x none (some (a : Int))) y
  obtain ⟨q1, q2⟩ := app_cnt (cutS x none (some (a : Int)) ++ y) (cutS x (some ((a + 1 : Nat) : Int)) none)
  have e := List.count_le_length (a := 40) (l := y.cps.toList)
  rw [Array.length_toList] at e
  have e : List.count 40 y.cps.toList ≤ y.length := e
  obtain ⟨a, b⟩ := h
  exact ⟨by omega, by omega⟩
theorem prR_nil {pl : List (Str × Int)} (ok : PlOk pl) : prR pl "" = .inr 1 := by
  rw [prR_read ok (f := 40) (by decide +kernel)]
  unfold readL
  show (match rdTerm pl 40 [] 0 with | .bad w => Sum.inr w | .good t l k => if l = [] then .inl t else .inr (k + 1)) = _
  rw [rdTerm, rdWord, ok.ne]
  rfl
theorem ifs_open {tt : TT} {g1 g2 : Ends → L2.St → Hp → Prop} {D : Ends} {σ : L2.St} {H : Hp} (h : tt σ H fun b H1 => if b = true then g1 D σ H1 else g2 D σ H1) : tIfS tt g1 g2 D σ H := h
theorem notb_open {te : TE} {σ : L2.St} {H : Hp} {Q : Bool → Hp → Prop} (h : te σ H fun x H1 => ∃ b, x = V.bl b ∧ Q (!b) H1) : tNot (tB te) σ H Q := h
theorem call_open {sp : Sp} {dvs : List V} {E : XK} {te : TE} {t : TA} {σ : L2.St} {H : Hp} {Q : VK} (h : te σ H fun x H1 => t σ H1 fun xs H2 => sp ((x :: xs) ++ dvs) H2 Q E) : tCall sp dvs E (tCons te t) σ H Q := h
theorem make_open {C : Addr} {sp : Sp} {dvs : List V} {E : XK} {te : TE} {t : TA} {σ : L2.St} {H : Hp} {Q : VK} (h : te σ H fun y H1 => t σ H1 fun ys H2 => ∀ x dx, H2 x = none → H2 dx = none → dx ≠ x → sp (.ref x :: ((y :: ys) ++ dvs)) (upd (upd H2 dx (.own x)) x (.ins C dx [])) (fun v H3 => v = .non ∧ Q (.ref x) H3) E) : tMake C sp dvs E (tCons te t) σ H Q := h

end NB

namespace NB
open PySem PySem.Spec PyProof.Rows L2 LamX
/-! ### law -/
theorem sc_law : FnScope ["_law_script", "_law_pool_here", "_law_turn", "_law_signs_here", "_law_lore", "_law_names", "_law_again", "_law_text_here", "_law_once", "_law_k", "_law_many", "_law_at", "_law_thing"] ["_law_script"] (defScope s_law) := ⟨rfl, rfl, rfl, by decide +kernel, rfl, by decide +kernel, by decide +kernel⟩
def sp_law (K : PySem.W.Frag) (Tt : List (Addr × Str)) : Sp := fun vs H Q _ => ∃ (a : Addr) (ns : List Int), vs = [.ref a] ∧ SqL K H a (ns.map V.int) ∧ ns.length ≤ 63 ∧ Tabs Tt H ∧ ∀ H', Q (.bl true) H'
theorem ok_law {P : Program} {w : World} {K : PySem.W.Frag} {mg : Str → Option Value} {base : Heap} (T : Tx K mg) (Tt : List (Addr × Str)) (GT : FnOk P w K mg base CX0 4 T.a_Bank_take T.d_Bank_take ["self", "term"] (sp_Bank_take P w K T.c_Bank Tt)) (hTI : ∀ H a dx fs, H a = some (.ins T.c_Lore dx fs) → TyX K H (.ref a) (.ref T.c_Lore)) (hKS : PySem.W.kitOne K (.ref T.c_Lore) (.type "str") = some false) : FnG P w K mg base CX0 43 T.a_law T.d_law ["_law_script"] (sp_law K Tt) := by
  refine fun_okG T.F_law sc_law (fun vs H Q E h => ?_) (fun cdv A outer s H vs Q E hg hr h => ?_)
  · obtain ⟨a, ns, rfl, _⟩ := h
    rfl
  · obtain ⟨a, ns, rfl, hs, hl, hT, q_⟩ := h
    have GTerm := ok__law_term (P := P) (w := w) (base := base) T 39
    have GText := ok__law_text (P := P) (w := w) (base := base) T 40
    have hu := hu_of hr
    have hzl : sizeLine = 16777216 := rfl
    refine ⟨_, (pss_cons (ps_set (i := 1) sc_law.nd rfl (by first | exact Or.inl rfl | exact Or.inr rfl) (pe_call (ok__law_pool T) (hr.mono (by first | decide | omega)) rfl T.m__law_pool T.F__law_pool.kp T.b__law_pool .nil pass0 (pa_cons (pv 0) pa_nil))) (pss_cons (ps_for PassesOwn.never rfl (pi_range1 (by rfl) T.z_range (pa_cons pe_int pa_nil)) (pg_name (i := 2) sc_law.nd rfl (by first | exact Or.inl rfl | exact Or.inr rfl)) (pss_cons (ps_set (i := 3) sc_law.nd rfl (by first | exact Or.inl rfl | exact Or.inr rfl) (pe_call (ok__law_signs T) (hr.mono (by first | decide | omega)) rfl T.m__law_signs T.F__law_signs.kp T.b__law_signs .nil pass0 (pa_cons (pv 1) pa_nil))) (pss_cons (ps_if (pt_cmpR op_eq (pe_call (ok__law_draw T) (hr.mono (by first | decide | omega)) rfl T.m__law_draw T.F__law_draw.kp T.b__law_draw .nil pass0 (pa_cons (pv 1) (pa_cons pe_int pa_nil))) pe_int (nomark _)) (pss_one (ps_set (i := 3) sc_law.nd rfl (by first | exact Or.inl rfl | exact Or.inr rfl) (pe_tupZ (pa_cons (pe_tupZ (pa_cons pe_str (pa_cons pe_int pa_nil))) (pa_cons (pe_tupZ (pa_cons pe_str (pa_cons pe_int pa_nil))) (pa_cons (pe_tupZ (pa_cons pe_str (pa_cons pe_int pa_nil))) (pa_cons (pe_tupZ (pa_cons pe_str (pa_cons pe_int pa_nil))) (pa_cons (pe_tupZ (pa_cons pe_str (pa_cons pe_int pa_nil))) (pa_cons (pe_tupZ (pa_cons pe_str (pa_cons pe_int pa_nil))) pa_nil))))))))) pss_nil) (pss_cons (ps_set (i := 4) sc_law.nd rfl (by first | exact Or.inl rfl | exact Or.inr rfl) (pe_make T.mk_Lore (ok_Lore___init__ (P := P) (w := w) T Tt GT) (hr.mono (by first | decide | omega)) rfl T.m_Lore T.b_Lore___init__ .nil pass0 (pa_cons (pv 3) (pa_cons (pe_tupZ pa_nil) pa_nil)))) (pss_cons (ps_set (i := 5) sc_law.nd rfl (by first | exact Or.inl rfl | exact Or.inr rfl) (pe_callTy (call_dictT rfl) (by rfl) T.z_dict (by decide +kernel) (pa_cons (pv 3) pa_nil))) (pss_cons (ps_for PassesOwn.never rfl (pi_range1 (by rfl) T.z_range (pa_cons pe_int pa_nil)) (pg_name (i := 6) sc_law.nd rfl (by first | exact Or.inl rfl | exact Or.inr rfl)) (pss_cons (ps_set (i := 7) sc_law.nd rfl (by first | exact Or.inl rfl | exact Or.inr rfl) (pe_call GText (hr.mono (by first | decide | omega)) rfl T.m__law_text T.F__law_text.kp T.b__law_text .nil pass0 (pa_cons (pe_call GTerm (hr.mono (by first | decide | omega)) rfl T.m__law_term T.F__law_term.kp T.b__law_term .nil pass0 (pa_cons (pv 1) (pa_cons (pv 3) (pa_cons (pe_call (ok__law_draw T) (hr.mono (by first | decide | omega)) rfl T.m__law_draw T.F__law_draw.kp T.b__law_draw .nil pass0 (pa_cons (pv 1) (pa_cons pe_int pa_nil))) pa_nil)))) pa_nil))) (pss_cons (ps_for PassesOwn.never rfl (pi_range1 (by rfl) T.z_range (pa_cons (pe_call (ok__law_draw T) (hr.mono (by first | decide | omega)) rfl T.m__law_draw T.F__law_draw.kp T.b__law_draw .nil pass0 (pa_cons (pv 1) (pa_cons pe_int pa_nil))) pa_nil)) (pg_name (i := 8) sc_law.nd rfl (by first | exact Or.inl rfl | exact Or.inr rfl)) (pss_one (ps_set (i := 7) sc_law.nd rfl (by first | exact Or.inl rfl | exact Or.inr rfl) (pe_call (ok__law_spoiled T) (hr.mono (by first | decide | omega)) rfl T.m__law_spoiled T.F__law_spoiled.kp T.b__law_spoiled .nil pass0 (pa_cons (pv 1) (pa_cons (pv 7) (pa_cons pe_str pa_nil))))))) (pss_cons (ps_if (pt_cmpR op_eq (pe_call (ok__law_draw T) (hr.mono (by first | decide | omega)) rfl T.m__law_draw T.F__law_draw.kp T.b__law_draw .nil pass0 (pa_cons (pv 1) (pa_cons pe_int pa_nil))) pe_int (nomark _)) (pss_one (ps_set (i := 7) sc_law.nd rfl (by first | exact Or.inl rfl | exact Or.inr rfl) (pe_join pe_str (pe_lc (own := [("_law_k", 9)]) rfl sc_law.nd (pi_range1 (by rfl) T.z_range (pa_cons (pe_call (ok__law_draw T) (hr.mono (by first | decide | omega)) rfl T.m__law_draw T.F__law_draw.kp T.b__law_draw .nil pass0 (pa_cons (pv 1) (pa_cons pe_int pa_nil))) pa_nil)) (blkOk_by (own := [("_law_k", 9)]) (N := ["_law_script", "_law_pool_here", "_law_turn", "_law_signs_here", "_law_lore", "_law_names", "_law_again", "_law_text_here", "_law_once", "_law_k", "_law_many", "_law_at", "_law_thing"]) (sc := defScope s_law) (by decide +kernel)) (fun _ _ _ _ _ => (pg_name (i := 9) sc_law.nd rfl (by first | exact Or.inl rfl | exact Or.inr rfl))) (fun _ _ _ _ _ => pts_nil) (fun _ _ _ _ _ => (pe_ix ix_str pe_str (pe_call (ok__law_draw T) (hr.mono (by first | decide | omega)) rfl T.m__law_draw T.F__law_draw.kp T.b__law_draw .nil pass0 (pa_cons (pv 1) (pa_cons pe_int pa_nil))) (fun _ _ => rfl))))))) pss_nil) (pss_one (ps_if (pt_not (pt_val (pe_callG (ok__law_is T) hg (hr.mono (by first | decide | omega)) rfl T.m__law_is T.F__law_is.kp T.b__law_is pass0 (pa_cons (pe_call (ok__law_told_of T) (hr.mono (by first | decide | omega)) rfl T.m__law_told_of T.F__law_told_of.kp T.b__law_told_of .nil pass0 (pa_cons (pv 4) (pa_cons (pv 7) pa_nil))) (pa_cons (pe_call (ok__law_read T) (hr.mono (by first | decide | omega)) rfl T.m__law_read T.F__law_read.kp T.b__law_read .nil pass0 (pa_cons (pv 5) (pa_cons (pv 7) pa_nil))) pa_nil))))) (pss_one (ps_ret pe_bl)) pss_nil)))))) (pss_cons (ps_set (i := 10) sc_law.nd rfl (by first | exact Or.inl rfl | exact Or.inr rfl) (pe_op op_add pe_int (pe_call (ok__law_draw T) (hr.mono (by first | decide | omega)) rfl T.m__law_draw T.F__law_draw.kp T.b__law_draw .nil pass0 (pa_cons (pv 1) (pa_cons pe_int pa_nil))))) (pss_cons (ps_set (i := 7) sc_law.nd rfl (by first | exact Or.inl rfl | exact Or.inr rfl) (pe_op op_add_str (pe_op op_add_str (pe_op NB.op_repS pe_str (pv 10)) pe_str) (pe_op NB.op_repS pe_str (pv 10)))) (pss_cons (ps_set (i := 11) sc_law.nd rfl (by first | exact Or.inl rfl | exact Or.inr rfl) (pe_call (ok__law_draw T) (hr.mono (by first | decide | omega)) rfl T.m__law_draw T.F__law_draw.kp T.b__law_draw .nil pass0 (pa_cons (pv 1) (pa_cons (pe_op op_add (pe_callB call_len_str (by rfl) T.z_len (by decide +kernel) (pa_cons (pv 7) pa_nil)) pe_int) pa_nil)))) (pss_cons (ps_set (i := 7) sc_law.nd rfl (by first | exact Or.inl rfl | exact Or.inr rfl) (pe_ix ix_list (pe_lst (pa_cons (pv 7) (pa_cons (pe_slice sl_str (pv 7) po_none (po_some (pv 11))) (pa_cons (pe_op op_add_str (pe_op op_add_str (pe_slice sl_str (pv 7) po_none (po_some (pv 11))) pe_str) (pe_slice sl_str (pv 7) (po_some (pe_op op_add (pv 11) pe_int)) po_none)) (pa_cons (pe_op op_add_str (pv 7) pe_str) (pa_cons (pe_op op_add_str (pv 7) pe_str) pa_nil)))))) (pe_call (ok__law_draw T) (hr.mono (by first | decide | omega)) rfl T.m__law_draw T.F__law_draw.kp T.b__law_draw .nil pass0 (pa_cons (pv 1) (pa_cons pe_int pa_nil))) (fun _ _ => rfl))) (pss_cons (ps_if (pt_not (pt_val (pe_callG (ok__law_is T) hg (hr.mono (by first | decide | omega)) rfl T.m__law_is T.F__law_is.kp T.b__law_is pass0 (pa_cons (pe_call (ok__law_told_of T) (hr.mono (by first | decide | omega)) rfl T.m__law_told_of T.F__law_told_of.kp T.b__law_told_of .nil pass0 (pa_cons (pe_make T.mk_Lore (ok_Lore___init__ (P := P) (w := w) T Tt GT) (hr.mono (by first | decide | omega)) rfl T.m_Lore T.b_Lore___init__ .nil pass0 (pa_cons (pe_tupZ (pa_cons (pe_tupZ (pa_cons pe_str (pa_cons pe_int pa_nil))) (pa_cons (pe_tupZ (pa_cons pe_str (pa_cons pe_int pa_nil))) pa_nil))) (pa_cons (pe_tupZ pa_nil) pa_nil))) (pa_cons (pv 7) pa_nil))) (pa_cons (pe_call (ok__law_read T) (hr.mono (by first | decide | omega)) rfl T.m__law_read T.F__law_read.kp T.b__law_read .nil pass0 (pa_cons (pe_disp (pps_cons pe_str pe_int (pps_cons pe_str pe_int pps_nil)) rfl rfl (fun z => nomatch z) (by show 2 ≤ 15; decide)) (pa_cons (pv 7) pa_nil))) pa_nil))))) (pss_one (ps_ret pe_bl)) pss_nil) (pss_cons (ps_set (i := 12) sc_law.nd rfl (by first | exact Or.inl rfl | exact Or.inr rfl) (pe_ix ix_list (pe_lst (pa_cons pe_non (pa_cons pe_int (pa_cons pe_bl (pa_cons (pe_lst (pa_cons pe_str pa_nil)) (pa_cons (pe_tupZ (pa_cons pe_str pa_nil)) (pa_cons pe_dnewK (pa_cons (pv 4) (pa_cons (pe_call0 (ok__law_deep T) (hr.mono (by first | decide | omega)) rfl T.m__law_deep T.F__law_deep.kp T.b__law_deep .nil pass0) pa_nil))))))))) (pe_call (ok__law_draw T) (hr.mono (by first | decide | omega)) rfl T.m__law_draw T.F__law_draw.kp T.b__law_draw .nil pass0 (pa_cons (pv 1) (pa_cons pe_int pa_nil))) (fun _ _ => rfl))) (pss_one (ps_if (PW.pt (pw_or (pt_cmpR (op_neD hr.units) (pe_call (ok__law_told_of T) (hr.mono (by first | decide | omega)) rfl T.m__law_told_of T.F__law_told_of.kp T.b__law_told_of .nil pass0 (pa_cons (pv 4) (pa_cons (pv 12) pa_nil))) (pe_tupZ (pa_cons pe_str (pa_cons pe_int pa_nil))) (nomark _)) (pw_or1 (pt_cmpR (op_neD hr.units) (pe_call (ok__law_told_of T) (hr.mono (by first | decide | omega)) rfl T.m__law_told_of T.F__law_told_of.kp T.b__law_told_of .nil pass0 (pa_cons (pv 4) (pa_cons pe_str pa_nil))) (pe_tupZ (pa_cons pe_str (pa_cons pe_int pa_nil))) (nomark _))))) (pss_one (ps_ret pe_bl)) pss_nil)))))))))))))) (pss_one (ps_ret pe_bl)))), ?_⟩
    refine ⟨_, rfl, a, ns, rfl, hs, hl, fun H1 p cs z cells0 s1 np ncs hp1 => ?_⟩
    have hT1 := hT.ext s1
    dsimp only [gName]
    refine seq_open (fun σ' H' => True) (fun NX hNX => ?_) (fun σ' H2 h => q_ _)
    refine ⟨4, rfl, by decide, by decide, for_range (lo := 0) (n := 4) (fun i σ H' => ∃ w2 w3 w4 w5 w6 w7 w8 w10 w11 w12 k c, σ = [some (.ref a), some (.ref p), w2, w3, w4, w5, w6, w7, w8, none, w10, w11, w12] ∧ Tabs Tt H' ∧ PoolAt H' p cs z k c ∧ 0 ≤ k ∧ k ≤ 1000 * (i : Int))
      ⟨none, none, none, none, none, none, none, none, none, none, 0, cells0, rfl, hT1, hp1, Int.le_refl _, Int.le_refl _⟩ ?_ (fun σ H' _ => hNX _ _ trivial)⟩
    rintro i σ H2 hi ⟨w2, w3, w4, w5, w6, w7, w8, w10, w11, w12, k, c, rfl, hT2, hp2, k0, k1⟩
    refine seq_asg ?_
    refine ⟨_, rfl, p, cs, z, k, c, rfl, hp2, by omega, fun H3 sa i0 j0 l0 c3 sm3 hsg3 hi0 hj0 hl0 hp3 => ?_⟩
    have ok3 := sgOf_ok hi0 hj0 hl0
    have hT3 := sm3.tabs hp2.ow hT2
    dsimp only [gName]
    show tSeq _ _ _ [some (.ref a), some (.ref p), some (.int (0 + (i : Int))), some (.ref sa), w4, w5, w6, w7, w8, none, w10, w11, w12] _
    refine seq_open (fun σ' G => ∃ sa sg c, σ' = [some (.ref a), some (.ref p), some (.int (0 + (i : Int))), some (.ref sa), w4, w5, w6, w7, w8, none, w10, w11, w12] ∧ SgsAt K G sa sg ∧ SgOk sg ∧ Tabs Tt G ∧ PoolAt G p cs z (k + 4) c) (fun NX1 hNX1 => ?_) (fun σ' G h => ?_)
    · refine ⟨_, rfl, p, cs, z, k + 3, c3, 2, rfl, by decide, by decide, hp3, by omega, fun H4 r4 c4 sm4 hp4 r40 r41 => ⟨rfl, _, rfl, ?_⟩⟩
      have hT4 := sm4.tabs hp3.ow hT3
      have hsg4 : SgsAt K H4 sa _ := hsg3.imm (sm4.imm hp3.ow)
      by_cases e2 : r4 = 0
      · rw [show decide (V.int r4 = V.int 0) = true from decide_eq_true (by rw [e2])]
        refine ifT ?_
        refine asgQ ?_
        refine sgs_tup (K := K) (sg := [("a", 0), ("ab", 1), ("abc", 0), ("b", 2), ("bab", 1), ("c", 0)]) (by decide) fun H5 sb s5 hsb => ?_
        exact hNX1 _ _ ⟨sb, _, c4, rfl, hsb, six_ok, hT4.ext s5, by rw [show k + 4 = k + 3 + 1 by omega]; exact hp4.same s5⟩
      · rw [show decide (V.int r4 = V.int 0) = false from decide_eq_false fun w => e2 (V.int.inj w)]
        refine ifN (by decide) ?_
        exact hNX1 _ _ ⟨sa, _, c4, rfl, hsg4, ok3, hT4, by rw [show k + 4 = k + 3 + 1 by omega]; exact hp4⟩
    obtain ⟨sa, sg, c4, rfl, hsg4, ok, hT4, hp4⟩ := h
    clear hT1 hp1 hT2 hp2 hT3 hp3 sm3 hsg3 ok3
    have o := NmOk.of ok
    refine seq_asg ?_
    refine ⟨_, rfl, lns_tup (K := K) fun H5 lv s5 dl x dx nx ndx nex => ?_⟩
    refine make_lore nx ndx (hsg4.imm (Imm.of s5)) ok.signs ok.short dl (by decide) (fun n hn => nomatch hn) (by decide) (by decide) (hT4.ext s5) fun H6 f6 hlo6 => ⟨rfl, ?_⟩
    have f46 := (Fr.same (T := Tt) (S := []) s5).trans f6
    have hsg6 : SgsAt K H6 sa sg := hsg4.imm f46.imm0
    have hp6 := hp4.fr f46
    have hT6 := f46.tb hT4
    clear s5 dl nx ndx nex f6 hsg4 hp4 hT4 f46
    dsimp only [gName]
    show tSeq _ _ _ [some (.ref a), some (.ref p), some (.int (0 + (i : Int))), some (.ref sa), some (.ref x), w5, w6, w7, w8, none, w10, w11, w12] _
    refine seq_asg ?_
    obtain ⟨sxs, hpl, hds⟩ := id hsg6
    obtain ⟨ps, rfl, hps⟩ := sgs_refs hds
    refine ⟨_, rfl, sa, ps, sg.map kvS, rfl, hpl, hps, fun pd npd => ?_⟩
    have s7 := same_new (o := .dK (mergeK [] (sg.map kvS))) npd
    have g7 : L8 K T.c_Lore Tt p cs z sa x pd sg (k + 4) (upd H6 pd (.dK (mergeK [] (sg.map kvS)))) := ⟨⟨_, hp6.same s7⟩, hsg6.imm (Imm.of s7), hlo6.fr (Fr.same (T := Tt) (S := []) s7), upd_same, hp6.nn npd, hT6.ext s7⟩
    generalize upd H6 pd (.dK (mergeK [] (sg.map kvS))) = H7 at g7 ⊢
    clear hsg6 hlo6 hT6 hp6 hpl hds hps npd s7
    dsimp only [gName]
    show tSeq _ _ _ [some (.ref a), some (.ref p), some (.int (0 + (i : Int))), some (.ref sa), some (.ref x), some (.ref pd), w6, w7, w8, none, w10, w11, w12] _
    refine seq_open (fun σ' G => ∃ w6 w7 w8 k', σ' = [some (.ref a), some (.ref p), some (.int (0 + (i : Int))), some (.ref sa), some (.ref x), some (.ref pd), w6, w7, w8, none, w10, w11, w12] ∧ L8 K T.c_Lore Tt p cs z sa x pd sg k' G ∧ k + 4 ≤ k' ∧ k' ≤ k + 4 + 600) (fun NX2 hNX2 => ?_) (fun σ' G h => ?_)
    · refine ⟨6, rfl, by decide, by decide, for_range (lo := 0) (n := 6) (fun j σ' G => ∃ w6 w7 w8 k', σ' = [some (.ref a), some (.ref p), some (.int (0 + (i : Int))), some (.ref sa), some (.ref x), some (.ref pd), w6, w7, w8, none, w10, w11, w12] ∧ L8 K T.c_Lore Tt p cs z sa x pd sg k' G ∧ k + 4 ≤ k' ∧ k' ≤ k + 4 + 100 * (j : Int))
        ⟨w6, w7, w8, k + 4, rfl, g7, Int.le_refl _, by omega⟩ ?_ (fun σ G ⟨w6, w7, w8, k', h1, h2, h7, h8⟩ => hNX2 _ _ ⟨w6, w7, w8, k', h1, h2, h7, by omega⟩)⟩
      clear g7
      rintro j σ G hj ⟨w6, w7, w8, k5, rfl, g, k51, k52⟩
      dsimp only [gName]
      show tSeq _ _ _ [some (.ref a), some (.ref p), some (.int (0 + (i : Int))), some (.ref sa), some (.ref x), some (.ref pd), some (.int (0 + (j : Int))), w7, w8, none, w10, w11, w12] _
      refine seq_asg ?_
      obtain ⟨c5, hp5⟩ := id g.pool
      refine ⟨_, rfl, _, rfl, _, rfl, p, cs, z, k5, c5, 4, rfl, by decide, by decide, hp5, by omega, fun G1 r1 c1 m1 hp1 r10 r11 => ?_⟩
      obtain ⟨d, rfl, hd⟩ := nat_of r10 r11
      have g1 := g.sm hp5 m1 hp1
      have e22 : drw 3 = 22 := by decide
      have e23 := drw_mono (show d ≤ 3 by omega)
      refine ⟨p, cs, z, k5 + 1, c1, sa, sg, d, rfl, hp1, g1.sgs, ok, by omega, by omega, fun G2 v t k6 c6 m2 hp2 k61 k62 dv tv => ?_⟩
      have g2 := g1.sm hp1 m2 hp2
      obtain ⟨wt, tx⟩ := text_ok ok (by omega) tv
      have tdp := tv.dp
      have tsz := tv.sz
      have sz3 := siz_mono (show d ≤ 3 by omega)
      have e15 : siz 3 = 15 := by decide
      refine ⟨v, t, rfl, dv, by omega, by omega, wt, fun G3 s3 => ?_⟩
      have g3 := g2.same s3
      clear g g1 g2 hp5 hp1 hp2 m1 m2 s3 dv tdp tsz tv
      dsimp only [gName]
      show tSeq _ _ _ [some (.ref a), some (.ref p), some (.int (0 + (i : Int))), some (.ref sa), some (.ref x), some (.ref pd), some (.int (0 + (j : Int))), some (.str (txT t)), w8, none, w10, w11, w12] _
      generalize txT t = z0 at tx ⊢
      refine seq_open (fun σ' G => ∃ w8 zz k', σ' = [some (.ref a), some (.ref p), some (.int (0 + (i : Int))), some (.ref sa), some (.ref x), some (.ref pd), some (.int (0 + (j : Int))), some (.str zz), w8, none, w10, w11, w12] ∧ L8 K T.c_Lore Tt p cs z sa x pd sg k' G ∧ TxOk zz 6403 31 ∧ k6 ≤ k' ∧ k' ≤ k6 + 7) (fun NX3 hNX3 => ?_) (fun σ' G h => ?_)
      · obtain ⟨c6, hp6⟩ := id g3.pool
        refine ⟨_, rfl, p, cs, z, k6, c6, 3, rfl, by decide, by decide, hp6, by omega, fun G4 r4 c7 m4 hp7 r40 r41 => ?_⟩
        obtain ⟨m, rfl, hm⟩ := nat_of r40 r41
        have g4 := g3.sm hp6 m4 hp7
        refine ⟨_, rfl, by omega, by omega, ?_⟩
        rw [show ((m : Nat) : Int).toNat = m by omega]
        refine for_range (lo := 0) (n := m) (fun q σ' G => ∃ w8 zz k', σ' = [some (.ref a), some (.ref p), some (.int (0 + (i : Int))), some (.ref sa), some (.ref x), some (.ref pd), some (.int (0 + (j : Int))), some (.str zz), w8, none, w10, w11, w12] ∧ L8 K T.c_Lore Tt p cs z sa x pd sg k' G ∧ TxOk zz (dbl 1600 q) (dbl 7 q) ∧ k6 + 1 ≤ k' ∧ k' ≤ k6 + 1 + 3 * (q : Int))
          ⟨w8, z0, k6 + 1, rfl, g4, tx, Int.le_refl _, by omega⟩ ?_ (fun σ G ⟨w8, zz, k', h1, h2, h3, h4, h5⟩ => hNX3 _ _ ⟨w8, zz, k', h1, h2, h3.le (dbl_3 (show m < 3 by omega)).1 (dbl_3 (show m < 3 by omega)).2, by omega, by omega⟩)
        rintro q σ G hq ⟨w8, zz, k7, rfl, g5, tx5, k71, k72⟩
        obtain ⟨c7, hp7⟩ := id g5.pool
        have b1 := tx5.len
        have b2 := (dbl_3 (show q < 3 by omega)).1
        refine ⟨_, rfl, _, rfl, p, cs, z, k7, c7, zz, _, rfl, hp7, by omega, by omega, by decide +kernel, by decide +kernel, fun G6 x' c8 m6 hp8 tw => ?_⟩
        exact ⟨_, x', k7 + 3, rfl, g5.sm hp7 m6 hp8, tx5.twice tw, by omega, by omega⟩
      obtain ⟨w8, zz, k7, rfl, g7, tx7, k71, k72⟩ := h
      clear g3 tx
      refine seq_open (fun σ' G => ∃ zz k', σ' = [some (.ref a), some (.ref p), some (.int (0 + (i : Int))), some (.ref sa), some (.ref x), some (.ref pd), some (.int (0 + (j : Int))), some (.str zz), w8, none, w10, w11, w12] ∧ L8 K T.c_Lore Tt p cs z sa x pd sg k' G ∧ TxOk zz 6403 31 ∧ k7 ≤ k' ∧ k' ≤ k7 + 9) (fun NX3 hNX3 => ?_) (fun σ' G h => ?_)
      · obtain ⟨c7, hp7⟩ := id g7.pool
        refine ⟨_, rfl, p, cs, z, k7, c7, 8, rfl, by decide, by decide, hp7, by omega, fun G4 r4 c8 m4 hp8 r40 r41 => ⟨rfl, _, rfl, ?_⟩⟩
        have g8 := g7.sm hp7 m4 hp8
        by_cases e2 : r4 = 0
        · rw [show decide (V.int r4 = V.int 0) = true from decide_eq_true (by rw [e2])]
          refine ifT ?_
          refine asgQ ?_
          refine ⟨⟨_, rfl⟩, _, rfl, p, cs, z, k7 + 1, c8, 8, rfl, by decide, by decide, hp8, by omega, fun G5 r5 c9 m5 hp9 r50 r51 => ?_⟩
          obtain ⟨m, rfl, hm⟩ := nat_of r50 r51
          have g9 := g8.sm hp8 m5 hp9
          refine ⟨_, rfl, by omega, by omega, fun D nD => ?_⟩
          rw [show ((m : Nat) : Int).toNat = m by omega]
          have nDp := hp9.nn nD
          refine lc_range (lo := 0) (n := m) (fun q G => Sm [p, cs] G5 G ∧ ∃ k' c' ss, PoolAt G p cs z k' c' ∧ k7 + 2 ≤ k' ∧ k' ≤ k7 + 2 + (q : Int) ∧ G D = some (.lst (ss.map V.str)) ∧ ss.length = q ∧ ∀ s ∈ ss, s.length = 1)
            ⟨(Sm.refl _ _).updN nD, k7 + 2, c9, [], (by rw [show k7 + 2 = k7 + 1 + 1 by omega]; exact hp9.updN nDp), Int.le_refl _, by omega, upd_same, rfl, fun _ y => nomatch y⟩ (fun q G hq y => ?_) (fun G y => ?_)
          · obtain ⟨mG, k', c', ss, hp, k'1, k'2, hD, hl, h1⟩ := y
            refine ⟨rfl, _, rfl, p, cs, z, k', c', 6, rfl, by decide, by decide, hp, by omega, fun G6 r6 c10 m6 hp10 r60 r61 => ?_⟩
            obtain ⟨b, rfl, hb⟩ := nat_of r60 r61
            obtain ⟨ch, hch⟩ : ∃ c, ("abc()," : Str).cps.toList[b]? = some c := ⟨_, List.getElem?_eq_getElem (by show b < 6; omega)⟩
            refine ⟨("abc()," : Str), _, ch, rfl, rfl, by decide +kernel, atI_nat hch, ?_⟩
            have hD6 := m6 _ _ hD nDp
            refine ⟨_, hD6, by rw [List.length_map]; show _ < 16777216; omega, (mG.trans m6).updN nD, k' + 1, c10, ss ++ [one1 ch], hp10.updN nDp, by omega, by omega, ?_, by rw [List.length_append, hl]; rfl, fun s ms => ?_⟩
            · rw [upd_same, List.map_append]
              rfl
            · rcases List.mem_append.mp ms with y | y
              · exact h1 s y
              · rw [List.mem_singleton.mp y]
                rfl
          · obtain ⟨mG, k', c', ss, hp, k'1, k'2, hD, hl, h1⟩ := y
            obtain ⟨j1, j2⟩ := join_ok h1 (by omega)
            refine ⟨_, D, ss, rfl, rfl, .inl (.inl (.inl hD)), j2, ?_⟩
            exact hNX3 _ _ ⟨_, k', rfl, g9.sm hp9 mG hp, j1.le (by decide) (by decide), by omega, by omega⟩
        · rw [show decide (V.int r4 = V.int 0) = false from decide_eq_false fun w => e2 (V.int.inj w)]
          refine ifN (by decide) ?_
          exact hNX3 _ _ ⟨zz, k7 + 1, rfl, g8, tx7, by omega, by omega⟩
      obtain ⟨zz, k8, rfl, g8, tx8, k81, k82⟩ := h
      clear g7 tx7
      refine ⟨_, rfl, _, rfl, x, .str zz, sg, [], true, rfl, g8.lore, o.few, strV_str zz, fun _ => ⟨zz, rfl, Nat.le_trans tx8.len (by decide), fun G1 t1 s1 d1 => ?_⟩, fun y => nomatch y⟩
      rw [prR_read o.pl (Nat.lt_of_le_of_lt tx8.cnt (show 31 < 40 by decide))] at d1
      have g9 := g8.same s1
      refine ⟨_, rfl, _, rfl, pd, sg.reverse, zz, rfl, g9.nm o, o.pl, o.hund, Nat.le_trans tx8.len (by decide), Nat.lt_of_le_of_lt tx8.cnt (show 31 < 40 by decide), fun G2 t2 s2 d2 => ?_⟩
      obtain ⟨e1, e2, e3, e4⟩ := got_good o.pl o.word (f := 40) (by decide) (Nat.le_trans tx8.len (show 6403 ≤ 100000 by decide))
      refine ⟨_, _, rfl, .inr ⟨t1, t2, _, rfl, rfl, Dp.same s2 _ _ d1, d2, e1, e2, e3, e4⟩, ⟨_, rfl, ?_⟩⟩
      refine ifN (by decide) ?_
      exact ⟨_, _, _, k8, rfl, g9.same s2, by omega, by omega⟩
    · obtain ⟨w6, w7, w8, k5, rfl, g, k51, k52⟩ := h
      obtain ⟨c5, hp5⟩ := id g.pool
      refine seq_asg ?_
      refine ⟨_, rfl, p, cs, z, k5, c5, 30, rfl, by decide, by decide, hp5, by omega, fun G1 r1 c1 m1 hp1 r10 r11 => ⟨_, _, rfl, rfl, ?_⟩⟩
      have g1 := g.sm hp5 m1 hp1
      dsimp only [gName]
      show tSeq _ _ _ [some (.ref a), some (.ref p), some (.int (0 + (i : Int))), some (.ref sa), some (.ref x), some (.ref pd), w6, w7, w8, none, some (.int (1 + r1)), w11, w12] _
      obtain ⟨m, em, hm⟩ : ∃ m : Nat, (1 + r1).toNat = m ∧ m ≤ 30 := ⟨(1 + r1).toNat, rfl, by omega⟩
      have tx := f_text hm
      have l1 := repS_len "f(" m
      have l2 := repS_len ")" m
      have e21 : ("f(" : Str).length = 2 := by decide +kernel
      have e22 : (")" : Str).length = 1 := by decide +kernel
      have e23 : ("a" : Str).length = 1 := by decide +kernel
      rw [e21] at l1
      rw [e22] at l2
      have l3 := (app_cnt (repS "f(" m) "a").1
      refine seq_asg ?_
      refine ⟨_, rfl, _, _, rfl, rfl, by omega, by omega, by rw [em, e21]; omega, ?_⟩
      rw [em]
      refine ⟨_, _, rfl, rfl, by rw [l1, e23]; omega, ?_⟩
      refine ⟨_, rfl, _, _, rfl, rfl, by omega, by omega, by rw [em, e22]; omega, ?_⟩
      rw [em]
      refine ⟨_, _, rfl, rfl, by omega, ?_⟩
      clear l1 l2 l3 g hp5 m1
      generalize repS "f(" m ++ "a" ++ repS ")" m = y at tx ⊢
      dsimp only [gName]
      show tSeq _ _ _ [some (.ref a), some (.ref p), some (.int (0 + (i : Int))), some (.ref sa), some (.ref x), some (.ref pd), w6, some (.str y), w8, none, some (.int (1 + r1)), w11, w12] _
      have ly := tx.len
      refine seq_asg ?_
      refine ⟨_, rfl, _, rfl, y, rfl, by omega, _, _, rfl, rfl, p, cs, z, k5 + 1, c1, _, rfl, by omega, by omega, hp1, by omega, fun G2 r2 c2 m2 hp2 r20 r21 => ?_⟩
      obtain ⟨b, rfl, hb⟩ : ∃ b : Nat, r2 = (b : Int) ∧ b ≤ y.length := ⟨r2.toNat, by omega, by omega⟩
      have g2 := g1.sm hp1 m2 hp2
      dsimp only [gName]
      show tSeq _ _ _ [some (.ref a), some (.ref p), some (.int (0 + (i : Int))), some (.ref sa), some (.ref x), some (.ref pd), w6, some (.str y), w8, none, some (.int (1 + r1)), some (.int (b : Int)), w12] _
      refine seq_asg ?_
      obtain ⟨A1, A2⟩ := cut_cnt y none (some (b : Int))
      obtain ⟨B1, B2⟩ := cut_cnt y (some ((b : Int) + 1)) none
      have A3 := (app_cnt (cutS y none (some (b : Int))) "a").1
      have eb : (b : Int) + 1 = ((b + 1 : Nat) : Int) := by omega
      refine ⟨_, rfl, _, rfl, _, rfl, _, rfl, y, rfl, by omega, _, rfl, _, rfl, _, rfl, y, rfl, by omega, _, _, rfl, rfl, by omega, _, rfl, _, rfl, _, _, rfl, rfl, _, rfl, y, rfl, by omega, _, _, rfl, rfl, by omega, ?_⟩
      refine ⟨_, rfl, _, _, rfl, rfl, by omega, _, rfl, _, _, rfl, rfl, by omega, (by show 5 ≤ sizeLine; decide), fun l nl => ?_⟩
      obtain ⟨X5, eX⟩ : ∃ X : List Str, X = [y, cutS y none (some (b : Int)), cutS y none (some (b : Int)) ++ "a" ++ cutS y (some ((b : Int) + 1)) none, y ++ ")", y ++ "a"] := ⟨_, rfl⟩
      have hX : ∀ s ∈ X5, TxOk s 92 31 := by
        rw [eX]
        intro s ms
        rcases List.mem_cons.mp ms with h | ms
        · rw [h]
          exact tx.le (by decide) (by decide)
        rcases List.mem_cons.mp ms with h | ms
        · rw [h]
          exact f_cut tx _ _
        rcases List.mem_cons.mp ms with h | ms
        · rw [h, eb]
          exact f_glue tx e23 b
        rcases List.mem_cons.mp ms with h | ms
        · rw [h]
          exact f_app tx e22
        rw [List.mem_singleton.mp ms]
        exact f_app tx e23
      have lX : X5.length = 5 := by rw [eX]; rfl
      have eV : [V.str y, .str (cutS y none (some (b : Int))), .str (cutS y none (some (b : Int)) ++ "a" ++ cutS y (some ((b : Int) + 1)) none), .str (y ++ ")"), .str (y ++ "a")] = X5.map V.str := by rw [eX]; rfl
      have sl := same_new (o := .lst (X5.map V.str)) nl
      have npl := hp2.nn nl
      show tCall _ _ _ _ _ (upd G2 l (.lst [V.str y, .str (cutS y none (some (b : Int))), .str (cutS y none (some (b : Int)) ++ "a" ++ cutS y (some ((b : Int) + 1)) none), .str (y ++ ")"), .str (y ++ "a")])) _
      rw [eV]
      refine ⟨_, rfl, p, cs, z, k5 + 1 + 1, c2, 5, rfl, by decide, by decide, hp2.same sl, by omega, fun G3 r3 c3 m3 hp3 r30 r31 => ?_⟩
      obtain ⟨b2, rfl, hb2⟩ := nat_of r30 r31
      have g3 := (g2.same sl).sm (hp2.same sl) m3 hp3
      have hl3 := m3 _ _ upd_same npl
      obtain ⟨y', hy'⟩ : ∃ y', X5[b2]? = some y' := ⟨_, List.getElem?_eq_getElem (by rw [lX]; omega)⟩
      have tx' := hX y' (List.mem_of_getElem? hy')
      refine ⟨l, _, _, _, rfl, rfl, .inl (.inl hl3), atI_nat (show (X5.map V.str)[b2]? = some (V.str y') by rw [List.getElem?_map, hy']; rfl), ?_⟩
      clear eV sl npl hl3 hX lX eX hy' A1 A2 B1 B2 A3 eb g1 g2 hp1 hp2 m2 m3
      dsimp only [gName]
      show tSeq _ _ _ [some (.ref a), some (.ref p), some (.int (0 + (i : Int))), some (.ref sa), some (.ref x), some (.ref pd), w6, some (.str y'), w8, none, some (.int (1 + r1)), some (.int (b : Int)), w12] _
      refine seq_open (fun σ' G => σ' = [some (.ref a), some (.ref p), some (.int (0 + (i : Int))), some (.ref sa), some (.ref x), some (.ref pd), w6, some (.str y'), w8, none, some (.int (1 + r1)), some (.int (b : Int)), w12] ∧ L8 K T.c_Lore Tt p cs z sa x pd sg (k5 + 1 + 1 + 1) G) (fun NX3 hNX3 => ?_) (fun σ' G h => ?_)
      · have o2 := NmOk.of af_ok
        refine ifs_open (notb_open (call_open (call_open (make_open ?_))))
        refine sgs_tup (K := K) (sg := [("a", 0), ("f", 1)]) (by decide) fun H5 sb s5 hsb => ?_
        refine lns_tup (K := K) fun H6 lv s6 dl x2 dx nx ndx nex => ?_
        have g6 := (g3.same s5).same s6
        refine make_lore nx ndx (hsb.imm (Imm.of s6)) af_ok.signs af_ok.short dl (by decide) (fun n hn => nomatch hn) (by decide) (by decide) g6.tabs fun H7 f7 hlo7 => ⟨rfl, ?_⟩
        have g7 := g6.fr f7
        refine ⟨_, rfl, x2, .str y', [("a", 0), ("f", 1)], [], true, rfl, hlo7, o2.few, strV_str y', fun _ => ⟨y', rfl, Nat.le_trans tx'.len (by decide), fun G1 t1 s1 d1 => ?_⟩, fun y => nomatch y⟩
        rw [prR_read o2.pl (Nat.lt_of_le_of_lt tx'.cnt (show 31 < 40 by decide))] at d1
        have g8 := g7.same s1
        refine fun pd2 npd2 => ⟨upd_same, ([("a", 0), ("f", 1)] : List Sg).map kvS, rfl, (by decide), ?_⟩
        have sd : Same G1 (upd (upd G1 pd2 (.dK [])) pd2 (.dK (mergeK [] (([("a", 0), ("f", 1)] : List Sg).map kvS)))) := fun b u e => by
          rw [upd_ne (ne_of_none e npd2), upd_ne (ne_of_none e npd2)]
          exact e
        refine ⟨_, rfl, pd2, ([("a", 0), ("f", 1)] : List Sg).reverse, y', rfl, nm_merge upd_same o2.few.1 o2.few.2, o2.pl, o2.hund, Nat.le_trans tx'.len (by decide), Nat.lt_of_le_of_lt tx'.cnt (show 31 < 40 by decide), fun G2 t2 s2 d2 => ?_⟩
        obtain ⟨e1, e2, e3, e4⟩ := got_good o2.pl o2.word (f := 40) (by decide) (Nat.le_trans tx'.len (show 92 ≤ 100000 by decide))
        refine ⟨_, _, rfl, .inr ⟨t1, t2, _, rfl, rfl, Dp.same (sd.trans s2) _ _ d1, d2, e1, e2, e3, e4⟩, ⟨_, rfl, ?_⟩⟩
        refine ifN (by decide) ?_
        exact hNX3 _ _ ⟨rfl, g8.same (sd.trans s2)⟩
      · obtain ⟨rfl, g4⟩ := h
        obtain ⟨c4, hp4⟩ := id g4.pool
        refine seq_asg ?_
        refine ⟨(by show 1 ≤ sizeLine; decide), fun l1 n1 => ⟨(by show 1 ≤ sizeLine; decide), fun l2 oo o1 o2 n2 => fun l3 n3 => ⟨_, rfl, rfl, fun G5 l4 ys s5 n4 h4 => ⟨(by show 8 ≤ sizeLine; decide), fun L nL => ?_⟩⟩⟩⟩
        have sA := same_new (o := .lst [V.str "a"]) n1
        have sB := same_new (o := .frz oo (.tup [V.str "a"])) n2
        have sC := same_new (o := .dK []) n3
        have h1 := s5 _ _ (sC _ _ (sB _ _ (upd_same (H := G) (a := l1) (o := .lst [V.str "a"]))))
        have h2 := s5 _ _ (sC _ _ (upd_same (H := upd G l1 (.lst [V.str "a"])) (a := l2) (o := .frz oo (.tup [V.str "a"]))))
        have h3 := s5 _ _ (upd_same (H := upd (upd G l1 (.lst [V.str "a"])) l2 (.frz oo (.tup [V.str "a"]))) (a := l3) (o := .dK []))
        have g5 := g4.same (((sA.trans sB).trans sC).trans s5)
        have hp5 := hp4.same (((sA.trans sB).trans sC).trans s5)
        have sL := same_new (o := .lst [V.non, .int 0, .bl true, .ref l1, .ref l2, .ref l3, .ref x, .ref l4]) nL
        have npL := hp5.nn nL
        refine ⟨_, rfl, p, cs, z, _, c4, 8, rfl, by decide, by decide, hp5.same sL, by omega, fun G6 r6 c6 m6 hp6 r60 r61 => ?_⟩
        obtain ⟨b3, rfl, hb3⟩ := nat_of r60 r61
        have g6 := (g5.same sL).sm (hp5.same sL) m6 hp6
        have hL6 := m6 _ _ upd_same npL
        have i1 := m6 _ _ (sL _ _ h1) (hp4.nn n1)
        have i2 := m6 _ _ (sL _ _ h2) ((hp4.same sA).nn n2)
        have i3 := m6 _ _ (sL _ _ h3) ((hp4.same (sA.trans sB)).nn n3)
        have i4 := m6 _ _ (sL _ _ h4) ((hp4.same ((sA.trans sB).trans sC)).nn n4)
        have q1 : PySem.W.kitOne K (.type "NoneType") (.type "str") = some false := kit_ty (by decide +kernel)
        have q2 : PySem.W.kitOne K (.type "int") (.type "str") = some false := kit_ty (by decide +kernel)
        have q3 : PySem.W.kitOne K (.type "bool") (.type "str") = some false := kit_ty (by decide +kernel)
        have q4 : PySem.W.kitOne K (.type "list") (.type "str") = some false := kit_ty (by decide +kernel)
        have q5 : PySem.W.kitOne K (.type "tuple") (.type "str") = some false := kit_ty (by decide +kernel)
        have q6 : PySem.W.kitOne K (.type "dict") (.type "str") = some false := kit_ty (by decide +kernel)
        obtain ⟨v6, hv6, sv6⟩ : ∃ v, ([V.non, .int 0, .bl true, .ref l1, .ref l2, .ref l3, .ref x, .ref l4] : List V)[b3]? = some v ∧ StrV K G6 v false := by
          rcases b3 with _ | _ | _ | _ | _ | _ | _ | _ | b3
          · exact ⟨_, rfl, _, .base .non, q1⟩
          · exact ⟨_, rfl, _, .base (.int _), q2⟩
          · exact ⟨_, rfl, _, .base (.bl _), q3⟩
          · exact ⟨_, rfl, _, .base (.lst i1), q4⟩
          · exact ⟨_, rfl, _, .fTuple i2, q5⟩
          · exact ⟨_, rfl, _, .base (.dK i3), q6⟩
          · obtain ⟨dxl, sal, lvl, hil, _⟩ := id g6.lore
            exact ⟨_, rfl, _, hTI _ _ _ _ hil, hKS⟩
          · exact ⟨_, rfl, _, .base (.lst i4), q4⟩
          · omega
        refine ⟨L, _, _, _, rfl, rfl, .inl (.inl hL6), atI_nat hv6, ?_⟩
        clear h1 h2 h3 h4 i1 i2 i3 i4 hL6 npL sL sA sB sC g5 hp5 g4 hp4 hv6 m6 hp6
        dsimp only [gName]
        show tIfS _ _ _ _ [some (.ref a), some (.ref p), some (.int (0 + (i : Int))), some (.ref sa), some (.ref x), some (.ref pd), w6, some (.str y'), w8, none, some (.int (1 + r1)), some (.int (b : Int)), some v6] _
        refine ifs_open ?_
        refine ⟨_, rfl, _, rfl, x, v6, sg, [], false, rfl, g6.lore, o.few, sv6, (fun y => nomatch y), fun _ G7 t7 s7 d7 => ⟨(by show 2 ≤ sizeLine; decide), fun q8 o8 o81 o82 n8 => ?_⟩⟩
        have s8 := same_new (o := .frz o8 (.tup [V.str "text", .int 0])) n8
        have e0 : gotD (.inr 0) = .tuple [.str "text", .int 0] := rfl
        have e1 : gotD (.inr 1) = .tuple [.str "text", .int 1] := rfl
        have cl0 : (gotD (.inr 0)).canLay0 = true := by decide +kernel
        have cl1 : (gotD (.inr 1)).canLay0 = true := by decide +kernel
        refine ⟨gotD (.inr 0), gotD (.inr 0), Dp.same s8 _ _ d7, .tup (.inl (.inr ⟨o8, upd_same⟩)) (.cons (.str _) (.cons (.int _) .nil)), (by decide +kernel), (by decide +kernel), ?_⟩
        rw [SeqAt.eqv_refl _ cl0]
        have g8 := (g6.same s7).same s8
        refine ⟨_, rfl, ?_⟩
        refine ifN (by decide) ?_
        refine ⟨_, rfl, x, .str "", sg, [], true, rfl, g8.lore, o.few, strV_str "", (fun _ => ⟨"", rfl, by decide, fun G9 t9 s9 d9 => ⟨(by show 2 ≤ sizeLine; decide), fun q9 o9 o91 o92 n9 => ?_⟩⟩), fun y => nomatch y⟩
        have s10 := same_new (o := .frz o9 (.tup [V.str "text", .int 1])) n9
        rw [prR_nil o.pl] at d9
        refine ⟨gotD (.inr 1), gotD (.inr 1), Dp.same s10 _ _ d9, .tup (.inl (.inr ⟨o9, upd_same⟩)) (.cons (.str _) (.cons (.int _) .nil)), (by decide +kernel), (by decide +kernel), ?_⟩
        rw [SeqAt.eqv_refl _ cl1]
        have g10 := (g8.same s9).same s10
        refine ⟨_, rfl, ?_⟩
        refine ifN (by decide) ?_
        obtain ⟨c10, hp10⟩ := id g10.pool
        exact ⟨_, _, _, _, _, _, _, _, _, _, _, c10, rfl, g10.tabs, hp10, by omega, by omega⟩

end NB

set_option maxHeartbeats 0
namespace NB
open PySem PySem.Spec PyProof.Rows L2 LamX
theorem fun_ofD {K : PySem.W.Frag} {x q : Str} {st : Stmt} {f : Addr} {fd : FuncData} {dvs : List V} {kws : List (Str × V)} (e : dvs = []) (F : FunD K x q (defArgs st) (defBody st) (defScope st) dvs kws f fd) : Fun K x q st f fd := by
  obtain ⟨oc, od, dV, kV, doc, pm, an, cdv, ct, osl, e1, lk, hc, hD, hK⟩ := F.ex
  rcases hD with ⟨_, rfl⟩ | ⟨z, _⟩
  · exact ⟨⟨oc, od, kV, doc, pm, an, cdv, ct, osl, e1, lk, hc⟩, F.kp⟩
  · exact absurd e z
theorem codeFun_of {K : PySem.W.Frag} {x q : Str} {st : Stmt} {p : Str × Option Str} {fd : FuncData} (F : Fun K x q st (He.fAd K p) fd) : CodeFun K x q st (He.fAd K p) fd (He.codeOf K p) := by
  obtain ⟨oc, od, kV, doc, pm, an, cdv, ct, osl, e1, lk, hc⟩ := F.ex
  obtain ⟨c, rfl⟩ := He.codeIn_ref hc
  have e := He.codeOf_eq (c := c) lk (by rw [e1] <;> rfl)
  rw [e]
  exact ⟨oc, od, kV, doc, pm, an, ct, osl, e1, lk, hc⟩
theorem pairs_ok {K : PySem.W.Frag} {H : Hp} : ∀ {es : List (Str × Int)} {us : List Value}, pairsB K es us = true → ∃ xs, Vals xs us ∧ DpAll K H xs (es.map sg1)
  | [], [], _ => ⟨[], .nil, .nil⟩
  | [], _ :: _, h => nomatch h
  | _ :: _, [], h => nomatch h
  | e :: es, u :: us, h => by
    obtain ⟨h1, h2⟩ := He.ba (show (pairB K e u && pairsB K es us) = true from h)
    obtain ⟨xs, h3, h4⟩ := pairs_ok (H := H) h2
    unfold pairB at h1
    split at h1
    · rename_i q
      split at h1
      · rename_i c od its n sl hk
        obtain ⟨h5, h6⟩ := He.ba h1
        obtain ⟨h7, h8⟩ := He.ba h6
        exact ⟨.ref q :: xs, .cons rfl h3, .cons (.tup (.inr ⟨_, its, n, hk, congrArg Value.type (of_decide_eq_true h5), rfl, of_decide_eq_true h7, He.relAll_ok h8⟩) (.cons (.str _) (.cons (.int _) .nil))) h4⟩
      · cases h1
    · cases h1
theorem tupP_ok {K : PySem.W.Frag} {x : Str} {es : List (Str × Int)} (h : tupPB K x es = true) (H : Hp) : SgsAt K H (He.ga K x) es := by
  unfold tupPB at h
  split at h
  · rename_i c its n sl hk
    obtain ⟨h1, h2⟩ := He.ba h
    obtain ⟨h3, h4⟩ := He.ba h2
    obtain ⟨xs, h5, h6⟩ := pairs_ok (H := H) h4
    exact ⟨xs, .inr ⟨_, its, n, hk, congrArg Value.type (of_decide_eq_true h1), rfl, rfl, of_decide_eq_true h3, h5⟩, h6⟩
  · cases h
theorem ownEq_ok {K : PySem.W.Frag} {C : Str} (h : ownEqB K C = true) : OwnEqC K (He.ga K C) (He.ma K (He.ga K C) "__eq__") := by
  obtain ⟨h1, h2⟩ := He.ba h
  obtain ⟨h3, h4⟩ := He.ba h2
  obtain ⟨h5, h6⟩ := He.ba h4
  exact ⟨He.eqO_ok h1, h3, He.eqO_ok h5, of_decide_eq_true h6⟩
theorem ins_ok {K : PySem.W.Frag} {C : Str} (h : insB K C = true) (c : Cls K (He.ga K C)) : ∀ (H : Hp) (a dx : Addr) (fs : List (Str × V)), H a = some (.ins (He.ga K C) dx fs) → TyX K H (.ref a) (.ref (He.ga K C)) := fun H a dx fs e => by
  obtain ⟨h1, h2⟩ := He.ba h
  obtain ⟨h3, h4⟩ := He.ba h2
  obtain ⟨h5, h6⟩ := He.ba h4
  exact .base (.ins e c (He.eqO_ok h1) (He.eqO_ok h3) (of_decide_eq_true h5) (of_decide_eq_true h6))
theorem oex_ok {K : PySem.W.Frag} {x : Str} (h : oexB K x = true) : OexC K (He.ga K x) ∧ PySem.W.findIn K (.ref (He.ga K x)) "__init__" = some (some (.ref (He.ma K (He.ga K x) "__init__"))) ∧ PySem.W.typeIn K (.ref (He.ma K (He.ga K x) "__init__")) = some (.type "function") := by
  obtain ⟨q, h1⟩ := He.ba h
  obtain ⟨h2, h3⟩ := He.ba h1
  obtain ⟨h4, h5⟩ := He.ba h3
  obtain ⟨h6, h7⟩ := He.ba h5
  obtain ⟨h8, h9⟩ := He.ba h7
  obtain ⟨ha, hb⟩ := He.ba h9
  refine ⟨⟨?_, He.eqO_ok h2, of_decide_eq_true h4, of_decide_eq_true h6, h8⟩, He.eqO_ok ha, of_decide_eq_true hb⟩
  split at q
  · rename_i dd cd sl ho
    split at q
    · rename_i C' bm k0 k1 k2 k3 n k5 hm hs
      simp only [Bool.and_eq_true, beq_iff_eq, Bool.not_eq_true'] at q
      obtain ⟨rfl, rfl, hdel, hdi, ht⟩ := q
      obtain ⟨nm, bs, mro, ns, qn, hd, sn, sub, ab, col, del⟩ := cd
      dsimp only at hm hdel hdi
      subst hm hdel hdi
      have hsl : sl = #[k0, k1, k2, k3, some (.builtin "ValueError.__new__"), k5] := by
        obtain ⟨l⟩ := sl
        simp only at hs
        rw [hs]
      subst hsl
      exact ⟨nm, qn, ns, bs, bm, sn, sub, ab, col, dd, k0, k1, k2, k3, k5, ho, ht⟩
    · cases q
  · cases q
theorem exi_ok {K : PySem.W.Frag} {x : Str} (h : exiB K x = true) : ExcC K (He.ga K x) := by
  obtain ⟨h1, h⟩ := He.ba h
  obtain ⟨h2, h⟩ := He.ba h
  obtain ⟨h3, h⟩ := He.ba h
  obtain ⟨h4, h⟩ := He.ba h
  obtain ⟨h5, h⟩ := He.ba h
  obtain ⟨h6, h⟩ := He.ba h
  obtain ⟨h7, h8⟩ := He.ba h
  exact ⟨He.eqO_ok h1, He.eqO_ok h2, of_decide_eq_true h3, h4, He.eqO_ok h5, He.eqO_ok h6, of_decide_eq_true h7, of_decide_eq_true h8⟩
theorem xbase_ok {K : PySem.W.Frag} {x : Str} (h : xbaseB K x = true) : PySem.W.specialIn K (.ref (He.ga K x)) "__getattribute__" = some (some (.builtin "type.__getattribute__")) ∧ PySem.W.typeIn K (.ref (He.ga K x)) = some (.type "type") ∧ PySem.W.readsIn K (He.ga K x) (.type "type") = true ∧ PySem.W.findCls K (.ref (He.ga K x)) (.type "type") "__init__" = some (.val (.builtin "ValueError.__init__")) := by
  obtain ⟨h1, h2⟩ := He.ba h
  obtain ⟨h3, h4⟩ := He.ba h2
  obtain ⟨h5, h6⟩ := He.ba h4
  exact ⟨He.eqO_ok h1, of_decide_eq_true h3, h5, isVI_ok h6⟩
theorem tabs_starts {l : List (Addr × Str)} {H : Hp} (h : ∀ x ∈ l, H x.1 = some (.tbl #[])) : Tabs l H := fun x hx => ⟨#[], h x hx, by first | trivial | exact .nil | decide, fun pos cv hc => by cases hc⟩
theorem hu_all : ∀ {l : List (Addr × Str)}, (l.map (·.1)).Nodup → ∀ x ∈ l, ∀ p ∈ l, p.1 = x.1 → p.2 = x.2
  | [], _, x, hx, _, _, _ => nomatch hx
  | a :: l, nd, x, hx, p, hp, e => by
    rw [List.map_cons, List.nodup_cons] at nd
    rcases List.mem_cons.mp hx with z | z
    · rcases List.mem_cons.mp hp with y | y
      · rw [z, y]
      · exact absurd (List.mem_map.mpr ⟨p, y, e.trans (congrArg Prod.fst z)⟩) nd.1
    · rcases List.mem_cons.mp hp with y | y
      · exact absurd (List.mem_map.mpr ⟨x, z, (congrArg Prod.fst y).symm.trans e |>.symm⟩) nd.1
      · exact hu_all nd.2 x z p y e
def hdTt (K : PySem.W.Frag) : List (Addr × Str) := [((He.cT K ("Bank", some "take")).2, lamTake)]
theorem hd_tx {w : World} {K : PySem.W.Frag} {h : Heap} {mg : Str → Option Value} (X : K.In h) (G : h.Ns mainGlobals mg) (c : He.SaysX hdFa hdFn [] hdTf hdEx w h K) : ∃ T : Tx K mg, T.a_law = He.fAd K ("law", none) ∧ T.a_Bank_take = He.fAd K ("Bank", some "take") ∧ T.c_Bank = He.ga K "Bank" ∧ T.c_Lore = He.ga K "Lore" ∧ T.c_TermReader = He.ga K "TermReader" ∧ True := by
  have cd := c.t.d
  obtain ⟨d_BadText___init__, F_BadText___init__⟩ := cd.def_ 0 (d := dd_BadText___init__) rfl
  obtain ⟨d_is_integer, F_is_integer⟩ := cd.def_ 1 (d := dd_is_integer) rfl
  obtain ⟨d_is_number_below, F_is_number_below⟩ := cd.def_ 2 (d := dd_is_number_below) rfl
  obtain ⟨d_is_tuple_of, F_is_tuple_of⟩ := cd.def_ 3 (d := dd_is_tuple_of) rfl
  obtain ⟨d_is_sign, F_is_sign⟩ := cd.def_ 4 (d := dd_is_sign) rfl
  obtain ⟨d_is_placed_sign, F_is_placed_sign⟩ := cd.def_ 5 (d := dd_is_placed_sign) rfl
  obtain ⟨d_are_signs, F_are_signs⟩ := cd.def_ 6 (d := dd_are_signs) rfl
  obtain ⟨d_fits, F_fits⟩ := cd.def_ 7 (d := dd_fits) rfl
  obtain ⟨d_nodes, F_nodes⟩ := cd.def_ 8 (d := dd_nodes) rfl
  obtain ⟨d_words, F_words⟩ := cd.def_ 9 (d := dd_words) rfl
  obtain ⟨d_from_within, F_from_within⟩ := cd.def_ 10 (d := dd_from_within) rfl
  obtain ⟨d_Bank___init__, F_Bank___init__⟩ := cd.def_ 11 (d := dd_Bank___init__) rfl
  obtain ⟨d_Bank_number_of, F_Bank_number_of⟩ := cd.def_ 12 (d := dd_Bank_number_of) rfl
  obtain ⟨d_Bank_take, F_Bank_take⟩ := cd.def_ 13 (d := dd_Bank_take) rfl
  obtain ⟨d_Bank_take_lines, F_Bank_take_lines⟩ := cd.def_ 14 (d := dd_Bank_take_lines) rfl
  obtain ⟨d_Lore___init__, F_Lore___init__⟩ := cd.def_ 15 (d := dd_Lore___init__) rfl
  obtain ⟨d_Lore___eq__, F_Lore___eq__⟩ := cd.def_ 16 (d := dd_Lore___eq__) rfl
  obtain ⟨d_flat, F_flat⟩ := cd.def_ 17 (d := dd_flat) rfl
  obtain ⟨d_fits_line, F_fits_line⟩ := cd.def_ 18 (d := dd_fits_line) rfl
  obtain ⟨d_bank_of_told, F_bank_of_told⟩ := cd.def_ 19 (d := dd_bank_of_told) rfl
  obtain ⟨d_told_in, F_told_in⟩ := cd.def_ 20 (d := dd_told_in) rfl
  obtain ⟨d_beginnings, F_beginnings⟩ := cd.def_ 21 (d := dd_beginnings) rfl
  obtain ⟨d_TermReader___init__, F_TermReader___init__⟩ := cd.def_ 22 (d := dd_TermReader___init__) rfl
  obtain ⟨d_TermReader_takes, F_TermReader_takes⟩ := cd.def_ 23 (d := dd_TermReader_takes) rfl
  obtain ⟨d_TermReader_takes_letter, F_TermReader_takes_letter⟩ := cd.def_ 24 (d := dd_TermReader_takes_letter) rfl
  obtain ⟨d_TermReader_takes_bracket, F_TermReader_takes_bracket⟩ := cd.def_ 25 (d := dd_TermReader_takes_bracket) rfl
  obtain ⟨d_TermReader_ends_part, F_TermReader_ends_part⟩ := cd.def_ 26 (d := dd_TermReader_ends_part) rfl
  obtain ⟨d_TermReader_term_here, F_TermReader_term_here⟩ := cd.def_ 27 (d := dd_TermReader_term_here) rfl
  obtain ⟨d_TermReader_finished, F_TermReader_finished⟩ := cd.def_ 28 (d := dd_TermReader_finished) rfl
  obtain ⟨d_parsed, F_parsed⟩ := cd.def_ 29 (d := dd_parsed) rfl
  obtain ⟨d_read_term, F_read_term⟩ := cd.def_ 30 (d := dd_read_term) rfl
  obtain ⟨d__law_pool, F__law_pool⟩ := cd.def_ 31 (d := dd__law_pool) rfl
  obtain ⟨d__law_draw, F__law_draw⟩ := cd.def_ 32 (d := dd__law_draw) rfl
  obtain ⟨d__law_deep, F__law_deep⟩ := cd.def_ 33 (d := dd__law_deep) rfl
  obtain ⟨d__law_is, F__law_is⟩ := cd.def_ 34 (d := dd__law_is) rfl
  obtain ⟨d__law_signs, F__law_signs⟩ := cd.def_ 35 (d := dd__law_signs) rfl
  obtain ⟨d__law_term, F__law_term⟩ := cd.def_ 36 (d := dd__law_term) rfl
  obtain ⟨d__law_text, F__law_text⟩ := cd.def_ 37 (d := dd__law_text) rfl
  obtain ⟨d__law_word_at, F__law_word_at⟩ := cd.def_ 38 (d := dd__law_word_at) rfl
  obtain ⟨d__law_term_at, F__law_term_at⟩ := cd.def_ 39 (d := dd__law_term_at) rfl
  obtain ⟨d__law_read, F__law_read⟩ := cd.def_ 40 (d := dd__law_read) rfl
  obtain ⟨d__law_spoiled, F__law_spoiled⟩ := cd.def_ 41 (d := dd__law_spoiled) rfl
  obtain ⟨d__law_told_of, F__law_told_of⟩ := cd.def_ 42 (d := dd__law_told_of) rfl
  obtain ⟨d_law, F_law⟩ := cd.def_ 43 (d := dd_law) rfl
  have cm : hdEx K = true := c.more
  unfold hdEx at cm
  obtain ⟨x0, cm⟩ := He.ba cm
  obtain ⟨x1, cm⟩ := He.ba cm
  obtain ⟨x2, cm⟩ := He.ba cm
  obtain ⟨x3, cm⟩ := He.ba cm
  obtain ⟨x4, cm⟩ := He.ba cm
  obtain ⟨x5, cm⟩ := He.ba cm
  obtain ⟨x6, cm⟩ := He.ba cm
  obtain ⟨x7, cm⟩ := He.ba cm
  obtain ⟨x8, cm⟩ := He.ba cm
  obtain ⟨x9, cm⟩ := He.ba cm
  refine ⟨{
    a_BadText___init__ := He.fAd K ("BadText", some "__init__"),
    d_BadText___init__ := d_BadText___init__,
    F_BadText___init__ := fun_ofD rfl F_BadText___init__,
    b_BadText___init__ := FunD.bindsN F_BadText___init__ fun _ _ _ _ _ _ us hl => match us, hl with | [_, _], _ => rfl,
    a_is_integer := He.fAd K ("is_integer", none),
    d_is_integer := d_is_integer,
    F_is_integer := fun_ofD rfl F_is_integer,
    b_is_integer := FunD.bindsN F_is_integer fun _ _ _ _ _ _ us hl => match us, hl with | [_], _ => rfl,
    m_is_integer := He.glo_ok X G (cd.fact 0 (f := .glo "is_integer") rfl),
    a_is_number_below := He.fAd K ("is_number_below", none),
    d_is_number_below := d_is_number_below,
    F_is_number_below := fun_ofD rfl F_is_number_below,
    b_is_number_below := FunD.bindsN F_is_number_below fun _ _ _ _ _ _ us hl => match us, hl with | [_, _], _ => rfl,
    m_is_number_below := He.glo_ok X G (cd.fact 1 (f := .glo "is_number_below") rfl),
    a_is_tuple_of := He.fAd K ("is_tuple_of", none),
    d_is_tuple_of := d_is_tuple_of,
    F_is_tuple_of := fun_ofD rfl F_is_tuple_of,
    b_is_tuple_of := FunD.bindsN F_is_tuple_of fun _ _ _ _ _ _ us hl => match us, hl with | [_, _], _ => rfl,
    m_is_tuple_of := He.glo_ok X G (cd.fact 2 (f := .glo "is_tuple_of") rfl),
    a_is_sign := He.fAd K ("is_sign", none),
    d_is_sign := d_is_sign,
    F_is_sign := fun_ofD rfl F_is_sign,
    b_is_sign := FunD.bindsN F_is_sign fun _ _ _ _ _ _ us hl => match us, hl with | [_], _ => rfl,
    m_is_sign := He.glo_ok X G (cd.fact 3 (f := .glo "is_sign") rfl),
    a_is_placed_sign := He.fAd K ("is_placed_sign", none),
    d_is_placed_sign := d_is_placed_sign,
    F_is_placed_sign := fun_ofD rfl F_is_placed_sign,
    b_is_placed_sign := FunD.bindsN F_is_placed_sign fun _ _ _ _ _ _ us hl => match us, hl with | [_], _ => rfl,
    m_is_placed_sign := He.glo_ok X G (cd.fact 4 (f := .glo "is_placed_sign") rfl),
    a_are_signs := He.fAd K ("are_signs", none),
    d_are_signs := d_are_signs,
    F_are_signs := fun_ofD rfl F_are_signs,
    b_are_signs := FunD.bindsN F_are_signs fun _ _ _ _ _ _ us hl => match us, hl with | [_], _ => rfl,
    m_are_signs := He.glo_ok X G (cd.fact 5 (f := .glo "are_signs") rfl),
    a_fits := He.fAd K ("fits", none),
    d_fits := d_fits,
    F_fits := fun_ofD rfl F_fits,
    b_fits := FunD.bindsN F_fits fun _ _ _ _ _ _ us hl => match us, hl with | [_, _], _ => rfl,
    m_fits := He.glo_ok X G (cd.fact 6 (f := .glo "fits") rfl),
    a_nodes := He.fAd K ("nodes", none),
    d_nodes := d_nodes,
    F_nodes := fun_ofD rfl F_nodes,
    b_nodes := FunD.bindsN F_nodes fun _ _ _ _ _ _ us hl => match us, hl with | [_], _ => rfl,
    m_nodes := He.glo_ok X G (cd.fact 7 (f := .glo "nodes") rfl),
    a_words := He.fAd K ("words", none),
    d_words := d_words,
    F_words := fun_ofD rfl F_words,
    b_words := FunD.bindsN F_words fun _ _ _ _ _ _ us hl => match us, hl with | [_], _ => rfl,
    m_words := He.glo_ok X G (cd.fact 8 (f := .glo "words") rfl),
    a_from_within := He.fAd K ("from_within", none),
    d_from_within := d_from_within,
    F_from_within := fun_ofD rfl F_from_within,
    b_from_within := FunD.bindsN F_from_within fun _ _ _ _ _ _ us hl => match us, hl with | [_, _], _ => rfl,
    m_from_within := He.glo_ok X G (cd.fact 9 (f := .glo "from_within") rfl),
    a_Bank___init__ := He.fAd K ("Bank", some "__init__"),
    d_Bank___init__ := d_Bank___init__,
    F_Bank___init__ := fun_ofD rfl F_Bank___init__,
    b_Bank___init__ := FunD.bindsN F_Bank___init__ fun _ _ _ _ _ _ us hl => match us, hl with | [_], _ => rfl,
    a_Bank_number_of := He.fAd K ("Bank", some "number_of"),
    d_Bank_number_of := d_Bank_number_of,
    F_Bank_number_of := fun_ofD rfl F_Bank_number_of,
    b_Bank_number_of := FunD.bindsN F_Bank_number_of fun _ _ _ _ _ _ us hl => match us, hl with | [_, _, _], _ => rfl,
    a_Bank_take := He.fAd K ("Bank", some "take"),
    d_Bank_take := d_Bank_take,
    F_Bank_take := fun_ofD rfl F_Bank_take,
    b_Bank_take := FunD.bindsN F_Bank_take fun _ _ _ _ _ _ us hl => match us, hl with | [_, _], _ => rfl,
    a_Bank_take_lines := He.fAd K ("Bank", some "take_lines"),
    d_Bank_take_lines := d_Bank_take_lines,
    F_Bank_take_lines := fun_ofD rfl F_Bank_take_lines,
    b_Bank_take_lines := FunD.bindsN F_Bank_take_lines fun _ _ _ _ _ _ us hl => match us, hl with | [_, _], _ => rfl,
    a_Lore___init__ := He.fAd K ("Lore", some "__init__"),
    d_Lore___init__ := d_Lore___init__,
    F_Lore___init__ := fun_ofD rfl F_Lore___init__,
    b_Lore___init__ := FunD.bindsN F_Lore___init__ fun _ _ _ _ _ _ us hl => match us, hl with | [_, _, _], _ => rfl,
    a_Lore___eq__ := He.fAd K ("Lore", some "__eq__"),
    d_Lore___eq__ := d_Lore___eq__,
    F_Lore___eq__ := fun_ofD rfl F_Lore___eq__,
    b_Lore___eq__ := FunD.bindsN F_Lore___eq__ fun _ _ _ _ _ _ us hl => match us, hl with | [_, _], _ => rfl,
    a_flat := He.fAd K ("flat", none),
    d_flat := d_flat,
    F_flat := fun_ofD rfl F_flat,
    b_flat := FunD.bindsN F_flat fun _ _ _ _ _ _ us hl => match us, hl with | [_], _ => rfl,
    m_flat := He.glo_ok X G (cd.fact 10 (f := .glo "flat") rfl),
    a_fits_line := He.fAd K ("fits_line", none),
    d_fits_line := d_fits_line,
    F_fits_line := fun_ofD rfl F_fits_line,
    b_fits_line := FunD.bindsN F_fits_line fun _ _ _ _ _ _ us hl => match us, hl with | [_, _], _ => rfl,
    m_fits_line := He.glo_ok X G (cd.fact 11 (f := .glo "fits_line") rfl),
    a_bank_of_told := He.fAd K ("bank_of_told", none),
    d_bank_of_told := d_bank_of_told,
    F_bank_of_told := fun_ofD rfl F_bank_of_told,
    b_bank_of_told := FunD.bindsN F_bank_of_told fun _ _ _ _ _ _ us hl => match us, hl with | [_], _ => rfl,
    m_bank_of_told := He.glo_ok X G (cd.fact 12 (f := .glo "bank_of_told") rfl),
    a_told_in := He.fAd K ("told_in", none),
    d_told_in := d_told_in,
    F_told_in := fun_ofD rfl F_told_in,
    b_told_in := FunD.bindsN F_told_in fun _ _ _ _ _ _ us hl => match us, hl with | [_], _ => rfl,
    m_told_in := He.glo_ok X G (cd.fact 13 (f := .glo "told_in") rfl),
    a_beginnings := He.fAd K ("beginnings", none),
    d_beginnings := d_beginnings,
    F_beginnings := fun_ofD rfl F_beginnings,
    b_beginnings := FunD.bindsN F_beginnings fun _ _ _ _ _ _ us hl => match us, hl with | [_], _ => rfl,
    m_beginnings := He.glo_ok X G (cd.fact 14 (f := .glo "beginnings") rfl),
    a_TermReader___init__ := He.fAd K ("TermReader", some "__init__"),
    d_TermReader___init__ := d_TermReader___init__,
    F_TermReader___init__ := fun_ofD rfl F_TermReader___init__,
    b_TermReader___init__ := FunD.bindsN F_TermReader___init__ fun _ _ _ _ _ _ us hl => match us, hl with | [_, _], _ => rfl,
    a_TermReader_takes := He.fAd K ("TermReader", some "takes"),
    d_TermReader_takes := d_TermReader_takes,
    F_TermReader_takes := fun_ofD rfl F_TermReader_takes,
    b_TermReader_takes := FunD.bindsN F_TermReader_takes fun _ _ _ _ _ _ us hl => match us, hl with | [_, _], _ => rfl,
    a_TermReader_takes_letter := He.fAd K ("TermReader", some "takes_letter"),
    d_TermReader_takes_letter := d_TermReader_takes_letter,
    F_TermReader_takes_letter := fun_ofD rfl F_TermReader_takes_letter,
    b_TermReader_takes_letter := FunD.bindsN F_TermReader_takes_letter fun _ _ _ _ _ _ us hl => match us, hl with | [_, _], _ => rfl,
    a_TermReader_takes_bracket := He.fAd K ("TermReader", some "takes_bracket"),
    d_TermReader_takes_bracket := d_TermReader_takes_bracket,
    F_TermReader_takes_bracket := fun_ofD rfl F_TermReader_takes_bracket,
    b_TermReader_takes_bracket := FunD.bindsN F_TermReader_takes_bracket fun _ _ _ _ _ _ us hl => match us, hl with | [_], _ => rfl,
    a_TermReader_ends_part := He.fAd K ("TermReader", some "ends_part"),
    d_TermReader_ends_part := d_TermReader_ends_part,
    F_TermReader_ends_part := fun_ofD rfl F_TermReader_ends_part,
    b_TermReader_ends_part := FunD.bindsN F_TermReader_ends_part fun _ _ _ _ _ _ us hl => match us, hl with | [_, _], _ => rfl,
    a_TermReader_term_here := He.fAd K ("TermReader", some "term_here"),
    d_TermReader_term_here := d_TermReader_term_here,
    F_TermReader_term_here := fun_ofD rfl F_TermReader_term_here,
    b_TermReader_term_here := FunD.bindsN F_TermReader_term_here fun _ _ _ _ _ _ us hl => match us, hl with | [_], _ => rfl,
    a_TermReader_finished := He.fAd K ("TermReader", some "finished"),
    d_TermReader_finished := d_TermReader_finished,
    F_TermReader_finished := fun_ofD rfl F_TermReader_finished,
    b_TermReader_finished := FunD.bindsN F_TermReader_finished fun _ _ _ _ _ _ us hl => match us, hl with | [_], _ => rfl,
    a_parsed := He.fAd K ("parsed", none),
    d_parsed := d_parsed,
    F_parsed := fun_ofD rfl F_parsed,
    b_parsed := FunD.bindsN F_parsed fun _ _ _ _ _ _ us hl => match us, hl with | [_, _], _ => rfl,
    m_parsed := He.glo_ok X G (cd.fact 15 (f := .glo "parsed") rfl),
    a_read_term := He.fAd K ("read_term", none),
    d_read_term := d_read_term,
    F_read_term := fun_ofD rfl F_read_term,
    b_read_term := FunD.bindsN F_read_term fun _ _ _ _ _ _ us hl => match us, hl with | [_, _], _ => rfl,
    m_read_term := He.glo_ok X G (cd.fact 16 (f := .glo "read_term") rfl),
    a__law_pool := He.fAd K ("_law_pool", none),
    d__law_pool := d__law_pool,
    F__law_pool := fun_ofD rfl F__law_pool,
    b__law_pool := FunD.bindsN F__law_pool fun _ _ _ _ _ _ us hl => match us, hl with | [_], _ => rfl,
    m__law_pool := He.glo_ok X G (cd.fact 17 (f := .glo "_law_pool") rfl),
    a__law_draw := He.fAd K ("_law_draw", none),
    d__law_draw := d__law_draw,
    F__law_draw := fun_ofD rfl F__law_draw,
    b__law_draw := FunD.bindsN F__law_draw fun _ _ _ _ _ _ us hl => match us, hl with | [_, _], _ => rfl,
    m__law_draw := He.glo_ok X G (cd.fact 18 (f := .glo "_law_draw") rfl),
    a__law_deep := He.fAd K ("_law_deep", none),
    d__law_deep := d__law_deep,
    F__law_deep := fun_ofD rfl F__law_deep,
    b__law_deep := FunD.bindsN F__law_deep fun _ _ _ _ _ _ us hl => match us, hl with | [], _ => rfl,
    m__law_deep := He.glo_ok X G (cd.fact 19 (f := .glo "_law_deep") rfl),
    a__law_is := He.fAd K ("_law_is", none),
    d__law_is := d__law_is,
    F__law_is := fun_ofD rfl F__law_is,
    b__law_is := FunD.bindsN F__law_is fun _ _ _ _ _ _ us hl => match us, hl with | [_, _], _ => rfl,
    m__law_is := He.glo_ok X G (cd.fact 20 (f := .glo "_law_is") rfl),
    a__law_signs := He.fAd K ("_law_signs", none),
    d__law_signs := d__law_signs,
    F__law_signs := fun_ofD rfl F__law_signs,
    b__law_signs := FunD.bindsN F__law_signs fun _ _ _ _ _ _ us hl => match us, hl with | [_], _ => rfl,
    m__law_signs := He.glo_ok X G (cd.fact 21 (f := .glo "_law_signs") rfl),
    a__law_term := He.fAd K ("_law_term", none),
    d__law_term := d__law_term,
    F__law_term := fun_ofD rfl F__law_term,
    b__law_term := FunD.bindsN F__law_term fun _ _ _ _ _ _ us hl => match us, hl with | [_, _, _], _ => rfl,
    m__law_term := He.glo_ok X G (cd.fact 22 (f := .glo "_law_term") rfl),
    a__law_text := He.fAd K ("_law_text", none),
    d__law_text := d__law_text,
    F__law_text := fun_ofD rfl F__law_text,
    b__law_text := FunD.bindsN F__law_text fun _ _ _ _ _ _ us hl => match us, hl with | [_], _ => rfl,
    m__law_text := He.glo_ok X G (cd.fact 23 (f := .glo "_law_text") rfl),
    a__law_word_at := He.fAd K ("_law_word_at", none),
    d__law_word_at := d__law_word_at,
    F__law_word_at := fun_ofD rfl F__law_word_at,
    b__law_word_at := FunD.bindsN F__law_word_at fun _ _ _ _ _ _ us hl => match us, hl with | [_, _, _], _ => rfl,
    m__law_word_at := He.glo_ok X G (cd.fact 24 (f := .glo "_law_word_at") rfl),
    a__law_term_at := He.fAd K ("_law_term_at", none),
    d__law_term_at := d__law_term_at,
    F__law_term_at := fun_ofD rfl F__law_term_at,
    b__law_term_at := FunD.bindsN F__law_term_at fun _ _ _ _ _ _ us hl => match us, hl with | [_, _, _], _ => rfl,
    m__law_term_at := He.glo_ok X G (cd.fact 25 (f := .glo "_law_term_at") rfl),
    a__law_read := He.fAd K ("_law_read", none),
    d__law_read := d__law_read,
    F__law_read := fun_ofD rfl F__law_read,
    b__law_read := FunD.bindsN F__law_read fun _ _ _ _ _ _ us hl => match us, hl with | [_, _], _ => rfl,
    m__law_read := He.glo_ok X G (cd.fact 26 (f := .glo "_law_read") rfl),
    a__law_spoiled := He.fAd K ("_law_spoiled", none),
    d__law_spoiled := d__law_spoiled,
    F__law_spoiled := fun_ofD rfl F__law_spoiled,
    b__law_spoiled := FunD.bindsN F__law_spoiled fun _ _ _ _ _ _ us hl => match us, hl with | [_, _, _], _ => rfl,
    m__law_spoiled := He.glo_ok X G (cd.fact 27 (f := .glo "_law_spoiled") rfl),
    a__law_told_of := He.fAd K ("_law_told_of", none),
    d__law_told_of := d__law_told_of,
    F__law_told_of := fun_ofD rfl F__law_told_of,
    b__law_told_of := FunD.bindsN F__law_told_of fun _ _ _ _ _ _ us hl => match us, hl with | [_, _], _ => rfl,
    m__law_told_of := He.glo_ok X G (cd.fact 28 (f := .glo "_law_told_of") rfl),
    a_law := He.fAd K ("law", none),
    d_law := d_law,
    F_law := fun_ofD rfl F_law,
    b_law := FunD.bindsN F_law fun _ _ _ _ _ _ us hl => match us, hl with | [_], _ => rfl,
    m_law := He.glo_ok X G (cd.fact 29 (f := .glo "law") rfl),
    c_Bank := He.ga K "Bank",
    cl_Bank := He.cls_ok (cd.fact 31 (f := .cls "Bank") rfl),
    m_Bank := He.glo_ok X G (cd.fact 30 (f := .glo "Bank") rfl),
    mk_Bank := He.mkr_ok (cd.fact 32 (f := .mkr "Bank") rfl),
    h_Bank_number_of := He.meth_ok (cd.fact 33 (f := .meth "Bank" "number_of") rfl),
    h_Bank_take := He.meth_ok (cd.fact 34 (f := .meth "Bank" "take") rfl),
    h_Bank_take_lines := He.meth_ok (cd.fact 35 (f := .meth "Bank" "take_lines") rfl),
    n_Bank_table := He.noat_ok (cd.fact 36 (f := .noat "Bank" "table") rfl),
    n_Bank_shapes := He.noat_ok (cd.fact 37 (f := .noat "Bank" "shapes") rfl),
    n_Bank_terms := He.noat_ok (cd.fact 38 (f := .noat "Bank" "terms") rfl),
    c_Lore := He.ga K "Lore",
    cl_Lore := He.cls_ok (cd.fact 40 (f := .cls "Lore") rfl),
    m_Lore := He.glo_ok X G (cd.fact 39 (f := .glo "Lore") rfl),
    mk_Lore := He.mkr_ok (cd.fact 41 (f := .mkr "Lore") rfl),
    q_Lore := ownEq_ok x0,
    n_Lore_signs := He.noat_ok (cd.fact 42 (f := .noat "Lore" "signs") rfl),
    n_Lore_lines := He.noat_ok (cd.fact 43 (f := .noat "Lore" "lines") rfl),
    c_TermReader := He.ga K "TermReader",
    cl_TermReader := He.cls_ok (cd.fact 45 (f := .cls "TermReader") rfl),
    m_TermReader := He.glo_ok X G (cd.fact 44 (f := .glo "TermReader") rfl),
    mk_TermReader := He.mkr_ok (cd.fact 46 (f := .mkr "TermReader") rfl),
    h_TermReader_takes := He.meth_ok (cd.fact 47 (f := .meth "TermReader" "takes") rfl),
    h_TermReader_takes_letter := He.meth_ok (cd.fact 48 (f := .meth "TermReader" "takes_letter") rfl),
    h_TermReader_takes_bracket := He.meth_ok (cd.fact 49 (f := .meth "TermReader" "takes_bracket") rfl),
    h_TermReader_ends_part := He.meth_ok (cd.fact 50 (f := .meth "TermReader" "ends_part") rfl),
    h_TermReader_term_here := He.meth_ok (cd.fact 51 (f := .meth "TermReader" "term_here") rfl),
    h_TermReader_finished := He.meth_ok (cd.fact 52 (f := .meth "TermReader" "finished") rfl),
    n_TermReader_places := He.noat_ok (cd.fact 53 (f := .noat "TermReader" "places") rfl),
    n_TermReader_heads := He.noat_ok (cd.fact 54 (f := .noat "TermReader" "heads") rfl),
    n_TermReader_word := He.noat_ok (cd.fact 55 (f := .noat "TermReader" "word") rfl),
    n_TermReader_frames := He.noat_ok (cd.fact 56 (f := .noat "TermReader" "frames") rfl),
    n_TermReader_whole := He.noat_ok (cd.fact 57 (f := .noat "TermReader" "whole") rfl),
    u_LETTERS := .str "abcdefghijklmnopqrstuvwxyz" (He.str_ok X G (cd.fact 62 (f := .str "LETTERS" "abcdefghijklmnopqrstuvwxyz") rfl)).choose,
    m_LETTERS := (He.str_ok X G (cd.fact 62 (f := .str "LETTERS" "abcdefghijklmnopqrstuvwxyz") rfl)).choose_spec,
    r_LETTERS := ⟨_, rfl⟩,
    u_MOST_LETTERS := .int 8 (He.int_ok X G (cd.fact 63 (f := .int "MOST_LETTERS" 8) rfl)).choose,
    m_MOST_LETTERS := (He.int_ok X G (cd.fact 63 (f := .int "MOST_LETTERS" 8) rfl)).choose_spec,
    r_MOST_LETTERS := ⟨_, rfl⟩,
    u_MOST_PLACES := .int 2 (He.int_ok X G (cd.fact 64 (f := .int "MOST_PLACES" 2) rfl)).choose,
    m_MOST_PLACES := (He.int_ok X G (cd.fact 64 (f := .int "MOST_PLACES" 2) rfl)).choose_spec,
    r_MOST_PLACES := ⟨_, rfl⟩,
    u_MOST_SIGNS := .int 12 (He.int_ok X G (cd.fact 65 (f := .int "MOST_SIGNS" 12) rfl)).choose,
    m_MOST_SIGNS := (He.int_ok X G (cd.fact 65 (f := .int "MOST_SIGNS" 12) rfl)).choose_spec,
    r_MOST_SIGNS := ⟨_, rfl⟩,
    u_MOST_LINES := .int 24 (He.int_ok X G (cd.fact 66 (f := .int "MOST_LINES" 24) rfl)).choose,
    m_MOST_LINES := (He.int_ok X G (cd.fact 66 (f := .int "MOST_LINES" 24) rfl)).choose_spec,
    r_MOST_LINES := ⟨_, rfl⟩,
    u_MOST_TOLD := .int 60 (He.int_ok X G (cd.fact 67 (f := .int "MOST_TOLD" 60) rfl)).choose,
    m_MOST_TOLD := (He.int_ok X G (cd.fact 67 (f := .int "MOST_TOLD" 60) rfl)).choose_spec,
    r_MOST_TOLD := ⟨_, rfl⟩,
    c_LoreError := He.ga K "LoreError",
    m_LoreError := He.glo_ok X G (cd.fact 58 (f := .glo "LoreError") rfl),
    g_LoreError := (xbase_ok x7).1,
    y_LoreError := (xbase_ok x7).2.1,
    rd_LoreError := (xbase_ok x7).2.2.1,
    v_LoreError := (xbase_ok x7).2.2.2,
    c_BadText := He.ga K "BadText",
    m_BadText := He.glo_ok X G (cd.fact 59 (f := .glo "BadText") rfl),
    o_BadText := (oex_ok x3).1,
    i_BadText := (oex_ok x3).2.1,
    t_BadText := (oex_ok x3).2.2,
    n_BadText_place := He.noat_ok (cd.fact 60 (f := .noat "BadText" "place") rfl),
    ex_BadText := exi_ok x4,
    k_BadText_LoreError := of_decide_eq_true x5,
    k_BadText_ValueError := of_decide_eq_true x6,
    e_BadText_BadText := He.exm_ok (cd.fact 61 (f := .exm "BadText" "BadText" true) rfl),
    z_ValueError := He.free_ok X G (cd.fact 68 (f := .free "ValueError") rfl),
    z_abs := He.free_ok X G (cd.fact 69 (f := .free "abs") rfl),
    z_all := He.free_ok X G (cd.fact 70 (f := .free "all") rfl),
    z_any := He.free_ok X G (cd.fact 71 (f := .free "any") rfl),
    z_bool := He.free_ok X G (cd.fact 72 (f := .free "bool") rfl),
    z_dict := He.free_ok X G (cd.fact 73 (f := .free "dict") rfl),
    z_enumerate := He.free_ok X G (cd.fact 74 (f := .free "enumerate") rfl),
    z_int := He.free_ok X G (cd.fact 75 (f := .free "int") rfl),
    z_isinstance := He.free_ok X G (cd.fact 76 (f := .free "isinstance") rfl),
    z_len := He.free_ok X G (cd.fact 77 (f := .free "len") rfl),
    z_list := He.free_ok X G (cd.fact 78 (f := .free "list") rfl),
    z_max := He.free_ok X G (cd.fact 79 (f := .free "max") rfl),
    z_range := He.free_ok X G (cd.fact 80 (f := .free "range") rfl),
    z_repr := He.free_ok X G (cd.fact 81 (f := .free "repr") rfl),
    z_reversed := He.free_ok X G (cd.fact 82 (f := .free "reversed") rfl),
    z_sorted := He.free_ok X G (cd.fact 83 (f := .free "sorted") rfl),
    z_str := He.free_ok X G (cd.fact 84 (f := .free "str") rfl),
    z_sum := He.free_ok X G (cd.fact 85 (f := .free "sum") rfl),
    z_tuple := He.free_ok X G (cd.fact 86 (f := .free "tuple") rfl)}, rfl, rfl, rfl, rfl, rfl, True.intro⟩
end NB

namespace NB
open PySem PySem.Spec PyProof.Rows L2 LamX
theorem hd_law {w : World} {K : PySem.W.Frag} {h : Heap} {mg : Str → Option Value} {fa : Addr} (X : K.In h) (G : h.Ns mainGlobals mg) (hfa : mg "law" = some (.ref fa)) (c : He.SaysX hdFa hdFn [] hdTf hdEx w h K) :
    LawG PySem.Challenge.rw_neatbooks_k08_whole_texts_of_terms_sign w K CX0 43 63 "_law_script" mg fa h := by
  obtain ⟨T, e1, l_Bank_take, c_Bank, c_Lore, c_TermReader, _⟩ := hd_tx X G c
  have ea := hfa.symm.trans T.m_law
  cases ea
  refine ⟨T.d_law, hdTf.map (He.cT K), sp_law K (hdTt K), ?_, ?_, ?_, ?_, ?_, ?_⟩
  · intro p hp
    obtain ⟨q, hq, rfl⟩ := List.mem_map.mp hp
    exact c.empty q hq
  · intro p hp
    obtain ⟨q, hq, rfl⟩ := List.mem_map.mp hp
    exact c.out q hq
  · intro p hp
    obtain ⟨q, hq, rfl⟩ := List.mem_map.mp hp
    exact PySem.W.codeHd_of_K X (c.hd q hq)
  · intro s u
    obtain ⟨oc, od, kV, doc, pm, an, cdv, ct, osl, e, lk, hc⟩ := T.F_law.ex
    rw [e]
    exact .of_eq rfl
  · intro H a ns hl hb hH hS
    exact ⟨a, ns, rfl, hS, hl, tabs_starts (fun x hx => by
      obtain ⟨d, hd, e⟩ : ∃ d ∈ hdTf, x.1 = (He.cT K d).2 := by
        simp only [hdTt, List.mem_cons, List.not_mem_nil, or_false] at hx
        first
          | (rcases hx with rfl <;> exact ⟨_, by simp [hdTf], rfl⟩)
      rw [e]
      exact hH _ (List.mem_map.mpr ⟨d, hd, rfl⟩)), fun _ => rfl⟩
  · intro base KB GB TB
    have cm : hdEx K = true := c.more
    unfold hdEx at cm
    obtain ⟨x0, cm⟩ := He.ba cm
    obtain ⟨x1, cm⟩ := He.ba cm
    obtain ⟨x2, cm⟩ := He.ba cm
    obtain ⟨x3, cm⟩ := He.ba cm
    obtain ⟨x4, cm⟩ := He.ba cm
    obtain ⟨x5, cm⟩ := He.ba cm
    obtain ⟨x6, cm⟩ := He.ba cm
    obtain ⟨x7, cm⟩ := He.ba cm
    obtain ⟨x8, cm⟩ := He.ba cm
    obtain ⟨x9, cm⟩ := He.ba cm
    have tnd : ((hdTt K).map (·.1)).Nodup := of_decide_eq_true x9
    have F0 := T.F_Bank_take
    have CF0 : CodeFun K "take" "Bank.take" s_Bank_take T.a_Bank_take T.d_Bank_take (He.cT K ("Bank", some "take")).1 := by
      rw [l_Bank_take] at F0 ⊢
      exact codeFun_of F0
    have M0 : ((He.cT K ("Bank", some "take")).2, lamTake) ∈ hdTt K := (List.mem_cons_self ..)
    have GL0 := ok_Bank_take (P := PySem.Challenge.rw_neatbooks_k08_whole_texts_of_terms_sign.prog) (w := w) (base := base) T (hdTt K) _ _ CF0 (TB _ (List.mem_cons_self ..)) M0 (hu_all tnd _ M0)
    exact ok_law T _ GL0 (fun H a dx fs e => by rw [c_Lore] at e ⊢; exact ins_ok x1 (by rw [← c_Lore]; exact T.cl_Lore) H a dx fs e) (by rw [c_Lore]; exact of_decide_eq_true x8)
end NB
open PySem PySem.W PySem.Calls PyProof.Rows
theorem PySem.Challenge.cw_neatbooks_k08_whole_texts_of_terms_sign_holds : PySem.Challenge.rw_neatbooks_k08_whole_texts_of_terms_sign.Holds := by
  w_on; o_law
  refine HandSHeadRun.head_any (r := OpenLaw.row PySem.Challenge.rw_neatbooks_k08_whole_texts_of_terms_sign) (q := view (OpenLaw.row PySem.Challenge.rw_neatbooks_k08_whole_texts_of_terms_sign).prog [47]) (H := NB.hdK) (ob := NB.hdOb) (M := 20000) (loose := NB.hdLoose) (d := HandSHeadRun.topDef (OpenLaw.row PySem.Challenge.rw_neatbooks_k08_whole_texts_of_terms_sign).prog 47) (kwd := []) NB.hdOb_eq
    (by kernel_rfl) (fun s => by kernel_rfl) NB.hdRun (by kernel_rfl) (by kernel_rfl) (by kernel_rfl) (by rfl) (by first | assumption | decide +kernel) (by decide +kernel) ⟨rfl, rfl, rfl, rfl, rfl, by decide +kernel⟩ ?hw ?hc
  case hw => w_witness2
  case hc =>
    refine NB.walk_G (l := PySem.Challenge.rw_neatbooks_k08_whole_texts_of_terms_sign) (n := 63) (k := 43) (x := "_law_script") (CX := fun _ => L2.CX0) rfl (by decide) (by kernel_rfl) ⟨rfl, by decide, by decide⟩ ?F (fun _ _ _ _ _ z => z)
    intro w mg fa h Y G hmg0
    obtain ⟨K, KX, c⟩ := Y
    have hmg : mg ("law" : PySem.Str) = some (.ref fa) := by
      have e : (HandSHeadRun.topDef (OpenLaw.row PySem.Challenge.rw_neatbooks_k08_whole_texts_of_terms_sign).prog 47).name = ("law" : PySem.Str) := by kernel_rfl
      rw [← e]
      exact hmg0
    exact ⟨K, KX, NB.hd_law KX G hmg c⟩

